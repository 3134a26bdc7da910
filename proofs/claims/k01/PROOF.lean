import PyProof.Rows.All
import Wide.All
import OpenK.AllK
import Wide.FinOn
import HandS.ForMost
import HandS.ForExc
import HandS.Gcd
import HandS.Wide
import HandS.WideMore
import HandS.IsInst
import HandS.ExcIs
import HandS.Style
import HandS.Zip
import HandS.FStr
import HandS.Flow
import HandS.Deep
import HandS.List
import HandS.ExcInit
import HandS.ExcField
import HandS.Star
import HandS.SetFor
import HandS.Strs
import HandS.ClsMeth
import HandS.CallLocal
import HandS.Flt
import HandS.Conv
import KE.GoesMore
import KE.GoesEnum
import PySem.Challenge.RW_fineststep_k01_frames_and_other_side
import Open.SpecLaws
set_option Elab.async false
set_option linter.all false
set_option maxRecDepth 100000
set_option maxHeartbeats 4000000
set_option Elab.async false
set_option linter.all false
set_option maxRecDepth 100000
set_option maxHeartbeats 4000000
/-! A layer of data: what an expression is worth, a def at a time, over the hand layer. -/
namespace DL
open PySem PySem.Spec PyProof.Rows L2

/-! ### what a value is worth, by a heap that only grows -/
structure Rep where
  P : Hp → V → Prop
  mono : ∀ {F F' : Hp} {v : V}, Same F F' → P F v → P F' v
def RL (F : Hp) (l : List Rep) (vs : List V) : Prop := Paired (fun (r : Rep) v => r.P F v) l vs
theorem RL.mono {F F' : Hp} (s : Same F F') : ∀ {l : List Rep} {vs : List V}, RL F l vs → RL F' l vs
  | _, _, .nil => .nil
  | _, _, .cons h t => .cons (Rep.mono _ s h) (RL.mono s t)
theorem RL.len {F : Hp} {l : List Rep} {vs : List V} (h : RL F l vs) : l.length = vs.length := Paired.length h
theorem RL.get {F : Hp} : ∀ {l : List Rep} {vs : List V} {i : Nat} {r : Rep}, RL F l vs → l[i]? = some r → ∃ v, vs[i]? = some v ∧ r.P F v
  | _, _, _, _, .nil, e => by simp at e
  | _, _, 0, _, .cons h _, e => by simp at e; subst e; exact ⟨_, rfl, h⟩
  | _, _, i + 1, r, .cons _ t, e => by
    obtain ⟨v, h1, h2⟩ := RL.get (i := i) (r := r) t (by simpa using e)
    exact ⟨v, by simpa using h1, h2⟩
theorem RL.got {F : Hp} : ∀ {l : List Rep} {vs : List V} {i : Nat} {v : V}, RL F l vs → vs[i]? = some v → ∃ r, l[i]? = some r ∧ r.P F v
  | _, _, _, _, .nil, e => by simp at e
  | _, _, 0, _, .cons h _, e => by simp at e; subst e; exact ⟨_, rfl, h⟩
  | _, _, i + 1, v, .cons _ t, e => by
    obtain ⟨r, h1, h2⟩ := RL.got (i := i) (v := v) t (by simpa using e)
    exact ⟨r, by simpa using h1, h2⟩
theorem RL.app {F : Hp} : ∀ {l m : List Rep} {vs ws : List V}, RL F l vs → RL F m ws → RL F (l ++ m) (vs ++ ws)
  | _, _, _, _, .nil, s => s
  | _, _, _, _, .cons h t, s => .cons h (RL.app t s)
theorem RL.take {F : Hp} : ∀ {l : List Rep} {vs : List V} (n : Nat), RL F l vs → RL F (l.take n) (vs.take n)
  | _, _, 0, _ => .nil
  | _, _, _ + 1, .nil => .nil
  | _, _, n + 1, .cons h t => .cons h (RL.take n t)
theorem RL.drop {F : Hp} : ∀ {l : List Rep} {vs : List V} (n : Nat), RL F l vs → RL F (l.drop n) (vs.drop n)
  | _, _, 0, r => r
  | _, _, _ + 1, .nil => .nil
  | _, _, n + 1, .cons _ t => RL.drop n t
theorem RL.set {F : Hp} {r : Rep} {v : V} (h : r.P F v) : ∀ {l : List Rep} {vs : List V} (i : Nat), RL F l vs → RL F (l.set i r) (vs.set i v)
  | _, _, _, .nil => .nil
  | _, _, 0, .cons _ t => .cons h t
  | _, _, i + 1, .cons q t => .cons q (RL.set h i t)
theorem RL.snoc {F : Hp} {l : List Rep} {vs : List V} {r : Rep} {v : V} (h : RL F l vs) (q : r.P F v) : RL F (l ++ [r]) (vs ++ [v]) := h.app (.cons q .nil)

def rC (v : V) : Rep := ⟨fun _ x => x = v, fun _ h => h⟩
abbrev rInt (i : Int) : Rep := rC (.int i)
abbrev rBl (b : Bool) : Rep := rC (.bl b)
abbrev rStr (s : Str) : Rep := rC (.str s)
abbrev rNon : Rep := rC .non
theorem sqt_mono {K : PySem.W.Frag} {H H' : Hp} {a : Addr} {xs : List V} (e : Same H H') (h : SqT K H a xs) : SqT K H' a xs := by
  rcases h with (h | ⟨o, h⟩) | h
  · exact .inl (.inl (e _ _ h))
  · exact .inl (.inr ⟨o, e _ _ h⟩)
  · exact .inr h
def rTup (K : PySem.W.Frag) (l : List Rep) : Rep := ⟨fun F x => ∃ a vs, x = .ref a ∧ SqT K F a vs ∧ RL F l vs, fun s ⟨a, vs, e, h, q⟩ => ⟨a, vs, e, sqt_mono s h, q.mono s⟩⟩
def rLst (K : PySem.W.Frag) (l : List Rep) : Rep := ⟨fun F x => ∃ a vs, x = .ref a ∧ SqL K F a vs ∧ RL F l vs, fun s ⟨a, vs, e, h, q⟩ => ⟨a, vs, e, s.seq h, q.mono s⟩⟩
/-- a number: a whole one, or a pair in lowest terms -/
def rNum (K : PySem.W.Frag) (q : Rat) : Rep := if q.den = 1 then rInt q.num else rTup K [rInt q.num, rInt (q.den : Int)]
/-- one is worth what the other is worth -/
def Sub (r r' : Rep) : Prop := ∀ F v, r.P F v → r'.P F v
theorem Sub.rfl {r : Rep} : Sub r r := fun _ _ h => h
theorem Sub.of {r r' : Rep} (e : r = r') : Sub r r' := e ▸ Sub.rfl
theorem Sub.trans {a b c : Rep} (h : Sub a b) (k : Sub b c) : Sub a c := fun F v q => k F v (h F v q)

/-! ### growth: F the part that stands still, H the heap -/
structure Gr (F H F' H' : Hp) : Prop where
  f : Same F F'
  h : Same H H'
  s : Same F' H'
  n : ∀ a, H a ≠ none → F a = none → F' a = none
theorem Gr.refl {F H : Hp} (s : Same F H) : Gr F H F H := ⟨Same.refl _, Same.refl _, s, fun _ _ h => h⟩
theorem Gr.trans {F H F1 H1 F2 H2 : Hp} (a : Gr F H F1 H1) (b : Gr F1 H1 F2 H2) : Gr F H F2 H2 :=
  ⟨a.f.trans b.f, a.h.trans b.h, b.s, fun x h e => b.n x (fun z => h (a.h.free z)) (a.n x h e)⟩
theorem same_new {H : Hp} {p : Addr} {o : HO} (h : H p = none) : Same H (upd H p o) := fun b x e => by
  rw [upd_ne (ne_of_none e h)]
  exact e
theorem same_upd2 {F H : Hp} {p : Addr} {o : HO} (s : Same F H) : Same (upd F p o) (upd H p o) := fun b x e => by
  by_cases hb : b = p
  · subst hb
    rw [upd_same] at e ⊢
    exact e
  · rw [upd_ne hb] at e ⊢
    exact s _ _ e
theorem same_out {F H : Hp} {p : Addr} {o : HO} (s : Same F H) (h : F p = none) : Same F (upd H p o) := fun b x e => by
  rw [upd_ne (ne_of_none e h)]
  exact s _ _ e
/-- a new thing that stands still -/
theorem Gr.new {F H : Hp} {p : Addr} {o : HO} (s : Same F H) (h : H p = none) : Gr F H (upd F p o) (upd H p o) :=
  ⟨same_new (s.free h), same_new h, same_upd2 s, fun a ha e => by
    have hp : a ≠ p := fun z => ha (z ▸ h)
    rw [upd_ne hp]
    exact e⟩
/-- a new thing of one's own -/
theorem Gr.newOwn {F H : Hp} {p : Addr} {o : HO} (s : Same F H) (h : H p = none) : Gr F H F (upd H p o) :=
  ⟨Same.refl _, same_new h, same_out s (s.free h), fun _ _ e => e⟩

/-! ### what the slots hold -/
inductive Sl where
  | any
  | im (r : Rep)
  | ow (l : List Rep)
def Sl.ok (F H : Hp) : Sl → Option V → Prop
  | .any, _ => True
  | .im r, x => ∃ v, x = some v ∧ r.P F v
  | .ow l, x => ∃ p vs, x = some (.ref p) ∧ F p = none ∧ H p = some (.lst vs) ∧ RL F l vs
structure En (F0 H0 F H : Hp) (σ : L2.St) (Γ : List Sl) : Prop where
  gr : Gr F0 H0 F H
  len : Γ.length = σ.length
  ok : ∀ (i : Nat) (s : Sl) (x : Option V), Γ[i]? = some s → σ[i]? = some x → s.ok F H x
  own : ∀ (i : Nat) (p : Addr) (l : List Rep), Γ[i]? = some (.ow l) → σ[i]? = some (some (.ref p)) → H0 p = none
  sep : ∀ (i j : Nat) (p : Addr) (l l' : List Rep), Γ[i]? = some (.ow l) → Γ[j]? = some (.ow l') → σ[i]? = some (some (.ref p)) → σ[j]? = some (some (.ref p)) → i = j
section
variable {F0 H0 F H F' H' : Hp} {σ : L2.St} {Γ : List Sl} {i : Nat} {r : Rep} {l : List Rep} {v : V} {vs : List V} {p : Addr}
theorem En.at (e : En F0 H0 F H σ Γ) {s : Sl} (h : Γ[i]? = some s) : ∃ x, σ[i]? = some x ∧ s.ok F H x := by
  have hi : i < Γ.length := (List.getElem?_eq_some_iff.mp h).1
  have hj : i < σ.length := e.len ▸ hi
  exact ⟨σ[i], List.getElem?_eq_getElem hj, e.ok i s _ h (List.getElem?_eq_getElem hj)⟩
theorem En.im (e : En F0 H0 F H σ Γ) (h : Γ[i]? = some (.im r)) : ∃ v, σ[i]? = some (some v) ∧ r.P F v := by
  obtain ⟨x, h1, v, h2, h3⟩ := e.at h
  exact ⟨v, h2 ▸ h1, h3⟩
theorem En.ow (e : En F0 H0 F H σ Γ) (h : Γ[i]? = some (.ow l)) : ∃ p vs, σ[i]? = some (some (.ref p)) ∧ F p = none ∧ H p = some (.lst vs) ∧ RL F l vs ∧ H0 p = none := by
  obtain ⟨x, h1, p, vs, h2, h3, h4, h5⟩ := e.at h
  subst h2
  exact ⟨p, vs, h1, h3, h4, h5, e.own i p l h h1⟩
theorem En.grow (e : En F0 H0 F H σ Γ) (g : Gr F H F' H') : En F0 H0 F' H' σ Γ where
  gr := e.gr.trans g
  len := e.len
  ok i s x h1 h2 := by
    have q := e.ok i s x h1 h2
    cases s with
    | any => trivial
    | im r =>
      obtain ⟨v, a, b⟩ := q
      exact ⟨v, a, r.mono g.f b⟩
    | ow l =>
      obtain ⟨p, vs, a, b, c, d⟩ := q
      exact ⟨p, vs, a, g.n p (by rw [c]; exact fun z => nomatch z) b, g.h _ _ c, d.mono g.f⟩
  own := e.own
  sep := e.sep
theorem get_set {α : Type} {l : List α} {i j : Nat} {x y : α} (h : (l.set i x)[j]? = some y) : (i = j ∧ y = x) ∨ (i ≠ j ∧ l[j]? = some y) := by
  by_cases hi : i = j
  · subst hi
    have hl : i < l.length := by
      have := (List.getElem?_eq_some_iff.mp h).1
      simpa using this
    rw [List.getElem?_set_self hl] at h
    exact .inl ⟨rfl, (Option.some.inj h).symm⟩
  · rw [List.getElem?_set_ne hi] at h
    exact .inr ⟨hi, h⟩
theorem En.setIm (e : En F0 H0 F H σ Γ) (h : r.P F v) : En F0 H0 F H (σ.set i (some v)) (Γ.set i (.im r)) where
  gr := e.gr
  len := by simpa using e.len
  ok j s x h1 h2 := by
    rcases get_set h1 with ⟨rfl, rfl⟩ | ⟨n, h1⟩
    · rcases get_set h2 with ⟨_, rfl⟩ | ⟨n, _⟩
      · exact ⟨v, rfl, h⟩
      · exact absurd rfl n
    · rcases get_set h2 with ⟨z, _⟩ | ⟨_, h2⟩
      · exact absurd z n
      · exact e.ok j s x h1 h2
  own j p l h1 h2 := by
    rcases get_set h1 with ⟨_, z⟩ | ⟨n, h1⟩
    · cases z
    · rcases get_set h2 with ⟨z, _⟩ | ⟨_, h2⟩
      · exact absurd z n
      · exact e.own j p l h1 h2
  sep j k p l l' h1 h1' h2 h2' := by
    rcases get_set h1 with ⟨_, z⟩ | ⟨n, h1⟩
    · cases z
    rcases get_set h1' with ⟨_, z⟩ | ⟨n', h1'⟩
    · cases z
    rw [List.getElem?_set_ne n] at h2
    rw [List.getElem?_set_ne n'] at h2'
    exact e.sep j k p l l' h1 h1' h2 h2'
theorem En.setAny (e : En F0 H0 F H σ Γ) (x : Option V) : En F0 H0 F H (σ.set i x) (Γ.set i .any) where
  gr := e.gr
  len := by simpa using e.len
  ok j s y h1 h2 := by
    rcases get_set h1 with ⟨rfl, rfl⟩ | ⟨n, h1⟩
    · trivial
    · rcases get_set h2 with ⟨z, _⟩ | ⟨_, h2⟩
      · exact absurd z n
      · exact e.ok j s y h1 h2
  own j p l h1 h2 := by
    rcases get_set h1 with ⟨_, z⟩ | ⟨n, h1⟩
    · cases z
    · rcases get_set h2 with ⟨z, _⟩ | ⟨_, h2⟩
      · exact absurd z n
      · exact e.own j p l h1 h2
  sep j k p l l' h1 h1' h2 h2' := by
    rcases get_set h1 with ⟨_, z⟩ | ⟨n, h1⟩
    · cases z
    rcases get_set h1' with ⟨_, z⟩ | ⟨n', h1'⟩
    · cases z
    rw [List.getElem?_set_ne n] at h2
    rw [List.getElem?_set_ne n'] at h2'
    exact e.sep j k p l l' h1 h1' h2 h2'
/-- a list of one's own, that no slot holds -/
theorem En.setOw (e : En F0 H0 F H σ Γ) (hF : F p = none) (hH : H p = some (.lst vs)) (hr : RL F l vs) (h0 : H0 p = none) (hn : ∀ (j : Nat) (l' : List Rep), Γ[j]? = some (.ow l') → σ[j]? ≠ some (some (.ref p))) :
    En F0 H0 F H (σ.set i (some (.ref p))) (Γ.set i (.ow l)) where
  gr := e.gr
  len := by simpa using e.len
  ok j s x h1 h2 := by
    rcases get_set h1 with ⟨rfl, rfl⟩ | ⟨n, h1⟩
    · rcases get_set h2 with ⟨_, rfl⟩ | ⟨n, _⟩
      · exact ⟨p, vs, rfl, hF, hH, hr⟩
      · exact absurd rfl n
    · rcases get_set h2 with ⟨z, _⟩ | ⟨_, h2⟩
      · exact absurd z n
      · exact e.ok j s x h1 h2
  own j q l h1 h2 := by
    rcases get_set h2 with ⟨rfl, z⟩ | ⟨n, h2⟩
    · cases z
      exact h0
    · rcases get_set h1 with ⟨z, _⟩ | ⟨_, h1⟩
      · exact absurd z n
      · exact e.own j q l h1 h2
  sep j k q l1 l2 h1 h1' h2 h2' := by
    rcases get_set h2 with ⟨rfl, z⟩ | ⟨n, h2⟩
    · cases z
      rcases get_set h2' with ⟨rfl, _⟩ | ⟨n', h2'⟩
      · rfl
      · rcases get_set h1' with ⟨z, _⟩ | ⟨_, h1'⟩
        · exact z
        · exact absurd h2' (hn k l2 h1')
    · rcases get_set h1 with ⟨z, _⟩ | ⟨_, h1⟩
      · exact absurd z n
      rcases get_set h2' with ⟨rfl, z⟩ | ⟨n', h2'⟩
      · cases z
        exact absurd h2 (hn j l1 h1)
      · rcases get_set h1' with ⟨z, _⟩ | ⟨_, h1'⟩
        · exact absurd z n'
        · exact e.sep j k q l1 l2 h1 h1' h2 h2'
/-- a list of one's own is written anew -/
theorem En.put (e : En F0 H0 F H σ Γ) (h : Γ[i]? = some (.ow l)) (hs : σ[i]? = some (some (.ref p))) {l' : List Rep} {ws : List V} (hr : RL F l' ws) : En F0 H0 F (upd H p (.lst ws)) σ (Γ.set i (.ow l')) := by
  obtain ⟨p', vs', h1, h2, h3, h4, h5⟩ := e.ow h
  rw [hs] at h1
  cases h1
  exact {
    gr := ⟨e.gr.f, fun b o z => by rw [upd_ne (ne_of_none z h5)]; exact e.gr.h b o z, same_out e.gr.s h2, e.gr.n⟩
    len := by simpa using e.len
    ok := fun j s x k1 k2 => by
      rcases get_set k1 with ⟨rfl, rfl⟩ | ⟨n, k1⟩
      · rw [hs] at k2
        cases k2
        exact ⟨p, ws, rfl, h2, upd_same, hr⟩
      · have q := e.ok j s x k1 k2
        cases s with
        | any => trivial
        | im r => exact q
        | ow m =>
          obtain ⟨p2, ws2, a, b, c, d⟩ := q
          subst a
          refine ⟨p2, ws2, rfl, b, ?_, d⟩
          have hp : p2 ≠ p := fun z => n (e.sep i j p l m h k1 hs (z ▸ k2))
          rw [upd_ne hp]
          exact c
    own := fun j q m k1 k2 => by
      rcases get_set k1 with ⟨rfl, _⟩ | ⟨n, k1⟩
      · rw [hs] at k2
        cases k2
        exact h5
      · exact e.own j q m k1 k2
    sep := fun j k q m m' k1 k1' k2 k2' => by
      have g : ∀ {j : Nat} {m : List Rep}, (Γ.set i (.ow l'))[j]? = some (.ow m) → ∃ m1, Γ[j]? = some (.ow m1) := fun {j m} k1 => by
        rcases get_set k1 with ⟨rfl, _⟩ | ⟨n, k1⟩
        · exact ⟨l, h⟩
        · exact ⟨m, k1⟩
      obtain ⟨m1, k1⟩ := g k1
      obtain ⟨m2, k1'⟩ := g k1'
      exact e.sep j k q m1 m2 k1 k1' k2 k2' }
/-- a list of one's own stands still from now on -/
theorem En.freeze {K : PySem.W.Frag} (e : En F0 H0 F H σ Γ) (h : Γ[i]? = some (.ow l)) : ∃ F', Same F F' ∧ Same F' H ∧ En F0 H0 F' H σ (Γ.set i (.im (rLst K l))) := by
  obtain ⟨p, vs, h1, h2, h3, h4, h5⟩ := e.ow h
  have s1 : Same F (upd F p (.lst vs)) := same_new h2
  have s2 : Same (upd F p (.lst vs)) H := fun b o z => by
    by_cases hb : b = p
    · subst hb
      rw [upd_same] at z
      rw [h3, ← z]
    · rw [upd_ne hb] at z
      exact e.gr.s b o z
  have nn : ∀ {j : Nat} {q : Addr} {m : List Rep}, j ≠ i → Γ[j]? = some (.ow m) → σ[j]? = some (some (.ref q)) → q ≠ p := fun {j q m} hj k1 k2 z => hj (e.sep j i p m l k1 h (z ▸ k2) h1)
  refine ⟨upd F p (.lst vs), s1, s2, ?_⟩
  exact {
    gr := ⟨e.gr.f.trans s1, e.gr.h, s2, fun a ha z => by
      have hp : a ≠ p := fun y => ha (y ▸ h5)
      rw [upd_ne hp]
      exact e.gr.n a ha z⟩
    len := by simpa using e.len
    ok := fun j s x k1 k2 => by
      rcases get_set k1 with ⟨rfl, rfl⟩ | ⟨n, k1⟩
      · rw [h1] at k2
        cases k2
        exact ⟨.ref p, rfl, p, vs, rfl, SqL.of upd_same, h4.mono s1⟩
      · have q := e.ok j s x k1 k2
        cases s with
        | any => trivial
        | im r =>
          obtain ⟨v, a, b⟩ := q
          exact ⟨v, a, r.mono s1 b⟩
        | ow m =>
          obtain ⟨p2, ws2, a, b, c, d⟩ := q
          subst a
          refine ⟨p2, ws2, rfl, ?_, c, d.mono s1⟩
          rw [upd_ne (nn (Ne.symm n) k1 k2)]
          exact b
    own := fun j q m k1 k2 => by
      rcases get_set k1 with ⟨_, z⟩ | ⟨n, k1⟩
      · cases z
      · exact e.own j q m k1 k2
    sep := fun j k q m m' k1 k1' k2 k2' => by
      rcases get_set k1 with ⟨_, z⟩ | ⟨n, k1⟩
      · cases z
      rcases get_set k1' with ⟨_, z⟩ | ⟨n', k1'⟩
      · cases z
      exact e.sep j k q m m' k1 k1' k2 k2' }
end
/-! ### slots of which less is known -/
inductive SlLe : List Sl → List Sl → Prop
  | nil : SlLe [] []
  | any {s : Sl} {Γ Γ' : List Sl} : SlLe Γ Γ' → SlLe (s :: Γ) (.any :: Γ')
  | same {s : Sl} {Γ Γ' : List Sl} : SlLe Γ Γ' → SlLe (s :: Γ) (s :: Γ')
  | im {r r' : Rep} {Γ Γ' : List Sl} (h : Sub r r') : SlLe Γ Γ' → SlLe (.im r :: Γ) (.im r' :: Γ')
  | ow {l l' : List Rep} {Γ Γ' : List Sl} (h : l = l') : SlLe Γ Γ' → SlLe (.ow l :: Γ) (.ow l' :: Γ')
theorem SlLe.len : ∀ {Γ Γ' : List Sl}, SlLe Γ Γ' → Γ.length = Γ'.length
  | _, _, .nil => rfl
  | _, _, .any h => congrArg (· + 1) h.len
  | _, _, .same h => congrArg (· + 1) h.len
  | _, _, .im _ h => congrArg (· + 1) h.len
  | _, _, .ow _ h => congrArg (· + 1) h.len
theorem SlLe.rfl : ∀ {Γ : List Sl}, SlLe Γ Γ
  | [] => .nil
  | _ :: _ => .same SlLe.rfl
theorem SlLe.at : ∀ {Γ Γ' : List Sl}, SlLe Γ Γ' → ∀ {i : Nat} {s' : Sl}, Γ'[i]? = some s' → ∃ s, Γ[i]? = some s ∧ (s = s' ∨ s' = .any ∨ (∃ r r', s = .im r ∧ s' = .im r' ∧ Sub r r'))
  | _, _, .nil, i, s', h => by simp at h
  | _, _, .any h, 0, s', e => by simp at e; subst e; exact ⟨_, _root_.rfl, .inr (.inl _root_.rfl)⟩
  | _, _, .same h, 0, s', e => by simp at e; subst e; exact ⟨_, _root_.rfl, .inl _root_.rfl⟩
  | _, _, .im k h, 0, s', e => by simp at e; subst e; exact ⟨_, _root_.rfl, .inr (.inr ⟨_, _, _root_.rfl, _root_.rfl, k⟩)⟩
  | _, _, .ow k h, 0, s', e => by simp at e; subst e; exact ⟨_, _root_.rfl, .inl (by rw [k])⟩
  | _, _, .any h, i + 1, s', e => by simpa using h.at (i := i) (by simpa using e)
  | _, _, .same h, i + 1, s', e => by simpa using h.at (i := i) (by simpa using e)
  | _, _, .im k h, i + 1, s', e => by simpa using h.at (i := i) (by simpa using e)
  | _, _, .ow k h, i + 1, s', e => by simpa using h.at (i := i) (by simpa using e)
theorem En.le {F0 H0 F H : Hp} {σ : L2.St} {Γ Γ' : List Sl} (e : En F0 H0 F H σ Γ) (h : SlLe Γ Γ') : En F0 H0 F H σ Γ' where
  gr := e.gr
  len := by rw [← h.len]; exact e.len
  ok i s' x h1 h2 := by
    obtain ⟨s, k1, k2⟩ := h.at h1
    have q := e.ok i s x k1 h2
    rcases k2 with rfl | rfl | ⟨r, r', rfl, rfl, hs⟩
    · exact q
    · trivial
    · obtain ⟨v, a, b⟩ := q
      exact ⟨v, a, hs F v b⟩
  own i p l h1 h2 := by
    obtain ⟨s, k1, k2⟩ := h.at h1
    rcases k2 with rfl | z | ⟨r, r', rfl, z, hs⟩
    · exact e.own i p l k1 h2
    · cases z
    · cases z
  sep i j p l l' h1 h1' h2 h2' := by
    obtain ⟨s, k1, k2⟩ := h.at h1
    obtain ⟨s', k1', k2'⟩ := h.at h1'
    rcases k2 with rfl | z | ⟨r, r', rfl, z, hs⟩
    · rcases k2' with rfl | z | ⟨r, r', rfl, z, hs⟩
      · exact e.sep i j p l l' k1 k1' h2 h2'
      · cases z
      · cases z
    · cases z
    · cases z
end DL

set_option Elab.async false
set_option linter.all false
set_option maxRecDepth 100000
set_option maxHeartbeats 4000000
namespace DL
open PySem PySem.Spec PyProof.Rows L2

/-! ### what is asked of an expression, a test, an argument list, a block -/
def EV (X : Cx) (e : Expr) (σ : L2.St) (H : Hp) (Q : VK) : Prop := ∀ (pins : List (Addr × Obj)) (s : Shared), Inv X pins σ H s → wpAny (model X.prog X.w) X.A (eval e X.env) (EP X pins σ Q) X.xe s
def TV (X : Cx) (e : Expr) (σ : L2.St) (H : Hp) (Q : Bool → Hp → Prop) : Prop := ∀ (pins : List (Addr × Obj)) (s : Shared), Inv X pins σ H s → wpAny (model X.prog X.w) X.A (isTrue e X.env (eval e X.env)) (TP X pins σ Q) X.xe s
def WV (X : Cx) (e : Expr) (σ : L2.St) (H : Hp) (Q : Bool → Hp → Prop) : Prop := ∀ (whole : Sem Value) (pins : List (Addr × Obj)) (s : Shared), Inv X pins σ H s → wpAny (model X.prog X.w) X.A (isTrue e X.env whole) (TP X pins σ Q) X.xe s
def AV (X : Cx) (es : List Expr) (σ : L2.St) (H : Hp) (Q : List V → Hp → Prop) : Prop := ∀ (pos : Pos) (pins : List (Addr × Obj)) (s : Shared), Inv X pins σ H s → wpAny (model X.prog X.w) X.A (spliced (backTo pos (starEach es X.env))) (AP X pins σ Q) X.xe s
def XS (X : Cx) (st : List Stmt) (D : Ends) (σ : L2.St) (H : Hp) : Prop := ∀ (pins : List (Addr × Obj)) (s : Shared), Inv X pins σ H s → wpAny (model X.prog X.w) X.A (execs st X.env) (SP X pins D) X.xe s
section
variable {X : Cx} {e : Expr} {es : List Expr} {st : List Stmt} {σ : L2.St} {H : Hp}
theorem pe_ev : PE X e (EV X e) := ⟨fun pins s σ H Q I h => h pins s I⟩
theorem pt_ev : PT X e (TV X e) := ⟨fun pins s σ H Q I h => h pins s I⟩
theorem pw_ev : PW X e (WV X e) := ⟨fun whole pins s σ H Q I h => h whole pins s I⟩
theorem pa_ev : PA X es (AV X es) := ⟨fun pos pins s σ H Q I h => h pos pins s I⟩
theorem pss_ev : PSs X st (XS X st) := ⟨fun pins s σ H D I h => h pins s I⟩
theorem EV.of {te : TE} {Q : VK} (h : PE X e te) (q : te σ H Q) : EV X e σ H Q := fun pins s I => h.run pins s σ H Q I q
theorem TV.of {te : TT} {Q : Bool → Hp → Prop} (h : PT X e te) (q : te σ H Q) : TV X e σ H Q := fun pins s I => h.run pins s σ H Q I q
theorem WV.of {te : TT} {Q : Bool → Hp → Prop} (h : PW X e te) (q : te σ H Q) : WV X e σ H Q := fun whole pins s I => h.run whole pins s σ H Q I q
theorem AV.of {te : TA} {Q : List V → Hp → Prop} (h : PA X es te) (q : te σ H Q) : AV X es σ H Q := fun pos pins s I => h.run pos pins s σ H Q I q
theorem XS.of {te : TS} {D : Ends} (h : PSs X st te) (q : te D σ H) : XS X st D σ H := fun pins s I => h.run pins s σ H D I q
end

/-- where a def's body runs: its names, its scope, the room -/
structure BX (X : Cx) (N : List Str) (sc : Scope) (k : Nat) : Prop where
  hN : X.N = N
  hsc : X.env.scope = sc
  nd : N.Nodup
  room : Room k X.A
  calm : X.calm = true
  own : PassesOwn (model X.prog X.w) X.A X.env X.xe

/-- the values -/
def DE (X : Cx) (Γ : List Sl) (e : Expr) (r : Rep) : Prop := ∀ F0 H0 F H σ, En F0 H0 F H σ Γ → ∀ Q : VK, (∀ v F' H', Gr F H F' H' → r.P F' v → Q v H') → EV X e σ H Q
def DA (X : Cx) (Γ : List Sl) (es : List Expr) (rs : List Rep) : Prop := ∀ F0 H0 F H σ, En F0 H0 F H σ Γ → ∀ Q : List V → Hp → Prop, (∀ vs F' H', Gr F H F' H' → RL F' rs vs → Q vs H') → AV X es σ H Q
/-- a new list of one's own -/
def DL (X : Cx) (Γ : List Sl) (e : Expr) (l : List Rep) : Prop := ∀ F0 H0 F H σ, En F0 H0 F H σ Γ → ∀ Q : VK, (∀ p vs F' H', Gr F H F' H' → H p = none → F' p = none → H' p = some (.lst vs) → RL F' l vs → Q (.ref p) H') → EV X e σ H Q
def DT (X : Cx) (Γ : List Sl) (e : Expr) (b : Bool) : Prop := ∀ F0 H0 F H σ, En F0 H0 F H σ Γ → ∀ Q : Bool → Hp → Prop, (∀ F' H', Gr F H F' H' → Q b H') → TV X e σ H Q
def DW (X : Cx) (Γ : List Sl) (e : Expr) (b : Bool) : Prop := ∀ F0 H0 F H σ, En F0 H0 F H σ Γ → ∀ Q : Bool → Hp → Prop, (∀ F' H', Gr F H F' H' → Q b H') → WV X e σ H Q

section
variable {X : Cx} {N : List Str} {sc : Scope} {k : Nat} {Γ : List Sl} {a b c e : Expr} {es rest : List Expr} {r ra rb rc r' : Rep} {rs l : List Rep} {pos p : Pos} {x : Str}
theorem DE.sub (h : DE X Γ e r) (s : Sub r r') : DE X Γ e r' := fun F0 H0 F H σ en Q q => h F0 H0 F H σ en Q fun v F' H' g hv => q v F' H' g (s F' v hv)
theorem DE.to (h : DE X Γ e r) (s : r = r') : DE X Γ e r' := s ▸ h
theorem DT.to {b b' : Bool} (h : DT X Γ e b) (s : b = b') : DT X Γ e b' := s ▸ h
theorem DL.to {l l' : List Rep} (h : DL X Γ e l) (s : l = l') : DL X Γ e l' := s ▸ h
theorem DL.froz (h : DL X Γ e l) : DE X Γ e (rLst X.K l) := fun F0 H0 F H σ en Q q => h F0 H0 F H σ en Q fun p vs F' H' g h1 h2 h3 h4 =>
  q (.ref p) (upd F' p (.lst vs)) H' ⟨g.f.trans (same_new h2), g.h, fun b o z => by
    by_cases hb : b = p
    · subst hb
      rw [upd_same] at z
      rw [h3, ← z]
    · rw [upd_ne hb] at z
      exact g.s b o z, fun a ha z => by
    have hp : a ≠ p := fun y => ha (y ▸ h1)
    rw [upd_ne hp]
    exact g.n a ha z⟩ ⟨p, vs, rfl, SqL.of upd_same, h4.mono (same_new h2)⟩
theorem de_var (B : BX X N sc k) {i : Nat} (hΓ : Γ[i]? = some (.im r)) (hN : N[i]? = some x) (hv : Vis sc x) (hd : (x == ("__debug__" : Str)) = false := by decide) (hcd : (x == ("__classdict__" : Str)) = false := by decide) : DE X Γ (.Name x pos) r := fun F0 H0 F H σ en Q q => by
  obtain ⟨v, h1, h2⟩ := en.im hΓ
  exact .of (pe_var (i := i) (B.hN ▸ hN) (B.hsc ▸ hv) hd hcd) ⟨v, h1, q v F H (.refl en.gr.s) h2⟩
theorem de_int {i : Int} {j : Nat} : DE X Γ (.Constant (.int i) j pos) (rInt i) := fun F0 H0 F H σ en Q q => .of pe_int (q _ F H (.refl en.gr.s) rfl)
theorem de_bl {i : Bool} {j : Nat} : DE X Γ (.Constant (.bool i) j pos) (rBl i) := fun F0 H0 F H σ en Q q => .of pe_bl (q _ F H (.refl en.gr.s) rfl)
theorem de_non {j : Nat} : DE X Γ (.Constant .none j pos) rNon := fun F0 H0 F H σ en Q q => .of pe_non (q _ F H (.refl en.gr.s) rfl)
theorem de_str {s : Str} {j : Nat} : DE X Γ (.Constant (.str s) j pos) (rStr s) := fun F0 H0 F H σ en Q q => .of pe_str (q _ F H (.refl en.gr.s) rfl)
/-- an operator by values -/
def B2 (r2 : R2) (ra rb rc : Rep) : Prop := ∀ F H x y, Same F H → ra.P F x → rb.P F y → ∀ Q : VK, (∀ v F' H', Gr F H F' H' → rc.P F' v → Q v H') → r2 x y H Q
theorem two {r2 : R2} (ha : DE X Γ a ra) (hb : DE X Γ b rb) (h2 : B2 r2 ra rb rc) {F0 H0 F H : Hp} {σ : L2.St} (en : En F0 H0 F H σ Γ) {Q : VK} (q : ∀ v F' H', Gr F H F' H' → rc.P F' v → Q v H') :
    tOp r2 (EV X a) (EV X b) σ H Q :=
  ha F0 H0 F H σ en _ fun v F1 H1 g1 h1 => hb F0 H0 F1 H1 σ (en.grow g1) _ fun u F2 H2 g2 k2 => h2 F2 H2 v u g2.s (ra.mono g2.f h1) k2 Q fun z F3 H3 g3 h3 => q z F3 H3 ((g1.trans g2).trans g3) h3
theorem de_op {op : Operator} {r2 : R2} (ho : OpR X (binaryOp op) r2) (h2 : B2 r2 ra rb rc) (ha : DE X Γ a ra) (hb : DE X Γ b rb) : DE X Γ (.BinOp a op b pos) rc := fun F0 H0 F H σ en Q q =>
  .of (pe_op ho pe_ev pe_ev) (two ha hb h2 en q)
theorem de_cmp {op : CmpOp} {r2 : R2} (ho : OpR X (compareOp op) r2) (h2 : B2 r2 ra rb rc) (ha : DE X Γ a ra) (hb : DE X Γ b rb) (hm : behindInMarks op b = false) : DE X Γ (.Compare a [op] [b] pos) rc := fun F0 H0 F H σ en Q q =>
  .of (pe_cmpR ho pe_ev pe_ev hm) (two ha hb h2 en q)
theorem dt_cmp {op : CmpOp} {r2 : R2} {t : Bool} (ho : OpR X (compareOp op) r2) (h2 : B2 r2 ra rb (rBl t)) (ha : DE X Γ a ra) (hb : DE X Γ b rb) (hm : behindInMarks op b = false) : DT X Γ (.Compare a [op] [b] pos) t := fun F0 H0 F H σ en Q q =>
  .of (pt_cmpR ho pe_ev pe_ev hm) (two ha hb h2 en fun v F' H' g hv => ⟨t, hv, q F' H' g⟩)
theorem b2_I0 {g : Int → Int → V} {i j : Int} : B2 (rI0 g) (rInt i) (rInt j) (rC (g i j)) := fun F H x y s h1 h2 Q q => ⟨i, j, h1, h2, q _ F H (.refl s) rfl⟩
theorem b2_I {C : Int → Int → Prop} {g : Int → Int → V} {i j : Int} (hc : C i j) : B2 (rI C g) (rInt i) (rInt j) (rC (g i j)) := fun F H x y s h1 h2 Q q => ⟨i, j, h1, h2, hc, q _ F H (.refl s) rfl⟩
theorem b2_eq {x y : V} (h : scal x y = true) : B2 rEq (rC x) (rC y) (rBl (decide (x = y))) := fun F H x y s h1 h2 Q q => by cases h1; cases h2; exact ⟨h, q _ F H (.refl s) rfl⟩
theorem b2_ne {x y : V} (h : scal x y = true) : B2 rNe (rC x) (rC y) (rBl (!decide (x = y))) := fun F H x y s h1 h2 Q q => by cases h1; cases h2; exact ⟨h, q _ F H (.refl s) rfl⟩
/-! ints -/
section
variable {i j : Int}
theorem de_add (ha : DE X Γ a (rInt i)) (hb : DE X Γ b (rInt j)) : DE X Γ (.BinOp a .Add b pos) (rInt (i + j)) := de_op op_add b2_I0 ha hb
theorem de_sub (ha : DE X Γ a (rInt i)) (hb : DE X Γ b (rInt j)) : DE X Γ (.BinOp a .Sub b pos) (rInt (i - j)) := de_op op_sub b2_I0 ha hb
theorem de_mul (hc : CMulW i j) (ha : DE X Γ a (rInt i)) (hb : DE X Γ b (rInt j)) : DE X Γ (.BinOp a .Mult b pos) (rInt (i * j)) := de_op op_mulW (b2_I hc) ha hb
def CDivX (_ j : Int) : Prop := j ≠ 0 ∧ j.natAbs.log2 < 9000
theorem op_fdivX : OpR X (binaryOp .FloorDiv) (rI CDivX fun i j => .int (i.fdiv j)) := opI fun i j _ _ _ _ _ hc q => floordiv_int hc.1 q (.inl (PyProof.noPylong_of_log2 hc.2))
theorem de_fdiv (hc : CDivX i j) (ha : DE X Γ a (rInt i)) (hb : DE X Γ b (rInt j)) : DE X Γ (.BinOp a .FloorDiv b pos) (rInt (i.fdiv j)) := de_op op_fdivX (b2_I hc) ha hb
theorem de_mod (hc : j ≠ 0) (ha : DE X Γ a (rInt i)) (hb : DE X Γ b (rInt j)) : DE X Γ (.BinOp a .Mod b pos) (rInt (i.fmod j)) := de_op op_modN (b2_I hc) ha hb
theorem de_pow (hc : CPow i j) (ha : DE X Γ a (rInt i)) (hb : DE X Γ b (rInt j)) : DE X Γ (.BinOp a .Pow b pos) (rInt (i ^ j.toNat)) := de_op op_pow (b2_I hc) ha hb
def U1 (f : V → Hp → VK → Prop) (ra rc : Rep) : Prop := ∀ F H x, Same F H → ra.P F x → ∀ Q : VK, (∀ v F' H', Gr F H F' H' → rc.P F' v → Q v H') → f x H Q
theorem de_un {op : UnaryOp} {f : V → Hp → VK → Prop} (ho : UnR X (unaryOp op) f) (h2 : U1 f ra rc) (ha : DE X Γ a ra) : DE X Γ (.UnaryOp op a pos) rc := fun F0 H0 F H σ en Q q =>
  .of (pe_un ho pe_ev) (ha F0 H0 F H σ en _ fun v F1 H1 g1 h1 => h2 F1 H1 v g1.s h1 Q fun z F3 H3 g3 h3 => q z F3 H3 (g1.trans g3) h3)
theorem de_neg (ha : DE X Γ a (rInt i)) : DE X Γ (.UnaryOp .USub a pos) (rInt (-i)) := de_un un_neg (fun F H x s h1 Q q => ⟨i, h1, q _ F H (.refl s) rfl⟩) ha
theorem dt_lt (ha : DE X Γ a (rInt i)) (hb : DE X Γ b (rInt j)) : DT X Γ (.Compare a [.Lt] [b] pos) (decide (i < j)) := dt_cmp op_lt b2_I0 ha hb (nomark _)
theorem dt_le (ha : DE X Γ a (rInt i)) (hb : DE X Γ b (rInt j)) : DT X Γ (.Compare a [.LtE] [b] pos) (decide (i ≤ j)) := dt_cmp op_le b2_I0 ha hb (nomark _)
theorem dt_gt (ha : DE X Γ a (rInt i)) (hb : DE X Γ b (rInt j)) : DT X Γ (.Compare a [.Gt] [b] pos) (decide (j < i)) := dt_cmp op_gt b2_I0 ha hb (nomark _)
theorem dt_ge (ha : DE X Γ a (rInt i)) (hb : DE X Γ b (rInt j)) : DT X Γ (.Compare a [.GtE] [b] pos) (decide (j ≤ i)) := dt_cmp op_ge b2_I0 ha hb (nomark _)
theorem vint_dec : decide (V.int i = V.int j) = decide (i = j) := by
  by_cases h : i = j
  · rw [decide_eq_true h, h, decide_eq_true rfl]
  · rw [decide_eq_false h, decide_eq_false fun z => h (V.int.inj z)]
theorem b2_eqI : B2 rEq (rInt i) (rInt j) (rBl (decide (i = j))) := by
  have h := b2_eq (x := .int i) (y := .int j) rfl
  rw [vint_dec] at h
  exact h
theorem b2_neI : B2 rNe (rInt i) (rInt j) (rBl (!decide (i = j))) := by
  have h := b2_ne (x := .int i) (y := .int j) rfl
  rw [vint_dec] at h
  exact h
theorem dt_eqI (ha : DE X Γ a (rInt i)) (hb : DE X Γ b (rInt j)) : DT X Γ (.Compare a [.Eq] [b] pos) (decide (i = j)) := dt_cmp op_eq b2_eqI ha hb (nomark _)
theorem dt_neI (ha : DE X Γ a (rInt i)) (hb : DE X Γ b (rInt j)) : DT X Γ (.Compare a [.NotEq] [b] pos) (!decide (i = j)) := dt_cmp op_ne b2_neI ha hb (nomark _)
theorem de_eqI (ha : DE X Γ a (rInt i)) (hb : DE X Γ b (rInt j)) : DE X Γ (.Compare a [.Eq] [b] pos) (rBl (decide (i = j))) := de_cmp op_eq b2_eqI ha hb (nomark _)
end
/-! truth values -/
section
variable {u v : Bool}
theorem dt_val (h : DE X Γ e (rBl u)) (he : ∀ whole, isTrue e X.env whole = (do let v ← whole; standAt e.pos; holding [v] (truthy v)) := by intro _; rfl) : DT X Γ e u := fun F0 H0 F H σ en Q q =>
  .of (pt_val pe_ev he) (h F0 H0 F H σ en _ fun v F' H' g hv => ⟨u, hv, q F' H' g⟩)
theorem dt_not (h : DT X Γ a u) : DT X Γ (.UnaryOp .Not a pos) (!u) := fun F0 H0 F H σ en Q q => .of (pt_not pt_ev) (h F0 H0 F H σ en _ fun F' H' g => q F' H' g)
theorem de_not (h : DE X Γ a (rBl u)) : DE X Γ (.UnaryOp .Not a pos) (rBl (!u)) := fun F0 H0 F H σ en Q q => .of (pe_not pe_ev) (h F0 H0 F H σ en _ fun v F' H' g hv => ⟨u, hv, q _ F' H' g rfl⟩)
theorem DW.t (h : DW X Γ e u) : DT X Γ e u := fun F0 H0 F H σ en Q q => .of (pw_ev.pt) (h F0 H0 F H σ en Q q)
theorem dw_and1 (h : DT X Γ a u) : DW X Γ (.BoolOp .And [a] pos) u := fun F0 H0 F H σ en Q q => .of (pw_and1 pt_ev) (h F0 H0 F H σ en Q q)
theorem dw_or1 (h : DT X Γ a u) : DW X Γ (.BoolOp .Or [a] pos) u := fun F0 H0 F H σ en Q q => .of (pw_or1 pt_ev) (h F0 H0 F H σ en Q q)
theorem dw_and (h : DT X Γ a u) (h2 : u = true → DW X Γ (.BoolOp .And (b :: rest) pos) v) : DW X Γ (.BoolOp .And (a :: b :: rest) pos) (u && v) := fun F0 H0 F H σ en Q q =>
  .of (pw_and pt_ev pw_ev) (h F0 H0 F H σ en _ fun F' H' g => by
    cases u with
    | true => rw [if_pos rfl]; exact h2 rfl F0 H0 F' H' σ (en.grow g) Q fun F2 H2 g2 => q F2 H2 (g.trans g2)
    | false => rw [if_neg Bool.false_ne_true]; exact q F' H' g)
theorem dw_or (h : DT X Γ a u) (h2 : u = false → DW X Γ (.BoolOp .Or (b :: rest) pos) v) : DW X Γ (.BoolOp .Or (a :: b :: rest) pos) (u || v) := fun F0 H0 F H σ en Q q =>
  .of (pw_or pt_ev pw_ev) (h F0 H0 F H σ en _ fun F' H' g => by
    cases u with
    | true => rw [if_pos rfl]; exact q F' H' g
    | false => rw [if_neg Bool.false_ne_true]; exact h2 rfl F0 H0 F' H' σ (en.grow g) Q fun F2 H2 g2 => q F2 H2 (g.trans g2))
theorem de_one {op} (h : DE X Γ a r) : DE X Γ (.BoolOp op [a] pos) r := fun F0 H0 F H σ en Q q => .of (pe_one pe_ev) (h F0 H0 F H σ en Q q)
theorem de_and (h : DE X Γ a (rBl u)) (h2 : u = true → DE X Γ (.BoolOp .And (b :: rest) pos) (rBl v)) : DE X Γ (.BoolOp .And (a :: b :: rest) pos) (rBl (u && v)) := fun F0 H0 F H σ en Q q =>
  .of (pe_and pe_ev pe_ev) (h F0 H0 F H σ en _ fun x F' H' g hx => ⟨u, hx, by
    cases u with
    | true => rw [if_pos rfl]; exact h2 rfl F0 H0 F' H' σ (en.grow g) Q fun y F2 H2 g2 hy => q y F2 H2 (g.trans g2) hy
    | false => rw [if_neg Bool.false_ne_true]; exact q _ F' H' g rfl⟩)
theorem de_or (h : DE X Γ a (rBl u)) (h2 : u = false → DE X Γ (.BoolOp .Or (b :: rest) pos) (rBl v)) : DE X Γ (.BoolOp .Or (a :: b :: rest) pos) (rBl (u || v)) := fun F0 H0 F H σ en Q q =>
  .of (pe_or pe_ev pe_ev) (h F0 H0 F H σ en _ fun x F' H' g hx => ⟨u, hx, by
    cases u with
    | true => rw [if_pos rfl]; exact q _ F' H' g rfl
    | false => rw [if_neg Bool.false_ne_true]; exact h2 rfl F0 H0 F' H' σ (en.grow g) Q fun y F2 H2 g2 hy => q y F2 H2 (g.trans g2) hy⟩)
theorem de_if (h : DT X Γ c u) (h1 : u = true → DE X Γ a r) (h2 : u = false → DE X Γ b r) : DE X Γ (.IfExp c a b pos) r := fun F0 H0 F H σ en Q q =>
  .of (pe_ifExp pt_ev pe_ev pe_ev) (h F0 H0 F H σ en _ fun F' H' g => by
    cases u with
    | true => rw [if_pos rfl]; exact h1 rfl F0 H0 F' H' σ (en.grow g) Q fun y F2 H2 g2 hy => q y F2 H2 (g.trans g2) hy
    | false => rw [if_neg Bool.false_ne_true]; exact h2 rfl F0 H0 F' H' σ (en.grow g) Q fun y F2 H2 g2 hy => q y F2 H2 (g.trans g2) hy)
theorem vbl_dec : decide (V.bl u = V.bl v) = (u == v) := by cases u <;> cases v <;> rfl
theorem b2_eqB : B2 rEq (rBl u) (rBl v) (rBl (u == v)) := by
  have h := b2_eq (x := .bl u) (y := .bl v) rfl
  rw [vbl_dec] at h
  exact h
theorem b2_neB : B2 rNe (rBl u) (rBl v) (rBl (u != v)) := by
  have h := b2_ne (x := .bl u) (y := .bl v) rfl
  rw [vbl_dec] at h
  exact h
theorem b2_isB : B2 rIsB (rBl u) (rBl v) (rBl (u == v)) := fun F H x y s h1 h2 Q q => ⟨u, v, h1, h2, q _ F H (.refl s) (by show V.bl _ = V.bl _; cases u <;> cases v <;> rfl)⟩
end
/-! argument lists, displays -/
theorem da_nil : DA X Γ [] [] := fun F0 H0 F H σ en Q q => .of pa_nil (q [] F H (.refl en.gr.s) .nil)
theorem da_cons (h : DE X Γ e r) (h2 : DA X Γ es rs) (hs : starEach (e :: es) X.env = (false, eval e X.env) :: starEach es X.env := by rfl) : DA X Γ (e :: es) (r :: rs) := fun F0 H0 F H σ en Q q =>
  .of (pa_cons pe_ev pa_ev hs) (h F0 H0 F H σ en _ fun v F1 H1 g1 h1 => h2 F0 H0 F1 H1 σ (en.grow g1) _ fun vs F2 H2 g2 k2 => q (v :: vs) F2 H2 (g1.trans g2) (.cons (r.mono g2.f h1) k2))
theorem de_tup {x1} (h : DA X Γ es rs) (hl : rs.length ≤ sizeLine) : DE X Γ (.Tuple es x1 pos) (rTup X.K rs) := fun F0 H0 F H σ en Q q =>
  .of (pe_tup pa_ev) (h F0 H0 F H σ en _ fun vs F1 H1 g1 h1 => ⟨h1.len ▸ hl, fun p hp => q (.ref p) _ _ (g1.trans (.new g1.s hp)) ⟨p, vs, rfl, SqT.of upd_same, h1.mono (same_new (g1.s.free hp))⟩⟩)
theorem dl_lst (h : DA X Γ es rs) (hl : rs.length ≤ sizeLine) : DL X Γ (.List es pos) rs := fun F0 H0 F H σ en Q q =>
  .of (pe_lst pa_ev) (h F0 H0 F H σ en _ fun vs F1 H1 g1 h1 => ⟨h1.len ▸ hl, fun p hp => q p vs F1 _ (g1.trans (.newOwn g1.s hp)) (g1.h.free hp) (g1.s.free hp) upd_same h1⟩)
end
end DL

set_option Elab.async false
set_option linter.all false
set_option maxRecDepth 100000
set_option maxHeartbeats 4000000
namespace DL
open PySem PySem.Spec PyProof.Rows L2

/-! ### a def that may be called by its name -/
structure Cal (P : Program) (w : World) (K : PySem.W.Frag) (mg : Str → Option Value) (base : Heap) (k : Nat) (x : Str) (sp : Sp) : Prop where
  ex : ∃ (f : Addr) (fd : FuncData) (ps : List Str), FnOk P w K mg base (L2.CX P w) k f fd ps sp ∧ mg x = some (.ref f) ∧ PySem.W.keepIn K (.ref f) = true ∧ Binds K fd ps []
theorem FnOk.wide {P : Program} {w : World} {K : PySem.W.Frag} {mg : Str → Option Value} {base : Heap} {k : Nat} {f : Addr} {fd : FuncData} {ps : List Str} {sp : Sp} (F : FnOk P w K mg base CX0 k f fd ps sp) : FnOk P w K mg base (L2.CX P w) k f fd ps sp :=
  ⟨F.len, fun A outer s H args us vs Q E hr he hb hv hs => codeAny_mono (F.run A outer s H args us vs Q E hr he hb hv hs) fun r s' h => by
    cases r with
    | error e => exact False.elim h
    | ok fl => cases fl <;> exact h⟩
/-- the end of a call: a value, a new list of one's own, or an error without a field of the class named -/
inductive Ret where
  | val (r : Rep)
  | lst (l : List Rep)
  | tfr (K : PySem.W.Frag) (l : List Rep) (rs : List Rep)
def Ret.P (F0 H0 F H : Hp) : Ret → V → Prop
  | .val r, v => r.P F v
  | .lst l, v => ∃ p vs, v = .ref p ∧ H0 p = none ∧ F p = none ∧ H p = some (.lst vs) ∧ RL F l vs
  | .tfr K l rs, v => ∃ t p us vs, v = .ref t ∧ SqT K F t (.ref p :: vs) ∧ H0 p = none ∧ F p = none ∧ H p = some (.lst us) ∧ RL F l us ∧ RL F rs vs
/-- from the arguments' worth to the answer's -/
def Pr (F H : Hp) (res : Ret) (Q : VK) : Prop := ∀ v F' H', Gr F H F' H' → res.P F H F' H' v → Q v H'
def Pm {ι : Type} (pre : ι → Prop) (args : ι → List Rep) (res : ι → Ret) : Sp := fun vs H Q _ => ∃ (x : ι) (F : Hp), pre x ∧ Same F H ∧ RL F (args x) vs ∧ Pr F H (res x) Q
section
variable {X : Cx} {N : List Str} {sc : Scope} {k j : Nat} {Γ : List Sl} {a b c e : Expr} {es rest : List Expr} {r ra rb rc r' : Rep} {rs l : List Rep} {pos p : Pos} {x : Str}
variable {ι : Type} {pre : ι → Prop} {args : ι → List Rep} {res : ι → Ret}
def CA (X : Cx) (Γ : List Sl) (e : Expr) (ret : Ret) : Prop := ∀ F0 H0 F H σ, En F0 H0 F H σ Γ → ∀ Q : VK, (∀ v F' H' F1 H1, Gr F H F1 H1 → Gr F1 H1 F' H' → ret.P F1 H1 F' H' v → Q v H') → EV X e σ H Q
theorem ca_call (B : BX X N sc k) (C : Cal X.prog X.w X.K X.mg X.base j x (Pm pre args res)) (hk : j ≤ k) (g : ι) (hp : pre g) (ha : DA X Γ (e :: es) (args g)) (hg : sc.names.lookup x = some .globalImplicit)
    (hdb : (x == ("__debug__" : Str)) = false := by decide) (he : starEach (e :: es) X.env = (false, eval e X.env) :: starEach es X.env := by rfl) (hpl : (backTo pos (starEach es X.env)).any (·.1) = false := by rfl) :
    CA X Γ (.Call (.Name x p) (e :: es) [] pos) (res g) := fun F0 H0 F H σ en Q q => by
  obtain ⟨f, fd, ps, G, hm, kp, hb⟩ := C.ex
  have hgl : Gl X x := by
    show X.env.scope.names.lookup x = _
    rw [B.hsc]
    exact hg
  refine .of (pe_call (E := E0) G (B.room.mono hk) hgl hm kp hb .nil passL pa_ev hdb he hpl) ?_
  refine ha F0 H0 F H σ en _ fun vs F1 H1 g1 h1 => ?_
  show Pm pre args res (vs ++ []) H1 Q E0
  rw [List.append_nil]
  exact ⟨g, F1, hp, g1.s, h1, fun v F' H' g2 hv => q v F' H' F1 H1 g1 g2 hv⟩
theorem CA.val (h : CA X Γ e (.val r)) : DE X Γ e r := fun F0 H0 F H σ en Q q => h F0 H0 F H σ en Q fun v F' H' F1 H1 g1 g2 hv => q v F' H' (g1.trans g2) hv
theorem CA.lst (h : CA X Γ e (.lst l)) : DL X Γ e l := fun F0 H0 F H σ en Q q => h F0 H0 F H σ en Q fun v F' H' F1 H1 g1 g2 hv => by
  obtain ⟨p, vs, rfl, h1, h2, h3, h4⟩ := hv
  exact q p vs F' H' (g1.trans g2) (g1.h.free h1) h2 h3 h4

/-! ### built-ins by name -/
def CB (f : List V → Hp → VK → Prop) (rs : List Rep) (r : Rep) : Prop := ∀ F H vs, Same F H → RL F rs vs → ∀ Q : VK, (∀ v F' H', Gr F H F' H' → r.P F' v → Q v H') → f vs H Q
theorem de_blt {id : String} {f : List V → Hp → VK → Prop} (B : BX X N sc k) (hc : CallR X (.builtin id) f) (h2 : CB f rs r) (hm : X.mg x = none) (hv : bootBuiltins x = some (.builtin id)) (ha : DA X Γ (e :: es) rs) (hg : sc.names.lookup x = some .globalImplicit)
    (hn : x ≠ "__name__" := by decide) (hdb : (x == ("__debug__" : Str)) = false := by decide) (he : starEach (e :: es) X.env = (false, eval e X.env) :: starEach es X.env := by rfl) (hpl : (backTo pos (starEach es X.env)).any (·.1) = false := by rfl) :
    DE X Γ (.Call (.Name x p) (e :: es) [] pos) r := fun F0 H0 F H σ en Q q => by
  have hgl : Gl X x := by
    show X.env.scope.names.lookup x = _
    rw [B.hsc]
    exact hg
  exact .of (pe_callB hc hgl hm hv pa_ev hn hdb he hpl) (ha F0 H0 F H σ en _ fun vs F1 H1 g1 h1 => h2 F1 H1 vs g1.s h1 Q fun v F' H' g2 hv => q v F' H' (g1.trans g2) hv)
theorem de_bty {id : String} {f : List V → Hp → VK → Prop} (B : BX X N sc k) (hc : CallR X (.type id) f) (h2 : CB f rs r) (hm : X.mg x = none) (hv : bootBuiltins x = some (.type id)) (ha : DA X Γ (e :: es) rs) (hg : sc.names.lookup x = some .globalImplicit)
    (hn : x ≠ "__name__" := by decide) (hdb : (x == ("__debug__" : Str)) = false := by decide) (he : starEach (e :: es) X.env = (false, eval e X.env) :: starEach es X.env := by rfl) (hpl : (backTo pos (starEach es X.env)).any (·.1) = false := by rfl) :
    DE X Γ (.Call (.Name x p) (e :: es) [] pos) r := fun F0 H0 F H σ en Q q => by
  have hgl : Gl X x := by
    show X.env.scope.names.lookup x = _
    rw [B.hsc]
    exact hg
  exact .of (pe_callTy hc hgl hm hv pa_ev hn hdb he hpl) (ha F0 H0 F H σ en _ fun vs F1 H1 g1 h1 => h2 F1 H1 vs g1.s h1 Q fun v F' H' g2 hv => q v F' H' (g1.trans g2) hv)
/-- a built-in function under a module's own name (from math import ..) -/
theorem de_bfun {id : String} {f : List V → Hp → VK → Prop} (B : BX X N sc k) (hc : CallR X (.builtin id) f) (h2 : CB f rs r) (hm : X.mg x = some (.builtin id)) (ha : DA X Γ (e :: es) rs) (hg : sc.names.lookup x = some .globalImplicit)
    (hdb : (x == ("__debug__" : Str)) = false := by decide) (he : starEach (e :: es) X.env = (false, eval e X.env) :: starEach es X.env := by rfl) (hpl : (backTo pos (starEach es X.env)).any (·.1) = false := by rfl) :
    DE X Γ (.Call (.Name x p) (e :: es) [] pos) r := fun F0 H0 F H σ en Q q => by
  have hgl : Gl X x := by
    show X.env.scope.names.lookup x = _
    rw [B.hsc]
    exact hg
  exact .of (pe_callBfun hc hgl hm pa_ev hdb he hpl) (ha F0 H0 F H σ en _ fun vs F1 H1 g1 h1 => h2 F1 H1 vs g1.s h1 Q fun v F' H' g2 hv => q v F' H' (g1.trans g2) hv)
theorem rl1 {F : Hp} {r : Rep} {vs : List V} (h : RL F [r] vs) : ∃ v, vs = [v] ∧ r.P F v := by
  cases h with
  | cons a t => cases t; exact ⟨_, rfl, a⟩
theorem rl2 {F : Hp} {r s : Rep} {vs : List V} (h : RL F [r, s] vs) : ∃ v w, vs = [v, w] ∧ r.P F v ∧ s.P F w := by
  cases h with
  | cons a t =>
    obtain ⟨w, rfl, b⟩ := rl1 t
    exact ⟨_, _, rfl, a, b⟩

/-- a name that the body may store -/
def LocX (X : Cx) (sc : Scope) (x : Str) : Prop := sc.names.lookup x = some .local ∨ (sc.names.lookup x = some .cell ∧ X.fn x = true)
/-! ### statements -/
def GO (X : Cx) (F0 H0 : Hp) (st : List Stmt) (D : Ends) (Γ : List Sl) : Prop := ∀ F H σ, En F0 H0 F H σ Γ → XS X st D σ H
variable {F0 H0 : Hp} {st body orelse : List Stmt} {D : Ends} {i : Nat} {tpos : Pos}
theorem go_nil (h : ∀ F H σ, En F0 H0 F H σ Γ → D.nx σ H) : GO X F0 H0 [] D Γ := fun F H σ en => .of pss_nil (h F H σ en)
theorem go_then (h : GO X F0 H0 st D Γ) : GO X F0 H0 [] { D with nx := XS X st D } Γ := go_nil fun F H σ en => h F H σ en
theorem go_set (B : BX X N sc k) (he : DE X Γ e r) (hN : N[i]? = some x) (hx : LocX X sc x) (h : GO X F0 H0 st D (Γ.set i (.im r))) (hs : swapsWith e (some (.Name x tpos)) pos.line X.env = pure false := by rfl) :
    GO X F0 H0 (.Assign [.Name x tpos] e pos :: st) D Γ := fun F H σ en => by
  have hf : X.fn x = true ∨ X.env.scope.names.lookup x = some .local := by
    rcases hx with hx | hx
    · exact .inr (by rw [B.hsc]; exact hx)
    · exact .inl hx.2
  have hx : Loc sc x := hx.elim .inl fun z => .inr z.1
  refine .of (pss_cons (ps_set (i := i) (by rw [B.hN]; exact B.nd) (by rw [B.hN]; exact hN) (by rw [B.hsc]; exact hx) pe_ev hs hf) pss_ev) ?_
  exact he F0 H0 F H σ en _ fun v F' H' g hv => h F' H' _ ((en.grow g).setIm hv)
theorem go_setL (B : BX X N sc k) (he : DL X Γ e l) (hN : N[i]? = some x) (hx : LocX X sc x) (h : GO X F0 H0 st D (Γ.set i (.ow l))) (hs : swapsWith e (some (.Name x tpos)) pos.line X.env = pure false := by rfl) :
    GO X F0 H0 (.Assign [.Name x tpos] e pos :: st) D Γ := fun F H σ en => by
  have hf : X.fn x = true ∨ X.env.scope.names.lookup x = some .local := by
    rcases hx with hx | hx
    · exact .inr (by rw [B.hsc]; exact hx)
    · exact .inl hx.2
  have hx : Loc sc x := hx.elim .inl fun z => .inr z.1
  refine .of (pss_cons (ps_set (i := i) (by rw [B.hN]; exact B.nd) (by rw [B.hN]; exact hN) (by rw [B.hsc]; exact hx) pe_ev hs hf) pss_ev) ?_
  refine he F0 H0 F H σ en _ fun p vs F' H' g h1 h2 h3 h4 => h F' H' _ ((en.grow g).setOw h2 h3 h4 (en.gr.h.free h1) fun j l' k1 k2 => ?_)
  obtain ⟨p', vs', a1, a2, a3, a4, a5⟩ := en.ow k1
  rw [a1] at k2
  have e2 : p' = p := V.ref.inj (Option.some.inj (Option.some.inj k2))
  rw [e2, h1] at a3
  cases a3
theorem go_expr (he : DE X Γ e r) (h : GO X F0 H0 st D Γ) (hs : swapsWith e none pos.line X.env = pure false := by rfl) : GO X F0 H0 (.Expr e pos :: st) D Γ := fun F H σ en =>
  .of (pss_cons (ps_expr pe_ev hs) pss_ev) (he F0 H0 F H σ en _ fun v F' H' g _ => h F' H' σ (en.grow g))
theorem go_pass (h : GO X F0 H0 st D Γ) : GO X F0 H0 (.Pass pos :: st) D Γ := fun F H σ en => .of (pss_cons ps_pass pss_ev) (h F H σ en)
theorem go_if {t : Bool} (hc : DT X Γ c t) (h1 : t = true → GO X F0 H0 body { D with nx := XS X st D } Γ) (h2 : t = false → GO X F0 H0 orelse { D with nx := XS X st D } Γ) : GO X F0 H0 (.If c body orelse pos :: st) D Γ := fun F H σ en =>
  .of (pss_cons (ps_if pt_ev pss_ev pss_ev) pss_ev) (hc F0 H0 F H σ en _ fun F' H' g => by
    cases t with
    | true => rw [if_pos rfl]; exact h1 rfl F' H' σ (en.grow g)
    | false => rw [if_neg Bool.false_ne_true]; exact h2 rfl F' H' σ (en.grow g))
/-- what a return gives -/
def RT (F0 H0 : Hp) (ret : Ret) (D : Ends) : Prop := ∀ v F' H', Gr F0 H0 F' H' → ret.P F0 H0 F' H' v → D.rt v H'
theorem go_ret (R : RT F0 H0 (.val r') D) (he : DE X Γ e r) (hs : Sub r r') : GO X F0 H0 (.Return (some e) pos :: st) D Γ := fun F H σ en =>
  .of (pss_cons (ps_ret pe_ev) (pss_ev (st := st))) (he F0 H0 F H σ en _ fun v F' H' g hv => R v F' H' (en.gr.trans g) (hs F' v hv))
theorem go_retL {l' : List Rep} (R : RT F0 H0 (.lst l') D) (he : DL X Γ e l) (hs : l = l') : GO X F0 H0 (.Return (some e) pos :: st) D Γ := fun F H σ en =>
  .of (pss_cons (ps_ret pe_ev) (pss_ev (st := st))) (he F0 H0 F H σ en _ fun p vs F' H' g h1 h2 h3 h4 => R _ F' H' (en.gr.trans g) ⟨p, vs, rfl, en.gr.h.free h1, h2, h3, hs ▸ h4⟩)
/-- return of a list of one's own by its name -/
theorem go_retV {l' : List Rep} (B : BX X N sc k) (R : RT F0 H0 (.lst l') D) (hΓ : Γ[i]? = some (.ow l)) (hs : l = l') (hN : N[i]? = some x) (hv : Vis sc x) (hd : (x == ("__debug__" : Str)) = false := by decide) (hcd : (x == ("__classdict__" : Str)) = false := by decide) :
    GO X F0 H0 (.Return (some (.Name x p)) pos :: st) D Γ := fun F H σ en => by
  obtain ⟨q, vs, h1, h2, h3, h4, h5⟩ := en.ow hΓ
  exact .of (pss_cons (ps_ret (pe_var (i := i) (B.hN ▸ hN) (B.hsc ▸ hv) hd hcd)) (pss_ev (st := st))) ⟨_, h1, R _ F H en.gr ⟨q, vs, rfl, h5, h2, h3, hs ▸ h4⟩⟩
theorem go_break (h : ∀ F H σ, En F0 H0 F H σ Γ → D.bk σ H) : GO X F0 H0 (.Break pos :: st) D Γ := fun F H σ en => .of (pss_cons ps_break (pss_ev (st := st))) (h F H σ en)
/-- a list of one's own stands still from here on -/
theorem go_froz (i : Nat) (hΓ : Γ[i]? = some (.ow l)) (h : GO X F0 H0 st D (Γ.set i (.im (rLst X.K l)))) : GO X F0 H0 st D Γ := fun F H σ en => by
  obtain ⟨F', s1, s2, en'⟩ := en.freeze (K := X.K) hΓ
  exact h F' H σ en'
/-- x.append(e), x a list of one's own -/
theorem go_append {apos ps2 : Pos} (B : BX X N sc k) (hΓ : Γ[i]? = some (.ow l)) (he : DE X Γ e r) (hl : l.length < sizeLine) (hN : N[i]? = some x) (hv : Vis sc x) (h : GO X F0 H0 st D (Γ.set i (.ow (l ++ [r]))))
    (hd : (x == ("__debug__" : Str)) = false := by decide) (hcd : (x == ("__classdict__" : Str)) = false := by decide)
    (hbase : attributeBase (.Name x p) "append" X.env (eval (.Name x p) X.env) = eval (.Name x p) X.env := by rfl)
    (hfew : ((backTo pos (starEach (e :: []) X.env)).all (fun x => !x.1) && (backToKw pos (keywordEach [] X.env)).all (fun x => x.1.isSome)
      && decide ((e :: []).length + ([] : List Keyword).length + (if ([] : List Keyword).isEmpty then 0 else 1) < 30)) = true := by rfl)
    (hline : (apos.endLine == pos.line) = true := by rfl) (hs : starEach (e :: []) X.env = (false, eval e X.env) :: starEach [] X.env := by rfl) (hplain : (backTo pos (starEach [] X.env)).any (·.1) = false := by rfl)
    (hsw : swapsWith (.Call (.Attribute (.Name x p) "append" apos) [e] [] pos) none ps2.line X.env = pure false := by rfl) :
    GO X F0 H0 (.Expr (.Call (.Attribute (.Name x p) "append" apos) [e] [] pos) ps2 :: st) D Γ := fun F H σ en => by
  obtain ⟨q, vs, h1, h2, h3, h4, h5⟩ := en.ow hΓ
  refine .of (pss_cons (ps_expr (pe_bm PySem.F.plainAttrs_list PySem.F.slot_list_append PySem.F.type_list_append mt_append (pe_var (i := i) (B.hN ▸ hN) (B.hsc ▸ hv) hd hcd) (pa_cons pe_ev pa_nil hs) hbase hfew hline hs hplain) hsw) pss_ev) ?_
  refine ⟨.ref q, h1, .inl ⟨rfl, vs, SqL.of h3⟩, ?_⟩
  refine he F0 H0 F H σ en _ fun v F' H' g hv => ?_
  have en' := en.grow g
  refine ⟨q, vs, v, rfl, rfl, g.h _ _ h3, by rw [← h4.len]; exact hl, ?_⟩
  exact h F' _ σ (en'.put hΓ h1 ((h4.mono g.f).snoc hv))
end

/-! ### a def keeps its promise -/
/-- the def st, under the name x -/
structure TD (K : PySem.W.Frag) (mg : Str → Option Value) (x : Str) (st : Stmt) : Prop where
  ex : ∃ f fd, Fun K x x st f fd ∧ mg x = some (.ref f)
theorem en_start {F H : Hp} {N : List Str} {rs : List Rep} {vs : List V} (s : Same F H) (h : RL F rs vs) (hl : rs.length ≤ N.length) : En F H F H (L2.start N vs) (rs.map Sl.im ++ List.replicate (N.length - rs.length) .any) where
  gr := .refl s
  len := by
    unfold L2.start
    have := h.len
    simp
    omega
  ok i t x h1 h2 := by
    have hlen := h.len
    by_cases hi : i < rs.length
    · rw [List.getElem?_append_left (by simpa using hi), List.getElem?_map] at h1
      unfold L2.start at h2
      rw [List.getElem?_append_left (by simp; omega), List.getElem?_map] at h2
      cases e : rs[i]? with
      | none => rw [e] at h1; cases h1
      | some r =>
        rw [e] at h1
        cases h1
        obtain ⟨v, k1, k2⟩ := h.get e
        rw [k1] at h2
        cases h2
        exact ⟨v, rfl, k2⟩
    · rw [List.getElem?_append_right (by simpa using hi), List.getElem?_replicate] at h1
      split at h1
      · cases h1
        trivial
      · cases h1
  own i p l h1 h2 := by
    by_cases hi : i < rs.length
    · rw [List.getElem?_append_left (by simpa using hi), List.getElem?_map] at h1
      cases e : rs[i]? with
      | none => rw [e] at h1; cases h1
      | some r => rw [e] at h1; cases h1
    · rw [List.getElem?_append_right (by simpa using hi), List.getElem?_replicate] at h1
      split at h1 <;> cases h1
  sep i j p l l' h1 := by
    by_cases hi : i < rs.length
    · rw [List.getElem?_append_left (by simpa using hi), List.getElem?_map] at h1
      cases e : rs[i]? with
      | none => rw [e] at h1; cases h1
      | some r => rw [e] at h1; cases h1
    · rw [List.getElem?_append_right (by simpa using hi), List.getElem?_replicate] at h1
      split at h1 <;> cases h1
section
variable {P : Program} {w : World} {K : PySem.W.Frag} {mg : Str → Option Value} {base : Heap} {k : Nat} {x : Str} {st : Stmt} {N ps : List Str} {ι : Type} {pre : ι → Prop} {args : ι → List Rep} {res : ι → Ret}
/-- a def that raises nothing -/
theorem cal_ok (T : TD K mg x st) (S : FnScope N ps (defScope st)) (hn : ∀ g, (args g).length = ps.length)
    (hb : ∀ (kV doc pm : Value) (an : Option Addr) (cdv ct : Value) (us : List Value), us.length = ps.length → bindArgs (PySem.W.fnOf x x (defArgs st) (defBody st) (defScope st) .none kV doc pm an cdv ct) ⟨us, []⟩ = pure (ps.zip us))
    (body : ∀ (X : Cx), X.prog = P → X.w = w → X.K = K → X.mg = mg → X.base = base → BX X N (defScope st) k → (∀ x : Str, X.fn x = true) → ∀ (g : ι) (F0 H0 : Hp) (D : Ends), pre g → RT F0 H0 (res g) D → (∀ σ H', D.nx σ H' = D.rt .non H') →
      GO X F0 H0 (defBody st) D ((args g).map Sl.im ++ List.replicate (N.length - ps.length) .any)) : Cal P w K mg base (k + 1) x (Pm pre args res) := by
  obtain ⟨f, fd, F, hm⟩ := T.ex
  refine ⟨f, fd, ps, ?_, hm, F.kp, F.binds hb⟩
  refine FnOk.wide (F.ok S (fun vs H Q E h => ?_) (fun cdv A outer s H vs Q E hr h => ?_))
  · obtain ⟨g, F1, _, _, h1, _⟩ := h
    rw [← h1.len, hn]
  · obtain ⟨g, F1, hp, hs, h1, q⟩ := h
    refine ⟨_, pss_ev, ?_⟩
    have hpl : ps.length ≤ N.length := by have := congrArg List.length S.pre; rw [List.length_take] at this; omega
    have en := en_start (N := N) hs h1 (by rw [hn]; exact hpl)
    rw [hn] at en
    exact body _ rfl rfl rfl rfl rfl ⟨rfl, rfl, S.nd, hr, rfl, PassesOwn.never⟩ (fun _ => rfl) g F1 H { nx := fun _ H' => Q .non H', rt := Q } hp q (fun _ _ => rfl) F1 H _ en
end
end DL

set_option Elab.async false
set_option linter.all false
set_option maxRecDepth 100000
set_option maxHeartbeats 4000000
namespace DL
open PySem PySem.Spec PyProof.Rows L2

/-! ### targets -/
def GV (X : Cx) (tg : Expr) (v : V) (σ : L2.St) (H : Hp) (Q : L2.St → Hp → Prop) : Prop := ∀ (pins : List (Addr × Obj)) (s : Shared) (u : Value), Inv X pins σ H s → RelV v u → wpAny (model X.prog X.w) X.A (assign tg X.env u) (fun _ s' => ∃ σ' H', Inv X pins σ' H' s' ∧ Q σ' H') X.xe s
theorem pg_ev {X : Cx} {tg : Expr} : PG X tg (GV X tg) := ⟨fun pins s σ H v u Q I r h => h pins s u I r⟩
theorem GV.of {X : Cx} {tg : Expr} {t : TG} {v : V} {σ : L2.St} {H : Hp} {Q : L2.St → Hp → Prop} (h : PG X tg t) (q : t v σ H Q) : GV X tg v σ H Q := fun pins s u I r => h.run pins s σ H v u Q I r q
def GVs (X : Cx) (ts : List Expr) (vs : List V) (σ : L2.St) (H : Hp) (Q : L2.St → Hp → Prop) : Prop := ∀ (pins : List (Addr × Obj)) (s : Shared) (us : List Value), Inv X pins σ H s → Vals vs us → wpAny (model X.prog X.w) X.A (assignInOrder ((assignEach ts X.env).map (·.2)) us) (fun _ s' => ∃ σ' H', Inv X pins σ' H' s' ∧ Q σ' H') X.xe s
/-- two states of the slots that part at ws alone -/
def Off (ws : List Nat) (σ σ' : L2.St) : Prop := ∀ us : List Nat, (∀ i ∈ ws, i ∈ us) → wipe σ' us = wipe σ us
theorem wipe_get : ∀ (us : List Nat) (σ : L2.St) (j : Nat), (wipe σ us)[j]? = if j ∈ us ∧ j < σ.length then some none else σ[j]?
  | [], σ, j => by simp [wipe]
  | u :: us, σ, j => by
    unfold wipe
    by_cases h : u = j
    · subst h
      by_cases hl : u < σ.length
      · rw [List.getElem?_set_self (by rw [wipe_length]; exact hl), if_pos ⟨List.mem_cons_self, hl⟩]
      · rw [List.getElem?_eq_none (by rw [List.length_set, wipe_length]; omega), if_neg (fun z => hl z.2), List.getElem?_eq_none (by omega)]
    · rw [List.getElem?_set_ne h, wipe_get us σ j]
      by_cases hm : j ∈ us ∧ j < σ.length
      · rw [if_pos hm, if_pos ⟨List.mem_cons_of_mem _ hm.1, hm.2⟩]
      · rw [if_neg hm, if_neg]
        rintro ⟨z, z2⟩
        rcases List.mem_cons.mp z with z | z
        · exact h z.symm
        · exact hm ⟨z, z2⟩
theorem off_set {σ : L2.St} {i : Nat} {x : Option V} : Off [i] σ (σ.set i x) := fun us h => by
  apply List.ext_getElem?
  intro j
  rw [wipe_get, wipe_get, List.length_set]
  by_cases hj : j ∈ us ∧ j < σ.length
  · rw [if_pos hj, if_pos hj]
  · rw [if_neg hj, if_neg hj]
    by_cases hi : i = j
    · subst hi
      have : ¬ i < σ.length := fun z => hj ⟨h i (by simp), z⟩
      rw [List.getElem?_eq_none (by simpa using this), List.getElem?_eq_none (by omega)]
    · rw [List.getElem?_set_ne hi]
theorem Off.trans {a b : List Nat} {σ σ1 σ2 : L2.St} (h : Off a σ σ1) (k : Off b σ1 σ2) : Off (a ++ b) σ σ2 := fun us z =>
  (k us fun i hi => z i (List.mem_append_right _ hi)).trans (h us fun i hi => z i (List.mem_append_left _ hi))
def DG (X : Cx) (Γ : List Sl) (tg : Expr) (r : Rep) (Γ' : List Sl) (ws : List Nat) : Prop := ∀ F0 H0 F H σ v, En F0 H0 F H σ Γ → r.P F v → ∀ Q : L2.St → Hp → Prop, (∀ F' H' σ', Gr F H F' H' → En F0 H0 F' H' σ' Γ' → Off ws σ σ' → Q σ' H') → GV X tg v σ H Q
def DGs (X : Cx) (Γ : List Sl) (ts : List Expr) (rs : List Rep) (Γ' : List Sl) (ws : List Nat) : Prop := ∀ F0 H0 F H σ vs, En F0 H0 F H σ Γ → RL F rs vs → ∀ Q : L2.St → Hp → Prop, (∀ F' H' σ', Gr F H F' H' → En F0 H0 F' H' σ' Γ' → Off ws σ σ' → Q σ' H') → GVs X ts vs σ H Q
section
variable {X : Cx} {N : List Str} {sc : Scope} {k j : Nat} {Γ Γ' Γ1 : List Sl} {a b c e : Expr} {es rest : List Expr} {r ra rb rc r' : Rep} {rs l : List Rep} {pos p : Pos} {x : Str} {i : Nat} {ws ws' : List Nat}
theorem dg_name (B : BX X N sc k) (hN : N[i]? = some x) (hx : LocX X sc x) : DG X Γ (.Name x pos) r (Γ.set i (.im r)) [i] := fun F0 H0 F H σ v en hv Q q => by
  have hf : X.fn x = true ∨ X.env.scope.names.lookup x = some .local := by
    rcases hx with hx | hx
    · exact .inr (by rw [B.hsc]; exact hx)
    · exact .inl hx.2
  have hx : Loc sc x := hx.elim .inl fun z => .inr z.1
  exact .of (pg_name (i := i) (by rw [B.hN]; exact B.nd) (by rw [B.hN]; exact hN) (by rw [B.hsc]; exact hx) hf) (q F H _ (.refl en.gr.s) (en.setIm hv) off_set)
theorem dgs_nil : DGs X Γ [] [] Γ [] := fun F0 H0 F H σ vs en hv Q q pins s us I r => by
  cases hv
  cases r
  exact assignInOrder_nil ⟨σ, H, I, q F H σ (.refl en.gr.s) en fun _ _ => rfl⟩
theorem dgs_cons (h1 : DG X Γ e r Γ1 ws) (h2 : DGs X Γ1 es rs Γ' ws') (hs : (assignEach (e :: es) X.env).map (·.2) = assign e X.env :: (assignEach es X.env).map (·.2) := by rfl) : DGs X Γ (e :: es) (r :: rs) Γ' (ws ++ ws') := fun F0 H0 F H σ vs en hv Q q pins s us I rr => by
  cases hv with
  | cons v1 vt =>
    cases rr with
    | cons r1 rt =>
      rw [hs]
      refine assignInOrder_cons (thn (h1 F0 H0 F H σ _ en v1 (fun σ1 H1 => ∃ F1, Gr F H F1 H1 ∧ En F0 H0 F1 H1 σ1 Γ1 ∧ Off ws σ σ1) (fun F' H' σ' g en' o => ⟨F', g, en', o⟩) pins s _ I r1) fun _ s1 ⟨σ1, H1, I1, F1, g1, en1, o1⟩ => ?_)
      exact h2 F0 H0 F1 H1 σ1 _ en1 (RL.mono g1.f vt) Q (fun F' H' σ' g en' o => q F' H' σ' (g1.trans g) en' (o1.trans o)) pins s1 _ I1 rt
theorem dg_tup {n : Nat} (B : BX X N sc k) (h : DGs X Γ es rs Γ' ws) (hn : (assignEach es X.env).length = n := by rfl) (hl : rs.length = n := by rfl) (hst : (assignEach es X.env).findIdx? (·.1) = none := by rfl) : DG X Γ (.Tuple es j pos) (rTup X.K rs) Γ' ws := fun F0 H0 F H σ v en hv Q q => by
  obtain ⟨p, vs, rfl, h1, h2⟩ := hv
  refine .of (pg_tup (n := n) (t := GVs X es) B.calm ⟨fun pins s σ H vs us Q I r h => h pins s us I r⟩ hn hst) ?_
  exact ⟨p, vs, rfl, sqt_mono en.gr.s h1, by rw [← h2.len]; exact hl, h F0 H0 F H σ vs en h2 Q q⟩
end
/-! ### what a for or a comprehension walks -/
def IV (X : Cx) (tg it : Expr) (σ : L2.St) (H : Hp) (R : It → Hp → Prop) : Prop := ∀ (pins : List (Addr × Obj)) (s : Shared), Inv X pins σ H s → wpAny (model X.prog X.w) X.A (eval it X.env) (fun v s1 => wpAny (model X.prog X.w) X.A (pyIter v) (PIE X pins σ tg R) X.xe s1) X.xe s
theorem pi_ev {X : Cx} {tg it : Expr} : PI X tg it (IV X tg it) := ⟨fun pins s σ H R I h => h pins s I⟩
theorem IV.of {X : Cx} {tg it : Expr} {wi : TI} {σ : L2.St} {H : Hp} {R : It → Hp → Prop} (h : PI X tg it wi) (q : wi σ H R) : IV X tg it σ H R := fun pins s I => h.run pins s σ H R I q
/-- n turns, the i-th brings what is worth rr i -/
structure Wk (J : It) (F1 H1 : Hp) (n : Nat) (rr : Nat → Rep) : Prop where
  stop : ∀ i H, Same F1 H → n ≤ i → J.stop i H
  go : ∀ i H, Same F1 H → i < n → J.go i H
  yld : ∀ i F H x H', Same F1 F → Same F H → i < n → J.yld i H x H' → ∃ F', Gr F H F' H' ∧ (rr i).P F' x
def SR (X : Cx) (Γ : List Sl) (tg it : Expr) (n : Nat) (rr : Nat → Rep) : Prop := ∀ F0 H0 F H σ, En F0 H0 F H σ Γ → ∀ R : It → Hp → Prop, (∀ J F1 H1, Gr F H F1 H1 → Wk J F1 H1 n rr → R J H1) → IV X tg it σ H R
section
variable {X : Cx} {N : List Str} {sc : Scope} {k j : Nat} {Γ Γ' Γ1 : List Sl} {tg it it2 a b c e : Expr} {es rest : List Expr} {r ra rb rc r' : Rep} {rs l l2 : List Rep} {pos p : Pos} {x : Str} {i : Nat} {ws ws' : List Nat}
theorem sr_list (h : DE X Γ it (rLst X.K l)) : SR X Γ tg it l.length (fun i => l.getD i rNon) := fun F0 H0 F H σ en R q =>
  .of (pi_list pe_ev) (h F0 H0 F H σ en _ fun v F1 H1 g hv => by
    obtain ⟨p, vs, rfl, hs, hl⟩ := hv
    refine ⟨p, rfl, ⟨vs, g.s.seq hs⟩, q _ F1 H1 g ⟨fun i H2 s hi => ⟨vs, s.seq hs, by rw [← hl.len]; exact hi⟩, fun i H2 s hi => ?_, fun i F2 H2 x H' s s2 hi hy => ?_⟩⟩
    · have hi' : i < vs.length := hl.len ▸ hi
      exact ⟨vs, vs[i], s.seq hs, List.getElem?_eq_getElem hi'⟩
    · obtain ⟨rfl, hx⟩ := hy
      have hx' := hx vs (s2.seq (s.seq hs))
      obtain ⟨r, e, hr⟩ := hl.got hx'
      refine ⟨F2, .refl s2, ?_⟩
      show (l.getD i rNon).P F2 x
      rw [List.getD_eq_getElem?_getD, e]
      exact r.mono s hr)
theorem sr_range1 {n : Int} (B : BX X N sc k) (hm : X.mg "range" = none) (h : DE X Γ a (rInt n)) (hg : sc.names.lookup ("range" : Str) = some NameKind.globalImplicit) (hb : n < 2 ^ 62) (hb2 : -(2 ^ 62) ≤ n) (hs : starEach [a] X.env = [(false, eval a X.env)] := by rfl) :
    SR X Γ tg (.Call (.Name "range" p) [a] [] pos) n.toNat (fun i => rInt (i : Nat)) := fun F0 H0 F H σ en R q => by
  have hgl : Gl X "range" := by
    show X.env.scope.names.lookup _ = _
    rw [B.hsc]
    exact hg
  refine .of (pi_range1 hgl hm (pa_cons pe_ev pa_nil hs) hs) (h F0 H0 F H σ en _ fun v F1 H1 g hv => ?_)
  cases hv
  refine ⟨n, rfl, hb2, hb, q _ F1 H1 g ⟨fun i H2 s hi => hi, fun i H2 s hi => hi, fun i F2 H2 x H' s s2 hi hy => ?_⟩⟩
  obtain ⟨rfl, rfl⟩ := hy
  exact ⟨F2, .refl s2, by show V.int _ = V.int _; rw [Int.zero_add]⟩
theorem sr_zip {jj : Nat} {tpos : Pos} (B : BX X N sc k) (hm : X.mg "zip" = none) (h : DE X Γ it (rLst X.K l)) (h2 : DE X Γ it2 (rLst X.K l2)) (hg : sc.names.lookup ("zip" : Str) = some NameKind.globalImplicit)
    (hs : starEach [it, it2] X.env = (false, eval it X.env) :: starEach [it2] X.env := by rfl) (hs2 : starEach [it2] X.env = (false, eval it2 X.env) :: starEach [] X.env := by rfl) (hpl : (backTo pos (starEach [it2] X.env)).any (·.1) = false := by rfl) :
    SR X Γ (.Tuple es jj tpos) (.Call (.Name "zip" p) [it, it2] [] pos) (min l.length l2.length) (fun i => rTup X.K [l.getD i rNon, l2.getD i rNon]) := fun F0 H0 F H σ en R q => by
  have hgl : Gl X "zip" := by
    show X.env.scope.names.lookup _ = _
    rw [B.hsc]
    exact hg
  refine .of (pi_zip hgl hm (pa_cons pe_ev (pa_cons pe_ev pa_nil hs2) hs) hs hpl) (h F0 H0 F H σ en _ fun v F1 H1 g hv => h2 F0 H0 F1 H1 σ (en.grow g) _ fun v2 F3 H3 g3 hv2 => ?_)
  obtain ⟨p, vs, rfl, hsq, hl⟩ := hv
  obtain ⟨p2, vs2, rfl, hsq2, hl2⟩ := hv2
  have hsq := g3.f.seq hsq
  have hl := hl.mono g3.f
  refine ⟨p, p2, vs, vs2, rfl, g3.s.seq hsq, g3.s.seq hsq2, q _ F3 H3 (g.trans g3) ⟨fun i H2 s hi => ⟨vs, vs2, s.seq hsq, s.seq hsq2, ?_⟩, fun i H2 s hi => ?_, fun i F2 H2 x H' s s2 hi hy => ?_⟩⟩
  · rw [← hl.len, ← hl2.len]
    omega
  · have h3 := hl.len
    have h4 := hl2.len
    have i1 : i < vs.length := by omega
    have i2 : i < vs2.length := by omega
    exact ⟨vs, vs2, vs[i], vs2[i], s.seq hsq, s.seq hsq2, List.getElem?_eq_getElem i1, List.getElem?_eq_getElem i2⟩
  · obtain ⟨T, y, z, rfl, nT, rfl, f1, f2⟩ := hy
    obtain ⟨r1, e1, k1⟩ := hl.got (f1 vs (s2.seq (s.seq hsq)))
    obtain ⟨r2, e2, k2⟩ := hl2.got (f2 vs2 (s2.seq (s.seq hsq2)))
    refine ⟨_, .new s2 nT, T, [y, z], rfl, SqT.of upd_same, ?_⟩
    have sn : Same F2 (upd F2 T (.tup [y, z])) := same_new (s2.free nT)
    rw [List.getD_eq_getElem?_getD, List.getD_eq_getElem?_getD, e1, e2]
    exact .cons (r1.mono (s.trans sn) k1) (.cons (r2.mono (s.trans sn) k2) .nil)
theorem sr_enum {jj : Nat} {tpos : Pos} (B : BX X N sc k) (hm : X.mg "enumerate" = none) (h : DE X Γ it (rLst X.K l)) (hg : sc.names.lookup ("enumerate" : Str) = some NameKind.globalImplicit) (hs : starEach [it] X.env = [(false, eval it X.env)] := by rfl) :
    SR X Γ (.Tuple es jj tpos) (.Call (.Name "enumerate" p) [it] [] pos) l.length (fun i => rTup X.K [rInt (i : Nat), l.getD i rNon]) := fun F0 H0 F H σ en R q => by
  have hgl : Gl X "enumerate" := by
    show X.env.scope.names.lookup _ = _
    rw [B.hsc]
    exact hg
  refine .of (pi_enum hgl hm (pa_cons pe_ev pa_nil hs) hs) (h F0 H0 F H σ en _ fun v F1 H1 g hv => ?_)
  obtain ⟨p, vs, rfl, hsq, hl⟩ := hv
  refine ⟨p, vs, rfl, g.s.seq hsq, q _ F1 H1 g ⟨fun i H2 s hi => ⟨vs, s.seq hsq, ?_⟩, fun i H2 s hi => ?_, fun i F2 H2 x H' s s2 hi hy => ?_⟩⟩
  · rw [← hl.len]
    exact hi
  · have i1 : i < vs.length := hl.len ▸ hi
    exact ⟨vs, vs[i], s.seq hsq, List.getElem?_eq_getElem i1⟩
  · obtain ⟨T, y, rfl, nT, rfl, f1⟩ := hy
    obtain ⟨r1, e1, k1⟩ := hl.got (f1 vs (s2.seq (s.seq hsq)))
    refine ⟨_, .new s2 nT, T, _, rfl, SqT.of upd_same, ?_⟩
    have sn : Same F2 (upd F2 T (.tup [.int (i : Nat), y])) := same_new (s2.free nT)
    rw [List.getD_eq_getElem?_getD, e1]
    exact .cons rfl (.cons (r1.mono (s.trans sn) k1) .nil)

/-! ### for -/
structure Up (F0 F1 H0 : Hp) : Prop where
  up : ∀ F H, Gr F1 H0 F H → Gr F0 H0 F H
variable {F0 H0 F1 F H : Hp} {σ : L2.St} {st body : List Stmt} {D : Ends} {n : Nat} {rr : Nat → Rep}
theorem Up.en (u : Up F0 F1 H0) (en : En F1 H0 F H σ Γ) : En F0 H0 F H σ Γ := ⟨u.up _ _ en.gr, en.len, en.ok, en.own, en.sep⟩
theorem Up.rt {ret : Ret} (u : Up F0 F1 H0) (h : RT F0 H0 ret D) : RT F1 H0 ret D := fun v F' H' g hv => h v F' H' (u.up _ _ g) (by
  cases ret with
  | val r => exact hv
  | lst l => exact hv
  | tfr K l rs => exact hv)
/-- what is wanted behind a turn -/
def LN (F1 H0 : Hp) (Iv : Nat → List Sl → Prop) (j : Nat) : L2.St → Hp → Prop := fun σ H => ∃ F Γ, En F1 H0 F H σ Γ ∧ Iv j Γ
theorem go_brk (u : Up F0 F1 H0) {D0 : Ends} (h : GO X F0 H0 body D0 Γ) (e : D.bk = XS X body D0 := by rfl) : GO X F1 H0 (.Break pos :: st) D Γ := go_break fun F H σ en => by rw [e]; exact h F H σ (u.en en)
theorem go_for {ws : List Nat} (B : BX X N sc k) (Iv : Nat → List Sl → Prop) (hi : SR X Γ tg it n rr) {Γ0 : List Sl} (hle : SlLe Γ Γ0) (h0 : Iv 0 Γ0) (G1 : Nat → List Sl → List Sl)
    (hg : ∀ i Γ', i < n → Iv i Γ' → DG X Γ' tg (rr i) (G1 i Γ') ws)
    (hb : ∀ F1, Up F0 F1 H0 → ∀ i Γ', i < n → Iv i Γ' → GO X F1 H0 body { D with nx := LN F1 H0 Iv (i + 1), ct := LN F1 H0 Iv (i + 1), bk := XS X st D } (G1 i Γ'))
    (he : ∀ Γ', Iv n Γ' → GO X F0 H0 st D Γ') (hs : ∀ x, foldedSetIterable it X.env x = pure x := by intro _; rfl) : GO X F0 H0 (.For tg it body [] pos :: st) D Γ := fun F H σ en => by
  refine .of (pss_cons (ps_for B.own B.calm pi_ev pg_ev pss_ev hs) pss_ev) ?_
  refine hi F0 H0 F H σ en _ fun J F1 H1 g wk => ?_
  have en1 := en.grow g
  have u : Up F0 F1 H0 := ⟨fun F2 H2 g2 => ⟨en1.gr.f.trans g2.f, g2.h, g2.s, fun a ha z => g2.n a ha (en1.gr.n a ha z)⟩⟩
  have start : En F1 H0 F1 H1 σ Γ := ⟨⟨Same.refl _, en1.gr.h, g.s, fun _ _ z => z⟩, en1.len, en1.ok, en1.own, en1.sep⟩
  refine ⟨fun i m σ H => m = n - i ∧ i ≤ n ∧ LN F1 H0 Iv i σ H, ⟨n, by simp, Nat.zero_le _, F1, Γ0, start.le hle, h0⟩, fun i m σ2 H2 hw => ?_⟩
  obtain ⟨rfl, hle, F2, Γ2, en2, iv⟩ := hw
  have s2 : Same F1 H2 := en2.gr.f.trans en2.gr.s
  by_cases hlt : i < n
  · refine .inr ⟨wk.go i H2 s2 hlt, LN F1 H0 Iv (i + 1), fun σ' H' h => ⟨n - (i + 1), by omega, rfl, hlt, h⟩, fun x H' hy => ?_⟩
    obtain ⟨F3, g3, hx⟩ := wk.yld i F2 H2 x H' en2.gr.f en2.gr.s hlt hy
    exact hg i Γ2 hlt iv F1 H0 F3 H' σ2 x (en2.grow g3) hx _ fun F4 H4 σ4 g4 en4 _ => hb F1 u i Γ2 hlt iv F4 H4 σ4 en4
  · have e : i = n := by omega
    subst e
    exact .inl ⟨wk.stop i H2 s2 (Nat.le_refl _), he Γ2 iv F2 H2 σ2 (u.en en2)⟩
/-- a, b = e -/
theorem go_asg {ws : List Nat} (he : DE X Γ e r) (hg : DG X Γ tg r Γ' ws) (h : GO X F0 H0 st D Γ') (hs : swapsWithSole [tg] e pos.line X.env = pure false := by rfl) (hw : swappedStores [tg] e X.env = pure none := by rfl)
    (h1 : (assignEach [tg] X.env).map (·.2) = [assign tg X.env] := by rfl) : GO X F0 H0 (.Assign [tg] e pos :: st) D Γ := fun F H σ en => by
  refine .of (pss_cons (ps_asg pe_ev pg_ev hs hw h1) pss_ev) ?_
  exact he F0 H0 F H σ en _ fun v F1 H1 g hv => hg F0 H0 F1 H1 σ v (en.grow g) hv _ fun F2 H2 σ2 g2 en2 _ => h F2 H2 σ2 en2
/-- a, b = x, y -/
theorem go_par {i j : Nat} {y : Str} {px py pt : Pos} {kt k2 : Nat} {pt2 : Pos} (B : BX X N sc k) (ha : DE X Γ a ra) (hb : DE X Γ b rb) (hi : N[i]? = some x) (hj : N[j]? = some y) (hij : i ≠ j) (hx : sc.names.lookup x = some .local) (hy : sc.names.lookup y = some .local)
    (h : GO X F0 H0 st D ((Γ.set i (.im ra)).set j (.im rb))) (hw : ∀ env : Env, env.scope = sc → swappedStores [.Tuple [.Name x px, .Name y py] kt pt] (.Tuple [a, b] k2 pt2) env = pure (some [x, y]))
    (hs : swapsWithSole [.Tuple [.Name x px, .Name y py] kt pt] (.Tuple [a, b] k2 pt2) pos.line X.env = pure false := by rfl)
    (hs1 : starEach [a, b] X.env = (false, eval a X.env) :: starEach [b] X.env := by rfl) (hs2 : starEach [b] X.env = (false, eval b X.env) :: starEach [] X.env := by rfl) :
    GO X F0 H0 (.Assign [.Tuple [.Name x px, .Name y py] kt pt] (.Tuple [a, b] k2 pt2) pos :: st) D Γ := fun F H σ en => by
  refine .of (pss_cons (ps_par (i := i) (j := j) B.calm (by rw [B.hN]; exact B.nd) (by rw [B.hN]; exact hi) (by rw [B.hN]; exact hj) hij (by rw [B.hsc]; exact hx) (by rw [B.hsc]; exact hy) (pa_cons pe_ev (pa_cons pe_ev pa_nil hs2) hs1) (hw X.env B.hsc) hs) pss_ev) ?_
  exact ha F0 H0 F H σ en _ fun v F1 H1 g1 h1 => hb F0 H0 F1 H1 σ (en.grow g1) _ fun u F2 H2 g2 h2 => ⟨v, u, rfl, h F2 H2 _ (((en.grow g1).grow g2).setIm (ra.mono g2.f h1) |>.setIm h2)⟩
end
end DL

set_option Elab.async false
set_option linter.all false
set_option maxRecDepth 100000
set_option maxHeartbeats 4000000
namespace DL
open PySem PySem.Spec PyProof.Rows L2
theorem RL.atI {F : Hp} {l : List Rep} {vs : List V} {i : Int} {r : Rep} (h : RL F l vs) (e : L2.atI l i = some r) : ∃ v, L2.atI vs i = some v ∧ r.P F v := by
  unfold L2.atI at e ⊢
  rw [h.len] at e
  cases q : ixN vs.length i with
  | none => rw [q] at e; cases e
  | some j =>
    rw [q] at e
    exact h.get e
def cutR {α : Type} (xs : List α) (lo hi : Option Int) : List α := (xs.drop (HT.sIx xs.length 0 lo)).take (HT.sIx xs.length xs.length hi - HT.sIx xs.length 0 lo)
theorem RL.cut {F : Hp} {l : List Rep} {vs : List V} {lo hi : Option Int} (h : RL F l vs) : RL F (cutR l lo hi) (cutV vs lo hi) := by
  unfold cutR cutV
  rw [h.len]
  exact (h.drop _).take _
theorem cutR_map {α β : Type} (f : α → β) (xs : List α) (lo hi : Option Int) : cutR (xs.map f) lo hi = (cutR xs lo hi).map f := by
  unfold cutR
  rw [List.length_map, List.map_take, List.map_drop]
theorem cutR_to {α : Type} (xs : List α) (n : Nat) : cutR xs none (some (n : Int)) = xs.take n := by
  unfold cutR
  rw [HT.sIx_none, HT.sIx_nat, List.drop_zero, Nat.sub_zero]
  by_cases h : n ≤ xs.length
  · rw [Nat.min_eq_left h]
  · rw [Nat.min_eq_right (by omega), List.take_of_length_le (Nat.le_refl _), List.take_of_length_le (by omega)]
theorem cutR_from {α : Type} (xs : List α) (n : Nat) : cutR xs (some (n : Int)) none = xs.drop n := by
  unfold cutR
  rw [HT.sIx_none, HT.sIx_nat]
  by_cases h : n ≤ xs.length
  · rw [Nat.min_eq_left h, List.take_of_length_le (by rw [List.length_drop]; omega)]
  · rw [Nat.min_eq_right (by omega), Nat.sub_self, List.take_zero, List.drop_eq_nil_of_le (by omega)]
section
variable {X : Cx} {N : List Str} {sc : Scope} {k j : Nat} {Γ Γ' Γ1 : List Sl} {tg it a b c e : Expr} {es rest : List Expr} {r ra rb rc r' : Rep} {rs l l2 : List Rep} {pos p p2 : Pos} {x : Str} {i : Nat} {ws ws' : List Nat} {F0 H0 F1 F H : Hp} {σ : L2.St} {st body : List Stmt} {D : Ends}
/-! places -/
theorem de_ixr {r2 : R2} (hr : IxR X r2) (h2 : B2 r2 ra rb rc) (ha : DE X Γ a ra) (hb : DE X Γ b rb) (hs : PlainIx b := by exact fun _ _ => rfl) : DE X Γ (.Subscript a b pos) rc := fun F0 H0 F H σ en Q q =>
  .of (pe_ix hr pe_ev pe_ev hs) (two ha hb h2 en q)
theorem de_ixL {n : Int} (h : atI l n = some r) (ha : DE X Γ a (rLst X.K l)) (hb : DE X Γ b (rInt n)) (hs : PlainIx b := by exact fun _ _ => rfl) : DE X Γ (.Subscript a b pos) r :=
  de_ixr ix_list (fun F H x y s h1 h2 Q q => by
    obtain ⟨p, vs, rfl, k1, k2⟩ := h1
    cases h2
    obtain ⟨v, k3, k4⟩ := k2.atI h
    exact ⟨p, vs, n, v, rfl, rfl, s.seq k1, k3, q v F H (.refl s) k4⟩) ha hb hs
theorem de_ixT {n : Int} (h : atI l n = some r) (ha : DE X Γ a (rTup X.K l)) (hb : DE X Γ b (rInt n)) (hs : PlainIx b := by exact fun _ _ => rfl) : DE X Γ (.Subscript a b pos) r :=
  de_ixr ix_tup (fun F H x y s h1 h2 Q q => by
    obtain ⟨p, vs, rfl, k1, k2⟩ := h1
    cases h2
    obtain ⟨v, k3, k4⟩ := k2.atI h
    exact ⟨p, vs, n, v, rfl, rfl, sqt_mono s k1, k3, q v F H (.refl s) k4⟩) ha hb hs
/-- an item of a list of one's own -/
theorem de_ixO {n : Int} (B : BX X N sc k) (h : atI l n = some r) (hΓ : Γ[i]? = some (.ow l)) (hN : N[i]? = some x) (hv : Vis sc x) (hb : DE X Γ b (rInt n)) (hs : PlainIx b := by exact fun _ _ => rfl) (hd : (x == ("__debug__" : Str)) = false := by decide) (hcd : (x == ("__classdict__" : Str)) = false := by decide) :
    DE X Γ (.Subscript (.Name x p) b pos) r := fun F0 H0 F H σ en Q q => by
  obtain ⟨p, vs, h1, h2, h3, h4, h5⟩ := en.ow hΓ
  refine .of (pe_ix ix_list (pe_var (i := i) (B.hN ▸ hN) (B.hsc ▸ hv) hd hcd) pe_ev hs) ⟨_, h1, hb F0 H0 F H σ en _ fun v F' H' g hv => ?_⟩
  cases hv
  obtain ⟨v, k3, k4⟩ := h4.atI h
  exact ⟨p, vs, n, v, rfl, rfl, SqL.of (g.h _ _ h3), k3, q v F' H' g (r.mono g.f k4)⟩
/-- x[i] = e, x a list of one's own -/
theorem go_put {n : Int} {jj : Nat} {tpos : Pos} (B : BX X N sc k) (he : DE X Γ e r) (hb : DE X Γ b (rInt n)) (hj : ixN l.length n = some jj) (hΓ : Γ[i]? = some (.ow l)) (hN : N[i]? = some x) (hv : Vis sc x) (h : GO X F0 H0 st D (Γ.set i (.ow (l.set jj r))))
    (hd : (x == ("__debug__" : Str)) = false := by decide) (hcd : (x == ("__classdict__" : Str)) = false := by decide)
    (ha : ∀ v, assign (.Subscript (.Name x p) b tpos) X.env v = (do
      let ov ← holding [v] (eval (.Name x p) X.env)
      let iv ← holding [v, ov] (eval b X.env)
      standAt tpos
      holding [v, ov, iv] (setItem ov iv v)
      release [v, ov, iv] []) := by intro _; rfl)
    (hs : swapsWithSole [.Subscript (.Name x p) b tpos] e pos.line X.env = pure false := by rfl) (hw : swappedStores [.Subscript (.Name x p) b tpos] e X.env = pure none := by rfl)
    (h1 : (assignEach [.Subscript (.Name x p) b tpos] X.env).map (·.2) = [assign (.Subscript (.Name x p) b tpos) X.env] := by rfl) :
    GO X F0 H0 (.Assign [.Subscript (.Name x p) b tpos] e pos :: st) D Γ := fun F H σ en => by
  refine .of (pss_cons (ps_asg pe_ev (pg_sub (pe_var (i := i) (B.hN ▸ hN) (B.hsc ▸ hv) hd hcd) pe_ev set_list ha) hs hw h1) pss_ev) ?_
  refine he F0 H0 F H σ en _ fun v F1 H1 g1 hv1 => ?_
  have en1 := en.grow g1
  obtain ⟨q, vs, k1, k2, k3, k4, k5⟩ := en1.ow hΓ
  refine ⟨_, k1, hb F0 H0 F1 H1 σ en1 _ fun v2 F2 H2 g2 hv2 => ?_⟩
  cases hv2
  have en2 := en1.grow g2
  refine ⟨q, vs, n, jj, rfl, rfl, g2.h _ _ k3, by rw [← k4.len]; exact hj, ?_⟩
  exact h F2 _ σ (en2.put hΓ k1 ((k4.mono g2.f).set (r.mono g2.f hv1) jj))
/-! lengths -/
theorem cb_lenL : CB (fun xs H Q => ∃ p ys, xs = [V.ref p] ∧ (SqL X.K H p ys ∨ SqT X.K H p ys) ∧ Q (.int ys.length) H) [rLst X.K l] (rInt l.length) := fun F H vs s h Q q => by
  obtain ⟨v, rfl, p, ys, rfl, k1, k2⟩ := rl1 h
  exact ⟨p, ys, rfl, .inl (s.seq k1), q _ F H (.refl s) (by rw [k2.len]; rfl)⟩
theorem de_lenL (B : BX X N sc k) (hm : X.mg "len" = none) (h : DE X Γ e (rLst X.K l)) (hg : sc.names.lookup ("len" : Str) = some NameKind.globalImplicit) (he : starEach (e :: []) X.env = (false, eval e X.env) :: starEach [] X.env := by rfl) : DE X Γ (.Call (.Name "len" p) [e] [] pos) (rInt l.length) :=
  de_blt B call_len_seq cb_lenL hm PySem.boot_len (da_cons h da_nil he) hg (he := he)
/-- len of a list of one's own -/
theorem de_lenO (B : BX X N sc k) (hm : X.mg "len" = none) (hΓ : Γ[i]? = some (.ow l)) (hN : N[i]? = some x) (hv : Vis sc x) (hg : sc.names.lookup ("len" : Str) = some NameKind.globalImplicit) (hd : (x == ("__debug__" : Str)) = false := by decide) (hcd : (x == ("__classdict__" : Str)) = false := by decide)
    (he : starEach (Expr.Name x p2 :: []) X.env = (false, eval (.Name x p2) X.env) :: starEach [] X.env := by rfl) : DE X Γ (.Call (.Name "len" p) [.Name x p2] [] pos) (rInt l.length) := fun F0 H0 F H σ en Q q => by
  obtain ⟨pp, vs, h1, h2, h3, h4, h5⟩ := en.ow hΓ
  have hgl : Gl X "len" := by
    show X.env.scope.names.lookup _ = _
    rw [B.hsc]
    exact hg
  exact .of (pe_callB call_len_seq hgl hm PySem.boot_len (pa_cons (pe_var (i := i) (B.hN ▸ hN) (B.hsc ▸ hv) hd hcd) pa_nil he) (he := he)) ⟨_, h1, pp, vs, rfl, .inl (SqL.of h3), q _ F H (.refl en.gr.s) (by rw [h4.len]; rfl)⟩
/-! list(xs), xs[a:b]: new lists -/
theorem dl_list (B : BX X N sc k) (hm : X.mg "list" = none) (h : DE X Γ e (rLst X.K l)) (hg : sc.names.lookup ("list" : Str) = some NameKind.globalImplicit) (he : starEach (e :: []) X.env = (false, eval e X.env) :: starEach [] X.env := by rfl) : DL X Γ (.Call (.Name "list" p) [e] [] pos) l := fun F0 H0 F H σ en Q q => by
  have hgl : Gl X "list" := by
    show X.env.scope.names.lookup _ = _
    rw [B.hsc]
    exact hg
  refine .of (pe_callTy call_list_of hgl hm (by decide +kernel) (pa_cons pe_ev pa_nil he) (he := he)) (h F0 H0 F H σ en _ fun v F1 H1 g hv => ?_)
  obtain ⟨p, vs, rfl, k1, k2⟩ := hv
  exact ⟨p, vs, rfl, .inl (g.s.seq k1), fun q' hq => q q' vs F1 _ (g.trans (.newOwn g.s hq)) (g.h.free hq) (g.s.free hq) upd_same k2⟩
def DO (X : Cx) (Γ : List Sl) (e : Option Expr) (o : Option Int) : Prop := match e, o with
  | none, none => True
  | some e, some n => DE X Γ e (rInt n)
  | _, _ => False
theorem dl_slice {lo hi : Option Expr} {ol oh : Option Int} (h : DE X Γ e (rLst X.K l)) (h1 : DO X Γ lo ol) (h2 : DO X Γ hi oh) : DL X Γ (.Subscript e (.Slice lo hi none p2) pos) (cutR l ol oh) := fun F0 H0 F H σ en Q q => by
  have part : ∀ {o : Option Expr} {w : Option Int}, DO X Γ o w → ∃ t, PO X o t ∧ ∀ F H, En F0 H0 F H σ Γ → ∀ R : Option Int → Hp → Prop, (∀ F' H', Gr F H F' H' → R w H') → t σ H R := fun {o w} hd => by
    match o, w, hd with
    | none, none, _ => exact ⟨_, po_none, fun F H en R q => q F H (.refl en.gr.s)⟩
    | some e, some n, hd => exact ⟨_, po_some pe_ev, fun F H en R q => hd F0 H0 F H σ en _ fun v F' H' g hv => ⟨n, hv, q F' H' g⟩⟩
    | none, some _, hd => exact hd.elim
    | some _, none, hd => exact hd.elim
  obtain ⟨t1, q1, w1⟩ := part h1
  obtain ⟨t2, q2, w2⟩ := part h2
  refine .of (pe_slice sl_list pe_ev q1 q2) (h F0 H0 F H σ en _ fun v F1 H1 g hv => w1 F1 H1 (en.grow g) _ fun F2 H2 g2 => w2 F2 H2 ((en.grow g).grow g2) _ fun F3 H3 g3 => ?_)
  obtain ⟨p, vs, rfl, k1, k2⟩ := hv
  have gg := (g.trans g2).trans g3
  exact ⟨p, vs, rfl, g3.s.seq ((g2.f.trans g3.f).seq k1), fun q' hq => q q' _ F3 _ (gg.trans (.newOwn gg.s hq)) (gg.h.free hq) (gg.s.free hq) upd_same (k2.cut.mono (g2.f.trans g3.f))⟩
theorem dl_cat (ha : DL X Γ a l) (hb : DL X Γ b l2) (hl : l.length + l2.length ≤ sizeLine) : DL X Γ (.BinOp a .Add b pos) (l ++ l2) := fun F0 H0 F H σ en Q q =>
  .of (pe_op op_cat pe_ev pe_ev) (ha F0 H0 F H σ en _ fun p1 vs1 F1 H1 g1 a1 a2 a3 a4 => hb F0 H0 F1 H1 σ (en.grow g1) _ fun p2 vs2 F2 H2 g2 b1 b2 b3 b4 =>
    ⟨p1, p2, vs1, vs2, rfl, rfl, g2.h _ _ a3, b3, by rw [← a4.len, ← b4.len]; exact hl, fun q' hq => q q' _ F2 _ ((g1.trans g2).trans (.newOwn g2.s hq)) ((g1.trans g2).h.free hq) (g2.s.free hq) upd_same ((a4.mono g2.f).app b4)⟩)
/-! kinds -/
def RTy (K : PySem.W.Frag) (r : Rep) (t : Value) : Prop := ∀ F H v, Same F H → r.P F v → TyX K H v t
theorem rty_int {K : PySem.W.Frag} {n : Int} : RTy K (rInt n) (.type "int") := fun F H v s h => by cases h; exact .base (.int n)
theorem rty_tup {K : PySem.W.Frag} : RTy K (rTup K l) (.type "tuple") := fun F H v s h => by
  obtain ⟨p, vs, rfl, h1, h2⟩ := h
  rcases sqt_mono s h1 with (h | ⟨o, h⟩) | h
  · exact .base (.tup h)
  · exact .fTuple h
  · obtain ⟨_, _, _, hk, hc, _⟩ := h
    exact .kTuple hk hc
theorem rty_lst {K : PySem.W.Frag} : RTy K (rLst K l) (.type "list") := fun F H v s h => by
  obtain ⟨p, vs, rfl, h1, h2⟩ := h
  rcases s.seq h1 with (h | ⟨o, h⟩) | h
  · exact .base (.lst h)
  · exact .base (.frz h)
  · obtain ⟨_, _, _, hk, hc, _⟩ := h
    exact .kList hk hc
theorem cb_isi {t : Value} {T : String} {u : Bool} (h : RTy X.K r t) (hk : PySem.W.kitOne X.K t (.type T) = some u) : CB (rIsi X.K) [r, rC (.ty T)] (rBl u) := fun F H vs s hv Q q => by
  obtain ⟨v, w, rfl, h1, h2⟩ := rl2 hv
  cases h2
  exact ⟨v, .ty T, t, .type T, u, rfl, .ty T, h F H v s h1, hk, q _ F H (.refl s) rfl⟩
theorem de_ty {T : String} (B : BX X N sc k) (hm : X.mg x = none) (hv : bootBuiltins x = some (.type T)) (hg : sc.names.lookup x = some .globalImplicit) (hn : x ≠ "__name__" := by decide) (hdb : (x == ("__debug__" : Str)) = false := by decide) : DE X Γ (.Name x pos) (rC (.ty T)) := fun F0 H0 F H σ en Q q => by
  have hgl : Gl X x := by
    show X.env.scope.names.lookup x = _
    rw [B.hsc]
    exact hg
  exact .of (pe_bltn (v := .ty T) hgl hm hv rfl hn hdb) (q _ F H (.refl en.gr.s) rfl)
theorem de_isi {t : Value} {T : String} {u : Bool} (B : BX X N sc k) (hm : X.mg "isinstance" = none) (h : RTy X.K r t) (hk : PySem.W.kitOne X.K t (.type T) = some u) (ha : DE X Γ a r) (hb : DE X Γ b (rC (.ty T))) (hg : sc.names.lookup ("isinstance" : Str) = some NameKind.globalImplicit)
    (he : starEach (a :: [b]) X.env = (false, eval a X.env) :: starEach [b] X.env := by rfl) (he2 : starEach (b :: []) X.env = (false, eval b X.env) :: starEach [] X.env := by rfl) (hpl : (backTo pos (starEach [b] X.env)).any (·.1) = false := by rfl) : DE X Γ (.Call (.Name "isinstance" p) [a, b] [] pos) (rBl u) :=
  de_blt B call_isi (cb_isi h hk) hm (by decide +kernel) (da_cons ha (da_cons hb da_nil he2) he) hg (he := he) (hpl := hpl)
/-! equal data -/
mutual
theorem dp_mono {K : PySem.W.Frag} {F H : Hp} (s : Same F H) : ∀ (d : PyData) (v : V), Dp K F v d → Dp K H v d
  | _, _, .non => .non
  | _, _, .bl b => .bl b
  | _, _, .int i => .int i
  | _, _, .str x => .str x
  | _, _, .lst h a => .lst (s.seq h) (dpa_mono s _ _ a)
  | _, _, .tup h a => .tup (sqt_mono s h) (dpa_mono s _ _ a)
theorem dpa_mono {K : PySem.W.Frag} {F H : Hp} (s : Same F H) : ∀ (ds : List PyData) (vs : List V), DpAll K F vs ds → DpAll K H vs ds
  | _, _, .nil => .nil
  | _, _, .cons h t => .cons (dp_mono s _ _ h) (dpa_mono s _ _ t)
end
def DpL (K : PySem.W.Frag) (r : Rep) (d : PyData) : Prop := ∀ F v, r.P F v → Dp K F v d
theorem dpl_int {K : PySem.W.Frag} {n : Int} : DpL K (rInt n) (.int n) := fun F v h => by cases h; exact .int n
theorem dpl_str {K : PySem.W.Frag} {n : Str} : DpL K (rStr n) (.str n) := fun F v h => by cases h; exact .str n
theorem dpa_of {K : PySem.W.Frag} {F : Hp} {α : Type} {R : α → Rep} {d : α → PyData} : ∀ {xs : List α} {vs : List V}, (∀ x ∈ xs, DpL K (R x) (d x)) → RL F (xs.map R) vs → DpAll K F vs (xs.map d)
  | [], _, _, h => by cases h; exact .nil
  | x :: xs, _, hd, h => by
    cases h with
    | cons a t => exact .cons (hd x List.mem_cons_self F _ a) (dpa_of (fun y hy => hd y (List.mem_cons_of_mem _ hy)) t)
theorem dpl_lst {K : PySem.W.Frag} {α : Type} {R : α → Rep} {d : α → PyData} {xs : List α} (h : ∀ x ∈ xs, DpL K (R x) (d x)) : DpL K (rLst K (xs.map R)) (.list (xs.map d)) := fun F v hv => by
  obtain ⟨p, vs, rfl, h1, h2⟩ := hv
  exact .lst h1 (dpa_of h h2)
theorem dpl_tup {K : PySem.W.Frag} {α : Type} {R : α → Rep} {d : α → PyData} {xs : List α} (h : ∀ x ∈ xs, DpL K (R x) (d x)) : DpL K (rTup K (xs.map R)) (.tuple (xs.map d)) := fun F v hv => by
  obtain ⟨p, vs, rfl, h1, h2⟩ := hv
  exact .tup h1 (dpa_of h h2)
theorem dpl_tup2 {K : PySem.W.Frag} {d1 d2 : PyData} (h1 : DpL K ra d1) (h2 : DpL K rb d2) : DpL K (rTup K [ra, rb]) (.tuple [d1, d2]) := fun F v hv => by
  obtain ⟨p, vs, rfl, k1, k2⟩ := hv
  obtain ⟨v, w, rfl, a, b⟩ := rl2 k2
  exact .tup k1 (.cons (h1 F v a) (.cons (h2 F w b) .nil))
theorem b2_eqD {d1 d2 : PyData} (h1 : DpL X.K ra d1) (h2 : DpL X.K rb d2) (s1 : SeqAt.shaped d1 = true) (s2 : SeqAt.shaped d2 = true) : B2 (rEqD X.K) ra rb (rBl (PyData.eqv d1 d2)) := fun F H x y s k1 k2 Q q =>
  ⟨d1, d2, dp_mono s _ _ (h1 F x k1), dp_mono s _ _ (h2 F y k2), s1, s2, q _ F H (.refl s) rfl⟩
theorem b2_neD {d1 d2 : PyData} (h1 : DpL X.K ra d1) (h2 : DpL X.K rb d2) (s1 : SeqAt.shaped d1 = true) (s2 : SeqAt.shaped d2 = true) : B2 (rNeD X.K) ra rb (rBl (!PyData.eqv d1 d2)) := fun F H x y s k1 k2 Q q =>
  ⟨d1, d2, dp_mono s _ _ (h1 F x k1), dp_mono s _ _ (h2 F y k2), s1, s2, q _ F H (.refl s) rfl⟩
theorem BX.hu (B : BX X N sc k) : X.A.units + 64 < cLine := B.room.units
/-! gcd, lcm, abs, int -/
theorem de_gcd {m n : Int} (B : BX X N sc k) (hm : X.mg x = some (.builtin "math.gcd")) (ha : DE X Γ a (rInt m)) (hb : DE X Γ b (rInt n)) (hg : sc.names.lookup x = some .globalImplicit) (hdb : (x == ("__debug__" : Str)) = false := by decide)
    (he : starEach (a :: [b]) X.env = (false, eval a X.env) :: starEach [b] X.env := by rfl) (he2 : starEach (b :: []) X.env = (false, eval b X.env) :: starEach [] X.env := by rfl) (hpl : (backTo pos (starEach [b] X.env)).any (·.1) = false := by rfl) : DE X Γ (.Call (.Name x p) [a, b] [] pos) (rInt (Int.gcd m n : Nat)) :=
  de_bfun B cr_gcd (fun F H vs s hv Q q => by
    obtain ⟨v, w, rfl, h1, h2⟩ := rl2 hv
    cases h1
    cases h2
    exact ⟨m, n, rfl, q _ F H (.refl s) rfl⟩) hm (da_cons ha (da_cons hb da_nil he2) he) hg hdb (he := he) (hpl := hpl)
def rLcm : List V → Hp → VK → Prop := fun vs H Q => ∃ a b : Int, vs = [.int a, .int b] ∧ a.natAbs.log2 < 10000 ∧ b.natAbs.log2 < 10000 ∧ Q (.int ((Nat.lcm a.natAbs b.natAbs : Nat) : Int)) H
theorem lcm_log {a b : Nat} (ha : a.log2 < 10000) (hb : b.log2 < 10000) : (Nat.lcm a b).log2 < 20002 := by
  by_cases h0 : Nat.lcm a b = 0
  · rw [h0, Nat.log2_zero]; decide
  · have hab : Nat.lcm a b ≤ a * b := Nat.div_le_self _ _
    have ha1 : a < 2 ^ 10001 := by
      by_cases z : a = 0
      · subst z; exact Nat.pow_pos (by decide)
      · exact (Nat.log2_lt z).mp (by omega)
    have hb1 : b < 2 ^ 10001 := by
      by_cases z : b = 0
      · subst z; exact Nat.pow_pos (by decide)
      · exact (Nat.log2_lt z).mp (by omega)
    have : Nat.lcm a b < 2 ^ 20002 := by
      have h1 : a * b < 2 ^ 10001 * 2 ^ 10001 := Nat.mul_lt_mul'' ha1 hb1
      rw [← Nat.pow_add] at h1
      exact Nat.lt_of_le_of_lt hab h1
    exact (Nat.log2_lt h0).mpr this
theorem cr_lcm : CallR X (.builtin "math.lcm") rLcm := by
  intro pins s σ H vs us Q I r h
  obtain ⟨a, b, rfl, ha, hb, q⟩ := h
  obtain ⟨t, u, rfl⟩ := Vals.int2 r
  have e1 : Nat.lcm 1 a.natAbs = a.natAbs := Nat.lcm_one_left _
  have m : ∀ x y : Nat, (max x y).log2 ≤ max x.log2 y.log2 := fun x y => by
    rcases Nat.le_total x y with z | z
    · rw [Nat.max_eq_right z]; exact Nat.le_max_right _ _
    · rw [Nat.max_eq_left z]; exact Nat.le_max_left _ _
  have m1 := m 1 a.natAbs
  have m2 := m a.natAbs b.natAbs
  have l1 : Nat.log2 1 = 0 := by decide
  have hl := lcm_log ha hb
  have hbl : bitsLine = 134217728 := by decide
  refine call_function_meets PySem.W.MGF.kind_lcm PySem.W.MGF.plain_lcm PySem.W.MGF.entry_lcm (PySem.W.MGF.args_lcm _ _) (PySem.W.mg_run_lcm a t b u (by omega) (by omega) ?_).meets ?_
  · rw [e1, Int.natAbs_natCast, hbl]
    omega
  · rw [e1]
    exact ⟨.int _, H, I.tok _, ⟨_, rfl⟩, q⟩
theorem de_lcm {m n : Int} (B : BX X N sc k) (hm : X.mg x = some (.builtin "math.lcm")) (h1 : m.natAbs.log2 < 10000) (h2 : n.natAbs.log2 < 10000) (ha : DE X Γ a (rInt m)) (hb : DE X Γ b (rInt n)) (hg : sc.names.lookup x = some .globalImplicit) (hdb : (x == ("__debug__" : Str)) = false := by decide)
    (he : starEach (a :: [b]) X.env = (false, eval a X.env) :: starEach [b] X.env := by rfl) (he2 : starEach (b :: []) X.env = (false, eval b X.env) :: starEach [] X.env := by rfl) (hpl : (backTo pos (starEach [b] X.env)).any (·.1) = false := by rfl) : DE X Γ (.Call (.Name x p) [a, b] [] pos) (rInt (Int.lcm m n : Nat)) :=
  de_bfun B cr_lcm (fun F H vs s hv Q q => by
    obtain ⟨v, w, rfl, k1, k2⟩ := rl2 hv
    cases k1
    cases k2
    exact ⟨m, n, rfl, h1, h2, q _ F H (.refl s) rfl⟩) hm (da_cons ha (da_cons hb da_nil he2) he) hg hdb (he := he) (hpl := hpl)
theorem de_abs {m : Int} (B : BX X N sc k) (hm : X.mg "abs" = none) (ha : DE X Γ a (rInt m)) (hg : sc.names.lookup ("abs" : Str) = some NameKind.globalImplicit)
    (he : starEach (a :: []) X.env = (false, eval a X.env) :: starEach [] X.env := by rfl) : DE X Γ (.Call (.Name "abs" p) [a] [] pos) (rInt (m.natAbs : Nat)) :=
  de_blt B call_abs (fun F H vs s hv Q q => by
    obtain ⟨v, rfl, k1⟩ := rl1 hv
    cases k1
    exact ⟨m, rfl, q _ F H (.refl s) (by show V.int _ = V.int _; congr 1; split <;> omega)⟩) hm (by decide +kernel) (da_cons ha da_nil he) hg (he := he)
theorem de_toInt {m : Int} (B : BX X N sc k) (hm : X.mg "int" = none) (ha : DE X Γ a (rInt m)) (hg : sc.names.lookup ("int" : Str) = some NameKind.globalImplicit)
    (he : starEach (a :: []) X.env = (false, eval a X.env) :: starEach [] X.env := by rfl) : DE X Γ (.Call (.Name "int" p) [a] [] pos) (rInt m) :=
  de_bty B call_int1 (fun F H vs s hv Q q => by
    obtain ⟨v, rfl, k1⟩ := rl1 hv
    cases k1
    exact .inl ⟨m, rfl, q _ F H (.refl s) rfl⟩) hm (by decide +kernel) (da_cons ha da_nil he) hg (he := he)
/-! is None -/
def NotNon (r : Rep) : Prop := ∀ F v, r.P F v → v ≠ .non
theorem notNon_int {n : Int} : NotNon (rInt n) := fun F v h => by cases h; exact fun z => nomatch z
end
end DL

set_option Elab.async false
set_option linter.all false
set_option maxRecDepth 100000
set_option maxHeartbeats 4000000
namespace DL
open PySem PySem.Spec PyProof.Rows L2
/-- the slots after some stores -/
def sets (Γ : List Sl) : List (Nat × Sl) → List Sl
  | [] => Γ
  | (i, s) :: r => sets (Γ.set i s) r
section
variable {X : Cx} {N : List Str} {sc : Scope} {k j : Nat} {Γ Γ' Γ1 : List Sl} {tg it a b c e : Expr} {es rest : List Expr} {r ra rb rc r' : Rep} {rs l l2 : List Rep} {pos p p2 : Pos} {x : Str} {i : Nat} {ws ws' : List Nat} {F0 H0 F1 F H : Hp} {σ : L2.St} {st body : List Stmt} {D : Ends} {n : Nat} {rr : Nat → Rep}
/-- a loop whose slots are known at each turn: chg tells those that change -/
def IvS (Γ : List Sl) (chg : Nat → List (Nat × Sl)) (J : Nat → Prop) : Nat → List Sl → Prop := fun i Γ' => Γ' = sets Γ (chg i) ∧ J i
theorem go_forS {ws : List Nat} (B : BX X N sc k) (chg : Nat → List (Nat × Sl)) (J : Nat → Prop) (hi : SR X Γ tg it n rr) (G1 : Nat → List Sl) (hg : ∀ i, i < n → DG X (sets Γ (chg i)) tg (rr i) (G1 i) ws) (h0 : SlLe Γ (sets Γ (chg 0))) (j0 : J 0)
    (hb : ∀ F1, Up F0 F1 H0 → ∀ i, i < n → J i → GO X F1 H0 body { D with nx := LN F1 H0 (IvS Γ chg J) (i + 1), ct := LN F1 H0 (IvS Γ chg J) (i + 1), bk := XS X st D } (G1 i))
    (he : J n → GO X F0 H0 st D (sets Γ (chg n))) (hs : ∀ x, foldedSetIterable it X.env x = pure x := by intro _; rfl) : GO X F0 H0 (.For tg it body [] pos :: st) D Γ :=
  go_for B (IvS Γ chg J) hi h0 ⟨rfl, j0⟩ (fun i _ => G1 i) (fun i Γ' hlt hv => by rw [hv.1]; exact hg i hlt) (fun F1 u i Γ' hlt hv => hb F1 u i hlt hv.2) (fun Γ' hv => by rw [hv.1]; exact he hv.2) hs
theorem go_turnS {chg : Nat → List (Nat × Sl)} {J : Nat → Prop} {Γ0 : List Sl} (hj : J j) (h : SlLe Γ (sets Γ0 (chg j))) (e : D.nx = LN F1 H0 (IvS Γ0 chg J) j := by rfl) : GO X F1 H0 [] D Γ := go_nil fun F H σ en => by rw [e]; exact ⟨F, _, en.le h, rfl, hj⟩
/-! ### numbers -/
section
variable {q : Rat} {K : PySem.W.Frag}
theorem num_whole (h : q.den = 1) : rNum K q = rInt q.num := if_pos h
theorem num_pair (h : q.den ≠ 1) : rNum K q = rTup K [rInt q.num, rInt (q.den : Int)] := if_neg h
theorem num_int (n : Int) : rNum K (n : Rat) = rInt n := num_whole (Rat.den_intCast n)
theorem de_i2n {n : Int} (h : DE X Γ e (rInt n)) : DE X Γ e (rNum X.K (n : Rat)) := h.to (num_int n).symm
theorem de_n2i (hq : q.den = 1) (h : DE X Γ e (rNum X.K q)) : DE X Γ e (rInt q.num) := h.to (num_whole hq)
theorem de_n2t (hq : q.den ≠ 1) (h : DE X Γ e (rNum X.K q)) : DE X Γ e (rTup X.K [rInt q.num, rInt (q.den : Int)]) := h.to (num_pair hq)
theorem de_num0 (hq : q.den ≠ 1) (h : DE X Γ a (rNum X.K q)) {jj : Nat} : DE X Γ (.Subscript a (.Constant (.int 0) jj p) pos) (rInt q.num) := de_ixT rfl (de_n2t hq h) de_int
theorem de_num1 (hq : q.den ≠ 1) (h : DE X Γ a (rNum X.K q)) {jj : Nat} : DE X Γ (.Subscript a (.Constant (.int 1) jj p) pos) (rInt (q.den : Int)) := de_ixT rfl (de_n2t hq h) de_int
def numT (q : Rat) : Value := if q.den = 1 then .type "int" else .type "tuple"
theorem rty_num : RTy K (rNum K q) (numT q) := by
  unfold numT
  by_cases h : q.den = 1
  · rw [num_whole h, if_pos h]; exact rty_int
  · rw [num_pair h, if_neg h]; exact rty_tup
theorem kit_numT {K : PySem.W.Frag} : PySem.W.kitOne K (numT q) (.type "tuple") = some (decide (q.den ≠ 1)) := by
  unfold numT
  by_cases h : q.den = 1
  · rw [if_pos h, h]; exact kit_ty (by decide +kernel)
  · rw [if_neg h, decide_eq_true h]; exact kit_ty (by decide +kernel)
theorem kit_numI {K : PySem.W.Frag} : PySem.W.kitOne K (numT q) (.type "int") = some (decide (q.den = 1)) := by
  unfold numT
  by_cases h : q.den = 1
  · rw [if_pos h, h]; exact kit_ty (by decide +kernel)
  · rw [if_neg h, decide_eq_false h]; exact kit_ty (by decide +kernel)
theorem kit_numB {K : PySem.W.Frag} : PySem.W.kitOne K (numT q) (.type "bool") = some false := by
  unfold numT
  by_cases h : q.den = 1
  · rw [if_pos h]; exact kit_ty (by decide +kernel)
  · rw [if_neg h]; exact kit_ty (by decide +kernel)
/-- a pair of whole numbers is a number -/
theorem sub_pair {t b : Int} (h : (b : Int) ≠ 1) (h1 : q.num = t) (h2 : (q.den : Int) = b) : Sub (rTup K [rInt t, rInt b]) (rNum K q) := .of (by rw [num_pair (by omega), h1, h2])
theorem sub_whole {t : Int} (h : q.den = 1) (h1 : q.num = t) : Sub (rInt t) (rNum K q) := .of (by rw [num_whole h, h1])
def numD (q : Rat) : PyData := if q.den = 1 then .int q.num else .tuple [.int q.num, .int (q.den : Int)]
theorem dpl_num : DpL K (rNum K q) (numD q) := by
  unfold numD
  by_cases h : q.den = 1
  · rw [num_whole h, if_pos h]; exact dpl_int
  · rw [num_pair h, if_neg h]; exact dpl_tup2 dpl_int dpl_int
theorem numD_eq {q r : Rat} : PyData.eqv (numD q) (numD r) = decide (q = r) := by
  unfold numD
  by_cases h : q.den = 1 <;> by_cases k : r.den = 1
  · rw [if_pos h, if_pos k]
    show (q.num == r.num) = _
    by_cases e : q = r
    · subst e; simp
    · rw [decide_eq_false e]
      have : q.num ≠ r.num := fun z => e (Rat.ext z (by rw [h, k]))
      simpa using this
  · rw [if_pos h, if_neg k]
    have : q ≠ r := fun z => k (z ▸ h)
    rw [decide_eq_false this]; rfl
  · rw [if_neg h, if_pos k]
    have : q ≠ r := fun z => h (z ▸ k)
    rw [decide_eq_false this]; rfl
  · rw [if_neg h, if_neg k]
    show (q.num == r.num && ((q.den : Int) == (r.den : Int) && true)) = _
    by_cases e : q = r
    · subst e; simp
    · rw [decide_eq_false e]
      by_cases n : q.num = r.num
      · have : q.den ≠ r.den := fun z => e (Rat.ext n z)
        have : (q.den : Int) ≠ r.den := by omega
        simp [this]
      · simp [n]
theorem shaped_num : SeqAt.shaped (numD q) = true := by
  unfold numD
  by_cases h : q.den = 1
  · rw [if_pos h]; rfl
  · rw [if_neg h]; rfl
theorem dt_neN {r : Rat} (B : BX X N sc k) (ha : DE X Γ a (rNum X.K q)) (hb : DE X Γ b (rNum X.K r)) : DT X Γ (.Compare a [.NotEq] [b] pos) (!decide (q = r)) := (dt_cmp (op_neD B.hu) (b2_neD dpl_num dpl_num shaped_num shaped_num) ha hb (nomark _)).to (by rw [numD_eq])
end
/-! ### sizes of ints -/
def Lg (i : Int) : Nat := i.natAbs.log2
theorem lg_lt {i : Int} {n : Nat} : Lg i < n → i.natAbs < 2 ^ n := fun h => by
  by_cases h0 : i.natAbs = 0
  · rw [h0]; exact Nat.pow_pos (by decide)
  · exact (Nat.log2_lt h0).mp h
theorem lg_of {i : Int} {n : Nat} (hn : 0 < n) (h : i.natAbs < 2 ^ n) : Lg i < n := by
  unfold Lg
  by_cases h0 : i.natAbs = 0
  · rw [h0, Nat.log2_zero]; exact hn
  · exact (Nat.log2_lt h0).mpr h
theorem lg_mul (i j : Int) : Lg (i * j) ≤ Lg i + Lg j + 1 := by
  have h1 := lg_lt (i := i) (Nat.lt_succ_self _)
  have h2 := lg_lt (i := j) (Nat.lt_succ_self _)
  have h3 : (i * j).natAbs < 2 ^ ((Lg i + 1) + (Lg j + 1)) := by
    rw [Int.natAbs_mul, Nat.pow_add]
    exact Nat.mul_lt_mul'' h1 h2
  have := lg_of (by omega) h3
  omega
theorem lg_add (i j : Int) : Lg (i + j) ≤ max (Lg i) (Lg j) + 1 := by
  have h1 := lg_lt (i := i) (Nat.lt_succ_self _)
  have h2 := lg_lt (i := j) (Nat.lt_succ_self _)
  have m1 : 2 ^ (Lg i + 1) ≤ 2 ^ (max (Lg i) (Lg j) + 1) := Nat.pow_le_pow_right (by decide) (by omega)
  have m2 : 2 ^ (Lg j + 1) ≤ 2 ^ (max (Lg i) (Lg j) + 1) := Nat.pow_le_pow_right (by decide) (by omega)
  have e : 2 ^ (max (Lg i) (Lg j) + 2) = 2 * 2 ^ (max (Lg i) (Lg j) + 1) := by rw [Nat.pow_succ]; omega
  have h3 : (i + j).natAbs < 2 ^ (max (Lg i) (Lg j) + 2) := by omega
  have := lg_of (by omega) h3
  omega
theorem lg_neg (i : Int) : Lg (-i) = Lg i := by unfold Lg; rw [Int.natAbs_neg]
theorem lg_sub (i j : Int) : Lg (i - j) ≤ max (Lg i) (Lg j) + 1 := by
  have := lg_add i (-j)
  rw [lg_neg] at this
  rw [Int.sub_eq_add_neg]
  exact this
theorem lg_le {i j : Int} (h : i.natAbs ≤ j.natAbs) : Lg i ≤ Lg j := by
  have h2 := lg_lt (i := j) (Nat.lt_succ_self _)
  have := lg_of (i := i) (n := Lg j + 1) (by omega) (by omega)
  omega
theorem de_mulG {m n : Int} (hc : Lg m + Lg n < 1000000) (ha : DE X Γ a (rInt m)) (hb : DE X Γ b (rInt n)) : DE X Γ (.BinOp a .Mult b pos) (rInt (m * n)) := de_mul hc ha hb
theorem de_divG {m n : Int} (h0 : n ≠ 0) (hc : Lg n < 9000) (ha : DE X Γ a (rInt m)) (hb : DE X Γ b (rInt n)) : DE X Γ (.BinOp a .FloorDiv b pos) (rInt (m.fdiv n)) := de_fdiv ⟨h0, hc⟩ ha hb
/-- a number of at most n bits above and below -/
def Sz (n : Nat) (q : Rat) : Prop := Lg q.num ≤ n ∧ Lg (q.den : Int) ≤ n
end
end DL

set_option Elab.async false
set_option linter.all false
set_option maxRecDepth 100000
set_option maxHeartbeats 4000000
namespace DL
open PySem PySem.Spec PyProof.Rows L2
/-! ### errors -/
inductive Out where
  | ok (r : Ret)
  | err (C : Addr)
  | errF (C : Addr) (fs : List (Str × V))
def PrX (F H : Hp) : Out → VK → XK → Prop
  | .ok ret, Q, _ => Pr F H ret Q
  | .err C, _, E => ∀ H', Same H H' → E (.ref C) none H'
  | .errF C fs, _, E => ∀ H' d, Same H H' → H d = none → H' d = some (.xd fs) → E (.ref C) (some d) H'
def PmX {ι : Type} (pre : ι → Prop) (args : ι → List Rep) (out : ι → Out) : Sp := fun vs H Q E => ∃ (x : ι) (F : Hp), pre x ∧ Same F H ∧ RL F (args x) vs ∧ PrX F H (out x) Q E
/-- an error class of the program's own, without fields -/
structure XCls (K : PySem.W.Frag) (mg : Str → Option Value) (x : Str) (C : Addr) : Prop where
  g : mg x = some (.ref C)
  ex : PySem.W.excIn K C [.type "ValueError", .type "Exception", .type "BaseException", .type "object"] "ValueError.__new__" = true
  kp : PySem.W.keepIn K (.ref C) = true
  bs : PySem.W.subIn K (.ref C) (.type "BaseException") = some true
  ty : PySem.W.typeIn K (.ref C) = some (.type "type")
  hd : PySem.W.hasDictIn K C = true
section
variable {X : Cx} {N : List Str} {sc : Scope} {k j : Nat} {Γ : List Sl} {a b c e : Expr} {es rest : List Expr} {r ra rb rc r' : Rep} {rs l : List Rep} {pos p : Pos} {x : Str} {i : Nat}
variable {ι : Type} {pre : ι → Prop} {args : ι → List Rep} {out : ι → Out} {ret : Ret} {F0 H0 : Hp} {st body : List Stmt} {D : Ends} {C : Addr} {W : WX}
theorem ca_callX (B : BX X N sc k) (G : Cal X.prog X.w X.K X.mg X.base j x (PmX pre args out)) (hk : j ≤ k) (g : ι) (hp : pre g) (ho : out g = .ok ret) (ha : DA X Γ (e :: es) (args g)) (hg : sc.names.lookup x = some .globalImplicit)
    (hdb : (x == ("__debug__" : Str)) = false := by decide) (he : starEach (e :: es) X.env = (false, eval e X.env) :: starEach es X.env := by rfl) (hpl : (backTo pos (starEach es X.env)).any (·.1) = false := by rfl) :
    CA X Γ (.Call (.Name x p) (e :: es) [] pos) ret := fun F0 H0 F H σ en Q q => by
  obtain ⟨f, fd, ps, G, hm, kp, hb⟩ := G.ex
  have hgl : Gl X x := by
    show X.env.scope.names.lookup x = _
    rw [B.hsc]
    exact hg
  refine .of (pe_call (E := E0) G (B.room.mono hk) hgl hm kp hb .nil passL pa_ev hdb he hpl) ?_
  refine ha F0 H0 F H σ en _ fun vs F1 H1 g1 h1 => ?_
  show PmX pre args out (vs ++ []) H1 Q E0
  rw [List.append_nil]
  refine ⟨g, F1, hp, g1.s, h1, ?_⟩
  rw [ho]
  exact fun v F' H' g2 hv => q v F' H' F1 H1 g1 g2 hv
theorem ca_callO (okr : ι → Ret) (B : BX X N sc k) (G : Cal X.prog X.w X.K X.mg X.base j x (PmX pre args out)) (hk : j ≤ k) (g : ι) (hp : pre g) (ho : out g = .ok (okr g)) (ha : DA X Γ (e :: es) (args g)) (hg : sc.names.lookup x = some .globalImplicit)
    (hdb : (x == ("__debug__" : Str)) = false := by decide) (he : starEach (e :: es) X.env = (false, eval e X.env) :: starEach es X.env := by rfl) (hpl : (backTo pos (starEach es X.env)).any (·.1) = false := by rfl) :
    CA X Γ (.Call (.Name x p) (e :: es) [] pos) (okr g) := ca_callX B G hk g hp ho ha hg hdb he hpl
/-- a call that raises: what is wanted of the error is wanted anyway -/
def EX (X : Cx) (Γ : List Sl) (e : Expr) (C : Addr) (W : WX) : Prop := ∀ F0 H0 F H σ, En F0 H0 F H σ Γ → (∀ H', Same H H' → W (.ref C) none σ H') → ∀ Q : VK, EV X e σ H Q
theorem ex_call (B : BX X N sc k) (tk : Takes X W) (G : Cal X.prog X.w X.K X.mg X.base j x (PmX pre args out)) (hk : j ≤ k) (g : ι) (hp : pre g) (ho : out g = .err C) (ha : DA X Γ (e :: es) (args g)) (hg : sc.names.lookup x = some .globalImplicit)
    (hdb : (x == ("__debug__" : Str)) = false := by decide) (he : starEach (e :: es) X.env = (false, eval e X.env) :: starEach es X.env := by rfl) (hpl : (backTo pos (starEach es X.env)).any (·.1) = false := by rfl) :
    EX X Γ (.Call (.Name x p) (e :: es) [] pos) C W := fun F0 H0 F H σ en w Q => by
  obtain ⟨f, fd, ps, G, hm, kp, hb⟩ := G.ex
  have hgl : Gl X x := by
    show X.env.scope.names.lookup x = _
    rw [B.hsc]
    exact hg
  refine .of (pe_callS (E := WE W) G (B.room.mono hk) hgl hm kp hb (fun σ => passAt tk σ) pa_ev hdb he hpl) ?_
  refine ha F0 H0 F H σ en _ fun vs F1 H1 g1 h1 => ?_
  refine ⟨g, F1, hp, g1.s, h1, ?_⟩
  rw [ho]
  exact fun H' s => w H' (g1.h.trans s)
/-- raise X('..') -/
theorem go_raise {m : Str} {jj : Nat} {p2 pos2 : Pos} (B : BX X N sc k) (tk : Takes X W) (Z : XCls X.K X.mg x C) (hg : sc.names.lookup x = some .globalImplicit) (h : ∀ F H σ, En F0 H0 F H σ Γ → W (.ref C) none σ H) (hdb : (x == ("__debug__" : Str)) = false := by decide) :
    GO X F0 H0 (.Raise (some (.Call (.Name x p) [.Constant (.str m) jj p2] [] pos)) none pos2 :: st) D Γ := fun F H σ en => by
  have hgl : Gl X x := by
    show X.env.scope.names.lookup x = _
    rw [B.hsc]
    exact hg
  exact .of (pss_cons (ps_raise B.calm tk (pmk_own PySem.F.excBase_ValueError Z.ex Z.g Z.kp (raises_own Z.bs Z.ty) hgl hdb)) (pss_ev (st := st))) (h F H σ en)
theorem go_retE (he : EX X Γ e C W) (h : ∀ F H σ, En F0 H0 F H σ Γ → ∀ H', Same H H' → W (.ref C) none σ H') : GO X F0 H0 (.Return (some e) pos :: st) D Γ := fun F H σ en =>
  .of (pss_cons (ps_ret pe_ev) (pss_ev (st := st))) (he F0 H0 F H σ en (h F H σ en) _)
theorem go_exprE (he : EX X Γ e C W) (h : ∀ F H σ, En F0 H0 F H σ Γ → ∀ H', Same H H' → W (.ref C) none σ H') (hs : swapsWith e none pos.line X.env = pure false := by rfl) : GO X F0 H0 (.Expr e pos :: st) D Γ := fun F H σ en =>
  .of (pss_cons (ps_expr pe_ev hs) (pss_ev (st := st))) (he F0 H0 F H σ en (h F H σ en) _)
end
section
variable {P : Program} {w : World} {K : PySem.W.Frag} {mg : Str → Option Value} {base : Heap} {k : Nat} {x : Str} {st : Stmt} {N ps : List Str} {ι : Type} {pre : ι → Prop} {args : ι → List Rep} {out : ι → Out}
/-- a def that may raise -/
theorem cal_okX (T : TD K mg x st) (S : FnScope N ps (defScope st)) (hn : ∀ g, (args g).length = ps.length)
    (hb : ∀ (kV doc pm : Value) (an : Option Addr) (cdv ct : Value) (us : List Value), us.length = ps.length → bindArgs (PySem.W.fnOf x x (defArgs st) (defBody st) (defScope st) .none kV doc pm an cdv ct) ⟨us, []⟩ = pure (ps.zip us))
    (body : ∀ (X : Cx), X.prog = P → X.w = w → X.K = K → X.mg = mg → X.base = base → BX X N (defScope st) k → (∀ x : Str, X.fn x = true) → ∀ (g : ι) (F0 H0 : Hp) (D : Ends) (E : XK), Takes X (fun cls d _ H => E cls d H) → pre g → PrX F0 H0 (out g) D.rt E → (∀ σ H', D.nx σ H' = D.rt .non H') →
      GO X F0 H0 (defBody st) D ((args g).map Sl.im ++ List.replicate (N.length - ps.length) .any)) : Cal P w K mg base (k + 1) x (PmX pre args out) := by
  obtain ⟨f, fd, F, hm⟩ := T.ex
  refine ⟨f, fd, ps, ?_, hm, F.kp, F.binds hb⟩
  refine F.okX S (fun vs H Q E h => ?_) (fun cdv A outer s H vs Q E hr h => ?_)
  · obtain ⟨g, F1, _, _, h1, _⟩ := h
    rw [← h1.len, hn]
  · obtain ⟨g, F1, hp, hs, h1, q⟩ := h
    refine ⟨_, pss_ev, ?_⟩
    have hpl : ps.length ≤ N.length := by have := congrArg List.length S.pre; rw [List.length_take] at this; omega
    have en := en_start (N := N) hs h1 (by rw [hn]; exact hpl)
    rw [hn] at en
    exact body _ rfl rfl rfl rfl rfl ⟨rfl, rfl, S.nd, hr, rfl, passes_of rfl⟩ (fun _ => rfl) g F1 H { nx := fun _ H' => Q .non H', rt := Q } E (takes_of rfl rfl rfl rfl) hp q (fun _ _ => rfl) F1 H _ en
theorem PrX.rt {F H : Hp} {D : Ends} {E : XK} {o : Out} {ret : Ret} (h : PrX F H o D.rt E) (e : o = .ok ret) : RT F H ret D := by
  subst e
  exact h
theorem PrX.er {F0 H0 : Hp} {Q : VK} {E : XK} {o : Out} {C : Addr} (h : PrX F0 H0 o Q E) (e : o = .err C) : ∀ H', Same H0 H' → E (.ref C) none H' := by
  subst e
  exact h
theorem PrX.erF {F0 H0 : Hp} {Q : VK} {E : XK} {o : Out} {C : Addr} {fs : List (Str × V)} (h : PrX F0 H0 o Q E) (e : o = .errF C fs) : ∀ H' d, Same H0 H' → H0 d = none → H' d = some (.xd fs) → E (.ref C) (some d) H' := by
  subst e
  exact h
end
end DL

set_option linter.all false
set_option maxHeartbeats 4000000
namespace DL
theorem den_ne (q : Rat) : ((q.den : Int) : Rat) ≠ 0 := by
  have := q.den_nz
  simp [this]
theorem q_eq (q : Rat) : q = (q.num : Rat) / ((q.den : Int) : Rat) := by
  have h2 := Rat.mkRat_self q
  rw [Rat.mkRat_eq_div] at h2
  exact h2.symm
theorem aux_plus (a b c d : Rat) (hb : b ≠ 0) (hd : d ≠ 0) : (a * d + c * b) / (b * d) = a / b + c / d := by grind
theorem aux_times (a b c d : Rat) (hb : b ≠ 0) (hd : d ≠ 0) : (a * c) / (b * d) = a / b * (c / d) := by grind
theorem aux_over (a b c d : Rat) (hb : b ≠ 0) (hd : d ≠ 0) (hc : c ≠ 0) : (a * d) / (b * c) = a / b / (c / d) := by grind
theorem r_plus (q r : Rat) : (((q.num * (r.den : Int) + r.num * (q.den : Int) : Int)) : Rat) / ((((q.den : Int) * (r.den : Int) : Int)) : Rat) = q + r := by
  conv => rhs; rw [q_eq q, q_eq r]
  rw [← aux_plus _ _ _ _ (den_ne q) (den_ne r), Rat.intCast_add, Rat.intCast_mul, Rat.intCast_mul, Rat.intCast_mul]
theorem r_times (q r : Rat) : (((q.num * r.num : Int)) : Rat) / ((((q.den : Int) * (r.den : Int) : Int)) : Rat) = q * r := by
  conv => rhs; rw [q_eq q, q_eq r]
  rw [← aux_times _ _ _ _ (den_ne q) (den_ne r), Rat.intCast_mul, Rat.intCast_mul]
theorem num_ne {q : Rat} (h : q ≠ 0) : q.num ≠ 0 := fun z => h (Rat.num_eq_zero.mp z)
theorem r_over (q r : Rat) (h : r ≠ 0) : (((q.num * (r.den : Int) : Int)) : Rat) / ((((q.den : Int) * r.num : Int)) : Rat) = q / r := by
  have hn : (r.num : Rat) ≠ 0 := by simpa using num_ne h
  conv => rhs; rw [q_eq q, q_eq r]
  rw [← aux_over _ _ _ _ (den_ne q) (den_ne r) hn, Rat.intCast_mul, Rat.intCast_mul]
/-- lowest terms -/
def lowC (t b : Int) : Int := if b < 0 then -(Int.gcd t b : Int) else (Int.gcd t b : Int)
theorem gcd_pos {t b : Int} (hb : b ≠ 0) : 0 < (Int.gcd t b : Int) := by
  have : 0 < Int.gcd t b := Nat.pos_of_ne_zero fun z => hb (Int.gcd_eq_zero_iff.mp z).2
  omega
theorem lowC_ne {t b : Int} (hb : b ≠ 0) : lowC t b ≠ 0 := by
  have := gcd_pos (t := t) hb
  unfold lowC
  split <;> omega
theorem lowC_dvd (t b : Int) : lowC t b ∣ t ∧ lowC t b ∣ b := by
  have h1 := Int.gcd_dvd_left t b
  have h2 := Int.gcd_dvd_right t b
  unfold lowC
  split
  · exact ⟨Int.neg_dvd.mpr h1, Int.neg_dvd.mpr h2⟩
  · exact ⟨h1, h2⟩
theorem rat_num {t b : Int} (hb : b ≠ 0) : ((t : Rat) / (b : Rat)).num = t.fdiv (lowC t b) := by
  rw [← Rat.divInt_eq_div, Rat.num_divInt, Int.fdiv_eq_ediv_of_dvd (lowC_dvd t b).1, Int.gcd_comm]
  unfold lowC
  split
  · rename_i h
    rw [Int.sign_eq_neg_one_of_neg h, Int.ediv_neg, Int.neg_mul, Int.one_mul, Int.neg_ediv_of_dvd (Int.gcd_dvd_left t b)]
  · rename_i h
    rw [Int.sign_eq_one_of_pos (by omega), Int.one_mul]
theorem rat_den {t b : Int} (hb : b ≠ 0) : (((t : Rat) / (b : Rat)).den : Int) = b.fdiv (lowC t b) := by
  rw [← Rat.divInt_eq_div, Rat.den_divInt, if_neg hb, Int.fdiv_eq_ediv_of_dvd (lowC_dvd t b).2, Int.gcd_comm]
  unfold lowC
  have hd := Int.gcd_dvd_right t b
  split
  · rename_i h
    rw [Int.ediv_neg, ← Int.neg_ediv_of_dvd hd, Int.natCast_ediv]
    congr 1
    omega
  · rename_i h
    rw [Int.natCast_ediv]
    congr 1
    omega
theorem rat_den1 {t b : Int} (hb : b ≠ 0) (h : lowC t b = b) : ((t : Rat) / (b : Rat)).den = 1 := by
  have := rat_den (t := t) hb
  rw [h, Int.fdiv_self hb] at this
  omega
theorem rat_denN {t b : Int} (hb : b ≠ 0) (h : lowC t b ≠ b) : b.fdiv (lowC t b) ≠ 1 := by
  intro z
  rw [Int.fdiv_eq_ediv_of_dvd (lowC_dvd t b).2] at z
  have := Int.eq_mul_of_ediv_eq_right (lowC_dvd t b).2 z
  omega
end DL

set_option linter.all false
set_option maxHeartbeats 4000000
namespace DL
open PySem L2
theorem lg_lowC {t b : Int} (hb : b ≠ 0) : Lg (lowC t b) ≤ Lg b := lg_le (by
  have h : (Int.gcd t b) ≤ b.natAbs := Nat.le_of_dvd (by omega) (by have := Int.natAbs_dvd_natAbs.mpr (Int.gcd_dvd_right t b); simpa using this)
  unfold lowC
  split <;> omega)
theorem den_neI (q : Rat) : (q.den : Int) ≠ 0 := by
  have := q.den_nz
  omega
theorem dd_ne (q r : Rat) : (q.den : Int) * (r.den : Int) ≠ 0 := Int.mul_ne_zero (den_neI q) (den_neI r)
theorem dn_ne {q r : Rat} (h : r ≠ 0) : (q.den : Int) * r.num ≠ 0 := Int.mul_ne_zero (den_neI q) (num_ne h)
end DL

set_option Elab.async false
set_option linter.all false
set_option maxRecDepth 100000
set_option maxHeartbeats 4000000
namespace DL
open PySem PySem.Spec PyProof.Rows L2
section
variable {X : Cx} {N : List Str} {sc : Scope} {k j : Nat} {Γ Γ' Γ1 : List Sl} {tg it a b c e : Expr} {es rest : List Expr} {r ra rb rc r' : Rep} {rs l l2 : List Rep} {pos p p2 : Pos} {x : Str} {i : Nat} {ws ws' : List Nat} {F0 H0 F1 F H : Hp} {σ : L2.St} {st body : List Stmt} {D : Ends} {n : Nat} {rr : Nat → Rep}
variable {α : Type} {R : α → Rep} {xs : List α}
theorem SR.to {rr' : Nat → Rep} (h : SR X Γ tg it n rr) (e : ∀ i, i < n → rr i = rr' i) : SR X Γ tg it n rr' := fun F0 H0 F H σ en Q q => h F0 H0 F H σ en Q fun J F1 H1 g wk => q J F1 H1 g ⟨wk.stop, wk.go, fun i F H x H' s s2 hi hy => by
  obtain ⟨F', g', hx⟩ := wk.yld i F H x H' s s2 hi hy
  exact ⟨F', g', e i hi ▸ hx⟩⟩
theorem getD_map (d : α) {i : Nat} (hi : i < xs.length) : (xs.map R).getD i rNon = R (xs.getD i d) := by
  rw [List.getD_eq_getElem?_getD, List.getD_eq_getElem?_getD, List.getElem?_map, List.getElem?_eq_getElem hi]
  rfl
theorem sr_listM (d : α) (h : DE X Γ it (rLst X.K (xs.map R))) : SR X Γ tg it xs.length (fun i => R (xs.getD i d)) := by
  have h2 := sr_list (tg := tg) h
  rw [List.length_map] at h2
  exact h2.to fun i hi => getD_map d hi
theorem atI_map (d : α) {n : Int} (h0 : 0 ≤ n) (h1 : n < xs.length) : atI (xs.map R) n = some (R (xs.getD n.toNat d)) := by
  obtain ⟨m, rfl⟩ : ∃ m : Nat, n = m := ⟨n.toNat, by omega⟩
  refine atI_nat ?_
  have hm : m < xs.length := by omega
  rw [List.getElem?_map, List.getElem?_eq_getElem hm, Int.toNat_natCast, List.getD_eq_getElem?_getD, List.getElem?_eq_getElem hm]
  rfl
theorem de_ixM {n : Int} (d : α) (h0 : 0 ≤ n) (h1 : n < xs.length) (ha : DE X Γ a (rLst X.K (xs.map R))) (hb : DE X Γ b (rInt n)) (hs : PlainIx b := by exact fun _ _ => rfl) : DE X Γ (.Subscript a b pos) (R (xs.getD n.toNat d)) :=
  de_ixL (atI_map d h0 h1) ha hb hs
theorem de_ixOM {n : Int} (d : α) (B : BX X N sc k) (hΓ : Γ[i]? = some (.ow (xs.map R))) (hN : N[i]? = some x) (hv : Vis sc x) (h0 : 0 ≤ n) (h1 : n < xs.length) (hb : DE X Γ b (rInt n)) (hs : PlainIx b := by exact fun _ _ => rfl) (hd : (x == ("__debug__" : Str)) = false := by decide) (hcd : (x == ("__classdict__" : Str)) = false := by decide) :
    DE X Γ (.Subscript (.Name x p) b pos) (R (xs.getD n.toNat d)) := de_ixO B (atI_map d h0 h1) hΓ hN hv hb hs hd hcd
theorem de_lenM (B : BX X N sc k) (hm : X.mg "len" = none) (h : DE X Γ e (rLst X.K (xs.map R))) (hg : sc.names.lookup ("len" : Str) = some NameKind.globalImplicit) (he : starEach (e :: []) X.env = (false, eval e X.env) :: starEach [] X.env := by rfl) : DE X Γ (.Call (.Name "len" p) [e] [] pos) (rInt xs.length) := by
  have := de_lenL B hm h hg he (p := p) (pos := pos)
  rwa [List.length_map] at this
/-! a number or None -/
/-! is True, is False -/
theorem de_isBl {u v : Bool} {jj : Nat} (ha : DE X Γ a (rBl u)) : DE X Γ (.Compare a [.Is] [.Constant (.bool v) jj p] pos) (rBl (u == v)) := de_cmp op_isBl b2_isB ha de_bl (nomark _)
theorem dt_isN (ha : DE X Γ a rNon) {jj : Nat} : DT X Γ (.Compare a [.Is] [.Constant .none jj p] pos) true := dt_cmp op_isN (fun F H x y s h1 h2 Q q => by cases h1; cases h2; exact ⟨rfl, q _ F H (.refl s) rfl⟩) ha de_non (nomark _)
theorem dt_isN0 (hn : NotNon r) (ha : DE X Γ a r) {jj : Nat} : DT X Γ (.Compare a [.Is] [.Constant .none jj p] pos) false := dt_cmp op_isN (fun F H x y s h1 h2 Q q => by
  cases h2
  exact ⟨rfl, q _ F H (.refl s) (by show V.bl _ = V.bl _; rw [decide_eq_false (hn F x h1)])⟩) ha de_non (nomark _)
/-! x in a list of numbers -/
end
end DL

set_option Elab.async false
set_option linter.all false
set_option maxRecDepth 100000
set_option maxHeartbeats 4000000
namespace DL
open PySem PySem.Spec PyProof.Rows L2
/-! ### comprehensions -/
def IsBlk (X : Cx) (scope : Scope) (X' : Cx) : Prop := ∃ (s : Shared) (H : Hp) (C : Addr) (cl : List (Str × Addr)) (fp : List Addr), X' = X.blk s H scope (compEnvC scope cl C X.env) fp
def TVs (X : Cx) (ifs : List Expr) (σ : L2.St) (H : Hp) (Q : Bool → Hp → Prop) : Prop := ∀ (pins : List (Addr × Obj)) (s : Shared), Inv X pins σ H s →
    wpAny (model X.prog X.w) X.A (forIn ifs true fun c r => if r = true then do let ok ← isTrue c X.env (eval c X.env); pure (ForInStep.yield ok) else pure (ForInStep.yield r)) (TP X pins σ Q) X.xe s
theorem TVs.of {X : Cx} {ifs : List Expr} {te : TT} {σ : L2.St} {H : Hp} {Q : Bool → Hp → Prop} (h : PTs X ifs te) (q : te σ H Q) : TVs X ifs σ H Q := fun pins s I => h.run pins s σ H Q I q
def DTs (X : Cx) (Γ : List Sl) (ifs : List Expr) (b : Bool) : Prop := ∀ F0 H0 F H σ, En F0 H0 F H σ Γ → ∀ Q : Bool → Hp → Prop, (∀ F' H', Gr F H F' H' → Q b H') → TVs X ifs σ H Q
theorem dts_nil {X : Cx} {Γ : List Sl} : DTs X Γ [] true := fun F0 H0 F H σ en Q q => .of pts_nil (q F H (.refl en.gr.s))
theorem dts_one {X : Cx} {Γ : List Sl} {c : Expr} {b : Bool} (h : DT X Γ c b) : DTs X Γ [c] b := fun F0 H0 F H σ en Q q => .of (pts_one pt_ev) (h F0 H0 F H σ en Q q)
def wipeG (Γ : List Sl) : List Nat → List Sl
  | [] => Γ
  | v :: vs => (wipeG Γ vs).set v .any
theorem En.wipe {F0 H0 F H : Hp} {σ : L2.St} {Γ : List Sl} (e : En F0 H0 F H σ Γ) : ∀ vs : List Nat, En F0 H0 F H (L2.wipe σ vs) (wipeG Γ vs)
  | [] => e
  | v :: vs => (En.wipe e vs).setAny none
section
variable {X : Cx} {N : List Str} {sc : Scope} {k j : Nat} {Γ Γ' Γ1 : List Sl} {tg it a b c e : Expr} {ifs es rest : List Expr} {r ra rb rc r' : Rep} {rs l l2 : List Rep} {pos p p2 : Pos} {x : Str} {i : Nat} {ws ws' : List Nat} {F0 H0 F1 F H : Hp} {σ : L2.St} {st body : List Stmt} {D : Ends} {n : Nat} {rr : Nat → Rep}
variable {scope : Scope} {own : List (Str × Nat)}
theorem BX.blk (B : BX X N sc k) {X' : Cx} (h : IsBlk X scope X') : BX X' N (relS scope sc) k := by
  obtain ⟨s, H, C, cl, fp, rfl⟩ := h
  exact ⟨B.hN, by show relS scope X.env.scope = _; rw [B.hsc], B.nd, B.room, B.calm, PassesOwn.never⟩
theorem wipe_wipe (σ : L2.St) (us : List Nat) : L2.wipe (L2.wipe σ us) us = L2.wipe σ us := by
  apply List.ext_getElem?
  intro j
  rw [wipe_get us (L2.wipe σ us) j, wipe_length]
  by_cases hj : j ∈ us ∧ j < σ.length
  · rw [if_pos hj, wipe_get us σ j, if_pos hj]
  · rw [if_neg hj]
theorem filter_snoc (tb : Nat → Bool) (f : Nat → Rep) (i : Nat) : ((List.range (i + 1)).filter tb).map f = ((List.range i).filter tb).map f ++ (if tb i = true then [f i] else []) := by
  rw [List.range_succ, List.filter_append, List.map_append]
  congr 1
  by_cases h : tb i = true
  · rw [if_pos h]; simp [h]
  · rw [if_neg h]; simp [h]
theorem dl_lc (B : BX X N sc k) (own : List (Str × Nat)) (hi : SR X Γ tg it n rr) (ok : BlkOk N sc scope own) (G1 : Nat → List Sl) (tb : Nat → Bool) (f : Nat → Rep) (hn : n < sizeLine) (hw : ∀ i ∈ ws, i ∈ own.map (·.2))
    (hg : ∀ (s : Shared) (H : Hp) (C : Addr) (cl : List (Str × Addr)) (fp : List Addr), BX (X.blk s H scope (compEnvC scope cl C X.env) fp) N (relS scope sc) k → ∀ i, i < n → DG (X.blk s H scope (compEnvC scope cl C X.env) fp) (wipeG Γ (own.map (·.2))) tg (rr i) (G1 i) ws)
    (ht : ∀ (s : Shared) (H : Hp) (C : Addr) (cl : List (Str × Addr)) (fp : List Addr), BX (X.blk s H scope (compEnvC scope cl C X.env) fp) N (relS scope sc) k → ∀ i, i < n → DTs (X.blk s H scope (compEnvC scope cl C X.env) fp) (G1 i) ifs (tb i))
    (he : ∀ (s : Shared) (H : Hp) (C : Addr) (cl : List (Str × Addr)) (fp : List Addr), BX (X.blk s H scope (compEnvC scope cl C X.env) fp) N (relS scope sc) k → ∀ i, i < n → tb i = true → DE (X.blk s H scope (compEnvC scope cl C X.env) fp) (G1 i) e (f i)) (hs : ∀ x, foldedSetIterable it X.env x = pure x := by intro _; rfl) :
    DL X Γ (.ListComp e [⟨tg, it, ifs, 0⟩] scope pos) (((List.range n).filter tb).map f) := fun F0 H0 F H σ en Q q => by
  replace hg : ∀ X', IsBlk X scope X' → BX X' N (relS scope sc) k → ∀ i, i < n → DG X' (wipeG Γ (own.map (·.2))) tg (rr i) (G1 i) ws := fun X' h B => by obtain ⟨s, H, C, cl, fp, rfl⟩ := h; exact hg s H C cl fp B
  replace ht : ∀ X', IsBlk X scope X' → BX X' N (relS scope sc) k → ∀ i, i < n → DTs X' (G1 i) ifs (tb i) := fun X' h B => by obtain ⟨s, H, C, cl, fp, rfl⟩ := h; exact ht s H C cl fp B
  replace he : ∀ X', IsBlk X scope X' → BX X' N (relS scope sc) k → ∀ i, i < n → tb i = true → DE X' (G1 i) e (f i) := fun X' h B => by obtain ⟨s, H, C, cl, fp, rfl⟩ := h; exact he s H C cl fp B
  let g : TG := fun v σ H Q => ∀ X', IsBlk X scope X' → GV X' tg v σ H Q
  let tt : TT := fun σ H Q => ∀ X', IsBlk X scope X' → TVs X' ifs σ H Q
  let te : TE := fun σ H Q => ∀ X', IsBlk X scope X' → EV X' e σ H Q
  have pg : ∀ (s : Shared) (H : Hp) (C : Addr) (cl : List (Str × Addr)) (fp : List Addr), PG (X.blk s H scope (compEnvC scope cl C X.env) fp) tg g := fun s H C cl fp => ⟨fun pins s' σ H v u Q I r h => h _ ⟨s, _, C, cl, fp, rfl⟩ pins s' u I r⟩
  have pt : ∀ (s : Shared) (H : Hp) (C : Addr) (cl : List (Str × Addr)) (fp : List Addr), PTs (X.blk s H scope (compEnvC scope cl C X.env) fp) ifs tt := fun s H C cl fp => ⟨fun pins s' σ H Q I h => h _ ⟨s, _, C, cl, fp, rfl⟩ pins s' I⟩
  have pe : ∀ (s : Shared) (H : Hp) (C : Addr) (cl : List (Str × Addr)) (fp : List Addr), PE (X.blk s H scope (compEnvC scope cl C X.env) fp) e te := fun s H C cl fp => ⟨fun pins s' σ H Q I h => h _ ⟨s, _, C, cl, fp, rfl⟩ pins s' I⟩
  refine .of (pe_lc B.calm (by rw [B.hN]; exact B.nd) pi_ev (by rw [B.hN, B.hsc]; exact ok) pg pt pe hs) ?_
  refine hi F0 H0 F H σ en _ fun J F1 H1 g1 wk => fun D hD => ?_
  have en1 := en.grow g1
  refine ⟨fun i m H => m = n - i ∧ i ≤ n ∧ ∃ F vs, Gr F1 H1 F H ∧ F D = none ∧ H D = some (.lst vs) ∧ RL F (((List.range i).filter tb).map f) vs, ⟨n, by simp, Nat.zero_le _, F1, [], .newOwn g1.s hD, g1.s.free hD, upd_same, .nil⟩, fun i m H2 hw2 => ?_⟩
  obtain ⟨rfl, hle, F2, vs, g2, d2, e2, l2⟩ := hw2
  have s2 : Same F1 H2 := g2.f.trans g2.s
  by_cases hlt : i < n
  · refine .inr ⟨wk.go i H2 s2 hlt, fun H => i + 1 ≤ n ∧ ∃ F vs, Gr F1 H1 F H ∧ F D = none ∧ H D = some (.lst vs) ∧ RL F (((List.range (i + 1)).filter tb).map f) vs, fun H' h => ⟨n - (i + 1), by omega, rfl, h.1, h.2⟩, fun x H3 hy => ?_⟩
    obtain ⟨F3, g3, hx⟩ := wk.yld i F2 H2 x H3 g2.f g2.s hlt hy
    have en3 := ((en1.grow (g2.trans g3)).wipe (own.map (·.2)))
    -- the target is stored
    have key : ∀ X', IsBlk X scope X' → ∀ Q : L2.St → Hp → Prop, (∀ F' H' σ', Gr F3 H3 F' H' → En F0 H0 F' H' σ' (G1 i) → Off ws (L2.wipe σ (own.map (·.2))) σ' → Q σ' H') → GV X' tg x (L2.wipe σ (own.map (·.2))) H3 Q := fun X' hX' Q hQ => hg X' hX' (B.blk hX') i hlt F0 H0 F3 H3 _ x en3 hx Q hQ
    intro X' hX'
    refine key X' hX' _ fun F4 H4 σ4 g4 en4 off => ⟨?_, fun X2 hX2 => ?_⟩
    · have := off (own.map (·.2)) hw
      rw [this]
      exact wipe_wipe _ _
    refine ht X2 hX2 (B.blk hX2) i hlt F0 H0 F4 H4 σ4 en4 _ fun F5 H5 g5 => ?_
    have gg5 := ((g2.trans g3).trans g4).trans g5
    have d5 : F5 D = none := (((g3.trans g4).trans g5).n D (by rw [e2]; exact fun z => nomatch z) d2)
    have h5 : H5 D = some (.lst vs) := ((g3.trans g4).trans g5).h _ _ e2
    have l5 := l2.mono ((g3.trans g4).trans g5).f
    cases hb : tb i with
    | false =>
      rw [if_neg Bool.false_ne_true]
      refine ⟨hlt, F5, vs, gg5, d5, h5, ?_⟩
      rw [filter_snoc, hb, if_neg Bool.false_ne_true, List.append_nil]
      exact l5
    | true =>
      rw [if_pos rfl]
      intro X3 hX3
      refine he X3 hX3 (B.blk hX3) i hlt hb F0 H0 F5 H5 σ4 (en4.grow g5) _ fun y F6 H6 g6 hy6 => ?_
      have h6 := g6.h _ _ h5
      have d6 := g6.n D (by rw [h5]; exact fun z => nomatch z) d5
      have hlen : vs.length < sizeLine := by
        rw [← l5.len, List.length_map]
        have := List.length_filter_le tb (List.range i)
        rw [List.length_range] at this
        omega
      refine ⟨vs, h6, hlen, hlt, F6, vs ++ [y], ?_, d6, upd_same, ?_⟩
      · have gg6 := gg5.trans g6
        exact ⟨gg6.f, fun b o z => by rw [upd_ne (ne_of_none z hD)]; exact gg6.h b o z, same_out gg6.s d6, gg6.n⟩
      · rw [filter_snoc, hb, if_pos rfl]
        exact (l5.mono g6.f).snoc hy6
  · have e : i = n := by omega
    subst e
    refine .inl ⟨wk.stop i H2 s2 (Nat.le_refl _), ?_⟩
    exact q D vs F2 H2 (g1.trans g2) (g1.h.free hD) d2 e2 l2
/-- over a list, without a test -/
theorem lc_all {α : Type} {R : α → Rep} {xs : List α} {d : α} {f : α → Rep} : ((List.range xs.length).filter fun _ => true).map (fun i => f (xs.getD i d)) = xs.map f := by
  rw [List.filter_eq_self.mpr (fun _ _ => rfl)]
  apply List.ext_getElem
  · simp
  · intro i h1 h2
    simp at h1 h2
    simp [List.getD_eq_getElem?_getD, List.getElem?_eq_getElem h2]
end
end DL

set_option linter.all false
set_option maxHeartbeats 4000000
namespace DL
open PySem L2
/-! sizes of numbers -/
theorem lg_dvd {a b : Int} (hb : b ≠ 0) (h : a ∣ b) : Lg a ≤ Lg b := lg_le (Nat.le_of_dvd (by omega) (Int.natAbs_dvd_natAbs.mpr h))
theorem fdiv_lg {a b : Int} (hb : b ≠ 0) (h : b ∣ a) : Lg (a.fdiv b) ≤ Lg a := by
  rw [Int.fdiv_eq_ediv_of_dvd h]
  by_cases h0 : a = 0
  · subst h0; simp
  · exact lg_dvd h0 (Int.ediv_dvd_of_dvd h)
theorem sz_ratio {t b : Int} {n : Nat} (hb : b ≠ 0) (h1 : Lg t ≤ n) (h2 : Lg b ≤ n) : Sz n ((t : Rat) / (b : Rat)) := by
  have hd := lowC_dvd t b
  refine ⟨?_, ?_⟩
  · rw [rat_num hb]
    exact Nat.le_trans (fdiv_lg (lowC_ne hb) hd.1) h1
  · rw [rat_den hb]
    exact Nat.le_trans (fdiv_lg (lowC_ne hb) hd.2) h2
theorem Sz.mono {m n : Nat} {q : Rat} (h : Sz m q) (k : m ≤ n) : Sz n q := ⟨Nat.le_trans h.1 k, Nat.le_trans h.2 k⟩
theorem sz_mul {m n : Nat} {q r : Rat} (h : Sz m q) (k : Sz n r) : Sz (m + n + 1) (q * r) := by
  rw [← r_times]
  refine sz_ratio (dd_ne q r) ?_ ?_ <;> grind [lg_mul, Sz]
theorem sz_int {n : Nat} {i : Int} (h : Lg i ≤ n) : Sz n (i : Rat) := by
  refine ⟨?_, ?_⟩
  · rw [Rat.num_intCast]; exact h
  · rw [Rat.den_intCast]
    have : Lg ((1 : Nat) : Int) = 0 := by decide
    omega
/-! the least common multiple of the bottoms -/
def lcmD (qs : List Rat) : Nat := qs.foldl (fun c q => Nat.lcm c q.den) 1
theorem take_snoc {α : Type} {xs : List α} {d : α} {i : Nat} (hi : i < xs.length) : xs.take (i + 1) = xs.take i ++ [xs.getD i d] := by
  rw [List.take_add_one, List.getElem?_eq_getElem hi, List.getD_eq_getElem?_getD, List.getElem?_eq_getElem hi]
  rfl
theorem lcmD_step {qs : List Rat} {i : Nat} (hi : i < qs.length) : lcmD (qs.take (i + 1)) = Nat.lcm (lcmD (qs.take i)) (qs.getD i 0).den := by
  unfold lcmD
  rw [take_snoc (d := 0) hi, List.foldl_append]
  rfl
theorem getD_mem {α : Type} {xs : List α} {d : α} {i : Nat} (hi : i < xs.length) : xs.getD i d ∈ xs := by
  rw [List.getD_eq_getElem?_getD, List.getElem?_eq_getElem hi]
  exact List.getElem_mem hi
theorem lg_lcm (a b : Nat) : Lg ((Nat.lcm a b : Nat) : Int) ≤ Lg (a : Int) + Lg (b : Int) + 1 := by
  have h : Nat.lcm a b ≤ a * b := Nat.div_le_self _ _
  have h2 := lg_mul (a : Int) (b : Int)
  have h3 : Lg ((Nat.lcm a b : Nat) : Int) ≤ Lg ((a : Int) * (b : Int)) := lg_le (by show Nat.lcm a b ≤ ((a : Int) * (b : Int)).natAbs; rw [Int.natAbs_mul]; exact h)
  omega
theorem lg_lcmD {n : Nat} : ∀ (qs : List Rat), (∀ q ∈ qs, Sz n q) → Lg (lcmD qs : Int) ≤ qs.length * (n + 1) := by
  have key : ∀ (qs : List Rat) (c : Nat), (∀ q ∈ qs, Sz n q) → Lg ((qs.foldl (fun c q => Nat.lcm c q.den) c : Nat) : Int) ≤ Lg (c : Int) + qs.length * (n + 1) := by
    intro qs
    induction qs with
    | nil => intro c _; simp
    | cons q qs ih =>
      intro c h
      rw [List.foldl_cons]
      have h1 := ih (Nat.lcm c q.den) fun x hx => h x (List.mem_cons_of_mem _ hx)
      have h2 := lg_lcm c q.den
      have h3 := (h q List.mem_cons_self).2
      rw [List.length_cons, Nat.add_mul]
      omega
  intro qs h
  have := key qs 1 h
  have h1 : Lg ((1 : Nat) : Int) = 0 := by decide
  unfold lcmD
  omega
/-! the least and the greatest -/
theorem lcmD_small {qs : List Rat} {n i : Nat} (h : ∀ q ∈ qs, Sz n q) (h2 : qs.length * (n + 1) < 9000) (hi : i ≤ qs.length) : (((lcmD (qs.take i) : Nat) : Int)).natAbs.log2 < 10000 := by
  have h3 := lg_lcmD (n := n) (qs.take i) fun q hq => h q (List.mem_of_mem_take hq)
  have h4 : (qs.take i).length * (n + 1) ≤ qs.length * (n + 1) := Nat.mul_le_mul_right _ (by rw [List.length_take]; omega)
  have h5 : (((lcmD (qs.take i) : Nat) : Int)).natAbs.log2 = Lg ((lcmD (qs.take i) : Nat) : Int) := rfl
  omega
theorem den_small {qs : List Rat} {n i : Nat} (h : ∀ q ∈ qs, Sz n q) (h2 : n < 9000) (hi : i < qs.length) : (((qs.getD i 0).den : Int)).natAbs.log2 < 10000 := by
  have h3 := (h _ (getD_mem (d := 0) hi)).2
  have h5 : (((qs.getD i 0).den : Int)).natAbs.log2 = Lg ((qs.getD i 0).den : Int) := rfl
  omega
/-! the law's Euclid -/
def eu (i : Nat) (p : Int × Int) : Int × Int := match i with
  | 0 => p
  | i + 1 => let q := eu i p; (q.2, q.1.fmod q.2)
structure EuJ (a b : Int) (i : Nat) : Prop where
  g : Int.gcd (eu i (a, b)).1 (eu i (a, b)).2 = Int.gcd a b
  p1 : 0 ≤ (eu i (a, b)).1
  p2 : 0 ≤ (eu i (a, b)).2
  lt : 1 ≤ i → (eu i (a, b)).2 < (eu i (a, b)).1
  bd : 1 ≤ i → (eu i (a, b)).1 * (eu i (a, b)).2 * 2 ^ (i - 1) ≤ a * b
theorem euJ0 {a b : Int} (ha : 0 ≤ a) (hb : 0 ≤ b) : EuJ a b 0 := ⟨rfl, ha, hb, fun z => by omega, fun z => by omega⟩
theorem euJ_step {a b : Int} {i : Nat} (h : EuJ a b i) (hy : (eu i (a, b)).2 ≠ 0) : EuJ a b (i + 1) := by
  obtain ⟨g, p1, p2, lt, bd⟩ := h
  have e1 : (eu (i + 1) (a, b)).1 = (eu i (a, b)).2 := rfl
  have e2 : (eu (i + 1) (a, b)).2 = (eu i (a, b)).1.fmod (eu i (a, b)).2 := rfl
  generalize hx : (eu i (a, b)).1 = x at *
  generalize hyy : (eu i (a, b)).2 = y at *
  have hm : x.fmod y = x % y := Int.fmod_eq_emod_of_nonneg _ p2
  have m0 : 0 ≤ x % y := Int.emod_nonneg _ hy
  have m1 : x % y < y := Int.emod_lt_of_pos _ (by omega)
  refine ⟨?_, ?_, ?_, ?_, ?_⟩
  · rw [e1, e2, hm, ← g, Int.emod_def, Int.gcd_sub_mul_left_right, Int.gcd_comm]
  · rw [e1]; exact p2
  · rw [e2, hm]; exact m0
  · intro _; rw [e1, e2, hm]; exact m1
  · intro _
    rw [e1, e2, hm]
    by_cases h0 : i = 0
    · subst h0
      have hxa : x = a := hx.symm
      have hyb : y = b := hyy.symm
      subst hxa hyb
      have : x % y ≤ x := by
        have := Int.mul_ediv_add_emod x y
        have : 0 ≤ y * (x / y) := Int.mul_nonneg p2 (Int.ediv_nonneg p1 p2)
        omega
      simp only [Nat.zero_add, Nat.sub_self, Int.pow_zero, Int.mul_one]
      rw [Int.mul_comm x y]
      exact Int.mul_le_mul_of_nonneg_left this p2
    · have hlt := lt (by omega)
      have hbd := bd (by omega)
      have h2 : 2 * (x % y) ≤ x := by
        have e := Int.mul_ediv_add_emod x y
        have hq : 1 ≤ x / y := (Int.le_ediv_iff_mul_le (by omega)).mpr (by omega)
        have : y * 1 ≤ y * (x / y) := Int.mul_le_mul_of_nonneg_left hq p2
        omega
      obtain ⟨j, rfl⟩ : ∃ j, i = j + 1 := ⟨i - 1, by omega⟩
      simp only [Nat.add_sub_cancel] at hbd ⊢
      rw [Int.pow_succ]
      have hp : (0 : Int) ≤ 2 ^ j := Int.pow_nonneg (by decide)
      have : y * (x % y) * 2 ≤ x * y := by
        rw [Int.mul_assoc, Int.mul_comm x y]
        exact Int.mul_le_mul_of_nonneg_left (by omega) p2
      calc y * (x % y) * (2 ^ j * 2) = y * (x % y) * 2 * 2 ^ j := by grind
        _ ≤ x * y * 2 ^ j := Int.mul_le_mul_of_nonneg_right this hp
        _ ≤ a * b := hbd
theorem eu_end {a b : Int} (h : EuJ a b 2000) (ha : 0 ≤ a) (hb : 0 ≤ b) (la : a < 2 ^ 990) (lb : b < 2 ^ 990) : (eu 2000 (a, b)).2 = 0 := by
  have hlt := h.lt (by decide)
  have hbd := h.bd (by decide)
  have p2 := h.p2
  rcases Int.lt_or_le 0 (eu 2000 (a, b)).2 with hy | hy
  · exfalso
    have h1 : (1 : Int) * 1 ≤ (eu 2000 (a, b)).1 * (eu 2000 (a, b)).2 := Int.mul_le_mul (by omega) (by omega) (by decide) (by omega)
    have hp : (0 : Int) ≤ 2 ^ (2000 - 1) := Int.pow_nonneg (by decide)
    have h2 := Int.mul_le_mul_of_nonneg_right h1 hp
    have h3 : a * b ≤ 2 ^ 990 * 2 ^ 990 := Int.mul_le_mul (by omega) (by omega) hb (Int.pow_nonneg (by decide))
    have h4 : (2 : Int) ^ 990 * 2 ^ 990 < 1 * 1 * 2 ^ (2000 - 1) := by decide +kernel
    omega
  · omega
theorem eu_gcd {a b : Int} {i : Nat} (h : EuJ a b i) (hz : (eu i (a, b)).2 = 0) : (eu i (a, b)).1 = (Int.gcd a b : Nat) := by
  have g := h.g
  have p1 := h.p1
  rw [hz, Int.gcd_zero_right] at g
  omega
theorem getD_out {ns : List Int} {k : Nat} (h : ¬ k < ns.length) : ns.getD k 0 = 0 := by
  rw [List.getD_eq_getElem?_getD, List.getElem?_eq_none (by omega)]
  rfl
theorem gcd_abs {s t : Int} : Int.gcd (s.natAbs : Int) (t.natAbs : Int) = Int.gcd s t := by simp [Int.gcd]
theorem lg_abs {s : Int} (h : Lg s < 990) : (s.natAbs : Int) < 2 ^ 990 := by
  have h1 := lg_lt h
  have : ((s.natAbs : Nat) : Int) < ((2 ^ 990 : Nat) : Int) := by omega
  simpa using this
theorem rat_den1b {t b : Int} (hb : b ≠ 0) (h : b.fdiv (lowC t b) = 1) : ((t : Rat) / (b : Rat)).den = 1 := by
  have := rat_den (t := t) hb
  omega
/-! the law's numbers -/
def divs (c : Int) : Nat → Int
  | 0 => c
  | i + 1 => (divs c i).fdiv 10007
def bigN (c : Int) (j : Nat) : Int := (divs c j).fmod 10007
def smallN (c : Int) (j : Nat) : Int := (((c * 48271 + 69621 * (j : Int) + 11).fmod 2147483647).fdiv 16 * 7919 + (j : Int)).fmod 10007
def lawNums (ns : List Int) (k many : Nat) : List Int := if (10 : Int) ^ 18 ≤ ((ns.getD k 0).natAbs : Int) then (List.range many).map (bigN (ns.getD k 0).natAbs) else (List.range many).map (smallN (ns.getD k 0).natAbs)
theorem lawNums_len (ns : List Int) (k many : Nat) : (lawNums ns k many).length = many := by
  unfold lawNums
  split <;> simp
theorem mul_s {i j : Int} (h1 : i.natAbs < 18446744073709551616) (h2 : j.natAbs < 18446744073709551616) : Lg i + Lg j < 1000000 := by
  have a := lg_of (n := 64) (by decide) (show i.natAbs < 2 ^ 64 from h1)
  have b := lg_of (n := 64) (by decide) (show j.natAbs < 2 ^ 64 from h2)
  omega
theorem sm16 (x : Int) : ((x.fmod 2147483647).fdiv 16).natAbs < 18446744073709551616 := by
  have h1 := Int.fmod_nonneg_of_pos x (show (0 : Int) < 2147483647 by decide)
  have h2 := Int.fmod_lt_of_pos x (show (0 : Int) < 2147483647 by decide)
  rw [Int.fdiv_eq_ediv_of_nonneg _ (by decide)]
  omega
/-! the law's values -/
/-! the law's lists -/
end DL

set_option Elab.async false
set_option linter.all false
set_option maxRecDepth 100000
set_option maxHeartbeats 4000000
namespace DL
open PySem PySem.Spec PyProof.Rows L2
section
variable {X : Cx} {N : List Str} {sc : Scope} {k j : Nat} {Γ Γ' Γ1 : List Sl} {tg it a b c e o : Expr} {ifs es rest : List Expr} {r ra rb rc r' : Rep} {rs l l2 : List Rep} {pos p p2 apos : Pos} {x : Str} {i : Nat} {F0 H0 F1 F H : Hp} {σ : L2.St} {st body : List Stmt} {D : Ends}
/-! ### texts -/
variable {s t : Str}
/-- a constant of the module -/
theorem de_glob {v : V} (B : BX X N sc k) (hm : ∃ u, X.mg x = some u ∧ RelV v u) (hg : sc.names.lookup x = some .globalImplicit) (hd : (x == ("__debug__" : Str)) = false := by decide) : DE X Γ (.Name x pos) (rC v) := fun F0 H0 F H σ en Q q => by
  have hgl : Gl X x := by
    show X.env.scope.names.lookup x = _
    rw [B.hsc]
    exact hg
  obtain ⟨u, h1, h2⟩ := hm
  exact .of (pe_glob hgl h1 h2 hd) (q v F H (.refl en.gr.s) rfl)
theorem de_catS (hl : s.length + t.length ≤ sizeLine) (ha : DE X Γ a (rStr s)) (hb : DE X Γ b (rStr t)) : DE X Γ (.BinOp a .Add b pos) (rStr (s ++ t)) := de_op op_add_str (fun F H x y sm h1 h2 Q q => by
  cases h1
  cases h2
  exact ⟨s, t, rfl, rfl, hl, q _ F H (.refl sm) rfl⟩) ha hb
theorem de_strI {n : Int} (B : BX X N sc k) (hm : X.mg "str" = none) (hn : Lg n < 1920) (ha : DE X Γ a (rInt n)) (hg : sc.names.lookup ("str" : Str) = some NameKind.globalImplicit)
    (he : starEach (a :: []) X.env = (false, eval a X.env) :: starEach [] X.env := by rfl) : DE X Γ (.Call (.Name "str" p) [a] [] pos) (rStr (toString n)) :=
  de_bty B call_str_int (fun F H vs sm hv Q q => by
    obtain ⟨v, rfl, k1⟩ := rl1 hv
    cases k1
    exact ⟨n, rfl, hn, q _ F H (.refl sm) rfl⟩) hm (by decide +kernel) (da_cons ha da_nil he) hg (he := he)
theorem de_lenS (B : BX X N sc k) (hm : X.mg "len" = none) (hl : s.length ≤ sizeLine) (ha : DE X Γ a (rStr s)) (hg : sc.names.lookup ("len" : Str) = some NameKind.globalImplicit)
    (he : starEach (a :: []) X.env = (false, eval a X.env) :: starEach [] X.env := by rfl) : DE X Γ (.Call (.Name "len" p) [a] [] pos) (rInt s.length) :=
  de_blt B call_len_str (fun F H vs sm hv Q q => by
    obtain ⟨v, rfl, k1⟩ := rl1 hv
    cases k1
    exact ⟨s, rfl, hl, q _ F H (.refl sm) rfl⟩) hm PySem.boot_len (da_cons ha da_nil he) hg (he := he)
theorem vstr_dec : decide (V.str s = V.str t) = decide (s = t) := by
  by_cases h : s = t
  · rw [decide_eq_true h, h, decide_eq_true rfl]
  · rw [decide_eq_false h, decide_eq_false fun z => h (V.str.inj z)]
theorem b2_eqS : B2 rEq (rStr s) (rStr t) (rBl (decide (s = t))) := by
  have h := b2_eq (x := .str s) (y := .str t) rfl
  rw [vstr_dec] at h
  exact h
theorem b2_neS : B2 rNe (rStr s) (rStr t) (rBl (!decide (s = t))) := by
  have h := b2_ne (x := .str s) (y := .str t) rfl
  rw [vstr_dec] at h
  exact h
theorem dt_eqS (ha : DE X Γ a (rStr s)) (hb : DE X Γ b (rStr t)) : DT X Γ (.Compare a [.Eq] [b] pos) (decide (s = t)) := dt_cmp op_eq b2_eqS ha hb (nomark _)
theorem dt_neS (ha : DE X Γ a (rStr s)) (hb : DE X Γ b (rStr t)) : DT X Γ (.Compare a [.NotEq] [b] pos) (!decide (s = t)) := dt_cmp op_ne b2_neS ha hb (nomark _)
theorem de_eqS (ha : DE X Γ a (rStr s)) (hb : DE X Γ b (rStr t)) : DE X Γ (.Compare a [.Eq] [b] pos) (rBl (decide (s = t))) := de_cmp op_eq b2_eqS ha hb (nomark _)
def rMulS : R2 := fun x y H Q => ∃ (s : Str) (n : Int), x = .str s ∧ y = .int n ∧ MulOk s n ∧ Q (.str (Txt.mul s n)) H
theorem op_mulS : OpR X (binaryOp .Mult) rMulS := by
  intro pins s σ H x y v u Q I r1 r2 h
  obtain ⟨z, n, rfl, rfl, hc, q⟩ := h
  obtain ⟨t, rfl⟩ := r1
  obtain ⟨t2, rfl⟩ := r2
  exact SB.mul hc fun t' k => ⟨.str _, H, I.tok _, ⟨_, rfl⟩, q⟩
theorem de_mulS {n : Int} (hc : MulOk s n) (ha : DE X Γ a (rStr s)) (hb : DE X Γ b (rInt n)) : DE X Γ (.BinOp a .Mult b pos) (rStr (Txt.mul s n)) := de_op op_mulS (fun F H x y sm h1 h2 Q q => by
  cases h1
  cases h2
  exact ⟨s, n, rfl, rfl, hc, q _ F H (.refl sm) rfl⟩) ha hb
end
end DL

set_option linter.all false
set_option maxRecDepth 100000
set_option maxHeartbeats 4000000
namespace DL
open PySem L2 TL
/-! ### numbers as texts -/
/-! ### the reading of a number -/
def isBdn (x : Str) : Bool := (!Txt.isdigit x) || decide ((400 : Int) < (x.length : Int))
def isNumr (x : Str) : Bool := (!isBdn x) && (decide (x = ("0" : Str)) || !Txt.startswith x ("0" : Str))
def pNeg (x : Str) : Bool := Txt.startswith x ("-" : Str)
def pUns (x : Str) : Str := if pNeg x = true then cutS x (some 1) none else x
def pTop (x : Str) : Str := (Txt.partition (pUns x) ("/" : Str)).1
def pSls (x : Str) : Str := (Txt.partition (pUns x) ("/" : Str)).2.1
def pBot (x : Str) : Str := if ((pSls x).length : Int) = 0 then ("1" : Str) else (Txt.partition (pUns x) ("/" : Str)).2.2
def pBad (x : Str) : Bool := (!isNumr (pTop x)) || ((!isNumr (pBot x)) || decide (pBot x = ("0" : Str)))
def pInt (x : Str) : Int := (intText? x).getD 0
def pAbs (x : Str) : Rat := ((pInt (pTop x) : Int) : Rat) / ((pInt (pBot x) : Int) : Rat)
def pNum (x : Str) : Rat := if pNeg x = true then ((0 : Int) : Rat) - pAbs x else pAbs x
/-- what is asked of a text that is read -/
structure RdOk (x : Str) : Prop where
  len : x.length ≤ 100000
  num : pBad x = false → intText? (pTop x) = some (pInt (pTop x)) ∧ intText? (pBot x) = some (pInt (pBot x)) ∧ pInt (pBot x) ≠ 0 ∧ Lg (pInt (pTop x)) ≤ 1400 ∧ Lg (pInt (pBot x)) ≤ 1400
/-! ### a number's own text is read back -/
end DL

set_option Elab.async false
set_option linter.all false
set_option maxRecDepth 100000
set_option maxHeartbeats 4000000
namespace DL
open PySem PySem.Spec PyProof.Rows L2 TL
section
variable {X : Cx} {N : List Str} {sc : Scope} {k j : Nat} {Γ Γ' Γ1 : List Sl} {a b c e o : Expr} {r ra rb rc r' : Rep} {pos p p2 apos : Pos} {x : Str} {i : Nat} {s t : Str}
end
section
variable {x : Str}
structure PF (x b : Str) : Prop where
  it : intText? (Txt.partition (pUns x) ("/" : Str)).1 = some (pInt (pTop x))
  ib : intText? b = some (pInt (pBot x))
  nz : pInt (pBot x) ≠ 0
  lt : Lg (pInt (pTop x)) ≤ 1400
  lb : Lg (pInt (pBot x)) ≤ 1400
  wt : (Txt.partition (pUns x) ("/" : Str)).1.length ≤ 640
  wb : b.length ≤ 640
  sz : Sz 1402 (pAbs x)
  sn : Sz 1404 (pNum x)
end
theorem nd_t {p : Prop} [Decidable p] (h : (!decide p) = true) : ¬ p := by simpa using h
theorem nd_f {p : Prop} [Decidable p] (h : (!decide p) = false) : p := by simpa using h
end DL

set_option Elab.async false
set_option linter.all false
set_option maxRecDepth 100000
set_option maxHeartbeats 4000000
namespace DL
open PySem PySem.Spec PyProof.Rows L2
/-! ### try: f(..) except C as e: return .. -/
structure FX (X : Cx) (W : WX) : Prop where
  st : X.stack = X.env :: X.outer
  fr : X.env.frame = some X.env.locals
  tk : Takes X W
section
variable {P : Program} {w : World} {K : PySem.W.Frag} {mg : Str → Option Value} {base : Heap} {k : Nat} {x : Str} {st : Stmt} {N ps : List Str} {ι : Type} {pre : ι → Prop} {args : ι → List Rep} {res : ι → Ret}
theorem cal_okT (T : TD K mg x st) (S : FnScope N ps (defScope st)) (hn : ∀ g, (args g).length = ps.length)
    (hb : ∀ (kV doc pm : Value) (an : Option Addr) (cdv ct : Value) (us : List Value), us.length = ps.length → bindArgs (PySem.W.fnOf x x (defArgs st) (defBody st) (defScope st) .none kV doc pm an cdv ct) ⟨us, []⟩ = pure (ps.zip us))
    (body : ∀ (X : Cx), X.prog = P → X.w = w → X.K = K → X.mg = mg → X.base = base → FX X (fun _ _ _ _ => False) → BX X N (defScope st) k → (∀ x : Str, X.fn x = true) → ∀ (g : ι) (F0 H0 : Hp) (D : Ends), pre g → RT F0 H0 (res g) D → (∀ σ H', D.nx σ H' = D.rt .non H') →
      GO X F0 H0 (defBody st) D ((args g).map Sl.im ++ List.replicate (N.length - ps.length) .any)) : Cal P w K mg base (k + 1) x (Pm pre args res) := by
  obtain ⟨f, fd, F, hm⟩ := T.ex
  refine ⟨f, fd, ps, ?_, hm, F.kp, F.binds hb⟩
  refine FnOk.wide (F.ok S (fun vs H Q E h => ?_) (fun cdv A outer s H vs Q E hr h => ?_))
  · obtain ⟨g, F1, _, _, h1, _⟩ := h
    rw [← h1.len, hn]
  · obtain ⟨g, F1, hp, hs, h1, q⟩ := h
    refine ⟨_, pss_ev, ?_⟩
    have hpl : ps.length ≤ N.length := by have := congrArg List.length S.pre; rw [List.length_take] at this; omega
    have en := en_start (N := N) hs h1 (by rw [hn]; exact hpl)
    rw [hn] at en
    exact body _ rfl rfl rfl rfl rfl ⟨rfl, rfl, fun u s' ⟨_, _, _, _, _, _, _, _, _, _, _, _, _, _, _, _, z⟩ => z.elim⟩ ⟨rfl, rfl, S.nd, hr, rfl, PassesOwn.never⟩ (fun _ => rfl) g F1 H { nx := fun _ H' => Q .non H', rt := Q } hp q (fun _ _ => rfl) F1 H _ en
end
section
variable {X Y : Cx} {N : List Str} {sc : Scope} {k i : Nat} {Γ : List Sl} {a b c e : Expr} {rest : List Expr} {body suite st : List Stmt} {b₀ : Stmt} {x n : Str} {cv : Value} {np p p2 pos pos' : Pos} {W : WX} {D : Ends} {F0 H0 : Hp} {u v : Bool} {σ : L2.St} {H : Hp}
def tsu (X : Cx) (suite : List Stmt) (a : Addr) (cls : Value) (d : Option Addr) : TS := fun D σ H => ∀ (oe : Obj) (pn : List (Addr × Obj)), Zc cls d oe → (∃ vs, oe.data = .fields vs) → XS (X.suite a ((a, oe) :: pn)) suite D σ H
def tbo (X : Cx) (body : List Stmt) (W : WX) : TS := fun D σ H => ∀ (pn : List (Addr × Obj)) (xe : Value → Shared → Prop), Takes (X.tr pn xe) W → PassesOwn (model X.prog X.w) X.A X.env xe → XS (X.tr pn xe) body D σ H
theorem go_tryR (B : BX X N sc k) (Z : FX X W) (hN : N[i]? = some n) (hln : sc.names.lookup n = some .local) (hx : sc.names.lookup x = some .globalImplicit) (hm : X.mg x = some cv) (hd : (x == ("__debug__" : Str)) = false)
    (hb : ∀ pn xe, BX (X.tr pn xe) N sc k → Takes (X.tr pn xe) (wAs X.K cv i (tsu X (b₀ :: suite)) W { D with nx := XS X st D }) → GO (X.tr pn xe) F0 H0 body { D with nx := XS X st D } Γ) :
    GO X F0 H0 (.Try body [.ExceptHandler (some (.Name x np)) (some n) (b₀ :: suite) pos'] [] [] pos :: st) D Γ := fun F H σ en => by
  have hgl : Gl X x := by
    show X.env.scope.names.lookup x = _
    rw [B.hsc]
    exact hx
  have hk : X.env.kindOf n = some .local := by
    show X.env.scope.names.lookup n = _
    rw [B.hsc]
    exact hln
  refine .of (pss_cons (ps_try_as Z.st Z.fr (by rw [B.hN]; exact B.nd) (by rw [B.hN]; exact hN) hk ⟨hgl, hd, .inl hm⟩ Z.tk (tb := tbo X body) (ts := tsu X (b₀ :: suite)) (fun W pn xe tk po => ⟨fun pins s σ H D I h => h pn xe tk po pins s I⟩) (fun a oe cls d pn hz hv => ⟨fun pins s σ H D I h => h oe pn hz hv pins s I⟩)) pss_ev) ?_
  exact fun pn xe tk po => hb pn xe ⟨B.hN, B.hsc, B.nd, B.room, B.calm, po⟩ tk F H σ en
/-! an expression that tells and makes nothing -/
/-- e is a class of the program or a built-in one -/
def ClsE (Y : Cx) (e : Expr) (cv : Value) : Prop := ∃ c : V, (∀ u, RelV c u → u = cv) ∧ PE Y e (tC c)
theorem clsE_own {C : Addr} (hg : Gl Y x) (hm : Y.mg x = some (.ref C)) (hd : (x == ("__debug__" : Str)) = false := by decide) : ClsE Y (.Name x pos) (.ref C) := ⟨.ref C, fun u h => h, pe_glob hg hm rfl hd⟩
theorem clsE_blt {T : String} (hg : Gl Y x) (hm : Y.mg x = none) (hv : bootBuiltins x = some (.type T)) (hn : x ≠ "__name__" := by decide) (hd : (x == ("__debug__" : Str)) = false := by decide) : ClsE Y (.Name x pos) (.type T) := ⟨.ty T, fun u h => h, pe_bltn (v := .ty T) hg hm hv rfl hn hd⟩
end
end DL

set_option Elab.async false
set_option linter.all false
set_option maxRecDepth 100000
set_option maxHeartbeats 4000000
namespace DL
open PySem PySem.Spec PyProof.Rows L2
/-- a list of the heap that stands still -/
def rLh (l : List Rep) : Rep := ⟨fun F x => ∃ a vs, x = .ref a ∧ F a = some (.lst vs) ∧ RL F l vs, fun s ⟨a, vs, e, h, q⟩ => ⟨a, vs, e, s _ _ h, q.mono s⟩⟩
theorem sub_h2l {K : PySem.W.Frag} {l : List Rep} : Sub (rLh l) (rLst K l) := fun F v ⟨a, vs, e, h, q⟩ => ⟨a, vs, e, SqL.of h, q⟩
section
variable {X : Cx} {N : List Str} {sc : Scope} {k i : Nat} {Γ Γ' : List Sl} {a b c e : Expr} {l l2 : List Rep} {pos : Pos} {F0 H0 F H : Hp} {σ : L2.St} {st body orelse : List Stmt} {D : Ends}
theorem de_h2l (h : DE X Γ e (rLh l)) : DE X Γ e (rLst X.K l) := h.sub sub_h2l
theorem DL.hfz (h : DL X Γ e l) : DE X Γ e (rLh l) := fun F0 H0 F H σ en Q q => h F0 H0 F H σ en Q fun p vs F' H' g h1 h2 h3 h4 =>
  q (.ref p) (upd F' p (.lst vs)) H' ⟨g.f.trans (same_new h2), g.h, fun b o z => by
    by_cases hb : b = p
    · subst hb
      rw [upd_same] at z
      rw [h3, ← z]
    · rw [upd_ne hb] at z
      exact g.s b o z, fun a ha z => by
    have hp : a ≠ p := fun y => ha (y ▸ h1)
    rw [upd_ne hp]
    exact g.n a ha z⟩ ⟨p, vs, rfl, upd_same, h4.mono (same_new h2)⟩
theorem dl_catH (hz : l.length + l2.length ≤ sizeLine) (ha : DE X Γ a (rLh l)) (hb : DE X Γ b (rLh l2)) : DL X Γ (.BinOp a .Add b pos) (l ++ l2) := fun F0 H0 F H σ en Q q =>
  .of (pe_op op_cat pe_ev pe_ev) (ha F0 H0 F H σ en _ fun v F1 H1 g1 h1 => hb F0 H0 F1 H1 σ (en.grow g1) _ fun u F2 H2 g2 h2 => by
    obtain ⟨p1, v1, rfl, k1, r1⟩ := h1
    obtain ⟨p2, v2, rfl, k2, r2⟩ := h2
    refine ⟨p1, p2, v1, v2, rfl, rfl, g2.s _ _ (g2.f _ _ k1), g2.s _ _ k2, by rw [← (r1.mono g2.f).len, ← r2.len]; exact hz, fun p hp => ?_⟩
    exact q p _ F2 _ ((g1.trans g2).trans (.newOwn g2.s hp)) ((g1.trans g2).h.free hp) (g2.s.free hp) upd_same ((r1.mono g2.f).app r2))
theorem En.freezeH (e : En F0 H0 F H σ Γ) (h : Γ[i]? = some (.ow l)) : ∃ F', Same F F' ∧ Same F' H ∧ En F0 H0 F' H σ (Γ.set i (.im (rLh l))) := by
  obtain ⟨p, vs, h1, h2, h3, h4, h5⟩ := e.ow h
  have s1 : Same F (upd F p (.lst vs)) := same_new h2
  have s2 : Same (upd F p (.lst vs)) H := fun b o z => by
    by_cases hb : b = p
    · subst hb
      rw [upd_same] at z
      rw [h3, ← z]
    · rw [upd_ne hb] at z
      exact e.gr.s b o z
  have nn : ∀ {j : Nat} {q : Addr} {m : List Rep}, j ≠ i → Γ[j]? = some (.ow m) → σ[j]? = some (some (.ref q)) → q ≠ p := fun {j q m} hj k1 k2 z => hj (e.sep j i p m l k1 h (z ▸ k2) h1)
  refine ⟨upd F p (.lst vs), s1, s2, ?_⟩
  exact {
    gr := ⟨e.gr.f.trans s1, e.gr.h, s2, fun a ha z => by
      have hp : a ≠ p := fun y => ha (y ▸ h5)
      rw [upd_ne hp]
      exact e.gr.n a ha z⟩
    len := by simpa using e.len
    ok := fun j s x k1 k2 => by
      rcases get_set k1 with ⟨rfl, rfl⟩ | ⟨n, k1⟩
      · rw [h1] at k2
        cases k2
        exact ⟨.ref p, rfl, p, vs, rfl, upd_same, h4.mono s1⟩
      · have q := e.ok j s x k1 k2
        cases s with
        | any => trivial
        | im r =>
          obtain ⟨v, a, b⟩ := q
          exact ⟨v, a, r.mono s1 b⟩
        | ow m =>
          obtain ⟨p2, ws2, a, b, c, d⟩ := q
          subst a
          refine ⟨p2, ws2, rfl, ?_, c, d.mono s1⟩
          rw [upd_ne (nn (Ne.symm n) k1 k2)]
          exact b
    own := fun j q m k1 k2 => by
      rcases get_set k1 with ⟨_, z⟩ | ⟨n, k1⟩
      · cases z
      · exact e.own j q m k1 k2
    sep := fun j k q m m' k1 k1' k2 k2' => by
      rcases get_set k1 with ⟨_, z⟩ | ⟨n, k1⟩
      · cases z
      rcases get_set k1' with ⟨_, z⟩ | ⟨n', k1'⟩
      · cases z
      exact e.sep j k q m m' k1 k1' k2 k2' }
theorem go_frozH (i : Nat) (hΓ : Γ[i]? = some (.ow l)) (h : GO X F0 H0 st D (Γ.set i (.im (rLh l)))) : GO X F0 H0 st D Γ := fun F H σ en => by
  obtain ⟨F', s1, s2, en'⟩ := en.freezeH hΓ
  exact h F' H σ en'
/-- the frame, told anew -/
theorem go_nf {X : Cx} {F0 H0 : Hp} {st : List Stmt} {D : Ends} {Γ : List Sl} (Γ' : List Sl) (e : Γ = Γ') (h : GO X F0 H0 st D Γ') : GO X F0 H0 st D Γ := e ▸ h
/-- an if, both ways to the same place -/
theorem go_ifK {t : Bool} (up : List (Nat × Sl)) (hc : DT X Γ c t) (hk : GO X F0 H0 st D (sets Γ up)) (h1 : GO X F0 H0 st D (sets Γ up) → t = true → GO X F0 H0 body { D with nx := XS X st D } Γ) (h2 : GO X F0 H0 st D (sets Γ up) → t = false → GO X F0 H0 orelse { D with nx := XS X st D } Γ) : GO X F0 H0 (.If c body orelse pos :: st) D Γ :=
  go_if hc (h1 hk) (h2 hk)
theorem go_join (hk : GO X F0 H0 st D Γ') (h : SlLe Γ Γ') : GO X F0 H0 [] { D with nx := XS X st D } Γ := go_nil fun F H σ en => hk F H σ (en.le h)
end
end DL

set_option Elab.async false
set_option linter.all false
set_option maxRecDepth 100000
set_option maxHeartbeats 4000000
namespace DL
open PySem PySem.Spec PyProof.Rows L2
section
variable {X : Cx} {N : List Str} {sc : Scope} {k j : Nat} {Γ Γ' Γ1 : List Sl} {tg it a b c e o : Expr} {ifs es rest : List Expr} {r ra rb rc r' : Rep} {rs l l2 : List Rep} {pos p p2 apos : Pos} {x : Str} {i n : Nat} {rr : Nat → Rep} {ws : List Nat} {scope : Scope}
theorem go_setLc {F0 H0 : Hp} {st : List Stmt} {D : Ends} {iy : Nat} {y : Str} {py spos : Pos} {l' : List Rep} (B : BX X N sc k) (own : List (Str × Nat)) (hi : SR X Γ tg it n rr) (ok : BlkOk N sc scope own) (G1 : Nat → List Sl) (tb : Nat → Bool) (f : Nat → Rep) (hn : n < sizeLine) (hw : ∀ i ∈ ws, i ∈ own.map (·.2))
    (hg : ∀ (s : Shared) (H : Hp) (C : Addr) (cl : List (Str × Addr)) (fp : List Addr), BX (X.blk s H scope (compEnvC scope cl C X.env) fp) N (relS scope sc) k → ∀ i, i < n → DG (X.blk s H scope (compEnvC scope cl C X.env) fp) (wipeG Γ (own.map (·.2))) tg (rr i) (G1 i) ws)
    (ht : ∀ (s : Shared) (H : Hp) (C : Addr) (cl : List (Str × Addr)) (fp : List Addr), BX (X.blk s H scope (compEnvC scope cl C X.env) fp) N (relS scope sc) k → ∀ i, i < n → DTs (X.blk s H scope (compEnvC scope cl C X.env) fp) (G1 i) ifs (tb i))
    (he : ∀ (s : Shared) (H : Hp) (C : Addr) (cl : List (Str × Addr)) (fp : List Addr), BX (X.blk s H scope (compEnvC scope cl C X.env) fp) N (relS scope sc) k → ∀ i, i < n → tb i = true → DE (X.blk s H scope (compEnvC scope cl C X.env) fp) (G1 i) e (f i)) (hs : ∀ x, foldedSetIterable it X.env x = pure x := by intro _; rfl) (hl : ((List.range n).filter tb).map f = l')
    (hNy : N[iy]? = some y) (hyl : sc.names.lookup y = some .local) (h : GO X F0 H0 st D (Γ.set iy (.ow l'))) (hsw : ∀ env : Env, env.scope = sc → swapsWith (.ListComp e [⟨tg, it, ifs, 0⟩] scope pos) (some (.Name y py)) spos.line env = pure true) :
    GO X F0 H0 (.Assign [.Name y py] (.ListComp e [⟨tg, it, ifs, 0⟩] scope pos) spos :: st) D Γ := fun F H σ en => by
  subst hl
  have q : ∀ p vs F' H', Gr F H F' H' → H p = none → F' p = none → H' p = some (.lst vs) → RL F' (((List.range n).filter tb).map f) vs → XS X st D (σ.set iy (some (.ref p))) H' := fun p vs F' H' g h1 h2 h3 h4 => h F' H' _ ((en.grow g).setOw h2 h3 h4 (en.gr.h.free h1) fun j l' k1 k2 => by
    obtain ⟨p', vs', a1, a2, a3, a4, a5⟩ := en.ow k1
    rw [a1] at k2
    have e2 : p' = p := V.ref.inj (Option.some.inj (Option.some.inj k2))
    rw [e2, h1] at a3
    cases a3)
  clear h
  replace hg : ∀ X', IsBlk X scope X' → BX X' N (relS scope sc) k → ∀ i, i < n → DG X' (wipeG Γ (own.map (·.2))) tg (rr i) (G1 i) ws := fun X' h B => by obtain ⟨s, H, C, cl, fp, rfl⟩ := h; exact hg s H C cl fp B
  replace ht : ∀ X', IsBlk X scope X' → BX X' N (relS scope sc) k → ∀ i, i < n → DTs X' (G1 i) ifs (tb i) := fun X' h B => by obtain ⟨s, H, C, cl, fp, rfl⟩ := h; exact ht s H C cl fp B
  replace he : ∀ X', IsBlk X scope X' → BX X' N (relS scope sc) k → ∀ i, i < n → tb i = true → DE X' (G1 i) e (f i) := fun X' h B => by obtain ⟨s, H, C, cl, fp, rfl⟩ := h; exact he s H C cl fp B
  let g : TG := fun v σ H Q => ∀ X', IsBlk X scope X' → GV X' tg v σ H Q
  let tt : TT := fun σ H Q => ∀ X', IsBlk X scope X' → TVs X' ifs σ H Q
  let te : TE := fun σ H Q => ∀ X', IsBlk X scope X' → EV X' e σ H Q
  have pg : ∀ (s : Shared) (H : Hp) (C : Addr) (cl : List (Str × Addr)) (fp : List Addr), PG (X.blk s H scope (compEnvC scope cl C X.env) fp) tg g := fun s H C cl fp => ⟨fun pins s' σ H v u Q I r h => h _ ⟨s, _, C, cl, fp, rfl⟩ pins s' u I r⟩
  have pt : ∀ (s : Shared) (H : Hp) (C : Addr) (cl : List (Str × Addr)) (fp : List Addr), PTs (X.blk s H scope (compEnvC scope cl C X.env) fp) ifs tt := fun s H C cl fp => ⟨fun pins s' σ H Q I h => h _ ⟨s, _, C, cl, fp, rfl⟩ pins s' I⟩
  have pe : ∀ (s : Shared) (H : Hp) (C : Addr) (cl : List (Str × Addr)) (fp : List Addr), PE (X.blk s H scope (compEnvC scope cl C X.env) fp) e te := fun s H C cl fp => ⟨fun pins s' σ H Q I h => h _ ⟨s, _, C, cl, fp, rfl⟩ pins s' I⟩
  refine .of (pss_cons (ps_setLc (i := iy) B.calm (by rw [B.hN]; exact B.nd) (by rw [B.hN]; exact hNy) (by rw [B.hsc]; exact hyl) (hsw _ B.hsc) pi_ev (by rw [B.hN, B.hsc]; exact ok) pg pt pe hs) pss_ev) ?_
  refine hi F0 H0 F H σ en _ fun J F1 H1 g1 wk => fun D hD => ?_
  have en1 := en.grow g1
  refine ⟨fun i m H => m = n - i ∧ i ≤ n ∧ ∃ F vs, Gr F1 H1 F H ∧ F D = none ∧ H D = some (.lst vs) ∧ RL F (((List.range i).filter tb).map f) vs, ⟨n, by simp, Nat.zero_le _, F1, [], .newOwn g1.s hD, g1.s.free hD, upd_same, .nil⟩, fun i m H2 hw2 => ?_⟩
  obtain ⟨rfl, hle, F2, vs, g2, d2, e2, l2⟩ := hw2
  have s2 : Same F1 H2 := g2.f.trans g2.s
  by_cases hlt : i < n
  · refine .inr ⟨wk.go i H2 s2 hlt, fun H => i + 1 ≤ n ∧ ∃ F vs, Gr F1 H1 F H ∧ F D = none ∧ H D = some (.lst vs) ∧ RL F (((List.range (i + 1)).filter tb).map f) vs, fun H' h => ⟨n - (i + 1), by omega, rfl, h.1, h.2⟩, fun x H3 hy => ?_⟩
    obtain ⟨F3, g3, hx⟩ := wk.yld i F2 H2 x H3 g2.f g2.s hlt hy
    have en3 := ((en1.grow (g2.trans g3)).wipe (own.map (·.2)))
    -- the target is stored
    have key : ∀ X', IsBlk X scope X' → ∀ Q : L2.St → Hp → Prop, (∀ F' H' σ', Gr F3 H3 F' H' → En F0 H0 F' H' σ' (G1 i) → Off ws (L2.wipe σ (own.map (·.2))) σ' → Q σ' H') → GV X' tg x (L2.wipe σ (own.map (·.2))) H3 Q := fun X' hX' Q hQ => hg X' hX' (B.blk hX') i hlt F0 H0 F3 H3 _ x en3 hx Q hQ
    intro X' hX'
    refine key X' hX' _ fun F4 H4 σ4 g4 en4 off => ⟨?_, fun X2 hX2 => ?_⟩
    · have := off (own.map (·.2)) hw
      rw [this]
      exact wipe_wipe _ _
    refine ht X2 hX2 (B.blk hX2) i hlt F0 H0 F4 H4 σ4 en4 _ fun F5 H5 g5 => ?_
    have gg5 := ((g2.trans g3).trans g4).trans g5
    have d5 : F5 D = none := (((g3.trans g4).trans g5).n D (by rw [e2]; exact fun z => nomatch z) d2)
    have h5 : H5 D = some (.lst vs) := ((g3.trans g4).trans g5).h _ _ e2
    have l5 := l2.mono ((g3.trans g4).trans g5).f
    cases hb : tb i with
    | false =>
      rw [if_neg Bool.false_ne_true]
      refine ⟨hlt, F5, vs, gg5, d5, h5, ?_⟩
      rw [filter_snoc, hb, if_neg Bool.false_ne_true, List.append_nil]
      exact l5
    | true =>
      rw [if_pos rfl]
      intro X3 hX3
      refine he X3 hX3 (B.blk hX3) i hlt hb F0 H0 F5 H5 σ4 (en4.grow g5) _ fun y F6 H6 g6 hy6 => ?_
      have h6 := g6.h _ _ h5
      have d6 := g6.n D (by rw [h5]; exact fun z => nomatch z) d5
      have hlen : vs.length < sizeLine := by
        rw [← l5.len, List.length_map]
        have := List.length_filter_le tb (List.range i)
        rw [List.length_range] at this
        omega
      refine ⟨vs, h6, hlen, hlt, F6, vs ++ [y], ?_, d6, upd_same, ?_⟩
      · have gg6 := gg5.trans g6
        exact ⟨gg6.f, fun b o z => by rw [upd_ne (ne_of_none z hD)]; exact gg6.h b o z, same_out gg6.s d6, gg6.n⟩
      · rw [filter_snoc, hb, if_pos rfl]
        exact (l5.mono g6.f).snoc hy6
  · have e : i = n := by omega
    subst e
    refine .inl ⟨wk.stop i H2 s2 (Nat.le_refl _), ?_⟩
    exact q D vs F2 H2 (g1.trans g2) (g1.h.free hD) d2 e2 l2
/-- texts that stand there -/
def strsOf : List Expr → Option (List Str)
  | [] => some []
  | .Constant (.str s) _ _ :: r => match strsOf r with
    | some l => some (s :: l)
    | none => none
  | _ => none
theorem da_strsN : ∀ (n : Nat) {es : List Expr} {ss : List Str} {rs : List Rep}, strsOf (es.take n) = some ss → DA X Γ (es.drop n) rs → DA X Γ es (ss.map rStr ++ rs)
  | 0, es, ss, rs, h, hd => by
    cases h
    exact hd
  | n + 1, [], ss, rs, h, hd => by
    cases h
    exact hd
  | n + 1, .Constant (.str s) _ _ :: es, ss, rs, h, hd => by
    rw [List.take_succ_cons, strsOf] at h
    cases e : strsOf (es.take n) with
    | none => rw [e] at h; cases h
    | some l =>
      rw [e] at h
      cases h
      exact da_cons de_str (da_strsN n e hd) rfl
theorem da_strs {es : List Expr} {ss : List Str} (h : strsOf es = some ss) : DA X Γ es (ss.map rStr) := by
  have := da_strsN (X := X) (Γ := Γ) es.length (es := es) (ss := ss) (rs := []) (by rw [List.take_length]; exact h) (by rw [List.drop_length]; exact da_nil)
  rwa [List.append_nil] at this
end
section
variable {X : Cx} {Γ : List Sl} {es : List Expr} {rs : List Rep}
end
end DL

set_option Elab.async false
set_option linter.all false
set_option maxRecDepth 100000
set_option maxHeartbeats 4000000
namespace DL
open PySem PySem.Spec PyProof.Rows L2
/-! ### the law itself -/
section
variable {P : Program} {w : World} {K : PySem.W.Frag} {mg : Str → Option Value} {base : Heap} {k : Nat} {x : Str} {st : Stmt} {N ps : List Str} {ι : Type} {pre : ι → Prop} {args : ι → List Rep} {res : ι → Ret} {f : Addr} {fd : FuncData}
theorem cal_okF (F : Fun K x x st f fd) (S : FnScope N ps (defScope st)) (hn : ∀ g, (args g).length = ps.length)
    (body : ∀ (X : Cx), X.prog = P → X.w = w → X.K = K → X.mg = mg → X.base = base → BX X N (defScope st) k → (∀ x : Str, X.fn x = true) → ∀ (g : ι) (F0 H0 : Hp) (D : Ends), pre g → RT F0 H0 (res g) D → (∀ σ H', D.nx σ H' = D.rt .non H') →
      GO X F0 H0 (defBody st) D ((args g).map Sl.im ++ List.replicate (N.length - ps.length) .any)) : FnOk P w K mg base (L2.CX P w) (k + 1) f fd ps (Pm pre args res) := by
  refine FnOk.wide (F.ok S (fun vs H Q E h => ?_) (fun cdv A outer s H vs Q E hr h => ?_))
  · obtain ⟨g, F1, _, _, h1, _⟩ := h
    rw [← h1.len, hn]
  · obtain ⟨g, F1, hp, hs, h1, q⟩ := h
    refine ⟨_, pss_ev, ?_⟩
    have hpl : ps.length ≤ N.length := by have := congrArg List.length S.pre; rw [List.length_take] at this; omega
    have en := en_start (N := N) hs h1 (by rw [hn]; exact hpl)
    rw [hn] at en
    exact body _ rfl rfl rfl rfl rfl ⟨rfl, rfl, S.nd, hr, rfl, PassesOwn.never⟩ (fun _ => rfl) g F1 H { nx := fun _ H' => Q .non H', rt := Q } hp q (fun _ _ => rfl) F1 H _ en
end
theorem rl_ints (H : Hp) : ∀ ns : List Int, RL H (ns.map rInt) (ns.map V.int)
  | [] => .nil
  | _ :: r => .cons rfl (rl_ints H r)
end DL

set_option Elab.async false
set_option linter.all false
set_option maxRecDepth 100000
set_option maxHeartbeats 4000000
namespace DL
open PySem PySem.Spec PyProof.Rows L2
/-! ### data by kinds: what == tells -/
structure Dat {α : Type} [DecidableEq α] (K : PySem.W.Frag) (R : α → Rep) (d : α → PyData) (n : Nat) : Prop where
  dp : ∀ a, DpL K (R a) (d a)
  lay : ∀ a, PyData.canLay0 (d a) = true
  dep : ∀ a, PyData.depth (d a) ≤ n
  eq : ∀ a b, PyData.eqv (d a) (d b) = decide (a = b)
section
variable {K : PySem.W.Frag} {α : Type} [DecidableEq α] {R : α → Rep} {d : α → PyData} {n : Nat}
theorem dat_int : Dat K rInt PyData.int 0 := ⟨fun _ => dpl_int, fun _ => rfl, fun _ => Nat.le_refl _, fun a b => by
  show (a == b) = _
  by_cases h : a = b <;> simp [h]⟩
theorem dat_num : Dat K (rNum K) numD 1 := ⟨fun _ => dpl_num, fun _ => SeqAt.canLay_of_shaped shaped_num, fun q => by
    unfold numD
    split
    · exact Nat.zero_le _
    · show max 0 (max 0 0) + 1 ≤ 1
      decide, fun a b => numD_eq⟩
theorem eqvAll_map (h : ∀ a b, PyData.eqv (d a) (d b) = decide (a = b)) : ∀ l m : List α, PyData.eqvAll (l.map d) (m.map d) = decide (l = m)
  | [], [] => rfl
  | [], y :: m => by rw [decide_eq_false (by simp)]; rfl
  | x :: l, [] => by rw [decide_eq_false (by simp)]; rfl
  | x :: l, y :: m => by
    show (PyData.eqv (d x) (d y) && PyData.eqvAll (l.map d) (m.map d)) = _
    rw [h, eqvAll_map h l m]
    by_cases e : x = y
    · by_cases f : l = m <;> simp [e, f]
    · simp [e]
theorem canLayAll_map (h : ∀ a, PyData.canLay0 (d a) = true) : ∀ l : List α, PyData.canLayAll0 (l.map d) = true
  | [] => rfl
  | x :: l => by
    show (PyData.canLay0 (d x) && PyData.canLayAll0 (l.map d)) = true
    rw [h, canLayAll_map h l]; rfl
theorem depthAll_map (h : ∀ a, PyData.depth (d a) ≤ n) : ∀ l : List α, PyData.depthAll (l.map d) ≤ n
  | [] => Nat.zero_le _
  | x :: l => by
    show max (PyData.depth (d x)) (PyData.depthAll (l.map d)) ≤ n
    have := h x; have := depthAll_map h l; omega
theorem dat_lst (D : Dat K R d n) : Dat K (fun l : List α => rLst K (l.map R)) (fun l => .list (l.map d)) (n + 1) :=
  ⟨fun l => dpl_lst fun a _ => D.dp a, fun l => canLayAll_map D.lay l, fun l => Nat.succ_le_succ (depthAll_map D.dep l), fun l m => eqvAll_map D.eq l m⟩
theorem Dat.shaped (D : Dat K R d n) (h : n ≤ 64) (a : α) : SeqAt.shaped (d a) = true := by
  unfold SeqAt.shaped
  rw [Bool.and_eq_true]
  exact ⟨D.lay a, decide_eq_true (Nat.le_trans (D.dep a) h)⟩
theorem anyD (D : Dat K R d n) {l : List α} {a : α} : ((l.map d).any fun z => PyData.eqv z (d a)) = decide (a ∈ l) := by
  have e : ((fun z => PyData.eqv z (d a)) ∘ d) = fun x => decide (x = a) := funext fun x => D.eq x a
  rw [List.any_map, e]
  induction l with
  | nil => simp
  | cons x xs ih =>
    rw [List.any_cons, ih]
    by_cases h : x = a
    · simp [h]
    · have h2 : ¬ a = x := fun z => h z.symm
      simp [h, h2]
end
section
variable {X : Cx} {N : List Str} {sc : Scope} {k j i : Nat} {Γ : List Sl} {a b e : Expr} {es : List Expr} {r ra rb : Rep} {l : List Rep} {pos p : Pos} {x : Str} {α : Type} [DecidableEq α] {R : α → Rep} {d : α → PyData} {n : Nat} {u v : α}
theorem dt_neT (D : Dat X.K R d n) (hn : n ≤ 64) (B : BX X N sc k) (ha : DE X Γ a (R u)) (hb : DE X Γ b (R v)) : DT X Γ (.Compare a [.NotEq] [b] pos) (!decide (u = v)) := (dt_cmp (op_neD B.hu) (b2_neD (D.dp u) (D.dp v) (D.shaped hn u) (D.shaped hn v)) ha hb (nomark _)).to (by rw [D.eq])
theorem de_eqT (D : Dat X.K R d n) (hn : n ≤ 64) (B : BX X N sc k) (ha : DE X Γ a (R u)) (hb : DE X Γ b (R v)) : DE X Γ (.Compare a [.Eq] [b] pos) (rBl (decide (u = v))) := (de_cmp (op_eqD B.hu) (b2_eqD (D.dp u) (D.dp v) (D.shaped hn u) (D.shaped hn v)) ha hb (nomark _)).to (by rw [D.eq])
theorem de_inT {us : List α} (D : Dat X.K R d n) (hn : n + 1 ≤ 64) (B : BX X N sc k) (ha : DE X Γ a (R u)) (hb : DE X Γ b (rLst X.K (us.map R))) (hm : behindInMarks .In b = false := by rfl) : DE X Γ (.Compare a [.In] [b] pos) (rBl (decide (u ∈ us))) :=
  (de_cmp (rc := rBl ((us.map d).any fun z => PyData.eqv z (d u))) (op_inD (by have := B.room.un; omega)) (fun F H x y s h1 h2 Q q' => ⟨d u, us.map d, dp_mono s _ _ (D.dp u F x h1), dp_mono s _ _ ((dat_lst D).dp us F y h2), D.shaped (by omega) u, (dat_lst D).shaped hn us, q' _ F H (.refl s) rfl⟩) ha hb hm).to (by rw [anyD D])
theorem dt_notInT {us : List α} (D : Dat X.K R d n) (hn : n + 1 ≤ 64) (B : BX X N sc k) (ha : DE X Γ a (R u)) (hb : DE X Γ b (rLst X.K (us.map R))) (hm : behindInMarks .NotIn b = false := by rfl) : DT X Γ (.Compare a [.NotIn] [b] pos) (!decide (u ∈ us)) :=
  (dt_cmp (t := !(us.map d).any fun z => PyData.eqv z (d u)) (op_notInD (by have := B.room.un; omega)) (fun F H x y s h1 h2 Q q' => ⟨d u, us.map d, dp_mono s _ _ (D.dp u F x h1), dp_mono s _ _ ((dat_lst D).dp us F y h2), D.shaped (by omega) u, (dat_lst D).shaped hn us, q' _ F H (.refl s) rfl⟩) ha hb hm).to (by rw [anyD D])
/-! ### a list of one's own, lent for a question -/
theorem dt_lend {t : Bool} (i : Nat) (hΓ : Γ[i]? = some (.ow l)) (h : DT X (Γ.set i (.im (rLst X.K l))) e t) : DT X Γ e t := fun F0 H0 F H σ en Q q => by
  obtain ⟨F', s1, s2, en'⟩ := en.freeze (K := X.K) hΓ
  exact h F0 H0 F' H σ en' Q fun F2 H2 g => q F H2 ⟨Same.refl _, g.h, en.gr.s.trans g.h, fun _ _ z => z⟩
/-! ### a def that is handed a list of one's own first, and may change it -/
variable {ι : Type} {pre : ι → Prop} {lo : ι → List Rep} {args : ι → List Rep} {res : ι → Ret}
end
section
variable {P : Program} {w : World} {K : PySem.W.Frag} {mg : Str → Option Value} {base : Heap} {k : Nat} {x : Str} {st : Stmt} {N ps : List Str} {ι : Type} {pre : ι → Prop} {lo args : ι → List Rep} {res : ι → Ret}
end
end DL

set_option Elab.async false
set_option linter.all false
set_option maxRecDepth 100000
set_option maxHeartbeats 4000000
namespace DL
open PySem PySem.Spec PyProof.Rows L2
section
variable {X : Cx} {N : List Str} {sc : Scope} {k j i : Nat} {Γ : List Sl} {tg it a b e : Expr} {es : List Expr} {r ra rb : Rep} {l : List Rep} {pos p p2 : Pos} {x : Str} {α : Type} {R : α → Rep} {xs : List α} {n : Int}
theorem de_allB {bs : List Bool} (B : BX X N sc k) (hm : X.mg "all" = none) (ha : DE X Γ a (rLst X.K (bs.map rBl))) (hg : sc.names.lookup ("all" : Str) = some NameKind.globalImplicit)
    (he : starEach (a :: []) X.env = (false, eval a X.env) :: starEach [] X.env := by rfl) : DE X Γ (.Call (.Name "all" p) [a] [] pos) (rBl (bs.all id)) :=
  de_blt B (cr_all B.calm) (fun F H vs s hv Q q => by
    obtain ⟨v, rfl, k1⟩ := rl1 hv
    obtain ⟨pp, us, rfl, k2, k3⟩ := k1
    have e : ∀ (bs : List Bool) (us : List V), RL F (bs.map rBl) us → us = bs.map V.bl := fun bs => by
      induction bs with
      | nil => intro us h; cases h; rfl
      | cons b bs ih => intro us h; cases h with | cons h1 h2 => rw [ih _ h2]; cases h1; rfl
    exact ⟨pp, bs, rfl, by rw [← e bs us k3]; exact s.seq k2, q _ F H (.refl s) rfl⟩) hm (by decide +kernel) (da_cons ha da_nil he) hg (he := he)
theorem sr_tup (h : DE X Γ it (rTup X.K l)) : SR X Γ tg it l.length (fun i => l.getD i rNon) := fun F0 H0 F H σ en R q =>
  .of (pi_tup pe_ev) (h F0 H0 F H σ en _ fun v F1 H1 g hv => by
    obtain ⟨p, vs, rfl, hs, hl⟩ := hv
    refine ⟨p, rfl, ⟨vs, sqt_mono g.s hs⟩, q _ F1 H1 g ⟨fun i H2 s hi => ⟨vs, sqt_mono s hs, by rw [← hl.len]; exact hi⟩, fun i H2 s hi => ?_, fun i F2 H2 x H' s s2 hi hy => ?_⟩⟩
    · have hi' : i < vs.length := hl.len ▸ hi
      exact ⟨vs, vs[i], sqt_mono s hs, List.getElem?_eq_getElem hi'⟩
    · obtain ⟨rfl, hx⟩ := hy
      have hx' := hx vs (sqt_mono s2 (sqt_mono s hs))
      obtain ⟨r, e, hr⟩ := hl.got hx'
      refine ⟨F2, .refl s2, ?_⟩
      show (l.getD i rNon).P F2 x
      rw [List.getD_eq_getElem?_getD, e]
      exact r.mono s hr)
theorem sr_tupM (d : α) (h : DE X Γ it (rTup X.K (xs.map R))) : SR X Γ tg it xs.length (fun i => R (xs.getD i d)) := by
  have h2 := sr_tup (tg := tg) h
  rw [List.length_map] at h2
  exact h2.to fun i hi => getD_map d hi
theorem cut_to {n : Int} (h : 0 ≤ n) : cutR (xs.map R) none (some n) = (xs.take n.toNat).map R := by
  obtain ⟨m, rfl⟩ : ∃ m : Nat, n = m := ⟨n.toNat, by omega⟩
  rw [cutR_map, cutR_to, Int.toNat_natCast]
theorem cut_from {n : Int} (h : 0 ≤ n) : cutR (xs.map R) (some n) none = (xs.drop n.toNat).map R := by
  obtain ⟨m, rfl⟩ : ∃ m : Nat, n = m := ⟨n.toNat, by omega⟩
  rw [cutR_map, cutR_from, Int.toNat_natCast]
theorem dl_to (h : DE X Γ e (rLst X.K (xs.map R))) (hn : 0 ≤ n) (h2 : DE X Γ b (rInt n)) : DL X Γ (.Subscript e (.Slice none (some b) none p2) pos) ((xs.take n.toNat).map R) :=
  (dl_slice (lo := none) (hi := some b) (ol := none) (oh := some n) h trivial h2).to (cut_to hn)
theorem dl_from (h : DE X Γ e (rLst X.K (xs.map R))) (hn : 0 ≤ n) (h2 : DE X Γ b (rInt n)) : DL X Γ (.Subscript e (.Slice (some b) none none p2) pos) ((xs.drop n.toNat).map R) :=
  (dl_slice (lo := some b) (hi := none) (ol := some n) (oh := none) h h2 trivial).to (cut_from hn)
theorem dl_catM {ys : List α} (ha : DL X Γ a (xs.map R)) (hb : DL X Γ b (ys.map R)) (hl : xs.length + ys.length ≤ sizeLine) : DL X Γ (.BinOp a .Add b pos) ((xs ++ ys).map R) :=
  (dl_cat ha hb (by rw [List.length_map, List.length_map]; exact hl)).to (by rw [List.map_append])
end
end DL

set_option Elab.async false
set_option linter.all false
set_option maxRecDepth 100000
set_option maxHeartbeats 4000000
namespace DL
open PySem PySem.Spec PyProof.Rows L2
/-! ### x is True, x no bool -/
section
variable {X : Cx} {N : List Str} {sc : Scope} {k j i : Nat} {Γ : List Sl} {tg it a b e : Expr} {es : List Expr} {r ra rb : Rep} {l l' : List Rep} {pos p p2 : Pos} {x : Str} {α : Type} {R : α → Rep} {xs : List α} {n : Int} {K : PySem.W.Frag} {q : Rat}
theorem notNon_lst : NotNon (rLst K l) := fun F v h => by obtain ⟨p, vs, rfl, _⟩ := h; exact fun z => nomatch z
/-- ints are numbers -/
theorem ints_nums {ns : List Int} : ns.map rInt = (ns.map (fun n : Int => (n : Rat))).map (rNum K) := by
  rw [List.map_map]
  exact List.map_congr_left fun n _ => (num_int n).symm
theorem de_li2n {ns : List Int} (h : DE X Γ e (rLst X.K (ns.map rInt))) : DE X Γ e (rLst X.K ((ns.map (fun n : Int => (n : Rat))).map (rNum X.K))) := h.to (by rw [ints_nums])
variable {it2 : Expr} {β : Type} {R2 : β → Rep} {ys : List β}
theorem sr_zipM {jj : Nat} {tpos : Pos} (d : α) (d2 : β) (B : BX X N sc k) (hm : X.mg "zip" = none) (h : DE X Γ it (rLst X.K (xs.map R))) (h2 : DE X Γ it2 (rLst X.K (ys.map R2))) (hg : sc.names.lookup ("zip" : Str) = some NameKind.globalImplicit)
    (hs : starEach [it, it2] X.env = (false, eval it X.env) :: starEach [it2] X.env := by rfl) (hs2 : starEach [it2] X.env = (false, eval it2 X.env) :: starEach [] X.env := by rfl) (hpl : (backTo pos (starEach [it2] X.env)).any (·.1) = false := by rfl) :
    SR X Γ (.Tuple es jj tpos) (.Call (.Name "zip" p) [it, it2] [] pos) (min xs.length ys.length) (fun i => rTup X.K [R (xs.getD i d), R2 (ys.getD i d2)]) := by
  have z := sr_zip (es := es) (jj := jj) (tpos := tpos) (p := p) (pos := pos) B hm h h2 hg hs hs2 hpl
  rw [List.length_map, List.length_map] at z
  exact z.to fun i hi => by rw [getD_map d (by omega), getD_map d2 (by omega)]
theorem sr_enumM {jj : Nat} {tpos : Pos} (d : α) (B : BX X N sc k) (hm : X.mg "enumerate" = none) (h : DE X Γ it (rLst X.K (xs.map R))) (hg : sc.names.lookup ("enumerate" : Str) = some NameKind.globalImplicit) (hs : starEach [it] X.env = [(false, eval it X.env)] := by rfl) :
    SR X Γ (.Tuple es jj tpos) (.Call (.Name "enumerate" p) [it] [] pos) xs.length (fun i => rTup X.K [rInt (i : Nat), R (xs.getD i d)]) := by
  have z := sr_enum (es := es) (jj := jj) (tpos := tpos) (p := p) (pos := pos) B hm h hg hs
  rw [List.length_map] at z
  exact z.to fun i hi => by rw [getD_map d hi]
end
end DL

set_option Elab.async false
set_option linter.all false
set_option maxRecDepth 100000
set_option maxHeartbeats 4000000
namespace DL
open PySem L2
/-! ### rows -/
def suppN (qs : List Rat) : List Nat := (List.range qs.length).filter fun i => !decide (qs.getD i 0 = 0)
def suppI (qs : List Rat) : List Int := (suppN qs).map fun i : Nat => (i : Int)
def zipM (f : Rat → Rat → Rat) (xs ys : List Rat) : List Rat := (List.range (min xs.length ys.length)).map fun i => f (xs.getD i 0) (ys.getD i 0)
def dotN (xs ys : List Rat) : Nat → Rat
  | 0 => 0
  | i + 1 => dotN xs ys i + xs.getD i 0 * ys.getD i 0
def dotq (xs ys : List Rat) : Rat := dotN xs ys (min xs.length ys.length)
/-! ### the greatest common divisor of a list -/
def gl (ns : List Int) : Nat := ns.foldl (fun (g : Nat) x => Int.gcd (g : Int) x) 0
theorem gl_step {ns : List Int} {i : Nat} (hi : i < ns.length) : gl (ns.take (i + 1)) = Int.gcd ((gl (ns.take i) : Nat) : Int) (ns.getD i 0) := by
  unfold gl
  rw [take_snoc (d := 0) hi, List.foldl_append]
  rfl
theorem fold_dvd {d : Nat} : ∀ (ns : List Int) (g : Nat), d ∣ ns.foldl (fun (g : Nat) x => Int.gcd (g : Int) x) g ↔ d ∣ g ∧ ∀ x ∈ ns, (d : Int) ∣ x
  | [], g => by simp
  | x :: ns, g => by
    rw [List.foldl_cons, fold_dvd ns]
    have : d ∣ Int.gcd (g : Int) x ↔ d ∣ g ∧ (d : Int) ∣ x := by
      rw [Int.gcd, Nat.dvd_gcd_iff, Int.natAbs_natCast, Int.ofNat_dvd_left]
    rw [this]
    simp [and_assoc]
theorem gl_dvd {d : Nat} {ns : List Int} : d ∣ gl ns ↔ ∀ x ∈ ns, (d : Int) ∣ x := by
  unfold gl
  rw [fold_dvd]
  simp
theorem fold_mul {k : Nat} : ∀ (ns : List Int) (g : Nat), (ns.map fun x => (k : Int) * x).foldl (fun (g : Nat) x => Int.gcd (g : Int) x) (k * g) = k * ns.foldl (fun (g : Nat) x => Int.gcd (g : Int) x) g
  | [], g => rfl
  | x :: ns, g => by
    rw [List.map_cons, List.foldl_cons, List.foldl_cons, ← fold_mul ns]
    congr 1
    have := Int.gcd_mul_left (m := (k : Int)) (n := (g : Int)) (k := x)
    rw [Int.natAbs_natCast] at this
    rw [← this]
    congr 1
theorem gl_mul {k : Nat} {ns : List Int} : gl (ns.map fun x => (k : Int) * x) = k * gl ns := by
  have := fold_mul (k := k) ns 0
  exact this
theorem gl_neg {ns : List Int} : gl (ns.map fun x => -x) = gl ns := by
  apply Nat.dvd_antisymm
  · rw [gl_dvd]
    intro x hx
    have := (gl_dvd (d := gl (ns.map fun x => -x)) (ns := ns.map fun x => -x)).mp (Nat.dvd_refl _) (-x) (List.mem_map.mpr ⟨x, hx, rfl⟩)
    exact Int.dvd_neg.mp this
  · rw [gl_dvd]
    intro x hx
    obtain ⟨y, hy, rfl⟩ := List.mem_map.mp hx
    exact Int.dvd_neg.mpr ((gl_dvd (d := gl ns) (ns := ns)).mp (Nat.dvd_refl _) y hy)
theorem gl_mulI {k : Int} {ns : List Int} : gl (ns.map fun x => k * x) = k.natAbs * gl ns := by
  by_cases h : 0 ≤ k
  · have e : k = (k.natAbs : Int) := by omega
    rw [e, gl_mul]; simp
  · have e : (fun x => k * x) = (fun x => -x) ∘ fun x => (k.natAbs : Int) * x := funext fun x => by
      have : k = -(k.natAbs : Int) := by omega
      show k * x = -((k.natAbs : Int) * x)
      rw [← Int.neg_mul, ← this]
    rw [e, ← List.map_map, gl_neg, gl_mul]
theorem gl_pos {ns : List Int} {x : Int} (h : x ∈ ns) (hx : x ≠ 0) : 0 < gl ns := by
  rcases Nat.eq_zero_or_pos (gl ns) with e | e
  · have := (gl_dvd (d := gl ns) (ns := ns)).mp (Nat.dvd_refl _) x h
    rw [e] at this
    exact absurd (Int.zero_dvd.mp this) hx
  · exact e
/-! ### lowest terms -/
def fnz (ns : List Int) : Option Int := ns.find? fun x => decide (x ≠ 0)
def sdv (g : Nat) (z : Int) : Int := if 0 < z then (g : Int) else -(g : Int)
def lowest (ns : List Int) : List Int := match fnz ns with
  | none => ns
  | some z => ns.map fun x => x.fdiv (sdv (gl ns) z)
theorem fnz_none {ns : List Int} (h : fnz ns = none) : ∀ x ∈ ns, x = 0 := fun x hx => by
  have := List.find?_eq_none.mp h x hx
  simpa using this
theorem fnz_some {ns : List Int} {z : Int} (h : fnz ns = some z) : z ∈ ns ∧ z ≠ 0 := ⟨List.mem_of_find?_eq_some h, by simpa using List.find?_some h⟩
theorem fnz_at : ∀ {ns : List Int} {i : Nat}, i < ns.length → (∀ j, j < i → ns.getD j 0 = 0) → ns.getD i 0 ≠ 0 → fnz ns = some (ns.getD i 0)
  | [], _, h, _, _ => by simp at h
  | x :: ns, 0, _, _, hn => by
    have hn : x ≠ 0 := hn
    unfold fnz
    rw [List.find?_cons_of_pos (by simpa using hn)]
    rfl
  | x :: ns, i + 1, hi, h0, hn => by
    have h1 : x = 0 := h0 0 (by omega)
    have := fnz_at (ns := ns) (i := i) (by simpa using hi) (fun j hj => h0 (j + 1) (by omega)) hn
    unfold fnz at this ⊢
    rw [List.find?_cons_of_neg (by simpa using h1), this]
    rfl
theorem fnz_all {ns : List Int} (h : ∀ j, j < ns.length → ns.getD j 0 = 0) : fnz ns = none := by
  unfold fnz
  rw [List.find?_eq_none]
  intro x hx
  obtain ⟨j, hj, rfl⟩ := List.mem_iff_getElem.mp hx
  have := h j hj
  rw [List.getD_eq_getElem?_getD, List.getElem?_eq_getElem hj] at this
  simpa using this
theorem fnz_mul {k : Int} (hk : k ≠ 0) : ∀ {ns : List Int}, fnz (ns.map fun x => k * x) = (fnz ns).map fun x => k * x
  | [] => rfl
  | x :: ns => by
    have ih := fnz_mul (k := k) hk (ns := ns)
    unfold fnz at ih ⊢
    rw [List.map_cons]
    by_cases h : x = 0
    · rw [List.find?_cons_of_neg (by simp [h]), List.find?_cons_of_neg (by simp [h]), ih]
    · rw [List.find?_cons_of_pos (by simp [h, hk]), List.find?_cons_of_pos (by simp [h])]
      rfl
theorem pos_of_mul {k y : Int} (hk : 0 < k) (h : 0 < k * y) : 0 < y := by
  rcases Int.lt_or_le 0 y with c | c
  · exact c
  · have := Int.mul_le_mul_of_nonneg_left c (Int.le_of_lt hk)
    rw [Int.mul_zero] at this
    omega
structure Low (ns r : List Int) : Prop where
  ex : ∃ d : Int, d ≠ 0 ∧ ns = r.map fun x => d * x
  one : gl r = 1
  pos : ∃ z, fnz r = some z ∧ 0 < z
theorem low_lowest {ns : List Int} {z : Int} (h : fnz ns = some z) : Low ns (lowest ns) ∧ lowest ns = ns.map (fun x => x.fdiv (sdv (gl ns) z)) ∧ sdv (gl ns) z ≠ 0 ∧ ∀ x ∈ ns, x = sdv (gl ns) z * x.fdiv (sdv (gl ns) z) := by
  obtain ⟨hz, hz0⟩ := fnz_some h
  have hg := gl_pos hz hz0
  have hd : sdv (gl ns) z ≠ 0 := by unfold sdv; split <;> omega
  have e : lowest ns = ns.map fun x => x.fdiv (sdv (gl ns) z) := by unfold lowest; rw [h]
  have hx : ∀ x ∈ ns, x = sdv (gl ns) z * x.fdiv (sdv (gl ns) z) := fun x hx => by
    have h1 := (gl_dvd (d := gl ns) (ns := ns)).mp (Nat.dvd_refl _) x hx
    have h2 : sdv (gl ns) z ∣ x := by
      unfold sdv; split
      · exact h1
      · exact Int.neg_dvd.mpr h1
    obtain ⟨t, ht⟩ := h2
    rw [ht, Int.mul_fdiv_cancel_left _ hd]
  refine ⟨?_, e, hd, hx⟩
  have e2 : ns = (lowest ns).map fun x => sdv (gl ns) z * x := by
    rw [e, List.map_map]
    refine (List.map_id ns).symm.trans (List.map_congr_left fun x h => ?_)
    exact hx x h
  have one : gl (lowest ns) = 1 := by
    have h1 := gl_mulI (k := sdv (gl ns) z) (ns := lowest ns)
    rw [← e2] at h1
    have h2 : (sdv (gl ns) z).natAbs = gl ns := by unfold sdv; split <;> omega
    rw [h2] at h1
    exact (Nat.eq_of_mul_eq_mul_left hg (by rw [Nat.mul_one]; exact h1)).symm
  refine ⟨⟨_, hd, e2⟩, one, ?_⟩
  have h3 := fnz_mul hd (ns := lowest ns)
  rw [← e2, h] at h3
  cases hf : fnz (lowest ns) with
  | none => rw [hf] at h3; cases h3
  | some y =>
    rw [hf] at h3
    have h4 : z = sdv (gl ns) z * y := Option.some.inj h3
    refine ⟨y, rfl, ?_⟩
    unfold sdv at h4
    split at h4
    · rename_i hp
      rw [h4] at hp
      have : (0 : Int) < gl ns := by omega
      exact pos_of_mul this hp
    · rename_i hp
      have : (0 : Int) < gl ns := by omega
      have h5 : z < 0 := by omega
      rw [Int.neg_mul] at h4
      have h6 : 0 < (gl ns : Int) * y := by omega
      exact pos_of_mul this h6
end DL

set_option Elab.async false
set_option linter.all false
set_option maxRecDepth 100000
set_option maxHeartbeats 4000000
namespace DL
open PySem L2
/-! ### the primitive row -/
theorem lcmF_dvd : ∀ (qs : List Rat) (c : Nat), c ∣ qs.foldl (fun c q => Nat.lcm c q.den) c ∧ ∀ q ∈ qs, q.den ∣ qs.foldl (fun c q => Nat.lcm c q.den) c
  | [], c => ⟨Nat.dvd_refl _, by simp⟩
  | q :: qs, c => by
    obtain ⟨h1, h2⟩ := lcmF_dvd qs (Nat.lcm c q.den)
    rw [List.foldl_cons]
    refine ⟨Nat.dvd_trans (Nat.dvd_lcm_left _ _) h1, fun x hx => ?_⟩
    rcases List.mem_cons.mp hx with rfl | hx
    · exact Nat.dvd_trans (Nat.dvd_lcm_right _ _) h1
    · exact h2 x hx
theorem lcmF_ne : ∀ (qs : List Rat) (c : Nat), c ≠ 0 → qs.foldl (fun c q => Nat.lcm c q.den) c ≠ 0
  | [], c, h => h
  | q :: qs, c, h => lcmF_ne qs _ (Nat.lcm_ne_zero h q.den_nz)
theorem lcmD_dvd {qs : List Rat} {q : Rat} (h : q ∈ qs) : q.den ∣ lcmD qs := (lcmF_dvd qs 1).2 q h
theorem lcmD_ne (qs : List Rat) : lcmD qs ≠ 0 := lcmF_ne qs 1 (by decide)
def topq (L : Nat) (q : Rat) : Int := q.num * ((L : Int)).fdiv (q.den : Int)
def tops (qs : List Rat) : List Int := qs.map (topq (lcmD qs))
def prim (qs : List Rat) : List Int := lowest (tops qs)
theorem topq_is {L : Nat} {q : Rat} (h : q.den ∣ L) : ((topq L q : Int) : Rat) = q * ((L : Int) : Rat) := by
  obtain ⟨t, rfl⟩ := h
  unfold topq
  have e : (((q.den * t : Nat) : Int)).fdiv (q.den : Int) = (t : Int) := by
    have h0 : (q.den : Int) ≠ 0 := by have := q.den_nz; omega
    rw [Int.natCast_mul, Int.mul_fdiv_cancel_left _ h0]
  rw [e, Rat.intCast_mul, Int.natCast_mul, Rat.intCast_mul]
  have e1 := q_eq q
  have d := den_ne q
  generalize ((q.den : Int) : Rat) = dd at *
  generalize ((t : Int) : Rat) = tt at *
  generalize (q.num : Rat) = nn at *
  grind
theorem tops_len (qs : List Rat) : (tops qs).length = qs.length := List.length_map _
theorem tops_at {qs : List Rat} {k : Nat} (hk : k < qs.length) : (tops qs).getD k 0 = topq (lcmD qs) (qs.getD k 0) := by
  unfold tops
  rw [List.getD_eq_getElem?_getD, List.getD_eq_getElem?_getD, List.getElem?_map, List.getElem?_eq_getElem hk]
  rfl
theorem lowest_len (ns : List Int) : (lowest ns).length = ns.length := by
  unfold lowest
  split
  · rfl
  · exact List.length_map _
theorem prim_len (qs : List Rat) : (prim qs).length = qs.length := (lowest_len _).trans (tops_len _)
theorem lcmQ_ne (qs : List Rat) : (((lcmD qs : Nat) : Int) : Rat) ≠ 0 := by
  have := lcmD_ne qs
  have h : ((lcmD qs : Nat) : Int) ≠ 0 := by omega
  exact fun z => h (by exact_mod_cast z)
end DL

set_option Elab.async false
set_option linter.all false
set_option maxRecDepth 100000
set_option maxHeartbeats 4000000
namespace DL
open PySem L2
theorem lc_num {K : PySem.W.Frag} {qs : List Rat} {g : Rat → Rat} : ((List.range qs.length).filter fun _ => true).map (fun i => rNum K (g (qs.getD i 0))) = List.map (rNum K) (qs.map g) := by
  rw [List.map_map]
  exact lc_all (R := fun _ => rInt 0) (f := fun q => rNum K (g q))
theorem lc_int {qs : List Rat} {g : Rat → Int} : ((List.range qs.length).filter fun _ => true).map (fun i => rInt (g (qs.getD i 0))) = List.map rInt (qs.map g) := by
  rw [List.map_map]
  exact lc_all (R := fun _ => rInt 0) (f := fun q => rInt (g q))
theorem lc_ii {ns : List Int} {g : Int → Int} : ((List.range ns.length).filter fun _ => true).map (fun i => rInt (g (ns.getD i 0))) = List.map rInt (ns.map g) := by
  rw [List.map_map]
  exact lc_all (R := fun _ => rInt 0) (f := fun q => rInt (g q))
theorem lc_true {α : Type} {n : Nat} {f : Nat → α} : ((List.range n).filter fun _ => true).map f = (List.range n).map f := by rw [List.filter_eq_self.mpr fun _ _ => rfl]
theorem zer_more {ns : List Int} {i : Nat} (h : ∀ j, j < i → ns.getD j 0 = 0) (e : ns.getD i 0 = 0) : ∀ j, j < i + 1 → ns.getD j 0 = 0 := fun j hj => by
  by_cases hj2 : j = i
  · rw [hj2, e]
  · exact h j (by omega)
theorem lcm_fd {qs : List Rat} {n k : Nat} (h : ∀ q ∈ qs, Sz n q) (hk : k < qs.length) : Lg (((lcmD qs : Nat) : Int).fdiv ((qs.getD k 0).den : Int)) ≤ qs.length * (n + 1) := by
  have hm := getD_mem (d := (0 : Rat)) hk
  have h1 : ((qs.getD k 0).den : Int) ∣ ((lcmD qs : Nat) : Int) := Int.natCast_dvd_natCast.mpr (lcmD_dvd hm)
  exact Nat.le_trans (fdiv_lg (den_neI _) h1) (lg_lcmD qs h)
theorem top_m {qs : List Rat} {n k : Nat} (h : ∀ q ∈ qs, Sz n q) (h2 : qs.length * (n + 1) + n < 8900) (hk : k < qs.length) : Lg (qs.getD k 0).num + Lg (((lcmD qs : Nat) : Int).fdiv ((qs.getD k 0).den : Int)) < 1000000 := by
  have a := lcm_fd h hk
  have b := (h _ (getD_mem (d := (0 : Rat)) hk)).1
  omega
theorem tops_lg {qs : List Rat} {n : Nat} (h : ∀ q ∈ qs, Sz n q) (h2 : qs.length * (n + 1) + n < 8900) {x : Int} (hx : x ∈ tops qs) : Lg x < 8990 := by
  obtain ⟨k, hk, rfl⟩ := List.mem_iff_getElem.mp hx
  have hk' : k < qs.length := by rw [← tops_len qs]; exact hk
  have e := tops_at hk'
  rw [List.getD_eq_getElem?_getD, List.getElem?_eq_getElem hk] at e
  have e : (tops qs)[k] = topq (lcmD qs) (qs.getD k 0) := e
  rw [e]
  unfold topq
  have a := lcm_fd h hk'
  have b := (h _ (getD_mem (d := (0 : Rat)) hk')).1
  have c := lg_mul (qs.getD k 0).num (((lcmD qs : Nat) : Int).fdiv ((qs.getD k 0).den : Int))
  omega
theorem sdv_ne {ns : List Int} {z : Int} (h : fnz ns = some z) : sdv (gl ns) z ≠ 0 := (low_lowest h).2.2.1
theorem sdv_t {ns : List Int} {z : Int} (h : 0 < z) : ((gl (ns.take ns.length) : Nat) : Int) = sdv (gl ns) z := by rw [List.take_length, sdv, if_pos h]
theorem sdv_f {ns : List Int} {z : Int} (h : ¬ 0 < z) : -((gl (ns.take ns.length) : Nat) : Int) = sdv (gl ns) z := by rw [List.take_length, sdv, if_neg h]
theorem gl_lg {ns : List Int} {x : Int} (hx : x ∈ ns) (h0 : x ≠ 0) : Lg ((gl ns : Nat) : Int) ≤ Lg x := lg_dvd h0 ((gl_dvd (d := gl ns) (ns := ns)).mp (Nat.dvd_refl _) x hx)
theorem sdv_lg {ns : List Int} {n i : Nat} (h : ∀ x ∈ ns, Lg x < n) (hi : i < ns.length) (hc : ns.getD i 0 ≠ 0) (hn : n ≤ 9000 := by decide) : Lg (sdv (gl ns) (ns.getD i 0)) < 9000 := by
  have hm := getD_mem (d := (0 : Int)) hi
  have a := h _ hm
  have b := gl_lg hm hc
  have c : Lg (sdv (gl ns) (ns.getD i 0)) ≤ Lg ((gl ns : Nat) : Int) := by
    apply lg_le
    unfold sdv
    split <;> omega
  omega
theorem low_lc {ns : List Int} {z : Int} (h : fnz ns = some z) : ((List.range ns.length).filter fun _ => true).map (fun i => rInt ((ns.getD i 0).fdiv (sdv (gl ns) z))) = List.map rInt (lowest ns) := by
  rw [lc_ii (g := fun x => x.fdiv (sdv (gl ns) z)), (low_lowest h).2.1]
theorem lp_ok {q r : Rat} (h : Sz 400 q) (k : Sz 400 r) : (q.den : Int) * (r.den : Int) ≠ 0 ∧ Lg (q.num * (r.den : Int) + r.num * (q.den : Int)) < 990 ∧ Lg ((q.den : Int) * (r.den : Int)) < 990 := by
  refine ⟨Int.mul_ne_zero (den_neI q) (den_neI r), ?_, ?_⟩
  · grind [lg_mul, lg_add, Sz]
  · grind [lg_mul, Sz]
theorem lt_ok {q r : Rat} (h : Lg q.num + Lg r.num < 980) (k : Lg (q.den : Int) + Lg (r.den : Int) < 980) : (q.den : Int) * (r.den : Int) ≠ 0 ∧ Lg (q.num * r.num) < 990 ∧ Lg ((q.den : Int) * (r.den : Int)) < 990 := by
  refine ⟨Int.mul_ne_zero (den_neI q) (den_neI r), ?_, ?_⟩
  · have := lg_mul q.num r.num; omega
  · have := lg_mul (q.den : Int) (r.den : Int); omega
/-! ### the numbers of a script -/
def cellv (ns : List Int) (k : Nat) : Int := if k < ns.length then ns.getD k 0 else if 0 < ns.length then (ns.getD 0 0 * 7919 + 48271 * (k : Int)).fmod 2147483647 else (k : Int)
def lawN (ns : List Int) (k many : Nat) : List Int := lawNums [cellv ns k] 0 many
section
open PySem.Spec PyProof.Rows
variable {X : Cx} {Γ : List Sl} {a b : Expr} {pos : Pos} {m n : Int}
end
end DL

set_option Elab.async false
set_option linter.all false
set_option maxRecDepth 100000
set_option maxHeartbeats 4000000
set_option exponentiation.threshold 2000
namespace DL
open PySem L2
/-! ### numbers with a common bottom -/
def Gd (M B : Nat) (q : Rat) : Prop := ∃ z : Int, q * ((M : Int) : Rat) = (z : Rat) ∧ z.natAbs ≤ B
theorem gd_mono {M B B' : Nat} {q : Rat} (h : Gd M B q) (k : B ≤ B') : Gd M B' q := by
  obtain ⟨z, a, b⟩ := h
  exact ⟨z, a, Nat.le_trans b k⟩
theorem gd_scale {M B k : Nat} {q : Rat} (h : Gd M B q) : Gd (M * k) (B * k) q := by
  obtain ⟨z, a, b⟩ := h
  refine ⟨z * k, ?_, ?_⟩
  · rw [Rat.intCast_mul, ← a, Int.natCast_mul, Rat.intCast_mul, Rat.mul_assoc]
  · rw [Int.natAbs_mul, Int.natAbs_natCast]
    exact Nat.mul_le_mul_right k b
theorem gd_add {M B1 B2 : Nat} {q r : Rat} (h : Gd M B1 q) (k : Gd M B2 r) : Gd M (B1 + B2) (q + r) := by
  obtain ⟨z, a, b⟩ := h
  obtain ⟨y, c, d⟩ := k
  refine ⟨z + y, ?_, by omega⟩
  rw [Rat.intCast_add, ← a, ← c, Rat.add_mul]
theorem gd_mul {M1 M2 B1 B2 : Nat} {q r : Rat} (h : Gd M1 B1 q) (k : Gd M2 B2 r) : Gd (M1 * M2) (B1 * B2) (q * r) := by
  obtain ⟨z, a, b⟩ := h
  obtain ⟨y, c, d⟩ := k
  refine ⟨z * y, ?_, ?_⟩
  · rw [Rat.intCast_mul, ← a, ← c, Int.natCast_mul, Rat.intCast_mul]
    generalize ((M1 : Int) : Rat) = m1
    generalize ((M2 : Int) : Rat) = m2
    grind
  · rw [Int.natAbs_mul]
    exact Nat.mul_le_mul b d
theorem gd_zero {M B : Nat} : Gd M B 0 := ⟨0, by rw [Rat.zero_mul]; rfl, Nat.zero_le _⟩
theorem gd_div {M B : Nat} {t b : Int} (hb : b ≠ 0) (hd : b ∣ (M : Int)) (ht : t.natAbs * M ≤ B) : Gd M B ((t : Rat) / (b : Rat)) := by
  obtain ⟨k, hk⟩ := hd
  have hb' : (b : Rat) ≠ 0 := fun z => hb (by exact_mod_cast z)
  refine ⟨t * k, ?_, ?_⟩
  · rw [hk, Rat.intCast_mul, Rat.intCast_mul]
    generalize (t : Rat) = t'
    generalize (k : Rat) = k'
    generalize (b : Rat) = b' at *
    grind
  · rw [Int.natAbs_mul]
    refine Nat.le_trans (Nat.mul_le_mul_left _ ?_) ht
    have e : M = b.natAbs * k.natAbs := by rw [← Int.natAbs_mul, ← hk, Int.natAbs_natCast]
    rw [e]
    exact Nat.le_mul_of_pos_left _ (by omega)
theorem gd_sz {M B n : Nat} {q : Rat} (h : Gd M B q) (hM : M ≠ 0) (h1 : M < 2 ^ (n + 1)) (h2 : B < 2 ^ (n + 1)) : Sz n q := by
  obtain ⟨z, a, b⟩ := h
  have e := q_eq q
  have d := den_ne q
  have key : q.num * (M : Int) = z * (q.den : Int) := by
    have g : ((q.num * (M : Int) : Int) : Rat) = ((z * (q.den : Int) : Int) : Rat) := by
      rw [Rat.intCast_mul, Rat.intCast_mul, ← a]
      generalize ((M : Int) : Rat) = m
      generalize ((q.den : Int) : Rat) = dd at *
      generalize (q.num : Rat) = nn at *
      grind
    exact_mod_cast g
  have hdvd : q.den ∣ M := by
    have h1 : (q.den : Int) ∣ q.num * (M : Int) := ⟨z, by rw [key, Int.mul_comm]⟩
    have h2 : q.den ∣ q.num.natAbs * M := by
      have := Int.natAbs_dvd_natAbs.mpr h1
      rw [Int.natAbs_mul, Int.natAbs_natCast, Int.natAbs_natCast] at this
      exact this
    exact Nat.Coprime.dvd_of_dvd_mul_left q.reduced.symm h2
  obtain ⟨k, hk⟩ := hdvd
  have hk0 : k ≠ 0 := fun z => hM (by rw [hk, z, Nat.mul_zero])
  have hz : q.num * (k : Int) = z := by
    rw [hk, Int.natCast_mul, ← Int.mul_assoc, Int.mul_right_comm] at key
    exact Int.eq_of_mul_eq_mul_right (den_neI q) key
  have hn : q.num.natAbs ≤ B := by
    have : z.natAbs = q.num.natAbs * k := by rw [← hz, Int.natAbs_mul, Int.natAbs_natCast]
    have := Nat.le_mul_of_pos_right q.num.natAbs (Nat.pos_of_ne_zero hk0)
    omega
  have hdm : q.den ≤ M := Nat.le_of_dvd (Nat.pos_of_ne_zero hM) ⟨k, hk⟩
  exact ⟨Nat.le_of_lt_succ (lg_of (Nat.succ_pos n) (Nat.lt_of_le_of_lt hn h2)), Nat.le_of_lt_succ (lg_of (Nat.succ_pos n) (Nat.lt_of_le_of_lt hdm h1))⟩
/-! ### the drawn rows of k03 -/
theorem lg_b {x : Int} {B n : Nat} (h : x.natAbs ≤ B) (hB : B < 2 ^ n) (hn : 0 < n) : Lg x < n := lg_of hn (Nat.lt_of_le_of_lt h hB)
section
open PySem.Spec PyProof.Rows
variable {X : Cx} {N : List Str} {sc : Scope} {k i : Nat} {Γ : List Sl} {b e : Expr} {pos p : Pos} {x : Str} {α : Type} {R : α → Rep} {xs : List α} {v : α} {F0 H0 : Hp} {st : List Stmt} {D : Ends}
theorem go_putM {n : Int} {tpos : Pos} (B : BX X N sc k) (he : DE X Γ e (R v)) (hb : DE X Γ b (rInt n)) (h0 : 0 ≤ n) (hn : n < xs.length) (hΓ : Γ[i]? = some (.ow (xs.map R))) (hN : N[i]? = some x) (hv : Vis sc x) (h : GO X F0 H0 st D (Γ.set i (.ow ((xs.set n.toNat v).map R))))
    (hd : (x == ("__debug__" : Str)) = false := by decide) (hcd : (x == ("__classdict__" : Str)) = false := by decide)
    (ha : ∀ v, assign (.Subscript (.Name x p) b tpos) X.env v = (do
      let ov ← holding [v] (eval (.Name x p) X.env)
      let iv ← holding [v, ov] (eval b X.env)
      standAt tpos
      holding [v, ov, iv] (setItem ov iv v)
      release [v, ov, iv] []) := by intro _; rfl)
    (hs : swapsWithSole [.Subscript (.Name x p) b tpos] e pos.line X.env = pure false := by rfl) (hw : swappedStores [.Subscript (.Name x p) b tpos] e X.env = pure none := by rfl)
    (h1 : (assignEach [.Subscript (.Name x p) b tpos] X.env).map (·.2) = [assign (.Subscript (.Name x p) b tpos) X.env] := by rfl) :
    GO X F0 H0 (.Assign [.Subscript (.Name x p) b tpos] e pos :: st) D Γ := by
  refine go_put B he hb (jj := n.toNat) ?_ hΓ hN hv ?_ hd hcd ha hs hw h1
  · obtain ⟨m, rfl⟩ : ∃ m : Nat, n = m := ⟨n.toNat, by omega⟩
    have hm : m < (xs.map R).length := by rw [List.length_map]; omega
    rw [Int.toNat_natCast]
    unfold ixN
    simp
    simp at hm
    omega
  · rw [List.map_set] at h
    exact h
end
theorem lt_s2 {q r : Rat} {m n : Nat} (h : Sz m q) (k : Sz n r) (e : m + n < 980 := by decide) : Lg q.num + Lg r.num < 980 ∧ Lg (q.den : Int) + Lg (r.den : Int) < 980 := ⟨by have := h.1; have := k.1; omega, by have := h.2; have := k.2; omega⟩
/-! lists of cells -/
/-! ### the primitive row, told -/
theorem gd_den {M B : Nat} {q : Rat} (h : Gd M B q) : q.den ∣ M := by
  obtain ⟨z, a, b⟩ := h
  have e := q_eq q
  have d := den_ne q
  have key : q.num * (M : Int) = z * (q.den : Int) := by
    have g : ((q.num * (M : Int) : Int) : Rat) = ((z * (q.den : Int) : Int) : Rat) := by
      rw [Rat.intCast_mul, Rat.intCast_mul, ← a]
      generalize ((M : Int) : Rat) = m
      generalize ((q.den : Int) : Rat) = dd at *
      generalize (q.num : Rat) = nn at *
      grind
    exact_mod_cast g
  have h1 : (q.den : Int) ∣ q.num * (M : Int) := ⟨z, by rw [key, Int.mul_comm]⟩
  have h2 : q.den ∣ q.num.natAbs * M := by
    have := Int.natAbs_dvd_natAbs.mpr h1
    rw [Int.natAbs_mul, Int.natAbs_natCast, Int.natAbs_natCast] at this
    exact this
  exact Nat.Coprime.dvd_of_dvd_mul_left q.reduced.symm h2
theorem lcmF_min {M : Nat} : ∀ (qs : List Rat) (c : Nat), c ∣ M → (∀ q ∈ qs, q.den ∣ M) → qs.foldl (fun c q => Nat.lcm c q.den) c ∣ M
  | [], c, h, _ => h
  | q :: qs, c, h, k => lcmF_min qs _ (Nat.lcm_dvd h (k q List.mem_cons_self)) fun x hx => k x (List.mem_cons_of_mem _ hx)
end DL

set_option Elab.async false
set_option linter.all false
set_option maxRecDepth 100000
set_option maxHeartbeats 4000000
namespace DL
open PySem L2
/-! ### the numbers of k03's law -/
def kSh (ns : List Int) : List Int := lawN ns 0 16
def kT (ns : List Int) : Int := ((kSh ns).getD 3 0).fmod 19 - 9
def kU (ns : List Int) : Int := 1 + ((kSh ns).getD 4 0).fmod 4
def kV (ns : List Int) : Rat := (kT ns : Rat) / (kU ns : Rat)
end DL

set_option Elab.async false
set_option linter.all false
set_option maxRecDepth 100000
set_option maxHeartbeats 4000000
/-! errors with a field: asked for their class -/
namespace DL
open PySem PySem.W PySem.Spec PySem.Calls PyProof.Rows
section
variable {pg : Program} {w : World} {Ar : Around} {Er : Value → Shared → Prop} {z : Shared} {K : Frag} {a D : Addr} {o : Obj} {dct : Option Obj}
theorem cls_found (c : L2.ExcC K D) : findObj K D dct "__class__" = some (.bind (.builtin "getset_descriptor.__get__") (.builtin "object.__class__")) := by
  obtain ⟨cd, e, _⟩ := any_some c.hd
  unfold findObj
  rw [e, Option.bind_some, c.ha, Option.bind_some]
  simp [c.hn, c.ht]
theorem cls_asked {Q : Option Value → Shared → Prop} (c : L2.ExcC K D) (hK : K.In z.heap) (hI : InstAt z.heap a o D dct) (q : Q (some (.ref D)) { z with toks := z.toks + 1 }) : wpAny (model pg w) Ar (getAttr? (.ref a) "__class__") Q Er z := by
  obtain ⟨hh, gg, dd, tt, ss⟩ := z
  have ty := hI.type (M := model pg w)
  have la := looks_findIn (M := model pg w) hK c.hg
  have lb := looks_findIn (M := model pg w) hK c.hk
  have lf := looks_find (M := model pg w) hK hI (cls_found c)
  have sb : Looks (model pg w) hh (isInstance (.ref a) (.type "BaseException")) true := ty.andThen (looks_subIn hK c.hs)
  have no1 : (Value.builtin "BaseException.__getattribute__" == Value.builtin "object.__getattribute__") = false := by decide +kernel
  have no2 : (onTheHeap (.ref D) && Value.builtin "BaseException.__getattribute__" == .builtin "object.__getattribute__") = false := by rw [no1]; rfl
  unfold getAttr? getAttrBy?; unfold getAttrBy
  refine wpAny_bind (wpAny_mkText ?_); refine wpAny_bind (wpAny_attempt ?_)
  refine wpAny_holding (wpAny_bind (ty.at (wpAny_bind (la.at ?_))))
  show wpAny _ _ (if (onTheHeap (.ref D) && Value.builtin "BaseException.__getattribute__" == .builtin "object.__getattribute__") = true then _ else _) _ _ _
  rw [no2]; rw [if_neg Bool.false_ne_true]
  unfold getAttrByItsOwn; unfold hookBefore
  apply wpAny_bind
  rw [if_pos (by rfl : onTheHeap (.ref D) = true)]
  apply lb.at; apply wpAny_bind
  refine wpAny_attempt ?_; refine wpAny_holding ?_
  unfold callGetattribute
  rw [show (false && onTheHeap (Value.builtin "BaseException.__getattribute__")) = false from rfl]; rw [if_neg Bool.false_ne_true]
  unfold boundAndCalled; rw [PySem.F.excAttr_ValueError.ga.bind (.ref a)]
  apply wpAny_bind; apply wpAny_pure
  show wpAny _ _ (call (.builtin "BaseException.__getattribute__") [.ref a, .str "__class__" tt]) _ _ _
  apply wpAny_call; refine codeAny_call_builtin PySem.F.excAttr_ValueError.ga.plain PySem.F.entry_bexc_ga ?_
  refine @check_slot (model pg w) _ _ (⟨hh, gg, dd, tt + 1, ss⟩ : Shared) "BaseException.__getattribute__" "BaseException" "__getattribute__" (.ref a) [.str "__class__" tt]
    [] _ (by decide +kernel) (by decide +kernel) sb (PySem.F.args_bexc_ga (.ref a) (.str "__class__" tt)) ?_
  unfold Builtin.«object.__getattribute__»; apply wpAny_bind
  refine wpAny_of_eq (a := ((.ref a : Value), [Value.str "__class__" tt])) (by first | rfl | (simp only [slotArgs]; rfl)) ?_
  apply wpAny_bind; apply wpAny_pure; apply wpAny_bind
  refine ty.at (wpAny_bind (lf.at ?_))
  show wpAny _ _ (holding [Value.builtin "object.__class__"] (call (.builtin "getset_descriptor.__get__") [.builtin "object.__class__", .ref a, .ref D]) >>= ret) _ _ _
  apply wpAny_bind; apply wpAny_holding; apply wpAny_call
  refine class_get (s := ⟨hh, gg, dd, tt + 1, ss⟩) (ox := o) (od := dct) hK hI c.hm ?_
  apply wpAny_pure
  show wpAny _ _ (handedOut (Value.ref D)) _ _ _
  rw [handedOut_of (v := .ref D) (by rfl)]
  first | exact wpAny_pure (wpAny_pure q) | exact wpAny_pure q | exact wpAny_pure (wpAny_bind (wpAny_pure (wpAny_pure q)))
theorem kitx_err (c : L2.ExcC K D) : KitX K (.ref a) (.ref D) fun h => InstAt h a o D dct := by
  obtain ⟨cd, hc, _⟩ := any_some c.hd
  unfold clsIn at hc
  split at hc
  · rename_i c1 c2 c3 c4 at0
    refine ⟨fun _ _ _ I => I.type, fun _ _ kin _ Ar Q Er z keep q => ?_, fun h tp dd its n sl kin there => ?_, fun kin I q => cls_asked c kin I q⟩
    · unfold isType; unfold loadHead
      exact wpAny_bind (wpAny_loadPart (keep _ _ (kin _ _ at0)) (wpAny_pure q))
    · cases same : ((Value.ref D) == Value.ref tp) with
      | false => rfl
      | true =>
        have two : tp = D := (Value.ref.inj (beq_iff_eq.mp same)).symm
        rw [two] at there
        cases there.symm.trans (kin _ _ at0)
  · cases hc
end
end DL
namespace DL
open PySem PySem.Spec PyProof.Rows L2
/-- isinstance(e, c): e is the error that the suite holds; fs its fields, if it has a dict -/
def DctAt (H : Hp) (d : Option Addr) (fs : List (Str × V)) : Prop := match d with
  | none => fs = []
  | some dd => H dd = some (.xd fs)
def rIsF (K : PySem.W.Frag) (D a : Addr) (d : Option Addr) : List V → Hp → VK → Prop := fun xs H Q => ∃ (c : V) (cv : Value) (b : Bool) (fs : List (Str × V)), DctAt H d fs ∧ xs = [.ref a, c] ∧ (∀ u, RelV c u → u = cv) ∧ PySem.W.kitOne K (.ref D) cv = some b ∧ Q (.bl b) H
theorem call_isF {X : Cx} {a D : Addr} {d : Option Addr} {oe : Obj} {pn : List (Addr × Obj)} (c : ExcC X.K D) (hz : Zc (.ref D) d oe) (hf : ∃ vs, oe.data = .fields vs) : CallR (X.suite a ((a, oe) :: pn)) (.builtin "isinstance") (rIsF X.K D a d) := by
  intro pins s σ H xs us Q I r h
  obtain ⟨cv0, cv, b, fs, hd, rfl, hcv, e, q⟩ := h
  obtain ⟨u1, u2, rfl, r1, r2⟩ := vals2 r
  obtain rfl : u1 = Value.ref a := r1
  obtain rfl := hcv _ r2
  obtain ⟨there, _⟩ := I.pin (a, oe) (List.mem_append_left _ List.mem_cons_self)
  obtain ⟨vs, hv⟩ := hf
  obtain ⟨hz1, hz2⟩ := hz
  have J : ∃ od, PySem.W.InstAt s.heap a oe D od := by
    cases d with
    | none => exact ⟨none, there, hz1, by unfold PySem.W.notCls; rw [hv] <;> rfl, by rw [hz2]; trivial⟩
    | some dd =>
      have ok : ObjOk X.prog X.w H s.heap dd (.xd fs) := I.hok dd _ hd
      obtain ⟨mA, hns, _⟩ := ok
      obtain ⟨od, ho, _⟩ := lookIn_ns hns
      exact ⟨some od, there, hz1, by unfold PySem.W.notCls; rw [hv] <;> rfl, by rw [hz2]; exact ho⟩
  obtain ⟨od, J⟩ := J
  exact PySem.W.kia_one (kitx_err (dct := od) c) I.kIn J e (fun z => nomatch z) fun tk => ⟨.bl b, H, I.kept (t' := tk) fun _ _ z => z, rfl, q⟩
end DL

set_option Elab.async false
set_option linter.all false
set_option maxRecDepth 100000
set_option maxHeartbeats 4000000
/-! errors with a field: made, raised, let through -/
namespace DL
open PySem PySem.Spec PyProof.Rows L2
/-- def __init__(self, f): self.f = f -/
def spIni (K : PySem.W.Frag) (f : Str) : Sp := fun vs H Q _ => ∃ (a C : Addr) (v : V), vs = [.ref a, v] ∧ H a = some (exo a C none) ∧ OexC K C ∧ PySem.W.findIn K (.ref C) f = some none ∧
  ∀ dx : Addr, H dx = none → dx ≠ a → Q .non (upd (upd H dx (exd dx [(f, v)])) a (exo a C (some dx)))
structure XClsF (K : PySem.W.Frag) (mg : Str → Option Value) (x f : Str) (C : Addr) : Prop where
  g : mg x = some (.ref C)
  oex : OexC K C
  no : PySem.W.findIn K (.ref C) f = some none
  xf : XfC K C
  ini : ∀ (P : Program) (w : World) (base : Heap), ∃ (fI : Addr) (fd : FuncData), PySem.W.findIn K (.ref C) "__init__" = some (some (.ref fI)) ∧ PySem.W.typeIn K (.ref fI) = some (.type "function") ∧ FnOk P w K mg base CX0 1 fI fd ["self", f] (spIni K f) ∧ Binds K fd ["self", f] []
section
variable {X : Cx} {N : List Str} {sc : Scope} {k j : Nat} {Γ : List Sl} {a b c e : Expr} {es rest : List Expr} {r ra rb rc r' : Rep} {rs l : List Rep} {pos p : Pos} {x f : Str} {i : Nat} {v : V}
variable {ι : Type} {pre : ι → Prop} {args : ι → List Rep} {out : ι → Out} {ret : Ret} {F0 H0 : Hp} {st body : List Stmt} {D : Ends} {C : Addr} {W : WX} {fs : List (Str × V)}
theorem go_raiseF {pos2 : Pos} (B : BX X N sc k) (hk : 2 ≤ k) (tk : Takes X W) (Z : XClsF X.K X.mg x f C) (hg : sc.names.lookup x = some .globalImplicit) (he : DE X Γ e (rC v)) (h : ∀ F H σ, En F0 H0 F H σ Γ → ∀ H' d, Same H H' → H d = none → H' d = some (.xd [(f, v)]) → W (.ref C) (some d) σ H')
    (hdb : (x == ("__debug__" : Str)) = false := by decide) (hs : starEach (e :: []) X.env = (false, eval e X.env) :: starEach [] X.env := by rfl) (hpl : (backTo pos (starEach [] X.env)).any (·.1) = false := by rfl) :
    GO X F0 H0 (.Raise (some (.Call (.Name x p) [e] [] pos)) none pos2 :: st) D Γ := fun F H σ en => by
  have hgl : Gl X x := by
    show X.env.scope.names.lookup x = _
    rw [B.hsc]
    exact hg
  obtain ⟨fI, fd, h1, h2, F1, hb⟩ := Z.ini X.prog X.w X.base
  refine .of (pss_cons (ps_raise B.calm tk (pmk_oex Z.oex h1 h2 F1 (B.room.mono hk) hb .nil pass0 hgl Z.g (pa_cons pe_ev pa_nil hs) hdb hs hpl)) (pss_ev (st := st))) ?_
  refine he F0 H0 F H σ en _ fun u F1 H1 g hu => ?_
  cases hu
  refine ⟨by show 1 ≤ 1000; decide, fun al hal => ⟨al, C, v, rfl, upd_same, Z.oex, Z.no, fun dx hdx hne => ⟨rfl, dx, [(f, v)], upd_same, ?_, ?_, ?_⟩⟩⟩
  · rw [upd_ne hne, upd_same]
  · rw [upd_ne hne] at hdx
    exact hdx
  · rw [upd_ne hne] at hdx
    refine h F1 H1 σ (en.grow g) _ dx (fun b o z => ?_) hdx upd_same
    have n1 : b ≠ dx := fun y => by rw [y, hdx] at z; cases z
    have n2 : b ≠ al := fun y => by rw [y, hal] at z; cases z
    rw [upd_ne n1, del_ne n2, upd_ne n2, upd_ne n1, upd_ne n2]
    exact z
/-- a call that raises an error with a field -/
def EXF (X : Cx) (Γ : List Sl) (e : Expr) (C : Addr) (fs : List (Str × V)) (W : WX) : Prop := ∀ F0 H0 F H σ, En F0 H0 F H σ Γ → (∀ H' d, Same H H' → H d = none → H' d = some (.xd fs) → W (.ref C) (some d) σ H') → ∀ Q : VK, EV X e σ H Q
theorem ex_callF (B : BX X N sc k) (tk : Takes X W) (G : Cal X.prog X.w X.K X.mg X.base j x (PmX pre args out)) (hk : j ≤ k) (g : ι) (hp : pre g) (ho : out g = .errF C fs) (ha : DA X Γ (e :: es) (args g)) (hg : sc.names.lookup x = some .globalImplicit)
    (hdb : (x == ("__debug__" : Str)) = false := by decide) (he : starEach (e :: es) X.env = (false, eval e X.env) :: starEach es X.env := by rfl) (hpl : (backTo pos (starEach es X.env)).any (·.1) = false := by rfl) :
    EXF X Γ (.Call (.Name x p) (e :: es) [] pos) C fs W := fun F0 H0 F H σ en w Q => by
  obtain ⟨f, fd, ps, G, hm, kp, hb⟩ := G.ex
  have hgl : Gl X x := by
    show X.env.scope.names.lookup x = _
    rw [B.hsc]
    exact hg
  refine .of (pe_callS (E := WE W) G (B.room.mono hk) hgl hm kp hb (fun σ => passAt tk σ) pa_ev hdb he hpl) ?_
  refine ha F0 H0 F H σ en _ fun vs F1 H1 g1 h1 => ?_
  refine ⟨g, F1, hp, g1.s, h1, ?_⟩
  rw [ho]
  exact fun H' d s n z => w H' d (g1.h.trans s) (g1.h.free n) z
theorem go_exprF (he : EXF X Γ e C fs W) (h : ∀ F H σ, En F0 H0 F H σ Γ → ∀ H' d, Same H H' → H d = none → H' d = some (.xd fs) → W (.ref C) (some d) σ H') (hs : swapsWith e none pos.line X.env = pure false := by rfl) : GO X F0 H0 (.Expr e pos :: st) D Γ := fun F H σ en =>
  .of (pss_cons (ps_expr pe_ev hs) (pss_ev (st := st))) (he F0 H0 F H σ en (h F H σ en) _)
end
/-! the suite -/
structure BS (X : Cx) (N : List Str) (sc : Scope) : Prop where
  hN : X.N = N
  hsc : X.env.scope = sc
  nd : N.Nodup
theorem BX.su {X : Cx} {N : List Str} {sc : Scope} {k : Nat} {a : Addr} {pn : List (Addr × Obj)} (B : BX X N sc k) : BS (X.suite a pn) N sc := ⟨B.hN, B.hsc, B.nd⟩
/-- the error at a, with its fields -/
def rErr (a : Addr) (d : Option Addr) (fs : List (Str × V)) : Rep := ⟨fun F v => v = .ref a ∧ DctAt F d fs, fun {F F' v} s ⟨h1, h2⟩ => ⟨h1, by
  cases d with
  | none => exact h2
  | some dd => exact s _ _ h2⟩⟩
theorem en_err {F0 H0 F H H1 : Hp} {σ : L2.St} {Γ : List Sl} {i : Nat} {a : Addr} (en : En F0 H0 F H σ Γ) (s : Same H H1) : En F0 H0 F H1 (σ.set i (some (.ref a))) (Γ.set i (.im (rErr a none []))) :=
  (en.grow (F' := F) (H' := H1) ⟨Same.refl _, s, en.gr.s.trans s, fun _ _ z => z⟩).setIm (v := .ref a) ⟨rfl, rfl⟩
theorem en_errF {F0 H0 F H H1 : Hp} {σ : L2.St} {Γ : List Sl} {i : Nat} {a d : Addr} {fs : List (Str × V)} (en : En F0 H0 F H σ Γ) (s : Same H H1) (n : H d = none) (z : H1 d = some (.xd fs)) : ∃ F1, En F0 H0 F1 H1 (σ.set i (some (.ref a))) (Γ.set i (.im (rErr a (some d) fs))) := by
  have nf : F d = none := en.gr.s.free n
  refine ⟨upd F d (.xd fs), (en.grow (F' := upd F d (.xd fs)) (H' := H1) ⟨same_new nf, s, fun b o y => ?_, fun b hb y => ?_⟩).setIm (v := .ref a) ⟨rfl, upd_same⟩⟩
  · by_cases e : b = d
    · subst e
      rw [upd_same] at y
      rw [z, ← y]
    · rw [upd_ne e] at y
      exact s _ _ (en.gr.s _ _ y)
  · have e : b ≠ d := fun q => hb (q ▸ n)
    rw [upd_ne e]
    exact y
section
variable {X Y : Cx} {N : List Str} {sc : Scope} {k i : Nat} {Γ : List Sl} {e c : Expr} {r : Rep} {l : List Rep} {x n f : Str} {pos p p2 : Pos} {F0 H0 : Hp} {st : List Stmt} {D : Ends} {u : Bool} {v : V} {cv : Value}
theorem de_varS (B : BS Y N sc) {i : Nat} (hΓ : Γ[i]? = some (.im r)) (hN : N[i]? = some x) (hv : Vis sc x) (hd : (x == ("__debug__" : Str)) = false := by decide) (hcd : (x == ("__classdict__" : Str)) = false := by decide) : DE Y Γ (.Name x pos) r := fun F0 H0 F H σ en Q q => by
  obtain ⟨v, h1, h2⟩ := en.im hΓ
  exact .of (pe_var (i := i) (B.hN ▸ hN) (B.hsc ▸ hv) hd hcd) ⟨v, h1, q v F H (.refl en.gr.s) h2⟩
/-- isinstance(e, c) in the suite -/
theorem de_isF {al Dx : Addr} {d : Option Addr} {fs : List (Str × V)} {oe : Obj} {pn : List (Addr × Obj)} (B : BS (X.suite al ((al, oe) :: pn)) N sc) (E : ExcC X.K Dx) (hz : Zc (.ref Dx) d oe) (hf : ∃ vs, oe.data = .fields vs) (hmi : X.mg "isinstance" = none) (hgi : sc.names.lookup ("isinstance" : Str) = some NameKind.globalImplicit)
    (hΓ : Γ[i]? = some (.im (rErr al d fs))) (hN : N[i]? = some n) (hv : Vis sc n) (hc : ClsE (X.suite al ((al, oe) :: pn)) c cv) (hk : PySem.W.kitOne X.K (.ref Dx) cv = some u)
    (hd : (n == ("__debug__" : Str)) = false := by decide) (hcd : (n == ("__classdict__" : Str)) = false := by decide)
    (he : starEach (.Name n p2 :: [c]) X.env = (false, eval (.Name n p2) X.env) :: starEach [c] X.env := by rfl) (he2 : starEach (c :: []) X.env = (false, eval c X.env) :: starEach [] X.env := by rfl) (hpl : (backTo pos (starEach [c] X.env)).any (·.1) = false := by rfl) :
    DE (X.suite al ((al, oe) :: pn)) Γ (.Call (.Name "isinstance" p) [.Name n p2, c] [] pos) (rBl u) := fun F0 H0 F H σ en Q q => by
  obtain ⟨hNX, hsc, _⟩ := B
  subst hsc hNX
  obtain ⟨cV, hu, hp⟩ := hc
  obtain ⟨y, hσ, rfl, hD⟩ := en.im hΓ
  have hgl : Gl (X.suite al ((al, oe) :: pn)) "isinstance" := hgi
  have hDH : DctAt H d fs := by
    cases d with
    | none => exact hD
    | some dd => exact en.gr.s _ _ hD
  refine .of (pe_callB (call_isF E hz hf) hgl hmi (by decide +kernel) (pa_cons (pe_var (i := i) hN hv hd hcd) (pa_cons hp pa_nil he2) he) (by decide) (by decide) he hpl) ?_
  exact ⟨_, hσ, cV, cv, u, fs, hDH, rfl, hu, hk, q _ F H (.refl en.gr.s) rfl⟩
/-- e.f in the suite -/
theorem de_fldF {al Dx d : Addr} {fs : List (Str × V)} {oe : Obj} {pn : List (Addr × Obj)} (B : BS (X.suite al ((al, oe) :: pn)) N sc) (T : XfC X.K Dx) (hno : PySem.W.findIn X.K (.ref Dx) f = some none) (hz : Zc (.ref Dx) (some d) oe) (hf : ∃ vs, oe.data = .fields vs)
    (hΓ : Γ[i]? = some (.im (rErr al (some d) fs))) (hN : N[i]? = some n) (hv : Vis sc n) (hl : fs.lookup f = some v) (hd : (n == ("__debug__" : Str)) = false := by decide) (hcd : (n == ("__classdict__" : Str)) = false := by decide)
    (hb : attributeBase (.Name n p2) f X.env (eval (.Name n p2) X.env) = eval (.Name n p2) X.env := by rfl) : DE (X.suite al ((al, oe) :: pn)) Γ (.Attribute (.Name n p2) f pos) (rC v) := fun F0 H0 F H σ en Q q => by
  obtain ⟨hNX, hsc, _⟩ := B
  subst hsc hNX
  obtain ⟨y, hσ, rfl, hD⟩ := en.im hΓ
  have hDH : H d = some (.xd fs) := en.gr.s _ _ hD
  refine .of (pe_xf T hno hz hf (pe_var (X := X.suite al ((al, oe) :: pn)) (i := i) hN hv hd hcd) hb) ?_
  exact ⟨_, hσ, rfl, rfl, d, fs, v, rfl, hDH, hl, q v F H (.refl en.gr.s) rfl⟩
end
end DL

set_option Elab.async false
set_option linter.all false
set_option maxRecDepth 100000
set_option maxHeartbeats 4000000
/-! try: .. except C as e: suite -/
namespace DL
open PySem PySem.Spec PyProof.Rows L2
section
variable {X Y : Cx} {N : List Str} {sc : Scope} {k i : Nat} {Γ : List Sl} {a b e c : Expr} {r : Rep} {l : List Rep} {x n f : Str} {pos p p2 tpos apos ps2 : Pos} {F0 H0 F H : Hp} {σ : L2.St} {st : List Stmt} {D D' : Ends} {ret : Ret}
theorem go_thenY (h : GO X F0 H0 st D Γ) : GO Y F0 H0 [] { D with nx := XS X st D } Γ := go_nil fun F H σ en => h F H σ en
theorem go_run {Γ : List Sl} (en : En F0 H0 F H σ Γ) (h : GO Y F0 H0 st D Γ) : XS Y st D σ H := h F H σ en
theorem RT.su (R : RT F0 H0 ret D) (h : D'.rt = D.rt := by rfl) : RT F0 H0 ret D' := fun v F' H' g q => by rw [h]; exact R v F' H' g q
end
end DL

set_option Elab.async false
set_option linter.all false
set_option maxRecDepth 100000
set_option maxHeartbeats 4000000
/-! ends and ranges -/
namespace DL
open PySem PySem.Spec PyProof.Rows L2
section
variable {K : PySem.W.Frag}
end
section
variable {X : Cx} {Γ : List Sl} {a : Expr} {p pos : Pos} {j : Nat} {r : Rep} {o : Option Rat}
theorem dt_notN (ha : DE X Γ a rNon) : DT X Γ (.Compare a [.IsNot] [.Constant .none j p] pos) false := dt_cmp op_notN (fun F H x y s h1 h2 Q q => by cases h1; cases h2; exact ⟨rfl, q _ F H (.refl s) rfl⟩) ha de_non (nomark _)
theorem dt_notN0 (hn : NotNon r) (ha : DE X Γ a r) : DT X Γ (.Compare a [.IsNot] [.Constant .none j p] pos) true := dt_cmp op_notN (fun F H x y s h1 h2 Q q => by
  cases h2
  exact ⟨rfl, q _ F H (.refl s) (by show V.bl _ = V.bl _; rw [decide_eq_false (hn F x h1)]; rfl)⟩) ha de_non (nomark _)
end
end DL

set_option Elab.async false
set_option linter.all false
set_option maxRecDepth 100000
set_option maxHeartbeats 4000000
/-! a def with a star parameter -/
namespace DL
open PySem PySem.Spec PyProof.Rows L2
structure CalR (P : Program) (w : World) (K : PySem.W.Frag) (mg : Str → Option Value) (base : Heap) (k : Nat) (x : Str) (sp : Sp) : Prop where
  ex : ∃ f : Addr, FnR P w K mg base (L2.CX P w) k f sp ∧ mg x = some (.ref f) ∧ PySem.W.keepIn K (.ref f) = true
section
variable {X : Cx} {N : List Str} {sc : Scope} {k j : Nat} {Γ : List Sl} {e : Expr} {es : List Expr} {pos p : Pos} {x : Str} {ι : Type} {pre : ι → Prop} {args : ι → List Rep} {out : ι → Out} {ret : Ret} {C : Addr} {W : WX} {fs : List (Str × V)} {sp : Sp}
end
section
variable {P : Program} {w : World} {K : PySem.W.Frag} {mg : Str → Option Value} {base : Heap} {k : Nat} {x pv : Str} {st : Stmt} {N ps : List Str} {ι : Type} {pre : ι → Prop} {first rest : ι → List Rep} {out : ι → Out}
end
end DL

set_option Elab.async false
set_option linter.all false
set_option maxRecDepth 100000
set_option maxHeartbeats 4000000
/-! sets made of lists -/
namespace DL
open PySem PySem.Spec PyProof.Rows L2
section
variable {P : Program} {w : World} {A : Around} {E : Value → Shared → Prop} {s : Shared}
abbrev emptyS (w : World) : Obj := { cls := .type "set", dict := none, data := .set #[] 0 (.fresh 0 0 (!w.params.followText "set-order")) }
/-- what the walk that fills a set has to give -/
def Fills (P : Program) (w : World) (items : Array Value) (Good : Heap → Addr → Prop) : Prop :=
  ∀ {A' : Around} {s0 : Shared} {S I : Addr} {fp wr : List Addr} {G : Array GenState → Array GenState → Prop} {St : Nat → Shared → Prop} {R : Result → Shared → Prop},
    WalksS P w A'.in1 I fp wr G items.size (fun i v => items[i]? = some v) St → S ∉ fp → St 0 s0 → s0.heap.get? S = some (emptyS w) →
    (∀ s', Moved (S :: wr) G s0 s' → Good s'.heap S → R (.ok (.ret .none)) s') → codeAny (model P w) A' (.builtin "set.update.loop" ⟨[.ref S, .ref I], []⟩) R s0
set_option maxHeartbeats 3200000 in
theorem set_made {l : Addr} {items : Array Value} {Good : Heap → Addr → Prop} {Q : Value → Shared → Prop} (hh : A.handled = none) (hl : s.heap.IsList l items) (fills : Fills P w items Good)
    (h : ∀ (h' : Heap) (tk : Nat), Good h' s.heap.objs.size → (∀ b o, s.heap.get? b = some o → h'.get? b = some o) → Q (.ref s.heap.objs.size) { s with heap := h', toks := tk }) :
    wpAny (model P w) A (call (.type "set") [.ref l]) Q E s := by
  have cs := F.called_set
  obtain ⟨c, tl, e1⟩ := cs.mro
  have e2 := cs.made
  have e3 := cs.sub
  have e4 := cs.notType
  have e5 := cs.canCreate
  have e6 := F.typeCall_set_1 (.ref l)
  refine wpAny_call (codeAny_of_tree (show wpAny _ _ (callAny (.type "set") _) _ _ _ from wpAny_pure ⟨Code.quiet_builtin _ (by decide +kernel), codeAny_builtin F.entry_type_call ?_⟩))
  rw [Around.under_plain (weight_type_call_type "set" [.ref l] []) rfl]
  repeat (any_goals (first | assumption | wp_step))
  generalize hn : s.heap.objs.size = n at h
  have lS : (s.heap.push (emptyS w)).objs.size = n + 1 := by rw [Heap.size_push, hn]
  have at1 : (s.heap.push (emptyS w)).get? n = some (emptyS w) := hn ▸ Heap.get?_push_size _ rfl
  refine codeAny_mono (code_set_led1 (.ref l) (E := E) (Q₁ := fun v t => v = .ref n ∧ t = { s with heap := s.heap.push (emptyS w) }) ⟨by rw [hn], rfl⟩) fun r t hr => ?_
  match r, hr with
  | .error e, hr => exact hr
  | .ok .next, hr => exact hr.elim
  | .ok .brk, hr => exact hr.elim
  | .ok .cont, hr => exact hr.elim
  | .ok (.ret v), ⟨e7, e8⟩ =>
    subst e7 e8
    have ty : Shared.TypeIs { s with heap := s.heap.push (emptyS w) } (.ref n) "set" := ⟨_, at1, rfl⟩
    have f1 := cs.init.lookup
    have f2 := cs.init.bind (.ref n)
    repeat (any_goals (first | assumption | wp_step))
    refine codeAny_mono (codeAny_call_builtin (R := wants (fun r t => r = .none ∧ ∃ h' tk, t = { s with heap := h', toks := tk } ∧ Good h' n ∧ ∀ b o, s.heap.get? b = some o → h'.get? b = some o) E) cs.init.plain F.entry_set_init (check_set_init_1 ty ?_)) fun r2 t2 hr2 => ?_
    · obtain ⟨⟨k1, k2, k3, k4⟩, hol, rfl, nl, rfl⟩ := hl
      have lt : l < n := hn ▸ Heap.lt_size hol
      have il : (s.heap.push (emptyS w)).IsList l items := ⟨_, Heap.get?_push_of_some _ hol, rfl, nl, rfl⟩
      have g1 : (s.heap.push (emptyS w)).get? l = some { cls := .type "list", dict := k2, data := .seq items nl, slots := k4 } := Heap.get?_push_of_some _ hol
      have g2 := F.sub_list_set
      have g3 := F.sub_list_frozenset
      have g4 : (Value.type "list" == Value.type "dict") = false := by decide
      unfold Builtin.«set.__init__» noKeywords Builtin.Frozenset.updateFrom
      generalize hP : pyIter = PI
      wp_walk
      subst hP
      refine wpAny_pyIter_list il (wpAny_bind (wpAny_runValue ?_))
      have hd : A.in1.in1.in1.handled = none := by simp [hh]
      have lt2 : n < (s.heap.push (emptyS w)).objs.size := by rw [lS]; exact Nat.lt_succ_self _
      have nI : l ≠ (s.heap.push (emptyS w)).objs.size := Nat.ne_of_lt (Nat.lt_trans lt lt2)
      have no2 : ∀ {b x y : Addr}, b ≠ x → b ≠ y → b ∉ [x, y] := fun p q z => by
        rcases List.mem_cons.mp z with z | z
        · exact p z
        · exact q (List.mem_singleton.mp z)
      refine fills ((Walks.list hd _ l nI items).toS) (no2 (Nat.ne_of_lt lt2) (Nat.ne_of_gt lt)) ⟨⟨_, Heap.get?_push_size _ rfl, rfl, rfl⟩, il.push _⟩ (Heap.get?_push_of_some _ at1) fun t3 mv good => ?_
      obtain ⟨h3, g3', d3, tk3, os3⟩ := t3
      obtain rfl : g3' = s.gens := mv.gens
      obtain rfl : d3 = s.drawn := mv.drawn
      obtain rfl : os3 = s.os := mv.os
      show wpAny _ _ _ _ _ _
      refine wpAny_pure (show wpAny _ _ (ret Value.none) _ _ _ from wpAny_pure ⟨rfl, h3, tk3, rfl, good, fun b o e => ?_⟩)
      have lb : b < n := hn ▸ Heap.lt_size e
      exact mv.heap b o (no2 (Nat.ne_of_lt lb) (Nat.ne_of_lt (Nat.lt_trans lb lt2))) (Heap.get?_push_of_some _ (Heap.get?_push_of_some _ e))
    · match r2, hr2 with
      | .error e, hr2 => exact hr2
      | .ok .next, hr2 => exact hr2.elim
      | .ok .brk, hr2 => exact hr2.elim
      | .ok .cont, hr2 => exact hr2.elim
      | .ok (.ret r), ⟨e9, h', tk, e10, good, keep⟩ =>
        subst e9 e10
        repeat (any_goals (first | assumption | wp_step))
        exact h _ _ good keep
end
end DL

set_option Elab.async false
set_option linter.all false
set_option maxRecDepth 100000
set_option maxHeartbeats 4000000
/-! lists of different members -/
namespace DL
open PySem L2
theorem snoc_ind {α : Type} {motive : List α → Prop} (nil : motive []) (snoc : ∀ (xs : List α) (x : α), motive xs → motive (xs ++ [x])) (l : List α) : motive l := by
  have h : ∀ l : List α, motive l.reverse := fun l => by
    induction l with
    | nil => exact nil
    | cons x l ih => rw [List.reverse_cons]; exact snoc _ _ ih
  have := h l.reverse
  rwa [List.reverse_reverse] at this
/-! the members, each once, in the order in which they are met -/
section
variable {α : Type} [DecidableEq α]
def dstep (acc : List α) (x : α) : List α := if x ∈ acc then acc else acc ++ [x]
def dd (xs : List α) : List α := xs.foldl dstep []
theorem dd_snoc (xs : List α) (x : α) : dd (xs ++ [x]) = dstep (dd xs) x := by
  unfold dd
  rw [List.foldl_append]
  rfl
theorem mem_dd {x : α} : ∀ {xs : List α}, x ∈ dd xs ↔ x ∈ xs := by
  intro xs
  induction xs using snoc_ind with
  | nil => exact Iff.rfl
  | snoc xs y ih =>
    rw [dd_snoc]
    unfold dstep
    by_cases h : y ∈ dd xs
    · rw [if_pos h, List.mem_append, List.mem_singleton, ih]
      exact ⟨.inl, fun z => z.elim id fun e => e ▸ ih.mp (by subst e; exact h)⟩
    · rw [if_neg h, List.mem_append, List.mem_append, ih]
theorem nodup_dd : ∀ (xs : List α), (dd xs).Nodup := by
  intro xs
  induction xs using snoc_ind with
  | nil => exact List.nodup_nil
  | snoc xs y ih =>
    rw [dd_snoc]
    unfold dstep
    by_cases h : y ∈ dd xs
    · rw [if_pos h]; exact ih
    · rw [if_neg h]
      exact List.nodup_append.mpr ⟨ih, by simp, fun a ha b hb e => h (by rw [List.mem_singleton.mp hb] at e; exact e ▸ ha)⟩
theorem dd_take {xs : List α} {i : Nat} {x : α} (h : xs[i]? = some x) : dd (xs.take (i + 1)) = dstep (dd (xs.take i)) x := by
  rw [List.take_add_one, h]
  exact dd_snoc _ _
theorem dd_len_le (xs : List α) : (dd xs).length ≤ xs.length := by
  induction xs using snoc_ind with
  | nil => exact Nat.le_refl _
  | snoc xs y ih =>
    rw [dd_snoc, List.length_append]
    unfold dstep
    split
    · exact Nat.le_trans ih (Nat.le_add_right _ _)
    · rw [List.length_append]; exact Nat.add_le_add_right ih _
theorem nodup_sub : ∀ {l m : List α}, l.Nodup → (∀ x ∈ l, x ∈ m) → l.length ≤ m.length
  | [], m, _, _ => Nat.zero_le _
  | x :: l, m, h, hs => by
    have h2 := List.nodup_cons.mp h
    have hx : x ∈ m := hs x (List.mem_cons_self ..)
    have := nodup_sub (l := l) (m := m.erase x) h2.2 (fun y hy => by
      have : y ≠ x := fun e => h2.1 (e ▸ hy)
      exact (List.mem_erase_of_ne this).mpr (hs y (List.mem_cons_of_mem _ hy)))
    rw [List.length_erase_of_mem hx] at this
    have hp := List.length_pos_of_mem hx
    rw [List.length_cons]
    omega
theorem nodup_len {l m : List α} (hl : l.Nodup) (hm : m.Nodup) (h : ∀ x, x ∈ l ↔ x ∈ m) : l.length = m.length :=
  Nat.le_antisymm (nodup_sub hl fun x z => (h x).mp z) (nodup_sub hm fun x z => (h x).mpr z)
theorem dd_of_nodup {xs : List α} (h : xs.Nodup) : (dd xs).length = xs.length := nodup_len (nodup_dd xs) h fun _ => mem_dd
theorem nodup_of_dd {xs : List α} (h : (dd xs).length = xs.length) : xs.Nodup := by
  induction xs using snoc_ind with
  | nil => exact List.nodup_nil
  | snoc xs y ih =>
    rw [dd_snoc, List.length_append] at h
    unfold dstep at h
    have hl := dd_len_le xs
    by_cases hy : y ∈ dd xs
    · rw [if_pos hy] at h
      simp at h
      omega
    · rw [if_neg hy, List.length_append] at h
      have h2 : (dd xs).length = xs.length := by simpa using h
      exact List.nodup_append.mpr ⟨ih h2, by simp, fun a ha b hb e => hy (by rw [List.mem_singleton.mp hb] at e; exact mem_dd.mpr (e ▸ ha))⟩
theorem dd_lt {xs : List α} : (dd xs).length < xs.length ↔ ¬ xs.Nodup := by
  have h1 := dd_len_le xs
  constructor
  · intro h n
    rw [dd_of_nodup n] at h
    omega
  · intro h
    by_cases e : (dd xs).length = xs.length
    · exact absurd (nodup_of_dd e) h
    · omega
end
/-! the members, ascending -/
def sins (x : Int) : List Int → List Int
  | [] => [x]
  | y :: l => if x < y then x :: y :: l else if x = y then y :: l else y :: sins x l
def sset (xs : List Int) : List Int := xs.foldr sins []
end DL

set_option Elab.async false
set_option linter.all false
set_option maxRecDepth 100000
set_option maxHeartbeats 4000000
/-! sets of ints and of texts: made of a list, counted, sorted -/
namespace DL
open PySem PySem.Spec PyProof.Rows L2
section
variable {P : Program} {w : World}
/-- a set of texts, the first i of them in it -/
theorem fill_strs {A : Around} {S I : Addr} {fp wr : List Addr} {G : Array GenState → Array GenState → Prop} {n : Nat} {Pv : Nat → Value → Prop} {St : Nat → Shared → Prop} {R : Result → Shared → Prop} (W : WalksS P w A.in1 I fp wr G n Pv St) (hS : S ∉ fp) (xs : List Str) (hn : n = xs.length) (hb : xs.length + 1 < scanBound)
    (hv : ∀ i v, Pv i v → ∃ x t, xs[i]? = some x ∧ v = .str x t) : ∀ (d i : Nat) (s : Shared), n - i = d → i ≤ n → St i s → s.heap.SetOf (PySem.strKind P w) S (fun z => decide (z ∈ xs.take i)) (dd (xs.take i)).length →
      (∀ s', Moved (S :: wr) G s s' → s'.heap.SetOf (PySem.strKind P w) S (fun z => decide (z ∈ xs)) (dd xs).length → R (.ok (.ret .none)) s') → codeAny (model P w) A (.builtin "set.update.loop" ⟨[.ref S, .ref I], []⟩) R s := by
  have nw : S ∉ wr := fun z => hS (W.sub _ z)
  have up : ∀ b ∈ wr, b ∈ S :: wr := fun b z => List.mem_cons_of_mem _ z
  intro d
  induction d with
  | zero =>
    intro i s e1 e2 st so k
    obtain rfl : i = n := by omega
    refine codeAny_builtin F.entry_set_update_loop ?_
    rw [Around.under_plainId F.plain_set_update_loop _]
    refine show wpAny _ A.in1 (pyNext (.ref I) >>= _) _ _ s from wpAny_bind (W.done s _ _ st fun s' mv => show wpAny _ A.in1 (ret Value.none) _ _ s' from wpAny_pure (k s' (mv.mono up) ?_))
    rw [List.take_of_length_le (by omega)] at so
    obtain ⟨o, es, ep, tb, ho, rest⟩ := so
    exact ⟨o, es, ep, tb, mv.heap S _ nw ho, rest⟩
  | succ d ih =>
    intro i s e1 e2 st so k
    have lt : i < n := by omega
    refine codeAny_builtin F.entry_set_update_loop ?_
    rw [Around.under_plainId F.plain_set_update_loop _]
    refine show wpAny _ A.in1 (pyNext (.ref I) >>= _) _ _ s from wpAny_bind (W.item i s _ _ lt st fun v s1 pv st1 mv => ?_)
    obtain ⟨x, t, hx, rfl⟩ := hv i v pv
    have so1 : s1.heap.SetOf (PySem.strKind P w) S (fun z => decide (z ∈ xs.take i)) (dd (xs.take i)).length := by
      obtain ⟨o, es, ep, tb, ho, rest⟩ := so
      exact ⟨o, es, ep, tb, mv.heap S _ nw ho, rest⟩
    refine show wpAny _ A.in1 (holding [Value.str x t] (setAdd S (.str x t)) >>= _) _ _ s1 from wpAny_bind (wpAny_holding ?_)
    unfold setAdd
    refine wpAny_holding (wpAny_bind ((PySem.strKind P w).pyHash (k := x) (strKind_is _ _ _ _) ?_))
    have room : (dd (xs.take i)).length + 1 < scanBound := by
      have := dd_len_le (xs.take i)
      rw [List.length_take] at this
      omega
    refine wpAny_setAddHashed_of (knd := PySem.strKind P w) (s := { s1 with toks := s1.toks + 1 }) (strKind_is _ _ _ _) rfl so1 room fun h' sb so2 => ?_
    have so3 : h'.SetOf (PySem.strKind P w) S (fun z => decide (z ∈ xs.take (i + 1))) (dd (xs.take (i + 1))).length := by
      refine SetOf_congr so2 (fun z => ?_) ?_
      · rw [List.take_add_one, hx]
        by_cases h1 : z ∈ xs.take i <;> by_cases h2 : z = x <;> simp [h1, h2]
      · rw [dd_take hx]
        unfold dstep
        by_cases h1 : x ∈ xs.take i
        · rw [if_pos (mem_dd.mpr h1), if_pos (decide_eq_true h1)]
        · rw [if_neg (fun z => h1 (mem_dd.mp z)), if_neg (by simp [h1]), List.length_append]
          rfl
    refine wpAny_pure ⟨plainId_quiet F.plain_set_update_loop _, ih (i + 1) _ (by omega) lt (W.frame _ s1 _ _ st1 (Nat.le_succ _) fun b hb o e => ?_) so3 fun s2 mv2 so4 => k s2 ?_ so4⟩
    · rw [sb.2 b (fun z => hS (z ▸ hb))]
      exact e
    · refine Moved.trans W.gtrans ((mv.mono up).then_heap (Nat.le_succ _) fun b o hb e => ?_) mv2
      rw [sb.2 b (fun z => hb (z ▸ List.mem_cons_self))]
      exact e
theorem fills_strs {items : Array Value} {xs : List Str} (hi : StrsAre items.toList xs) (hb : xs.length + 1 < scanBound) : Fills P w items fun h a => h.SetOf (PySem.strKind P w) a (fun z => decide (z ∈ xs)) (dd xs).length := by
  intro A' s0 S I fp wr G St R W hS h0 hg k
  have hl : items.size = xs.length := by
    have q := StrsAre.len_eq hi
    rw [Array.length_toList] at q
    exact q
  refine fill_strs W hS xs hl hb (fun i v hv => ?_) (items.size - 0) 0 s0 rfl (Nat.zero_le _) h0 ?_ k
  · have lt : i < xs.length := hl ▸ (Array.getElem?_eq_some_iff.mp hv).1
    obtain ⟨t, e⟩ := SS.strs_at hi i v (by rw [Array.getElem?_toList]; exact hv)
    exact ⟨xs[i], t, List.getElem?_eq_getElem lt, by rw [e, List.getD_eq_getElem?_getD, List.getElem?_eq_getElem lt, Option.getD_some]⟩
  · exact SetOf_congr ((setObjOf_fresh (knd := PySem.strKind P w) (!w.params.followText "set-order")).setOf hg (by unfold scanBound; omega)) (fun z => by simp) rfl
end
def SetSO (P : Program) (w : World) (a : Addr) (xs : List Str) : HO := .ext fun h => h.SetOf (PySem.strKind P w) a (fun z => decide (z ∈ xs)) (dd xs).length
theorem setS_new {w : World} {P : Program} {H : Hp} {h : Heap} {a : Addr} {xs : List Str} (R : h.SetOf (PySem.strKind P w) a (fun z => decide (z ∈ xs)) (dd xs).length) : ObjOk P w H h a (SetSO P w a xs) := by
  have ⟨o, _, _, _, ho, _⟩ := R
  exact ⟨R, ⟨o, ho⟩, fun h1 h2 ⟨o', es, ep, tb, q1, q2⟩ k => ⟨o', es, ep, tb, k _ q1, q2⟩⟩
section
variable {X : Cx}
def kSetS (X : Cx) : List V → Hp → VK → Prop := fun vs H Q => ∃ (l : Addr) (xs : List Str), vs = [V.ref l] ∧ SqL X.K H l (xs.map V.str) ∧ xs.length + 1 < scanBound ∧ ∀ p, H p = none → Q (.ref p) (upd H p (SetSO X.prog X.w p xs))
theorem cr_setS (hc : X.calm = true) : CallR X (.type "set") (kSetS X) := by
  intro pins s σ H vs us Q I r h
  obtain ⟨l, xs, rfl, hq, hb, q⟩ := h
  rw [Vals.ref1 r]
  obtain ⟨its, rv, pl, hz⟩ := I.list hq
  refine set_made (Good := fun h a => h.SetOf (PySem.strKind X.prog X.w) a (fun z => decide (z ∈ xs)) (dd xs).length) (I.ok.hd hc) pl.isList (fills_strs (by simpa using strsAre_of rv) hb) fun h' tk good keep => ?_
  exact ⟨.ref _, _, I.laid (t' := tk) keep (Nat.le_refl _) (setS_new good), rfl, q _ (I.hok.fresh (Nat.le_refl _))⟩
theorem setR_len {w : World} {h : Heap} {a : Addr} {ns : List Int} {c : Nat} (R : SetR w h a (fun j => decide (j ∈ ns)) c) : c = (dd ns).length := by
  obtain ⟨o, es, ep, t, ho, hx, hd, g, nd, hm, hb, hf, hn, _⟩ := R
  have e := nodup_len nd (nodup_dd ns) fun x => by rw [← hm, mem_dd, decide_eq_true_iff]
  rw [List.length_map, Array.length_toList, hn] at e
  exact e
/-- len of a set -/
def kLenSet (X : Cx) : List V → Hp → VK → Prop := fun vs H Q => (∃ (a : Addr) (ns : List Int) (c : Nat), vs = [V.ref a] ∧ H a = some (SetO X.w a (fun j => decide (j ∈ ns)) c) ∧ Q (.int (dd ns).length) H) ∨ ∃ (a : Addr) (xs : List Str), vs = [V.ref a] ∧ H a = some (SetSO X.prog X.w a xs) ∧ Q (.int (dd xs).length) H
theorem cr_lenSet : CallR X (.builtin "len") (kLenSet X) := by
  intro pins s σ H vs us Q I r h
  rcases h with ⟨a, ns, c, rfl, ha, q⟩ | ⟨a, xs, rfl, ha, q⟩
  · rw [Vals.ref1 r]
    have R := setO_get I ha
    have hc := setR_len R
    obtain ⟨o, es, ep, t, ho, hx, hd, g, nd, hm, hb, hf, hn, _⟩ := R
    refine call_len_set ho hx hd hf (by unfold scanBound at hb; omega) ⟨.int (dd ns).length, H, I.tok _, ⟨_, by rw [hn, hc]⟩, q⟩
  · rw [Vals.ref1 r]
    obtain ⟨o, es, ep, t, ho, hex, hd, _, _, hb, hf, hn⟩ := (I.hok a _ ha).1
    refine call_len_set ho hex hd hf (by unfold scanBound at hb; omega) ⟨.int (dd xs).length, H, I.tok _, ⟨_, by rw [hn]⟩, q⟩
end
def rSetS (P : Program) (w : World) (xs : List Str) : Rep := ⟨fun F x => ∃ a, x = .ref a ∧ F a = some (SetSO P w a xs), fun s ⟨a, e, h⟩ => ⟨a, e, s _ _ h⟩⟩
theorem rl_sv {F : Hp} : ∀ {xs : List Str} {vs : List V}, RL F (xs.map rStr) vs → vs = xs.map V.str
  | [], _, .nil => rfl
  | n :: ns, _, .cons h t => by rw [rl_sv t]; cases h; rfl
section
variable {X : Cx} {N : List Str} {sc : Scope} {k : Nat} {Γ : List Sl} {e : Expr} {pos p : Pos} {ns : List Int} {xs : List Str}
theorem de_lenSS (B : BX X N sc k) (hm : X.mg "len" = none) (h : DE X Γ e (rSetS X.prog X.w xs)) (hg : sc.names.lookup ("len" : Str) = some NameKind.globalImplicit) (he : starEach (e :: []) X.env = (false, eval e X.env) :: starEach [] X.env := by rfl) : DE X Γ (.Call (.Name "len" p) [e] [] pos) (rInt ((dd xs).length : Nat)) :=
  de_blt B cr_lenSet (fun F H vs s h Q q => by
    obtain ⟨v, rfl, a, rfl, k1⟩ := rl1 h
    exact .inr ⟨a, xs, rfl, s _ _ k1, q _ F H (.refl s) rfl⟩) hm PySem.boot_len (da_cons h da_nil he) hg (he := he)
end
end DL

set_option Elab.async false
set_option linter.all false
set_option maxRecDepth 100000
set_option maxHeartbeats 4000000
/-! zip of two rows, each a list or a tuple -/
namespace DL
open PySem PySem.Spec PyProof.Rows L2
def IsSq (t : Bool) (h : Heap) (l : Addr) (xs : Array Value) : Prop := if t = true then h.IsTuple l xs else h.IsList l xs
def IsSqI (t : Bool) (h : Heap) (it l : Addr) (i : Nat) : Prop := if t = true then h.IsTupleIter it l i else h.IsListIter it l i
def itObj (t : Bool) (l : Addr) : Obj := { cls := .type (if t = true then "tuple_iterator" else "list_iterator"), data := .fields #[.ref l, .int 0 0] }
theorem IsSq.keep {t : Bool} {h h' : Heap} {l : Addr} {xs : Array Value} (x : IsSq t h l xs) (k : ∀ o, h.get? l = some o → h'.get? l = some o) : IsSq t h' l xs := by
  cases t with
  | true => obtain ⟨o, e, r⟩ := (show h.IsTuple l xs from x); exact ⟨o, k o e, r⟩
  | false => obtain ⟨o, e, r⟩ := (show h.IsList l xs from x); exact ⟨o, k o e, r⟩
theorem IsSqI.keep {t : Bool} {h h' : Heap} {l it : Addr} {i : Nat} (x : IsSqI t h it l i) (k : ∀ o, h.get? it = some o → h'.get? it = some o) : IsSqI t h' it l i := by
  cases t with
  | true => exact Heap.IsTupleIter.at (show h.IsTupleIter it l i from x) k
  | false => exact Heap.IsListIter.at (show h.IsListIter it l i from x) k
theorem IsSqI.ob {t : Bool} {h : Heap} {l it : Addr} {i : Nat} (x : IsSqI t h it l i) : ∃ o, h.get? it = some o ∧ ∀ v, o.data ≠ .cell v := by
  cases t with
  | true => obtain ⟨o, e, _, d⟩ := (show h.IsTupleIter it l i from x); exact ⟨o, e, fun v q => by rw [d] at q; cases q⟩
  | false => obtain ⟨o, e, _, d⟩ := (show h.IsListIter it l i from x); exact ⟨o, e, fun v q => by rw [d] at q; cases q⟩
theorem isSqI_new {t : Bool} {h : Heap} {l it : Addr} (e : h.get? it = some (itObj t l)) : IsSqI t h it l 0 := by
  cases t with
  | true => exact ⟨_, e, rfl, rfl⟩
  | false => exact ⟨_, e, rfl, rfl⟩
section
variable {P : Program} {w : World} {A : Around} {E : Value → Shared → Prop} {s : Shared}
theorem sq_next {t : Bool} {it l : Addr} {i : Nat} {xs : Array Value} {x : Value} {Q : Value → Shared → Prop} (hi : IsSqI t s.heap it l i) (hl : IsSq t s.heap l xs) (hx : xs[i]? = some x)
    (k : ∀ h', IsSqI t h' it l (i + 1) → Heap.SameBut it s.heap h' → Q x { s with heap := h' }) : wpAny (model P w) A (Builtin.SmallTypes.nextOf (.ref it)) Q E s := by
  cases t with
  | true => exact RZ.nextOf_tuple_item hi hl hx k
  | false => exact wpAny_nextOf_list_item hi hl hx k
theorem sq_stop {t : Bool} {it l : Addr} {i : Nat} {xs : Array Value} {Q : Value → Shared → Prop} (hh : A.handled = none) (hi : IsSqI t s.heap it l i) (hl : IsSq t s.heap l xs) (hx : xs[i]? = none)
    (k : ∀ h' e, Heap.ExtBut it s.heap h' → (∃ o, h'.get? e = some o ∧ o.cls = .type "StopIteration") → E (.ref e) { s with heap := h' }) : wpAny (model P w) A (Builtin.SmallTypes.nextOf (.ref it)) Q E s := by
  cases t with
  | true => exact RZ.nextOf_tuple_end hh hi hl hx k
  | false => exact wpAny_nextOf_list_end hh hi hl hx k
/-- the zip's own parts lie apart from each other and from what it walks -/
structure Zx (t u : Bool) (h : Heap) (z TI TO i j l m : Addr) (k : Nat) (xs ys : Array Value) : Prop where
  D : ZipApart z TI TO i j l m
  z : IsZip h z TI TO .none
  ti : IsPair h TI (.ref i) (.ref j)
  to : ∃ a b, IsPair h TO a b
  i : IsSqI t h i l k
  j : IsSqI u h j m k
  xs : IsSq t h l xs
  ys : IsSq u h m ys
abbrev Keeps (z TO i j : Addr) (h h' : Heap) : Prop := ∀ c o, c ≠ z → c ≠ TO → c ≠ i → c ≠ j → h.get? c = some o → h'.get? c = some o
theorem zx_next {t u : Bool} {z TI TO i j l m : Addr} {k : Nat} {xs ys : Array Value} {x y : Value} {Q : Value → Shared → Prop} (Z : Zx t u s.heap z TI TO i j l m k xs ys) (hx : xs[k]? = some x) (hy : ys[k]? = some y)
    (q : ∀ h', IsZip h' z TI TO (rawInt s.heap.objs.size) → IsPair h' TO x y → IsSqI t h' i l (k + 1) → IsSqI u h' j m (k + 1) → IsPair h' s.heap.objs.size x y → h'.objs.size = s.heap.objs.size + 1 → Keeps z TO i j s.heap h' → Q (.ref s.heap.objs.size) { s with heap := h' }) :
    wpAny (model P w) A (Builtin.«zip.__next__» ⟨[.ref z], []⟩) (fun fin s' => ∃ v, fin = .done (.ret v) ∧ Q v s') E s := by
  obtain ⟨D, hz, hTI, ⟨a, b, hTO⟩, h1, h2, hl, hm⟩ := Z
  refine show wpAny _ _ (field (.ref z) 2 >>= _) _ _ _ from wpAny_bind (wpAny_field hz rfl (x := .bool false) rfl ?_)
  refine show wpAny _ _ (field (.ref z) 3 >>= _) _ _ _ from wpAny_bind (wpAny_field hz rfl (x := .ref TI) rfl (wpAny_bind (wpAny_seqItems hTI rfl ?_)))
  refine show wpAny _ _ (Builtin.SmallTypes.ownedTupleIsFree (.ref z) >>= _) _ _ _ from wpAny_bind ?_
  unfold Builtin.SmallTypes.ownedTupleIsFree
  refine wpAny_bind (wpAny_field hz rfl (x := .none) rfl (wpAny_pure ?_))
  simp only [if_true]
  refine wpAny_bind (wpAny_rule (wpAny_bind (wpAny_field hz rfl (x := .ref TO) rfl (wpAny_bind (wpAny_setField_rec hz (by simp) fun ha za sa => ?_)))))
  replace za : IsZip ha z TI TO .ellipsis := za
  refine wpAny_bind ?_
  simp only [List.zipIdx_cons, List.zipIdx_nil, List.forIn_cons, List.forIn_nil]
  refine wpAny_bind (wpAny_bind (wpAny_onRaise (show wpAny _ _ (Builtin.SmallTypes.nextOf (.ref i) >>= _) _ _ _ from wpAny_bind ?_)))
  refine sq_next (h1.keep fun o => sa.extBut _ o D.i1z) (hl.keep fun o => sa.extBut _ o D.l1z) hx fun hb ib sb => wpAny_pure ?_
  have pb : IsPair hb TO a b := sb.extBut _ _ D.TOi1 (sa.extBut _ _ D.TOz hTO)
  refine wpAny_bind (wpAny_seqItems pb rfl (wpAny_bind (wpAny_updateSeq_pair pb fun hc pc sc => ?_)))
  replace pc : IsPair hc TO x b := pc
  have k3 : ∀ c o, c ≠ z → c ≠ TO → c ≠ i → s.heap.get? c = some o → hc.get? c = some o := fun c o c1 c2 c3 e => sc.extBut _ _ c2 (sb.extBut _ _ c3 (sa.extBut _ _ c1 e))
  refine wpAny_bind (wpAny_letGo (wpAny_pure (wpAny_bind (wpAny_bind (wpAny_onRaise (show wpAny _ _ (Builtin.SmallTypes.nextOf (.ref j) >>= _) _ _ _ from wpAny_bind ?_))))))
  refine sq_next (h2.keep fun o => k3 _ o D.i2z D.TOi2.symm D.i12.symm) (hm.keep fun o => k3 _ o D.l2z D.l2TO D.l2i1) hy fun hd jd sd => wpAny_pure ?_
  have pd : IsPair hd TO x b := sd.extBut _ _ D.TOi2 pc
  refine wpAny_bind (wpAny_seqItems pd rfl (wpAny_bind (wpAny_updateSeq_pair pd fun he pe se => ?_)))
  replace pe : IsPair he TO x y := pe
  refine wpAny_bind (wpAny_letGo (wpAny_pure (wpAny_pure (wpAny_bind (wpAny_seqItems pe rfl (wpAny_bind (wpAny_newTuple ?_)))))))
  have sz : he.objs.size = s.heap.objs.size := by rw [se.1, sd.1, sc.1, sb.1, sa.1]
  have up : ∀ c o, c ≠ TO → c ≠ j → hc.get? c = some o → he.get? c = some o := fun c o c1 c2 e => se.extBut _ _ c1 (sd.extBut _ _ c2 e)
  have zc : IsZip hc z TI TO .ellipsis := sc.extBut _ _ D.TOz.symm (sb.extBut _ _ D.i1z.symm za)
  have ze : IsZip he z TI TO .ellipsis := up _ _ D.TOz.symm D.i2z.symm zc
  have ie : IsSqI t he i l (k + 1) := (ib.keep fun o => sc.extBut _ o D.TOi1.symm).keep fun o => up _ o D.TOi1.symm D.i12
  have je : IsSqI u he j m (k + 1) := jd.keep fun o => se.extBut _ o D.TOi2.symm
  have lz : z < he.objs.size := Heap.lt_size ze
  refine show wpAny _ _ (Builtin.SmallTypes.ownedTupleHandOut (.ref z) (.ref he.objs.size) >>= _) _ _ _ from wpAny_bind ?_
  unfold Builtin.SmallTypes.ownedTupleHandOut
  have zf : IsZip (he.push { cls := .type "tuple", data := .seq #[x, y] }) z TI TO .ellipsis := Heap.get?_push_of_some _ ze
  refine wpAny_bind (wpAny_setField_rec zf (by simp) fun hg zg sg => ?_)
  replace zg : IsZip hg z TI TO (rawInt he.objs.size) := zg
  refine wpAny_setField_rec zg (by simp) fun hk zk sk => wpAny_pure ⟨_, rfl, ?_⟩
  replace zk : IsZip hk z TI TO (rawInt he.objs.size) := zk
  have last : ∀ c o, c ≠ z → (he.push { cls := .type "tuple", data := .seq #[x, y] }).get? c = some o → hk.get? c = some o := fun c o c1 e => sk.extBut _ _ c1 (sg.extBut _ _ c1 e)
  have old : ∀ c o, c ≠ z → he.get? c = some o → hk.get? c = some o := fun c o c1 e => last c o c1 (Heap.get?_push_of_some _ e)
  have pn : IsPair hk he.objs.size x y := last _ _ (Nat.ne_of_gt lz) (Heap.get?_push_size _ rfl)
  have size : hk.objs.size = he.objs.size + 1 := by rw [sk.1, sg.1, Heap.size_push]
  rw [sz] at zk pn size
  refine show Q (.ref he.objs.size) _ from ?_
  rw [sz]
  exact q hk zk (old _ _ D.TOz pe) (ie.keep fun o => old _ o D.i1z) (je.keep fun o => old _ o D.i2z) pn size fun c o c1 c2 c3 c4 e => old c o c1 (up c o c2 c4 (k3 c o c1 c2 c3 e))
theorem zx_stop {t u : Bool} {z TI TO i j l m : Addr} {k : Nat} {xs ys : Array Value} {Q : Fin → Shared → Prop} (hh : A.handled = none) (Z : Zx t u s.heap z TI TO i j l m k xs ys) (hend : xs[k]? = none ∨ ys[k]? = none)
    (q : ∀ h' e, Keeps z TO i j s.heap h' → (∃ o, h'.get? e = some o ∧ o.cls = .type "StopIteration") → E (.ref e) { s with heap := h' }) : wpAny (model P w) A (Builtin.«zip.__next__» ⟨[.ref z], []⟩) Q E s := by
  obtain ⟨D, hz, hTI, ⟨a, b, hTO⟩, h1, h2, hl, hm⟩ := Z
  refine show wpAny _ _ (field (.ref z) 2 >>= _) _ _ _ from wpAny_bind (wpAny_field hz rfl (x := .bool false) rfl ?_)
  refine show wpAny _ _ (field (.ref z) 3 >>= _) _ _ _ from wpAny_bind (wpAny_field hz rfl (x := .ref TI) rfl (wpAny_bind (wpAny_seqItems hTI rfl ?_)))
  refine show wpAny _ _ (Builtin.SmallTypes.ownedTupleIsFree (.ref z) >>= _) _ _ _ from wpAny_bind ?_
  unfold Builtin.SmallTypes.ownedTupleIsFree
  refine wpAny_bind (wpAny_field hz rfl (x := .none) rfl (wpAny_pure ?_))
  simp only [if_true]
  refine wpAny_bind (wpAny_rule (wpAny_bind (wpAny_field hz rfl (x := .ref TO) rfl (wpAny_bind (wpAny_setField_rec hz (by simp) fun ha za sa => ?_)))))
  replace za : IsZip ha z TI TO .ellipsis := za
  refine wpAny_bind ?_
  simp only [List.zipIdx_cons, List.zipIdx_nil, List.forIn_cons, List.forIn_nil]
  refine wpAny_bind (wpAny_bind (wpAny_onRaise (show wpAny _ _ (Builtin.SmallTypes.nextOf (.ref i) >>= _) _ _ _ from wpAny_bind ?_)))
  have fin : ∀ {h0 : Heap} {e : Addr}, IsZip h0 z TI TO .ellipsis → (∃ o, h0.get? e = some o ∧ o.cls = .type "StopIteration") → e ≠ z := fun hz0 ⟨oe, e1, e2⟩ e3 => by
    subst e3
    rw [hz0] at e1
    cases e1
    simp at e2
  cases hx : xs[k]? with
  | none =>
    refine sq_stop hh (h1.keep fun o => sa.extBut _ o D.i1z) (hl.keep fun o => sa.extBut _ o D.l1z) hx fun hb e sb he => ?_
    have zb : IsZip hb z TI TO .ellipsis := sb _ _ D.i1z.symm za
    have ez := fin zb he
    obtain ⟨oe, e1, e2⟩ := he
    exact wpAny_setField_rec zb (by simp) fun hc _ sc => q hc e (fun c o c1 _ c3 _ x => sc.extBut _ _ c1 (sb _ _ c3 (sa.extBut _ _ c1 x))) ⟨oe, sc.extBut _ _ ez e1, e2⟩
  | some x =>
    have hy : ys[k]? = none := hend.resolve_left (by rw [hx]; exact nofun)
    refine sq_next (h1.keep fun o => sa.extBut _ o D.i1z) (hl.keep fun o => sa.extBut _ o D.l1z) hx fun hb ib sb => wpAny_pure ?_
    have pb : IsPair hb TO a b := sb.extBut _ _ D.TOi1 (sa.extBut _ _ D.TOz hTO)
    refine wpAny_bind (wpAny_seqItems pb rfl (wpAny_bind (wpAny_updateSeq_pair pb fun hc pc sc => ?_)))
    have k3 : ∀ c o, c ≠ z → c ≠ TO → c ≠ i → s.heap.get? c = some o → hc.get? c = some o := fun c o c1 c2 c3 e => sc.extBut _ _ c2 (sb.extBut _ _ c3 (sa.extBut _ _ c1 e))
    refine wpAny_bind (wpAny_letGo (wpAny_pure (wpAny_bind (wpAny_bind (wpAny_onRaise (show wpAny _ _ (Builtin.SmallTypes.nextOf (.ref j) >>= _) _ _ _ from wpAny_bind ?_))))))
    refine sq_stop hh (h2.keep fun o => k3 _ o D.i2z D.TOi2.symm D.i12.symm) (hm.keep fun o => k3 _ o D.l2z D.l2TO D.l2i1) hy fun hd e sd he => ?_
    have zd : IsZip hd z TI TO .ellipsis := sd _ _ D.i2z.symm (sc.extBut _ _ D.TOz.symm (sb.extBut _ _ D.i1z.symm za))
    have ez := fin zd he
    obtain ⟨oe, e1, e2⟩ := he
    exact wpAny_setField_rec zd (by simp) fun hf _ sf => q hf e (fun c o c1 c2 c3 c4 x => sf.extBut _ _ c1 (sd _ _ c4 (k3 c o c1 c2 c3 x))) ⟨oe, sf.extBut _ _ ez e1, e2⟩
theorem zx_pyNext {t u : Bool} {z TI TO i j l m : Addr} {k : Nat} {xs ys : Array Value} {x y : Value} {Q : Option Value → Shared → Prop} (Z : Zx t u s.heap z TI TO i j l m k xs ys) (hx : xs[k]? = some x) (hy : ys[k]? = some y)
    (q : ∀ h', IsZip h' z TI TO (rawInt s.heap.objs.size) → IsPair h' TO x y → IsSqI t h' i l (k + 1) → IsSqI u h' j m (k + 1) → IsPair h' s.heap.objs.size x y → h'.objs.size = s.heap.objs.size + 1 → Keeps z TO i j s.heap h' → Q (some (.ref s.heap.objs.size)) { s with heap := h' }) :
    wpAny (model P w) A (pyNext (.ref z)) Q E s := by
  have ty : s.TypeIs (.ref z) "zip" := ⟨_, Z.z, rfl⟩
  unfold pyNext
  exact wpAny_bind (wpAny_attempt (wpAny_callSpecial?_slot (name := Str.ofString "__next__") ty F.slot_zip_next (wpAny_call_entry F.slot_zip_next ty F.entry_zip_next (zx_next Z hx hy fun h' a1 a2 a3 a4 a5 a6 a7 => wpAny_pure (q h' a1 a2 a3 a4 a5 a6 a7)) (F.args_zip_next_1 _))))
theorem zx_pyStop {t u : Bool} {z TI TO i j l m : Addr} {k : Nat} {xs ys : Array Value} {Q : Option Value → Shared → Prop} (hh : A.handled = none) (Z : Zx t u s.heap z TI TO i j l m k xs ys) (hend : xs[k]? = none ∨ ys[k]? = none)
    (q : ∀ h', Keeps z TO i j s.heap h' → Q none { s with heap := h' }) : wpAny (model P w) A (pyNext (.ref z)) Q E s := by
  have ty : s.TypeIs (.ref z) "zip" := ⟨_, Z.z, rfl⟩
  unfold pyNext
  refine wpAny_bind (wpAny_attempt (wpAny_callSpecial?_slot (name := Str.ofString "__next__") ty F.slot_zip_next (wpAny_call_entry F.slot_zip_next ty F.entry_zip_next (zx_stop hh Z hend fun h' e hk ⟨o, ho, hc⟩ => ?_) (F.args_zip_next_1 _))))
  exact wpAny_bind (wpAny_isInstance (T := "StopIteration") (b := true) ⟨o, ho, hc⟩ isSubtype_stop (wpAny_pure (q _ hk)))
end
/-! the zip, made -/
abbrev zm1 (t : Bool) (h : Heap) (l : Addr) : Heap := h.push (itObj t l)
abbrev zm2 (t u : Bool) (h : Heap) (l m : Addr) : Heap := (zm1 t h l).push (itObj u m)
abbrev zm3 (t u : Bool) (h : Heap) (l m : Addr) : Heap := (zm2 t u h l m).push { cls := .type "tuple", data := .seq #[.ref h.objs.size, .ref (zm1 t h l).objs.size] }
abbrev zm4 (t u : Bool) (h : Heap) (l m : Addr) : Heap := (zm3 t u h l m).push { cls := .type "tuple", data := .seq #[.none, .none] }
abbrev zm5 (t u : Bool) (h : Heap) (l m : Addr) : Heap := (zm4 t u h l m).push { cls := .type "zip", data := .fields #[.none, .bool false, .bool false, .ref (zm2 t u h l m).objs.size, .ref (zm3 t u h l m).objs.size] }
theorem zx_meets (t u : Bool) (l m : Addr) (xs ys : Array Value) : Meets (Builtin.«zip.__new__» ⟨[.type "zip", .ref l, .ref m], []⟩) (fun _ R s => IsSq t s.heap l xs ∧ IsSq u s.heap m ys ∧ R (.ok (.ret (.ref (zm4 t u s.heap l m).objs.size))) { s with heap := zm5 t u s.heap l m }) :=
  .of_wp fun prog w A R s h => by
    obtain ⟨hp, g, d, tk, os⟩ := s
    obtain ⟨ha, hb, q⟩ := h
    have sz := sub_zip
    cases t <;> cases u
    · have ia : Heap.IsList (Shared.heap ⟨hp, g, d, tk, os⟩) l xs := ha
      have ib : Heap.IsList (Shared.heap ⟨hp.push { cls := .type "list_iterator", data := .fields #[.ref l, .int 0 0] }, g, d, tk, os⟩) m ys := Heap.IsList.push hb _
      wp_walk using wpAny_pyIter_list ia, wpAny_pyIter_list ib
      exact ⟨_, rfl, q⟩
    · have ia : Heap.IsList (Shared.heap ⟨hp, g, d, tk, os⟩) l xs := ha
      have ib : Heap.IsTuple (Shared.heap ⟨hp.push { cls := .type "list_iterator", data := .fields #[.ref l, .int 0 0] }, g, d, tk, os⟩) m ys := Heap.IsTuple.push hb _
      wp_walk using wpAny_pyIter_list ia, wpAny_pyIter_tuple ib
      exact ⟨_, rfl, q⟩
    · have ia : Heap.IsTuple (Shared.heap ⟨hp, g, d, tk, os⟩) l xs := ha
      have ib : Heap.IsList (Shared.heap ⟨hp.push { cls := .type "tuple_iterator", data := .fields #[.ref l, .int 0 0] }, g, d, tk, os⟩) m ys := Heap.IsList.push hb _
      wp_walk using wpAny_pyIter_tuple ia, wpAny_pyIter_list ib
      exact ⟨_, rfl, q⟩
    · have ia : Heap.IsTuple (Shared.heap ⟨hp, g, d, tk, os⟩) l xs := ha
      have ib : Heap.IsTuple (Shared.heap ⟨hp.push { cls := .type "tuple_iterator", data := .fields #[.ref l, .int 0 0] }, g, d, tk, os⟩) m ys := Heap.IsTuple.push hb _
      wp_walk using wpAny_pyIter_tuple ia, wpAny_pyIter_tuple ib
      exact ⟨_, rfl, q⟩
theorem zx_made {P : Program} {w : World} {A : Around} {E : Value → Shared → Prop} {s : Shared} {t u : Bool} {l m : Addr} {xs ys : Array Value} {Q : Value → Shared → Prop} (ha : IsSq t s.heap l xs) (hb : IsSq u s.heap m ys) (la : l < s.heap.objs.size) (lb : m < s.heap.objs.size)
    (q : ∀ h' z TI TO i j, (∀ c ∈ [z, TI, TO, i, j], s.heap.objs.size ≤ c) → Zx t u h' z TI TO i j l m 0 xs ys → (∀ c o, s.heap.get? c = some o → h'.get? c = some o) → Q (.ref z) { s with heap := h' }) :
    wpAny (model P w) A (call (.type "zip") [.ref l, .ref m]) Q E s := by
  refine callType_new F.called_zip (by decide) (F.typeCall_zip_2 _ _) (F.newCall_zip_2 _ _) (fun obj => F.args_object_init_3 obj _ _) F.entry_zip_new (zx_meets t u l m xs ys) ⟨ha, hb, ?_⟩
  generalize hn : s.heap.objs.size = n at la lb q
  have n1 : (zm1 t s.heap l).objs.size = n + 1 := by rw [← hn]; exact Heap.size_push ..
  have n2 : (zm2 t u s.heap l m).objs.size = n + 2 := by rw [Heap.size_push, n1]
  have n3 : (zm3 t u s.heap l m).objs.size = n + 3 := by rw [Heap.size_push, n2]
  have n4 : (zm4 t u s.heap l m).objs.size = n + 4 := by rw [Heap.size_push, n3]
  have up : ∀ c o, s.heap.get? c = some o → (zm5 t u s.heap l m).get? c = some o := fun c o x => Heap.get?_push_of_some _ (Heap.get?_push_of_some _ (Heap.get?_push_of_some _ (Heap.get?_push_of_some _ (Heap.get?_push_of_some _ x))))
  have e5 : (zm5 t u s.heap l m).get? (zm4 t u s.heap l m).objs.size = some _ := Heap.get?_push_size _ rfl
  have e4 : (zm5 t u s.heap l m).get? (zm3 t u s.heap l m).objs.size = some _ := Heap.get?_push_of_some _ (Heap.get?_push_size _ rfl)
  have e3 : (zm5 t u s.heap l m).get? (zm2 t u s.heap l m).objs.size = some _ := Heap.get?_push_of_some _ (Heap.get?_push_of_some _ (Heap.get?_push_size _ rfl))
  have e2 : (zm5 t u s.heap l m).get? (zm1 t s.heap l).objs.size = some (itObj u m) := Heap.get?_push_of_some _ (Heap.get?_push_of_some _ (Heap.get?_push_of_some _ (Heap.get?_push_size _ (by cases u <;> rfl))))
  have e1 : (zm5 t u s.heap l m).get? s.heap.objs.size = some (itObj t l) := Heap.get?_push_of_some _ (Heap.get?_push_of_some _ (Heap.get?_push_of_some _ (Heap.get?_push_of_some _ (Heap.get?_push_size _ (by cases t <;> rfl)))))
  rw [hn] at e1
  rw [n1] at e2 e3
  rw [n2] at e3 e5
  rw [n3] at e4 e5
  rw [n4] at e5 ⊢
  have D : ZipApart (n + 4) (n + 2) (n + 3) n (n + 1) l m := PySem.W.ktu_apart n l m la lb
  refine ⟨⟨_, e5, rfl⟩, q _ (n + 4) (n + 2) (n + 3) n (n + 1) (fun c hc => ?_) ⟨D, e5, by rw [hn] at e3; exact e3, ⟨_, _, e4⟩, isSqI_new e1, isSqI_new e2, ha.keep fun o => up _ o, hb.keep fun o => up _ o⟩ up⟩
  have hc2 : c = n + 4 ∨ c = n + 2 ∨ c = n + 3 ∨ c = n ∨ c = n + 1 := by simpa using hc
  rcases hc2 with rfl | rfl | rfl | rfl | rfl
  · exact Nat.le_add_right _ _
  · exact Nat.le_add_right _ _
  · exact Nat.le_add_right _ _
  · exact Nat.le_refl _
  · exact Nat.le_add_right _ _
end DL

set_option Elab.async false
set_option linter.all false
set_option maxRecDepth 100000
set_option maxHeartbeats 4000000
/-! rows: lists or tuples -/
namespace DL
open PySem PySem.Spec PyProof.Rows L2
def SqA (K : PySem.W.Frag) (H : Hp) (a : Addr) (xs : List V) : Prop := SqL K H a xs ∨ SqT K H a xs
theorem SqA.mono {K : PySem.W.Frag} {H H' : Hp} {a : Addr} {xs : List V} (s : Same H H') (h : SqA K H a xs) : SqA K H' a xs := h.elim (fun z => .inl (s.seq z)) fun z => .inr (sqt_mono s z)
def rSeq (K : PySem.W.Frag) (l : List Rep) : Rep := ⟨fun F x => ∃ a vs, x = .ref a ∧ SqA K F a vs ∧ RL F l vs, fun s ⟨a, vs, e, h, q⟩ => ⟨a, vs, e, h.mono s, q.mono s⟩⟩
theorem sub_lseq {K : PySem.W.Frag} {l : List Rep} : Sub (rLst K l) (rSeq K l) := fun F v ⟨a, vs, e, h, q⟩ => ⟨a, vs, e, .inl h, q⟩
theorem sub_tseq {K : PySem.W.Frag} {l : List Rep} : Sub (rTup K l) (rSeq K l) := fun F v ⟨a, vs, e, h, q⟩ => ⟨a, vs, e, .inr h, q⟩
def SqB (t : Bool) (K : PySem.W.Frag) (H : Hp) (a : Addr) (xs : List V) : Prop := if t = true then SqT K H a xs else SqL K H a xs
theorem SqB.mono {t : Bool} {K : PySem.W.Frag} {H H' : Hp} {a : Addr} {xs : List V} (s : Same H H') (h : SqB t K H a xs) : SqB t K H' a xs := by
  cases t with
  | true => exact sqt_mono s h
  | false => exact s.seq (show SqL K H a xs from h)
theorem SqA.b {K : PySem.W.Frag} {H : Hp} {a : Addr} {xs : List V} (h : SqA K H a xs) : ∃ t, SqB t K H a xs := h.elim (fun z => ⟨false, z⟩) fun z => ⟨true, z⟩
section
variable {X : Cx} {pins : List (Addr × Obj)} {σ : L2.St} {H : Hp} {s : Shared} {a : Addr} {xs ys : List V} {t : Bool}
theorem inv_sq (I : Inv X pins σ H s) (h : SqB t X.K H a xs) : ∃ its : List Value, Vals xs its ∧ IsSq t s.heap a its.toArray ∧ a < s.heap.objs.size := by
  cases t with
  | false =>
    obtain ⟨its, r, p, _⟩ := I.list (show SqL X.K H a xs from h)
    exact ⟨its, r, p.isList, p.lt⟩
  | true =>
    obtain ⟨its, r, p, _⟩ := I.tuple (show SqT X.K H a xs from h)
    obtain ⟨o, e, _⟩ := id p
    exact ⟨its, r, p, Heap.lt_size e⟩
theorem sq_inj (I : Inv X pins σ H s) (h : SqB t X.K H a xs) (h2 : SqB t X.K H a ys) : xs = ys := by
  cases t with
  | false => exact I.list_inj h h2
  | true => exact I.tuple_inj h h2
end
/-! walked -/
def ItB (t : Bool) (K : PySem.W.Frag) (a : Addr) : It := if t = true then Itt K a else Itl K a
section
variable {X : Cx} {tg it : Expr}
theorem pi_seq {te : TE} (he : PE X it te) : PI X tg it (fun σ H R => te σ H fun v H1 => ∃ p vs t, v = .ref p ∧ SqB t X.K H1 p vs ∧ R (ItB t X.K p) H1) := by
  refine ⟨fun pins s σ H R I h => thn (he.run pins s σ H _ I h) fun v s1 ⟨x, H1, I1, r1, p, vs, t, e, hq, q⟩ => ?_⟩
  subst e
  cases r1
  have fresh : ∀ b ∈ [s1.heap.objs.size], FpOk X pins H1 b := fun b hb => by
    rw [List.mem_singleton.mp hb]
    exact I1.fpOk (Nat.le_refl _) (I1.hok.fresh (Nat.le_refl _))
  cases t with
  | false =>
    obtain ⟨its, rv, pl, hz⟩ := I1.list (show SqL X.K H1 p vs from hq)
    exact wpAny_pyIter_list pl.isList ⟨s1.heap.objs.size, [s1.heap.objs.size], _, _, H1, rfl, I1.kept (t' := s1.toks) fun b o e => Heap.get?_push_of_some _ e, turn_list p _, ⟨_, Heap.get?_push_size _ rfl, rfl, rfl⟩, fresh, q⟩
  | true =>
    obtain ⟨its, rv, pl, hz⟩ := I1.tuple (show SqT X.K H1 p vs from hq)
    exact wpAny_pyIter_tuple (show s1.heap.IsTuple p its.toArray from pl) ⟨s1.heap.objs.size, [s1.heap.objs.size], _, _, H1, rfl, I1.kept (t' := s1.toks) fun b o e => Heap.get?_push_of_some _ e, turn_tuple p _, ⟨_, Heap.get?_push_size _ rfl, rfl, rfl⟩, fresh, q⟩
/-! zip -/
def ItZ (t u : Bool) (K : PySem.W.Frag) (a b : Addr) : It :=
  ⟨fun i H => ∃ (xs ys : List V) (x y : V), SqB t K H a xs ∧ SqB u K H b ys ∧ xs[i]? = some x ∧ ys[i]? = some y,
    fun i H v H' => ∃ T x y, v = .ref T ∧ H T = none ∧ H' = upd H T (.tup [x, y]) ∧ (∀ xs, SqB t K H a xs → xs[i]? = some x) ∧ ∀ ys, SqB u K H b ys → ys[i]? = some y,
    fun i H => ∃ xs ys : List V, SqB t K H a xs ∧ SqB u K H b ys ∧ (xs.length ≤ i ∨ ys.length ≤ i)⟩
theorem turn_zx {P : Program} {w : World} {K : PySem.W.Frag} {elts : List Expr} {kk : Nat} {tpos : Pos} {t u : Bool} {a b z TI TO i1 i2 : Addr} (D : ZipApart z TI TO i1 i2 a b) :
    Turn P w K (.Tuple elts kk tpos) (ItZ t u K a b) [z, TI, TO, i1, i2] z (fun i h => IsZip h z TI TO .none ∧ IsPair h TI (.ref i1) (.ref i2) ∧ (∃ x y, IsPair h TO x y) ∧ IsSqI t h i1 a i ∧ IsSqI u h i2 b i) where
  mem := by simp
  obj := fun i h ⟨hz, hTI, ⟨x, y, hTO⟩, h1, h2⟩ c hc => by
    have e' : c = z ∨ c = TI ∨ c = TO ∨ c = i1 ∨ c = i2 := by simpa using hc
    rcases e' with q | q | q | q | q <;> subst q
    · exact ⟨_, hz, fun v q => nomatch q⟩
    · exact ⟨_, hTI, fun v q => nomatch q⟩
    · exact ⟨_, hTO, fun v q => nomatch q⟩
    · exact h1.ob
    · exact h2.ob
  keep := fun i h h' ⟨hz, hTI, ⟨x, y, hTO⟩, h1, h2⟩ k => ⟨k z (by simp) _ hz, k TI (by simp) _ hTI, ⟨x, y, k TO (by simp) _ hTO⟩, h1.keep fun o q => k i1 (by simp) o q, h2.keep fun o q => k i2 (by simp) o q⟩
  item := by
    intro X hP hw hK hc i pins s σ H E I hf st hg
    subst hP hw hK
    obtain ⟨hz, hTI, hTO, h1, h2⟩ := st
    obtain ⟨xs, ys, x, y, qx, qy, hx, hy⟩ := hg
    obtain ⟨its, rv, p, _⟩ := inv_sq I qx
    obtain ⟨its2, rv2, p2, _⟩ := inv_sq I qy
    obtain ⟨a1, hu, ra⟩ := rv.get hx
    obtain ⟨a2, hu2, rb⟩ := rv2.get hy
    have lz : z < s.heap.objs.size := Heap.lt_size hz
    refine zx_pyNext ⟨D, hz, hTI, hTO, h1, h2, p, p2⟩ (x := a1) (y := a2) (by simpa using hu) (by simpa using hu2) fun h' z' to' i' j' pn sz kp => ⟨_, rfl, wpAny_letOwnedTupleGo_zip (s := { s with heap := h' }) z' fun h2' z2' sb => ?_⟩
    have pn2 : IsPair h2' s.heap.objs.size a1 a2 := (sb.2 _ (Nat.ne_of_gt lz)).trans pn
    have new : ObjOk X.prog X.w (upd H s.heap.objs.size (.tup [x, y])) h2' s.heap.objs.size (.tup [x, y]) := ⟨by show 2 ≤ sizeLine; decide, [a1, a2], .cons ra (.cons rb .nil), ⟨_, pn2, rfl, _, rfl⟩⟩
    have no : ∀ {c : Addr}, c ∉ [z, TI, TO, i1, i2] → c ≠ z ∧ c ≠ TO ∧ c ≠ i1 ∧ c ≠ i2 := fun hc => by simp at hc; exact ⟨hc.1, hc.2.2.1, hc.2.2.2.1, hc.2.2.2.2⟩
    have I1 : Inv X pins σ (upd H s.heap.objs.size (.tup [x, y])) { s with heap := h2' } :=
      I.turnedNew (t' := s.toks) (ch := [z, TI, TO, i1, i2]) (fun c o hb q => by
        obtain ⟨c1, c2, c3, c4⟩ := no hb
        exact (sb.2 c c1).trans (kp c o c1 c2 c3 c4 q)) hf (Nat.le_refl _) new
    refine ⟨.ref s.heap.objs.size, _, I1, rfl, ⟨_, x, y, rfl, I.hok.fresh (Nat.le_refl _), rfl, fun l hl => by rw [sq_inj I hl qx]; exact hx, fun l hl => by rw [sq_inj I hl qy]; exact hy⟩, ⟨z2', ?_, ⟨a1, a2, ?_⟩, ?_, ?_⟩, fun c hc => ?_⟩
    · exact (sb.2 _ D.TIz).trans (kp _ _ D.TIz D.TITO D.TIi1 D.TIi2 hTI)
    · exact (sb.2 _ D.TOz).trans to'
    · exact i'.keep fun o q => (sb.2 _ D.i1z).trans q
    · exact j'.keep fun o q => (sb.2 _ D.i2z).trans q
    · have lc : c < s.heap.objs.size := by
        have e' : c = z ∨ c = TI ∨ c = TO ∨ c = i1 ∨ c = i2 := by simpa using hc
        obtain ⟨x0, y0, hTO⟩ := hTO
        rcases e' with q | q | q | q | q <;> subst q
        · exact lz
        · exact Heap.lt_size hTI
        · exact Heap.lt_size hTO
        · obtain ⟨_, e1, _⟩ := h1.ob; exact Heap.lt_size e1
        · obtain ⟨_, e2, _⟩ := h2.ob; exact Heap.lt_size e2
      rw [upd_ne (Nat.ne_of_lt lc)]
      exact (hf c hc).1
  done := by
    intro X hP hw hK hc i pins s σ H E I hf st hg
    subst hP hw hK
    obtain ⟨hz, hTI, hTO, h1, h2⟩ := st
    obtain ⟨xs, ys, qx, qy, hend⟩ := hg
    obtain ⟨its, rv, p, _⟩ := inv_sq I qx
    obtain ⟨its2, rv2, p2, _⟩ := inv_sq I qy
    have l1 := rv.length
    have l2 := rv2.length
    have he : its.toArray[i]? = none ∨ its2.toArray[i]? = none := hend.elim (fun q => .inl (by simp; omega)) fun q => .inr (by simp; omega)
    refine zx_pyStop (I.ok.hd hc) ⟨D, hz, hTI, hTO, h1, h2, p, p2⟩ he fun h' kp => ⟨rfl, I.turnedL (t' := s.toks) (ch := [z, TI, TO, i1, i2]) (fun c o hb q => ?_) hf⟩
    simp at hb
    exact kp c o hb.1 hb.2.2.1 hb.2.2.2.1 hb.2.2.2.2 q
  self := fun A i s Q E st h => wpAny_pyIter_zip st.1 h
theorem pi_zx {e e2 : Expr} {ta : TA} {p pos tpos : Pos} {elts : List Expr} {kk : Nat} (hg : Gl X "zip") (hm : X.mg "zip" = none) (ha : PA X [e, e2] ta)
    (hs : starEach [e, e2] X.env = (false, eval e X.env) :: starEach [e2] X.env := by rfl) (hpl : (backTo pos (starEach [e2] X.env)).any (·.1) = false := by rfl) :
    PI X (.Tuple elts kk tpos) (.Call (.Name "zip" p) [e, e2] [] pos) (fun σ H R => ta σ H fun vs H1 => ∃ a b xs ys t u, vs = [.ref a, .ref b] ∧ SqB t X.K H1 a xs ∧ SqB u X.K H1 b ys ∧ R (ItZ t u X.K a b) H1) := by
  refine ⟨fun pins s σ H R I h => Call_ (ld_blt I hg hm PyProof.Rows.boot_zip (PyProof.Rows.callWith_type1 (thn (ha.run pos pins s σ H _ I h) fun us s1 ⟨vs, H1, I1, r1, a, b, xs, ys, t, u, ex, qx, qy, q⟩ => ?_) hs hpl))⟩
  subst ex
  cases r1 with
  | cons ra rr =>
    cases rr with
    | cons rb rr =>
    cases rr
    cases ra
    cases rb
    obtain ⟨its, rv, p1, l1⟩ := inv_sq I1 qx
    obtain ⟨its2, rv2, p2, l2⟩ := inv_sq I1 qy
    refine zx_made p1 p2 l1 l2 fun h' z TI TO i j hi Z kp => wpAny_pyIter_zip Z.z ?_
    exact ⟨z, [z, TI, TO, i, j], _, _, H1, rfl, I1.kept (t' := s1.toks) kp, turn_zx Z.D, ⟨Z.z, Z.ti, Z.to, Z.i, Z.j⟩, fun c hc => I1.fpOk (hi c hc) (I1.hok.fresh (hi c hc)), q⟩
end
section
variable {X : Cx} {N : List Str} {sc : Scope} {k j : Nat} {Γ Γ' Γ1 : List Sl} {tg it it2 a b c e : Expr} {es rest : List Expr} {r ra rb rc r' : Rep} {rs l l2 : List Rep} {pos p : Pos} {x : Str} {i : Nat} {ws ws' : List Nat}
theorem sr_seq (h : DE X Γ it (rSeq X.K l)) : SR X Γ tg it l.length (fun i => l.getD i rNon) := fun F0 H0 F H σ en R q =>
  .of (pi_seq pe_ev) (h F0 H0 F H σ en _ fun v F1 H1 g hv => by
    obtain ⟨p, vs, rfl, hs, hl⟩ := hv
    obtain ⟨t, hs⟩ := hs.b
    refine ⟨p, vs, t, rfl, hs.mono g.s, q _ F1 H1 g ?_⟩
    have got : ∀ {i : Nat} {x : V} {F2 : Hp}, Same F1 F2 → vs[i]? = some x → (l.getD i rNon).P F2 x := fun {i x F2} s hx => by
      obtain ⟨r, e, hr⟩ := hl.got hx
      rw [List.getD_eq_getElem?_getD, e]
      exact r.mono s hr
    cases t with
    | false =>
      have hs : SqL X.K F1 p vs := hs
      exact ⟨fun i H2 s hi => ⟨vs, s.seq hs, by rw [← hl.len]; exact hi⟩, fun i H2 s hi => ⟨vs, vs[i]'(hl.len ▸ hi), s.seq hs, List.getElem?_eq_getElem _⟩, fun i F2 H2 x H' s s2 hi hy => by
        obtain ⟨rfl, hx⟩ := hy
        exact ⟨F2, .refl s2, got s (hx vs (s2.seq (s.seq hs)))⟩⟩
    | true =>
      have hs : SqT X.K F1 p vs := hs
      exact ⟨fun i H2 s hi => ⟨vs, sqt_mono s hs, by rw [← hl.len]; exact hi⟩, fun i H2 s hi => ⟨vs, vs[i]'(hl.len ▸ hi), sqt_mono s hs, List.getElem?_eq_getElem _⟩, fun i F2 H2 x H' s s2 hi hy => by
        obtain ⟨rfl, hx⟩ := hy
        exact ⟨F2, .refl s2, got s (hx vs (sqt_mono s2 (sqt_mono s hs)))⟩⟩)
theorem sr_zipS {jj : Nat} {tpos : Pos} (B : BX X N sc k) (hm : X.mg "zip" = none) (h : DE X Γ it (rSeq X.K l)) (h2 : DE X Γ it2 (rSeq X.K l2)) (hg : sc.names.lookup ("zip" : Str) = some NameKind.globalImplicit)
    (hs : starEach [it, it2] X.env = (false, eval it X.env) :: starEach [it2] X.env := by rfl) (hs2 : starEach [it2] X.env = (false, eval it2 X.env) :: starEach [] X.env := by rfl) (hpl : (backTo pos (starEach [it2] X.env)).any (·.1) = false := by rfl) :
    SR X Γ (.Tuple es jj tpos) (.Call (.Name "zip" p) [it, it2] [] pos) (min l.length l2.length) (fun i => rTup X.K [l.getD i rNon, l2.getD i rNon]) := fun F0 H0 F H σ en R q => by
  have hgl : Gl X "zip" := by
    show X.env.scope.names.lookup _ = _
    rw [B.hsc]
    exact hg
  refine .of (pi_zx hgl hm (pa_cons pe_ev (pa_cons pe_ev pa_nil hs2) hs) hs hpl) (h F0 H0 F H σ en _ fun v F1 H1 g hv => h2 F0 H0 F1 H1 σ (en.grow g) _ fun v2 F3 H3 g3 hv2 => ?_)
  obtain ⟨p, vs, rfl, hsq, hl⟩ := hv
  obtain ⟨p2, vs2, rfl, hsq2, hl2⟩ := hv2
  obtain ⟨t, hsq⟩ := (hsq.mono g3.f).b
  obtain ⟨u, hsq2⟩ := hsq2.b
  have hl := hl.mono g3.f
  refine ⟨p, p2, vs, vs2, t, u, rfl, hsq.mono g3.s, hsq2.mono g3.s, q _ F3 H3 (g.trans g3) ⟨fun i H2 s hi => ⟨vs, vs2, hsq.mono s, hsq2.mono s, ?_⟩, fun i H2 s hi => ?_, fun i F2 H2 x H' s s2 hi hy => ?_⟩⟩
  · rw [← hl.len, ← hl2.len]
    omega
  · have h3 := hl.len
    have h4 := hl2.len
    exact ⟨vs, vs2, vs[i]'(by omega), vs2[i]'(by omega), hsq.mono s, hsq2.mono s, List.getElem?_eq_getElem _, List.getElem?_eq_getElem _⟩
  · obtain ⟨T, y, z, rfl, nT, rfl, f1, f2⟩ := hy
    obtain ⟨r1, e1, k1⟩ := hl.got (f1 vs ((hsq.mono s).mono s2))
    obtain ⟨r2, e2, k2⟩ := hl2.got (f2 vs2 ((hsq2.mono s).mono s2))
    refine ⟨_, .new s2 nT, T, [y, z], rfl, SqT.of upd_same, ?_⟩
    have sn : Same F2 (upd F2 T (.tup [y, z])) := same_new (s2.free nT)
    rw [List.getD_eq_getElem?_getD, List.getD_eq_getElem?_getD, e1, e2]
    exact .cons (r1.mono (s.trans sn) k1) (.cons (r2.mono (s.trans sn) k2) .nil)
theorem de_ixA {n : Int} (h : atI l n = some r) (ha : DE X Γ a (rSeq X.K l)) (hb : DE X Γ b (rInt n)) (hs : PlainIx b := by exact fun _ _ => rfl) : DE X Γ (.Subscript a b pos) r :=
  de_ixr ix_seq (fun F H x y s h1 h2 Q q => by
    obtain ⟨p, vs, rfl, k1, k2⟩ := h1
    cases h2
    obtain ⟨v, k3, k4⟩ := k2.atI h
    rcases k1 with k1 | k1
    · exact .inl ⟨p, vs, n, v, rfl, rfl, s.seq k1, k3, q v F H (.refl s) k4⟩
    · exact .inr (.inl ⟨p, vs, n, v, rfl, rfl, sqt_mono s k1, k3, q v F H (.refl s) k4⟩)) ha hb hs
theorem de_lenA (B : BX X N sc k) (hm : X.mg "len" = none) (h : DE X Γ e (rSeq X.K l)) (hg : sc.names.lookup ("len" : Str) = some NameKind.globalImplicit) (he : starEach (e :: []) X.env = (false, eval e X.env) :: starEach [] X.env := by rfl) : DE X Γ (.Call (.Name "len" p) [e] [] pos) (rInt l.length) :=
  de_blt B call_len_seq (fun F H vs s h Q q => by
    obtain ⟨v, rfl, p, ys, rfl, k1, k2⟩ := rl1 h
    exact ⟨p, ys, rfl, SqA.mono s k1, q _ F H (.refl s) (by rw [k2.len]; rfl)⟩) hm PySem.boot_len (da_cons h da_nil he) hg (he := he)
theorem dl_listA (B : BX X N sc k) (hm : X.mg "list" = none) (h : DE X Γ e (rSeq X.K l)) (hg : sc.names.lookup ("list" : Str) = some NameKind.globalImplicit) (he : starEach (e :: []) X.env = (false, eval e X.env) :: starEach [] X.env := by rfl) : DL X Γ (.Call (.Name "list" p) [e] [] pos) l := fun F0 H0 F H σ en Q q => by
  have hgl : Gl X "list" := by
    show X.env.scope.names.lookup _ = _
    rw [B.hsc]
    exact hg
  refine .of (pe_callTy call_list_of hgl hm (by decide +kernel) (pa_cons pe_ev pa_nil he) (he := he)) (h F0 H0 F H σ en _ fun v F1 H1 g hv => ?_)
  obtain ⟨p, vs, rfl, k1, k2⟩ := hv
  exact ⟨p, vs, rfl, SqA.mono g.s k1, fun q' hq => q q' vs F1 _ (g.trans (.newOwn g.s hq)) (g.h.free hq) (g.s.free hq) upd_same k2⟩
end
end DL

set_option Elab.async false
set_option linter.all false
set_option maxRecDepth 100000
set_option maxHeartbeats 4000000
/-! objects of the program's own classes: read, made -/
namespace DL
open PySem PySem.Spec PyProof.Rows L2
/-- an object that stands still: its class, its fields -/
def rIns (K : PySem.W.Frag) (C : Addr) (fs : List (Str × Rep)) : Rep := ⟨fun F x => ∃ a dx vs, x = .ref a ∧ F a = some (.ins C dx ((fs.map Prod.fst).zip vs)) ∧ RL F (fs.map Prod.snd) vs, fun s ⟨a, dx, vs, e, h, q⟩ => ⟨a, dx, vs, e, s _ _ h, q.mono s⟩⟩
/-- what is known of such a class -/
structure OCls (K : PySem.W.Frag) (C : Addr) (fs : List Str) : Prop where
  cl : Cls K C
  na : ∀ f ∈ fs, NoAttr K C f
theorem rl_lookup {F : Hp} : ∀ {fs : List (Str × Rep)} {vs : List V} {f : Str} {r : Rep}, RL F (fs.map Prod.snd) vs → fs.lookup f = some r → ∃ v, ((fs.map Prod.fst).zip vs).lookup f = some v ∧ r.P F v
  | [], _, _, _, _, h => by cases h
  | (g, r0) :: fs, v :: vs, f, r, .cons h t, e => by
    rw [List.lookup_cons] at e
    show ∃ w, List.lookup f ((g, v) :: (fs.map Prod.fst).zip vs) = some w ∧ _
    rw [List.lookup_cons]
    cases hb : f == g with
    | true => rw [hb] at e; cases e; exact ⟨v, rfl, h⟩
    | false => rw [hb] at e; exact rl_lookup t e
section
variable {X : Cx} {N : List Str} {sc : Scope} {k j : Nat} {Γ : List Sl} {a b c e : Expr} {es rest : List Expr} {r ra rb rc r' : Rep} {rs l : List Rep} {pos p pos' : Pos} {x : Str} {i : Nat} {C : Addr} {f : Str} {fs : List (Str × Rep)} {fn : List Str}
theorem de_fld (O : OCls X.K C fn) (h : DE X Γ e (rIns X.K C fs)) (hf : fs.lookup f = some r) (hn : f ∈ fn := by decide) (hb : attributeBase e f X.env (eval e X.env) = eval e X.env := by rfl) : DE X Γ (.Attribute e f pos) r := fun F0 H0 F H σ en Q q =>
  .of (pe_fld pe_ev hb) (h F0 H0 F H σ en _ fun v F1 H1 g hv => by
    obtain ⟨a, dx, vs, rfl, h1, h2⟩ := hv
    obtain ⟨w, e1, e2⟩ := rl_lookup h2 hf
    exact ⟨a, C, dx, _, w, rfl, g.s _ _ h1, O.cl, O.na f hn, e1, q w F1 H1 g e2⟩)
end
/-! ### making one -/
/-- what an __init__ promises: its fields in their order, or an error -/
inductive OutI where
  | ok (rs : List Rep)
  | err (C : Addr)
  | errF (C : Addr) (fs : List (Str × V))
def PrI (F H : Hp) (p C dx : Addr) (ns : List Str) : OutI → VK → XK → Prop
  | .ok rs, Q, _ => ∀ F' H' vs, Gr F H F' H' → F' p = none → H' p = some (.ins C dx (ns.zip vs)) → RL F' rs vs → Q .non H'
  | .err D, _, E => ∀ H', Same H H' → E (.ref D) none H'
  | .errF D fs, _, E => ∀ H' d, Same H H' → H d = none → H' d = some (.xd fs) → E (.ref D) (some d) H'
def PmI {ι : Type} (C : Addr) (pre : ι → Prop) (args : ι → List Rep) (ns : List Str) (out : ι → OutI) : Sp := fun vs H Q E => ∃ (x : ι) (F H0 : Hp) (p dx : Addr) (vs' : List V), vs = .ref p :: vs' ∧ pre x ∧ Same F H0 ∧ H0 p = none ∧ H0 dx = none ∧ dx ≠ p ∧ H = upd (upd H0 dx (.own p)) p (.ins C dx []) ∧ RL F (args x) vs' ∧ PrI F H0 p C dx ns (out x) Q E
/-- a class whose objects may be made by its name -/
structure CalI (P : Program) (w : World) (K : PySem.W.Frag) (mg : Str → Option Value) (base : Heap) (k : Nat) (x : Str) (C : Addr) (sp : Sp) : Prop where
  ex : ∃ (f : Addr) (fd : FuncData) (ps : List Str), FnOk P w K mg base (L2.CX P w) k f fd ps sp ∧ Mk K C f ∧ mg x = some (.ref C) ∧ Binds K fd ps []
section
variable {X : Cx} {N : List Str} {sc : Scope} {k j : Nat} {Γ : List Sl} {a b c e : Expr} {es rest : List Expr} {r ra rb rc r' : Rep} {rs l : List Rep} {pos p pos' : Pos} {x : Str} {i : Nat} {C D0 : Addr} {f : Str} {W : WX} {ns : List Str}
variable {ι : Type} {pre : ι → Prop} {args : ι → List Rep} {out : ι → OutI}
/-- an object just made stands still -/
theorem gr_made {F1 H1 F' H' : Hp} {p dx : Addr} {fs : List (Str × V)} (np : H1 p = none) (g : Gr F1 H1 F' H') (nf : F' p = none) (hp : H' p = some (.ins C dx fs)) : Gr F1 H1 (upd F' p (.ins C dx fs)) H' :=
  ⟨g.f.trans (same_new nf), g.h, fun b o z => by
    by_cases hb : b = p
    · subst hb
      rw [upd_same] at z
      rw [hp, ← z]
    · rw [upd_ne hb] at z
      exact g.s b o z, fun a ha z => by
    have : a ≠ p := fun y => ha (y ▸ np)
    rw [upd_ne this]
    exact g.n a ha z⟩
theorem de_make (okr : ι → List Rep) (B : BX X N sc k) (G : CalI X.prog X.w X.K X.mg X.base j x C (PmI C pre args ns out)) (hk : j + 1 ≤ k) (g : ι) (hp : pre g) (ho : out g = .ok (okr g)) (hl : ns.length = (okr g).length) (ha : DA X Γ (e :: es) (args g)) (hg : sc.names.lookup x = some .globalImplicit)
    (hdb : (x == ("__debug__" : Str)) = false := by decide) (he : starEach (e :: es) X.env = (false, eval e X.env) :: starEach es X.env := by rfl) (hpl : (backTo pos (starEach es X.env)).any (·.1) = false := by rfl) :
    DE X Γ (.Call (.Name x p) (e :: es) [] pos) (rIns X.K C (ns.zip (okr g))) := fun F0 H0 F H σ en Q q => by
  obtain ⟨f, fd, ps, G, M, hm, hb⟩ := G.ex
  have hgl : Gl X x := by
    show X.env.scope.names.lookup x = _
    rw [B.hsc]
    exact hg
  refine .of (pe_make (E := E0) M G (B.room.mono hk) hgl hm hb .nil passL pa_ev hdb he hpl) ?_
  refine ha F0 H0 F H σ en _ fun vs F1 H1 g1 h1 => fun p dx np ndx hne => ?_
  rw [List.append_nil]
  refine ⟨g, F1, H1, p, dx, vs, rfl, hp, g1.s, np, ndx, hne, rfl, h1, ?_⟩
  rw [ho]
  refine fun F' H' ws g2 nf hp' hr => ⟨rfl, ?_⟩
  have g3 := gr_made np g2 nf hp'
  have n1 : ((ns.zip (okr g)).map Prod.fst) = ns := List.map_fst_zip (by omega)
  have n2 : ((ns.zip (okr g)).map Prod.snd) = okr g := List.map_snd_zip (by omega)
  exact q _ _ _ (g1.trans g3) ⟨p, dx, ws, rfl, by rw [n1]; exact upd_same, by rw [n2]; exact hr.mono (same_new nf)⟩
theorem run_makeS {CX : CXT} {fa : Addr} {fd : FuncData} {ps : List Str} {sp : Sp} {E : L2.St → XK} {pins : List (Addr × Obj)} {σ : L2.St} {H : Hp} {s : Shared} {Q : VK} {us : List Value} {vs : List V} (M : Mk X.K C fa) (G : FnOk X.prog X.w X.K X.mg X.base CX j fa fd ps sp) (hr : Room (j + 1) X.A) (hb : Binds X.K fd ps []) (hx : PassesAt CX X σ (E σ)) (I : Inv X pins σ H s) (rv : Vals vs us)
    (h : ∀ y dx, H y = none → H dx = none → dx ≠ y → sp (.ref y :: vs) (upd (upd H dx (.own y)) y (.ins C dx [])) (fun v H2 => v = .non ∧ Q (.ref y) H2) (E σ)) : wpAny (model X.prog X.w) X.A (call (.ref C) us) (EP X pins σ Q) X.xe s := by
  generalize hn : s.heap.objs.size = n at h
  have q := h (n + 1) n (I.hok.fresh (by rw [hn]; exact Nat.le_succ _)) (I.hok.fresh (Nat.le_of_eq hn)) (Nat.ne_of_lt (Nat.lt_succ_self _))
  have J := Inv.made (C := C) I
  rw [hn] at J
  have rv2 : Vals (V.ref (n + 1) :: vs) (Value.ref (n + 1) :: us) := .cons rfl rv
  have len : (Value.ref (n + 1) :: us ++ []).length = ps.length := by
    rw [List.append_nil, ← rv2.length]
    exact G.len _ _ _ _ q
  have bd := hb _ (Value.ref (n + 1) :: us) J.kIn len
  rw [List.append_nil] at bd
  refine wpAny_call (make_map (f := fa) I.kIn M.makes M.init (beq_iff_eq.mp M.fn) ?_)
  rw [hn]
  refine codeAny_mono (G.run _ X.stack _ _ ⟨Value.ref (n + 1) :: us, []⟩ (Value.ref (n + 1) :: us) _ _ (E σ) (hr.make C us []) (J.env0.make C us []) bd rv2 q) fun r s' hq => ?_
  match r, hq with
  | .error ev, hq => exact hx pins _ _ ev s' J hq
  | .ok .next, hq => exact hq.elim
  | .ok .brk, hq => exact hq.elim
  | .ok .cont, hq => exact hq.elim
  | .ok (.ret u), hq =>
    obtain ⟨v, H', J2, ru, ev, q3⟩ := J.after hq
    subst ev
    exact ⟨ru, ⟨V.ref (n + 1), H', J2, rfl, q3⟩⟩
theorem pe_makeS {CX : CXT} {fa : Addr} {fd : FuncData} {ps : List Str} {sp : Sp} {E : L2.St → XK} {t : TA} (M : Mk X.K C fa) (G : FnOk X.prog X.w X.K X.mg X.base CX j fa fd ps sp) (hr : Room (j + 1) X.A) (hg : Gl X x) (hm : X.mg x = some (.ref C)) (hb : Binds X.K fd ps []) (hx : ∀ σ, PassesAt CX X σ (E σ))
    (ha : PA X (e :: es) t) (hdb : (x == ("__debug__" : Str)) = false := by decide) (he : starEach (e :: es) X.env = (false, eval e X.env) :: starEach es X.env := by rfl) (hpl : (backTo pos (starEach es X.env)).any (·.1) = false := by rfl) :
    PE X (.Call (.Name x p) (e :: es) [] pos) (fun σ H Q => t σ H fun vs H1 => ∀ y dx, H1 y = none → H1 dx = none → dx ≠ y → sp (.ref y :: vs) (upd (upd H1 dx (.own y)) y (.ins C dx [])) (fun v H2 => v = .non ∧ Q (.ref y) H2) (E σ)) := by
  refine ⟨fun pins s σ H Q I h => wpAny_Call_Name_kw (ld_glob I hg hm ?_ hdb)⟩
  exact PySem.W.callWith_K (h₀ := X.base) I.ok.mod.kin M.kp (thn (ha.run pos pins s σ H _ I h) fun us s1 ⟨vs, H1, I1, r, q⟩ => ⟨I1.kIn, run_makeS M G hr hb (hx σ) I1 r q⟩) he hpl
theorem ex_make (B : BX X N sc k) (tk : Takes X W) (G : CalI X.prog X.w X.K X.mg X.base j x C (PmI C pre args ns out)) (hk : j + 1 ≤ k) (g : ι) (hp : pre g) (ho : out g = .err D0) (ha : DA X Γ (e :: es) (args g)) (hg : sc.names.lookup x = some .globalImplicit)
    (hdb : (x == ("__debug__" : Str)) = false := by decide) (he : starEach (e :: es) X.env = (false, eval e X.env) :: starEach es X.env := by rfl) (hpl : (backTo pos (starEach es X.env)).any (·.1) = false := by rfl) :
    EX X Γ (.Call (.Name x p) (e :: es) [] pos) D0 W := fun F0 H0 F H σ en w Q => by
  obtain ⟨f, fd, ps, G, M, hm, hb⟩ := G.ex
  have hgl : Gl X x := by
    show X.env.scope.names.lookup x = _
    rw [B.hsc]
    exact hg
  refine .of (pe_makeS (E := WE W) M G (B.room.mono hk) hgl hm hb (fun σ => passAt tk σ) pa_ev hdb he hpl) ?_
  refine ha F0 H0 F H σ en _ fun vs F1 H1 g1 h1 => fun p dx np ndx hne => ?_
  refine ⟨g, F1, H1, p, dx, vs, rfl, hp, g1.s, np, ndx, hne, rfl, h1, ?_⟩
  rw [ho]
  exact fun H' s => w H' (g1.h.trans s)
end
/-! ### its body -/
section
variable {X : Cx} {N : List Str} {sc : Scope} {k : Nat} {Γ : List Sl} {e : Expr} {r : Rep} {pos p pos' : Pos} {x : Str} {i : Nat} {C pa dx : Addr} {f : Str} {F0 H0 : Hp} {st : List Stmt} {D : Ends} {fn ns : List Str} {rs : List Rep}
/-- the fields that stand so far -/
def FI (X : Cx) (F0 H0 : Hp) (pa C dx : Addr) (ns : List Str) (rs : List Rep) (st : List Stmt) (D : Ends) (Γ : List Sl) : Prop := ∀ F H σ vs, En F0 H0 F H σ Γ → F pa = none → H pa = some (.ins C dx (ns.zip vs)) → RL F rs vs → XS X st D σ H
theorem En.updOb {F H : Hp} {σ : L2.St} (en : En F0 H0 F H σ Γ) (n0 : H0 pa = none) (nF : F pa = none) {o o' : HO} (hp : H pa = some o) (no : ∀ l, o ≠ .lst l) : En F0 H0 F (upd H pa o') σ Γ where
  gr := ⟨en.gr.f, fun b u z => by rw [upd_ne (ne_of_none z n0)]; exact en.gr.h b u z, same_out en.gr.s nF, en.gr.n⟩
  len := en.len
  ok i s y h1 h2 := by
    have q := en.ok i s y h1 h2
    cases s with
    | any => trivial
    | im r => exact q
    | ow l =>
      obtain ⟨p2, ws, a, b, c, d⟩ := q
      refine ⟨p2, ws, a, b, ?_, d⟩
      have : p2 ≠ pa := fun z => by
        rw [z, hp] at c
        exact no _ (Option.some.inj c)
      rw [upd_ne this]
      exact c
  own := en.own
  sep := en.sep
theorem putF_snoc {f : Str} {v : V} : ∀ {ns : List Str} {vs : List V}, ns.length = vs.length → f ∉ ns → putF f v (ns.zip vs) = (ns ++ [f]).zip (vs ++ [v])
  | [], [], _, _ => rfl
  | g :: ns, y :: vs, h, hn => by
    have h1 : ¬ g = f := fun z => hn (z ▸ List.mem_cons_self ..)
    show (if g = f then (g, v) :: ns.zip vs else (g, y) :: putF f v (ns.zip vs)) = _
    rw [if_neg h1, putF_snoc (by simpa using h) (fun z => hn (List.mem_cons_of_mem _ z))]
    rfl
theorem fi_set (B : BX X N sc k) (O : OCls X.K C fn) (n0 : H0 pa = none) (hl : ns.length = rs.length) (he : DE X Γ e r) (hΓ : Γ[i]? = some (.im (rC (.ref pa)))) (hN : N[i]? = some x) (hv : Vis sc x) (h : FI X F0 H0 pa C dx (ns ++ [f]) (rs ++ [r]) st D Γ) (hf : f ∈ fn := by decide) (hfn : f ∉ ns := by decide) (h10 : ns.length < 1000 := by decide)
    (hd : (x == ("__debug__" : Str)) = false := by decide) (hcd : (x == ("__classdict__" : Str)) = false := by decide) (hs : swapsWith e (some (.Attribute (.Name x p) f pos')) pos.line X.env = pure false := by rfl) :
    FI X F0 H0 pa C dx ns rs (.Assign [.Attribute (.Name x p) f pos'] e pos :: st) D Γ := fun F H σ vs en nF hp hr => by
  refine .of (pss_cons (ps_fld (pe_var (i := i) (B.hN ▸ hN) (B.hsc ▸ hv) hd hcd) pe_ev hs) pss_ev) ?_
  refine he F0 H0 F H σ en _ fun v F1 H1 g hv1 => ?_
  have en1 := en.grow g
  obtain ⟨u, h1, h2⟩ := en1.im hΓ
  cases h2
  have hp1 := g.h _ _ hp
  have nF1 : F1 pa = none := g.n pa (by rw [hp]; exact nofun) nF
  have ll : ns.length = vs.length := hl.trans hr.len
  refine ⟨_, h1, pa, C, dx, _, rfl, hp1, O.cl, O.na f hf, by rw [List.length_zip]; omega, ?_⟩
  refine h F1 _ σ (vs ++ [v]) (en1.updOb n0 nF1 hp1 (fun _ => nofun)) nF1 (by rw [upd_same, putF_snoc ll hfn]) ((hr.mono g.f).snoc hv1)
theorem fi_end (h : ∀ F H σ vs, Gr F0 H0 F H → F pa = none → H pa = some (.ins C dx (ns.zip vs)) → RL F rs vs → D.nx σ H) : FI X F0 H0 pa C dx ns rs [] D Γ := fun F H σ vs en nF hp hr => .of pss_nil (h F H σ vs en.gr nF hp hr)
/-- from here on the fields are stored -/
theorem go_fields {H1 : Hp} (n0 : H0 pa = none) (nd : H0 dx = none) (nF : F0 pa = none) (e1 : H1 = upd (upd H0 dx (.own pa)) pa (.ins C dx [])) (hne : dx ≠ pa) (h : FI X F0 H0 pa C dx [] [] st D Γ) : GO X F0 H1 st D Γ := fun F H σ en => by
  have a1 : H1 pa = some (.ins C dx []) := by rw [e1]; exact upd_same
  have up : Same H0 H1 := by
    rw [e1]
    exact (same_new nd).trans (same_new (by rw [upd_ne (Ne.symm hne)]; exact n0))
  have low : ∀ {q : Addr}, H1 q = none → H0 q = none := fun {q} z => up.free z
  refine h F H σ [] ⟨⟨en.gr.f, up.trans en.gr.h, en.gr.s, fun a ha z => en.gr.n a (fun y => ha (low y)) z⟩, en.len, en.ok, fun i q l x1 x2 => low (en.own i q l x1 x2), en.sep⟩ (en.gr.n pa (by rw [a1]; exact nofun) nF) (en.gr.h _ _ a1) .nil
end
section
variable {P : Program} {w : World} {K : PySem.W.Frag} {mg : Str → Option Value} {base : Heap} {k : Nat} {x q : Str} {st : Stmt} {N ps ns : List Str} {C : Addr} {ι : Type} {pre : ι → Prop} {args : ι → List Rep} {out : ι → OutI}
/-- the class's facts and its __init__ -/
structure TI (K : PySem.W.Frag) (mg : Str → Option Value) (x q : Str) (C : Addr) (st : Stmt) (fn : List Str) : Prop where
  ex : ∃ f fd, Fun K "__init__" q st f fd ∧ Mk K C f
  g : mg x = some (.ref C)
  o : OCls K C fn
theorem PrI.er {F H : Hp} {p C dx D0 : Addr} {ns : List Str} {Q : VK} {E : XK} {o : OutI} (h : PrI F H p C dx ns o Q E) (e : o = .err D0) : ∀ H', Same H H' → E (.ref D0) none H' := by subst e; exact h
theorem PrI.ok {F H : Hp} {p C dx : Addr} {ns : List Str} {rs : List Rep} {Q : VK} {E : XK} {o : OutI} (h : PrI F H p C dx ns o Q E) (e : o = .ok rs) : ∀ F' H' vs, Gr F H F' H' → F' p = none → H' p = some (.ins C dx (ns.zip vs)) → RL F' rs vs → Q .non H' := by subst e; exact h
theorem cal_okI {fn : List Str} (T : TI K mg x q C st fn) (S : FnScope N ps (defScope st)) (hn : ∀ g, (args g).length + 1 = ps.length)
    (hb : ∀ (kV doc pm : Value) (an : Option Addr) (cdv ct : Value) (us : List Value), us.length = ps.length → bindArgs (PySem.W.fnOf "__init__" q (defArgs st) (defBody st) (defScope st) .none kV doc pm an cdv ct) ⟨us, []⟩ = pure (ps.zip us))
    (body : ∀ (X : Cx), X.prog = P → X.w = w → X.K = K → X.mg = mg → X.base = base → BX X N (defScope st) k → (∀ x : Str, X.fn x = true) → ∀ (g : ι) (F0 H0 H1 : Hp) (pa dx : Addr) (Q : VK) (E : XK), Takes X (fun cls d _ H => E cls d H) → pre g → F0 pa = none → H0 pa = none → H0 dx = none → dx ≠ pa → H1 = upd (upd H0 dx (.own pa)) pa (.ins C dx []) → Same H0 H1 → PrI F0 H0 pa C dx ns (out g) Q E →
      GO X F0 H1 (defBody st) { nx := fun _ H' => Q .non H', rt := Q } (.im (rC (.ref pa)) :: ((args g).map Sl.im ++ List.replicate (N.length - ps.length) .any))) : CalI P w K mg base (k + 1) x C (PmI C pre args ns out) := by
  obtain ⟨f, fd, F, M⟩ := T.ex
  refine ⟨f, fd, ps, ?_, M, T.g, F.binds hb⟩
  refine F.okX S (fun vs H Q E h => ?_) (fun cdv A outer s H vs Q E hr h => ?_)
  · obtain ⟨g, F1, H0, p, dx, vs', rfl, _, _, _, _, _, _, h1, _⟩ := h
    rw [List.length_cons, ← h1.len, hn]
  · obtain ⟨g, F1, H0, p, dx, vs', rfl, hp, hs, np, nd, hne, rfl, h1, q⟩ := h
    refine ⟨_, pss_ev, ?_⟩
    have hpl : ps.length ≤ N.length := by have := congrArg List.length S.pre; rw [List.length_take] at this; omega
    have up : Same H0 (upd (upd H0 dx (.own p)) p (.ins C dx [])) := (same_new nd).trans (same_new (by rw [upd_ne (Ne.symm hne)]; exact np))
    have en := en_start (N := N) (rs := rC (.ref p) :: args g) (vs := .ref p :: vs') (hs.trans up) (.cons rfl h1) (by rw [List.length_cons, hn]; exact hpl)
    rw [List.length_cons, hn, List.map_cons, List.cons_append] at en
    exact body _ rfl rfl rfl rfl rfl ⟨rfl, rfl, S.nd, hr, rfl, passes_of rfl⟩ (fun _ => rfl) g F1 H0 _ p dx Q E (takes_of rfl rfl rfl rfl) hp (hs.free np) np nd hne rfl up q F1 _ _ en
end
end DL

set_option Elab.async false
set_option linter.all false
set_option maxRecDepth 100000
set_option maxHeartbeats 4000000
/-! chains of comparisons, signs of texts, tuples of lists, what may be None -/
namespace DL
open PySem PySem.Spec PyProof.Rows L2
section
variable {X : Cx} {N : List Str} {sc : Scope} {k j : Nat} {Γ : List Sl} {a b c e tg it : Expr} {es rest : List Expr} {r ra rb rc r' r1 : Rep} {rs l l2 l3 : List Rep} {pos p p2 : Pos} {x : Str} {i : Nat} {u t : Bool} {F0 H0 : Hp} {st body : List Stmt} {D : Ends}
theorem dt_chain {o o' : CmpOp} {q q' : R2} (ho : OpR X (compareOp o) q) (h2 : B2 q ra rb (rBl t)) (ho' : OpR X (compareOp o') q') (h2' : B2 q' rb rc (rBl u)) (ha : DE X Γ a ra) (hb : DE X Γ b rb) (hc : t = true → DE X Γ c rc) (hm : lastMarks [o, o'] [b, c] = false := by rfl) : DT X Γ (.Compare a [o, o'] [b, c] pos) (t && u) := fun F0 H0 F H σ en Q q =>
  .of (pt_chain ho ho' pe_ev pe_ev pe_ev (hm := hm)) (ha F0 H0 F H σ en _ fun v F1 H1 g1 k1 => hb F0 H0 F1 H1 σ (en.grow g1) _ fun w F2 H2 g2 k2 => h2 F2 H2 v w g2.s (ra.mono g2.f k1) k2 _ fun z F3 H3 g3 k3 => ⟨t, k3, by
    cases t with
    | false => exact ⟨false, rfl, q F3 H3 ((g1.trans g2).trans g3)⟩
    | true =>
      rw [if_pos rfl]
      exact hc rfl F0 H0 F3 H3 σ (((en.grow g1).grow g2).grow g3) _ fun y F4 H4 g4 k4 => h2' F4 H4 w y g4.s (rb.mono (g3.f.trans g4.f) k2) k4 _ fun z F5 H5 g5 k5 => ⟨u, k5, q F5 H5 ((((g1.trans g2).trans g3).trans g4).trans g5)⟩⟩)
/-! signs of a text -/
def sgn (z : Str) (i : Nat) : Str := ⟨#[z.cps.toList.getD i 0]⟩
theorem de_ixStr {z : Str} {n : Int} (hz : z.length ≤ sizeLine) (h0 : 0 ≤ n) (h1 : n.toNat < z.cps.toList.length) (ha : DE X Γ a (rStr z)) (hb : DE X Γ b (rInt n)) (hs : PlainIx b := by exact fun _ _ => rfl) : DE X Γ (.Subscript a b pos) (rStr (sgn z n.toNat)) :=
  de_ixr ix_seq (fun F H x y s h1' h2 Q q => by
    cases h1'
    cases h2
    refine .inr (.inr ⟨z, n, z.cps.toList.getD n.toNat 0, rfl, rfl, hz, ?_, q _ F H (.refl s) rfl⟩)
    obtain ⟨m, rfl⟩ : ∃ m : Nat, n = m := ⟨n.toNat, by omega⟩
    refine atI_nat ?_
    rw [Int.toNat_natCast] at h1 ⊢
    rw [List.getElem?_eq_getElem h1, List.getD_eq_getElem?_getD, List.getElem?_eq_getElem h1]
    rfl) ha hb hs
theorem b2_sign {c : Nat} {z : Str} : B2 (fun x y H Q => ∃ (c : Nat) (z : Str), x = .str ⟨#[c]⟩ ∧ y = .str z ∧ Q (.bl (decide (c ∈ z.cps.toList))) H) (rStr ⟨#[c]⟩) (rStr z) (rBl (decide (c ∈ z.cps.toList))) := fun F H x y s h1 h2 Q q => by
  cases h1; cases h2
  exact ⟨c, z, rfl, rfl, q _ F H (.refl s) rfl⟩
theorem b2_nosign {c : Nat} {z : Str} : B2 (fun x y H Q => ∃ (c : Nat) (z : Str), x = .str ⟨#[c]⟩ ∧ y = .str z ∧ Q (.bl (!decide (c ∈ z.cps.toList))) H) (rStr ⟨#[c]⟩) (rStr z) (rBl (!decide (c ∈ z.cps.toList))) := fun F H x y s h1 h2 Q q => by
  cases h1; cases h2
  exact ⟨c, z, rfl, rfl, q _ F H (.refl s) rfl⟩
theorem de_inSg {y z : Str} {m : Nat} (ha : DE X Γ a (rStr (sgn y m))) (hb : DE X Γ b (rStr z)) (hm : behindInMarks .In b = false := by rfl) : DE X Γ (.Compare a [.In] [b] pos) (rBl (decide (y.cps.toList.getD m 0 ∈ z.cps.toList))) := de_cmp op_in_sign b2_sign ha hb hm
theorem dt_notInSg {y z : Str} {m : Nat} (ha : DE X Γ a (rStr (sgn y m))) (hb : DE X Γ b (rStr z)) (hm : behindInMarks .NotIn b = false := by rfl) : DT X Γ (.Compare a [.NotIn] [b] pos) (!decide (y.cps.toList.getD m 0 ∈ z.cps.toList)) := dt_cmp op_notIn_sign b2_nosign ha hb hm
theorem sr_str {z : Str} (h : DE X Γ it (rStr z)) : SR X Γ tg it z.cps.toList.length (fun i => rStr (sgn z i)) := fun F0 H0 F H σ en R q =>
  .of (pi_str pe_ev) (h F0 H0 F H σ en _ fun v F1 H1 g hv => by
    cases hv
    refine ⟨z, rfl, q _ F1 H1 g ⟨fun i H2 s hi => ?_, fun i H2 s hi => ?_, fun i F2 H2 x H' s s2 hi hy => ?_⟩⟩
    · show z.cps.size ≤ i
      rw [← Array.length_toList]; exact hi
    · show i < z.cps.size
      rw [← Array.length_toList]; exact hi
    · obtain ⟨rfl, c, hc, rfl⟩ := hy
      refine ⟨F2, .refl s2, ?_⟩
      show V.str _ = V.str _
      rw [sgn, List.getD_eq_getElem?_getD, Array.getElem?_toList, hc]
      rfl)
/-! tuples -/
theorem de_tupS (hm : X.mg "tuple" = none) (B : BX X N sc k) (h : DE X Γ e (rSeq X.K l)) (hg : sc.names.lookup ("tuple" : Str) = some NameKind.globalImplicit) (he : starEach [e] X.env = (false, eval e X.env) :: starEach [] X.env := by rfl) : DE X Γ (.Call (.Name "tuple" p) [e] [] pos) (rTup X.K l) := fun F0 H0 F H σ en Q q => by
  have hgl : Gl X "tuple" := by
    show X.env.scope.names.lookup _ = _
    rw [B.hsc]
    exact hg
  refine .of (pe_tupleOf hgl hm pe_ev he) (h F0 H0 F H σ en _ fun v F1 H1 g hv => ?_)
  obtain ⟨pp, vs, rfl, k1, k2⟩ := hv
  rcases k1 with k1 | k1
  · exact .inl ⟨pp, vs, rfl, g.s.seq k1, fun q' hq => q _ _ _ (g.trans (.new g.s hq)) ⟨q', vs, rfl, SqT.of upd_same, k2.mono (same_new (g.s.free hq))⟩⟩
  · exact .inr ⟨pp, vs, rfl, sqt_mono g.s k1, q _ F1 H1 g ⟨pp, vs, rfl, k1, k2⟩⟩
/-- list(range(n)) -/
theorem dl_listRg {n : Int} (B : BX X N sc k) (hl : X.mg "list" = none) (hr : X.mg "range" = none) (h0 : 0 ≤ n) (h1 : n ≤ 16777216) (h : DE X Γ e (rInt n)) (hgl : sc.names.lookup ("list" : Str) = some NameKind.globalImplicit) (hgr : sc.names.lookup ("range" : Str) = some NameKind.globalImplicit)
    (he : starEach [e] X.env = (false, eval e X.env) :: starEach [] X.env := by rfl) (he2 : starEach [Expr.Call (.Name "range" p2) [e] [] p] X.env = (false, eval (.Call (.Name "range" p2) [e] [] p) X.env) :: starEach [] X.env := by rfl) {p3 : Pos} :
    DL X Γ (.Call (.Name "list" p3) [.Call (.Name "range" p2) [e] [] p] [] pos) ((List.range n.toNat).map fun i : Nat => rInt (i : Nat)) := fun F0 H0 F H σ en Q q => by
  have g1 : Gl X "list" := by
    show X.env.scope.names.lookup _ = _
    rw [B.hsc]
    exact hgl
  have g2 : Gl X "range" := by
    show X.env.scope.names.lookup _ = _
    rw [B.hsc]
    exact hgr
  refine .of (pe_listRg B.calm g1 hl (prg_1 g2 hr pe_ev he) he2) (h F0 H0 F H σ en _ fun v F1 H1 g hv => ?_)
  cases hv
  refine ⟨n, rfl, RgOk.of_le (by decide) h1 (by decide) h0, fun q' hq => q q' _ F1 _ (g.trans (.newOwn g.s hq)) (g.h.free hq) (g.s.free hq) upd_same ?_⟩
  have : ∀ m : Nat, RL F1 ((List.range m).map fun i : Nat => rInt (i : Nat)) ((List.range m).map fun i => V.int (0 + (i : Nat))) := fun m => by
    induction m with
    | zero => exact .nil
    | succ m ih =>
      rw [List.range_succ, List.map_append, List.map_append]
      exact ih.app (.cons (by show V.int _ = V.int _; rw [Int.zero_add]) .nil)
  have z := this n.toNat
  unfold rgV
  rw [Int.sub_zero]
  exact z
/-- [..] * n -/
theorem dl_rep {n : Int} (ha : DL X Γ a l) (hb : DE X Γ b (rInt n)) (h0 : -(2 ^ 63) ≤ n) (h1 : n < 2 ^ 63) (h2 : l.length * n.toNat ≤ sizeLine) : DL X Γ (.BinOp a .Mult b pos) (List.replicate n.toNat l).flatten := fun F0 H0 F H σ en Q q =>
  .of (pe_op op_rep pe_ev pe_ev) (ha F0 H0 F H σ en _ fun pp vs F1 H1 g1 n1 f1 k1 r1 => hb F0 H0 F1 H1 σ (en.grow g1) _ fun w F2 H2 g2 k2 => by
    cases k2
    refine ⟨pp, n, vs, rfl, rfl, g2.h _ _ k1, h0, h1, by rw [← r1.len]; exact h2, fun q' hq => ?_⟩
    have g := g1.trans g2
    refine q q' _ F2 _ (g.trans (.newOwn g.s hq)) (g.h.free hq) (g.s.free hq) upd_same ?_
    have r2 := r1.mono g2.f
    have : ∀ m : Nat, RL F2 (List.replicate m l).flatten (List.replicate m vs).flatten := fun m => by
      induction m with
      | zero => exact .nil
      | succ m ih =>
        rw [List.replicate_succ, List.replicate_succ, List.flatten_cons, List.flatten_cons]
        exact r2.app ih
    exact this _)
theorem de_min3 {m n o : Int} (B : BX X N sc k) (hm : X.mg "min" = none) (ha : DE X Γ a (rInt m)) (hb : DE X Γ b (rInt n)) (hc : DE X Γ c (rInt o)) (hg : sc.names.lookup ("min" : Str) = some NameKind.globalImplicit)
    (he : starEach (a :: [b, c]) X.env = (false, eval a X.env) :: starEach [b, c] X.env := by rfl) (he2 : starEach (b :: [c]) X.env = (false, eval b X.env) :: starEach [c] X.env := by rfl) (he3 : starEach (c :: []) X.env = (false, eval c X.env) :: starEach [] X.env := by rfl) (hpl : (backTo pos (starEach [b, c] X.env)).any (·.1) = false := by rfl) : DE X Γ (.Call (.Name "min" p) [a, b, c] [] pos) (rInt (min (min m n) o)) :=
  de_blt B (call_min3Nu B.calm) (fun F H vs s hv Q q => by
    cases hv with
    | cons k1 t =>
      obtain ⟨v, w, rfl, k2, k3⟩ := rl2 t
      cases k1; cases k2; cases k3
      refine ⟨_, _, _, .int (min (min m n) o), rfl, ?_, q _ F H (.refl s) rfl⟩
      have e : ∀ i j : Int, nuMin2 (.int i) (.int j) = some (V.int (min i j)) := fun i j => by
        show some (if decide (j < i) = true then V.int j else V.int i) = _
        by_cases h : j < i
        · rw [if_pos (decide_eq_true h)]; congr 2; omega
        · rw [if_neg (by simp [h])]; congr 2; omega
      show (nuMin2 (.int m) (.int n)).bind (fun q => nuMin2 q (.int o)) = _
      rw [e]
      exact e _ _) hm (by decide +kernel) (da_cons ha (da_cons hb (da_cons hc da_nil he3) he2) he) hg (he := he) (hpl := hpl)
theorem de_intB (B : BX X N sc k) (hm : X.mg "int" = none) (ha : DE X Γ a (rBl u)) (hg : sc.names.lookup ("int" : Str) = some NameKind.globalImplicit)
    (he : starEach (a :: []) X.env = (false, eval a X.env) :: starEach [] X.env := by rfl) : DE X Γ (.Call (.Name "int" p) [a] [] pos) (rInt (if u = true then 1 else 0)) :=
  de_bty B call_int1 (fun F H vs s hv Q q => by
    obtain ⟨v, rfl, k1⟩ := rl1 hv
    cases k1
    exact .inr ⟨u, rfl, q _ F H (.refl s) rfl⟩) hm (by decide +kernel) (da_cons ha da_nil he) hg (he := he)
/-! what may be None -/
def rOp {α : Type} (R : α → Rep) : Option α → Rep
  | none => rNon
  | some a => R a
variable {α : Type} {R : α → Rep} {o : Option α}
theorem de_oN (h : DE X Γ e rNon) : DE X Γ e (rOp R none) := h
theorem de_oS {v : α} (h : DE X Γ e (R v)) : DE X Γ e (rOp R (some v)) := h
theorem de_oU (d : α) (ho : o.isNone = false) (h : DE X Γ e (rOp R o)) : DE X Γ e (R (o.getD d)) := by
  cases o with
  | none => cases ho
  | some v => exact h
theorem dt_oIs {jj : Nat} (hn : ∀ v, NotNon (R v)) (h : DE X Γ a (rOp R o)) : DT X Γ (.Compare a [.Is] [.Constant .none jj p] pos) o.isNone := by
  cases o with
  | none => exact dt_isN h
  | some v => exact dt_isN0 (hn v) h
theorem dt_oNot {jj : Nat} (hn : ∀ v, NotNon (R v)) (h : DE X Γ a (rOp R o)) : DT X Γ (.Compare a [.IsNot] [.Constant .none jj p] pos) (!o.isNone) := by
  cases o with
  | none => exact dt_notN h
  | some v => exact dt_notN0 (hn v) h
/-! three lists at once -/
theorem go_par3 {i1 i2 i3 : Nat} {x1 x2 x3 : Str} {px py pz pt : Pos} {kt k2 : Nat} {pt2 : Pos} (B : BX X N sc k) (ha : DL X Γ a l) (hb : DL X Γ b l2) (hc : DL X Γ c l3) (h1 : N[i1]? = some x1) (h2 : N[i2]? = some x2) (h3 : N[i3]? = some x3) (h12 : i1 ≠ i2) (h13 : i1 ≠ i3) (h23 : i2 ≠ i3)
    (hx : sc.names.lookup x1 = some .local) (hy : sc.names.lookup x2 = some .local) (hz : sc.names.lookup x3 = some .local) (h : GO X F0 H0 st D (((Γ.set i1 (.ow l)).set i2 (.ow l2)).set i3 (.ow l3)))
    (hw : ∀ env : Env, env.scope = sc → swappedStores [.Tuple [.Name x1 px, .Name x2 py, .Name x3 pz] kt pt] (.Tuple [a, b, c] k2 pt2) env = pure (some [x1, x2, x3]))
    (hs : swapsWithSole [.Tuple [.Name x1 px, .Name x2 py, .Name x3 pz] kt pt] (.Tuple [a, b, c] k2 pt2) pos.line X.env = pure false := by rfl)
    (e1 : starEach [a, b, c] X.env = (false, eval a X.env) :: starEach [b, c] X.env := by rfl) (e2 : starEach [b, c] X.env = (false, eval b X.env) :: starEach [c] X.env := by rfl) (e3 : starEach [c] X.env = (false, eval c X.env) :: starEach [] X.env := by rfl) :
    GO X F0 H0 (.Assign [.Tuple [.Name x1 px, .Name x2 py, .Name x3 pz] kt pt] (.Tuple [a, b, c] k2 pt2) pos :: st) D Γ := fun F H σ en => by
  refine .of (pss_cons (ps_par3 (i := i1) (j := i2) (l := i3) B.calm (by rw [B.hN]; exact B.nd) (by rw [B.hN]; exact h1) (by rw [B.hN]; exact h2) (by rw [B.hN]; exact h3) h12 h13 h23 (by rw [B.hsc]; exact hx) (by rw [B.hsc]; exact hy) (by rw [B.hsc]; exact hz) (pa_cons pe_ev (pa_cons pe_ev (pa_cons pe_ev pa_nil e3) e2) e1) (hw X.env B.hsc) hs) pss_ev) ?_
  refine ha F0 H0 F H σ en _ fun p1 v1 F1 H1 g1 n1 f1 k1 r1 => hb F0 H0 F1 H1 σ (en.grow g1) _ fun p2 v2 F2 H2 g2 n2 f2 k2 r2 => hc F0 H0 F2 H2 σ ((en.grow g1).grow g2) _ fun p3 v3 F3 H3 g3 n3 f3 k3 r3 => ⟨_, _, _, rfl, ?_⟩
  have g12 := g1.trans g2
  have g123 := g12.trans g3
  have g23 := g2.trans g3
  have en3 := en.grow g123
  have no : ∀ {q : Addr}, H q = none → ∀ (j : Nat) (l' : List Rep), Γ[j]? = some (.ow l') → σ[j]? ≠ some (some (.ref q)) := fun {q} hq j l' a1 a2 => by
    obtain ⟨p', vs', b1, b2, b3, b4, b5⟩ := en.ow a1
    rw [b1] at a2
    have e2 : p' = q := V.ref.inj (Option.some.inj (Option.some.inj a2))
    rw [e2, hq] at b3
    cases b3
  have m1 : H3 p1 = some (.lst v1) := g23.h _ _ k1
  have m2 : H3 p2 = some (.lst v2) := g3.h _ _ k2
  have q1 : F3 p1 = none := g23.n p1 (by rw [k1]; exact nofun) f1
  have q2 : F3 p2 = none := g3.n p2 (by rw [k2]; exact nofun) f2
  have z2 : H p2 = none := g1.h.free n2
  have z3 : H p3 = none := g12.h.free n3
  have d12 : p1 ≠ p2 := fun z => by rw [← z, k1] at n2; cases n2
  have d13 : p1 ≠ p3 := fun z => by rw [← z, g2.h _ _ k1] at n3; cases n3
  have d23 : p2 ≠ p3 := fun z => by rw [← z, k2] at n3; cases n3
  have s1 := en3.setOw (i := i1) q1 m1 (r1.mono g23.f) (en.gr.h.free n1) (no n1)
  have no2 : ∀ {q : Addr} {i : Nat} {pp : Addr} {Γ' : List Sl} {σ' : L2.St} {ll : List Rep}, pp ≠ q → (∀ (j : Nat) (l' : List Rep), Γ'[j]? = some (.ow l') → σ'[j]? ≠ some (some (.ref q))) → ∀ (j : Nat) (l' : List Rep), (Γ'.set i (.ow ll))[j]? = some (.ow l') → (σ'.set i (some (.ref pp)))[j]? ≠ some (some (.ref q)) := fun {q i pp Γ' σ' ll} hne h j l' a1 a2 => by
    rcases get_set a2 with ⟨rfl, e⟩ | ⟨n, a2⟩
    · exact hne (V.ref.inj (Option.some.inj e)).symm
    · rcases get_set a1 with ⟨e, _⟩ | ⟨_, a1⟩
      · exact n e
      · exact h j l' a1 a2
  have s2 := s1.setOw (i := i2) q2 m2 (r2.mono g3.f) (en.gr.h.free z2) (no2 d12 (no z2))
  have s3 := s2.setOw (i := i3) f3 k3 r3 (en.gr.h.free z3) (no2 d23 (no2 d13 (no z3)))
  exact h F3 H3 _ s3
end
end DL

set_option Elab.async false
set_option linter.all false
set_option maxRecDepth 100000
set_option maxHeartbeats 4000000
/-! classmethods that make an object -/
namespace DL
open PySem PySem.Spec PyProof.Rows L2
theorem fnR_of {P : Program} {w : World} {K : PySem.W.Frag} {mg : Str → Option Value} {base : Heap} {CX : CXT} {k : Nat} {f : Addr} {fd : FuncData} {ps : List Str} {sp : Sp} (F : FnOk P w K mg base CX k f fd ps sp) (hK : ∀ {A outer s H}, Env0 P w K mg base A outer s H → K.In s.heap) (hb : Binds K fd ps []) : FnR P w K mg base CX k f sp := fun A outer s H us vs Q E hr e0 rv hs => by
  have hl : (us ++ []).length = ps.length := by rw [List.append_nil, ← rv.length]; exact F.len _ _ _ _ hs
  have b := hb s us (hK e0) hl
  rw [List.append_nil] at b
  exact F.run A outer s H ⟨us, []⟩ us vs Q E hr e0 b rv hs
section
variable {X : Cx} {N : List Str} {sc : Scope} {k j : Nat} {Γ : List Sl} {e : Expr} {es : List Expr} {pos p apos : Pos} {x m : Str} {i : Nat} {C : Addr} {ns : List Str} {ι : Type} {pre : ι → Prop} {args : ι → List Rep} {out : ι → OutI}
/-- cls(..), the class in a slot -/
theorem pe_makeL {CX : CXT} {fa : Addr} {fd : FuncData} {ps : List Str} {sp : Sp} {dvs : List V} {ds : List Value} {E : XK} {t : TA} (M : Mk X.K C fa) (F : FnOk X.prog X.w X.K X.mg X.base CX j fa fd ps sp) (hr : Room (j + 1) X.A) (hN : X.N[i]? = some x) (hv : Vis X.env.scope x) (hb : Binds X.K fd ps ds) (hd : Vals dvs ds) (hx : Passes CX X E)
    (ha : PA X (e :: es) t) (hdb : (x == ("__debug__" : Str)) = false := by decide) (hcd : (x == ("__classdict__" : Str)) = false := by decide) (he : starEach (e :: es) X.env = (false, eval e X.env) :: starEach es X.env := by rfl) (hpl : (backTo pos (starEach es X.env)).any (·.1) = false := by rfl) :
    PE X (.Call (.Name x p) (e :: es) [] pos) (fun σ H Q => σ[i]? = some (some (.ref C)) ∧ tMake C sp dvs E t σ H Q) := by
  refine ⟨fun pins s σ H Q I ⟨hs, ht⟩ => wpAny_Call_Name_kw (thn ((pe_var (pos := p) hN hv hdb hcd).run pins s σ H (fun v H1 => v = .ref C ∧ H1 = H) I ⟨.ref C, hs, rfl, rfl⟩) fun u s1 ⟨v, H1, I1, r1, q1⟩ => ?_)⟩
  obtain ⟨rfl, rfl⟩ := q1
  cases r1
  exact PySem.W.callWith_K (h₀ := X.base) I.ok.mod.kin M.kp (thn (ha.run pos pins s1 σ _ _ I1 ht) fun us s2 ⟨vs, H2, I2, r, q⟩ => ⟨I2.kIn, run_make M F hr hb hd hx I2 r q⟩) he hpl
theorem de_makeL (okr : ι → List Rep) (B : BX X N sc k) (G : CalI X.prog X.w X.K X.mg X.base j m C (PmI C pre args ns out)) (hk : j + 1 ≤ k) (g : ι) (hp : pre g) (ho : out g = .ok (okr g)) (hl : ns.length = (okr g).length) (hΓ : Γ[i]? = some (.im (rC (.ref C)))) (hN : N[i]? = some x) (hv : Vis sc x) (ha : DA X Γ (e :: es) (args g))
    (hdb : (x == ("__debug__" : Str)) = false := by decide) (hcd : (x == ("__classdict__" : Str)) = false := by decide) (he : starEach (e :: es) X.env = (false, eval e X.env) :: starEach es X.env := by rfl) (hpl : (backTo pos (starEach es X.env)).any (·.1) = false := by rfl) :
    DE X Γ (.Call (.Name x p) (e :: es) [] pos) (rIns X.K C (ns.zip (okr g))) := fun F0 H0 F H σ en Q q => by
  obtain ⟨f, fd, ps, G, M, hm, hb⟩ := G.ex
  obtain ⟨u, h1, h2⟩ := en.im hΓ
  cases h2
  refine .of (pe_makeL (E := E0) M G (B.room.mono hk) (B.hN ▸ hN) (B.hsc ▸ hv) hb .nil passL pa_ev hdb hcd he hpl) ⟨h1, ?_⟩
  refine ha F0 H0 F H σ en _ fun vs F1 H1 g1 h1 => fun p dx np ndx hne => ?_
  rw [List.append_nil]
  refine ⟨g, F1, H1, p, dx, vs, rfl, hp, g1.s, np, ndx, hne, rfl, h1, ?_⟩
  rw [ho]
  refine fun F' H' ws g2 nf hp' hr => ⟨rfl, ?_⟩
  have g3 := gr_made np g2 nf hp'
  have n1 : ((ns.zip (okr g)).map Prod.fst) = ns := List.map_fst_zip (by omega)
  have n2 : ((ns.zip (okr g)).map Prod.snd) = okr g := List.map_snd_zip (by omega)
  exact q _ _ _ (g1.trans g3) ⟨p, dx, ws, rfl, by rw [n1]; exact upd_same, by rw [n2]; exact hr.mono (same_new nf)⟩
/-- a classmethod, by the class's name -/
structure TC (K : PySem.W.Frag) (C : Addr) (m q : Str) (st : Stmt) : Prop where
  ex : ∃ mc p g fd, ClX.CRead K C mc ∧ ClX.CMet K C mc m p g ∧ Fun K m q st g fd
structure CalC (P : Program) (w : World) (K : PySem.W.Frag) (mg : Str → Option Value) (base : Heap) (k : Nat) (C : Addr) (m : Str) (sp : Sp) : Prop where
  ex : ∃ mc p g, ClX.CRead K C mc ∧ ClX.CMet K C mc m p g ∧ FnR P w K mg base (L2.CX P w) k g sp
variable {res : ι → Ret}
theorem ca_cmeth {pl : Sem Bool} (B : BX X N sc k) (G : CalC X.prog X.w X.K X.mg X.base j C m (Pm pre args res)) (hk : j ≤ k) (g : ι) (hp : pre g) (hm : X.mg x = some (.ref C)) (hg : sc.names.lookup x = some .globalImplicit) {as : List Rep} (e1 : args g = rC (.ref C) :: as) (ha : DA X Γ (e :: es) as)
    (hdb : (x == ("__debug__" : Str)) = false := by decide) (hst : starEach (e :: es) X.env = (false, eval e X.env) :: starEach es X.env := by rfl) (hpl : (backTo pos (starEach es X.env)).any (·.1) = false := by rfl)
    (ht : eval (.Call (.Attribute (.Name x p) m apos) (e :: es) [] pos) X.env = (do
      let ov ← eval (.Name x p) X.env
      standAt apos.atName
      let (f, first) ← holding [ov] (getMethod ov m pl)
      callWith pos f first (backTo pos (starEach (e :: es) X.env)) (backToKw pos (keywordEach [] X.env))) := by rfl) :
    CA X Γ (.Call (.Attribute (.Name x p) m apos) (e :: es) [] pos) (res g) := fun F0 H0 F H σ en Q q => by
  obtain ⟨mc, pp, gg, r, c, Fm⟩ := G.ex
  have hgl : Gl X x := by
    show X.env.scope.names.lookup x = _
    rw [B.hsc]
    exact hg
  refine .of (ClX.pe_cmeth (E := E0) (pe_glob (v := .ref C) hgl hm rfl hdb) r c Fm (B.room.mono hk) passL pa_ev hst hpl ht) ⟨rfl, ?_⟩
  refine ha F0 H0 F H σ en _ fun vs F1 H1 g1 h1 => ?_
  exact ⟨g, F1, hp, g1.s, by rw [e1]; exact .cons rfl h1, fun v F' H' g2 hv => q v F' H' F1 H1 g1 g2 hv⟩
end
section
variable {P : Program} {w : World} {K : PySem.W.Frag} {mg : Str → Option Value} {base : Heap} {k : Nat} {m q : Str} {st : Stmt} {N ps : List Str} {C : Addr} {ι : Type} {pre : ι → Prop} {args : ι → List Rep} {res : ι → Ret}
theorem cal_okC (T : TC K C m q st) (S : FnScope N ps (defScope st)) (hn : ∀ g, (args g).length = ps.length)
    (hb : ∀ (kV doc pm : Value) (an : Option Addr) (cdv ct : Value) (us : List Value), us.length = ps.length → bindArgs (PySem.W.fnOf m q (defArgs st) (defBody st) (defScope st) .none kV doc pm an cdv ct) ⟨us, []⟩ = pure (ps.zip us))
    (body : ∀ (X : Cx), X.prog = P → X.w = w → X.K = K → X.mg = mg → X.base = base → BX X N (defScope st) k → (∀ x : Str, X.fn x = true) → ∀ (g : ι) (F0 H0 : Hp) (D : Ends), pre g → RT F0 H0 (res g) D → (∀ σ H', D.nx σ H' = D.rt .non H') →
      GO X F0 H0 (defBody st) D ((args g).map Sl.im ++ List.replicate (N.length - ps.length) .any)) : CalC P w K mg base (k + 1) C m (Pm pre args res) := by
  obtain ⟨mc, pp, g, fd, r, c, F⟩ := T.ex
  refine ⟨mc, pp, g, r, c, fnR_of (FnOk.wide (F.ok S (fun vs H Q E h => ?_) (fun cdv A outer s H vs Q E hr h => ?_))) ?_ (F.binds hb)⟩
  · obtain ⟨g, F1, _, _, h1, _⟩ := h
    rw [← h1.len, hn]
  · obtain ⟨g, F1, hp, hs, h1, q⟩ := h
    refine ⟨_, pss_ev, ?_⟩
    have hpl : ps.length ≤ N.length := by have := congrArg List.length S.pre; rw [List.length_take] at this; omega
    have en := en_start (N := N) hs h1 (by rw [hn]; exact hpl)
    rw [hn] at en
    exact body _ rfl rfl rfl rfl rfl ⟨rfl, rfl, S.nd, hr, rfl, PassesOwn.never⟩ (fun _ => rfl) g F1 H { nx := fun _ H' => Q .non H', rt := Q } hp q (fun _ _ => rfl) F1 H _ en
  · exact fun {A outer s H} e0 a o l => (e0.bs a o (e0.mod.kin a o l)).1
end
end DL

set_option Elab.async false
set_option linter.all false
set_option maxRecDepth 100000
set_option maxHeartbeats 4000000
/-! tuples whose first item is a new list; errors within expressions; books -/
namespace DL
open PySem PySem.Spec PyProof.Rows L2
section
variable {X : Cx} {N : List Str} {sc : Scope} {k j : Nat} {Γ : List Sl} {a b c e tg it : Expr} {es rest : List Expr} {r ra rb rc r' : Rep} {rs l l2 : List Rep} {pos p p2 : Pos} {x : Str} {i : Nat} {F0 H0 : Hp} {st body : List Stmt} {D : Ends} {C : Addr} {W : WX} {fs : List (Str × V)}
/-! a tuple (new list, ..) -/
theorem go_retT {x1} (B : BX X N sc k) (R : RT F0 H0 (.tfr X.K l rs) D) (hΓ : Γ[i]? = some (.ow l)) (ha : DA X Γ es rs) (hN : N[i]? = some x) (hv : Vis sc x) (hl : rs.length + 1 ≤ sizeLine) (hd : (x == ("__debug__" : Str)) = false := by decide) (hcd : (x == ("__classdict__" : Str)) = false := by decide)
    (hs : starEach (.Name x p :: es) X.env = (false, eval (.Name x p) X.env) :: starEach es X.env := by rfl) : GO X F0 H0 (.Return (some (.Tuple (.Name x p :: es) x1 p2)) pos :: st) D Γ := fun F H σ en => by
  obtain ⟨q, vs, h1, h2, h3, h4, h5⟩ := en.ow hΓ
  refine .of (pss_cons (ps_ret (pe_tup (pa_cons (pe_var (i := i) (B.hN ▸ hN) (B.hsc ▸ hv) hd hcd) pa_ev hs))) (pss_ev (st := st))) ⟨_, h1, ?_⟩
  refine ha F0 H0 F H σ en _ fun ws F1 H1 g k1 => ⟨by rw [List.length_cons, ← k1.len]; exact hl, fun t ht => ?_⟩
  have q1 : F1 q = none := g.n q (by rw [h3]; exact nofun) h2
  have q2 : H1 q = some (.lst vs) := g.h _ _ h3
  have qt : q ≠ t := fun z => by rw [← z, q2] at ht; cases ht
  have sn : Same F1 (upd F1 t (.tup (.ref q :: ws))) := same_new (g.s.free ht)
  exact R _ _ _ (en.gr.trans (g.trans (.new g.s ht))) ⟨t, q, vs, ws, rfl, SqT.of upd_same, h5, by rw [upd_ne qt]; exact q1, by rw [upd_ne qt]; exact q2, (h4.mono g.f).mono sn, k1.mono sn⟩
theorem CA.tup (h : CA X Γ e (.tfr X.K l rs)) : DE X Γ e (rTup X.K (rLst X.K l :: rs)) := fun F0 H0 F H σ en Q q => h F0 H0 F H σ en Q fun v F' H' F1 H1 g1 g2 hv => by
  obtain ⟨t, pp, us, vs, rfl, e2, e3, e4, e5, e6, e7⟩ := hv
  have hn : H pp = none := g1.h.free e3
  have g := g1.trans g2
  have sn : Same F' (upd F' pp (.lst us)) := same_new e4
  refine q _ (upd F' pp (.lst us)) H' ⟨g.f.trans sn, g.h, fun b o z => ?_, fun a ha z => ?_⟩ ⟨t, _, rfl, sqt_mono sn e2, .cons ⟨pp, us, rfl, SqL.of upd_same, e6.mono sn⟩ (e7.mono sn)⟩
  · by_cases hb : b = pp
    · subst hb
      rw [upd_same] at z
      rw [e5, ← z]
    · rw [upd_ne hb] at z
      exact g.s b o z
  · have : a ≠ pp := fun y => ha (y ▸ hn)
    rw [upd_ne this]
    exact g.n a ha z
/-! errors within expressions -/
end
/-! rows by a map -/
theorem rl_sub {F : Hp} {α : Type} {R R' : α → Rep} (h : ∀ a, Sub (R a) (R' a)) : ∀ {xs : List α} {vs : List V}, RL F (xs.map R) vs → RL F (xs.map R') vs
  | [], _, .nil => .nil
  | _ :: _, _, .cons a t => .cons (h _ F _ a) (rl_sub h t)
theorem sub_lstM {K : PySem.W.Frag} {α : Type} {R R' : α → Rep} (h : ∀ a, Sub (R a) (R' a)) {xs : List α} : Sub (rLst K (xs.map R)) (rLst K (xs.map R')) := fun F v ⟨a, vs, e, q, r⟩ => ⟨a, vs, e, q, rl_sub h r⟩
theorem sub_tupM {K : PySem.W.Frag} {α : Type} {R R' : α → Rep} (h : ∀ a, Sub (R a) (R' a)) {xs : List α} : Sub (rTup K (xs.map R)) (rTup K (xs.map R')) := fun F v ⟨a, vs, e, q, r⟩ => ⟨a, vs, e, q, rl_sub h r⟩
section
variable {X : Cx} {N : List Str} {sc : Scope} {k j : Nat} {Γ : List Sl} {a b c e tg it it2 : Expr} {es rest : List Expr} {pos p p2 : Pos} {x : Str} {i : Nat} {α β : Type} {R : α → Rep} {R2 : β → Rep} {xs : List α} {ys : List β}
theorem de_ixAM {n : Int} (d : α) (h0 : 0 ≤ n) (h1 : n < xs.length) (ha : DE X Γ a (rSeq X.K (xs.map R))) (hb : DE X Γ b (rInt n)) (hs : PlainIx b := by exact fun _ _ => rfl) : DE X Γ (.Subscript a b pos) (R (xs.getD n.toNat d)) := de_ixA (atI_map d h0 h1) ha hb hs
theorem de_lenAM (B : BX X N sc k) (hm : X.mg "len" = none) (h : DE X Γ e (rSeq X.K (xs.map R))) (hg : sc.names.lookup ("len" : Str) = some NameKind.globalImplicit) (he : starEach (e :: []) X.env = (false, eval e X.env) :: starEach [] X.env := by rfl) : DE X Γ (.Call (.Name "len" p) [e] [] pos) (rInt xs.length) := by
  have z := de_lenA (p := p) (pos := pos) B hm h hg he
  rwa [List.length_map] at z
theorem de_lenTM (B : BX X N sc k) (hm : X.mg "len" = none) (h : DE X Γ e (rTup X.K (xs.map R))) (hg : sc.names.lookup ("len" : Str) = some NameKind.globalImplicit) (he : starEach (e :: []) X.env = (false, eval e X.env) :: starEach [] X.env := by rfl) : DE X Γ (.Call (.Name "len" p) [e] [] pos) (rInt xs.length) := de_lenAM B hm (DE.sub h sub_tseq) hg he
theorem sr_seqM (d : α) (h : DE X Γ it (rSeq X.K (xs.map R))) : SR X Γ tg it xs.length (fun i => R (xs.getD i d)) := by
  have h2 := sr_seq (tg := tg) h
  rw [List.length_map] at h2
  exact h2.to fun i hi => getD_map d hi
theorem sr_zipS_M {jj : Nat} {tpos : Pos} (d : α) (d2 : β) (B : BX X N sc k) (hm : X.mg "zip" = none) (h : DE X Γ it (rSeq X.K (xs.map R))) (h2 : DE X Γ it2 (rSeq X.K (ys.map R2))) (hg : sc.names.lookup ("zip" : Str) = some NameKind.globalImplicit)
    (hs : starEach [it, it2] X.env = (false, eval it X.env) :: starEach [it2] X.env := by rfl) (hs2 : starEach [it2] X.env = (false, eval it2 X.env) :: starEach [] X.env := by rfl) (hpl : (backTo pos (starEach [it2] X.env)).any (·.1) = false := by rfl) :
    SR X Γ (.Tuple es jj tpos) (.Call (.Name "zip" p) [it, it2] [] pos) (min xs.length ys.length) (fun i => rTup X.K [R (xs.getD i d), R2 (ys.getD i d2)]) := by
  have z := sr_zipS (es := es) (jj := jj) (tpos := tpos) (p := p) (pos := pos) B hm h h2 hg hs hs2 hpl
  rw [List.length_map, List.length_map] at z
  exact z.to fun i hi => by rw [getD_map d (by omega), getD_map d2 (by omega)]
end
/-! pairs -/
/-! books -/
structure Bk where
  names : List Str
  frame : List (List Int)
def Bk.size (b : Bk) : Nat := b.names.length
abbrev rRowT (K : PySem.W.Frag) (l : List Int) : Rep := rTup K (l.map rInt)
abbrev rRowS (K : PySem.W.Frag) (l : List Int) : Rep := rSeq K (l.map rInt)
def rBook (K : PySem.W.Frag) (C : Addr) (b : Bk) : Rep := rIns K C [("names", rTup K (b.names.map rStr)), ("size", rInt (b.size : Nat)), ("frame", rTup K (b.frame.map (rRowT K)))]
section
variable {X : Cx} {Γ : List Sl} {e a b : Expr} {pos : Pos} {C : Addr} {k' : Bk} {N : List Str} {sc : Scope} {k : Nat} {α : Type} [DecidableEq α] {R : α → Rep} {d : α → PyData} {n : Nat} {u : α}
theorem de_bkN (O : OCls X.K C ["names", "size", "frame"]) (h : DE X Γ e (rBook X.K C k')) (hb : attributeBase e "names" X.env (eval e X.env) = eval e X.env := by rfl) : DE X Γ (.Attribute e "names" pos) (rTup X.K (k'.names.map rStr)) := de_fld O h rfl (hb := hb)
theorem de_bkS (O : OCls X.K C ["names", "size", "frame"]) (h : DE X Γ e (rBook X.K C k')) (hb : attributeBase e "size" X.env (eval e X.env) = eval e X.env := by rfl) : DE X Γ (.Attribute e "size" pos) (rInt (k'.size : Nat)) := de_fld O h rfl (hb := hb)
theorem de_bkF (O : OCls X.K C ["names", "size", "frame"]) (h : DE X Γ e (rBook X.K C k')) (hb : attributeBase e "frame" X.env (eval e X.env) = eval e X.env := by rfl) : DE X Γ (.Attribute e "frame" pos) (rTup X.K (k'.frame.map (rRowT X.K))) := de_fld O h rfl (hb := hb)
end
section
variable {X : Cx} {N : List Str} {sc : Scope} {k : Nat} {Γ : List Sl} {b : Expr} {pos p : Pos} {x : Str} {i : Nat} {l l2 : List Rep}
end
end DL

set_option Elab.async false
set_option linter.all false
set_option maxRecDepth 100000
set_option maxHeartbeats 4000000
/-! what == tells of pairs, of None or something, of texts -/
namespace DL
open PySem PySem.Spec PyProof.Rows L2
theorem BS.gl {Y : Cx} {N : List Str} {sc : Scope} {x : Str} (B : BS Y N sc) (h : sc.names.lookup x = some .globalImplicit) : Gl Y x := by
  show Y.env.scope.names.lookup x = _
  rw [B.hsc]
  exact h
section
variable {K : PySem.W.Frag} {α β : Type} [DecidableEq α] [DecidableEq β] {R : α → Rep} {R2 : β → Rep} {d : α → PyData} {d2 : β → PyData} {n n2 : Nat}
end
end DL

set_option Elab.async false
set_option linter.all false
set_option maxRecDepth 100000
set_option maxHeartbeats 4000000
/-! sums of multiples of rows -/
namespace DL
abbrev Vc := Nat → Rat
/-- x is a sum of multiples of the rows -/
def Sp : List Vc → Vc → Prop
  | [], x => ∀ j, x j = 0
  | r :: R, x => ∃ c : Rat, Sp R (fun j => x j - c * r j)
theorem Sp.to {R : List Vc} {x y : Vc} (h : Sp R x) (e : ∀ j, x j = y j) : Sp R y := by rw [← funext e]; exact h
theorem sp_zero : ∀ {R : List Vc} {x : Vc}, (∀ j, x j = 0) → Sp R x
  | [], _, h => h
  | r :: R, x, h => ⟨0, sp_zero (R := R) fun j => by rw [h j]; grind⟩
theorem sp_add : ∀ {R : List Vc} {x y : Vc}, Sp R x → Sp R y → Sp R (fun j => x j + y j)
  | [], x, y, h, k => fun j => by show x j + y j = 0; rw [h j, k j]; grind
  | r :: R, x, y, ⟨c, h⟩, ⟨d, k⟩ => ⟨c + d, (sp_add h k).to fun j => by grind⟩
theorem sp_mul : ∀ {R : List Vc} {x : Vc} (a : Rat), Sp R x → Sp R (fun j => a * x j)
  | [], x, a, h => fun j => by show a * x j = 0; rw [h j]; grind
  | r :: R, x, a, ⟨c, h⟩ => ⟨a * c, (sp_mul a h).to fun j => by grind⟩
theorem sp_sub {R : List Vc} {x y : Vc} (h : Sp R x) (k : Sp R y) : Sp R (fun j => x j - y j) := (sp_add h (sp_mul (-1) k)).to fun j => by grind
theorem sp_cons {R : List Vc} {r x : Vc} (h : Sp R x) : Sp (r :: R) x := ⟨0, h.to fun j => by grind⟩
theorem sp_head {R : List Vc} {r : Vc} : Sp (r :: R) r := ⟨1, sp_zero fun j => by grind⟩
theorem sp_mem : ∀ {R : List Vc} {r : Vc}, r ∈ R → Sp R r
  | _ :: R, r, h => by
    rcases List.mem_cons.mp h with e | e
    · subst e; exact sp_head
    · exact sp_cons (sp_mem e)
theorem sp_le : ∀ {R S : List Vc} {x : Vc}, (∀ r ∈ R, Sp S r) → Sp R x → Sp S x
  | [], S, x, _, h => sp_zero h
  | r :: R, S, x, k, ⟨c, h⟩ => by
    have h1 := sp_le (fun r' hr => k r' (List.mem_cons_of_mem _ hr)) h
    exact (sp_add h1 (sp_mul c (k r (List.mem_cons_self ..)))).to fun j => by grind
theorem sp_sub_of {R S : List Vc} {x : Vc} (h : ∀ r ∈ R, r ∈ S) (k : Sp R x) : Sp S x := sp_le (fun r hr => sp_mem (h r hr)) k
theorem sp_perm {R S : List Vc} {x : Vc} (h : ∀ r, r ∈ R ↔ r ∈ S) : Sp R x ↔ Sp S x := ⟨sp_sub_of fun r => (h r).mp, sp_sub_of fun r => (h r).mpr⟩
theorem sp_app {R S : List Vc} {x : Vc} : Sp (R ++ S) x ↔ ∃ y z, Sp R y ∧ Sp S z ∧ ∀ j, x j = y j + z j := by
  induction R generalizing x with
  | nil =>
    constructor
    · exact fun h => ⟨fun _ => 0, x, fun _ => rfl, h, fun j => by grind⟩
    · rintro ⟨y, z, h, k, e⟩
      exact k.to fun j => by rw [e, h j]; grind
  | cons r R ih =>
    constructor
    · rintro ⟨c, h⟩
      obtain ⟨y, z, h1, h2, e⟩ := ih.mp h
      exact ⟨fun j => y j + c * r j, z, ⟨c, h1.to fun j => by grind⟩, h2, fun j => by have := e j; grind⟩
    · rintro ⟨y, z, ⟨c, h1⟩, h2, e⟩
      exact ⟨c, ih.mpr ⟨_, z, h1, h2, fun j => by have := e j; grind⟩⟩
/-- what holds of every row and of sums and multiples holds of all -/
theorem sp_ind {R : List Vc} {P : Vc → Prop} (h0 : P fun _ => 0) (hr : ∀ r ∈ R, ∀ (c : Rat) (y : Vc), P y → P fun j => y j + c * r j) (he : ∀ x y : Vc, (∀ j, x j = y j) → P x → P y) : ∀ {x : Vc}, Sp R x → P x := by
  induction R with
  | nil => exact fun {x} h => he _ x (fun j => (h j).symm) h0
  | cons r R ih =>
    rintro x ⟨c, h⟩
    have := ih (fun r' hr' => hr r' (List.mem_cons_of_mem _ hr')) h
    exact he _ x (fun j => by grind) (hr r (List.mem_cons_self ..) c _ this)
/-! ### cells at which a new table begins -/
def Piv (V : Vc → Prop) (prev : List Nat) (c : Nat) : Prop := ∃ x, V x ∧ (∀ d ∈ prev, x d = 0) ∧ x c ≠ 0
noncomputable instance pivDec (V : Vc → Prop) (p : List Nat) (c : Nat) : Decidable (Piv V p c) := Classical.propDecidable _
noncomputable def gre (V : Vc → Prop) : List Nat → List Nat → List Nat
  | _, [] => []
  | prev, c :: cs => if Piv V prev c then c :: gre V (prev ++ [c]) cs else gre V (prev ++ [c]) cs
theorem gre_snoc (V : Vc → Prop) (c : Nat) : ∀ (cs prev : List Nat), gre V prev (cs ++ [c]) = gre V prev cs ++ (if Piv V (prev ++ cs) c then [c] else [])
  | [], prev => by
    rw [List.nil_append, List.append_nil]
    show (if Piv V prev c then c :: gre V (prev ++ [c]) [] else gre V (prev ++ [c]) []) = [] ++ _
    split <;> rfl
  | d :: cs, prev => by
    show (if Piv V prev d then d :: gre V (prev ++ [d]) (cs ++ [c]) else gre V (prev ++ [d]) (cs ++ [c])) = (if Piv V prev d then d :: gre V (prev ++ [d]) cs else gre V (prev ++ [d]) cs) ++ _
    have ih := gre_snoc V c cs (prev ++ [d])
    rw [List.append_assoc] at ih
    have e : [d] ++ cs = d :: cs := rfl
    rw [e] at ih
    by_cases h : Piv V prev d
    · rw [if_pos h, if_pos h, ih]; rfl
    · rw [if_neg h, if_neg h, ih]
theorem piv_congr {V V' : Vc → Prop} {p p' : List Nat} {c : Nat} (h : ∀ x, V x ↔ V' x) (hp : ∀ d, d ∈ p ↔ d ∈ p') : Piv V p c ↔ Piv V' p' c :=
  ⟨fun ⟨x, a, b, e⟩ => ⟨x, (h x).mp a, fun d hd => b d ((hp d).mpr hd), e⟩, fun ⟨x, a, b, e⟩ => ⟨x, (h x).mpr a, fun d hd => b d ((hp d).mp hd), e⟩⟩
theorem gre_congr {V V' : Vc → Prop} (h : ∀ x, V x ↔ V' x) : ∀ (cs : List Nat) {p p' : List Nat}, (∀ d, d ∈ p ↔ d ∈ p') → gre V p cs = gre V' p' cs
  | [], _, _, _ => rfl
  | c :: cs, p, p', hp => by
    have ih := gre_congr h cs (p := p ++ [c]) (p' := p' ++ [c]) fun d => by rw [List.mem_append, List.mem_append, hp]
    show (if Piv V p c then _ else _) = (if Piv V' p' c then _ else _)
    by_cases k : Piv V p c
    · rw [if_pos k, if_pos ((piv_congr h hp).mp k), ih]
    · rw [if_neg k, if_neg fun z => k ((piv_congr h hp).mpr z), ih]
theorem gre_len (V : Vc → Prop) : ∀ (cs prev : List Nat), (gre V prev cs).length ≤ cs.length
  | [], _ => Nat.le_refl _
  | d :: cs, prev => by
    show (if Piv V prev d then d :: gre V (prev ++ [d]) cs else gre V (prev ++ [d]) cs).length ≤ _
    have := gre_len V cs (prev ++ [d])
    split <;> simp <;> omega
/-- a table that is 0 at the kept cells, and at those before, is 0 at all that were gone through -/
theorem gre_zero {V : Vc → Prop} {x : Vc} (hx : V x) : ∀ (cs prev : List Nat), (∀ d ∈ prev, x d = 0) → (∀ d ∈ gre V prev cs, x d = 0) → ∀ d ∈ cs, x d = 0
  | [], _, _, _, d, h => by cases h
  | c :: cs, prev, hp, hk, d, h => by
    have e : gre V prev (c :: cs) = if Piv V prev c then c :: gre V (prev ++ [c]) cs else gre V (prev ++ [c]) cs := rfl
    have hc : x c = 0 := by
      by_cases k : Piv V prev c
      · rw [e, if_pos k] at hk
        exact hk c (List.mem_cons_self ..)
      · exact Classical.byContradiction fun z => k ⟨x, hx, hp, z⟩
    have hk2 : ∀ d ∈ gre V (prev ++ [c]) cs, x d = 0 := fun d hd => hk d (by
      rw [e]
      split
      · exact List.mem_cons_of_mem _ hd
      · exact hd)
    rcases List.mem_cons.mp h with z | z
    · exact z ▸ hc
    · exact gre_zero hx cs (prev ++ [c]) (fun d hd => (List.mem_append.mp hd).elim (hp d) fun y => by rw [List.mem_singleton.mp y]; exact hc) hk2 d z
end DL

set_option Elab.async false
set_option linter.all false
set_option maxRecDepth 100000
set_option maxHeartbeats 4000000
/-! small whole factors: more rows than cells have a sum of small multiples that is 0 at the cells -/
namespace DL
theorem pigeon {α β : Type} [DecidableEq α] [DecidableEq β] {f : α → β} {T : List β} : ∀ {L : List α}, L.Nodup → (∀ a ∈ L, f a ∈ T) → T.length < L.length → ∃ a b, a ∈ L ∧ b ∈ L ∧ a ≠ b ∧ f a = f b := by
  intro L hn ht hl
  refine Classical.byContradiction fun no => ?_
  have inj : ∀ a b, a ∈ L → b ∈ L → f a = f b → a = b := fun a b ha hb e => Classical.byContradiction fun z => no ⟨a, b, ha, hb, z, e⟩
  have nd : (L.map f).Nodup := by
    refine List.pairwise_map.mpr (hn.imp_of_mem fun ha hb h e => h (inj _ _ ha hb e))
  have := nodup_sub nd fun y hy => by
    obtain ⟨a, ha, rfl⟩ := List.mem_map.mp hy
    exact ht a ha
  rw [List.length_map] at this
  omega
def boxL (lo : Int) (m : Nat) : Nat → List (List Int)
  | 0 => [[]]
  | n + 1 => (List.range (m + 1)).flatMap fun x : Nat => (boxL lo m n).map fun l => (lo + (x : Int)) :: l
theorem boxL_mem {lo : Int} {m : Nat} : ∀ {n : Nat} {l : List Int}, l ∈ boxL lo m n ↔ l.length = n ∧ ∀ x ∈ l, lo ≤ x ∧ x ≤ lo + m
  | 0, l => by
    show l ∈ [[]] ↔ _
    rw [List.mem_singleton]
    constructor
    · rintro rfl
      exact ⟨rfl, fun x h => by cases h⟩
    · exact fun h => List.eq_nil_of_length_eq_zero h.1
  | n + 1, l => by
    show l ∈ (List.range (m + 1)).flatMap _ ↔ _
    rw [List.mem_flatMap]
    constructor
    · rintro ⟨x, hx, h⟩
      obtain ⟨l', h', rfl⟩ := List.mem_map.mp h
      obtain ⟨e, k⟩ := boxL_mem.mp h'
      have := List.mem_range.mp hx
      refine ⟨by rw [List.length_cons, e], fun y hy => ?_⟩
      rcases List.mem_cons.mp hy with z | z
      · omega
      · exact k y z
    · rintro ⟨e, k⟩
      cases l with
      | nil => cases e
      | cons y l =>
        have hy := k y (List.mem_cons_self ..)
        refine ⟨(y - lo).toNat, List.mem_range.mpr (by omega), List.mem_map.mpr ⟨l, boxL_mem.mpr ⟨by simpa using e, fun z hz => k z (List.mem_cons_of_mem _ hz)⟩, ?_⟩⟩
        have : lo + ((y - lo).toNat : Int) = y := by omega
        rw [this]
theorem boxL_len {lo : Int} {m : Nat} : ∀ n : Nat, (boxL lo m n).length = (m + 1) ^ n
  | 0 => rfl
  | n + 1 => by
    have ih := boxL_len (lo := lo) (m := m) n
    show ((List.range (m + 1)).flatMap _).length = _
    have : ∀ k : Nat, ((List.range k).flatMap fun x : Nat => (boxL lo m n).map fun l => (lo + (x : Int)) :: l).length = k * (m + 1) ^ n := fun k => by
      induction k with
      | zero => simp
      | succ k ihk => rw [List.range_succ, List.flatMap_append, List.length_append, ihk]; simp [ih]; rw [Nat.add_mul]; omega
    rw [this, Nat.pow_succ, Nat.mul_comm]
theorem boxL_nodup {lo : Int} {m : Nat} : ∀ n : Nat, (boxL lo m n).Nodup
  | 0 => by show [[]].Nodup; simp
  | n + 1 => by
    have ih := boxL_nodup (lo := lo) (m := m) n
    show ((List.range (m + 1)).flatMap _).Nodup
    have : ∀ k : Nat, ((List.range k).flatMap fun x : Nat => (boxL lo m n).map fun l => (lo + (x : Int)) :: l).Nodup := fun k => by
      induction k with
      | zero => simp
      | succ k ihk =>
        rw [List.range_succ, List.flatMap_append]
        refine List.nodup_append.mpr ⟨ihk, ?_, ?_⟩
        · simp only [List.flatMap_cons, List.flatMap_nil, List.append_nil]
          exact List.pairwise_map.mpr (ih.imp fun h e => h (List.cons.inj e).2)
        · intro a ha b hb e
          subst e
          obtain ⟨x, hx, h1⟩ := List.mem_flatMap.mp ha
          obtain ⟨l1, _, e1⟩ := List.mem_map.mp h1
          simp only [List.flatMap_cons, List.flatMap_nil, List.append_nil] at hb
          obtain ⟨l2, _, e2⟩ := List.mem_map.mp hb
          have := List.mem_range.mp hx
          rw [← e1] at e2
          have := (List.cons.inj e2).1
          omega
    exact this _
/-- sums of whole multiples -/
def cmb : List Int → List (List Int) → Nat → Int
  | c :: cs, t :: ts, j => c * t.getD j 0 + cmb cs ts j
  | _, _, _ => 0
theorem cmb_sub : ∀ (a b : List Int) (T : List (List Int)) (j : Nat), a.length = T.length → b.length = T.length → cmb (List.zipWith (· - ·) a b) T j = cmb a T j - cmb b T j
  | [], [], [], j, _, _ => rfl
  | x :: a, y :: b, t :: T, j, h, k => by
    have ih := cmb_sub a b T j (by simpa using h) (by simpa using k)
    show (x - y) * t.getD j 0 + cmb (List.zipWith (· - ·) a b) T j = (x * t.getD j 0 + cmb a T j) - (y * t.getD j 0 + cmb b T j)
    rw [ih, Int.sub_mul]
    omega
  | [], _, _ :: _, _, h, _ => by cases h
  | _ :: _, _, [], _, h, _ => by cases h
  | _, [], _ :: _, _, _, h => by cases h
  | _, _ :: _, [], _, _, h => by cases h
theorem cmb_bound {B M : Nat} {j : Nat} : ∀ (c : List Int) (T : List (List Int)), (∀ x ∈ c, x.natAbs ≤ B) → (∀ t ∈ T, (t.getD j 0).natAbs ≤ M) → (cmb c T j).natAbs ≤ T.length * (B * M)
  | [], T, _, _ => by cases T <;> exact Nat.zero_le _
  | _ :: _, [], _, _ => Nat.zero_le _
  | x :: c, t :: T, h, k => by
    have ih := cmb_bound c T (fun y hy => h y (List.mem_cons_of_mem _ hy)) fun y hy => k y (List.mem_cons_of_mem _ hy)
    have h1 := h x (List.mem_cons_self ..)
    have h2 := k t (List.mem_cons_self ..)
    have h3 : (x * t.getD j 0).natAbs ≤ B * M := by rw [Int.natAbs_mul]; exact Nat.mul_le_mul h1 h2
    show (x * t.getD j 0 + cmb c T j).natAbs ≤ _
    rw [List.length_cons, Nat.add_mul]
    omega
theorem zip_sub_mem : ∀ {a b : List Int} {x : Int}, x ∈ List.zipWith (· - ·) a b → ∃ y z, y ∈ a ∧ z ∈ b ∧ x = y - z
  | y :: a, z :: b, x, h => by
    rcases List.mem_cons.mp h with e | e
    · exact ⟨y, z, List.mem_cons_self .., List.mem_cons_self .., e⟩
    · obtain ⟨y', z', h1, h2, e⟩ := zip_sub_mem e
      exact ⟨y', z', List.mem_cons_of_mem _ h1, List.mem_cons_of_mem _ h2, e⟩
theorem zip_sub_ne : ∀ {a b : List Int}, a.length = b.length → a ≠ b → ∃ x ∈ List.zipWith (· - ·) a b, x ≠ 0
  | [], [], _, h => absurd rfl h
  | y :: a, z :: b, l, h => by
    by_cases e : y = z
    · obtain ⟨x, hx, n⟩ := zip_sub_ne (a := a) (b := b) (by simpa using l) (fun q => h (by rw [e, q]))
      exact ⟨x, List.mem_cons_of_mem _ hx, n⟩
    · exact ⟨y - z, List.mem_cons_self .., by omega⟩
theorem siegel {T : List (List Int)} {ps : List Nat} {M : Nat} (hM : ∀ t ∈ T, ∀ p ∈ ps, (t.getD p 0).natAbs ≤ M) (hn : ps.length < T.length) :
    ∃ c : List Int, c.length = T.length ∧ (∃ x ∈ c, x ≠ 0) ∧ (∀ x ∈ c, x.natAbs ≤ (2 * T.length * M + 1) ^ ps.length) ∧ ∀ p ∈ ps, cmb c T p = 0 := by
  let n := T.length
  let q := 2 * T.length * M + 1
  let B := q ^ ps.length
  let m := 2 * (T.length * (B * M))
  have key : (boxL (-(T.length * (B * M) : Nat)) m ps.length).length < (boxL 0 B n).length := by
    rw [boxL_len, boxL_len]
    have h1 : m + 1 ≤ q * (B + 1) := by
      show 2 * (T.length * (B * M)) + 1 ≤ (2 * T.length * M + 1) * (B + 1)
      have e : 2 * (T.length * (B * M)) = 2 * T.length * M * B := by
        rw [← Nat.mul_assoc, ← Nat.mul_assoc, Nat.mul_right_comm (2 * T.length) B M]
      rw [e, Nat.add_mul, Nat.mul_add]
      omega
    have h2 : (m + 1) ^ ps.length ≤ q ^ ps.length * (B + 1) ^ ps.length := by
      rw [← Nat.mul_pow]
      exact Nat.pow_le_pow_left h1 _
    have h3 : q ^ ps.length * (B + 1) ^ ps.length < (B + 1) * (B + 1) ^ ps.length := Nat.mul_lt_mul_of_pos_right (Nat.lt_succ_self _) (Nat.pow_pos (Nat.succ_pos _))
    have h4 : (B + 1) * (B + 1) ^ ps.length ≤ (B + 1) ^ n := by
      rw [Nat.mul_comm, ← Nat.pow_succ]
      exact Nat.pow_le_pow_right (Nat.succ_pos _) hn
    exact Nat.lt_of_le_of_lt h2 (Nat.lt_of_lt_of_le h3 h4)
  obtain ⟨a, b, ha, hb, ne, e⟩ := pigeon (f := fun c => ps.map fun p => cmb c T p) (boxL_nodup n) (fun a ha => by
    obtain ⟨l, k⟩ := boxL_mem.mp ha
    refine boxL_mem.mpr ⟨List.length_map _, fun x hx => ?_⟩
    obtain ⟨p, hp, rfl⟩ := List.mem_map.mp hx
    have := cmb_bound (B := B) (M := M) (j := p) a T (fun y hy => by have := k y hy; omega) fun t ht => hM t ht p hp
    show -((T.length * (B * M) : Nat) : Int) ≤ cmb a T p ∧ cmb a T p ≤ -((T.length * (B * M) : Nat) : Int) + ((2 * (T.length * (B * M)) : Nat) : Int)
    omega) key
  obtain ⟨la, ka⟩ := boxL_mem.mp ha
  obtain ⟨lb, kb⟩ := boxL_mem.mp hb
  refine ⟨List.zipWith (· - ·) a b, by rw [List.length_zipWith, la, lb]; exact Nat.min_self _, zip_sub_ne (la.trans lb.symm) ne, fun x hx => ?_, fun p hp => ?_⟩
  · obtain ⟨y, z, hy, hz, rfl⟩ := zip_sub_mem hx
    have h1 := ka y hy
    have h2 := kb z hz
    show (y - z).natAbs ≤ B
    omega
  · rw [cmb_sub a b T p la lb]
    have := List.map_inj_left.mp e p hp
    have h : cmb a T p = cmb b T p := this
    omega
end DL

set_option Elab.async false
set_option linter.all false
set_option maxRecDepth 100000
set_option maxHeartbeats 4000000
/-! clearing rows, cell by cell: what stands still -/
namespace DL
open PySem L2
def vi (l : List Int) : Vc := fun j => ((l.getD j 0 : Int) : Rat)
theorem vi_zero {l : List Int} {j : Nat} : vi l j = 0 ↔ l.getD j 0 = 0 := by
  unfold vi
  exact ⟨fun h => by exact_mod_cast h, fun h => by rw [h]; rfl⟩
theorem sp_cmb : ∀ (c : List Int) (T : List (List Int)), Sp (T.map vi) (fun j => ((cmb c T j : Int) : Rat))
  | [], T => sp_zero fun j => by cases T <;> rfl
  | _ :: _, [] => fun j => rfl
  | x :: c, t :: T => ⟨(x : Rat), (sp_cmb c T).to fun j => by
      show ((cmb c T j : Int) : Rat) = ((x * t.getD j 0 + cmb c T j : Int) : Rat) - (x : Rat) * vi t j
      unfold vi
      rw [Rat.intCast_add, Rat.intCast_mul]
      grind⟩
/-- no sum of whole multiples is 0 but that without any -/
def Ind (S : List (List Int)) : Prop := ∀ c : List Int, c.length = S.length → (∀ j, cmb c S j = 0) → ∀ x ∈ c, x = 0
theorem ind_nil : Ind [] := fun c h _ x hx => by rw [List.eq_nil_of_length_eq_zero h] at hx; cases hx
theorem cmb_snoc : ∀ (c : List Int) (S : List (List Int)) (d : Int) (o : List Int) (j : Nat), c.length = S.length → cmb (c ++ [d]) (S ++ [o]) j = cmb c S j + d * o.getD j 0
  | [], [], d, o, j, _ => by show d * o.getD j 0 + 0 = 0 + _; omega
  | x :: c, s :: S, d, o, j, h => by
    have := cmb_snoc c S d o j (by simpa using h)
    show x * s.getD j 0 + cmb (c ++ [d]) (S ++ [o]) j = x * s.getD j 0 + cmb c S j + _
    rw [this]
    omega
  | [], _ :: _, _, _, _, h => by cases h
  | _ :: _, [], _, _, _, h => by cases h
theorem ind_snoc {S : List (List Int)} {o : List Int} (h : Ind S) (n : ¬ Sp (S.map vi) (vi o)) : Ind (S ++ [o]) := fun c hl hz => by
  rcases List.eq_nil_or_concat c with rfl | ⟨c', d, rfl⟩
  · exact fun x hx => by cases hx
  · rw [List.concat_eq_append] at hl hz ⊢
    have l2 : c'.length = S.length := by simpa using hl
    have hz2 : ∀ j, cmb c' S j + d * o.getD j 0 = 0 := fun j => by rw [← cmb_snoc c' S d o j l2]; exact hz j
    by_cases hd : d = 0
    · subst hd
      have := h c' l2 fun j => by have := hz2 j; omega
      intro x hx
      rcases List.mem_append.mp hx with e | e
      · exact this x e
      · exact List.mem_singleton.mp e
    · refine absurd ?_ n
      have q := sp_mul (-(1 / (d : Rat))) (sp_cmb c' S)
      refine q.to fun j => ?_
      have hj := hz2 j
      have hq : ((cmb c' S j : Int) : Rat) + (d : Rat) * ((o.getD j 0 : Int) : Rat) = 0 := by rw [← Rat.intCast_mul, ← Rat.intCast_add, hj]; rfl
      have dq : (d : Rat) ≠ 0 := fun z => hd (by exact_mod_cast z)
      show -(1 / (d : Rat)) * ((cmb c' S j : Int) : Rat) = ((o.getD j 0 : Int) : Rat)
      grind
/-- rows and cells in pairs: each row is not 0 at its own cell alone -/
def Dg : List Vc → List Nat → Prop
  | [], [] => True
  | l :: L, k :: K => l k ≠ 0 ∧ (∀ m ∈ L, m k = 0) ∧ (∀ d ∈ K, l d = 0) ∧ Dg L K
  | _, _ => False
theorem dg_len : ∀ {L : List Vc} {K : List Nat}, Dg L K → L.length = K.length
  | [], [], _ => rfl
  | _ :: L, _ :: K, h => by rw [List.length_cons, List.length_cons, dg_len h.2.2.2]
  | [], _ :: _, h => h.elim
  | _ :: _, [], h => h.elim
theorem sp_at {R : List Vc} {d : Nat} (h : ∀ r ∈ R, r d = 0) {x : Vc} (hx : Sp R x) : x d = 0 :=
  sp_ind (P := fun x => x d = 0) rfl (fun r hr c y hy => by show y d + c * r d = 0; rw [hy, h r hr]; grind) (fun x y e hx => by rw [← e]; exact hx) hx
theorem dg_zero : ∀ {L : List Vc} {K : List Nat} {y : Vc}, Dg L K → Sp L y → (∀ k ∈ K, y k = 0) → ∀ j, y j = 0
  | [], [], _, _, h, _ => h
  | l :: L, k :: K, y, ⟨h1, h2, h3, h4⟩, ⟨c, hs⟩, hk => by
    have e1 := sp_at h2 hs
    have e2 := hk k (List.mem_cons_self ..)
    have hc : c = 0 := by
      have : c * l k = 0 := by grind
      rcases Rat.mul_eq_zero.mp this with z | z
      · exact z
      · exact absurd z h1
    subst hc
    have hs2 : Sp L y := hs.to fun j => by grind
    exact dg_zero h4 hs2 fun d hd => hk d (List.mem_cons_of_mem _ hd)
  | [], _ :: _, _, h, _, _ => h.elim
  | _ :: _, [], _, h, _, _ => h.elim
theorem dg_snoc : ∀ {L : List Vc} {K : List Nat} {l : Vc} {k : Nat}, Dg L K → (∀ m ∈ L, m k = 0) → l k ≠ 0 → (∀ d ∈ K, l d = 0) → Dg (L ++ [l]) (K ++ [k])
  | [], [], l, k, _, _, h, _ => by
    show l k ≠ 0 ∧ (∀ m ∈ ([] : List Vc), m k = 0) ∧ (∀ d ∈ ([] : List Nat), l d = 0) ∧ True
    exact ⟨h, fun m hm => (List.not_mem_nil hm).elim, fun d hd => (List.not_mem_nil hd).elim, trivial⟩
  | m :: L, d :: K, l, k, ⟨a, b, c, e⟩, h1, h2, h3 => by
    refine ⟨a, fun x hx => ?_, fun x hx => ?_, dg_snoc e (fun x hx => h1 x (List.mem_cons_of_mem _ hx)) h2 fun x hx => h3 x (List.mem_cons_of_mem _ hx)⟩
    · rcases List.mem_append.mp hx with z | z
      · exact b x z
      · rw [List.mem_singleton.mp z]; exact h3 d (List.mem_cons_self ..)
    · rcases List.mem_append.mp hx with z | z
      · exact c x z
      · rw [List.mem_singleton.mp z]; exact h1 m (List.mem_cons_self ..)
  | [], _ :: _, _, _, h, _, _, _ => h.elim
  | _ :: _, [], _, _, h, _, _, _ => h.elim
/-- a multiple of a row and a multiple of the lead, 0 at the cell -/
def Red (l : Vc) (c : Nat) (r r' : Vc) : Prop := (∃ a b : Rat, a ≠ 0 ∧ ∀ j, r' j = a * r j - b * l j) ∧ r' c = 0
theorem dg_red {l : Vc} {c : Nat} : ∀ {L L' : List Vc} {K : List Nat}, Paired (Red l c) L L' → (∀ d ∈ K, l d = 0) → Dg L K → Dg L' K
  | _, _, [], .nil, _, h => h
  | _, _, k :: K, .cons (a := m) (b := m') (l₁ := L) (l₂ := L') ⟨⟨a, b, ha, e⟩, _⟩ t, hl, ⟨h1, h2, h3, h4⟩ => by
    have hk := hl k (List.mem_cons_self ..)
    refine ⟨fun z => ?_, fun m2 hm2 => ?_, fun d hd => ?_, dg_red t (fun d hd => hl d (List.mem_cons_of_mem _ hd)) h4⟩
    · rw [e, hk] at z
      have : a * m k = 0 := by grind
      rcases Rat.mul_eq_zero.mp this with y | y
      · exact ha y
      · exact h1 y
    · have : ∀ {A A' : List Vc}, Paired (Red l c) A A' → (∀ x ∈ A, x k = 0) → ∀ x ∈ A', x k = 0 := by
        intro A A' hp
        induction hp with
        | nil => exact fun _ x hx => by cases hx
        | cons h t ih =>
          obtain ⟨⟨a, b, ha, e⟩, _⟩ := h
          intro hA x hx
          rcases List.mem_cons.mp hx with z | z
          · rw [z, e, hk, hA _ (List.mem_cons_self ..)]; grind
          · exact ih (fun y hy => hA y (List.mem_cons_of_mem _ hy)) x z
      exact this t h2 m2 hm2
    · rw [e, hl d (List.mem_cons_of_mem _ hd), h3 d hd]; grind
  | _, _, [], .cons .., _, h => h.elim
  | _, _, _ :: _, .nil, _, h => h.elim
end DL

set_option Elab.async false
set_option linter.all false
set_option maxRecDepth 100000
set_option maxHeartbeats 4000000
/-! clearing rows: the state after each cell -/
namespace DL
open PySem L2
/-- o leads to r, but for a multiple other than 0 and a sum of leads -/
def Fr (L : List Vc) (r o : List Int) : Prop := ∃ (c : Rat) (y : Vc), c ≠ 0 ∧ Sp L y ∧ ∀ j, vi r j = c * vi o j + y j
structure CI (rows : List (List Int)) (done K : List Nat) (L : List Vc) (R S O : List (List Int)) : Prop where
  dg : Dg L K
  ro : Paired (Fr L) R O
  span : ∀ x, Sp (L ++ R.map vi) x ↔ Sp (rows.map vi) x
  spS : ∀ x, Sp L x ↔ Sp (S.map vi) x
  ks : S.length = K.length
  zero : ∀ r ∈ R, ∀ d ∈ done, r.getD d 0 = 0
  sub : ∀ k ∈ K, k ∈ done
  ind : Ind S
  mS : ∀ s ∈ S, s ∈ rows
  mO : ∀ o ∈ O, o ∈ rows
  gr : K = gre (Sp (rows.map vi)) [] done
theorem paired_mono {α β : Type} {F G : α → β → Prop} (h : ∀ a b, F a b → G a b) : ∀ {l : List α} {m : List β}, Paired F l m → Paired G l m
  | _, _, .nil => .nil
  | _, _, .cons a t => .cons (h _ _ a) (paired_mono h t)
theorem paired_split {α β : Type} {F : α → β → Prop} {r : α} : ∀ {R1 R2 : List α} {O : List β}, Paired F (R1 ++ r :: R2) O → ∃ O1 o O2, O = O1 ++ o :: O2 ∧ Paired F R1 O1 ∧ F r o ∧ Paired F R2 O2
  | [], R2, _, .cons h t => ⟨[], _, _, rfl, .nil, h, t⟩
  | x :: R1, R2, _, .cons h t => by
    obtain ⟨O1, o, O2, e, a, b, c⟩ := paired_split (R1 := R1) t
    exact ⟨_ :: O1, o, O2, by rw [e]; rfl, .cons h a, b, c⟩
theorem paired_app {α β : Type} {F : α → β → Prop} : ∀ {l l2 : List α} {m m2 : List β}, Paired F l m → Paired F l2 m2 → Paired F (l ++ l2) (m ++ m2)
  | _, _, _, _, .nil, k => k
  | _, _, _, _, .cons h t, k => .cons h (paired_app t k)
theorem paired_mem {α β : Type} {F : α → β → Prop} : ∀ {l : List α} {m : List β}, Paired F l m → ∀ b ∈ m, ∃ a ∈ l, F a b
  | _, _, .cons h t, b, hb => by
    rcases List.mem_cons.mp hb with e | e
    · exact ⟨_, List.mem_cons_self .., e ▸ h⟩
    · obtain ⟨a, ha, k⟩ := paired_mem t b e
      exact ⟨a, List.mem_cons_of_mem _ ha, k⟩
theorem paired_memL {α β : Type} {F : α → β → Prop} : ∀ {l : List α} {m : List β}, Paired F l m → ∀ a ∈ l, ∃ b ∈ m, F a b
  | _, _, .cons h t, a, ha => by
    rcases List.mem_cons.mp ha with e | e
    · exact ⟨_, List.mem_cons_self .., e ▸ h⟩
    · obtain ⟨b, hb, k⟩ := paired_memL t a e
      exact ⟨b, List.mem_cons_of_mem _ hb, k⟩
theorem ci_start {rows : List (List Int)} : CI rows [] [] [] rows [] rows where
  dg := trivial
  ro := by
    have : ∀ l : List (List Int), Paired (Fr []) l l := fun l => by
      induction l with
      | nil => exact .nil
      | cons a l ih => exact .cons ⟨1, fun _ => 0, by decide, fun _ => rfl, fun j => by grind⟩ ih
    exact this rows
  span := fun x => Iff.rfl
  spS := fun x => Iff.rfl
  ks := rfl
  zero := fun r _ d h => (List.not_mem_nil h).elim
  sub := fun k h => (List.not_mem_nil h).elim
  ind := ind_nil
  mS := fun s h => (List.not_mem_nil h).elim
  mO := fun _ h => h
  gr := rfl
section
variable {rows : List (List Int)} {done K : List Nat} {L L' : List Vc} {R S O R1 R2 R' : List (List Int)} {c : Nat} {l : List Int}
theorem CI.inV (I : CI rows done K L R S O) {x : Vc} (h : Sp (rows.map vi) x) (hz : ∀ d ∈ done, x d = 0) : Sp (R.map vi) x := by
  obtain ⟨y, z, hy, hz', e⟩ := sp_app.mp ((I.span x).mpr h)
  have z0 : ∀ d ∈ done, z d = 0 := fun d hd => sp_at (fun r hr => by
    obtain ⟨r', h', rfl⟩ := List.mem_map.mp hr
    exact vi_zero.mpr (I.zero r' h' d hd)) hz'
  have y0 := dg_zero I.dg hy fun k hk => by
    have h1 := hz k (I.sub k hk)
    have h2 := z0 k (I.sub k hk)
    have h3 := e k
    grind
  exact hz'.to fun j => by have := e j; have := y0 j; grind
theorem ci_skip (I : CI rows done K L R S O) (h : ∀ r ∈ R, r.getD c 0 = 0) : CI rows (done ++ [c]) K L R S O where
  dg := I.dg
  ro := I.ro
  span := I.span
  spS := I.spS
  ks := I.ks
  zero := fun r hr d hd => (List.mem_append.mp hd).elim (I.zero r hr d) fun z => by rw [List.mem_singleton.mp z]; exact h r hr
  sub := fun k hk => List.mem_append_left _ (I.sub k hk)
  ind := I.ind
  mS := I.mS
  mO := I.mO
  gr := by
    rw [gre_snoc, List.nil_append, ← I.gr, if_neg, List.append_nil]
    rintro ⟨x, h1, h2, h3⟩
    exact h3 (sp_at (fun r hr => by
      obtain ⟨r', h', rfl⟩ := List.mem_map.mp hr
      exact vi_zero.mpr (h r' h')) (I.inV h1 h2))
theorem red_span {l : Vc} {c : Nat} : ∀ {A A' : List Vc}, Paired (Red l c) A A' → ∀ x, Sp (A' ++ [l]) x ↔ Sp (A ++ [l]) x
  | _, _, .nil, _ => Iff.rfl
  | _, _, .cons (a := r) (b := r') (l₁ := A) (l₂ := A') ⟨⟨a, b, ha, e⟩, _⟩ t, x => by
    have ih := red_span t
    have ml : ∀ {B : List Vc}, Sp (B ++ [l]) l := fun {B} => sp_mem (List.mem_append_right _ (List.mem_singleton.mpr rfl))
    constructor
    · refine fun h => sp_le (fun q hq => ?_) h
      rcases List.mem_cons.mp hq with z | z
      · rw [z]
        exact (sp_sub (sp_mul a (sp_head (R := A ++ [l]) (r := r))) (sp_mul b (sp_cons ml))).to fun j => (e j).symm
      · exact sp_cons ((ih q).mp (sp_mem z))
    · refine fun h => sp_le (fun q hq => ?_) h
      rcases List.mem_cons.mp hq with z | z
      · rw [z]
        exact (sp_mul (1 / a) (sp_add (sp_head (R := A' ++ [l]) (r := r')) (sp_mul b (sp_cons ml)))).to fun j => by
          show 1 / a * (r' j + b * l j) = r j
          rw [e j]
          grind
      · exact sp_cons ((ih q).mpr (sp_mem z))
theorem red_fr {L' : List Vc} {r r' o l : List Int} {c : Nat} (hl : Sp L' (vi l)) (h : Red (vi l) c (vi r) (vi r')) (k : Fr L' r o) : Fr L' r' o := by
  obtain ⟨⟨a, b, ha, e⟩, _⟩ := h
  obtain ⟨d, y, hd, hy, e2⟩ := k
  exact ⟨a * d, fun j => a * y j - b * vi l j, fun z => (Rat.mul_eq_zero.mp z).elim ha hd, sp_sub (sp_mul a hy) (sp_mul b hl), fun j => by rw [e, e2]; grind⟩
theorem ci_take (I : CI rows done K L (R1 ++ l :: R2) S O) (hc : l.getD c 0 ≠ 0) (hL : Paired (Red (vi l) c) L L') (hR : Paired (fun r r' => Red (vi l) c (vi r) (vi r')) (R1 ++ R2) R') :
    ∃ o O', o ∈ rows ∧ CI rows (done ++ [c]) (K ++ [c]) (L' ++ [vi l]) R' (S ++ [o]) O' := by
  obtain ⟨O1, o, O2, rfl, p1, po, p2⟩ := paired_split I.ro
  have lz : ∀ d ∈ done, vi l d = 0 := fun d hd => vi_zero.mpr (I.zero l (List.mem_append_right _ (List.mem_cons_self ..)) d hd)
  have lc : vi l c ≠ 0 := fun z => hc (vi_zero.mp z)
  have hK : ∀ d ∈ K, vi l d = 0 := fun d hd => lz d (I.sub d hd)
  have sL : ∀ x, Sp (L' ++ [vi l]) x ↔ Sp (L ++ [vi l]) x := red_span hL
  have mem1 : Sp (L' ++ [vi l]) (vi l) := sp_mem (List.mem_append_right _ (List.mem_singleton.mpr rfl))
  have up : ∀ {x}, Sp L x → Sp (L' ++ [vi l]) x := fun {x} h => (sL x).mpr (sp_sub_of (fun r hr => List.mem_append_left _ hr) h)
  have frup : ∀ r o', Fr L r o' → Fr (L' ++ [vi l]) r o' := fun r o' ⟨d, y, h1, h2, h3⟩ => ⟨d, y, h1, up h2, h3⟩
  obtain ⟨d, y, hd, hy, e⟩ := po
  have oS : Sp (L ++ [vi l]) (vi o) := by
    have h1 : Sp (L ++ [vi l]) (vi l) := sp_mem (List.mem_append_right _ (List.mem_singleton.mpr rfl))
    have h2 : Sp (L ++ [vi l]) y := sp_sub_of (fun r hr => List.mem_append_left _ hr) hy
    exact (sp_mul (1 / d) (sp_sub h1 h2)).to fun j => by
      show 1 / d * (vi l j - y j) = vi o j
      rw [e j]
      grind
  have no : ¬ Sp (S.map vi) (vi o) := fun z => by
    have z1 := (I.spS _).mpr z
    have z2 : Sp L (vi l) := (sp_add (sp_mul d z1) hy).to fun j => (e j).symm
    exact lc (dg_zero I.dg z2 hK c)
  refine ⟨o, O1 ++ O2, I.mO o (List.mem_append_right _ (List.mem_cons_self ..)), ?_⟩
  have L'0 : ∀ m ∈ L', m c = 0 := fun m hm => by
    obtain ⟨r, _, h⟩ := paired_mem hL m hm
    exact h.2
  exact {
    dg := dg_snoc (dg_red hL hK I.dg) L'0 lc hK
    ro := by
      have q : Paired (Fr (L' ++ [vi l])) (R1 ++ R2) (O1 ++ O2) := paired_app (paired_mono frup p1) (paired_mono frup p2)
      have : ∀ {A B : List (List Int)} {A' : List (List Int)}, Paired (fun r r' => Red (vi l) c (vi r) (vi r')) A A' → Paired (Fr (L' ++ [vi l])) A B → Paired (Fr (L' ++ [vi l])) A' B := by
        intro A B A' h1
        induction h1 generalizing B with
        | nil => exact fun h => h
        | cons a t ih =>
          intro h
          cases h with
          | cons b t2 => exact .cons (red_fr mem1 a b) (ih t2)
      exact this hR q
    span := fun x => by
      have hR2 : Paired (Red (vi l) c) ((R1 ++ R2).map vi) (R'.map vi) := by
        have : ∀ {A A' : List (List Int)}, Paired (fun r r' => Red (vi l) c (vi r) (vi r')) A A' → Paired (Red (vi l) c) (A.map vi) (A'.map vi) := by
          intro A A' h
          induction h with
          | nil => exact .nil
          | cons a t ih => exact .cons a ih
        exact this hR
      have e1 := red_span (paired_app hL hR2) x
      rw [← I.span x]
      refine Iff.trans ?_ (e1.trans ?_)
      · exact sp_perm fun r => by simp only [List.mem_append, List.mem_singleton]; exact ⟨fun h => by rcases h with (h | h) | h <;> simp [h], fun h => by rcases h with (h | h) | h <;> simp [h]⟩
      · exact sp_perm fun r => by
          simp only [List.mem_append, List.map_append, List.map_cons, List.mem_cons, List.not_mem_nil, or_false]
          grind
    spS := fun x => by
      rw [sL, List.map_append]
      constructor
      · refine fun h => sp_le (fun q hq => ?_) h
        rcases List.mem_append.mp hq with z | z
        · exact sp_sub_of (fun r hr => List.mem_append_left _ hr) ((I.spS q).mp (sp_mem z))
        · rw [List.mem_singleton.mp z]
          have h1 : Sp (S.map vi ++ [o].map vi) (vi o) := sp_mem (List.mem_append_right _ (List.mem_singleton.mpr rfl))
          have h2 : Sp (S.map vi ++ [o].map vi) y := sp_sub_of (fun r hr => List.mem_append_left _ hr) ((I.spS y).mp hy)
          exact (sp_add (sp_mul d h1) h2).to fun j => (e j).symm
      · refine fun h => sp_le (fun q hq => ?_) h
        rcases List.mem_append.mp hq with z | z
        · exact sp_sub_of (fun r hr => List.mem_append_left _ hr) ((I.spS q).mpr (sp_mem z))
        · rw [show q = vi o from by simpa using z]
          exact oS
    ks := by rw [List.length_append, List.length_append, I.ks]; rfl
    zero := fun r hr d hd => by
      obtain ⟨r0, h0, ⟨⟨a, b, ha, er⟩, hz⟩⟩ := paired_mem hR r hr
      have h0' : r0 ∈ R1 ++ l :: R2 := (List.mem_append.mp h0).elim (fun z => List.mem_append_left _ z) fun z => List.mem_append_right _ (List.mem_cons_of_mem _ z)
      rcases List.mem_append.mp hd with z | z
      · refine vi_zero.mp ?_
        rw [er, vi_zero.mpr (I.zero r0 h0' d z), lz d z]
        grind
      · rw [List.mem_singleton.mp z]
        exact vi_zero.mp hz
    sub := fun k hk => (List.mem_append.mp hk).elim (fun z => List.mem_append_left _ (I.sub k z)) fun z => List.mem_append_right _ z
    ind := ind_snoc I.ind no
    mS := fun s hs => (List.mem_append.mp hs).elim (I.mS s) fun z => by rw [List.mem_singleton.mp z]; exact I.mO o (List.mem_append_right _ (List.mem_cons_self ..))
    mO := fun q hq => I.mO q ((List.mem_append.mp hq).elim (fun z => List.mem_append_left _ z) fun z => List.mem_append_right _ (List.mem_cons_of_mem _ z))
    gr := by
      rw [gre_snoc, List.nil_append, ← I.gr, if_pos]
      refine ⟨vi l, (I.span _).mp (sp_mem (List.mem_append_right _ (List.mem_map.mpr ⟨l, List.mem_append_right _ (List.mem_cons_self ..), rfl⟩))), lz, lc⟩ }
end
/-! ### how large the numbers are -/
def bnd (n M : Nat) : Nat := n * ((2 * n * M + 1) ^ (n - 1) * M)
theorem small_of {T : List (List Int)} {ps : List Nat} {M : Nat} {v : List Int} (hM : ∀ t ∈ T, ∀ j, (t.getD j 0).natAbs ≤ M) (hn : ps.length < T.length) (hi : Ind T) (hv : gl v = 1) (h1 : ∀ x, Sp (T.map vi) x → (∀ p ∈ ps, x p = 0) → ∃ m : Rat, ∀ j, x j = m * vi v j) (j : Nat) :
    (v.getD j 0).natAbs ≤ bnd T.length M := by
  obtain ⟨c, l1, ⟨x0, hx0, nx0⟩, hB, hz⟩ := siegel (T := T) (ps := ps) (M := M) (fun t ht p _ => hM t ht p) hn
  have nz : ∃ i, cmb c T i ≠ 0 := Classical.byContradiction fun z => nx0 (hi c l1 (fun i => Classical.byContradiction fun y => z ⟨i, y⟩) x0 hx0)
  obtain ⟨i0, hi0⟩ := nz
  obtain ⟨m, hm⟩ := h1 _ (sp_cmb c T) fun p hp => by
    show ((cmb c T p : Int) : Rat) = 0
    rw [hz p hp]; rfl
  have hm' : ∀ i, ((cmb c T i : Int) : Rat) = m * ((v.getD i 0 : Int) : Rat) := hm
  have m0 : m ≠ 0 := fun z => hi0 (by
    have := hm' i0
    rw [z] at this
    have h : ((cmb c T i0 : Int) : Rat) = 0 := by rw [this]; grind
    exact_mod_cast h)
  have mult : ∀ i, m.num * v.getD i 0 = cmb c T i * (m.den : Int) := fun i => by
    have h := hm' i
    have hd : ((m.den : Int) : Rat) ≠ 0 := by
      have := m.den_nz
      exact_mod_cast this
    have e : m * ((m.den : Int) : Rat) = (m.num : Rat) := by
      have := Rat.mkRat_eq_div m.num m.den
      rw [Rat.mkRat_self] at this
      have hd2 : (m.den : Rat) ≠ 0 := by exact_mod_cast m.den_nz
      have e3 : ((m.den : Int) : Rat) = (m.den : Rat) := rfl
      rw [e3]
      generalize (m.num : Rat) = A at this ⊢
      generalize (m.den : Rat) = D at this hd2 ⊢
      rw [this]
      grind
    have : (m.num : Rat) * ((v.getD i 0 : Int) : Rat) = ((cmb c T i : Int) : Rat) * ((m.den : Int) : Rat) := by
      rw [h, ← e]
      grind
    exact_mod_cast this
  have den1 : m.den = 1 := by
    have : m.den ∣ gl v := gl_dvd.mpr fun x hx => by
      obtain ⟨i, hi, rfl⟩ := List.mem_iff_getElem.mp hx
      have h := mult i
      rw [List.getD_eq_getElem?_getD, List.getElem?_eq_getElem hi, Option.getD_some] at h
      have hdv : (m.den : Int) ∣ m.num * v[i] := ⟨cmb c T i, by rw [h, Int.mul_comm]⟩
      have cop : Int.gcd (m.den : Int) m.num = 1 := by
        have := m.reduced
        rw [Int.gcd_comm]
        exact this
      have h3 := Int.dvd_gcd_mul_iff_dvd_mul.mpr hdv
      rw [cop] at h3
      simpa using h3
    rw [hv] at this
    exact Nat.dvd_one.mp this
  have fin := mult j
  rw [den1] at fin
  have n0 : m.num ≠ 0 := fun z => m0 (Rat.num_eq_zero.mp z)
  have h2 : (v.getD j 0).natAbs ≤ (cmb c T j).natAbs := by
    have : cmb c T j = m.num * v.getD j 0 := by rw [fin]; simp
    rw [this, Int.natAbs_mul]
    exact Nat.le_mul_of_pos_left _ (by omega)
  refine Nat.le_trans h2 (Nat.le_trans (cmb_bound c T hB fun t ht => hM t ht j) ?_)
  unfold bnd
  refine Nat.mul_le_mul_left _ (Nat.mul_le_mul_right _ (Nat.pow_le_pow_right (Nat.succ_pos _) (by omega)))
end DL

set_option Elab.async false
set_option linter.all false
set_option maxRecDepth 100000
set_option maxHeartbeats 4000000
/-! what the program's clearing gives -/
namespace DL
open PySem L2
/-- without a common divisor, the first number above 0; or zeros -/
def Lw (r : List Int) : Prop := (gl r = 1 ∧ ∃ z, fnz r = some z ∧ 0 < z) ∨ fnz r = none
theorem fnz_zero {r : List Int} (h : fnz r = none) (j : Nat) : r.getD j 0 = 0 := by
  rw [List.getD_eq_getElem?_getD]
  cases e : r[j]? with
  | none => rfl
  | some x => exact fnz_none h x (List.mem_of_getElem? e)
theorem lw_lowest (ns : List Int) : Lw (lowest ns) := by
  cases h : fnz ns with
  | none =>
    have : lowest ns = ns := by unfold lowest; rw [h]
    exact .inr (by rw [this, h])
  | some z =>
    obtain ⟨L, _⟩ := low_lowest h
    exact .inl ⟨L.one, L.pos⟩
theorem getD_mapZ {f : Int → Int} (hf : f 0 = 0) (l : List Int) (j : Nat) : (l.map f).getD j 0 = f (l.getD j 0) := by
  rw [List.getD_eq_getElem?_getD, List.getD_eq_getElem?_getD, List.getElem?_map]
  cases l[j]? with
  | none => exact hf.symm
  | some x => rfl
theorem lowest_mul (ns : List Int) : ∃ a : Rat, a ≠ 0 ∧ ∀ j, vi (lowest ns) j = a * vi ns j := by
  cases h : fnz ns with
  | none =>
    have : lowest ns = ns := by unfold lowest; rw [h]
    exact ⟨1, by decide, fun j => by rw [this]; grind⟩
  | some z =>
    obtain ⟨L, _⟩ := low_lowest h
    obtain ⟨d, hd, e⟩ := L.ex
    have dq : (d : Rat) ≠ 0 := fun y => hd (by exact_mod_cast y)
    refine ⟨1 / (d : Rat), fun y => ?_, fun j => ?_⟩
    · have : (1 : Rat) = 0 := by grind
      exact absurd this (by decide)
    · have : vi ns j = (d : Rat) * vi (lowest ns) j := by
        unfold vi
        rw [← Rat.intCast_mul]
        have h2 : ns.getD j 0 = ((lowest ns).map fun x => d * x).getD j 0 := by rw [← e]
        rw [h2, getD_mapZ (Int.mul_zero d)]
      rw [this]
      grind
def crs (row lead : List Int) (c : Nat) : List Int := (List.range (min row.length lead.length)).map fun i => row.getD i 0 * lead.getD c 0 - lead.getD i 0 * row.getD c 0
def lowd (row lead : List Int) (c : Nat) : List Int := lowest (crs row lead c)
theorem crs_len (row lead : List Int) (c : Nat) : (crs row lead c).length = min row.length lead.length := by unfold crs; rw [List.length_map, List.length_range]
theorem getD_ge {l : List Int} {j : Nat} (h : l.length ≤ j) : l.getD j 0 = 0 := by rw [List.getD_eq_getElem?_getD, List.getElem?_eq_none h]; rfl
theorem crs_at {row lead : List Int} {c n : Nat} (h1 : row.length = n) (h2 : lead.length = n) (j : Nat) : (crs row lead c).getD j 0 = row.getD j 0 * lead.getD c 0 - lead.getD j 0 * row.getD c 0 := by
  by_cases hj : j < n
  · unfold crs
    rw [h1, h2, Nat.min_self, List.getD_eq_getElem?_getD, List.getElem?_map, List.getElem?_range hj]
    rfl
  · rw [getD_ge (by rw [crs_len, h1, h2]; simp; omega), getD_ge (l := row) (j := j) (by omega), getD_ge (l := lead) (j := j) (by omega), Int.zero_mul, Int.zero_mul]
    rfl
theorem lowd_len {row lead : List Int} {c n : Nat} (h1 : row.length = n) (h2 : lead.length = n) : (lowd row lead c).length = n := by
  unfold lowd
  rw [lowest_len, crs_len, h1, h2, Nat.min_self]
theorem lowd_red {row lead : List Int} {c n : Nat} (h1 : row.length = n) (h2 : lead.length = n) (hc : lead.getD c 0 ≠ 0) : Red (vi lead) c (vi row) (vi (lowd row lead c)) := by
  obtain ⟨a, ha, e⟩ := lowest_mul (crs row lead c)
  have up : vi lead c ≠ 0 := fun z => hc (vi_zero.mp z)
  have at' : ∀ j, vi (lowd row lead c) j = a * vi lead c * vi row j - a * vi row c * vi lead j := fun j => by
    unfold lowd
    rw [e]
    have : vi (crs row lead c) j = vi row j * vi lead c - vi lead j * vi row c := by
      unfold vi
      rw [crs_at h1 h2, Rat.intCast_sub, Rat.intCast_mul, Rat.intCast_mul]
    rw [this]
    grind
  exact ⟨⟨a * vi lead c, a * vi row c, fun z => (Rat.mul_eq_zero.mp z).elim ha up, at'⟩, by rw [at']; grind⟩
def wout (rows : List (List Int)) (lead : List Int) (c : Nat) : List (List Int) := rows.map fun row => if row.getD c 0 = 0 then row else lowd row lead c
theorem wout_red {lead : List Int} {c n : Nat} (h2 : lead.length = n) (hc : lead.getD c 0 ≠ 0) : ∀ {rows : List (List Int)}, (∀ r ∈ rows, r.length = n) → Paired (fun r r' => Red (vi lead) c (vi r) (vi r')) rows (wout rows lead c)
  | [], _ => .nil
  | r :: rows, h => by
    refine .cons ?_ (wout_red h2 hc fun q hq => h q (List.mem_cons_of_mem _ hq))
    show Red (vi lead) c (vi r) (vi (if r.getD c 0 = 0 then r else lowd r lead c))
    split
    · rename_i z
      exact ⟨⟨1, 0, by decide, fun j => by grind⟩, vi_zero.mpr z⟩
    · exact lowd_red (h r (List.mem_cons_self ..)) h2 hc
def leadAt : List (List Int) → Nat → Option Nat
  | [], _ => none
  | r :: rs, c => if r.getD c 0 ≠ 0 then some 0 else (leadAt rs c).map (· + 1)
theorem leadAt_some : ∀ {rows : List (List Int)} {c k : Nat}, leadAt rows c = some k → k < rows.length ∧ (rows.getD k []).getD c 0 ≠ 0 ∧ rows = rows.take k ++ rows.getD k [] :: rows.drop (k + 1)
  | [], _, _, h => by cases h
  | r :: rs, c, k, h => by
    have h : (if r.getD c 0 ≠ 0 then some 0 else (leadAt rs c).map (· + 1)) = some k := h
    split at h
    · rename_i hr
      cases h
      exact ⟨Nat.succ_pos _, hr, rfl⟩
    · cases e : leadAt rs c with
      | none => rw [e] at h; cases h
      | some m =>
        rw [e] at h
        cases h
        obtain ⟨a, b, d⟩ := leadAt_some e
        exact ⟨Nat.succ_lt_succ a, b, congrArg (r :: ·) d⟩
theorem leadAt_none : ∀ {rows : List (List Int)} {c : Nat}, leadAt rows c = none → ∀ r ∈ rows, r.getD c 0 = 0
  | [], _, _, r, h => by cases h
  | r :: rs, c, h, q, hq => by
    have h : (if r.getD c 0 ≠ 0 then some 0 else (leadAt rs c).map (· + 1)) = none := h
    split at h
    · cases h
    · rename_i hr
      rcases List.mem_cons.mp hq with z | z
      · rw [z]; exact Classical.byContradiction hr
      · exact leadAt_none (by cases e : leadAt rs c with | none => rfl | some m => rw [e] at h; cases h) q z
theorem leadAt_at : ∀ {rows : List (List Int)} {c k : Nat}, k < rows.length → (∀ j, j < k → (rows.getD j []).getD c 0 = 0) → (rows.getD k []).getD c 0 ≠ 0 → leadAt rows c = some k
  | [], _, _, h, _, _ => absurd h (Nat.not_lt_zero _)
  | r :: rs, c, 0, _, _, h => if_pos h
  | r :: rs, c, k + 1, h1, h2, h3 => by
    show (if r.getD c 0 ≠ 0 then some 0 else (leadAt rs c).map (· + 1)) = _
    rw [if_neg (fun z => z (h2 0 (Nat.succ_pos _))), leadAt_at (k := k) (by simpa using h1) (fun j hj => h2 (j + 1) (by omega)) h3]
    rfl
theorem leadAt_all : ∀ {rows : List (List Int)} {c : Nat}, (∀ j, j < rows.length → (rows.getD j []).getD c 0 = 0) → leadAt rows c = none
  | [], _, _ => rfl
  | r :: rs, c, h => by
    show (if r.getD c 0 ≠ 0 then some 0 else (leadAt rs c).map (· + 1)) = _
    rw [if_neg (fun z => z (h 0 (Nat.succ_pos _))), leadAt_all fun j hj => h (j + 1) (Nat.succ_lt_succ hj)]
    rfl
structure Cst where
  K : List Int
  L : List (List Int)
  R : List (List Int)
def clStep (s : Cst) (c : Int) : Cst := match leadAt s.R c.toNat with
  | none => s
  | some k => ⟨s.K ++ [c], wout s.L (s.R.getD k []) c.toNat ++ [s.R.getD k []], wout (s.R.take k ++ s.R.drop (k + 1)) (s.R.getD k []) c.toNat⟩
def clr (rows : List (List Int)) (cells : List Int) : Cst := cells.foldl clStep ⟨[], [], rows⟩
theorem clr_snoc (rows : List (List Int)) (cells : List Int) (c : Int) : clr rows (cells ++ [c]) = clStep (clr rows cells) c := by
  unfold clr
  rw [List.foldl_append]
  rfl
structure CO (rows : List (List Int)) (n : Nat) (cells : List Int) (s : Cst) (S O : List (List Int)) : Prop where
  ci : CI rows (cells.map Int.toNat) (s.K.map Int.toNat) (s.L.map vi) s.R S O
  len : ∀ r ∈ s.L ++ s.R, r.length = n
  lw : ∀ r ∈ s.L ++ s.R, Lw r
  cnt : s.R.length + s.K.length = rows.length
  kl : s.L.length = s.K.length
  ksub : ∀ k ∈ s.K, k ∈ cells
theorem wout_mem {rows : List (List Int)} {lead : List Int} {c n : Nat} (h1 : ∀ r ∈ rows, r.length = n) (h2 : lead.length = n) (h3 : ∀ r ∈ rows, Lw r) : ∀ r ∈ wout rows lead c, r.length = n ∧ Lw r := fun r hr => by
  obtain ⟨q, hq, rfl⟩ := List.mem_map.mp hr
  split
  · exact ⟨h1 q hq, h3 q hq⟩
  · exact ⟨lowd_len (h1 q hq) h2, lw_lowest _⟩
theorem clr_co {rows : List (List Int)} {n : Nat} (hl : ∀ r ∈ rows, r.length = n) (hw : ∀ r ∈ rows, Lw r) (cells : List Int) : ∃ S O, CO rows n cells (clr rows cells) S O := by
  induction cells using snoc_ind with
  | nil => exact ⟨[], rows, ci_start, by simpa [clr] using hl, by simpa [clr] using hw, by simp [clr], rfl, fun k h => (List.not_mem_nil h).elim⟩
  | snoc cells c ih =>
    obtain ⟨S, O, C⟩ := ih
    rw [clr_snoc]
    generalize clr rows cells = s at C ⊢
    have em : (cells ++ [c]).map Int.toNat = cells.map Int.toNat ++ [c.toNat] := by rw [List.map_append]; rfl
    unfold clStep
    split
    · rename_i h
      exact ⟨S, O, by rw [em]; exact ci_skip C.ci (leadAt_none h), C.len, C.lw, C.cnt, C.kl, fun k hk => List.mem_append_left _ (C.ksub k hk)⟩
    · rename_i k h
      obtain ⟨h1, h2, h3⟩ := leadAt_some h
      generalize hld : s.R.getD k [] = lead at h2 h3 ⊢
      generalize hA : s.R.take k = A at h3 ⊢
      generalize hB : s.R.drop (k + 1) = B at h3 ⊢
      have mR : ∀ r ∈ A ++ B, r ∈ s.R := fun r hr => by
        rw [h3]
        exact (List.mem_append.mp hr).elim (fun z => List.mem_append_left _ z) fun z => List.mem_append_right _ (List.mem_cons_of_mem _ z)
      have mR' : ∀ r ∈ A ++ B, r ∈ s.L ++ s.R := fun r hr => List.mem_append_right _ (mR r hr)
      have ml : lead ∈ s.L ++ s.R := List.mem_append_right _ (by rw [h3]; exact List.mem_append_right _ (List.mem_cons_self ..))
      have ll := C.len lead ml
      have C' := C.ci
      rw [h3] at C'
      have rL : Paired (Red (vi lead) c.toNat) (s.L.map vi) ((wout s.L lead c.toNat).map vi) := by
        have : ∀ {P Q : List (List Int)}, Paired (fun r r' => Red (vi lead) c.toNat (vi r) (vi r')) P Q → Paired (Red (vi lead) c.toNat) (P.map vi) (Q.map vi) := by
          intro P Q h
          induction h with
          | nil => exact .nil
          | cons a t ih => exact .cons a ih
        exact this (wout_red ll h2 fun r hr => C.len r (List.mem_append_left _ hr))
      obtain ⟨o, O', ho, I⟩ := ci_take C' h2 rL (wout_red ll h2 fun r hr => C.len r (mR' r hr))
      have lA := congrArg List.length h3
      rw [List.length_append, List.length_cons] at lA
      have m1 := wout_mem (rows := s.L) (c := c.toNat) (fun r hr => C.len r (List.mem_append_left _ hr)) ll fun r hr => C.lw r (List.mem_append_left _ hr)
      have m2 := wout_mem (rows := A ++ B) (c := c.toNat) (fun r hr => C.len r (mR' r hr)) ll fun r hr => C.lw r (mR' r hr)
      have all : ∀ r ∈ (wout s.L lead c.toNat ++ [lead]) ++ wout (A ++ B) lead c.toNat, r.length = n ∧ Lw r := fun r hr => by
        rcases List.mem_append.mp hr with z | z
        · rcases List.mem_append.mp z with y | y
          · exact m1 r y
          · rw [List.mem_singleton.mp y]; exact ⟨ll, C.lw lead ml⟩
        · exact m2 r z
      refine ⟨S ++ [o], O', ?_, fun r hr => (all r hr).1, fun r hr => (all r hr).2, ?_, ?_, fun q hq => ?_⟩
      · show CI rows ((cells ++ [c]).map Int.toNat) ((s.K ++ [c]).map Int.toNat) ((wout s.L lead c.toNat ++ [lead]).map vi) _ _ _
        rw [em, List.map_append, List.map_append]
        exact I
      · show (wout (A ++ B) lead c.toNat).length + (s.K ++ [c]).length = _
        have := C.cnt
        unfold wout
        rw [List.length_map, List.length_append, List.length_append, List.length_singleton]
        omega
      · show (wout s.L lead c.toNat ++ [lead]).length = (s.K ++ [c]).length
        unfold wout
        rw [List.length_append, List.length_map, List.length_append, C.kl]
        rfl
      · rcases List.mem_append.mp hq with z | z
        · exact List.mem_append_left _ (C.ksub q z)
        · exact List.mem_append_right _ z
/-! ### sizes -/
theorem bnd_mono {n m M : Nat} (h : n ≤ m) : bnd n M ≤ bnd m M := by
  unfold bnd
  refine Nat.mul_le_mul h (Nat.mul_le_mul_right _ ?_)
  refine Nat.le_trans (Nat.pow_le_pow_left (m := 2 * m * M + 1) (by have := Nat.mul_le_mul_right M (Nat.mul_le_mul_left 2 h); omega) _) (Nat.pow_le_pow_right (Nat.succ_pos _) (by omega))
theorem dg_one : ∀ {L : List Vc} {K : List Nat} {l : Vc}, Dg L K → l ∈ L → ∃ ps : List Nat, ps.length + 1 = K.length ∧ ∀ x, Sp L x → (∀ p ∈ ps, x p = 0) → ∃ m : Rat, ∀ j, x j = m * l j
  | l0 :: L, k :: K, l, ⟨h1, h2, h3, h4⟩, h => by
    by_cases e : l = l0
    · subst e
      refine ⟨K, rfl, fun x ⟨c, hs⟩ hz => ⟨c, fun j => ?_⟩⟩
      have := dg_zero h4 hs fun d hd => by
        show x d - c * l d = 0
        rw [hz d hd, h3 d hd]; grind
      have := this j
      grind
    · obtain ⟨ps, hl, hp⟩ := dg_one h4 ((List.mem_cons.mp h).resolve_left e)
      refine ⟨k :: ps, by rw [List.length_cons, List.length_cons, hl], fun x ⟨c, hs⟩ hz => ?_⟩
      have e1 := sp_at h2 hs
      have e2 := hz k (List.mem_cons_self ..)
      have hc : c = 0 := by
        have : c * l0 k = 0 := by grind
        exact (Rat.mul_eq_zero.mp this).resolve_right h1
      subst hc
      exact hp x (hs.to fun j => by grind) fun p hp' => hz p (List.mem_cons_of_mem _ hp')
  | [], _, _, _, h => (List.not_mem_nil h).elim
  | _ :: _, [], _, h, _ => h.elim
section
variable {rows : List (List Int)} {done K : List Nat} {L : List Vc} {R S O : List (List Int)} {M n : Nat}
theorem small_rest (I : CI rows done K L R S O) (hM : ∀ t ∈ rows, ∀ j, (t.getD j 0).natAbs ≤ M) {r : List Int} (hr : r ∈ R) (hg : gl r = 1) (j : Nat) : (r.getD j 0).natAbs ≤ bnd (K.length + 1) M := by
  obtain ⟨o, ho, c, y, hc, hy, e⟩ := paired_memL I.ro r hr
  have rK : ∀ k ∈ K, vi r k = 0 := fun k hk => vi_zero.mpr (I.zero r hr k (I.sub k hk))
  have nz : ¬ Sp (S.map vi) (vi o) := fun z => by
    have z1 : Sp L (vi r) := (sp_add (sp_mul c ((I.spS _).mpr z)) hy).to fun j => (e j).symm
    have z2 := dg_zero I.dg z1 rK
    have : gl r = 0 := by
      have h0 : ∀ x ∈ r, x = 0 := fun x hx => by
        obtain ⟨i, hi, rfl⟩ := List.mem_iff_getElem.mp hx
        have := vi_zero.mp (z2 i)
        rwa [List.getD_eq_getElem?_getD, List.getElem?_eq_getElem hi, Option.getD_some] at this
      have : (0 : Nat) ∣ gl r := gl_dvd.mpr fun x hx => by rw [h0 x hx]; exact Int.dvd_refl _
      exact Nat.zero_dvd.mp this
    omega
  have iT := ind_snoc I.ind nz
  have lT : (S ++ [o]).length = K.length + 1 := by rw [List.length_append, I.ks]; rfl
  have := small_of (T := S ++ [o]) (ps := K) (M := M) (v := r) (fun t ht => hM t ((List.mem_append.mp ht).elim (I.mS t) fun z => by rw [List.mem_singleton.mp z]; exact I.mO o ho)) (by rw [lT]; exact Nat.lt_succ_self _) iT hg (fun x hx hz => by
    rw [List.map_append] at hx
    obtain ⟨a, b, ha, hb, ex⟩ := sp_app.mp hx
    obtain ⟨d, hd⟩ := hb
    have hb' : ∀ i, b i = d * vi o i := fun i => by have := hd i; grind
    have inL : Sp L (fun i => x i - d / c * vi r i) := (sp_sub ((I.spS a).mpr ha) (sp_mul (d / c) hy)).to fun i => by
      rw [ex i, hb' i, e i]; grind
    have z := dg_zero I.dg inL fun k hk => by
      show x k - d / c * vi r k = 0
      rw [hz k hk, rK k hk]; grind
    exact ⟨d / c, fun i => by have := z i; grind⟩) j
  rwa [lT] at this
theorem small_lead (I : CI rows done K L R S O) (hM : ∀ t ∈ rows, ∀ j, (t.getD j 0).natAbs ≤ M) {l : List Int} (hl : vi l ∈ L) (hg : gl l = 1) (j : Nat) : (l.getD j 0).natAbs ≤ bnd K.length M := by
  obtain ⟨ps, h1, h2⟩ := dg_one I.dg hl
  have := small_of (T := S) (ps := ps) (M := M) (v := l) (fun t ht => hM t (I.mS t ht)) (by rw [I.ks]; omega) I.ind hg (fun x hx hz => h2 x ((I.spS x).mpr hx) hz) j
  rwa [I.ks] at this
theorem small_all {cells : List Int} {s : Cst} (C : CO rows n cells s S O) (hM : ∀ t ∈ rows, ∀ j, (t.getD j 0).natAbs ≤ M) : ∀ r ∈ s.L ++ s.R, ∀ j, (r.getD j 0).natAbs ≤ bnd rows.length M := fun r hr j => by
  rcases C.lw r hr with ⟨hg, _⟩ | hz
  · have cn := C.cnt
    rcases List.mem_append.mp hr with h | h
    · exact Nat.le_trans (small_lead C.ci hM (List.mem_map.mpr ⟨r, h, rfl⟩) hg j) (bnd_mono (by rw [List.length_map]; omega))
    · have := List.length_pos_of_mem h
      exact Nat.le_trans (small_rest C.ci hM h hg j) (bnd_mono (by rw [List.length_map]; omega))
  · rw [fnz_zero hz j]
    exact Nat.zero_le _
end
end DL

set_option Elab.async false
set_option linter.all false
set_option maxRecDepth 100000
set_option maxHeartbeats 4000000
/-! frames; what the law's own clearing counts -/
namespace DL
open PySem L2
def vq (l : List Rat) : Vc := fun j => l.getD j 0
theorem getD_mapQ (l : List Int) (j : Nat) : (l.map fun n : Int => (n : Rat)).getD j 0 = ((l.getD j 0 : Int) : Rat) := by
  rw [List.getD_eq_getElem?_getD, List.getD_eq_getElem?_getD, List.getElem?_map]
  cases l[j]? with
  | none => rfl
  | some x => rfl
theorem vq_int (l : List Int) : vq (l.map fun n : Int => (n : Rat)) = vi l := funext fun j => getD_mapQ l j
theorem tops_mul (qs : List Rat) : ∃ a : Rat, a ≠ 0 ∧ ∀ j, vi (tops qs) j = a * vq qs j := by
  refine ⟨(((lcmD qs : Nat) : Int) : Rat), lcmQ_ne qs, fun j => ?_⟩
  unfold vi vq
  by_cases hj : j < qs.length
  · rw [tops_at hj, topq_is (lcmD_dvd (by rw [List.getD_eq_getElem?_getD, List.getElem?_eq_getElem hj]; exact List.getElem_mem _))]
    grind
  · rw [getD_ge (by rw [tops_len]; omega), List.getD_eq_getElem?_getD, List.getElem?_eq_none (by omega)]
    show ((0 : Int) : Rat) = _ * (0 : Rat)
    grind
theorem prim_mul (qs : List Rat) : ∃ a : Rat, a ≠ 0 ∧ ∀ j, vi (prim qs) j = a * vq qs j := by
  obtain ⟨a, ha, h1⟩ := lowest_mul (tops qs)
  obtain ⟨b, hb, h2⟩ := tops_mul qs
  exact ⟨a * b, fun z => (Rat.mul_eq_zero.mp z).elim ha hb, fun j => by
    unfold prim
    rw [h1, h2]; grind⟩
theorem prim_span (rows : List (List Rat)) (x : Vc) : Sp ((rows.map prim).map vi) x ↔ Sp (rows.map vq) x := by
  constructor
  · refine sp_le fun r hr => ?_
    obtain ⟨q, hq, rfl⟩ := List.mem_map.mp hr
    obtain ⟨l, hl, rfl⟩ := List.mem_map.mp hq
    obtain ⟨a, ha, e⟩ := prim_mul l
    exact (sp_mul a (sp_mem (List.mem_map.mpr ⟨l, hl, rfl⟩))).to fun j => (e j).symm
  · refine sp_le fun r hr => ?_
    obtain ⟨l, hl, rfl⟩ := List.mem_map.mp hr
    obtain ⟨a, ha, e⟩ := prim_mul l
    exact (sp_mul (1 / a) (sp_mem (List.mem_map.mpr ⟨prim l, List.mem_map.mpr ⟨l, hl, rfl⟩, rfl⟩))).to fun j => by
      show 1 / a * vi (prim l) j = vq l j
      rw [e j]
      grind
theorem lw_prim (qs : List Rat) : Lw (prim qs) := lw_lowest _
/-- the cells 0, 1, .. -/
def upto (n : Nat) : List Int := (List.range n).map fun i : Nat => (i : Int)
theorem upto_nat (n : Nat) : (upto n).map Int.toNat = List.range n := by
  unfold upto
  rw [List.map_map]
  exact (List.map_congr_left fun i _ => rfl).trans (List.map_id _)
def frameZ (rows : List (List Int)) (n : Nat) : List (List Int) := (clr rows (upto n)).L
def frameQ (rows : List (List Rat)) (n : Nat) : List (List Int) := frameZ (rows.map prim) n
/-- a frame of the tables V of n cells -/
structure FO (F : List (List Int)) (n : Nat) (V : Vc → Prop) : Prop where
  len : ∀ r ∈ F, r.length = n
  lw : ∀ r ∈ F, Lw r
  dg : Dg (F.map vi) (gre V [] (List.range n))
  span : ∀ x, Sp (F.map vi) x ↔ V x
theorem zero_len {R : List (List Int)} {n : Nat} (hl : ∀ r ∈ R, r.length = n) (hz : ∀ r ∈ R, ∀ d ∈ List.range n, r.getD d 0 = 0) : ∀ r ∈ R, ∀ j, vi r j = 0 := fun r hr j => vi_zero.mpr (by
  by_cases h : j < n
  · exact hz r hr j (List.mem_range.mpr h)
  · exact getD_ge (by rw [hl r hr]; omega))
theorem frameZ_fo {rows : List (List Int)} {n : Nat} (hl : ∀ r ∈ rows, r.length = n) (hw : ∀ r ∈ rows, Lw r) : FO (frameZ rows n) n (Sp (rows.map vi)) := by
  obtain ⟨S, O, C⟩ := clr_co hl hw (upto n)
  have I := C.ci
  rw [upto_nat] at I
  refine ⟨fun r hr => C.len r (List.mem_append_left _ hr), fun r hr => C.lw r (List.mem_append_left _ hr), ?_, fun x => ?_⟩
  · have := I.dg
    rwa [I.gr] at this
  · rw [← I.span x]
    refine ⟨fun h => sp_sub_of (fun r hr => List.mem_append_left _ hr) h, fun h => ?_⟩
    refine sp_le (fun r hr => ?_) h
    rcases List.mem_append.mp hr with z | z
    · exact sp_mem z
    · obtain ⟨q, hq, rfl⟩ := List.mem_map.mp z
      exact sp_zero (zero_len (fun r hr => C.len r (List.mem_append_right _ hr)) I.zero q hq)
theorem FO.congr {F : List (List Int)} {n : Nat} {V V' : Vc → Prop} (h : FO F n V) (e : ∀ x, V x ↔ V' x) : FO F n V' :=
  ⟨h.len, h.lw, by rw [← gre_congr e (List.range n) (p := []) (p' := []) fun _ => Iff.rfl]; exact h.dg, fun x => (h.span x).trans (e x)⟩
theorem frameQ_fo {rows : List (List Rat)} {n : Nat} (hl : ∀ r ∈ rows, r.length = n) : FO (frameQ rows n) n (Sp (rows.map vq)) :=
  (frameZ_fo (rows := rows.map prim) (fun r hr => by obtain ⟨q, hq, rfl⟩ := List.mem_map.mp hr; rw [prim_len]; exact hl q hq) (fun r hr => by obtain ⟨q, hq, rfl⟩ := List.mem_map.mp hr; exact lw_prim q)).congr (prim_span rows)
theorem frameZ_small {rows : List (List Int)} {n M : Nat} (hl : ∀ r ∈ rows, r.length = n) (hw : ∀ r ∈ rows, Lw r) (hM : ∀ t ∈ rows, ∀ j, (t.getD j 0).natAbs ≤ M) : ∀ r ∈ frameZ rows n, ∀ j, (r.getD j 0).natAbs ≤ bnd rows.length M := fun r hr => by
  obtain ⟨S, O, C⟩ := clr_co hl hw (upto n)
  exact small_all C hM r (List.mem_append_left _ hr)
theorem frameZ_count {rows : List (List Int)} {n : Nat} (hl : ∀ r ∈ rows, r.length = n) (hw : ∀ r ∈ rows, Lw r) : (frameZ rows n).length ≤ rows.length ∧ (frameZ rows n).length ≤ n := by
  obtain ⟨S, O, C⟩ := clr_co hl hw (upto n)
  have h1 := C.cnt
  have h2 := C.kl
  have h3 := congrArg List.length C.ci.gr
  rw [List.length_map, upto_nat] at h3
  have h4 := gre_len (Sp (rows.map vi)) (List.range n) []
  rw [List.length_range] at h4
  unfold frameZ
  omega
theorem FO.count {F : List (List Int)} {n : Nat} {V : Vc → Prop} (h : FO F n V) : F.length = (gre V [] (List.range n)).length := by
  have := dg_len h.dg
  rwa [List.length_map] at this
/-! ### the law's own clearing -/
def lcl (row lead : List Int) (c : Nat) : List Int :=
  let made := (List.range row.length).map fun k => row.getD k 0 * lead.getD c 0 - lead.getD k 0 * row.getD c 0
  if gl made = 0 then made else made.map fun x => x.fdiv (gl made : Nat)
def lmade (row lead : List Int) (c : Nat) : List Int := (List.range row.length).map fun k => row.getD k 0 * lead.getD c 0 - lead.getD k 0 * row.getD c 0
theorem lmade_at {row lead : List Int} {c n : Nat} (h1 : row.length = n) (h2 : lead.length = n) (j : Nat) : (lmade row lead c).getD j 0 = row.getD j 0 * lead.getD c 0 - lead.getD j 0 * row.getD c 0 := by
  have : lmade row lead c = crs row lead c := by unfold lmade crs; rw [h1, h2, Nat.min_self]
  rw [this]
  exact crs_at h1 h2 j
theorem lcl_len (row lead : List Int) (c : Nat) : (lcl row lead c).length = row.length := by
  unfold lcl
  dsimp only
  split <;> simp
theorem gl_div {ns : List Int} (h : gl ns ≠ 0) : (∀ j, vi (ns.map fun x => x.fdiv (gl ns : Nat)) j = 1 / (((gl ns : Nat) : Int) : Rat) * vi ns j) ∧ gl (ns.map fun x => x.fdiv (gl ns : Nat)) = 1 := by
  have hg : ((gl ns : Nat) : Int) ≠ 0 := by omega
  have e2 : ns = (ns.map fun x => x.fdiv (gl ns : Nat)).map fun x => ((gl ns : Nat) : Int) * x := by
    rw [List.map_map]
    refine (List.map_id ns).symm.trans (List.map_congr_left fun x hx => ?_)
    obtain ⟨t, ht⟩ := (gl_dvd (d := gl ns) (ns := ns)).mp (Nat.dvd_refl _) x hx
    show x = ((gl ns : Nat) : Int) * x.fdiv (gl ns : Nat)
    rw [ht, Int.mul_fdiv_cancel_left _ hg]
  have hq : (((gl ns : Nat) : Int) : Rat) ≠ 0 := fun z => hg (by exact_mod_cast z)
  constructor
  · intro j
    have : vi ns j = (((gl ns : Nat) : Int) : Rat) * vi (ns.map fun x => x.fdiv (gl ns : Nat)) j := by
      unfold vi
      rw [← Rat.intCast_mul]
      have h2 : ns.getD j 0 = ((ns.map fun x => x.fdiv (gl ns : Nat)).map fun x => ((gl ns : Nat) : Int) * x).getD j 0 := by rw [← e2]
      rw [h2, getD_mapZ (f := fun x => ((gl ns : Nat) : Int) * x) (Int.mul_zero _)]
    rw [this]
    grind
  · have h3 := gl_mulI (k := ((gl ns : Nat) : Int)) (ns := ns.map fun x => x.fdiv (gl ns : Nat))
    rw [← e2] at h3
    have h4 : (((gl ns : Nat) : Int)).natAbs = gl ns := by omega
    rw [h4] at h3
    exact (Nat.eq_of_mul_eq_mul_left (by omega : 0 < gl ns) (by rw [Nat.mul_one]; exact h3)).symm
theorem gl_zero {ns : List Int} (h : gl ns = 0) (j : Nat) : ns.getD j 0 = 0 := by
  rw [List.getD_eq_getElem?_getD]
  cases e : ns[j]? with
  | none => rfl
  | some x =>
    have := (gl_dvd (d := gl ns) (ns := ns)).mp (Nat.dvd_refl _) x (List.mem_of_getElem? e)
    rw [h] at this
    exact Int.zero_dvd.mp this
theorem lcl_red {row lead : List Int} {c n : Nat} (h1 : row.length = n) (h2 : lead.length = n) (hc : lead.getD c 0 ≠ 0) : Red (vi lead) c (vi row) (vi (lcl row lead c)) ∧ (gl (lcl row lead c) = 1 ∨ ∀ j, (lcl row lead c).getD j 0 = 0) := by
  have up : vi lead c ≠ 0 := fun z => hc (vi_zero.mp z)
  have hm : ∀ j, vi (lmade row lead c) j = vi row j * vi lead c - vi lead j * vi row c := fun j => by
    unfold vi
    rw [lmade_at h1 h2, Rat.intCast_sub, Rat.intCast_mul, Rat.intCast_mul]
  have e : lcl row lead c = if gl (lmade row lead c) = 0 then lmade row lead c else (lmade row lead c).map fun x => x.fdiv (gl (lmade row lead c) : Nat) := rfl
  rw [e]
  by_cases hg : gl (lmade row lead c) = 0
  · rw [if_pos hg]
    exact ⟨⟨⟨vi lead c, vi row c, up, fun j => by rw [hm]; grind⟩, by rw [hm]; grind⟩, .inr fun j => gl_zero hg j⟩
  · rw [if_neg hg]
    obtain ⟨k1, k2⟩ := gl_div hg
    have hq : (1 : Rat) / (((gl (lmade row lead c) : Nat) : Int) : Rat) ≠ 0 := fun z => by
      have hq : (((gl (lmade row lead c) : Nat) : Int) : Rat) ≠ 0 := fun z => hg (by exact_mod_cast z)
      have : (1 : Rat) = 0 := by grind
      exact absurd this (by decide)
    generalize (1 : Rat) / (((gl (lmade row lead c) : Nat) : Int) : Rat) = g at k1 hq
    exact ⟨⟨⟨g * vi lead c, g * vi row c, fun z => (Rat.mul_eq_zero.mp z).elim hq up, fun j => by rw [k1, hm]; grind⟩, by rw [k1, hm]; grind⟩, .inl k2⟩
/-- the law's state: how many, the rows left -/
def lkStep (s : Nat × List (List Int)) (c : Nat) : Nat × List (List Int) := match leadAt s.2 c with
  | none => s
  | some k => (s.1 + 1, (s.2.take k ++ s.2.drop (k + 1)).map fun row => lcl row (s.2.getD k []) c)
def lk (rows : List (List Int)) (i : Nat) : Nat × List (List Int) := (List.range i).foldl lkStep (0, rows)
theorem lk_succ (rows : List (List Int)) (i : Nat) : lk rows (i + 1) = lkStep (lk rows i) i := by
  unfold lk
  rw [List.range_succ, List.foldl_append]
  rfl
structure LO (rows : List (List Int)) (n i : Nat) (s : Nat × List (List Int)) (K : List Nat) (L : List Vc) (S O : List (List Int)) : Prop where
  ci : CI rows (List.range i) K L s.2 S O
  k : s.1 = K.length
  len : ∀ r ∈ s.2, r.length = n
  lw : ∀ r ∈ s.2, gl r = 1 ∨ (∀ j, r.getD j 0 = 0) ∨ r ∈ rows
  cnt : s.2.length + K.length = rows.length
theorem lk_lo {rows : List (List Int)} {n : Nat} (hl : ∀ r ∈ rows, r.length = n) : ∀ i, ∃ K L S O, LO rows n i (lk rows i) K L S O
  | 0 => ⟨[], [], [], rows, ci_start, rfl, hl, fun r h => .inr (.inr h), rfl⟩
  | i + 1 => by
    obtain ⟨K, L, S, O, C⟩ := lk_lo hl i
    rw [lk_succ]
    generalize lk rows i = s at C ⊢
    unfold lkStep
    split
    · rename_i h
      exact ⟨K, L, S, O, by rw [List.range_succ]; exact ci_skip C.ci (leadAt_none h), C.k, C.len, C.lw, C.cnt⟩
    · rename_i k h
      obtain ⟨h1, h2, h3⟩ := leadAt_some h
      generalize hld : s.2.getD k [] = lead at h2 h3 ⊢
      generalize hA : s.2.take k = A at h3 ⊢
      generalize hB : s.2.drop (k + 1) = B at h3 ⊢
      have mR : ∀ r ∈ A ++ B, r ∈ s.2 := fun r hr => by
        rw [h3]
        exact (List.mem_append.mp hr).elim (fun z => List.mem_append_left _ z) fun z => List.mem_append_right _ (List.mem_cons_of_mem _ z)
      have ml : lead ∈ s.2 := by rw [h3]; exact List.mem_append_right _ (List.mem_cons_self ..)
      have ll := C.len lead ml
      have C' := C.ci
      rw [h3] at C'
      have rL : Paired (Red (vi lead) i) L (L.map fun m => fun j => vi lead i * m j - m i * vi lead j) := by
        have up : vi lead i ≠ 0 := fun z => h2 (vi_zero.mp z)
        have : ∀ P : List Vc, Paired (Red (vi lead) i) P (P.map fun m => fun j => vi lead i * m j - m i * vi lead j) := fun P => by
          induction P with
          | nil => exact .nil
          | cons m P ih => exact .cons ⟨⟨vi lead i, m i, up, fun j => rfl⟩, by show vi lead i * m i - m i * vi lead i = 0; grind⟩ ih
        exact this L
      have rR : Paired (fun r r' => Red (vi lead) i (vi r) (vi r')) (A ++ B) ((A ++ B).map fun row => lcl row lead i) := by
        have : ∀ P : List (List Int), (∀ r ∈ P, r.length = n) → Paired (fun r r' => Red (vi lead) i (vi r) (vi r')) P (P.map fun row => lcl row lead i) := fun P hP => by
          induction P with
          | nil => exact .nil
          | cons m P ih => exact .cons (lcl_red (hP m (List.mem_cons_self ..)) ll h2).1 (ih fun r hr => hP r (List.mem_cons_of_mem _ hr))
        exact this _ fun r hr => C.len r (mR r hr)
      obtain ⟨o, O', ho, I⟩ := ci_take C' h2 rL rR
      have lA := congrArg List.length h3
      rw [List.length_append, List.length_cons] at lA
      refine ⟨K ++ [i], _, S ++ [o], O', by rw [List.range_succ]; exact I, by rw [List.length_append, C.k]; rfl, fun r hr => ?_, fun r hr => ?_, ?_⟩
      · obtain ⟨q, hq, rfl⟩ := List.mem_map.mp hr
        rw [lcl_len]
        exact C.len q (mR q hq)
      · obtain ⟨q, hq, rfl⟩ := List.mem_map.mp hr
        rcases (lcl_red (C.len q (mR q hq)) ll h2).2 with z | z
        · exact .inl z
        · exact .inr (.inl z)
      · have := C.cnt
        show ((A ++ B).map _).length + (K ++ [i]).length = _
        rw [List.length_map, List.length_append, List.length_append, List.length_singleton]
        omega
theorem lk_small {rows : List (List Int)} {n i M : Nat} {s : Nat × List (List Int)} {K : List Nat} {L : List Vc} {S O : List (List Int)} (C : LO rows n i s K L S O) (hM : ∀ t ∈ rows, ∀ j, (t.getD j 0).natAbs ≤ M) : ∀ r ∈ s.2, ∀ j, (r.getD j 0).natAbs ≤ bnd rows.length M + M := fun r hr j => by
  rcases C.lw r hr with h | h | h
  · have := List.length_pos_of_mem hr
    have cn := C.cnt
    have := small_rest C.ci hM hr h j
    have := bnd_mono (n := K.length + 1) (m := rows.length) (M := M) (by omega)
    omega
  · rw [h j]; exact Nat.zero_le _
  · have := hM r h j
    omega
/-! rows cut down to some cells -/
end DL

set_option Elab.async false
set_option linter.all false
set_option maxRecDepth 100000
set_option maxHeartbeats 4000000
/-! what the clearing's steps ask and give -/
namespace DL
open PySem L2
theorem getD_memI {l : List Int} {i : Nat} (h : i < l.length) : l.getD i 0 ∈ l := by rw [List.getD_eq_getElem?_getD, List.getElem?_eq_getElem h]; exact List.getElem_mem _
theorem getD_memL {α : Type} {l : List (List α)} {i : Nat} (h : i < l.length) : l.getD i [] ∈ l := by rw [List.getD_eq_getElem?_getD, List.getElem?_eq_getElem h]; exact List.getElem_mem _
theorem crs_lc {row lead : List Int} {c : Nat} : List.map (fun i : Nat => rInt (row.getD i 0 * lead.getD c 0 - lead.getD i 0 * row.getD c 0)) (List.filter (fun _ => true) (List.range (min row.length lead.length))) = List.map rInt (crs row lead c) := by
  rw [List.filter_eq_self.mpr (fun _ _ => rfl)]
  unfold crs
  rw [List.map_map]
  rfl
theorem low_m {x y : Int} (h : Lg x < 4000) (k : Lg y < 4000) : Lg x + Lg y < 1000000 := by omega
theorem crs_lg {row lead : List Int} {c : Nat} (h : ∀ x ∈ row, Lg x < 4000) (k : ∀ x ∈ lead, Lg x < 4000) : ∀ x ∈ crs row lead c, Lg x < 8990 := fun x hx => by
  have at0 : ∀ {l : List Int} {j : Nat}, (∀ x ∈ l, Lg x < 4000) → Lg (l.getD j 0) < 4000 := fun {l j} q => by
    by_cases hj : j < l.length
    · exact q _ (getD_memI hj)
    · rw [getD_ge (by omega)]; decide
  obtain ⟨i, _, rfl⟩ := List.mem_map.mp hx
  have a := at0 (j := i) h
  have b := at0 (j := c) h
  have d := at0 (j := i) k
  have e := at0 (j := c) k
  have m1 := lg_mul (row.getD i 0) (lead.getD c 0)
  have m2 := lg_mul (lead.getD i 0) (row.getD c 0)
  have := lg_sub (row.getD i 0 * lead.getD c 0) (lead.getD i 0 * row.getD c 0)
  omega
def RowOk (n : Nat) (r : List Int) : Prop := r.length = n ∧ ∀ x ∈ r, Lg x < 4000
def wo1 (lead : List Int) (c : Nat) (row : List Int) : List Int := if row.getD c 0 = 0 then row else lowd row lead c
theorem wo1_t {lead row : List Int} {c : Nat} (h : decide (row.getD c 0 = 0) = true) : row = wo1 lead c row := (if_pos (of_decide_eq_true h)).symm
theorem wo1_f {lead row : List Int} {c : Nat} (h : decide (row.getD c 0 = 0) = false) : lowd row lead c = wo1 lead c row := (if_neg (of_decide_eq_false h)).symm
theorem range_map_getD {α β : Type} {xs : List α} {d : α} {f : α → β} : (List.range xs.length).map (fun i => f (xs.getD i d)) = xs.map f := by
  apply List.ext_getElem?
  intro j
  rw [List.getElem?_map, List.getElem?_map]
  by_cases h : j < xs.length
  · rw [List.getElem?_range h, List.getElem?_eq_getElem h, Option.map_some, Option.map_some, List.getD_eq_getElem?_getD, List.getElem?_eq_getElem h]
    rfl
  · rw [List.getElem?_eq_none (by simp; omega), List.getElem?_eq_none (by omega)]
    rfl
theorem lc_map {α β : Type} {xs : List α} {d : α} {f : α → β} : List.map (fun i : Nat => f (xs.getD i d)) (List.filter (fun _ => true) (List.range xs.length)) = List.map f xs := by
  rw [List.filter_eq_self.mpr (fun _ _ => rfl)]
  exact range_map_getD
structure ClrOk (n : Nat) (rows : List (List Int)) (cells : List Int) : Prop where
  n1 : n ≤ 1000
  n2 : rows.length ≤ 1000
  n3 : cells.length ≤ 1000
  inn : ∀ c ∈ cells, 0 ≤ c ∧ c < n
  ok : ∀ i, i ≤ cells.length → ∀ r ∈ (clr rows (cells.take i)).L ++ (clr rows (cells.take i)).R, RowOk n r
  cnt : ∀ i, i ≤ cells.length → (clr rows (cells.take i)).L.length ≤ 1000 ∧ (clr rows (cells.take i)).R.length ≤ 1000 ∧ (clr rows (cells.take i)).K.length ≤ 1000
theorem clr_take {rows : List (List Int)} {cells : List Int} {i : Nat} (hi : i < cells.length) : clr rows (cells.take (i + 1)) = clStep (clr rows (cells.take i)) (cells.getD i 0) := by
  have e : cells.take (i + 1) = cells.take i ++ [cells.getD i 0] := by
    rw [List.take_add_one, List.getElem?_eq_getElem hi, List.getD_eq_getElem?_getD, List.getElem?_eq_getElem hi]
    rfl
  rw [e, clr_snoc]
theorem cl_f {rows : List (List Int)} {cells : List Int} {i : Nat} (hi : i < cells.length) (hn : (!((leadAt (clr rows (cells.take i)).R (cells.getD i 0).toNat).map fun k : Nat => (k : Int)).isNone) = false) : clr rows (cells.take (i + 1)) = clr rows (cells.take i) := by
  rw [clr_take hi]
  generalize clr rows (cells.take i) = s at hn ⊢
  unfold clStep
  cases h : leadAt s.R (cells.getD i 0).toNat with
  | none => rfl
  | some k => rw [h] at hn; cases hn
section
variable {rows : List (List Int)} {cells : List Int} {i n : Nat}
abbrev atO (s : Cst) (c : Int) : Option Int := (leadAt s.R c.toNat).map fun k : Nat => (k : Int)
theorem cl_t (hi : i < cells.length) (hn : (!(atO (clr rows (cells.take i)) (cells.getD i 0)).isNone) = true) :
    clr rows (cells.take (i + 1)) = ⟨(clr rows (cells.take i)).K ++ [cells.getD i 0], wout (clr rows (cells.take i)).L ((clr rows (cells.take i)).R.getD ((atO (clr rows (cells.take i)) (cells.getD i 0)).getD 0).toNat []) (cells.getD i 0).toNat ++ [(clr rows (cells.take i)).R.getD ((atO (clr rows (cells.take i)) (cells.getD i 0)).getD 0).toNat []],
      wout ((clr rows (cells.take i)).R.take ((atO (clr rows (cells.take i)) (cells.getD i 0)).getD 0).toNat ++ (clr rows (cells.take i)).R.drop ((atO (clr rows (cells.take i)) (cells.getD i 0)).getD 0 + 1).toNat) ((clr rows (cells.take i)).R.getD ((atO (clr rows (cells.take i)) (cells.getD i 0)).getD 0).toNat []) (cells.getD i 0).toNat⟩ := by
  rw [clr_take hi]
  generalize clr rows (cells.take i) = s at hn ⊢
  unfold atO at hn ⊢
  cases h : leadAt s.R (cells.getD i 0).toNat with
  | none => rw [h] at hn; cases hn
  | some k =>
    show clStep s (cells.getD i 0) = ⟨_, wout s.L (s.R.getD ((k : Int)).toNat []) _ ++ [s.R.getD ((k : Int)).toNat []], wout (s.R.take ((k : Int)).toNat ++ s.R.drop ((k : Int) + 1).toNat) (s.R.getD ((k : Int)).toNat []) _⟩
    have e1 : ((k : Int)).toNat = k := rfl
    have e2 : ((k : Int) + 1).toNat = k + 1 := by omega
    rw [e1, e2]
    unfold clStep
    rw [h]
/-- the index that was found -/
theorem at_lt {s : Cst} {c : Int} (hn : (!((leadAt s.R c.toNat).map fun k : Nat => (k : Int)).isNone) = true) : 0 ≤ ((leadAt s.R c.toNat).map fun k : Nat => (k : Int)).getD 0 ∧ (((leadAt s.R c.toNat).map fun k : Nat => (k : Int)).getD 0).toNat < s.R.length := by
  cases h : leadAt s.R c.toNat with
  | none => rw [h] at hn; cases hn
  | some k =>
    obtain ⟨h1, _⟩ := leadAt_some h
    exact ⟨Int.natCast_nonneg k, h1⟩
end
theorem la_more {rows : List (List Int)} {c i : Nat} (hj : ∀ j, j < i → (rows.getD j []).getD c 0 = 0) (h : (rows.getD i []).getD c 0 = 0) : ∀ j, j < i + 1 → (rows.getD j []).getD c 0 = 0 := fun j hj' => by
  by_cases e : j = i
  · rw [e]; exact h
  · exact hj j (by omega)
theorem nn_t {b : Bool} (h : (!b) = true) : b = false := by cases b <;> first | rfl | cases h
theorem wout_len (rows : List (List Int)) (lead : List Int) (c : Nat) : (wout rows lead c).length = rows.length := List.length_map _
theorem wout_lc {K : PySem.W.Frag} {rows : List (List Int)} {lead : List Int} {c : Nat} : List.map (fun i : Nat => rRowS K (wo1 lead c (rows.getD i []))) (List.filter (fun _ => true) (List.range rows.length)) = List.map (fun l => rSeq K (List.map rInt l)) (wout rows lead c) :=
  (lc_map (f := fun r => rRowS K (wo1 lead c r))).trans (by unfold wout; rw [List.map_map]; rfl)
theorem cl_w1 {n : Nat} {s : Cst} {c : Int} (hn : n ≤ 1000) (hin : 0 ≤ c ∧ c < n) (hok : ∀ r ∈ s.L ++ s.R, RowOk n r) (hct : s.L.length ≤ 1000 ∧ s.R.length ≤ 1000 ∧ s.K.length ≤ 1000) {k : Nat} (hk : k < s.R.length) : (0 ≤ c ∧ c < n ∧ n ≤ 1000) ∧ s.L.length ≤ 1000 ∧ (∀ r ∈ s.L, RowOk n r) ∧ RowOk n (s.R.getD k []) :=
  ⟨⟨hin.1, hin.2, hn⟩, hct.1, fun r hr => hok r (List.mem_append_left _ hr), hok _ (List.mem_append_right _ (getD_memL hk))⟩
theorem cl_w2 {n : Nat} {s : Cst} {c : Int} (hn : n ≤ 1000) (hin : 0 ≤ c ∧ c < n) (hok : ∀ r ∈ s.L ++ s.R, RowOk n r) (hct : s.L.length ≤ 1000 ∧ s.R.length ≤ 1000 ∧ s.K.length ≤ 1000) {k m : Nat} (hk : k < s.R.length) (hm : m = k + 1) : (0 ≤ c ∧ c < n ∧ n ≤ 1000) ∧ (s.R.take k ++ s.R.drop m).length ≤ 1000 ∧ (∀ r ∈ s.R.take k ++ s.R.drop m, RowOk n r) ∧ RowOk n (s.R.getD k []) :=
  ⟨⟨hin.1, hin.2, hn⟩, by rw [List.length_append, List.length_take, List.length_drop]; omega, fun r hr => hok r (List.mem_append_right _ ((List.mem_append.mp hr).elim List.mem_of_mem_take List.mem_of_mem_drop)), hok _ (List.mem_append_right _ (getD_memL hk))⟩
end DL

set_option Elab.async false
set_option linter.all false
set_option maxRecDepth 100000
set_option maxHeartbeats 4000000
/-! names, cells, frames as the program makes them -/
namespace DL
open PySem L2
def lettersT : Str := "abcdefghijklmnopqrstuvwxyz"
def digitsT : Str := "0123456789"
def nmS (c : Nat) : Bool := decide (c ∈ lettersT.cps.toList) || decide (c ∈ digitsT.cps.toList)
def isNm (x : Str) : Bool := decide (1 ≤ x.cps.toList.length) && decide (x.cps.toList.length ≤ 12) && decide (x.cps.toList.getD 0 0 ∈ lettersT.cps.toList) && x.cps.toList.all nmS
theorem strLen (x : Str) : (x.length : Nat) = x.cps.toList.length := (Array.length_toList ..).symm
theorem nm_f {x : Str} {b : Bool} (h : (!(decide ((1 : Int) ≤ (x.length : Nat)) && decide (((x.length : Nat) : Int) ≤ 12)) || b) = true) (hb : b = !decide (x.cps.toList.getD 0 0 ∈ lettersT.cps.toList)) : isNm x = false := by
  subst hb
  unfold isNm
  rw [strLen] at h
  generalize x.cps.toList = l at h ⊢
  by_cases h1 : 1 ≤ l.length
  · by_cases h2 : l.length ≤ 12
    · have a : decide ((1 : Int) ≤ (l.length : Nat)) = true := decide_eq_true (by omega)
      have c : decide (((l.length : Nat) : Int) ≤ 12) = true := decide_eq_true (by omega)
      rw [a, c] at h
      cases hd : decide (l.getD 0 0 ∈ lettersT.cps.toList) with
      | true => rw [hd] at h; cases h
      | false => rw [Bool.and_false, Bool.false_and]
    · rw [decide_eq_false h2, Bool.and_false, Bool.false_and, Bool.false_and]
  · rw [decide_eq_false h1, Bool.false_and, Bool.false_and, Bool.false_and]
theorem nm_t {x : Str} {b : Bool} (h : (!(decide ((1 : Int) ≤ (x.length : Nat)) && decide (((x.length : Nat) : Int) ≤ 12)) || b) = false) (hb : b = !decide (x.cps.toList.getD 0 0 ∈ lettersT.cps.toList)) : x.cps.toList.all nmS = isNm x := by
  subst hb
  unfold isNm
  rw [strLen] at h
  generalize x.cps.toList = l at h ⊢
  cases a : decide ((1 : Int) ≤ (l.length : Nat)) with
  | false => rw [a] at h; cases h
  | true =>
    cases c : decide (((l.length : Nat) : Int) ≤ 12) with
    | false => rw [a, c] at h; cases h
    | true =>
      cases hd : decide (l.getD 0 0 ∈ lettersT.cps.toList) with
      | false => rw [a, c, hd] at h; cases h
      | true =>
        have a2 := of_decide_eq_true a
        have c2 := of_decide_eq_true c
        rw [decide_eq_true (by omega : 1 ≤ l.length), decide_eq_true (by omega : l.length ≤ 12)]
        rfl
theorem nm_len {x : Str} (h : (decide ((1 : Int) ≤ (x.length : Nat)) && decide (((x.length : Nat) : Int) ≤ 12)) = true) : 1 ≤ x.cps.toList.length ∧ x.length ≤ 12 := by
  rw [Bool.and_eq_true] at h
  have a := of_decide_eq_true h.1
  have b := of_decide_eq_true h.2
  rw [← strLen]
  omega
theorem nm_lc {x : Str} : List.map (fun i : Nat => rBl (nmS (x.cps.toList.getD i 0))) (List.filter (fun _ => true) (List.range x.cps.toList.length)) = List.map rBl (x.cps.toList.map nmS) :=
  (lc_map (f := fun c => rBl (nmS c))).trans (by rw [List.map_map]; rfl)
theorem nm_all {x : Str} : (x.cps.toList.map nmS).all (fun b => b) = x.cps.toList.all nmS := by rw [List.all_map]; rfl
def namesOk (xs : List Str) : Bool := xs.all isNm && decide xs.Nodup
def badC (n : Nat) (cells : List Int) : Option Int := cells.find? fun c => !(decide (0 ≤ c) && decide (c < n))
/-! frames -/
def PrimOk (qs : List Rat) : Prop := ∃ n, (∀ q ∈ qs, Sz n q) ∧ qs.length * (n + 1) + n < 8900 ∧ qs.length ≤ 1000
structure FrOk (n : Nat) (rows : List (List Rat)) : Prop where
  n1 : n ≤ 1000
  n2 : rows.length ≤ 1000
  pr : ∀ r ∈ rows, PrimOk r
  cl : ClrOk n (rows.map prim) (upto n)
theorem upto_lc {n : Nat} : List.map (fun i : Nat => rInt (i : Nat)) (List.range ((n : Int)).toNat) = List.map rInt (upto n) := by
  unfold upto
  rw [List.map_map]
  rfl
theorem prim_lc {K : PySem.W.Frag} {rows : List (List Rat)} : List.map (fun i : Nat => rLst K ((prim (rows.getD i [])).map rInt)) (List.filter (fun _ => true) (List.range rows.length)) = List.map (fun l => rLst K (List.map rInt l)) (rows.map prim) :=
  (lc_map (f := fun r => rLst K ((prim r).map rInt))).trans (by rw [List.map_map]; rfl)
def unitR (n c : Nat) : List Int := (List.replicate n 0).set c 1
theorem rep_flat {n : Nat} {r : Rep} : (List.replicate n [r]).flatten = List.replicate n r := by
  induction n with
  | zero => rfl
  | succ n ih => rw [List.replicate_succ, List.flatten_cons, ih, List.replicate_succ]; rfl
theorem unit_lc {n : Nat} : (List.replicate ((n : Int)).toNat [rInt 0]).flatten = List.map rInt (List.replicate n 0) := by
  rw [rep_flat, List.map_replicate]; rfl
end DL

set_option Elab.async false
set_option linter.all false
set_option maxRecDepth 100000
set_option maxHeartbeats 4000000
namespace DL
open PySem L2
theorem nn_f {b : Bool} (h : (!b) = false) : b = true := by cases b <;> first | rfl | cases h
theorem nm_le {x : Str} {b : Bool} (h : (!(decide ((1 : Int) ≤ (x.length : Nat)) && decide (((x.length : Nat) : Int) ≤ 12)) || b) = false) : x.cps.toList.length ≤ 12 := by
  rw [← strLen]
  cases a : (decide ((1 : Int) ≤ (x.length : Nat)) && decide (((x.length : Nat) : Int) ≤ 12)) with
  | false => rw [a] at h; cases h
  | true => exact (nm_len a).2
theorem nmj_more {xs : List Str} {i : Nat} (hj : ∀ j, j < i → isNm (xs.getD j default) = true) (h : (!isNm (xs.getD i default)) = false) : ∀ j, j < i + 1 → isNm (xs.getD j default) = true := fun j hj' => by
  by_cases e : j = i
  · rw [e]; exact nn_f h
  · exact hj j (by omega)
theorem nm_scan {xs : List Str} (h : xs.length ≤ 1000) : xs.length + 1 < scanBound := by unfold scanBound; omega
theorem nmo_a {xs : List Str} {i : Nat} (hi : i < xs.length) (h : (!isNm (xs.getD i default)) = true) : namesOk xs = false := by
  have h2 : isNm (xs.getD i default) = false := nn_t h
  unfold namesOk
  have : xs.all isNm = false := by
    cases e : xs.all isNm with
    | false => rfl
    | true =>
      have := List.all_eq_true.mp e _ (DL.getD_mem (d := (default : Str)) hi)
      rw [h2] at this
      cases this
  rw [this]; rfl
theorem nmo_b {xs : List Str} (h : ((dd xs).length : Int) < (xs.length : Nat)) : namesOk xs = false := by
  unfold namesOk
  rw [decide_eq_false (dd_lt.mp (by omega)), Bool.and_false]
theorem nmo_c {xs : List Str} (hj : ∀ j, j < xs.length → isNm (xs.getD j default) = true) (h : ¬ ((dd xs).length : Int) < (xs.length : Nat)) : ¬ namesOk xs = false := fun z => by
  unfold namesOk at z
  have a : xs.all isNm = true := List.all_eq_true.mpr fun x hx => by
    obtain ⟨i, hi, rfl⟩ := List.mem_iff_getElem.mp hx
    have := hj i hi
    rwa [List.getD_eq_getElem?_getD, List.getElem?_eq_getElem hi, Option.getD_some] at this
  have b : xs.Nodup := Classical.byContradiction fun n => h (by have := dd_lt.mpr n; omega)
  rw [a, decide_eq_true b] at z
  cases z
theorem fr_len {n : Nat} {rows : List (List Rat)} (h : FrOk n rows) : (frameQ rows n).length ≤ 1000 := by
  have := (h.cl.cnt (upto n).length (Nat.le_refl _)).1
  rwa [List.take_length] at this
section
variable {b : Bk} {cells : List Int} {c : Int}
/-- the leads' own numbers are not 0 -/
def RuleOk (b : Bk) (cells : List Int) : Prop := ¬ (badC b.size cells).isSome = true → ∀ i, i < min (clr b.frame (sset cells)).K.length (clr b.frame (sset cells)).L.length → ((clr b.frame (sset cells)).L.getD i []).getD ((clr b.frame (sset cells)).K.getD i 0).toNat 0 ≠ 0
variable {n i : Nat} {rows : List (List Int)}
end
end DL

set_option Elab.async false
set_option linter.all false
set_option maxRecDepth 100000
set_option maxHeartbeats 4000000
/-! books are made -/
namespace DL
open PySem PySem.Spec PyProof.Rows L2
def lensOk (n : Nat) (rows : List (List Rat)) : Bool := rows.all fun r => decide (r.length = n)
structure BookOk (names : List Str) (rows : List (List Rat)) : Prop where
  n1 : names.length ≤ 1000
  nl : ∀ x ∈ names, x.length ≤ 100000
  fr : (1 ≤ names.length ∧ names.length ≤ 16) → lensOk names.length rows = true → FrOk names.length rows
theorem bk_f {n : Nat} (h : (!(decide ((1 : Int) ≤ (n : Nat)) && decide (((n : Nat) : Int) ≤ 16))) = true) : ¬ (1 ≤ n ∧ n ≤ 16) := fun z => by
  rw [decide_eq_true (by omega : (1 : Int) ≤ (n : Nat)), decide_eq_true (by omega : ((n : Nat) : Int) ≤ 16)] at h
  cases h
theorem bk_t {n : Nat} (h : (!(decide ((1 : Int) ≤ (n : Nat)) && decide (((n : Nat) : Int) ≤ 16))) = false) : 1 ≤ n ∧ n ≤ 16 := by
  have := nn_f h
  rw [Bool.and_eq_true] at this
  have a := of_decide_eq_true this.1
  have b := of_decide_eq_true this.2
  omega
theorem lens_bad {n i : Nat} {rows : List (List Rat)} (hi : i < rows.length) (h : ¬ (rows.getD i []).length = n) : lensOk n rows = false := by
  cases e : lensOk n rows with
  | false => rfl
  | true =>
    have := List.all_eq_true.mp e _ (getD_memL hi)
    exact absurd (of_decide_eq_true this) h
theorem lens_ok {n : Nat} {rows : List (List Rat)} (h : ∀ j, j < rows.length → (rows.getD j []).length = n) : lensOk n rows = true := List.all_eq_true.mpr fun r hr => by
  obtain ⟨i, hi, rfl⟩ := List.mem_iff_getElem.mp hr
  have := h i hi
  rw [List.getD_eq_getElem?_getD, List.getElem?_eq_getElem hi, Option.getD_some] at this
  exact decide_eq_true this
theorem lens_more {n i : Nat} {rows : List (List Rat)} (hj : ∀ j, j < i → (rows.getD j []).length = n) (h : (rows.getD i []).length = n) : ∀ j, j < i + 1 → (rows.getD j []).length = n := fun j hj' => by
  by_cases e : j = i
  · rw [e]; exact h
  · exact hj j (by omega)
def toQ (l : List Int) : List Rat := l.map fun n : Int => (n : Rat)
theorem ll2n_eq {K : PySem.W.Frag} {xs : List (List Int)} : (xs.map fun l => rLst K (l.map rInt)) = (xs.map toQ).map fun l => rLst K (l.map (rNum K)) := by
  rw [List.map_map]
  refine List.map_congr_left fun l _ => ?_
  show rLst K _ = rLst K ((toQ l).map (rNum K))
  unfold toQ
  rw [List.map_map]
  refine congrArg _ (List.map_congr_left fun n _ => ?_)
  show rInt n = rNum K (n : Rat)
  unfold rNum
  rw [if_pos (Rat.den_intCast ..), Rat.num_intCast]
theorem de_ll2n {X : L2.Cx} {Γ : List Sl} {e : PySem.Expr} {xs : List (List Int)} (h : DE X Γ e (rLst X.K (xs.map fun l => rLst X.K (l.map rInt)))) : DE X Γ e (rLst X.K ((xs.map toQ).map fun l => rLst X.K (l.map (rNum X.K)))) := h.to (by rw [ll2n_eq])
def freeZ (n : Nat) : List (List Int) := (List.range n).map (unitR n)
theorem free_lc {K : PySem.W.Frag} {n : Nat} : List.map (fun i : Nat => rLst K ((unitR n i).map rInt)) (List.filter (fun _ => true) (List.range ((n : Int)).toNat)) = List.map (fun l => rLst K (List.map rInt l)) (freeZ n) := by
  rw [List.filter_eq_self.mpr (fun _ _ => rfl)]
  unfold freeZ
  rw [List.map_map]
  rfl
def FreeOk (names : List Str) : Prop := (1 ≤ names.length ∧ names.length ≤ 16) ∧ namesOk names = true
theorem free_lens (n : Nat) : lensOk n ((freeZ n).map toQ) = true := List.all_eq_true.mpr fun r hr => by
  obtain ⟨q, hq, rfl⟩ := List.mem_map.mp hr
  obtain ⟨c, _, rfl⟩ := List.mem_map.mp hq
  exact decide_eq_true (by unfold toQ unitR; simp)
theorem bk_out {names : List Str} {rows : List (List Rat)} {a b : Addr} {l : List Rep} (h1 : 1 ≤ names.length ∧ names.length ≤ 16) (h2 : namesOk names = true) (h3 : lensOk names.length rows = true) :
    (if ¬ (1 ≤ names.length ∧ names.length ≤ 16) then OutI.err a else if namesOk names = false then .err b else if lensOk names.length rows = false then .err a else .ok l) = .ok l :=
  (if_neg (fun z => z h1)).trans ((if_neg (by rw [h2]; exact Bool.noConfusion)).trans (if_neg (by rw [h3]; exact Bool.noConfusion)))
theorem fb_ok {names : List Str} {a b : Addr} {l : List Rep} (h : FreeOk names) : (if ¬ (1 ≤ names.length ∧ names.length ≤ 16) then OutI.err a else if namesOk names = false then .err b else if lensOk names.length ((freeZ names.length).map toQ) = false then .err a else .ok l) = .ok l := bk_out h.1 h.2 (free_lens _)
end DL

set_option Elab.async false
set_option linter.all false
set_option maxRecDepth 100000
set_option maxHeartbeats 4000000
/-! books made of whole rows -/
namespace DL
open PySem PySem.Spec PyProof.Rows L2
theorem bnd_mono2 {n m M M' : Nat} (h : n ≤ m) (k : M ≤ M') : bnd n M ≤ bnd m M' := by
  refine Nat.le_trans (bnd_mono h) ?_
  unfold bnd
  refine Nat.mul_le_mul_left _ (Nat.mul_le_mul (Nat.pow_le_pow_left (Nat.succ_le_succ (Nat.mul_le_mul_left _ k)) _) k)
theorem lowest_leA (ns : List Int) (j : Nat) : ((lowest ns).getD j 0).natAbs ≤ (ns.getD j 0).natAbs := by
  cases h : fnz ns with
  | none =>
    have : lowest ns = ns := by unfold lowest; rw [h]
    rw [this]
    exact Nat.le_refl _
  | some z =>
    obtain ⟨d, hd, e⟩ := (low_lowest h).1.ex
    have h2 : ns.getD j 0 = d * (lowest ns).getD j 0 := by
      have h2 : ns.getD j 0 = ((lowest ns).map fun x => d * x).getD j 0 := by rw [← e]
      rw [h2, getD_mapZ (Int.mul_zero d)]
    rw [h2, Int.natAbs_mul]
    exact Nat.le_mul_of_pos_left _ (by omega)
theorem toQ_den {l : List Int} {q : Rat} (h : q ∈ toQ l) : q.den = 1 ∧ q.num ∈ l := by
  obtain ⟨x, hx, rfl⟩ := List.mem_map.mp h
  exact ⟨Rat.den_intCast .., by rw [Rat.num_intCast]; exact hx⟩
theorem lcmD_one : ∀ {qs : List Rat}, (∀ q ∈ qs, q.den = 1) → lcmD qs = 1 := fun {qs} h => by
  induction qs using snoc_ind with
  | nil => rfl
  | snoc qs q ih =>
    unfold lcmD at ih ⊢
    rw [List.foldl_append, ih fun x hx => h x (List.mem_append_left _ hx)]
    show Nat.lcm 1 q.den = 1
    rw [h q (List.mem_append_right _ (List.mem_singleton.mpr rfl))]
    rfl
theorem tops_toQ (l : List Int) : tops (toQ l) = l := by
  unfold tops
  rw [lcmD_one fun q hq => (toQ_den hq).1]
  unfold toQ
  rw [List.map_map]
  refine (List.map_congr_left fun x _ => ?_).trans (List.map_id l)
  show topq 1 (x : Rat) = x
  unfold topq
  rw [Rat.num_intCast, Rat.den_intCast]
  show x * Int.fdiv 1 1 = x
  rw [show Int.fdiv 1 1 = 1 from rfl, Int.mul_one]
theorem prim_toQ (l : List Int) : prim (toQ l) = lowest l := by unfold prim; rw [tops_toQ]
theorem toQ_len (l : List Int) : (toQ l).length = l.length := List.length_map _
theorem toQ_vq (rows : List (List Int)) : (rows.map toQ).map vq = rows.map vi := by
  rw [List.map_map]
  exact List.map_congr_left fun l _ => vq_int l
theorem mem_getD0 {l : List Int} {x : Int} (h : x ∈ l) : ∃ j, x = l.getD j 0 := by
  obtain ⟨i, hi, rfl⟩ := List.mem_iff_getElem.mp h
  exact ⟨i, by rw [List.getD_eq_getElem?_getD, List.getElem?_eq_getElem hi]; rfl⟩
theorem clrOk_of {n M e : Nat} {rows : List (List Int)} {cells : List Int} (hn : n ≤ 1000) (hl : ∀ r ∈ rows, r.length = n) (hw : ∀ r ∈ rows, Lw r) (hM : ∀ t ∈ rows, ∀ j, (t.getD j 0).natAbs ≤ M) (hr : rows.length ≤ 1000) (hc : cells.length ≤ 1000) (hin : ∀ c ∈ cells, 0 ≤ c ∧ c < (n : Int)) (e0 : 0 < e) (he : e ≤ 4000) (hb : bnd rows.length M < 2 ^ e) : ClrOk n rows cells where
  n1 := hn
  n2 := hr
  n3 := hc
  inn := hin
  ok := fun i _ r h => by
    obtain ⟨S, O, C⟩ := clr_co hl hw (cells.take i)
    refine ⟨C.len r h, fun x hx => ?_⟩
    obtain ⟨j, rfl⟩ := mem_getD0 hx
    exact Nat.lt_of_lt_of_le (lg_b (small_all C hM r h j) hb e0) he
  cnt := fun i _ => by
    obtain ⟨S, O, C⟩ := clr_co hl hw (cells.take i)
    have h1 := C.cnt
    have h2 := C.kl
    omega
/-- whole rows, few and small -/
structure Dw (n M : Nat) (rows : List (List Int)) : Prop where
  n1 : 1 ≤ n
  n2 : n ≤ 16
  m : rows.length ≤ 16
  len : ∀ r ∈ rows, r.length = n
  sm : ∀ r ∈ rows, ∀ j, (r.getD j 0).natAbs ≤ M
  bM : M < 2 ^ 200
  b1 : bnd rows.length M < 2 ^ 3900
  b2 : bnd rows.length (bnd rows.length M) < 2 ^ 3900
section
variable {n M : Nat} {rows : List (List Int)} {cells : List Int}
theorem Dw.prim (D : Dw n M rows) : (∀ r ∈ (rows.map toQ).map prim, r.length = n) ∧ (∀ r ∈ (rows.map toQ).map prim, Lw r) ∧ ∀ r ∈ (rows.map toQ).map prim, ∀ j, (r.getD j 0).natAbs ≤ M := by
  refine ⟨fun r hr => ?_, fun r hr => ?_, fun r hr j => ?_⟩
  all_goals
    obtain ⟨q, hq, rfl⟩ := List.mem_map.mp hr
    obtain ⟨l, hl, rfl⟩ := List.mem_map.mp hq
  · rw [prim_len, toQ_len]; exact D.len l hl
  · exact lw_prim _
  · rw [prim_toQ]; exact Nat.le_trans (lowest_leA l j) (D.sm l hl j)
theorem Dw.pr (D : Dw n M rows) : ∀ r ∈ rows.map toQ, PrimOk r := fun r hr => by
  obtain ⟨l, hl, rfl⟩ := List.mem_map.mp hr
  refine ⟨200, fun q hq => ?_, ?_, ?_⟩
  · obtain ⟨a, b⟩ := toQ_den hq
    obtain ⟨j, e⟩ := mem_getD0 b
    refine ⟨?_, by rw [a]; decide⟩
    rw [e]
    exact Nat.le_of_lt (lg_b (D.sm l hl j) D.bM (by decide))
  · rw [toQ_len, D.len l hl]; have := D.n2; omega
  · rw [toQ_len, D.len l hl]; have := D.n2; omega
theorem upto_len (n : Nat) : (upto n).length = n := by unfold upto; rw [List.length_map, List.length_range]
theorem upto_mem {n : Nat} {c : Int} : c ∈ upto n ↔ 0 ≤ c ∧ c < (n : Int) := by
  unfold upto
  rw [List.mem_map]
  constructor
  · rintro ⟨i, hi, rfl⟩
    have := List.mem_range.mp hi
    omega
  · exact fun h => ⟨c.toNat, List.mem_range.mpr (by omega), by omega⟩
theorem Dw.fr (D : Dw n M rows) : FrOk n (rows.map toQ) where
  n1 := by have := D.n2; omega
  n2 := by rw [List.length_map]; have := D.m; omega
  pr := D.pr
  cl := clrOk_of (M := M) (e := 3900) (by have := D.n2; omega) D.prim.1 D.prim.2.1 D.prim.2.2 (by rw [List.length_map, List.length_map]; have := D.m; omega) (by rw [upto_len]; have := D.n2; omega) (fun c hc => upto_mem.mp hc) (by decide) (by decide) (by rw [List.length_map, List.length_map]; exact D.b1)
abbrev frm (n : Nat) (rows : List (List Int)) : List (List Int) := frameQ (rows.map toQ) n
theorem Dw.fo (D : Dw n M rows) : FO (frm n rows) n (Sp (rows.map vi)) := by
  have := frameQ_fo (rows := rows.map toQ) (n := n) fun r hr => by
    obtain ⟨l, hl, rfl⟩ := List.mem_map.mp hr
    rw [toQ_len]; exact D.len l hl
  rwa [toQ_vq] at this
theorem Dw.fcount (D : Dw n M rows) : (frm n rows).length ≤ rows.length := by
  have := (frameZ_count (n := n) D.prim.1 D.prim.2.1).1
  rwa [List.length_map, List.length_map] at this
theorem Dw.fsm (D : Dw n M rows) : ∀ r ∈ frm n rows, ∀ j, (r.getD j 0).natAbs ≤ bnd rows.length M := by
  have := frameZ_small (n := n) D.prim.1 D.prim.2.1 D.prim.2.2
  rwa [List.length_map, List.length_map] at this
/-! what the clearing tells -/
variable {s : Cst} {S O F : List (List Int)} {V : Vc → Prop}
/-- sums of multiples by the leads -/
def sumQ : List (List Int) → List Nat → Vc → Nat → Rat
  | l :: L, k :: K, x, c => vi l c / vi l k * x k + sumQ L K x c
  | _, _, _, _ => 0
theorem dg_sum : ∀ {L : List (List Int)} {K : List Nat} (x : Vc), Dg (L.map vi) K → ∃ z, Sp (L.map vi) z ∧ (∀ k ∈ K, z k = x k) ∧ ∀ c, z c = sumQ L K x c
  | [], [], x, _ => ⟨fun _ => 0, fun _ => rfl, fun k h => (List.not_mem_nil h).elim, fun c => rfl⟩
  | l :: L, k :: K, x, ⟨h1, h2, h3, h4⟩ => by
    obtain ⟨z, a, b, e⟩ := dg_sum x h4
    have zk : z k = 0 := sp_at h2 a
    refine ⟨fun j => z j + x k / vi l k * vi l j, ⟨x k / vi l k, a.to fun j => by grind⟩, fun d hd => ?_, fun c => ?_⟩
    · show z d + x k / vi l k * vi l d = x d
      rcases List.mem_cons.mp hd with y | y
      · rw [y, zk]; grind
      · rw [b d y, h3 d y]; grind
    · show z c + x k / vi l k * vi l c = vi l c / vi l k * x k + sumQ L K x c
      rw [e c]
      grind
  | [], _ :: _, _, h => h.elim
  | _ :: _, [], _, h => h.elim
theorem dg_get : ∀ {L : List (List Int)} {K : List Nat} {i : Nat}, Dg (L.map vi) K → i < K.length → (L.getD i []).getD (K.getD i 0) 0 ≠ 0
  | l :: L, k :: K, 0, h, _ => fun z => h.1 (vi_zero.mpr z)
  | l :: L, k :: K, i + 1, h, hi => dg_get (L := L) (K := K) (i := i) h.2.2.2 (by simpa using hi)
  | [], [], i, _, hi => absurd hi (Nat.not_lt_zero _)
  | [], _ :: _, _, h, _ => h.elim
  | _ :: _, [], _, h, _ => h.elim
theorem getD_mapT (K : List Int) (i : Nat) : (K.map Int.toNat).getD i 0 = (K.getD i 0).toNat := by
  rw [List.getD_eq_getElem?_getD, List.getD_eq_getElem?_getD, List.getElem?_map]
  cases K[i]? <;> rfl
end
end DL

set_option Elab.async false
set_option linter.all false
set_option maxRecDepth 100000
set_option maxHeartbeats 4000000
/-! the factors of a settled cell: how large they are -/
namespace DL
open PySem PySem.Spec PyProof.Rows L2
/-- sums of whole multiples of some cells -/
def lin : List Int → List Nat → Vc → Rat
  | c :: cs, k :: ks, x => (c : Rat) * x k + lin cs ks x
  | _, _, _ => 0
theorem lin_zero : ∀ (cs : List Int) (ks : List Nat), lin cs ks (fun _ => 0) = 0
  | [], _ => by cases ‹List Nat› <;> rfl
  | _ :: _, [] => rfl
  | c :: cs, k :: ks => by
    show (c : Rat) * 0 + lin cs ks _ = 0
    rw [lin_zero cs ks]; grind
theorem lin_add (a : Rat) (x y : Vc) : ∀ (cs : List Int) (ks : List Nat), lin cs ks (fun j => x j + a * y j) = lin cs ks x + a * lin cs ks y
  | [], ks => by cases ks <;> (show (0 : Rat) = 0 + a * 0; grind)
  | _ :: _, [] => by show (0 : Rat) = 0 + a * 0; grind
  | c :: cs, k :: ks => by
    have := lin_add a x y cs ks
    show (c : Rat) * (x k + a * y k) + lin cs ks _ = ((c : Rat) * x k + lin cs ks x) + a * ((c : Rat) * y k + lin cs ks y)
    rw [this]; grind
theorem lin_congr {x y : Vc} (h : ∀ j, x j = y j) (cs : List Int) (ks : List Nat) : lin cs ks x = lin cs ks y := by rw [funext h]
theorem lin_span {R : List Vc} {cs : List Int} {ks : List Nat} (h : ∀ r ∈ R, lin cs ks r = 0) {x : Vc} (hx : Sp R x) : lin cs ks x = 0 :=
  sp_ind (P := fun x => lin cs ks x = 0) (lin_zero cs ks) (fun r hr c y hy => by show lin cs ks (fun j => y j + c * r j) = 0; rw [lin_add, hy, h r hr]; grind) (fun x y e hx => by rw [← lin_congr e]; exact hx) hx
theorem lin_snoc : ∀ (cs : List Int) (ks : List Nat) (d : Int) (c : Nat) (x : Vc), cs.length = ks.length → lin (cs ++ [d]) (ks ++ [c]) x = lin cs ks x + (d : Rat) * x c
  | [], [], d, c, x, _ => by show (d : Rat) * x c + 0 = 0 + _; grind
  | e :: cs, k :: ks, d, c, x, h => by
    have := lin_snoc cs ks d c x (by simpa using h)
    show (e : Rat) * x k + lin (cs ++ [d]) (ks ++ [c]) x = ((e : Rat) * x k + lin cs ks x) + _
    rw [this]; grind
  | [], _ :: _, _, _, _, h => by cases h
  | _ :: _, [], _, _, _, h => by cases h
theorem lin_none : ∀ {cs : List Int} {ks : List Nat} {x : Vc}, (∀ k ∈ ks, x k = 0) → lin cs ks x = 0
  | [], ks, _, _ => by cases ks <;> rfl
  | _ :: _, [], _, _ => rfl
  | c :: cs, k :: ks, x, h => by
    show (c : Rat) * x k + lin cs ks x = 0
    rw [h k (List.mem_cons_self ..), lin_none fun d hd => h d (List.mem_cons_of_mem _ hd)]; grind
theorem cmb_lin : ∀ (cs : List Int) (ks : List Nat) (S : List (List Int)) (p : Nat) (s : List Int), S[p]? = some s → ((cmb cs (ks.map fun k => S.map fun s => s.getD k 0) p : Int) : Rat) = lin cs ks (vi s)
  | [], ks, S, p, s, _ => by cases ks <;> rfl
  | _ :: _, [], _, _, _, _ => rfl
  | c :: cs, k :: ks, S, p, s, h => by
    have ih := cmb_lin cs ks S p s h
    have e : (S.map fun s => s.getD k 0).getD p 0 = s.getD k 0 := by
      rw [List.getD_eq_getElem?_getD, List.getElem?_map, h]; rfl
    show ((c * (S.map fun s => s.getD k 0).getD p 0 + cmb cs (ks.map fun k => S.map fun s => s.getD k 0) p : Int) : Rat) = (c : Rat) * vi s k + lin cs ks (vi s)
    rw [e, Rat.intCast_add, Rat.intCast_mul, ih]
    rfl
/-- the factors as they stand in the leads -/
theorem dg_lin : ∀ {L : List (List Int)} {K : List Nat} {cs : List Int} {d : Int} {c : Nat}, Dg (L.map vi) K → cs.length = K.length → (∀ x, Sp (L.map vi) x → lin cs K x + (d : Rat) * x c = 0) →
    ∀ i, i < K.length → ((cs.getD i 0 : Int) : Rat) * vi (L.getD i []) (K.getD i 0) + (d : Rat) * vi (L.getD i []) c = 0
  | l :: L, k :: K, e :: cs, d, c, ⟨h1, h2, h3, h4⟩, hl, h, 0, _ => by
    have := h (vi l) (sp_mem (List.mem_cons_self ..))
    have e2 : lin (e :: cs) (k :: K) (vi l) = (e : Rat) * vi l k + lin cs K (vi l) := rfl
    rw [e2, lin_none h3] at this
    show (e : Rat) * vi l k + (d : Rat) * vi l c = 0
    grind
  | l :: L, k :: K, e :: cs, d, c, ⟨h1, h2, h3, h4⟩, hl, h, i + 1, hi => dg_lin (L := L) (K := K) (cs := cs) h4 (by simpa using hl) (fun x hx => by
      have := h x (sp_cons hx)
      have e2 : lin (e :: cs) (k :: K) x = (e : Rat) * x k + lin cs K x := rfl
      rw [e2, sp_at h2 hx] at this
      grind) i (by simpa using hi)
  | [], [], _, _, _, _, _, _, i, hi => absurd hi (Nat.not_lt_zero _)
  | [], _ :: _, _, _, _, h, _, _, _, _ => h.elim
  | _ :: _, [], _, _, _, h, _, _, _, _ => h.elim
  | _ :: _, _ :: _, [], _, _, _, h, _, _, _ => by cases h
theorem sieg_cols {L S : List (List Int)} {K : List Nat} {M c : Nat} (hd : Dg (L.map vi) K) (hs : ∀ x, Sp (L.map vi) x ↔ Sp (S.map vi) x) (hk : S.length = K.length) (hM : ∀ s ∈ S, ∀ j, (s.getD j 0).natAbs ≤ M) :
    ∃ (d : Int) (cs : List Int), d ≠ 0 ∧ d.natAbs ≤ (2 * (K.length + 1) * M + 1) ^ K.length ∧ (∀ x ∈ cs, x.natAbs ≤ (2 * (K.length + 1) * M + 1) ^ K.length) ∧ cs.length = K.length ∧ ∀ i, i < K.length → ((cs.getD i 0 : Int) : Rat) * vi (L.getD i []) (K.getD i 0) + (d : Rat) * vi (L.getD i []) c = 0 := by
  have lT : ((K ++ [c]).map fun k => S.map fun s => s.getD k 0).length = K.length + 1 := by rw [List.length_map, List.length_append]; rfl
  obtain ⟨cs, l1, ⟨x0, hx0, nx0⟩, hB, hz⟩ := siegel (T := (K ++ [c]).map fun k => S.map fun s => s.getD k 0) (ps := List.range S.length) (M := M) (fun t ht p hp => by
    obtain ⟨k, _, rfl⟩ := List.mem_map.mp ht
    have hp := List.mem_range.mp hp
    rw [List.getD_eq_getElem?_getD, List.getElem?_map, List.getElem?_eq_getElem hp]
    exact hM _ (List.getElem_mem hp) k) (by rw [lT, List.length_range, hk]; exact Nat.lt_succ_self _)
  rw [lT] at l1
  rw [lT, List.length_range, hk] at hB
  rcases List.eq_nil_or_concat cs with rfl | ⟨c', d, rfl⟩
  · cases l1
  rw [List.concat_eq_append] at *
  have l2 : c'.length = K.length := by simpa using l1
  have lz : ∀ x, Sp (L.map vi) x → lin c' K x + (d : Rat) * x c = 0 := fun x hx => by
    rw [← lin_snoc c' K d c x l2]
    refine lin_span (fun r hr => ?_) ((hs x).mp hx)
    obtain ⟨s, hs', rfl⟩ := List.mem_map.mp hr
    obtain ⟨p, hp, rfl⟩ := List.mem_iff_getElem.mp hs'
    rw [← cmb_lin (c' ++ [d]) (K ++ [c]) S p _ (List.getElem?_eq_getElem hp), hz p (List.mem_range.mpr hp)]
    rfl
  have key := dg_lin hd l2 lz
  refine ⟨d, c', fun h0 => ?_, hB d (List.mem_append_right _ (List.mem_singleton.mpr rfl)), fun x hx => hB x (List.mem_append_left _ hx), l2, key⟩
  subst h0
  have all0 : ∀ x ∈ c', x = 0 := fun x hx => by
    obtain ⟨i, hi, rfl⟩ := List.mem_iff_getElem.mp hx
    have h1 := key i (by omega)
    have h2 := dg_get (i := i) hd (by omega)
    have h3 : vi (L.getD i []) (K.getD i 0) ≠ 0 := fun z => h2 (vi_zero.mp z)
    have h4 : ((c'.getD i 0 : Int) : Rat) * vi (L.getD i []) (K.getD i 0) = 0 := by
      have e0 : ((0 : Int) : Rat) = 0 := rfl
      rw [e0] at h1
      grind
    have h5 := (Rat.mul_eq_zero.mp h4).resolve_right h3
    rw [List.getD_eq_getElem?_getD, List.getElem?_eq_getElem hi] at h5
    exact_mod_cast h5
  rcases List.mem_append.mp hx0 with z | z
  · exact nx0 (all0 _ z)
  · exact nx0 (List.mem_singleton.mp z)
/-! the factors' list, piece by piece -/
section
variable {n M c : Nat} {rows F S O : List (List Int)} {cells : List Int} {s : Cst} {V : Vc → Prop}
end
end DL

set_option Elab.async false
set_option linter.all false
set_option maxRecDepth 100000
set_option maxHeartbeats 4000000
/-! the rows that the law of settled cells draws; what it finds in them -/
namespace DL
open PySem PySem.Spec PyProof.Rows L2
section
variable {ds : List Int} {n many k j : Nat}
end
/-! the rows -/
/-! the law's own clearing, as it walks -/
def splS (c : Nat) (s : Option (List Int) × List (List Int)) (r : List Int) : Option (List Int) × List (List Int) := if s.1.isNone && !decide (r.getD c 0 = 0) then (some r, s.2) else (s.1, s.2 ++ [r])
def spl (R : List (List Int)) (c : Nat) : Option (List Int) × List (List Int) := R.foldl (splS c) (none, [])
theorem spl_step {R : List (List Int)} {c i : Nat} (h : i < R.length) : spl (R.take (i + 1)) c = splS c (spl (R.take i) c) (R.getD i []) := by
  unfold spl
  rw [take_snoc (d := []) h, List.foldl_append]
  rfl
theorem spl_is (R : List (List Int)) (c : Nat) : spl R c = match leadAt R c with
  | none => (none, R)
  | some k => (some (R.getD k []), R.take k ++ R.drop (k + 1)) := by
  have after : ∀ (B : List (List Int)) (r : List Int) (A : List (List Int)), B.foldl (splS c) (some r, A) = (some r, A ++ B) := fun B => by
    induction B with
    | nil => exact fun r A => by rw [List.append_nil]; rfl
    | cons b B ih =>
      intro r A
      rw [List.foldl_cons]
      have e : splS c (some r, A) b = (some r, A ++ [b]) := rfl
      rw [e, ih, List.append_assoc]
      rfl
  have before : ∀ (B A : List (List Int)), (∀ r ∈ B, r.getD c 0 = 0) → B.foldl (splS c) (none, A) = (none, A ++ B) := fun B => by
    induction B with
    | nil => exact fun A _ => by rw [List.append_nil]; rfl
    | cons b B ih =>
      intro A h
      rw [List.foldl_cons]
      have hb := h b (List.mem_cons_self ..)
      have e : splS c (none, A) b = (none, A ++ [b]) := by
        unfold splS
        exact if_neg fun z => by rw [decide_eq_true hb] at z; cases z
      rw [e, ih _ fun r hr => h r (List.mem_cons_of_mem _ hr), List.append_assoc]
      rfl
  unfold spl
  cases h : leadAt R c with
  | none => exact before R [] (leadAt_none h)
  | some k =>
    obtain ⟨h1, h2, h3⟩ := leadAt_some h
    have hz : ∀ r ∈ R.take k, r.getD c 0 = 0 := fun r hr => by
      obtain ⟨j, hj, rfl⟩ := List.mem_iff_getElem.mp hr
      refine Classical.byContradiction fun z => ?_
      have hj2 : j < k ∧ j < R.length := by rw [List.length_take] at hj; exact Nat.lt_min.mp hj
      rw [List.getElem_take] at z
      obtain ⟨m, hm, hm2, hm3⟩ : ∃ m, m < k ∧ (R.getD m []).getD c 0 ≠ 0 ∧ ∀ i, i < m → (R.getD i []).getD c 0 = 0 := by
        have hex : ∃ m, m < k ∧ (R.getD m []).getD c 0 ≠ 0 := ⟨j, hj2.1, by
          have e : R.getD j [] = R[j] := by rw [List.getD_eq_getElem?_getD, List.getElem?_eq_getElem hj2.2]; rfl
          rw [e]; exact z⟩
        obtain ⟨m, hm⟩ : ∃ m, (m < k ∧ (R.getD m []).getD c 0 ≠ 0) ∧ ∀ i, i < m → ¬ (i < k ∧ (R.getD i []).getD c 0 ≠ 0) := by
          refine Classical.byContradiction fun no => ?_
          have : ∀ m, ¬ (m < k ∧ (R.getD m []).getD c 0 ≠ 0) := fun m => by
            induction m using Nat.strongRecOn with
            | _ m ih => exact fun y => no ⟨m, y, ih⟩
          obtain ⟨m, y⟩ := hex
          exact this m y
        exact ⟨m, hm.1.1, hm.1.2, fun i hi => Classical.byContradiction fun y => hm.2 i hi ⟨by omega, y⟩⟩
      have := leadAt_at (by omega) hm3 hm2
      rw [h] at this
      cases this
      omega
    show _ = (some (R.getD k []), R.take k ++ R.drop (k + 1))
    generalize hld : R.getD k [] = lead at h2 h3 ⊢
    generalize hA : R.take k = A at h3 hz ⊢
    generalize hB : R.drop (k + 1) = B at h3 ⊢
    rw [h3, List.foldl_append, before A [] hz, List.foldl_cons, List.nil_append]
    have e : splS c (none, A) lead = (some lead, A) := by
      unfold splS
      exact if_pos (by rw [decide_eq_false h2]; rfl)
    rw [e, after]
theorem lk_t {rows : List (List Int)} {i : Nat} {l : List Int} (h : (spl (lk rows i).2 i).1 = some l) : lk rows (i + 1) = ((lk rows i).1 + 1, (spl (lk rows i).2 i).2.map fun row => lcl row l i) := by
  rw [lk_succ]
  rw [spl_is] at h ⊢
  generalize lk rows i = s at h ⊢
  unfold lkStep
  cases e : leadAt s.2 i with
  | none => rw [e] at h; cases h
  | some k =>
    rw [e] at h
    have h : some (s.2.getD k []) = some l := h
    cases h
    rfl
theorem lk_f {rows : List (List Int)} {i : Nat} (h : (spl (lk rows i).2 i).1 = none) : lk rows (i + 1) = lk rows i := by
  rw [lk_succ]
  rw [spl_is] at h
  generalize lk rows i = s at h ⊢
  unfold lkStep
  cases e : leadAt s.2 i with
  | none => rfl
  | some k => rw [e] at h; cases h
section
variable {K : PySem.W.Frag} {ds : List Int} {n many i : Nat}
end
theorem lc_mapI {xs : List Int} {g : Int → Int} : List.map (fun i : Nat => rInt (g (xs.getD i 0))) (List.filter (fun _ => true) (List.range xs.length)) = List.map rInt (xs.map g) := (lc_map (f := fun x => rInt (g x))).trans (by rw [List.map_map]; rfl)
theorem lc_mapL {K : PySem.W.Frag} {xs : List (List Int)} {g : List Int → List Int} : List.map (fun i : Nat => rLst K ((g (xs.getD i [])).map rInt)) (List.filter (fun _ => true) (List.range xs.length)) = List.map (fun l => rLst K (List.map rInt l)) (xs.map g) := (lc_map (f := fun x => rLst K ((g x).map rInt))).trans (by rw [List.map_map]; rfl)
end DL

set_option Elab.async false
set_option linter.all false
set_option maxRecDepth 100000
set_option maxHeartbeats 4000000
/-! the law's own clearing: what its steps ask -/
namespace DL
open PySem PySem.Spec PyProof.Rows L2
theorem lmade_lc {row lead : List Int} {c : Nat} : List.map (fun i : Nat => rInt (row.getD i 0 * lead.getD c 0 - lead.getD i 0 * row.getD c 0)) (List.filter (fun _ => true) (List.range ((row.length : Nat) : Int).toNat)) = List.map rInt (lmade row lead c) := by
  rw [List.filter_eq_self.mpr (fun _ _ => rfl)]
  unfold lmade
  rw [List.map_map]
  rfl
theorem lmade_len (row lead : List Int) (c : Nat) : (lmade row lead c).length = row.length := by unfold lmade; rw [List.length_map, List.length_range]
theorem lcl_t {row lead : List Int} {c : Nat} (h : decide (((gl (lmade row lead c) : Nat) : Int) = 0) = true) : lmade row lead c = lcl row lead c := by
  have h := of_decide_eq_true h
  have e : lcl row lead c = if gl (lmade row lead c) = 0 then lmade row lead c else (lmade row lead c).map fun x => x.fdiv (gl (lmade row lead c) : Nat) := rfl
  rw [e, if_pos (by omega)]
theorem lcl_f {row lead : List Int} {c : Nat} (h : decide (((gl (lmade row lead c) : Nat) : Int) = 0) = false) : (lmade row lead c).map (fun x => x.fdiv (gl (lmade row lead c) : Nat)) = lcl row lead c := by
  have h := of_decide_eq_false h
  have e : lcl row lead c = if gl (lmade row lead c) = 0 then lmade row lead c else (lmade row lead c).map fun x => x.fdiv (gl (lmade row lead c) : Nat) := rfl
  rw [e, if_neg (by omega)]
theorem gl_lgT {l : List Int} {i m : Nat} (h : ∀ j, Lg (l.getD j 0) < m) (hm : 0 < m) : Lg ((gl (l.take i) : Nat) : Int) < m := by
  by_cases z : ∀ x ∈ l.take i, x = 0
  · have : gl (l.take i) = 0 := by
      have : (0 : Nat) ∣ gl (l.take i) := gl_dvd.mpr fun x hx => by rw [z x hx]; exact Int.dvd_refl _
      exact Nat.zero_dvd.mp this
    rw [this]
    exact hm
  · obtain ⟨x, hx, hx0⟩ : ∃ x, x ∈ l.take i ∧ x ≠ 0 := Classical.byContradiction fun no => z fun x hx => Classical.byContradiction fun y => no ⟨x, hx, y⟩
    have h1 := (gl_dvd (d := gl (l.take i)) (ns := l.take i)).mp (Nat.dvd_refl _) x hx
    obtain ⟨j, e⟩ := mem_getD0 (List.mem_of_mem_take hx)
    have h2 : (gl (l.take i)) ≤ x.natAbs := Nat.le_of_dvd (by omega) (by have := Int.natAbs_dvd_natAbs.mpr h1; rwa [Int.natAbs_natCast] at this)
    have h3 : Lg ((gl (l.take i) : Nat) : Int) ≤ Lg x := lg_le (by rw [Int.natAbs_natCast]; exact h2)
    have := h j
    rw [← e] at this
    omega
/-! the count -/
structure RkOk (n : Nat) (rows : List (List Int)) (lot : List Int) : Prop where
  d : Dw n 288 rows
  m : rows.length < 6
  l : lot.length ≤ 40
  inn : ∀ c ∈ lot, 0 ≤ c ∧ c < (n : Int)
section
variable {n i : Nat} {rows : List (List Int)} {lot : List Int}
theorem spl_sub {R : List (List Int)} {c m : Nat} (hm : m ≤ R.length) : (∀ r ∈ (spl (R.take m) c).2, r ∈ R) ∧ (spl (R.take m) c).2.length ≤ m ∧ ∀ l, (spl (R.take m) c).1 = some l → l ∈ R ∧ l.getD c 0 ≠ 0 := by
  induction m with
  | zero =>
    rw [List.take_zero]
    exact ⟨fun r h => (List.not_mem_nil h).elim, Nat.le_refl _, fun l h => by cases h⟩
  | succ m ih =>
    obtain ⟨a, b, d⟩ := ih (by omega)
    have hr := getD_memL (l := R) (i := m) (by omega)
    rw [spl_step (by omega)]
    unfold splS
    split
    · rename_i hz
      refine ⟨a, by show (spl (R.take m) c).2.length ≤ m + 1; omega, fun l h => ?_⟩
      cases h
      refine ⟨hr, fun z => ?_⟩
      rw [decide_eq_true z, Bool.not_true, Bool.and_false] at hz
      cases hz
    · refine ⟨fun r h => ?_, ?_, d⟩
      · rcases List.mem_append.mp h with z | z
        · exact a r z
        · rw [List.mem_singleton.mp z]; exact hr
      · show ((spl (R.take m) c).2 ++ [R.getD m []]).length ≤ _
        rw [List.length_append]
        show _ + 1 ≤ _
        omega
theorem spl_t {R : List (List Int)} {c m : Nat} (hm : m < R.length) (h : ((spl (R.take m) c).1.isNone && !decide ((R.getD m []).getD c 0 = 0)) = true) : spl (R.take (m + 1)) c = (some (R.getD m []), (spl (R.take m) c).2) := by
  rw [spl_step hm]
  exact if_pos h
theorem spl_f {R : List (List Int)} {c m : Nat} (hm : m < R.length) (h : ((spl (R.take m) c).1.isNone && !decide ((R.getD m []).getD c 0 = 0)) = false) : spl (R.take (m + 1)) c = ((spl (R.take m) c).1, (spl (R.take m) c).2 ++ [R.getD m []]) := by
  rw [spl_step hm]
  exact if_neg fun z => Bool.false_ne_true (h.symm.trans z)
theorem spl_all {R : List (List Int)} {c : Nat} : spl (R.take R.length) c = spl R c := by rw [List.take_length]
theorem isNone_f {α : Type} {o : Option α} {d : α} (h : o.isNone = false) : o = some (o.getD d) := by cases o with | none => cases h | some x => rfl
theorem isNone_t {α : Type} {o : Option α} (h : o.isNone = true) : o = none := by cases o with | none => rfl | some x => cases h
theorem spl_in {R : List (List Int)} {c : Nat} : (∀ r ∈ (spl R c).2, r ∈ R) ∧ ∀ l, (spl R c).1 = some l → l ∈ R := by
  have h := spl_sub (R := R) (c := c) (Nat.le_refl _)
  rw [spl_all] at h
  exact ⟨h.1, fun l hl => (h.2.2 l hl).1⟩
end
end DL

set_option Elab.async false
set_option linter.all false
set_option maxRecDepth 100000
set_option maxHeartbeats 4000000
/-! the free cells as the law finds them, and as the program does -/
namespace DL
open PySem PySem.Spec PyProof.Rows L2
def zl (l : List Nat) : List Int := l.map fun i : Nat => (i : Int)
structure FfOk (n : Nat) (rows : List (List Int)) : Prop where
  d : Dw n 288 rows
  m : rows.length < 6
section
variable {n i : Nat} {rows : List (List Int)} {lot : List Int}
/-! the program's -/
end
end DL

set_option Elab.async false
set_option linter.all false
set_option maxRecDepth 100000
set_option maxHeartbeats 4000000
/-! the factors of a settled cell -/
namespace DL
open PySem PySem.Spec PyProof.Rows L2
theorem gre_sublist (V : Vc → Prop) : ∀ (cs prev : List Nat), (gre V prev cs).Sublist cs
  | [], _ => List.Sublist.refl _
  | d :: cs, prev => by
    show (if Piv V prev d then d :: gre V (prev ++ [d]) cs else gre V (prev ++ [d]) cs).Sublist _
    split
    · exact (gre_sublist V cs _).cons₂ d
    · exact (gre_sublist V cs _).cons d
structure RlOk (names : List Str) (rows : List (List Int)) (lot : List Int) : Prop where
  d : Dw names.length 288 rows
  m : rows.length < 6
  inn : ∀ c ∈ lot, 0 ≤ c ∧ c < (names.length : Int)
  l : lot.length < 63
section
variable {names : List Str} {rows : List (List Int)} {lot : List Int} {c : Nat}
variable {i j : Nat}
end
end DL

set_option Elab.async false
set_option linter.all false
set_option maxRecDepth 100000
set_option maxHeartbeats 4000000
/-! refusals of cells -/
namespace DL
open PySem PySem.Spec PyProof.Rows L2
structure NcOk (b : Bk) (cells : List Int) : Prop where
  l : cells.length < 63
  ok : ¬ (badC b.size cells).isSome = true → ClrOk b.size b.frame (sset cells)
  sz : b.size ≤ 1000
  ru : RuleOk b cells
structure NcBad (b : Bk) (cells : List Int) (c d x : Int) : Prop where
  ok : NcOk b cells
  d0 : 0 ≤ d
  d3 : d ≤ 3
  bad : badC b.size cells = some x ∨ (d = 3 ∧ badC b.size cells = none ∧ ¬ (0 ≤ c ∧ c < (b.size : Int)) ∧ x = c)
section
variable {b : Bk} {cells : List Int} {c d x k : Int}
theorem NcBad.ne (h : NcBad b cells c d x) (hc : decide (d = k) = true) (hk : k ≠ 3) : badC b.size cells = some x := by
  have hc := of_decide_eq_true hc
  rcases h.bad with z | ⟨z, _⟩
  · exact z
  · exact absurd (hc.symm.trans z) hk
end
end DL

set_option Elab.async false
set_option linter.all false
set_option maxRecDepth 100000
set_option maxHeartbeats 4000000
/-! the book of all tables, the book of zeros -/
namespace DL
open PySem PySem.Spec PyProof.Rows L2
theorem unitR_len (n c : Nat) : (unitR n c).length = n := by unfold unitR; simp
theorem unitR_at {n c : Nat} (h : c < n) (j : Nat) : (unitR n c).getD j 0 = if j = c then 1 else 0 := by
  unfold unitR
  rw [List.getD_eq_getElem?_getD, List.getElem?_set]
  by_cases e : c = j
  · subst e
    rw [if_pos rfl, if_pos rfl, if_pos (by simpa using h)]
    rfl
  · rw [if_neg e, if_neg (fun z => e z.symm), List.getElem?_replicate]
    split <;> rfl
theorem unit_fnz {n c : Nat} (h : c < n) : fnz (unitR n c) = some 1 := by
  have := fnz_at (ns := unitR n c) (i := c) (by rw [unitR_len]; exact h) (fun j hj => by rw [unitR_at h, if_neg (by omega)]) (by rw [unitR_at h, if_pos rfl]; decide)
  rwa [unitR_at h, if_pos rfl] at this
theorem unit_gl {n c : Nat} (h : c < n) : gl (unitR n c) = 1 := by
  have hm : (1 : Int) ∈ unitR n c := by
    have := getD_memI (l := unitR n c) (i := c) (by rw [unitR_len]; exact h)
    rwa [unitR_at h, if_pos rfl] at this
  have := (gl_dvd (d := gl (unitR n c)) (ns := unitR n c)).mp (Nat.dvd_refl _) 1 hm
  have h2 : gl (unitR n c) ∣ 1 := Int.natCast_dvd_natCast.mp this
  exact Nat.dvd_one.mp h2
theorem unit_low {n c : Nat} (h : c < n) : lowest (unitR n c) = unitR n c := by
  unfold lowest
  rw [unit_fnz h]
  dsimp only
  rw [unit_gl h]
  refine (List.map_congr_left fun x _ => ?_).trans (List.map_id _)
  show x.fdiv (sdv 1 1) = x
  have : sdv 1 1 = 1 := by unfold sdv; decide
  rw [this, Int.fdiv_one]
theorem leadAt_unit {n c : Nat} {A B : List Nat} (hA : c ∉ A) (hc : c < n) (hn : ∀ a ∈ A, a < n) : leadAt ((A ++ c :: B).map (unitR n)) c = some A.length := by
  have len : ((A ++ c :: B).map (unitR n)).length = A.length + (B.length + 1) := by rw [List.length_map, List.length_append, List.length_cons]
  refine leadAt_at (by omega) (fun j hj => ?_) ?_
  · have e : ((A ++ c :: B).map (unitR n)).getD j [] = unitR n A[j] := by
      rw [List.getD_eq_getElem?_getD, List.getElem?_map, List.getElem?_append_left hj, List.getElem?_eq_getElem hj]
      rfl
    rw [e, unitR_at (hn _ (List.getElem_mem hj)), if_neg (fun z : c = A[j] => hA (by rw [z]; exact List.getElem_mem hj))]
  · have e : ((A ++ c :: B).map (unitR n)).getD A.length [] = unitR n c := by
      rw [List.getD_eq_getElem?_getD, List.getElem?_map, List.getElem?_append_right (Nat.le_refl _), Nat.sub_self]
      rfl
    rw [e, unitR_at hc, if_pos rfl]
    decide
theorem wout_unit {n c : Nat} {L : List Nat} {lead : List Int} (hc : c ∉ L) (hn : ∀ a ∈ L, a < n) : wout (L.map (unitR n)) lead c = L.map (unitR n) := by
  unfold wout
  rw [List.map_map]
  refine List.map_congr_left fun a ha => ?_
  show (if (unitR n a).getD c 0 = 0 then unitR n a else _) = unitR n a
  rw [if_pos (by rw [unitR_at (hn a ha), if_neg (fun z : c = a => hc (by rw [z]; exact ha))])]
theorem zl_snoc (D : List Nat) (c : Nat) : zl (D ++ [c]) = zl D ++ [(c : Int)] := by unfold zl; rw [List.map_append]; rfl
theorem clr_unit {n : Nat} {S : List Nat} (hS : S.Nodup) (hn : ∀ a ∈ S, a < n) (D : List Nat) (hD : D.Nodup) (hsub : ∀ d ∈ D, d ∈ S) : clr (S.map (unitR n)) (zl D) = ⟨zl D, D.map (unitR n), (S.filter fun a => decide (a ∉ D)).map (unitR n)⟩ := by
  induction D using snoc_ind with
  | nil =>
    have : (S.filter fun a => decide (a ∉ ([] : List Nat))) = S := List.filter_eq_self.mpr fun a _ => by simp
    rw [this]
    rfl
  | snoc D c ih =>
    have hD2 := List.nodup_append.mp hD
    have cD : c ∉ D := fun z => hD2.2.2 c z c (List.mem_singleton.mpr rfl) rfl
    have cS := hsub c (List.mem_append_right _ (List.mem_singleton.mpr rfl))
    rw [zl_snoc, clr_snoc, ih hD2.1 fun d hd => hsub d (List.mem_append_left _ hd)]
    have cT : c ∈ S.filter fun a => decide (a ∉ D) := List.mem_filter.mpr ⟨cS, decide_eq_true cD⟩
    have nT : (S.filter fun a => decide (a ∉ D)).Nodup := hS.sublist List.filter_sublist
    have lT : ∀ a ∈ S.filter (fun a => decide (a ∉ D)), a < n := fun a ha => hn a (List.mem_filter.mp ha).1
    have fT : (S.filter fun a => decide (a ∉ D ++ [c])) = (S.filter fun a => decide (a ∉ D)).filter fun a => decide (a ≠ c) := by
      rw [List.filter_filter]
      refine List.filter_congr fun a _ => ?_
      simp
      by_cases h1 : a ∈ D <;> by_cases h2 : a = c <;> simp [h1, h2]
    rw [fT]
    obtain ⟨A, B, e⟩ := List.append_of_mem cT
    rw [e] at nT lT ⊢
    have n1 := List.nodup_append.mp nT
    have cA : c ∉ A := fun z => n1.2.2 c z c (List.mem_cons_self ..) rfl
    have cB : c ∉ B := (List.nodup_cons.mp n1.2.1).1
    have fAB : (A ++ c :: B).filter (fun a => decide (a ≠ c)) = A ++ B := by
      rw [List.filter_append, List.filter_cons_of_neg (by simp)]
      rw [List.filter_eq_self.mpr fun a ha => by simp; exact fun z => cA (z ▸ ha), List.filter_eq_self.mpr fun a ha => by simp; exact fun z => cB (z ▸ ha)]
    rw [fAB]
    unfold clStep
    dsimp only
    have hl := leadAt_unit (n := n) (B := B) cA (hn c cS) fun a ha => lT a (List.mem_append_left _ ha)
    rw [show ((c : Int)).toNat = c from rfl, hl]
    dsimp only
    have t1 : ((A ++ c :: B).map (unitR n)).take A.length ++ ((A ++ c :: B).map (unitR n)).drop (A.length + 1) = (A ++ B).map (unitR n) := by
      rw [← List.map_take, ← List.map_drop, ← List.map_append]
      congr 1
      rw [List.take_append_of_le_length (Nat.le_refl _), List.take_length, List.drop_append]
      rw [List.drop_of_length_le (by omega), show A.length + 1 - A.length = 1 by omega]
      rfl
    have t2 : ((A ++ c :: B).map (unitR n)).getD A.length [] = unitR n c := by
      rw [List.getD_eq_getElem?_getD, List.getElem?_map, List.getElem?_append_right (Nat.le_refl _), Nat.sub_self]
      rfl
    rw [t1, t2, wout_unit cD fun a ha => hn a (hsub a (List.mem_append_left _ ha)), wout_unit (L := A ++ B) (fun z => (List.mem_append.mp z).elim cA cB) fun a ha => lT a ((List.mem_append.mp ha).elim (List.mem_append_left _) fun z => List.mem_append_right _ (List.mem_cons_of_mem _ z)), List.map_append, List.map_append]
    rfl
theorem freeZ_prim (n : Nat) : ((freeZ n).map toQ).map prim = freeZ n := by
  rw [List.map_map]
  refine (List.map_congr_left fun r hr => ?_).trans (List.map_id _)
  obtain ⟨c, hc, rfl⟩ := List.mem_map.mp hr
  show prim (toQ (unitR n c)) = unitR n c
  rw [prim_toQ, unit_low (List.mem_range.mp hc)]
theorem clr_free {n : Nat} (D : List Nat) (hD : D.Nodup) (hsub : ∀ d ∈ D, d < n) : clr (freeZ n) (zl D) = ⟨zl D, D.map (unitR n), ((List.range n).filter fun a => decide (a ∉ D)).map (unitR n)⟩ :=
  clr_unit List.nodup_range (fun a ha => List.mem_range.mp ha) D hD fun d hd => List.mem_range.mpr (hsub d hd)
theorem frame_free (n : Nat) : frameQ ((freeZ n).map toQ) n = freeZ n := by
  unfold frameQ frameZ
  rw [freeZ_prim]
  have := clr_free (List.range n) List.nodup_range fun d hd => List.mem_range.mp hd
  rw [show upto n = zl (List.range n) from rfl, this]
  rfl
theorem unit_row {n c : Nat} : RowOk n (unitR n c) := ⟨unitR_len n c, fun x hx => by
  unfold unitR at hx
  rcases List.mem_or_eq_of_mem_set hx with h | h
  · rw [(List.mem_replicate.mp h).2]; decide
  · rw [h]; decide⟩
theorem zl_take (D : List Nat) (i : Nat) : (zl D).take i = zl (D.take i) := by unfold zl; rw [List.map_take]
theorem free_clrok {n : Nat} (hn : n ≤ 16) {D : List Nat} (hD : D.Nodup) (hsub : ∀ d ∈ D, d < n) : ClrOk n (freeZ n) (zl D) := by
  have lD : D.length ≤ n := by
    have := nodup_sub hD (m := List.range n) fun x hx => List.mem_range.mpr (hsub x hx)
    rwa [List.length_range] at this
  have st : ∀ i, clr (freeZ n) ((zl D).take i) = ⟨zl (D.take i), (D.take i).map (unitR n), ((List.range n).filter fun a => decide (a ∉ D.take i)).map (unitR n)⟩ := fun i => by
    rw [zl_take]
    exact clr_free _ (hD.sublist (List.take_sublist _ _)) fun d hd => hsub d (List.mem_of_mem_take hd)
  refine ⟨by omega, by unfold freeZ; rw [List.length_map, List.length_range]; omega, by unfold zl; rw [List.length_map]; omega, fun c hc => ?_, fun i _ r hr => ?_, fun i _ => ?_⟩
  · obtain ⟨d, hd, rfl⟩ := List.mem_map.mp hc
    have := hsub d hd
    omega
  · rw [st i] at hr
    rcases List.mem_append.mp hr with h | h
    · obtain ⟨a, _, rfl⟩ := List.mem_map.mp h; exact unit_row
    · obtain ⟨a, _, rfl⟩ := List.mem_map.mp h; exact unit_row
  · rw [st i]
    have h1 : (D.take i).length ≤ n := by rw [List.length_take]; omega
    have h2 : ((List.range n).filter fun a => decide (a ∉ D.take i)).length ≤ n := Nat.le_trans (List.length_filter_le _ _) (by rw [List.length_range]; exact Nat.le_refl _)
    unfold zl
    simp only [List.length_map]
    omega
end DL

set_option Elab.async false
set_option linter.all false
set_option maxRecDepth 100000
set_option maxHeartbeats 4000000
namespace DL
open PySem PySem.Spec PyProof.Rows L2
structure BsOk (names : List Str) (lot : List Int) : Prop where
  n1 : 1 ≤ names.length
  n2 : names.length ≤ 16
  nm : namesOk names = true
  nl : ∀ x ∈ names, x.length ≤ 100000
  inn : ∀ c ∈ lot, 0 ≤ c ∧ c < (names.length : Int)
  l : lot.length < 63
section
variable {names : List Str} {lot : List Int} {c n : Nat}
/-! all tables -/
theorem fr_frok (h1 : 1 ≤ n) (h2 : n ≤ 16) : FrOk n ((freeZ n).map toQ) where
  n1 := by omega
  n2 := by rw [List.length_map]; unfold freeZ; rw [List.length_map, List.length_range]; omega
  pr := fun r hr => by
    obtain ⟨q, hq, rfl⟩ := List.mem_map.mp hr
    obtain ⟨c, hc, rfl⟩ := List.mem_map.mp hq
    refine ⟨10, fun x hx => ?_, by rw [toQ_len, unitR_len]; omega, by rw [toQ_len, unitR_len]; omega⟩
    obtain ⟨a, b⟩ := toQ_den hx
    obtain ⟨j, e⟩ := mem_getD0 b
    rw [unitR_at (List.mem_range.mp hc)] at e
    refine ⟨?_, by rw [a]; decide⟩
    rw [e]
    split <;> decide
  cl := by
    rw [freeZ_prim]
    exact free_clrok h2 List.nodup_range fun d hd => List.mem_range.mp hd
/-! zeros alone -/
end
end DL

set_option Elab.async false
set_option linter.all false
set_option maxRecDepth 100000
set_option maxHeartbeats 4000000
/-! enumerate of a row, a list or a tuple -/
namespace DL
open PySem PySem.Spec PyProof.Rows L2
theorem draws_sq {prog : Program} {w : World} {A : Around} (hh : A.handled = none) (t : Bool) (it l : Addr) (hne : l ≠ it) (items : Array Value) :
    Draws prog w A it [it, l] items.size (fun i v => items[i]? = some v) (fun i h => IsSqI t h it l i ∧ IsSq t h l items) where
  live := fun _ _ st => let ⟨o, ho, _⟩ := st.1.ob; ⟨o, ho⟩
  frame := fun _ _ _ st hk => ⟨st.1.keep fun o e => hk it (by simp) o e, st.2.keep fun o e => hk l (by simp) o e⟩
  item := fun i s Q E hi st hQ => by
    refine sq_next st.1 st.2 (x := items[i]) (by simp [hi]) fun h' hit' hs' => ?_
    exact hQ _ h' s.toks (by simp [hi]) ⟨hit', st.2.keep fun o e => hs'.extBut _ _ hne e⟩ hs'
  done := fun s Q E st hE => sq_stop hh st.1 st.2 (by simp) hE
theorem en_meets (t : Bool) (l : Addr) (items : Array Value) : Meets (Builtin.«enumerate.__new__» ⟨[.type "enumerate", .ref l], []⟩) (fun _ R s => IsSq t s.heap l items ∧
      R (.ok (.ret (.ref (s.heap.push (itObj t l)).objs.size))) { s with heap := (s.heap.push (itObj t l)).push { cls := .type "enumerate", data := .fields #[.none, .bool false, .ref s.heap.objs.size, rawInt 0, .none, .none] } }) :=
  .of_wp fun prog w A R s h => by
    obtain ⟨hp, g, d, tk, os⟩ := s
    obtain ⟨ha, h⟩ := h
    have hsub := sub_enumerate
    cases t
    · have ia : Heap.IsList (Shared.heap ⟨hp, g, d, tk, os⟩) l items := ha
      wp_walk using wpAny_pyIter_list ia
      refine wpAny_stack_any fun st => wpAny_pure ?_
      split
      · rename_i c _ _ _ _ _
        cases (c == Value.type "enumerate")
        · wp_walk using wpAny_pyIter_list ia
          exact ⟨_, rfl, h⟩
        · wp_walk using wpAny_pyIter_list ia
          exact ⟨_, rfl, h⟩
      · wp_walk using wpAny_pyIter_list ia
        exact ⟨_, rfl, h⟩
    · have ia : Heap.IsTuple (Shared.heap ⟨hp, g, d, tk, os⟩) l items := ha
      wp_walk using wpAny_pyIter_tuple ia
      refine wpAny_stack_any fun st => wpAny_pure ?_
      split
      · rename_i c _ _ _ _ _
        cases (c == Value.type "enumerate")
        · wp_walk using wpAny_pyIter_tuple ia
          exact ⟨_, rfl, h⟩
        · wp_walk using wpAny_pyIter_tuple ia
          exact ⟨_, rfl, h⟩
      · wp_walk using wpAny_pyIter_tuple ia
        exact ⟨_, rfl, h⟩
theorem en_made {P : Program} {w : World} {A : Around} {E : Value → Shared → Prop} {s : Shared} {t : Bool} {l : Addr} {items : Array Value} {Q : Value → Shared → Prop} (hL : IsSq t s.heap l items)
    (h : ∀ h', IsEnum h' (s.heap.objs.size + 1) s.heap.objs.size 0 .none → IsSqI t h' s.heap.objs.size l 0 → h'.objs.size = s.heap.objs.size + 2 →
      (∀ b o, s.heap.get? b = some o → h'.get? b = some o) → Q (.ref (s.heap.objs.size + 1)) { s with heap := h' }) :
    wpAny (model P w) A (call (.type "enumerate") [.ref l]) Q E s := by
  refine callType_new F.called_enumerate (by decide) (F.typeCall_enumerate_1 _) (F.newCall_enumerate_1 _) (fun obj => F.args_object_init_2 obj _) F.entry_enumerate_new (en_meets t l items) ⟨hL, ?_⟩
  have hz : (s.heap.push (itObj t l)).objs.size = s.heap.objs.size + 1 := Heap.size_push ..
  show _ ∧ _
  rw [hz]
  have he : IsEnum ((s.heap.push (itObj t l)).push { cls := .type "enumerate", data := .fields #[.none, .bool false, .ref s.heap.objs.size, rawInt 0, .none, .none] }) (s.heap.objs.size + 1) s.heap.objs.size 0 .none := by
    have := Heap.get?_push_size (s.heap.push (itObj t l)) (o := { cls := .type "enumerate", data := .fields #[.none, .bool false, .ref s.heap.objs.size, rawInt 0, .none, .none] }) rfl
    rw [hz] at this; exact this
  exact ⟨⟨_, he, rfl⟩, h _ he (isSqI_new (Heap.get?_push_of_some _ (Heap.get?_push_size _ (by cases t <;> rfl)))) (by rw [Heap.size_push, hz]) fun b o x => Heap.get?_push_of_some _ (Heap.get?_push_of_some _ x)⟩
/-- the row at a as it stands at each turn, each item in a new pair -/
def IteB (t : Bool) (K : PySem.W.Frag) (a : Addr) : It :=
  ⟨fun i H => ∃ (xs : List V) (x : V), SqB t K H a xs ∧ xs[i]? = some x, fun i H v H' => ∃ T x, v = .ref T ∧ H T = none ∧ H' = upd H T (.tup [.int (i : Nat), x]) ∧ ∀ xs, SqB t K H a xs → xs[i]? = some x, fun i H => ∃ xs : List V, SqB t K H a xs ∧ xs.length ≤ i⟩
theorem turn_en {P : Program} {w : World} {K : PySem.W.Frag} {elts : List Expr} {kk : Nat} {tpos : Pos} {t : Bool} (a e it : Addr) (hei : e ≠ it) (hea : a ≠ e) (hia : a ≠ it) :
    Turn P w K (.Tuple elts kk tpos) (IteB t K a) [e, it] e (fun i h => (∃ old, IsEnum h e it ((i : Nat) : Int) old) ∧ IsSqI t h it a i) where
  mem := by simp
  obj := fun i h st b hb => by
    obtain ⟨⟨old, he⟩, hi⟩ := st
    have e' : b = e ∨ b = it := by simpa using hb
    rcases e' with z | z
    · rw [z]; exact ⟨_, he, fun v q => nomatch q⟩
    · rw [z]; exact hi.ob
  keep := fun i h h' st k => let ⟨⟨old, he⟩, hi⟩ := st; ⟨⟨old, k e (by simp) _ he⟩, hi.keep fun o q => k it (by simp) o q⟩
  item := by
    intro X hP hw hK hc i pins s σ H E I hf st hg
    subst hP hw hK
    obtain ⟨⟨old, he⟩, hit⟩ := st
    obtain ⟨xs, x, hq, hx⟩ := hg
    obtain ⟨its, rv, p, hz⟩ := inv_sq I hq
    obtain ⟨u, hu, ru⟩ := rv.get hx
    have hel : e < s.heap.objs.size := Heap.lt_size he
    have hil : it < s.heap.objs.size := by obtain ⟨_, q, _⟩ := hit.ob; exact Heap.lt_size q
    have hlt : i < its.toArray.size := by
      have := (List.getElem?_eq_some_iff.mp hu).1
      simpa using this
    refine wpAny_pyNext_enum_itemD (draws_sq (A := X.A.in1) (I.ok.hd hc) t it a hia its.toArray) he ⟨hit, p⟩ hlt hei (fun z => by
      have : e = it ∨ e = a := by simpa using z
      exact this.elim hei fun y => hea y.symm) fun y h' tk hy ho hit' hT hsz hk => ?_
    have hyu : y = u := by
      have h1 : its.toArray[i]? = some y := hy
      rw [List.getElem?_toArray, hu] at h1
      exact (Option.some.inj h1).symm
    subst hyu
    refine ⟨_, rfl, wpAny_letOwnedTupleGo_enum (s := { s with heap := h', toks := tk + 1 }) ho fun h'' he' sb => ?_⟩
    have hT2 : h''.get? s.heap.objs.size = some { cls := .type "tuple", data := .seq #[.int i tk, y] } := (sb.2 _ (Nat.ne_of_gt hel)).trans hT
    have new : ObjOk X.prog X.w (upd H s.heap.objs.size (.tup [.int (i : Nat), x])) h'' s.heap.objs.size (.tup [.int (i : Nat), x]) :=
      ⟨by show 2 ≤ sizeLine; decide, [.int i tk, y], .cons ⟨_, rfl⟩ (.cons ru .nil), ⟨_, hT2, rfl, _, rfl⟩⟩
    have I1 : Inv X pins σ (upd H s.heap.objs.size (.tup [.int (i : Nat), x])) { s with heap := h'', toks := tk + 1 } :=
      I.turnedNew (ch := [e, it]) (fun b ob hb q => (sb.2 b (fun z => hb (by simp [z]))).trans (hk b ob (fun z => hb (by simp [z])) (fun z => hb (by simp [z])) q)) hf (Nat.le_refl _) new
    refine ⟨.ref s.heap.objs.size, _, I1, rfl, ⟨_, x, rfl, I.hok.fresh (Nat.le_refl _), rfl, fun ys hy => by rw [sq_inj I hy hq]; exact hx⟩, ⟨⟨y, ?_⟩, hit'.1.keep fun o q => (sb.2 it (Ne.symm hei)).trans q⟩, fun b hb => ?_⟩
    · have e1 : ((i + 1 : Nat) : Int) = (i : Int) + 1 := by omega
      rw [e1]; exact he'
    · have hb' : b < s.heap.objs.size := by
        have e' : b = e ∨ b = it := by simpa using hb
        rcases e' with z | z
        · rw [z]; exact hel
        · rw [z]; exact hil
      rw [upd_ne (Nat.ne_of_lt hb')]
      exact (hf b hb).1
  done := by
    intro X hP hw hK hc i pins s σ H E I hf st hg
    subst hP hw hK
    obtain ⟨⟨old, he⟩, hit⟩ := st
    obtain ⟨xs, hq, hx⟩ := hg
    obtain ⟨its, rv, p, hz⟩ := inv_sq I hq
    obtain ⟨f0, f1, f2, f3, f4, f5⟩ := hf it (by simp)
    have hl := rv.length
    have hT : s.TypeIs (.ref e) "enumerate" := ⟨_, he, rfl⟩
    unfold pyNext
    refine wpAny_bind (wpAny_attempt (wpAny_callSpecial?_slot (name := Str.ofString "__next__") hT F.slot_enumerate_next
      (wpAny_call_entry F.slot_enumerate_next hT F.entry_enumerate_next ?_ (F.args_enumerate_next_1 _))))
    show wpAny _ _ (field (.ref e) 2 >>= _) _ _ _
    refine wpAny_bind (wpAny_field he rfl (x := .ref it) rfl ?_)
    refine wpAny_bind (sq_stop (I.ok.hd hc) hit p (by simp; omega) fun h' x he' hx' => ?_)
    obtain ⟨o, ho, hc'⟩ := hx'
    refine wpAny_bind (wpAny_isInstance (T := "StopIteration") (b := true) ⟨o, ho, hc'⟩ isSubtype_stop ?_)
    exact wpAny_pure ⟨rfl, I.turned (t' := s.toks) (fun b o hb q => he' b o hb q) f0 f1 f3 f4 f5⟩
  self := fun A i s Q E st h => let ⟨⟨_, he⟩, _⟩ := st; wpAny_pyIter_enum he h
theorem pi_en {X : Cx} {e : Expr} {ta : TA} {p pos tpos : Pos} {elts : List Expr} {kk : Nat} (hg : Gl X "enumerate") (hm : X.mg "enumerate" = none) (ha : PA X [e] ta) (hs : starEach [e] X.env = [(false, eval e X.env)] := by rfl) :
    PI X (.Tuple elts kk tpos) (.Call (.Name "enumerate" p) [e] [] pos) (fun σ H R => ta σ H fun vs H1 => ∃ a xs t, vs = [.ref a] ∧ SqB t X.K H1 a xs ∧ R (IteB t X.K a) H1) := by
  refine ⟨fun pins s σ H R I h => ?_⟩
  refine Call_ (ld_blt I hg hm boot_enumerate (PyProof.Rows.callWith_type1 (thn (ha.run pos pins s σ H _ I h) fun us s1 ⟨vs, H1, I1, r1, q1⟩ => ?_) hs rfl))
  obtain ⟨a, xs, t, ex, hq, q⟩ := q1
  subst ex
  cases r1 with
  | cons r rr =>
    cases rr
    cases r
    obtain ⟨its, rv, p', hz⟩ := inv_sq I1 hq
    refine en_made p' fun h' he hit hsz2 hk => wpAny_pyIter_enum he ?_
    have I2 : Inv X pins σ H1 { s1 with heap := h' } := I1.kept (t' := s1.toks) hk
    refine ⟨s1.heap.objs.size + 1, [s1.heap.objs.size + 1, s1.heap.objs.size], _, _, H1, rfl, I2, turn_en a (s1.heap.objs.size + 1) s1.heap.objs.size (Nat.succ_ne_self _) (Nat.ne_of_lt (Nat.lt_succ_of_lt hz)) (Nat.ne_of_lt hz), ⟨⟨.none, he⟩, hit⟩, fun b hb => ?_, q⟩
    have e' : b = s1.heap.objs.size + 1 ∨ b = s1.heap.objs.size := by simpa using hb
    have hle : s1.heap.objs.size ≤ b := by
      rcases e' with z | z
      · rw [z]; exact Nat.le_add_right _ _
      · rw [z]; exact Nat.le_refl _
    exact I1.fpOk hle (I1.hok.fresh hle)
section
variable {X : Cx} {N : List Str} {sc : Scope} {k j : Nat} {Γ : List Sl} {tg it : Expr} {es : List Expr} {l : List Rep} {pos p : Pos} {α : Type} {R : α → Rep} {xs : List α}
theorem sr_enumS {jj : Nat} {tpos : Pos} (B : BX X N sc k) (hm : X.mg "enumerate" = none) (h : DE X Γ it (rSeq X.K l)) (hg : sc.names.lookup ("enumerate" : Str) = some NameKind.globalImplicit) (hs : starEach [it] X.env = [(false, eval it X.env)] := by rfl) :
    SR X Γ (.Tuple es jj tpos) (.Call (.Name "enumerate" p) [it] [] pos) l.length (fun i => rTup X.K [rInt (i : Nat), l.getD i rNon]) := fun F0 H0 F H σ en R q => by
  have hgl : Gl X "enumerate" := by
    show X.env.scope.names.lookup _ = _
    rw [B.hsc]
    exact hg
  refine .of (pi_en hgl hm (pa_cons pe_ev pa_nil hs) hs) (h F0 H0 F H σ en _ fun v F1 H1 g hv => ?_)
  obtain ⟨p, vs, rfl, hsq, hl⟩ := hv
  obtain ⟨t, hsq⟩ := hsq.b
  refine ⟨p, vs, t, rfl, hsq.mono g.s, q _ F1 H1 g ⟨fun i H2 s hi => ⟨vs, hsq.mono s, ?_⟩, fun i H2 s hi => ?_, fun i F2 H2 x H' s s2 hi hy => ?_⟩⟩
  · rw [← hl.len]
    exact hi
  · have i1 : i < vs.length := hl.len ▸ hi
    exact ⟨vs, vs[i], hsq.mono s, List.getElem?_eq_getElem i1⟩
  · obtain ⟨T, y, rfl, nT, rfl, f1⟩ := hy
    obtain ⟨r1, e1, k1⟩ := hl.got (f1 vs (SqB.mono s2 (hsq.mono s)))
    refine ⟨_, .new s2 nT, T, _, rfl, SqT.of upd_same, ?_⟩
    have sn : Same F2 (upd F2 T (.tup [.int (i : Nat), y])) := same_new (s2.free nT)
    refine .cons rfl (.cons ?_ .nil)
    rw [List.getD_eq_getElem?_getD, e1]
    exact r1.mono (s.trans sn) k1
theorem sr_enumA {jj : Nat} {tpos : Pos} (d : α) (B : BX X N sc k) (hm : X.mg "enumerate" = none) (h : DE X Γ it (rSeq X.K (xs.map R))) (hg : sc.names.lookup ("enumerate" : Str) = some NameKind.globalImplicit) (hs : starEach [it] X.env = [(false, eval it X.env)] := by rfl) :
    SR X Γ (.Tuple es jj tpos) (.Call (.Name "enumerate" p) [it] [] pos) xs.length (fun i => rTup X.K [rInt (i : Nat), R (xs.getD i d)]) := by
  have z := sr_enumS (es := es) (jj := jj) (tpos := tpos) (p := p) (pos := pos) B hm h hg hs
  rw [List.length_map] at z
  exact z.to fun i hi => by rw [getD_map d hi]
end
end DL

set_option Elab.async false
set_option linter.all false
set_option maxRecDepth 100000
set_option maxHeartbeats 4000000
/-! zip of three rows, each a list or a tuple -/
namespace DL
open PySem PySem.Spec PyProof.Rows L2
theorem begins_sq (t : Bool) (l : Addr) (items : Array Value) : Begins (.ref l) (itObj t l) fun h => IsSq t h l items := by
  cases t with
  | false => exact begins_list l items
  | true => exact begins_tuple l items
def It3 (t u v : Bool) (K : PySem.W.Frag) (a b c : Addr) (n1 n2 n3 : Nat) : It :=
  ⟨fun i H => ∃ (xs ys zs : List V), SqB t K H a xs ∧ SqB u K H b ys ∧ SqB v K H c zs ∧ xs.length = n1 ∧ ys.length = n2 ∧ zs.length = n3 ∧ i < min (min n1 n2) n3,
    fun i H w H' => ∃ T x y z, w = .ref T ∧ H T = none ∧ H' = upd H T (.tup [x, y, z]) ∧ (∀ xs, SqB t K H a xs → xs[i]? = some x) ∧ (∀ ys, SqB u K H b ys → ys[i]? = some y) ∧ ∀ zs, SqB v K H c zs → zs[i]? = some z,
    fun i H => (∃ xs ys zs : List V, SqB t K H a xs ∧ SqB u K H b ys ∧ SqB v K H c zs ∧ xs.length = n1 ∧ ys.length = n2 ∧ zs.length = n3) ∧ min (min n1 n2) n3 ≤ i⟩
theorem turn_z3 {P : Program} {w : World} {K : PySem.W.Frag} {elts : List Expr} {kk : Nat} {tpos : Pos} {t u v : Bool} {a b c z TI TO i1 i2 i3 : Addr} {n1 n2 n3 : Nat} (S : ZipSep3 z TI TO i1 i2 i3 [i1, a] [i2, b] [i3, c]) (ha : a ≠ i1) (hb : b ≠ i2) (hc3 : c ≠ i3) :
    Turn P w K (.Tuple elts kk tpos) (It3 t u v K a b c n1 n2 n3) [z, TI, TO, i1, i2, i3] z (fun i h => IsZip h z TI TO .none ∧ IsTupOf3 h TI (.ref i1) (.ref i2) (.ref i3) ∧ (∃ x y q, IsTupOf3 h TO x y q) ∧ IsSqI t h i1 a i ∧ IsSqI u h i2 b i ∧ IsSqI v h i3 c i ∧ i ≤ min (min n1 n2) n3) where
  mem := by simp
  obj := fun i h ⟨hz, hTI, ⟨x, y, q, hTO⟩, h1, h2, h3, _⟩ d hd => by
    have e' : d = z ∨ d = TI ∨ d = TO ∨ d = i1 ∨ d = i2 ∨ d = i3 := by simpa using hd
    rcases e' with q | q | q | q | q | q <;> subst q
    · exact ⟨_, hz, fun v q => nomatch q⟩
    · exact ⟨_, hTI, fun v q => nomatch q⟩
    · exact ⟨_, hTO, fun v q => nomatch q⟩
    · exact h1.ob
    · exact h2.ob
    · exact h3.ob
  keep := fun i h h' ⟨hz, hTI, ⟨x, y, q, hTO⟩, h1, h2, h3, hi⟩ k => ⟨k z (by simp) _ hz, k TI (by simp) _ hTI, ⟨x, y, q, k TO (by simp) _ hTO⟩, h1.keep fun o q => k i1 (by simp) o q, h2.keep fun o q => k i2 (by simp) o q, h3.keep fun o q => k i3 (by simp) o q, hi⟩
  item := by
    intro X hP hw hK hc i pins s σ H E I hf st hg
    subst hP hw hK
    obtain ⟨hz, hTI, ⟨x0, y0, z0, hTO⟩, h1, h2, h3, _⟩ := st
    obtain ⟨xs, ys, zs, qx, qy, qz, lx, ly, lz', hi⟩ := hg
    obtain ⟨its, rv, p, _⟩ := inv_sq I qx
    obtain ⟨its2, rv2, p2, _⟩ := inv_sq I qy
    obtain ⟨its3, rv3, p3, _⟩ := inv_sq I qz
    have l1 := rv.length
    have l2 := rv2.length
    have l3 := rv3.length
    have lz : z < s.heap.objs.size := Heap.lt_size hz
    have hx : xs[i]? = some (xs[i]'(by omega)) := List.getElem?_eq_getElem _
    have hy : ys[i]? = some (ys[i]'(by omega)) := List.getElem?_eq_getElem _
    have hq : zs[i]? = some (zs[i]'(by omega)) := List.getElem?_eq_getElem _
    generalize xs[i]'(by omega) = x at hx
    generalize ys[i]'(by omega) = y at hy
    generalize zs[i]'(by omega) = q at hq
    obtain ⟨a1, hu, ra⟩ := rv.get hx
    obtain ⟨a2, hu2, rb⟩ := rv2.get hy
    obtain ⟨a3, hu3, rc⟩ := rv3.get hq
    refine wpAny_pyNext_zipD3_item S (draws_sq (A := X.A.in1) (I.ok.hd hc) t i1 a ha its.toArray) (draws_sq (A := X.A.in1) (I.ok.hd hc) u i2 b hb its2.toArray) (draws_sq (A := X.A.in1) (I.ok.hd hc) v i3 c hc3 its3.toArray) hz hTI hTO ⟨h1, p⟩ ⟨h2, p2⟩ ⟨h3, p3⟩ (by simp; omega) (by simp; omega) (by simp; omega)
      fun b1 b2 b3 h' tk e1 e2 e3 z' to' j1 j2 j3 pn sz kp => ⟨_, rfl, wpAny_letOwnedTupleGo_zip (s := { s with heap := h', toks := tk }) z' fun h2' z2' sb => ?_⟩
    have eb1 : b1 = a1 := by
      have h0 : its.toArray[i]? = some b1 := e1
      rw [List.getElem?_toArray, hu] at h0
      exact (Option.some.inj h0).symm
    have eb2 : b2 = a2 := by
      have h0 : its2.toArray[i]? = some b2 := e2
      rw [List.getElem?_toArray, hu2] at h0
      exact (Option.some.inj h0).symm
    have eb3 : b3 = a3 := by
      have h0 : its3.toArray[i]? = some b3 := e3
      rw [List.getElem?_toArray, hu3] at h0
      exact (Option.some.inj h0).symm
    subst eb1 eb2 eb3
    have pn2 : IsTupOf3 h2' s.heap.objs.size b1 b2 b3 := (sb.2 _ (Nat.ne_of_gt lz)).trans pn
    have new : ObjOk X.prog X.w (upd H s.heap.objs.size (.tup [x, y, q])) h2' s.heap.objs.size (.tup [x, y, q]) := ⟨by show 3 ≤ sizeLine; decide, [b1, b2, b3], .cons ra (.cons rb (.cons rc .nil)), ⟨_, pn2, rfl, _, rfl⟩⟩
    have no : ∀ {d : Addr}, d ∉ [z, TI, TO, i1, i2, i3] → d ≠ z ∧ d ≠ TO ∧ d ≠ i1 ∧ d ≠ i2 ∧ d ≠ i3 := fun hd => by simp at hd; exact ⟨hd.1, hd.2.2.1, hd.2.2.2.1, hd.2.2.2.2.1, hd.2.2.2.2.2⟩
    have I1 : Inv X pins σ (upd H s.heap.objs.size (.tup [x, y, q])) { s with heap := h2', toks := tk } :=
      I.turnedNew (t' := tk) (ch := [z, TI, TO, i1, i2, i3]) (fun d o hb' q' => by
        obtain ⟨c1, c2, c3, c4, c5⟩ := no hb'
        exact (sb.2 d c1).trans (kp d o c1 c2 c3 c4 c5 q')) hf (Nat.le_refl _) new
    refine ⟨.ref s.heap.objs.size, _, I1, rfl, ⟨_, x, y, q, rfl, I.hok.fresh (Nat.le_refl _), rfl, fun l hl => by rw [sq_inj I hl qx]; exact hx, fun l hl => by rw [sq_inj I hl qy]; exact hy, fun l hl => by rw [sq_inj I hl qz]; exact hq⟩, ⟨z2', ?_, ⟨b1, b2, b3, ?_⟩, ?_, ?_, ?_, by omega⟩, fun d hd => ?_⟩
    · exact (sb.2 _ S.TIz).trans (kp _ _ S.TIz S.TITO S.TIi1 S.TIi2 S.TIi3 hTI)
    · exact (sb.2 _ S.TOz).trans to'
    · exact j1.1.keep fun o q => (sb.2 _ S.zi1.symm).trans q
    · exact j2.1.keep fun o q => (sb.2 _ S.zi2.symm).trans q
    · exact j3.1.keep fun o q => (sb.2 _ S.zi3.symm).trans q
    · have lc : d < s.heap.objs.size := by
        have e' : d = z ∨ d = TI ∨ d = TO ∨ d = i1 ∨ d = i2 ∨ d = i3 := by simpa using hd
        rcases e' with q | q | q | q | q | q <;> subst q
        · exact lz
        · exact Heap.lt_size hTI
        · exact Heap.lt_size hTO
        · obtain ⟨_, e1, _⟩ := h1.ob; exact Heap.lt_size e1
        · obtain ⟨_, e2, _⟩ := h2.ob; exact Heap.lt_size e2
        · obtain ⟨_, e3, _⟩ := h3.ob; exact Heap.lt_size e3
      rw [upd_ne (Nat.ne_of_lt lc)]
      exact (hf d hd).1
  done := by
    intro X hP hw hK hc i pins s σ H E I hf st hg
    subst hP hw hK
    obtain ⟨hz, hTI, ⟨x0, y0, z0, hTO⟩, h1, h2, h3, hi⟩ := st
    obtain ⟨⟨xs, ys, zs, qx, qy, qz, lx, ly, lz'⟩, hend⟩ := hg
    obtain ⟨its, rv, p, _⟩ := inv_sq I qx
    obtain ⟨its2, rv2, p2, _⟩ := inv_sq I qy
    obtain ⟨its3, rv3, p3, _⟩ := inv_sq I qz
    have l1 := rv.length
    have l2 := rv2.length
    have l3 := rv3.length
    refine wpAny_pyNext_zipD3_end S (draws_sq (A := X.A.in1) (I.ok.hd hc) t i1 a ha its.toArray) (draws_sq (A := X.A.in1) (I.ok.hd hc) u i2 b hb its2.toArray) (draws_sq (A := X.A.in1) (I.ok.hd hc) v i3 c hc3 its3.toArray) hz hTI hTO ⟨h1, p⟩ ⟨h2, p2⟩ ⟨h3, p3⟩ (by simp; omega) (by simp; omega) (by simp; omega) (by simp; omega)
      fun h' tk kp => ⟨rfl, I.turnedL (t' := tk) (ch := [z, TI, TO, i1, i2, i3]) (fun d o hb' q => ?_) hf⟩
    simp at hb'
    exact kp d o hb'.1 hb'.2.2.1 hb'.2.2.2.1 hb'.2.2.2.2.1 hb'.2.2.2.2.2 q
  self := fun A i s Q E st h => wpAny_pyIter_zip st.1 h
theorem z3_sep {N a b c : Addr} (h1 : a < N) (h2 : b < N) (h3 : c < N) : ZipSep3 (N + 5) (N + 3) (N + 4) N (N + 1) (N + 2) [N, a] [N + 1, b] [N + 2, c] :=
  zip_sep3 (fp1 := [a]) (fp2 := [b]) (fp3 := [c]) (fun d hd => by rw [List.mem_singleton.mp hd]; exact h1) (fun d hd => by rw [List.mem_singleton.mp hd]; exact h2) (fun d hd => by rw [List.mem_singleton.mp hd]; exact h3)
theorem pi_z3 {X : Cx} {e e2 e3 : Expr} {ta : TA} {p pos tpos : Pos} {elts : List Expr} {kk : Nat} (hg : Gl X "zip") (hm : X.mg "zip" = none) (ha : PA X [e, e2, e3] ta)
    (hs : starEach [e, e2, e3] X.env = (false, eval e X.env) :: starEach [e2, e3] X.env := by rfl) (hpl : (backTo pos (starEach [e2, e3] X.env)).any (·.1) = false := by rfl) :
    PI X (.Tuple elts kk tpos) (.Call (.Name "zip" p) [e, e2, e3] [] pos) (fun σ H R => ta σ H fun vs H1 => ∃ a b c xs ys zs t u v, vs = [.ref a, .ref b, .ref c] ∧ SqB t X.K H1 a xs ∧ SqB u X.K H1 b ys ∧ SqB v X.K H1 c zs ∧ R (It3 t u v X.K a b c xs.length ys.length zs.length) H1) := by
  refine ⟨fun pins s σ H R I h => Call_ (ld_blt I hg hm PyProof.Rows.boot_zip (PyProof.Rows.callWith_type1 (thn (ha.run pos pins s σ H _ I h) fun us s1 ⟨vs, H1, I1, r1, a, b, c, xs, ys, zs, t, u, v, ex, qx, qy, qz, q⟩ => ?_) hs hpl))⟩
  subst ex
  cases r1 with
  | cons ra rr =>
    cases rr with
    | cons rb rr =>
      cases rr with
      | cons rc rr =>
        cases rr
        cases ra
        cases rb
        cases rc
        obtain ⟨its, rv, p1, l1⟩ := inv_sq I1 qx
        obtain ⟨its2, rv2, p2, l2⟩ := inv_sq I1 qy
        obtain ⟨its3, rv3, p3, l3⟩ := inv_sq I1 qz
        refine zip_begins3 (begins_sq t a its.toArray) (begins_sq u b its2.toArray) (begins_sq v c its3.toArray) p1 p2 p3 fun h' hz hTI hTO g1 g2 g3 sz kp => wpAny_pyIter_zip hz ?_
        have S := z3_sep l1 l2 l3
        refine ⟨_, [s1.heap.objs.size + 5, s1.heap.objs.size + 3, s1.heap.objs.size + 4, s1.heap.objs.size, s1.heap.objs.size + 1, s1.heap.objs.size + 2], _, _, H1, rfl, I1.kept (t' := s1.toks) kp,
          turn_z3 (n1 := xs.length) (n2 := ys.length) (n3 := zs.length) S (Nat.ne_of_lt l1) (Nat.ne_of_lt (Nat.lt_succ_of_lt l2)) (Nat.ne_of_lt (Nat.lt_succ_of_lt (Nat.lt_succ_of_lt l3))), ⟨hz, hTI, ⟨_, _, _, hTO⟩, isSqI_new g1, isSqI_new g2, isSqI_new g3, Nat.zero_le _⟩, fun d hd => ?_, q⟩
        have hle : s1.heap.objs.size ≤ d := by
          simp only [List.mem_cons, List.not_mem_nil, or_false] at hd
          rcases hd with e | e | e | e | e | e <;> rw [e]
          · exact Nat.le_add_right _ _
          · exact Nat.le_add_right _ _
          · exact Nat.le_add_right _ _
          · exact Nat.le_refl _
          · exact Nat.le_add_right _ _
          · exact Nat.le_add_right _ _
        exact I1.fpOk hle (I1.hok.fresh hle)
section
variable {X : Cx} {N : List Str} {sc : Scope} {k j : Nat} {Γ : List Sl} {tg it it2 it3 : Expr} {es : List Expr} {l l2 l3 : List Rep} {pos p : Pos} {α β γ : Type} {R : α → Rep} {R2 : β → Rep} {R3 : γ → Rep} {xs : List α} {ys : List β} {zs : List γ}
theorem sr_zip3 {jj : Nat} {tpos : Pos} (B : BX X N sc k) (hm : X.mg "zip" = none) (h : DE X Γ it (rSeq X.K l)) (h2 : DE X Γ it2 (rSeq X.K l2)) (h3 : DE X Γ it3 (rSeq X.K l3)) (hg : sc.names.lookup ("zip" : Str) = some NameKind.globalImplicit)
    (hs : starEach [it, it2, it3] X.env = (false, eval it X.env) :: starEach [it2, it3] X.env := by rfl) (hs2 : starEach [it2, it3] X.env = (false, eval it2 X.env) :: starEach [it3] X.env := by rfl) (hs3 : starEach [it3] X.env = (false, eval it3 X.env) :: starEach [] X.env := by rfl) (hpl : (backTo pos (starEach [it2, it3] X.env)).any (·.1) = false := by rfl) :
    SR X Γ (.Tuple es jj tpos) (.Call (.Name "zip" p) [it, it2, it3] [] pos) (min (min l.length l2.length) l3.length) (fun i => rTup X.K [l.getD i rNon, l2.getD i rNon, l3.getD i rNon]) := fun F0 H0 F H σ en R q => by
  have hgl : Gl X "zip" := by
    show X.env.scope.names.lookup _ = _
    rw [B.hsc]
    exact hg
  refine .of (pi_z3 hgl hm (pa_cons pe_ev (pa_cons pe_ev (pa_cons pe_ev pa_nil hs3) hs2) hs) hs hpl) (h F0 H0 F H σ en _ fun v F1 H1 g hv => h2 F0 H0 F1 H1 σ (en.grow g) _ fun v2 F3 H3 g3 hv2 => h3 F0 H0 F3 H3 σ (en.grow (g.trans g3)) _ fun v3 F4 H4 g4 hv3 => ?_)
  obtain ⟨p, vs, rfl, hsq, hl⟩ := hv
  obtain ⟨p2, vs2, rfl, hsq2, hl2⟩ := hv2
  obtain ⟨p3, vs3, rfl, hsq3, hl3⟩ := hv3
  obtain ⟨t, hsq⟩ := ((hsq.mono g3.f).mono g4.f).b
  obtain ⟨u, hsq2⟩ := (hsq2.mono g4.f).b
  obtain ⟨w, hsq3⟩ := hsq3.b
  have hl := (hl.mono g3.f).mono g4.f
  have hl2 := hl2.mono g4.f
  have e1 := hl.len
  have e2 := hl2.len
  have e3 := hl3.len
  refine ⟨p, p2, p3, vs, vs2, vs3, t, u, w, rfl, hsq.mono g4.s, hsq2.mono g4.s, hsq3.mono g4.s, q _ F4 H4 ((g.trans g3).trans g4) ⟨fun i H2 s hi => ⟨⟨vs, vs2, vs3, hsq.mono s, hsq2.mono s, hsq3.mono s, rfl, rfl, rfl⟩, ?_⟩, fun i H2 s hi => ⟨vs, vs2, vs3, hsq.mono s, hsq2.mono s, hsq3.mono s, rfl, rfl, rfl, ?_⟩, fun i F2 H2 x H' s s2 hi hy => ?_⟩⟩
  · omega
  · omega
  · obtain ⟨T, y1, y2, y3, rfl, nT, rfl, f1, f2, f3⟩ := hy
    obtain ⟨r1, q1, k1⟩ := hl.got (f1 vs (SqB.mono s2 (hsq.mono s)))
    obtain ⟨r2, q2, k2⟩ := hl2.got (f2 vs2 (SqB.mono s2 (hsq2.mono s)))
    obtain ⟨r3, q3, k3⟩ := hl3.got (f3 vs3 (SqB.mono s2 (hsq3.mono s)))
    refine ⟨_, .new s2 nT, T, _, rfl, SqT.of upd_same, ?_⟩
    have sn : Same F2 (upd F2 T (.tup [y1, y2, y3])) := same_new (s2.free nT)
    rw [List.getD_eq_getElem?_getD, List.getD_eq_getElem?_getD, List.getD_eq_getElem?_getD, q1, q2, q3]
    exact .cons (r1.mono (s.trans sn) k1) (.cons (r2.mono (s.trans sn) k2) (.cons (r3.mono (s.trans sn) k3) .nil))
theorem sr_zip3M {jj : Nat} {tpos : Pos} (d : α) (d2 : β) (d3 : γ) (B : BX X N sc k) (hm : X.mg "zip" = none) (h : DE X Γ it (rSeq X.K (xs.map R))) (h2 : DE X Γ it2 (rSeq X.K (ys.map R2))) (h3 : DE X Γ it3 (rSeq X.K (zs.map R3))) (hg : sc.names.lookup ("zip" : Str) = some NameKind.globalImplicit)
    (hs : starEach [it, it2, it3] X.env = (false, eval it X.env) :: starEach [it2, it3] X.env := by rfl) (hs2 : starEach [it2, it3] X.env = (false, eval it2 X.env) :: starEach [it3] X.env := by rfl) (hs3 : starEach [it3] X.env = (false, eval it3 X.env) :: starEach [] X.env := by rfl) (hpl : (backTo pos (starEach [it2, it3] X.env)).any (·.1) = false := by rfl) :
    SR X Γ (.Tuple es jj tpos) (.Call (.Name "zip" p) [it, it2, it3] [] pos) (min (min xs.length ys.length) zs.length) (fun i => rTup X.K [R (xs.getD i d), R2 (ys.getD i d2), R3 (zs.getD i d3)]) := by
  have z := sr_zip3 (es := es) (jj := jj) (tpos := tpos) (p := p) (pos := pos) B hm h h2 h3 hg hs hs2 hs3 hpl
  rw [List.length_map, List.length_map, List.length_map] at z
  exact z.to fun i hi => by rw [getD_map d (by omega), getD_map d2 (by omega), getD_map d3 (by omega)]
end
end DL

set_option Elab.async false
set_option linter.all false
set_option maxRecDepth 100000
set_option maxHeartbeats 4000000
/-! a list of one's own is lent: what is made of it and holds no list stays -/
namespace DL
open PySem PySem.Spec PyProof.Rows L2
/-- it does not hold by a list -/
def LFr (r : Rep) : Prop := ∀ (F : Hp) (p : Addr) (ws : List V) (v : V), F p = some (.lst ws) → r.P F v → r.P (del F p) v
theorem lfr_int {n : Int} : LFr (rInt n) := fun _ _ _ _ _ h => h
theorem lfr_str {x : Str} : LFr (rStr x) := fun _ _ _ _ _ h => h
theorem lfr_rl {F : Hp} {p : Addr} {ws : List V} (hp : F p = some (.lst ws)) : ∀ {rs : List Rep} {vs : List V}, (∀ r ∈ rs, LFr r) → RL F rs vs → RL (del F p) rs vs
  | _, _, _, .nil => .nil
  | _, _, h, .cons a t => .cons (h _ List.mem_cons_self _ _ _ _ hp a) (lfr_rl hp (fun r hr => h r (List.mem_cons_of_mem _ hr)) t)
theorem lfr_tup {K : PySem.W.Frag} {rs : List Rep} (h : ∀ r ∈ rs, LFr r) : LFr (rTup K rs) := fun F p ws v hp ⟨a, vs, e, hq, hl⟩ => by
  refine ⟨a, vs, e, ?_, lfr_rl hp h hl⟩
  rcases hq with z | z
  · left
    by_cases ha : a = p
    · subst ha
      unfold Rd at z ⊢
      rw [hp] at z
      rcases z with z | ⟨o, z⟩ <;> cases z
    · unfold Rd at z ⊢
      rw [del_ne ha]
      exact z
  · exact .inr z
theorem lfr_num {K : PySem.W.Frag} {q : Rat} : LFr (rNum K q) := by
  unfold rNum
  split
  · exact lfr_int
  · refine lfr_tup fun r hr => ?_
    rcases List.mem_cons.mp hr with z | z
    · rw [z]; exact lfr_int
    · rw [List.mem_singleton.mp z]; exact lfr_int
theorem lfr_ints {ns : List Int} : ∀ r ∈ ns.map rInt, LFr r := fun r hr => by
  obtain ⟨n, _, rfl⟩ := List.mem_map.mp hr
  exact lfr_int
theorem lfr_nums {K : PySem.W.Frag} {qs : List Rat} : ∀ r ∈ qs.map (rNum K), LFr r := fun r hr => by
  obtain ⟨n, _, rfl⟩ := List.mem_map.mp hr
  exact lfr_num
section
variable {X : L2.Cx} {F0 H0 F H : Hp} {σ : L2.St} {Γ : List Sl} {e : Expr} {i : Nat} {l l' : List Rep} {r : Rep}
theorem En.lendF {K : PySem.W.Frag} (e : En F0 H0 F H σ Γ) (h : Γ[i]? = some (.ow l)) : ∃ (p : Addr) (vs : List V), F p = none ∧ Same F (upd F p (.lst vs)) ∧ En F0 H0 (upd F p (.lst vs)) H σ (Γ.set i (.im (rLst K l))) := by
  obtain ⟨p, vs, h1, h2, h3, h4, h5⟩ := e.ow h
  have s1 : Same F (upd F p (.lst vs)) := same_new h2
  have s2 : Same (upd F p (.lst vs)) H := fun b o z => by
    by_cases hb : b = p
    · subst hb
      rw [upd_same] at z
      rw [h3, ← z]
    · rw [upd_ne hb] at z
      exact e.gr.s b o z
  have nn : ∀ {j : Nat} {q : Addr} {m : List Rep}, j ≠ i → Γ[j]? = some (.ow m) → σ[j]? = some (some (.ref q)) → q ≠ p := fun {j q m} hj k1 k2 z => hj (e.sep j i p m l k1 h (z ▸ k2) h1)
  refine ⟨p, vs, h2, s1, ?_⟩
  exact {
    gr := ⟨e.gr.f.trans s1, e.gr.h, s2, fun a ha z => by
      have hp : a ≠ p := fun y => ha (y ▸ h5)
      rw [upd_ne hp]
      exact e.gr.n a ha z⟩
    len := by simpa using e.len
    ok := fun j s x k1 k2 => by
      rcases get_set k1 with ⟨rfl, rfl⟩ | ⟨n, k1⟩
      · rw [h1] at k2
        cases k2
        exact ⟨.ref p, rfl, p, vs, rfl, SqL.of upd_same, h4.mono s1⟩
      · have q := e.ok j s x k1 k2
        cases s with
        | any => trivial
        | im r =>
          obtain ⟨v, a, b⟩ := q
          exact ⟨v, a, r.mono s1 b⟩
        | ow m =>
          obtain ⟨p2, ws2, a, b, c, d⟩ := q
          subst a
          refine ⟨p2, ws2, rfl, ?_, c, d.mono s1⟩
          rw [upd_ne (nn (Ne.symm n) k1 k2)]
          exact b
    own := fun j q m k1 k2 => by
      rcases get_set k1 with ⟨_, z⟩ | ⟨n, k1⟩
      · cases z
      · exact e.own j q m k1 k2
    sep := fun j k q m m' k1 k1' k2 k2' => by
      rcases get_set k1 with ⟨_, z⟩ | ⟨n, k1⟩
      · cases z
      rcases get_set k1' with ⟨_, z⟩ | ⟨n', k1'⟩
      · cases z
      exact e.sep j k q m m' k1 k1' k2 k2' }
theorem gr_unlend {F2 H2 : Hp} {p : Addr} {vs : List V} (hp : F p = none) (g : Gr (upd F p (.lst vs)) H F2 H2) : Gr F H (del F2 p) H2 :=
  ⟨fun b o z => by
    have n : b ≠ p := fun y => by rw [y, hp] at z; cases z
    rw [del_ne n]
    exact g.f b o (by rw [upd_ne n]; exact z), g.h, fun b o z => by
    by_cases n : b = p
    · rw [n, del_same] at z; cases z
    · rw [del_ne n] at z; exact g.s b o z, fun a ha z => by
    by_cases n : a = p
    · rw [n]; exact del_same
    · rw [del_ne n]
      exact g.n a ha (by rw [upd_ne n]; exact z)⟩
theorem dl_lendF (i : Nat) (hΓ : Γ[i]? = some (.ow l)) (hr : ∀ r ∈ l', LFr r) (h : DL X (Γ.set i (.im (rLst X.K l))) e l') : DL X Γ e l' := fun F0 H0 F H σ en Q q => by
  obtain ⟨p, vs, hp, s1, en'⟩ := en.lendF (K := X.K) hΓ
  refine h F0 H0 _ H σ en' Q fun p2 vs2 F2 H2 g h1 h2 h3 h4 => ?_
  have fp : F2 p = some (.lst vs) := g.f p _ upd_same
  refine q p2 vs2 (del F2 p) H2 (gr_unlend hp g) h1 ?_ h3 (lfr_rl fp hr h4)
  by_cases n : p2 = p
  · rw [n]; exact del_same
  · rw [del_ne n]; exact h2
theorem de_lendF (i : Nat) (hΓ : Γ[i]? = some (.ow l)) (hr : LFr r) (h : DE X (Γ.set i (.im (rLst X.K l))) e r) : DE X Γ e r := fun F0 H0 F H σ en Q q => by
  obtain ⟨p, vs, hp, s1, en'⟩ := en.lendF (K := X.K) hΓ
  refine h F0 H0 _ H σ en' Q fun v F2 H2 g hv => ?_
  have fp : F2 p = some (.lst vs) := g.f p _ upd_same
  exact q v (del F2 p) H2 (gr_unlend hp g) (hr _ _ _ _ fp hv)
end
/-! a test that raises -/
section
variable {X : L2.Cx} {F0 H0 : Hp} {Γ : List Sl} {e a c : Expr} {C : Addr} {W : WX} {pos : Pos} {body orelse st : List Stmt} {D : Ends} {fs : List (Str × V)}
variable {N : List Str} {sc : Scope} {k i : Nat} {x : Str}
end
end DL

set_option Elab.async false
set_option linter.all false
set_option maxRecDepth 100000
set_option maxHeartbeats 4000000
/-! sets made of tuples of texts; == of tuples; texts as data -/
namespace DL
open PySem PySem.Spec PyProof.Rows L2
section
variable {P : Program} {w : World} {A : Around} {E : Value → Shared → Prop} {s : Shared}
set_option maxHeartbeats 3200000 in
theorem set_madeT {l : Addr} {items : Array Value} {Good : Heap → Addr → Prop} {Q : Value → Shared → Prop} (hh : A.handled = none) (hl : s.heap.IsTuple l items) (fills : Fills P w items Good)
    (h : ∀ (h' : Heap) (tk : Nat), Good h' s.heap.objs.size → (∀ b o, s.heap.get? b = some o → h'.get? b = some o) → Q (.ref s.heap.objs.size) { s with heap := h', toks := tk }) :
    wpAny (model P w) A (call (.type "set") [.ref l]) Q E s := by
  have cs := F.called_set
  obtain ⟨c, tl, e1⟩ := cs.mro
  have e2 := cs.made
  have e3 := cs.sub
  have e4 := cs.notType
  have e5 := cs.canCreate
  have e6 := F.typeCall_set_1 (.ref l)
  refine wpAny_call (codeAny_of_tree (show wpAny _ _ (callAny (.type "set") _) _ _ _ from wpAny_pure ⟨Code.quiet_builtin _ (by decide +kernel), codeAny_builtin F.entry_type_call ?_⟩))
  rw [Around.under_plain (weight_type_call_type "set" [.ref l] []) rfl]
  repeat (any_goals (first | assumption | wp_step))
  generalize hn : s.heap.objs.size = n at h
  have lS : (s.heap.push (emptyS w)).objs.size = n + 1 := by rw [Heap.size_push, hn]
  have at1 : (s.heap.push (emptyS w)).get? n = some (emptyS w) := hn ▸ Heap.get?_push_size _ rfl
  refine codeAny_mono (code_set_led1 (.ref l) (E := E) (Q₁ := fun v t => v = .ref n ∧ t = { s with heap := s.heap.push (emptyS w) }) ⟨by rw [hn], rfl⟩) fun r t hr => ?_
  match r, hr with
  | .error e, hr => exact hr
  | .ok .next, hr => exact hr.elim
  | .ok .brk, hr => exact hr.elim
  | .ok .cont, hr => exact hr.elim
  | .ok (.ret v), ⟨e7, e8⟩ =>
    subst e7 e8
    have ty : Shared.TypeIs { s with heap := s.heap.push (emptyS w) } (.ref n) "set" := ⟨_, at1, rfl⟩
    have f1 := cs.init.lookup
    have f2 := cs.init.bind (.ref n)
    repeat (any_goals (first | assumption | wp_step))
    refine codeAny_mono (codeAny_call_builtin (R := wants (fun r t => r = .none ∧ ∃ h' tk, t = { s with heap := h', toks := tk } ∧ Good h' n ∧ ∀ b o, s.heap.get? b = some o → h'.get? b = some o) E) cs.init.plain F.entry_set_init (check_set_init_1 ty ?_)) fun r2 t2 hr2 => ?_
    · obtain ⟨⟨k1, k2, k3, k4⟩, hol, rfl, nl, rfl⟩ := hl
      have lt : l < n := hn ▸ Heap.lt_size hol
      have il : (s.heap.push (emptyS w)).IsTuple l items := ⟨_, Heap.get?_push_of_some _ hol, rfl, nl, rfl⟩
      have g1 : (s.heap.push (emptyS w)).get? l = some { cls := .type "tuple", dict := k2, data := .seq items nl, slots := k4 } := Heap.get?_push_of_some _ hol
      have g2 := F.sub_tuple_set
      have g3 := F.sub_tuple_frozenset
      have g4 : (Value.type "tuple" == Value.type "dict") = false := by decide
      unfold Builtin.«set.__init__» noKeywords Builtin.Frozenset.updateFrom
      generalize hP : pyIter = PI
      wp_walk
      subst hP
      refine wpAny_pyIter_tuple il (wpAny_bind (wpAny_runValue ?_))
      have hd : A.in1.in1.in1.handled = none := by simp [hh]
      have lt2 : n < (s.heap.push (emptyS w)).objs.size := by rw [lS]; exact Nat.lt_succ_self _
      have nI : l ≠ (s.heap.push (emptyS w)).objs.size := Nat.ne_of_lt (Nat.lt_trans lt lt2)
      have no2 : ∀ {b x y : Addr}, b ≠ x → b ≠ y → b ∉ [x, y] := fun p q z => by
        rcases List.mem_cons.mp z with z | z
        · exact p z
        · exact q (List.mem_singleton.mp z)
      refine fills ((Walks.tuple hd _ l nI items).toS) (no2 (Nat.ne_of_lt lt2) (Nat.ne_of_gt lt)) ⟨⟨_, Heap.get?_push_size _ rfl, rfl, rfl⟩, il.push _⟩ (Heap.get?_push_of_some _ at1) fun t3 mv good => ?_
      obtain ⟨h3, g3', d3, tk3, os3⟩ := t3
      obtain rfl : g3' = s.gens := mv.gens
      obtain rfl : d3 = s.drawn := mv.drawn
      obtain rfl : os3 = s.os := mv.os
      show wpAny _ _ _ _ _ _
      refine wpAny_pure (show wpAny _ _ (ret Value.none) _ _ _ from wpAny_pure ⟨rfl, h3, tk3, rfl, good, fun b o e => ?_⟩)
      have lb : b < n := hn ▸ Heap.lt_size e
      exact mv.heap b o (no2 (Nat.ne_of_lt lb) (Nat.ne_of_lt (Nat.lt_trans lb lt2))) (Heap.get?_push_of_some _ (Heap.get?_push_of_some _ e))
    · match r2, hr2 with
      | .error e, hr2 => exact hr2
      | .ok .next, hr2 => exact hr2.elim
      | .ok .brk, hr2 => exact hr2.elim
      | .ok .cont, hr2 => exact hr2.elim
      | .ok (.ret r), ⟨e9, h', tk, e10, good, keep⟩ =>
        subst e9 e10
        repeat (any_goals (first | assumption | wp_step))
        exact h _ _ good keep
end
section
variable {X : Cx}
def kSetST (X : Cx) : List V → Hp → VK → Prop := fun vs H Q => ∃ (l : Addr) (xs : List Str), vs = [V.ref l] ∧ SqT X.K H l (xs.map V.str) ∧ xs.length + 1 < scanBound ∧ ∀ p, H p = none → Q (.ref p) (upd H p (SetSO X.prog X.w p xs))
theorem cr_setST (hc : X.calm = true) : CallR X (.type "set") (kSetST X) := by
  intro pins s σ H vs us Q I r h
  obtain ⟨l, xs, rfl, hq, hb, q⟩ := h
  rw [Vals.ref1 r]
  obtain ⟨its, rv, pl, hz⟩ := I.tuple hq
  refine set_madeT (Good := fun h a => h.SetOf (PySem.strKind X.prog X.w) a (fun z => decide (z ∈ xs)) (dd xs).length) (I.ok.hd hc) pl (fills_strs (by simpa using strsAre_of rv) hb) fun h' tk good keep => ?_
  exact ⟨.ref _, _, I.laid (t' := tk) keep (Nat.le_refl _) (setS_new good), rfl, q _ (I.hok.fresh (Nat.le_refl _))⟩
end
section
variable {X : Cx} {N : List Str} {sc : Scope} {k : Nat} {Γ : List Sl} {e : Expr} {pos p : Pos} {xs : List Str}
theorem de_setST (B : BX X N sc k) (hm : X.mg "set" = none) (hl : xs.length + 1 < scanBound) (h : DE X Γ e (rTup X.K (xs.map rStr))) (hg : sc.names.lookup ("set" : Str) = some NameKind.globalImplicit) (he : starEach (e :: []) X.env = (false, eval e X.env) :: starEach [] X.env := by rfl) : DE X Γ (.Call (.Name "set" p) [e] [] pos) (rSetS X.prog X.w xs) :=
  de_bty B (cr_setST B.calm) (fun F H vs s h Q q => by
    obtain ⟨v, rfl, l, ys, rfl, k1, k2⟩ := rl1 h
    rw [rl_sv k2] at k1
    exact ⟨l, xs, rfl, sqt_mono s k1, hl, fun p hp => q _ _ _ (.new s hp) ⟨p, rfl, upd_same⟩⟩) hm (by decide +kernel) (da_cons h da_nil he) hg (he := he)
end
section
variable {K : PySem.W.Frag} {α : Type} [DecidableEq α] {R : α → Rep} {d : α → PyData} {n : Nat}
theorem dat_tup (D : Dat K R d n) : Dat K (fun l : List α => rTup K (l.map R)) (fun l => .tuple (l.map d)) (n + 1) :=
  ⟨fun l => dpl_tup fun a _ => D.dp a, fun l => canLayAll_map D.lay l, fun l => Nat.succ_le_succ (depthAll_map D.dep l), fun l m => eqvAll_map D.eq l m⟩
end
/-! a set of a list or a tuple of texts -/
section
variable {X : Cx} {N : List Str} {sc : Scope} {k : Nat} {Γ : List Sl} {e : Expr} {pos p : Pos} {xs : List Str}
def kSetSA (X : Cx) : List V → Hp → VK → Prop := fun vs H Q => kSetS X vs H Q ∨ kSetST X vs H Q
theorem cr_setSA (hc : X.calm = true) : CallR X (.type "set") (kSetSA X) := fun pins s σ H vs us Q I r h =>
  h.elim (fun z => cr_setS hc pins s σ H vs us Q I r z) fun z => cr_setST hc pins s σ H vs us Q I r z
theorem de_setSA (B : BX X N sc k) (hm : X.mg "set" = none) (hl : xs.length + 1 < scanBound) (h : DE X Γ e (rSeq X.K (xs.map rStr))) (hg : sc.names.lookup ("set" : Str) = some NameKind.globalImplicit) (he : starEach (e :: []) X.env = (false, eval e X.env) :: starEach [] X.env := by rfl) : DE X Γ (.Call (.Name "set" p) [e] [] pos) (rSetS X.prog X.w xs) :=
  de_bty B (cr_setSA B.calm) (fun F H vs s h Q q => by
    obtain ⟨v, rfl, l, ys, rfl, k1, k2⟩ := rl1 h
    rw [rl_sv k2] at k1
    have fin : ∀ p, H p = none → Q (.ref p) (upd H p (SetSO X.prog X.w p xs)) := fun p hp => q _ _ _ (.new s hp) ⟨p, rfl, upd_same⟩
    rcases k1 with k1 | k1
    · exact .inl ⟨l, xs, rfl, s.seq k1, hl, fin⟩
    · exact .inr ⟨l, xs, rfl, sqt_mono s k1, hl, fin⟩) hm (by decide +kernel) (da_cons h da_nil he) hg (he := he)
end
/-! == of tuples of texts -/
def StrsOk (xs : List Str) : Prop := SeqAt.shaped (.tuple (xs.map PyData.str)) = true
theorem strs_eqv : ∀ xs ys : List Str, PyData.eqvAll (xs.map PyData.str) (ys.map PyData.str) = decide (xs = ys)
  | [], [] => rfl
  | [], _ :: _ => rfl
  | _ :: _, [] => rfl
  | x :: xs, y :: ys => by
    show ((x == y) && PyData.eqvAll (xs.map PyData.str) (ys.map PyData.str)) = _
    rw [strs_eqv xs ys]
    by_cases h : x = y <;> simp [h]
section
variable {X : Cx} {N : List Str} {sc : Scope} {k : Nat} {Γ : List Sl} {a b : Expr} {pos : Pos} {xs ys : List Str}
theorem de_eqTS (B : BX X N sc k) (h1 : StrsOk xs) (h2 : StrsOk ys) (ha : DE X Γ a (rTup X.K (xs.map rStr))) (hb : DE X Γ b (rTup X.K (ys.map rStr))) : DE X Γ (.Compare a [.Eq] [b] pos) (rBl (decide (xs = ys))) := (de_cmp (op_eqD B.hu) (b2_eqD (dpl_tup fun _ _ => dpl_str) (dpl_tup fun _ _ => dpl_str) h1 h2) ha hb (nomark _)).to (congrArg rBl (strs_eqv xs ys))
theorem dt_neTS (B : BX X N sc k) (h1 : StrsOk xs) (h2 : StrsOk ys) (ha : DE X Γ a (rTup X.K (xs.map rStr))) (hb : DE X Γ b (rTup X.K (ys.map rStr))) : DT X Γ (.Compare a [.NotEq] [b] pos) (!decide (xs = ys)) := (dt_cmp (op_neD B.hu) (b2_neD (dpl_tup fun _ _ => dpl_str) (dpl_tup fun _ _ => dpl_str) h1 h2) ha hb (nomark _)).to (congrArg (!·) (strs_eqv xs ys))
end
end DL

set_option Elab.async false
set_option linter.all false
set_option maxRecDepth 100000
set_option maxHeartbeats 4000000
/-! items counted from the end -/
namespace DL
open PySem PySem.Spec PyProof.Rows L2
def ixZ (m : Nat) (n : Int) : Nat := if 0 ≤ n then n.toNat else (n + (m : Int)).toNat
section
variable {α : Type} {R : α → Rep} {xs : List α} {n : Int}
theorem ixZ_lt {m : Nat} (h0 : -(m : Int) ≤ n) (h1 : n < m) : ixZ m n < m := by
  unfold ixZ
  split <;> omega
theorem atI_mapZ (d : α) (h0 : -(xs.length : Int) ≤ n) (h1 : n < xs.length) : atI (xs.map R) n = some (R (xs.getD (ixZ xs.length n) d)) := by
  have lt := ixZ_lt h0 h1
  have e : ixN xs.length n = some (ixZ xs.length n) := by
    unfold ixN ixZ
    by_cases h : 0 ≤ n
    · rw [if_pos h, if_pos h, if_pos h1]
    · rw [if_neg h, if_neg h, if_pos h0]
  unfold atI
  rw [List.length_map, e]
  show (xs.map R)[ixZ xs.length n]? = _
  rw [List.getElem?_map, List.getElem?_eq_getElem lt, List.getD_eq_getElem?_getD, List.getElem?_eq_getElem lt]
  rfl
end
section
variable {X : Cx} {N : List Str} {sc : Scope} {k i : Nat} {Γ : List Sl} {a b : Expr} {x : Str} {p pos : Pos} {α : Type} {R : α → Rep} {xs : List α} {n : Int}
theorem de_ixMZ (d : α) (h0 : -(xs.length : Int) ≤ n) (h1 : n < xs.length) (ha : DE X Γ a (rLst X.K (xs.map R))) (hb : DE X Γ b (rInt n)) (hs : PlainIx b := by exact fun _ _ => rfl) : DE X Γ (.Subscript a b pos) (R (xs.getD (ixZ xs.length n) d)) :=
  de_ixL (atI_mapZ d h0 h1) ha hb hs
theorem de_ixOMZ (d : α) (B : BX X N sc k) (hΓ : Γ[i]? = some (.ow (xs.map R))) (hN : N[i]? = some x) (hv : Vis sc x) (h0 : -(xs.length : Int) ≤ n) (h1 : n < xs.length) (hb : DE X Γ b (rInt n)) (hs : PlainIx b := by exact fun _ _ => rfl) (hd : (x == ("__debug__" : Str)) = false := by decide) (hcd : (x == ("__classdict__" : Str)) = false := by decide) :
    DE X Γ (.Subscript (.Name x p) b pos) (R (xs.getD (ixZ xs.length n) d)) := de_ixO B (atI_mapZ d h0 h1) hΓ hN hv hb hs hd hcd
end
/-! is not True, is not False -/
section
variable {X : Cx} {Γ : List Sl} {a : Expr} {p pos : Pos} {u v : Bool}
theorem b2_notB : B2 rNotB (rBl u) (rBl v) (rBl (!(u == v))) := fun F H x y s h1 h2 Q q => ⟨u, v, h1, h2, q _ F H (.refl s) (by show V.bl _ = V.bl _; cases u <;> cases v <;> rfl)⟩
theorem dt_notBl {jj : Nat} (ha : DE X Γ a (rBl u)) : DT X Γ (.Compare a [.IsNot] [.Constant (.bool v) jj p] pos) (!(u == v)) := dt_cmp op_notBl b2_notB ha de_bl (nomark _)
end
end DL

set_option Elab.async false
set_option linter.all false
set_option maxRecDepth 100000
set_option maxHeartbeats 4000000
/-! marks: what stands since a mark, what is new since; lists that are new may be spoilt -/
namespace DL
open PySem PySem.Spec PyProof.Rows L2
def nlO (o : HO) : Prop := ∀ vs, o ≠ .lst vs
/-- it has stood since the mark -/
def rB (F1 : Hp) (r : Rep) : Rep := ⟨fun F v => Same F1 F ∧ r.P F1 v, fun s ⟨a, b⟩ => ⟨a.trans s, b⟩⟩
theorem sub_rB {F1 : Hp} {r : Rep} : Sub (rB F1 r) r := fun F v ⟨s, h⟩ => r.mono s h
open Classical in
/-- what is there without the lists that stood at the mark -/
noncomputable def Nw (F1 F : Hp) : Hp := fun a => match F a with
  | none => none
  | some o => if (∃ vs, F1 a = some (.lst vs)) ∧ (∃ vs, o = .lst vs) then none else some o
theorem nw_sub {F1 F : Hp} : Same (Nw F1 F) F := fun a o h => by
  unfold Nw at h
  split at h
  · cases h
  · rename_i o' e
    split at h
    · cases h
    · cases h; exact e
theorem nw_mono {F1 F F' : Hp} (s : Same F F') : Same (Nw F1 F) (Nw F1 F') := fun a o h => by
  have h2 := nw_sub a o h
  have h3 := s a o h2
  unfold Nw at h ⊢
  rw [h2] at h
  rw [h3]
  exact h
open Classical in
theorem nw_nl {F1 F : Hp} {a : Addr} {o : HO} (h : F a = some o) (k : nlO o) : Nw F1 F a = some o := by
  unfold Nw
  rw [h]
  show (if _ then none else some o) = some o
  rw [if_neg (fun z => by obtain ⟨_, vs, e⟩ := z; exact k vs e)]
open Classical in
theorem nw_new {F1 F : Hp} {a : Addr} {o : HO} (h : F a = some o) (k : F1 a = none) : Nw F1 F a = some o := by
  unfold Nw
  rw [h]
  show (if _ then none else some o) = some o
  rw [if_neg (fun z => by obtain ⟨⟨vs, e⟩, _⟩ := z; rw [k] at e; cases e)]
/-- its lists are new since the mark -/
noncomputable def rN (F1 : Hp) (r : Rep) : Rep := ⟨fun F v => r.P (Nw F1 F) v, fun s h => r.mono (nw_mono s) h⟩
theorem sub_rN {F1 : Hp} {r : Rep} : Sub (rN F1 r) r := fun F v h => r.mono nw_sub h
/-- it holds by no list -/
def LFa (r : Rep) : Prop := ∀ (F F2 : Hp) (v : V), (∀ a o, F a = some o → nlO o → F2 a = some o) → r.P F v → r.P F2 v
theorem lfa_c {v : V} : LFa (rC v) := fun _ _ _ _ h => h
theorem lfa_rl {F F2 : Hp} (k : ∀ a o, F a = some o → nlO o → F2 a = some o) : ∀ {rs : List Rep} {vs : List V}, (∀ r ∈ rs, LFa r) → RL F rs vs → RL F2 rs vs
  | _, _, _, .nil => .nil
  | _, _, h, .cons a t => .cons (h _ List.mem_cons_self _ _ _ k a) (lfa_rl k (fun r hr => h r (List.mem_cons_of_mem _ hr)) t)
theorem rd_tup {F F2 : Hp} {a : Addr} {vs : List V} (k : ∀ a o, F a = some o → nlO o → F2 a = some o) (h : Rd F a (.tup vs)) : Rd F2 a (.tup vs) := by
  rcases h with h | ⟨o, h⟩
  · exact .inl (k a _ h fun _ => nofun)
  · exact .inr ⟨o, k a _ h fun _ => nofun⟩
theorem lfa_tup {K : PySem.W.Frag} {rs : List Rep} (h : ∀ r ∈ rs, LFa r) : LFa (rTup K rs) := fun F F2 v k ⟨a, vs, e, hq, hl⟩ =>
  ⟨a, vs, e, hq.elim (fun z => .inl (rd_tup k z)) .inr, lfa_rl k h hl⟩
theorem lfa_num {K : PySem.W.Frag} {q : Rat} : LFa (rNum K q) := by
  unfold rNum
  split
  · exact lfa_c
  · refine lfa_tup fun r hr => ?_
    rcases List.mem_cons.mp hr with z | z
    · rw [z]; exact lfa_c
    · rw [List.mem_singleton.mp z]; exact lfa_c
theorem lfa_map {α : Type} {R : α → Rep} (h : ∀ x, LFa (R x)) (xs : List α) : ∀ r ∈ xs.map R, LFa r := fun r hr => by
  obtain ⟨x, _, rfl⟩ := List.mem_map.mp hr
  exact h x
theorem nw_k {F1 F : Hp} : ∀ a o, F a = some o → nlO o → Nw F1 F a = some o := fun a o h k => nw_nl h k
/-! the frame at a mark, back behind it -/
def markS (F1 : Hp) : Sl → Sl
  | .im r => .im (rB F1 r)
  | s => s
theorem mark_get {F1 : Hp} {Γ : List Sl} {i : Nat} {s : Sl} (h : (Γ.map (markS F1))[i]? = some s) : ∃ s0, Γ[i]? = some s0 ∧ s = markS F1 s0 := by
  rw [List.getElem?_map] at h
  cases e : Γ[i]? with
  | none => rw [e] at h; cases h
  | some s0 => rw [e] at h; cases h; exact ⟨s0, rfl, rfl⟩
section
variable {X : L2.Cx} {F0 F1 H0 F H H' : Hp} {σ : L2.St} {Γ Γ' : List Sl} {st : List Stmt} {D : Ends} {i : Nat} {r : Rep} {l : List Rep} {v : V}
theorem go_mark (h : ∀ F1, Up F0 F1 H0 → GO X F1 H0 st D (Γ.map (markS F1))) : GO X F0 H0 st D Γ := fun F H σ en => by
  refine h F ⟨fun F2 H2 g2 => ⟨en.gr.f.trans g2.f, g2.h, g2.s, fun a ha z => g2.n a ha (en.gr.n a ha z)⟩⟩ F H σ ?_
  exact {
    gr := ⟨Same.refl _, en.gr.h, en.gr.s, fun _ _ z => z⟩
    len := by rw [List.length_map]; exact en.len
    ok := fun i s x h1 h2 => by
      obtain ⟨s0, e0, rfl⟩ := mark_get h1
      have q := en.ok i s0 x e0 h2
      cases s0 with
      | any => trivial
      | im r =>
        obtain ⟨v, a, b⟩ := q
        exact ⟨v, a, Same.refl _, b⟩
      | ow l => exact q
    own := fun i p l h1 h2 => by
      obtain ⟨s0, e0, e⟩ := mark_get h1
      cases s0 with
      | any => cases e
      | im r => cases e
      | ow l => cases e; exact en.own i p l e0 h2
    sep := fun i j p l l' h1 h1' h2 h2' => by
      obtain ⟨s0, e0, e⟩ := mark_get h1
      obtain ⟨s1, e1, e'⟩ := mark_get h1'
      cases s0 with
      | any => cases e
      | im r => cases e
      | ow l =>
        cases e
        cases s1 with
        | any => cases e'
        | im r => cases e'
        | ow l' => cases e'; exact en.sep i j p l l' e0 e1 h2 h2' }
theorem go_un (u : Up F0 F1 H0) (h : GO X F0 H0 st D Γ) : GO X F1 H0 st D Γ := fun F H σ en => h F H σ (u.en en)
/-- a new list, its items no lists -/
theorem DL.nw (m : Nat) (hm : Γ[m]? = some (.im (rB F1 r))) (hl : ∀ r ∈ l, LFa r) (h : DL X Γ e l) : DE X Γ e (rN F1 (rLh l)) := fun F0 H0 F H σ en Q q => by
  have s1 : Same F1 F := by
    obtain ⟨v, _, s, _⟩ := en.im hm
    exact s
  refine h F0 H0 F H σ en Q fun p vs F' H' g h1 h2 h3 h4 => ?_
  have f1 : F1 p = none := s1.free (en.gr.s.free h1)
  have s2 : Same (upd F' p (.lst vs)) H' := fun b o z => by
    by_cases hb : b = p
    · subst hb
      rw [upd_same] at z
      rw [h3, ← z]
    · rw [upd_ne hb] at z
      exact g.s b o z
  have g2 : Gr F H (upd F' p (.lst vs)) H' := ⟨g.f.trans (same_new h2), g.h, s2, fun a ha z => by
    have hp : a ≠ p := fun y => ha (y ▸ h1)
    rw [upd_ne hp]
    exact g.n a ha z⟩
  refine q (.ref p) _ H' g2 ?_
  refine ⟨p, vs, rfl, nw_new upd_same f1, ?_⟩
  exact lfa_rl (fun a o z k => nw_k a o (same_new h2 a o z) k) hl h4
/-- what is kept behind a spoiling -/
inductive SlRs (F1 : Hp) : List Sl → List Sl → Prop
  | nil : SlRs F1 [] []
  | mk {r : Rep} {Γ Γ' : List Sl} : SlRs F1 Γ Γ' → SlRs F1 (.im (rB F1 r) :: Γ) (.im r :: Γ')
  | fx {r : Rep} {Γ Γ' : List Sl} (h : LFa r) : SlRs F1 Γ Γ' → SlRs F1 (.im r :: Γ) (.im r :: Γ')
  | any {s : Sl} {Γ Γ' : List Sl} : SlRs F1 Γ Γ' → SlRs F1 (s :: Γ) (.any :: Γ')
theorem SlRs.len : ∀ {Γ Γ' : List Sl}, SlRs F1 Γ Γ' → Γ.length = Γ'.length
  | _, _, .nil => rfl
  | _, _, .mk h => congrArg (· + 1) h.len
  | _, _, .fx _ h => congrArg (· + 1) h.len
  | _, _, .any h => congrArg (· + 1) h.len
theorem SlRs.at : ∀ {Γ Γ' : List Sl}, SlRs F1 Γ Γ' → ∀ {i : Nat} {s' : Sl}, Γ'[i]? = some s' → s' = .any ∨ ∃ r, s' = .im r ∧ (Γ[i]? = some (.im (rB F1 r)) ∨ (Γ[i]? = some (.im r) ∧ LFa r))
  | _, _, .nil, i, s', h => by simp at h
  | _, _, .mk h, 0, s', e => by simp at e; subst e; exact .inr ⟨_, rfl, .inl rfl⟩
  | _, _, .fx k h, 0, s', e => by simp at e; subst e; exact .inr ⟨_, rfl, .inr ⟨rfl, k⟩⟩
  | _, _, .any h, 0, s', e => by simp at e; subst e; exact .inl rfl
  | _, _, .mk h, i + 1, s', e => by simpa using h.at (i := i) (by simpa using e)
  | _, _, .fx _ h, i + 1, s', e => by simpa using h.at (i := i) (by simpa using e)
  | _, _, .any h, i + 1, s', e => by simpa using h.at (i := i) (by simpa using e)
open Classical in
/-- what stood at the mark, and all but lists -/
noncomputable def Rst (F1 F : Hp) : Hp := fun a => match F1 a with
  | some o => some o
  | none => match F a with
    | some o => if nlO o then some o else none
    | none => none
theorem rst_1 {a : Addr} {o : HO} (h : F1 a = some o) : Rst F1 F a = some o := by unfold Rst; rw [h]
open Classical in
theorem rst_2 {a : Addr} {o : HO} (s : Same F1 F) (h : F a = some o) (k : nlO o) : Rst F1 F a = some o := by
  unfold Rst
  cases e : F1 a with
  | some o' => have := s a o' e; rw [h] at this; cases this; rfl
  | none =>
    show (match F a with | some o => if nlO o then some o else none | none => none) = some o
    rw [h]
    exact if_pos k
open Classical in
theorem rst_or {a : Addr} {o : HO} (h : Rst F1 F a = some o) : F1 a = some o ∨ (F a = some o ∧ nlO o) := by
  unfold Rst at h
  cases e : F1 a with
  | some o' => rw [e] at h; cases h; exact .inl rfl
  | none =>
    rw [e] at h
    have h : (match F a with | some o => if nlO o then some o else none | none => none) = some o := h
    cases e2 : F a with
    | none => rw [e2] at h; cases h
    | some o' =>
      rw [e2] at h
      have h : (if nlO o' then some o' else none) = some o := h
      split at h
      · rename_i k; cases h; exact .inr ⟨rfl, k⟩
      · cases h
/-- the heap behind a spoiling -/
structure Spt (F1 H0 H H' : Hp) (p : Addr) : Prop where
  keep : ∀ a o, H a = some o → (F1 a ≠ none ∨ nlO o ∨ H0 a ≠ none ∨ a = p) → H' a = some o
  lst : ∀ a ws, H a = some (.lst ws) → ∃ ws', H' a = some (.lst ws') ∧ ws.length ≤ ws'.length
theorem Spt.refl {p : Addr} : Spt F1 H0 H H p := ⟨fun _ _ h _ => h, fun _ ws h => ⟨ws, h, Nat.le_refl _⟩⟩
theorem Spt.upd {p a : Addr} {ws ws2 : List V} (h : Spt F1 H0 H H' p) (k1 : F1 a = none) (k2 : H0 a = none) (k3 : a ≠ p) (k4 : H a = some (.lst ws)) (hl : ws.length ≤ ws2.length) : Spt F1 H0 H (upd H' a (.lst ws2)) p where
  keep b o h1 h2 := by
    have hb : b ≠ a := fun e => by
      subst e
      rw [k4] at h1
      cases h1
      rcases h2 with z | z | z | z
      · exact z k1
      · exact z ws rfl
      · exact z k2
      · exact k3 z
    rw [upd_ne hb]
    exact h.keep b o h1 h2
  lst b us h1 := by
    by_cases hb : b = a
    · subst hb
      rw [k4] at h1
      cases h1
      exact ⟨ws2, upd_same, hl⟩
    · rw [upd_ne hb]
      exact h.lst b us h1
theorem En.reset {p : Addr} (en : En F1 H0 F H σ Γ) (h : Spt F1 H0 H H' p) (hR : SlRs F1 Γ Γ') : En F1 H0 (Rst F1 F) H' σ Γ' where
  gr := ⟨fun a o z => rst_1 z, fun a o z => h.keep a o (en.gr.h a o z) (.inr (.inr (.inl (by rw [z]; exact nofun)))), fun a o z => by
    rcases rst_or z with k | ⟨k, n⟩
    · exact h.keep a o (en.gr.s a o (en.gr.f a o k)) (.inl (by rw [k]; exact nofun))
    · exact h.keep a o (en.gr.s a o k) (.inr (.inl n)), fun a ha z => by
    have := en.gr.n a ha z
    cases e : Rst F1 F a with
    | none => rfl
    | some o =>
      rcases rst_or e with k | ⟨k, _⟩
      · rw [z] at k; cases k
      · rw [this] at k; cases k⟩
  len := by rw [← hR.len]; exact en.len
  ok i s x h1 h2 := by
    rcases hR.at h1 with rfl | ⟨r, rfl, k | ⟨k, lf⟩⟩
    · trivial
    · obtain ⟨v, a, s, b⟩ := en.ok i _ x k h2
      exact ⟨v, a, r.mono (fun a o z => rst_1 z) b⟩
    · obtain ⟨v, a, b⟩ := en.ok i _ x k h2
      exact ⟨v, a, lf F _ v (fun a o z n => rst_2 en.gr.f z n) b⟩
  own i p l h1 h2 := by
    rcases hR.at h1 with e | ⟨r, e, _⟩ <;> cases e
  sep i j p l l' h1 h1' h2 h2' := by
    rcases hR.at h1 with e | ⟨r, e, _⟩ <;> cases e
open Classical in
/-- for x in y: x[n] = m, where y and its lists are new -/
theorem go_spoilSet {N : List Str} {sc : Scope} {k iy ix n j j2 : Nat} {ls : List (List Rep)} {m : Int} {x y : Str} {px py p1 p2 p3 p4 ps pos : Pos} (B : BX X N sc k) (hΓ : Γ[iy]? = some (.ow (ls.map fun l => rN F1 (rLh l)))) (hl : ∀ l ∈ ls, n < l.length)
    (hNy : N[iy]? = some y) (hvy : Vis sc y) (hNx : N[ix]? = some x) (hvx : Vis sc x) (hx : LocX X sc x) (hR : SlRs F1 Γ Γ') (hx2 : Γ'[ix]? = some .any) (h : GO X F1 H0 st D Γ')
    (hdy : (y == ("__debug__" : Str)) = false := by decide) (hcdy : (y == ("__classdict__" : Str)) = false := by decide) (hdx : (x == ("__debug__" : Str)) = false := by decide) (hcdx : (x == ("__classdict__" : Str)) = false := by decide)
    (ha : ∀ v, assign (.Subscript (.Name x p1) (.Constant (.int (n : Int)) j p2) p3) X.env v = (do
      let ov ← holding [v] (eval (.Name x p1) X.env)
      let iv ← holding [v, ov] (eval (.Constant (.int (n : Int)) j p2) X.env)
      standAt p3
      holding [v, ov, iv] (setItem ov iv v)
      release [v, ov, iv] []) := by intro _; rfl)
    (hs : swapsWithSole [.Subscript (.Name x p1) (.Constant (.int (n : Int)) j p2) p3] (.Constant (.int m) j2 p4) ps.line X.env = pure false := by rfl) (hw : swappedStores [.Subscript (.Name x p1) (.Constant (.int (n : Int)) j p2) p3] (.Constant (.int m) j2 p4) X.env = pure none := by rfl)
    (h1 : (assignEach [.Subscript (.Name x p1) (.Constant (.int (n : Int)) j p2) p3] X.env).map (·.2) = [assign (.Subscript (.Name x p1) (.Constant (.int (n : Int)) j p2) p3) X.env] := by rfl)
    (hf : ∀ z, foldedSetIterable (.Name y py) X.env z = pure z := by intro _; rfl) :
    GO X F1 H0 (.For (.Name x px) (.Name y py) [.Assign [.Subscript (.Name x p1) (.Constant (.int (n : Int)) j p2) p3] (.Constant (.int m) j2 p4) ps] [] pos :: st) D Γ := fun F H σ en => by
  obtain ⟨p, vs, k1, k2, k3, k4, k5⟩ := en.ow hΓ
  have hfx : X.fn x = true ∨ X.env.scope.names.lookup x = some .local := by
    rcases hx with hx | hx
    · exact .inr (by rw [B.hsc]; exact hx)
    · exact .inl hx.2
  have hlx : Loc sc x := hx.elim .inl fun z => .inr z.1
  have hxl : ix < σ.length := by
    have := (List.getElem?_eq_some_iff.mp hx2).1
    rw [← en.len, hR.len]; exact this
  refine .of (pss_cons (ps_for B.own B.calm (pi_list (pe_var (i := iy) (B.hN ▸ hNy) (B.hsc ▸ hvy) hdy hcdy)) (pg_name (i := ix) (by rw [B.hN]; exact B.nd) (by rw [B.hN]; exact hNx) (by rw [B.hsc]; exact hlx) hfx)
    (pss_one (ps_asg pe_int (pg_sub (pe_var (i := ix) (B.hN ▸ hNx) (B.hsc ▸ hvx) hdx hcdx) pe_int set_list ha) hs hw h1)) hf) pss_ev) ?_
  refine ⟨.ref p, k1, p, rfl, ⟨vs, SqL.of k3⟩, ?_⟩
  refine ⟨fun i m' σ' H' => m' = vs.length - i ∧ i ≤ vs.length ∧ Spt F1 H0 H H' p ∧ (σ' = σ ∨ ∃ u, σ' = σ.set ix u), ⟨vs.length, by simp, Nat.zero_le _, .refl, .inl rfl⟩, fun i m' σ' H' hW => ?_⟩
  obtain ⟨rfl, hle, sp, hσ⟩ := hW
  have hp' : H' p = some (.lst vs) := sp.keep p _ k3 (.inr (.inr (.inr rfl)))
  by_cases hlt : i < vs.length
  · refine .inr ⟨⟨vs, vs[i], SqL.of hp', List.getElem?_eq_getElem hlt⟩, fun σ' H' => i + 1 ≤ vs.length ∧ Spt F1 H0 H H' p ∧ (σ' = σ ∨ ∃ u, σ' = σ.set ix u), fun σ2 H2 hh => ⟨vs.length - (i + 1), by omega, rfl, hh.1, hh.2⟩, fun v H2 hy => ?_⟩
    obtain ⟨rfl, hy⟩ := hy
    have hv := hy vs (SqL.of hp')
    obtain ⟨r, er, hr⟩ := k4.got hv
    obtain ⟨l, hlm, rfl⟩ : ∃ l, l ∈ ls ∧ r = rN F1 (rLh l) := by
      rw [List.getElem?_map] at er
      cases e : ls[i]? with
      | none => rw [e] at er; cases er
      | some l => rw [e] at er; cases er; exact ⟨l, List.mem_of_getElem? e, rfl⟩
    obtain ⟨a, ws, rfl, ha2, hws⟩ := hr
    have hFa := nw_sub a _ ha2
    have hHa := en.gr.s a _ hFa
    have hF1a : F1 a = none := by
      cases e : F1 a with
      | none => rfl
      | some o =>
        have z := en.gr.f a o e
        rw [hFa] at z
        cases z
        unfold Nw at ha2
        rw [hFa] at ha2
        have ha2 : (if (∃ vs, F1 a = some (.lst vs)) ∧ (∃ vs, HO.lst ws = HO.lst vs) then none else some (HO.lst ws)) = some (HO.lst ws) := ha2
        rw [if_pos ⟨⟨ws, e⟩, ⟨ws, rfl⟩⟩] at ha2
        cases ha2
    have hH0a : H0 a = none := by
      cases e : H0 a with
      | none => rfl
      | some o =>
        have := en.gr.n a (by rw [e]; exact nofun) hF1a
        rw [this] at hFa; cases hFa
    have hap : a ≠ p := fun z => by rw [z, k2] at hFa; cases hFa
    obtain ⟨ws', hH'a, hlen⟩ := sp.lst a ws hHa
    have hn : n < ws'.length := by
      have := hl l hlm
      have := hws.len
      omega
    have hget : (σ'.set ix (some (.ref a)))[ix]? = some (some (.ref a)) := List.getElem?_set_self (by rcases hσ with rfl | ⟨u, rfl⟩ <;> simpa using hxl)
    refine ⟨.ref a, hget, ?_⟩
    refine ⟨a, ws', (n : Int), n, rfl, rfl, hH'a, ?_, ?_⟩
    · unfold ixN
      simp
      omega
    · refine ⟨hlt, sp.upd hF1a hH0a hap hHa (by rw [List.length_set]; exact hlen), .inr ⟨some (.ref a), ?_⟩⟩
      rcases hσ with rfl | ⟨u, rfl⟩
      · rfl
      · rw [List.set_set]
  · have e : i = vs.length := by omega
    subst e
    refine .inl ⟨⟨vs, SqL.of hp', Nat.le_refl _⟩, ?_⟩
    have en' := en.reset sp hR
    rcases hσ with rfl | ⟨u, rfl⟩
    · exact h _ _ _ en'
    · have en2 := en'.setAny (i := ix) u
      have : Γ'.set ix .any = Γ' := by
        apply List.ext_getElem?
        intro q
        by_cases hq : ix = q
        · subst hq
          rw [List.getElem?_set_self (by rw [← hR.len, en.len]; exact hxl), hx2]
        · rw [List.getElem?_set_ne hq]
      rw [this] at en2
      exact h _ _ _ en2
end
end DL

set_option Elab.async false
set_option linter.all false
set_option maxRecDepth 100000
set_option maxHeartbeats 4000000
/-! try with several except clauses, each with a name or without -/
namespace DL
open PySem PySem.Spec PyProof.Rows L2
abbrev TSx := Addr → Value → Option Addr → TS
def offS (D : Ends) (i : Nat) : Ends := ⟨fun σ H => D.nx (σ.set i none) H, D.rt, fun σ H => D.bk (σ.set i none) H, fun σ H => D.ct (σ.set i none) H⟩
def wMx (K : PySem.W.Frag) (Wo : WX) (D : Ends) : List (Value × Option Nat × TSx) → WX
  | [] => Wo
  | (c, none, t) :: more => fun y d σ H => ∃ hit, PySem.W.exmOne K y c = some hit ∧ (hit = true → ∀ a, H a = none → t a y d D σ H) ∧ (hit = false → wMx K Wo D more y d σ H)
  | (c, some i, t) :: more => fun y d σ H => ∃ hit, PySem.W.exmOne K y c = some hit ∧ (hit = true → ∀ a, H a = none → t a y d (offS D i) (σ.set i (some (.ref a))) H) ∧ (hit = false → wMx K Wo D more y d σ H)
def SuOk (X : Cx) (suite : List Stmt) (t : TSx) : Prop := ∀ (a : Addr) (ob : Obj) (y : Value) (d : Option Addr) (pn : List (Addr × Obj)), Zc y d ob → (∃ us, ob.data = .fields us) → PSs (X.suite a ((a, ob) :: pn)) suite (t a y d)
inductive HMx (X : Cx) : List ExceptHandler → List (Value × Option Nat × TSx) → Prop
  | nil : HMx X [] []
  | plain {x : Str} {c : Value} {t : TSx} {s0 : Stmt} {su : List Stmt} {np p : Pos} {hs : List ExceptHandler} {l : List (Value × Option Nat × TSx)} (nm : Names X x c) (so : SuOk X (s0 :: su) t) (r : HMx X hs l) :
      HMx X (.ExceptHandler (some (.Name x np)) none (s0 :: su) p :: hs) ((c, none, t) :: l)
  | named {x n : Str} {i : Nat} {c : Value} {t : TSx} {s0 : Stmt} {su : List Stmt} {np p : Pos} {hs : List ExceptHandler} {l : List (Value × Option Nat × TSx)} (nm : Names X x c) (hi : X.N[i]? = some n) (hn : X.env.kindOf n = some .local) (so : SuOk X (s0 :: su) t) (r : HMx X hs l) :
      HMx X (.ExceptHandler (some (.Name x np)) (some n) (s0 :: su) p :: hs) ((c, some i, t) :: l)
section
variable {X : Cx} {body : List Stmt} {h1 : ExceptHandler} {hs : List ExceptHandler} {l : List (Value × Option Nat × TSx)} {pos : Pos} {tb : WX → TS} {Wo : WX}
theorem ps_try_mx (est : X.stack = X.env :: X.outer) (efr : X.env.frame = some X.env.locals) (nd : X.N.Nodup) (tk : Takes X Wo)
    (hb : ∀ (W : WX) (pn : List (Addr × Obj)) (xe : Value → Shared → Prop), Takes (X.tr pn xe) W → PassesOwn (model X.prog X.w) X.A X.env xe → PSs (X.tr pn xe) body (tb W)) (hm : HMx X (h1 :: hs) l) :
    PS X (.Try body (h1 :: hs) [] [] pos) (fun D σ H => tb (wMx X.K Wo D l) D σ H) := by
  constructor
  intro pins s0 σ0 H0 D I0 ask
  have fine := I0.ok
  have frm : X.A.frames = some (X.env :: X.outer) := est ▸ fine.frames
  apply wpAny_Try_except
  have run := (hb (wMx X.K Wo D l) (X.pn ++ pins)
    (fun e t1 => wpAny (model X.prog X.w) X.A (noteFrame e X.env) (fun _ t2 => wpAny (model X.prog X.w) X.A (setFlight e none) (fun _ t3 => wpAny (model X.prog X.w) X.A (handleBy e X.env (h1 :: hs)) (SP X pins D) X.xe t3) X.xe t2) X.xe t1)
    (fun u t1 got => ?_) PassesOwn.looking).run [] s0 σ0 H0 D (I0.toTry _) ask
  · refine wpAny_mono run (fun f t1 sp => ?_) fun e t1 z => z
    cases f with
    | next => exact let ⟨σ1, G1, J1, q⟩ := sp; wpAny_execs_nil ⟨σ1, G1, J1.ofTry fine, q⟩
    | brk => exact let ⟨σ1, G1, J1, q⟩ := sp; ⟨σ1, G1, J1.ofTry fine, q⟩
    | cont => exact let ⟨σ1, G1, J1, q⟩ := sp; ⟨σ1, G1, J1.ofTry fine, q⟩
    | ret u => exact let ⟨v, σ1, G1, J1, r, q⟩ := sp; ⟨v, σ1, G1, J1.ofTry fine, r, q⟩
  · obtain ⟨a, B, sI, pins1, σ1, G1, y, d, rfl, J1, nb, up, sky, fresh, os, ag, ww⟩ := got
    have J : Inv X pins σ1 G1 sI := J1.ofTry fine
    rw [est] at sky
    show wpAny (model X.prog X.w) X.A (noteFrame (.ref a) X.env) _ _ _
    apply Sky.land Zc.steady frm efr sky
    intro hp3 fl3 up3
    have K3 : Inv X pins σ1 G1 { t1 with heap := hp3 } := J.landed nb fl3.1 (up.trans up3) os ag
    obtain ⟨ob3, us3, ea3, za3, da3⟩ := fl3.there
    have off : a ∉ frs (X.env :: X.outer) := fun mem => by
      obtain ⟨_, ob, eb, no⟩ := fl3.2.2.1.mem mem
      exact no _ ((Option.some.inj (ea3.symm.trans eb)) ▸ da3)
    have offL : a ≠ X.env.locals := fun z => off (List.mem_filterMap.mpr ⟨X.env, List.mem_cons_self, by rw [efr, z]⟩)
    have offF : a ∉ X.fs := fun mem => by
      obtain ⟨ev, hev, q⟩ := List.mem_filterMap.mp mem
      exact off (List.mem_filterMap.mpr ⟨ev, List.mem_cons_of_mem _ hev, q⟩)
    have S3 := K3.suite ea3 da3 fresh offL offF
    have look : PySem.W.Looks (model X.prog X.w) hp3 (typeOf (.ref a)) y := fun _ _ _ _ k q => wpAny_typeOf_ref (k _ _ ea3) (by rw [za3.1]; exact q)
    -- the class behind except
    have cls : ∀ {x : Str} {c : Value} {np : Pos}, Names X x c → ∀ {Q : Value → Shared → Prop} {E : Value → Shared → Prop}, Q c { t1 with heap := hp3 } →
        wpAny (model X.prog X.w) (X.A.mark (some (.ref a))) (eval (.Name x np) X.env) Q E { t1 with heap := hp3 } := fun {x c np} nm {Q E} q => by
      rcases nm with ⟨g1, g2, g3 | ⟨g3, g4, g5⟩⟩
      · exact ld_glob (X := X.suite a ((a, ob3) :: (X.pn ++ pins))) S3 g1 g3 q g2
      · exact ld_blt (X := X.suite a ((a, ob3) :: (X.pn ++ pins))) S3 g1 g3 g4 q g5 g2
    have walk : ∀ {hs2 : List ExceptHandler} {l2 : List (Value × Option Nat × TSx)}, HMx X hs2 l2 → wMx X.K Wo D l2 y d σ1 G1 →
        wpAny (model X.prog X.w) X.A (handleBy (.ref a) X.env hs2) (SP X pins D) X.xe { t1 with heap := hp3 } := by
      intro hs2 l2 ok2
      induction ok2 with
      | nil =>
        intro w2
        apply wpAny_handleBy_nil
        obtain ⟨_, _, _, ob, us, T, oT, tt, eo, zo, dO, g1, _⟩ := id fl3
        unfold PySem.passOn
        refine wpAny_bind (wpAny_field eo dO g1 ?_)
        rw [if_neg (by simp : ¬ ((Value.ref T == Value.none) = true))]
        have done : wpAny (model X.prog X.w) X.A (setFlight (.ref a) X.env.frame) (fun _ t4 => wpAny (model X.prog X.w) X.A (throw (.ref a) : Sem Flow) (SP X pins D) X.xe t4) X.xe { t1 with heap := hp3 } := by
          rw [efr]
          exact HandSPX.setFlight_upZ fl3 fun hp4 in4 up4 => wpAny_throw (tk _ _ ⟨a, B, sI, pins, σ1, G1, y, d, rfl, J, nb, (up.trans up3).trans up4, .inr (.inr (by rw [est]; exact in4)), fresh, os, ag, w2⟩)
        first
          | exact wpAny_bind (wpAny_pure (wpAny_bind done))
          | exact wpAny_bind done
      | @plain x c t s0' su np p hs3 l3 nm so r ih =>
        rintro ⟨hit, e1, yes, no⟩
        refine wpAny_handleBy_cons (codeAny_handlers_test ?_) (by intro q; cases q)
        refine cls nm ((PySem.W.exm_one (M := model X.prog X.w) K3.kIn look e1).here ?_)
        cases hit with
        | false => exact ih (no rfl)
        | true =>
          apply codeAny_handlers_suite
          apply HandSPX.lands_againZ fl3
          intro hp4 fl4 up4
          have K4 : Inv X pins σ1 G1 { t1 with heap := hp4 } := J.landed nb fl4.1 ((up.trans up3).trans up4) os ag
          obtain ⟨ob4, us4, ea4, za4, da4⟩ := fl4.there
          have S4 := K4.suite ea4 da4 fresh offL offF
          refine wpAny_mono ((so a ob4 y d (X.pn ++ pins) za4 ⟨_, da4⟩).run [] _ _ G1 _ S4 (yes rfl a fresh)) (fun f t6 sp => ?_) fun _ _ z => z.elim
          cases f with
          | ret u => exact let ⟨v, σ6, G6, S6, r6, q6⟩ := sp; ⟨v, σ6, G6, S6.unsuite fine, r6, q6⟩
          | next => exact let ⟨σ6, G6, S6, q6⟩ := sp; ⟨σ6, G6, S6.unsuite fine, q6⟩
          | brk => exact let ⟨σ6, G6, S6, q6⟩ := sp; ⟨σ6, G6, S6.unsuite fine, q6⟩
          | cont => exact let ⟨σ6, G6, S6, q6⟩ := sp; ⟨σ6, G6, S6.unsuite fine, q6⟩
      | @named x n i c t s0' su np p hs3 l3 nm hi hn so r ih =>
        rintro ⟨hit, e1, yes, no⟩
        refine wpAny_handleBy_cons (codeAny_handlers_test ?_) (by intro q; cases q)
        refine cls nm ((PySem.W.exm_one (M := model X.prog X.w) K3.kIn look e1).here ?_)
        cases hit with
        | false => exact ih (no rfl)
        | true =>
          apply codeAny_handlers_suite_as
          apply HandSPX.lands_againZ fl3
          intro hp4 fl4 up4
          have K4 : Inv X pins σ1 G1 { t1 with heap := hp4 } := J.landed nb fl4.1 ((up.trans up3).trans up4) os ag
          obtain ⟨ob4, us4, ea4, za4, da4⟩ := fl4.there
          have S4 := K4.suite ea4 da4 fresh offL offF
          have lc : Loc X.env.scope n := .inl hn
          refine store_ok (X := X.suite a ((a, ob4) :: (X.pn ++ pins))) (v := .ref a) S4 nd hi lc rfl (fun t5 S5 => ?_) (.inr hn)
          refine wpAny_mono ((so a ob4 y d (X.pn ++ pins) za4 ⟨_, da4⟩).run [] t5 _ G1 _ S5 (yes rfl a fresh)) (fun f t6 sp => ?_) fun _ _ z => z.elim
          cases f with
          | ret u => exact let ⟨v, σ6, G6, S6, r6, q6⟩ := sp; gone_ok (S6.unsuite fine) nd hi hn fun t7 J7 => ⟨v, _, G6, J7, r6, q6⟩
          | next => exact let ⟨σ6, G6, S6, q6⟩ := sp; gone_ok (S6.unsuite fine) nd hi hn fun t7 J7 => ⟨_, G6, J7, q6⟩
          | brk => exact let ⟨σ6, G6, S6, q6⟩ := sp; gone_ok (S6.unsuite fine) nd hi hn fun t7 J7 => ⟨_, G6, J7, q6⟩
          | cont => exact let ⟨σ6, G6, S6, q6⟩ := sp; gone_ok (S6.unsuite fine) nd hi hn fun t7 J7 => ⟨_, G6, J7, q6⟩
    exact walk hm ww
end
theorem en_err0 {F0 H0 F H H1 : Hp} {σ : L2.St} {Γ : List Sl} (en : En F0 H0 F H σ Γ) (s : Same H H1) : En F0 H0 F H1 σ Γ := en.grow (F' := F) (H' := H1) ⟨Same.refl _, s, en.gr.s.trans s, fun _ _ z => z⟩
theorem hm_plain {X : Cx} {x : Str} {c : Value} {s0 : Stmt} {su : List Stmt} {np p : Pos} {hs : List ExceptHandler} {l : List (Value × Option Nat × TSx)} {sc : Scope} (hsc : X.env.scope = sc) (hx : sc.names.lookup x = some .globalImplicit) (hm : X.mg x = some c) (hd : (x == ("__debug__" : Str)) = false) (r : HMx X hs l) :
    HMx X (.ExceptHandler (some (.Name x np)) none (s0 :: su) p :: hs) ((c, none, tsu X (s0 :: su)) :: l) :=
  .plain ⟨by show X.env.scope.names.lookup x = _; rw [hsc]; exact hx, hd, .inl hm⟩ (fun _ ob _ _ pn hz hv => ⟨fun pins s σ H D I h => h ob pn hz hv pins s I⟩) r
theorem hm_named {X : Cx} {x n : Str} {i : Nat} {c : Value} {s0 : Stmt} {su : List Stmt} {np p : Pos} {hs : List ExceptHandler} {l : List (Value × Option Nat × TSx)} {sc : Scope} {N : List Str} (hsc : X.env.scope = sc) (hNX : X.N = N) (hx : sc.names.lookup x = some .globalImplicit) (hm : X.mg x = some c) (hd : (x == ("__debug__" : Str)) = false) (hi : N[i]? = some n) (hn : sc.names.lookup n = some .local) (r : HMx X hs l) :
    HMx X (.ExceptHandler (some (.Name x np)) (some n) (s0 :: su) p :: hs) ((c, some i, tsu X (s0 :: su)) :: l) :=
  .named ⟨by show X.env.scope.names.lookup x = _; rw [hsc]; exact hx, hd, .inl hm⟩ (by rw [hNX]; exact hi) (by show X.env.scope.names.lookup n = _; rw [hsc]; exact hn) (fun _ ob _ _ pn hz hv => ⟨fun pins s σ H D I h => h ob pn hz hv pins s I⟩) r
section
variable {X : Cx} {N : List Str} {sc : Scope} {k : Nat} {Γ : List Sl} {body st : List Stmt} {h1 : ExceptHandler} {hs : List ExceptHandler} {l : List (Value × Option Nat × TSx)} {pos : Pos} {W : WX} {D : Ends} {F0 H0 : Hp}
theorem go_tryM (B : BX X N sc k) (Z : FX X W) (hm : HMx X (h1 :: hs) l)
    (hb : ∀ pn xe, BX (X.tr pn xe) N sc k → Takes (X.tr pn xe) (wMx X.K W { D with nx := XS X st D } l) → GO (X.tr pn xe) F0 H0 body { D with nx := XS X st D } Γ) :
    GO X F0 H0 (.Try body (h1 :: hs) [] [] pos :: st) D Γ := fun F H σ en => by
  refine .of (pss_cons (ps_try_mx Z.st Z.fr (by rw [B.hN]; exact B.nd) (tb := tbo X body) Z.tk (fun W pn xe tk po => ⟨fun pins s σ H D I h => h pn xe tk po pins s I⟩) hm) pss_ev) ?_
  exact fun pn xe tk po => hb pn xe ⟨B.hN, B.hsc, B.nd, B.room, B.calm, po⟩ tk F H σ en
end
end DL

set_option Elab.async false
set_option linter.all false
set_option maxRecDepth 100000
set_option maxHeartbeats 4000000
/-! entries of a book; the table that has given values there -/
namespace DL
open PySem PySem.Spec PyProof.Rows L2
theorem ti2n_eq {K : PySem.W.Frag} {l : List Int} : l.map rInt = (toQ l).map (rNum K) := by
  unfold toQ
  rw [List.map_map]
  refine List.map_congr_left fun n _ => ?_
  show rInt n = rNum K (n : Rat)
  unfold rNum
  rw [if_pos (Rat.den_intCast ..), Rat.num_intCast]
section
variable {X : L2.Cx} {Γ : List Sl} {e : PySem.Expr} {l : List Int}
theorem de_ti2sn (h : DE X Γ e (rTup X.K (l.map rInt))) : DE X Γ e (rSeq X.K ((toQ l).map (rNum X.K))) := by
  rw [← ti2n_eq]
  exact h.sub sub_tseq
end
def pivL (F : List (List Int)) : List Int := F.map fun r => (suppI (toQ r)).getD 0 0
theorem piv_lc {F : List (List Int)} : List.map (fun i : Nat => rInt ((suppI (toQ (F.getD i []))).getD 0 0)) (List.filter (fun _ => true) (List.range F.length)) = List.map rInt (pivL F) :=
  (lc_map (f := fun r => rInt ((suppI (toQ r)).getD 0 0))).trans (by unfold pivL; rw [List.map_map]; rfl)
structure PvOk (b : Bk) : Prop where
  n : b.frame.length ≤ 1000
  l : ∀ r ∈ b.frame, r.length ≤ 1000
  s : ∀ r ∈ b.frame, 0 < (suppI (toQ r)).length
def tabN (F : List (List Int)) (vs : List Rat) (n : Nat) : Nat → List Rat
  | 0 => List.replicate n 0
  | i + 1 => zipM (· + ·) (tabN F vs n i) ((toQ (F.getD i [])).map fun q => q * (vs.getD i 0 / (((F.getD i []).getD ((pivL F).getD i 0).toNat 0 : Int) : Rat)))
abbrev tabL (F : List (List Int)) (vs : List Rat) (n : Nat) : List Rat := tabN F vs n F.length
theorem tabN_len {F : List (List Int)} {vs : List Rat} {n : Nat} (hl : ∀ r ∈ F, r.length = n) : ∀ i, i ≤ F.length → (tabN F vs n i).length = n
  | 0, _ => List.length_replicate ..
  | i + 1, h => by
    have := tabN_len (vs := vs) hl i (by omega)
    have hr := hl _ (getD_memL (l := F) (i := i) (by omega))
    show (zipM _ _ _).length = n
    unfold zipM
    rw [List.length_map, List.length_range, this, List.length_map, toQ_len, hr]
    exact Nat.min_self n
structure TbOk (b : Bk) (vs : List Rat) : Prop where
  p : PvOk b
  n : b.size ≤ 1000
  len : ∀ r ∈ b.frame, r.length = b.size
  pv : ∀ i, i < b.frame.length → 0 ≤ (pivL b.frame).getD i 0 ∧ (pivL b.frame).getD i 0 < (b.size : Int) ∧ (b.frame.getD i []).getD ((pivL b.frame).getD i 0).toNat 0 ≠ 0
  s1 : ∀ r ∈ b.frame, ∀ x ∈ r, Sz 1000 (x : Rat)
  s2 : ∀ v ∈ vs, Sz 4000 v
  s3 : ∀ i, i < b.frame.length → Sz 2000 (vs.getD i 0 / (((b.frame.getD i []).getD ((pivL b.frame).getD i 0).toNat 0 : Int) : Rat))
  s4 : ∀ i, i < b.frame.length → ∀ x ∈ b.frame.getD i [], Sz 3000 ((x : Rat) * (vs.getD i 0 / (((b.frame.getD i []).getD ((pivL b.frame).getD i 0).toNat 0 : Int) : Rat)))
  s5 : ∀ i, i ≤ b.frame.length → ∀ q ∈ tabN b.frame vs b.size i, Sz 3000 q
def isTab (b : Bk) (qs : List Rat) : Bool := decide (tabL b.frame ((pivL b.frame).map fun k => qs.getD k.toNat 0) b.size = qs)
theorem pivL_len (F : List (List Int)) : (pivL F).length = F.length := List.length_map _
theorem tb_ok {b : Bk} {vs : List Rat} (hp : PvOk b ∧ (vs.length = b.frame.length → TbOk b vs)) (hx : (!decide (((vs.length : Nat) : Int) = (((pivL b.frame).length : Nat) : Int))) = false) : vs.length = b.frame.length ∧ TbOk b vs := by
  have h1 := of_decide_eq_true (nn_f hx)
  have h2 := pivL_len b.frame
  have h3 : vs.length = b.frame.length := by omega
  exact ⟨h3, hp.2 h3⟩
theorem tb_no {b : Bk} {vs : List Rat} (hx : (!decide (((vs.length : Nat) : Int) = (((pivL b.frame).length : Nat) : Int))) = true) : ¬ vs.length = b.frame.length := fun z => by
  have h2 := pivL_len b.frame
  rw [decide_eq_true (by omega)] at hx
  cases hx
section
variable {b : Bk} {vs : List Rat} {i : Nat}
theorem TbOk.int (h : TbOk b vs) (hi : i < b.frame.length) : ∀ q ∈ toQ (b.frame.getD i []), Sz 1000 q := fun q hq => by
  obtain ⟨x, hx, rfl⟩ := List.mem_map.mp hq
  exact h.s1 _ (getD_memL hi) x hx
theorem TbOk.sc (h : TbOk b vs) (hi : i < b.frame.length) : ∀ q ∈ (toQ (b.frame.getD i [])).map (fun q => q * (vs.getD i 0 / (((b.frame.getD i []).getD ((pivL b.frame).getD i 0).toNat 0 : Int) : Rat))), Sz 3000 q := fun q hq => by
  obtain ⟨y, hy, rfl⟩ := List.mem_map.mp hq
  obtain ⟨x, hx, rfl⟩ := List.mem_map.mp hy
  exact h.s4 i hi x hx
theorem TbOk.row (h : TbOk b vs) (hi : i < b.frame.length) : (b.frame.getD i []).length = b.size := h.len _ (getD_memL hi)
theorem TbOk.ne (h : TbOk b vs) (hi : i < b.frame.length) : ¬ ((((b.frame.getD i []).getD ((pivL b.frame).getD i 0).toNat 0 : Int)) : Rat) = 0 := fun z => (h.pv i hi).2.2 (by exact_mod_cast z)
theorem TbOk.over (h : TbOk b vs) (hi : i < b.frame.length) (hv : vs.length = b.frame.length) : Sz 4000 (vs.getD i 0) ∧ Sz 4000 ((((b.frame.getD i []).getD ((pivL b.frame).getD i 0).toNat 0 : Int)) : Rat) :=
  ⟨h.s2 _ (DL.getD_mem (by omega)), (h.s1 _ (getD_memL hi) _ (getD_memI (by have := h.row hi; have := (h.pv i hi).1; have := (h.pv i hi).2.1; omega))).mono (by decide)⟩
theorem rep0_lcN {K : PySem.W.Frag} {n : Nat} : (List.replicate ((n : Int)).toNat [rNum K ((0 : Int) : Rat)]).flatten = List.map (rNum K) (List.replicate n (0 : Rat)) := by
  rw [rep_flat, List.map_replicate]
  rfl
end
end DL

set_option Elab.async false
set_option linter.all false
set_option maxRecDepth 100000
set_option maxHeartbeats 4000000
/-! the entries are the greedy cells; a list is a table if it is a sum of multiples of the rows -/
namespace DL
open PySem PySem.Spec PyProof.Rows L2
section
variable {F : List (List Int)} {n : Nat} {V : Vc → Prop}
theorem gre_iff (V : Vc → Prop) : ∀ (n c : Nat), c ∈ gre V [] (List.range n) ↔ c < n ∧ Piv V (List.range c) c
  | 0, c => ⟨fun h => (List.not_mem_nil h).elim, fun h => absurd h.1 (Nat.not_lt_zero _)⟩
  | n + 1, c => by
    rw [List.range_succ, gre_snoc, List.nil_append, List.mem_append, gre_iff V n c]
    by_cases h : Piv V (List.range n) n
    · rw [if_pos h, List.mem_singleton]
      constructor
      · rintro (⟨a, b⟩ | e)
        · exact ⟨by omega, b⟩
        · subst e; exact ⟨Nat.lt_succ_self _, h⟩
      · rintro ⟨a, b⟩
        by_cases e : c = n
        · exact .inr e
        · exact .inl ⟨by omega, b⟩
    · rw [if_neg h]
      constructor
      · rintro (⟨a, b⟩ | e)
        · exact ⟨by omega, b⟩
        · exact (List.not_mem_nil e).elim
      · rintro ⟨a, b⟩
        by_cases e : c = n
        · subst e; exact absurd b h
        · exact .inl ⟨by omega, b⟩
/-- a row of a frame is 0 ahead of its own cell -/
theorem fo_head (f : FO F n V) {i : Nat} (hi : i < F.length) : ((gre V [] (List.range n)).getD i 0) < n ∧ vi (F.getD i []) ((gre V [] (List.range n)).getD i 0) ≠ 0 ∧ (∀ k ∈ gre V [] (List.range n), k ≠ (gre V [] (List.range n)).getD i 0 → vi (F.getD i []) k = 0) ∧ ∀ d, d < (gre V [] (List.range n)).getD i 0 → vi (F.getD i []) d = 0 := by
  have hl := f.count
  have hk : (gre V [] (List.range n)).getD i 0 ∈ gre V [] (List.range n) := by
    rw [List.getD_eq_getElem?_getD, List.getElem?_eq_getElem (by omega)]
    exact List.getElem_mem _
  have off : ∀ {L : List (List Int)} {K : List Nat} {i : Nat}, Dg (L.map vi) K → i < L.length → K.Nodup → ∀ k ∈ K, k ≠ K.getD i 0 → vi (L.getD i []) k = 0 := by
    intro L
    induction L with
    | nil => intro K i _ h; exact absurd h (Nat.not_lt_zero _)
    | cons l L ih =>
      intro K i hd h hn k hk ne
      cases K with
      | nil => exact hd.elim
      | cons k0 K =>
        have hn2 := List.nodup_cons.mp hn
        cases i with
        | zero =>
          rcases List.mem_cons.mp hk with e | e
          · exact absurd e ne
          · exact hd.2.2.1 k e
        | succ i =>
          rcases List.mem_cons.mp hk with e | e
          · rw [e]
            exact hd.2.1 _ (List.mem_map.mpr ⟨_, getD_memL (l := L) (i := i) (by simpa using h), rfl⟩)
          · exact ih hd.2.2.2 (by simpa using h) hn2.2 k e ne
  have nd : (gre V [] (List.range n)).Nodup := List.Nodup.sublist (gsub V (List.range n) []) List.nodup_range
  have o := off f.dg hi nd
  have hne : vi (F.getD i []) ((gre V [] (List.range n)).getD i 0) ≠ 0 := fun z => dg_get (i := i) f.dg (by omega) (vi_zero.mp z)
  have hlt := ((gre_iff V n _).mp hk).1
  refine ⟨hlt, hne, o, fun d => ?_⟩
  have inV : V (vi (F.getD i [])) := (f.span _).mp (sp_mem (List.mem_map.mpr ⟨_, getD_memL hi, rfl⟩))
  induction d using Nat.strongRecOn with
  | _ d ih =>
    intro hd
    refine Classical.byContradiction fun z => ?_
    have hp : Piv V (List.range d) d := ⟨_, inV, fun e he => ih e (List.mem_range.mp he) (by have := List.mem_range.mp he; omega), z⟩
    exact z (o d ((gre_iff V n d).mpr ⟨by omega, hp⟩) (by omega))
where
  gsub (V : Vc → Prop) : ∀ (cs prev : List Nat), (gre V prev cs).Sublist cs
    | [], _ => List.Sublist.refl _
    | d :: cs, prev => by
      show (if Piv V prev d then d :: gre V (prev ++ [d]) cs else gre V (prev ++ [d]) cs).Sublist _
      split
      · exact (gsub V cs _).cons₂ d
      · exact (gsub V cs _).cons d
theorem filter_head {n k : Nat} {p : Nat → Bool} (hk : k < n) (h0 : ∀ d, d < k → p d = false) (h1 : p k = true) : ∃ t, (List.range n).filter p = k :: t := by
  have e : n = k + (n - k - 1 + 1) := by omega
  rw [e, List.range_add, List.filter_append]
  have z : (List.range k).filter p = [] := List.filter_eq_nil_iff.mpr fun a ha => by rw [h0 a (List.mem_range.mp ha)]; exact Bool.false_ne_true
  rw [z, List.nil_append, List.range_succ_eq_map, List.map_cons, List.filter_cons_of_pos (by rw [Nat.add_zero]; exact h1)]
  exact ⟨_, by rw [Nat.add_zero]⟩
theorem supp_head2 {r : List Int} {k : Nat} (hk : k < r.length) (h0 : ∀ d, d < k → r.getD d 0 = 0) (h1 : r.getD k 0 ≠ 0) : 0 < (suppI (toQ r)).length ∧ (suppI (toQ r)).getD 0 0 = (k : Int) := by
  have g : ∀ d, (toQ r).getD d 0 = ((r.getD d 0 : Int) : Rat) := fun d => by
    unfold toQ
    exact getD_mapQ r d
  unfold suppI suppN
  obtain ⟨t, ht⟩ := filter_head (n := (toQ r).length) (k := k) (p := fun i => !decide ((toQ r).getD i 0 = 0)) (by rw [toQ_len]; exact hk) (fun d hd => by
    show (!decide ((toQ r).getD d 0 = 0)) = false
    rw [g, h0 d hd]; rfl) (by
    show (!decide ((toQ r).getD k 0 = 0)) = true
    rw [g, decide_eq_false (fun z => h1 (by exact_mod_cast z))]; rfl)
  rw [ht]
  exact ⟨Nat.succ_pos _, rfl⟩
theorem piv_eq (f : FO F n V) {i : Nat} (hi : i < F.length) : (pivL F).getD i 0 = (((gre V [] (List.range n)).getD i 0 : Nat) : Int) ∧ 0 < (suppI (toQ (F.getD i []))).length := by
  obtain ⟨h1, h2, _, h4⟩ := fo_head f hi
  have hr := f.len _ (getD_memL hi)
  have := supp_head2 (r := F.getD i []) (k := (gre V [] (List.range n)).getD i 0) (by omega) (fun d hd => vi_zero.mp (h4 d hd)) (fun z => h2 (vi_zero.mpr z))
  refine ⟨?_, this.1⟩
  rw [← this.2]
  unfold pivL
  rw [List.getD_eq_getElem?_getD, List.getElem?_map, List.getElem?_eq_getElem hi, List.getD_eq_getElem?_getD (l := F), List.getElem?_eq_getElem hi]
  rfl
theorem piv_nat (f : FO F n V) : (pivL F).map Int.toNat = gre V [] (List.range n) := by
  have hl := f.count
  apply List.ext_getElem?
  intro i
  by_cases hi : i < F.length
  · have := (piv_eq f hi).1
    have h1 : i < (pivL F).length := by rw [pivL_len]; exact hi
    rw [List.getD_eq_getElem?_getD, List.getElem?_eq_getElem h1, List.getD_eq_getElem?_getD, List.getElem?_eq_getElem (by omega)] at this
    rw [List.getElem?_map, List.getElem?_eq_getElem h1, List.getElem?_eq_getElem (by omega)]
    show some ((pivL F)[i]).toNat = _
    have this : (pivL F)[i] = (((gre V [] (List.range n))[i] : Nat) : Int) := this
    rw [this]
    rfl
  · rw [List.getElem?_eq_none (by rw [List.length_map, pivL_len]; omega), List.getElem?_eq_none (by omega)]
/-- a list is in the span if it is the sum that its entries tell -/
theorem mem_sum (f : FO F n V) (x : Vc) : V x ↔ ∀ c, x c = sumQ F (gre V [] (List.range n)) x c := by
  obtain ⟨z, a, b, e⟩ := dg_sum x f.dg
  constructor
  · intro h c
    have hy : Sp (F.map vi) fun j => x j - z j := sp_sub ((f.span x).mpr h) a
    have := dg_zero f.dg hy (fun k hk => by show x k - z k = 0; rw [b k hk]; grind) c
    rw [← e c]
    have this : x c - z c = 0 := this
    grind
  · intro h
    exact (f.span x).mp (a.to fun c => by rw [e c, ← h c])
end
end DL

set_option Elab.async false
set_option linter.all false
set_option maxRecDepth 100000
set_option maxHeartbeats 4000000
/-! the table that has given values at the entries: what it is, how large its numbers are -/
namespace DL
open PySem PySem.Spec PyProof.Rows L2
section
variable {F : List (List Int)} {n : Nat} {V : Vc → Prop} {vs : List Rat}
def trm (F : List (List Int)) (vs : List Rat) (j i : Nat) : Rat := ((((F.getD i []).getD j 0 : Int)) : Rat) * (vs.getD i 0 / (((F.getD i []).getD ((pivL F).getD i 0).toNat 0 : Int) : Rat))
def sumI (F : List (List Int)) (vs : List Rat) (j : Nat) : Nat → Rat
  | 0 => 0
  | i + 1 => sumI F vs j i + trm F vs j i
theorem zipM_at {f : Rat → Rat → Rat} {xs ys : List Rat} {j : Nat} (h : j < min xs.length ys.length) : (zipM f xs ys).getD j 0 = f (xs.getD j 0) (ys.getD j 0) := by
  unfold zipM
  rw [List.getD_eq_getElem?_getD, List.getElem?_map, List.getElem?_range h]
  rfl
theorem getD_mapQ2 {f : Rat → Rat} (l : List Rat) {j : Nat} (h : j < l.length) : (l.map f).getD j 0 = f (l.getD j 0) := by
  rw [List.getD_eq_getElem?_getD, List.getD_eq_getElem?_getD, List.getElem?_map, List.getElem?_eq_getElem h]
  rfl
theorem toQ_at (l : List Int) (j : Nat) : (toQ l).getD j 0 = ((l.getD j 0 : Int) : Rat) := getD_mapQ l j
theorem tabN_at (hl : ∀ r ∈ F, r.length = n) {j : Nat} (hj : j < n) : ∀ i, i ≤ F.length → (tabN F vs n i).getD j 0 = sumI F vs j i
  | 0, _ => by
    show (List.replicate n (0 : Rat)).getD j 0 = 0
    rw [List.getD_eq_getElem?_getD, List.getElem?_replicate]
    split <;> rfl
  | i + 1, h => by
    have hr := hl _ (getD_memL (l := F) (i := i) (by omega))
    have ht := tabN_len (vs := vs) hl i (by omega)
    show (zipM (· + ·) (tabN F vs n i) ((toQ (F.getD i [])).map _)).getD j 0 = sumI F vs j i + trm F vs j i
    rw [zipM_at (by rw [ht, List.length_map, toQ_len, hr]; omega), tabN_at hl hj i (by omega), getD_mapQ2 _ (by rw [toQ_len, hr]; exact hj), toQ_at]
    rfl
theorem sumQ_snoc : ∀ {L : List (List Int)} {K : List Nat} {l : List Int} {k : Nat} {x : Vc} {c : Nat}, L.length = K.length → sumQ (L ++ [l]) (K ++ [k]) x c = sumQ L K x c + vi l c / vi l k * x k
  | [], [], l, k, x, c, _ => by show vi l c / vi l k * x k + 0 = 0 + _; grind
  | m :: L, q :: K, l, k, x, c, h => by
    have := sumQ_snoc (L := L) (K := K) (l := l) (k := k) (x := x) (c := c) (by simpa using h)
    show vi m c / vi m q * x q + sumQ (L ++ [l]) (K ++ [k]) x c = (vi m c / vi m q * x q + sumQ L K x c) + _
    rw [this]; grind
  | [], _ :: _, _, _, _, _, h => by cases h
  | _ :: _, [], _, _, _, _, h => by cases h
theorem sumI_Q {qs : List Rat} (c : Nat) (hv : ∀ i, i < F.length → vs.getD i 0 = qs.getD ((pivL F).getD i 0).toNat 0) : ∀ i, i ≤ F.length → sumI F vs c i = sumQ (F.take i) (((pivL F).map Int.toNat).take i) (vq qs) c
  | 0, _ => by cases F <;> rfl
  | i + 1, h => by
    have hp : i < ((pivL F).map Int.toNat).length := by rw [List.length_map, pivL_len]; omega
    have e1 : F.take (i + 1) = F.take i ++ [F.getD i []] := take_snoc (by omega)
    have e2 : ((pivL F).map Int.toNat).take (i + 1) = ((pivL F).map Int.toNat).take i ++ [((pivL F).map Int.toNat).getD i 0] := take_snoc hp
    rw [e1, e2, sumQ_snoc (by rw [List.length_take, List.length_take]; omega), ← sumI_Q c hv i (by omega), getD_mapT]
    show sumI F vs c i + trm F vs c i = sumI F vs c i + _
    unfold trm
    rw [hv i (by omega)]
    show _ = sumI F vs c i + vi (F.getD i []) c / vi (F.getD i []) ((pivL F).getD i 0).toNat * vq qs ((pivL F).getD i 0).toNat
    unfold vi vq
    generalize qs.getD ((pivL F).getD i 0).toNat 0 = a
    generalize ((((F.getD i []).getD c 0 : Int)) : Rat) = b
    generalize ((((F.getD i []).getD ((pivL F).getD i 0).toNat 0 : Int)) : Rat) = d
    rw [Rat.div_def, Rat.div_def]
    grind
theorem isTab_iff {b : Bk} {qs : List Rat} (f : FO b.frame b.size V) (hl : qs.length = b.size) : isTab b qs = true ↔ V (vq qs) := by
  unfold isTab
  rw [decide_eq_true_iff, mem_sum f]
  have hT : (tabL b.frame ((pivL b.frame).map fun k => qs.getD k.toNat 0) b.size).length = b.size := tabN_len f.len _ (Nat.le_refl _)
  have hv : ∀ i, i < b.frame.length → ((pivL b.frame).map fun k => qs.getD k.toNat 0).getD i 0 = qs.getD ((pivL b.frame).getD i 0).toNat 0 := fun i hi => by
    rw [List.getD_eq_getElem?_getD, List.getElem?_map, List.getElem?_eq_getElem (by rw [pivL_len]; exact hi), List.getD_eq_getElem?_getD (l := pivL b.frame), List.getElem?_eq_getElem (by rw [pivL_len]; exact hi)]
    rfl
  have at' : ∀ c, c < b.size → (tabL b.frame ((pivL b.frame).map fun k => qs.getD k.toNat 0) b.size).getD c 0 = sumQ b.frame (gre V [] (List.range b.size)) (vq qs) c := fun c hc => by
    have := sumI_Q (qs := qs) c hv b.frame.length (Nat.le_refl _)
    rw [List.take_length, List.take_of_length_le (by rw [List.length_map, pivL_len]; exact Nat.le_refl _), piv_nat f] at this
    rw [← this]
    exact tabN_at f.len hc _ (Nat.le_refl _)
  have out : ∀ c, b.size ≤ c → sumQ b.frame (gre V [] (List.range b.size)) (vq qs) c = 0 := fun c hc => by
    obtain ⟨z, a, _, e⟩ := dg_sum (vq qs) f.dg
    rw [← e c]
    exact sp_at (fun r hr => by
      obtain ⟨l, hl, rfl⟩ := List.mem_map.mp hr
      exact vi_zero.mpr (getD_ge (by rw [f.len l hl]; exact hc))) a
  constructor
  · intro h c
    by_cases hc : c < b.size
    · rw [← at' c hc, h]; rfl
    · rw [out c (by omega)]
      show qs.getD c 0 = 0
      rw [List.getD_eq_getElem?_getD, List.getElem?_eq_none (by omega)]
      rfl
  · intro h
    apply List.ext_getElem?
    intro c
    by_cases hc : c < b.size
    · have := at' c hc
      rw [← h c] at this
      have this : (tabL b.frame ((pivL b.frame).map fun k => qs.getD k.toNat 0) b.size).getD c 0 = qs.getD c 0 := this
      rw [List.getD_eq_getElem?_getD, List.getD_eq_getElem?_getD, List.getElem?_eq_getElem (by omega), List.getElem?_eq_getElem (by omega)] at this
      rw [List.getElem?_eq_getElem (by omega), List.getElem?_eq_getElem (by omega)]
      exact congrArg some this
    · rw [List.getElem?_eq_none (by omega), List.getElem?_eq_none (by omega)]
/-! sizes -/
def prodN : List Nat → Nat
  | [] => 1
  | x :: l => x * prodN l
theorem prodN_dvd : ∀ {l : List Nat} {x : Nat}, x ∈ l → x ∣ prodN l
  | y :: l, x, h => by
    rcases List.mem_cons.mp h with e | e
    · subst e; exact Nat.dvd_mul_right _ _
    · exact Nat.dvd_trans (prodN_dvd e) (Nat.dvd_mul_left _ _)
theorem prodN_le {M : Nat} : ∀ {l : List Nat}, (∀ x ∈ l, x ≤ M) → prodN l ≤ M ^ l.length
  | [], _ => Nat.le_refl _
  | x :: l, h => by
    have := prodN_le fun y hy => h y (List.mem_cons_of_mem _ hy)
    show x * prodN l ≤ M ^ (l.length + 1)
    rw [Nat.pow_succ, Nat.mul_comm]
    exact Nat.mul_le_mul this (h x (List.mem_cons_self ..))
theorem prodN_ne : ∀ {l : List Nat}, (∀ x ∈ l, x ≠ 0) → prodN l ≠ 0
  | [], _ => by decide
  | x :: l, h => Nat.mul_ne_zero (h x (List.mem_cons_self ..)) (prodN_ne fun y hy => h y (List.mem_cons_of_mem _ hy))
def diaN (F : List (List Int)) : List Nat := (List.range F.length).map fun i => ((F.getD i []).getD ((pivL F).getD i 0).toNat 0).natAbs
theorem diaN_mem {i : Nat} (hi : i < F.length) : ((F.getD i []).getD ((pivL F).getD i 0).toNat 0).natAbs ∈ diaN F := List.mem_map.mpr ⟨i, List.mem_range.mpr hi, rfl⟩
theorem fo_pv (f : FO F n V) {i : Nat} (hi : i < F.length) : 0 ≤ (pivL F).getD i 0 ∧ (pivL F).getD i 0 < (n : Int) ∧ (F.getD i []).getD ((pivL F).getD i 0).toNat 0 ≠ 0 := by
  obtain ⟨h1, h2, _, _⟩ := fo_head f hi
  rw [(piv_eq f hi).1]
  exact ⟨Int.natCast_nonneg _, by omega, fun z => h2 (vi_zero.mpr z)⟩
theorem fo_pvok {b : Bk} (f : FO b.frame b.size V) (hn : b.size ≤ 1000) : PvOk b := by
  refine ⟨?_, fun r hr => by rw [f.len r hr]; exact hn, fun r hr => ?_⟩
  · have := gre_len V (List.range b.size) []
    rw [f.count]
    rw [List.length_range] at this
    omega
  · obtain ⟨i, hi, rfl⟩ := List.mem_iff_getElem.mp hr
    have := (piv_eq f hi).2
    rwa [List.getD_eq_getElem?_getD, List.getElem?_eq_getElem hi] at this
variable {M D B : Nat}
theorem fac_gd (f : FO F n V) (hv : ∀ v ∈ vs, Gd D B v) (hl : vs.length = F.length) {i : Nat} (hi : i < F.length) : Gd (D * prodN (diaN F)) (B * prodN (diaN F)) (vs.getD i 0 / (((F.getD i []).getD ((pivL F).getD i 0).toNat 0 : Int) : Rat)) := by
  have hne := (fo_pv f hi).2.2
  have h1 : Gd (prodN (diaN F)) (prodN (diaN F)) (((1 : Int) : Rat) / (((F.getD i []).getD ((pivL F).getD i 0).toNat 0 : Int) : Rat)) :=
    gd_div hne (Int.natAbs_dvd.mp (Int.natCast_dvd_natCast.mpr (prodN_dvd (diaN_mem hi)))) (by show 1 * _ ≤ _; rw [Nat.one_mul]; exact Nat.le_refl _)
  have h2 := gd_mul (hv _ (DL.getD_mem (d := (0 : Rat)) (i := i) (by omega))) h1
  have e : vs.getD i 0 * (((1 : Int) : Rat) / (((F.getD i []).getD ((pivL F).getD i 0).toNat 0 : Int) : Rat)) = vs.getD i 0 / (((F.getD i []).getD ((pivL F).getD i 0).toNat 0 : Int) : Rat) := by
    rw [Rat.div_def, Rat.div_def, show (((1 : Int) : Rat)) = 1 from rfl]
    grind
  rwa [e] at h2
theorem int_gd {x : Int} (h : x.natAbs ≤ M) : Gd 1 M (x : Rat) := ⟨x, by rw [show (((1 : Nat) : Int) : Rat) = 1 from rfl]; grind, h⟩
theorem trm_gd (f : FO F n V) (hM : ∀ r ∈ F, ∀ j, (r.getD j 0).natAbs ≤ M) (hv : ∀ v ∈ vs, Gd D B v) (hl : vs.length = F.length) {i : Nat} (hi : i < F.length) (j : Nat) : Gd (D * prodN (diaN F)) (M * (B * prodN (diaN F))) (trm F vs j i) := by
  have := gd_mul (int_gd (hM _ (getD_memL hi) j)) (fac_gd f hv hl hi)
  rwa [Nat.one_mul] at this
theorem sumI_gd (f : FO F n V) (hM : ∀ r ∈ F, ∀ j, (r.getD j 0).natAbs ≤ M) (hv : ∀ v ∈ vs, Gd D B v) (hl : vs.length = F.length) (j : Nat) : ∀ i, i ≤ F.length → Gd (D * prodN (diaN F)) (i * (M * (B * prodN (diaN F)))) (sumI F vs j i)
  | 0, _ => gd_zero
  | i + 1, h => gd_mono (gd_add (sumI_gd f hM hv hl j i (by omega)) (trm_gd f hM hv hl (by omega) j)) (by rw [Nat.add_mul, Nat.one_mul]; exact Nat.le_refl _)
/-- how large the numbers may be -/
structure TzOk (F : List (List Int)) (M D B : Nat) : Prop where
  d0 : D ≠ 0
  m : ∀ r ∈ F, ∀ j, (r.getD j 0).natAbs ≤ M
  l : F.length ≤ 16
  mm : M < 2 ^ 900
  h1 : D * M ^ F.length < 2 ^ 1900
  h2 : B * M ^ F.length < 2 ^ 1900
  h3 : 16 * (M * (B * M ^ F.length)) < 2 ^ 2900
theorem dia_ok (f : FO F n V) (hM : ∀ r ∈ F, ∀ j, (r.getD j 0).natAbs ≤ M) : prodN (diaN F) ≤ M ^ F.length ∧ prodN (diaN F) ≠ 0 := by
  have hl : (diaN F).length = F.length := by unfold diaN; rw [List.length_map, List.length_range]
  constructor
  · rw [← hl]
    refine prodN_le fun x hx => ?_
    obtain ⟨i, hi, rfl⟩ := List.mem_map.mp hx
    exact hM _ (getD_memL (List.mem_range.mp hi)) _
  · refine prodN_ne fun x hx => ?_
    obtain ⟨i, hi, rfl⟩ := List.mem_map.mp hx
    have := (fo_pv f (List.mem_range.mp hi)).2.2
    omega
theorem tb_of {b : Bk} (f : FO b.frame b.size V) (hn : b.size ≤ 1000) (z : TzOk b.frame M D B) (hv : ∀ v ∈ vs, Gd D B v) (hl : vs.length = b.frame.length) : TbOk b vs := by
  obtain ⟨p1, p2⟩ := dia_ok f z.m
  have e0 : D * prodN (diaN b.frame) ≠ 0 := Nat.mul_ne_zero z.d0 p2
  have e1 : D * prodN (diaN b.frame) < 2 ^ 1900 := Nat.lt_of_le_of_lt (Nat.mul_le_mul_left _ p1) z.h1
  have e2 : B * prodN (diaN b.frame) < 2 ^ 1900 := Nat.lt_of_le_of_lt (Nat.mul_le_mul_left _ p1) z.h2
  have e3 : 16 * (M * (B * prodN (diaN b.frame))) < 2 ^ 2900 := Nat.lt_of_le_of_lt (Nat.mul_le_mul_left _ (Nat.mul_le_mul_left _ (Nat.mul_le_mul_left _ p1))) z.h3
  have up : ∀ {x k m : Nat}, x < 2 ^ k → k ≤ m → x < 2 ^ m := fun {x k m} h q => Nat.lt_of_lt_of_le h (Nat.pow_le_pow_right (by decide) q)
  have pos := Nat.pos_of_ne_zero p2
  have d1 : D ≤ D * prodN (diaN b.frame) := Nat.le_mul_of_pos_right _ pos
  have b1 : B ≤ B * prodN (diaN b.frame) := Nat.le_mul_of_pos_right _ pos
  refine ⟨fo_pvok f hn, hn, f.len, fun i hi => fo_pv f hi, fun r hr x hx => ?_, fun v h => ?_, fun i hi => ?_, fun i hi x hx => ?_, fun i hi q hq => ?_⟩
  · obtain ⟨j, rfl⟩ := mem_getD0 hx
    exact sz_int (Nat.le_of_lt (Nat.lt_of_lt_of_le (lg_b (z.m r hr j) z.mm (by decide)) (by decide)))
  · exact gd_sz (hv v h) z.d0 (up (Nat.lt_of_le_of_lt d1 e1) (by decide)) (up (Nat.lt_of_le_of_lt b1 e2) (by decide))
  · exact gd_sz (fac_gd f hv hl hi) e0 (up e1 (by decide)) (up e2 (by decide))
  · obtain ⟨j, rfl⟩ := mem_getD0 hx
    exact gd_sz (trm_gd f z.m hv hl hi j) e0 (up e1 (by decide)) (up (show M * (B * prodN (diaN b.frame)) < 2 ^ 2900 by omega) (by decide))
  · obtain ⟨j, hj, rfl⟩ := List.mem_iff_getElem.mp hq
    have ht := tabN_len (vs := vs) f.len i hi
    have e := tabN_at (vs := vs) f.len (j := j) (by omega) i hi
    rw [List.getD_eq_getElem?_getD, List.getElem?_eq_getElem hj] at e
    have e : (tabN b.frame vs b.size i)[j] = sumI b.frame vs j i := e
    rw [e]
    have hil : i ≤ 16 := Nat.le_trans hi z.l
    exact gd_sz (gd_mono (sumI_gd f z.m hv hl j i hi) (Nat.mul_le_mul_right _ hil)) e0 (up e1 (by decide)) (up e3 (by decide))
end
end DL

set_option Elab.async false
set_option linter.all false
set_option maxRecDepth 100000
set_option maxHeartbeats 4000000
/-! the law's rank of rows of great numbers; what it tells of the span -/
namespace DL
open PySem PySem.Spec PyProof.Rows L2
section
variable {rows : List (List Int)} {n i M : Nat} {s : Nat × List (List Int)} {K : List Nat} {L : List Vc} {S O : List (List Int)}
theorem lk_all (hl : ∀ r ∈ rows, r.length = n) : (lk rows n).1 = (gre (Sp (rows.map vi)) [] (List.range n)).length := by
  obtain ⟨K, L, S, O, C⟩ := lk_lo hl n
  rw [C.k, C.ci.gr]
structure R5 (n : Nat) (rows : List (List Int)) : Prop where
  n6 : n ≤ 6
  len : ∀ r ∈ rows, r.length = n
  m : rows.length ≤ 12
  sm : ∀ r ∈ rows, ∀ j, (r.getD j 0).natAbs ≤ 2 ^ 78
def Sm5 (n : Nat) (r : List Int) : Prop := r.length = n ∧ ∀ j, Lg (r.getD j 0) < 490
theorem lmade_lg5 {n c j : Nat} {row lead : List Int} (h : Sm5 n row) (k : Sm5 n lead) : Lg ((lmade row lead c).getD j 0) < 989 := by
  rw [lmade_at h.1 k.1]
  have m1 := lg_mul (row.getD j 0) (lead.getD c 0)
  have m2 := lg_mul (lead.getD j 0) (row.getD c 0)
  have := lg_sub (row.getD j 0 * lead.getD c 0) (lead.getD j 0 * row.getD c 0)
  have := h.2 j
  have := h.2 c
  have := k.2 j
  have := k.2 c
  omega
theorem rk_cl5 {R : List (List Int)} {c j m : Nat} (h : ∀ r ∈ R, Sm5 m r) (hj : j < (spl R c).2.length) (hn : (!(spl R c).1.isNone) = true) : Sm5 m ((spl R c).2.getD j []) ∧ Sm5 m ((spl R c).1.getD []) :=
  ⟨h _ (spl_in.1 _ (getD_memL hj)), h _ (spl_in.2 _ (isNone_f (nn_t hn)))⟩
end
/-! a greater span with no more independent cells is no greater -/
/-! the whole row of a list -/
theorem topq_bG {L M B : Nat} {q : Rat} (hM : M ≠ 0) (hL : L ∣ M) (hd : q.den ∣ L) (h : Gd M B q) : (topq L q).natAbs ≤ B := by
  obtain ⟨t, ht⟩ := hL
  obtain ⟨z, a, b⟩ := h
  have e := topq_is hd
  have key : topq L q * (t : Int) = z := by
    have g : ((topq L q * (t : Int) : Int) : Rat) = (z : Rat) := by
      rw [Rat.intCast_mul, e, ← a, ht, Int.natCast_mul, Rat.intCast_mul, Rat.mul_assoc]
    exact_mod_cast g
  have ht0 : t ≠ 0 := fun z => hM (by rw [ht, z, Nat.mul_zero])
  have h2 : z.natAbs = (topq L q).natAbs * t := by rw [← key, Int.natAbs_mul, Int.natAbs_natCast]
  have := Nat.le_mul_of_pos_right (topq L q).natAbs (Nat.pos_of_ne_zero ht0)
  omega
theorem lcm_min {M B : Nat} {qs : List Rat} (h : ∀ q ∈ qs, Gd M B q) : lcmD qs ∣ M := lcmF_min qs 1 (Nat.one_dvd _) fun r hr => gd_den (h r hr)
/-- numbers over a common bottom -/
structure Nums (D B : Nat) (qs : List Rat) : Prop where
  d : D ≠ 0
  g : ∀ q ∈ qs, Gd D B q
theorem Nums.lcm {D B : Nat} {qs : List Rat} (h : Nums D B qs) : lcmD qs ≤ D := Nat.le_of_dvd (Nat.pos_of_ne_zero h.d) (lcm_min h.g)
theorem Nums.den {D B n : Nat} {qs : List Rat} (h : Nums D B qs) (hD : D < 2 ^ n) (hn : 0 < n) {q : Rat} (hq : q ∈ qs) : Lg ((q.den : Nat) : Int) < n := lg_b (B := D) (by rw [Int.natAbs_natCast]; exact Nat.le_of_dvd (Nat.pos_of_ne_zero h.d) (gd_den (h.g q hq))) hD hn
theorem Nums.tops {D B : Nat} {qs : List Rat} (h : Nums D B qs) (j : Nat) : ((tops qs).getD j 0).natAbs ≤ B := by
  by_cases hj : j < qs.length
  · rw [tops_at hj]
    have hm : qs.getD j 0 ∈ qs := DL.getD_mem hj
    exact topq_bG h.d (lcm_min h.g) (lcmD_dvd hm) (h.g _ hm)
  · rw [getD_ge (by rw [tops_len]; omega)]
    exact Nat.zero_le _
end DL

set_option Elab.async false
set_option linter.all false
set_option maxRecDepth 100000
set_option maxHeartbeats 4000000
/-! the law's test of the span -/
namespace DL
open PySem PySem.Spec PyProof.Rows L2
structure SpOk (names : List Str) (rows : List (List Int)) (qs : List Rat) : Prop where
  d : Dw names.length 9 rows
  n6 : names.length ≤ 6
  m : rows.length ≤ 11
  ql : qs.length = names.length
  nums : ∃ D, 0 < D ∧ D < 2 ^ 76 ∧ Nums D (2 ^ 78) qs
section
variable {names : List Str} {rows : List (List Int)} {qs : List Rat} {D : Nat}
theorem Nums.gcd {B i : Nat} {a : Int} (h : Nums D B qs) (hD : D < 2 ^ 76) (hi : i < qs.length) : Lg ((Int.gcd a ((qs.getD i 0).den : Int) : Nat) : Int) < 9000 := by
  have h1 := lg_dvd (den_neI (qs.getD i 0)) (Int.gcd_dvd_right a ((qs.getD i 0).den : Int))
  have h2 := h.den hD (by decide) (DL.getD_mem (d := (0 : Rat)) hi)
  omega
end
end DL

set_option Elab.async false
set_option linter.all false
set_option maxRecDepth 100000
set_option maxHeartbeats 4000000
/-! what the law asks of chances and rests -/
namespace DL
open PySem PySem.Spec PyProof.Rows L2
/-! the law's own chance -/
section
variable {ts ws : List Rat} {i : Nat} {t w : Rat}
/-- the numbers are rounded -/
structure Rnd (ts ws : List Rat) : Prop where
  len : ws.length = ts.length
  w : ∀ i, i < ts.length → (ws.getD i 0).den = 1
  lo : ∀ i, i < ts.length → (((ts.getD i 0).floor : Int) : Rat) ≤ ws.getD i 0
  hi : ∀ i, i < ts.length → ws.getD i 0 ≤ (((ts.getD i 0).ceil : Int) : Rat)
/-! the chance is the least -/
end
end DL

set_option Elab.async false
set_option linter.all false
set_option maxRecDepth 100000
set_option maxHeartbeats 4000000
/-! what the program is asked, what it must tell -/
namespace DL
open PySem PySem.Spec PyProof.Rows L2
section
variable {b : Bk} {ts ws : List Rat} {i : Nat}
end
/-! the answers -/
/-- what the law's question asks of its lists -/
structure AkOk (names : List Str) (rows : List (List Int)) (ts ws : List Rat) : Prop where
  d : Dw names.length 9 rows
  n6 : names.length ≤ 6
  m : rows.length ≤ 11
  l1 : ts.length ≤ 20
  l2 : ws.length ≤ 20
  nums : ∃ D, 0 < D ∧ D < 2 ^ 76 ∧ Nums D (2 ^ 77) ts ∧ Nums D (2 ^ 77) ws
section
variable {names : List Str} {rows : List (List Int)} {ts ws : List Rat}
end
end DL

set_option Elab.async false
set_option linter.all false
set_option maxRecDepth 100000
set_option maxHeartbeats 4000000
/-! drawn rows, sums of them; how large chances are -/
namespace DL
open PySem PySem.Spec PyProof.Rows L2
theorem rg_lc {α β : Type} {n : Nat} {f : Nat → α} {R : α → β} : List.map (fun i : Nat => R (f i)) (List.filter (fun _ => true) (List.range ((n : Nat) : Int).toNat)) = List.map R ((List.range n).map f) := by
  rw [List.filter_eq_self.mpr (fun _ _ => rfl), Int.toNat_natCast, List.map_map]
  rfl
theorem lg_sm {x : Int} (h : x.natAbs ≤ 1000) : Lg x < 4000 := Nat.lt_trans (lg_b (n := 10) h (by decide) (by decide)) (by decide)
/-! rows -/
def rowI (n k : Nat) : List Int := (List.range n).map fun j : Nat => (if decide ((j : Int) = (k : Int)) = true then 1 else 0)
section
variable {n many : Nat} {ds hd : List Int}
end
/-! sums of multiples of the rows -/
/-! sizes of chances -/
section
variable {ts ws : List Rat} {t w : Rat} {n : Nat}
end
end DL

set_option Elab.async false
set_option linter.all false
set_option maxRecDepth 100000
set_option maxHeartbeats 4000000
/-! one frame for one space; the other side -/
namespace DL
open PySem PySem.Spec PyProof.Rows L2
theorem prim_eq {r r' : List Int} {a : Rat} (hl : r'.length = r.length) (h : ∀ j, vi r' j = a * vi r j) (g : gl r = 1) (g' : gl r' = 1) (ha : 0 < a) : r' = r := by
  have den0 : ((a.den : Int) : Rat) ≠ 0 := by
    have := a.den_nz
    exact_mod_cast this
  have e2 : a * ((a.den : Int) : Rat) = (a.num : Rat) := by
    have e := q_eq a
    generalize (a.num : Rat) = A at e ⊢
    generalize ((a.den : Int) : Rat) = D at e den0 ⊢
    grind
  have e : ∀ j, (a.den : Int) * r'.getD j 0 = a.num * r.getD j 0 := fun j => by
    have h1 := h j
    unfold vi at h1
    have : (((a.den : Int) * r'.getD j 0 : Int) : Rat) = ((a.num * r.getD j 0 : Int) : Rat) := by
      rw [Rat.intCast_mul, Rat.intCast_mul, h1, ← e2]
      grind
    exact_mod_cast this
  have m : (r'.map fun x => (a.den : Int) * x) = r.map fun x => a.num * x := by
    apply List.ext_getElem?
    intro j
    rw [List.getElem?_map, List.getElem?_map]
    have := e j
    rw [List.getD_eq_getElem?_getD, List.getD_eq_getElem?_getD] at this
    by_cases hj : j < r.length
    · rw [List.getElem?_eq_getElem hj, List.getElem?_eq_getElem (by omega)] at this ⊢
      exact congrArg some this
    · rw [List.getElem?_eq_none (by omega), List.getElem?_eq_none (by omega)]
      rfl
  have g1 := congrArg gl m
  rw [gl_mulI, gl_mulI, g, g', Nat.mul_one, Nat.mul_one] at g1
  have g2 : a.den = a.num.natAbs := by rw [← g1]; exact (Int.natAbs_natCast _).symm
  have red := a.reduced
  have d1 : a.den = 1 := by
    rw [← g2] at red
    exact (Nat.coprime_self _).mp red
  have n0 : 0 < a.num := by
    have dp : (0 : Rat) < ((a.den : Int) : Rat) := by exact_mod_cast a.den_pos
    have := Rat.mul_pos ha dp
    rw [e2] at this
    exact_mod_cast this
  have n1 : a.num = 1 := by omega
  apply List.ext_getElem?
  intro j
  have := e j
  rw [d1, n1, List.getD_eq_getElem?_getD, List.getD_eq_getElem?_getD] at this
  by_cases hj : j < r.length
  · rw [List.getElem?_eq_getElem hj, List.getElem?_eq_getElem (by omega)] at this ⊢
    have this : ((1 : Nat) : Int) * r'[j] = 1 * r[j] := this
    rw [show r'[j] = r[j] by omega]
  · rw [List.getElem?_eq_none (by omega), List.getElem?_eq_none (by omega)]
section
variable {F F' : List (List Int)} {n : Nat} {V : Vc → Prop}
theorem FO.mem (f : FO F n V) {i : Nat} (hi : i < F.length) : V (vi (F.getD i [])) := (f.span _).mp (sp_mem (List.mem_map.mpr ⟨_, getD_memL hi, rfl⟩))
theorem FO.sub (f : FO F n V) {x y : Vc} (h : V x) (k : V y) (a : Rat) : V fun j => x j - a * y j := (f.span _).mp (sp_sub ((f.span _).mpr h) (sp_mul a ((f.span _).mpr k)))
theorem FO.out (f : FO F n V) {x : Vc} (h : V x) {j : Nat} (hj : n ≤ j) : x j = 0 := sp_at (fun r hr => by
  obtain ⟨l, hl, rfl⟩ := List.mem_map.mp hr
  exact vi_zero.mpr (getD_ge (by rw [f.len l hl]; exact hj))) ((f.span x).mpr h)
/-- 0 at the entries, 0 everywhere -/
theorem FO.zero (f : FO F n V) {x : Vc} (h : V x) (hz : ∀ k ∈ gre V [] (List.range n), x k = 0) : ∀ j, x j = 0 := fun j => by
  by_cases hj : j < n
  · exact gre_zero h (List.range n) [] (fun d hd => (List.not_mem_nil hd).elim) hz j (List.mem_range.mpr hj)
  · exact f.out h (by omega)
theorem fo_lead (f : FO F n V) {i : Nat} (hi : i < F.length) : gl (F.getD i []) = 1 ∧ 0 < (F.getD i []).getD ((gre V [] (List.range n)).getD i 0) 0 := by
  obtain ⟨k1, k2, k3, k4⟩ := fo_head f hi
  have hl := f.len _ (getD_memL hi)
  have fz := fnz_at (ns := F.getD i []) (i := (gre V [] (List.range n)).getD i 0) (by omega) (fun j hj => vi_zero.mp (k4 j hj)) fun z => k2 (vi_zero.mpr z)
  rcases f.lw _ (getD_memL hi) with ⟨g, z, hz, hp⟩ | hn
  · rw [fz] at hz
    cases hz
    exact ⟨g, hp⟩
  · rw [fz] at hn
    cases hn
theorem fo_unique (f : FO F n V) (f' : FO F' n V) : F' = F := by
  have l1 := f.count
  have l2 := f'.count
  have key : ∀ i, i < F.length → F'.getD i [] = F.getD i [] := fun i hi => by
    have hi' : i < F'.length := by omega
    obtain ⟨k1, k2, k3, k4⟩ := fo_head f hi
    obtain ⟨m1, m2, m3, m4⟩ := fo_head f' hi'
    obtain ⟨g, p⟩ := fo_lead f hi
    obtain ⟨g', p'⟩ := fo_lead f' hi'
    generalize hk : (gre V [] (List.range n)).getD i 0 = k at *
    have all := f.zero (f.sub (f'.mem hi') (f.mem hi) (vi (F'.getD i []) k / vi (F.getD i []) k)) fun d hd => by
      show vi (F'.getD i []) d - vi (F'.getD i []) k / vi (F.getD i []) k * vi (F.getD i []) d = 0
      by_cases e : d = k
      · rw [e]; grind
      · rw [m3 d hd e, k3 d hd e]; grind
    refine prim_eq (a := vi (F'.getD i []) k / vi (F.getD i []) k) (by rw [f.len _ (getD_memL hi), f'.len _ (getD_memL hi')]) (fun j => ?_) g g' ?_
    · have := all j
      have this : vi (F'.getD i []) j - vi (F'.getD i []) k / vi (F.getD i []) k * vi (F.getD i []) j = 0 := this
      grind
    · have a : (0 : Rat) < vi (F'.getD i []) k := by unfold vi; exact_mod_cast p'
      have b : (0 : Rat) < vi (F.getD i []) k := by unfold vi; exact_mod_cast p
      rw [Rat.div_def]
      exact Rat.mul_pos a (Rat.inv_pos.mpr b)
  apply List.ext_getElem?
  intro i
  by_cases hi : i < F.length
  · have := key i hi
    rw [List.getD_eq_getElem?_getD, List.getD_eq_getElem?_getD, List.getElem?_eq_getElem hi, List.getElem?_eq_getElem (by omega)] at this
    rw [List.getElem?_eq_getElem hi, List.getElem?_eq_getElem (by omega)]
    exact congrArg some this
  · rw [List.getElem?_eq_none (by omega), List.getElem?_eq_none (by omega)]
end
/-! sums of products -/
def dv : Nat → Vc → Vc → Rat
  | 0, _, _ => 0
  | k + 1, x, y => dv k x y + x k * y k
theorem dv_comm : ∀ (n : Nat) (x y : Vc), dv n x y = dv n y x
  | 0, _, _ => rfl
  | n + 1, x, y => by
    show dv n x y + x n * y n = dv n y x + y n * x n
    rw [dv_comm n x y]; grind
theorem dv_lin (a : Rat) (x y z : Vc) : ∀ n : Nat, dv n x (fun j => y j + a * z j) = dv n x y + a * dv n x z
  | 0 => by show (0 : Rat) = 0 + a * 0; grind
  | n + 1 => by
    show dv n x (fun j => y j + a * z j) + x n * (y n + a * z n) = dv n x y + x n * y n + a * (dv n x z + x n * z n)
    rw [dv_lin a x y z n]; grind
theorem dv_congr {x y z : Vc} : ∀ {n : Nat}, (∀ j, j < n → y j = z j) → dv n x y = dv n x z
  | 0, _ => rfl
  | n + 1, h => by
    show dv n x y + x n * y n = dv n x z + x n * z n
    rw [dv_congr fun j hj => h j (by omega), h n (Nat.lt_succ_self n)]
theorem dv_zero {x y : Vc} : ∀ {n : Nat}, (∀ j, j < n → x j * y j = 0) → dv n x y = 0
  | 0, _ => rfl
  | n + 1, h => by
    show dv n x y + x n * y n = 0
    rw [dv_zero fun j hj => h j (by omega), h n (Nat.lt_succ_self n)]; grind
theorem dv_one {x y : Vc} {e : Nat} : ∀ {n : Nat}, e < n → (∀ j, j < n → j ≠ e → x j * y j = 0) → dv n x y = x e * y e
  | n + 1, h, k => by
    show dv n x y + x n * y n = x e * y e
    by_cases he : e = n
    · subst he
      rw [dv_zero fun j hj => k j (by omega) (by omega)]; grind
    · rw [dv_one (e := e) (n := n) (by omega) fun j hj => k j (by omega), k n (Nat.lt_succ_self n) (fun z => he z.symm)]; grind
theorem vq_set {l : List Rat} {e : Nat} {v : Rat} (he : e < l.length) (j : Nat) : vq (l.set e v) j = if j = e then v else vq l j := by
  unfold vq
  rw [List.getD_eq_getElem?_getD, List.getElem?_set]
  by_cases h : e = j
  · subst h
    rw [if_pos rfl, if_pos he, if_pos rfl]; rfl
  · rw [if_neg h, if_neg (fun z => h z.symm), List.getD_eq_getElem?_getD]
theorem dv_set {l : List Rat} {e : Nat} {v : Rat} (he : e < l.length) (h0 : vq l e = 0) (y : Vc) : ∀ n, dv n (vq (l.set e v)) y = dv n (vq l) y + (if e < n then v * y e else 0)
  | 0 => by
    show (0 : Rat) = 0 + _
    rw [if_neg (Nat.not_lt_zero e)]; grind
  | n + 1 => by
    show dv n (vq (l.set e v)) y + vq (l.set e v) n * y n = dv n (vq l) y + vq l n * y n + _
    rw [dv_set he h0 y n, vq_set he]
    by_cases h : n = e
    · subst h
      rw [if_pos rfl, if_neg (Nat.lt_irrefl n), if_pos (Nat.lt_succ_self n), h0]; grind
    · rw [if_neg h]
      by_cases h2 : e < n
      · rw [if_pos h2, if_pos (by omega)]; grind
      · rw [if_neg h2, if_neg (by omega)]; grind
theorem unit_at {n c : Nat} (hc : c < n) (j : Nat) : vq (toQ (unitR n c)) j = if j = c then 1 else 0 := by
  show vq ((unitR n c).map fun k : Int => (k : Rat)) j = _
  rw [vq_int]
  unfold vi unitR
  rw [List.getD_eq_getElem?_getD, List.getElem?_set]
  by_cases h : c = j
  · subst h
    rw [if_pos rfl, if_pos (by simpa using hc), if_pos rfl]; rfl
  · rw [if_neg h, if_neg (fun z => h z.symm), List.getElem?_replicate]
    split <;> rfl
theorem dv_unit {n c : Nat} (hc : c < n) (y : Vc) : dv n (vq (toQ (unitR n c))) y = y c := by
  rw [dv_one (e := c) hc fun j _ h => by rw [unit_at hc, if_neg h]; grind, unit_at hc, if_pos rfl]
  grind
/-! price rows -/
def prN (F : List (List Int)) (n c : Nat) : Nat → List Rat
  | 0 => toQ (unitR n c)
  | i + 1 => (prN F n c i).set ((pivL F).getD i 0).toNat (((-((F.getD i []).getD c 0) : Int) : Rat) / (((F.getD i []).getD ((pivL F).getD i 0).toNat 0 : Int) : Rat))
abbrev prL (F : List (List Int)) (n c : Nat) : List Rat := prN F n c F.length
theorem prN_len (F : List (List Int)) (n c : Nat) : ∀ i, (prN F n c i).length = n
  | 0 => by show (toQ (unitR n c)).length = n; rw [toQ_len]; unfold unitR; simp
  | i + 1 => by show ((prN F n c i).set _ _).length = n; rw [List.length_set]; exact prN_len F n c i
section
variable {F : List (List Int)} {n c : Nat} {V : Vc → Prop}
theorem piv_at (f : FO F n V) {i : Nat} (hi : i < F.length) : ((pivL F).getD i 0).toNat = (gre V [] (List.range n)).getD i 0 := by
  rw [(piv_eq f hi).1, Int.toNat_natCast]
theorem gre_nd (V : Vc → Prop) (n : Nat) : (gre V [] (List.range n)).Nodup := List.Nodup.sublist (gre_sublist V (List.range n) []) List.nodup_range
theorem nd_inj {l : List Nat} (h : l.Nodup) {i j : Nat} (hi : i < l.length) (hj : j < l.length) (e : l[i] = l[j]) : i = j := by
  have p := List.pairwise_iff_getElem.mp h
  rcases Nat.lt_trichotomy i j with q | q | q
  · exact (p i j hi hj q e).elim
  · exact q
  · exact (p j i hj hi q e.symm).elim
theorem gre_ne (f : FO F n V) {i j : Nat} (hi : i < F.length) (hj : j < F.length) (h : i ≠ j) : (gre V [] (List.range n)).getD i 0 ≠ (gre V [] (List.range n)).getD j 0 := by
  have hl := f.count
  rw [List.getD_eq_getElem?_getD, List.getD_eq_getElem?_getD, List.getElem?_eq_getElem (by omega), List.getElem?_eq_getElem (by omega)]
  exact fun e => h (nd_inj (gre_nd V n) _ _ e)
theorem gre_mem (f : FO F n V) {i : Nat} (hi : i < F.length) : (gre V [] (List.range n)).getD i 0 ∈ gre V [] (List.range n) := by
  have hl := f.count
  rw [List.getD_eq_getElem?_getD, List.getElem?_eq_getElem (by omega)]
  exact List.getElem_mem _
theorem gre_ix (f : FO F n V) {k : Nat} (hk : k ∈ gre V [] (List.range n)) : ∃ i, i < F.length ∧ (gre V [] (List.range n)).getD i 0 = k := by
  have hl := f.count
  obtain ⟨i, hi, rfl⟩ := List.mem_iff_getElem.mp hk
  exact ⟨i, by omega, by rw [List.getD_eq_getElem?_getD, List.getElem?_eq_getElem hi]; rfl⟩
theorem prN_off (f : FO F n V) (hc : c < n) {d : Nat} : ∀ i, i ≤ F.length → (∀ j, j < i → d ≠ (gre V [] (List.range n)).getD j 0) → vq (prN F n c i) d = if d = c then 1 else 0
  | 0, _, _ => unit_at hc d
  | i + 1, hi, h => by
    show vq ((prN F n c i).set _ _) d = _
    rw [piv_at f (by omega), vq_set (by rw [prN_len]; exact (fo_head f (by omega)).1), if_neg (h i (Nat.lt_succ_self i))]
    exact prN_off f hc i (by omega) fun j hj => h j (by omega)
theorem pr_at (f : FO F n V) (hc : c < n) {d : Nat} (hd : d ∉ gre V [] (List.range n)) : vq (prL F n c) d = if d = c then 1 else 0 :=
  prN_off f hc _ (Nat.le_refl _) fun j hj e => hd (by rw [e]; exact gre_mem f hj)
theorem prN_dot (f : FO F n V) (hc : c < n) (hcK : c ∉ gre V [] (List.range n)) (y : Vc) : ∀ i, i ≤ F.length → dv n (vq (prN F n c i)) y = y c - sumQ (F.take i) ((gre V [] (List.range n)).take i) y c
  | 0, _ => by
    show dv n (vq (toQ (unitR n c))) y = y c - sumQ [] [] y c
    rw [dv_unit hc]
    show y c = y c - 0
    grind
  | i + 1, hi => by
    have hl := f.count
    have ih := prN_dot f hc hcK y i (by omega)
    obtain ⟨k1, k2, k3, k4⟩ := fo_head f (show i < F.length by omega)
    have z : vq (prN F n c i) ((gre V [] (List.range n)).getD i 0) = 0 := by
      rw [prN_off f hc i (by omega) fun j hj => gre_ne f (by omega) (by omega) (by omega)]
      exact if_neg fun e : (gre V [] (List.range n)).getD i 0 = c => hcK (by rw [← e]; exact gre_mem f (by omega))
    show dv n (vq ((prN F n c i).set _ _)) y = _
    rw [piv_at f (by omega), dv_set (by rw [prN_len]; exact k1) z, if_pos k1, ih, take_snoc (d := []) (show i < F.length by omega), take_snoc (d := 0) (show i < (gre V [] (List.range n)).length by omega), sumQ_snoc (by rw [List.length_take, List.length_take]; omega)]
    show _ + ((-((F.getD i []).getD c 0) : Int) : Rat) / vi (F.getD i []) ((gre V [] (List.range n)).getD i 0) * y _ = _
    rw [Rat.intCast_neg]
    show _ + -(vi (F.getD i []) c) / vi (F.getD i []) ((gre V [] (List.range n)).getD i 0) * y _ = _
    generalize vi (F.getD i []) c = A
    generalize vi (F.getD i []) ((gre V [] (List.range n)).getD i 0) = B at k2 ⊢
    generalize y ((gre V [] (List.range n)).getD i 0) = C
    grind
theorem pr_dot (f : FO F n V) (hc : c < n) (hcK : c ∉ gre V [] (List.range n)) (y : Vc) : dv n (vq (prL F n c)) y = y c - sumQ F (gre V [] (List.range n)) y c := by
  have := prN_dot f hc hcK y _ (Nat.le_refl _)
  have hl : (gre V [] (List.range n)).take F.length = gre V [] (List.range n) := List.take_of_length_le (by rw [f.count]; exact Nat.le_refl _)
  rwa [List.take_length, hl] at this
end
/-! the other side -/
def orth (n : Nat) (V : Vc → Prop) (y : Vc) : Prop := (∀ j, n ≤ j → y j = 0) ∧ ∀ x, V x → dv n y x = 0
def nonE (F : List (List Int)) (n : Nat) : List Nat := (List.range n).filter fun c => !decide ((c : Int) ∈ pivL F)
def prs (F : List (List Int)) (n : Nat) : List (List Rat) := (nonE F n).map (prL F n)
section
variable {F G : List (List Int)} {n c : Nat} {V : Vc → Prop}
theorem piv_in (f : FO F n V) : ((c : Int) ∈ pivL F) ↔ c ∈ gre V [] (List.range n) := by
  rw [← piv_nat f, List.mem_map]
  constructor
  · exact fun h => ⟨_, h, Int.toNat_natCast c⟩
  · rintro ⟨k, hk, e⟩
    obtain ⟨i, hi, rfl⟩ := List.mem_iff_getElem.mp hk
    have := (fo_pv f (i := i) (by rw [pivL_len] at hi; exact hi)).1
    rw [List.getD_eq_getElem?_getD, List.getElem?_eq_getElem hi] at this
    have this : 0 ≤ (pivL F)[i] := this
    rw [show (c : Int) = (pivL F)[i] by omega]
    exact hk
theorem nonE_mem (f : FO F n V) : c ∈ nonE F n ↔ c < n ∧ c ∉ gre V [] (List.range n) := by
  unfold nonE
  rw [List.mem_filter, List.mem_range, Bool.not_eq_true', decide_eq_false_iff_not, piv_in f]
theorem pr_orth (f : FO F n V) (hc : c ∈ nonE F n) : orth n V (vq (prL F n c)) := by
  obtain ⟨h1, h2⟩ := (nonE_mem f).mp hc
  refine ⟨fun j hj => ?_, fun x hx => ?_⟩
  · unfold vq
    rw [List.getD_eq_getElem?_getD, List.getElem?_eq_none (by rw [prN_len]; exact hj)]; rfl
  · rw [pr_dot f h1 h2, ← (mem_sum f x).mp hx c]; grind
theorem orth_lin {x y : Vc} (h : orth n V x) (k : orth n V y) (a : Rat) : orth n V fun j => y j + a * x j := ⟨fun j hj => by
  show y j + a * x j = 0
  rw [h.1 j hj, k.1 j hj]; grind, fun z hz => by
  rw [dv_comm, dv_lin, dv_comm n z y, dv_comm n z x, h.2 z hz, k.2 z hz]; grind⟩
theorem prs_orth (f : FO F n V) {y : Vc} (h : Sp ((prs F n).map vq) y) : orth n V y := by
  refine sp_ind (P := orth n V) ⟨fun _ _ => rfl, fun x _ => dv_zero fun j _ => by grind⟩ (fun r hr a y hy => ?_) (fun x y e hx => by rw [← funext e]; exact hx) h
  obtain ⟨q, hq, rfl⟩ := List.mem_map.mp hr
  obtain ⟨c, hc, rfl⟩ := List.mem_map.mp hq
  exact orth_lin (pr_orth f hc) hy a
/-- the price rows stand at the cells that are no entries -/
theorem prs_dg (f : FO F n V) : ∀ (C : List Nat), (∀ c ∈ C, c ∈ nonE F n) → C.Nodup → Dg (((C.map (prL F n)).map prim).map vi) C
  | [], _, _ => trivial
  | c :: C, h, nd => by
    obtain ⟨nd1, nd2⟩ := List.nodup_cons.mp nd
    have at' : ∀ {d e : Nat}, d ∈ nonE F n → e ∈ nonE F n → ∃ a : Rat, a ≠ 0 ∧ vi (prim (prL F n d)) e = a * (if e = d then 1 else 0) := fun {d e} hd he => by
      obtain ⟨a, ha, k⟩ := prim_mul (prL F n d)
      obtain ⟨h1, h2⟩ := (nonE_mem f).mp hd
      obtain ⟨h3, h4⟩ := (nonE_mem f).mp he
      exact ⟨a, ha, by rw [k, pr_at f h1 h4]⟩
    have hc := h c (List.mem_cons_self ..)
    refine ⟨?_, fun m hm => ?_, fun d hd => ?_, prs_dg f C (fun d hd => h d (List.mem_cons_of_mem _ hd)) nd2⟩
    · obtain ⟨a, ha, k⟩ := at' hc hc
      show vi (prim (prL F n c)) c ≠ 0
      rw [k, if_pos rfl]; grind
    · obtain ⟨q, hq, rfl⟩ := List.mem_map.mp hm
      obtain ⟨p, hp, rfl⟩ := List.mem_map.mp hq
      obtain ⟨d, hd, rfl⟩ := List.mem_map.mp hp
      obtain ⟨a, ha, k⟩ := at' (h d (List.mem_cons_of_mem _ hd)) hc
      rw [k, if_neg (fun z : c = d => nd1 (by rw [z]; exact hd))]; grind
    · obtain ⟨a, ha, k⟩ := at' hc (h d (List.mem_cons_of_mem _ hd))
      show vi (prim (prL F n c)) d = 0
      rw [k, if_neg (fun z : d = c => nd1 (by rw [← z]; exact hd))]; grind
theorem nonE_nd (F : List (List Int)) (n : Nat) : (nonE F n).Nodup := List.Nodup.sublist List.filter_sublist List.nodup_range
theorem prs_span (f : FO F n V) (y : Vc) : Sp ((prs F n).map vq) y ↔ orth n V y := by
  refine ⟨prs_orth f, fun h => ?_⟩
  obtain ⟨z, hz, hk, _⟩ := dg_sum y (prs_dg f (nonE F n) (fun c hc => hc) (nonE_nd F n))
  have hz' : Sp ((prs F n).map vq) z := (prim_span (prs F n) z).mp hz
  have hw : orth n V fun j => y j + -1 * z j := orth_lin (prs_orth f hz') h (-1)
  have w0 : ∀ j, y j + -1 * z j = 0 := fun j => by
    by_cases hj : j < n
    · by_cases hjK : j ∈ gre V [] (List.range n)
      · obtain ⟨i, hi, e⟩ := gre_ix f hjK
        obtain ⟨k1, k2, k3, k4⟩ := fo_head f hi
        rw [e] at k1 k2 k3
        have := hw.2 _ (f.mem hi)
        rw [dv_one (e := j) hj fun d hd hne => ?_] at this
        · exact (Rat.mul_eq_zero.mp this).resolve_right k2
        · by_cases hdK : d ∈ gre V [] (List.range n)
          · rw [k3 d hdK hne]; grind
          · have := hk d ((nonE_mem f).mpr ⟨hd, hdK⟩)
            show (y d + -1 * z d) * _ = 0
            rw [this]; grind
      · rw [hk j ((nonE_mem f).mpr ⟨hj, hjK⟩)]; grind
    · exact hw.1 j (by omega)
  exact hz'.to fun j => by have := w0 j; grind
theorem orth_orth (f : FO F n V) (x : Vc) : orth n (orth n V) x ↔ V x := by
  constructor
  · rintro ⟨h1, h2⟩
    refine (mem_sum f x).mpr fun c => ?_
    obtain ⟨z, a, b, e⟩ := dg_sum x f.dg
    by_cases hc : c < n
    · by_cases hcK : c ∈ gre V [] (List.range n)
      · rw [← e c, b c hcK]
      · have := h2 _ (pr_orth f ((nonE_mem f).mpr ⟨hc, hcK⟩))
        rw [dv_comm, pr_dot f hc hcK] at this
        grind
    · rw [← e c, h1 c (by omega), f.out ((f.span z).mp a) (by omega)]
  · exact fun h => ⟨fun j hj => f.out h hj, fun y hy => by rw [dv_comm]; exact hy.2 x h⟩
theorem prs_len (F : List (List Int)) (n : Nat) : ∀ r ∈ prs F n, r.length = n := fun r hr => by
  obtain ⟨c, _, rfl⟩ := List.mem_map.mp hr
  exact prN_len ..
/-- the frame of the other side, and of its other side -/
abbrev othF (F : List (List Int)) (n : Nat) : List (List Int) := frameQ (prs F n) n
theorem oth_fo (f : FO F n V) : FO (othF F n) n (orth n V) := (frameQ_fo (prs_len F n)).congr (prs_span f)
theorem oth_oth (f : FO F n V) : othF (othF F n) n = F := fo_unique f ((oth_fo (oth_fo f)).congr (orth_orth f))
end
/-! how many rows -/
theorem dg_cmb : ∀ {T : List (List Int)} {K : List Nat} {c : List Int}, Dg (T.map vi) K → c.length = T.length → (∀ j, cmb c T j = 0) → ∀ x ∈ c, x = 0
  | [], _, c, _, hl, _ => fun x hx => by rw [List.eq_nil_of_length_eq_zero hl] at hx; cases hx
  | t :: T, k :: K, c :: cs, ⟨h1, h2, h3, h4⟩, hl, hz => by
    have z : cmb cs T k = 0 := by
      have := sp_at (d := k) h2 (sp_cmb cs T)
      exact_mod_cast this
    have e : c * t.getD k 0 + cmb cs T k = 0 := hz k
    have t0 : t.getD k 0 ≠ 0 := fun y => h1 (vi_zero.mpr y)
    have c0 : c = 0 := by
      rw [z, Int.add_zero] at e
      exact (Int.mul_eq_zero.mp e).resolve_right t0
    intro x hx
    rcases List.mem_cons.mp hx with y | y
    · rw [y]; exact c0
    · refine dg_cmb h4 (by simpa using hl) (fun j => ?_) x y
      have : c * t.getD j 0 + cmb cs T j = 0 := hz j
      rw [c0, Int.zero_mul, Int.zero_add] at this
      exact this
  | _ :: _, [], _, h, _, _ => h.elim
  | _ :: _, _ :: _, [], _, hl, _ => by cases hl
theorem row_bd : ∀ t : List Int, ∃ m, ∀ j, (t.getD j 0).natAbs ≤ m
  | [] => ⟨0, fun j => by rw [getD_ge (Nat.zero_le _)]; exact Nat.le_refl _⟩
  | x :: t => by
    obtain ⟨m, h⟩ := row_bd t
    refine ⟨x.natAbs + m, fun j => ?_⟩
    cases j with
    | zero => show x.natAbs ≤ _; omega
    | succ j => have := h j; show (t.getD j 0).natAbs ≤ _; omega
theorem rows_bd : ∀ T : List (List Int), ∃ m, ∀ t ∈ T, ∀ j, (t.getD j 0).natAbs ≤ m
  | [] => ⟨0, fun t h => (List.not_mem_nil h).elim⟩
  | t :: T => by
    obtain ⟨m, h⟩ := rows_bd T
    obtain ⟨k, g⟩ := row_bd t
    refine ⟨k + m, fun s hs j => ?_⟩
    rcases List.mem_cons.mp hs with e | e
    · rw [e]; have := g j; omega
    · have := h s e j; omega
theorem dim_le {T : List (List Int)} {K K' : List Nat} {L : List Vc} (hT : Dg (T.map vi) K') (h : ∀ t ∈ T, Sp L (vi t)) (hL : Dg L K) : T.length ≤ L.length := Classical.byContradiction fun no => by
  obtain ⟨M, hM⟩ := rows_bd T
  have hk := dg_len hL
  obtain ⟨c, l1, ⟨x0, hx0, nx0⟩, _, hz⟩ := siegel (T := T) (ps := K) (M := M) (fun t ht p _ => hM t ht p) (by omega)
  have inL : Sp L (fun j => ((cmb c T j : Int) : Rat)) := sp_le (fun r hr => by
    obtain ⟨t, ht, rfl⟩ := List.mem_map.mp hr
    exact h t ht) (sp_cmb c T)
  exact nx0 (dg_cmb hT l1 (fun j => by
    have := dg_zero hL inL (fun k hk => by
      show ((cmb c T k : Int) : Rat) = 0
      rw [hz k hk]; rfl) j
    exact_mod_cast this) x0 hx0)
end DL

set_option Elab.async false
set_option linter.all false
set_option maxRecDepth 100000
set_option maxHeartbeats 4000000
/-! the other side: how large its numbers are -/
namespace DL
open PySem PySem.Spec PyProof.Rows L2
theorem den_num (m : Rat) : m * ((m.den : Int) : Rat) = (m.num : Rat) := by
  have den0 : ((m.den : Int) : Rat) ≠ 0 := by
    have := m.den_nz
    exact_mod_cast this
  have e := q_eq m
  generalize (m.num : Rat) = A at e ⊢
  generalize ((m.den : Int) : Rat) = D at e den0 ⊢
  grind
/-- a whole multiple of a row without a common divisor is no smaller -/
theorem small_int {y v : List Int} {m : Rat} (h : ∀ j, vi y j = m * vi v j) (g : gl v = 1) {j0 : Nat} (hy : y.getD j0 0 ≠ 0) (j : Nat) : (v.getD j 0).natAbs ≤ (y.getD j 0).natAbs := by
  have mult : ∀ i, m.num * v.getD i 0 = y.getD i 0 * (m.den : Int) := fun i => by
    have h1 := h i
    unfold vi at h1
    have : ((m.num * v.getD i 0 : Int) : Rat) = ((y.getD i 0 * (m.den : Int) : Int) : Rat) := by
      rw [Rat.intCast_mul, Rat.intCast_mul, h1, ← den_num m]
      grind
    exact_mod_cast this
  have d1 : m.den = 1 := by
    have : m.den ∣ gl v := gl_dvd.mpr fun x hx => by
      obtain ⟨i, hi, rfl⟩ := List.mem_iff_getElem.mp hx
      have h := mult i
      rw [List.getD_eq_getElem?_getD, List.getElem?_eq_getElem hi, Option.getD_some] at h
      have cop : Int.gcd (m.den : Int) m.num = 1 := by rw [Int.gcd_comm]; exact m.reduced
      have h3 := Int.dvd_gcd_mul_iff_dvd_mul.mpr (show (m.den : Int) ∣ m.num * v[i] from ⟨y.getD i 0, by rw [h, Int.mul_comm]⟩)
      rw [cop] at h3
      simpa using h3
    rw [g] at this
    exact Nat.dvd_one.mp this
  have f0 := mult j0
  have fj := mult j
  rw [d1] at f0 fj
  have n0 : m.num ≠ 0 := fun z => hy (by rw [z, Int.zero_mul] at f0; omega)
  have e : y.getD j 0 = m.num * v.getD j 0 := by omega
  rw [e, Int.natAbs_mul]
  exact Nat.le_mul_of_pos_left _ (by omega)
/-! numbers put at some cells -/
def colv (n : Nat) : List Nat → List Int → List Int
  | p :: P, c :: cs => (colv n P cs).set p c
  | _, _ => List.replicate n 0
theorem colv_len (n : Nat) : ∀ (P : List Nat) (cs : List Int), (colv n P cs).length = n
  | [], _ => by unfold colv; exact List.length_replicate ..
  | _ :: _, [] => List.length_replicate ..
  | p :: P, c :: cs => by show ((colv n P cs).set p c).length = n; rw [List.length_set]; exact colv_len n P cs
theorem vi_set {l : List Int} {e : Nat} {v : Int} (he : e < l.length) (j : Nat) : vi (l.set e v) j = if j = e then (v : Rat) else vi l j := by
  unfold vi
  rw [List.getD_eq_getElem?_getD, List.getElem?_set]
  by_cases h : e = j
  · subst h
    rw [if_pos rfl, if_pos he, if_pos rfl]; rfl
  · rw [if_neg h, if_neg (fun z => h z.symm), List.getD_eq_getElem?_getD]
theorem vi_rep (n j : Nat) : vi (List.replicate n 0) j = 0 := by
  unfold vi
  rw [List.getD_eq_getElem?_getD, List.getElem?_replicate]
  split <;> rfl
theorem colv_off {n d : Nat} : ∀ {P : List Nat} {cs : List Int}, (∀ p ∈ P, p < n) → d ∉ P → vi (colv n P cs) d = 0
  | [], cs, _, _ => by unfold colv; exact vi_rep n d
  | _ :: _, [], _, _ => vi_rep n d
  | p :: P, c :: cs, h, hd => by
    show vi ((colv n P cs).set p c) d = 0
    rw [vi_set (by rw [colv_len]; exact h p (List.mem_cons_self ..)), if_neg (fun z => hd (by rw [z]; exact List.mem_cons_self ..))]
    exact colv_off (fun q hq => h q (List.mem_cons_of_mem _ hq)) fun z => hd (List.mem_cons_of_mem _ z)
theorem dvi_set {l : List Int} {e : Nat} {v : Int} (he : e < l.length) (h0 : vi l e = 0) (y : Vc) : ∀ n, dv n (vi (l.set e v)) y = dv n (vi l) y + (if e < n then (v : Rat) * y e else 0)
  | 0 => by
    show (0 : Rat) = 0 + _
    rw [if_neg (Nat.not_lt_zero e)]; grind
  | n + 1 => by
    show dv n (vi (l.set e v)) y + vi (l.set e v) n * y n = dv n (vi l) y + vi l n * y n + _
    rw [dvi_set he h0 y n, vi_set he]
    by_cases h : n = e
    · subst h
      rw [if_pos rfl, if_neg (Nat.lt_irrefl n), if_pos (Nat.lt_succ_self n), h0]; grind
    · rw [if_neg h]
      by_cases h2 : e < n
      · rw [if_pos h2, if_pos (by omega)]; grind
      · rw [if_neg h2, if_neg (by omega)]; grind
theorem colv_dv {n : Nat} (x : Vc) : ∀ {P : List Nat} {cs : List Int}, (∀ p ∈ P, p < n) → P.Nodup → dv n (vi (colv n P cs)) x = lin cs P x
  | [], cs, _, _ => by
    have e : lin cs [] x = 0 := by cases cs <;> rfl
    rw [e]
    refine dv_zero fun j _ => ?_
    show vi (colv n [] cs) j * x j = 0
    unfold colv
    rw [vi_rep]; grind
  | _ :: _, [], _, _ => by
    show dv n (vi (List.replicate n 0)) x = 0
    exact dv_zero fun j _ => by rw [vi_rep]; grind
  | p :: P, c :: cs, h, nd => by
    obtain ⟨nd1, nd2⟩ := List.nodup_cons.mp nd
    have hp := h p (List.mem_cons_self ..)
    have h' := fun q hq => h q (List.mem_cons_of_mem p hq)
    show dv n (vi ((colv n P cs).set p c)) x = (c : Rat) * x p + lin cs P x
    rw [dvi_set (by rw [colv_len]; exact hp) (colv_off h' nd1), if_pos hp, colv_dv x h' nd2]; grind
theorem colv_bd {n M : Nat} : ∀ {P : List Nat} {cs : List Int}, (∀ x ∈ cs, x.natAbs ≤ M) → ∀ j, ((colv n P cs).getD j 0).natAbs ≤ M
  | [], cs, _, j => by
    have := vi_rep n j
    unfold colv
    rw [vi_zero.mp this]; exact Nat.zero_le _
  | _ :: _, [], _, j => by
    have := vi_rep n j
    show ((List.replicate n (0 : Int)).getD j 0).natAbs ≤ M
    rw [vi_zero.mp this]; exact Nat.zero_le _
  | p :: P, c :: cs, h, j => by
    show (((colv n P cs).set p c).getD j 0).natAbs ≤ M
    rw [List.getD_eq_getElem?_getD, List.getElem?_set]
    by_cases e : p = j
    · rw [if_pos e]
      split
      · exact h c (List.mem_cons_self ..)
      · exact Nat.zero_le _
    · rw [if_neg e, ← List.getD_eq_getElem?_getD]
      exact colv_bd (fun x hx => h x (List.mem_cons_of_mem _ hx)) j
theorem colv_ne {n : Nat} : ∀ {P : List Nat} {cs : List Int}, (∀ p ∈ P, p < n) → P.Nodup → cs.length = P.length → (∃ x ∈ cs, x ≠ 0) → ∃ j, (colv n P cs).getD j 0 ≠ 0
  | [], [], _, _, _, ⟨_, h, _⟩ => by cases h
  | p :: P, c :: cs, h, nd, hl, ⟨x, hx, nx⟩ => by
    obtain ⟨nd1, nd2⟩ := List.nodup_cons.mp nd
    have hp := h p (List.mem_cons_self ..)
    have h' := fun q hq => h q (List.mem_cons_of_mem p hq)
    by_cases c0 : c = 0
    · have hx : x ∈ cs := (List.mem_cons.mp hx).resolve_left fun z => nx (by rw [z]; exact c0)
      obtain ⟨j, hj⟩ := colv_ne h' nd2 (by simpa using hl) ⟨x, hx, nx⟩
      refine ⟨j, fun z => hj ?_⟩
      have z : ((colv n P cs).set p c).getD j 0 = 0 := z
      have z := vi_zero.mpr z
      rw [vi_set (by rw [colv_len]; exact hp)] at z
      by_cases e : j = p
      · rw [e]; exact vi_zero.mp (colv_off h' nd1)
      · rw [if_neg e] at z; exact vi_zero.mp z
    · refine ⟨p, fun z => c0 ?_⟩
      have z : ((colv n P cs).set p c).getD p 0 = 0 := z
      have z := vi_zero.mpr z
      rw [vi_set (by rw [colv_len]; exact hp), if_pos rfl] at z
      exact_mod_cast z
  | [], _ :: _, _, _, h, _ => by cases h
  | _ :: _, [], _, _, h, _ => by cases h
theorem FO.mem_of {F : List (List Int)} {n : Nat} {V : Vc → Prop} (f : FO F n V) {r : List Int} (hr : r ∈ F) : V (vi r) := (f.span _).mp (sp_mem (List.mem_map.mpr ⟨r, hr, rfl⟩))
/-- how large a row of the other side is -/
def sg (k M : Nat) : Nat := (2 * (k + 1) * M + 1) ^ k
section
variable {F S : List (List Int)} {n c M : Nat} {V : Vc → Prop} {v : List Int}
theorem orth_small {P : List Nat} (hs : ∀ x, V x ↔ Sp (S.map vi) x) (hM : ∀ s ∈ S, ∀ j, (s.getD j 0).natAbs ≤ M) (hP : ∀ p ∈ P, p < n) (nd : P.Nodup) (hl : P.length = S.length + 1) (g : gl v = 1)
    (one : ∀ y, orth n V y → (∀ d, d ∉ P → y d = 0) → ∃ m : Rat, ∀ j, y j = m * vi v j) (j : Nat) : (v.getD j 0).natAbs ≤ sg S.length M := by
  have lT : (P.map fun k => S.map fun s => s.getD k 0).length = S.length + 1 := by rw [List.length_map, hl]
  obtain ⟨cs, l1, nz, hB, hz⟩ := siegel (T := P.map fun k => S.map fun s => s.getD k 0) (ps := List.range S.length) (M := M) (fun t ht p hp => by
    obtain ⟨k, _, rfl⟩ := List.mem_map.mp ht
    have hp := List.mem_range.mp hp
    rw [List.getD_eq_getElem?_getD, List.getElem?_map, List.getElem?_eq_getElem hp]
    exact hM _ (List.getElem_mem hp) k) (by rw [lT, List.length_range]; exact Nat.lt_succ_self _)
  rw [lT] at l1
  rw [lT, List.length_range] at hB
  have lz : ∀ x, V x → lin cs P x = 0 := fun x hx => lin_span (fun r hr => by
    obtain ⟨s, hs', rfl⟩ := List.mem_map.mp hr
    obtain ⟨p, hp, rfl⟩ := List.mem_iff_getElem.mp hs'
    rw [← cmb_lin cs P S p _ (List.getElem?_eq_getElem hp), hz p (List.mem_range.mpr hp)]
    rfl) ((hs x).mp hx)
  obtain ⟨m, hm⟩ := one (vi (colv n P cs)) ⟨fun j hj => vi_zero.mpr (getD_ge (by rw [colv_len]; exact hj)), fun x hx => by rw [colv_dv x hP nd]; exact lz x hx⟩ fun d hd => colv_off hP hd
  obtain ⟨j0, hj0⟩ := colv_ne hP nd (by omega) nz
  exact Nat.le_trans (small_int hm g hj0 j) (colv_bd hB j)
/-- what is 0 at all cells but the entries and one is told by that one -/
theorem orth_det (f : FO F n V) (hc : c ∈ nonE F n) {y : Vc} (hy : orth n V y) (hz : ∀ d ∈ nonE F n, d ≠ c → y d = 0) (j : Nat) : y j = y c * vq (prL F n c) j := by
  obtain ⟨c1, c2⟩ := (nonE_mem f).mp hc
  have w : orth n V fun j => y j + -(y c) * vq (prL F n c) j := orth_lin (pr_orth f hc) hy _
  have w' := (prim_span (prs F n) _).mpr ((prs_span f _).mpr w)
  have := dg_zero (prs_dg f (nonE F n) (fun c hc => hc) (nonE_nd F n)) w' (fun d hd => by
    obtain ⟨d1, d2⟩ := (nonE_mem f).mp hd
    show y d + -(y c) * vq (prL F n c) d = 0
    rw [pr_at f c1 d2]
    by_cases e : d = c
    · rw [e, if_pos rfl]; grind
    · rw [hz d hd e, if_neg e]; grind) j
  grind
theorem prim_gl {c : Nat} (f : FO F n V) (hc : c ∈ nonE F n) : gl (prim (prL F n c)) = 1 := by
  obtain ⟨c1, c2⟩ := (nonE_mem f).mp hc
  rcases lw_prim (prL F n c) with ⟨g, _⟩ | h
  · exact g
  · obtain ⟨a, ha, k⟩ := prim_mul (prL F n c)
    have e := k c
    rw [vi_zero.mpr (fnz_zero h c), pr_at f c1 c2, if_pos rfl] at e
    exact absurd (by grind : a = 0) ha
theorem prim_det (f : FO F n V) (hc : c ∈ nonE F n) {y : Vc} (hy : orth n V y) (hz : ∀ d ∈ nonE F n, d ≠ c → y d = 0) : ∃ m : Rat, ∀ j, y j = m * vi (prim (prL F n c)) j := by
  obtain ⟨a, ha, k⟩ := prim_mul (prL F n c)
  refine ⟨y c / a, fun j => ?_⟩
  rw [orth_det f hc hy hz j, k]
  generalize vq (prL F n c) j = x
  generalize y c = z
  grind
/-! how many cells are no entries -/
theorem nonE_count (f : FO F n V) : (nonE F n).length + F.length = n := by
  have p : (nonE F n ++ gre V [] (List.range n)).Perm (List.range n) := by
    refine (List.perm_ext_iff_of_nodup ?_ List.nodup_range).mpr fun a => ?_
    · exact List.nodup_append.mpr ⟨nonE_nd F n, gre_nd V n, fun a ha b hb e => ((nonE_mem f).mp ha).2 (by rw [e]; exact hb)⟩
    · rw [List.mem_append, nonE_mem f, List.mem_range]
      constructor
      · rintro (h | h)
        · exact h.1
        · exact List.mem_range.mp ((gre_sublist V (List.range n) []).subset h)
      · intro h
        by_cases k : a ∈ gre V [] (List.range n)
        · exact Or.inr k
        · exact Or.inl ⟨h, k⟩
  have := p.length_eq
  rw [List.length_append, List.length_range, ← f.count] at this
  exact this
theorem oth_count (f : FO F n V) : (othF F n).length + F.length = n := by
  have g := oth_fo f
  have d := prs_dg f (nonE F n) (fun c hc => hc) (nonE_nd F n)
  have h1 : (othF F n).length ≤ (nonE F n).length := by
    have := dim_le (T := othF F n) g.dg (fun t ht => (prim_span (prs F n) _).mpr ((prs_span f _).mpr ((g.span _).mp (sp_mem (List.mem_map.mpr ⟨t, ht, rfl⟩))))) d
    refine Nat.le_trans this (Nat.le_of_eq ?_)
    rw [List.length_map, List.length_map]
    unfold prs
    rw [List.length_map]
  have h2 : (nonE F n).length ≤ (othF F n).length := by
    have := dim_le (T := (nonE F n).map (prL F n) |>.map prim) d (fun t ht => (g.span _).mpr ((prs_span f _).mp ((prim_span (prs F n) _).mp (sp_mem (List.mem_map.mpr ⟨t, ht, rfl⟩))))) g.dg
    rwa [List.length_map, List.length_map, List.length_map] at this
  have := nonE_count f
  omega
/-! sizes -/
/-- a frame, and rows that span the same -/
structure Sy (F : List (List Int)) (n M : Nat) (V : Vc → Prop) (S : List (List Int)) : Prop where
  f : FO F n V
  sp : ∀ x, V x ↔ Sp (S.map vi) x
  k : S.length = F.length
  ind : Ind S
  m : ∀ s ∈ S, ∀ j, (s.getD j 0).natAbs ≤ M
theorem Sy.prim (s : Sy F n M V S) (hc : c ∈ nonE F n) (j : Nat) : ((DL.prim (prL F n c)).getD j 0).natAbs ≤ sg F.length M := by
  obtain ⟨c1, c2⟩ := (nonE_mem s.f).mp hc
  rw [← s.k]
  refine orth_small (P := c :: gre V [] (List.range n)) s.sp s.m (fun p hp => ?_) (List.nodup_cons.mpr ⟨c2, gre_nd V n⟩) ?_ (prim_gl s.f hc) (fun y hy hz => prim_det s.f hc hy fun d hd hne => hz d fun z => ?_) j
  · rcases List.mem_cons.mp hp with e | e
    · rw [e]; exact c1
    · exact List.mem_range.mp ((gre_sublist V (List.range n) []).subset e)
  · rw [List.length_cons, s.k, s.f.count]
  · rcases List.mem_cons.mp z with e | e
    · exact hne e
    · exact ((nonE_mem s.f).mp hd).2 e
theorem Sy.oth (s : Sy F n M V S) : ∀ g ∈ othF F n, ∀ j, (g.getD j 0).natAbs ≤ sg F.length M := fun v hv j => by
  have g := oth_fo s.f
  have cnt := oth_count s.f
  have cnt2 := nonE_count g
  obtain ⟨i, hi, e⟩ : ∃ i, i < (othF F n).length ∧ (othF F n).getD i [] = v := by
    obtain ⟨i, hi, e⟩ := List.mem_iff_getElem.mp hv
    exact ⟨i, hi, by rw [List.getD_eq_getElem?_getD, List.getElem?_eq_getElem hi]; exact e⟩
  obtain ⟨k1, k2, k3, k4⟩ := fo_head g hi
  have hk := gre_mem g hi
  rw [e] at k2 k3
  generalize (gre (orth n V) [] (List.range n)).getD i 0 = k at *
  rw [← s.k]
  refine orth_small (n := n) (P := k :: nonE (othF F n) n) s.sp s.m (fun p hp => ?_) (List.nodup_cons.mpr ⟨fun z => ((nonE_mem g).mp z).2 hk, nonE_nd _ _⟩) ?_ ?_ (fun y hy hz => ⟨y k / vi v k, ?_⟩) j
  · rcases List.mem_cons.mp hp with e | e
    · rw [e]; exact k1
    · exact ((nonE_mem g).mp e).1
  · rw [List.length_cons, s.k]; omega
  · have := (fo_lead g hi).1
    rwa [e] at this
  · have hv' : orth n V (vi v) := by
      rw [← e]; exact g.mem hi
    have w : orth n V fun j => y j - y k / vi v k * vi v j := g.sub hy hv' _
    have all := g.zero w fun d hd => by
      show y d - y k / vi v k * vi v d = 0
      by_cases e : d = k
      · rw [e]; grind
      · rw [k3 d hd e, hz d fun z => ?_]
        · grind
        · rcases List.mem_cons.mp z with e2 | e2
          · exact e e2
          · exact ((nonE_mem g).mp e2).2 hd
    intro j
    have := all j
    have this : y j - y k / vi v k * vi v j = 0 := this
    grind
theorem Sy.prim2 (s : Sy F n M V S) (hc : c ∈ nonE (othF F n) n) (j : Nat) : ((DL.prim (prL (othF F n) n c)).getD j 0).natAbs ≤ bnd F.length M := by
  have g := oth_fo s.f
  have cnt := oth_count s.f
  have cnt2 := nonE_count g
  rw [← s.k]
  refine small_of (T := S) (ps := (nonE (othF F n) n).erase c) s.m ?_ s.ind (prim_gl g hc) (fun x hx hz => ?_) j
  · rw [List.length_erase_of_mem hc, s.k]
    have : 0 < (nonE (othF F n) n).length := List.length_pos_of_mem hc
    omega
  · refine prim_det g hc ((orth_orth s.f x).mpr ((s.sp x).mpr hx)) fun d hd hne => hz d ?_
    exact (List.mem_erase_of_ne hne).mpr hd
end
end DL

set_option Elab.async false
set_option linter.all false
set_option maxRecDepth 100000
set_option maxHeartbeats 4000000
/-! what the program's defs ask for: price rows, other sides, cells by their names -/
namespace DL
open PySem PySem.Spec PyProof.Rows L2
/-! cells by their names -/
def cellO (xs : List Str) (x : Str) : Option Nat := xs.findIdx? fun y => decide (y = x)
theorem co_at : ∀ {xs : List Str} {x : Str} {i : Nat}, (∀ j, j < i → ¬ xs.getD j default = x) → i < xs.length → xs.getD i default = x → cellO xs x = some i
  | y :: xs, x, 0, _, _, h => by
    have h : y = x := h
    unfold cellO
    rw [List.findIdx?_cons, decide_eq_true h]; rfl
  | y :: xs, x, i + 1, hj, hi, h => by
    have h0 : ¬ y = x := hj 0 (Nat.succ_pos i)
    have ih := co_at (xs := xs) (x := x) (i := i) (fun j hj' => hj (j + 1) (by omega)) (by simpa using hi) h
    unfold cellO at ih ⊢
    rw [List.findIdx?_cons, decide_eq_false h0, ih]; rfl
  | [], _, _, _, h, _ => absurd h (Nat.not_lt_zero _)
theorem co_no : ∀ {xs : List Str} {x : Str}, (∀ j, j < xs.length → ¬ xs.getD j default = x) → cellO xs x = none
  | [], _, _ => rfl
  | y :: xs, x, hj => by
    have h0 : ¬ y = x := hj 0 (by simp)
    have ih := co_no (xs := xs) (x := x) fun j h => hj (j + 1) (by simpa using h)
    unfold cellO at ih ⊢
    rw [List.findIdx?_cons, decide_eq_false h0, ih]; rfl
theorem co_more {xs : List Str} {x : Str} {i : Nat} (hj : ∀ j, j < i → ¬ xs.getD j default = x) (h : ¬ xs.getD i default = x) : ∀ j, j < i + 1 → ¬ xs.getD j default = x := fun j hj' => by
  by_cases e : j = i
  · rw [e]; exact h
  · exact hj j (by omega)
/-! price rows -/
theorem prN_toQ {K : PySem.W.Frag} {n c : Nat} : List.map rInt (unitR n c) = List.map (rNum K) (toQ (unitR n c)) := ti2n_eq
theorem prN_succ {F : List (List Int)} {n c i : Nat} (hi : i < F.length) : prN F n c (i + 1) = (prN F n c i).set (((suppI (toQ (F.getD i []))).getD 0 0)).toNat (((-((F.getD i []).getD c 0) : Int) : Rat) / (((F.getD i []).getD ((suppI (toQ (F.getD i []))).getD 0 0).toNat 0 : Int) : Rat)) := by
  have e : (pivL F).getD i 0 = (suppI (toQ (F.getD i []))).getD 0 0 := by
    unfold pivL
    rw [List.getD_eq_getElem?_getD, List.getElem?_map, List.getElem?_eq_getElem hi, List.getD_eq_getElem?_getD (l := F), List.getElem?_eq_getElem hi]; rfl
  rw [← e]; rfl
structure PrOk (b : Bk) (c : Nat) : Prop where
  p : PvOk b
  n : b.size ≤ 1000
  c : c < b.size
  len : ∀ r ∈ b.frame, r.length = b.size
  pv : ∀ i, i < b.frame.length → 0 ≤ (suppI (toQ (b.frame.getD i []))).getD 0 0 ∧ (suppI (toQ (b.frame.getD i []))).getD 0 0 < (b.size : Int) ∧ (b.frame.getD i []).getD ((suppI (toQ (b.frame.getD i []))).getD 0 0).toNat 0 ≠ 0
  sm : ∀ r ∈ b.frame, ∀ x ∈ r, Lg x < 9000
structure OsOk (b : Bk) : Prop where
  p : PvOk b
  n : b.size ≤ 16
  pr : ∀ c, c < b.size → PrOk b c
  bk : BookOk b.names (prs b.frame b.size)
  n1 : 1 ≤ b.names.length ∧ b.names.length ≤ 16
  nm : namesOk b.names = true
theorem prs_lens (F : List (List Int)) (n : Nat) : lensOk n (prs F n) = true := List.all_eq_true.mpr fun r hr => decide_eq_true (prs_len F n r hr)
theorem prs_lc {K : PySem.W.Frag} {F : List (List Int)} {n : Nat} : List.map (fun i : Nat => rLst K ((prL F n i).map (rNum K))) (List.filter (fun i : Nat => !decide ((i : Int) ∈ pivL F)) (List.range ((n : Int)).toNat)) = List.map (fun l => rLst K (List.map (rNum K) l)) (prs F n) := by
  rw [Int.toNat_natCast]
  unfold prs nonE
  rw [List.map_map]; rfl
/-! two books -/
def sameB (b d : Bk) : Bool := decide (b.names = d.names) && decide (b.frame = d.frame)
theorem nmS_ok {c : Nat} (h : nmS c = true) : c < 1114112 := by
  have key : ∀ c ∈ lettersT.cps.toList ++ digitsT.cps.toList, c < 1114112 := by decide
  refine key c (List.mem_append.mpr ?_)
  rcases (Bool.or_eq_true _ _).mp h with h | h
  · exact Or.inl (of_decide_eq_true h)
  · exact Or.inr (of_decide_eq_true h)
theorem nm_strOk {x : Str} (h : isNm x = true) : PyData.strOk x = true := by
  have h2 : x.cps.toList.all nmS = true := ((Bool.and_eq_true _ _).mp h).2
  unfold PyData.strOk
  rw [← Array.all_toList, List.all_eq_true]
  exact fun c hc => decide_eq_true (nmS_ok (List.all_eq_true.mp h2 c hc))
theorem lay_strs : ∀ {xs : List Str}, (∀ x ∈ xs, PyData.strOk x = true) → PyData.canLayAll0 (xs.map PyData.str) = true
  | [], _ => rfl
  | x :: xs, h => by
    show (PyData.canLay0 (.str x) && PyData.canLayAll0 (xs.map PyData.str)) = true
    rw [lay_strs fun y hy => h y (List.mem_cons_of_mem _ hy), Bool.and_true]
    exact h x (List.mem_cons_self ..)
theorem strsOk_of {xs : List Str} (hn : namesOk xs = true) : StrsOk xs := by
  have h1 := List.all_eq_true.mp ((Bool.and_eq_true _ _).mp hn).1
  have dep : PyData.depth (.tuple (xs.map PyData.str)) ≤ 64 := Nat.le_trans (Nat.succ_le_succ (depthAll_map (d := PyData.str) (n := 0) (fun _ => Nat.le_refl _) xs)) (by decide)
  unfold StrsOk SeqAt.shaped
  rw [Bool.and_eq_true]
  exact ⟨lay_strs fun x hx => nm_strOk (h1 x hx), decide_eq_true dep⟩
/-! two books -/
end DL

set_option Elab.async false
set_option linter.all false
set_option maxRecDepth 100000
set_option maxHeartbeats 4000000
/-! the law's rank of more rows; the drawn book and its other side -/
namespace DL
open PySem PySem.Spec PyProof.Rows L2
structure R8 (n : Nat) (rows : List (List Int)) : Prop where
  n6 : n ≤ 40
  len : ∀ r ∈ rows, r.length = n
  m : rows.length ≤ 16
  sm : ∀ i, i ≤ n → ∀ r ∈ (lk rows i).2, Sm5 n r
section
variable {rows : List (List Int)} {n : Nat}
theorem lk8 (h : R8 n rows) {i : Nat} (hi : i ≤ n) : (∀ r ∈ (lk rows i).2, Sm5 n r) ∧ (lk rows i).2.length ≤ 16 ∧ (lk rows i).1 ≤ 16 := by
  obtain ⟨K, L, S, O, C⟩ := lk_lo h.len i
  have h1 := C.cnt
  have h2 := C.k
  have := h.m
  exact ⟨h.sm i hi, by omega, by omega⟩
theorem rank_drawn (hn : n ≤ 40) (hl : ∀ r ∈ rows, r.length = n) (hm : rows.length ≤ 8) (hs : ∀ r ∈ rows, ∀ j, (r.getD j 0).natAbs ≤ 1152) : R8 n rows where
  n6 := hn
  len := hl
  m := by omega
  sm := fun i hi r hr => by
    obtain ⟨K, L, S, O, C⟩ := lk_lo hl i
    refine ⟨C.len r hr, fun j => lg_b (lk_small C hs r hr j) ?_ (by decide)⟩
    have := bnd_mono (n := rows.length) (m := 8) (M := 1152) hm
    have : bnd 8 1152 + 1152 < 2 ^ 490 := by unfold bnd; decide +kernel
    omega
/-! a reduced frame stays as it is -/
theorem gl_mulc (k : Int) (ns : List Int) : gl (ns.map fun x => x * k) = k.natAbs * gl ns := by
  rw [← gl_mulI]
  exact congrArg gl (List.map_congr_left fun x _ => Int.mul_comm ..)
theorem lcl_same {row lead : List Int} {c : Nat} (h1 : row.length = n) (h2 : lead.length = n) (hr : row.getD c 0 = 0) (hg : gl row = 1) (hl : 0 < lead.getD c 0) : lcl row lead c = row := by
  have e : (List.range row.length).map (fun k => row.getD k 0 * lead.getD c 0 - lead.getD k 0 * row.getD c 0) = row.map fun x => x * lead.getD c 0 := by
    rw [← range_map_getD (xs := row) (d := 0) (f := fun x => x * lead.getD c 0)]
    exact List.map_congr_left fun k _ => by rw [hr, Int.mul_zero, Int.sub_zero]
  have g : gl (row.map fun x => x * lead.getD c 0) = (lead.getD c 0).natAbs := by rw [gl_mulc, hg, Nat.mul_one]
  unfold lcl
  simp only [e, g]
  rw [if_neg (by omega), List.map_map]
  refine (List.map_congr_left fun x _ => ?_).trans (List.map_id row)
  show (x * lead.getD c 0).fdiv ((lead.getD c 0).natAbs : Int) = x
  rw [show (((lead.getD c 0).natAbs : Nat) : Int) = lead.getD c 0 by omega]
  exact Int.mul_fdiv_cancel _ (by omega)
section
variable {F : List (List Int)} {V : Vc → Prop}
theorem fo_ix (f : FO F n V) {r : List Int} (hr : r ∈ F) : ∃ i, i < F.length ∧ F.getD i [] = r := by
  obtain ⟨i, hi, e⟩ := List.mem_iff_getElem.mp hr
  exact ⟨i, hi, by rw [List.getD_eq_getElem?_getD, List.getElem?_eq_getElem hi]; exact e⟩
theorem fo_nodup (f : FO F n V) : F.Nodup := by
  refine List.pairwise_iff_getElem.mpr fun i j hi hj hij e => ?_
  obtain ⟨a1, a2, a3, a4⟩ := fo_head f hi
  obtain ⟨b1, b2, b3, b4⟩ := fo_head f hj
  have e2 : F.getD i [] = F.getD j [] := by
    rw [List.getD_eq_getElem?_getD, List.getD_eq_getElem?_getD, List.getElem?_eq_getElem hi, List.getElem?_eq_getElem hj]; exact e
  exact a2 (by rw [e2]; exact b3 _ (gre_mem f hi) (gre_ne f hi hj (by omega)))
/-- two rows of a frame that are 0 before a cell: only one of them is not 0 there -/
theorem fo_two (f : FO F n V) {r q : List Int} {c : Nat} (hr : r ∈ F) (hq : q ∈ F) (hne : r ≠ q) (zr : ∀ d, d < c → r.getD d 0 = 0) (hc : r.getD c 0 ≠ 0) : q.getD c 0 = 0 ∧ 0 < r.getD c 0 := by
  obtain ⟨i, hi, rfl⟩ := fo_ix f hr
  obtain ⟨j, hj, rfl⟩ := fo_ix f hq
  obtain ⟨a1, a2, a3, a4⟩ := fo_head f hi
  obtain ⟨b1, b2, b3, b4⟩ := fo_head f hj
  have ek : (gre V [] (List.range n)).getD i 0 = c := by
    rcases Nat.lt_trichotomy ((gre V [] (List.range n)).getD i 0) c with h | h | h
    · exact absurd (vi_zero.mpr (zr _ h)) a2
    · exact h
    · exact absurd (vi_zero.mp (a4 c h)) hc
  have hij : i ≠ j := fun e => hne (by rw [e])
  refine ⟨?_, ?_⟩
  · rw [← ek]; exact vi_zero.mp (b3 _ (gre_mem f hi) (gre_ne f hi hj hij))
  · have := (fo_lead f hi).2
    rwa [ek] at this
theorem lk_frame (f : FO F n V) : ∀ i, i ≤ n → (lk F i).2.Sublist F
  | 0, _ => List.Sublist.refl _
  | i + 1, hi => by
    have ih := lk_frame f i (by omega)
    obtain ⟨K, L, S, O, C⟩ := lk_lo f.len i
    have zr : ∀ r ∈ (lk F i).2, ∀ d, d < i → r.getD d 0 = 0 := fun r hr d hd => C.ci.zero r hr d (List.mem_range.mpr hd)
    rw [lk_succ]
    generalize lk F i = s at ih zr ⊢
    unfold lkStep
    split
    · exact ih
    · rename_i k h
      obtain ⟨h1, h2, h3⟩ := leadAt_some h
      have nd : s.2.Nodup := List.Nodup.sublist ih (fo_nodup f)
      have ml : s.2.getD k [] ∈ s.2 := getD_memL h1
      have sub : (s.2.take k ++ s.2.drop (k + 1)).Sublist s.2 := by
        have := (List.Sublist.refl (s.2.take k)).append (List.drop_sublist_drop_left s.2 (show k ≤ k + 1 by omega))
        rwa [List.take_append_drop] at this
      have same : (s.2.take k ++ s.2.drop (k + 1)).map (fun row => lcl row (s.2.getD k []) i) = s.2.take k ++ s.2.drop (k + 1) := by
        refine (List.map_congr_left fun q hq => ?_).trans (List.map_id _)
        have mq : q ∈ s.2 := sub.subset hq
        have hne : s.2.getD k [] ≠ q := fun e => by
          rw [h3] at nd
          have nd2 := List.nodup_append.mp nd
          rcases List.mem_append.mp hq with z | z
          · exact nd2.2.2 q z _ (List.mem_cons_self ..) e.symm
          · exact (List.nodup_cons.mp nd2.2.1).1 (by rw [e]; exact z)
        obtain ⟨t1, t2⟩ := fo_two f (ih.subset ml) (ih.subset mq) hne (zr _ ml) h2
        obtain ⟨j, hj, e⟩ := fo_ix f (ih.subset mq)
        exact lcl_same (f.len _ (ih.subset mq)) (f.len _ (ih.subset ml)) t1 (by rw [← e]; exact (fo_lead f hj).1) t2
      show ((s.2.take k ++ s.2.drop (k + 1)).map fun row => lcl row (s.2.getD k []) i).Sublist F
      rw [same]
      exact sub.trans ih
theorem rank_frame (f : FO F n V) (hn : n ≤ 16) (hs : ∀ r ∈ F, ∀ j, Lg (r.getD j 0) < 490) : R8 n F where
  n6 := by omega
  len := f.len
  m := by
    have := gre_len V (List.range n) []
    rw [List.length_range] at this
    rw [f.count]; omega
  sm := fun i hi r hr => by
    have := (lk_frame f i hi).subset hr
    exact ⟨f.len r this, hs r this⟩
end
end
end DL

set_option Elab.async false
set_option linter.all false
set_option maxRecDepth 100000
set_option maxHeartbeats 4000000
/-! a drawn book and its other side: what their numbers are at most -/
namespace DL
open PySem PySem.Spec PyProof.Rows L2
/-- a book with the rows that span its tables -/
structure KOk (b : Bk) (rows : List (List Int)) : Prop where
  n1 : 1 ≤ b.size
  n2 : b.size ≤ 16
  m : rows.length ≤ 8
  len : ∀ r ∈ rows, r.length = b.size
  sm : ∀ r ∈ rows, ∀ j, (r.getD j 0).natAbs ≤ 1152
  f : FO b.frame b.size (Sp (rows.map vi))
  nm : namesOk b.names = true
theorem nm_len12 {xs : List Str} (h : namesOk xs = true) : ∀ x ∈ xs, x.length ≤ 100000 := fun x hx => by
  have h1 := List.all_eq_true.mp ((Bool.and_eq_true _ _).mp h).1 x hx
  have h2 : x.length ≤ 12 := by
    unfold isNm at h1
    rw [Bool.and_eq_true, Bool.and_eq_true, Bool.and_eq_true] at h1
    have := of_decide_eq_true h1.1.1.2
    rw [← strLen] at this
    exact this
  omega
section
variable {b : Bk} {rows : List (List Int)} {V : Vc → Prop} {M P : Nat}
theorem KOk.dw (h : KOk b rows) : Dw b.size 1152 rows := ⟨h.n1, h.n2, by have := h.m; omega, h.len, h.sm, by decide, Nat.lt_of_le_of_lt (bnd_mono h.m) (by unfold bnd; decide +kernel),
  Nat.lt_of_le_of_lt (bnd_mono2 h.m (bnd_mono h.m)) (by unfold bnd; decide +kernel)⟩
theorem KOk.eq (h : KOk b rows) : b.frame = frm b.size rows := fo_unique h.dw.fo h.f
theorem b8 : bnd 8 1152 < 2 ^ 113 := by unfold bnd; decide +kernel
theorem sg8 : sg 8 1152 < 2 ^ 115 := by unfold sg; decide +kernel
theorem sg_mono {k m M : Nat} (h : k ≤ m) : sg k M ≤ sg m M := by
  unfold sg
  have h1 : 2 * (k + 1) * M + 1 ≤ 2 * (m + 1) * M + 1 := Nat.succ_le_succ (Nat.mul_le_mul_right _ (by omega))
  exact Nat.le_trans (Nat.pow_le_pow_left h1 _) (Nat.pow_le_pow_right (Nat.succ_pos _) h)
theorem KOk.fcount (h : KOk b rows) : b.frame.length ≤ 8 := by
  have := h.dw.fcount
  have := h.m
  rw [h.eq]; omega
theorem KOk.fsm (h : KOk b rows) : ∀ r ∈ b.frame, ∀ j, (r.getD j 0).natAbs ≤ bnd 8 1152 := fun r hr j => by
  rw [h.eq] at hr
  exact Nat.le_trans (h.dw.fsm r hr j) (bnd_mono h.m)
theorem KOk.sy (h : KOk b rows) : ∃ S, Sy b.frame b.size 1152 (Sp (rows.map vi)) S := by
  obtain ⟨K, L, S, O, C⟩ := lk_lo h.len b.size
  have z := zero_len C.len fun r hr d hd => C.ci.zero r hr d hd
  refine ⟨S, h.f, fun x => ?_, ?_, C.ci.ind, fun s hs => h.sm s (C.ci.mS s hs)⟩
  · rw [← C.ci.spS x, ← C.ci.span x]
    constructor
    · exact fun k => sp_le (fun r hr => (List.mem_append.mp hr).elim sp_mem fun y => by
        obtain ⟨l, hl, rfl⟩ := List.mem_map.mp y
        exact sp_zero fun j => z l hl j) k
    · exact sp_sub_of fun r hr => List.mem_append_left _ hr
  · rw [C.ci.ks, C.ci.gr, h.f.count]
/-- the sizes of price rows -/
theorem prN_sz {F : List (List Int)} {n c k : Nat} (hF : ∀ r ∈ F, ∀ j, (r.getD j 0).natAbs < 2 ^ k) (hk : 1 ≤ k) (hne : ∀ i, i < F.length → (F.getD i []).getD ((pivL F).getD i 0).toNat 0 ≠ 0) : ∀ i, i ≤ F.length → ∀ q ∈ prN F n c i, Sz k q
  | 0, _, q, hq => by
    obtain ⟨x, hx, rfl⟩ := List.mem_map.mp hq
    refine sz_int ?_
    unfold unitR at hx
    rcases List.mem_or_eq_of_mem_set hx with z | z
    · rw [(List.mem_replicate.mp z).2]; exact Nat.zero_le _
    · rw [z]; exact Nat.le_trans (show Lg 1 ≤ 1 by decide) hk
  | i + 1, hi, q, hq => by
    rcases List.mem_or_eq_of_mem_set hq with z | z
    · exact prN_sz hF hk hne i (by omega) q z
    · have h1 := hF _ (getD_memL (show i < F.length by omega)) c
      have h2 := hF _ (getD_memL (show i < F.length by omega)) ((pivL F).getD i 0).toNat
      have hd := hne i (by omega)
      rw [z]
      refine gd_sz (M := ((F.getD i []).getD ((pivL F).getD i 0).toNat 0).natAbs) (B := ((F.getD i []).getD c 0).natAbs * 1) ?_ (by omega) (Nat.lt_of_lt_of_le h2 (Nat.pow_le_pow_right (by decide) (by omega))) (by rw [Nat.mul_one]; exact Nat.lt_of_lt_of_le h1 (Nat.pow_le_pow_right (by decide) (by omega)))
      generalize (F.getD i []).getD ((pivL F).getD i 0).toNat 0 = d at hd ⊢
      generalize (F.getD i []).getD c 0 = t
      have dq : (d : Rat) ≠ 0 := by exact_mod_cast hd
      rcases Int.natAbs_eq d with e | e
      · refine ⟨-t, ?_, by rw [Int.natAbs_neg]; omega⟩
        rw [← e]
        generalize (d : Rat) = D at dq ⊢
        generalize ((-t : Int) : Rat) = A
        grind
      · refine ⟨t, ?_, by omega⟩
        have e2 : ((d.natAbs : Nat) : Int) = -d := by omega
        rw [e2, Rat.intCast_neg, Rat.intCast_neg]
        generalize (d : Rat) = D at dq ⊢
        generalize (t : Rat) = A
        grind
theorem os_of (f : FO b.frame b.size V) (n1 : 1 ≤ b.size) (n2 : b.size ≤ 16) (nm : namesOk b.names = true) (hM : ∀ r ∈ b.frame, ∀ j, (r.getD j 0).natAbs < 2 ^ 115)
    (hP : ∀ c ∈ nonE b.frame b.size, ∀ j, ((prim (prL b.frame b.size c)).getD j 0).natAbs ≤ P) (hb : bnd (nonE b.frame b.size).length P < 2 ^ 3900) : OsOk b := by
  have hne : ∀ i, i < b.frame.length → (b.frame.getD i []).getD ((pivL b.frame).getD i 0).toNat 0 ≠ 0 := fun i hi => (fo_pv f hi).2.2
  have ep : ∀ i, i < b.frame.length → (pivL b.frame).getD i 0 = (suppI (toQ (b.frame.getD i []))).getD 0 0 := fun i hi => by
    unfold pivL
    rw [List.getD_eq_getElem?_getD, List.getElem?_map, List.getElem?_eq_getElem hi, List.getD_eq_getElem?_getD (l := b.frame), List.getElem?_eq_getElem hi]; rfl
  have pv := fo_pvok f (by omega)
  have hlen : (nonE b.frame b.size).length ≤ 16 := by have := nonE_count f; omega
  refine ⟨pv, n2, fun c hc => ⟨pv, by omega, hc, f.len, fun i hi => by rw [← ep i hi]; exact fo_pv f hi, fun r hr x hx => ?_⟩, ⟨by show b.size ≤ 1000; omega, nm_len12 nm, fun _ _ => ⟨by show b.size ≤ 1000; omega, ?_, fun r hr => ?_, ?_⟩⟩, ⟨n1, n2⟩, nm⟩
  · obtain ⟨j, rfl⟩ := mem_getD0 hx
    exact Nat.lt_of_lt_of_le (lg_b (Nat.le_refl _) (hM r hr j) (by decide)) (by decide)
  · unfold prs; rw [List.length_map]; omega
  · obtain ⟨c, hc, rfl⟩ := List.mem_map.mp hr
    refine ⟨115, prN_sz hM (by decide) hne _ (Nat.le_refl _), ?_, ?_⟩
    · rw [prN_len]; omega
    · rw [prN_len]; omega
  · refine clrOk_of (M := P) (e := 3900) (by show b.size ≤ 1000; omega) (fun r hr => ?_) (fun r hr => ?_) (fun t ht j => ?_) ?_ ?_ (fun c hc => upto_mem.mp hc) (by decide) (by decide) ?_
    · obtain ⟨q, hq, rfl⟩ := List.mem_map.mp hr
      rw [prim_len]; exact prs_len _ _ q hq
    · obtain ⟨q, hq, rfl⟩ := List.mem_map.mp hr
      exact lw_prim q
    · obtain ⟨q, hq, rfl⟩ := List.mem_map.mp ht
      obtain ⟨c, hc, rfl⟩ := List.mem_map.mp hq
      exact hP c hc j
    · unfold prs; rw [List.length_map, List.length_map]; omega
    · rw [upto_len]; show b.size ≤ 1000; omega
    · unfold prs; rw [List.length_map, List.length_map]; exact hb
/-- the book's own other side -/
abbrev othB (b : Bk) : Bk := ⟨b.names, othF b.frame b.size⟩
theorem KOk.os (h : KOk b rows) : OsOk b := by
  obtain ⟨S, s⟩ := h.sy
  refine os_of h.f h.n1 h.n2 h.nm (fun r hr j => Nat.lt_of_le_of_lt (h.fsm r hr j) (Nat.lt_trans b8 (by decide))) (P := sg 8 1152) (fun c hc j => Nat.le_trans (s.prim hc j) (sg_mono h.fcount)) ?_
  have := nonE_count h.f
  have := h.n2
  exact Nat.lt_of_le_of_lt (bnd_mono (m := 16) (by omega)) (by unfold bnd sg; decide +kernel)
theorem KOk.ofo (h : KOk b rows) : FO (othB b).frame (othB b).size (orth b.size (Sp (rows.map vi))) := oth_fo h.f
theorem KOk.osm (h : KOk b rows) : ∀ r ∈ (othB b).frame, ∀ j, (r.getD j 0).natAbs < 2 ^ 115 := fun r hr j => by
  obtain ⟨S, s⟩ := h.sy
  exact Nat.lt_of_le_of_lt (s.oth r hr j) (Nat.lt_of_le_of_lt (sg_mono h.fcount) sg8)
theorem KOk.os2 (h : KOk b rows) : OsOk (othB b) := by
  obtain ⟨S, s⟩ := h.sy
  refine os_of h.ofo h.n1 h.n2 h.nm h.osm (P := bnd 8 1152) (fun c hc j => Nat.le_trans (s.prim2 hc j) (bnd_mono h.fcount)) ?_
  have h1 := nonE_count h.ofo
  have h2 := oth_count h.f
  have h3 := h.fcount
  have h1 : (nonE (othF b.frame b.size) b.size).length + (othF b.frame b.size).length = b.size := h1
  exact Nat.lt_of_le_of_lt (bnd_mono (n := (nonE (othF b.frame b.size) b.size).length) (m := 8) (by omega)) (by unfold bnd; decide +kernel)
theorem KOk.oo (h : KOk b rows) : othF (othB b).frame (othB b).size = b.frame := oth_oth h.f
theorem KOk.rank (h : KOk b rows) : R8 b.size rows := rank_drawn (by have := h.n2; omega) h.len h.m h.sm
theorem KOk.rank2 (h : KOk b rows) : R8 b.size (othB b).frame := rank_frame h.ofo h.n2 fun r hr j => lg_b (Nat.le_refl _) (Nat.lt_trans (h.osm r hr j) (by decide)) (by decide)
theorem KOk.pv (h : KOk b rows) : PvOk b := fo_pvok h.f (by have := h.n2; omega)
end
end DL

set_option Elab.async false
set_option linter.all false
set_option maxRecDepth 100000
set_option maxHeartbeats 4000000
/-! k01: the drawn rows, the frame that is told -/
namespace DL
open PySem PySem.Spec PyProof.Rows L2
section
variable {n many : Nat} {ds : List Int}
def rchY (ds : List Int) : Int := 2 + 7 * (if decide ((ds.getD 0 0).fmod 8 = 1) = true then 1 else 0)
theorem rchY_b (ds : List Int) : 2 ≤ rchY ds ∧ rchY ds ≤ 9 := by
  unfold rchY
  split <;> omega
def yB (n : Nat) (ds : List Int) (k : Nat) : List Int := (List.range n).map fun j : Nat => (ds.getD (2 + (k : Int) * (n : Int) + (j : Int)).toNat 0).fmod (2 * rchY ds + 1) - rchY ds
def yA (n : Nat) (ds : List Int) (k : Nat) (prev : List Int) : List Int := if (decide ((k : Int) > 0) && decide ((ds.getD 1 0).fmod 5 = 1)) = true then prev.map (fun x => 2 * x) else yB n ds k
def yC (n : Nat) (ds : List Int) (k : Nat) (prev : List Int) : List Int := if (decide ((k : Int) > 0) && decide ((ds.getD 1 0).fmod 7 = 1)) = true then (yA n ds k prev).map (fun _ => 0) else yA n ds k prev
def yR (n : Nat) (ds : List Int) : Nat → List Int
  | 0 => yC n ds 0 []
  | k + 1 => yC n ds (k + 1) (yR n ds k)
def yL (n : Nat) (ds : List Int) (i : Nat) : List (List Int) := (List.range i).map (yR n ds)
theorem yL_len (i : Nat) : (yL n ds i).length = i := by unfold yL; rw [List.length_map, List.length_range]
theorem yA_t {k : Nat} {prev : List Int} (h : (decide ((k : Int) > 0) && decide ((ds.getD 1 0).fmod 5 = 1)) = true) : prev.map (fun x => 2 * x) = yA n ds k prev := (if_pos h).symm
theorem yA_f {k : Nat} {prev : List Int} (h : (decide ((k : Int) > 0) && decide ((ds.getD 1 0).fmod 5 = 1)) = false) : yB n ds k = yA n ds k prev := (if_neg (by rw [h]; exact Bool.false_ne_true)).symm
theorem yC_t {k : Nat} {prev : List Int} (h : (decide ((k : Int) > 0) && decide ((ds.getD 1 0).fmod 7 = 1)) = true) : (yA n ds k prev).map (fun _ => 0) = yC n ds k prev := (if_pos h).symm
theorem yC_f {k : Nat} {prev : List Int} (h : (decide ((k : Int) > 0) && decide ((ds.getD 1 0).fmod 7 = 1)) = false) : yA n ds k prev = yC n ds k prev := (if_neg (by rw [h]; exact Bool.false_ne_true)).symm
theorem yL_at {i k : Nat} (h : k < i) : (yL n ds i).getD k [] = yR n ds k := by
  unfold yL
  rw [List.getD_eq_getElem?_getD, List.getElem?_map, List.getElem?_range h]; rfl
abbrev yP (n : Nat) (ds : List Int) (i : Nat) : List Int := (yL n ds i).getD ((i : Int) - 1).toNat []
theorem yR_is (i : Nat) : yC n ds i (yP n ds i) = yR n ds i := by
  cases i with
  | zero =>
    have e : ∀ p q : List Int, yC n ds 0 p = yC n ds 0 q := fun p q => by unfold yC yA; simp
    exact e _ _
  | succ i =>
    show yC n ds (i + 1) ((yL n ds (i + 1)).getD (((i + 1 : Nat) : Int) - 1).toNat []) = yC n ds (i + 1) (yR n ds i)
    rw [show ((((i + 1 : Nat) : Int) - 1)).toNat = i by omega, yL_at (Nat.lt_succ_self i)]
theorem yL_step (i : Nat) : yL n ds i ++ [yC n ds i (yP n ds i)] = yL n ds (i + 1) := by
  rw [yR_is]
  unfold yL
  rw [List.range_succ, List.map_append]; rfl
theorem yx {k j : Nat} (hk : k < many) (hj : j < n) (h : many * n ≤ 58) (hl : ds.length = 60) : 0 ≤ 2 + (k : Int) * (n : Int) + (j : Int) ∧ 2 + (k : Int) * (n : Int) + (j : Int) < (ds.length : Int) := by
  have h1 := Nat.mul_le_mul_right n (show k + 1 ≤ many by omega)
  rw [Nat.add_mul, Nat.one_mul] at h1
  have e : (k : Int) * (n : Int) = ((k * n : Nat) : Int) := (Int.natCast_mul ..).symm
  rw [e]
  omega
theorem yB_b (k : Nat) : (yB n ds k).length = n ∧ ∀ x ∈ yB n ds k, x.natAbs ≤ 9 := by
  refine ⟨by unfold yB; simp, fun x hx => ?_⟩
  obtain ⟨j, _, rfl⟩ := List.mem_map.mp hx
  have hb := rchY_b ds
  have h1 := Int.fmod_nonneg_of_pos (ds.getD (2 + (k : Int) * (n : Int) + (j : Int)).toNat 0) (show (0 : Int) < 2 * rchY ds + 1 by omega)
  have h2 := Int.fmod_lt_of_pos (ds.getD (2 + (k : Int) * (n : Int) + (j : Int)).toNat 0) (show (0 : Int) < 2 * rchY ds + 1 by omega)
  omega
theorem yC_b {k : Nat} {prev : List Int} {B : Nat} (hp : prev.length = n ∨ k = 0) (hB : ∀ x ∈ prev, x.natAbs ≤ B) : (yC n ds k prev).length = n ∧ ∀ x ∈ yC n ds k prev, x.natAbs ≤ max 9 (2 * B) := by
  have hA : (yA n ds k prev).length = n ∧ ∀ x ∈ yA n ds k prev, x.natAbs ≤ max 9 (2 * B) := by
    unfold yA
    split
    · rename_i h
      have h0 := of_decide_eq_true ((Bool.and_eq_true _ _).mp h).1
      have hp : prev.length = n := hp.resolve_right (by omega)
      refine ⟨by rw [List.length_map]; exact hp, fun x hx => ?_⟩
      obtain ⟨y, hy, rfl⟩ := List.mem_map.mp hx
      have := hB y hy
      rw [Int.natAbs_mul]
      exact Nat.le_trans (Nat.mul_le_mul_left 2 this) (Nat.le_max_right ..)
    · exact ⟨(yB_b k).1, fun x hx => Nat.le_trans ((yB_b k).2 x hx) (Nat.le_max_left ..)⟩
  unfold yC
  split
  · refine ⟨by rw [List.length_map]; exact hA.1, fun x hx => ?_⟩
    obtain ⟨y, hy, rfl⟩ := List.mem_map.mp hx
    exact Nat.zero_le _
  · exact hA
theorem yR_b : ∀ k, (yR n ds k).length = n ∧ ∀ x ∈ yR n ds k, x.natAbs ≤ 9 * 2 ^ k
  | 0 => ⟨(yC_b (B := 0) (.inr rfl) fun x h => (List.not_mem_nil h).elim).1, fun x hx => (yC_b (B := 0) (.inr rfl) fun x h => (List.not_mem_nil h).elim).2 x hx⟩
  | k + 1 => by
    obtain ⟨h1, h2⟩ := yR_b k
    obtain ⟨h3, h4⟩ := yC_b (n := n) (ds := ds) (k := k + 1) (.inl h1) h2
    refine ⟨h3, fun x hx => Nat.le_trans (h4 x hx) ?_⟩
    have : 0 < 2 ^ k := Nat.pow_pos (by decide)
    rw [Nat.pow_succ]
    omega
theorem yL_b (hm : many ≤ 8) : (∀ r ∈ yL n ds many, r.length = n) ∧ ∀ r ∈ yL n ds many, ∀ j, (r.getD j 0).natAbs ≤ 1152 := by
  refine ⟨fun r hr => ?_, fun r hr j => ?_⟩
  all_goals
    obtain ⟨k, hk, rfl⟩ := List.mem_map.mp hr
    have hk := List.mem_range.mp hk
    obtain ⟨h1, h2⟩ := yR_b (n := n) (ds := ds) k
  · exact h1
  · by_cases hj : j < (yR n ds k).length
    · refine Nat.le_trans (h2 _ (getD_memI hj)) ?_
      have : 2 ^ k ≤ 2 ^ 7 := Nat.pow_le_pow_right (by decide) (by omega)
      omega
    · rw [getD_ge (by omega)]; exact Nat.zero_le _
theorem yP_b {i : Nat} (hi : i < many) (hm : many ≤ 8) : ∀ x ∈ yP n ds i, x.natAbs ≤ 1152 := fun x hx => by
  by_cases h : ((i : Int) - 1).toNat < (yL n ds i).length
  · have := getD_memL h
    obtain ⟨j, rfl⟩ := mem_getD0 hx
    exact (yL_b (n := n) (ds := ds) (many := i) (by omega)).2 _ this j
  · have e : yP n ds i = [] := by
      unfold yP
      rw [List.getD_eq_getElem?_getD, List.getElem?_eq_none (by omega)]; rfl
    rw [e] at hx; cases hx
theorem yP_l (i : Nat) (h : n ≤ 16) : (yP n ds i).length ≤ 16 := by
  by_cases h2 : ((i : Int) - 1).toNat < (yL n ds i).length
  · have h3 := getD_memL h2
    obtain ⟨k, _, e⟩ := List.mem_map.mp h3
    rw [show yP n ds i = yR n ds k from e.symm, (yR_b k).1]; exact h
  · unfold yP
    rw [List.getD_eq_getElem?_getD, List.getElem?_eq_none (by omega)]; exact Nat.zero_le _
theorem yA_l (i : Nat) (h : n ≤ 16) : (yA n ds i (yP n ds i)).length ≤ 16 := by
  unfold yA
  split
  · rw [List.length_map]; exact yP_l i h
  · rw [(yB_b i).1]; exact h
end
/-! heads -/
def hd1 (row : List Int) : Nat → Int
  | 0 => -1
  | k + 1 => if (decide (hd1 row k = -1) && !decide (row.getD k 0 = 0)) = true then (k : Int) else hd1 row k
theorem hd1_t {row : List Int} {k : Nat} (h : (decide (hd1 row k = -1) && !decide (row.getD k 0 = 0)) = true) : (k : Int) = hd1 row (k + 1) := (if_pos h).symm
theorem hd1_f {row : List Int} {k : Nat} (h : (decide (hd1 row k = -1) && !decide (row.getD k 0 = 0)) = false) : hd1 row k = hd1 row (k + 1) := (if_neg (by rw [h]; exact Bool.false_ne_true)).symm
theorem hd1_is {row : List Int} {p : Nat} (hz : ∀ d, d < p → row.getD d 0 = 0) (hp : row.getD p 0 ≠ 0) : ∀ k, hd1 row k = if k ≤ p then -1 else (p : Int)
  | 0 => by rw [if_pos (Nat.zero_le p)]; rfl
  | k + 1 => by
    have ih := hd1_is hz hp k
    by_cases h1 : k < p
    · rw [← hd1_f (by rw [hz k h1]; simp), ih, if_pos (by omega), if_pos (by omega)]
    · by_cases h2 : k = p
      · subst h2
        rw [← hd1_t (by rw [ih, if_pos (Nat.le_refl k), decide_eq_false hp]; rfl), if_neg (by omega)]
      · rw [← hd1_f (by rw [ih, if_neg (by omega), decide_eq_false (by omega)]; rfl), ih, if_neg (by omega), if_neg (by omega)]
section
variable {b : Bk} {F : List (List Int)} {n : Nat} {V : Vc → Prop}
theorem frh (f : FO F n V) {i : Nat} (hi : i < F.length) : gl ((F.getD i []).take n) = 1 ∧ hd1 (F.getD i []) n = (pivL F).getD i 0 ∧ 0 < (F.getD i []).getD ((pivL F).getD i 0).toNat 0 := by
  obtain ⟨k1, k2, k3, k4⟩ := fo_head f hi
  obtain ⟨l1, l2⟩ := fo_lead f hi
  refine ⟨by rw [List.take_of_length_le (by rw [f.len _ (getD_memL hi)]; exact Nat.le_refl n)]; exact l1, ?_, by rw [piv_at f hi]; exact l2⟩
  rw [hd1_is (fun d hd => vi_zero.mp (k4 d hd)) (fun z => k2 (vi_zero.mpr z)), if_neg (by omega), (piv_eq f hi).1]
theorem piv_up (f : FO F n V) {i j : Nat} (hij : i < j) (hj : j < F.length) : (pivL F).getD i 0 < (pivL F).getD j 0 := by
  rw [(piv_eq f (by omega)).1, (piv_eq f hj).1]
  have s : (gre V [] (List.range n)).Pairwise (· < ·) := List.Pairwise.sublist (gre_sublist V (List.range n) []) List.pairwise_lt_range
  have hl := f.count
  have := List.pairwise_iff_getElem.mp s i j (by omega) (by omega) hij
  rw [List.getD_eq_getElem?_getD, List.getD_eq_getElem?_getD, List.getElem?_eq_getElem (by omega), List.getElem?_eq_getElem (by omega)]
  exact Int.ofNat_lt.mpr this
/-- how many entries are not 0 in a row of the frame -/
theorem fr_one (f : FO F n V) {i : Nat} (hi : i < F.length) : ((pivL F).filter fun p => !decide ((F.getD i []).getD p.toNat 0 = 0)).length = 1 := by
  have e : (pivL F).filter (fun p => !decide ((F.getD i []).getD p.toNat 0 = 0)) = (pivL F).filter fun p => decide (p = (pivL F).getD i 0) := by
    refine List.filter_congr fun p hp => ?_
    obtain ⟨j, hj, rfl⟩ := List.mem_iff_getElem.mp hp
    rw [pivL_len] at hj
    have ej : (pivL F)[j]'(by rw [pivL_len]; exact hj) = (pivL F).getD j 0 := by rw [List.getD_eq_getElem?_getD, List.getElem?_eq_getElem (by rw [pivL_len]; exact hj)]; rfl
    rw [ej]
    obtain ⟨k1, k2, k3, k4⟩ := fo_head f hi
    by_cases h : j = i
    · subst h
      rw [decide_eq_true rfl, piv_at f hi, decide_eq_false (fun z => k2 (vi_zero.mpr z))]; rfl
    · have h0 : (F.getD i []).getD ((pivL F).getD j 0).toNat 0 = 0 := by
        rw [piv_at f hj]
        exact vi_zero.mp (k3 _ (gre_mem f hj) (gre_ne f hj hi h))
      rw [decide_eq_true h0, decide_eq_false fun z => ?_]
      · rfl
      · rcases Nat.lt_or_gt_of_ne h with q | q
        · have := piv_up f q hi; omega
        · have := piv_up f q hj; omega
  have nd : (pivL F).Nodup := by
    refine List.pairwise_iff_getElem.mpr fun i j hi hj hij e => ?_
    rw [pivL_len] at hi hj
    have := piv_up f hij hj
    rw [List.getD_eq_getElem?_getD, List.getD_eq_getElem?_getD, List.getElem?_eq_getElem (by rw [pivL_len]; exact hi), List.getElem?_eq_getElem (by rw [pivL_len]; exact hj)] at this
    have this : (pivL F)[i]'(by rw [pivL_len]; exact hi) < (pivL F)[j]'(by rw [pivL_len]; exact hj) := this
    omega
  have m : (pivL F).getD i 0 ∈ pivL F := getD_memI (by rw [pivL_len]; exact hi)
  rw [e]
  have : (pivL F).filter (fun p => decide (p = (pivL F).getD i 0)) = [(pivL F).getD i 0] := by
    generalize (pivL F).getD i 0 = a at m
    generalize pivL F = l at nd m
    clear e
    induction l with
    | nil => cases m
    | cons x l ih =>
      obtain ⟨n1, n2⟩ := List.nodup_cons.mp nd
      rw [List.filter_cons]
      by_cases h : x = a
      · subst h
        rw [if_pos (decide_eq_true rfl), List.filter_eq_nil_iff.mpr fun y hy => ?_]
        simp
        exact fun z => n1 (by rw [← z]; exact hy)
      · rw [if_neg (by simp [h])]
        exact ih n2 ((List.mem_cons.mp m).resolve_left fun z => h z.symm)
  rw [this]; rfl
end
end DL

set_option Elab.async false
set_option linter.all false
set_option maxRecDepth 100000
set_option maxHeartbeats 4000000
/-! k01: rows are sums of the frame's rows; how large the sums are -/
namespace DL
open PySem PySem.Spec PyProof.Rows L2
section
variable {F S : List (List Int)} {n M : Nat} {V : Vc → Prop} {b : Bk} {rows : List (List Int)}
/-- the entries of a column over their leads have a common bottom -/
theorem Sy.ratio (s : Sy F n M V S) (c : Nat) : ∃ D : Nat, D ≠ 0 ∧ D ≤ sg F.length M ∧ ∀ i, i < F.length → Gd D (sg F.length M) (((((F.getD i []).getD c 0 : Int)) : Rat) / (((F.getD i []).getD ((pivL F).getD i 0).toNat 0 : Int) : Rat)) := by
  have hl := s.f.count
  obtain ⟨d, cs, h0, h1, h2, h3, h4⟩ := sieg_cols (c := c) s.f.dg (fun x => (s.f.span x).trans (s.sp x)) (by rw [s.k, hl]) s.m
  rw [← hl] at h1 h2 h3 h4
  refine ⟨d.natAbs, by omega, h1, fun i hi => ?_⟩
  have e := h4 i hi
  have hne := (fo_head s.f hi).2.1
  rw [piv_at s.f hi]
  show Gd _ _ (vi (F.getD i []) c / vi (F.getD i []) ((gre V [] (List.range n)).getD i 0))
  have key : vi (F.getD i []) c / vi (F.getD i []) ((gre V [] (List.range n)).getD i 0) * (d : Rat) = ((-(cs.getD i 0) : Int) : Rat) := by
    rw [Rat.intCast_neg]
    generalize vi (F.getD i []) c = a at e ⊢
    generalize vi (F.getD i []) ((gre V [] (List.range n)).getD i 0) = b at e hne ⊢
    grind
  have hb : (cs.getD i 0).natAbs ≤ sg F.length M := h2 _ (getD_memI (by omega))
  rcases Int.natAbs_eq d with hd | hd
  · refine ⟨-(cs.getD i 0), ?_, by rw [Int.natAbs_neg]; exact hb⟩
    rw [← hd]
    exact key
  · refine ⟨cs.getD i 0, ?_, hb⟩
    have hd2 : ((d.natAbs : Nat) : Int) = -d := by omega
    rw [hd2, Rat.intCast_neg]
    rw [Rat.intCast_neg] at key
    grind
/-- a factor, the sum so far -/
def fcK (F : List (List Int)) (row : List Int) (k : Nat) : Rat := ((row.getD ((pivL F).getD k 0).toNat 0 : Int) : Rat) / (((F.getD k []).getD ((pivL F).getD k 0).toNat 0 : Int) : Rat)
def dueN (F : List (List Int)) (row : List Int) (n : Nat) : Nat → List Rat
  | 0 => (List.range n).map fun _ => ((0 : Int) : Rat)
  | i + 1 => (List.range n).map fun j => (dueN F row n i).getD j 0 + (((F.getD i []).getD j 0 : Int) : Rat) * fcK F row i
theorem dueN_len (F : List (List Int)) (row : List Int) (n : Nat) : ∀ i, (dueN F row n i).length = n
  | 0 => by unfold dueN; simp
  | i + 1 => by unfold dueN; simp
def dueI (F : List (List Int)) (row : List Int) (j : Nat) : Nat → Rat
  | 0 => 0
  | i + 1 => dueI F row j i + (((F.getD i []).getD j 0 : Int) : Rat) * fcK F row i
theorem dueN_at {row : List Int} {j : Nat} (hj : j < n) : ∀ i, (dueN F row n i).getD j 0 = dueI F row j i
  | 0 => by
    unfold dueN
    rw [List.getD_eq_getElem?_getD, List.getElem?_map, List.getElem?_range hj]; rfl
  | i + 1 => by
    unfold dueN
    rw [List.getD_eq_getElem?_getD, List.getElem?_map, List.getElem?_range hj]
    show (dueN F row n i).getD j 0 + _ = dueI F row j i + _
    rw [dueN_at hj i]
theorem dueI_gd {row : List Int} {D B R : Nat} {j : Nat} (h : ∀ i, i < F.length → Gd D B (((((F.getD i []).getD j 0 : Int)) : Rat) / (((F.getD i []).getD ((pivL F).getD i 0).toNat 0 : Int) : Rat))) (hR : ∀ j, (row.getD j 0).natAbs ≤ R) : ∀ i, i ≤ F.length → Gd D (i * (B * R)) (dueI F row j i)
  | 0, _ => gd_zero
  | i + 1, hi => by
    have g := gd_mul (h i (by omega)) (int_gd (hR ((pivL F).getD i 0).toNat))
    rw [Nat.mul_one] at g
    have e : (((F.getD i []).getD j 0 : Int) : Rat) / (((F.getD i []).getD ((pivL F).getD i 0).toNat 0 : Int) : Rat) * ((row.getD ((pivL F).getD i 0).toNat 0 : Int) : Rat) = (((F.getD i []).getD j 0 : Int) : Rat) * fcK F row i := by
      unfold fcK
      rw [Rat.div_def, Rat.div_def]; grind
    rw [e] at g
    exact gd_mono (gd_add (dueI_gd h hR i (by omega)) g) (by rw [Nat.add_mul, Nat.one_mul]; exact Nat.le_refl _)
theorem dueI_Q (f : FO F n V) {row : List Int} (c : Nat) : ∀ i, i ≤ F.length → dueI F row c i = sumQ (F.take i) ((gre V [] (List.range n)).take i) (vi row) c
  | 0, _ => rfl
  | i + 1, hi => by
    have hl := f.count
    have ih := dueI_Q f (row := row) c i (by omega)
    rw [take_snoc (d := []) (show i < F.length by omega), take_snoc (d := 0) (show i < (gre V [] (List.range n)).length by omega), sumQ_snoc (by rw [List.length_take, List.length_take]; omega), ← ih]
    show dueI F row c i + _ * fcK F row i = _
    unfold fcK
    rw [piv_at f (by omega)]
    show dueI F row c i + vi (F.getD i []) c * (vi row ((gre V [] (List.range n)).getD i 0) / vi (F.getD i []) ((gre V [] (List.range n)).getD i 0)) = _
    rw [Rat.div_def, Rat.div_def]; grind
theorem due_is (f : FO F n V) {row : List Int} (hl : row.length = n) (hv : V (vi row)) : dueN F row n F.length = toQ row := by
  apply List.ext_getElem?
  intro j
  by_cases hj : j < n
  · have e := dueN_at (F := F) (row := row) hj F.length
    have hc : (gre V [] (List.range n)).take F.length = gre V [] (List.range n) := List.take_of_length_le (by rw [f.count]; exact Nat.le_refl _)
    rw [dueI_Q f j _ (Nat.le_refl _), List.take_length, hc, ← (mem_sum f _).mp hv j] at e
    rw [List.getD_eq_getElem?_getD, List.getElem?_eq_getElem (by rw [dueN_len]; exact hj)] at e
    rw [List.getElem?_eq_getElem (by rw [dueN_len]; exact hj), List.getElem?_eq_getElem (by rw [toQ_len]; omega)]
    have e : (dueN F row n F.length)[j]'(by rw [dueN_len]; exact hj) = vi row j := e
    rw [e]
    unfold toQ
    rw [List.getElem_map]
    unfold vi
    rw [List.getD_eq_getElem?_getD, List.getElem?_eq_getElem (by omega)]; rfl
  · rw [List.getElem?_eq_none (by rw [dueN_len]; omega), List.getElem?_eq_none (by rw [toQ_len]; omega)]
/-! what the law's helpers ask -/
theorem sg_lt (h : KOk b rows) : sg b.frame.length 1152 < 2 ^ 115 := Nat.lt_of_le_of_lt (sg_mono h.fcount) sg8
theorem KOk.due (h : KOk b rows) {row : List Int} (hr : row ∈ rows) {i j : Nat} (hi : i ≤ b.frame.length) (hj : j < b.size) : Sz 140 ((dueN b.frame row b.size i).getD j 0) := by
  obtain ⟨S, s⟩ := h.sy
  obtain ⟨D, d0, d1, dg⟩ := s.ratio j
  have lt := sg_lt h
  have hc := h.fcount
  rw [dueN_at hj]
  refine gd_sz (dueI_gd dg (h.sm row hr) i hi) d0 (Nat.lt_of_le_of_lt d1 (Nat.lt_trans lt (by decide))) ?_
  have h1 : i * (sg b.frame.length 1152 * 1152) ≤ 8 * (sg b.frame.length 1152 * 1152) := Nat.mul_le_mul_right _ (by omega)
  omega
theorem KOk.fi (h : KOk b rows) {i : Nat} (hi : i < b.frame.length) (j : Nat) : Lg ((b.frame.getD i []).getD j 0) ≤ 112 := Nat.le_of_lt_succ (lg_b (h.fsm _ (getD_memL hi) j) b8 (by decide))
theorem fc_eq {F : List (List Int)} {row : List Int} {k : Nat} : (((((row.getD ((pivL F).getD k 0).toNat 0 : Int) : Rat).num : Int)) : Rat) / ((((((row.getD ((pivL F).getD k 0).toNat 0 : Int) : Rat).den : Nat) : Int) * ((F.getD k []).getD ((pivL F).getD k 0).toNat 0) : Int) : Rat) = fcK F row k := by
  unfold fcK
  rw [Rat.num_intCast, Rat.den_intCast, show (((1 : Nat) : Int)) = 1 from rfl, Int.one_mul]
theorem KOk.fc (h : KOk b rows) {row : List Int} (hr : row ∈ rows) {k : Nat} (hk : k < b.frame.length) : Sz 112 (fcK b.frame row k) := by
  unfold fcK
  have hne := (fo_pv h.f hk).2.2
  have h1 := h.fsm _ (getD_memL hk) ((pivL b.frame).getD k 0).toNat
  have h2 := h.sm row hr ((pivL b.frame).getD k 0).toNat
  have lt := b8
  generalize (b.frame.getD k []).getD ((pivL b.frame).getD k 0).toNat 0 = d at hne h1 ⊢
  generalize row.getD ((pivL b.frame).getD k 0).toNat 0 = t at h2 ⊢
  have dq : (d : Rat) ≠ 0 := by exact_mod_cast hne
  refine gd_sz (M := d.natAbs) (B := t.natAbs) ?_ (by omega) (by omega) (Nat.lt_of_le_of_lt h2 (by decide))
  rcases Int.natAbs_eq d with e | e
  · refine ⟨t, ?_, Nat.le_refl _⟩
    rw [← e]
    generalize (d : Rat) = D at dq ⊢
    generalize (t : Rat) = A
    grind
  · refine ⟨-t, ?_, by omega⟩
    have e2 : ((d.natAbs : Nat) : Int) = -d := by omega
    rw [e2, Rat.intCast_neg, Rat.intCast_neg]
    generalize (d : Rat) = D at dq ⊢
    generalize (t : Rat) = A
    grind
theorem due0_lc {K : PySem.W.Frag} {row : List Int} (hl : row.length = n) : List.map (fun _ : Nat => rNum K ((0 : Int) : Rat)) (List.filter (fun _ => true) (List.range row.length)) = List.map (rNum K) (dueN F row n 0) := by
  rw [List.filter_eq_self.mpr (fun _ _ => rfl), hl]
  unfold dueN
  rw [List.map_map]; rfl
theorem dueS_lc {K : PySem.W.Frag} {row : List Int} {i : Nat} (hl : row.length = n) : List.map (fun j : Nat => rNum K ((dueN F row n i).getD j 0 + (((F.getD i []).getD j 0 : Int) : Rat) * fcK F row i)) (List.filter (fun _ => true) (List.range ((row.length : Nat) : Int).toNat)) = List.map (rNum K) (dueN F row n (i + 1)) := by
  rw [List.filter_eq_self.mpr (fun _ _ => rfl), Int.toNat_natCast, hl]
  conv => rhs; unfold dueN
  rw [List.map_map]; rfl
/-- the tests of a told frame -/
theorem frt3 (f : FO F n V) {i : Nat} (hi : i < F.length) : ((!decide ((((gl ((F.getD i []).take n) : Nat)) : Int) = 1)) || (decide ((F.getD i []).getD (hd1 (F.getD i []) n).toNat 0 ≤ 0) || (decide (0 < (((pivL F).take i).length : Int)) && decide (hd1 (F.getD i []) n ≤ ((pivL F).take i).getD (ixZ ((pivL F).take i).length (-1)) 0)))) = false := by
  obtain ⟨h1, h2, h3⟩ := frh f hi
  rw [h1, h2, show decide ((((1 : Nat)) : Int) = 1) = true from rfl, decide_eq_false (show ¬ ((F.getD i []).getD ((pivL F).getD i 0).toNat 0 ≤ 0) by omega)]
  have hl : ((pivL F).take i).length = i := by rw [List.length_take, pivL_len]; omega
  rw [hl]
  by_cases h : 0 < i
  · have e : ixZ i (-1) = i - 1 := by unfold ixZ; rw [if_neg (by omega)]; omega
    have e2 : ((pivL F).take i).getD (i - 1) 0 = (pivL F).getD (i - 1) 0 := by
      rw [List.getD_eq_getElem?_getD, List.getD_eq_getElem?_getD, List.getElem?_take_of_lt (by omega)]
    rw [e, e2, decide_eq_false (show ¬ ((pivL F).getD i 0 ≤ (pivL F).getD (i - 1) 0) from by have := piv_up f (show i - 1 < i by omega) hi; omega)]
    simp
  · rw [decide_eq_false (show ¬ (0 < (i : Int)) by omega)]; rfl
theorem frx (f : FO F n V) {i : Nat} (hi : i < F.length) (h : decide (0 < (((((pivL F).take i).map rInt).length : Nat) : Int)) = true) : -((((pivL F).take i).length : Nat) : Int) ≤ -1 := by
  have := of_decide_eq_true h
  rw [List.length_map] at this
  omega
theorem spn_mk (h : KOk b rows) {row : List Int} (hr : row ∈ rows) {k : Nat} (hk : k < b.frame.length) : ((((((row.getD ((pivL b.frame).getD k 0).toNat 0 : Int) : Rat).den : Nat)) : Int) * ((b.frame.getD k []).getD ((pivL b.frame).getD k 0).toNat 0)) ≠ 0 ∧ Lg ((row.getD ((pivL b.frame).getD k 0).toNat 0 : Int) : Rat).num < 990 ∧ Lg ((((((row.getD ((pivL b.frame).getD k 0).toNat 0 : Int) : Rat).den : Nat)) : Int) * ((b.frame.getD k []).getD ((pivL b.frame).getD k 0).toNat 0)) < 990 := by
  rw [Rat.num_intCast, Rat.den_intCast, show (((1 : Nat) : Int)) = 1 from rfl, Int.one_mul]
  exact ⟨(fo_pv h.f hk).2.2, Nat.lt_trans (lg_b (h.sm row hr _) (show (1152 : Nat) < 2 ^ 11 by decide) (by decide)) (by decide), Nat.lt_of_le_of_lt (h.fi hk _) (by decide)⟩
end
end DL

set_option Elab.async false
set_option linter.all false
set_option maxRecDepth 100000
set_option maxHeartbeats 4000000
/-! k01: the frame that is told -/
namespace DL
open PySem PySem.Spec PyProof.Rows L2
section
variable {b : Bk} {rows : List (List Int)}
theorem frg (h : KOk b rows) {i : Nat} (hi : i < b.frame.length) (j k : Nat) : Lg ((gl ((b.frame.getD i []).take j) : Nat) : Int) < 990 ∧ Lg ((b.frame.getD i []).getD k 0) < 990 :=
  ⟨Nat.lt_trans (gl_lgT (m := 113) (fun j => Nat.lt_of_le_of_lt (h.fi hi j) (by decide)) (by decide)) (by decide), Nat.lt_of_le_of_lt (h.fi hi k) (by decide)⟩
theorem flt_lc {l : List Int} {f : Int → Bool} : List.map (fun i : Nat => rInt (l.getD i 0)) (List.filter (fun i : Nat => f (l.getD i 0)) (List.range l.length)) = List.map rInt (l.filter f) := by
  have e : ∀ l : List Int, ((List.range l.length).filter fun i : Nat => f (l.getD i 0)).map (fun i : Nat => l.getD i 0) = l.filter f := fun l => by
    induction l using snoc_ind with
    | nil => rfl
    | snoc l a ih =>
      rw [List.length_append, List.length_singleton, List.range_succ, List.filter_append, List.filter_append, List.map_append, ← ih]
      have h0 : (l ++ [a]).getD l.length 0 = a := by rw [List.getD_eq_getElem?_getD, List.getElem?_append_right (Nat.le_refl _), Nat.sub_self]; rfl
      have h1 : ∀ i ∈ List.range l.length, (l ++ [a]).getD i 0 = l.getD i 0 := fun i hi => by
        have := List.mem_range.mp hi
        rw [List.getD_eq_getElem?_getD, List.getD_eq_getElem?_getD, List.getElem?_append_left this]
      congr 1
      · rw [List.filter_congr (q := fun i : Nat => f (l.getD i 0)) fun i hi => by rw [h1 i hi]]
        exact List.map_congr_left fun i hi => h1 i (List.mem_filter.mp hi).1
      · rw [List.filter_cons, h0, List.filter_cons]
        split
        · rw [List.filter_nil, List.filter_nil, List.map_singleton, h0]
        · rfl
  rw [← e l, List.map_map]; rfl
end
end DL

set_option Elab.async false
set_option linter.all false
set_option maxRecDepth 100000
set_option maxHeartbeats 4000000
/-! k01: drawn sums of rows, one number changed -/
namespace DL
open PySem PySem.Spec PyProof.Rows L2
section
variable {n : Nat} {ds : List Int} {rows F : List (List Int)} {b : Bk} {V : Vc → Prop}
def fY (ds : List Int) (k : Nat) : Rat := (((ds.getD k 0).fmod 19 - 9 : Int) : Rat) / ((1 + (ds.getD (8 + (k : Int)).toNat 0).fmod 7 : Int) : Rat)
def tyN (rows : List (List Int)) (ds : List Int) (n : Nat) : Nat → List Rat
  | 0 => (List.range n).map fun _ => ((0 : Int) : Rat)
  | i + 1 => (List.range n).map fun j => (tyN rows ds n i).getD j 0 + (((rows.getD i []).getD j 0 : Int) : Rat) * fY ds i
abbrev tyL (rows : List (List Int)) (ds : List Int) (n : Nat) : List Rat := tyN rows ds n rows.length
theorem tyN_len : ∀ i, (tyN rows ds n i).length = n
  | 0 => by unfold tyN; simp
  | i + 1 => by unfold tyN; simp
theorem ty0_lc {K : PySem.W.Frag} : List.map (fun _ : Nat => rNum K ((0 : Int) : Rat)) (List.filter (fun _ => true) (List.range ((n : Nat) : Int).toNat)) = List.map (rNum K) (tyN rows ds n 0) := by
  rw [List.filter_eq_self.mpr (fun _ _ => rfl), Int.toNat_natCast]
  unfold tyN
  rw [List.map_map]; rfl
theorem tyS_lc {K : PySem.W.Frag} {i : Nat} : List.map (fun j : Nat => rNum K ((tyN rows ds n i).getD j 0 + (((rows.getD i []).getD j 0 : Int) : Rat) * fY ds i)) (List.filter (fun _ => true) (List.range ((n : Nat) : Int).toNat)) = List.map (rNum K) (tyN rows ds n (i + 1)) := by
  rw [List.filter_eq_self.mpr (fun _ _ => rfl), Int.toNat_natCast]
  conv => rhs; unfold tyN
  rw [List.map_map]; rfl
theorem fm_bY (x : Int) {m : Int} (h : 0 < m) : 0 ≤ x.fmod m ∧ x.fmod m < m := ⟨Int.fmod_nonneg_of_pos _ h, Int.fmod_lt_of_pos _ h⟩
theorem fY_gd (ds : List Int) (k : Nat) : Gd 420 3780 (fY ds k) := by
  have h1 := fm_bY (ds.getD k 0) (show (0 : Int) < 19 by decide)
  have h2 := fm_bY (ds.getD (8 + (k : Int)).toNat 0) (show (0 : Int) < 7 by decide)
  unfold fY
  generalize (ds.getD k 0).fmod 19 = a at h1 ⊢
  generalize (ds.getD (8 + (k : Int)).toNat 0).fmod 7 = c at h2 ⊢
  refine gd_div (by omega) ?_ (by omega)
  have : c = 0 ∨ c = 1 ∨ c = 2 ∨ c = 3 ∨ c = 4 ∨ c = 5 ∨ c = 6 := by omega
  rcases this with h | h | h | h | h | h | h <;> (subst h; decide)
theorem tyN_gd (hs : ∀ r ∈ rows, ∀ j, (r.getD j 0).natAbs ≤ 1152) : ∀ i, i ≤ rows.length → ∀ j, j < n → Gd 420 (i * 4354560) ((tyN rows ds n i).getD j 0)
  | 0, _, j, hj => by
    unfold tyN
    rw [List.getD_eq_getElem?_getD, List.getElem?_map, List.getElem?_range hj]
    exact gd_zero
  | i + 1, hi, j, hj => by
    have e : (tyN rows ds n (i + 1)).getD j 0 = (tyN rows ds n i).getD j 0 + (((rows.getD i []).getD j 0 : Int) : Rat) * fY ds i := by
      conv => lhs; unfold tyN
      rw [List.getD_eq_getElem?_getD, List.getElem?_map, List.getElem?_range hj]; rfl
    rw [e]
    have g := gd_mul (int_gd (hs _ (getD_memL (show i < rows.length by omega)) j)) (fY_gd ds i)
    exact gd_mono (gd_add (tyN_gd hs i (by omega) j hj) (by simpa using g)) (by omega)
theorem tyN_sp (hl : ∀ r ∈ rows, r.length = n) : ∀ i, i ≤ rows.length → Sp (rows.map vi) (vq (tyN rows ds n i))
  | 0, _ => sp_zero fun j => by
    unfold vq tyN
    rw [List.getD_eq_getElem?_getD, List.getElem?_map]
    cases (List.range n)[j]? <;> rfl
  | i + 1, hi => (sp_add (tyN_sp hl i (by omega)) (sp_mul (fY ds i) (sp_mem (List.mem_map.mpr ⟨_, getD_memL (show i < rows.length by omega), rfl⟩)))).to fun j => by
    show vq (tyN rows ds n i) j + fY ds i * vi (rows.getD i []) j = vq (tyN rows ds n (i + 1)) j
    by_cases hj : j < n
    · have e : vq (tyN rows ds n (i + 1)) j = (tyN rows ds n i).getD j 0 + (((rows.getD i []).getD j 0 : Int) : Rat) * fY ds i := by
        conv => lhs; unfold vq tyN
        rw [List.getD_eq_getElem?_getD, List.getElem?_map, List.getElem?_range hj]; rfl
      rw [e]
      show vq (tyN rows ds n i) j + fY ds i * vi (rows.getD i []) j = vq (tyN rows ds n i) j + vi (rows.getD i []) j * fY ds i
      grind
    · have z : ∀ i, vq (tyN rows ds n i) j = 0 := fun i => by
        unfold vq
        rw [List.getD_eq_getElem?_getD, List.getElem?_eq_none (by rw [tyN_len]; omega)]; rfl
      have z2 : vi (rows.getD i []) j = 0 := vi_zero.mpr (getD_ge (by rw [hl _ (getD_memL (show i < rows.length by omega))]; omega))
      rw [z, z, z2]; grind
theorem tyN_sz (h : KOk b rows) {i j : Nat} (hi : i ≤ rows.length) (hj : j < b.size) : Sz 30 ((tyN rows ds b.size i).getD j 0) := by
  have := h.m
  exact gd_sz (tyN_gd h.sm i hi j hj) (by decide) (by decide) (by omega)
theorem fY_sz (ds : List Int) (k : Nat) : Sz 30 (fY ds k) := gd_sz (fY_gd ds k) (by decide) (by decide) (by decide)
/-! the changed number -/
abbrev atY (ds : List Int) (n : Nat) : Nat := ((ds.getD 16 0).fmod (n : Int)).toNat
abbrev stY (ds : List Int) : Rat := ((1 : Int) : Rat) / ((1 + (ds.getD 17 0).fmod 2 : Int) : Rat)
abbrev ty2 (rows : List (List Int)) (ds : List Int) (n : Nat) : List Rat := (tyL rows ds n).set (atY ds n) ((tyL rows ds n).getD (atY ds n) 0 + stY ds)
theorem atY_b (h : 1 ≤ n) : atY ds n < n ∧ ((atY ds n : Nat) : Int) = (ds.getD 16 0).fmod (n : Int) := by
  have := fm_bY (ds.getD 16 0) (show (0 : Int) < (n : Int) by omega)
  unfold atY
  omega
theorem stY_gd (ds : List Int) : Gd 840 840 (stY ds) ∧ stY ds ≠ 0 := by
  have h2 := fm_bY (ds.getD 17 0) (show (0 : Int) < 2 by decide)
  unfold stY
  generalize (ds.getD 17 0).fmod 2 = c at h2 ⊢
  have : c = 0 ∨ c = 1 := by omega
  rcases this with h | h
  · subst h
    exact ⟨gd_div (by decide) (by decide) (by decide), by decide +kernel⟩
  · subst h
    exact ⟨gd_div (by decide) (by decide) (by decide), by decide +kernel⟩
theorem gd_getD0 {D B : Nat} {l : List Rat} (h : ∀ j, j < l.length → Gd D B (l.getD j 0)) (j : Nat) : Gd D B (l.getD j 0) := by
  by_cases hj : j < l.length
  · exact h j hj
  · rw [List.getD_eq_getElem?_getD, List.getElem?_eq_none (by omega)]; exact gd_zero
theorem ty_gd (h : KOk b rows) (j : Nat) : Gd 840 (2 ^ 27) ((tyL rows ds b.size).getD j 0) := gd_getD0 (fun j hj => by
  rw [tyN_len] at hj
  have := h.m
  have g := gd_scale (k := 2) (tyN_gd (ds := ds) h.sm _ (Nat.le_refl _) j hj)
  exact gd_mono g (by omega)) j
theorem ty2_gd (h : KOk b rows) (j : Nat) : Gd 840 (2 ^ 28) ((ty2 rows ds b.size).getD j 0) := gd_getD0 (fun j hj => by
  rw [List.length_set] at hj
  rw [List.getD_eq_getElem?_getD, List.getElem?_set]
  by_cases e : atY ds b.size = j
  · rw [if_pos e, if_pos (by rw [tyN_len]; exact (atY_b h.n1).1)]
    exact gd_mono (gd_add (ty_gd h _) (stY_gd ds).1) (by decide)
  · rw [if_neg e, ← List.getD_eq_getElem?_getD]
    exact gd_mono (ty_gd h j) (by decide)) j
theorem KOk.it (h : KOk b rows) {vs : List Rat} (hv : ∀ v ∈ vs, Gd 840 (2 ^ 28) v) (hl : vs.length = b.frame.length) : TbOk b vs := by
  have h1 := b8
  have h2 := h.fcount
  have hp : (bnd 8 1152) ^ b.frame.length ≤ 2 ^ 904 := by
    refine Nat.le_trans (Nat.pow_le_pow_left (Nat.le_of_lt h1) _) ?_
    rw [← Nat.pow_mul]
    exact Nat.pow_le_pow_right (by decide) (by omega)
  refine tb_of h.f (by have := h.n2; omega) ⟨by decide, h.fsm, by omega, Nat.lt_trans h1 (Nat.pow_lt_pow_right (by decide) (by decide)), ?_, ?_, ?_⟩ hv hl
  · exact Nat.lt_of_le_of_lt (Nat.mul_le_mul_left 840 hp) (by decide +kernel)
  · exact Nat.lt_of_le_of_lt (Nat.mul_le_mul_left (2 ^ 28) hp) (by decide +kernel)
  · exact Nat.lt_of_le_of_lt (Nat.mul_le_mul_left 16 (Nat.mul_le_mul (Nat.le_of_lt h1) (Nat.mul_le_mul_left (2 ^ 28) hp))) (by decide +kernel)
theorem KOk.it2 (h : KOk b rows) {qs : List Rat} (hq : ∀ j, Gd 840 (2 ^ 28) (qs.getD j 0)) : PvOk b ∧ (qs.length = b.size → TbOk b ((pivL b.frame).map fun k => qs.getD k.toNat 0) ∧ qs.length ≤ 1000) :=
  ⟨h.pv, fun e => ⟨h.it (fun v hv => by
    obtain ⟨k, _, rfl⟩ := List.mem_map.mp hv
    exact hq _) ((List.length_map _).trans (pivL_len _)), by have := h.n2; omega⟩⟩
theorem ty_tab (h : KOk b rows) : isTab b (tyL rows ds b.size) = true := (isTab_iff h.f (tyN_len _)).mpr (tyN_sp h.len _ (Nat.le_refl _))
theorem ty_told (h : KOk b rows) : tabL b.frame ((pivL b.frame).map fun k => (tyL rows ds b.size).getD k.toNat 0) b.size = tyL rows ds b.size := of_decide_eq_true (ty_tab h)
/-! alone -/
def alnN (F : List (List Int)) (a : Nat) : Nat → Bool
  | 0 => false
  | i + 1 => if (!decide ((F.getD i []).getD a 0 = 0) && decide (((((F.getD i []).filter fun x => !decide (x = 0)).length : Nat) : Int) = 1)) = true then true else alnN F a i
theorem aln_t {a i : Nat} (h : (!decide ((F.getD i []).getD a 0 = 0) && decide (((((F.getD i []).filter fun x => !decide (x = 0)).length : Nat) : Int) = 1)) = true) : true = alnN F a (i + 1) := (if_pos h).symm
theorem aln_f {a i : Nat} (h : (!decide ((F.getD i []).getD a 0 = 0) && decide (((((F.getD i []).filter fun x => !decide (x = 0)).length : Nat) : Int) = 1)) = false) : alnN F a i = alnN F a (i + 1) := (if_neg (by rw [h]; exact Bool.false_ne_true)).symm
theorem aln_iff {F : List (List Int)} {a : Nat} : ∀ i : Nat, alnN F a i = true ↔ ∃ k, k < i ∧ (F.getD k []).getD a 0 ≠ 0 ∧ ((F.getD k []).filter fun x => !decide (x = 0)).length = 1
  | 0 => by
    constructor
    · intro h; cases h
    · rintro ⟨k, h, _⟩; exact absurd h (Nat.not_lt_zero k)
  | i + 1 => by
    have ih := aln_iff (F := F) (a := a) i
    unfold alnN
    by_cases c : (!decide ((F.getD i []).getD a 0 = 0) && decide (((((F.getD i []).filter fun x => !decide (x = 0)).length : Nat) : Int) = 1)) = true
    · rw [if_pos c]
      have c1 := of_decide_eq_false (nn_t ((Bool.and_eq_true _ _).mp c).1)
      have c2 := of_decide_eq_true ((Bool.and_eq_true _ _).mp c).2
      exact ⟨fun _ => ⟨i, Nat.lt_succ_self i, c1, by omega⟩, fun _ => rfl⟩
    · rw [if_neg c, ih]
      constructor
      · exact fun ⟨k, h1, h2⟩ => ⟨k, by omega, h2⟩
      · rintro ⟨k, h1, h2, h3⟩
        refine ⟨k, ?_, h2, h3⟩
        rcases Nat.lt_or_eq_of_le (Nat.le_of_lt_succ h1) with q | q
        · exact q
        · subst q
          exact absurd (by rw [decide_eq_false h2, decide_eq_true (by omega)]; rfl) c
/-- one number is not 0: it stands alone -/
theorem nz_one : ∀ {l : List Int} {a : Nat}, (l.filter fun x => !decide (x = 0)).length = 1 → l.getD a 0 ≠ 0 → ∀ j, j ≠ a → l.getD j 0 = 0
  | [], a, h, _, _, _ => by cases h
  | x :: l, 0, h, ha, j, hj => by
    have ha : x ≠ 0 := ha
    rw [List.filter_cons, if_pos (by simp [ha]), List.length_cons] at h
    have h0 : (l.filter fun x => !decide (x = 0)) = [] := List.eq_nil_of_length_eq_zero (by omega)
    cases j with
    | zero => exact absurd rfl hj
    | succ j =>
      show l.getD j 0 = 0
      refine Classical.byContradiction fun z => ?_
      have hl : j < l.length := Classical.byContradiction fun y => z (getD_ge (by omega))
      exact (List.filter_eq_nil_iff.mp h0) _ (getD_memI hl) (by rw [decide_eq_false z]; rfl)
  | x :: l, a + 1, h, ha, j, hj => by
    have ha : l.getD a 0 ≠ 0 := ha
    have hl : a < l.length := Classical.byContradiction fun y => ha (getD_ge (by omega))
    have pos : 0 < (l.filter fun x => !decide (x = 0)).length := List.length_pos_of_mem (List.mem_filter.mpr ⟨getD_memI hl, by simp [ha] <;> exact ha⟩)
    have hx : x = 0 := Classical.byContradiction fun z => by
      rw [List.filter_cons, if_pos (by simp [z]), List.length_cons] at h
      omega
    rw [List.filter_cons, if_neg (by simp [hx])] at h
    cases j with
    | zero => exact hx
    | succ j => exact nz_one (l := l) h ha j (by omega)
theorem one_nz : ∀ {l : List Int} {a : Nat}, l.getD a 0 ≠ 0 → (∀ j, j ≠ a → l.getD j 0 = 0) → (l.filter fun x => !decide (x = 0)).length = 1
  | [], a, h, _ => absurd (by simp) h
  | x :: l, 0, h, hz => by
    have h : x ≠ 0 := h
    have h0 : (l.filter fun x => !decide (x = 0)) = [] := List.filter_eq_nil_iff.mpr fun y hy => by
      obtain ⟨j, hj, rfl⟩ := List.mem_iff_getElem.mp hy
      have := hz (j + 1) (by omega)
      have this : l.getD j 0 = 0 := this
      rw [List.getD_eq_getElem?_getD, List.getElem?_eq_getElem hj] at this
      have this : l[j] = 0 := this
      simp [this]
    rw [List.filter_cons, if_pos (by simp [h]), h0]; rfl
  | x :: l, a + 1, h, hz => by
    have hx : x = 0 := hz 0 (by omega)
    rw [List.filter_cons, if_neg (by simp [hx])]
    exact one_nz (l := l) h fun j hj => hz (j + 1) (by omega)
theorem ty2_tab (h : KOk b rows) : isTab b (ty2 rows ds b.size) = alnN b.frame (atY ds b.size) b.frame.length := by
  have ha := (atY_b (ds := ds) h.n1).1
  have hl : (ty2 rows ds b.size).length = b.size := by rw [List.length_set, tyN_len]
  have hs := (stY_gd ds).2
  have e : ∀ j, vq (ty2 rows ds b.size) j = vq (tyL rows ds b.size) j + stY ds * (if j = atY ds b.size then 1 else 0) := fun j => by
    rw [vq_set (by rw [tyN_len]; exact ha)]
    by_cases q : j = atY ds b.size
    · rw [if_pos q, if_pos q, q]
      show (tyL rows ds b.size).getD (atY ds b.size) 0 + stY ds = (tyL rows ds b.size).getD (atY ds b.size) 0 + stY ds * 1
      grind
    · rw [if_neg q, if_neg q]; grind
  have tv := tyN_sp (ds := ds) h.len rows.length (Nat.le_refl _)
  generalize hat : atY ds b.size = a at ha e ⊢
  generalize stY ds = s at hs e
  rw [Bool.eq_iff_iff, isTab_iff h.f hl, aln_iff]
  constructor
  · intro hv
    have hu : Sp (rows.map vi) fun j => if j = a then (1 : Rat) else 0 := (sp_mul (1 / s) (sp_sub hv tv)).to fun j => by
      show 1 / s * (vq (ty2 rows ds b.size) j - vq (tyL rows ds b.size) j) = _
      rw [e j]
      generalize (if j = a then (1 : Rat) else 0) = z
      generalize vq (tyL rows ds b.size) j = y
      grind
    have aK : a ∈ gre (Sp (rows.map vi)) [] (List.range b.size) := Classical.byContradiction fun no => by
      have := h.f.zero hu (fun k hk => if_neg fun z => no (by rw [← z]; exact hk)) a
      rw [if_pos rfl] at this
      exact absurd this (by decide)
    obtain ⟨i, hi, ei⟩ := gre_ix h.f aK
    obtain ⟨k1, k2, k3, k4⟩ := fo_head h.f hi
    rw [ei] at k2 k3
    have w := h.f.zero (h.f.sub (h.f.mem hi) hu (vi (b.frame.getD i []) a)) fun k hk => by
      show vi (b.frame.getD i []) k - vi (b.frame.getD i []) a * (if k = a then 1 else 0) = 0
      by_cases q : k = a
      · rw [q, if_pos rfl]; grind
      · rw [k3 k hk q, if_neg q]; grind
    refine ⟨i, hi, fun z => k2 (vi_zero.mpr z), one_nz (a := a) (fun z => k2 (vi_zero.mpr z)) fun j hj => vi_zero.mp ?_⟩
    have := w j
    have this : vi (b.frame.getD i []) j - vi (b.frame.getD i []) a * (if j = a then 1 else 0) = 0 := this
    rw [if_neg hj] at this
    grind
  · rintro ⟨i, hi, h1, h2⟩
    have hz := nz_one h2 h1
    have n0 : vi (b.frame.getD i []) a ≠ 0 := fun z => h1 (vi_zero.mp z)
    refine (sp_add tv (sp_mul (s / vi (b.frame.getD i []) a) (h.f.mem hi))).to fun j => ?_
    show vq (tyL rows ds b.size) j + s / vi (b.frame.getD i []) a * vi (b.frame.getD i []) j = vq (ty2 rows ds b.size) j
    rw [e j]
    by_cases q : j = a
    · rw [q, if_pos rfl]
      generalize vi (b.frame.getD i []) a = z at n0 ⊢
      generalize vq (tyL rows ds b.size) a = y
      grind
    · rw [vi_zero.mpr (hz j q), if_neg q]; grind
theorem yr_lg (h : KOk b rows) (i j : Nat) : Lg ((rows.getD i []).getD j 0) ≤ 12 := by
  by_cases hi : i < rows.length
  · exact Nat.le_of_lt (lg_b (h.sm _ (getD_memL hi) j) (show (1152 : Nat) < 2 ^ 12 by decide) (by decide))
  · have e : rows.getD i [] = [] := by rw [List.getD_eq_getElem?_getD, List.getElem?_eq_none (by omega)]; rfl
    rw [e]
    exact Nat.le_trans (show Lg 0 ≤ 12 by decide) (Nat.le_refl _)
theorem fY_mk (ds : List Int) (k : Nat) : (1 + (ds.getD (8 + (k : Int)).toNat 0).fmod 7 : Int) ≠ 0 ∧ Lg ((ds.getD k 0).fmod 19 - 9 : Int) < 990 ∧ Lg (1 + (ds.getD (8 + (k : Int)).toNat 0).fmod 7 : Int) < 990 := by
  have h1 := fm_bY (ds.getD k 0) (show (0 : Int) < 19 by decide)
  have h2 := fm_bY (ds.getD (8 + (k : Int)).toNat 0) (show (0 : Int) < 7 by decide)
  exact ⟨by omega, Nat.lt_trans (lg_b (B := 16) (n := 10) (by omega) (by decide) (by decide)) (by decide), Nat.lt_trans (lg_b (B := 16) (n := 10) (by omega) (by decide) (by decide)) (by decide)⟩
theorem stY_mk (ds : List Int) : (1 + (ds.getD 17 0).fmod 2 : Int) ≠ 0 ∧ Lg (1 : Int) < 990 ∧ Lg (1 + (ds.getD 17 0).fmod 2 : Int) < 990 := by
  have h2 := fm_bY (ds.getD 17 0) (show (0 : Int) < 2 by decide)
  exact ⟨by omega, by decide, Nat.lt_trans (lg_b (B := 16) (n := 10) (by omega) (by decide) (by decide)) (by decide)⟩
theorem ty_vs (h : KOk b rows) : ∀ v ∈ (pivL b.frame).map fun k => (tyL rows ds b.size).getD k.toNat 0, Gd 840 (2 ^ 28) v := fun v hv => by
  obtain ⟨k, _, rfl⟩ := List.mem_map.mp hv
  exact gd_mono (ty_gd h _) (by decide)
theorem tY_end {t q : Bool} (h : t = q) : (((t == true) == q) && ((t == false) != q)) = true := by subst h; cases t <;> rfl
end
end DL

set_option Elab.async false
set_option linter.all false
set_option maxRecDepth 100000
set_option maxHeartbeats 4000000
/-! k01: the other side; cells by their names -/
namespace DL
open PySem PySem.Spec PyProof.Rows L2
section
variable {b : Bk} {rows : List (List Int)}
theorem dotN_dv (g f : List Int) : ∀ i, dotN (toQ g) (toQ f) i = dv i (vi g) (vi f)
  | 0 => rfl
  | i + 1 => by
    show dotN (toQ g) (toQ f) i + (toQ g).getD i 0 * (toQ f).getD i 0 = dv i (vi g) (vi f) + vi g i * vi f i
    rw [dotN_dv g f i, toQ_at, toQ_at]; rfl
theorem dotY_gd {A B : Nat} {g f : List Int} (hg : ∀ j, (g.getD j 0).natAbs ≤ A) (hf : ∀ j, (f.getD j 0).natAbs ≤ B) : ∀ i, Gd 1 (i * (A * B)) (dotN (toQ g) (toQ f) i)
  | 0 => gd_zero
  | i + 1 => by
    show Gd 1 _ (dotN (toQ g) (toQ f) i + (toQ g).getD i 0 * (toQ f).getD i 0)
    rw [toQ_at, toQ_at]
    have m := gd_mul (int_gd (hg i)) (int_gd (hf i))
    exact gd_mono (gd_add (dotY_gd hg hf i) m) (by rw [Nat.add_mul, Nat.one_mul]; exact Nat.le_refl _)
theorem KOk.dot (h : KOk b rows) {g f : List Int} (hg : g ∈ (othB b).frame) (hf : f ∈ b.frame) : ((toQ g).length = (toQ f).length ∧ (toQ g).length ≤ 1000 ∧ ∀ i, i < min (toQ g).length (toQ f).length → Sz 150 ((toQ g).getD i 0) ∧ Sz 150 ((toQ f).getD i 0) ∧ Sz 400 (dotN (toQ g) (toQ f) i)) ∧ dotq (toQ g) (toQ f) = 0 := by
  have hn := h.n2
  have l1 : (toQ g).length = b.size := by rw [toQ_len]; exact h.ofo.len g hg
  have l2 : (toQ f).length = b.size := by rw [toQ_len]; exact h.f.len f hf
  have a1 : ∀ j, (g.getD j 0).natAbs ≤ 2 ^ 115 := fun j => Nat.le_of_lt (h.osm g hg j)
  have a2 : ∀ j, (f.getD j 0).natAbs ≤ 2 ^ 113 := fun j => Nat.le_trans (h.fsm f hf j) (Nat.le_of_lt b8)
  refine ⟨⟨by omega, by omega, fun i hi => ⟨?_, ?_, ?_⟩⟩, ?_⟩
  · rw [toQ_at]; exact sz_int (Nat.le_trans (Nat.le_of_lt (lg_b (n := 116) (a1 i) (by decide) (by decide))) (by decide))
  · rw [toQ_at]; exact sz_int (Nat.le_trans (Nat.le_of_lt (lg_b (n := 116) (a2 i) (by decide) (by decide))) (by decide))
  · have hi : i ≤ 16 := by omega
    refine gd_sz (dotY_gd a1 a2 i) (by decide) (by decide) (Nat.lt_of_le_of_lt (Nat.mul_le_mul_right _ hi) (by decide))
  · unfold dotq
    rw [l1, l2, Nat.min_self, dotN_dv]
    exact (h.ofo.mem_of hg).2 _ (h.f.mem_of hf)
theorem KOk.strs (h : KOk b rows) : StrsOk b.names := strsOk_of h.nm
theorem ot_end (h : KOk b rows) : ((sameB ⟨(othB b).names, othF (othB b).frame (othB b).size⟩ b == true) && ((sameB (othB b) b == true) == decide ((othB b).frame = b.frame))) = true := by
  have e : sameB ⟨(othB b).names, othF (othB b).frame (othB b).size⟩ b = true := by
    unfold sameB
    rw [decide_eq_true (show (othB b).names = b.names from rfl), decide_eq_true h.oo]; rfl
  have e2 : sameB (othB b) b = decide ((othB b).frame = b.frame) := by
    unfold sameB
    rw [decide_eq_true (show (othB b).names = b.names from rfl), Bool.true_and]
  rw [e, e2]
  generalize decide ((othB b).frame = b.frame) = q
  cases q <;> rfl
theorem ot_c1 (h : KOk b rows) : ((!decide ((othB b).names = b.names)) || ((!decide ((((othB b).size : Nat) : Int) = ((b.size : Nat) : Int))) || !decide ((((othB b).frame.length : Nat) : Int) = ((b.size : Nat) : Int) - ((b.frame.length : Nat) : Int)))) = false := by
  have := oth_count h.f
  have e : (((othB b).frame.length : Nat) : Int) = ((b.size : Nat) : Int) - ((b.frame.length : Nat) : Int) := by
    show (((othF b.frame b.size).length : Nat) : Int) = _
    omega
  rw [decide_eq_true e, decide_eq_true (show (othB b).names = b.names from rfl), decide_eq_true (show (((othB b).size : Nat) : Int) = ((b.size : Nat) : Int) from rfl)]; rfl
theorem ot_rk (h : KOk b rows) : (gre (Sp ((othB b).frame.map vi)) [] (List.range b.size)).length = (othB b).frame.length := by
  rw [h.ofo.count, gre_congr h.ofo.span _ fun _ => Iff.rfl]; rfl
end
end DL

set_option Elab.async false
set_option linter.all false
set_option maxRecDepth 100000
set_option maxHeartbeats 4000000
/-! k01: cells by their names, wrong sizes, what is refused -/
namespace DL
open PySem PySem.Spec PyProof.Rows L2
structure NmOk (b : Bk) : Prop where
  n1 : 1 ≤ b.names.length
  n2 : b.names.length ≤ 16
  nm : namesOk b.names = true
  no : cellO b.names (b.names.getD 0 default ++ "0") = none
theorem cn_at {b : Bk} (h : NmOk b) {i : Nat} (hi : i < b.names.length) : cellO b.names (b.names.getD i default) = some i := by
  have nd : b.names.Nodup := of_decide_eq_true ((Bool.and_eq_true _ _).mp h.nm).2
  refine co_at (fun j hj e => ?_) hi rfl
  rw [List.getD_eq_getElem?_getD, List.getD_eq_getElem?_getD, List.getElem?_eq_getElem (by omega), List.getElem?_eq_getElem hi] at e
  have := List.pairwise_iff_getElem.mp nd j i (by omega) hi hj
  exact this e
section
variable {b : Bk} {rows : List (List Int)}
/-- the same number at each cell -/
def cnY (c v : Int) : List Rat := (List.range c.toNat).map fun _ => (v : Rat)
theorem cnY_len (c v : Int) : (cnY c v).length = c.toNat := by unfold cnY; rw [List.length_map, List.length_range]
theorem cnY_lc {K : PySem.W.Frag} {c v : Int} : List.map (fun _ : Nat => rNum K (v : Rat)) (List.filter (fun _ => true) (List.range c.toNat)) = List.map (rNum K) (cnY c v) := by
  rw [List.filter_eq_self.mpr (fun _ _ => rfl)]
  unfold cnY
  rw [List.map_map]; rfl
theorem sz_two {m i : Nat} (h : 1 ≤ m) (hi : i < 2) : ([(m : Int) - 1, (m : Int) + 1].getD i 0).toNat ≠ m ∧ 0 ≤ [(m : Int) - 1, (m : Int) + 1].getD i 0 ∧ [(m : Int) - 1, (m : Int) + 1].getD i 0 ≤ (m : Int) + 1 := by
  have : i = 0 ∨ i = 1 := by omega
  rcases this with e | e
  · subst e
    show ((m : Int) - 1).toNat ≠ m ∧ 0 ≤ (m : Int) - 1 ∧ (m : Int) - 1 ≤ (m : Int) + 1
    omega
  · subst e
    show ((m : Int) + 1).toNat ≠ m ∧ 0 ≤ (m : Int) + 1 ∧ (m : Int) + 1 ≤ (m : Int) + 1
    omega
theorem sz_twF {m i : Nat} (hi : i < 2) (h0 : 0 ≤ [(m : Int) - 1, (m : Int) + 1].getD i 0) : ([(m : Int) - 1, (m : Int) + 1].getD i 0).toNat ≠ m ∧ 0 ≤ [(m : Int) - 1, (m : Int) + 1].getD i 0 ∧ [(m : Int) - 1, (m : Int) + 1].getD i 0 ≤ (m : Int) + 1 := by
  have : i = 0 ∨ i = 1 := by omega
  rcases this with e | e
  · subst e
    have h0 : 0 ≤ (m : Int) - 1 := h0
    show ((m : Int) - 1).toNat ≠ m ∧ 0 ≤ (m : Int) - 1 ∧ (m : Int) - 1 ≤ (m : Int) + 1
    omega
  · subst e
    show ((m : Int) + 1).toNat ≠ m ∧ 0 ≤ (m : Int) + 1 ∧ (m : Int) + 1 ≤ (m : Int) + 1
    omega
end
/-! what a book refuses -/
def refS (names : List Str) (rows : List (List Int)) : Str := if ¬ (1 ≤ names.length ∧ names.length ≤ 16) then "size" else if namesOk names = false then "name" else if lensOk names.length (rows.map toQ) = false then "size" else "none"
theorem nm_ct {b : Bk} (h : NmOk b) : (b.names.getD 0 default).length + 1 ≤ 100000 := by
  have hm : b.names.getD 0 default ∈ b.names := getD_mem (by have := h.n1; omega)
  have h1 := List.all_eq_true.mp ((Bool.and_eq_true _ _).mp h.nm).1 _ hm
  unfold isNm at h1
  rw [Bool.and_eq_true, Bool.and_eq_true, Bool.and_eq_true] at h1
  have := of_decide_eq_true h1.1.1.2
  rw [← strLen] at this
  omega
end DL

set_option Elab.async false
set_option linter.all false
set_option maxRecDepth 100000
set_option maxHeartbeats 4000000
/-! k01: names that are drawn, what is refused -/
namespace DL
open PySem PySem.Spec PyProof.Rows L2
def nm3 (c p k : Nat) : Str := Txt.mul (sgn "abcd" c) (1 + (p : Int)) ++ ((toString ((k : Nat) : Int) : String) : Str)
def ny3 (k : Nat) : Str := ("y" : Str) ++ ((toString ((k : Nat) : Int) : String) : Str)
/-- begins with y; the digits -/
def kyS (x : Str) : Bool × List Nat := (decide (x.cps.toList.getD 0 0 = 121), x.cps.toList.filter fun c => decide (c < 97))
def dgS (k : Nat) : List Nat := ((toString ((k : Nat) : Int) : String) : Str).cps.toList
theorem nm3_all : (List.range 4).all (fun c => (List.range 5).all fun p => (List.range 16).all fun k => isNm (nm3 c p k) && isNm (nm3 c p k ++ "x") && decide (kyS (nm3 c p k) = (false, dgS k)) && decide (kyS (nm3 c p k ++ "x") = (false, dgS k)) && decide (kyS (nm3 c p k ++ "0") = (false, dgS k ++ [48]))) = true := by decide +kernel
theorem ny3_all : (List.range 17).all (fun k => isNm (ny3 k) && decide (kyS (ny3 k) = (true, dgS k))) = true := by decide +kernel
theorem dgS_all : ((List.range 17).map dgS).Nodup ∧ ([48, 48] : List Nat) ∉ (List.range 17).map dgS := by decide +kernel
theorem nm3_at {c p k : Nat} (hc : c < 4) (hp : p < 5) (hk : k < 16) : isNm (nm3 c p k) = true ∧ isNm (nm3 c p k ++ "x") = true ∧ kyS (nm3 c p k) = (false, dgS k) ∧ kyS (nm3 c p k ++ "x") = (false, dgS k) ∧ kyS (nm3 c p k ++ "0") = (false, dgS k ++ [48]) := by
  have h := List.all_eq_true.mp (List.all_eq_true.mp (List.all_eq_true.mp nm3_all c (List.mem_range.mpr hc)) p (List.mem_range.mpr hp)) k (List.mem_range.mpr hk)
  rw [Bool.and_eq_true, Bool.and_eq_true, Bool.and_eq_true, Bool.and_eq_true] at h
  exact ⟨h.1.1.1.1, h.1.1.1.2, of_decide_eq_true h.1.1.2, of_decide_eq_true h.1.2, of_decide_eq_true h.2⟩
theorem ny3_at {k : Nat} (hk : k < 17) : isNm (ny3 k) = true ∧ kyS (ny3 k) = (true, dgS k) := by
  have h := List.all_eq_true.mp ny3_all k (List.mem_range.mpr hk)
  rw [Bool.and_eq_true] at h
  exact ⟨h.1, of_decide_eq_true h.2⟩
theorem dg_inj {i j : Nat} (hi : i < 17) (hj : j < 17) (e : dgS i = dgS j) : i = j := by
  have p := List.pairwise_iff_getElem.mp dgS_all.1
  rcases Nat.lt_trichotomy i j with q | q | q
  · exact (p i j (by simpa using hi) (by simpa using hj) q (by simpa using e)).elim
  · exact q
  · exact (p j i (by simpa using hj) (by simpa using hi) q (by simpa using e.symm)).elim
section
variable {n : Nat} {ms : List Int}
abbrev nY1 (ms : List Int) (k : Nat) : Str := Txt.mul (sgn "abcd" ((ms.getD k 0).fmod 4).toNat) (1 + (ms.getD k 0).fmod 5) ++ ((toString ((k : Nat) : Int) : String) : Str)
def nY (ms : List Int) (n : Nat) : List Str := (List.range n).map (nY1 ms)
theorem nY1_is (k : Nat) : nY1 ms k = nm3 ((ms.getD k 0).fmod 4).toNat ((ms.getD k 0).fmod 5).toNat k ∧ ((ms.getD k 0).fmod 4).toNat < 4 ∧ ((ms.getD k 0).fmod 5).toNat < 5 := by
  have h4 := fm_bY (ms.getD k 0) (show (0 : Int) < 4 by decide)
  have h5 := fm_bY (ms.getD k 0) (show (0 : Int) < 5 by decide)
  refine ⟨?_, by omega, by omega⟩
  unfold nY1 nm3
  rw [show ((((ms.getD k 0).fmod 5).toNat : Nat) : Int) = (ms.getD k 0).fmod 5 by omega]
theorem nY_len : (nY ms n).length = n := by unfold nY; rw [List.length_map, List.length_range]
theorem nY_at {k : Nat} (h : k < n) : (nY ms n).getD k default = nY1 ms k := by
  unfold nY
  rw [List.getD_eq_getElem?_getD, List.getElem?_map, List.getElem?_range h]; rfl
theorem nd_key {α β : Type} [DecidableEq β] (f : α → β) {l : List α} (h : (l.map f).Nodup) : l.Nodup := List.Pairwise.of_map f (fun a b z e => z (by rw [e])) h
theorem nd_range {α : Type} {f : Nat → α} {m : Nat} (h : ∀ i j, i < m → j < m → f i = f j → i = j) : ((List.range m).map f).Nodup := by
  refine List.pairwise_map.mpr (List.Pairwise.imp_of_mem (fun ha hb (lt : _ < _) e => ?_) List.pairwise_lt_range)
  have := h _ _ (List.mem_range.mp ha) (List.mem_range.mp hb) e
  omega
theorem nY_ok (hn : n ≤ 16) : namesOk (nY ms n) = true := by
  unfold namesOk
  rw [Bool.and_eq_true]
  refine ⟨List.all_eq_true.mpr fun x hx => ?_, decide_eq_true ?_⟩
  · obtain ⟨k, hk, rfl⟩ := List.mem_map.mp hx
    have hk := List.mem_range.mp hk
    obtain ⟨e, h1, h2⟩ := nY1_is (ms := ms) k
    rw [e]
    exact (nm3_at h1 h2 (by omega)).1
  · refine nd_range fun i j hi hj e => ?_
    obtain ⟨ei, i1, i2⟩ := nY1_is (ms := ms) i
    obtain ⟨ej, j1, j2⟩ := nY1_is (ms := ms) j
    have k1 := (nm3_at i1 i2 (show i < 16 by omega)).2.2.1
    have k2 := (nm3_at j1 j2 (show j < 16 by omega)).2.2.1
    rw [← ei] at k1
    rw [← ej, ← e, k1] at k2
    exact dg_inj (by omega) (by omega) (congrArg Prod.snd k2)
theorem nY_no (h1 : 1 ≤ n) (hn : n ≤ 16) : cellO (nY ms n) ((nY ms n).getD 0 default ++ "0") = none := by
  refine co_no fun j hj e => ?_
  rw [nY_len] at hj
  rw [nY_at hj, nY_at (show 0 < n by omega)] at e
  obtain ⟨ei, i1, i2⟩ := nY1_is (ms := ms) j
  obtain ⟨e0, o1, o2⟩ := nY1_is (ms := ms) 0
  have k1 := (nm3_at i1 i2 (show j < 16 by omega)).2.2.1
  have k2 := (nm3_at o1 o2 (show 0 < 16 by decide)).2.2.2.2
  rw [← ei, e] at k1
  rw [← e0, k1] at k2
  have k3 : dgS j = dgS 0 ++ [48] := congrArg Prod.snd k2
  refine dgS_all.2 (List.mem_map.mpr ⟨j, List.mem_range.mpr (by omega), k3.trans (by decide +kernel)⟩)
/-- too many names -/
def exS (x : Str) : Str := x ++ ("x" : Str)
theorem exS_len (x : Str) : (x ++ ("x" : Str)).length = x.length + 1 := by
  show (x.cps ++ _).size = x.cps.size + 1
  rw [Array.size_append]; rfl
def mnY (names : List Str) : List Str := List.append (names.map exS) ((List.range (17 - names.length)).map ny3)
theorem mnY_is (names : List Str) : mnY names = names.map exS ++ (List.range (17 - names.length)).map ny3 := rfl
theorem mnY_len {names : List Str} (h : names.length ≤ 16) : (mnY names).length = 17 := by rw [mnY_is, List.length_append, List.length_map, List.length_map, List.length_range]; omega
theorem mn_ok (hn : n ≤ 16) : namesOk ((mnY (nY ms n)).take 16) = true := by
  have hN : ∀ x ∈ mnY (nY ms n), isNm x = true := fun x hx => by
    rcases List.mem_append.mp hx with h | h
    · obtain ⟨y, hy, rfl⟩ := List.mem_map.mp h
      obtain ⟨k, hk, rfl⟩ := List.mem_map.mp hy
      have hk := List.mem_range.mp hk
      obtain ⟨e, h1, h2⟩ := nY1_is (ms := ms) k
      rw [e]
      exact (nm3_at h1 h2 (by omega)).2.1
    · obtain ⟨k, hk, rfl⟩ := List.mem_map.mp h
      have hk := List.mem_range.mp hk
      exact (ny3_at (by omega)).1
  have hD : (mnY (nY ms n)).Nodup := by
    refine nd_key kyS ?_
    rw [mnY_is, List.map_append, List.map_map, List.map_map, nY_len]
    refine List.nodup_append.mpr ⟨?_, ?_, ?_⟩
    · unfold nY
      rw [List.map_map]
      refine nd_range fun i j hi hj e => ?_
      obtain ⟨ei, i1, i2⟩ := nY1_is (ms := ms) i
      obtain ⟨ej, j1, j2⟩ := nY1_is (ms := ms) j
      have e : kyS (nY1 ms i ++ "x") = kyS (nY1 ms j ++ "x") := e
      rw [ei, ej, (nm3_at i1 i2 (show i < 16 by omega)).2.2.2.1, (nm3_at j1 j2 (show j < 16 by omega)).2.2.2.1] at e
      exact dg_inj (by omega) (by omega) (congrArg Prod.snd e)
    · refine nd_range fun i j hi hj e => ?_
      have e : kyS (ny3 i) = kyS (ny3 j) := e
      rw [(ny3_at (show i < 17 by omega)).2, (ny3_at (show j < 17 by omega)).2] at e
      exact dg_inj (by omega) (by omega) (congrArg Prod.snd e)
    · intro a ha b hb e
      obtain ⟨x, hx, rfl⟩ := List.mem_map.mp ha
      obtain ⟨k, hk, rfl⟩ := List.mem_map.mp hx
      have hk := List.mem_range.mp hk
      obtain ⟨j, hj, rfl⟩ := List.mem_map.mp hb
      have hj := List.mem_range.mp hj
      obtain ⟨ei, i1, i2⟩ := nY1_is (ms := ms) k
      have e : kyS (nY1 ms k ++ "x") = kyS (ny3 j) := e
      rw [ei, (nm3_at i1 i2 (show k < 16 by omega)).2.2.2.1, (ny3_at (show j < 17 by omega)).2] at e
      cases congrArg Prod.fst e
  unfold namesOk
  rw [Bool.and_eq_true]
  exact ⟨List.all_eq_true.mpr fun x hx => hN x (List.mem_of_mem_take hx), decide_eq_true (List.Nodup.sublist (List.take_sublist ..) hD)⟩
end
end DL

set_option Elab.async false
set_option linter.all false
set_option maxRecDepth 100000
set_option maxHeartbeats 4000000
/-! k01: what is refused -/
namespace DL
open PySem PySem.Spec PyProof.Rows L2
def spS : List Str := ["", "1a", "A", "a b", "a_", "abcdefghijklm", "-", "b."]
theorem spS_bad : spS.all (fun x => !isNm x) = true := by decide +kernel
theorem nok_bad {xs : List Str} {x : Str} (h : x ∈ xs) (b : isNm x = false) : namesOk xs = false := by
  cases e : namesOk xs with
  | false => rfl
  | true =>
    have := List.all_eq_true.mp ((Bool.and_eq_true _ _).mp e).1 x h
    rw [b] at this; cases this
theorem nok_dup {xs : List Str} (h : ¬ xs.Nodup) : namesOk xs = false := by
  cases e : namesOk xs with
  | false => rfl
  | true => exact absurd (of_decide_eq_true ((Bool.and_eq_true _ _).mp e).2) h
structure RfY (names : List Str) (rows : List (List Int)) (ds : List Int) : Prop where
  n1 : 1 ≤ names.length
  n2 : names.length ≤ 16
  nm : namesOk names = true
  nms : namesOk ((mnY names).take 16) = true
  m : rows.length ≤ 8
  len : ∀ r ∈ rows, r.length = names.length
  sm : ∀ r ∈ rows, ∀ j, (r.getD j 0).natAbs ≤ 1152
  d : ds.length = 30
abbrev aY (names : List Str) (ds : List Int) : Nat := ((ds.getD 18 0).fmod ((names.length : Nat) : Int)).toNat
abbrev spY (names : List Str) (ds : List Int) : List Str := names.set (aY names ds) (spS.getD ((ds.getD 19 0).fmod 8).toNat default)
abbrev dbY (names : List Str) (ds : List Int) : List Str := names.set (aY names ds) (names.getD (ixZ names.length (((aY names ds : Nat) : Int) - 1)) default)
abbrev wrY (names : List Str) (rows : List (List Int)) : List (List Int) := rows ++ [List.replicate names.length 1 ++ [2]]
abbrev shY (names : List Str) (rows : List (List Int)) : List (List Int) := [List.replicate (names.drop (Int.toNat 1)).length 1] ++ rows
section
variable {names ns : List Str} {rows rs : List (List Int)} {ds : List Int}
theorem aY_b (h : 1 ≤ names.length) : aY names ds < names.length ∧ ((aY names ds : Nat) : Int) = (ds.getD 18 0).fmod ((names.length : Nat) : Int) := by
  have := fm_bY (ds.getD 18 0) (show (0 : Int) < ((names.length : Nat) : Int) by omega)
  unfold aY
  omega
theorem RfY.dw (h : RfY names rows ds) : Dw names.length 1152 rows := ⟨h.n1, h.n2, by have := h.m; omega, h.len, h.sm, by decide, Nat.lt_of_le_of_lt (bnd_mono h.m) (by unfold bnd; decide +kernel),
  Nat.lt_of_le_of_lt (bnd_mono2 h.m (bnd_mono h.m)) (by unfold bnd; decide +kernel)⟩
theorem nil_dw {n : Nat} (h1 : 1 ≤ n) (h2 : n ≤ 16) : Dw n 1152 [] := ⟨h1, h2, Nat.zero_le _, fun r h => (List.not_mem_nil h).elim, fun r h => (List.not_mem_nil h).elim, by decide, by decide, by decide⟩
theorem bkY (h1 : ns.length ≤ 1000) (h2 : ∀ x ∈ ns, x.length ≤ 100000) (h3 : (1 ≤ ns.length ∧ ns.length ≤ 16) → lensOk ns.length (rs.map toQ) = true → Dw ns.length 1152 rs) : BookOk ns (rs.map toQ) := ⟨h1, h2, fun a b => (h3 a b).fr⟩
theorem lens_no {n : Nat} {r : List Int} (hr : r ∈ rs) (hl : r.length ≠ n) : lensOk n (rs.map toQ) = false := by
  cases e : lensOk n (rs.map toQ) with
  | false => rfl
  | true =>
    have := of_decide_eq_true (List.all_eq_true.mp e _ (List.mem_map.mpr ⟨r, hr, rfl⟩))
    rw [toQ_len] at this
    exact absurd this hl
theorem spS_len : ∀ x ∈ spS, x.length ≤ 100000 := fun x hx => of_decide_eq_true (List.all_eq_true.mp (show spS.all (fun x => decide (x.length ≤ 100000)) = true by decide +kernel) x hx)
theorem spx_mem (ds : List Int) : spS.getD ((ds.getD 19 0).fmod 8).toNat default ∈ spS := by
  have := fm_bY (ds.getD 19 0) (show (0 : Int) < 8 by decide)
  exact getD_mem (show ((ds.getD 19 0).fmod 8).toNat < 8 by omega)
theorem sp_nl (h : RfY names rows ds) : ∀ x ∈ spY names ds, x.length ≤ 100000 := fun x hx => by
  rcases List.mem_or_eq_of_mem_set hx with z | z
  · exact nm_len12 h.nm x z
  · rw [z]; exact spS_len _ (spx_mem ds)
theorem db_nl (h : RfY names rows ds) : ∀ x ∈ dbY names ds, x.length ≤ 100000 := fun x hx => by
  rcases List.mem_or_eq_of_mem_set hx with z | z
  · exact nm_len12 h.nm x z
  · rw [z]
    have := (aY_b (ds := ds) h.n1).1
    exact nm_len12 h.nm _ (getD_mem (ixZ_lt (by omega) (by omega)))
theorem sp_len : (spY names ds).length = names.length := List.length_set ..
theorem db_len : (dbY names ds).length = names.length := List.length_set ..
theorem wr_mem : List.replicate names.length (1 : Int) ++ [2] ∈ wrY names rows := List.mem_append_right _ (List.mem_singleton.mpr rfl)
theorem sh_mem : List.replicate (names.drop (Int.toNat 1)).length (1 : Int) ∈ shY names rows := List.mem_append_left _ (List.mem_singleton.mpr rfl)
theorem wr_ne : (List.replicate names.length (1 : Int) ++ [2]).length ≠ names.length := by simp
theorem sh_ne (h : 1 ≤ names.length) : (List.replicate (names.drop (Int.toNat 1)).length (1 : Int)).length ≠ names.length := by
  rw [List.length_replicate, List.length_drop]
  show names.length - 1 ≠ names.length
  omega
theorem rf1 (h : RfY names rows ds) : BookOk (spY names ds) (rows.map toQ) := bkY (by rw [sp_len]; have := h.n2; omega) (sp_nl h) fun _ _ => by rw [sp_len]; exact h.dw
theorem rf2 (h : RfY names rows ds) : BookOk (spY names ds) ((wrY names rows).map toQ) := bkY (by rw [sp_len]; have := h.n2; omega) (sp_nl h) fun _ e => by
  rw [sp_len, lens_no wr_mem wr_ne] at e; cases e
theorem rf3 (h : RfY names rows ds) : BookOk names ((wrY names rows).map toQ) := bkY (by have := h.n2; omega) (nm_len12 h.nm) fun _ e => by
  rw [lens_no wr_mem wr_ne] at e; cases e
theorem rf4 (h : RfY names rows ds) : BookOk names ((shY names rows).map toQ) := bkY (by have := h.n2; omega) (nm_len12 h.nm) fun _ e => by
  rw [lens_no sh_mem (sh_ne h.n1)] at e; cases e
theorem rf5 (h : RfY names rows ds) : BookOk (dbY names ds) (rows.map toQ) := bkY (by rw [db_len]; have := h.n2; omega) (db_nl h) fun _ _ => by rw [db_len]; exact h.dw
theorem mn_nl (h : RfY names rows ds) : ∀ x ∈ mnY names, x.length ≤ 100000 := fun x hx => by
  have e := List.take_append_drop 16 (mnY names)
  rw [← e] at hx
  rcases List.mem_append.mp hx with z | z
  · exact nm_len12 h.nms x z
  · have h17 := mnY_len h.n2
    obtain ⟨i, hi, rfl⟩ := List.mem_iff_getElem.mp z
    rw [List.length_drop, h17] at hi
    have hn := h.n2
    rw [List.getElem_drop]
    have m : (mnY names)[16 + i]'(by omega) ∈ mnY names := List.getElem_mem _
    rcases List.mem_append.mp (show (mnY names)[16 + i]'(by omega) ∈ names.map exS ++ (List.range (17 - names.length)).map ny3 from m) with y | y
    · obtain ⟨u, hu, e2⟩ := List.mem_map.mp y
      rw [← e2]
      have hu2 := List.all_eq_true.mp ((Bool.and_eq_true _ _).mp h.nm).1 u hu
      have : u.length ≤ 12 := by
        unfold isNm at hu2
        rw [Bool.and_eq_true, Bool.and_eq_true, Bool.and_eq_true] at hu2
        have := of_decide_eq_true hu2.1.1.2
        rw [← strLen] at this
        exact this
      show (u ++ ("x" : Str)).length ≤ 100000
      rw [exS_len]; omega
    · obtain ⟨k, hk, e2⟩ := List.mem_map.mp y
      have hk := List.mem_range.mp hk
      rw [← e2]
      exact nm_len12 (xs := [ny3 k]) (by unfold namesOk; rw [Bool.and_eq_true]; exact ⟨by rw [List.all_cons, (ny3_at (by omega)).1]; rfl, decide_eq_true (List.nodup_cons.mpr ⟨List.not_mem_nil, List.nodup_nil⟩)⟩) _ (List.mem_singleton.mpr rfl)
theorem rf6 (h : RfY names rows ds) : BookOk (mnY names) (([] : List (List Int)).map toQ) := bkY (by rw [mnY_len h.n2]; decide) (mn_nl h) fun z _ => by rw [mnY_len h.n2] at z; omega
theorem rf7 : BookOk [] (([] : List (List Int)).map toQ) := bkY (by decide) (fun x h => (List.not_mem_nil h).elim) fun z _ => absurd z.1 (by decide)
theorem mn16 (h : names.length ≤ 16) : ((mnY names).take 16).length = 16 := by rw [List.length_take, mnY_len h]; decide
theorem rf8 (h : RfY names rows ds) : BookOk ((mnY names).take 16) (([] : List (List Int)).map toQ) := bkY (by rw [mn16 h.n2]; decide) (nm_len12 h.nms) fun _ _ => by rw [mn16 h.n2]; exact nil_dw (by decide) (by decide)
theorem refS_n (h1 : 1 ≤ ns.length ∧ ns.length ≤ 16) (h2 : namesOk ns = false) : refS ns rs = "name" := (if_neg (fun z => z h1)).trans (if_pos h2)
theorem refS_s (h1 : ¬ (1 ≤ ns.length ∧ ns.length ≤ 16)) : refS ns rs = "size" := if_pos h1
theorem refS_l (h1 : 1 ≤ ns.length ∧ ns.length ≤ 16) (h2 : namesOk ns = true) (h3 : lensOk ns.length (rs.map toQ) = false) : refS ns rs = "size" := (if_neg (fun z => z h1)).trans ((if_neg (by rw [h2]; exact Bool.noConfusion)).trans (if_pos h3))
theorem sp_bad (h : RfY names rows ds) : namesOk (spY names ds) = false := by
  have ha := (aY_b (ds := ds) h.n1).1
  have hb := List.all_eq_true.mp spS_bad _ (spx_mem ds)
  refine nok_bad (x := spS.getD ((ds.getD 19 0).fmod 8).toNat default) ?_ (by simpa using hb)
  exact List.mem_iff_getElem.mpr ⟨aY names ds, by rw [sp_len]; exact ha, by rw [List.getElem_set_self]⟩
theorem db_bad (h : RfY names rows ds) (h2 : 1 < names.length) : namesOk (dbY names ds) = false := by
  have ha := (aY_b (ds := ds) h.n1).1
  have hi : ixZ names.length (((aY names ds : Nat) : Int) - 1) < names.length := ixZ_lt (by omega) (by omega)
  have hne : ixZ names.length (((aY names ds : Nat) : Int) - 1) ≠ aY names ds := by
    unfold ixZ
    split <;> omega
  refine nok_dup fun nd => ?_
  have p := List.pairwise_iff_getElem.mp nd
  generalize hk : ixZ names.length (((aY names ds : Nat) : Int) - 1) = k at *
  have e : (dbY names ds)[k]'(by rw [db_len]; exact hi) = (dbY names ds)[aY names ds]'(by rw [db_len]; exact ha) := by
    have e0 : names.getD (ixZ names.length (((aY names ds : Nat) : Int) - 1)) default = names[k] := by
      rw [hk, List.getD_eq_getElem?_getD, List.getElem?_eq_getElem hi]; rfl
    unfold dbY
    rw [List.getElem_set_self, List.getElem_set_ne (fun z => hne z.symm)]
    exact e0.symm
  rcases Nat.lt_or_gt_of_ne hne with q | q
  · exact p _ _ (by rw [db_len]; exact hi) (by rw [db_len]; exact ha) q e
  · exact p _ _ (by rw [db_len]; exact ha) (by rw [db_len]; exact hi) q e.symm
theorem rfA (h : RfY names rows ds) : ((!decide (refS (spY names ds) rows = "name")) || !decide (refS (spY names ds) (wrY names rows) = "name")) = false := by
  have hs : 1 ≤ (spY names ds).length ∧ (spY names ds).length ≤ 16 := by rw [sp_len]; exact ⟨h.n1, h.n2⟩
  rw [refS_n hs (sp_bad h), refS_n hs (sp_bad h)]; decide
theorem rfB (h : RfY names rows ds) : ((!decide (refS names (wrY names rows) = "size")) || !decide (refS names (shY names rows) = "size")) = false := by
  rw [refS_l ⟨h.n1, h.n2⟩ h.nm (lens_no wr_mem wr_ne), refS_l ⟨h.n1, h.n2⟩ h.nm (lens_no sh_mem (sh_ne h.n1))]; decide
theorem rfC (h : RfY names rows ds) (h2 : 1 < names.length) : (!decide (refS (dbY names ds) rows = "name")) = false := by
  rw [refS_n (by rw [db_len]; exact ⟨h.n1, h.n2⟩) (db_bad h h2)]; decide
theorem rfD (h : RfY names rows ds) : ((!decide (refS (mnY names) [] = "size")) || ((!decide (refS [] [] = "size")) || !decide (refS ((mnY names).take 16) [] = "none"))) = false := by
  rw [refS_s (by rw [mnY_len h.n2]; decide), refS_s (ns := []) (by decide)]
  have : refS ((mnY names).take 16) [] = "none" := (if_neg (fun z => z (by rw [mn16 h.n2]; decide))).trans ((if_neg (by rw [h.nms]; exact Bool.noConfusion)).trans (if_neg (fun z => by change true = false at z; cases z)))
  rw [this]; decide
theorem rp_lc {m : Nat} {v : Int} : List.map (fun _ : Nat => rInt v) (List.filter (fun _ => true) (List.range m)) = List.map rInt (List.replicate m v) := by
  rw [List.filter_eq_self.mpr (fun _ _ => rfl), List.map_replicate, List.map_const', List.length_range]
theorem ny_lc {m : Nat} : List.map (fun i : Nat => rStr (ny3 i)) (List.filter (fun _ => true) (List.range (17 - ((m : Nat) : Int)).toNat)) = List.map rStr ((List.range (17 - m)).map ny3) := by
  rw [List.filter_eq_self.mpr (fun _ _ => rfl), List.map_map, show (17 - ((m : Nat) : Int)).toNat = 17 - m by omega]; rfl
theorem ex_ct (h : RfY names rows ds) {i : Nat} (hi : i < names.length) : (names.getD i default).length + ("x" : Str).length ≤ sizeLine := by
  have := nm_len12 h.nm _ (getD_mem (d := (default : Str)) hi)
  exact Nat.le_trans (show _ ≤ 100001 by show (names.getD i default).length + 1 ≤ 100001; omega) (by decide)
theorem ny_ct {k : Nat} (hk : k < 17) : ("y" : Str).length + ((toString ((k : Nat) : Int) : String) : Str).length ≤ sizeLine := by
  have key : (List.range 17).all (fun k => decide (("y" : Str).length + ((toString ((k : Nat) : Int) : String) : Str).length ≤ 100)) = true := by decide +kernel
  exact Nat.le_trans (of_decide_eq_true (List.all_eq_true.mp key k (List.mem_range.mpr hk))) (by decide)
theorem on_lc {α β : Type} {R : α → β} {l : List α} {x : α} : List.map R l ++ [R x] = List.map R (l ++ [x]) := by rw [List.map_append]; rfl
theorem wr_lc {β : Type} {R : List Int → β} : List.map R rows ++ [R (List.replicate names.length 1 ++ [2])] = List.map R (wrY names rows) := on_lc
theorem sh_lc {β : Type} {R : List Int → β} : [R (List.replicate (names.drop (Int.toNat 1)).length 1)] ++ List.map R rows = List.map R (shY names rows) := by
  show _ = List.map R ([_] ++ rows)
  rw [List.map_append]; rfl
end
end DL

set_option Elab.async false
set_option linter.all false
set_option maxRecDepth 100000
set_option maxHeartbeats 4000000
/-! k01: what the law draws -/
namespace DL
open PySem PySem.Spec PyProof.Rows L2
/-! objects hold by no list -/
theorem lfr_ins {K : PySem.W.Frag} {C : Addr} {fs : List (Str × Rep)} (h : ∀ r ∈ fs.map Prod.snd, LFr r) : LFr (rIns K C fs) := fun F p ws v hp ⟨a, dx, vs, e, hq, hl⟩ => by
  refine ⟨a, dx, vs, e, ?_, lfr_rl hp h hl⟩
  have ha : a ≠ p := fun z => by rw [z, hp] at hq; cases hq
  rw [del_ne ha]; exact hq
theorem lfa_ins {K : PySem.W.Frag} {C : Addr} {fs : List (Str × Rep)} (h : ∀ r ∈ fs.map Prod.snd, LFa r) : LFa (rIns K C fs) := fun F F2 v k ⟨a, dx, vs, e, hq, hl⟩ =>
  ⟨a, dx, vs, e, k a _ hq fun _ => nofun, lfa_rl k h hl⟩
theorem lfr_frame {K : PySem.W.Frag} {F : List (List Int)} : LFr (rTup K (F.map (rRowT K))) := lfr_tup fun r hr => by
  obtain ⟨l, _, rfl⟩ := List.mem_map.mp hr
  exact lfr_tup lfr_ints
theorem lfa_frame {K : PySem.W.Frag} {F : List (List Int)} : LFa (rTup K (F.map (rRowT K))) := lfa_tup fun r hr => by
  obtain ⟨l, _, rfl⟩ := List.mem_map.mp hr
  exact lfa_tup fun r hr => by
    obtain ⟨x, _, rfl⟩ := List.mem_map.mp hr
    exact lfa_c
theorem lfr_book {K : PySem.W.Frag} {C : Addr} {b : Bk} : LFr (rBook K C b) := lfr_ins fun r hr => by
  rcases List.mem_cons.mp hr with e | hr
  · rw [e]; exact lfr_tup fun r hr => by
      obtain ⟨x, _, rfl⟩ := List.mem_map.mp hr
      exact lfr_str
  rcases List.mem_cons.mp hr with e | hr
  · rw [e]; exact lfr_int
  · rw [List.mem_singleton.mp hr]; exact lfr_frame
theorem lfa_book {K : PySem.W.Frag} {C : Addr} {b : Bk} : LFa (rBook K C b) := lfa_ins fun r hr => by
  rcases List.mem_cons.mp hr with e | hr
  · rw [e]; exact lfa_tup fun r hr => by
      obtain ⟨x, _, rfl⟩ := List.mem_map.mp hr
      exact lfa_c
  rcases List.mem_cons.mp hr with e | hr
  · rw [e]; exact lfa_c
  · rw [List.mem_singleton.mp hr]; exact lfa_frame
theorem sub_nw {K : PySem.W.Frag} {F1 : Hp} {l : List Rep} : Sub (rN F1 (rLh l)) (rLst K l) := Sub.trans sub_rN sub_h2l
section
variable (ns : List Int)
def szY : Nat := (if decide (((ns.getD 1 0).fdiv 6).fmod 10 = 1) = true then 7 + ((ns.getD 1 0).fdiv 60).fmod 10 else 1 + (ns.getD 1 0).fmod 6).toNat
theorem szY_b : 1 ≤ szY ns ∧ szY ns ≤ 16 := by
  have h1 := fm_bY (ns.getD 1 0) (show (0 : Int) < 6 by decide)
  have h2 := fm_bY ((ns.getD 1 0).fdiv 60) (show (0 : Int) < 10 by decide)
  unfold szY
  split <;> omega
def dsY : List Int := lawNums ns 0 60
def msY : List Int := lawNums ns 3 30
def NMY : List Str := nY (msY ns) (szY ns)
theorem NMY_len : (NMY ns).length = szY ns := nY_len
theorem NMY_b : 1 ≤ (NMY ns).length ∧ (NMY ns).length ≤ 16 := by rw [NMY_len]; exact szY_b ns
variable {ns}
theorem NMY_t (h : decide (((ns.getD 1 0).fdiv 6).fmod 10 = 1) = true) : 7 + ((ns.getD 1 0).fdiv 60).fmod 10 = (((NMY ns).length : Nat) : Int) := by
  have h2 := fm_bY ((ns.getD 1 0).fdiv 60) (show (0 : Int) < 10 by decide)
  rw [NMY_len]
  unfold szY
  rw [if_pos h]; omega
theorem NMY_f (h : decide (((ns.getD 1 0).fdiv 6).fmod 10 = 1) = false) : 1 + (ns.getD 1 0).fmod 6 = (((NMY ns).length : Nat) : Int) := by
  have h1 := fm_bY (ns.getD 1 0) (show (0 : Int) < 6 by decide)
  rw [NMY_len]
  unfold szY
  rw [if_neg (by rw [h]; exact Bool.false_ne_true)]; omega
theorem NMY_lc : List.map (fun k : Nat => rStr (Txt.mul (sgn "abcd" (((msY ns).getD ((k : Nat) : Int).toNat 0).fmod 4).toNat) (1 + ((msY ns).getD ((k : Nat) : Int).toNat 0).fmod 5) ++ ((toString ((k : Nat) : Int) : String) : Str))) (List.filter (fun _ => true) (List.range (((NMY ns).length : Nat) : Int).toNat)) = List.map rStr (NMY ns) := by
  rw [List.filter_eq_self.mpr (fun _ _ => rfl), Int.toNat_natCast, NMY_len]
  unfold NMY nY
  rw [List.map_map]; rfl
theorem NMY_ok : namesOk (NMY ns) = true := nY_ok (szY_b ns).2
variable (ns)
def mY : Nat := ((ns.getD 2 0).fmod (1 + min (min (((NMY ns).length : Nat) : Int) ((58 : Int).fdiv (((NMY ns).length : Nat) : Int))) 8)).toNat
theorem mY_b : ((mY ns : Nat) : Int) = (ns.getD 2 0).fmod (1 + min (min (((NMY ns).length : Nat) : Int) ((58 : Int).fdiv (((NMY ns).length : Nat) : Int))) 8) ∧ mY ns ≤ 8 ∧ mY ns * (NMY ns).length ≤ 58 := by
  have hb := NMY_b ns
  have e : (58 : Int).fdiv (((NMY ns).length : Nat) : Int) = ((58 / (NMY ns).length : Nat) : Int) := by
    generalize (NMY ns).length = n at hb
    have : n = 1 ∨ n = 2 ∨ n = 3 ∨ n = 4 ∨ n = 5 ∨ n = 6 ∨ n = 7 ∨ n = 8 ∨ n = 9 ∨ n = 10 ∨ n = 11 ∨ n = 12 ∨ n = 13 ∨ n = 14 ∨ n = 15 ∨ n = 16 := by omega
    rcases this with h | h | h | h | h | h | h | h | h | h | h | h | h | h | h | h <;> (subst h; decide)
  have h58 : (NMY ns).length * (58 / (NMY ns).length) ≤ 58 := Nat.mul_div_le 58 _
  have nn : (0 : Int) ≤ ((58 / (NMY ns).length : Nat) : Int) := Int.natCast_nonneg _
  rw [e]
  have pos : (0 : Int) < 1 + min (min (((NMY ns).length : Nat) : Int) ((58 / (NMY ns).length : Nat) : Int)) 8 := by
    generalize ((58 / (NMY ns).length : Nat) : Int) = z at nn
    omega
  have h1 := fm_bY (ns.getD 2 0) pos
  have le : mY ns ≤ 58 / (NMY ns).length ∧ mY ns ≤ 8 := by
    unfold mY
    rw [e]
    omega
  refine ⟨?_, le.2, ?_⟩
  · unfold mY
    rw [e]
    omega
  · have := Nat.mul_le_mul_right (NMY ns).length le.1
    rw [Nat.mul_comm (58 / (NMY ns).length)] at this
    omega
def RWY : List (List Int) := yL (NMY ns).length (dsY ns) (mY ns)
theorem RWY_b : (RWY ns).length ≤ 8 ∧ (∀ r ∈ RWY ns, r.length = (NMY ns).length) ∧ ∀ r ∈ RWY ns, ∀ j, (r.getD j 0).natAbs ≤ 1152 :=
  ⟨by unfold RWY; rw [yL_len]; exact (mY_b ns).2.1, (yL_b (mY_b ns).2.1).1, (yL_b (mY_b ns).2.1).2⟩
def btY : Int := 1 + ((ns.getD 2 0).fdiv 9).fmod 3
theorem btY_b : 1 ≤ btY ns ∧ btY ns ≤ 3 := by
  have := fm_bY ((ns.getD 2 0).fdiv 9) (show (0 : Int) < 3 by decide)
  unfold btY; omega
def psR (bt : Int) (r : List Int) : List Rat := r.map fun x : Int => (x : Rat) / (bt : Rat)
def PSY : List (List Rat) := (RWY ns).map (psR (btY ns))
def kBY : Bk := ⟨NMY ns, frameQ (PSY ns) (NMY ns).length⟩
theorem psR_len (bt : Int) (r : List Int) : (psR bt r).length = r.length := List.length_map _
theorem psR_vq {bt : Int} (hb : bt ≠ 0) (r : List Int) (j : Nat) : vq (psR bt r) j = 1 / (bt : Rat) * vi r j := by
  have : vq (psR bt r) j = vi r j / (bt : Rat) := by
    unfold vq psR vi
    rw [List.getD_eq_getElem?_getD, List.getElem?_map, List.getD_eq_getElem?_getD]
    cases r[j]? with
    | none => show (0 : Rat) = ((0 : Int) : Rat) / _; rw [show ((0 : Int) : Rat) = 0 from rfl, Rat.div_def]; grind
    | some x => rfl
  rw [this, Rat.div_def, Rat.div_def]; grind
theorem ps_span {bt : Int} (hb : bt ≠ 0) (rows : List (List Int)) (x : Vc) : Sp ((rows.map (psR bt)).map vq) x ↔ Sp (rows.map vi) x := by
  have bq : (bt : Rat) ≠ 0 := by exact_mod_cast hb
  constructor
  · refine sp_le fun r hr => ?_
    obtain ⟨q, hq, rfl⟩ := List.mem_map.mp hr
    obtain ⟨l, hl, rfl⟩ := List.mem_map.mp hq
    exact (sp_mul (1 / (bt : Rat)) (sp_mem (List.mem_map.mpr ⟨l, hl, rfl⟩))).to fun j => (psR_vq hb l j).symm
  · refine sp_le fun r hr => ?_
    obtain ⟨l, hl, rfl⟩ := List.mem_map.mp hr
    refine (sp_mul (bt : Rat) (sp_mem (List.mem_map.mpr ⟨psR bt l, List.mem_map.mpr ⟨l, hl, rfl⟩, rfl⟩))).to fun j => ?_
    show (bt : Rat) * vq (psR bt l) j = vi l j
    rw [psR_vq hb l j]
    grind
theorem PSY_len : ∀ r ∈ PSY ns, r.length = (NMY ns).length := fun r hr => by
  obtain ⟨l, hl, rfl⟩ := List.mem_map.mp hr
  rw [psR_len]; exact (RWY_b ns).2.1 l hl
theorem kBY_ok : KOk (kBY ns) (RWY ns) where
  n1 := (NMY_b ns).1
  n2 := (NMY_b ns).2
  m := (RWY_b ns).1
  len := (RWY_b ns).2.1
  sm := (RWY_b ns).2.2
  f := (frameQ_fo (PSY_len ns)).congr (ps_span (by have := btY_b ns; omega) (RWY ns))
  nm := NMY_ok
/-- the rows that are passed: their numbers -/
theorem ps_gd {bt : Int} (hb : 1 ≤ bt ∧ bt ≤ 3) {x : Int} {M : Nat} (hx : x.natAbs ≤ M) : Gd bt.toNat M ((x : Rat) / (bt : Rat)) := by
  refine ⟨x, ?_, hx⟩
  rw [show ((bt.toNat : Nat) : Int) = bt by omega]
  have bq : (bt : Rat) ≠ 0 := by exact_mod_cast (show bt ≠ 0 by omega)
  generalize (bt : Rat) = B at bq ⊢
  generalize (x : Rat) = A
  grind
theorem PSY_gd : ∀ r ∈ PSY ns, ∀ q ∈ r, Gd (btY ns).toNat 1152 q := fun r hr q hq => by
  obtain ⟨l, hl, rfl⟩ := List.mem_map.mp hr
  obtain ⟨x, hx, rfl⟩ := List.mem_map.mp hq
  obtain ⟨j, rfl⟩ := mem_getD0 hx
  exact ps_gd (btY_b ns) ((RWY_b ns).2.2 l hl j)
theorem PSY_bk : BookOk (NMY ns) (PSY ns) := by
  have hb := btY_b ns
  have hn := NMY_b ns
  have hm := (RWY_b ns).1
  have hm2 : (PSY ns).length ≤ 8 := by unfold PSY; rw [List.length_map]; exact hm
  refine ⟨by omega, nm_len12 NMY_ok, fun _ _ => ⟨by omega, by omega, fun r hr => ⟨12, fun q hq => gd_sz (PSY_gd ns r hr q hq) (by omega) (by omega) (by omega), by rw [PSY_len ns r hr]; omega, by rw [PSY_len ns r hr]; omega⟩, ?_⟩⟩
  refine clrOk_of (M := 1152) (e := 3900) (by omega) (fun r hr => ?_) (fun r hr => ?_) (fun t ht j => ?_) (by rw [List.length_map]; omega) (by rw [upto_len]; omega) (fun c hc => upto_mem.mp hc) (by decide) (by decide) ?_
  · obtain ⟨q, hq, rfl⟩ := List.mem_map.mp hr
    rw [prim_len]; exact PSY_len ns q hq
  · obtain ⟨q, hq, rfl⟩ := List.mem_map.mp hr
    exact lw_prim q
  · obtain ⟨q, hq, rfl⟩ := List.mem_map.mp ht
    exact Nat.le_trans (lowest_leA _ j) ((Nums.mk (by omega) (PSY_gd ns q hq)).tops j)
  · rw [List.length_map]
    exact Nat.lt_of_le_of_lt (bnd_mono hm2) (by unfold bnd; decide +kernel)
theorem kBY_nm : NmOk (kBY ns) := ⟨(NMY_b ns).1, (NMY_b ns).2, NMY_ok, nY_no (szY_b ns).1 (szY_b ns).2⟩
theorem kBY_rf : RfY (NMY ns) (RWY ns) (msY ns) := ⟨(NMY_b ns).1, (NMY_b ns).2, NMY_ok, mn_ok (szY_b ns).2, (RWY_b ns).1, (RWY_b ns).2.1, (RWY_b ns).2.2, lawNums_len _ _ _⟩
theorem free_bk : BookOk (NMY ns) ((freeZ (NMY ns).length).map toQ) ∧ FreeOk (NMY ns) := ⟨⟨by have := (NMY_b ns).2; omega, nm_len12 NMY_ok, fun _ _ => fr_frok (NMY_b ns).1 (NMY_b ns).2⟩, NMY_b ns, NMY_ok⟩
theorem rowI_unit {n k : Nat} (hk : k < n) : rowI n k = unitR n k := by
  apply List.ext_getElem?
  intro j
  by_cases hj : j < n
  · have e := unitR_at hk j
    rw [List.getD_eq_getElem?_getD, List.getElem?_eq_getElem (by rw [unitR_len]; exact hj)] at e
    have e : (unitR n k)[j]'(by rw [unitR_len]; exact hj) = if j = k then 1 else 0 := e
    rw [List.getElem?_eq_getElem (l := unitR n k) (by rw [unitR_len]; exact hj), e]
    unfold rowI
    rw [List.getElem?_map, List.getElem?_range hj]
    show some (if decide ((j : Int) = (k : Int)) = true then (1 : Int) else 0) = _
    by_cases q : j = k
    · rw [if_pos (decide_eq_true (by omega)), if_pos q]
    · rw [if_neg (by rw [decide_eq_false (by omega)]; exact Bool.false_ne_true), if_neg q]
  · rw [List.getElem?_eq_none (l := unitR n k) (by rw [unitR_len]; omega), List.getElem?_eq_none (by unfold rowI; simp; omega)]
theorem rowI_free (n : Nat) : (List.range n).map (rowI n) = freeZ n := List.map_congr_left fun k hk => rowI_unit (List.mem_range.mp hk)
theorem kBY_end : ((decide (NMY ns = (kBY ns).names)) && ((decide (frameQ ((freeZ (NMY ns).length).map toQ) (NMY ns).length = (List.range (NMY ns).length).map (rowI (NMY ns).length))) && decide ((((NMY ns).length : Nat) : Int) = (((NMY ns).length : Nat) : Int)))) = true := by
  rw [decide_eq_true (show NMY ns = (kBY ns).names from rfl), frame_free, rowI_free, decide_eq_true rfl, decide_eq_true rfl]; rfl
theorem PSi_lc {K : PySem.W.Frag} {i : Nat} : List.map (fun j : Nat => rNum K ((((((RWY ns).getD i []).getD j 0 : Int)) : Rat) / ((btY ns : Int) : Rat))) (List.filter (fun _ => true) (List.range ((RWY ns).getD i []).length)) = List.map (rNum K) (psR (btY ns) ((RWY ns).getD i [])) := by
  refine (lc_map (xs := (RWY ns).getD i []) (d := 0) (f := fun x : Int => rNum K ((x : Rat) / ((btY ns : Int) : Rat)))).trans ?_
  unfold psR
  rw [List.map_map]; rfl
theorem PSo_lc {R : List Rat → Rep} : List.map (fun i : Nat => R (psR (btY ns) ((RWY ns).getD i []))) (List.filter (fun _ => true) (List.range (RWY ns).length)) = List.map R (PSY ns) := by
  refine (lc_map (xs := RWY ns) (d := []) (f := fun r => R (psR (btY ns) r))).trans ?_
  unfold PSY
  rw [List.map_map]; rfl
theorem rw_lg {i j : Nat} : Lg (((RWY ns).getD i []).getD j 0) < 990 := Nat.lt_of_le_of_lt (yr_lg (kBY_ok ns) i j) (by decide)
theorem bt_lg : btY ns ≠ 0 ∧ Lg (btY ns) < 990 := by
  have := btY_b ns
  exact ⟨by omega, Nat.lt_trans (lg_b (B := 8) (n := 10) (by omega) (by decide) (by decide)) (by decide)⟩
theorem PSo_pos {K : PySem.W.Frag} : ∀ l ∈ (PSY ns).map (fun l => l.map (rNum K)), 0 < l.length := fun l hl => by
  obtain ⟨q, hq, rfl⟩ := List.mem_map.mp hl
  rw [List.length_map, PSY_len ns q hq]
  have := (NMY_b ns).1
  omega
theorem rwX_len (i : Nat) : ((RWY ns).getD i []).length ≤ 16 := by
  by_cases h : i < (RWY ns).length
  · rw [(RWY_b ns).2.1 _ (getD_memL h)]; exact (NMY_b ns).2
  · rw [List.getD_eq_getElem?_getD, List.getElem?_eq_none (by omega)]; exact Nat.zero_le _
theorem nY_ms {k : Nat} : MulOk (sgn "abcd" (((msY ns).getD k 0).fmod 4).toNat) (1 + ((msY ns).getD k 0).fmod 5) := by
  have h5 := fm_bY ((msY ns).getD k 0) (show (0 : Int) < 5 by decide)
  generalize (((msY ns).getD k 0).fmod 4).toNat = c
  generalize ((msY ns).getD k 0).fmod 5 = p at h5 ⊢
  have : p = 0 ∨ p = 1 ∨ p = 2 ∨ p = 3 ∨ p = 4 := by omega
  rcases this with h | h | h | h | h
  all_goals
    subst h
    refine ⟨by decide, fun _ _ => ?_, fun _ _ => ?_⟩
    · show ¬ ((1 : Nat) : Int) > _
      decide
    · show PySem.Builtin.Str.tooLong (1 * _) = false
      decide +kernel
theorem str_app (x y : Str) : (x ++ y).length = x.length + y.length := by
  show (x.cps ++ y.cps).size = x.cps.size + y.cps.size
  rw [Array.size_append]
theorem nY_ct {k : Nat} (hk : k < 16) : (Txt.mul (sgn "abcd" (((msY ns).getD k 0).fmod 4).toNat) (1 + ((msY ns).getD k 0).fmod 5)).length + ((toString ((k : Nat) : Int) : String) : Str).length ≤ sizeLine := by
  have e := str_app (Txt.mul (sgn "abcd" (((msY ns).getD k 0).fmod 4).toNat) (1 + ((msY ns).getD k 0).fmod 5)) ((toString ((k : Nat) : Int) : String) : Str)
  obtain ⟨h1, h2, h3⟩ := nY1_is (ms := msY ns) k
  have h4 := (nm3_at h2 h3 hk).1
  rw [← h1] at h4
  unfold isNm at h4
  rw [Bool.and_eq_true, Bool.and_eq_true, Bool.and_eq_true] at h4
  have h5 := of_decide_eq_true h4.1.1.2
  rw [← strLen] at h5
  have h5 : (nY1 (msY ns) k).length ≤ 12 := h5
  rw [← e]
  exact Nat.le_trans h5 (by decide)
theorem psl_ok : lensOk (NMY ns).length (PSY ns) = true := List.all_eq_true.mpr fun r hr => decide_eq_true (PSY_len ns r hr)
theorem str4 {x : Int} (h : 0 ≤ x ∧ x < 4) : x.toNat < ("abcd" : Str).cps.toList.length := by
  show x.toNat < 4
  omega
theorem mY_pos : (1 + min (min (((NMY ns).length : Nat) : Int) ((58 : Int).fdiv (((NMY ns).length : Nat) : Int))) 8 : Int) ≠ 0 := by
  have hb := NMY_b ns
  have h : 0 ≤ (58 : Int).fdiv (((NMY ns).length : Nat) : Int) := Int.fdiv_nonneg (by decide) (Int.natCast_nonneg _)
  generalize (58 : Int).fdiv (((NMY ns).length : Nat) : Int) = z at h
  omega
end
end DL

set_option Elab.async false
set_option linter.all false
set_option maxRecDepth 100000
set_option maxHeartbeats 4000000
namespace K01
open PySem PySem.Spec PyProof.Rows L2 DL
def topS (i : Nat) : Stmt := PySem.Challenge.pw_fineststep_k01_frames_and_other_side.main.body.getD i (.Pass ⟨0, 0, 0, 0⟩)
abbrev s_ratio : Stmt := topS 8
abbrev s_is_whole : Stmt := topS 9
abbrev s_top_of : Stmt := topS 10
abbrev s_bottom_of : Stmt := topS 11
abbrev s_plus : Stmt := topS 12
abbrev s_times : Stmt := topS 13
abbrev s_over : Stmt := topS 14
abbrev s_common_bottom : Stmt := topS 15
abbrev s_support : Stmt := topS 17
abbrev s_scaled : Stmt := topS 18
abbrev s_added : Stmt := topS 19
abbrev s_primitive : Stmt := topS 20
abbrev s_lowest : Stmt := topS 21
abbrev s_cleared : Stmt := topS 23
abbrev s_lead_at : Stmt := topS 24
abbrev s_without : Stmt := topS 25
abbrev s_lowered : Stmt := topS 26
abbrev s_check_names : Stmt := topS 33
abbrev s_is_name : Stmt := topS 34
abbrev s_unit : Stmt := topS 35
abbrev s_frame_of : Stmt := topS 36
abbrev s_pivots : Stmt := topS 37
abbrev s_cell_of : Stmt := topS 38
abbrev s_is_table : Stmt := topS 39
abbrev s_table_of : Stmt := topS 40
abbrev s_same_book : Stmt := topS 41
abbrev s_other_side : Stmt := topS 42
abbrev s_price_row : Stmt := topS 43
abbrev s__law_cell : Stmt := topS 45
abbrev s__law_numbers : Stmt := topS 46
abbrev s__law_gcd : Stmt := topS 47
abbrev s__law_make : Stmt := topS 48
abbrev s__law_top : Stmt := topS 49
abbrev s__law_bottom : Stmt := topS 50
abbrev s__law_is_int : Stmt := topS 51
abbrev s__law_is_number : Stmt := topS 52
abbrev s__law_plus : Stmt := topS 53
abbrev s__law_times : Stmt := topS 54
abbrev s__law_dot : Stmt := topS 55
abbrev s__law_cleared : Stmt := topS 56
abbrev s__law_rank : Stmt := topS 57
abbrev s__law_rows : Stmt := topS 58
abbrev s__law_frame : Stmt := topS 59
abbrev s__law_spanned : Stmt := topS 60
abbrev s__law_tables : Stmt := topS 61
abbrev s__law_other : Stmt := topS 62
abbrev s__law_refused : Stmt := topS 63
abbrev s__law_refusals : Stmt := topS 64
abbrev s__law_names : Stmt := topS 65
abbrev s__law_sizes : Stmt := topS 66
abbrev s_law : Stmt := topS 67
abbrev s_Book : Stmt := inClass (topS 32) 0
abbrev s_Book_free : Stmt := inClass (topS 32) 1
structure Cs where
  BookError : Addr
  NoCell : Addr
  ZeroBottom : Addr
  BadName : Addr
  BadSize : Addr
  Book : Addr
structure Txt (K : PySem.W.Frag) (mg : Str → Option Value) (cs : Cs) : Prop where
  b_ValueError : mg "ValueError" = none
  b_abs : mg "abs" = none
  b_all : mg "all" = none
  b_bool : mg "bool" = none
  b_classmethod : mg "classmethod" = none
  b_enumerate : mg "enumerate" = none
  b_int : mg "int" = none
  b_isinstance : mg "isinstance" = none
  b_len : mg "len" = none
  b_list : mg "list" = none
  b_min : mg "min" = none
  b_range : mg "range" = none
  b_set : mg "set" = none
  b_str : mg "str" = none
  b_tuple : mg "tuple" = none
  b_zip : mg "zip" = none
  m_gcd : mg "gcd" = some (.builtin "math.gcd")
  m_lcm : mg "lcm" = some (.builtin "math.lcm")
  x_BookError : XCls K mg "BookError" cs.BookError
  x_NoCell : XClsF K mg "NoCell" "cell" cs.NoCell
  x_ZeroBottom : XCls K mg "ZeroBottom" cs.ZeroBottom
  x_BadName : XCls K mg "BadName" cs.BadName
  x_BadSize : XCls K mg "BadSize" cs.BadSize
  i_Book : TI K mg "Book" "Book.__init__" cs.Book s_Book ["names", "size", "frame"]
  cm_Book_free : TC K cs.Book "free" "Book.free" s_Book_free
  c_LETTERS : ∃ u, mg "LETTERS" = some u ∧ RelV (.str "abcdefghijklmnopqrstuvwxyz") u
  c_DIGITS : ∃ u, mg "DIGITS" = some u ∧ RelV (.str "0123456789") u
  c_MOST_CELLS : ∃ u, mg "MOST_CELLS" = some u ∧ RelV (.int 16) u
  c_MOST_SIGNS : ∃ u, mg "MOST_SIGNS" = some u ∧ RelV (.int 12) u
  d_ratio : TD K mg "ratio" s_ratio
  d_is_whole : TD K mg "is_whole" s_is_whole
  d_top_of : TD K mg "top_of" s_top_of
  d_bottom_of : TD K mg "bottom_of" s_bottom_of
  d_plus : TD K mg "plus" s_plus
  d_times : TD K mg "times" s_times
  d_over : TD K mg "over" s_over
  d_common_bottom : TD K mg "common_bottom" s_common_bottom
  d_support : TD K mg "support" s_support
  d_scaled : TD K mg "scaled" s_scaled
  d_added : TD K mg "added" s_added
  d_primitive : TD K mg "primitive" s_primitive
  d_lowest : TD K mg "lowest" s_lowest
  d_cleared : TD K mg "cleared" s_cleared
  d_lead_at : TD K mg "lead_at" s_lead_at
  d_without : TD K mg "without" s_without
  d_lowered : TD K mg "lowered" s_lowered
  d_check_names : TD K mg "check_names" s_check_names
  d_is_name : TD K mg "is_name" s_is_name
  d_unit : TD K mg "unit" s_unit
  d_frame_of : TD K mg "frame_of" s_frame_of
  d_pivots : TD K mg "pivots" s_pivots
  d_cell_of : TD K mg "cell_of" s_cell_of
  d_is_table : TD K mg "is_table" s_is_table
  d_table_of : TD K mg "table_of" s_table_of
  d_same_book : TD K mg "same_book" s_same_book
  d_other_side : TD K mg "other_side" s_other_side
  d_price_row : TD K mg "price_row" s_price_row
  d__law_cell : TD K mg "_law_cell" s__law_cell
  d__law_numbers : TD K mg "_law_numbers" s__law_numbers
  d__law_gcd : TD K mg "_law_gcd" s__law_gcd
  d__law_make : TD K mg "_law_make" s__law_make
  d__law_top : TD K mg "_law_top" s__law_top
  d__law_bottom : TD K mg "_law_bottom" s__law_bottom
  d__law_is_int : TD K mg "_law_is_int" s__law_is_int
  d__law_plus : TD K mg "_law_plus" s__law_plus
  d__law_times : TD K mg "_law_times" s__law_times
  d__law_dot : TD K mg "_law_dot" s__law_dot
  d__law_cleared : TD K mg "_law_cleared" s__law_cleared
  d__law_rank : TD K mg "_law_rank" s__law_rank
  d__law_rows : TD K mg "_law_rows" s__law_rows
  d__law_frame : TD K mg "_law_frame" s__law_frame
  d__law_spanned : TD K mg "_law_spanned" s__law_spanned
  d__law_tables : TD K mg "_law_tables" s__law_tables
  d__law_other : TD K mg "_law_other" s__law_other
  d__law_refused : TD K mg "_law_refused" s__law_refused
  d__law_refusals : TD K mg "_law_refusals" s__law_refusals
  d__law_names : TD K mg "_law_names" s__law_names
  d__law_sizes : TD K mg "_law_sizes" s__law_sizes
  d_law : TD K mg "law" s_law
  e_BadName : ExcC K cs.BadName
  s_BadName_BookError : PySem.W.subIn K (.ref cs.BadName) (.ref cs.BookError) = some true
  k_BadName_BookError : PySem.W.kitOne K (.ref cs.BadName) (.ref cs.BookError) = some true
  s_BadName_NoCell : PySem.W.subIn K (.ref cs.BadName) (.ref cs.NoCell) = some false
  k_BadName_NoCell : PySem.W.kitOne K (.ref cs.BadName) (.ref cs.NoCell) = some false
  s_BadName_ZeroBottom : PySem.W.subIn K (.ref cs.BadName) (.ref cs.ZeroBottom) = some false
  k_BadName_ZeroBottom : PySem.W.kitOne K (.ref cs.BadName) (.ref cs.ZeroBottom) = some false
  s_BadName_BadName : PySem.W.subIn K (.ref cs.BadName) (.ref cs.BadName) = some true
  k_BadName_BadName : PySem.W.kitOne K (.ref cs.BadName) (.ref cs.BadName) = some true
  s_BadName_BadSize : PySem.W.subIn K (.ref cs.BadName) (.ref cs.BadSize) = some false
  k_BadName_BadSize : PySem.W.kitOne K (.ref cs.BadName) (.ref cs.BadSize) = some false
  s_BadName_Book : PySem.W.subIn K (.ref cs.BadName) (.ref cs.Book) = some false
  k_BadName_Book : PySem.W.kitOne K (.ref cs.BadName) (.ref cs.Book) = some false
  k_BadName_ValueError : PySem.W.kitOne K (.ref cs.BadName) (.type "ValueError") = some true
  e_BadSize : ExcC K cs.BadSize
  s_BadSize_BookError : PySem.W.subIn K (.ref cs.BadSize) (.ref cs.BookError) = some true
  k_BadSize_BookError : PySem.W.kitOne K (.ref cs.BadSize) (.ref cs.BookError) = some true
  s_BadSize_NoCell : PySem.W.subIn K (.ref cs.BadSize) (.ref cs.NoCell) = some false
  k_BadSize_NoCell : PySem.W.kitOne K (.ref cs.BadSize) (.ref cs.NoCell) = some false
  s_BadSize_ZeroBottom : PySem.W.subIn K (.ref cs.BadSize) (.ref cs.ZeroBottom) = some false
  k_BadSize_ZeroBottom : PySem.W.kitOne K (.ref cs.BadSize) (.ref cs.ZeroBottom) = some false
  s_BadSize_BadName : PySem.W.subIn K (.ref cs.BadSize) (.ref cs.BadName) = some false
  k_BadSize_BadName : PySem.W.kitOne K (.ref cs.BadSize) (.ref cs.BadName) = some false
  s_BadSize_BadSize : PySem.W.subIn K (.ref cs.BadSize) (.ref cs.BadSize) = some true
  k_BadSize_BadSize : PySem.W.kitOne K (.ref cs.BadSize) (.ref cs.BadSize) = some true
  s_BadSize_Book : PySem.W.subIn K (.ref cs.BadSize) (.ref cs.Book) = some false
  k_BadSize_Book : PySem.W.kitOne K (.ref cs.BadSize) (.ref cs.Book) = some false
  k_BadSize_ValueError : PySem.W.kitOne K (.ref cs.BadSize) (.type "ValueError") = some true
  e_NoCell : ExcC K cs.NoCell
  s_NoCell_BookError : PySem.W.subIn K (.ref cs.NoCell) (.ref cs.BookError) = some true
  k_NoCell_BookError : PySem.W.kitOne K (.ref cs.NoCell) (.ref cs.BookError) = some true
  s_NoCell_NoCell : PySem.W.subIn K (.ref cs.NoCell) (.ref cs.NoCell) = some true
  k_NoCell_NoCell : PySem.W.kitOne K (.ref cs.NoCell) (.ref cs.NoCell) = some true
  s_NoCell_ZeroBottom : PySem.W.subIn K (.ref cs.NoCell) (.ref cs.ZeroBottom) = some false
  k_NoCell_ZeroBottom : PySem.W.kitOne K (.ref cs.NoCell) (.ref cs.ZeroBottom) = some false
  s_NoCell_BadName : PySem.W.subIn K (.ref cs.NoCell) (.ref cs.BadName) = some false
  k_NoCell_BadName : PySem.W.kitOne K (.ref cs.NoCell) (.ref cs.BadName) = some false
  s_NoCell_BadSize : PySem.W.subIn K (.ref cs.NoCell) (.ref cs.BadSize) = some false
  k_NoCell_BadSize : PySem.W.kitOne K (.ref cs.NoCell) (.ref cs.BadSize) = some false
  s_NoCell_Book : PySem.W.subIn K (.ref cs.NoCell) (.ref cs.Book) = some false
  k_NoCell_Book : PySem.W.kitOne K (.ref cs.NoCell) (.ref cs.Book) = some false
  k_NoCell_ValueError : PySem.W.kitOne K (.ref cs.NoCell) (.type "ValueError") = some true
variable {P : Program} {w : World} {K : PySem.W.Frag} {mg : Str → Option Value} {base : Heap} {cs : Cs}
theorem sc_ratio : FnScope ["top", "bottom", "common"] ["top", "bottom"] (defScope s_ratio) := ⟨rfl, rfl, rfl, by decide +kernel, rfl, by decide +kernel, by decide +kernel⟩
def sp_ratio (K : PySem.W.Frag) (cs : Cs) : Sp := PmX (ι := Int × Int) (fun ⟨t, b⟩ => Lg b < 9000) (fun ⟨t, b⟩ => [rInt t, rInt b]) (fun ⟨t, b⟩ => if b = 0 then .err cs.ZeroBottom else .ok (.val (rNum K ((t : Rat) / (b : Rat)))))
abbrev okr_ratio (K : PySem.W.Frag) : Int × Int → Ret := fun ⟨t, b⟩ => .val (rNum K ((t : Rat) / (b : Rat)))
theorem ok_ratio (T : Txt K mg cs) : Cal P w K mg base 1 "ratio" (sp_ratio K cs) := by
  refine cal_okX T.d_ratio sc_ratio (fun g => rfl) (fun _ _ _ _ _ _ us hl => match us, hl with | [_, _], _ => rfl) ?_
  rintro X rfl rfl rfl rfl rfl B Bf ⟨t, b⟩ F0 H0 D E tk hp R hnx
  refine go_if (dt_eqI (de_var B (i := 1) rfl rfl (.inl rfl)) de_int) (fun hc => ?gt_1) (fun hc => ?gf_2)
  case gt_1 =>
    replace hc : b = 0 := of_decide_eq_true hc
    refine go_raise B tk T.x_ZeroBottom rfl (fun F H σ en => R.er (C := cs.ZeroBottom) ?re1 H en.gr.h)
    (case re1 => exact if_pos hc)
  case gf_2 =>
    replace hc : b ≠ 0 := of_decide_eq_false hc; have hb := hc
    refine go_then ?go_3
    refine go_set B (i := 2) (de_gcd B T.m_gcd (de_var B (i := 0) rfl rfl (.inl rfl)) (de_var B (i := 1) rfl rfl (.inl rfl)) rfl) rfl (.inl rfl) ?go_4
    refine go_if (dt_lt (de_var B (i := 1) rfl rfl (.inl rfl)) de_int) (fun hc => ?gt_5) (fun hc => ?gf_6)
    case gt_5 =>
      replace hc : b < 0 := of_decide_eq_true hc; have hl : lowC t b = -(Int.gcd t b : Int) := if_pos hc
      refine go_set B (i := 2) (de_neg (de_var B (i := 2) rfl rfl (.inl rfl))) rfl (.inl rfl) ?go_7
      refine go_then ?go_8
      refine go_if (dt_eqI (de_var B (i := 2) rfl rfl (.inl rfl)) (de_var B (i := 1) rfl rfl (.inl rfl))) (fun hc => ?gt_9) (fun hc => ?gf_10)
      case gt_9 =>
        replace hc := of_decide_eq_true hc
        refine go_ret (R.rt (ret := .val (rNum X.K ((t : Rat) / (b : Rat)))) ?ro2) (de_divG ?z3 ?d4 (de_var B (i := 0) rfl rfl (.inl rfl)) (de_var B (i := 2) rfl rfl (.inl rfl))) ?rs_11
        (case ro2 => exact if_neg hb)
        (case z3 => rw [← hl]; exact lowC_ne hb)
        (case d4 => rw [← hl]; exact Nat.lt_of_le_of_lt (lg_lowC hb) hp)
        (case rs_11 => rw [← hl]; exact sub_whole (rat_den1 hb (hl.trans hc)) (rat_num hb))
      case gf_10 =>
        replace hc := of_decide_eq_false hc
        refine go_then ?go_12
        refine go_ret (R.rt (ret := .val (rNum X.K ((t : Rat) / (b : Rat)))) ?ro5) (de_tup (da_cons (de_divG ?z6 ?d7 (de_var B (i := 0) rfl rfl (.inl rfl)) (de_var B (i := 2) rfl rfl (.inl rfl))) (da_cons (de_divG ?z8 ?d9 (de_var B (i := 1) rfl rfl (.inl rfl)) (de_var B (i := 2) rfl rfl (.inl rfl))) da_nil)) (show (2 : Nat) ≤ sizeLine by decide)) ?rs_13
        (case ro5 => exact if_neg hb)
        (case z6 => rw [← hl]; exact lowC_ne hb)
        (case d7 => rw [← hl]; exact Nat.lt_of_le_of_lt (lg_lowC hb) hp)
        (case z8 => rw [← hl]; exact lowC_ne hb)
        (case d9 => rw [← hl]; exact Nat.lt_of_le_of_lt (lg_lowC hb) hp)
        (case rs_13 => rw [← hl]; exact sub_pair (rat_denN hb (fun z => hc (hl.symm.trans z))) (rat_num hb) (rat_den hb))
    case gf_6 =>
      replace hc : ¬ b < 0 := of_decide_eq_false hc; have hl : lowC t b = (Int.gcd t b : Int) := if_neg hc
      refine go_then ?go_14
      refine go_if (dt_eqI (de_var B (i := 2) rfl rfl (.inl rfl)) (de_var B (i := 1) rfl rfl (.inl rfl))) (fun hc => ?gt_15) (fun hc => ?gf_16)
      case gt_15 =>
        replace hc := of_decide_eq_true hc
        refine go_ret (R.rt (ret := .val (rNum X.K ((t : Rat) / (b : Rat)))) ?ro10) (de_divG ?z11 ?d12 (de_var B (i := 0) rfl rfl (.inl rfl)) (de_var B (i := 2) rfl rfl (.inl rfl))) ?rs_17
        (case ro10 => exact if_neg hb)
        (case z11 => rw [← hl]; exact lowC_ne hb)
        (case d12 => rw [← hl]; exact Nat.lt_of_le_of_lt (lg_lowC hb) hp)
        (case rs_17 => rw [← hl]; exact sub_whole (rat_den1 hb (hl.trans hc)) (rat_num hb))
      case gf_16 =>
        replace hc := of_decide_eq_false hc
        refine go_then ?go_18
        refine go_ret (R.rt (ret := .val (rNum X.K ((t : Rat) / (b : Rat)))) ?ro13) (de_tup (da_cons (de_divG ?z14 ?d15 (de_var B (i := 0) rfl rfl (.inl rfl)) (de_var B (i := 2) rfl rfl (.inl rfl))) (da_cons (de_divG ?z16 ?d17 (de_var B (i := 1) rfl rfl (.inl rfl)) (de_var B (i := 2) rfl rfl (.inl rfl))) da_nil)) (show (2 : Nat) ≤ sizeLine by decide)) ?rs_19
        (case ro13 => exact if_neg hb)
        (case z14 => rw [← hl]; exact lowC_ne hb)
        (case d15 => rw [← hl]; exact Nat.lt_of_le_of_lt (lg_lowC hb) hp)
        (case z16 => rw [← hl]; exact lowC_ne hb)
        (case d17 => rw [← hl]; exact Nat.lt_of_le_of_lt (lg_lowC hb) hp)
        (case rs_19 => rw [← hl]; exact sub_pair (rat_denN hb (fun z => hc (hl.symm.trans z))) (rat_num hb) (rat_den hb))
theorem sc_is_whole : FnScope ["number"] ["number"] (defScope s_is_whole) := ⟨rfl, rfl, rfl, by decide +kernel, rfl, by decide +kernel, by decide +kernel⟩
def sp_is_whole (K : PySem.W.Frag) (cs : Cs) : Sp := Pm (ι := Rat) (fun q => True) (fun q => [rNum K q]) (fun q => .val (rBl (decide (q.den = 1))))
theorem ok_is_whole (T : Txt K mg cs) : Cal P w K mg base 1 "is_whole" (sp_is_whole K cs) := by
  refine cal_ok T.d_is_whole sc_is_whole (fun g => rfl) (fun _ _ _ _ _ _ us hl => match us, hl with | [_], _ => rfl) ?_
  rintro X rfl rfl rfl rfl rfl B Bf q F0 H0 D hp R hnx
  refine go_ret R (de_not (de_isi (T := "tuple") B T.b_isinstance rty_num kit_numT (de_var B (i := 0) rfl rfl (.inl rfl)) (de_ty B T.b_tuple (by decide +kernel) rfl) rfl)) ?rs_1
  (case rs_1 => exact Sub.of (by simp))
theorem sc_support : FnScope ["numbers", "k", "number"] ["numbers"] (defScope s_support) := ⟨rfl, rfl, rfl, by decide +kernel, rfl, by decide +kernel, by decide +kernel⟩
def sp_support (K : PySem.W.Frag) (cs : Cs) : Sp := Pm (ι := List Rat) (fun qs => qs.length ≤ 1000) (fun qs => [rSeq K (qs.map (rNum K))]) (fun qs => .lst ((suppI qs).map rInt))
theorem ok_support (T : Txt K mg cs) : Cal P w K mg base 1 "support" (sp_support K cs) := by
  refine cal_ok T.d_support sc_support (fun g => rfl) (fun _ _ _ _ _ _ us hl => match us, hl with | [_], _ => rfl) ?_
  rintro X rfl rfl rfl rfl rfl B Bf qs F0 H0 D hp R hnx
  refine go_retL R (DL.to (l' := List.map rInt (suppI qs)) (dl_lc B [("k", 1), ("number", 2)] (sr_enumA (R := (rNum X.K)) (0 : Rat) B T.b_enumerate (de_var B (i := 0) rfl rfl (.inl rfl)) rfl) (blkOk_by (by decide +kernel)) _ _ (fun i : Nat => rInt ((i : Nat) : Int)) ?sz1 (by decide) (fun _ _ _ _ _ B i hi => (dg_tup B (dgs_cons (dg_name B (i := 1) rfl (.inl rfl)) (dgs_cons (dg_name B (i := 2) rfl (.inl rfl)) dgs_nil)))) (fun _ _ _ _ _ B i hi => (dts_one (dt_neN B (de_var B (i := 2) rfl rfl (.inl rfl)) (de_i2n de_int)))) (fun _ _ _ _ _ B i hi hb => (de_var B (i := 1) rfl rfl (.inl rfl)))) ?cl2) ?rs_1
  (case sz1 => exact Nat.lt_of_le_of_lt hp (by decide))
  (case cl2 => unfold suppI suppN; rw [List.map_map]; rfl)
  (case rs_1 => rfl)
theorem sc_lowest : FnScope ["row", "common", "number", "divisor", "x"] ["row"] (defScope s_lowest) := ⟨rfl, rfl, rfl, by decide +kernel, rfl, by decide +kernel, by decide +kernel⟩
def sp_lowest (K : PySem.W.Frag) (cs : Cs) : Sp := Pm (ι := List Int) (fun ns => ns.length ≤ 1000 ∧ ∀ x ∈ ns, Lg x < 8990) (fun ns => [rLst K (ns.map rInt)]) (fun ns => .lst ((lowest ns).map rInt))
theorem ok_lowest (T : Txt K mg cs) : Cal P w K mg base 1 "lowest" (sp_lowest K cs) := by
  refine cal_ok T.d_lowest sc_lowest (fun g => rfl) (fun _ _ _ _ _ _ us hl => match us, hl with | [_], _ => rfl) ?_
  rintro X rfl rfl rfl rfl rfl B Bf ns F0 H0 D hp R hnx
  refine go_set B (i := 1) de_int rfl (.inl rfl) ?go_1
  refine go_forS B (fun i => [(1, .im (rInt ((gl (ns.take i) : Nat) : Int))), (2, .any)]) (fun i => True) (sr_listM (R := rInt) (0 : Int) (de_var B (i := 0) rfl rfl (.inl rfl))) _ (fun i hi => (dg_name B (i := 2) rfl (.inl rfl))) ?h0_2 ?j0_3 (fun F1 u i hi hj => ?gb_4) (fun hj => ?ge_5)
  (case h0_2 => refine .same ?_; refine .im ?h ?_; (case h => exact Sub.rfl); refine .any ?_; refine .same ?_; refine .same ?_; exact .nil)
  (case j0_3 => trivial)
  case gb_4 =>
    refine go_set B (i := 1) (de_gcd B T.m_gcd (de_var B (i := 1) rfl rfl (.inl rfl)) (de_var B (i := 2) rfl rfl (.inl rfl)) rfl) rfl (.inl rfl) ?go_6
    refine go_turnS ?jn_7 ?ln_8
    (case jn_7 => trivial)
    (case ln_8 => refine .same ?_; refine .im ?h ?_; (case h => exact Sub.of (by rw [gl_step hi])); refine .any ?_; refine .same ?_; refine .same ?_; exact .nil)
  case ge_5 =>
    refine go_forS B (fun i => [(2, .any), (3, .any)]) (fun i => ∀ j, j < i → ns.getD j 0 = 0) (sr_listM (R := rInt) (0 : Int) (de_var B (i := 0) rfl rfl (.inl rfl))) _ (fun i hi => (dg_name B (i := 2) rfl (.inl rfl))) ?h0_9 ?j0_10 (fun F1 u i hi hj => ?gb_11) (fun hj => ?ge_12)
    (case h0_9 => refine .same ?_; refine .same ?_; refine .any ?_; refine .any ?_; refine .same ?_; exact .nil)
    (case j0_10 => exact fun j hj => absurd hj (Nat.not_lt_zero j))
    case gb_11 =>
      refine go_if (dt_neI (de_var B (i := 2) rfl rfl (.inl rfl)) de_int) (fun hc => ?gt_13) (fun hc => ?gf_14)
      case gt_13 =>
        replace hc := nd_t hc
        have hi1 := hi
        have hf := fnz_at hi hj hc
        have hsd := sdv_ne hf
        refine go_set B (i := 3) (DE.to (r' := rInt (sdv (gl ns) (ns.getD i 0))) (de_if (dt_gt (de_var B (i := 2) rfl rfl (.inl rfl)) de_int) (fun hc2 => DE.to (r' := rInt (sdv (gl ns) (ns.getD i 0))) (de_var B (i := 1) rfl rfl (.inl rfl)) ?sa1) (fun hc2 => DE.to (r' := rInt (sdv (gl ns) (ns.getD i 0))) (de_neg (de_var B (i := 1) rfl rfl (.inl rfl))) ?sb2)) rfl) rfl (.inr ⟨rfl, Bf _⟩) ?go_15
        (case sa1 => exact congrArg rInt (sdv_t (of_decide_eq_true hc2)))
        (case sb2 => exact congrArg rInt (sdv_f (of_decide_eq_false hc2)))
        refine go_retL (u.rt R) (DL.to (l' := List.map rInt (lowest ns)) (dl_lc B [("x", 4)] (sr_listM (R := rInt) (0 : Int) (de_var B (i := 0) rfl rfl (.inl rfl))) (blkOk_by (by decide +kernel)) _ (fun _ => true) (fun i2 : Nat => rInt ((ns.getD i2 0).fdiv (sdv (gl ns) (ns.getD i 0)))) ?sz5 (by decide) (fun _ _ _ _ _ B i2 hi => (dg_name B (i := 4) rfl (.inl rfl))) (fun _ _ _ _ _ B i2 hi => dts_nil) (fun _ _ _ _ _ B i2 hi hb => (de_divG ?z3 ?d4 (de_var B (i := 4) rfl rfl (.inl rfl)) (de_var B (i := 3) rfl rfl (.inr (.inl rfl)))))) ?cl6) ?rs_16
        (case z3 => exact hsd)
        (case d4 => exact sdv_lg hp.2 hi1 hc)
        (case sz5 => exact Nat.lt_of_le_of_lt hp.1 (by decide))
        (case cl6 => exact low_lc hf)
        (case rs_16 => rfl)
      case gf_14 =>
        skip
        refine go_then ?go_17
        refine go_turnS ?jn_18 ?ln_19
        (case jn_18 => exact zer_more hj (nd_f hc))
        (case ln_19 => refine .same ?_; refine .same ?_; refine .any ?_; refine .any ?_; refine .same ?_; exact .nil)
    case ge_12 =>
      refine go_retL R (dl_list B T.b_list (de_var B (i := 0) rfl rfl (.inl rfl)) rfl) ?rs_20
      (case rs_20 => rw [show lowest ns = ns from by unfold lowest; rw [fnz_all hj]])
theorem sc_lead_at : FnScope ["rows", "cell", "k", "row"] ["rows", "cell"] (defScope s_lead_at) := ⟨rfl, rfl, rfl, by decide +kernel, rfl, by decide +kernel, by decide +kernel⟩
def sp_lead_at (K : PySem.W.Frag) (cs : Cs) : Sp := Pm (ι := List (List Int) × Int) (fun ⟨rows, c⟩ => 0 ≤ c ∧ ∀ r ∈ rows, c < r.length) (fun ⟨rows, c⟩ => [rLst K (rows.map (rRowS K)), rInt c]) (fun ⟨rows, c⟩ => .val (rOp rInt ((leadAt rows c.toNat).map fun k : Nat => (k : Int))))
theorem ok_lead_at (T : Txt K mg cs) : Cal P w K mg base 1 "lead_at" (sp_lead_at K cs) := by
  refine cal_ok T.d_lead_at sc_lead_at (fun g => rfl) (fun _ _ _ _ _ _ us hl => match us, hl with | [_, _], _ => rfl) ?_
  rintro X rfl rfl rfl rfl rfl B Bf ⟨rows, c⟩ F0 H0 D hp R hnx
  refine go_forS B (fun i => [(2, .any), (3, .any)]) (fun i => ∀ j, j < i → (rows.getD j []).getD c.toNat 0 = 0) (sr_enumM (R := (fun l => rSeq X.K (List.map rInt l))) [] B T.b_enumerate (de_var B (i := 0) rfl rfl (.inl rfl)) rfl) _ (fun i hi => (dg_tup B (dgs_cons (dg_name B (i := 2) rfl (.inl rfl)) (dgs_cons (dg_name B (i := 3) rfl (.inl rfl)) dgs_nil)))) ?h0_1 ?j0_2 (fun F1 u i hi hj => ?gb_3) (fun hj => ?ge_4)
  (case h0_1 => refine .same ?_; refine .same ?_; refine .any ?_; refine .any ?_; exact .nil)
  (case j0_2 => exact fun j hj => absurd hj (Nat.not_lt_zero j))
  case gb_3 =>
    refine go_if (dt_neI (de_ixAM (R := rInt) (0 : Int) ?xl1 ?xh2 (de_var B (i := 3) rfl rfl (.inl rfl)) (de_var B (i := 1) rfl rfl (.inl rfl))) de_int) (fun hc => ?gt_5) (fun hc => ?gf_6)
    (case xl1 => exact hp.1)
    (case xh2 => exact hp.2 _ (getD_memL hi))
    case gt_5 =>
      replace hc := nd_t hc
      refine go_ret (u.rt R) (de_oS (R := rInt) (de_var B (i := 2) rfl rfl (.inl rfl))) ?rs_7
      (case rs_7 => exact Sub.of (congrArg (fun o : Option Nat => rOp rInt (o.map fun k : Nat => (k : Int))) (leadAt_at hi hj hc).symm))
    case gf_6 =>
      skip
      refine go_then ?go_8
      refine go_turnS ?jn_9 ?ln_10
      (case jn_9 => exact la_more hj (nd_f hc))
      (case ln_10 => refine .same ?_; refine .same ?_; refine .any ?_; refine .any ?_; exact .nil)
  case ge_4 =>
    refine go_ret R (de_oN (R := rInt) de_non) ?rs_11
    (case rs_11 => exact Sub.of (congrArg (fun o : Option Nat => rOp rInt (o.map fun k : Nat => (k : Int))) (leadAt_all hj).symm))
theorem sc_is_name : FnScope ["text", "sign"] ["text"] (defScope s_is_name) := ⟨rfl, rfl, rfl, by decide +kernel, rfl, by decide +kernel, by decide +kernel⟩
def sp_is_name (K : PySem.W.Frag) (cs : Cs) : Sp := Pm (ι := Str) (fun x => x.length ≤ 100000) (fun x => [rStr x]) (fun x => .val (rBl (isNm x)))
theorem ok_is_name (T : Txt K mg cs) : Cal P w K mg base 1 "is_name" (sp_is_name K cs) := by
  refine cal_ok T.d_is_name sc_is_name (fun g => rfl) (fun _ _ _ _ _ _ us hl => match us, hl with | [_], _ => rfl) ?_
  rintro X rfl rfl rfl rfl rfl B Bf x F0 H0 D hp R hnx
  refine go_if (DW.t (dw_or (dt_not (dt_chain op_le b2_I0 op_le b2_I0 de_int (de_lenS B T.b_len ?gl1 (de_var B (i := 0) rfl rfl (.inl rfl)) rfl) (fun hch => (de_glob B (v := .int 12) T.c_MOST_SIGNS rfl)))) (fun hb1 => (dw_or1 (dt_notInSg (de_ixStr ?gz2 ?xl3 ?xh4 (de_var B (i := 0) rfl rfl (.inl rfl)) de_int) (de_glob B (v := .str "abcdefghijklmnopqrstuvwxyz") T.c_LETTERS rfl)))))) (fun hc => ?gt_1) (fun hc => ?gf_2)
  (case gl1 => exact Nat.le_trans hp (by decide))
  (case gz2 => exact Nat.le_trans hp (by decide))
  (case xl3 => decide)
  (case xh4 => exact (nm_len (nn_f hb1)).1)
  case gt_1 =>
    have hn := nm_f hc rfl
    refine go_ret R de_bl ?rs_3
    (case rs_3 => exact Sub.of (congrArg rBl hn.symm))
  case gf_2 =>
    have hn := nm_t hc rfl
    have hlen := nm_le hc
    refine go_then ?go_4
    refine go_ret R (de_allB B T.b_all (DL.froz (DL.to (l' := List.map rBl (x.cps.toList.map nmS)) (dl_lc B [("sign", 1)] (sr_str (de_var B (i := 0) rfl rfl (.inl rfl))) (blkOk_by (by decide +kernel)) _ (fun _ => true) (fun i : Nat => rBl (nmS (x.cps.toList.getD i 0))) ?sz5 (by decide) (fun _ _ _ _ _ B i hi => (dg_name B (i := 1) rfl (.inl rfl))) (fun _ _ _ _ _ B i hi => dts_nil) (fun _ _ _ _ _ B i hi hb => (de_or (de_inSg (de_var B (i := 1) rfl rfl (.inl rfl)) (de_glob B (v := .str "abcdefghijklmnopqrstuvwxyz") T.c_LETTERS rfl)) (fun hb1 => (de_one (de_inSg (de_var B (i := 1) rfl rfl (.inl rfl)) (de_glob B (v := .str "0123456789") T.c_DIGITS rfl))))))) ?cl6)) rfl) ?rs_5
    (case sz5 => exact Nat.lt_of_le_of_lt hlen (by decide))
    (case cl6 => exact nm_lc)
    (case rs_5 => exact Sub.of (congrArg rBl (nm_all.trans hn)))
theorem sc_unit : FnScope ["size", "cell", "row"] ["size", "cell"] (defScope s_unit) := ⟨rfl, rfl, rfl, by decide +kernel, rfl, by decide +kernel, by decide +kernel⟩
def sp_unit (K : PySem.W.Frag) (cs : Cs) : Sp := Pm (ι := Nat × Nat) (fun ⟨n, c⟩ => c < n ∧ n ≤ 1000) (fun ⟨n, c⟩ => [rInt (n : Int), rInt (c : Int)]) (fun ⟨n, c⟩ => .lst ((unitR n c).map rInt))
theorem ok_unit (T : Txt K mg cs) : Cal P w K mg base 1 "unit" (sp_unit K cs) := by
  refine cal_ok T.d_unit sc_unit (fun g => rfl) (fun _ _ _ _ _ _ us hl => match us, hl with | [_, _], _ => rfl) ?_
  rintro X rfl rfl rfl rfl rfl B Bf ⟨n, c⟩ F0 H0 D hp R hnx
  refine go_setL B (i := 2) (DL.to (l' := List.map rInt (List.replicate n (0 : Int))) (dl_rep (dl_lst (da_cons de_int da_nil) (show (1 : Nat) ≤ sizeLine by decide)) (de_var B (i := 0) rfl rfl (.inl rfl)) ?rp1 ?rp2 ?rz3) ?cl4) rfl (.inl rfl) ?go_1
  (case rp1 => have := hp.2; omega)
  (case rp2 => have := hp.2; omega)
  (case rz3 => have := hp.2; exact Nat.le_trans (show _ ≤ 1000 by simp; omega) (by decide))
  (case cl4 => exact unit_lc)
  refine go_putM (R := rInt) B (i := 2) de_int (de_var B (i := 1) rfl rfl (.inl rfl)) ?xl5 ?xh6 rfl rfl (.inl rfl) ?go_2
  (case xl5 => exact Int.natCast_nonneg _)
  (case xh6 => have := hp.1; simp; omega)
  refine go_retV B (i := 2) R rfl ?rs_3 rfl (.inl rfl)
  (case rs_3 => rfl)
theorem sc_same_book : FnScope ["first", "second"] ["first", "second"] (defScope s_same_book) := ⟨rfl, rfl, rfl, by decide +kernel, rfl, by decide +kernel, by decide +kernel⟩
def sp_same_book (K : PySem.W.Frag) (cs : Cs) : Sp := Pm (ι := Bk × Bk) (fun ⟨b, d⟩ => StrsOk b.names ∧ StrsOk d.names) (fun ⟨b, d⟩ => [rBook K cs.Book b, rBook K cs.Book d]) (fun ⟨b, d⟩ => .val (rBl (sameB b d)))
theorem ok_same_book (T : Txt K mg cs) : Cal P w K mg base 1 "same_book" (sp_same_book K cs) := by
  refine cal_ok T.d_same_book sc_same_book (fun g => rfl) (fun _ _ _ _ _ _ us hl => match us, hl with | [_, _], _ => rfl) ?_
  rintro X rfl rfl rfl rfl rfl B Bf ⟨b, d⟩ F0 H0 D hp R hnx
  refine go_ret R (de_and (de_eqTS B ?so1 ?so2 (de_bkN T.i_Book.o (de_var B (i := 0) rfl rfl (.inl rfl))) (de_bkN T.i_Book.o (de_var B (i := 1) rfl rfl (.inl rfl)))) (fun hb1 => (de_one (de_eqT (dat_tup (dat_tup dat_int)) (by decide) B (de_bkF T.i_Book.o (de_var B (i := 0) rfl rfl (.inl rfl))) (de_bkF T.i_Book.o (de_var B (i := 1) rfl rfl (.inl rfl))))))) ?rs_1
  (case so1 => first | exact hp.1 | exact hp.2)
  (case so2 => first | exact hp.1 | exact hp.2)
  (case rs_1 => exact Sub.rfl)
theorem sc_top_of : FnScope ["number"] ["number"] (defScope s_top_of) := ⟨rfl, rfl, rfl, by decide +kernel, rfl, by decide +kernel, by decide +kernel⟩
def sp_top_of (K : PySem.W.Frag) (cs : Cs) : Sp := Pm (ι := Rat) (fun q => True) (fun q => [rNum K q]) (fun q => .val (rInt q.num))
theorem ok_top_of (T : Txt K mg cs) : Cal P w K mg base 2 "top_of" (sp_top_of K cs) := by
  refine cal_ok T.d_top_of sc_top_of (fun g => rfl) (fun _ _ _ _ _ _ us hl => match us, hl with | [_], _ => rfl) ?_
  rintro X rfl rfl rfl rfl rfl B Bf q F0 H0 D hp R hnx
  refine go_ret R (de_if (dt_val (CA.val (ca_call B (ok_is_whole T) (by decide) _ trivial (da_cons (de_var B (i := 0) rfl rfl (.inl rfl)) da_nil) rfl))) (fun hc => de_n2i ?n1 (de_var B (i := 0) rfl rfl (.inl rfl))) (fun hc => de_num0 ?n2 (de_var B (i := 0) rfl rfl (.inl rfl)))) ?rs_1
  (case n1 => simpa using hc)
  (case n2 => simpa using hc)
  (case rs_1 => exact Sub.rfl)
theorem sc_bottom_of : FnScope ["number"] ["number"] (defScope s_bottom_of) := ⟨rfl, rfl, rfl, by decide +kernel, rfl, by decide +kernel, by decide +kernel⟩
def sp_bottom_of (K : PySem.W.Frag) (cs : Cs) : Sp := Pm (ι := Rat) (fun q => True) (fun q => [rNum K q]) (fun q => .val (rInt (q.den : Int)))
theorem ok_bottom_of (T : Txt K mg cs) : Cal P w K mg base 2 "bottom_of" (sp_bottom_of K cs) := by
  refine cal_ok T.d_bottom_of sc_bottom_of (fun g => rfl) (fun _ _ _ _ _ _ us hl => match us, hl with | [_], _ => rfl) ?_
  rintro X rfl rfl rfl rfl rfl B Bf q F0 H0 D hp R hnx
  refine go_ret R (de_if (dt_val (CA.val (ca_call B (ok_is_whole T) (by decide) _ trivial (da_cons (de_var B (i := 0) rfl rfl (.inl rfl)) da_nil) rfl))) (fun hc => DE.to (r' := rInt (q.den : Int)) de_int ?e1) (fun hc => de_num1 ?n2 (de_var B (i := 0) rfl rfl (.inl rfl)))) ?rs_1
  (case e1 => have h : q.den = 1 := (by simpa using hc); exact congrArg rInt (by omega))
  (case n2 => simpa using hc)
  (case rs_1 => exact Sub.rfl)
theorem sc_lowered : FnScope ["row", "lead", "cell", "up", "down", "x", "y"] ["row", "lead", "cell"] (defScope s_lowered) := ⟨rfl, rfl, rfl, by decide +kernel, rfl, by decide +kernel, by decide +kernel⟩
def sp_lowered (K : PySem.W.Frag) (cs : Cs) : Sp := Pm (ι := List Int × List Int × Int × Nat) (fun ⟨row, lead, c, n⟩ => (0 ≤ c ∧ c < n ∧ n ≤ 1000) ∧ RowOk n row ∧ RowOk n lead) (fun ⟨row, lead, c, n⟩ => [rSeq K (row.map rInt), rSeq K (lead.map rInt), rInt c]) (fun ⟨row, lead, c, n⟩ => .lst ((lowd row lead c.toNat).map rInt))
theorem ok_lowered (T : Txt K mg cs) : Cal P w K mg base 2 "lowered" (sp_lowered K cs) := by
  refine cal_ok T.d_lowered sc_lowered (fun g => rfl) (fun _ _ _ _ _ _ us hl => match us, hl with | [_, _, _], _ => rfl) ?_
  rintro X rfl rfl rfl rfl rfl B Bf ⟨row, lead, c, n⟩ F0 H0 D hp R hnx
  obtain ⟨⟨hc0, hc1, hn⟩, ⟨hr, hr2⟩, ⟨hl, hl2⟩⟩ := hp
  refine @go_nf _ _ _ _ _ _ [_, _, _, _, _, _, _] rfl ?go_1
  refine go_asg (de_tup (da_cons (de_ixAM (R := rInt) (0 : Int) ?xl1 ?xh2 (de_var B (i := 1) rfl rfl (.inl rfl)) (de_var B (i := 2) rfl rfl (.inl rfl))) (da_cons (de_ixAM (R := rInt) (0 : Int) ?xl3 ?xh4 (de_var B (i := 0) rfl rfl (.inl rfl)) (de_var B (i := 2) rfl rfl (.inl rfl))) da_nil)) (show (2 : Nat) ≤ sizeLine by decide)) (dg_tup B (dgs_cons (dg_name B (i := 3) rfl (.inr ⟨rfl, Bf _⟩)) (dgs_cons (dg_name B (i := 4) rfl (.inr ⟨rfl, Bf _⟩)) dgs_nil))) ?go_2 (hw := by have h := B.hsc; revert h; generalize X.env = env; intro h; cases env; subst h; with_unfolding_all rfl)
  (case xl1 => exact hc0)
  (case xh2 => omega)
  (case xl3 => exact hc0)
  (case xh4 => omega)
  refine @go_nf _ _ _ _ _ _ [_, _, _, _, _, _, _] rfl ?go_3
  refine go_retL R (CA.lst (ca_call B (ok_lowest T) (by decide) _ ?c_lowest_9 (da_cons (DL.froz (DL.to (l' := List.map rInt (crs row lead c.toNat)) (dl_lc B [("x", 5), ("y", 6)] (sr_zipS_M (R := rInt) (R2 := rInt) (0 : Int) (0 : Int) B T.b_zip (de_var B (i := 0) rfl rfl (.inl rfl)) (de_var B (i := 1) rfl rfl (.inl rfl)) rfl) (blkOk_by (by decide +kernel)) _ (fun _ => true) (fun i : Nat => rInt (row.getD i 0 * lead.getD c.toNat 0 - lead.getD i 0 * row.getD c.toNat 0)) ?sz7 (by decide) (fun _ _ _ _ _ B i hi => (dg_tup B (dgs_cons (dg_name B (i := 5) rfl (.inl rfl)) (dgs_cons (dg_name B (i := 6) rfl (.inl rfl)) dgs_nil)))) (fun _ _ _ _ _ B i hi => dts_nil) (fun _ _ _ _ _ B i hi hb => (de_sub (de_mulG ?m5 (de_var B (i := 5) rfl rfl (.inl rfl)) (de_var B (i := 3) rfl rfl (.inr (.inl rfl)))) (de_mulG ?m6 (de_var B (i := 6) rfl rfl (.inl rfl)) (de_var B (i := 4) rfl rfl (.inr (.inl rfl))))))) ?cl8)) da_nil) rfl)) ?rs_4
  (case m5 => first | exact low_m (hr2 _ (getD_memI (by omega))) (hl2 _ (getD_memI (by omega))) | exact low_m (hl2 _ (getD_memI (by omega))) (hr2 _ (getD_memI (by omega))))
  (case m6 => first | exact low_m (hr2 _ (getD_memI (by omega))) (hl2 _ (getD_memI (by omega))) | exact low_m (hl2 _ (getD_memI (by omega))) (hr2 _ (getD_memI (by omega))))
  (case sz7 => exact Nat.lt_of_le_of_lt (Nat.le_trans (Nat.min_le_left _ _) (by omega : row.length ≤ 1000)) (by decide))
  (case cl8 => exact crs_lc)
  (case c_lowest_9 => exact ⟨by rw [crs_len]; omega, crs_lg hr2 hl2⟩)
  (case rs_4 => rfl)
theorem sc_check_names : FnScope ["names", "name"] ["names"] (defScope s_check_names) := ⟨rfl, rfl, rfl, by decide +kernel, rfl, by decide +kernel, by decide +kernel⟩
def sp_check_names (K : PySem.W.Frag) (cs : Cs) : Sp := PmX (ι := List Str) (fun xs => xs.length ≤ 1000 ∧ ∀ x ∈ xs, x.length ≤ 100000) (fun xs => [rSeq K (xs.map rStr)]) (fun xs => if namesOk xs = false then .err cs.BadName else .ok (.val rNon))
abbrev okr_check_names (K : PySem.W.Frag) : List Str → Ret := fun xs => .val rNon
theorem ok_check_names (T : Txt K mg cs) : Cal P w K mg base 2 "check_names" (sp_check_names K cs) := by
  refine cal_okX T.d_check_names sc_check_names (fun g => rfl) (fun _ _ _ _ _ _ us hl => match us, hl with | [_], _ => rfl) ?_
  rintro X rfl rfl rfl rfl rfl B Bf xs F0 H0 D E tk hp R hnx
  refine go_forS B (fun i => [(1, .any)]) (fun i => ∀ j, j < i → isNm (xs.getD j default) = true) (sr_seqM (R := rStr) (default : Str) (de_var B (i := 0) rfl rfl (.inl rfl))) _ (fun i hi => (dg_name B (i := 1) rfl (.inl rfl))) ?h0_1 ?j0_2 (fun F1 u i hi hj => ?gb_3) (fun hj => ?ge_4)
  (case h0_1 => refine .same ?_; refine .any ?_; exact .nil)
  (case j0_2 => exact fun j hj => absurd hj (Nat.not_lt_zero j))
  case gb_3 =>
    refine go_if (dt_not (dt_val (CA.val (ca_call B (ok_is_name T) (by decide) _ ?c_is_name_1 (da_cons (de_var B (i := 1) rfl rfl (.inl rfl)) da_nil) rfl)))) (fun hc => ?gt_5) (fun hc => ?gf_6)
    (case c_is_name_1 => exact hp.2 _ (DL.getD_mem (d := (default : Str)) hi))
    case gt_5 =>
      skip
      refine go_raise B tk T.x_BadName rfl (fun F H σ en => R.er (C := cs.BadName) ?re2 H en.gr.h)
      (case re2 => first | exact if_pos (nmo_a hi hc) | exact if_pos (nmo_b hc))
    case gf_6 =>
      skip
      refine go_then ?go_7
      refine go_turnS ?jn_8 ?ln_9
      (case jn_8 => exact nmj_more hj hc)
      (case ln_9 => refine .same ?_; refine .any ?_; exact .nil)
  case ge_4 =>
    refine go_if (dt_lt (de_lenSS B T.b_len (de_setSA B T.b_set ?zs3 (de_var B (i := 0) rfl rfl (.inl rfl)) rfl) rfl) (de_lenAM B T.b_len (de_var B (i := 0) rfl rfl (.inl rfl)) rfl)) (fun hc => ?gt_10) (fun hc => ?gf_11)
    (case zs3 => exact nm_scan hp.1)
    case gt_10 =>
      replace hc := of_decide_eq_true hc
      refine go_raise B tk T.x_BadName rfl (fun F H σ en => R.er (C := cs.BadName) ?re4 H en.gr.h)
      (case re4 => first | exact if_pos (nmo_a hi hc) | exact if_pos (nmo_b hc))
    case gf_11 =>
      replace hc := of_decide_eq_false hc
      refine go_then ?go_12
      refine go_nil (fun F H σ en => (hnx σ H).symm ▸ (R.rt (ret := .val rNon) ?ro5) .non F H en.gr rfl)
      (case ro5 => exact if_neg (nmo_c hj hc))
theorem sc_pivots : FnScope ["book", "row"] ["book"] (defScope s_pivots) := ⟨rfl, rfl, rfl, by decide +kernel, rfl, by decide +kernel, by decide +kernel⟩
def sp_pivots (K : PySem.W.Frag) (cs : Cs) : Sp := Pm (ι := Bk) (fun b => PvOk b) (fun b => [rBook K cs.Book b]) (fun b => .lst ((pivL b.frame).map rInt))
theorem ok_pivots (T : Txt K mg cs) : Cal P w K mg base 2 "pivots" (sp_pivots K cs) := by
  refine cal_ok T.d_pivots sc_pivots (fun g => rfl) (fun _ _ _ _ _ _ us hl => match us, hl with | [_], _ => rfl) ?_
  rintro X rfl rfl rfl rfl rfl B Bf b F0 H0 D hp R hnx
  have hl := hp.n
  refine go_retL R (DL.to (l' := List.map rInt (pivL b.frame)) (dl_lc B [("row", 1)] (sr_seqM (R := (fun l => rTup X.K (List.map rInt l))) [] (DE.sub (de_bkF T.i_Book.o (de_var B (i := 0) rfl rfl (.inl rfl))) sub_tseq)) (blkOk_by (by decide +kernel)) _ (fun _ => true) (fun i : Nat => rInt ((suppI (toQ (b.frame.getD i []))).getD 0 0)) ?sz4 (by decide) (fun _ _ _ _ _ B i hi => (dg_name B (i := 1) rfl (.inl rfl))) (fun _ _ _ _ _ B i hi => dts_nil) (fun _ _ _ _ _ B i hi hb => (de_ixM (R := rInt) (0 : Int) ?xl2 ?xh3 (DL.froz (CA.lst (ca_call B (ok_support T) (by decide) _ ?c_support_1 (da_cons (de_ti2sn (de_var B (i := 1) rfl rfl (.inl rfl))) da_nil) rfl))) de_int))) ?cl5) ?rs_1
  (case c_support_1 => rw [toQ_len]; exact hp.l _ (getD_memL hi))
  (case xl2 => decide)
  (case xh3 => have := hp.s _ (getD_memL hi); show (0 : Int) < ((suppI _).length : Nat); omega)
  (case sz4 => exact Nat.lt_of_le_of_lt hl (by decide))
  (case cl5 => exact piv_lc)
  (case rs_1 => rfl)
theorem sc_plus : FnScope ["x", "y", "bottom"] ["x", "y"] (defScope s_plus) := ⟨rfl, rfl, rfl, by decide +kernel, rfl, by decide +kernel, by decide +kernel⟩
def sp_plus (K : PySem.W.Frag) (cs : Cs) : Sp := Pm (ι := Rat × Rat) (fun ⟨q, r⟩ => Sz 4000 q ∧ Sz 4000 r) (fun ⟨q, r⟩ => [rNum K q, rNum K r]) (fun ⟨q, r⟩ => .val (rNum K (q + r)))
theorem ok_plus (T : Txt K mg cs) : Cal P w K mg base 3 "plus" (sp_plus K cs) := by
  refine cal_ok T.d_plus sc_plus (fun g => rfl) (fun _ _ _ _ _ _ us hl => match us, hl with | [_, _], _ => rfl) ?_
  rintro X rfl rfl rfl rfl rfl B Bf ⟨q, r⟩ F0 H0 D hp R hnx
  refine go_set B (i := 2) (CA.val (ca_call B (ok_bottom_of T) (by decide) _ trivial (da_cons (de_var B (i := 1) rfl rfl (.inl rfl)) da_nil) rfl)) rfl (.inl rfl) ?go_1
  refine go_ret R (CA.val (ca_callO (okr_ratio X.K) B (ok_ratio T) (by decide) (_, _) ?c_ratio_4 ?o_ratio_5 (da_cons (de_add (de_mulG ?m1 (CA.val (ca_call B (ok_top_of T) (by decide) _ trivial (da_cons (de_var B (i := 0) rfl rfl (.inl rfl)) da_nil) rfl)) (de_var B (i := 2) rfl rfl (.inl rfl))) (de_mulG ?m2 (CA.val (ca_call B (ok_top_of T) (by decide) _ trivial (da_cons (de_var B (i := 1) rfl rfl (.inl rfl)) da_nil) rfl)) (CA.val (ca_call B (ok_bottom_of T) (by decide) _ trivial (da_cons (de_var B (i := 0) rfl rfl (.inl rfl)) da_nil) rfl)))) (da_cons (de_mulG ?m3 (CA.val (ca_call B (ok_bottom_of T) (by decide) _ trivial (da_cons (de_var B (i := 0) rfl rfl (.inl rfl)) da_nil) rfl)) (de_var B (i := 2) rfl rfl (.inl rfl))) da_nil)) rfl)) ?rs_2
  (case m1 => grind [lg_mul, lg_add, lg_sub, lg_neg, Sz])
  (case m2 => grind [lg_mul, lg_add, lg_sub, lg_neg, Sz])
  (case m3 => grind [lg_mul, lg_add, lg_sub, lg_neg, Sz])
  (case c_ratio_4 => grind [lg_mul, Sz])
  (case o_ratio_5 => exact if_neg (dd_ne q r))
  (case rs_2 => exact Sub.of (by rw [r_plus]))
theorem sc_times : FnScope ["x", "y"] ["x", "y"] (defScope s_times) := ⟨rfl, rfl, rfl, by decide +kernel, rfl, by decide +kernel, by decide +kernel⟩
def sp_times (K : PySem.W.Frag) (cs : Cs) : Sp := Pm (ι := Rat × Rat) (fun ⟨q, r⟩ => Sz 4000 q ∧ Sz 4000 r) (fun ⟨q, r⟩ => [rNum K q, rNum K r]) (fun ⟨q, r⟩ => .val (rNum K (q * r)))
theorem ok_times (T : Txt K mg cs) : Cal P w K mg base 3 "times" (sp_times K cs) := by
  refine cal_ok T.d_times sc_times (fun g => rfl) (fun _ _ _ _ _ _ us hl => match us, hl with | [_, _], _ => rfl) ?_
  rintro X rfl rfl rfl rfl rfl B Bf ⟨q, r⟩ F0 H0 D hp R hnx
  refine go_ret R (CA.val (ca_callO (okr_ratio X.K) B (ok_ratio T) (by decide) (_, _) ?c_ratio_3 ?o_ratio_4 (da_cons (de_mulG ?m1 (CA.val (ca_call B (ok_top_of T) (by decide) _ trivial (da_cons (de_var B (i := 0) rfl rfl (.inl rfl)) da_nil) rfl)) (CA.val (ca_call B (ok_top_of T) (by decide) _ trivial (da_cons (de_var B (i := 1) rfl rfl (.inl rfl)) da_nil) rfl))) (da_cons (de_mulG ?m2 (CA.val (ca_call B (ok_bottom_of T) (by decide) _ trivial (da_cons (de_var B (i := 0) rfl rfl (.inl rfl)) da_nil) rfl)) (CA.val (ca_call B (ok_bottom_of T) (by decide) _ trivial (da_cons (de_var B (i := 1) rfl rfl (.inl rfl)) da_nil) rfl))) da_nil)) rfl)) ?rs_1
  (case m1 => grind [lg_mul, lg_add, lg_sub, lg_neg, Sz])
  (case m2 => grind [lg_mul, lg_add, lg_sub, lg_neg, Sz])
  (case c_ratio_3 => grind [lg_mul, Sz])
  (case o_ratio_4 => exact if_neg (dd_ne q r))
  (case rs_1 => exact Sub.of (by rw [r_times]))
theorem sc_over : FnScope ["x", "y"] ["x", "y"] (defScope s_over) := ⟨rfl, rfl, rfl, by decide +kernel, rfl, by decide +kernel, by decide +kernel⟩
def sp_over (K : PySem.W.Frag) (cs : Cs) : Sp := PmX (ι := Rat × Rat) (fun ⟨q, r⟩ => Sz 4000 q ∧ Sz 4000 r) (fun ⟨q, r⟩ => [rNum K q, rNum K r]) (fun ⟨q, r⟩ => if r = 0 then .err cs.ZeroBottom else .ok (.val (rNum K (q / r))))
abbrev okr_over (K : PySem.W.Frag) : Rat × Rat → Ret := fun ⟨q, r⟩ => .val (rNum K (q / r))
theorem ok_over (T : Txt K mg cs) : Cal P w K mg base 3 "over" (sp_over K cs) := by
  refine cal_okX T.d_over sc_over (fun g => rfl) (fun _ _ _ _ _ _ us hl => match us, hl with | [_, _], _ => rfl) ?_
  rintro X rfl rfl rfl rfl rfl B Bf ⟨q, r⟩ F0 H0 D E tk hp R hnx
  by_cases hz : r = 0
  · refine go_retE (ex_call B tk (ok_ratio T) (by decide) (_, _) ?c_ratio_3 ?o_ratio_4 (da_cons (de_mulG ?m1 (CA.val (ca_call B (ok_top_of T) (by decide) _ trivial (da_cons (de_var B (i := 0) rfl rfl (.inl rfl)) da_nil) rfl)) (CA.val (ca_call B (ok_bottom_of T) (by decide) _ trivial (da_cons (de_var B (i := 1) rfl rfl (.inl rfl)) da_nil) rfl))) (da_cons (de_mulG ?m2 (CA.val (ca_call B (ok_bottom_of T) (by decide) _ trivial (da_cons (de_var B (i := 0) rfl rfl (.inl rfl)) da_nil) rfl)) (CA.val (ca_call B (ok_top_of T) (by decide) _ trivial (da_cons (de_var B (i := 1) rfl rfl (.inl rfl)) da_nil) rfl))) da_nil)) rfl) (fun F H σ en H1 s1 => R.er (C := cs.ZeroBottom) ?re5 H1 (en.gr.h.trans s1))
    (case m1 => grind [lg_mul, lg_add, lg_sub, lg_neg, Sz])
    (case m2 => grind [lg_mul, lg_add, lg_sub, lg_neg, Sz])
    (case c_ratio_3 => grind [lg_mul, Sz])
    (case o_ratio_4 => first | (subst hz; exact if_pos (by simp)) | exact if_neg (dn_ne hz))
    (case re5 => exact if_pos hz)
  refine go_ret (R.rt (ret := .val (rNum X.K (q / r))) ?ro6) (CA.val (ca_callO (okr_ratio X.K) B (ok_ratio T) (by decide) (_, _) ?c_ratio_9 ?o_ratio_10 (da_cons (de_mulG ?m7 (CA.val (ca_call B (ok_top_of T) (by decide) _ trivial (da_cons (de_var B (i := 0) rfl rfl (.inl rfl)) da_nil) rfl)) (CA.val (ca_call B (ok_bottom_of T) (by decide) _ trivial (da_cons (de_var B (i := 1) rfl rfl (.inl rfl)) da_nil) rfl))) (da_cons (de_mulG ?m8 (CA.val (ca_call B (ok_bottom_of T) (by decide) _ trivial (da_cons (de_var B (i := 0) rfl rfl (.inl rfl)) da_nil) rfl)) (CA.val (ca_call B (ok_top_of T) (by decide) _ trivial (da_cons (de_var B (i := 1) rfl rfl (.inl rfl)) da_nil) rfl))) da_nil)) rfl)) ?rs_1
  (case ro6 => exact if_neg hz)
  (case m7 => grind [lg_mul, lg_add, lg_sub, lg_neg, Sz])
  (case m8 => grind [lg_mul, lg_add, lg_sub, lg_neg, Sz])
  (case c_ratio_9 => grind [lg_mul, Sz])
  (case o_ratio_10 => first | (subst hz; exact if_pos (by simp)) | exact if_neg (dn_ne hz))
  (case rs_1 => exact Sub.of (by rw [r_over _ _ hz]))
theorem sc_common_bottom : FnScope ["numbers", "common", "number"] ["numbers"] (defScope s_common_bottom) := ⟨rfl, rfl, rfl, by decide +kernel, rfl, by decide +kernel, by decide +kernel⟩
def sp_common_bottom (K : PySem.W.Frag) (cs : Cs) : Sp := Pm (ι := List Rat) (fun qs => ∃ n, (∀ q ∈ qs, Sz n q) ∧ qs.length * (n + 1) < 9000 ∧ n < 9000) (fun qs => [rLst K (qs.map (rNum K))]) (fun qs => .val (rInt (lcmD qs : Nat)))
theorem ok_common_bottom (T : Txt K mg cs) : Cal P w K mg base 3 "common_bottom" (sp_common_bottom K cs) := by
  refine cal_ok T.d_common_bottom sc_common_bottom (fun g => rfl) (fun _ _ _ _ _ _ us hl => match us, hl with | [_], _ => rfl) ?_
  rintro X rfl rfl rfl rfl rfl B Bf qs F0 H0 D hp R hnx
  obtain ⟨n, hp1, hp2, hp3⟩ := hp
  refine go_set B (i := 1) de_int rfl (.inl rfl) ?go_1
  refine go_forS B (fun i => [(1, .im (rInt (lcmD (qs.take i) : Nat))), (2, .any)]) (fun i => True) (sr_listM (R := (rNum X.K)) (0 : Rat) (de_var B (i := 0) rfl rfl (.inl rfl))) _ (fun i hi => (dg_name B (i := 2) rfl (.inl rfl))) ?h0_2 ?j0_3 (fun F1 u i hi hj => ?gb_4) (fun hj => ?ge_5)
  (case h0_2 => refine .same ?_; refine .im ?h ?_; (case h => exact Sub.rfl); refine .any ?_; exact .nil)
  (case j0_3 => trivial)
  case gb_4 =>
    refine go_set B (i := 1) (de_lcm B T.m_lcm ?l1 ?l2 (de_var B (i := 1) rfl rfl (.inl rfl)) (CA.val (ca_call B (ok_bottom_of T) (by decide) _ trivial (da_cons (de_var B (i := 2) rfl rfl (.inl rfl)) da_nil) rfl)) rfl) rfl (.inl rfl) ?go_6
    (case l1 => first | exact lcmD_small hp1 hp2 (Nat.le_of_lt hi) | exact den_small hp1 hp3 hi)
    (case l2 => first | exact lcmD_small hp1 hp2 (Nat.le_of_lt hi) | exact den_small hp1 hp3 hi)
    refine go_turnS ?jn_7 ?ln_8
    (case jn_7 => trivial)
    (case ln_8 => refine .same ?_; refine .im ?h ?_; (case h => exact Sub.of (by rw [lcmD_step hi]; rfl)); refine .any ?_; exact .nil)
  case ge_5 =>
    refine go_ret R (de_var B (i := 1) rfl rfl (.inl rfl)) ?rs_9
    (case rs_9 => exact Sub.of (by rw [List.take_of_length_le (Nat.le_refl _)]))
theorem sc_without : FnScope ["rows", "lead", "cell", "row"] ["rows", "lead", "cell"] (defScope s_without) := ⟨rfl, rfl, rfl, by decide +kernel, rfl, by decide +kernel, by decide +kernel⟩
def sp_without (K : PySem.W.Frag) (cs : Cs) : Sp := Pm (ι := List (List Int) × List Int × Int × Nat) (fun ⟨rows, lead, c, n⟩ => (0 ≤ c ∧ c < n ∧ n ≤ 1000) ∧ rows.length ≤ 1000 ∧ (∀ r ∈ rows, RowOk n r) ∧ RowOk n lead) (fun ⟨rows, lead, c, n⟩ => [rLst K (rows.map (rRowS K)), rSeq K (lead.map rInt), rInt c]) (fun ⟨rows, lead, c, n⟩ => .lst ((wout rows lead c.toNat).map (rRowS K)))
theorem ok_without (T : Txt K mg cs) : Cal P w K mg base 3 "without" (sp_without K cs) := by
  refine cal_ok T.d_without sc_without (fun g => rfl) (fun _ _ _ _ _ _ us hl => match us, hl with | [_, _, _], _ => rfl) ?_
  rintro X rfl rfl rfl rfl rfl B Bf ⟨rows, lead, c, n⟩ F0 H0 D hp R hnx
  obtain ⟨hc, hrl, hro, hlo⟩ := hp
  have hc0 := hc.1
  have hc1 := hc.2.1
  refine go_retL R (DL.to (l' := List.map (fun l => rSeq X.K (List.map rInt l)) (wout rows lead c.toNat)) (dl_lc B [("row", 3)] (sr_listM (R := (fun l => rSeq X.K (List.map rInt l))) [] (de_var B (i := 0) rfl rfl (.inl rfl))) (blkOk_by (by decide +kernel)) _ (fun _ => true) (fun i : Nat => rRowS X.K (wo1 lead c.toNat (rows.getD i []))) ?sz6 (by decide) (fun _ _ _ _ _ B i hi => (dg_name B (i := 3) rfl (.inl rfl))) (fun _ _ _ _ _ B i hi => dts_nil) (fun _ _ _ _ _ B i hi hb => (DE.to (r' := rRowS X.K (wo1 lead c.toNat (rows.getD i []))) (de_if (dt_eqI (de_ixAM (R := rInt) (0 : Int) ?xl1 ?xh2 (de_var B (i := 3) rfl rfl (.inl rfl)) (de_var B (i := 2) rfl rfl (.inr (.inl rfl)))) de_int) (fun hc => DE.to (r' := rRowS X.K (wo1 lead c.toNat (rows.getD i []))) (de_var B (i := 3) rfl rfl (.inl rfl)) ?wa4) (fun hc => DE.to (r' := rRowS X.K (wo1 lead c.toNat (rows.getD i []))) (DE.sub (DL.froz (CA.lst (ca_call B (ok_lowered T) (by decide) (_, _, _, n) ?c_lowered_3 (da_cons (de_var B (i := 3) rfl rfl (.inl rfl)) (da_cons (de_var B (i := 1) rfl rfl (.inr (.inl rfl))) (da_cons (de_var B (i := 2) rfl rfl (.inr (.inl rfl))) da_nil))) rfl))) sub_lseq) ?wb5)) rfl))) ?cl7) ?rs_1
  (case xl1 => exact hc0)
  (case xh2 => have := (hro _ (getD_memL hi)).1; omega)
  (case c_lowered_3 => exact ⟨⟨hc0, hc1, by omega⟩, hro _ (getD_memL hi), hlo⟩)
  (case wa4 => exact congrArg (rRowS X.K) (wo1_t hc))
  (case wb5 => exact congrArg (rRowS X.K) (wo1_f hc))
  (case sz6 => exact Nat.lt_of_le_of_lt hrl (by decide))
  (case cl7 => exact wout_lc)
  (case rs_1 => rfl)
theorem sc_cell_of : FnScope ["book", "name", "cell", "known"] ["book", "name"] (defScope s_cell_of) := ⟨rfl, rfl, rfl, by decide +kernel, rfl, by decide +kernel, by decide +kernel⟩
def sp_cell_of (K : PySem.W.Frag) (cs : Cs) : Sp := PmX (ι := Bk × Str) (fun ⟨b, x⟩ => True) (fun ⟨b, x⟩ => [rBook K cs.Book b, rStr x]) (fun ⟨b, x⟩ => if (cellO b.names x).isNone then .errF cs.NoCell [("cell", .str x)] else .ok (.val (rInt ((((cellO b.names x).getD 0 : Nat)) : Int))))
abbrev okr_cell_of (K : PySem.W.Frag) : Bk × Str → Ret := fun ⟨b, x⟩ => .val (rInt ((((cellO b.names x).getD 0 : Nat)) : Int))
theorem ok_cell_of (T : Txt K mg cs) : Cal P w K mg base 3 "cell_of" (sp_cell_of K cs) := by
  refine cal_okX T.d_cell_of sc_cell_of (fun g => rfl) (fun _ _ _ _ _ _ us hl => match us, hl with | [_, _], _ => rfl) ?_
  rintro X rfl rfl rfl rfl rfl B Bf ⟨b, x⟩ F0 H0 D E tk hp R hnx
  refine go_forS B (fun i => [(2, .any), (3, .any)]) (fun i => ∀ j, j < i → ¬ b.names.getD j default = x) (sr_enumA (R := rStr) (default : Str) B T.b_enumerate (DE.sub (de_bkN T.i_Book.o (de_var B (i := 0) rfl rfl (.inl rfl))) sub_tseq) rfl) _ (fun i hi => (dg_tup B (dgs_cons (dg_name B (i := 2) rfl (.inl rfl)) (dgs_cons (dg_name B (i := 3) rfl (.inl rfl)) dgs_nil)))) ?h0_1 ?j0_2 (fun F1 u i hi hj => ?gb_3) (fun hj => ?ge_4)
  (case h0_1 => refine .same ?_; refine .same ?_; refine .any ?_; refine .any ?_; exact .nil)
  (case j0_2 => exact fun j hj => absurd hj (Nat.not_lt_zero j))
  case gb_3 =>
    refine go_if (dt_eqS (de_var B (i := 3) rfl rfl (.inl rfl)) (de_var B (i := 1) rfl rfl (.inl rfl))) (fun hc => ?gt_5) (fun hc => ?gf_6)
    case gt_5 =>
      have e := co_at hj hi (of_decide_eq_true hc)
      refine go_ret (u.rt (R.rt (ret := .val (rInt ((((cellO b.names x).getD 0 : Nat)) : Int))) ?ro1)) (de_var B (i := 2) rfl rfl (.inl rfl)) ?rs_7
      (case ro1 => exact if_neg (by rw [e]; exact Bool.noConfusion))
      (case rs_7 => exact Sub.of (by rw [e]; rfl))
    case gf_6 =>
      skip
      refine go_then ?go_8
      refine go_turnS ?jn_9 ?ln_10
      (case jn_9 => exact co_more hj (of_decide_eq_false hc))
      (case ln_10 => refine .same ?_; refine .same ?_; refine .any ?_; refine .any ?_; exact .nil)
  case ge_4 =>
    refine go_raiseF B (by decide) tk T.x_NoCell rfl (de_var B (i := 1) rfl rfl (.inl rfl)) (fun F H σ en H1 d s1 n1 z1 => R.erF (C := cs.NoCell) ?re2 H1 d (en.gr.h.trans s1) (en.gr.h.free n1) z1)
    (case re2 => have e := co_no hj; exact if_pos (by rw [e]; rfl))
theorem sc_scaled : FnScope ["numbers", "factor", "number"] ["numbers", "factor"] (defScope s_scaled) := ⟨rfl, rfl, rfl, by decide +kernel, rfl, by decide +kernel, by decide +kernel⟩
def sp_scaled (K : PySem.W.Frag) (cs : Cs) : Sp := Pm (ι := List Rat × Rat) (fun ⟨qs, m⟩ => (qs.length ≤ 1000 ∧ ∀ q ∈ qs, Sz 4000 q) ∧ Sz 4000 m) (fun ⟨qs, m⟩ => [rSeq K (qs.map (rNum K)), rNum K m]) (fun ⟨qs, m⟩ => .lst ((qs.map fun q => q * m).map (rNum K)))
theorem ok_scaled (T : Txt K mg cs) : Cal P w K mg base 4 "scaled" (sp_scaled K cs) := by
  refine cal_ok T.d_scaled sc_scaled (fun g => rfl) (fun _ _ _ _ _ _ us hl => match us, hl with | [_, _], _ => rfl) ?_
  rintro X rfl rfl rfl rfl rfl B Bf ⟨qs, m⟩ F0 H0 D hp R hnx
  refine go_retL R (DL.to (l' := List.map (rNum X.K) (qs.map fun q => q * m)) (dl_lc B [("number", 2)] (sr_seqM (R := (rNum X.K)) (0 : Rat) (de_var B (i := 0) rfl rfl (.inl rfl))) (blkOk_by (by decide +kernel)) _ (fun _ => true) (fun i : Nat => rNum X.K (qs.getD i 0 * m)) ?sz2 (by decide) (fun _ _ _ _ _ B i hi => (dg_name B (i := 2) rfl (.inl rfl))) (fun _ _ _ _ _ B i hi => dts_nil) (fun _ _ _ _ _ B i hi hb => (CA.val (ca_call B (ok_times T) (by decide) (_, _) ?c_times_1 (da_cons (de_var B (i := 2) rfl rfl (.inl rfl)) (da_cons (de_var B (i := 1) rfl rfl (.inr (.inl rfl))) da_nil)) rfl)))) ?cl3) ?rs_1
  (case c_times_1 => exact ⟨(hp.1.2 _ (getD_mem hi)).mono (by decide), hp.2.mono (by decide)⟩)
  (case sz2 => exact Nat.lt_of_le_of_lt hp.1.1 (by decide))
  (case cl3 => exact lc_num (g := fun q => q * m))
  (case rs_1 => rfl)
theorem sc_added : FnScope ["first", "second", "x", "y"] ["first", "second"] (defScope s_added) := ⟨rfl, rfl, rfl, by decide +kernel, rfl, by decide +kernel, by decide +kernel⟩
def sp_added (K : PySem.W.Frag) (cs : Cs) : Sp := Pm (ι := List Rat × List Rat) (fun ⟨xs, ys⟩ => (xs.length ≤ 1000 ∧ ∀ q ∈ xs, Sz 4000 q) ∧ ∀ q ∈ ys, Sz 4000 q) (fun ⟨xs, ys⟩ => [rLst K (xs.map (rNum K)), rLst K (ys.map (rNum K))]) (fun ⟨xs, ys⟩ => .lst ((zipM (· + ·) xs ys).map (rNum K)))
theorem ok_added (T : Txt K mg cs) : Cal P w K mg base 4 "added" (sp_added K cs) := by
  refine cal_ok T.d_added sc_added (fun g => rfl) (fun _ _ _ _ _ _ us hl => match us, hl with | [_, _], _ => rfl) ?_
  rintro X rfl rfl rfl rfl rfl B Bf ⟨xs, ys⟩ F0 H0 D hp R hnx
  refine go_retL R (DL.to (l' := List.map (rNum X.K) (zipM (· + ·) xs ys)) (dl_lc B [("x", 2), ("y", 3)] (sr_zipM (R := (rNum X.K)) (R2 := (rNum X.K)) (0 : Rat) (0 : Rat) B T.b_zip (de_var B (i := 0) rfl rfl (.inl rfl)) (de_var B (i := 1) rfl rfl (.inl rfl)) rfl) (blkOk_by (by decide +kernel)) _ (fun _ => true) (fun i : Nat => rNum X.K (xs.getD i 0 + ys.getD i 0)) ?sz2 (by decide) (fun _ _ _ _ _ B i hi => (dg_tup B (dgs_cons (dg_name B (i := 2) rfl (.inl rfl)) (dgs_cons (dg_name B (i := 3) rfl (.inl rfl)) dgs_nil)))) (fun _ _ _ _ _ B i hi => dts_nil) (fun _ _ _ _ _ B i hi hb => (CA.val (ca_call B (ok_plus T) (by decide) (_, _) ?c_plus_1 (da_cons (de_var B (i := 2) rfl rfl (.inl rfl)) (da_cons (de_var B (i := 3) rfl rfl (.inl rfl)) da_nil)) rfl)))) ?cl3) ?rs_1
  (case c_plus_1 => exact ⟨(hp.1.2 _ (getD_mem (by omega))).mono (by decide), (hp.2 _ (getD_mem (by omega))).mono (by decide)⟩)
  (case sz2 => exact Nat.lt_of_le_of_lt (Nat.le_trans (Nat.min_le_left _ _) hp.1.1) (by decide))
  (case cl3 => unfold zipM; rw [List.map_map, lc_true]; rfl)
  (case rs_1 => rfl)
theorem sc_primitive : FnScope ["numbers", "bottom", "number"] ["numbers"] (defScope s_primitive) := ⟨rfl, rfl, rfl, by decide +kernel, rfl, by decide +kernel, by decide +kernel⟩
def sp_primitive (K : PySem.W.Frag) (cs : Cs) : Sp := Pm (ι := List Rat) (fun qs => ∃ n, (∀ q ∈ qs, Sz n q) ∧ qs.length * (n + 1) + n < 8900 ∧ qs.length ≤ 1000) (fun qs => [rLst K (qs.map (rNum K))]) (fun qs => .lst ((prim qs).map rInt))
theorem ok_primitive (T : Txt K mg cs) : Cal P w K mg base 4 "primitive" (sp_primitive K cs) := by
  refine cal_ok T.d_primitive sc_primitive (fun g => rfl) (fun _ _ _ _ _ _ us hl => match us, hl with | [_], _ => rfl) ?_
  rintro X rfl rfl rfl rfl rfl B Bf qs F0 H0 D hp R hnx
  obtain ⟨n, hp1, hp2, hp3⟩ := hp
  refine go_set B (i := 1) (CA.val (ca_call B (ok_common_bottom T) (by decide) _ ?c_common_bottom_1 (da_cons (de_var B (i := 0) rfl rfl (.inl rfl)) da_nil) rfl)) rfl (.inr ⟨rfl, Bf _⟩) ?go_1
  (case c_common_bottom_1 => exact ⟨n, hp1, by omega, by omega⟩)
  refine go_retL R (CA.lst (ca_call B (ok_lowest T) (by decide) _ ?c_lowest_7 (da_cons (DL.froz (DL.to (l' := List.map rInt (tops qs)) (dl_lc B [("number", 2)] (sr_listM (R := (rNum X.K)) (0 : Rat) (de_var B (i := 0) rfl rfl (.inl rfl))) (blkOk_by (by decide +kernel)) _ (fun _ => true) (fun i : Nat => rInt (topq (lcmD qs) (qs.getD i 0))) ?sz5 (by decide) (fun _ _ _ _ _ B i hi => (dg_name B (i := 2) rfl (.inl rfl))) (fun _ _ _ _ _ B i hi => dts_nil) (fun _ _ _ _ _ B i hi hb => (de_mulG ?m4 (CA.val (ca_call B (ok_top_of T) (by decide) _ trivial (da_cons (de_var B (i := 2) rfl rfl (.inl rfl)) da_nil) rfl)) (de_divG ?z2 ?d3 (de_var B (i := 1) rfl rfl (.inr (.inl rfl))) (CA.val (ca_call B (ok_bottom_of T) (by decide) _ trivial (da_cons (de_var B (i := 2) rfl rfl (.inl rfl)) da_nil) rfl)))))) ?cl6)) da_nil) rfl)) ?rs_2
  (case z2 => exact den_neI _)
  (case d3 => exact Nat.lt_of_le_of_lt (hp1 _ (getD_mem hi)).2 (by omega))
  (case m4 => exact top_m hp1 (by omega) hi)
  (case sz5 => exact Nat.lt_of_le_of_lt hp3 (by decide))
  (case cl6 => exact lc_int)
  (case c_lowest_7 => exact ⟨by rw [tops_len]; exact hp3, fun x hx => tops_lg hp1 hp2 hx⟩)
  (case rs_2 => rfl)
theorem sc_cleared : FnScope ["rows", "cells", "kept", "leads", "rest", "cell", "at", "lead"] ["rows", "cells"] (defScope s_cleared) := ⟨rfl, rfl, rfl, by decide +kernel, rfl, by decide +kernel, by decide +kernel⟩
def sp_cleared (K : PySem.W.Frag) (cs : Cs) : Sp := Pm (ι := List (List Int) × List Int × Nat) (fun ⟨rows, cells, n⟩ => ClrOk n rows cells) (fun ⟨rows, cells, n⟩ => [rSeq K (rows.map (rRowS K)), rLst K (cells.map rInt)]) (fun ⟨rows, cells, n⟩ => .tfr K ((clr rows cells).K.map rInt) [rLst K ((clr rows cells).L.map (rRowS K)), rLst K ((clr rows cells).R.map (rRowS K))])
theorem ok_cleared (T : Txt K mg cs) : Cal P w K mg base 4 "cleared" (sp_cleared K cs) := by
  refine cal_ok T.d_cleared sc_cleared (fun g => rfl) (fun _ _ _ _ _ _ us hl => match us, hl with | [_, _], _ => rfl) ?_
  rintro X rfl rfl rfl rfl rfl B Bf ⟨rows, cells, n⟩ F0 H0 D hp R hnx
  refine @go_nf _ _ _ _ _ _ [_, _, _, _, _, _, _, _] rfl ?go_1
  refine go_par3 B (i1 := 2) (i2 := 3) (i3 := 4) (dl_lst da_nil (show (0 : Nat) ≤ sizeLine by decide)) (dl_lst da_nil (show (0 : Nat) ≤ sizeLine by decide)) (dl_listA B T.b_list (de_var B (i := 0) rfl rfl (.inl rfl)) rfl) rfl rfl rfl (by decide) (by decide) (by decide) rfl rfl rfl ?go_2 (fun env h => by cases env; subst h; with_unfolding_all rfl)
  refine @go_nf _ _ _ _ _ _ [_, _, _, _, _, _, _, _] rfl ?go_3
  refine go_froz 3 rfl ?go_4
  refine @go_nf _ _ _ _ _ _ [_, _, _, _, _, _, _, _] rfl ?go_5
  refine go_froz 4 rfl ?go_6
  refine @go_nf _ _ _ _ _ _ [_, _, _, _, _, _, _, _] rfl ?go_7
  refine go_forS B (fun i => [(2, .ow ((clr rows (cells.take i)).K.map rInt)), (3, .im (rLst X.K ((clr rows (cells.take i)).L.map (rRowS X.K)))), (4, .im (rLst X.K ((clr rows (cells.take i)).R.map (rRowS X.K)))), (5, .any), (6, .any), (7, .any)]) (fun i => True) (sr_listM (R := rInt) (0 : Int) (de_var B (i := 1) rfl rfl (.inl rfl))) _ (fun i hi => (dg_name B (i := 5) rfl (.inl rfl))) ?h0_8 ?j0_9 (fun F1 u i hi hj => ?gb_10) (fun hj => ?ge_11)
  (case h0_8 => refine .same ?_; refine .same ?_; refine .ow ?h ?_; (case h => rfl); refine .im ?h ?_; (case h => exact Sub.rfl); refine .im ?h ?_; (case h => exact Sub.rfl); refine .any ?_; refine .any ?_; refine .any ?_; exact .nil)
  (case j0_9 => trivial)
  case gb_10 =>
    refine @go_nf _ _ _ _ _ _ [_, _, _, _, _, _, _, _] rfl ?go_12
    have hin := hp.inn _ (getD_memI hi)
    have hok := hp.ok i (Nat.le_of_lt hi)
    have hct := hp.cnt i (Nat.le_of_lt hi)
    refine go_set B (i := 6) (CA.val (ca_call B (ok_lead_at T) (by decide) (_, _) ?c_lead_at_1 (da_cons (de_var B (i := 4) rfl rfl (.inl rfl)) (da_cons (de_var B (i := 5) rfl rfl (.inl rfl)) da_nil)) rfl)) rfl (.inl rfl) ?go_13
    (case c_lead_at_1 => exact ⟨hin.1, fun r hr => by have := (hok r (List.mem_append_right _ hr)).1; omega⟩)
    refine @go_nf _ _ _ _ _ _ [_, _, _, _, _, _, _, _] rfl ?go_14
    refine go_if (dt_oNot (R := rInt) (fun _ => notNon_int) (de_var B (i := 6) rfl rfl (.inl rfl))) (fun hc => ?gt_15) (fun hc => ?gf_16)
    case gt_15 =>
      have hn := hc
      have hat := at_lt hn
      refine go_set B (i := 7) (de_ixM (R := (fun l => rSeq X.K (List.map rInt l))) [] ?xl3 ?xh4 (de_var B (i := 4) rfl rfl (.inl rfl)) (de_oU (R := rInt) (0 : Int) ?oo2 (de_var B (i := 6) rfl rfl (.inl rfl)))) rfl (.inl rfl) ?go_17
      (case oo2 => exact nn_t hn)
      (case xl3 => exact hat.1)
      (case xh4 => have := hat; omega)
      refine @go_nf _ _ _ _ _ _ [_, _, _, _, _, _, _, _] rfl ?go_18
      refine go_append B (i := 2) rfl (de_var B (i := 5) rfl rfl (.inl rfl)) ?s5 rfl (.inl rfl) ?go_19
      (case s5 => first | exact Nat.lt_of_le_of_lt (show _ ≤ 3000 by simp [wout_len]; omega) (by decide) | exact Nat.le_trans (show _ ≤ 3000 by simp [wout_len]; omega) (by decide))
      refine @go_nf _ _ _ _ _ _ [_, _, _, _, _, _, _, _] rfl ?go_20
      refine go_setL B (i := 3) (dl_cat (CA.lst (ca_call B (ok_without T) (by decide) (_, _, _, n) ?c_without_6 (da_cons (de_var B (i := 3) rfl rfl (.inl rfl)) (da_cons (de_var B (i := 7) rfl rfl (.inl rfl)) (da_cons (de_var B (i := 5) rfl rfl (.inl rfl)) da_nil))) rfl)) (dl_lst (da_cons (de_var B (i := 7) rfl rfl (.inl rfl)) da_nil) (show (1 : Nat) ≤ sizeLine by decide)) ?s7) rfl (.inl rfl) ?go_21
      (case c_without_6 => first | exact cl_w1 hp.n1 hin hok hct hat.2 | exact cl_w2 hp.n1 hin hok hct hat.2 (by have := hat.1; omega))
      (case s7 => first | exact Nat.lt_of_le_of_lt (show _ ≤ 3000 by simp [wout_len]; omega) (by decide) | exact Nat.le_trans (show _ ≤ 3000 by simp [wout_len]; omega) (by decide))
      refine @go_nf _ _ _ _ _ _ [_, _, _, _, _, _, _, _] rfl ?go_22
      refine go_froz 3 rfl ?go_23
      refine @go_nf _ _ _ _ _ _ [_, _, _, _, _, _, _, _] rfl ?go_24
      refine go_setL B (i := 4) (CA.lst (ca_call B (ok_without T) (by decide) (_, _, _, n) ?c_without_13 (da_cons (DL.froz (dl_catM (dl_to (de_var B (i := 4) rfl rfl (.inl rfl)) ?sl9 (de_oU (R := rInt) (0 : Int) ?oo8 (de_var B (i := 6) rfl rfl (.inl rfl)))) (dl_from (de_var B (i := 4) rfl rfl (.inl rfl)) ?sl11 (de_add (de_oU (R := rInt) (0 : Int) ?oo10 (de_var B (i := 6) rfl rfl (.inl rfl))) de_int)) ?s12)) (da_cons (de_var B (i := 7) rfl rfl (.inl rfl)) (da_cons (de_var B (i := 5) rfl rfl (.inl rfl)) da_nil))) rfl)) rfl (.inl rfl) ?go_25
      (case oo8 => exact nn_t hn)
      (case sl9 => first | exact hat.1 | (have := hat.1; omega))
      (case oo10 => exact nn_t hn)
      (case sl11 => first | exact hat.1 | (have := hat.1; omega))
      (case s12 => first | exact Nat.lt_of_le_of_lt (show _ ≤ 3000 by simp [wout_len]; omega) (by decide) | exact Nat.le_trans (show _ ≤ 3000 by simp [wout_len]; omega) (by decide))
      (case c_without_13 => first | exact cl_w1 hp.n1 hin hok hct hat.2 | exact cl_w2 hp.n1 hin hok hct hat.2 (by have := hat.1; omega))
      refine @go_nf _ _ _ _ _ _ [_, _, _, _, _, _, _, _] rfl ?go_26
      refine go_froz 4 rfl ?go_27
      refine @go_nf _ _ _ _ _ _ [_, _, _, _, _, _, _, _] rfl ?go_28
      refine go_then ?go_29
      refine go_turnS ?jn_30 ?ln_31
      (case jn_30 => trivial)
      (case ln_31 => refine .same ?_; refine .same ?_; refine .ow ?h ?_; (case h => first | (rw [cl_t hi hn, List.map_append]; rfl) | rw [cl_f hi hn]); refine .im ?h ?_; (case h => first | exact Sub.of (by rw [cl_t hi hn, List.map_append]; rfl) | exact Sub.of (by rw [cl_f hi hn])); refine .im ?h ?_; (case h => first | exact Sub.of (by rw [cl_t hi hn]) | exact Sub.of (by rw [cl_f hi hn])); refine .any ?_; refine .any ?_; refine .any ?_; exact .nil)
    case gf_16 =>
      have hn := hc
      refine go_then ?go_32
      refine go_turnS ?jn_33 ?ln_34
      (case jn_33 => trivial)
      (case ln_34 => refine .same ?_; refine .same ?_; refine .ow ?h ?_; (case h => first | (rw [cl_t hi hn, List.map_append]; rfl) | rw [cl_f hi hn]); refine .im ?h ?_; (case h => first | exact Sub.of (by rw [cl_t hi hn, List.map_append]; rfl) | exact Sub.of (by rw [cl_f hi hn])); refine .im ?h ?_; (case h => first | exact Sub.of (by rw [cl_t hi hn]) | exact Sub.of (by rw [cl_f hi hn])); refine .any ?_; refine .any ?_; refine .any ?_; exact .nil)
  case ge_11 =>
    refine @go_nf _ _ _ _ _ _ [_, _, _, _, _, _, _, _] rfl ?go_35
    rw [List.take_length]
    refine go_retT B (i := 2) R rfl (da_cons (de_var B (i := 3) rfl rfl (.inl rfl)) (da_cons (de_var B (i := 4) rfl rfl (.inl rfl)) da_nil)) rfl (.inl rfl) (show (3 : Nat) ≤ sizeLine by decide)
theorem sc_frame_of : FnScope ["rows", "size", "leads", "row", "lead"] ["rows", "size"] (defScope s_frame_of) := ⟨rfl, rfl, rfl, by decide +kernel, rfl, by decide +kernel, by decide +kernel⟩
def sp_frame_of (K : PySem.W.Frag) (cs : Cs) : Sp := Pm (ι := List (List Rat) × Nat) (fun ⟨rows, n⟩ => FrOk n rows) (fun ⟨rows, n⟩ => [rLst K (rows.map fun l => rLst K (l.map (rNum K))), rInt (n : Int)]) (fun ⟨rows, n⟩ => .val (rTup K ((frameQ rows n).map (rRowT K))))
theorem ok_frame_of (T : Txt K mg cs) : Cal P w K mg base 5 "frame_of" (sp_frame_of K cs) := by
  refine cal_ok T.d_frame_of sc_frame_of (fun g => rfl) (fun _ _ _ _ _ _ us hl => match us, hl with | [_, _], _ => rfl) ?_
  rintro X rfl rfl rfl rfl rfl B Bf ⟨rows, n⟩ F0 H0 D hp R hnx
  refine go_set B (i := 2) (de_ixT rfl (CA.tup (ca_call B (ok_cleared T) (by decide) (rows.map prim, upto n, n) ?c_cleared_7 (da_cons (DE.sub (DL.froz (DL.to (l' := List.map (fun l => rLst X.K (List.map rInt l)) (rows.map prim)) (dl_lc B [("row", 3)] (sr_listM (R := (fun l => rLst X.K (List.map (rNum X.K) l))) [] (de_var B (i := 0) rfl rfl (.inl rfl))) (blkOk_by (by decide +kernel)) _ (fun _ => true) (fun i : Nat => rLst X.K ((prim (rows.getD i [])).map rInt)) ?sz2 (by decide) (fun _ _ _ _ _ B i hi => (dg_name B (i := 3) rfl (.inl rfl))) (fun _ _ _ _ _ B i hi => dts_nil) (fun _ _ _ _ _ B i hi hb => (DL.froz (CA.lst (ca_call B (ok_primitive T) (by decide) _ ?c_primitive_1 (da_cons (de_var B (i := 3) rfl rfl (.inl rfl)) da_nil) rfl))))) ?cl3)) (Sub.trans (sub_lstM (R := (fun l => rLst X.K (List.map rInt l))) (R' := (fun l => rSeq X.K (List.map rInt l))) (fun _ => sub_lseq)) sub_lseq)) (da_cons (DL.froz (DL.to (l' := List.map rInt (upto n)) (dl_listRg B T.b_list T.b_range ?rg4 ?rg5 (de_var B (i := 1) rfl rfl (.inl rfl)) rfl rfl) ?cl6)) da_nil)) rfl)) de_int) rfl (.inl rfl) ?go_1
  (case c_primitive_1 => exact hp.pr _ (getD_memL hi))
  (case sz2 => first | exact Nat.lt_of_le_of_lt hp.n2 (by decide) | exact Nat.lt_of_le_of_lt (fr_len hp) (by decide))
  (case cl3 => first | exact prim_lc | exact upto_lc | exact lc_map)
  (case rg4 => first | exact Int.natCast_nonneg _ | exact Int.le_trans (Int.ofNat_le.mpr hp.n1) (by decide))
  (case rg5 => first | exact Int.natCast_nonneg _ | exact Int.le_trans (Int.ofNat_le.mpr hp.n1) (by decide))
  (case cl6 => first | exact prim_lc | exact upto_lc | exact lc_map)
  (case c_cleared_7 => exact hp.cl)
  refine go_ret R (de_tupS T.b_tuple B (DE.sub (DL.froz (DL.to (l' := List.map (fun l => rTup X.K (List.map rInt l)) (frameQ rows n)) (dl_lc B [("lead", 4)] (sr_listM (R := (fun l => rSeq X.K (List.map rInt l))) [] (de_var B (i := 2) rfl rfl (.inl rfl))) (blkOk_by (by decide +kernel)) _ (fun _ => true) (fun i : Nat => rRowT X.K ((frameQ rows n).getD i [])) ?sz8 (by decide) (fun _ _ _ _ _ B i hi => (dg_name B (i := 4) rfl (.inl rfl))) (fun _ _ _ _ _ B i hi => dts_nil) (fun _ _ _ _ _ B i hi hb => (de_tupS T.b_tuple B (de_var B (i := 4) rfl rfl (.inl rfl)) rfl))) ?cl9)) sub_lseq) rfl) ?rs_2
  (case sz8 => first | exact Nat.lt_of_le_of_lt hp.n2 (by decide) | exact Nat.lt_of_le_of_lt (fr_len hp) (by decide))
  (case cl9 => first | exact prim_lc | exact upto_lc | exact lc_map)
  (case rs_2 => exact Sub.rfl)
theorem sc_table_of : FnScope ["book", "values", "entries", "table", "row", "entry", "value"] ["book", "values"] (defScope s_table_of) := ⟨rfl, rfl, rfl, by decide +kernel, rfl, by decide +kernel, by decide +kernel⟩
def sp_table_of (K : PySem.W.Frag) (cs : Cs) : Sp := PmX (ι := Bk × List Rat) (fun ⟨b, vs⟩ => PvOk b ∧ (vs.length = b.frame.length → TbOk b vs)) (fun ⟨b, vs⟩ => [rBook K cs.Book b, rLst K (vs.map (rNum K))]) (fun ⟨b, vs⟩ => if ¬ vs.length = b.frame.length then .err cs.BadSize else .ok (.lst ((tabL b.frame vs b.size).map (rNum K))))
abbrev okr_table_of (K : PySem.W.Frag) : Bk × List Rat → Ret := fun ⟨b, vs⟩ => .lst ((tabL b.frame vs b.size).map (rNum K))
theorem ok_table_of (T : Txt K mg cs) : Cal P w K mg base 5 "table_of" (sp_table_of K cs) := by
  refine cal_okX T.d_table_of sc_table_of (fun g => rfl) (fun _ _ _ _ _ _ us hl => match us, hl with | [_, _], _ => rfl) ?_
  rintro X rfl rfl rfl rfl rfl B Bf ⟨b, vs⟩ F0 H0 D E tk hp R hnx
  refine @go_nf _ _ _ _ _ _ [_, _, _, _, _, _, _] rfl ?go_1
  refine go_setL B (i := 2) (CA.lst (ca_call B (ok_pivots T) (by decide) _ ?c_pivots_1 (da_cons (de_var B (i := 0) rfl rfl (.inl rfl)) da_nil) rfl)) rfl (.inl rfl) ?go_2
  (case c_pivots_1 => exact hp.1)
  refine @go_nf _ _ _ _ _ _ [_, _, _, _, _, _, _] rfl ?go_3
  refine go_froz 2 rfl ?go_4
  refine @go_nf _ _ _ _ _ _ [_, _, _, _, _, _, _] rfl ?go_5
  refine go_if (dt_neI (de_lenM B T.b_len (de_var B (i := 1) rfl rfl (.inl rfl)) rfl) (de_lenM B T.b_len (de_var B (i := 2) rfl rfl (.inl rfl)) rfl)) (fun hc => ?gt_6) (fun hc => ?gf_7)
  case gt_6 =>
    have hv := tb_no hc
    refine go_raise B tk T.x_BadSize rfl (fun F H σ en => R.er (C := cs.BadSize) ?re2 H en.gr.h)
    (case re2 => exact if_pos hv)
  case gf_7 =>
    obtain ⟨hv, ht⟩ := tb_ok hp hc
    have hn := ht.n
    have hpl := pivL_len b.frame
    refine go_then ?go_8
    refine go_setL B (i := 3) (DL.to (l' := List.map (rNum X.K) (List.replicate b.size (0 : Rat))) (dl_rep (dl_lst (da_cons (de_i2n de_int) da_nil) (show (1 : Nat) ≤ sizeLine by decide)) (de_bkS T.i_Book.o (de_var B (i := 0) rfl rfl (.inl rfl))) ?rp3 ?rp4 ?rz5) ?cl6) rfl (.inl rfl) ?go_9
    (case rp3 => omega)
    (case rp4 => omega)
    (case rz5 => exact Nat.le_trans (show _ ≤ 1000 by simp; omega) (by decide))
    (case cl6 => exact rep0_lcN)
    refine @go_nf _ _ _ _ _ _ [_, _, _, _, _, _, _] rfl ?go_10
    refine go_forS B (fun i => [(3, .ow ((tabN b.frame vs b.size i).map (rNum X.K))), (4, .any), (5, .any), (6, .any)]) (fun i => True) (sr_zip3M (R := (fun l => rTup X.K (List.map rInt l))) (R2 := rInt) (R3 := (rNum X.K)) [] (0 : Int) (0 : Rat) B T.b_zip (DE.sub (de_bkF T.i_Book.o (de_var B (i := 0) rfl rfl (.inl rfl))) sub_tseq) (DE.sub (de_var B (i := 2) rfl rfl (.inl rfl)) sub_lseq) (DE.sub (de_var B (i := 1) rfl rfl (.inl rfl)) sub_lseq) rfl) _ (fun i hi => (dg_tup B (dgs_cons (dg_name B (i := 4) rfl (.inl rfl)) (dgs_cons (dg_name B (i := 5) rfl (.inl rfl)) (dgs_cons (dg_name B (i := 6) rfl (.inl rfl)) dgs_nil))))) ?h0_11 ?j0_12 (fun F1 u i hi hj => ?gb_13) (fun hj => ?ge_14)
    (case h0_11 => refine .same ?_; refine .same ?_; refine .same ?_; refine .ow ?h ?_; (case h => rfl); refine .any ?_; refine .any ?_; refine .any ?_; exact .nil)
    (case j0_12 => trivial)
    case gb_13 =>
      refine @go_nf _ _ _ _ _ _ [_, _, _, _, _, _, _] rfl ?go_15
      refine go_setL B (i := 3) (dl_lendF 3 rfl lfr_nums (CA.lst (ca_call B (ok_added T) (by decide) (_, _) ?c_added_12 (da_cons (de_var B (i := 3) rfl rfl (.inl rfl)) (da_cons (DL.froz (CA.lst (ca_call B (ok_scaled T) (by decide) (_, _) ?c_scaled_11 (da_cons (de_ti2sn (de_var B (i := 4) rfl rfl (.inl rfl))) (da_cons (CA.val (ca_callO (okr_over X.K) B (ok_over T) (by decide) (_, _) ?c_over_9 ?o_over_10 (da_cons (de_var B (i := 6) rfl rfl (.inl rfl)) (da_cons (de_i2n (de_ixAM (R := rInt) (0 : Int) ?xl7 ?xh8 (DE.sub (de_var B (i := 4) rfl rfl (.inl rfl)) sub_tseq) (de_var B (i := 5) rfl rfl (.inl rfl)))) da_nil)) rfl)) da_nil)) rfl))) da_nil)) rfl))) rfl (.inl rfl) ?go_16
      (case xl7 => exact (ht.pv i (by omega)).1)
      (case xh8 => rw [ht.row (by omega)]; exact (ht.pv i (by omega)).2.1)
      (case c_over_9 => exact ht.over (by omega) hv)
      (case o_over_10 => exact if_neg (ht.ne (by omega)))
      (case c_scaled_11 => exact ⟨⟨by rw [toQ_len, ht.row (by omega)]; exact hn, fun q hq => (ht.int (by omega) q hq).mono (by decide)⟩, (ht.s3 i (by omega)).mono (by decide)⟩)
      (case c_added_12 => exact ⟨⟨by rw [tabN_len ht.len i (by omega)]; exact hn, fun q hq => (ht.s5 i (by omega) q hq).mono (by decide)⟩, fun q hq => (ht.sc (by omega) q hq).mono (by decide)⟩)
      refine @go_nf _ _ _ _ _ _ [_, _, _, _, _, _, _] rfl ?go_17
      refine go_turnS ?jn_18 ?ln_19
      (case jn_18 => trivial)
      (case ln_19 => refine .same ?_; refine .same ?_; refine .same ?_; refine .ow ?h ?_; (case h => rfl); refine .any ?_; refine .any ?_; refine .any ?_; exact .nil)
    case ge_14 =>
      refine @go_nf _ _ _ _ _ _ [_, _, _, _, _, _, _] rfl ?go_20
      skip
      refine go_retV B (i := 3) (R.rt (ret := .lst ((tabL b.frame vs b.size).map (rNum X.K))) ?ro13) rfl ?rs_21 rfl (.inl rfl)
      (case ro13 => exact if_neg (fun z => z hv))
      (case rs_21 => rw [show min (min b.frame.length (pivL b.frame).length) vs.length = b.frame.length from by omega])
theorem sc_is_table : FnScope ["book", "numbers", "entry"] ["book", "numbers"] (defScope s_is_table) := ⟨rfl, rfl, rfl, by decide +kernel, rfl, by decide +kernel, by decide +kernel⟩
def sp_is_table (K : PySem.W.Frag) (cs : Cs) : Sp := PmX (ι := Bk × List Rat) (fun ⟨b, qs⟩ => PvOk b ∧ (qs.length = b.size → TbOk b ((pivL b.frame).map fun k => qs.getD k.toNat 0) ∧ qs.length ≤ 1000)) (fun ⟨b, qs⟩ => [rBook K cs.Book b, rLst K (qs.map (rNum K))]) (fun ⟨b, qs⟩ => if ¬ qs.length = b.size then .err cs.BadSize else .ok (.val (rBl (isTab b qs))))
abbrev okr_is_table (K : PySem.W.Frag) : Bk × List Rat → Ret := fun ⟨b, qs⟩ => .val (rBl (isTab b qs))
theorem ok_is_table (T : Txt K mg cs) : Cal P w K mg base 6 "is_table" (sp_is_table K cs) := by
  refine cal_okX T.d_is_table sc_is_table (fun g => rfl) (fun _ _ _ _ _ _ us hl => match us, hl with | [_, _], _ => rfl) ?_
  rintro X rfl rfl rfl rfl rfl B Bf ⟨b, qs⟩ F0 H0 D E tk hp R hnx
  refine go_if (dt_neI (de_lenM B T.b_len (de_var B (i := 1) rfl rfl (.inr (.inl rfl))) rfl) (de_bkS T.i_Book.o (de_var B (i := 0) rfl rfl (.inl rfl)))) (fun hc => ?gt_1) (fun hc => ?gf_2)
  case gt_1 =>
    have hv : ¬ qs.length = b.size := fun z => by rw [decide_eq_true (by omega)] at hc; cases hc
    refine go_raise B tk T.x_BadSize rfl (fun F H σ en => R.er (C := cs.BadSize) ?re1 H en.gr.h)
    (case re1 => exact if_pos hv)
  case gf_2 =>
    have hv : qs.length = b.size := by have := of_decide_eq_true (nn_f hc); omega
    obtain ⟨ht, hl⟩ := hp.2 hv
    refine go_then ?go_3
    refine go_ret (R.rt (ret := .val (rBl (isTab b qs))) ?ro2) (de_eqT (dat_lst dat_num) (by decide) B (DL.froz (CA.lst (ca_callO (okr_table_of X.K) B (ok_table_of T) (by decide) (_, _) ?c_table_of_8 ?o_table_of_9 (da_cons (de_var B (i := 0) rfl rfl (.inl rfl)) (da_cons (DL.froz (DL.to (l' := List.map (rNum X.K) ((pivL b.frame).map fun k => qs.getD k.toNat 0)) (dl_lc B [("entry", 2)] (sr_listM (R := rInt) (0 : Int) (DL.froz (CA.lst (ca_call B (ok_pivots T) (by decide) _ ?c_pivots_3 (da_cons (de_var B (i := 0) rfl rfl (.inl rfl)) da_nil) rfl)))) (blkOk_by (by decide +kernel)) _ (fun _ => true) (fun i : Nat => rNum X.K (qs.getD ((pivL b.frame).getD i 0).toNat 0)) ?sz6 (by decide) (fun _ _ _ _ _ B i hi => (dg_name B (i := 2) rfl (.inl rfl))) (fun _ _ _ _ _ B i hi => dts_nil) (fun _ _ _ _ _ B i hi hb => (de_ixM (R := (rNum X.K)) (0 : Rat) ?xl4 ?xh5 (de_var B (i := 1) rfl rfl (.inr (.inl rfl))) (de_var B (i := 2) rfl rfl (.inl rfl))))) ?cl7)) da_nil)) rfl))) (DL.froz (dl_list B T.b_list (de_var B (i := 1) rfl rfl (.inr (.inl rfl))) rfl))) ?rs_4
    (case ro2 => exact if_neg (fun z => z hv))
    (case c_pivots_3 => exact hp.1)
    (case xl4 => exact (ht.pv i (by rw [pivL_len] at hi; exact hi)).1)
    (case xh5 => rw [hv]; exact (ht.pv i (by rw [pivL_len] at hi; exact hi)).2.1)
    (case sz6 => rw [pivL_len]; exact Nat.lt_of_le_of_lt hp.1.n (by decide))
    (case cl7 => exact lc_map (f := fun k : Int => rNum X.K (qs.getD k.toNat 0)) |>.trans (by rw [List.map_map]; rfl))
    (case c_table_of_8 => exact ⟨hp.1, fun _ => ht⟩)
    (case o_table_of_9 => exact if_neg (fun z => z ((List.length_map _).trans (pivL_len _))))
    (case rs_4 => exact Sub.rfl)
theorem sc_Book : FnScope ["self", "names", "rows", "row"] ["self", "names", "rows"] (defScope s_Book) := ⟨rfl, rfl, rfl, by decide +kernel, rfl, by decide +kernel, by decide +kernel⟩
def sp_Book (K : PySem.W.Frag) (cs : Cs) : Sp := PmI (ι := List Str × List (List Rat)) cs.Book (fun ⟨names, rows⟩ => BookOk names rows) (fun ⟨names, rows⟩ => [rSeq K (names.map rStr), rLst K (rows.map fun l => rLst K (l.map (rNum K)))]) ["names", "size", "frame"] (fun ⟨names, rows⟩ => if ¬ (1 ≤ names.length ∧ names.length ≤ 16) then .err cs.BadSize else if namesOk names = false then .err cs.BadName else if lensOk names.length rows = false then .err cs.BadSize else .ok [rTup K (names.map rStr), rInt ((names.length : Nat) : Int), rTup K ((frameQ rows names.length).map (rRowT K))])
abbrev okr_Book (K : PySem.W.Frag) : List Str × List (List Rat) → List Rep := fun ⟨names, rows⟩ => [rTup K (names.map rStr), rInt ((names.length : Nat) : Int), rTup K ((frameQ rows names.length).map (rRowT K))]
theorem ok_Book (T : Txt K mg cs) : CalI P w K mg base 6 "Book" cs.Book (sp_Book K cs) := by
  refine cal_okI T.i_Book sc_Book (fun g => rfl) (fun _ _ _ _ _ _ us hl => match us, hl with | [_, _, _], _ => rfl) ?_
  rintro X rfl rfl rfl rfl rfl B Bf ⟨names, rows⟩ F0 H0 H1 pa dx QE E tk hp nF n0 nd hne eH up R
  refine go_if (dt_not (dt_chain op_le b2_I0 op_le b2_I0 de_int (de_lenAM B T.b_len (de_var B (i := 1) rfl rfl (.inl rfl)) rfl) (fun hch => (de_glob B (v := .int 16) T.c_MOST_CELLS rfl)))) (fun hc => ?gt_1) (fun hc => ?gf_2)
  case gt_1 =>
    replace hc := bk_f hc
    refine go_raise B tk T.x_BadSize rfl (fun F H σ en => PrI.er (D0 := cs.BadSize) R ?re1 H (up.trans en.gr.h))
    (case re1 => first | exact if_pos hc | exact (if_neg (fun z => z hs)).trans (if_pos hz1) | exact (if_neg (fun z => z hs)).trans ((if_neg hz1).trans (if_pos (lens_bad hi hr))))
  case gf_2 =>
    have hs := bk_t hc
    refine go_then ?go_3
    by_cases hz1 : namesOk names = false
    · refine go_exprE (ex_call B tk (ok_check_names T) (by decide) _ ?c_check_names_2 (if_pos hz1) (da_cons (de_var B (i := 1) rfl rfl (.inl rfl)) da_nil) rfl) (fun F H σ en H2 s1 => PrI.er (D0 := cs.BadName) R ?re3 H2 ((up.trans en.gr.h).trans s1))
      (case c_check_names_2 => exact ⟨hp.n1, hp.nl⟩)
      (case re3 => first | exact if_pos hc | exact (if_neg (fun z => z hs)).trans (if_pos hz1) | exact (if_neg (fun z => z hs)).trans ((if_neg hz1).trans (if_pos (lens_bad hi hr))))
    refine go_expr (CA.val (ca_callO (okr_check_names X.K) B (ok_check_names T) (by decide) _ ?c_check_names_4 (if_neg hz1) (da_cons (de_var B (i := 1) rfl rfl (.inl rfl)) da_nil) rfl)) ?go_4
    (case c_check_names_4 => exact ⟨hp.n1, hp.nl⟩)
    refine go_forS B (fun i => [(3, .any)]) (fun i => ∀ j, j < i → (rows.getD j []).length = names.length) (sr_listM (R := (fun l => rLst X.K (List.map (rNum X.K) l))) [] (de_var B (i := 2) rfl rfl (.inl rfl))) _ (fun i hi => (dg_name B (i := 3) rfl (.inl rfl))) ?h0_5 ?j0_6 (fun F1 u i hi hj => ?gb_7) (fun hj => ?ge_8)
    (case h0_5 => refine .same ?_; refine .same ?_; refine .same ?_; refine .any ?_; exact .nil)
    (case j0_6 => exact fun j hj => absurd hj (Nat.not_lt_zero j))
    case gb_7 =>
      refine go_if (dt_neI (de_lenM B T.b_len (de_var B (i := 3) rfl rfl (.inl rfl)) rfl) (de_lenAM B T.b_len (de_var B (i := 1) rfl rfl (.inl rfl)) rfl)) (fun hc => ?gt_9) (fun hc => ?gf_10)
      case gt_9 =>
        have hr : ¬ (rows.getD i []).length = names.length := fun z => by rw [z] at hc; simp at hc
        refine go_raise B tk T.x_BadSize rfl (fun F H σ en => PrI.er (D0 := cs.BadSize) R ?re5 H (up.trans en.gr.h))
        (case re5 => first | exact if_pos hc | exact (if_neg (fun z => z hs)).trans (if_pos hz1) | exact (if_neg (fun z => z hs)).trans ((if_neg hz1).trans (if_pos (lens_bad hi hr))))
      case gf_10 =>
        have hr : (rows.getD i []).length = names.length := by have := nd_f hc; omega
        refine go_then ?go_11
        refine go_turnS ?jn_12 ?ln_13
        (case jn_12 => exact lens_more hj hr)
        (case ln_13 => refine .same ?_; refine .same ?_; refine .same ?_; refine .any ?_; exact .nil)
    case ge_8 =>
      refine go_fields n0 nd nF eH hne ?go_14
      refine fi_set B T.i_Book.o n0 rfl (de_tupS T.b_tuple B (de_var B (i := 1) rfl rfl (.inl rfl)) rfl) (i := 0) rfl rfl (.inl rfl) ?go_15
      refine fi_set B T.i_Book.o n0 rfl (de_lenAM B T.b_len (de_var B (i := 1) rfl rfl (.inl rfl)) rfl) (i := 0) rfl rfl (.inl rfl) ?go_16
      refine fi_set B T.i_Book.o n0 rfl (CA.val (ca_call B (ok_frame_of T) (by decide) (_, _) ?c_frame_of_6 (da_cons (de_var B (i := 2) rfl rfl (.inl rfl)) (da_cons (de_lenAM B T.b_len (de_var B (i := 1) rfl rfl (.inl rfl)) rfl) da_nil)) rfl)) (i := 0) rfl rfl (.inl rfl) ?go_17
      (case c_frame_of_6 => exact hp.fr hs (lens_ok hj))
      refine fi_end (fun F H σ vs g nF hp hr => ?fe)
      (case fe => exact (PrI.ok R ((if_neg (fun z => z hs)).trans ((if_neg hz1).trans (if_neg (by rw [lens_ok hj]; exact Bool.noConfusion))))) F H vs g nF hp hr)
theorem sc_Book_free : FnScope ["cls", "names", "cell"] ["cls", "names"] (defScope s_Book_free) := ⟨rfl, rfl, rfl, by decide +kernel, rfl, by decide +kernel, by decide +kernel⟩
def sp_Book_free (K : PySem.W.Frag) (cs : Cs) : Sp := Pm (ι := List Str) (fun names => BookOk names ((freeZ names.length).map toQ) ∧ FreeOk names) (fun names => [rC (.ref cs.Book), rLst K (names.map rStr)]) (fun names => .val (rBook K cs.Book ⟨names, frameQ ((freeZ names.length).map toQ) names.length⟩))
theorem ok_Book_free (T : Txt K mg cs) : CalC P w K mg base 8 cs.Book "free" (sp_Book_free K cs) := by
  refine cal_okC T.cm_Book_free sc_Book_free (fun g => rfl) (fun _ _ _ _ _ _ us hl => match us, hl with | [_, _], _ => rfl) ?_
  rintro X rfl rfl rfl rfl rfl B Bf names F0 H0 D hp R hnx
  refine go_ret R (DE.to (r' := rBook X.K cs.Book ⟨_, frameQ _ _⟩) (de_makeL (okr_Book X.K) B (ok_Book T) (by decide) (_, _) ?c_Book_6 ?o_Book_7 rfl (i := 0) rfl rfl (.inl rfl) (da_cons (DE.sub (de_var B (i := 1) rfl rfl (.inr (.inl rfl))) sub_lseq) (da_cons (de_ll2n (DL.froz (DL.to (l' := List.map (fun l => rLst X.K (List.map rInt l)) (freeZ names.length)) (dl_lc B [("cell", 2)] (sr_range1 B T.b_range (de_lenM B T.b_len (de_var B (i := 1) rfl rfl (.inr (.inl rfl))) rfl) rfl ?r1 ?r2) (blkOk_by (by decide +kernel)) _ (fun _ => true) (fun i : Nat => rLst X.K ((unitR names.length i).map rInt)) ?sz4 (by decide) (fun _ _ _ _ _ B i hi => (dg_name B (i := 2) rfl (.inl rfl))) (fun _ _ _ _ _ B i hi => dts_nil) (fun _ _ _ _ _ B i hi hb => (DL.froz (CA.lst (ca_call B (ok_unit T) (by decide) (_, _) ?c_unit_3 (da_cons (de_lenM B T.b_len (de_var B (i := 1) rfl rfl (.inr (.inl rfl))) rfl) (da_cons (de_var B (i := 2) rfl rfl (.inl rfl)) da_nil)) rfl))))) ?cl5))) da_nil))) rfl) ?rs_1
  (case r1 => have := hp.1.n1; omega)
  (case r2 => have := hp.1.n1; omega)
  (case c_unit_3 => have := hp.1.n1; exact ⟨by omega, by omega⟩)
  (case sz4 => have := hp.1.n1; exact Nat.lt_of_le_of_lt (show _ ≤ 1000 by simp; omega) (by decide))
  (case cl5 => exact free_lc)
  (case c_Book_6 => exact hp.1)
  (case o_Book_7 => exact fb_ok hp.2)
  (case rs_1 => exact Sub.rfl)
end K01

set_option Elab.async false
set_option linter.all false
set_option maxRecDepth 100000
set_option maxHeartbeats 4000000
namespace K01
open PySem PySem.Spec PyProof.Rows L2 DL
variable {P : Program} {w : World} {K : PySem.W.Frag} {mg : Str → Option Value} {base : Heap} {cs : Cs}
theorem sc_price_row : FnScope ["book", "cell", "row", "line", "entry"] ["book", "cell"] (defScope s_price_row) := ⟨rfl, rfl, rfl, by decide +kernel, rfl, by decide +kernel, by decide +kernel⟩
def sp_price_row (K : PySem.W.Frag) (cs : Cs) : Sp := Pm (ι := Bk × Nat) (fun ⟨b, c⟩ => PrOk b c) (fun ⟨b, c⟩ => [rBook K cs.Book b, rInt (c : Int)]) (fun ⟨b, c⟩ => .lst ((prL b.frame b.size c).map (rNum K)))
theorem ok_price_row (T : Txt K mg cs) : Cal P w K mg base 2 "price_row" (sp_price_row K cs) := by
  refine cal_ok T.d_price_row sc_price_row (fun g => rfl) (fun _ _ _ _ _ _ us hl => match us, hl with | [_, _], _ => rfl) ?_
  rintro X rfl rfl rfl rfl rfl B Bf ⟨b, c⟩ F0 H0 D hp R hnx
  have hb := hp.n
  have hc0 := hp.c
  have hpl := hp.p.l
  refine go_setL B (i := 2) (DL.to (l' := List.map (rNum X.K) (prN b.frame b.size c 0)) (CA.lst (ca_call B (ok_unit T) (by decide) (_, _) ?c_unit_1 (da_cons (de_bkS T.i_Book.o (de_var B (i := 0) rfl rfl (.inl rfl))) (da_cons (de_var B (i := 1) rfl rfl (.inl rfl)) da_nil)) rfl)) ?cl2) rfl (.inl rfl) ?go_1
  (case c_unit_1 => exact ⟨hc0, hb⟩)
  (case cl2 => exact prN_toQ)
  refine go_forS B (fun i => [(2, .ow ((prN b.frame b.size c i).map (rNum X.K))), (3, .any), (4, .any)]) (fun i => True) (sr_seqM (R := (fun l => rTup X.K (List.map rInt l))) [] (DE.sub (de_bkF T.i_Book.o (de_var B (i := 0) rfl rfl (.inl rfl))) sub_tseq)) _ (fun i hi => (dg_name B (i := 3) rfl (.inl rfl))) ?h0_2 ?j0_3 (fun F1 u i hi hj => ?gb_4) (fun hj => ?ge_5)
  (case h0_2 => refine .same ?_; refine .same ?_; refine .ow ?h ?_; (case h => rfl); refine .any ?_; refine .any ?_; exact .nil)
  (case j0_3 => trivial)
  case gb_4 =>
    have hv := hp.pv i hi
    have hv1 : ((suppI (toQ (b.frame.getD i []))).getD 0 0).toNat < b.size := by have := hv.1; have := hv.2.1; omega
    have hlen := hp.len _ (getD_memL hi)
    have hpn := prN_len b.frame b.size c i
    refine go_set B (i := 4) (de_ixM (R := rInt) (0 : Int) ?xl4 ?xh5 (DL.froz (CA.lst (ca_call B (ok_support T) (by decide) _ ?c_support_3 (da_cons (de_ti2sn (de_var B (i := 3) rfl rfl (.inl rfl))) da_nil) rfl))) de_int) rfl (.inl rfl) ?go_6
    (case c_support_3 => rw [toQ_len]; exact hpl _ (getD_memL hi))
    (case xl4 => first | exact hv.1 | decide | exact Int.natCast_nonneg _)
    (case xh5 => first | (rw [hlen]; exact hv.2.1) | (rw [hlen]; omega) | (rw [hpn]; exact hv.2.1) | (have := hp.p.s _ (getD_memL hi); show (0 : Int) < ((suppI _).length : Nat); omega))
    refine go_putM (R := (rNum X.K)) B (i := 2) (CA.val (ca_callO (okr_ratio X.K) B (ok_ratio T) (by decide) (_, _) ?c_ratio_10 ?o_ratio_11 (da_cons (de_neg (de_ixAM (R := rInt) (0 : Int) ?xl6 ?xh7 (DE.sub (de_var B (i := 3) rfl rfl (.inl rfl)) sub_tseq) (de_var B (i := 1) rfl rfl (.inl rfl)))) (da_cons (de_ixAM (R := rInt) (0 : Int) ?xl8 ?xh9 (DE.sub (de_var B (i := 3) rfl rfl (.inl rfl)) sub_tseq) (de_var B (i := 4) rfl rfl (.inl rfl))) da_nil)) rfl)) (de_var B (i := 4) rfl rfl (.inl rfl)) ?xl12 ?xh13 rfl rfl (.inl rfl) ?go_7
    (case xl6 => first | exact hv.1 | decide | exact Int.natCast_nonneg _)
    (case xh7 => first | (rw [hlen]; exact hv.2.1) | (rw [hlen]; omega) | (rw [hpn]; exact hv.2.1) | (have := hp.p.s _ (getD_memL hi); show (0 : Int) < ((suppI _).length : Nat); omega))
    (case xl8 => first | exact hv.1 | decide | exact Int.natCast_nonneg _)
    (case xh9 => first | (rw [hlen]; exact hv.2.1) | (rw [hlen]; omega) | (rw [hpn]; exact hv.2.1) | (have := hp.p.s _ (getD_memL hi); show (0 : Int) < ((suppI _).length : Nat); omega))
    (case c_ratio_10 => exact hp.sm _ (getD_memL hi) _ (getD_memI (by rw [hlen]; exact hv1)))
    (case o_ratio_11 => exact if_neg hv.2.2)
    (case xl12 => first | exact hv.1 | decide | exact Int.natCast_nonneg _)
    (case xh13 => first | (rw [hlen]; exact hv.2.1) | (rw [hlen]; omega) | (rw [hpn]; exact hv.2.1) | (have := hp.p.s _ (getD_memL hi); show (0 : Int) < ((suppI _).length : Nat); omega))
    refine go_turnS ?jn_8 ?ln_9
    (case jn_8 => trivial)
    (case ln_9 => refine .same ?_; refine .same ?_; refine .ow ?h ?_; (case h => rw [prN_succ hi]; rfl); refine .any ?_; refine .any ?_; exact .nil)
  case ge_5 =>
    refine go_retV B (i := 2) R rfl ?rs_10 rfl (.inl rfl)
    (case rs_10 => rfl)
theorem sc_other_side : FnScope ["book", "entries", "cell"] ["book"] (defScope s_other_side) := ⟨rfl, rfl, rfl, by decide +kernel, rfl, by decide +kernel, by decide +kernel⟩
def sp_other_side (K : PySem.W.Frag) (cs : Cs) : Sp := Pm (ι := Bk) (fun b => OsOk b) (fun b => [rBook K cs.Book b]) (fun b => .val (rBook K cs.Book ⟨b.names, othF b.frame b.size⟩))
theorem ok_other_side (T : Txt K mg cs) : Cal P w K mg base 8 "other_side" (sp_other_side K cs) := by
  refine cal_ok T.d_other_side sc_other_side (fun g => rfl) (fun _ _ _ _ _ _ us hl => match us, hl with | [_], _ => rfl) ?_
  rintro X rfl rfl rfl rfl rfl B Bf b F0 H0 D hp R hnx
  have hb := hp.n
  refine go_setL B (i := 1) (CA.lst (ca_call B (ok_pivots T) (by decide) _ ?c_pivots_1 (da_cons (de_var B (i := 0) rfl rfl (.inr (.inl rfl))) da_nil) rfl)) rfl (.inr ⟨rfl, Bf _⟩) ?go_1
  (case c_pivots_1 => exact hp.p)
  refine go_froz 1 rfl ?go_2
  refine go_ret R (DE.to (r' := rBook X.K cs.Book ⟨_, frameQ _ _⟩) (de_make (okr_Book X.K) B (ok_Book T) (by decide) (b.names, prs b.frame b.size) ?c_Book_7 ?o_Book_8 rfl (da_cons (DE.sub (de_bkN T.i_Book.o (de_var B (i := 0) rfl rfl (.inr (.inl rfl)))) sub_tseq) (da_cons (DL.froz (DL.to (l' := List.map (fun l => rLst X.K (List.map (rNum X.K) l)) (prs b.frame b.size)) (dl_lc B [("cell", 2)] (sr_range1 B T.b_range (de_bkS T.i_Book.o (de_var B (i := 0) rfl rfl (.inr (.inl rfl)))) rfl ?r2 ?r3) (blkOk_by (by decide +kernel)) _ _ (fun i : Nat => rLst X.K ((prL b.frame b.size i).map (rNum X.K))) ?sz5 (by decide) (fun _ _ _ _ _ B i hi => (dg_name B (i := 2) rfl (.inl rfl))) (fun _ _ _ _ _ B i hi => (dts_one (dt_notInT dat_int (by decide) B (de_var B (i := 2) rfl rfl (.inl rfl)) (de_var B (i := 1) rfl rfl (.inr (.inl rfl)))))) (fun _ _ _ _ _ B i hi hb => (DL.froz (CA.lst (ca_call B (ok_price_row T) (by decide) (_, _) ?c_price_row_4 (da_cons (de_var B (i := 0) rfl rfl (.inr (.inl rfl))) (da_cons (de_var B (i := 2) rfl rfl (.inl rfl)) da_nil)) rfl))))) ?cl6)) da_nil)) rfl) rfl) ?rs_3
  (case r2 => first | omega | decide)
  (case r3 => first | omega | decide)
  (case c_price_row_4 => exact hp.pr _ (by omega))
  (case sz5 => exact Nat.lt_of_le_of_lt (show _ ≤ 16 by omega) (by decide))
  (case cl6 => exact prs_lc)
  (case c_Book_7 => exact hp.bk)
  (case o_Book_8 => exact bk_out hp.n1 hp.nm (prs_lens _ _))
  (case rs_3 => exact Sub.rfl)
end K01

set_option Elab.async false
set_option linter.all false
set_option maxRecDepth 100000
set_option maxHeartbeats 4000000
namespace K01
open PySem PySem.Spec PyProof.Rows L2 DL
variable {P : Program} {w : World} {K : PySem.W.Frag} {mg : Str → Option Value} {base : Heap} {cs : Cs}
theorem sc__law_cell : FnScope ["_law_script", "_law_k"] ["_law_script", "_law_k"] (defScope s__law_cell) := ⟨rfl, rfl, rfl, by decide +kernel, rfl, by decide +kernel, by decide +kernel⟩
def sp__law_cell (K : PySem.W.Frag) (cs : Cs) : Sp := Pm (ι := List Int × Nat) (fun ⟨ns, k⟩ => True) (fun ⟨ns, k⟩ => [rLst K (ns.map rInt), rInt (k : Int)]) (fun ⟨ns, k⟩ => .val (rInt (ns.getD k 0)))
theorem ok__law_cell (T : Txt K mg cs) : Cal P w K mg base 1 "_law_cell" (sp__law_cell K cs) := by
  refine cal_ok T.d__law_cell sc__law_cell (fun g => rfl) (fun _ _ _ _ _ _ us hl => match us, hl with | [_, _], _ => rfl) ?_
  rintro X rfl rfl rfl rfl rfl B Bf ⟨ns, k⟩ F0 H0 D hp R hnx
  refine go_if (dt_lt (de_var B (i := 1) rfl rfl (.inl rfl)) (de_lenM B T.b_len (de_var B (i := 0) rfl rfl (.inl rfl)) rfl)) (fun hc => ?gt_1) (fun hc => ?gf_2)
  case gt_1 =>
    try (simp only [decide_eq_true_eq, decide_eq_false_iff_not, Bool.not_eq_true', Bool.not_eq_false', Bool.not_eq_true, Bool.not_eq_false] at hc)
    refine go_ret R (de_ixM (R := rInt) (0 : Int) ?xl1 ?xh2 (de_var B (i := 0) rfl rfl (.inl rfl)) (de_var B (i := 1) rfl rfl (.inl rfl))) ?rs_3
    (case xl1 => omega)
    (case xh2 => simpa using hc)
    (case rs_3 => exact Sub.rfl)
  case gf_2 =>
    try (simp only [decide_eq_true_eq, decide_eq_false_iff_not, Bool.not_eq_true', Bool.not_eq_false', Bool.not_eq_true, Bool.not_eq_false] at hc)
    refine go_then ?go_4
    refine go_ret R de_int ?rs_5
    (case rs_5 => exact Sub.of (by rw [getD_out (by simpa using hc)]))
theorem sc__law_gcd : FnScope ["_law_one", "_law_other_here", "_law_k"] ["_law_one", "_law_other_here"] (defScope s__law_gcd) := ⟨rfl, rfl, rfl, by decide +kernel, rfl, by decide +kernel, by decide +kernel⟩
def sp__law_gcd (K : PySem.W.Frag) (cs : Cs) : Sp := Pm (ι := Int × Int) (fun ⟨s, t⟩ => Lg s < 990 ∧ Lg t < 990) (fun ⟨s, t⟩ => [rInt s, rInt t]) (fun ⟨s, t⟩ => .val (rInt (Int.gcd s t : Nat)))
theorem ok__law_gcd (T : Txt K mg cs) : Cal P w K mg base 1 "_law_gcd" (sp__law_gcd K cs) := by
  refine cal_ok T.d__law_gcd sc__law_gcd (fun g => rfl) (fun _ _ _ _ _ _ us hl => match us, hl with | [_, _], _ => rfl) ?_
  rintro X rfl rfl rfl rfl rfl B Bf ⟨s, t⟩ F0 H0 D hp R hnx
  refine go_set B (i := 0) (de_abs B T.b_abs (de_var B (i := 0) rfl rfl (.inl rfl)) rfl) rfl (.inl rfl) ?go_1
  refine go_set B (i := 1) (de_abs B T.b_abs (de_var B (i := 1) rfl rfl (.inl rfl)) rfl) rfl (.inl rfl) ?go_2
  refine go_forS B (fun i => [(0, .im (rInt (eu i ((s.natAbs : Int), (t.natAbs : Int))).1)), (1, .im (rInt (eu i ((s.natAbs : Int), (t.natAbs : Int))).2)), (2, .any)]) (fun i => EuJ (s.natAbs : Int) (t.natAbs : Int) i) (sr_range1 B T.b_range de_int rfl ?r1 ?r2) _ (fun i hi => (dg_name B (i := 2) rfl (.inl rfl))) ?h0_3 ?j0_4 (fun F1 u i hi hj => ?gb_5) (fun hj => ?ge_6)
  (case r1 => decide)
  (case r2 => decide)
  (case h0_3 => refine .im ?h ?_; (case h => exact Sub.rfl); refine .im ?h ?_; (case h => exact Sub.rfl); refine .any ?_; exact .nil)
  (case j0_4 => exact euJ0 (by omega) (by omega))
  case gb_5 =>
    refine go_if (dt_eqI (de_var B (i := 1) rfl rfl (.inl rfl)) de_int) (fun hc => ?gt_7) (fun hc => ?gf_8)
    case gt_7 =>
      replace hc := of_decide_eq_true hc
      refine go_brk u ?gk_9
      case gk_9 =>
        refine go_ret R (de_var B (i := 0) rfl rfl (.inl rfl)) ?rs_10
        (case rs_10 => first | exact Sub.of (by rw [eu_gcd hj hc, gcd_abs]) | exact Sub.of (by rw [eu_gcd hj (eu_end hj (by omega) (by omega) (lg_abs hp.1) (lg_abs hp.2)), gcd_abs]))
    case gf_8 =>
      replace hc := of_decide_eq_false hc
      refine go_then ?go_11
      refine go_par B (i := 0) (j := 1) (de_var B (i := 1) rfl rfl (.inl rfl)) (de_mod ?z3 (de_toInt B T.b_int (de_var B (i := 0) rfl rfl (.inl rfl)) rfl) (de_var B (i := 1) rfl rfl (.inl rfl))) rfl rfl (by decide) rfl rfl ?go_12 (fun env h => by cases env; subst h; with_unfolding_all rfl)
      (case z3 => exact hc)
      refine go_turnS ?jn_13 ?ln_14
      (case jn_13 => exact euJ_step hj hc)
      (case ln_14 => refine .im ?h ?_; (case h => exact Sub.rfl); refine .im ?h ?_; (case h => exact Sub.rfl); refine .any ?_; exact .nil)
  case ge_6 =>
    refine go_ret R (de_var B (i := 0) rfl rfl (.inl rfl)) ?rs_15
    (case rs_15 => first | exact Sub.of (by rw [eu_gcd hj hc, gcd_abs]) | exact Sub.of (by rw [eu_gcd hj (eu_end hj (by omega) (by omega) (lg_abs hp.1) (lg_abs hp.2)), gcd_abs]))
theorem sc__law_top : FnScope ["_law_x"] ["_law_x"] (defScope s__law_top) := ⟨rfl, rfl, rfl, by decide +kernel, rfl, by decide +kernel, by decide +kernel⟩
def sp__law_top (K : PySem.W.Frag) (cs : Cs) : Sp := Pm (ι := Rat) (fun q => True) (fun q => [rNum K q]) (fun q => .val (rInt q.num))
theorem ok__law_top (T : Txt K mg cs) : Cal P w K mg base 1 "_law_top" (sp__law_top K cs) := by
  refine cal_ok T.d__law_top sc__law_top (fun g => rfl) (fun _ _ _ _ _ _ us hl => match us, hl with | [_], _ => rfl) ?_
  rintro X rfl rfl rfl rfl rfl B Bf q F0 H0 D hp R hnx
  refine go_if (dt_val (de_isi (T := "tuple") B T.b_isinstance rty_num kit_numT (de_var B (i := 0) rfl rfl (.inl rfl)) (de_ty B T.b_tuple (by decide +kernel) rfl) rfl)) (fun hc => ?gt_1) (fun hc => ?gf_2)
  case gt_1 =>
    try (simp only [decide_eq_true_eq, decide_eq_false_iff_not, Bool.not_eq_true', Bool.not_eq_false', Bool.not_eq_true, Bool.not_eq_false] at hc)
    refine go_ret R (de_num0 ?n1 (de_var B (i := 0) rfl rfl (.inl rfl))) ?rs_3
    (case n1 => simpa using hc)
    (case rs_3 => exact Sub.rfl)
  case gf_2 =>
    try (simp only [decide_eq_true_eq, decide_eq_false_iff_not, Bool.not_eq_true', Bool.not_eq_false', Bool.not_eq_true, Bool.not_eq_false] at hc)
    refine go_then ?go_4
    refine go_ret R (de_n2i ?n2 (de_var B (i := 0) rfl rfl (.inl rfl))) ?rs_5
    (case n2 => simpa using hc)
    (case rs_5 => exact Sub.rfl)
theorem sc__law_bottom : FnScope ["_law_x"] ["_law_x"] (defScope s__law_bottom) := ⟨rfl, rfl, rfl, by decide +kernel, rfl, by decide +kernel, by decide +kernel⟩
def sp__law_bottom (K : PySem.W.Frag) (cs : Cs) : Sp := Pm (ι := Rat) (fun q => True) (fun q => [rNum K q]) (fun q => .val (rInt (q.den : Int)))
theorem ok__law_bottom (T : Txt K mg cs) : Cal P w K mg base 1 "_law_bottom" (sp__law_bottom K cs) := by
  refine cal_ok T.d__law_bottom sc__law_bottom (fun g => rfl) (fun _ _ _ _ _ _ us hl => match us, hl with | [_], _ => rfl) ?_
  rintro X rfl rfl rfl rfl rfl B Bf q F0 H0 D hp R hnx
  refine go_if (dt_val (de_isi (T := "tuple") B T.b_isinstance rty_num kit_numT (de_var B (i := 0) rfl rfl (.inl rfl)) (de_ty B T.b_tuple (by decide +kernel) rfl) rfl)) (fun hc => ?gt_1) (fun hc => ?gf_2)
  case gt_1 =>
    try (simp only [decide_eq_true_eq, decide_eq_false_iff_not, Bool.not_eq_true', Bool.not_eq_false', Bool.not_eq_true, Bool.not_eq_false] at hc)
    refine go_ret R (de_num1 ?n1 (de_var B (i := 0) rfl rfl (.inl rfl))) ?rs_3
    (case n1 => simpa using hc)
    (case rs_3 => exact Sub.rfl)
  case gf_2 =>
    try (simp only [decide_eq_true_eq, decide_eq_false_iff_not, Bool.not_eq_true', Bool.not_eq_false', Bool.not_eq_true, Bool.not_eq_false] at hc)
    refine go_then ?go_4
    refine go_ret R de_int ?rs_5
    (case rs_5 => exact Sub.of (congrArg rInt (by simp at hc; omega)))
theorem sc__law_is_int : FnScope ["_law_x"] ["_law_x"] (defScope s__law_is_int) := ⟨rfl, rfl, rfl, by decide +kernel, rfl, by decide +kernel, by decide +kernel⟩
def sp__law_is_int (K : PySem.W.Frag) (cs : Cs) : Sp := Pm (ι := Rat) (fun q => True) (fun q => [rNum K q]) (fun q => .val (rBl (decide (q.den = 1))))
theorem ok__law_is_int (T : Txt K mg cs) : Cal P w K mg base 1 "_law_is_int" (sp__law_is_int K cs) := by
  refine cal_ok T.d__law_is_int sc__law_is_int (fun g => rfl) (fun _ _ _ _ _ _ us hl => match us, hl with | [_], _ => rfl) ?_
  rintro X rfl rfl rfl rfl rfl B Bf q F0 H0 D hp R hnx
  refine go_ret R (de_and (de_isi (T := "int") B T.b_isinstance rty_num kit_numI (de_var B (i := 0) rfl rfl (.inl rfl)) (de_ty B T.b_int (by decide +kernel) rfl) rfl) (fun hb1 => (de_one (de_not (de_isi (T := "bool") B T.b_isinstance rty_num kit_numB (de_var B (i := 0) rfl rfl (.inl rfl)) (de_ty B T.b_bool (by decide +kernel) rfl) rfl))))) ?rs_1
  (case rs_1 => exact Sub.of (by simp))
theorem sc__law_numbers : FnScope ["_law_script", "_law_k", "_law_many", "_law_cell_here", "_law_row", "_law_j", "_law_mixed"] ["_law_script", "_law_k", "_law_many"] (defScope s__law_numbers) := ⟨rfl, rfl, rfl, by decide +kernel, rfl, by decide +kernel, by decide +kernel⟩
def sp__law_numbers (K : PySem.W.Frag) (cs : Cs) : Sp := Pm (ι := List Int × Nat × Nat) (fun ⟨ns, k, many⟩ => many ≤ 100) (fun ⟨ns, k, many⟩ => [rLst K (ns.map rInt), rInt (k : Int), rInt (many : Int)]) (fun ⟨ns, k, many⟩ => .lst ((lawNums ns k many).map rInt))
theorem ok__law_numbers (T : Txt K mg cs) : Cal P w K mg base 2 "_law_numbers" (sp__law_numbers K cs) := by
  refine cal_ok T.d__law_numbers sc__law_numbers (fun g => rfl) (fun _ _ _ _ _ _ us hl => match us, hl with | [_, _, _], _ => rfl) ?_
  rintro X rfl rfl rfl rfl rfl B Bf ⟨ns, k, many⟩ F0 H0 D hp R hnx
  refine @go_nf _ _ _ _ _ _ [_, _, _, _, _, _, _] rfl ?go_1
  refine go_set B (i := 3) (de_abs B T.b_abs (CA.val (ca_call B (ok__law_cell T) (by decide) (_, _) trivial (da_cons (de_var B (i := 0) rfl rfl (.inl rfl)) (da_cons (de_var B (i := 1) rfl rfl (.inl rfl)) da_nil)) rfl)) rfl) rfl (.inl rfl) ?go_2
  refine @go_nf _ _ _ _ _ _ [_, _, _, _, _, _, _] rfl ?go_3
  refine go_setL B (i := 4) (dl_lst da_nil (show (0 : Nat) ≤ sizeLine by decide)) rfl (.inl rfl) ?go_4
  refine @go_nf _ _ _ _ _ _ [_, _, _, _, _, _, _] rfl ?go_5
  refine go_if (dt_ge (de_var B (i := 3) rfl rfl (.inl rfl)) (de_pow ⟨by decide, by decide, by decide⟩ de_int de_int)) (fun hc => ?gt_6) (fun hc => ?gf_7)
  case gt_6 =>
    replace hc : (10 : Int) ^ 18 ≤ ((ns.getD k 0).natAbs : Int) := of_decide_eq_true hc
    refine go_forS B (fun i => [(3, .im (rInt (divs (ns.getD k 0).natAbs i))), (4, .ow (((List.range i).map (bigN (ns.getD k 0).natAbs)).map rInt)), (5, .any)]) (fun i => True) (sr_range1 B T.b_range (de_var B (i := 2) rfl rfl (.inl rfl)) rfl ?r1 ?r2) _ (fun i hi => (dg_name B (i := 5) rfl (.inl rfl))) ?h0_8 ?j0_9 (fun F1 u i hi hj => ?gb_10) (fun hj => ?ge_11)
    (case r1 => first | omega | (have := hp; omega))
    (case r2 => first | omega | (have := hp; omega))
    (case h0_8 => refine .same ?_; refine .same ?_; refine .same ?_; refine .im ?h ?_; (case h => exact Sub.rfl); refine .ow ?h ?_; (case h => rfl); refine .any ?_; refine .same ?_; exact .nil)
    (case j0_9 => trivial)
    case gb_10 =>
      refine @go_nf _ _ _ _ _ _ [_, _, _, _, _, _, _] rfl ?go_12
      refine go_append B (i := 4) rfl (de_mod ?z3 (de_toInt B T.b_int (de_var B (i := 3) rfl rfl (.inl rfl)) rfl) de_int) ?s4 rfl (.inl rfl) ?go_13
      (case z3 => decide)
      (case s4 => simp; exact Nat.lt_of_le_of_lt (by omega : i ≤ 100) (by decide))
      refine @go_nf _ _ _ _ _ _ [_, _, _, _, _, _, _] rfl ?go_14
      refine go_set B (i := 3) (de_divG ?z5 ?d6 (de_var B (i := 3) rfl rfl (.inl rfl)) de_int) rfl (.inl rfl) ?go_15
      (case z5 => decide)
      (case d6 => decide)
      refine @go_nf _ _ _ _ _ _ [_, _, _, _, _, _, _] rfl ?go_16
      refine go_turnS ?jn_17 ?ln_18
      (case jn_17 => trivial)
      (case ln_18 => refine .same ?_; refine .same ?_; refine .same ?_; refine .im ?h ?_; (case h => exact Sub.rfl); refine .ow ?h ?_; (case h => rw [List.range_succ]; simp [bigN]); refine .any ?_; refine .same ?_; exact .nil)
    case ge_11 =>
      refine @go_nf _ _ _ _ _ _ [_, _, _, _, _, _, _] rfl ?go_19
      refine go_retV B (i := 4) R rfl ?rs_20 rfl (.inl rfl)
      (case rs_20 => first | rw [lawNums, if_pos hc, Int.toNat_natCast] | rw [lawNums, if_neg hc, Int.toNat_natCast])
  case gf_7 =>
    replace hc : ¬ (10 : Int) ^ 18 ≤ ((ns.getD k 0).natAbs : Int) := of_decide_eq_false hc; have hc2 : (((ns.getD k 0).natAbs : Int)).natAbs < 18446744073709551616 := by omega
    refine go_then ?go_21
    refine go_forS B (fun i => [(4, .ow (((List.range i).map (smallN (ns.getD k 0).natAbs)).map rInt)), (5, .any), (6, .any)]) (fun i => True) (sr_range1 B T.b_range (de_var B (i := 2) rfl rfl (.inl rfl)) rfl ?r7 ?r8) _ (fun i hi => (dg_name B (i := 5) rfl (.inl rfl))) ?h0_22 ?j0_23 (fun F1 u i hi hj => ?gb_24) (fun hj => ?ge_25)
    (case r7 => first | omega | (have := hp; omega))
    (case r8 => first | omega | (have := hp; omega))
    (case h0_22 => refine .same ?_; refine .same ?_; refine .same ?_; refine .same ?_; refine .ow ?h ?_; (case h => rfl); refine .any ?_; refine .any ?_; exact .nil)
    (case j0_23 => trivial)
    case gb_24 =>
      refine @go_nf _ _ _ _ _ _ [_, _, _, _, _, _, _] rfl ?go_26
      refine go_set B (i := 6) (de_mod ?z11 (de_toInt B T.b_int (de_add (de_add (de_mulG ?m9 (de_var B (i := 3) rfl rfl (.inl rfl)) de_int) (de_mulG ?m10 de_int (de_var B (i := 5) rfl rfl (.inl rfl)))) de_int) rfl) de_int) rfl (.inl rfl) ?go_27
      (case m9 => first | exact mul_s hc2 (by decide) | exact mul_s (by decide) (by omega) | exact mul_s (sm16 _) (by decide))
      (case m10 => first | exact mul_s hc2 (by decide) | exact mul_s (by decide) (by omega) | exact mul_s (sm16 _) (by decide))
      (case z11 => decide)
      refine @go_nf _ _ _ _ _ _ [_, _, _, _, _, _, _] rfl ?go_28
      refine go_append B (i := 4) rfl (de_mod ?z15 (de_toInt B T.b_int (de_add (de_mulG ?m14 (de_divG ?z12 ?d13 (de_var B (i := 6) rfl rfl (.inl rfl)) de_int) de_int) (de_var B (i := 5) rfl rfl (.inl rfl))) rfl) de_int) ?s16 rfl (.inl rfl) ?go_29
      (case z12 => decide)
      (case d13 => decide)
      (case m14 => first | exact mul_s hc2 (by decide) | exact mul_s (by decide) (by omega) | exact mul_s (sm16 _) (by decide))
      (case z15 => decide)
      (case s16 => simp; exact Nat.lt_of_le_of_lt (by omega : i ≤ 100) (by decide))
      refine @go_nf _ _ _ _ _ _ [_, _, _, _, _, _, _] rfl ?go_30
      refine go_turnS ?jn_31 ?ln_32
      (case jn_31 => trivial)
      (case ln_32 => refine .same ?_; refine .same ?_; refine .same ?_; refine .same ?_; refine .ow ?h ?_; (case h => rw [List.range_succ]; simp [smallN]); refine .any ?_; refine .any ?_; exact .nil)
    case ge_25 =>
      refine @go_nf _ _ _ _ _ _ [_, _, _, _, _, _, _] rfl ?go_33
      refine go_retV B (i := 4) R rfl ?rs_34 rfl (.inl rfl)
      (case rs_34 => first | rw [lawNums, if_pos hc, Int.toNat_natCast] | rw [lawNums, if_neg hc, Int.toNat_natCast])
theorem sc__law_make : FnScope ["_law_top_here", "_law_bottom_here", "_law_common"] ["_law_top_here", "_law_bottom_here"] (defScope s__law_make) := ⟨rfl, rfl, rfl, by decide +kernel, rfl, by decide +kernel, by decide +kernel⟩
def sp__law_make (K : PySem.W.Frag) (cs : Cs) : Sp := Pm (ι := Int × Int) (fun ⟨t, b⟩ => b ≠ 0 ∧ Lg t < 990 ∧ Lg b < 990) (fun ⟨t, b⟩ => [rInt t, rInt b]) (fun ⟨t, b⟩ => .val (rNum K ((t : Rat) / (b : Rat))))
theorem ok__law_make (T : Txt K mg cs) : Cal P w K mg base 2 "_law_make" (sp__law_make K cs) := by
  refine cal_ok T.d__law_make sc__law_make (fun g => rfl) (fun _ _ _ _ _ _ us hl => match us, hl with | [_, _], _ => rfl) ?_
  rintro X rfl rfl rfl rfl rfl B Bf ⟨t, b⟩ F0 H0 D hp R hnx
  obtain ⟨hb, hp1, hp2⟩ := hp
  refine go_set B (i := 2) (CA.val (ca_call B (ok__law_gcd T) (by decide) (_, _) ?c_law_gcd_1 (da_cons (de_var B (i := 0) rfl rfl (.inl rfl)) (da_cons (de_var B (i := 1) rfl rfl (.inl rfl)) da_nil)) rfl)) rfl (.inl rfl) ?go_1
  (case c_law_gcd_1 => exact ⟨hp1, hp2⟩)
  refine go_if (dt_lt (de_var B (i := 1) rfl rfl (.inl rfl)) de_int) (fun hc => ?gt_2) (fun hc => ?gf_3)
  case gt_2 =>
    replace hc : b < 0 := of_decide_eq_true hc; have hl : lowC t b = -(Int.gcd t b : Int) := if_pos hc
    refine go_set B (i := 2) (de_neg (de_var B (i := 2) rfl rfl (.inl rfl))) rfl (.inl rfl) ?go_4
    refine go_then ?go_5
    refine go_if (dt_eqI (de_divG ?z2 ?d3 (de_var B (i := 1) rfl rfl (.inl rfl)) (de_var B (i := 2) rfl rfl (.inl rfl))) de_int) (fun hc => ?gt_6) (fun hc => ?gf_7)
    (case z2 => rw [← hl]; exact lowC_ne hb)
    (case d3 => rw [← hl]; exact Nat.lt_of_le_of_lt (lg_lowC hb) (Nat.lt_trans hp2 (by decide)))
    case gt_6 =>
      replace hc := of_decide_eq_true hc
      refine go_ret R (de_divG ?z4 ?d5 (de_var B (i := 0) rfl rfl (.inl rfl)) (de_var B (i := 2) rfl rfl (.inl rfl))) ?rs_8
      (case z4 => rw [← hl]; exact lowC_ne hb)
      (case d5 => rw [← hl]; exact Nat.lt_of_le_of_lt (lg_lowC hb) (Nat.lt_trans hp2 (by decide)))
      (case rs_8 => rw [← hl] at hc ⊢; exact sub_whole (rat_den1b hb hc) (rat_num hb))
    case gf_7 =>
      replace hc := of_decide_eq_false hc
      refine go_then ?go_9
      refine go_ret R (de_tup (da_cons (de_divG ?z6 ?d7 (de_var B (i := 0) rfl rfl (.inl rfl)) (de_var B (i := 2) rfl rfl (.inl rfl))) (da_cons (de_divG ?z8 ?d9 (de_var B (i := 1) rfl rfl (.inl rfl)) (de_var B (i := 2) rfl rfl (.inl rfl))) da_nil)) (show (2 : Nat) ≤ sizeLine by decide)) ?rs_10
      (case z6 => rw [← hl]; exact lowC_ne hb)
      (case d7 => rw [← hl]; exact Nat.lt_of_le_of_lt (lg_lowC hb) (Nat.lt_trans hp2 (by decide)))
      (case z8 => rw [← hl]; exact lowC_ne hb)
      (case d9 => rw [← hl]; exact Nat.lt_of_le_of_lt (lg_lowC hb) (Nat.lt_trans hp2 (by decide)))
      (case rs_10 => rw [← hl] at hc ⊢; exact sub_pair hc (rat_num hb) (rat_den hb))
  case gf_3 =>
    replace hc : ¬ b < 0 := of_decide_eq_false hc; have hl : lowC t b = (Int.gcd t b : Int) := if_neg hc
    refine go_then ?go_11
    refine go_if (dt_eqI (de_divG ?z10 ?d11 (de_var B (i := 1) rfl rfl (.inl rfl)) (de_var B (i := 2) rfl rfl (.inl rfl))) de_int) (fun hc => ?gt_12) (fun hc => ?gf_13)
    (case z10 => rw [← hl]; exact lowC_ne hb)
    (case d11 => rw [← hl]; exact Nat.lt_of_le_of_lt (lg_lowC hb) (Nat.lt_trans hp2 (by decide)))
    case gt_12 =>
      replace hc := of_decide_eq_true hc
      refine go_ret R (de_divG ?z12 ?d13 (de_var B (i := 0) rfl rfl (.inl rfl)) (de_var B (i := 2) rfl rfl (.inl rfl))) ?rs_14
      (case z12 => rw [← hl]; exact lowC_ne hb)
      (case d13 => rw [← hl]; exact Nat.lt_of_le_of_lt (lg_lowC hb) (Nat.lt_trans hp2 (by decide)))
      (case rs_14 => rw [← hl] at hc ⊢; exact sub_whole (rat_den1b hb hc) (rat_num hb))
    case gf_13 =>
      replace hc := of_decide_eq_false hc
      refine go_then ?go_15
      refine go_ret R (de_tup (da_cons (de_divG ?z14 ?d15 (de_var B (i := 0) rfl rfl (.inl rfl)) (de_var B (i := 2) rfl rfl (.inl rfl))) (da_cons (de_divG ?z16 ?d17 (de_var B (i := 1) rfl rfl (.inl rfl)) (de_var B (i := 2) rfl rfl (.inl rfl))) da_nil)) (show (2 : Nat) ≤ sizeLine by decide)) ?rs_16
      (case z14 => rw [← hl]; exact lowC_ne hb)
      (case d15 => rw [← hl]; exact Nat.lt_of_le_of_lt (lg_lowC hb) (Nat.lt_trans hp2 (by decide)))
      (case z16 => rw [← hl]; exact lowC_ne hb)
      (case d17 => rw [← hl]; exact Nat.lt_of_le_of_lt (lg_lowC hb) (Nat.lt_trans hp2 (by decide)))
      (case rs_16 => rw [← hl] at hc ⊢; exact sub_pair hc (rat_num hb) (rat_den hb))
theorem sc__law_cleared : FnScope ["_law_row", "_law_lead", "_law_cell_here", "_law_made", "_law_common", "_law_number", "_law_k"] ["_law_row", "_law_lead", "_law_cell_here"] (defScope s__law_cleared) := ⟨rfl, rfl, rfl, by decide +kernel, rfl, by decide +kernel, by decide +kernel⟩
def sp__law_cleared (K : PySem.W.Frag) (cs : Cs) : Sp := Pm (ι := List Int × List Int × Nat × Nat) (fun ⟨row, lead, n, c⟩ => (Sm5 n row ∧ Sm5 n lead) ∧ c < n ∧ n ≤ 40) (fun ⟨row, lead, n, c⟩ => [rLst K (row.map rInt), rLst K (lead.map rInt), rInt (c : Int)]) (fun ⟨row, lead, n, c⟩ => .val (rLst K ((lcl row lead c).map rInt)))
theorem ok__law_cleared (T : Txt K mg cs) : Cal P w K mg base 2 "_law_cleared" (sp__law_cleared K cs) := by
  refine cal_ok T.d__law_cleared sc__law_cleared (fun g => rfl) (fun _ _ _ _ _ _ us hl => match us, hl with | [_, _, _], _ => rfl) ?_
  rintro X rfl rfl rfl rfl rfl B Bf ⟨row, lead, n, c⟩ F0 H0 D hp R hnx
  obtain ⟨⟨hr, hd⟩, hc1, hn⟩ := hp
  have hr1 := hr.1
  have hd1 := hd.1
  refine @go_nf _ _ _ _ _ _ [_, _, _, _, _, _, _] rfl ?go_1
  refine go_setLc (l' := List.map rInt (lmade row lead c)) B [("_law_k", 6)] (sr_range1 B T.b_range (de_lenM B T.b_len (de_var B (i := 0) rfl rfl (.inr (.inl rfl))) rfl) rfl ?r1 ?r2) (blkOk_by (by decide +kernel)) _ (fun _ => true) (fun i : Nat => rInt (row.getD ((i : Nat) : Int).toNat 0 * lead.getD ((c : Nat) : Int).toNat 0 - lead.getD ((i : Nat) : Int).toNat 0 * row.getD ((c : Nat) : Int).toNat 0)) ?sz13 (by decide) (fun _ _ _ _ _ B i hi => (dg_name B (i := 6) rfl (.inl rfl))) (fun _ _ _ _ _ B i hi => dts_nil) (fun _ _ _ _ _ B i hi hb => (de_sub (de_mulG ?m7 (de_ixM (R := rInt) (0 : Int) ?xl3 ?xh4 (de_var B (i := 0) rfl rfl (.inr (.inl rfl))) (de_var B (i := 6) rfl rfl (.inl rfl))) (de_ixM (R := rInt) (0 : Int) ?xl5 ?xh6 (de_var B (i := 1) rfl rfl (.inr (.inl rfl))) (de_var B (i := 2) rfl rfl (.inr (.inl rfl))))) (de_mulG ?m12 (de_ixM (R := rInt) (0 : Int) ?xl8 ?xh9 (de_var B (i := 1) rfl rfl (.inr (.inl rfl))) (de_var B (i := 6) rfl rfl (.inl rfl))) (de_ixM (R := rInt) (0 : Int) ?xl10 ?xh11 (de_var B (i := 0) rfl rfl (.inr (.inl rfl))) (de_var B (i := 2) rfl rfl (.inr (.inl rfl))))))) (hl := ?cl14) (iy := 3) (hNy := rfl) (hyl := rfl) (h := ?go_2) (hsw := fun env h => by cases env; subst h; with_unfolding_all rfl)
  (case r1 => first | omega | decide)
  (case r2 => first | omega | decide)
  (case xl3 => omega)
  (case xh4 => omega)
  (case xl5 => omega)
  (case xh6 => omega)
  (case m7 => first | exact low_m (Nat.lt_trans (hr.2 _) (by decide)) (Nat.lt_trans (hd.2 _) (by decide)) | exact low_m (Nat.lt_trans (hd.2 _) (by decide)) (Nat.lt_trans (hr.2 _) (by decide)))
  (case xl8 => omega)
  (case xh9 => omega)
  (case xl10 => omega)
  (case xh11 => omega)
  (case m12 => first | exact low_m (Nat.lt_trans (hr.2 _) (by decide)) (Nat.lt_trans (hd.2 _) (by decide)) | exact low_m (Nat.lt_trans (hd.2 _) (by decide)) (Nat.lt_trans (hr.2 _) (by decide)))
  (case sz13 => first | (rw [lmade_len]; exact Nat.lt_of_le_of_lt (show _ ≤ 40 by omega) (by decide)) | exact Nat.lt_of_le_of_lt (show _ ≤ 40 by omega) (by decide))
  (case cl14 => first | exact lmade_lc | exact lc_mapI (g := fun x => x.fdiv (gl (lmade row lead c) : Nat)))
  refine @go_nf _ _ _ _ _ _ [_, _, _, _, _, _, _] rfl ?go_3
  refine go_froz 3 rfl ?go_4
  refine @go_nf _ _ _ _ _ _ [_, _, _, _, _, _, _] rfl ?go_5
  refine go_set B (i := 4) de_int rfl (.inr ⟨rfl, Bf _⟩) ?go_6
  refine @go_nf _ _ _ _ _ _ [_, _, _, _, _, _, _] rfl ?go_7
  refine go_forS B (fun i => [(4, .im (rInt ((gl ((lmade row lead c).take i) : Nat) : Int))), (5, .any)]) (fun i => True) (sr_listM (R := rInt) (0 : Int) (de_var B (i := 3) rfl rfl (.inl rfl))) _ (fun i hi => (dg_name B (i := 5) rfl (.inl rfl))) ?h0_8 ?j0_9 (fun F1 u i hi hj => ?gb_10) (fun hj => ?ge_11)
  (case h0_8 => refine .same ?_; refine .same ?_; refine .same ?_; refine .same ?_; refine .im ?h ?_; (case h => exact Sub.rfl); refine .any ?_; refine .same ?_; exact .nil)
  (case j0_9 => trivial)
  case gb_10 =>
    refine @go_nf _ _ _ _ _ _ [_, _, _, _, _, _, _] rfl ?go_12
    refine go_set B (i := 4) (CA.val (ca_call B (ok__law_gcd T) (by decide) (_, _) ?c_law_gcd_15 (da_cons (de_var B (i := 4) rfl rfl (.inr (.inl rfl))) (da_cons (de_var B (i := 5) rfl rfl (.inl rfl)) da_nil)) rfl)) rfl (.inr ⟨rfl, Bf _⟩) ?go_13
    (case c_law_gcd_15 => exact ⟨Nat.lt_trans (gl_lgT (m := 989) (fun j => lmade_lg5 hr hd) (by decide)) (by decide), Nat.lt_trans (lmade_lg5 hr hd) (by decide)⟩)
    refine @go_nf _ _ _ _ _ _ [_, _, _, _, _, _, _] rfl ?go_14
    refine go_turnS ?jn_15 ?ln_16
    (case jn_15 => trivial)
    (case ln_16 => refine .same ?_; refine .same ?_; refine .same ?_; refine .same ?_; refine .im ?h ?_; (case h => exact Sub.of (by rw [gl_step hi])); refine .any ?_; refine .same ?_; exact .nil)
  case ge_11 =>
    refine @go_nf _ _ _ _ _ _ [_, _, _, _, _, _, _] rfl ?go_17
    rw [List.take_length]
    refine go_if (dt_eqI (de_var B (i := 4) rfl rfl (.inr (.inl rfl))) de_int) (fun hc => ?gt_18) (fun hc => ?gf_19)
    case gt_18 =>
      have h0 := hc
      refine go_ret R (de_var B (i := 3) rfl rfl (.inl rfl)) ?rs_20
      (case rs_20 => exact Sub.of (congrArg (fun l => rLst X.K (List.map rInt l)) (lcl_t h0)))
    case gf_19 =>
      have h0 := hc
      have h1 := of_decide_eq_false hc
      refine go_then ?go_21
      refine go_ret R (DL.froz (DL.to (l' := List.map rInt ((lmade row lead c).map (fun x => x.fdiv (gl (lmade row lead c) : Nat)))) (dl_lc B [("_law_number", 5)] (sr_listM (R := rInt) (0 : Int) (de_var B (i := 3) rfl rfl (.inl rfl))) (blkOk_by (by decide +kernel)) _ (fun _ => true) (fun i : Nat => rInt (((lmade row lead c).getD i 0).fdiv (gl (lmade row lead c) : Nat))) ?sz18 (by decide) (fun _ _ _ _ _ B i hi => (dg_name B (i := 5) rfl (.inl rfl))) (fun _ _ _ _ _ B i hi => dts_nil) (fun _ _ _ _ _ B i hi hb => (de_divG ?z16 ?d17 (de_var B (i := 5) rfl rfl (.inl rfl)) (de_var B (i := 4) rfl rfl (.inr (.inl rfl)))))) ?cl19)) ?rs_22
      (case z16 => exact h1)
      (case d17 => have := gl_lgT (l := lmade row lead c) (i := (lmade row lead c).length) (m := 989) (fun j => lmade_lg5 hr hd) (by decide); rw [List.take_length] at this; exact Nat.lt_trans this (by decide))
      (case sz18 => first | (rw [lmade_len]; exact Nat.lt_of_le_of_lt (show _ ≤ 40 by omega) (by decide)) | exact Nat.lt_of_le_of_lt (show _ ≤ 40 by omega) (by decide))
      (case cl19 => first | exact lmade_lc | exact lc_mapI (g := fun x => x.fdiv (gl (lmade row lead c) : Nat)))
      (case rs_22 => exact Sub.of (congrArg (fun l => rLst X.K (List.map rInt l)) (lcl_f h0)))
theorem sc__law_plus : FnScope ["_law_x", "_law_y", "_law_top_here"] ["_law_x", "_law_y"] (defScope s__law_plus) := ⟨rfl, rfl, rfl, by decide +kernel, rfl, by decide +kernel, by decide +kernel⟩
def sp__law_plus (K : PySem.W.Frag) (cs : Cs) : Sp := Pm (ι := Rat × Rat) (fun ⟨q, r⟩ => Sz 400 q ∧ Sz 400 r) (fun ⟨q, r⟩ => [rNum K q, rNum K r]) (fun ⟨q, r⟩ => .val (rNum K (q + r)))
theorem ok__law_plus (T : Txt K mg cs) : Cal P w K mg base 3 "_law_plus" (sp__law_plus K cs) := by
  refine cal_ok T.d__law_plus sc__law_plus (fun g => rfl) (fun _ _ _ _ _ _ us hl => match us, hl with | [_, _], _ => rfl) ?_
  rintro X rfl rfl rfl rfl rfl B Bf ⟨q, r⟩ F0 H0 D hp R hnx
  refine go_set B (i := 2) (de_add (de_mulG ?m1 (CA.val (ca_call B (ok__law_top T) (by decide) _ trivial (da_cons (de_var B (i := 0) rfl rfl (.inl rfl)) da_nil) rfl)) (CA.val (ca_call B (ok__law_bottom T) (by decide) _ trivial (da_cons (de_var B (i := 1) rfl rfl (.inl rfl)) da_nil) rfl))) (de_mulG ?m2 (CA.val (ca_call B (ok__law_top T) (by decide) _ trivial (da_cons (de_var B (i := 1) rfl rfl (.inl rfl)) da_nil) rfl)) (CA.val (ca_call B (ok__law_bottom T) (by decide) _ trivial (da_cons (de_var B (i := 0) rfl rfl (.inl rfl)) da_nil) rfl)))) rfl (.inl rfl) ?go_1
  (case m1 => grind [Sz])
  (case m2 => grind [Sz])
  refine go_ret R (CA.val (ca_call B (ok__law_make T) (by decide) (_, _) ?c_law_make_4 (da_cons (de_var B (i := 2) rfl rfl (.inl rfl)) (da_cons (de_mulG ?m3 (CA.val (ca_call B (ok__law_bottom T) (by decide) _ trivial (da_cons (de_var B (i := 0) rfl rfl (.inl rfl)) da_nil) rfl)) (CA.val (ca_call B (ok__law_bottom T) (by decide) _ trivial (da_cons (de_var B (i := 1) rfl rfl (.inl rfl)) da_nil) rfl))) da_nil)) rfl)) ?rs_2
  (case m3 => grind [Sz])
  (case c_law_make_4 => exact lp_ok hp.1 hp.2)
  (case rs_2 => exact Sub.of (by rw [r_plus]))
theorem sc__law_times : FnScope ["_law_x", "_law_y"] ["_law_x", "_law_y"] (defScope s__law_times) := ⟨rfl, rfl, rfl, by decide +kernel, rfl, by decide +kernel, by decide +kernel⟩
def sp__law_times (K : PySem.W.Frag) (cs : Cs) : Sp := Pm (ι := Rat × Rat) (fun ⟨q, r⟩ => Lg q.num + Lg r.num < 980 ∧ Lg (q.den : Int) + Lg (r.den : Int) < 980) (fun ⟨q, r⟩ => [rNum K q, rNum K r]) (fun ⟨q, r⟩ => .val (rNum K (q * r)))
theorem ok__law_times (T : Txt K mg cs) : Cal P w K mg base 3 "_law_times" (sp__law_times K cs) := by
  refine cal_ok T.d__law_times sc__law_times (fun g => rfl) (fun _ _ _ _ _ _ us hl => match us, hl with | [_, _], _ => rfl) ?_
  rintro X rfl rfl rfl rfl rfl B Bf ⟨q, r⟩ F0 H0 D hp R hnx
  refine go_ret R (CA.val (ca_call B (ok__law_make T) (by decide) (_, _) ?c_law_make_3 (da_cons (de_mulG ?m1 (CA.val (ca_call B (ok__law_top T) (by decide) _ trivial (da_cons (de_var B (i := 0) rfl rfl (.inl rfl)) da_nil) rfl)) (CA.val (ca_call B (ok__law_top T) (by decide) _ trivial (da_cons (de_var B (i := 1) rfl rfl (.inl rfl)) da_nil) rfl))) (da_cons (de_mulG ?m2 (CA.val (ca_call B (ok__law_bottom T) (by decide) _ trivial (da_cons (de_var B (i := 0) rfl rfl (.inl rfl)) da_nil) rfl)) (CA.val (ca_call B (ok__law_bottom T) (by decide) _ trivial (da_cons (de_var B (i := 1) rfl rfl (.inl rfl)) da_nil) rfl))) da_nil)) rfl)) ?rs_1
  (case m1 => grind [Sz])
  (case m2 => grind [Sz])
  (case c_law_make_3 => exact lt_ok hp.1 hp.2)
  (case rs_1 => exact Sub.of (by rw [r_times]))
theorem sc__law_rank : FnScope ["_law_size", "_law_rows_here", "_law_rest", "_law_count", "_law_cell_here", "_law_lead", "_law_others", "_law_row"] ["_law_size", "_law_rows_here"] (defScope s__law_rank) := ⟨rfl, rfl, rfl, by decide +kernel, rfl, by decide +kernel, by decide +kernel⟩
def sp__law_rank (K : PySem.W.Frag) (cs : Cs) : Sp := Pm (ι := List (List Int) × Nat) (fun ⟨rows, n⟩ => R8 n rows) (fun ⟨rows, n⟩ => [rInt (n : Int), rSeq K (rows.map (rRowS K))]) (fun ⟨rows, n⟩ => .val (rInt (((gre (Sp (rows.map vi)) [] (List.range n)).length : Nat) : Int)))
theorem ok__law_rank (T : Txt K mg cs) : Cal P w K mg base 3 "_law_rank" (sp__law_rank K cs) := by
  refine cal_ok T.d__law_rank sc__law_rank (fun g => rfl) (fun _ _ _ _ _ _ us hl => match us, hl with | [_, _], _ => rfl) ?_
  rintro X rfl rfl rfl rfl rfl B Bf ⟨rows, n⟩ F0 H0 D hp R hnx
  have hn := hp.n6
  have hm := hp.m
  refine @go_nf _ _ _ _ _ _ [_, _, _, _, _, _, _, _] rfl ?go_1
  refine go_setLc (l' := List.map (fun l => rLst X.K (List.map rInt l)) (rows)) B [("_law_row", 7)] (sr_seqM (R := (fun l => rSeq X.K (List.map rInt l))) [] (de_var B (i := 1) rfl rfl (.inl rfl))) (blkOk_by (by decide +kernel)) _ (fun _ => true) (fun i : Nat => rLst X.K ((rows.getD i []).map rInt)) ?sz1 (by decide) (fun _ _ _ _ _ B i hi => (dg_name B (i := 7) rfl (.inl rfl))) (fun _ _ _ _ _ B i hi => dts_nil) (fun _ _ _ _ _ B i hi hb => (DL.froz (dl_listA B T.b_list (de_var B (i := 7) rfl rfl (.inl rfl)) rfl))) (hl := ?cl2) (iy := 2) (hNy := rfl) (hyl := rfl) (h := ?go_2) (hsw := fun env h => by cases env; subst h; with_unfolding_all rfl)
  (case sz1 => first | exact Nat.lt_of_le_of_lt hm (by decide) | (have := spl_all (R := (lk rows i).2) (c := i); have := (spl_sub (R := (lk rows i).2) (c := i) (Nat.le_refl _)).2.1; rw [spl_all] at this; exact Nat.lt_of_le_of_lt (show _ ≤ 16 by omega) (by decide)))
  (case cl2 => first | exact (lc_map (f := fun r : List Int => rLst X.K (r.map rInt))) | exact lc_mapL (g := fun row => lcl row ((spl (lk rows i).2 i).1.getD []) i))
  refine @go_nf _ _ _ _ _ _ [_, _, _, _, _, _, _, _] rfl ?go_3
  refine go_froz 2 rfl ?go_4
  refine @go_nf _ _ _ _ _ _ [_, _, _, _, _, _, _, _] rfl ?go_5
  refine go_set B (i := 3) de_int rfl (.inl rfl) ?go_6
  refine @go_nf _ _ _ _ _ _ [_, _, _, _, _, _, _, _] rfl ?go_7
  refine go_forS B (fun i => [(2, .im (rLst X.K (((lk rows i).2).map fun l => rLst X.K (l.map rInt)))), (3, .im (rInt (((lk rows i).1 : Nat) : Int))), (4, .any), (5, .any), (6, .any), (7, .any)]) (fun i => True) (sr_range1 B T.b_range (de_var B (i := 0) rfl rfl (.inl rfl)) rfl ?r3 ?r4) _ (fun i hi => (dg_name B (i := 4) rfl (.inr ⟨rfl, Bf _⟩))) ?h0_8 ?j0_9 (fun F1 u i hi hj => ?gb_10) (fun hj => ?ge_11)
  (case r3 => first | omega | decide)
  (case r4 => first | omega | decide)
  (case h0_8 => refine .same ?_; refine .same ?_; refine .im ?h ?_; (case h => exact Sub.rfl); refine .im ?h ?_; (case h => exact Sub.rfl); refine .any ?_; refine .any ?_; refine .any ?_; refine .any ?_; exact .nil)
  (case j0_9 => trivial)
  case gb_10 =>
    refine @go_nf _ _ _ _ _ _ [_, _, _, _, _, _, _, _] rfl ?go_12
    obtain ⟨hk1, hk2, hk3⟩ := lk8 hp (Nat.le_of_lt (show i < n by omega))
    refine go_set B (i := 5) (de_oN (R := (fun l => rLst X.K (List.map rInt l))) de_non) rfl (.inr ⟨rfl, Bf _⟩) ?go_13
    refine @go_nf _ _ _ _ _ _ [_, _, _, _, _, _, _, _] rfl ?go_14
    refine go_setL B (i := 6) (dl_lst da_nil (show (0 : Nat) ≤ sizeLine by decide)) rfl (.inl rfl) ?go_15
    refine @go_nf _ _ _ _ _ _ [_, _, _, _, _, _, _, _] rfl ?go_16
    refine go_forS B (fun i2 => [(5, .im (rOp (fun l => rLst X.K (List.map rInt l)) (spl ((lk rows i).2.take i2) i).1)), (6, .ow ((spl ((lk rows i).2.take i2) i).2.map fun l => rLst X.K (l.map rInt))), (7, .any)]) (fun i2 => True) (sr_listM (R := (fun l => rLst X.K (List.map rInt l))) [] (de_var B (i := 2) rfl rfl (.inl rfl))) _ (fun i2 hi2 => (dg_name B (i := 7) rfl (.inl rfl))) ?h0_17 ?j0_18 (fun F12 u2 i2 hi2 hj2 => ?gb_19) (fun hj2 => ?ge_20)
    (case h0_17 => refine .same ?_; refine .same ?_; refine .same ?_; refine .same ?_; refine .same ?_; refine .im ?h ?_; (case h => exact Sub.rfl); refine .ow ?h ?_; (case h => rfl); refine .any ?_; exact .nil)
    (case j0_18 => trivial)
    case gb_19 =>
      refine @go_nf _ _ _ _ _ _ [_, _, _, _, _, _, _, _] rfl ?go_21
      refine go_if (DW.t (dw_and (dt_oIs (R := (fun l => rLst X.K (List.map rInt l))) (fun _ => notNon_lst) (de_var B (i := 5) rfl rfl (.inr (.inl rfl)))) (fun hb1 => (dw_and1 (dt_neI (de_ixM (R := rInt) (0 : Int) ?xl5 ?xh6 (de_var B (i := 7) rfl rfl (.inl rfl)) (de_var B (i := 4) rfl rfl (.inr (.inl rfl)))) de_int))))) (fun hc => ?gt_22) (fun hc => ?gf_23)
      (case xl5 => omega)
      (case xh6 => (rw [(hk1 _ (getD_memL hi2)).1]; omega))
      case gt_22 =>
        skip
        refine go_set B (i := 5) (de_oS (R := (fun l => rLst X.K (List.map rInt l))) (de_var B (i := 7) rfl rfl (.inl rfl))) rfl (.inr ⟨rfl, Bf _⟩) ?go_24
        refine @go_nf _ _ _ _ _ _ [_, _, _, _, _, _, _, _] rfl ?go_25
        refine go_then ?go_26
        refine go_turnS ?jn_27 ?ln_28
        (case jn_27 => trivial)
        (case ln_28 => refine .same ?_; refine .same ?_; refine .same ?_; refine .same ?_; refine .same ?_; refine .im ?h ?_; (case h => first | exact Sub.of (by rw [spl_t hi2 hc]) | exact Sub.of (by rw [spl_f hi2 hc])); refine .ow ?h ?_; (case h => first | rw [spl_t hi2 hc] | (rw [spl_f hi2 hc, List.map_append]; rfl)); refine .any ?_; exact .nil)
      case gf_23 =>
        skip
        refine go_append B (i := 6) rfl (de_var B (i := 7) rfl rfl (.inl rfl)) ?s7 rfl (.inl rfl) ?go_29
        (case s7 => rw [List.length_map]; have := (spl_sub (c := i) (Nat.le_of_lt hi2)).2.1; exact Nat.lt_of_le_of_lt (show _ ≤ 16 by omega) (by decide))
        refine @go_nf _ _ _ _ _ _ [_, _, _, _, _, _, _, _] rfl ?go_30
        refine go_then ?go_31
        refine go_turnS ?jn_32 ?ln_33
        (case jn_32 => trivial)
        (case ln_33 => refine .same ?_; refine .same ?_; refine .same ?_; refine .same ?_; refine .same ?_; refine .im ?h ?_; (case h => first | exact Sub.of (by rw [spl_t hi2 hc]) | exact Sub.of (by rw [spl_f hi2 hc])); refine .ow ?h ?_; (case h => first | rw [spl_t hi2 hc] | (rw [spl_f hi2 hc, List.map_append]; rfl)); refine .any ?_; exact .nil)
    case ge_20 =>
      refine @go_nf _ _ _ _ _ _ [_, _, _, _, _, _, _, _] rfl ?go_34
      rw [spl_all]
      refine go_if (dt_oNot (R := (fun l => rLst X.K (List.map rInt l))) (fun _ => notNon_lst) (de_var B (i := 5) rfl rfl (.inr (.inl rfl)))) (fun hc => ?gt_35) (fun hc => ?gf_36)
      case gt_35 =>
        skip
        refine go_set B (i := 3) (de_add (de_var B (i := 3) rfl rfl (.inl rfl)) de_int) rfl (.inl rfl) ?go_37
        refine @go_nf _ _ _ _ _ _ [_, _, _, _, _, _, _, _] rfl ?go_38
        refine go_frozH 6 rfl ?go_39
        refine @go_nf _ _ _ _ _ _ [_, _, _, _, _, _, _, _] rfl ?go_40
        refine go_setLc (l' := List.map (fun l => rLst X.K (List.map rInt l)) (((spl (lk rows i).2 i).2).map fun row => lcl row ((spl (lk rows i).2 i).1.getD []) i)) B [("_law_row", 7)] (sr_listM (R := (fun l => rLst X.K (List.map rInt l))) [] (de_h2l (de_var B (i := 6) rfl rfl (.inl rfl)))) (blkOk_by (by decide +kernel)) _ (fun _ => true) (fun i2 : Nat => rLst X.K ((lcl ((spl (lk rows i).2 i).2.getD i2 []) ((spl (lk rows i).2 i).1.getD []) i).map rInt)) ?sz10 (by decide) (fun _ _ _ _ _ B i2 hi => (dg_name B (i := 7) rfl (.inl rfl))) (fun _ _ _ _ _ B i2 hi => dts_nil) (fun _ _ _ _ _ B i2 hi hb => (CA.val (ca_call B (ok__law_cleared T) (by decide) (_, _, n, _) ?c_law_cleared_9 (da_cons (de_var B (i := 7) rfl rfl (.inl rfl)) (da_cons (de_oU (R := (fun l => rLst X.K (List.map rInt l))) [] ?oo8 (de_var B (i := 5) rfl rfl (.inr (.inl rfl)))) (da_cons (de_var B (i := 4) rfl rfl (.inr (.inl rfl))) da_nil))) rfl))) (hl := ?cl11) (iy := 2) (hNy := rfl) (hyl := rfl) (h := ?go_41) (hsw := fun env h => by cases env; subst h; with_unfolding_all rfl)
        (case oo8 => exact nn_t hc)
        (case c_law_cleared_9 => exact ⟨rk_cl5 hk1 hi hc, by omega, by omega⟩)
        (case sz10 => first | exact Nat.lt_of_le_of_lt hm (by decide) | (have := spl_all (R := (lk rows i).2) (c := i); have := (spl_sub (R := (lk rows i).2) (c := i) (Nat.le_refl _)).2.1; rw [spl_all] at this; exact Nat.lt_of_le_of_lt (show _ ≤ 16 by omega) (by decide)))
        (case cl11 => first | exact (lc_map (f := fun r : List Int => rLst X.K (r.map rInt))) | exact lc_mapL (g := fun row => lcl row ((spl (lk rows i).2 i).1.getD []) i))
        refine @go_nf _ _ _ _ _ _ [_, _, _, _, _, _, _, _] rfl ?go_42
        refine go_froz 2 rfl ?go_43
        refine @go_nf _ _ _ _ _ _ [_, _, _, _, _, _, _, _] rfl ?go_44
        refine go_then ?go_45
        refine go_turnS ?jn_46 ?ln_47
        (case jn_46 => trivial)
        (case ln_47 => refine .same ?_; refine .same ?_; refine .im ?h ?_; (case h => first | exact Sub.of (by rw [lk_t (isNone_f (d := []) (nn_t hc))]) | exact Sub.of (by rw [lk_f (isNone_t (nn_f hc))])); refine .im ?h ?_; (case h => first | exact Sub.of (by rw [lk_t (isNone_f (d := []) (nn_t hc))]; rfl) | exact Sub.of (by rw [lk_f (isNone_t (nn_f hc))])); refine .any ?_; refine .any ?_; refine .any ?_; refine .any ?_; exact .nil)
      case gf_36 =>
        skip
        refine go_then ?go_48
        refine go_turnS ?jn_49 ?ln_50
        (case jn_49 => trivial)
        (case ln_50 => refine .same ?_; refine .same ?_; refine .im ?h ?_; (case h => first | exact Sub.of (by rw [lk_t (isNone_f (d := []) (nn_t hc))]) | exact Sub.of (by rw [lk_f (isNone_t (nn_f hc))])); refine .im ?h ?_; (case h => first | exact Sub.of (by rw [lk_t (isNone_f (d := []) (nn_t hc))]; rfl) | exact Sub.of (by rw [lk_f (isNone_t (nn_f hc))])); refine .any ?_; refine .any ?_; refine .any ?_; refine .any ?_; exact .nil)
  case ge_11 =>
    refine @go_nf _ _ _ _ _ _ [_, _, _, _, _, _, _, _] rfl ?go_51
    refine go_ret R (de_var B (i := 3) rfl rfl (.inl rfl)) ?rs_52
    (case rs_52 => exact Sub.of (congrArg (fun k : Nat => rInt (k : Int)) (by rw [Int.toNat_natCast]; exact lk_all hp.len)))
theorem sc__law_dot : FnScope ["_law_one", "_law_other_here", "_law_total", "_law_k"] ["_law_one", "_law_other_here"] (defScope s__law_dot) := ⟨rfl, rfl, rfl, by decide +kernel, rfl, by decide +kernel, by decide +kernel⟩
def sp__law_dot (K : PySem.W.Frag) (cs : Cs) : Sp := Pm (ι := List Rat × List Rat) (fun ⟨xs, ys⟩ => xs.length = ys.length ∧ xs.length ≤ 1000 ∧ ∀ i, i < min xs.length ys.length → Sz 150 (xs.getD i 0) ∧ Sz 150 (ys.getD i 0) ∧ Sz 400 (dotN xs ys i)) (fun ⟨xs, ys⟩ => [rSeq K (xs.map (rNum K)), rSeq K (ys.map (rNum K))]) (fun ⟨xs, ys⟩ => .val (rNum K (dotq xs ys)))
theorem ok__law_dot (T : Txt K mg cs) : Cal P w K mg base 4 "_law_dot" (sp__law_dot K cs) := by
  refine cal_ok T.d__law_dot sc__law_dot (fun g => rfl) (fun _ _ _ _ _ _ us hl => match us, hl with | [_, _], _ => rfl) ?_
  rintro X rfl rfl rfl rfl rfl B Bf ⟨xs, ys⟩ F0 H0 D hp R hnx
  obtain ⟨hl, hl2, hp⟩ := hp
  have hmin : min xs.length ys.length = xs.length := by omega
  rw [hmin] at hp
  refine go_set B (i := 2) (de_i2n de_int) rfl (.inl rfl) ?go_1
  refine go_forS B (fun i => [(2, .im (rNum X.K (dotN xs ys i))), (3, .any)]) (fun i => True) (sr_range1 B T.b_range (de_lenAM B T.b_len (de_var B (i := 0) rfl rfl (.inl rfl)) rfl) rfl ?r1 ?r2) _ (fun i hi => (dg_name B (i := 3) rfl (.inl rfl))) ?h0_2 ?j0_3 (fun F1 u i hi hj => ?gb_4) (fun hj => ?ge_5)
  (case r1 => first | exact Int.lt_of_le_of_lt (Int.ofNat_le.mpr hl2) (by decide) | omega)
  (case r2 => first | exact Int.lt_of_le_of_lt (Int.ofNat_le.mpr hl2) (by decide) | omega)
  (case h0_2 => refine .same ?_; refine .same ?_; refine .im ?h ?_; (case h => exact Sub.rfl); refine .any ?_; exact .nil)
  (case j0_3 => trivial)
  case gb_4 =>
    refine go_set B (i := 2) (CA.val (ca_call B (ok__law_plus T) (by decide) (_, _) ?c_law_plus_8 (da_cons (de_var B (i := 2) rfl rfl (.inl rfl)) (da_cons (CA.val (ca_call B (ok__law_times T) (by decide) (_, _) ?c_law_times_7 (da_cons (de_ixAM (R := (rNum X.K)) (0 : Rat) ?xl3 ?xh4 (de_var B (i := 0) rfl rfl (.inl rfl)) (de_var B (i := 3) rfl rfl (.inl rfl))) (da_cons (de_ixAM (R := (rNum X.K)) (0 : Rat) ?xl5 ?xh6 (de_var B (i := 1) rfl rfl (.inl rfl)) (de_var B (i := 3) rfl rfl (.inl rfl))) da_nil)) rfl)) da_nil)) rfl)) rfl (.inl rfl) ?go_6
    (case xl3 => omega)
    (case xh4 => omega)
    (case xl5 => omega)
    (case xh6 => omega)
    (case c_law_times_7 => exact lt_s2 (hp _ hi).1 (hp _ hi).2.1)
    (case c_law_plus_8 => exact ⟨(hp _ hi).2.2, (sz_mul (hp _ hi).1 (hp _ hi).2.1).mono (by decide)⟩)
    refine go_turnS ?jn_7 ?ln_8
    (case jn_7 => trivial)
    (case ln_8 => refine .same ?_; refine .same ?_; refine .im ?h ?_; (case h => exact Sub.rfl); refine .any ?_; exact .nil)
  case ge_5 =>
    refine go_ret R (de_var B (i := 2) rfl rfl (.inl rfl)) ?rs_9
    (case rs_9 => exact Sub.of (by rw [dotq, hmin]; simp))
end K01

set_option Elab.async false
set_option linter.all false
set_option maxRecDepth 100000
set_option maxHeartbeats 4000000
namespace K01
open PySem PySem.Spec PyProof.Rows L2 DL
variable {P : Program} {w : World} {K : PySem.W.Frag} {mg : Str → Option Value} {base : Heap} {cs : Cs}
theorem sc__law_rows : FnScope ["_law_numbers_here", "_law_size", "_law_many", "_law_rows_here", "_law_reach", "_law_k", "_law_row", "_law_j", "_law_number"] ["_law_numbers_here", "_law_size", "_law_many"] (defScope s__law_rows) := ⟨rfl, rfl, rfl, by decide +kernel, rfl, by decide +kernel, by decide +kernel⟩
def sp__law_rows (K : PySem.W.Frag) (cs : Cs) : Sp := Pm (ι := Nat × Nat × List Int) (fun ⟨n, many, ds⟩ => n ≤ 16 ∧ many ≤ 8 ∧ many * n ≤ 58 ∧ ds.length = 60) (fun ⟨n, many, ds⟩ => [rLst K (ds.map rInt), rInt (n : Int), rInt (many : Int)]) (fun ⟨n, many, ds⟩ => .lst ((yL n ds many).map fun l => rLst K (l.map rInt)))
theorem ok__law_rows (T : Txt K mg cs) : Cal P w K mg base 1 "_law_rows" (sp__law_rows K cs) := by
  refine cal_ok T.d__law_rows sc__law_rows (fun g => rfl) (fun _ _ _ _ _ _ us hl => match us, hl with | [_, _, _], _ => rfl) ?_
  rintro X rfl rfl rfl rfl rfl B Bf ⟨n, many, ds⟩ F0 H0 D hp R hnx
  obtain ⟨h1, h2, h3, h4⟩ := hp
  have hb := rchY_b ds
  refine @go_nf _ _ _ _ _ _ [_, _, _, _, _, _, _, _, _] rfl ?go_1
  refine go_setL B (i := 3) (dl_lst da_nil (show (0 : Nat) ≤ sizeLine by decide)) rfl (.inl rfl) ?go_2
  refine @go_nf _ _ _ _ _ _ [_, _, _, _, _, _, _, _, _] rfl ?go_3
  refine go_set B (i := 4) (de_add de_int (de_mulG ?m4 de_int (de_intB B T.b_int (de_eqI (de_mod ?z3 (de_toInt B T.b_int (de_ixM (R := rInt) (0 : Int) ?xl1 ?xh2 (de_var B (i := 0) rfl rfl (.inr (.inl rfl))) de_int) rfl) de_int) de_int) rfl))) rfl (.inr ⟨rfl, Bf _⟩) ?go_4
  (case xl1 => first | decide | omega | exact (yx (by omega) (by omega) h3 h4).1)
  (case xh2 => first | (rw [h4]; decide) | (rw [hyl]; omega) | exact (yx (by omega) (by omega) h3 h4).2)
  (case z3 => first | decide | (show (2 * rchY ds + 1 : Int) ≠ 0; omega))
  (case m4 => first | exact low_m (lg_sm (by omega)) (lg_sm (by omega)) | exact low_m (lg_sm (by decide)) (lg_sm (by split <;> decide)) | exact low_m (lg_sm (by decide)) (Nat.lt_of_lt_of_le (lg_b (yP_b (by omega) h2 _ (getD_memI hi)) (show (1152 : Nat) < 2 ^ 11 by decide) (by decide)) (by decide)))
  refine @go_nf _ _ _ _ _ _ [_, _, _, _, _, _, _, _, _] rfl ?go_5
  refine go_forS B (fun i => [(3, .ow ((yL n ds i).map fun l => rLst X.K (l.map rInt))), (5, .any), (6, .any)]) (fun i => True) (sr_range1 B T.b_range (de_var B (i := 2) rfl rfl (.inl rfl)) rfl ?r5 ?r6) _ (fun i hi => (dg_name B (i := 5) rfl (.inr ⟨rfl, Bf _⟩))) ?h0_6 ?j0_7 (fun F1 u i hi hj => ?gb_8) (fun hj => ?ge_9)
  (case r5 => first | omega | decide)
  (case r6 => first | omega | decide)
  (case h0_6 => refine .same ?_; refine .same ?_; refine .same ?_; refine .ow ?h ?_; (case h => rfl); refine .same ?_; refine .any ?_; refine .any ?_; refine .same ?_; refine .same ?_; exact .nil)
  (case j0_7 => trivial)
  case gb_8 =>
    refine @go_nf _ _ _ _ _ _ [_, _, _, _, _, _, _, _, _] rfl ?go_10
    have hyl := yL_len (n := n) (ds := ds) i
    refine go_setLc (l' := List.map rInt (yB n ds i)) B [("_law_j", 7)] (sr_range1 B T.b_range (de_var B (i := 1) rfl rfl (.inr (.inl rfl))) rfl ?r7 ?r8) (blkOk_by (by decide +kernel)) _ (fun _ => true) (fun i2 : Nat => rInt ((ds.getD (2 + (i : Int) * (n : Int) + (i2 : Int)).toNat 0).fmod (2 * rchY ds + 1) - rchY ds)) ?sz14 (by decide) (fun _ _ _ _ _ B i2 hi => (dg_name B (i := 7) rfl (.inl rfl))) (fun _ _ _ _ _ B i2 hi => dts_nil) (fun _ _ _ _ _ B i2 hi hb => (de_sub (de_mod ?z13 (de_toInt B T.b_int (de_ixM (R := rInt) (0 : Int) ?xl10 ?xh11 (de_var B (i := 0) rfl rfl (.inr (.inl rfl))) (de_add (de_add de_int (de_mulG ?m9 (de_var B (i := 5) rfl rfl (.inr (.inl rfl))) (de_var B (i := 1) rfl rfl (.inr (.inl rfl))))) (de_var B (i := 7) rfl rfl (.inl rfl)))) rfl) (de_add (de_mulG ?m12 de_int (de_var B (i := 4) rfl rfl (.inr (.inl rfl)))) de_int)) (de_var B (i := 4) rfl rfl (.inr (.inl rfl))))) (hl := ?cl15) (iy := 6) (hNy := rfl) (hyl := rfl) (h := ?go_11) (hsw := fun env h => by cases env; subst h; with_unfolding_all rfl)
    (case r7 => first | omega | decide)
    (case r8 => first | omega | decide)
    (case m9 => first | exact low_m (lg_sm (by omega)) (lg_sm (by omega)) | exact low_m (lg_sm (by decide)) (lg_sm (by split <;> decide)) | exact low_m (lg_sm (by decide)) (Nat.lt_of_lt_of_le (lg_b (yP_b (by omega) h2 _ (getD_memI hi)) (show (1152 : Nat) < 2 ^ 11 by decide) (by decide)) (by decide)))
    (case xl10 => first | decide | omega | exact (yx (by omega) (by omega) h3 h4).1)
    (case xh11 => first | (rw [h4]; decide) | (rw [hyl]; omega) | exact (yx (by omega) (by omega) h3 h4).2)
    (case m12 => first | exact low_m (lg_sm (by omega)) (lg_sm (by omega)) | exact low_m (lg_sm (by decide)) (lg_sm (by split <;> decide)) | exact low_m (lg_sm (by decide)) (Nat.lt_of_lt_of_le (lg_b (yP_b (by omega) h2 _ (getD_memI hi)) (show (1152 : Nat) < 2 ^ 11 by decide) (by decide)) (by decide)))
    (case z13 => first | decide | (show (2 * rchY ds + 1 : Int) ≠ 0; omega))
    (case sz14 => first | exact Nat.lt_of_le_of_lt (show _ ≤ 16 by omega) (by decide) | exact Nat.lt_of_le_of_lt (yP_l (n := n) (ds := ds) i h1) (by decide) | exact Nat.lt_of_le_of_lt (yA_l (n := n) (ds := ds) i h1) (by decide))
    (case cl15 => first | exact rg_lc (f := fun j : Nat => (ds.getD (2 + (i : Int) * (n : Int) + (j : Int)).toNat 0).fmod (2 * rchY ds + 1) - rchY ds) (R := rInt) | exact lc_mapI (g := fun x => 2 * x) | exact lc_mapI (g := fun _ => 0))
    refine @go_nf _ _ _ _ _ _ [_, _, _, _, _, _, _, _, _] rfl ?go_12
    refine go_frozH 6 rfl ?go_13
    refine @go_nf _ _ _ _ _ _ [_, _, _, _, _, _, _, _, _] rfl ?go_14
    refine go_ifK [(6, .im (rLh ((yA n ds i (yP n ds i)).map rInt)))] (DW.t (dw_and (dt_gt (de_var B (i := 5) rfl rfl (.inr (.inl rfl))) de_int) (fun hb1 => (dw_and1 (dt_eqI (de_mod ?z18 (de_toInt B T.b_int (de_ixM (R := rInt) (0 : Int) ?xl16 ?xh17 (de_var B (i := 0) rfl rfl (.inr (.inl rfl))) de_int) rfl) de_int) de_int))))) ?gk_15 (fun hk hc => ?gt_16) (fun hk hc => ?gf_17)
    (case xl16 => first | decide | omega | exact (yx (by omega) (by omega) h3 h4).1)
    (case xh17 => first | (rw [h4]; decide) | (rw [hyl]; omega) | exact (yx (by omega) (by omega) h3 h4).2)
    (case z18 => first | decide | (show (2 * rchY ds + 1 : Int) ≠ 0; omega))
    case gt_16 =>
      have h5 := of_decide_eq_true ((Bool.and_eq_true _ _).mp hc).1
      refine go_setLc (l' := List.map rInt ((yP n ds i).map (fun x => 2 * x))) B [("_law_number", 8)] (sr_listM (R := rInt) (0 : Int) (de_ixOM (R := (fun l => rLst X.K (List.map rInt l))) [] B (i := 3) rfl rfl (.inl rfl) ?xl25 ?xh26 (de_sub (de_var B (i := 5) rfl rfl (.inr (.inl rfl))) de_int))) (blkOk_by (by decide +kernel)) _ (fun _ => true) (fun i2 : Nat => rInt (2 * (yP n ds i).getD i2 0)) ?sz28 (by decide) (fun _ _ _ _ _ B i2 hi => (dg_name B (i := 8) rfl (.inl rfl))) (fun _ _ _ _ _ B i2 hi => dts_nil) (fun _ _ _ _ _ B i2 hi hb => (de_mulG ?m27 de_int (de_var B (i := 8) rfl rfl (.inl rfl)))) (hl := ?cl29) (iy := 6) (hNy := rfl) (hyl := rfl) (h := ?go_18) (hsw := fun env h => by cases env; subst h; with_unfolding_all rfl)
      (case xl25 => first | decide | omega | exact (yx (by omega) (by omega) h3 h4).1)
      (case xh26 => first | (rw [h4]; decide) | (rw [hyl]; omega) | exact (yx (by omega) (by omega) h3 h4).2)
      (case m27 => first | exact low_m (lg_sm (by omega)) (lg_sm (by omega)) | exact low_m (lg_sm (by decide)) (lg_sm (by split <;> decide)) | exact low_m (lg_sm (by decide)) (Nat.lt_of_lt_of_le (lg_b (yP_b (by omega) h2 _ (getD_memI hi)) (show (1152 : Nat) < 2 ^ 11 by decide) (by decide)) (by decide)))
      (case sz28 => first | exact Nat.lt_of_le_of_lt (show _ ≤ 16 by omega) (by decide) | exact Nat.lt_of_le_of_lt (yP_l (n := n) (ds := ds) i h1) (by decide) | exact Nat.lt_of_le_of_lt (yA_l (n := n) (ds := ds) i h1) (by decide))
      (case cl29 => first | exact rg_lc (f := fun j : Nat => (ds.getD (2 + (i : Int) * (n : Int) + (j : Int)).toNat 0).fmod (2 * rchY ds + 1) - rchY ds) (R := rInt) | exact lc_mapI (g := fun x => 2 * x) | exact lc_mapI (g := fun _ => 0))
      refine @go_nf _ _ _ _ _ _ [_, _, _, _, _, _, _, _, _] rfl ?go_19
      refine go_frozH 6 rfl ?go_20
      refine @go_nf _ _ _ _ _ _ [_, _, _, _, _, _, _, _, _] rfl ?go_21
      refine go_join hk ?jl_22
      (case jl_22 => refine .same ?_; refine .same ?_; refine .same ?_; refine .same ?_; refine .same ?_; refine .same ?_; refine .im ?h ?_; (case h => exact Sub.of (congrArg (fun l => rLh (List.map rInt l)) (yA_t hc))); refine .same ?_; refine .same ?_; exact .nil)
    case gf_17 =>
      skip
      refine go_join hk ?jl_23
      (case jl_23 => refine .same ?_; refine .same ?_; refine .same ?_; refine .same ?_; refine .same ?_; refine .same ?_; refine .im ?h ?_; (case h => exact Sub.of (congrArg (fun l => rLh (List.map rInt l)) (yA_f hc))); refine .same ?_; refine .same ?_; exact .nil)
    case gk_15 =>
      refine @go_nf _ _ _ _ _ _ [_, _, _, _, _, _, _, _, _] rfl ?go_24
      refine go_ifK [(6, .im (rLh ((yC n ds i (yP n ds i)).map rInt)))] (DW.t (dw_and (dt_gt (de_var B (i := 5) rfl rfl (.inr (.inl rfl))) de_int) (fun hb1 => (dw_and1 (dt_eqI (de_mod ?z21 (de_toInt B T.b_int (de_ixM (R := rInt) (0 : Int) ?xl19 ?xh20 (de_var B (i := 0) rfl rfl (.inr (.inl rfl))) de_int) rfl) de_int) de_int))))) ?gk_25 (fun hk hc => ?gt_26) (fun hk hc => ?gf_27)
      (case xl19 => first | decide | omega | exact (yx (by omega) (by omega) h3 h4).1)
      (case xh20 => first | (rw [h4]; decide) | (rw [hyl]; omega) | exact (yx (by omega) (by omega) h3 h4).2)
      (case z21 => first | decide | (show (2 * rchY ds + 1 : Int) ≠ 0; omega))
      case gt_26 =>
        skip
        refine go_setLc (l' := List.map rInt ((yA n ds i (yP n ds i)).map (fun _ => 0))) B [("_law_number", 8)] (sr_listM (R := rInt) (0 : Int) (de_h2l (de_var B (i := 6) rfl rfl (.inl rfl)))) (blkOk_by (by decide +kernel)) _ (fun _ => true) (fun _ : Nat => rInt 0) ?sz23 (by decide) (fun _ _ _ _ _ B i2 hi => (dg_name B (i := 8) rfl (.inl rfl))) (fun _ _ _ _ _ B i2 hi => dts_nil) (fun _ _ _ _ _ B i2 hi hb => de_int) (hl := ?cl24) (iy := 6) (hNy := rfl) (hyl := rfl) (h := ?go_28) (hsw := fun env h => by cases env; subst h; with_unfolding_all rfl)
        (case sz23 => first | exact Nat.lt_of_le_of_lt (show _ ≤ 16 by omega) (by decide) | exact Nat.lt_of_le_of_lt (yP_l (n := n) (ds := ds) i h1) (by decide) | exact Nat.lt_of_le_of_lt (yA_l (n := n) (ds := ds) i h1) (by decide))
        (case cl24 => first | exact rg_lc (f := fun j : Nat => (ds.getD (2 + (i : Int) * (n : Int) + (j : Int)).toNat 0).fmod (2 * rchY ds + 1) - rchY ds) (R := rInt) | exact lc_mapI (g := fun x => 2 * x) | exact lc_mapI (g := fun _ => 0))
        refine @go_nf _ _ _ _ _ _ [_, _, _, _, _, _, _, _, _] rfl ?go_29
        refine go_frozH 6 rfl ?go_30
        refine @go_nf _ _ _ _ _ _ [_, _, _, _, _, _, _, _, _] rfl ?go_31
        refine go_join hk ?jl_32
        (case jl_32 => refine .same ?_; refine .same ?_; refine .same ?_; refine .same ?_; refine .same ?_; refine .same ?_; refine .im ?h ?_; (case h => exact Sub.of (congrArg (fun l => rLh (List.map rInt l)) (yC_t hc))); refine .same ?_; refine .same ?_; exact .nil)
      case gf_27 =>
        skip
        refine go_join hk ?jl_33
        (case jl_33 => refine .same ?_; refine .same ?_; refine .same ?_; refine .same ?_; refine .same ?_; refine .same ?_; refine .im ?h ?_; (case h => exact Sub.of (congrArg (fun l => rLh (List.map rInt l)) (yC_f hc))); refine .same ?_; refine .same ?_; exact .nil)
      case gk_25 =>
        refine @go_nf _ _ _ _ _ _ [_, _, _, _, _, _, _, _, _] rfl ?go_34
        refine go_append B (i := 3) rfl (de_h2l (de_var B (i := 6) rfl rfl (.inl rfl))) ?s22 rfl (.inl rfl) ?go_35
        (case s22 => rw [List.length_map, hyl]; exact Nat.lt_of_le_of_lt (show _ ≤ 16 by omega) (by decide))
        refine @go_nf _ _ _ _ _ _ [_, _, _, _, _, _, _, _, _] rfl ?go_36
        refine go_turnS ?jn_37 ?ln_38
        (case jn_37 => trivial)
        (case ln_38 => refine .same ?_; refine .same ?_; refine .same ?_; refine .ow ?h ?_; (case h => rw [← yL_step, List.map_append]; rfl); refine .same ?_; refine .any ?_; refine .any ?_; refine .same ?_; refine .same ?_; exact .nil)
  case ge_9 =>
    refine @go_nf _ _ _ _ _ _ [_, _, _, _, _, _, _, _, _] rfl ?go_39
    refine go_retV B (i := 3) R rfl ?rs_40 rfl (.inl rfl)
    (case rs_40 => rw [Int.toNat_natCast])
end K01

set_option Elab.async false
set_option linter.all false
set_option maxRecDepth 100000
set_option maxHeartbeats 4000000
namespace K01
open PySem PySem.Spec PyProof.Rows L2 DL
variable {P : Program} {w : World} {K : PySem.W.Frag} {mg : Str → Option Value} {base : Heap} {cs : Cs}
theorem sc__law_spanned : FnScope ["_law_frame_here", "_law_heads", "_law_row", "_law_due", "_law_k", "_law_factor", "_law_number", "_law_j"] ["_law_frame_here", "_law_heads", "_law_row"] (defScope s__law_spanned) := ⟨rfl, rfl, rfl, by decide +kernel, rfl, by decide +kernel, by decide +kernel⟩
def sp__law_spanned (K : PySem.W.Frag) (cs : Cs) : Sp := Pm (ι := Bk × List (List Int) × List Int) (fun ⟨b, rows, row⟩ => KOk b rows ∧ row ∈ rows) (fun ⟨b, rows, row⟩ => [rTup K (b.frame.map (rRowT K)), rLst K ((pivL b.frame).map rInt), rLst K (row.map rInt)]) (fun ⟨b, rows, row⟩ => .val (rBl true))
theorem ok__law_spanned (T : Txt K mg cs) : Cal P w K mg base 4 "_law_spanned" (sp__law_spanned K cs) := by
  refine cal_ok T.d__law_spanned sc__law_spanned (fun g => rfl) (fun _ _ _ _ _ _ us hl => match us, hl with | [_, _, _], _ => rfl) ?_
  rintro X rfl rfl rfl rfl rfl B Bf ⟨b, rows, row⟩ F0 H0 D hp R hnx
  obtain ⟨hk, hr⟩ := hp
  have hrl := hk.len _ hr
  have hn2 := hk.n2
  have hpl := pivL_len b.frame
  have hfc := hk.fcount
  refine @go_nf _ _ _ _ _ _ [_, _, _, _, _, _, _, _] rfl ?go_1
  refine go_setL B (i := 3) (DL.to (l' := List.map (rNum X.K) (dueN b.frame row b.size 0)) (dl_lc B [("_law_number", 6)] (sr_listM (R := rInt) (0 : Int) (de_var B (i := 2) rfl rfl (.inl rfl))) (blkOk_by (by decide +kernel)) _ (fun _ => true) (fun _ : Nat => rNum X.K ((0 : Int) : Rat)) ?sz1 (by decide) (fun _ _ _ _ _ B i hi => (dg_name B (i := 6) rfl (.inl rfl))) (fun _ _ _ _ _ B i hi => dts_nil) (fun _ _ _ _ _ B i hi hb => (de_i2n de_int))) ?cl2) rfl (.inr ⟨rfl, Bf _⟩) ?go_2 (hs := by have h := B.hsc; revert h; generalize X.env = env; intro h; cases env; subst h; with_unfolding_all rfl)
  (case sz1 => exact Nat.lt_of_le_of_lt (show _ ≤ 16 by omega) (by decide))
  (case cl2 => first | exact due0_lc hrl | exact dueS_lc hrl)
  refine @go_nf _ _ _ _ _ _ [_, _, _, _, _, _, _, _] rfl ?go_3
  refine go_frozH 3 rfl ?go_4
  refine @go_nf _ _ _ _ _ _ [_, _, _, _, _, _, _, _] rfl ?go_5
  refine go_forS B (fun i => [(3, .im (rLh ((dueN b.frame row b.size i).map (rNum X.K)))), (4, .any), (5, .any)]) (fun i => True) (sr_range1 B T.b_range (de_lenM B T.b_len (de_var B (i := 1) rfl rfl (.inl rfl)) rfl) rfl ?r3 ?r4) _ (fun i hi => (dg_name B (i := 4) rfl (.inr ⟨rfl, Bf _⟩))) ?h0_6 ?j0_7 (fun F1 u i hi hj => ?gb_8) (fun hj => ?ge_9)
  (case r3 => first | omega | decide)
  (case r4 => first | omega | decide)
  (case h0_6 => refine .same ?_; refine .same ?_; refine .same ?_; refine .im ?h ?_; (case h => exact Sub.rfl); refine .any ?_; refine .any ?_; refine .same ?_; refine .same ?_; exact .nil)
  (case j0_7 => trivial)
  case gb_8 =>
    refine @go_nf _ _ _ _ _ _ [_, _, _, _, _, _, _, _] rfl ?go_10
    have hif : i < b.frame.length := by omega
    have hpv := fo_pv hk.f hif
    have hfl := hk.f.len _ (getD_memL hif)
    have hdl := dueN_len b.frame row b.size i
    have hpx : (pivL b.frame).getD i 0 < ((b.frame.getD i []).length : Int) := by rw [hfl]; exact hpv.2.1
    have hpr : (pivL b.frame).getD i 0 < (row.length : Int) := by rw [hrl]; exact hpv.2.1
    have hfj : ∀ j : Nat, j < b.size → (j : Int) < ((b.frame.getD i []).length : Int) := fun j hj => by rw [hfl]; omega
    refine go_set B (i := 5) (DE.to (r' := rNum X.K (fcK b.frame row i)) (CA.val (ca_call B (ok__law_make T) (by decide) (_, _) ?c_law_make_20 (da_cons (CA.val (ca_call B (ok__law_top T) (by decide) _ trivial (da_cons (de_i2n (de_ixM (R := rInt) (0 : Int) ?xl7 ?xh8 (de_var B (i := 2) rfl rfl (.inl rfl)) (de_ixM (R := rInt) (0 : Int) ?xl5 ?xh6 (de_var B (i := 1) rfl rfl (.inl rfl)) (de_var B (i := 4) rfl rfl (.inr (.inl rfl)))))) da_nil) rfl)) (da_cons (de_mulG ?m19 (CA.val (ca_call B (ok__law_bottom T) (by decide) _ trivial (da_cons (de_i2n (de_ixM (R := rInt) (0 : Int) ?xl11 ?xh12 (de_var B (i := 2) rfl rfl (.inl rfl)) (de_ixM (R := rInt) (0 : Int) ?xl9 ?xh10 (de_var B (i := 1) rfl rfl (.inl rfl)) (de_var B (i := 4) rfl rfl (.inr (.inl rfl)))))) da_nil) rfl)) (de_ixAM (R := rInt) (0 : Int) ?xl17 ?xh18 (DE.sub (de_ixAM (R := (fun l => rTup X.K (List.map rInt l))) [] ?xl13 ?xh14 (DE.sub (de_var B (i := 0) rfl rfl (.inr (.inl rfl))) sub_tseq) (de_var B (i := 4) rfl rfl (.inr (.inl rfl)))) sub_tseq) (de_ixM (R := rInt) (0 : Int) ?xl15 ?xh16 (de_var B (i := 1) rfl rfl (.inl rfl)) (de_var B (i := 4) rfl rfl (.inr (.inl rfl)))))) da_nil)) rfl)) ?to21) rfl (.inr ⟨rfl, Bf _⟩) ?go_11
    (case xl5 => first | omega | exact hpv.1)
    (case xh6 => first | omega | exact hpr | exact hpx | exact hfj _ (by omega) | (rw [hdl]; omega))
    (case xl7 => first | omega | exact hpv.1)
    (case xh8 => first | omega | exact hpr | exact hpx | exact hfj _ (by omega) | (rw [hdl]; omega))
    (case xl9 => first | omega | exact hpv.1)
    (case xh10 => first | omega | exact hpr | exact hpx | exact hfj _ (by omega) | (rw [hdl]; omega))
    (case xl11 => first | omega | exact hpv.1)
    (case xh12 => first | omega | exact hpr | exact hpx | exact hfj _ (by omega) | (rw [hdl]; omega))
    (case xl13 => first | omega | exact hpv.1)
    (case xh14 => first | omega | exact hpr | exact hpx | exact hfj _ (by omega) | (rw [hdl]; omega))
    (case xl15 => first | omega | exact hpv.1)
    (case xh16 => first | omega | exact hpr | exact hpx | exact hfj _ (by omega) | (rw [hdl]; omega))
    (case xl17 => first | omega | exact hpv.1)
    (case xh18 => first | omega | exact hpr | exact hpx | exact hfj _ (by omega) | (rw [hdl]; omega))
    (case m19 => exact low_m (by rw [Rat.den_intCast]; decide) (Nat.lt_of_le_of_lt (hk.fi hif _) (by decide)))
    (case c_law_make_20 => exact spn_mk hk hr hif)
    (case to21 => exact congrArg (rNum X.K) fc_eq)
    refine @go_nf _ _ _ _ _ _ [_, _, _, _, _, _, _, _] rfl ?go_12
    refine go_setL B (i := 3) (DL.to (l' := List.map (rNum X.K) (dueN b.frame row b.size (i + 1))) (dl_lc B [("_law_j", 7)] (sr_range1 B T.b_range (de_lenM B T.b_len (de_var B (i := 2) rfl rfl (.inl rfl)) rfl) rfl ?r22 ?r23) (blkOk_by (by decide +kernel)) _ (fun _ => true) (fun i2 : Nat => rNum X.K ((dueN b.frame row b.size i).getD ((i2 : Nat) : Int).toNat 0 + (((b.frame.getD ((i : Nat) : Int).toNat []).getD ((i2 : Nat) : Int).toNat 0 : Int) : Rat) * fcK b.frame row i)) ?sz32 (by decide) (fun _ _ _ _ _ B i2 hi => (dg_name B (i := 7) rfl (.inl rfl))) (fun _ _ _ _ _ B i2 hi => dts_nil) (fun _ _ _ _ _ B i2 hi hb => (CA.val (ca_call B (ok__law_plus T) (by decide) (_, _) ?c_law_plus_31 (da_cons (de_ixM (R := (rNum X.K)) (0 : Rat) ?xl24 ?xh25 (de_h2l (de_var B (i := 3) rfl rfl (.inr (.inl rfl)))) (de_var B (i := 7) rfl rfl (.inl rfl))) (da_cons (CA.val (ca_call B (ok__law_times T) (by decide) (_, _) ?c_law_times_30 (da_cons (de_i2n (de_ixAM (R := rInt) (0 : Int) ?xl28 ?xh29 (DE.sub (de_ixAM (R := (fun l => rTup X.K (List.map rInt l))) [] ?xl26 ?xh27 (DE.sub (de_var B (i := 0) rfl rfl (.inr (.inl rfl))) sub_tseq) (de_var B (i := 4) rfl rfl (.inr (.inl rfl)))) sub_tseq) (de_var B (i := 7) rfl rfl (.inl rfl)))) (da_cons (de_var B (i := 5) rfl rfl (.inr (.inl rfl))) da_nil)) rfl)) da_nil)) rfl)))) ?cl33) rfl (.inr ⟨rfl, Bf _⟩) ?go_13 (hs := by have h := B.hsc; revert h; generalize X.env = env; intro h; cases env; subst h; with_unfolding_all rfl)
    (case r22 => first | omega | decide)
    (case r23 => first | omega | decide)
    (case xl24 => first | omega | exact hpv.1)
    (case xh25 => first | omega | exact hpr | exact hpx | exact hfj _ (by omega) | (rw [hdl]; omega))
    (case xl26 => first | omega | exact hpv.1)
    (case xh27 => first | omega | exact hpr | exact hpx | exact hfj _ (by omega) | (rw [hdl]; omega))
    (case xl28 => first | omega | exact hpv.1)
    (case xh29 => first | omega | exact hpr | exact hpx | exact hfj _ (by omega) | (rw [hdl]; omega))
    (case c_law_times_30 => exact lt_s2 (sz_int (hk.fi hif _)) (hk.fc hr hif))
    (case c_law_plus_31 => exact ⟨(hk.due hr (by omega) (by omega)).mono (by decide), (sz_mul (sz_int (hk.fi hif _)) (hk.fc hr hif)).mono (by decide)⟩)
    (case sz32 => exact Nat.lt_of_le_of_lt (show _ ≤ 16 by omega) (by decide))
    (case cl33 => first | exact due0_lc hrl | exact dueS_lc hrl)
    refine @go_nf _ _ _ _ _ _ [_, _, _, _, _, _, _, _] rfl ?go_14
    refine go_frozH 3 rfl ?go_15
    refine @go_nf _ _ _ _ _ _ [_, _, _, _, _, _, _, _] rfl ?go_16
    refine go_turnS ?jn_17 ?ln_18
    (case jn_17 => trivial)
    (case ln_18 => refine .same ?_; refine .same ?_; refine .same ?_; refine .im ?h ?_; (case h => exact Sub.rfl); refine .any ?_; refine .any ?_; refine .same ?_; refine .same ?_; exact .nil)
  case ge_9 =>
    refine @go_nf _ _ _ _ _ _ [_, _, _, _, _, _, _, _] rfl ?go_19
    refine go_ret R (de_eqT (dat_lst dat_num) (by decide) B (de_h2l (de_var B (i := 3) rfl rfl (.inr (.inl rfl)))) (de_li2n (DL.froz (dl_list B T.b_list (de_var B (i := 2) rfl rfl (.inl rfl)) rfl)))) ?rs_20
    (case rs_20 => exact Sub.of (congrArg rBl (decide_eq_true (by rw [Int.toNat_natCast, hpl]; exact due_is hk.f hrl (sp_mem (List.mem_map.mpr ⟨_, hr, rfl⟩))))))
theorem sc__law_frame : FnScope ["_law_book", "_law_size", "_law_rows_here", "_law_heads", "_law_row", "_law_common", "_law_head", "_law_k", "_law_told"] ["_law_book", "_law_size", "_law_rows_here"] (defScope s__law_frame) := ⟨rfl, rfl, rfl, by decide +kernel, rfl, by decide +kernel, by decide +kernel⟩
def sp__law_frame (K : PySem.W.Frag) (cs : Cs) : Sp := Pm (ι := Bk × List (List Int)) (fun ⟨b, rows⟩ => KOk b rows) (fun ⟨b, rows⟩ => [rBook K cs.Book b, rInt ((b.size : Nat) : Int), rLst K (rows.map fun l => rLst K (l.map rInt))]) (fun ⟨b, rows⟩ => .val (rBl true))
theorem ok__law_frame (T : Txt K mg cs) : Cal P w K mg base 5 "_law_frame" (sp__law_frame K cs) := by
  refine cal_ok T.d__law_frame sc__law_frame (fun g => rfl) (fun _ _ _ _ _ _ us hl => match us, hl with | [_, _, _], _ => rfl) ?_
  rintro X rfl rfl rfl rfl rfl B Bf ⟨b, rows⟩ F0 H0 D hp R hnx
  have hn2 := hp.n2
  have hfc := hp.fcount
  have hpl := pivL_len b.frame
  refine @go_nf _ _ _ _ _ _ [_, _, _, _, _, _, _, _, _] rfl ?go_1
  refine go_if (DW.t (dw_or (dt_not (dt_val (de_isi (T := "tuple") B T.b_isinstance rty_tup (kit_ty (r := true) (by decide +kernel)) (de_bkF T.i_Book.o (de_var B (i := 0) rfl rfl (.inl rfl))) (de_ty B T.b_tuple (by decide +kernel) rfl) rfl))) (fun hb1 => (dw_or1 (dt_neI (de_lenTM B T.b_len (de_bkF T.i_Book.o (de_var B (i := 0) rfl rfl (.inl rfl))) rfl) (CA.val (ca_call B (ok__law_rank T) (by decide) (rows, b.size) ?c_law_rank_1 (da_cons (de_var B (i := 1) rfl rfl (.inl rfl)) (da_cons (DE.sub (de_var B (i := 2) rfl rfl (.inl rfl)) (Sub.trans (sub_lstM (R := (fun l => rLst X.K (List.map rInt l))) (R' := (fun l => rSeq X.K (List.map rInt l))) (fun _ => sub_lseq)) sub_lseq)) da_nil)) rfl))))))) (fun hc => ?gt_2) (fun hc => ?gf_3)
  (case c_law_rank_1 => exact hp.rank)
  case gt_2 =>
    exfalso
    rw [← hp.f.count] at hc
    simp at hc
  case gf_3 =>
    skip
    refine go_then ?go_4
    refine go_setL B (i := 3) (dl_lst da_nil (show (0 : Nat) ≤ sizeLine by decide)) rfl (.inl rfl) ?go_5
    refine @go_nf _ _ _ _ _ _ [_, _, _, _, _, _, _, _, _] rfl ?go_6
    refine go_forS B (fun i => [(3, .ow (((pivL b.frame).take i).map rInt)), (4, .any), (5, .any), (6, .any), (7, .any)]) (fun i => True) (sr_seqM (R := (fun l => rTup X.K (List.map rInt l))) [] (DE.sub (de_bkF T.i_Book.o (de_var B (i := 0) rfl rfl (.inl rfl))) sub_tseq)) _ (fun i hi => (dg_name B (i := 4) rfl (.inr ⟨rfl, Bf _⟩))) ?h0_7 ?j0_8 (fun F1 u i hi hj => ?gb_9) (fun hj => ?ge_10)
    (case h0_7 => refine .same ?_; refine .same ?_; refine .same ?_; refine .ow ?h ?_; (case h => rfl); refine .any ?_; refine .any ?_; refine .any ?_; refine .any ?_; refine .same ?_; exact .nil)
    (case j0_8 => trivial)
    case gb_9 =>
      refine @go_nf _ _ _ _ _ _ [_, _, _, _, _, _, _, _, _] rfl ?go_11
      have hfr := frh hp.f hi
      have hfl := hp.f.len _ (getD_memL hi)
      refine go_if (DW.t (dw_or (dt_not (dt_val (de_isi (T := "tuple") B T.b_isinstance rty_tup (kit_ty (r := true) (by decide +kernel)) (de_var B (i := 4) rfl rfl (.inr (.inl rfl))) (de_ty B T.b_tuple (by decide +kernel) rfl) rfl))) (fun hb1 => (dw_or1 (dt_neI (de_lenTM B T.b_len (de_var B (i := 4) rfl rfl (.inr (.inl rfl))) rfl) (de_var B (i := 1) rfl rfl (.inl rfl))))))) (fun hc => ?gt_12) (fun hc => ?gf_13)
      case gt_12 =>
        exfalso
        rw [hfl] at hc
        simp at hc
      case gf_13 =>
        skip
        refine go_then ?go_14
        refine go_set B (i := 5) de_int rfl (.inl rfl) ?go_15
        refine @go_nf _ _ _ _ _ _ [_, _, _, _, _, _, _, _, _] rfl ?go_16
        refine go_set B (i := 6) (de_neg de_int) rfl (.inl rfl) ?go_17
        refine @go_nf _ _ _ _ _ _ [_, _, _, _, _, _, _, _, _] rfl ?go_18
        refine go_forS B (fun i2 => [(5, .im (rInt ((gl ((b.frame.getD i []).take i2) : Nat) : Int))), (6, .im (rInt (hd1 (b.frame.getD i []) i2))), (7, .any)]) (fun i2 => True) (sr_range1 B T.b_range (de_var B (i := 1) rfl rfl (.inl rfl)) rfl ?r2 ?r3) _ (fun i2 hi2 => (dg_name B (i := 7) rfl (.inl rfl))) ?h0_19 ?j0_20 (fun F12 u2 i2 hi2 hj2 => ?gb_21) (fun hj2 => ?ge_22)
        (case r2 => first | omega | decide)
        (case r3 => first | omega | decide)
        (case h0_19 => refine .same ?_; refine .same ?_; refine .same ?_; refine .same ?_; refine .same ?_; refine .im ?h ?_; (case h => exact Sub.rfl); refine .im ?h ?_; (case h => exact Sub.rfl); refine .any ?_; refine .same ?_; exact .nil)
        (case j0_20 => trivial)
        case gb_21 =>
          refine @go_nf _ _ _ _ _ _ [_, _, _, _, _, _, _, _, _] rfl ?go_23
          refine go_if (dt_not (dt_val (CA.val (ca_call B (ok__law_is_int T) (by decide) _ trivial (da_cons (de_i2n (de_ixAM (R := rInt) (0 : Int) ?xl4 ?xh5 (DE.sub (de_var B (i := 4) rfl rfl (.inr (.inl rfl))) sub_tseq) (de_var B (i := 7) rfl rfl (.inl rfl)))) da_nil) rfl)))) (fun hc => ?gt_24) (fun hc => ?gf_25)
          (case xl4 => first | omega | decide | (rw [Int.toNat_natCast, hfr.2.1]; exact (fo_pv hp.f hi).1) | exact frx hp.f hi hb1 | exact (fo_pv hp.f (by omega)).1)
          (case xh5 => first | (rw [hfl]; omega) | (rw [hfl, Int.toNat_natCast, hfr.2.1]; exact (fo_pv hp.f hi).2.1) | omega | (rw [hfl]; exact (fo_pv hp.f (by omega)).2.1))
          case gt_24 =>
            exfalso
            rw [Rat.den_intCast] at hc
            simp at hc
          case gf_25 =>
            skip
            refine go_then ?go_26
            refine go_set B (i := 5) (CA.val (ca_call B (ok__law_gcd T) (by decide) (_, _) ?c_law_gcd_8 (da_cons (de_var B (i := 5) rfl rfl (.inl rfl)) (da_cons (de_ixAM (R := rInt) (0 : Int) ?xl6 ?xh7 (DE.sub (de_var B (i := 4) rfl rfl (.inr (.inl rfl))) sub_tseq) (de_var B (i := 7) rfl rfl (.inl rfl))) da_nil)) rfl)) rfl (.inl rfl) ?go_27
            (case xl6 => first | omega | decide | (rw [Int.toNat_natCast, hfr.2.1]; exact (fo_pv hp.f hi).1) | exact frx hp.f hi hb1 | exact (fo_pv hp.f (by omega)).1)
            (case xh7 => first | (rw [hfl]; omega) | (rw [hfl, Int.toNat_natCast, hfr.2.1]; exact (fo_pv hp.f hi).2.1) | omega | (rw [hfl]; exact (fo_pv hp.f (by omega)).2.1))
            (case c_law_gcd_8 => exact frg hp hi _ _)
            refine @go_nf _ _ _ _ _ _ [_, _, _, _, _, _, _, _, _] rfl ?go_28
            refine go_if (DW.t (dw_and (dt_eqI (de_var B (i := 6) rfl rfl (.inl rfl)) (de_neg de_int)) (fun hb1 => (dw_and1 (dt_neI (de_ixAM (R := rInt) (0 : Int) ?xl9 ?xh10 (DE.sub (de_var B (i := 4) rfl rfl (.inr (.inl rfl))) sub_tseq) (de_var B (i := 7) rfl rfl (.inl rfl))) de_int))))) (fun hc => ?gt_29) (fun hc => ?gf_30)
            (case xl9 => first | omega | decide | (rw [Int.toNat_natCast, hfr.2.1]; exact (fo_pv hp.f hi).1) | exact frx hp.f hi hb1 | exact (fo_pv hp.f (by omega)).1)
            (case xh10 => first | (rw [hfl]; omega) | (rw [hfl, Int.toNat_natCast, hfr.2.1]; exact (fo_pv hp.f hi).2.1) | omega | (rw [hfl]; exact (fo_pv hp.f (by omega)).2.1))
            case gt_29 =>
              skip
              refine go_set B (i := 6) (de_var B (i := 7) rfl rfl (.inl rfl)) rfl (.inl rfl) ?go_31
              refine @go_nf _ _ _ _ _ _ [_, _, _, _, _, _, _, _, _] rfl ?go_32
              refine go_then ?go_33
              refine go_turnS ?jn_34 ?ln_35
              (case jn_34 => trivial)
              (case ln_35 => refine .same ?_; refine .same ?_; refine .same ?_; refine .same ?_; refine .same ?_; refine .im ?h ?_; (case h => exact Sub.of (by rw [gl_step (show i2 < (b.frame.getD i []).length by omega), Int.toNat_natCast])); refine .im ?h ?_; (case h => first | exact Sub.of (congrArg rInt (hd1_t hc)) | exact Sub.of (congrArg rInt (hd1_f hc))); refine .any ?_; refine .same ?_; exact .nil)
            case gf_30 =>
              skip
              refine go_then ?go_36
              refine go_turnS ?jn_37 ?ln_38
              (case jn_37 => trivial)
              (case ln_38 => refine .same ?_; refine .same ?_; refine .same ?_; refine .same ?_; refine .same ?_; refine .im ?h ?_; (case h => exact Sub.of (by rw [gl_step (show i2 < (b.frame.getD i []).length by omega), Int.toNat_natCast])); refine .im ?h ?_; (case h => first | exact Sub.of (congrArg rInt (hd1_t hc)) | exact Sub.of (congrArg rInt (hd1_f hc))); refine .any ?_; refine .same ?_; exact .nil)
        case ge_22 =>
          refine @go_nf _ _ _ _ _ _ [_, _, _, _, _, _, _, _, _] rfl ?go_39
          refine go_if (DW.t (dw_or (dt_neI (de_var B (i := 5) rfl rfl (.inl rfl)) de_int) (fun hb1 => (dw_or (dt_le (de_ixAM (R := rInt) (0 : Int) ?xl11 ?xh12 (DE.sub (de_var B (i := 4) rfl rfl (.inr (.inl rfl))) sub_tseq) (de_var B (i := 6) rfl rfl (.inl rfl))) de_int) (fun hb2 => (dw_or1 (DW.t (dw_and (dt_gt (de_lenO B T.b_len (i := 3) rfl rfl (.inl rfl) rfl) de_int) (fun hb1 => (dw_and1 (dt_le (de_var B (i := 6) rfl rfl (.inl rfl)) (de_ixOMZ (R := rInt) (0 : Int) B (i := 3) rfl rfl (.inl rfl) ?xl13 ?xh14 (de_neg de_int))))))))))))) (fun hc => ?gt_40) (fun hc => ?gf_41)
          (case xl11 => first | omega | decide | (rw [Int.toNat_natCast, hfr.2.1]; exact (fo_pv hp.f hi).1) | exact frx hp.f hi hb1 | exact (fo_pv hp.f (by omega)).1)
          (case xh12 => first | (rw [hfl]; omega) | (rw [hfl, Int.toNat_natCast, hfr.2.1]; exact (fo_pv hp.f hi).2.1) | omega | (rw [hfl]; exact (fo_pv hp.f (by omega)).2.1))
          (case xl13 => first | omega | decide | (rw [Int.toNat_natCast, hfr.2.1]; exact (fo_pv hp.f hi).1) | exact frx hp.f hi hb1 | exact (fo_pv hp.f (by omega)).1)
          (case xh14 => first | (rw [hfl]; omega) | (rw [hfl, Int.toNat_natCast, hfr.2.1]; exact (fo_pv hp.f hi).2.1) | omega | (rw [hfl]; exact (fo_pv hp.f (by omega)).2.1))
          case gt_40 =>
            exfalso
            rw [List.length_map, Int.toNat_natCast] at hc
            exact Bool.false_ne_true ((frt3 hp.f hi).symm.trans hc)
          case gf_41 =>
            skip
            refine go_then ?go_42
            refine go_append B (i := 3) rfl (de_var B (i := 6) rfl rfl (.inl rfl)) ?s15 rfl (.inl rfl) ?go_43
            (case s15 => rw [List.length_map, List.length_take]; exact Nat.lt_of_le_of_lt (show _ ≤ 16 by omega) (by decide))
            refine @go_nf _ _ _ _ _ _ [_, _, _, _, _, _, _, _, _] rfl ?go_44
            refine go_turnS ?jn_45 ?ln_46
            (case jn_45 => trivial)
            (case ln_46 => refine .same ?_; refine .same ?_; refine .same ?_; refine .ow ?h ?_; (case h => rw [take_snoc (d := 0) (show i < (pivL b.frame).length by omega), List.map_append, Int.toNat_natCast, hfr.2.1]; rfl); refine .any ?_; refine .any ?_; refine .any ?_; refine .any ?_; refine .same ?_; exact .nil)
    case ge_10 =>
      refine @go_nf _ _ _ _ _ _ [_, _, _, _, _, _, _, _, _] rfl ?go_47
      rw [← hpl, List.take_length]
      refine go_frozH 3 rfl ?go_48
      refine @go_nf _ _ _ _ _ _ [_, _, _, _, _, _, _, _, _] rfl ?go_49
      refine go_forS B (fun i => [(4, .any)]) (fun i => True) (sr_seqM (R := (fun l => rTup X.K (List.map rInt l))) [] (DE.sub (de_bkF T.i_Book.o (de_var B (i := 0) rfl rfl (.inl rfl))) sub_tseq)) _ (fun i hi => (dg_name B (i := 4) rfl (.inr ⟨rfl, Bf _⟩))) ?h0_50 ?j0_51 (fun F1 u i hi hj => ?gb_52) (fun hj => ?ge_53)
      (case h0_50 => refine .same ?_; refine .same ?_; refine .same ?_; refine .same ?_; refine .any ?_; refine .same ?_; refine .same ?_; refine .same ?_; refine .same ?_; exact .nil)
      (case j0_51 => trivial)
      case gb_52 =>
        refine @go_nf _ _ _ _ _ _ [_, _, _, _, _, _, _, _, _] rfl ?go_54
        have hfl := hp.f.len _ (getD_memL hi)
        have hfo := fr_one hp.f hi
        refine go_if (dt_neI (de_lenM B T.b_len (DL.froz (DL.to (l' := List.map rInt ((pivL b.frame).filter fun p => !decide ((b.frame.getD i []).getD p.toNat 0 = 0))) (dl_lc B [("_law_head", 6)] (sr_listM (R := rInt) (0 : Int) (de_h2l (de_var B (i := 3) rfl rfl (.inl rfl)))) (blkOk_by (by decide +kernel)) _ _ (fun i2 : Nat => rInt ((pivL b.frame).getD i2 0)) ?sz18 (by decide) (fun _ _ _ _ _ B i2 hi => (dg_name B (i := 6) rfl (.inl rfl))) (fun _ _ _ _ _ B i2 hi => (dts_one (dt_neI (de_ixAM (R := rInt) (0 : Int) ?xl16 ?xh17 (DE.sub (de_var B (i := 4) rfl rfl (.inr (.inl rfl))) sub_tseq) (de_var B (i := 6) rfl rfl (.inl rfl))) de_int))) (fun _ _ _ _ _ B i2 hi hb => (de_var B (i := 6) rfl rfl (.inl rfl)))) ?cl19)) rfl) de_int) (fun hc => ?gt_55) (fun hc => ?gf_56)
        (case xl16 => first | omega | decide | (rw [Int.toNat_natCast, hfr.2.1]; exact (fo_pv hp.f hi).1) | exact frx hp.f hi hb1 | exact (fo_pv hp.f (by omega)).1)
        (case xh17 => first | (rw [hfl]; omega) | (rw [hfl, Int.toNat_natCast, hfr.2.1]; exact (fo_pv hp.f hi).2.1) | omega | (rw [hfl]; exact (fo_pv hp.f (by omega)).2.1))
        (case sz18 => rw [hpl]; exact Nat.lt_of_le_of_lt (show _ ≤ 16 by omega) (by decide))
        (case cl19 => exact flt_lc (l := pivL b.frame) (f := fun p => !decide ((b.frame.getD i []).getD p.toNat 0 = 0)))
        case gt_55 =>
          exfalso
          rw [hfo] at hc
          simp at hc
        case gf_56 =>
          skip
          refine go_then ?go_57
          refine go_turnS ?jn_58 ?ln_59
          (case jn_58 => trivial)
          (case ln_59 => refine .same ?_; refine .same ?_; refine .same ?_; refine .same ?_; refine .any ?_; refine .same ?_; refine .same ?_; refine .same ?_; refine .same ?_; exact .nil)
      case ge_53 =>
        refine @go_nf _ _ _ _ _ _ [_, _, _, _, _, _, _, _, _] rfl ?go_60
        refine go_setL B (i := 8) (CA.lst (ca_call B (ok_pivots T) (by decide) _ ?c_pivots_20 (da_cons (de_var B (i := 0) rfl rfl (.inl rfl)) da_nil) rfl)) rfl (.inl rfl) ?go_61
        (case c_pivots_20 => exact hp.pv)
        refine @go_nf _ _ _ _ _ _ [_, _, _, _, _, _, _, _, _] rfl ?go_62
        refine go_froz 8 rfl ?go_63
        refine @go_nf _ _ _ _ _ _ [_, _, _, _, _, _, _, _, _] rfl ?go_64
        refine go_if (DW.t (dw_or (dt_not (dt_val (de_isi (T := "list") B T.b_isinstance rty_lst (kit_ty (r := true) (by decide +kernel)) (de_var B (i := 8) rfl rfl (.inl rfl)) (de_ty B T.b_list (by decide +kernel) rfl) rfl))) (fun hb1 => (dw_or1 (dt_neT (dat_lst dat_int) (by decide) B (de_var B (i := 8) rfl rfl (.inl rfl)) (de_h2l (de_var B (i := 3) rfl rfl (.inl rfl)))))))) (fun hc => ?gt_65) (fun hc => ?gf_66)
        case gt_65 =>
          exfalso
          simp at hc
        case gf_66 =>
          skip
          refine go_then ?go_67
          refine go_forS B (fun i => [(4, .any)]) (fun i => True) (sr_listM (R := (fun l => rLst X.K (List.map rInt l))) [] (de_var B (i := 2) rfl rfl (.inl rfl))) _ (fun i hi => (dg_name B (i := 4) rfl (.inr ⟨rfl, Bf _⟩))) ?h0_68 ?j0_69 (fun F1 u i hi hj => ?gb_70) (fun hj => ?ge_71)
          (case h0_68 => refine .same ?_; refine .same ?_; refine .same ?_; refine .same ?_; refine .any ?_; refine .same ?_; refine .same ?_; refine .same ?_; refine .same ?_; exact .nil)
          (case j0_69 => trivial)
          case gb_70 =>
            refine @go_nf _ _ _ _ _ _ [_, _, _, _, _, _, _, _, _] rfl ?go_72
            refine go_if (dt_not (dt_val (CA.val (ca_call B (ok__law_spanned T) (by decide) (b, rows, _) ?c_law_spanned_21 (da_cons (de_bkF T.i_Book.o (de_var B (i := 0) rfl rfl (.inl rfl))) (da_cons (de_h2l (de_var B (i := 3) rfl rfl (.inl rfl))) (da_cons (de_var B (i := 4) rfl rfl (.inr (.inl rfl))) da_nil))) rfl)))) (fun hc => ?gt_73) (fun hc => ?gf_74)
            (case c_law_spanned_21 => exact ⟨hp, getD_memL hi⟩)
            case gt_73 =>
              exfalso
              cases hc
            case gf_74 =>
              skip
              refine go_then ?go_75
              refine go_turnS ?jn_76 ?ln_77
              (case jn_76 => trivial)
              (case ln_77 => refine .same ?_; refine .same ?_; refine .same ?_; refine .same ?_; refine .any ?_; refine .same ?_; refine .same ?_; refine .same ?_; refine .same ?_; exact .nil)
          case ge_71 =>
            refine @go_nf _ _ _ _ _ _ [_, _, _, _, _, _, _, _, _] rfl ?go_78
            refine go_ret R de_bl ?rs_79
            (case rs_79 => exact Sub.rfl)
end K01

set_option Elab.async false
set_option linter.all false
set_option maxRecDepth 100000
set_option maxHeartbeats 4000000
namespace K01
open PySem PySem.Spec PyProof.Rows L2 DL
variable {P : Program} {w : World} {K : PySem.W.Frag} {mg : Str → Option Value} {base : Heap} {cs : Cs}
theorem sc__law_tables : FnScope ["_law_book", "_law_size", "_law_rows_here", "_law_numbers_here", "_law_heads", "_law_table", "_law_k", "_law_factor", "_law_kept", "_law_told", "_law_at", "_law_step", "_law_alone", "_law_row", "_law_j", "_law_head", "_law_number"] ["_law_book", "_law_size", "_law_rows_here", "_law_numbers_here"] (defScope s__law_tables) := ⟨rfl, rfl, rfl, by decide +kernel, rfl, by decide +kernel, by decide +kernel⟩
def sp__law_tables (K : PySem.W.Frag) (cs : Cs) : Sp := Pm (ι := Bk × List (List Int) × List Int) (fun ⟨b, rows, ds⟩ => KOk b rows ∧ ds.length = 30) (fun ⟨b, rows, ds⟩ => [rBook K cs.Book b, rInt ((b.size : Nat) : Int), rLst K (rows.map fun l => rLst K (l.map rInt)), rLst K (ds.map rInt)]) (fun ⟨b, rows, ds⟩ => .val (rBl true))
theorem ok__law_tables (T : Txt K mg cs) : Cal P w K mg base 7 "_law_tables" (sp__law_tables K cs) := by
  refine cal_ok T.d__law_tables sc__law_tables (fun g => rfl) (fun _ _ _ _ _ _ us hl => match us, hl with | [_, _, _, _], _ => rfl) ?_
  rintro X rfl rfl rfl rfl rfl B Bf ⟨b, rows, ds⟩ F0 H0 D hp R hnx
  obtain ⟨hk, hd⟩ := hp
  have hn1 := hk.n1
  have hn2 := hk.n2
  have hm := hk.m
  have hpl := pivL_len b.frame
  have hfc := hk.fcount
  have hat := atY_b (ds := ds) hn1
  have htl := tyN_len (rows := rows) (ds := ds) (n := b.size) rows.length
  refine @go_nf _ _ _ _ _ _ [_, _, _, _, _, _, _, _, _, _, _, _, _, _, _, _, _] rfl ?go_1
  refine go_setL B (i := 4) (CA.lst (ca_call B (ok_pivots T) (by decide) _ ?c_pivots_1 (da_cons (de_var B (i := 0) rfl rfl (.inl rfl)) da_nil) rfl)) rfl (.inl rfl) ?go_2
  (case c_pivots_1 => exact hk.pv)
  refine @go_nf _ _ _ _ _ _ [_, _, _, _, _, _, _, _, _, _, _, _, _, _, _, _, _] rfl ?go_3
  refine go_froz 4 rfl ?go_4
  refine @go_nf _ _ _ _ _ _ [_, _, _, _, _, _, _, _, _, _, _, _, _, _, _, _, _] rfl ?go_5
  refine go_setL B (i := 5) (DL.to (l' := List.map (rNum X.K) (tyN rows ds b.size 0)) (dl_lc B [("_law_k", 6)] (sr_range1 B T.b_range (de_var B (i := 1) rfl rfl (.inl rfl)) rfl ?r2 ?r3) (blkOk_by (by decide +kernel)) _ (fun _ => true) (fun _ : Nat => rNum X.K ((0 : Int) : Rat)) ?sz4 (by decide) (fun _ _ _ _ _ B i hi => (dg_name B (i := 6) rfl (.inl rfl))) (fun _ _ _ _ _ B i hi => dts_nil) (fun _ _ _ _ _ B i hi hb => (de_i2n de_int))) ?cl5) rfl (.inr ⟨rfl, Bf _⟩) ?go_6 (hs := by have h := B.hsc; revert h; generalize X.env = env; intro h; cases env; subst h; with_unfolding_all rfl)
  (case r2 => first | omega | decide)
  (case r3 => first | omega | decide)
  (case sz4 => first | exact Nat.lt_of_le_of_lt (show _ ≤ 16 by omega) (by decide) | (rw [hfl]; exact Nat.lt_of_le_of_lt (show _ ≤ 16 by omega) (by decide)))
  (case cl5 => first | exact ty0_lc | exact tyS_lc | exact lc_map (f := fun k : Int => rNum X.K ((tyL rows ds b.size).getD k.toNat 0)) |>.trans (by rw [List.map_map]; rfl) | exact flt_lc (l := b.frame.getD i []) (f := fun x => !decide (x = 0)))
  refine @go_nf _ _ _ _ _ _ [_, _, _, _, _, _, _, _, _, _, _, _, _, _, _, _, _] rfl ?go_7
  refine go_forS B (fun i => [(5, .ow ((tyN rows ds b.size i).map (rNum X.K))), (6, .any), (7, .any)]) (fun i => True) (sr_range1 B T.b_range (de_lenM B T.b_len (de_var B (i := 2) rfl rfl (.inr (.inl rfl))) rfl) rfl ?r6 ?r7) _ (fun i hi => (dg_name B (i := 6) rfl (.inr ⟨rfl, Bf _⟩))) ?h0_8 ?j0_9 (fun F1 u i hi hj => ?gb_10) (fun hj => ?ge_11)
  (case r6 => first | omega | decide)
  (case r7 => first | omega | decide)
  (case h0_8 => refine .same ?_; refine .same ?_; refine .same ?_; refine .same ?_; refine .same ?_; refine .ow ?h ?_; (case h => rfl); refine .any ?_; refine .any ?_; refine .same ?_; refine .same ?_; refine .same ?_; refine .same ?_; refine .same ?_; refine .same ?_; refine .same ?_; refine .same ?_; refine .same ?_; exact .nil)
  (case j0_9 => trivial)
  case gb_10 =>
    refine @go_nf _ _ _ _ _ _ [_, _, _, _, _, _, _, _, _, _, _, _, _, _, _, _, _] rfl ?go_12
    have hrl := hk.len _ (getD_memL (show i < rows.length by omega))
    have hti := tyN_len (rows := rows) (ds := ds) (n := b.size) i
    have hrj : ∀ j : Nat, j < b.size → (j : Int) < ((rows.getD i []).length : Int) := fun j hj => by rw [hrl]; omega
    refine go_set B (i := 7) (DE.to (r' := rNum X.K (fY ds i)) (CA.val (ca_call B (ok__law_make T) (by decide) (_, _) ?c_law_make_14 (da_cons (de_sub (de_mod ?z10 (de_toInt B T.b_int (de_ixM (R := rInt) (0 : Int) ?xl8 ?xh9 (de_var B (i := 3) rfl rfl (.inl rfl)) (de_var B (i := 6) rfl rfl (.inr (.inl rfl)))) rfl) de_int) de_int) (da_cons (de_add de_int (de_mod ?z13 (de_toInt B T.b_int (de_ixM (R := rInt) (0 : Int) ?xl11 ?xh12 (de_var B (i := 3) rfl rfl (.inl rfl)) (de_add de_int (de_var B (i := 6) rfl rfl (.inr (.inl rfl))))) rfl) de_int)) da_nil)) rfl)) ?to15) rfl (.inr ⟨rfl, Bf _⟩) ?go_13
    (case xl8 => first | decide | omega | exact (fo_pv hk.f (by omega)).1)
    (case xh9 => first | (rw [hd]; decide) | omega | exact hrj _ (by omega) | (rw [hti]; omega) | (rw [htl]; exact (fo_pv hk.f (by omega)).2.1) | (rw [htl]; exact Int.ofNat_lt.mpr hat.1) | (rw [hfl]; exact Int.ofNat_lt.mpr hat.1))
    (case z10 => first | decide | omega)
    (case xl11 => first | decide | omega | exact (fo_pv hk.f (by omega)).1)
    (case xh12 => first | (rw [hd]; decide) | omega | exact hrj _ (by omega) | (rw [hti]; omega) | (rw [htl]; exact (fo_pv hk.f (by omega)).2.1) | (rw [htl]; exact Int.ofNat_lt.mpr hat.1) | (rw [hfl]; exact Int.ofNat_lt.mpr hat.1))
    (case z13 => first | decide | omega)
    (case c_law_make_14 => first | exact fY_mk _ _ | exact stY_mk _)
    (case to15 => first | rfl | exact congrArg rInt hat.2.symm)
    refine @go_nf _ _ _ _ _ _ [_, _, _, _, _, _, _, _, _, _, _, _, _, _, _, _, _] rfl ?go_14
    refine go_setL B (i := 5) (DL.to (l' := List.map (rNum X.K) (tyN rows ds b.size (i + 1))) (dl_lc B [("_law_j", 14)] (sr_range1 B T.b_range (de_var B (i := 1) rfl rfl (.inl rfl)) rfl ?r16 ?r17) (blkOk_by (by decide +kernel)) _ (fun _ => true) (fun i2 : Nat => rNum X.K ((tyN rows ds b.size i).getD ((i2 : Nat) : Int).toNat 0 + (((rows.getD ((i : Nat) : Int).toNat []).getD ((i2 : Nat) : Int).toNat 0 : Int) : Rat) * fY ds i)) ?sz26 (by decide) (fun _ _ _ _ _ B i2 hi => (dg_name B (i := 14) rfl (.inl rfl))) (fun _ _ _ _ _ B i2 hi => dts_nil) (fun _ _ _ _ _ B i2 hi hb => (CA.val (ca_call B (ok__law_plus T) (by decide) (_, _) ?c_law_plus_25 (da_cons (de_ixOM (R := (rNum X.K)) (0 : Rat) B (i := 5) rfl rfl (.inr (.inl rfl)) ?xl18 ?xh19 (de_var B (i := 14) rfl rfl (.inl rfl))) (da_cons (CA.val (ca_call B (ok__law_times T) (by decide) (_, _) ?c_law_times_24 (da_cons (de_i2n (de_ixM (R := rInt) (0 : Int) ?xl22 ?xh23 (de_ixM (R := (fun l => rLst X.K (List.map rInt l))) [] ?xl20 ?xh21 (de_var B (i := 2) rfl rfl (.inr (.inl rfl))) (de_var B (i := 6) rfl rfl (.inr (.inl rfl)))) (de_var B (i := 14) rfl rfl (.inl rfl)))) (da_cons (de_var B (i := 7) rfl rfl (.inr (.inl rfl))) da_nil)) rfl)) da_nil)) rfl)))) ?cl27) rfl (.inr ⟨rfl, Bf _⟩) ?go_15 (hs := by have h := B.hsc; revert h; generalize X.env = env; intro h; cases env; subst h; with_unfolding_all rfl)
    (case r16 => first | omega | decide)
    (case r17 => first | omega | decide)
    (case xl18 => first | decide | omega | exact (fo_pv hk.f (by omega)).1)
    (case xh19 => first | (rw [hd]; decide) | omega | exact hrj _ (by omega) | (rw [hti]; omega) | (rw [htl]; exact (fo_pv hk.f (by omega)).2.1) | (rw [htl]; exact Int.ofNat_lt.mpr hat.1) | (rw [hfl]; exact Int.ofNat_lt.mpr hat.1))
    (case xl20 => first | decide | omega | exact (fo_pv hk.f (by omega)).1)
    (case xh21 => first | (rw [hd]; decide) | omega | exact hrj _ (by omega) | (rw [hti]; omega) | (rw [htl]; exact (fo_pv hk.f (by omega)).2.1) | (rw [htl]; exact Int.ofNat_lt.mpr hat.1) | (rw [hfl]; exact Int.ofNat_lt.mpr hat.1))
    (case xl22 => first | decide | omega | exact (fo_pv hk.f (by omega)).1)
    (case xh23 => first | (rw [hd]; decide) | omega | exact hrj _ (by omega) | (rw [hti]; omega) | (rw [htl]; exact (fo_pv hk.f (by omega)).2.1) | (rw [htl]; exact Int.ofNat_lt.mpr hat.1) | (rw [hfl]; exact Int.ofNat_lt.mpr hat.1))
    (case c_law_times_24 => exact lt_s2 (sz_int (yr_lg hk _ _)) (fY_sz ds i))
    (case c_law_plus_25 => first | exact ⟨(tyN_sz hk (by omega) (by omega)).mono (by decide), (sz_mul (sz_int (yr_lg hk _ _)) (fY_sz ds i)).mono (by decide)⟩ | exact ⟨(tyN_sz hk (Nat.le_refl _) hat.1).mono (by decide), (gd_sz (stY_gd ds).1 (by decide) (n := 30) (by decide) (by decide)).mono (by decide)⟩)
    (case sz26 => first | exact Nat.lt_of_le_of_lt (show _ ≤ 16 by omega) (by decide) | (rw [hfl]; exact Nat.lt_of_le_of_lt (show _ ≤ 16 by omega) (by decide)))
    (case cl27 => first | exact ty0_lc | exact tyS_lc | exact lc_map (f := fun k : Int => rNum X.K ((tyL rows ds b.size).getD k.toNat 0)) |>.trans (by rw [List.map_map]; rfl) | exact flt_lc (l := b.frame.getD i []) (f := fun x => !decide (x = 0)))
    refine @go_nf _ _ _ _ _ _ [_, _, _, _, _, _, _, _, _, _, _, _, _, _, _, _, _] rfl ?go_16
    refine go_turnS ?jn_17 ?ln_18
    (case jn_17 => trivial)
    (case ln_18 => refine .same ?_; refine .same ?_; refine .same ?_; refine .same ?_; refine .same ?_; refine .ow ?h ?_; (case h => rfl); refine .any ?_; refine .any ?_; refine .same ?_; refine .same ?_; refine .same ?_; refine .same ?_; refine .same ?_; refine .same ?_; refine .same ?_; refine .same ?_; refine .same ?_; exact .nil)
  case ge_11 =>
    refine @go_nf _ _ _ _ _ _ [_, _, _, _, _, _, _, _, _, _, _, _, _, _, _, _, _] rfl ?go_19
    rw [Int.toNat_natCast]
    refine go_setL B (i := 8) (dl_lendF 5 rfl lfr_nums (dl_list B T.b_list (de_var B (i := 5) rfl rfl (.inr (.inl rfl))) rfl)) rfl (.inl rfl) ?go_20
    refine @go_nf _ _ _ _ _ _ [_, _, _, _, _, _, _, _, _, _, _, _, _, _, _, _, _] rfl ?go_21
    refine go_froz 8 rfl ?go_22
    refine @go_nf _ _ _ _ _ _ [_, _, _, _, _, _, _, _, _, _, _, _, _, _, _, _, _] rfl ?go_23
    refine go_if (dt_lend 5 rfl (DW.t (dw_or (dt_notBl (CA.val (ca_callO (okr_is_table X.K) B (ok_is_table T) (by decide) (_, _) ?c_is_table_28 ?o_is_table_29 (da_cons (de_var B (i := 0) rfl rfl (.inl rfl)) (da_cons (de_var B (i := 5) rfl rfl (.inr (.inl rfl))) da_nil)) rfl))) (fun hb1 => (dw_or1 (dt_neT (dat_lst dat_num) (by decide) B (de_var B (i := 5) rfl rfl (.inr (.inl rfl))) (de_var B (i := 8) rfl rfl (.inl rfl)))))))) (fun hc => ?gt_24) (fun hc => ?gf_25)
    (case c_is_table_28 => first | exact hk.it2 fun j => gd_mono (ty_gd hk j) (by decide) | exact hk.it2 fun j => ty2_gd hk j)
    (case o_is_table_29 => refine if_neg (fun z => z ?_); first | exact (List.length_set ..).trans (tyN_len _) | exact tyN_len _)
    case gt_24 =>
      exfalso
      rw [ty_tab hk] at hc
      simp at hc
    case gf_25 =>
      skip
      refine go_then ?go_26
      refine go_setL B (i := 9) (dl_lendF 5 rfl lfr_nums (CA.lst (ca_callO (okr_table_of X.K) B (ok_table_of T) (by decide) (_, _) ?c_table_of_34 ?o_table_of_35 (da_cons (de_var B (i := 0) rfl rfl (.inl rfl)) (da_cons (DL.froz (DL.to (l' := List.map (rNum X.K) ((pivL b.frame).map fun k => (tyL rows ds b.size).getD k.toNat 0)) (dl_lc B [("_law_head", 15)] (sr_listM (R := rInt) (0 : Int) (de_var B (i := 4) rfl rfl (.inl rfl))) (blkOk_by (by decide +kernel)) _ (fun _ => true) (fun i : Nat => rNum X.K ((tyL rows ds b.size).getD ((pivL b.frame).getD i 0).toNat 0)) ?sz32 (by decide) (fun _ _ _ _ _ B i hi => (dg_name B (i := 15) rfl (.inl rfl))) (fun _ _ _ _ _ B i hi => dts_nil) (fun _ _ _ _ _ B i hi hb => (de_ixM (R := (rNum X.K)) (0 : Rat) ?xl30 ?xh31 (de_var B (i := 5) rfl rfl (.inr (.inl rfl))) (de_var B (i := 15) rfl rfl (.inl rfl))))) ?cl33)) da_nil)) rfl))) rfl (.inl rfl) ?go_27
      (case xl30 => first | decide | omega | exact (fo_pv hk.f (by omega)).1)
      (case xh31 => first | (rw [hd]; decide) | omega | exact hrj _ (by omega) | (rw [hti]; omega) | (rw [htl]; exact (fo_pv hk.f (by omega)).2.1) | (rw [htl]; exact Int.ofNat_lt.mpr hat.1) | (rw [hfl]; exact Int.ofNat_lt.mpr hat.1))
      (case sz32 => first | exact Nat.lt_of_le_of_lt (show _ ≤ 16 by omega) (by decide) | (rw [hfl]; exact Nat.lt_of_le_of_lt (show _ ≤ 16 by omega) (by decide)))
      (case cl33 => first | exact ty0_lc | exact tyS_lc | exact lc_map (f := fun k : Int => rNum X.K ((tyL rows ds b.size).getD k.toNat 0)) |>.trans (by rw [List.map_map]; rfl) | exact flt_lc (l := b.frame.getD i []) (f := fun x => !decide (x = 0)))
      (case c_table_of_34 => exact ⟨hk.pv, fun _ => hk.it (ty_vs hk) ((List.length_map _).trans (pivL_len _))⟩)
      (case o_table_of_35 => exact if_neg (fun z => z ((List.length_map _).trans (pivL_len _))))
      refine @go_nf _ _ _ _ _ _ [_, _, _, _, _, _, _, _, _, _, _, _, _, _, _, _, _] rfl ?go_28
      refine go_froz 9 rfl ?go_29
      refine @go_nf _ _ _ _ _ _ [_, _, _, _, _, _, _, _, _, _, _, _, _, _, _, _, _] rfl ?go_30
      refine go_if (dt_lend 5 rfl (DW.t (dw_or (dt_not (dt_val (de_isi (T := "list") B T.b_isinstance rty_lst (kit_ty (r := true) (by decide +kernel)) (de_var B (i := 9) rfl rfl (.inl rfl)) (de_ty B T.b_list (by decide +kernel) rfl) rfl))) (fun hb1 => (dw_or1 (dt_neT (dat_lst dat_num) (by decide) B (de_var B (i := 9) rfl rfl (.inl rfl)) (de_var B (i := 5) rfl rfl (.inr (.inl rfl))))))))) (fun hc => ?gt_31) (fun hc => ?gf_32)
      case gt_31 =>
        exfalso
        rw [ty_told hk] at hc
        simp at hc
      case gf_32 =>
        skip
        refine go_then ?go_33
        refine go_set B (i := 10) (DE.to (r' := rInt ((atY ds b.size : Nat) : Int)) (de_mod ?z38 (de_toInt B T.b_int (de_ixM (R := rInt) (0 : Int) ?xl36 ?xh37 (de_var B (i := 3) rfl rfl (.inl rfl)) de_int) rfl) (de_var B (i := 1) rfl rfl (.inl rfl))) ?to39) rfl (.inl rfl) ?go_34
        (case xl36 => first | decide | omega | exact (fo_pv hk.f (by omega)).1)
        (case xh37 => first | (rw [hd]; decide) | omega | exact hrj _ (by omega) | (rw [hti]; omega) | (rw [htl]; exact (fo_pv hk.f (by omega)).2.1) | (rw [htl]; exact Int.ofNat_lt.mpr hat.1) | (rw [hfl]; exact Int.ofNat_lt.mpr hat.1))
        (case z38 => first | decide | omega)
        (case to39 => first | rfl | exact congrArg rInt hat.2.symm)
        refine @go_nf _ _ _ _ _ _ [_, _, _, _, _, _, _, _, _, _, _, _, _, _, _, _, _] rfl ?go_35
        refine go_set B (i := 11) (CA.val (ca_call B (ok__law_make T) (by decide) (_, _) ?c_law_make_43 (da_cons de_int (da_cons (de_add de_int (de_mod ?z42 (de_toInt B T.b_int (de_ixM (R := rInt) (0 : Int) ?xl40 ?xh41 (de_var B (i := 3) rfl rfl (.inl rfl)) de_int) rfl) de_int)) da_nil)) rfl)) rfl (.inl rfl) ?go_36
        (case xl40 => first | decide | omega | exact (fo_pv hk.f (by omega)).1)
        (case xh41 => first | (rw [hd]; decide) | omega | exact hrj _ (by omega) | (rw [hti]; omega) | (rw [htl]; exact (fo_pv hk.f (by omega)).2.1) | (rw [htl]; exact Int.ofNat_lt.mpr hat.1) | (rw [hfl]; exact Int.ofNat_lt.mpr hat.1))
        (case z42 => first | decide | omega)
        (case c_law_make_43 => first | exact fY_mk _ _ | exact stY_mk _)
        refine @go_nf _ _ _ _ _ _ [_, _, _, _, _, _, _, _, _, _, _, _, _, _, _, _, _] rfl ?go_37
        refine go_putM (R := (rNum X.K)) B (i := 5) (CA.val (ca_call B (ok__law_plus T) (by decide) (_, _) ?c_law_plus_46 (da_cons (de_ixOM (R := (rNum X.K)) (0 : Rat) B (i := 5) rfl rfl (.inr (.inl rfl)) ?xl44 ?xh45 (de_var B (i := 10) rfl rfl (.inl rfl))) (da_cons (de_var B (i := 11) rfl rfl (.inl rfl)) da_nil)) rfl)) (de_var B (i := 10) rfl rfl (.inl rfl)) ?xl47 ?xh48 rfl rfl (.inr (.inl rfl)) ?go_38
        (case xl44 => first | decide | omega | exact (fo_pv hk.f (by omega)).1)
        (case xh45 => first | (rw [hd]; decide) | omega | exact hrj _ (by omega) | (rw [hti]; omega) | (rw [htl]; exact (fo_pv hk.f (by omega)).2.1) | (rw [htl]; exact Int.ofNat_lt.mpr hat.1) | (rw [hfl]; exact Int.ofNat_lt.mpr hat.1))
        (case c_law_plus_46 => first | exact ⟨(tyN_sz hk (by omega) (by omega)).mono (by decide), (sz_mul (sz_int (yr_lg hk _ _)) (fY_sz ds i)).mono (by decide)⟩ | exact ⟨(tyN_sz hk (Nat.le_refl _) hat.1).mono (by decide), (gd_sz (stY_gd ds).1 (by decide) (n := 30) (by decide) (by decide)).mono (by decide)⟩)
        (case xl47 => first | decide | omega | exact (fo_pv hk.f (by omega)).1)
        (case xh48 => first | (rw [hd]; decide) | omega | exact hrj _ (by omega) | (rw [hti]; omega) | (rw [htl]; exact (fo_pv hk.f (by omega)).2.1) | (rw [htl]; exact Int.ofNat_lt.mpr hat.1) | (rw [hfl]; exact Int.ofNat_lt.mpr hat.1))
        refine @go_nf _ _ _ _ _ _ [_, _, _, _, _, _, _, _, _, _, _, _, _, _, _, _, _] rfl ?go_39
        refine go_set B (i := 12) de_bl rfl (.inl rfl) ?go_40
        refine @go_nf _ _ _ _ _ _ [_, _, _, _, _, _, _, _, _, _, _, _, _, _, _, _, _] rfl ?go_41
        refine go_forS B (fun i => [(12, .im (rBl (alnN b.frame (atY ds b.size) i))), (13, .any)]) (fun i => True) (sr_seqM (R := (fun l => rTup X.K (List.map rInt l))) [] (DE.sub (de_bkF T.i_Book.o (de_var B (i := 0) rfl rfl (.inl rfl))) sub_tseq)) _ (fun i hi => (dg_name B (i := 13) rfl (.inl rfl))) ?h0_42 ?j0_43 (fun F1 u i hi hj => ?gb_44) (fun hj => ?ge_45)
        (case h0_42 => refine .same ?_; refine .same ?_; refine .same ?_; refine .same ?_; refine .same ?_; refine .same ?_; refine .same ?_; refine .same ?_; refine .same ?_; refine .same ?_; refine .same ?_; refine .same ?_; refine .im ?h ?_; (case h => exact Sub.rfl); refine .any ?_; refine .same ?_; refine .same ?_; refine .same ?_; exact .nil)
        (case j0_43 => trivial)
        case gb_44 =>
          refine @go_nf _ _ _ _ _ _ [_, _, _, _, _, _, _, _, _, _, _, _, _, _, _, _, _] rfl ?go_46
          have hfl := hk.f.len _ (getD_memL hi)
          refine go_if (DW.t (dw_and (dt_neI (de_ixAM (R := rInt) (0 : Int) ?xl49 ?xh50 (DE.sub (de_var B (i := 13) rfl rfl (.inl rfl)) sub_tseq) (de_var B (i := 10) rfl rfl (.inl rfl))) de_int) (fun hb1 => (dw_and1 (dt_eqI (de_lenM B T.b_len (DL.froz (DL.to (l' := List.map rInt ((b.frame.getD i []).filter fun x => !decide (x = 0))) (dl_lc B [("_law_number", 16)] (sr_seqM (R := rInt) (0 : Int) (DE.sub (de_var B (i := 13) rfl rfl (.inl rfl)) sub_tseq)) (blkOk_by (by decide +kernel)) _ _ (fun i2 : Nat => rInt ((b.frame.getD i []).getD i2 0)) ?sz51 (by decide) (fun _ _ _ _ _ B i2 hi => (dg_name B (i := 16) rfl (.inl rfl))) (fun _ _ _ _ _ B i2 hi => (dts_one (dt_neI (de_var B (i := 16) rfl rfl (.inl rfl)) de_int))) (fun _ _ _ _ _ B i2 hi hb => (de_var B (i := 16) rfl rfl (.inl rfl)))) ?cl52)) rfl) de_int))))) (fun hc => ?gt_47) (fun hc => ?gf_48)
          (case xl49 => first | decide | omega | exact (fo_pv hk.f (by omega)).1)
          (case xh50 => first | (rw [hd]; decide) | omega | exact hrj _ (by omega) | (rw [hti]; omega) | (rw [htl]; exact (fo_pv hk.f (by omega)).2.1) | (rw [htl]; exact Int.ofNat_lt.mpr hat.1) | (rw [hfl]; exact Int.ofNat_lt.mpr hat.1))
          (case sz51 => first | exact Nat.lt_of_le_of_lt (show _ ≤ 16 by omega) (by decide) | (rw [hfl]; exact Nat.lt_of_le_of_lt (show _ ≤ 16 by omega) (by decide)))
          (case cl52 => first | exact ty0_lc | exact tyS_lc | exact lc_map (f := fun k : Int => rNum X.K ((tyL rows ds b.size).getD k.toNat 0)) |>.trans (by rw [List.map_map]; rfl) | exact flt_lc (l := b.frame.getD i []) (f := fun x => !decide (x = 0)))
          case gt_47 =>
            skip
            refine go_set B (i := 12) de_bl rfl (.inl rfl) ?go_49
            refine @go_nf _ _ _ _ _ _ [_, _, _, _, _, _, _, _, _, _, _, _, _, _, _, _, _] rfl ?go_50
            refine go_then ?go_51
            refine go_turnS ?jn_52 ?ln_53
            (case jn_52 => trivial)
            (case ln_53 => refine .same ?_; refine .same ?_; refine .same ?_; refine .same ?_; refine .same ?_; refine .same ?_; refine .same ?_; refine .same ?_; refine .same ?_; refine .same ?_; refine .same ?_; refine .same ?_; refine .im ?h ?_; (case h => first | exact Sub.of (congrArg rBl (aln_t hc)) | exact Sub.of (congrArg rBl (aln_f hc))); refine .any ?_; refine .same ?_; refine .same ?_; refine .same ?_; exact .nil)
          case gf_48 =>
            skip
            refine go_then ?go_54
            refine go_turnS ?jn_55 ?ln_56
            (case jn_55 => trivial)
            (case ln_56 => refine .same ?_; refine .same ?_; refine .same ?_; refine .same ?_; refine .same ?_; refine .same ?_; refine .same ?_; refine .same ?_; refine .same ?_; refine .same ?_; refine .same ?_; refine .same ?_; refine .im ?h ?_; (case h => first | exact Sub.of (congrArg rBl (aln_t hc)) | exact Sub.of (congrArg rBl (aln_f hc))); refine .any ?_; refine .same ?_; refine .same ?_; refine .same ?_; exact .nil)
        case ge_45 =>
          refine @go_nf _ _ _ _ _ _ [_, _, _, _, _, _, _, _, _, _, _, _, _, _, _, _, _] rfl ?go_57
          refine go_frozH 5 rfl ?go_58
          refine @go_nf _ _ _ _ _ _ [_, _, _, _, _, _, _, _, _, _, _, _, _, _, _, _, _] rfl ?go_59
          refine go_set B (i := 9) (CA.val (ca_callO (okr_is_table X.K) B (ok_is_table T) (by decide) (_, _) ?c_is_table_53 ?o_is_table_54 (da_cons (de_var B (i := 0) rfl rfl (.inl rfl)) (da_cons (de_h2l (de_var B (i := 5) rfl rfl (.inr (.inl rfl)))) da_nil)) rfl)) rfl (.inl rfl) ?go_60
          (case c_is_table_53 => first | exact hk.it2 fun j => gd_mono (ty_gd hk j) (by decide) | exact hk.it2 fun j => ty2_gd hk j)
          (case o_is_table_54 => refine if_neg (fun z => z ?_); first | exact (List.length_set ..).trans (tyN_len _) | exact tyN_len _)
          refine @go_nf _ _ _ _ _ _ [_, _, _, _, _, _, _, _, _, _, _, _, _, _, _, _, _] rfl ?go_61
          refine go_ret R (de_and (de_cmp op_eq b2_eqB (de_isBl (de_var B (i := 9) rfl rfl (.inl rfl))) (de_var B (i := 12) rfl rfl (.inl rfl)) (nomark _)) (fun hb1 => (de_one (de_cmp op_ne b2_neB (de_isBl (de_var B (i := 9) rfl rfl (.inl rfl))) (de_var B (i := 12) rfl rfl (.inl rfl)) (nomark _))))) ?rs_62
          (case rs_62 => exact Sub.of (congrArg rBl (tY_end (ty2_tab hk))))
end K01

set_option Elab.async false
set_option linter.all false
set_option maxRecDepth 100000
set_option maxHeartbeats 4000000
namespace K01
open PySem PySem.Spec PyProof.Rows L2 DL
variable {P : Program} {w : World} {K : PySem.W.Frag} {mg : Str → Option Value} {base : Heap} {cs : Cs}
theorem sc__law_names : FnScope ["_law_book", "_law_names_here", "_law_k", "_law_told", "e"] ["_law_book", "_law_names_here"] (defScope s__law_names) := ⟨rfl, rfl, rfl, by decide +kernel, rfl, by decide +kernel, by decide +kernel⟩
def sp__law_names (K : PySem.W.Frag) (cs : Cs) : Sp := Pm (ι := Bk) (fun b => NmOk b) (fun b => [rBook K cs.Book b, rLst K (b.names.map rStr)]) (fun b => .val (rBl true))
theorem ok__law_names (T : Txt K mg cs) : Cal P w K mg base 4 "_law_names" (sp__law_names K cs) := by
  refine cal_okT T.d__law_names sc__law_names (fun g => rfl) (fun _ _ _ _ _ _ us hl => match us, hl with | [_, _], _ => rfl) ?_
  rintro X rfl rfl rfl rfl rfl Z B Bf b F0 H0 D hp R hnx
  have hn1 := hp.n1
  have hn2 := hp.n2
  refine go_forS B (fun i => [(2, .any), (3, .any)]) (fun i => True) (sr_range1 B T.b_range (de_lenM B T.b_len (de_var B (i := 1) rfl rfl (.inl rfl)) rfl) rfl ?r1 ?r2) _ (fun i hi => (dg_name B (i := 2) rfl (.inl rfl))) ?h0_1 ?j0_2 (fun F1 u i hi hj => ?gb_3) (fun hj => ?ge_4)
  (case r1 => first | omega | decide)
  (case r2 => first | omega | decide)
  (case h0_1 => refine .same ?_; refine .same ?_; refine .any ?_; refine .any ?_; refine .same ?_; exact .nil)
  (case j0_2 => trivial)
  case gb_3 =>
    refine go_set B (i := 3) (CA.val (ca_callO (okr_cell_of X.K) B (ok_cell_of T) (by decide) (_, _) trivial ?o_cell_of_5 (da_cons (de_var B (i := 0) rfl rfl (.inl rfl)) (da_cons (de_ixM (R := rStr) (default : Str) ?xl3 ?xh4 (de_var B (i := 1) rfl rfl (.inl rfl)) (de_var B (i := 2) rfl rfl (.inl rfl))) da_nil)) rfl)) rfl (.inl rfl) ?go_5
    (case xl3 => first | decide | omega)
    (case xh4 => omega)
    (case o_cell_of_5 => exact if_neg (by rw [Int.toNat_natCast, cn_at hp (by omega)]; exact Bool.noConfusion))
    refine go_if (DW.t (dw_or (dt_not (dt_val (CA.val (ca_call B (ok__law_is_int T) (by decide) _ trivial (da_cons (de_i2n (de_var B (i := 3) rfl rfl (.inl rfl))) da_nil) rfl)))) (fun hb1 => (dw_or1 (dt_neI (de_var B (i := 3) rfl rfl (.inl rfl)) (de_var B (i := 2) rfl rfl (.inl rfl))))))) (fun hc => ?gt_6) (fun hc => ?gf_7)
    case gt_6 =>
      exfalso
      rw [Int.toNat_natCast, cn_at hp (by omega)] at hc
      simp at hc
    case gf_7 =>
      skip
      refine go_then ?go_8
      refine go_turnS ?jn_9 ?ln_10
      (case jn_9 => trivial)
      (case ln_10 => refine .same ?_; refine .same ?_; refine .any ?_; refine .any ?_; refine .same ?_; exact .nil)
  case ge_4 =>
    have BO := B
    refine go_tryR B Z (i := 4) rfl rfl rfl T.x_NoCell.g (by decide) (fun pn xe B2 tk2 => ?gy_11)
    refine go_exprF (C := cs.NoCell) (fs := [("cell", .str (b.names.getD 0 default ++ "0"))]) (ex_callF B2 tk2 (ok_cell_of T) (by decide) (b, (b.names.getD 0 default ++ "0")) trivial (if_pos (by rw [show cellO b.names (b.names.getD 0 default ++ "0") = none from hp.no]; rfl)) (da_cons (de_var B2 (i := 0) rfl rfl (.inl rfl)) (da_cons (de_catS ?ct8 (de_ixM (R := rStr) (default : Str) ?xl6 ?xh7 (de_var B2 (i := 1) rfl rfl (.inl rfl)) de_int) de_str) da_nil)) rfl) (fun F H σ en H1 d s1 n1 z1 => ⟨true, (PySem.W.exm_ref T.x_NoCell.oex.exC T.x_NoCell.xf.hdC T.x_NoCell.oex.tyC T.s_NoCell_NoCell), fun _ al hal oe pn2 hz hv => ?gx_12, nofun⟩)
    (case xl6 => first | decide | omega)
    (case xh7 => omega)
    (case ct8 => exact Nat.le_trans (nm_ct hp) (by decide))
    have BSu : BS (X.suite al ((al, oe) :: pn2)) _ _ := BO.su
    obtain ⟨F1, en1⟩ := en_errF (i := 4) (a := al) en s1 n1 z1
    refine go_run en1 ?go_13
    refine go_ret (RT.su R) (de_and (de_isF BSu T.e_NoCell hz hv T.b_isinstance rfl (i := 4) rfl rfl (.inl rfl) (clsE_own (BSu.gl rfl) T.x_BookError.g) T.k_NoCell_BookError) (fun hb1 => (de_and (de_isF BSu T.e_NoCell hz hv T.b_isinstance rfl (i := 4) rfl rfl (.inl rfl) (clsE_blt (BSu.gl rfl) T.b_ValueError (by decide +kernel)) T.k_NoCell_ValueError) (fun hb2 => (de_one (de_eqS (de_fldF BSu T.x_NoCell.xf T.x_NoCell.no hz hv (i := 4) rfl rfl (.inl rfl) (v := .str (b.names.getD 0 default ++ "0")) rfl) (de_catS ?ct11 (de_ixM (R := rStr) (default : Str) ?xl9 ?xh10 (de_varS BSu (i := 1) rfl rfl (.inl rfl)) de_int) de_str))))))) ?rs_14
    (case xl9 => first | decide | omega)
    (case xh10 => omega)
    (case ct11 => exact Nat.le_trans (nm_ct hp) (by decide))
    (case rs_14 => exact Sub.of (congrArg rBl (by simp)))
theorem sc__law_sizes : FnScope ["_law_book", "_law_size", "_law_count", "_law_k"] ["_law_book", "_law_size"] (defScope s__law_sizes) := ⟨rfl, rfl, rfl, by decide +kernel, rfl, by decide +kernel, by decide +kernel⟩
def sp__law_sizes (K : PySem.W.Frag) (cs : Cs) : Sp := Pm (ι := Bk × List (List Int)) (fun ⟨b, rows⟩ => KOk b rows) (fun ⟨b, rows⟩ => [rBook K cs.Book b, rInt ((b.size : Nat) : Int)]) (fun ⟨b, rows⟩ => .val (rBl true))
theorem ok__law_sizes (T : Txt K mg cs) : Cal P w K mg base 7 "_law_sizes" (sp__law_sizes K cs) := by
  refine cal_okT T.d__law_sizes sc__law_sizes (fun g => rfl) (fun _ _ _ _ _ _ us hl => match us, hl with | [_, _], _ => rfl) ?_
  rintro X rfl rfl rfl rfl rfl Z B Bf ⟨b, rows⟩ F0 H0 D hp R hnx
  have hn1 := hp.n1
  have hn2 := hp.n2
  have hfc := hp.fcount
  refine go_forS B (fun i => [(2, .any)]) (fun i => True) (sr_tupM (R := rInt) (xs := [((b.size : Nat) : Int) - 1, ((b.size : Nat) : Int) + 1]) (0 : Int) (de_tup (da_cons (de_sub (de_var B (i := 1) rfl rfl (.inl rfl)) de_int) (da_cons (de_add (de_var B (i := 1) rfl rfl (.inl rfl)) de_int) da_nil)) (show (2 : Nat) ≤ sizeLine by decide))) _ (fun i hi => (dg_name B (i := 2) rfl (.inl rfl))) ?h0_1 ?j0_2 (fun F1 u i hi hj => ?gb_3) (fun hj => ?ge_4)
  (case h0_1 => refine .same ?_; refine .same ?_; refine .any ?_; refine .same ?_; exact .nil)
  (case j0_2 => trivial)
  case gb_3 =>
    have hs2 := sz_two hn1 hi
    have BO := B
    refine go_tryM B Z (hm_plain B.hsc rfl T.x_BadSize.g (by decide) HMx.nil) (fun pn xe B2 tk2 => ?gy_5)
    refine go_exprE (C := cs.BadSize) (ex_call B2 tk2 (ok_is_table T) (by decide) (b, cnY ([((b.size : Nat) : Int) - 1, ((b.size : Nat) : Int) + 1].getD i 0) 0) ?c_is_table_5 (if_pos (by rw [cnY_len]; exact hs2.1)) (da_cons (de_var B2 (i := 0) rfl rfl (.inl rfl)) (da_cons (DL.froz (DL.to (l' := List.map (rNum X.K) (cnY ([((b.size : Nat) : Int) - 1, ((b.size : Nat) : Int) + 1].getD i 0) 0)) (dl_lc B2 [("_law_k", 3)] (sr_range1 B2 T.b_range (de_var B2 (i := 2) rfl rfl (.inl rfl)) rfl ?r1 ?r2) (blkOk_by (by decide +kernel)) _ (fun _ => true) (fun _ : Nat => rNum X.K ((0 : Int) : Rat)) ?sz3 (by decide) (fun _ _ _ _ _ B2 i2 hi => (dg_name B2 (i := 3) rfl (.inl rfl))) (fun _ _ _ _ _ B2 i2 hi => dts_nil) (fun _ _ _ _ _ B2 i2 hi hb => (de_i2n de_int))) ?cl4)) da_nil)) rfl) (fun F H σ en H1 s1 => ⟨true, (PySem.W.exm_ref T.x_BadSize.bs T.x_BadSize.hd T.x_BadSize.ty T.s_BadSize_BadSize), fun _ al hal oe pn2 hz hv => ?gx_6, nofun⟩)
    (case r1 => have := hs2.2; omega)
    (case r2 => have := hs2.2; omega)
    (case sz3 => have := hs2.2; exact Nat.lt_of_le_of_lt (show _ ≤ 100 by omega) (by decide))
    (case cl4 => exact cnY_lc)
    (case c_is_table_5 => exact ⟨hp.pv, fun e => absurd ((cnY_len _ _).symm.trans e) hs2.1⟩)
    have BSu : BS (X.suite al ((al, oe) :: pn2)) _ _ := BO.su
    have en1 := en_err0 en s1
    refine go_run en1 ?go_7
    refine go_pass ?_
    refine go_thenY ?go_8
    refine go_turnS ?jn_9 ?ln_10
    (case jn_9 => trivial)
    (case ln_10 => refine .same ?_; refine .same ?_; refine .any ?_; refine .same ?_; exact .nil)
  case ge_4 =>
    refine go_forS B (fun i => [(2, .any)]) (fun i => True) (sr_tupM (R := rInt) (xs := [((b.frame.length : Nat) : Int) - 1, ((b.frame.length : Nat) : Int) + 1]) (0 : Int) (de_tup (da_cons (de_sub (de_lenTM B T.b_len (de_bkF T.i_Book.o (de_var B (i := 0) rfl rfl (.inl rfl))) rfl) de_int) (da_cons (de_add (de_lenTM B T.b_len (de_bkF T.i_Book.o (de_var B (i := 0) rfl rfl (.inl rfl))) rfl) de_int) da_nil)) (show (2 : Nat) ≤ sizeLine by decide))) _ (fun i hi => (dg_name B (i := 2) rfl (.inl rfl))) ?h0_11 ?j0_12 (fun F1 u i hi hj => ?gb_13) (fun hj => ?ge_14)
    (case h0_11 => refine .same ?_; refine .same ?_; refine .any ?_; refine .same ?_; exact .nil)
    (case j0_12 => trivial)
    case gb_13 =>
      refine go_if (dt_ge (de_var B (i := 2) rfl rfl (.inl rfl)) de_int) (fun hc => ?gt_15) (fun hc => ?gf_16)
      case gt_15 =>
        have hs0 := of_decide_eq_true hc
        have hs2 := sz_twF hi hs0
        have BO := B
        refine go_tryM B Z (hm_plain B.hsc rfl T.x_BadSize.g (by decide) HMx.nil) (fun pn xe B2 tk2 => ?gy_17)
        refine go_exprE (C := cs.BadSize) (ex_call B2 tk2 (ok_table_of T) (by decide) (b, cnY ([((b.frame.length : Nat) : Int) - 1, ((b.frame.length : Nat) : Int) + 1].getD i 0) 1) ?c_table_of_10 (if_pos (by rw [cnY_len]; exact hs2.1)) (da_cons (de_var B2 (i := 0) rfl rfl (.inl rfl)) (da_cons (DL.froz (DL.to (l' := List.map (rNum X.K) (cnY ([((b.frame.length : Nat) : Int) - 1, ((b.frame.length : Nat) : Int) + 1].getD i 0) 1)) (dl_lc B2 [("_law_k", 3)] (sr_range1 B2 T.b_range (de_var B2 (i := 2) rfl rfl (.inl rfl)) rfl ?r6 ?r7) (blkOk_by (by decide +kernel)) _ (fun _ => true) (fun _ : Nat => rNum X.K ((1 : Int) : Rat)) ?sz8 (by decide) (fun _ _ _ _ _ B2 i2 hi => (dg_name B2 (i := 3) rfl (.inl rfl))) (fun _ _ _ _ _ B2 i2 hi => dts_nil) (fun _ _ _ _ _ B2 i2 hi hb => (de_i2n de_int))) ?cl9)) da_nil)) rfl) (fun F H σ en H1 s1 => ⟨true, (PySem.W.exm_ref T.x_BadSize.bs T.x_BadSize.hd T.x_BadSize.ty T.s_BadSize_BadSize), fun _ al hal oe pn2 hz hv => ?gx_18, nofun⟩)
        (case r6 => have := hs2.2; omega)
        (case r7 => have := hs2.2; omega)
        (case sz8 => have := hs2.2; exact Nat.lt_of_le_of_lt (show _ ≤ 100 by omega) (by decide))
        (case cl9 => exact cnY_lc)
        (case c_table_of_10 => exact ⟨hp.pv, fun e => absurd ((cnY_len _ _).symm.trans e) hs2.1⟩)
        have BSu : BS (X.suite al ((al, oe) :: pn2)) _ _ := BO.su
        have en1 := en_err0 en s1
        refine go_run en1 ?go_19
        refine go_pass ?_
        refine go_thenY ?go_20
        refine go_then ?go_21
        refine go_turnS ?jn_22 ?ln_23
        (case jn_22 => trivial)
        (case ln_23 => refine .same ?_; refine .same ?_; refine .any ?_; refine .same ?_; exact .nil)
      case gf_16 =>
        skip
        refine go_then ?go_24
        refine go_turnS ?jn_25 ?ln_26
        (case jn_25 => trivial)
        (case ln_26 => refine .same ?_; refine .same ?_; refine .any ?_; refine .same ?_; exact .nil)
    case ge_14 =>
      refine go_ret R de_bl ?rs_27
      (case rs_27 => exact Sub.rfl)
theorem sc__law_refused : FnScope ["_law_names_here", "_law_rows_here", "e"] ["_law_names_here", "_law_rows_here"] (defScope s__law_refused) := ⟨rfl, rfl, rfl, by decide +kernel, rfl, by decide +kernel, by decide +kernel⟩
def sp__law_refused (K : PySem.W.Frag) (cs : Cs) : Sp := Pm (ι := List Str × List (List Int)) (fun ⟨names, rows⟩ => BookOk names (rows.map toQ)) (fun ⟨names, rows⟩ => [rLst K (names.map rStr), rLst K (rows.map fun l => rLst K (l.map rInt))]) (fun ⟨names, rows⟩ => .val (rStr (refS names rows)))
theorem ok__law_refused (T : Txt K mg cs) : Cal P w K mg base 8 "_law_refused" (sp__law_refused K cs) := by
  refine cal_okT T.d__law_refused sc__law_refused (fun g => rfl) (fun _ _ _ _ _ _ us hl => match us, hl with | [_, _], _ => rfl) ?_
  rintro X rfl rfl rfl rfl rfl Z B Bf ⟨names, rows⟩ F0 H0 D hp R hnx
  have BO := B
  refine go_tryM B Z (hm_named B.hsc B.hN rfl T.x_BadSize.g (by decide) (i := 2) rfl rfl (hm_named B.hsc B.hN rfl T.x_BadName.g (by decide) (i := 2) rfl rfl HMx.nil)) (fun pn xe B2 tk2 => ?gy_1)
  by_cases hz1 : ¬ (1 ≤ names.length ∧ names.length ≤ 16)
  · refine go_exprE (C := cs.BadSize) (ex_make B2 tk2 (ok_Book T) (by decide) (names, rows.map toQ) ?c_Book_1 (if_pos hz1) (da_cons (DE.sub (de_var B2 (i := 0) rfl rfl (.inl rfl)) sub_lseq) (da_cons (de_ll2n (de_var B2 (i := 1) rfl rfl (.inl rfl))) da_nil)) rfl) (fun F H σ en H1 s1 => ⟨true, (PySem.W.exm_ref T.x_BadSize.bs T.x_BadSize.hd T.x_BadSize.ty T.s_BadSize_BadSize), fun _ al hal oe pn2 hz hv => ?gx_2, nofun⟩)
    (case c_Book_1 => exact hp)
    have BSu : BS (X.suite al ((al, oe) :: pn2)) _ _ := BO.su
    have en1 := en_err (i := 2) (a := al) en s1
    refine go_run en1 ?go_3
    refine go_ret (RT.su R) (de_if (DW.t (dw_and (dt_val (de_isF BSu T.e_BadSize hz hv T.b_isinstance rfl (i := 2) rfl rfl (.inl rfl) (clsE_own (BSu.gl rfl) T.x_BookError.g) T.k_BadSize_BookError)) (fun hb1 => (dw_and1 (dt_val (de_isF BSu T.e_BadSize hz hv T.b_isinstance rfl (i := 2) rfl rfl (.inl rfl) (clsE_blt (BSu.gl rfl) T.b_ValueError (by decide +kernel)) T.k_BadSize_ValueError)))))) (fun hc => de_str) (fun hc => absurd hc (by decide))) ?rs_4
    (case rs_4 => first | exact Sub.of (congrArg rStr (if_pos hz1).symm) | exact Sub.of (congrArg rStr ((if_neg hz1).trans ((if_neg hz2).trans (if_pos hz3))).symm))
  by_cases hz2 : namesOk names = false
  · refine go_exprE (C := cs.BadName) (ex_make B2 tk2 (ok_Book T) (by decide) (names, rows.map toQ) ?c_Book_2 ((if_neg hz1).trans (if_pos hz2)) (da_cons (DE.sub (de_var B2 (i := 0) rfl rfl (.inl rfl)) sub_lseq) (da_cons (de_ll2n (de_var B2 (i := 1) rfl rfl (.inl rfl))) da_nil)) rfl) (fun F H σ en H1 s1 => ⟨false, (PySem.W.exm_ref T.x_BadSize.bs T.x_BadSize.hd T.x_BadSize.ty T.s_BadName_BadSize), nofun, fun _ => ⟨true, (PySem.W.exm_ref T.x_BadName.bs T.x_BadName.hd T.x_BadName.ty T.s_BadName_BadName), fun _ al hal oe pn2 hz hv => ?gx_5, nofun⟩⟩)
    (case c_Book_2 => exact hp)
    have BSu : BS (X.suite al ((al, oe) :: pn2)) _ _ := BO.su
    have en1 := en_err (i := 2) (a := al) en s1
    refine go_run en1 ?go_6
    refine go_ret (RT.su R) (de_if (DW.t (dw_and (dt_val (de_isF BSu T.e_BadName hz hv T.b_isinstance rfl (i := 2) rfl rfl (.inl rfl) (clsE_own (BSu.gl rfl) T.x_BookError.g) T.k_BadName_BookError)) (fun hb1 => (dw_and1 (dt_val (de_isF BSu T.e_BadName hz hv T.b_isinstance rfl (i := 2) rfl rfl (.inl rfl) (clsE_blt (BSu.gl rfl) T.b_ValueError (by decide +kernel)) T.k_BadName_ValueError)))))) (fun hc => de_str) (fun hc => absurd hc (by decide))) ?rs_7
    (case rs_7 => exact Sub.of (congrArg rStr ((if_neg hz1).trans (if_pos hz2)).symm))
  by_cases hz3 : lensOk names.length (rows.map toQ) = false
  · refine go_exprE (C := cs.BadSize) (ex_make B2 tk2 (ok_Book T) (by decide) (names, rows.map toQ) ?c_Book_3 ((if_neg hz1).trans ((if_neg hz2).trans (if_pos hz3))) (da_cons (DE.sub (de_var B2 (i := 0) rfl rfl (.inl rfl)) sub_lseq) (da_cons (de_ll2n (de_var B2 (i := 1) rfl rfl (.inl rfl))) da_nil)) rfl) (fun F H σ en H1 s1 => ⟨true, (PySem.W.exm_ref T.x_BadSize.bs T.x_BadSize.hd T.x_BadSize.ty T.s_BadSize_BadSize), fun _ al hal oe pn2 hz hv => ?gx_8, nofun⟩)
    (case c_Book_3 => exact hp)
    have BSu : BS (X.suite al ((al, oe) :: pn2)) _ _ := BO.su
    have en1 := en_err (i := 2) (a := al) en s1
    refine go_run en1 ?go_9
    refine go_ret (RT.su R) (de_if (DW.t (dw_and (dt_val (de_isF BSu T.e_BadSize hz hv T.b_isinstance rfl (i := 2) rfl rfl (.inl rfl) (clsE_own (BSu.gl rfl) T.x_BookError.g) T.k_BadSize_BookError)) (fun hb1 => (dw_and1 (dt_val (de_isF BSu T.e_BadSize hz hv T.b_isinstance rfl (i := 2) rfl rfl (.inl rfl) (clsE_blt (BSu.gl rfl) T.b_ValueError (by decide +kernel)) T.k_BadSize_ValueError)))))) (fun hc => de_str) (fun hc => absurd hc (by decide))) ?rs_10
    (case rs_10 => first | exact Sub.of (congrArg rStr (if_pos hz1).symm) | exact Sub.of (congrArg rStr ((if_neg hz1).trans ((if_neg hz2).trans (if_pos hz3))).symm))
  refine go_expr (DE.to (r' := rBook X.K cs.Book ⟨_, frameQ _ _⟩) (de_make (okr_Book X.K) B2 (ok_Book T) (by decide) (names, rows.map toQ) ?c_Book_4 ((if_neg hz1).trans ((if_neg hz2).trans (if_neg hz3))) rfl (da_cons (DE.sub (de_var B2 (i := 0) rfl rfl (.inl rfl)) sub_lseq) (da_cons (de_ll2n (de_var B2 (i := 1) rfl rfl (.inl rfl))) da_nil)) rfl) rfl) ?go_11
  (case c_Book_4 => exact hp)
  refine go_thenY ?go_12
  refine go_ret R de_str ?rs_13
  (case rs_13 => exact Sub.of (congrArg rStr ((if_neg hz1).trans ((if_neg hz2).trans (if_neg hz3))).symm))
theorem sc__law_other : FnScope ["_law_book", "_law_size", "_law_other_here", "_law_row", "_law_lead"] ["_law_book", "_law_size"] (defScope s__law_other) := ⟨rfl, rfl, rfl, by decide +kernel, rfl, by decide +kernel, by decide +kernel⟩
def sp__law_other (K : PySem.W.Frag) (cs : Cs) : Sp := Pm (ι := Bk × List (List Int)) (fun ⟨b, rows⟩ => KOk b rows) (fun ⟨b, rows⟩ => [rBook K cs.Book b, rInt ((b.size : Nat) : Int)]) (fun ⟨b, rows⟩ => .val (rBl true))
theorem ok__law_other (T : Txt K mg cs) : Cal P w K mg base 9 "_law_other" (sp__law_other K cs) := by
  refine cal_ok T.d__law_other sc__law_other (fun g => rfl) (fun _ _ _ _ _ _ us hl => match us, hl with | [_, _], _ => rfl) ?_
  rintro X rfl rfl rfl rfl rfl B Bf ⟨b, rows⟩ F0 H0 D hp R hnx
  have hn2 := hp.n2
  refine go_set B (i := 2) (DE.to (r' := rBook X.K cs.Book (othB b)) (CA.val (ca_call B (ok_other_side T) (by decide) _ ?c_os_1 (da_cons (de_var B (i := 0) rfl rfl (.inl rfl)) da_nil) rfl)) ?to2) rfl (.inl rfl) ?go_1
  (case c_os_1 => exact hp.os)
  (case to2 => rfl)
  refine go_if (DW.t (dw_or (dt_neTS B ?so3 ?so4 (de_bkN T.i_Book.o (de_var B (i := 2) rfl rfl (.inl rfl))) (de_bkN T.i_Book.o (de_var B (i := 0) rfl rfl (.inl rfl)))) (fun hb1 => (dw_or (dt_neI (de_bkS T.i_Book.o (de_var B (i := 2) rfl rfl (.inl rfl))) (de_var B (i := 1) rfl rfl (.inl rfl))) (fun hb2 => (dw_or1 (dt_neI (de_lenTM B T.b_len (de_bkF T.i_Book.o (de_var B (i := 2) rfl rfl (.inl rfl))) rfl) (de_sub (de_var B (i := 1) rfl rfl (.inl rfl)) (de_lenTM B T.b_len (de_bkF T.i_Book.o (de_var B (i := 0) rfl rfl (.inl rfl))) rfl))))))))) (fun hc => ?gt_2) (fun hc => ?gf_3)
  (case so3 => exact hp.strs)
  (case so4 => exact hp.strs)
  case gt_2 =>
    exfalso
    exact Bool.false_ne_true ((ot_c1 hp).symm.trans hc)
  case gf_3 =>
    skip
    refine go_then ?go_4
    refine go_forS B (fun i => [(3, .any), (4, .any)]) (fun i => True) (sr_seqM (R := (fun l => rTup X.K (List.map rInt l))) [] (DE.sub (de_bkF T.i_Book.o (de_var B (i := 2) rfl rfl (.inl rfl))) sub_tseq)) _ (fun i hi => (dg_name B (i := 3) rfl (.inl rfl))) ?h0_5 ?j0_6 (fun F1 u i hi hj => ?gb_7) (fun hj => ?ge_8)
    (case h0_5 => refine .same ?_; refine .same ?_; refine .same ?_; refine .any ?_; refine .any ?_; exact .nil)
    (case j0_6 => trivial)
    case gb_7 =>
      have hg := getD_memL hi
      refine go_forS B (fun i2 => [(4, .any)]) (fun i2 => True) (sr_seqM (R := (fun l => rTup X.K (List.map rInt l))) [] (DE.sub (de_bkF T.i_Book.o (de_var B (i := 0) rfl rfl (.inl rfl))) sub_tseq)) _ (fun i2 hi2 => (dg_name B (i := 4) rfl (.inl rfl))) ?h0_9 ?j0_10 (fun F12 u2 i2 hi2 hj2 => ?gb_11) (fun hj2 => ?ge_12)
      (case h0_9 => refine .same ?_; refine .same ?_; refine .same ?_; refine .same ?_; refine .any ?_; exact .nil)
      (case j0_10 => trivial)
      case gb_11 =>
        have hdt := hp.dot hg (getD_memL hi2)
        refine go_if (dt_neN B (CA.val (ca_call B (ok__law_dot T) (by decide) (toQ ((othB b).frame.getD i []), toQ (b.frame.getD i2 [])) ?c_law_dot_5 (da_cons (de_ti2sn (de_var B (i := 3) rfl rfl (.inl rfl))) (da_cons (de_ti2sn (de_var B (i := 4) rfl rfl (.inl rfl))) da_nil)) rfl)) (de_i2n de_int)) (fun hc => ?gt_13) (fun hc => ?gf_14)
        (case c_law_dot_5 => exact hdt.1)
        case gt_13 =>
          exfalso
          rw [hdt.2] at hc
          simp at hc
        case gf_14 =>
          skip
          refine go_then ?go_15
          refine go_turnS ?jn_16 ?ln_17
          (case jn_16 => trivial)
          (case ln_17 => refine .same ?_; refine .same ?_; refine .same ?_; refine .same ?_; refine .any ?_; exact .nil)
      case ge_12 =>
        refine go_turnS ?jn_18 ?ln_19
        (case jn_18 => trivial)
        (case ln_19 => refine .same ?_; refine .same ?_; refine .same ?_; refine .any ?_; refine .any ?_; exact .nil)
    case ge_8 =>
      refine go_if (dt_neI (de_lenTM B T.b_len (de_bkF T.i_Book.o (de_var B (i := 2) rfl rfl (.inl rfl))) rfl) (CA.val (ca_call B (ok__law_rank T) (by decide) ((othB b).frame, b.size) ?c_law_rank_6 (da_cons (de_var B (i := 1) rfl rfl (.inl rfl)) (da_cons (DE.sub (de_bkF T.i_Book.o (de_var B (i := 2) rfl rfl (.inl rfl))) (Sub.trans (sub_tupM (R := (fun l => rTup X.K (List.map rInt l))) (R' := (fun l => rSeq X.K (List.map rInt l))) (fun _ => sub_tseq)) sub_tseq)) da_nil)) rfl))) (fun hc => ?gt_20) (fun hc => ?gf_21)
      (case c_law_rank_6 => exact hp.rank2)
      case gt_20 =>
        exfalso
        rw [show (gre (Sp ((othB b).frame.map vi)) [] (List.range b.size)).length = (othB b).frame.length from ot_rk hp] at hc
        simp at hc
      case gf_21 =>
        skip
        refine go_then ?go_22
        refine go_ret R (de_and (de_isBl (CA.val (ca_call B (ok_same_book T) (by decide) (_, _) ?c_same_book_8 (da_cons (CA.val (ca_call B (ok_other_side T) (by decide) _ ?c_osb_7 (da_cons (de_var B (i := 2) rfl rfl (.inl rfl)) da_nil) rfl)) (da_cons (de_var B (i := 0) rfl rfl (.inl rfl)) da_nil)) rfl))) (fun hb1 => (de_one (de_cmp op_eq b2_eqB (de_isBl (CA.val (ca_call B (ok_same_book T) (by decide) (_, _) ?c_same_book_9 (da_cons (de_var B (i := 2) rfl rfl (.inl rfl)) (da_cons (de_var B (i := 0) rfl rfl (.inl rfl)) da_nil)) rfl))) (de_eqT (dat_tup (dat_tup dat_int)) (by decide) B (de_bkF T.i_Book.o (de_var B (i := 2) rfl rfl (.inl rfl))) (de_bkF T.i_Book.o (de_var B (i := 0) rfl rfl (.inl rfl)))) (nomark _))))) ?rs_23
        (case c_osb_7 => exact hp.os2)
        (case c_same_book_8 => exact ⟨hp.strs, hp.strs⟩)
        (case c_same_book_9 => exact ⟨hp.strs, hp.strs⟩)
        (case rs_23 => exact Sub.of (congrArg rBl (ot_end hp)))
end K01

set_option Elab.async false
set_option linter.all false
set_option maxRecDepth 100000
set_option maxHeartbeats 4000000
namespace K01
open PySem PySem.Spec PyProof.Rows L2 DL
variable {P : Program} {w : World} {K : PySem.W.Frag} {mg : Str → Option Value} {base : Heap} {cs : Cs}
theorem sc__law_refusals : FnScope ["_law_names_here", "_law_rows_here", "_law_numbers_here", "_law_at", "_law_spoilt", "_law_wrong", "_law_short", "_law_double", "_law_many", "_law_row", "_law_name", "_law_k"] ["_law_names_here", "_law_rows_here", "_law_numbers_here"] (defScope s__law_refusals) := ⟨rfl, rfl, rfl, by decide +kernel, rfl, by decide +kernel, by decide +kernel⟩
def sp__law_refusals (K : PySem.W.Frag) (cs : Cs) : Sp := Pm (ι := List Str × List (List Int) × List Int) (fun ⟨names, rows, ds⟩ => RfY names rows ds) (fun ⟨names, rows, ds⟩ => [rLst K (names.map rStr), rLst K (rows.map fun l => rLst K (l.map rInt)), rLst K (ds.map rInt)]) (fun ⟨names, rows, ds⟩ => .val (rBl true))
theorem ok__law_refusals (T : Txt K mg cs) : Cal P w K mg base 9 "_law_refusals" (sp__law_refusals K cs) := by
  refine cal_ok T.d__law_refusals sc__law_refusals (fun g => rfl) (fun _ _ _ _ _ _ us hl => match us, hl with | [_, _, _], _ => rfl) ?_
  rintro X rfl rfl rfl rfl rfl B Bf ⟨names, rows, ds⟩ F0 H0 D hp R hnx
  have hn1 := hp.n1
  have hn2 := hp.n2
  have hd := hp.d
  have hm := hp.m
  have hat := aY_b (ds := ds) hn1
  refine @go_nf _ _ _ _ _ _ [_, _, _, _, _, _, _, _, _, _, _, _] rfl ?go_1
  refine go_set B (i := 3) (DE.to (r' := rInt ((aY names ds : Nat) : Int)) (de_mod ?z3 (de_toInt B T.b_int (de_ixM (R := rInt) (0 : Int) ?xl1 ?xh2 (de_var B (i := 2) rfl rfl (.inl rfl)) de_int) rfl) (de_lenM B T.b_len (de_var B (i := 0) rfl rfl (.inl rfl)) rfl)) ?to4) rfl (.inl rfl) ?go_2
  (case xl1 => first | decide | omega | exact (fm_bY _ (by decide)).1)
  (case xh2 => first | (rw [hd]; decide) | omega | exact (fm_bY _ (by decide)).2)
  (case z3 => first | decide | omega)
  (case to4 => exact congrArg rInt hat.2.symm)
  refine @go_nf _ _ _ _ _ _ [_, _, _, _, _, _, _, _, _, _, _, _] rfl ?go_3
  refine go_setL B (i := 4) (dl_list B T.b_list (de_var B (i := 0) rfl rfl (.inl rfl)) rfl) rfl (.inl rfl) ?go_4
  refine @go_nf _ _ _ _ _ _ [_, _, _, _, _, _, _, _, _, _, _, _] rfl ?go_5
  refine go_putM (R := rStr) B (i := 4) (de_ixM (R := rStr) (default : Str) ?xl8 ?xh9 (DL.froz (dl_lst (da_strs (ss := ["", "1a", "A", "a b", "a_", "abcdefghijklm", "-", "b."]) rfl) (show (8 : Nat) ≤ sizeLine by decide))) (de_mod ?z7 (de_toInt B T.b_int (de_ixM (R := rInt) (0 : Int) ?xl5 ?xh6 (de_var B (i := 2) rfl rfl (.inl rfl)) de_int) rfl) de_int)) (de_var B (i := 3) rfl rfl (.inl rfl)) ?xl10 ?xh11 rfl rfl (.inl rfl) ?go_6
  (case xl5 => first | decide | omega | exact (fm_bY _ (by decide)).1)
  (case xh6 => first | (rw [hd]; decide) | omega | exact (fm_bY _ (by decide)).2)
  (case z7 => first | decide | omega)
  (case xl8 => first | decide | omega | exact (fm_bY _ (by decide)).1)
  (case xh9 => first | (rw [hd]; decide) | omega | exact (fm_bY _ (by decide)).2)
  (case xl10 => first | decide | omega | exact (fm_bY _ (by decide)).1)
  (case xh11 => first | (rw [hd]; decide) | omega | exact (fm_bY _ (by decide)).2)
  refine @go_nf _ _ _ _ _ _ [_, _, _, _, _, _, _, _, _, _, _, _] rfl ?go_7
  refine go_setL B (i := 5) (DL.to (l' := List.map (fun l => rLst X.K (List.map rInt l)) (wrY names rows)) (dl_catH ?cz18 (DL.hfz (DL.to (l' := List.map (fun l => rLst X.K (List.map rInt l)) (rows)) (dl_lc B [("_law_row", 9)] (sr_listM (R := (fun l => rLst X.K (List.map rInt l))) [] (de_var B (i := 1) rfl rfl (.inl rfl))) (blkOk_by (by decide +kernel)) _ (fun _ => true) (fun i : Nat => rLst X.K ((rows.getD i []).map rInt)) ?sz12 (by decide) (fun _ _ _ _ _ B i hi => (dg_name B (i := 9) rfl (.inl rfl))) (fun _ _ _ _ _ B i hi => dts_nil) (fun _ _ _ _ _ B i hi hb => (DL.froz (dl_list B T.b_list (de_var B (i := 9) rfl rfl (.inl rfl)) rfl)))) ?cl13)) (DL.hfz (dl_lst (da_cons (DL.froz (DL.to (l' := List.map rInt (List.replicate names.length (1 : Int) ++ [2])) (dl_catH ?cz16 (DL.hfz (DL.to (l' := List.map rInt (List.replicate names.length (1 : Int))) (dl_lc B [("_law_name", 10)] (sr_listM (R := rStr) (default : Str) (de_var B (i := 0) rfl rfl (.inl rfl))) (blkOk_by (by decide +kernel)) _ (fun _ => true) (fun _ : Nat => rInt 1) ?sz14 (by decide) (fun _ _ _ _ _ B i hi => (dg_name B (i := 10) rfl (.inl rfl))) (fun _ _ _ _ _ B i hi => dts_nil) (fun _ _ _ _ _ B i hi hb => de_int)) ?cl15)) (DL.hfz (dl_lst (da_cons de_int da_nil) (show (1 : Nat) ≤ sizeLine by decide)))) ?cl17)) da_nil) (show (1 : Nat) ≤ sizeLine by decide)))) ?cl19) rfl (.inl rfl) ?go_8
  (case sz12 => first | exact Nat.lt_of_le_of_lt (show _ ≤ 17 by omega) (by decide) | exact Nat.lt_of_le_of_lt (show _ ≤ 17 by rw [List.length_drop]; omega) (by decide))
  (case cl13 => first | exact lc_map (f := fun r : List Int => rLst X.K (r.map rInt)) | exact rp_lc | exact lc_map (f := fun x : Str => rStr (exS x)) |>.trans (by rw [List.map_map]; rfl) | exact ny_lc | exact on_lc (R := rInt) | exact wr_lc (R := fun l => rLst X.K (List.map rInt l)) | exact sh_lc (R := fun l => rLst X.K (List.map rInt l)) | (rw [mnY_is, List.map_append]))
  (case sz14 => first | exact Nat.lt_of_le_of_lt (show _ ≤ 17 by omega) (by decide) | exact Nat.lt_of_le_of_lt (show _ ≤ 17 by rw [List.length_drop]; omega) (by decide))
  (case cl15 => first | exact lc_map (f := fun r : List Int => rLst X.K (r.map rInt)) | exact rp_lc | exact lc_map (f := fun x : Str => rStr (exS x)) |>.trans (by rw [List.map_map]; rfl) | exact ny_lc | exact on_lc (R := rInt) | exact wr_lc (R := fun l => rLst X.K (List.map rInt l)) | exact sh_lc (R := fun l => rLst X.K (List.map rInt l)) | (rw [mnY_is, List.map_append]))
  (case cz16 => exact Nat.le_trans (show _ ≤ 40 by simp; omega) (by decide))
  (case cl17 => first | exact lc_map (f := fun r : List Int => rLst X.K (r.map rInt)) | exact rp_lc | exact lc_map (f := fun x : Str => rStr (exS x)) |>.trans (by rw [List.map_map]; rfl) | exact ny_lc | exact on_lc (R := rInt) | exact wr_lc (R := fun l => rLst X.K (List.map rInt l)) | exact sh_lc (R := fun l => rLst X.K (List.map rInt l)) | (rw [mnY_is, List.map_append]))
  (case cz18 => exact Nat.le_trans (show _ ≤ 40 by simp; omega) (by decide))
  (case cl19 => first | exact lc_map (f := fun r : List Int => rLst X.K (r.map rInt)) | exact rp_lc | exact lc_map (f := fun x : Str => rStr (exS x)) |>.trans (by rw [List.map_map]; rfl) | exact ny_lc | exact on_lc (R := rInt) | exact wr_lc (R := fun l => rLst X.K (List.map rInt l)) | exact sh_lc (R := fun l => rLst X.K (List.map rInt l)) | (rw [mnY_is, List.map_append]))
  refine @go_nf _ _ _ _ _ _ [_, _, _, _, _, _, _, _, _, _, _, _] rfl ?go_9
  refine go_froz 5 rfl ?go_10
  refine @go_nf _ _ _ _ _ _ [_, _, _, _, _, _, _, _, _, _, _, _] rfl ?go_11
  refine go_setL B (i := 6) (DL.to (l' := List.map (fun l => rLst X.K (List.map rInt l)) (shY names rows)) (dl_catH ?cz25 (DL.hfz (dl_lst (da_cons (DL.froz (DL.to (l' := List.map rInt (List.replicate (names.drop (Int.toNat 1)).length (1 : Int))) (dl_lc B [("_law_name", 10)] (sr_listM (R := rStr) (default : Str) (DL.froz (dl_from (de_var B (i := 0) rfl rfl (.inl rfl)) ?sl20 de_int))) (blkOk_by (by decide +kernel)) _ (fun _ => true) (fun _ : Nat => rInt 1) ?sz21 (by decide) (fun _ _ _ _ _ B i hi => (dg_name B (i := 10) rfl (.inl rfl))) (fun _ _ _ _ _ B i hi => dts_nil) (fun _ _ _ _ _ B i hi hb => de_int)) ?cl22)) da_nil) (show (1 : Nat) ≤ sizeLine by decide))) (DL.hfz (DL.to (l' := List.map (fun l => rLst X.K (List.map rInt l)) (rows)) (dl_lc B [("_law_row", 9)] (sr_listM (R := (fun l => rLst X.K (List.map rInt l))) [] (de_var B (i := 1) rfl rfl (.inl rfl))) (blkOk_by (by decide +kernel)) _ (fun _ => true) (fun i : Nat => rLst X.K ((rows.getD i []).map rInt)) ?sz23 (by decide) (fun _ _ _ _ _ B i hi => (dg_name B (i := 9) rfl (.inl rfl))) (fun _ _ _ _ _ B i hi => dts_nil) (fun _ _ _ _ _ B i hi hb => (DL.froz (dl_list B T.b_list (de_var B (i := 9) rfl rfl (.inl rfl)) rfl)))) ?cl24))) ?cl26) rfl (.inl rfl) ?go_12
  (case sl20 => decide)
  (case sz21 => first | exact Nat.lt_of_le_of_lt (show _ ≤ 17 by omega) (by decide) | exact Nat.lt_of_le_of_lt (show _ ≤ 17 by rw [List.length_drop]; omega) (by decide))
  (case cl22 => first | exact lc_map (f := fun r : List Int => rLst X.K (r.map rInt)) | exact rp_lc | exact lc_map (f := fun x : Str => rStr (exS x)) |>.trans (by rw [List.map_map]; rfl) | exact ny_lc | exact on_lc (R := rInt) | exact wr_lc (R := fun l => rLst X.K (List.map rInt l)) | exact sh_lc (R := fun l => rLst X.K (List.map rInt l)) | (rw [mnY_is, List.map_append]))
  (case sz23 => first | exact Nat.lt_of_le_of_lt (show _ ≤ 17 by omega) (by decide) | exact Nat.lt_of_le_of_lt (show _ ≤ 17 by rw [List.length_drop]; omega) (by decide))
  (case cl24 => first | exact lc_map (f := fun r : List Int => rLst X.K (r.map rInt)) | exact rp_lc | exact lc_map (f := fun x : Str => rStr (exS x)) |>.trans (by rw [List.map_map]; rfl) | exact ny_lc | exact on_lc (R := rInt) | exact wr_lc (R := fun l => rLst X.K (List.map rInt l)) | exact sh_lc (R := fun l => rLst X.K (List.map rInt l)) | (rw [mnY_is, List.map_append]))
  (case cz25 => exact Nat.le_trans (show _ ≤ 40 by simp; omega) (by decide))
  (case cl26 => first | exact lc_map (f := fun r : List Int => rLst X.K (r.map rInt)) | exact rp_lc | exact lc_map (f := fun x : Str => rStr (exS x)) |>.trans (by rw [List.map_map]; rfl) | exact ny_lc | exact on_lc (R := rInt) | exact wr_lc (R := fun l => rLst X.K (List.map rInt l)) | exact sh_lc (R := fun l => rLst X.K (List.map rInt l)) | (rw [mnY_is, List.map_append]))
  refine @go_nf _ _ _ _ _ _ [_, _, _, _, _, _, _, _, _, _, _, _] rfl ?go_13
  refine go_froz 6 rfl ?go_14
  refine @go_nf _ _ _ _ _ _ [_, _, _, _, _, _, _, _, _, _, _, _] rfl ?go_15
  refine go_frozH 4 rfl ?go_16
  refine @go_nf _ _ _ _ _ _ [_, _, _, _, _, _, _, _, _, _, _, _] rfl ?go_17
  refine go_if (DW.t (dw_or (dt_neS (CA.val (ca_call B (ok__law_refused T) (by decide) (spY names ds, rows) ?c_ra_27 (da_cons (de_h2l (de_var B (i := 4) rfl rfl (.inl rfl))) (da_cons (de_var B (i := 1) rfl rfl (.inl rfl)) da_nil)) rfl)) de_str) (fun hb1 => (dw_or1 (dt_neS (CA.val (ca_call B (ok__law_refused T) (by decide) (spY names ds, wrY names rows) ?c_rb_28 (da_cons (de_h2l (de_var B (i := 4) rfl rfl (.inl rfl))) (da_cons (de_var B (i := 5) rfl rfl (.inl rfl)) da_nil)) rfl)) de_str))))) (fun hc => ?gt_18) (fun hc => ?gf_19)
  (case c_ra_27 => exact rf1 hp)
  (case c_rb_28 => exact rf2 hp)
  case gt_18 =>
    exfalso
    exact Bool.false_ne_true ((rfA hp).symm.trans hc)
  case gf_19 =>
    skip
    refine go_then ?go_20
    refine go_if (DW.t (dw_or (dt_neS (CA.val (ca_call B (ok__law_refused T) (by decide) (names, wrY names rows) ?c_rc_29 (da_cons (de_var B (i := 0) rfl rfl (.inl rfl)) (da_cons (de_var B (i := 5) rfl rfl (.inl rfl)) da_nil)) rfl)) de_str) (fun hb1 => (dw_or1 (dt_neS (CA.val (ca_call B (ok__law_refused T) (by decide) (names, shY names rows) ?c_rd_30 (da_cons (de_var B (i := 0) rfl rfl (.inl rfl)) (da_cons (de_var B (i := 6) rfl rfl (.inl rfl)) da_nil)) rfl)) de_str))))) (fun hc => ?gt_21) (fun hc => ?gf_22)
    (case c_rc_29 => exact rf3 hp)
    (case c_rd_30 => exact rf4 hp)
    case gt_21 =>
      exfalso
      exact Bool.false_ne_true ((rfB hp).symm.trans hc)
    case gf_22 =>
      skip
      refine go_then ?go_23
      refine go_ifK [(7, .any)] (dt_gt (de_lenM B T.b_len (de_var B (i := 0) rfl rfl (.inl rfl)) rfl) de_int) ?gk_24 (fun hk hc => ?gt_25) (fun hk hc => ?gf_26)
      case gt_25 =>
        have h2 := of_decide_eq_true hc
        refine go_setL B (i := 7) (dl_list B T.b_list (de_var B (i := 0) rfl rfl (.inl rfl)) rfl) rfl (.inl rfl) ?go_27
        refine @go_nf _ _ _ _ _ _ [_, _, _, _, _, _, _, _, _, _, _, _] rfl ?go_28
        refine go_putM (R := rStr) B (i := 7) (de_ixMZ (R := rStr) (default : Str) ?xl46 ?xh47 (de_var B (i := 0) rfl rfl (.inl rfl)) (de_sub (de_var B (i := 3) rfl rfl (.inl rfl)) de_int)) (de_var B (i := 3) rfl rfl (.inl rfl)) ?xl48 ?xh49 rfl rfl (.inl rfl) ?go_29
        (case xl46 => first | decide | omega | exact (fm_bY _ (by decide)).1)
        (case xh47 => first | (rw [hd]; decide) | omega | exact (fm_bY _ (by decide)).2)
        (case xl48 => first | decide | omega | exact (fm_bY _ (by decide)).1)
        (case xh49 => first | (rw [hd]; decide) | omega | exact (fm_bY _ (by decide)).2)
        refine @go_nf _ _ _ _ _ _ [_, _, _, _, _, _, _, _, _, _, _, _] rfl ?go_30
        refine go_frozH 7 rfl ?go_31
        refine @go_nf _ _ _ _ _ _ [_, _, _, _, _, _, _, _, _, _, _, _] rfl ?go_32
        refine go_if (dt_neS (CA.val (ca_call B (ok__law_refused T) (by decide) (dbY names ds, rows) ?c_re_50 (da_cons (de_h2l (de_var B (i := 7) rfl rfl (.inl rfl))) (da_cons (de_var B (i := 1) rfl rfl (.inl rfl)) da_nil)) rfl)) de_str) (fun hc => ?gt_33) (fun hc => ?gf_34)
        (case c_re_50 => exact rf5 hp)
        case gt_33 =>
          exfalso
          exact Bool.false_ne_true ((rfC hp (by omega)).symm.trans hc)
        case gf_34 =>
          skip
          refine go_then ?go_35
          refine go_join hk ?jl_36
          (case jl_36 => refine .same ?_; refine .same ?_; refine .same ?_; refine .same ?_; refine .same ?_; refine .same ?_; refine .same ?_; refine .any ?_; refine .same ?_; refine .same ?_; refine .same ?_; refine .same ?_; exact .nil)
      case gf_26 =>
        skip
        refine go_join hk ?jl_37
        (case jl_37 => refine .same ?_; refine .same ?_; refine .same ?_; refine .same ?_; refine .same ?_; refine .same ?_; refine .same ?_; refine .any ?_; refine .same ?_; refine .same ?_; refine .same ?_; refine .same ?_; exact .nil)
      case gk_24 =>
        refine @go_nf _ _ _ _ _ _ [_, _, _, _, _, _, _, _, _, _, _, _] rfl ?go_38
        refine go_setL B (i := 8) (DL.to (l' := List.map rStr (mnY names)) (dl_catH ?cz40 (DL.hfz (DL.to (l' := List.map rStr (names.map exS)) (dl_lc B [("_law_name", 10)] (sr_listM (R := rStr) (default : Str) (de_var B (i := 0) rfl rfl (.inl rfl))) (blkOk_by (by decide +kernel)) _ (fun _ => true) (fun i : Nat => rStr (exS (names.getD i default))) ?sz32 (by decide) (fun _ _ _ _ _ B i hi => (dg_name B (i := 10) rfl (.inl rfl))) (fun _ _ _ _ _ B i hi => dts_nil) (fun _ _ _ _ _ B i hi hb => (de_catS ?ct31 (de_var B (i := 10) rfl rfl (.inl rfl)) de_str))) ?cl33)) (DL.hfz (DL.to (l' := List.map rStr ((List.range (17 - names.length)).map ny3)) (dl_lc B [("_law_k", 11)] (sr_range1 B T.b_range (de_sub de_int (de_lenM B T.b_len (de_var B (i := 0) rfl rfl (.inl rfl)) rfl)) rfl ?r34 ?r35) (blkOk_by (by decide +kernel)) _ (fun _ => true) (fun i : Nat => rStr (ny3 i)) ?sz38 (by decide) (fun _ _ _ _ _ B i hi => (dg_name B (i := 11) rfl (.inl rfl))) (fun _ _ _ _ _ B i hi => dts_nil) (fun _ _ _ _ _ B i hi hb => (de_catS ?ct37 de_str (de_strI B T.b_str ?sg36 (de_var B (i := 11) rfl rfl (.inl rfl)) rfl)))) ?cl39))) ?cl41) rfl (.inl rfl) ?go_39
        (case ct31 => first | exact ny_ct (by omega) | exact ex_ct hp (by omega))
        (case sz32 => first | exact Nat.lt_of_le_of_lt (show _ ≤ 17 by omega) (by decide) | exact Nat.lt_of_le_of_lt (show _ ≤ 17 by rw [List.length_drop]; omega) (by decide))
        (case cl33 => first | exact lc_map (f := fun r : List Int => rLst X.K (r.map rInt)) | exact rp_lc | exact lc_map (f := fun x : Str => rStr (exS x)) |>.trans (by rw [List.map_map]; rfl) | exact ny_lc | exact on_lc (R := rInt) | exact wr_lc (R := fun l => rLst X.K (List.map rInt l)) | exact sh_lc (R := fun l => rLst X.K (List.map rInt l)) | (rw [mnY_is, List.map_append]))
        (case r34 => first | omega | decide)
        (case r35 => first | omega | decide)
        (case sg36 => exact Nat.lt_trans (lg_b (B := 32) (by omega) (n := 30) (by decide) (by decide)) (by decide))
        (case ct37 => first | exact ny_ct (by omega) | exact ex_ct hp (by omega))
        (case sz38 => first | exact Nat.lt_of_le_of_lt (show _ ≤ 17 by omega) (by decide) | exact Nat.lt_of_le_of_lt (show _ ≤ 17 by rw [List.length_drop]; omega) (by decide))
        (case cl39 => first | exact lc_map (f := fun r : List Int => rLst X.K (r.map rInt)) | exact rp_lc | exact lc_map (f := fun x : Str => rStr (exS x)) |>.trans (by rw [List.map_map]; rfl) | exact ny_lc | exact on_lc (R := rInt) | exact wr_lc (R := fun l => rLst X.K (List.map rInt l)) | exact sh_lc (R := fun l => rLst X.K (List.map rInt l)) | (rw [mnY_is, List.map_append]))
        (case cz40 => exact Nat.le_trans (show _ ≤ 40 by simp; omega) (by decide))
        (case cl41 => first | exact lc_map (f := fun r : List Int => rLst X.K (r.map rInt)) | exact rp_lc | exact lc_map (f := fun x : Str => rStr (exS x)) |>.trans (by rw [List.map_map]; rfl) | exact ny_lc | exact on_lc (R := rInt) | exact wr_lc (R := fun l => rLst X.K (List.map rInt l)) | exact sh_lc (R := fun l => rLst X.K (List.map rInt l)) | (rw [mnY_is, List.map_append]))
        refine @go_nf _ _ _ _ _ _ [_, _, _, _, _, _, _, _, _, _, _, _] rfl ?go_40
        refine go_froz 8 rfl ?go_41
        refine @go_nf _ _ _ _ _ _ [_, _, _, _, _, _, _, _, _, _, _, _] rfl ?go_42
        refine go_if (DW.t (dw_or (dt_neS (CA.val (ca_call B (ok__law_refused T) (by decide) (mnY names, []) ?c_rf_42 (da_cons (de_var B (i := 8) rfl rfl (.inl rfl)) (da_cons (DL.froz (dl_lst da_nil (show (0 : Nat) ≤ sizeLine by decide))) da_nil)) rfl)) de_str) (fun hb1 => (dw_or (dt_neS (CA.val (ca_call B (ok__law_refused T) (by decide) ([], []) ?c_rg_43 (da_cons (DL.froz (dl_lst da_nil (show (0 : Nat) ≤ sizeLine by decide))) (da_cons (DL.froz (dl_lst da_nil (show (0 : Nat) ≤ sizeLine by decide))) da_nil)) rfl)) de_str) (fun hb2 => (dw_or1 (dt_neS (CA.val (ca_call B (ok__law_refused T) (by decide) ((mnY names).take 16, []) ?c_rh_45 (da_cons (DL.froz (dl_to (de_var B (i := 8) rfl rfl (.inl rfl)) ?sl44 de_int)) (da_cons (DL.froz (dl_lst da_nil (show (0 : Nat) ≤ sizeLine by decide))) da_nil)) rfl)) de_str))))))) (fun hc => ?gt_43) (fun hc => ?gf_44)
        (case c_rf_42 => exact rf6 hp)
        (case c_rg_43 => exact rf7)
        (case sl44 => decide)
        (case c_rh_45 => exact rf8 hp)
        case gt_43 =>
          exfalso
          exact Bool.false_ne_true ((rfD hp).symm.trans hc)
        case gf_44 =>
          skip
          refine go_then ?go_45
          refine go_ret R de_bl ?rs_46
          (case rs_46 => exact Sub.rfl)
end K01

set_option Elab.async false
set_option linter.all false
set_option maxRecDepth 100000
set_option maxHeartbeats 4000000
namespace K01
open PySem PySem.Spec PyProof.Rows L2 DL
variable {P : Program} {w : World} {K : PySem.W.Frag} {mg : Str → Option Value} {base : Heap} {cs : Cs}
theorem sc_law : FnScope ["_law_script", "_law_numbers_here", "_law_size", "_law_many", "_law_rows_here", "_law_more", "_law_names_here", "_law_bottom_here", "_law_passed", "_law_book", "_law_frame_here", "_law_row", "_law_unit", "_law_free", "_law_k", "_law_number", "_law_j"] ["_law_script"] (defScope s_law) := ⟨rfl, rfl, rfl, by decide +kernel, rfl, by decide +kernel, by decide +kernel⟩
def sp_law (K : PySem.W.Frag) (cs : Cs) : Sp := Pm (ι := List Int) (fun ns => True) (fun ns => [rLst K (ns.map rInt)]) (fun ns => .val (rBl true))
theorem ok_law (T : Txt K mg cs) {f : Addr} {fd : FuncData} (F : Fun K "law" "law" s_law f fd) : FnOk P w K mg base (L2.CX P w) 10 f fd ["_law_script"] (sp_law K cs) := by
  refine cal_okF F sc_law (fun g => rfl) ?_
  rintro X rfl rfl rfl rfl rfl B Bf ns F0 H0 D hp R hnx
  have hnb := NMY_b ns
  have hmb := mY_b ns
  have hrb := RWY_b ns
  have hk := kBY_ok ns
  have hds : (dsY ns).length = 60 := lawNums_len _ _ _
  have hms : (msY ns).length = 30 := lawNums_len _ _ _
  refine @go_nf _ _ _ _ _ _ [_, _, _, _, _, _, _, _, _, _, _, _, _, _, _, _, _] rfl ?go_1
  refine go_setL B (i := 1) (DL.to (l' := List.map rInt (dsY ns)) (CA.lst (ca_call B (ok__law_numbers T) (by decide) (ns, 0, 60) ?c_law_numbers_1 (da_cons (de_var B (i := 0) rfl rfl (.inl rfl)) (da_cons de_int (da_cons de_int da_nil))) rfl)) ?cl2) rfl (.inl rfl) ?go_2
  (case c_law_numbers_1 => first | (show (60 : Nat) ≤ 100; decide) | (show (30 : Nat) ≤ 100; decide))
  (case cl2 => first | rfl | exact NMY_lc | exact PSi_lc ns | exact PSo_lc ns (R := fun l => rN F1 (rLh (List.map (rNum X.K) l))) | exact rg_lc (f := fun j : Nat => (if decide ((j : Int) = (i : Int)) = true then (1 : Int) else 0)) (R := rInt) | exact rg_lc (f := rowI (NMY ns).length) (R := fun l => rTup X.K (List.map rInt l)))
  refine @go_nf _ _ _ _ _ _ [_, _, _, _, _, _, _, _, _, _, _, _, _, _, _, _, _] rfl ?go_3
  refine go_froz 1 rfl ?go_4
  refine @go_nf _ _ _ _ _ _ [_, _, _, _, _, _, _, _, _, _, _, _, _, _, _, _, _] rfl ?go_5
  refine go_set B (i := 2) (de_add de_int (de_mod ?z3 (de_toInt B T.b_int (CA.val (ca_call B (ok__law_cell T) (by decide) (ns, 1) trivial (da_cons (de_var B (i := 0) rfl rfl (.inl rfl)) (da_cons de_int da_nil)) rfl)) rfl) de_int)) rfl (.inr ⟨rfl, Bf _⟩) ?go_6
  (case z3 => first | decide | omega | exact mY_pos ns)
  refine @go_nf _ _ _ _ _ _ [_, _, _, _, _, _, _, _, _, _, _, _, _, _, _, _, _] rfl ?go_7
  refine go_ifK [(2, .im (rInt (((NMY ns).length : Nat) : Int)))] (dt_eqI (de_mod ?z6 (de_divG ?z4 ?d5 (de_toInt B T.b_int (CA.val (ca_call B (ok__law_cell T) (by decide) (ns, 1) trivial (da_cons (de_var B (i := 0) rfl rfl (.inl rfl)) (da_cons de_int da_nil)) rfl)) rfl) de_int) de_int) de_int) ?gk_8 (fun hk hc => ?gt_9) (fun hk hc => ?gf_10)
  (case z4 => first | decide | omega | exact mY_pos ns)
  (case d5 => first | decide | exact Nat.lt_trans (lg_b (B := 32) (by omega) (n := 30) (by decide) (by decide)) (by decide))
  (case z6 => first | decide | omega | exact mY_pos ns)
  case gt_9 =>
    skip
    refine go_set B (i := 2) (de_add de_int (de_mod ?z69 (de_divG ?z67 ?d68 (de_toInt B T.b_int (CA.val (ca_call B (ok__law_cell T) (by decide) (ns, 1) trivial (da_cons (de_var B (i := 0) rfl rfl (.inl rfl)) (da_cons de_int da_nil)) rfl)) rfl) de_int) de_int)) rfl (.inr ⟨rfl, Bf _⟩) ?go_11
    (case z67 => first | decide | omega | exact mY_pos ns)
    (case d68 => first | decide | exact Nat.lt_trans (lg_b (B := 32) (by omega) (n := 30) (by decide) (by decide)) (by decide))
    (case z69 => first | decide | omega | exact mY_pos ns)
    refine @go_nf _ _ _ _ _ _ [_, _, _, _, _, _, _, _, _, _, _, _, _, _, _, _, _] rfl ?go_12
    refine go_join hk ?jl_13
    (case jl_13 => refine .same ?_; refine .same ?_; refine .im ?h ?_; (case h => exact Sub.of (congrArg rInt (NMY_t hc))); refine .same ?_; refine .same ?_; refine .same ?_; refine .same ?_; refine .same ?_; refine .same ?_; refine .same ?_; refine .same ?_; refine .same ?_; refine .same ?_; refine .same ?_; refine .same ?_; refine .same ?_; refine .same ?_; exact .nil)
  case gf_10 =>
    skip
    refine go_join hk ?jl_14
    (case jl_14 => refine .same ?_; refine .same ?_; refine .im ?h ?_; (case h => exact Sub.of (congrArg rInt (NMY_f hc))); refine .same ?_; refine .same ?_; refine .same ?_; refine .same ?_; refine .same ?_; refine .same ?_; refine .same ?_; refine .same ?_; refine .same ?_; refine .same ?_; refine .same ?_; refine .same ?_; refine .same ?_; refine .same ?_; exact .nil)
  case gk_8 =>
    refine @go_nf _ _ _ _ _ _ [_, _, _, _, _, _, _, _, _, _, _, _, _, _, _, _, _] rfl ?go_15
    refine go_set B (i := 3) (DE.to (r' := rInt ((mY ns : Nat) : Int)) (de_mod ?z9 (de_toInt B T.b_int (CA.val (ca_call B (ok__law_cell T) (by decide) (ns, 2) trivial (da_cons (de_var B (i := 0) rfl rfl (.inl rfl)) (da_cons de_int da_nil)) rfl)) rfl) (de_add de_int (de_min3 B T.b_min (de_var B (i := 2) rfl rfl (.inr (.inl rfl))) (de_divG ?z7 ?d8 de_int (de_var B (i := 2) rfl rfl (.inr (.inl rfl)))) de_int rfl))) ?to10) rfl (.inl rfl) ?go_16
    (case z7 => first | decide | omega | exact mY_pos ns)
    (case d8 => first | decide | exact Nat.lt_trans (lg_b (B := 32) (by omega) (n := 30) (by decide) (by decide)) (by decide))
    (case z9 => first | decide | omega | exact mY_pos ns)
    (case to10 => first | rfl | exact congrArg rInt hmb.1.symm)
    refine @go_nf _ _ _ _ _ _ [_, _, _, _, _, _, _, _, _, _, _, _, _, _, _, _, _] rfl ?go_17
    refine go_setL B (i := 4) (DL.to (l' := List.map (fun l => rLst X.K (List.map rInt l)) (RWY ns)) (CA.lst (ca_call B (ok__law_rows T) (by decide) ((NMY ns).length, mY ns, dsY ns) ?c_law_rows_11 (da_cons (de_var B (i := 1) rfl rfl (.inl rfl)) (da_cons (de_var B (i := 2) rfl rfl (.inr (.inl rfl))) (da_cons (de_var B (i := 3) rfl rfl (.inl rfl)) da_nil))) rfl)) ?cl12) rfl (.inl rfl) ?go_18
    (case c_law_rows_11 => exact ⟨hnb.2, hmb.2.1, hmb.2.2, hds⟩)
    (case cl12 => first | rfl | exact NMY_lc | exact PSi_lc ns | exact PSo_lc ns (R := fun l => rN F1 (rLh (List.map (rNum X.K) l))) | exact rg_lc (f := fun j : Nat => (if decide ((j : Int) = (i : Int)) = true then (1 : Int) else 0)) (R := rInt) | exact rg_lc (f := rowI (NMY ns).length) (R := fun l => rTup X.K (List.map rInt l)))
    refine @go_nf _ _ _ _ _ _ [_, _, _, _, _, _, _, _, _, _, _, _, _, _, _, _, _] rfl ?go_19
    refine go_froz 4 rfl ?go_20
    refine @go_nf _ _ _ _ _ _ [_, _, _, _, _, _, _, _, _, _, _, _, _, _, _, _, _] rfl ?go_21
    refine go_setL B (i := 5) (DL.to (l' := List.map rInt (msY ns)) (CA.lst (ca_call B (ok__law_numbers T) (by decide) (ns, 3, 30) ?c_law_numbers_13 (da_cons (de_var B (i := 0) rfl rfl (.inl rfl)) (da_cons de_int (da_cons de_int da_nil))) rfl)) ?cl14) rfl (.inr ⟨rfl, Bf _⟩) ?go_22
    (case c_law_numbers_13 => first | (show (60 : Nat) ≤ 100; decide) | (show (30 : Nat) ≤ 100; decide))
    (case cl14 => first | rfl | exact NMY_lc | exact PSi_lc ns | exact PSo_lc ns (R := fun l => rN F1 (rLh (List.map (rNum X.K) l))) | exact rg_lc (f := fun j : Nat => (if decide ((j : Int) = (i : Int)) = true then (1 : Int) else 0)) (R := rInt) | exact rg_lc (f := rowI (NMY ns).length) (R := fun l => rTup X.K (List.map rInt l)))
    refine @go_nf _ _ _ _ _ _ [_, _, _, _, _, _, _, _, _, _, _, _, _, _, _, _, _] rfl ?go_23
    refine go_froz 5 rfl ?go_24
    refine @go_nf _ _ _ _ _ _ [_, _, _, _, _, _, _, _, _, _, _, _, _, _, _, _, _] rfl ?go_25
    refine go_setLc (l' := List.map rStr (NMY ns)) B [("_law_k", 14)] (sr_range1 B T.b_range (de_var B (i := 2) rfl rfl (.inr (.inl rfl))) rfl ?r15 ?r16) (blkOk_by (by decide +kernel)) _ (fun _ => true) (fun k : Nat => rStr (Txt.mul (sgn "abcd" (((msY ns).getD ((k : Nat) : Int).toNat 0).fmod 4).toNat) (1 + ((msY ns).getD ((k : Nat) : Int).toNat 0).fmod 5) ++ ((toString ((k : Nat) : Int) : String) : Str))) ?sz29 (by decide) (fun _ _ _ _ _ B k hi => (dg_name B (i := 14) rfl (.inl rfl))) (fun _ _ _ _ _ B k hi => dts_nil) (fun _ _ _ _ _ B k hi hb => (de_catS ?ct28 (de_mulS ?ms26 (de_ixStr ?gz20 ?xl21 ?xh22 de_str (de_mod ?z19 (de_toInt B T.b_int (de_ixM (R := rInt) (0 : Int) ?xl17 ?xh18 (de_var B (i := 5) rfl rfl (.inr (.inl rfl))) (de_var B (i := 14) rfl rfl (.inl rfl))) rfl) de_int)) (de_add de_int (de_mod ?z25 (de_toInt B T.b_int (de_ixM (R := rInt) (0 : Int) ?xl23 ?xh24 (de_var B (i := 5) rfl rfl (.inr (.inl rfl))) (de_var B (i := 14) rfl rfl (.inl rfl))) rfl) de_int))) (de_strI B T.b_str ?sg27 (de_var B (i := 14) rfl rfl (.inl rfl)) rfl))) (hl := ?cl30) (iy := 6) (hNy := rfl) (hyl := rfl) (h := ?go_26) (hsw := fun env h => by cases env; subst h; with_unfolding_all rfl)
    (case r15 => first | omega | decide)
    (case r16 => first | omega | decide)
    (case xl17 => first | decide | omega | exact (fm_bY _ (by decide)).1)
    (case xh18 => first | omega | exact str4 (fm_bY _ (by decide)))
    (case z19 => first | decide | omega | exact mY_pos ns)
    (case gz20 => decide)
    (case xl21 => first | decide | omega | exact (fm_bY _ (by decide)).1)
    (case xh22 => first | omega | exact str4 (fm_bY _ (by decide)))
    (case xl23 => first | decide | omega | exact (fm_bY _ (by decide)).1)
    (case xh24 => first | omega | exact str4 (fm_bY _ (by decide)))
    (case z25 => first | decide | omega | exact mY_pos ns)
    (case ms26 => exact nY_ms ns)
    (case sg27 => exact Nat.lt_trans (lg_b (B := 32) (by omega) (n := 30) (by decide) (by decide)) (by decide))
    (case ct28 => exact nY_ct ns (by omega))
    (case sz29 => first | exact Nat.lt_of_le_of_lt (show _ ≤ 16 by omega) (by decide) | exact Nat.lt_of_le_of_lt (rwX_len ns i) (by decide))
    (case cl30 => first | rfl | exact NMY_lc | exact PSi_lc ns | exact PSo_lc ns (R := fun l => rN F1 (rLh (List.map (rNum X.K) l))) | exact rg_lc (f := fun j : Nat => (if decide ((j : Int) = (i : Int)) = true then (1 : Int) else 0)) (R := rInt) | exact rg_lc (f := rowI (NMY ns).length) (R := fun l => rTup X.K (List.map rInt l)))
    refine @go_nf _ _ _ _ _ _ [_, _, _, _, _, _, _, _, _, _, _, _, _, _, _, _, _] rfl ?go_27
    refine go_froz 6 rfl ?go_28
    refine @go_nf _ _ _ _ _ _ [_, _, _, _, _, _, _, _, _, _, _, _, _, _, _, _, _] rfl ?go_29
    refine go_set B (i := 7) (DE.to (r' := rInt (btY ns)) (de_add de_int (de_mod ?z33 (de_divG ?z31 ?d32 (de_toInt B T.b_int (CA.val (ca_call B (ok__law_cell T) (by decide) (ns, 2) trivial (da_cons (de_var B (i := 0) rfl rfl (.inl rfl)) (da_cons de_int da_nil)) rfl)) rfl) de_int) de_int)) ?to34) rfl (.inr ⟨rfl, Bf _⟩) ?go_30
    (case z31 => first | decide | omega | exact mY_pos ns)
    (case d32 => first | decide | exact Nat.lt_trans (lg_b (B := 32) (by omega) (n := 30) (by decide) (by decide)) (by decide))
    (case z33 => first | decide | omega | exact mY_pos ns)
    (case to34 => first | rfl | exact congrArg rInt hmb.1.symm)
    refine @go_nf _ _ _ _ _ _ [_, _, _, _, _, _, _, _, _, _, _, _, _, _, _, _, _] rfl ?go_31
    refine go_mark (fun F1 um => ?go_32)
    refine @go_nf _ _ _ _ _ _ [_, _, _, _, _, _, _, _, _, _, _, _, _, _, _, _, _] rfl ?go_33
    refine go_setLc (l' := List.map (fun l => rN F1 (rLh (List.map (rNum X.K) l))) (PSY ns)) B [("_law_row", 11)] (sr_listM (R := (fun l => rLst X.K (List.map rInt l))) [] (DE.sub (de_var B (i := 4) rfl rfl (.inl rfl)) sub_rB)) (blkOk_by (by decide +kernel)) _ (fun _ => true) (fun i : Nat => rN F1 (rLh ((psR (btY ns) ((RWY ns).getD i [])).map (rNum X.K)))) ?sz38 (by decide) (fun _ _ _ _ _ B i hi => (dg_name B (i := 11) rfl (.inl rfl))) (fun _ _ _ _ _ B i hi => dts_nil) (fun _ _ _ _ _ B i hi hb => (DL.nw 7 rfl (lfa_map (fun _ => lfa_num) _) (DL.to (l' := List.map (rNum X.K) (psR (btY ns) ((RWY ns).getD i []))) (dl_lc B [("_law_number", 15)] (sr_listM (R := rInt) (0 : Int) (de_var B (i := 11) rfl rfl (.inl rfl))) (blkOk_by (by decide +kernel)) _ (fun _ => true) (fun i2 : Nat => rNum X.K ((((((RWY ns).getD i []).getD i2 0 : Int)) : Rat) / ((btY ns : Int) : Rat))) ?sz36 (by decide) (fun _ _ _ _ _ B i2 hi => (dg_name B (i := 15) rfl (.inl rfl))) (fun _ _ _ _ _ B i2 hi => dts_nil) (fun _ _ _ _ _ B i2 hi hb => (CA.val (ca_call B (ok__law_make T) (by decide) (_, _) ?c_law_make_35 (da_cons (de_var B (i := 15) rfl rfl (.inl rfl)) (da_cons (DE.sub (de_var B (i := 7) rfl rfl (.inr (.inl rfl))) sub_rB) da_nil)) rfl)))) ?cl37))) (hl := ?cl39) (iy := 8) (hNy := rfl) (hyl := rfl) (h := ?go_34) (hsw := fun env h => by cases env; subst h; with_unfolding_all rfl)
    (case c_law_make_35 => exact ⟨(bt_lg ns).1, rw_lg ns, (bt_lg ns).2⟩)
    (case sz36 => first | exact Nat.lt_of_le_of_lt (show _ ≤ 16 by omega) (by decide) | exact Nat.lt_of_le_of_lt (rwX_len ns i) (by decide))
    (case cl37 => first | rfl | exact NMY_lc | exact PSi_lc ns | exact PSo_lc ns (R := fun l => rN F1 (rLh (List.map (rNum X.K) l))) | exact rg_lc (f := fun j : Nat => (if decide ((j : Int) = (i : Int)) = true then (1 : Int) else 0)) (R := rInt) | exact rg_lc (f := rowI (NMY ns).length) (R := fun l => rTup X.K (List.map rInt l)))
    (case sz38 => first | exact Nat.lt_of_le_of_lt (show _ ≤ 16 by omega) (by decide) | exact Nat.lt_of_le_of_lt (rwX_len ns i) (by decide))
    (case cl39 => first | rfl | exact NMY_lc | exact PSi_lc ns | exact PSo_lc ns (R := fun l => rN F1 (rLh (List.map (rNum X.K) l))) | exact rg_lc (f := fun j : Nat => (if decide ((j : Int) = (i : Int)) = true then (1 : Int) else 0)) (R := rInt) | exact rg_lc (f := rowI (NMY ns).length) (R := fun l => rTup X.K (List.map rInt l)))
    refine @go_nf _ _ _ _ _ _ [_, _, _, _, _, _, _, _, _, _, _, _, _, _, _, _, _] rfl ?go_35
    refine go_set B (i := 9) (de_lendF 8 rfl lfr_book (DE.to (r' := rBook X.K cs.Book (kBY ns)) (DE.to (r' := rBook X.K cs.Book ⟨_, frameQ _ _⟩) (de_make (okr_Book X.K) B (ok_Book T) (by decide) (NMY ns, PSY ns) ?c_Book_40 ?o_Book_41 rfl (da_cons (DE.sub (DE.sub (de_var B (i := 6) rfl rfl (.inl rfl)) sub_rB) sub_lseq) (da_cons (DE.sub (de_var B (i := 8) rfl rfl (.inl rfl)) (sub_lstM (R := (fun l => rN F1 (rLh (List.map (rNum X.K) l)))) (R' := (fun l => rLst X.K (List.map (rNum X.K) l))) (fun _ => sub_nw))) da_nil)) rfl) rfl) ?to42)) rfl (.inl rfl) ?go_36
    (case c_Book_40 => exact PSY_bk ns)
    (case o_Book_41 => exact bk_out hnb NMY_ok (psl_ok ns))
    (case to42 => first | rfl | exact congrArg rInt hmb.1.symm)
    refine @go_nf _ _ _ _ _ _ [_, _, _, _, _, _, _, _, _, _, _, _, _, _, _, _, _] rfl ?go_37
    refine go_set B (i := 10) (de_bkF T.i_Book.o (de_var B (i := 9) rfl rfl (.inl rfl))) rfl (.inl rfl) ?go_38
    refine @go_nf _ _ _ _ _ _ [_, _, _, _, _, _, _, _, _, _, _, _, _, _, _, _, _] rfl ?go_39
    refine go_if (DW.t (dw_or (dt_neTS B ?so43 ?so44 (de_bkN T.i_Book.o (de_var B (i := 9) rfl rfl (.inl rfl))) (de_tupS T.b_tuple B (DE.sub (DE.sub (de_var B (i := 6) rfl rfl (.inl rfl)) sub_rB) sub_lseq) rfl)) (fun hb1 => (dw_or (dt_not (dt_val (de_isi (T := "tuple") B T.b_isinstance rty_tup (kit_ty (r := true) (by decide +kernel)) (de_bkN T.i_Book.o (de_var B (i := 9) rfl rfl (.inl rfl))) (de_ty B T.b_tuple (by decide +kernel) rfl) rfl))) (fun hb2 => (dw_or (dt_not (dt_val (CA.val (ca_call B (ok__law_is_int T) (by decide) _ trivial (da_cons (de_i2n (de_bkS T.i_Book.o (de_var B (i := 9) rfl rfl (.inl rfl)))) da_nil) rfl)))) (fun hb3 => (dw_or1 (dt_neI (de_bkS T.i_Book.o (de_var B (i := 9) rfl rfl (.inl rfl))) (DE.sub (de_var B (i := 2) rfl rfl (.inr (.inl rfl))) sub_rB)))))))))) (fun hc => ?gt_40) (fun hc => ?gf_41)
    (case so43 => exact hk.strs)
    (case so44 => exact hk.strs)
    case gt_40 =>
      exfalso
      rw [Rat.den_intCast] at hc
      simp [kBY, Bk.size] at hc
    case gf_41 =>
      skip
      refine go_then ?go_42
      refine go_if (dt_lend 8 rfl (dt_neT (dat_lst (dat_lst dat_num)) (by decide) B (DE.sub (de_var B (i := 8) rfl rfl (.inl rfl)) (sub_lstM (R := (fun l => rN F1 (rLh (List.map (rNum X.K) l)))) (R' := (fun l => rLst X.K (List.map (rNum X.K) l))) (fun _ => sub_nw))) (DE.sub (DL.froz (DL.to (l' := List.map (fun l => rN F1 (rLh (List.map (rNum X.K) l))) (PSY ns)) (dl_lc B [("_law_row", 11)] (sr_listM (R := (fun l => rLst X.K (List.map rInt l))) [] (DE.sub (de_var B (i := 4) rfl rfl (.inl rfl)) sub_rB)) (blkOk_by (by decide +kernel)) _ (fun _ => true) (fun i : Nat => rN F1 (rLh ((psR (btY ns) ((RWY ns).getD i [])).map (rNum X.K)))) ?sz48 (by decide) (fun _ _ _ _ _ B i hi => (dg_name B (i := 11) rfl (.inl rfl))) (fun _ _ _ _ _ B i hi => dts_nil) (fun _ _ _ _ _ B i hi hb => (DL.nw 7 rfl (lfa_map (fun _ => lfa_num) _) (DL.to (l' := List.map (rNum X.K) (psR (btY ns) ((RWY ns).getD i []))) (dl_lc B [("_law_number", 15)] (sr_listM (R := rInt) (0 : Int) (de_var B (i := 11) rfl rfl (.inl rfl))) (blkOk_by (by decide +kernel)) _ (fun _ => true) (fun i2 : Nat => rNum X.K ((((((RWY ns).getD i []).getD i2 0 : Int)) : Rat) / ((btY ns : Int) : Rat))) ?sz46 (by decide) (fun _ _ _ _ _ B i2 hi => (dg_name B (i := 15) rfl (.inl rfl))) (fun _ _ _ _ _ B i2 hi => dts_nil) (fun _ _ _ _ _ B i2 hi hb => (CA.val (ca_call B (ok__law_make T) (by decide) (_, _) ?c_law_make_45 (da_cons (de_var B (i := 15) rfl rfl (.inl rfl)) (da_cons (DE.sub (de_var B (i := 7) rfl rfl (.inr (.inl rfl))) sub_rB) da_nil)) rfl)))) ?cl47)))) ?cl49)) (sub_lstM (R := (fun l => rN F1 (rLh (List.map (rNum X.K) l)))) (R' := (fun l => rLst X.K (List.map (rNum X.K) l))) (fun _ => sub_nw))))) (fun hc => ?gt_43) (fun hc => ?gf_44)
      (case c_law_make_45 => exact ⟨(bt_lg ns).1, rw_lg ns, (bt_lg ns).2⟩)
      (case sz46 => first | exact Nat.lt_of_le_of_lt (show _ ≤ 16 by omega) (by decide) | exact Nat.lt_of_le_of_lt (rwX_len ns i) (by decide))
      (case cl47 => first | rfl | exact NMY_lc | exact PSi_lc ns | exact PSo_lc ns (R := fun l => rN F1 (rLh (List.map (rNum X.K) l))) | exact rg_lc (f := fun j : Nat => (if decide ((j : Int) = (i : Int)) = true then (1 : Int) else 0)) (R := rInt) | exact rg_lc (f := rowI (NMY ns).length) (R := fun l => rTup X.K (List.map rInt l)))
      (case sz48 => first | exact Nat.lt_of_le_of_lt (show _ ≤ 16 by omega) (by decide) | exact Nat.lt_of_le_of_lt (rwX_len ns i) (by decide))
      (case cl49 => first | rfl | exact NMY_lc | exact PSi_lc ns | exact PSo_lc ns (R := fun l => rN F1 (rLh (List.map (rNum X.K) l))) | exact rg_lc (f := fun j : Nat => (if decide ((j : Int) = (i : Int)) = true then (1 : Int) else 0)) (R := rInt) | exact rg_lc (f := rowI (NMY ns).length) (R := fun l => rTup X.K (List.map rInt l)))
      case gt_43 =>
        exfalso
        simp at hc
      case gf_44 =>
        skip
        refine go_then ?go_45
        refine go_spoilSet (n := 0) (m := 77) (ls := (PSY ns).map (fun l => l.map (rNum X.K))) B (iy := 8) (ix := 11) ?hg (PSo_pos ns) rfl (.inl rfl) rfl (.inl rfl) (.inl rfl) (.mk (.mk (.mk (.mk (.mk (.mk (.mk (.mk (.any (.fx lfa_book (.fx lfa_frame (.any (.any (.any (.any (.any (.any .nil))))))))))))))))) rfl ?go_46
        (case hg => show some (Sl.ow _) = _; rw [List.map_map]; rfl)
        refine go_un um ?go_47
        refine @go_nf _ _ _ _ _ _ [_, _, _, _, _, _, _, _, _, _, _, _, _, _, _, _, _] rfl ?go_48
        refine go_if (DW.t (dw_or (dt_neT (dat_tup (dat_tup dat_int)) (by decide) B (de_bkF T.i_Book.o (de_var B (i := 9) rfl rfl (.inl rfl))) (de_var B (i := 10) rfl rfl (.inl rfl))) (fun hb1 => (dw_or (dt_not (dt_val (CA.val (ca_call B (ok__law_frame T) (by decide) (kBY ns, RWY ns) ?c_law_frame_50 (da_cons (de_var B (i := 9) rfl rfl (.inl rfl)) (da_cons (de_var B (i := 2) rfl rfl (.inr (.inl rfl))) (da_cons (de_var B (i := 4) rfl rfl (.inl rfl)) da_nil))) rfl)))) (fun hb2 => (dw_or1 (dt_not (dt_val (CA.val (ca_call B (ok__law_tables T) (by decide) (kBY ns, RWY ns, msY ns) ?c_law_tables_51 (da_cons (de_var B (i := 9) rfl rfl (.inl rfl)) (da_cons (de_var B (i := 2) rfl rfl (.inr (.inl rfl))) (da_cons (de_var B (i := 4) rfl rfl (.inl rfl)) (da_cons (de_var B (i := 5) rfl rfl (.inr (.inl rfl))) da_nil)))) rfl)))))))))) (fun hc => ?gt_49) (fun hc => ?gf_50)
        (case c_law_frame_50 => exact hk)
        (case c_law_tables_51 => exact ⟨hk, hms⟩)
        case gt_49 =>
          exfalso
          simp at hc
        case gf_50 =>
          skip
          refine go_then ?go_51
          refine go_if (DW.t (dw_or (dt_not (dt_val (CA.val (ca_call B (ok__law_other T) (by decide) (kBY ns, RWY ns) ?c_law_other_52 (da_cons (de_var B (i := 9) rfl rfl (.inl rfl)) (da_cons (de_var B (i := 2) rfl rfl (.inr (.inl rfl))) da_nil)) rfl)))) (fun hb1 => (dw_or (dt_not (dt_val (CA.val (ca_call B (ok__law_names T) (by decide) (kBY ns) ?c_law_names_53 (da_cons (de_var B (i := 9) rfl rfl (.inl rfl)) (da_cons (de_var B (i := 6) rfl rfl (.inl rfl)) da_nil)) rfl)))) (fun hb2 => (dw_or1 (dt_not (dt_val (CA.val (ca_call B (ok__law_sizes T) (by decide) (kBY ns, RWY ns) ?c_law_sizes_54 (da_cons (de_var B (i := 9) rfl rfl (.inl rfl)) (da_cons (de_var B (i := 2) rfl rfl (.inr (.inl rfl))) da_nil)) rfl)))))))))) (fun hc => ?gt_52) (fun hc => ?gf_53)
          (case c_law_other_52 => exact hk)
          (case c_law_names_53 => exact kBY_nm ns)
          (case c_law_sizes_54 => exact hk)
          case gt_52 =>
            exfalso
            simp at hc
          case gf_53 =>
            skip
            refine go_then ?go_54
            refine go_if (dt_not (dt_val (CA.val (ca_call B (ok__law_refusals T) (by decide) (NMY ns, RWY ns, msY ns) ?c_law_refusals_55 (da_cons (de_var B (i := 6) rfl rfl (.inl rfl)) (da_cons (de_var B (i := 4) rfl rfl (.inl rfl)) (da_cons (de_var B (i := 5) rfl rfl (.inr (.inl rfl))) da_nil))) rfl)))) (fun hc => ?gt_55) (fun hc => ?gf_56)
            (case c_law_refusals_55 => exact kBY_rf ns)
            case gt_55 =>
              exfalso
              simp at hc
            case gf_56 =>
              skip
              refine go_then ?go_57
              refine go_setLc (l' := List.map (fun l => rTup X.K (List.map rInt l)) ((List.range (NMY ns).length).map (rowI (NMY ns).length))) B [("_law_k", 14)] (sr_range1 B T.b_range (de_var B (i := 2) rfl rfl (.inr (.inl rfl))) rfl ?r56 ?r57) (blkOk_by (by decide +kernel)) _ (fun _ => true) (fun i : Nat => rTup X.K ((rowI (NMY ns).length i).map rInt)) ?sz62 (by decide) (fun _ _ _ _ _ B i hi => (dg_name B (i := 14) rfl (.inr ⟨rfl, rfl⟩))) (fun _ _ _ _ _ B i hi => dts_nil) (fun _ _ _ _ _ B i hi hb => (de_tupS T.b_tuple B (DE.sub (DL.froz (DL.to (l' := List.map rInt (rowI (NMY ns).length i)) (dl_lc B [("_law_j", 16)] (sr_range1 B T.b_range (de_var B (i := 2) rfl rfl (.inr (.inl rfl))) rfl ?r58 ?r59) (blkOk_by (by decide +kernel)) _ (fun _ => true) (fun i2 : Nat => rInt (if decide ((i2 : Int) = (i : Int)) = true then 1 else 0)) ?sz60 (by decide) (fun _ _ _ _ _ B i2 hi => (dg_name B (i := 16) rfl (.inl rfl))) (fun _ _ _ _ _ B i2 hi => dts_nil) (fun _ _ _ _ _ B i2 hi hb => (de_intB B T.b_int (de_eqI (de_var B (i := 16) rfl rfl (.inl rfl)) (de_var B (i := 14) rfl rfl (.inr (.inl rfl)))) rfl))) ?cl61)) sub_lseq) rfl)) (hl := ?cl63) (iy := 12) (hNy := rfl) (hyl := rfl) (h := ?go_58) (hsw := fun env h => by cases env; subst h; with_unfolding_all rfl)
              (case r56 => first | omega | decide)
              (case r57 => first | omega | decide)
              (case r58 => first | omega | decide)
              (case r59 => first | omega | decide)
              (case sz60 => first | exact Nat.lt_of_le_of_lt (show _ ≤ 16 by omega) (by decide) | exact Nat.lt_of_le_of_lt (rwX_len ns i) (by decide))
              (case cl61 => first | rfl | exact NMY_lc | exact PSi_lc ns | exact PSo_lc ns (R := fun l => rN F1 (rLh (List.map (rNum X.K) l))) | exact rg_lc (f := fun j : Nat => (if decide ((j : Int) = (i : Int)) = true then (1 : Int) else 0)) (R := rInt) | exact rg_lc (f := rowI (NMY ns).length) (R := fun l => rTup X.K (List.map rInt l)))
              (case sz62 => first | exact Nat.lt_of_le_of_lt (show _ ≤ 16 by omega) (by decide) | exact Nat.lt_of_le_of_lt (rwX_len ns i) (by decide))
              (case cl63 => first | rfl | exact NMY_lc | exact PSi_lc ns | exact PSo_lc ns (R := fun l => rN F1 (rLh (List.map (rNum X.K) l))) | exact rg_lc (f := fun j : Nat => (if decide ((j : Int) = (i : Int)) = true then (1 : Int) else 0)) (R := rInt) | exact rg_lc (f := rowI (NMY ns).length) (R := fun l => rTup X.K (List.map rInt l)))
              refine @go_nf _ _ _ _ _ _ [_, _, _, _, _, _, _, _, _, _, _, _, _, _, _, _, _] rfl ?go_59
              refine go_froz 12 rfl ?go_60
              refine @go_nf _ _ _ _ _ _ [_, _, _, _, _, _, _, _, _, _, _, _, _, _, _, _, _] rfl ?go_61
              refine go_set B (i := 13) (CA.val (ca_cmeth B (ok_Book_free T) (by decide) (NMY ns) ?c_Book_free_64 T.i_Book.g rfl rfl (da_cons (DL.froz (dl_list B T.b_list (de_var B (i := 6) rfl rfl (.inl rfl)) rfl)) da_nil))) rfl (.inl rfl) ?go_62
              (case c_Book_free_64 => exact free_bk ns)
              refine @go_nf _ _ _ _ _ _ [_, _, _, _, _, _, _, _, _, _, _, _, _, _, _, _, _] rfl ?go_63
              refine go_ret R (de_and (de_eqTS B ?so65 ?so66 (de_bkN T.i_Book.o (de_var B (i := 13) rfl rfl (.inl rfl))) (de_bkN T.i_Book.o (de_var B (i := 9) rfl rfl (.inl rfl)))) (fun hb1 => (de_and (de_eqT (dat_tup (dat_tup dat_int)) (by decide) B (de_bkF T.i_Book.o (de_var B (i := 13) rfl rfl (.inl rfl))) (de_tupS T.b_tuple B (DE.sub (de_var B (i := 12) rfl rfl (.inl rfl)) sub_lseq) rfl)) (fun hb2 => (de_one (de_eqI (de_bkS T.i_Book.o (de_var B (i := 13) rfl rfl (.inl rfl))) (de_var B (i := 2) rfl rfl (.inr (.inl rfl))))))))) ?rs_64
              (case so65 => exact hk.strs)
              (case so66 => exact hk.strs)
              (case rs_64 => exact Sub.of (congrArg rBl (kBY_end ns)))
end K01

namespace K01
open PySem PySem.Spec PyProof.Rows L2 DL
theorem td_mk {K : PySem.W.Frag} {mg : Str → Option Value} {h : Heap} {x : Str} {st : Stmt} {f : Addr} {od an : Option Addr} {sl : Array (Option Value)} {oc kV dc pm cd ct : Value} (X : K.In h) (G : h.Ns mainGlobals mg)
    (a : PySem.W.nsIn K mainGlobals x = some (some (.ref f))) (l : K.lookup f = some ⟨oc, od, .func (PySem.W.fnOf x x (defArgs st) (defBody st) (defScope st) .none kV dc pm an cd ct), sl⟩) (c : PySem.W.codeIn K cd x = true) (k : PySem.W.keepIn K (.ref f) = true) : TD K mg x st :=
  ⟨f, _, fun_mk l c k, PySem.W.mg_of X G a⟩
theorem xcls_mk {K : PySem.W.Frag} {mg : Str → Option Value} {h : Heap} {x : Str} {C : Addr} (X : K.In h) (G : h.Ns mainGlobals mg) (g : PySem.W.nsIn K mainGlobals x = some (some (.ref C)))
    (e : PySem.W.excIn K C [.type "ValueError", .type "Exception", .type "BaseException", .type "object"] "ValueError.__new__" = true) (k : PySem.W.keepIn K (.ref C) = true) (b : PySem.W.subIn K (.ref C) (.type "BaseException") = some true)
    (t : PySem.W.typeIn K (.ref C) = some (.type "type")) (hd : PySem.W.hasDictIn K C = true) : XCls K mg x C := ⟨PySem.W.mg_of X G g, e, k, b, t, hd⟩
theorem int_mk {K : PySem.W.Frag} {mg : Str → Option Value} {h : Heap} {x : Str} {n : Int} {tk : Nat} (X : K.In h) (G : h.Ns mainGlobals mg) (g : PySem.W.nsIn K mainGlobals x = some (some (.int n tk))) : ∃ u, mg x = some u ∧ RelV (.int n) u := ⟨_, PySem.W.mg_of X G g, _, rfl⟩
theorem str_mk {K : PySem.W.Frag} {mg : Str → Option Value} {h : Heap} {x s : Str} {tk : Nat} (X : K.In h) (G : h.Ns mainGlobals mg) (g : PySem.W.nsIn K mainGlobals x = some (some (.str s tk))) : ∃ u, mg x = some u ∧ RelV (.str s) u := ⟨_, PySem.W.mg_of X G g, _, rfl⟩
abbrev i_NoCell : Stmt := inClass (topS 3) 0
theorem sci_NoCell : FnScope ["self", "cell"] ["self", "cell"] (defScope i_NoCell) := ⟨rfl, rfl, rfl, by decide +kernel, rfl, by decide +kernel, by decide +kernel⟩
theorem ini_NoCell {P : Program} {w : World} {K : PySem.W.Frag} {mg : Str → Option Value} {base : Heap} {f : Addr} {fd : FuncData} (F : Fun K "__init__" "NoCell.__init__" i_NoCell f fd) : FnOk P w K mg base CX0 1 f fd ["self", "cell"] (spIni K "cell") := by
  refine F.ok sci_NoCell (fun vs H Q E h => ?_) (fun cdv A outer s H vs Q E hr h => ?_)
  · obtain ⟨a, C, v, e, _⟩ := h
    rw [e]; rfl
  · obtain ⟨a, C, v, e, he, ho, hn, q⟩ := h
    subst e
    refine ⟨_, pss_one (ps_ost (pe_var (i := 0) rfl (.inl rfl)) (pe_var (i := 1) rfl (.inl rfl))), ?_⟩
    refine ⟨v, rfl, ?_⟩
    refine ⟨.ref a, rfl, a, C, rfl, ho, hn, .inl ⟨he, fun dx n ne => ?_⟩⟩
    exact q dx n ne
theorem xclsF_NoCell {K : PySem.W.Frag} {mg : Str → Option Value} {h : Heap} {C f : Addr} {nm q N bs bm sn sub ab col dd k0 k1 k2 k3 k5} {od an : Option Addr} {sl : Array (Option Value)} {oc kV dc pm cd ct : Value} (X : K.In h) (G : h.Ns mainGlobals mg)
    (g : PySem.W.nsIn K mainGlobals "NoCell" = some (some (.ref C))) (cl : K.lookup C = some (excClassObj nm q C N bs bm true sn sub ab col dd k0 k1 k2 k3 k5 "ValueError.__new__")) (rv : PySem.HandSPX.refsVE bm = true)
    (sa : PySem.W.findIn K (.ref C) "__setattr__" = some (some (.builtin "object.__setattr__"))) (ex : PySem.W.subIn K (.ref C) (.type "BaseException") = some true) (ty : PySem.W.typeIn K (.ref C) = some (.type "type")) (k : PySem.W.keepIn K (.ref C) = true)
    (no : PySem.W.findIn K (.ref C) "cell" = some none) (ga : PySem.W.findIn K (.ref C) "__getattribute__" = some (some (.builtin "BaseException.__getattribute__"))) (gg : PySem.W.findIn K (.ref C) "__getattr__" = some none) (hd : PySem.W.hasDictIn K C = true)
    (fi : PySem.W.findIn K (.ref C) "__init__" = some (some (.ref f))) (ft : PySem.W.typeIn K (.ref f) = some (.type "function"))
    (l : K.lookup f = some ⟨oc, od, .func (PySem.W.fnOf "__init__" "NoCell.__init__" (defArgs i_NoCell) (defBody i_NoCell) (defScope i_NoCell) .none kV dc pm an cd ct), sl⟩) (c : PySem.W.codeIn K cd "NoCell.__init__" = true) (kf : PySem.W.keepIn K (.ref f) = true) : XClsF K mg "NoCell" "cell" C :=
  ⟨PySem.W.mg_of X G g, ⟨⟨nm, q, N, bs, bm, sn, sub, ab, col, dd, k0, k1, k2, k3, k5, cl, rv⟩, sa, ex, ty, k⟩, no, ⟨ga, gg, ex, hd⟩, fun P w base => ⟨f, _, fi, ft, ini_NoCell (fun_mk l c kf), (fun_mk l c kf).binds (fun _ _ _ _ _ _ us hl => match us, hl with | [_, _], _ => rfl)⟩⟩
theorem ti_Book {K : PySem.W.Frag} {mg : Str → Option Value} {h : Heap} {C f : Addr} {od an : Option Addr} {sl : Array (Option Value)} {oc kV dc pm cd ct : Value} (X : K.In h) (G : h.Ns mainGlobals mg)
    (g : PySem.W.nsIn K mainGlobals "Book" = some (some (.ref C))) (fi : PySem.W.findIn K (.ref C) "__init__" = some (some (.ref f))) (l : K.lookup f = some ⟨oc, od, .func (PySem.W.fnOf "__init__" "Book.__init__" (defArgs s_Book) (defBody s_Book) (defScope s_Book) .none kV dc pm an cd ct), sl⟩) (c : PySem.W.codeIn K cd "Book.__init__" = true) (kf : PySem.W.keepIn K (.ref f) = true)
    (mk : PySem.W.makesIn K C = true) (fn : PySem.W.isFn K (.ref f) = true) (kp : PySem.W.keepIn K (.ref C) = true) (pg : PySem.W.plainGet K C Str.empty = true) (hd : PySem.W.hasDictIn K C = true) (po : PySem.W.plainOver K C = true) (sa : PySem.W.findIn K (.ref C) "__setattr__" = some (some (.builtin "object.__setattr__")))
    (n0 : PySem.W.findIn K (.ref C) "names" = some none) (n1 : PySem.W.findIn K (.ref C) "size" = some none) (n2 : PySem.W.findIn K (.ref C) "frame" = some none) : TI K mg "Book" "Book.__init__" C s_Book ["names", "size", "frame"] :=
  ⟨⟨f, _, fun_mk l c kf, ⟨mk, fi, fn, kp⟩⟩, PySem.W.mg_of X G g, ⟨⟨pg, hd, po, sa⟩, fun y hy => by
    simp only [List.mem_cons, List.not_mem_nil, or_false] at hy
    rcases hy with rfl | rfl | rfl
    · exact n0
    · exact n1
    · exact n2⟩⟩
theorem tc_Book_free {K : PySem.W.Frag} {C p g : Addr} {rest : List Value} {od an : Option Addr} {sl : Array (Option Value)} {oc kV dc pm cd ct : Value}
    (rd : PySem.W.readsIn K C (.type "type") = true) (ga : PySem.W.specialIn K (.ref C) "__getattribute__" = some (some (.builtin "type.__getattribute__"))) (at_ : PySem.W.findCls K (.ref C) (.type "type") "free" = some (.get (.builtin "classmethod.__get__") (.ref p) .none (.ref C)))
    (rc : PySem.W.recIn K p "classmethod" = some (.ref g :: rest)) (fi : PySem.W.fnIn K g = true) (l : K.lookup g = some ⟨oc, od, .func (PySem.W.fnOf "free" "Book.free" (defArgs s_Book_free) (defBody s_Book_free) (defScope s_Book_free) .none kV dc pm an cd ct), sl⟩) (c : PySem.W.codeIn K cd "Book.free" = true) (kf : PySem.W.keepIn K (.ref g) = true) : TC K C "free" "Book.free" s_Book_free :=
  ⟨.type "type", p, g, _, ⟨rd, ga⟩, ⟨at_, ⟨rest, rc⟩, fi⟩, fun_mk l c kf⟩
theorem txt_of {K : PySem.W.Frag} {mg : Str → Option Value} {C_BookError C_NoCell C_ZeroBottom C_BadName C_BadSize C_Book : Addr}
    (b_ValueError : mg "ValueError" = none)
    (b_abs : mg "abs" = none)
    (b_all : mg "all" = none)
    (b_bool : mg "bool" = none)
    (b_classmethod : mg "classmethod" = none)
    (b_enumerate : mg "enumerate" = none)
    (b_int : mg "int" = none)
    (b_isinstance : mg "isinstance" = none)
    (b_len : mg "len" = none)
    (b_list : mg "list" = none)
    (b_min : mg "min" = none)
    (b_range : mg "range" = none)
    (b_set : mg "set" = none)
    (b_str : mg "str" = none)
    (b_tuple : mg "tuple" = none)
    (b_zip : mg "zip" = none)
    (m_gcd : mg "gcd" = some (.builtin "math.gcd"))
    (m_lcm : mg "lcm" = some (.builtin "math.lcm"))
    (x_BookError : XCls K mg "BookError" C_BookError)
    (x_NoCell : XClsF K mg "NoCell" "cell" C_NoCell)
    (x_ZeroBottom : XCls K mg "ZeroBottom" C_ZeroBottom)
    (x_BadName : XCls K mg "BadName" C_BadName)
    (x_BadSize : XCls K mg "BadSize" C_BadSize)
    (i_Book : TI K mg "Book" "Book.__init__" C_Book s_Book ["names", "size", "frame"])
    (cm_Book_free : TC K C_Book "free" "Book.free" s_Book_free)
    (c_LETTERS : ∃ u, mg "LETTERS" = some u ∧ RelV (.str "abcdefghijklmnopqrstuvwxyz") u)
    (c_DIGITS : ∃ u, mg "DIGITS" = some u ∧ RelV (.str "0123456789") u)
    (c_MOST_CELLS : ∃ u, mg "MOST_CELLS" = some u ∧ RelV (.int 16) u)
    (c_MOST_SIGNS : ∃ u, mg "MOST_SIGNS" = some u ∧ RelV (.int 12) u)
    (d_ratio : TD K mg "ratio" s_ratio)
    (d_is_whole : TD K mg "is_whole" s_is_whole)
    (d_top_of : TD K mg "top_of" s_top_of)
    (d_bottom_of : TD K mg "bottom_of" s_bottom_of)
    (d_plus : TD K mg "plus" s_plus)
    (d_times : TD K mg "times" s_times)
    (d_over : TD K mg "over" s_over)
    (d_common_bottom : TD K mg "common_bottom" s_common_bottom)
    (d_support : TD K mg "support" s_support)
    (d_scaled : TD K mg "scaled" s_scaled)
    (d_added : TD K mg "added" s_added)
    (d_primitive : TD K mg "primitive" s_primitive)
    (d_lowest : TD K mg "lowest" s_lowest)
    (d_cleared : TD K mg "cleared" s_cleared)
    (d_lead_at : TD K mg "lead_at" s_lead_at)
    (d_without : TD K mg "without" s_without)
    (d_lowered : TD K mg "lowered" s_lowered)
    (d_check_names : TD K mg "check_names" s_check_names)
    (d_is_name : TD K mg "is_name" s_is_name)
    (d_unit : TD K mg "unit" s_unit)
    (d_frame_of : TD K mg "frame_of" s_frame_of)
    (d_pivots : TD K mg "pivots" s_pivots)
    (d_cell_of : TD K mg "cell_of" s_cell_of)
    (d_is_table : TD K mg "is_table" s_is_table)
    (d_table_of : TD K mg "table_of" s_table_of)
    (d_same_book : TD K mg "same_book" s_same_book)
    (d_other_side : TD K mg "other_side" s_other_side)
    (d_price_row : TD K mg "price_row" s_price_row)
    (d__law_cell : TD K mg "_law_cell" s__law_cell)
    (d__law_numbers : TD K mg "_law_numbers" s__law_numbers)
    (d__law_gcd : TD K mg "_law_gcd" s__law_gcd)
    (d__law_make : TD K mg "_law_make" s__law_make)
    (d__law_top : TD K mg "_law_top" s__law_top)
    (d__law_bottom : TD K mg "_law_bottom" s__law_bottom)
    (d__law_is_int : TD K mg "_law_is_int" s__law_is_int)
    (d__law_plus : TD K mg "_law_plus" s__law_plus)
    (d__law_times : TD K mg "_law_times" s__law_times)
    (d__law_dot : TD K mg "_law_dot" s__law_dot)
    (d__law_cleared : TD K mg "_law_cleared" s__law_cleared)
    (d__law_rank : TD K mg "_law_rank" s__law_rank)
    (d__law_rows : TD K mg "_law_rows" s__law_rows)
    (d__law_frame : TD K mg "_law_frame" s__law_frame)
    (d__law_spanned : TD K mg "_law_spanned" s__law_spanned)
    (d__law_tables : TD K mg "_law_tables" s__law_tables)
    (d__law_other : TD K mg "_law_other" s__law_other)
    (d__law_refused : TD K mg "_law_refused" s__law_refused)
    (d__law_refusals : TD K mg "_law_refusals" s__law_refusals)
    (d__law_names : TD K mg "_law_names" s__law_names)
    (d__law_sizes : TD K mg "_law_sizes" s__law_sizes)
    (d_law : TD K mg "law" s_law)
    (e_BadName : ExcC K C_BadName)
    (s_BadName_BookError : PySem.W.subIn K (.ref C_BadName) (.ref C_BookError) = some true)
    (k_BadName_BookError : PySem.W.kitOne K (.ref C_BadName) (.ref C_BookError) = some true)
    (s_BadName_NoCell : PySem.W.subIn K (.ref C_BadName) (.ref C_NoCell) = some false)
    (k_BadName_NoCell : PySem.W.kitOne K (.ref C_BadName) (.ref C_NoCell) = some false)
    (s_BadName_ZeroBottom : PySem.W.subIn K (.ref C_BadName) (.ref C_ZeroBottom) = some false)
    (k_BadName_ZeroBottom : PySem.W.kitOne K (.ref C_BadName) (.ref C_ZeroBottom) = some false)
    (s_BadName_BadName : PySem.W.subIn K (.ref C_BadName) (.ref C_BadName) = some true)
    (k_BadName_BadName : PySem.W.kitOne K (.ref C_BadName) (.ref C_BadName) = some true)
    (s_BadName_BadSize : PySem.W.subIn K (.ref C_BadName) (.ref C_BadSize) = some false)
    (k_BadName_BadSize : PySem.W.kitOne K (.ref C_BadName) (.ref C_BadSize) = some false)
    (s_BadName_Book : PySem.W.subIn K (.ref C_BadName) (.ref C_Book) = some false)
    (k_BadName_Book : PySem.W.kitOne K (.ref C_BadName) (.ref C_Book) = some false)
    (k_BadName_ValueError : PySem.W.kitOne K (.ref C_BadName) (.type "ValueError") = some true)
    (e_BadSize : ExcC K C_BadSize)
    (s_BadSize_BookError : PySem.W.subIn K (.ref C_BadSize) (.ref C_BookError) = some true)
    (k_BadSize_BookError : PySem.W.kitOne K (.ref C_BadSize) (.ref C_BookError) = some true)
    (s_BadSize_NoCell : PySem.W.subIn K (.ref C_BadSize) (.ref C_NoCell) = some false)
    (k_BadSize_NoCell : PySem.W.kitOne K (.ref C_BadSize) (.ref C_NoCell) = some false)
    (s_BadSize_ZeroBottom : PySem.W.subIn K (.ref C_BadSize) (.ref C_ZeroBottom) = some false)
    (k_BadSize_ZeroBottom : PySem.W.kitOne K (.ref C_BadSize) (.ref C_ZeroBottom) = some false)
    (s_BadSize_BadName : PySem.W.subIn K (.ref C_BadSize) (.ref C_BadName) = some false)
    (k_BadSize_BadName : PySem.W.kitOne K (.ref C_BadSize) (.ref C_BadName) = some false)
    (s_BadSize_BadSize : PySem.W.subIn K (.ref C_BadSize) (.ref C_BadSize) = some true)
    (k_BadSize_BadSize : PySem.W.kitOne K (.ref C_BadSize) (.ref C_BadSize) = some true)
    (s_BadSize_Book : PySem.W.subIn K (.ref C_BadSize) (.ref C_Book) = some false)
    (k_BadSize_Book : PySem.W.kitOne K (.ref C_BadSize) (.ref C_Book) = some false)
    (k_BadSize_ValueError : PySem.W.kitOne K (.ref C_BadSize) (.type "ValueError") = some true)
    (e_NoCell : ExcC K C_NoCell)
    (s_NoCell_BookError : PySem.W.subIn K (.ref C_NoCell) (.ref C_BookError) = some true)
    (k_NoCell_BookError : PySem.W.kitOne K (.ref C_NoCell) (.ref C_BookError) = some true)
    (s_NoCell_NoCell : PySem.W.subIn K (.ref C_NoCell) (.ref C_NoCell) = some true)
    (k_NoCell_NoCell : PySem.W.kitOne K (.ref C_NoCell) (.ref C_NoCell) = some true)
    (s_NoCell_ZeroBottom : PySem.W.subIn K (.ref C_NoCell) (.ref C_ZeroBottom) = some false)
    (k_NoCell_ZeroBottom : PySem.W.kitOne K (.ref C_NoCell) (.ref C_ZeroBottom) = some false)
    (s_NoCell_BadName : PySem.W.subIn K (.ref C_NoCell) (.ref C_BadName) = some false)
    (k_NoCell_BadName : PySem.W.kitOne K (.ref C_NoCell) (.ref C_BadName) = some false)
    (s_NoCell_BadSize : PySem.W.subIn K (.ref C_NoCell) (.ref C_BadSize) = some false)
    (k_NoCell_BadSize : PySem.W.kitOne K (.ref C_NoCell) (.ref C_BadSize) = some false)
    (s_NoCell_Book : PySem.W.subIn K (.ref C_NoCell) (.ref C_Book) = some false)
    (k_NoCell_Book : PySem.W.kitOne K (.ref C_NoCell) (.ref C_Book) = some false)
    (k_NoCell_ValueError : PySem.W.kitOne K (.ref C_NoCell) (.type "ValueError") = some true) : ∃ cs : Cs, Txt K mg cs :=
  ⟨⟨C_BookError, C_NoCell, C_ZeroBottom, C_BadName, C_BadSize, C_Book⟩, { b_ValueError := b_ValueError, b_abs := b_abs, b_all := b_all, b_bool := b_bool, b_classmethod := b_classmethod, b_enumerate := b_enumerate, b_int := b_int, b_isinstance := b_isinstance, b_len := b_len, b_list := b_list, b_min := b_min, b_range := b_range, b_set := b_set, b_str := b_str, b_tuple := b_tuple, b_zip := b_zip, m_gcd := m_gcd, m_lcm := m_lcm, x_BookError := x_BookError, x_NoCell := x_NoCell, x_ZeroBottom := x_ZeroBottom, x_BadName := x_BadName, x_BadSize := x_BadSize, i_Book := i_Book, cm_Book_free := cm_Book_free, c_LETTERS := c_LETTERS, c_DIGITS := c_DIGITS, c_MOST_CELLS := c_MOST_CELLS, c_MOST_SIGNS := c_MOST_SIGNS, d_ratio := d_ratio, d_is_whole := d_is_whole, d_top_of := d_top_of, d_bottom_of := d_bottom_of, d_plus := d_plus, d_times := d_times, d_over := d_over, d_common_bottom := d_common_bottom, d_support := d_support, d_scaled := d_scaled, d_added := d_added, d_primitive := d_primitive, d_lowest := d_lowest, d_cleared := d_cleared, d_lead_at := d_lead_at, d_without := d_without, d_lowered := d_lowered, d_check_names := d_check_names, d_is_name := d_is_name, d_unit := d_unit, d_frame_of := d_frame_of, d_pivots := d_pivots, d_cell_of := d_cell_of, d_is_table := d_is_table, d_table_of := d_table_of, d_same_book := d_same_book, d_other_side := d_other_side, d_price_row := d_price_row, d__law_cell := d__law_cell, d__law_numbers := d__law_numbers, d__law_gcd := d__law_gcd, d__law_make := d__law_make, d__law_top := d__law_top, d__law_bottom := d__law_bottom, d__law_is_int := d__law_is_int, d__law_plus := d__law_plus, d__law_times := d__law_times, d__law_dot := d__law_dot, d__law_cleared := d__law_cleared, d__law_rank := d__law_rank, d__law_rows := d__law_rows, d__law_frame := d__law_frame, d__law_spanned := d__law_spanned, d__law_tables := d__law_tables, d__law_other := d__law_other, d__law_refused := d__law_refused, d__law_refusals := d__law_refusals, d__law_names := d__law_names, d__law_sizes := d__law_sizes, d_law := d_law, e_BadName := e_BadName, s_BadName_BookError := s_BadName_BookError, k_BadName_BookError := k_BadName_BookError, s_BadName_NoCell := s_BadName_NoCell, k_BadName_NoCell := k_BadName_NoCell, s_BadName_ZeroBottom := s_BadName_ZeroBottom, k_BadName_ZeroBottom := k_BadName_ZeroBottom, s_BadName_BadName := s_BadName_BadName, k_BadName_BadName := k_BadName_BadName, s_BadName_BadSize := s_BadName_BadSize, k_BadName_BadSize := k_BadName_BadSize, s_BadName_Book := s_BadName_Book, k_BadName_Book := k_BadName_Book, k_BadName_ValueError := k_BadName_ValueError, e_BadSize := e_BadSize, s_BadSize_BookError := s_BadSize_BookError, k_BadSize_BookError := k_BadSize_BookError, s_BadSize_NoCell := s_BadSize_NoCell, k_BadSize_NoCell := k_BadSize_NoCell, s_BadSize_ZeroBottom := s_BadSize_ZeroBottom, k_BadSize_ZeroBottom := k_BadSize_ZeroBottom, s_BadSize_BadName := s_BadSize_BadName, k_BadSize_BadName := k_BadSize_BadName, s_BadSize_BadSize := s_BadSize_BadSize, k_BadSize_BadSize := k_BadSize_BadSize, s_BadSize_Book := s_BadSize_Book, k_BadSize_Book := k_BadSize_Book, k_BadSize_ValueError := k_BadSize_ValueError, e_NoCell := e_NoCell, s_NoCell_BookError := s_NoCell_BookError, k_NoCell_BookError := k_NoCell_BookError, s_NoCell_NoCell := s_NoCell_NoCell, k_NoCell_NoCell := k_NoCell_NoCell, s_NoCell_ZeroBottom := s_NoCell_ZeroBottom, k_NoCell_ZeroBottom := k_NoCell_ZeroBottom, s_NoCell_BadName := s_NoCell_BadName, k_NoCell_BadName := k_NoCell_BadName, s_NoCell_BadSize := s_NoCell_BadSize, k_NoCell_BadSize := k_NoCell_BadSize, s_NoCell_Book := s_NoCell_Book, k_NoCell_Book := k_NoCell_Book, k_NoCell_ValueError := k_NoCell_ValueError }⟩
def spLaw (K : PySem.W.Frag) : Sp := Pm (ι := List Int) (fun ns => True) (fun ns => [rLst K (ns.map rInt)]) (fun ns => .val (rBl true))
theorem law_end {l : PySem.W.OpenLaw} {w : World} {K : PySem.W.Frag} {mg : Str → Option Value} {h : Heap} {fa : Addr} {cs : Cs} (hmg : mg "law" = some (.ref fa)) (T : Txt K mg cs) :
    ∃ fd : FuncData, (∀ (s : Shared) (u : Value), BindsTo s fd ⟨[u], []⟩ [("_law_script", u)]) ∧ ∀ base : Heap, K.In base → base.Ns mainGlobals mg → FnOk l.prog w K mg base (L2.CX l.prog w) 10 fa fd ["_law_script"] (spLaw K) := by
  obtain ⟨f, fd, F, hm⟩ := T.d_law.ex
  have e : f = fa := by rw [hm] at hmg; cases hmg; rfl
  subst e
  refine ⟨fd, fun s u => ?_, fun base hK hn => ?_⟩
  · obtain ⟨oc, od, kV, doc, pm, an, cdv, ct, osl, rfl, _, _⟩ := F.ex
    exact .of_eq rfl
  · exact ok_law (P := l.prog) (w := w) (base := base) T F
theorem walk {l : PySem.W.OpenLaw} {q : Program} {loose : List Str} {XP : (Str → Option Value) → Heap → Prop} {YP : World → Heap → Prop} {d : DefRec} {K : Params → PySem.W.Frag} (hn : l.most = some 63) (hdf : d.params.defaults = []) (hd : d.name = "law")
    (hY : ∀ (w : World) (h : Heap), YP w h → (K w.params).In h)
    (F : ∀ (w : World) (mg : Str → Option Value) (h : Heap), (K w.params).In h → h.Ns mainGlobals mg → ∃ cs : Cs, Txt (K w.params) mg cs) :
    PySem.W.WalkO q loose XP YP l.row.toRowW d [] (fun f vs => PySem.call f vs) :=
  L2.walk_of (n := 63) (k := 10) (x := "_law_script") (CX := fun w => L2.CX l.prog w) (sp := fun w => spLaw (K w.params)) hn (by decide) hdf ⟨rfl, by decide, by decide⟩ hY
    (fun w mg fa h KX G hmg => by
      obtain ⟨cs, T⟩ := F w mg h KX G
      exact law_end (h := h) (hd ▸ hmg) T)
    (fun _ H a ns hl _ hS => ⟨ns, H, trivial, fun _ _ z => z, .cons ⟨a, ns.map V.int, rfl, hS, rl_ints H ns⟩ .nil, fun v _ _ _ hv => hv⟩)
    (fun _ _ _ _ _ ⟨_, _, _, _, _, _, _, _, _, _, _, _, z⟩ => z)
end K01
open PySem PySem.W PyProof.Rows
set_option maxRecDepth 100000 in
set_option maxHeartbeats 0 in
theorem PySem.Challenge.cw_fineststep_k01_frames_and_other_side_holds : PySem.Challenge.rw_fineststep_k01_frames_and_other_side.Holds := by
  w_on; o_law; k_head; (case hw => w_witness2)
  k_fill
  refine K01.walk (l := PySem.Challenge.rw_fineststep_k01_frames_and_other_side) rfl rfl rfl (fun w h Y => PySem.W.kIn_of Y) ?F
  case F =>
    intro w mg h KX G
    refine' K01.txt_of (PySem.W.mg_none_of KX G ?zb_ValueError) (PySem.W.mg_none_of KX G ?zb_abs) (PySem.W.mg_none_of KX G ?zb_all) (PySem.W.mg_none_of KX G ?zb_bool) (PySem.W.mg_none_of KX G ?zb_classmethod) (PySem.W.mg_none_of KX G ?zb_enumerate) (PySem.W.mg_none_of KX G ?zb_int) (PySem.W.mg_none_of KX G ?zb_isinstance) (PySem.W.mg_none_of KX G ?zb_len) (PySem.W.mg_none_of KX G ?zb_list) (PySem.W.mg_none_of KX G ?zb_min) (PySem.W.mg_none_of KX G ?zb_range) (PySem.W.mg_none_of KX G ?zb_set) (PySem.W.mg_none_of KX G ?zb_str) (PySem.W.mg_none_of KX G ?zb_tuple) (PySem.W.mg_none_of KX G ?zb_zip) (PySem.W.mg_of KX G ?zm_gcd) (PySem.W.mg_of KX G ?zm_lcm) (K01.xcls_mk KX G ?xg_BookError ?xe_BookError ?xk_BookError ?xb_BookError ?xt_BookError ?xh_BookError) (K01.xclsF_NoCell KX G ?yg_NoCell ?yc_NoCell ?yv_NoCell ?ysa_NoCell ?yex_NoCell ?yty_NoCell ?yk_NoCell ?yno_NoCell ?yga_NoCell ?ygg_NoCell ?yhd_NoCell ?yfi_NoCell ?yft_NoCell ?yl_NoCell ?ycd_NoCell ?ykf_NoCell) (K01.xcls_mk KX G ?xg_ZeroBottom ?xe_ZeroBottom ?xk_ZeroBottom ?xb_ZeroBottom ?xt_ZeroBottom ?xh_ZeroBottom) (K01.xcls_mk KX G ?xg_BadName ?xe_BadName ?xk_BadName ?xb_BadName ?xt_BadName ?xh_BadName) (K01.xcls_mk KX G ?xg_BadSize ?xe_BadSize ?xk_BadSize ?xb_BadSize ?xt_BadSize ?xh_BadSize) (K01.ti_Book KX G ?ig_Book ?ifi_Book ?il_Book ?icd_Book ?ikf_Book ?imk_Book ?ifn_Book ?ikp_Book ?ipg_Book ?ihd_Book ?ipo_Book ?isa_Book ?in0_Book ?in1_Book ?in2_Book) (K01.tc_Book_free ?trd_Book_free ?tga_Book_free ?tat_Book_free ?trc_Book_free ?tfi_Book_free ?tl_Book_free ?tcd_Book_free ?tkf_Book_free) (K01.str_mk KX G ?zs_LETTERS) (K01.str_mk KX G ?zs_DIGITS) (K01.int_mk KX G ?zc_MOST_CELLS) (K01.int_mk KX G ?zc_MOST_SIGNS) (K01.td_mk KX G ?da_0 ?dl_0 ?dc_0 ?dk_0) (K01.td_mk KX G ?da_1 ?dl_1 ?dc_1 ?dk_1) (K01.td_mk KX G ?da_2 ?dl_2 ?dc_2 ?dk_2) (K01.td_mk KX G ?da_3 ?dl_3 ?dc_3 ?dk_3) (K01.td_mk KX G ?da_4 ?dl_4 ?dc_4 ?dk_4) (K01.td_mk KX G ?da_5 ?dl_5 ?dc_5 ?dk_5) (K01.td_mk KX G ?da_6 ?dl_6 ?dc_6 ?dk_6) (K01.td_mk KX G ?da_7 ?dl_7 ?dc_7 ?dk_7) (K01.td_mk KX G ?da_8 ?dl_8 ?dc_8 ?dk_8) (K01.td_mk KX G ?da_9 ?dl_9 ?dc_9 ?dk_9) (K01.td_mk KX G ?da_10 ?dl_10 ?dc_10 ?dk_10) (K01.td_mk KX G ?da_11 ?dl_11 ?dc_11 ?dk_11) (K01.td_mk KX G ?da_12 ?dl_12 ?dc_12 ?dk_12) (K01.td_mk KX G ?da_13 ?dl_13 ?dc_13 ?dk_13) (K01.td_mk KX G ?da_14 ?dl_14 ?dc_14 ?dk_14) (K01.td_mk KX G ?da_15 ?dl_15 ?dc_15 ?dk_15) (K01.td_mk KX G ?da_16 ?dl_16 ?dc_16 ?dk_16) (K01.td_mk KX G ?da_17 ?dl_17 ?dc_17 ?dk_17) (K01.td_mk KX G ?da_18 ?dl_18 ?dc_18 ?dk_18) (K01.td_mk KX G ?da_19 ?dl_19 ?dc_19 ?dk_19) (K01.td_mk KX G ?da_20 ?dl_20 ?dc_20 ?dk_20) (K01.td_mk KX G ?da_21 ?dl_21 ?dc_21 ?dk_21) (K01.td_mk KX G ?da_22 ?dl_22 ?dc_22 ?dk_22) (K01.td_mk KX G ?da_23 ?dl_23 ?dc_23 ?dk_23) (K01.td_mk KX G ?da_24 ?dl_24 ?dc_24 ?dk_24) (K01.td_mk KX G ?da_25 ?dl_25 ?dc_25 ?dk_25) (K01.td_mk KX G ?da_26 ?dl_26 ?dc_26 ?dk_26) (K01.td_mk KX G ?da_27 ?dl_27 ?dc_27 ?dk_27) (K01.td_mk KX G ?da_28 ?dl_28 ?dc_28 ?dk_28) (K01.td_mk KX G ?da_29 ?dl_29 ?dc_29 ?dk_29) (K01.td_mk KX G ?da_30 ?dl_30 ?dc_30 ?dk_30) (K01.td_mk KX G ?da_31 ?dl_31 ?dc_31 ?dk_31) (K01.td_mk KX G ?da_32 ?dl_32 ?dc_32 ?dk_32) (K01.td_mk KX G ?da_33 ?dl_33 ?dc_33 ?dk_33) (K01.td_mk KX G ?da_34 ?dl_34 ?dc_34 ?dk_34) (K01.td_mk KX G ?da_36 ?dl_36 ?dc_36 ?dk_36) (K01.td_mk KX G ?da_37 ?dl_37 ?dc_37 ?dk_37) (K01.td_mk KX G ?da_38 ?dl_38 ?dc_38 ?dk_38) (K01.td_mk KX G ?da_39 ?dl_39 ?dc_39 ?dk_39) (K01.td_mk KX G ?da_40 ?dl_40 ?dc_40 ?dk_40) (K01.td_mk KX G ?da_41 ?dl_41 ?dc_41 ?dk_41) (K01.td_mk KX G ?da_42 ?dl_42 ?dc_42 ?dk_42) (K01.td_mk KX G ?da_43 ?dl_43 ?dc_43 ?dk_43) (K01.td_mk KX G ?da_44 ?dl_44 ?dc_44 ?dk_44) (K01.td_mk KX G ?da_45 ?dl_45 ?dc_45 ?dk_45) (K01.td_mk KX G ?da_46 ?dl_46 ?dc_46 ?dk_46) (K01.td_mk KX G ?da_47 ?dl_47 ?dc_47 ?dk_47) (K01.td_mk KX G ?da_48 ?dl_48 ?dc_48 ?dk_48) (K01.td_mk KX G ?da_49 ?dl_49 ?dc_49 ?dk_49) (K01.td_mk KX G ?da_50 ?dl_50 ?dc_50 ?dk_50) ⟨?e0_BadName, ?e1_BadName, ?e2_BadName, ?e3_BadName, ?e4_BadName, ?e5_BadName, ?e6_BadName, ?e7_BadName⟩ ?s_BadName_BookError ?k_BadName_BookError ?s_BadName_NoCell ?k_BadName_NoCell ?s_BadName_ZeroBottom ?k_BadName_ZeroBottom ?s_BadName_BadName ?k_BadName_BadName ?s_BadName_BadSize ?k_BadName_BadSize ?s_BadName_Book ?k_BadName_Book ?k_BadName_VE ⟨?e0_BadSize, ?e1_BadSize, ?e2_BadSize, ?e3_BadSize, ?e4_BadSize, ?e5_BadSize, ?e6_BadSize, ?e7_BadSize⟩ ?s_BadSize_BookError ?k_BadSize_BookError ?s_BadSize_NoCell ?k_BadSize_NoCell ?s_BadSize_ZeroBottom ?k_BadSize_ZeroBottom ?s_BadSize_BadName ?k_BadSize_BadName ?s_BadSize_BadSize ?k_BadSize_BadSize ?s_BadSize_Book ?k_BadSize_Book ?k_BadSize_VE ⟨?e0_NoCell, ?e1_NoCell, ?e2_NoCell, ?e3_NoCell, ?e4_NoCell, ?e5_NoCell, ?e6_NoCell, ?e7_NoCell⟩ ?s_NoCell_BookError ?k_NoCell_BookError ?s_NoCell_NoCell ?k_NoCell_NoCell ?s_NoCell_ZeroBottom ?k_NoCell_ZeroBottom ?s_NoCell_BadName ?k_NoCell_BadName ?s_NoCell_BadSize ?k_NoCell_BadSize ?s_NoCell_Book ?k_NoCell_Book ?k_NoCell_VE
    (case zb_ValueError => k_is)
    (case zb_abs => k_is)
    (case zb_all => k_is)
    (case zb_bool => k_is)
    (case zb_classmethod => k_is)
    (case zb_enumerate => k_is)
    (case zb_int => k_is)
    (case zb_isinstance => k_is)
    (case zb_len => k_is)
    (case zb_list => k_is)
    (case zb_min => k_is)
    (case zb_range => k_is)
    (case zb_set => k_is)
    (case zb_str => k_is)
    (case zb_tuple => k_is)
    (case zb_zip => k_is)
    (case zm_gcd => k_is)
    (case zm_lcm => k_is)
    (case xg_BookError => k_is)
    (case xe_BookError => k_exc)
    (case xk_BookError => k_is)
    (case xb_BookError => k_is)
    (case xt_BookError => k_is)
    (case xh_BookError => k_is)
    (case yg_NoCell => first | k_is | rfl | decide +kernel)
    (case yc_NoCell => first | k_is | rfl | decide +kernel)
    (case yv_NoCell => first | k_is | rfl | decide +kernel)
    (case ysa_NoCell => first | k_is | rfl | decide +kernel)
    (case yex_NoCell => first | k_is | rfl | decide +kernel)
    (case yty_NoCell => first | k_is | rfl | decide +kernel)
    (case yk_NoCell => first | k_is | rfl | decide +kernel)
    (case yno_NoCell => first | k_is | rfl | decide +kernel)
    (case yga_NoCell => first | k_is | rfl | decide +kernel)
    (case ygg_NoCell => first | k_is | rfl | decide +kernel)
    (case yhd_NoCell => first | k_is | rfl | decide +kernel)
    (case yfi_NoCell => first | k_is | rfl | decide +kernel)
    (case yft_NoCell => first | k_is | rfl | decide +kernel)
    (case yl_NoCell => first | k_is | rfl | decide +kernel)
    (case ycd_NoCell => first | k_is | rfl | decide +kernel)
    (case ykf_NoCell => first | k_is | rfl | decide +kernel)
    (case xg_ZeroBottom => k_is)
    (case xe_ZeroBottom => k_exc)
    (case xk_ZeroBottom => k_is)
    (case xb_ZeroBottom => k_is)
    (case xt_ZeroBottom => k_is)
    (case xh_ZeroBottom => k_is)
    (case xg_BadName => k_is)
    (case xe_BadName => k_exc)
    (case xk_BadName => k_is)
    (case xb_BadName => k_is)
    (case xt_BadName => k_is)
    (case xh_BadName => k_is)
    (case xg_BadSize => k_is)
    (case xe_BadSize => k_exc)
    (case xk_BadSize => k_is)
    (case xb_BadSize => k_is)
    (case xt_BadSize => k_is)
    (case xh_BadSize => k_is)
    (case ig_Book => first | k_is | rfl | decide +kernel)
    (case ifi_Book => first | k_is | rfl | decide +kernel)
    (case il_Book => first | k_is | rfl | decide +kernel)
    (case icd_Book => first | k_is | rfl | decide +kernel)
    (case ikf_Book => first | k_is | rfl | decide +kernel)
    (case imk_Book => first | k_is | rfl | decide +kernel)
    (case ifn_Book => first | k_is | rfl | decide +kernel)
    (case ikp_Book => first | k_is | rfl | decide +kernel)
    (case ipg_Book => first | k_is | rfl | decide +kernel)
    (case ihd_Book => first | k_is | rfl | decide +kernel)
    (case ipo_Book => first | k_is | rfl | decide +kernel)
    (case isa_Book => first | k_is | rfl | decide +kernel)
    (case in0_Book => first | k_is | rfl | decide +kernel)
    (case in1_Book => first | k_is | rfl | decide +kernel)
    (case in2_Book => first | k_is | rfl | decide +kernel)
    (case trd_Book_free => first | k_is | rfl | decide +kernel)
    (case tga_Book_free => first | k_is | rfl | decide +kernel)
    (case tat_Book_free => first | k_is | rfl | decide +kernel)
    (case trc_Book_free => first | k_is | rfl | decide +kernel)
    (case tfi_Book_free => first | k_is | rfl | decide +kernel)
    (case tl_Book_free => first | k_is | rfl | decide +kernel)
    (case tcd_Book_free => first | k_is | rfl | decide +kernel)
    (case tkf_Book_free => first | k_is | rfl | decide +kernel)
    (case zs_LETTERS => k_is)
    (case zs_DIGITS => k_is)
    (case zc_MOST_CELLS => k_is)
    (case zc_MOST_SIGNS => k_is)
    (case da_0 => k_is)
    (case dl_0 => k_is)
    (case dc_0 => k_is)
    (case dk_0 => k_is)
    (case da_1 => k_is)
    (case dl_1 => k_is)
    (case dc_1 => k_is)
    (case dk_1 => k_is)
    (case da_2 => k_is)
    (case dl_2 => k_is)
    (case dc_2 => k_is)
    (case dk_2 => k_is)
    (case da_3 => k_is)
    (case dl_3 => k_is)
    (case dc_3 => k_is)
    (case dk_3 => k_is)
    (case da_4 => k_is)
    (case dl_4 => k_is)
    (case dc_4 => k_is)
    (case dk_4 => k_is)
    (case da_5 => k_is)
    (case dl_5 => k_is)
    (case dc_5 => k_is)
    (case dk_5 => k_is)
    (case da_6 => k_is)
    (case dl_6 => k_is)
    (case dc_6 => k_is)
    (case dk_6 => k_is)
    (case da_7 => k_is)
    (case dl_7 => k_is)
    (case dc_7 => k_is)
    (case dk_7 => k_is)
    (case da_8 => k_is)
    (case dl_8 => k_is)
    (case dc_8 => k_is)
    (case dk_8 => k_is)
    (case da_9 => k_is)
    (case dl_9 => k_is)
    (case dc_9 => k_is)
    (case dk_9 => k_is)
    (case da_10 => k_is)
    (case dl_10 => k_is)
    (case dc_10 => k_is)
    (case dk_10 => k_is)
    (case da_11 => k_is)
    (case dl_11 => k_is)
    (case dc_11 => k_is)
    (case dk_11 => k_is)
    (case da_12 => k_is)
    (case dl_12 => k_is)
    (case dc_12 => k_is)
    (case dk_12 => k_is)
    (case da_13 => k_is)
    (case dl_13 => k_is)
    (case dc_13 => k_is)
    (case dk_13 => k_is)
    (case da_14 => k_is)
    (case dl_14 => k_is)
    (case dc_14 => k_is)
    (case dk_14 => k_is)
    (case da_15 => k_is)
    (case dl_15 => k_is)
    (case dc_15 => k_is)
    (case dk_15 => k_is)
    (case da_16 => k_is)
    (case dl_16 => k_is)
    (case dc_16 => k_is)
    (case dk_16 => k_is)
    (case da_17 => k_is)
    (case dl_17 => k_is)
    (case dc_17 => k_is)
    (case dk_17 => k_is)
    (case da_18 => k_is)
    (case dl_18 => k_is)
    (case dc_18 => k_is)
    (case dk_18 => k_is)
    (case da_19 => k_is)
    (case dl_19 => k_is)
    (case dc_19 => k_is)
    (case dk_19 => k_is)
    (case da_20 => k_is)
    (case dl_20 => k_is)
    (case dc_20 => k_is)
    (case dk_20 => k_is)
    (case da_21 => k_is)
    (case dl_21 => k_is)
    (case dc_21 => k_is)
    (case dk_21 => k_is)
    (case da_22 => k_is)
    (case dl_22 => k_is)
    (case dc_22 => k_is)
    (case dk_22 => k_is)
    (case da_23 => k_is)
    (case dl_23 => k_is)
    (case dc_23 => k_is)
    (case dk_23 => k_is)
    (case da_24 => k_is)
    (case dl_24 => k_is)
    (case dc_24 => k_is)
    (case dk_24 => k_is)
    (case da_25 => k_is)
    (case dl_25 => k_is)
    (case dc_25 => k_is)
    (case dk_25 => k_is)
    (case da_26 => k_is)
    (case dl_26 => k_is)
    (case dc_26 => k_is)
    (case dk_26 => k_is)
    (case da_27 => k_is)
    (case dl_27 => k_is)
    (case dc_27 => k_is)
    (case dk_27 => k_is)
    (case da_28 => k_is)
    (case dl_28 => k_is)
    (case dc_28 => k_is)
    (case dk_28 => k_is)
    (case da_29 => k_is)
    (case dl_29 => k_is)
    (case dc_29 => k_is)
    (case dk_29 => k_is)
    (case da_30 => k_is)
    (case dl_30 => k_is)
    (case dc_30 => k_is)
    (case dk_30 => k_is)
    (case da_31 => k_is)
    (case dl_31 => k_is)
    (case dc_31 => k_is)
    (case dk_31 => k_is)
    (case da_32 => k_is)
    (case dl_32 => k_is)
    (case dc_32 => k_is)
    (case dk_32 => k_is)
    (case da_33 => k_is)
    (case dl_33 => k_is)
    (case dc_33 => k_is)
    (case dk_33 => k_is)
    (case da_34 => k_is)
    (case dl_34 => k_is)
    (case dc_34 => k_is)
    (case dk_34 => k_is)
    (case da_36 => k_is)
    (case dl_36 => k_is)
    (case dc_36 => k_is)
    (case dk_36 => k_is)
    (case da_37 => k_is)
    (case dl_37 => k_is)
    (case dc_37 => k_is)
    (case dk_37 => k_is)
    (case da_38 => k_is)
    (case dl_38 => k_is)
    (case dc_38 => k_is)
    (case dk_38 => k_is)
    (case da_39 => k_is)
    (case dl_39 => k_is)
    (case dc_39 => k_is)
    (case dk_39 => k_is)
    (case da_40 => k_is)
    (case dl_40 => k_is)
    (case dc_40 => k_is)
    (case dk_40 => k_is)
    (case da_41 => k_is)
    (case dl_41 => k_is)
    (case dc_41 => k_is)
    (case dk_41 => k_is)
    (case da_42 => k_is)
    (case dl_42 => k_is)
    (case dc_42 => k_is)
    (case dk_42 => k_is)
    (case da_43 => k_is)
    (case dl_43 => k_is)
    (case dc_43 => k_is)
    (case dk_43 => k_is)
    (case da_44 => k_is)
    (case dl_44 => k_is)
    (case dc_44 => k_is)
    (case dk_44 => k_is)
    (case da_45 => k_is)
    (case dl_45 => k_is)
    (case dc_45 => k_is)
    (case dk_45 => k_is)
    (case da_46 => k_is)
    (case dl_46 => k_is)
    (case dc_46 => k_is)
    (case dk_46 => k_is)
    (case da_47 => k_is)
    (case dl_47 => k_is)
    (case dc_47 => k_is)
    (case dk_47 => k_is)
    (case da_48 => k_is)
    (case dl_48 => k_is)
    (case dc_48 => k_is)
    (case dk_48 => k_is)
    (case da_49 => k_is)
    (case dl_49 => k_is)
    (case dc_49 => k_is)
    (case dk_49 => k_is)
    (case da_50 => k_is)
    (case dl_50 => k_is)
    (case dc_50 => k_is)
    (case dk_50 => k_is)
    (case e0_BadName => k_is)
    (case e1_BadName => k_is)
    (case e2_BadName => k_is)
    (case e3_BadName => k_is)
    (case e4_BadName => k_is)
    (case e5_BadName => k_is)
    (case e6_BadName => k_is)
    (case e7_BadName => k_is)
    (case s_BadName_BookError => first | rfl | k_is)
    (case k_BadName_BookError => first | k_is | rfl)
    (case s_BadName_NoCell => first | rfl | k_is)
    (case k_BadName_NoCell => first | k_is | rfl)
    (case s_BadName_ZeroBottom => first | rfl | k_is)
    (case k_BadName_ZeroBottom => first | k_is | rfl)
    (case s_BadName_BadName => first | rfl | k_is)
    (case k_BadName_BadName => first | k_is | rfl)
    (case s_BadName_BadSize => first | rfl | k_is)
    (case k_BadName_BadSize => first | k_is | rfl)
    (case s_BadName_Book => first | rfl | k_is)
    (case k_BadName_Book => first | k_is | rfl)
    (case k_BadName_VE => first | k_is | rfl)
    (case e0_BadSize => k_is)
    (case e1_BadSize => k_is)
    (case e2_BadSize => k_is)
    (case e3_BadSize => k_is)
    (case e4_BadSize => k_is)
    (case e5_BadSize => k_is)
    (case e6_BadSize => k_is)
    (case e7_BadSize => k_is)
    (case s_BadSize_BookError => first | rfl | k_is)
    (case k_BadSize_BookError => first | k_is | rfl)
    (case s_BadSize_NoCell => first | rfl | k_is)
    (case k_BadSize_NoCell => first | k_is | rfl)
    (case s_BadSize_ZeroBottom => first | rfl | k_is)
    (case k_BadSize_ZeroBottom => first | k_is | rfl)
    (case s_BadSize_BadName => first | rfl | k_is)
    (case k_BadSize_BadName => first | k_is | rfl)
    (case s_BadSize_BadSize => first | rfl | k_is)
    (case k_BadSize_BadSize => first | k_is | rfl)
    (case s_BadSize_Book => first | rfl | k_is)
    (case k_BadSize_Book => first | k_is | rfl)
    (case k_BadSize_VE => first | k_is | rfl)
    (case e0_NoCell => k_is)
    (case e1_NoCell => k_is)
    (case e2_NoCell => k_is)
    (case e3_NoCell => k_is)
    (case e4_NoCell => k_is)
    (case e5_NoCell => k_is)
    (case e6_NoCell => k_is)
    (case e7_NoCell => k_is)
    (case s_NoCell_BookError => first | rfl | k_is)
    (case k_NoCell_BookError => first | k_is | rfl)
    (case s_NoCell_NoCell => first | rfl | k_is)
    (case k_NoCell_NoCell => first | k_is | rfl)
    (case s_NoCell_ZeroBottom => first | rfl | k_is)
    (case k_NoCell_ZeroBottom => first | k_is | rfl)
    (case s_NoCell_BadName => first | rfl | k_is)
    (case k_NoCell_BadName => first | k_is | rfl)
    (case s_NoCell_BadSize => first | rfl | k_is)
    (case k_NoCell_BadSize => first | k_is | rfl)
    (case s_NoCell_Book => first | rfl | k_is)
    (case k_NoCell_Book => first | k_is | rfl)
    (case k_NoCell_VE => first | k_is | rfl)
