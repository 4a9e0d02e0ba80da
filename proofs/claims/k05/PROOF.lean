import PyProof.Rows.All
import Wide.All
import OpenK.AllK
import Wide.FinOn
import HandS.ForMost
import HandS.Exc
import HandS.TryOnly
import HandS.ExcOwn
import HandS.ExcInit
import HandS.Flow
import HandS.TupAny
import HandS.TupMul
import HandS.FStr
import HandS.Wide
import HandS.IsInst
import HandS.Text
import HandS.Codes
import PyProof.Rows.SortShellAny
import PyProof.ListStr
import PyProof.CollectStr
import HandS.NoneIn
import HandS.WordsExc
import HandS.Iter
import HandS.Comp
import HandS.ForExc
import HandS.ExcCtx
import HandS.HotCalls
import HandS.ExcInitHot
import HandS.ExcIs
import HandS.ExcField
import KE.KExcIs
import PyProof.Rows.RegReprOcc
import PySem.Challenge.RW_shownempty_k05_bad_texts
set_option Elab.async false
set_option linter.all false
section
set_option maxRecDepth 100000
set_option maxHeartbeats 2000000
namespace RL
open PySem PySem.Spec PyProof.Rows L2

/-! ## values as trees; lists that are never changed are values too; what changes stands in a store -/
inductive T where
  | non
  | bl (b : Bool)
  | int (i : Int)
  | str (x : Str)
  | ty (n : String)
  | tup (xs : List T)
  | lst (xs : List T)
  | loc (n : Nat)
  /-- a caught exception with one field -/
  | exn (a d : Addr) (f : Str) (t : T)
abbrev Sto := List (List T)
abbrev Env' := List (Option T)

/-- a list that may be read and is none of those that change -/
def SqP (K : W.Frag) (μ π : List Addr) (H : Hp) (a : Addr) (xs : List V) : Prop :=
  (Rd H a (.lst xs) ∧ a ∉ μ ∧ a ∉ π) ∨
    ∃ (o : Obj) (its : Array Value) (n : Nat), K.lookup a = some o ∧ o.cls = .type "list" ∧ o.dict = none ∧ o.data = .seq its n ∧ its.size ≤ sizeLine ∧ Vals xs its.toList
theorem SqP.sq {K : W.Frag} {μ π : List Addr} {H : Hp} {a : Addr} {xs : List V} (h : SqP K μ π H a xs) : SqL K H a xs := by
  rcases h with h | h
  · exact .inl h.1
  · exact .inr h

mutual
def RelT (K : W.Frag) (μ π : List Addr) (H : Hp) : T → V → Prop
  | .non, v => v = .non
  | .bl b, v => v = .bl b
  | .int i, v => v = .int i
  | .str x, v => v = .str x ∧ x.length ≤ sizeLine
  | .ty n, v => v = .ty n
  | .tup ts, v => ∃ a xs, v = .ref a ∧ SqT K H a xs ∧ RelTs K μ π H ts xs
  | .lst ts, v => ∃ a xs, v = .ref a ∧ SqP K μ π H a xs ∧ RelTs K μ π H ts xs
  | .loc n, v => ∃ a, v = .ref a ∧ μ[n]? = some a
  | .exn a d f t, v => v = .ref a ∧ ∃ vs w, H d = some (.xd vs) ∧ d ∉ μ ∧ vs.lookup f = some w ∧ RelT K μ π H t w
def RelTs (K : W.Frag) (μ π : List Addr) (H : Hp) : List T → List V → Prop
  | [], vs => vs = []
  | t :: ts, vs => ∃ v r, vs = v :: r ∧ RelT K μ π H t v ∧ RelTs K μ π H ts r
end

structure Stp (μ : List Addr) (H : Hp) (μ' : List Addr) (H' : Hp) : Prop where
  ext : ∃ ν, μ' = μ ++ ν ∧ ∀ a ∈ ν, H a = none
  keep : ∀ a o, H a = some o → a ∉ μ → H' a = some o

structure RelS (K : W.Frag) (μ π : List Addr) (H : Hp) (S : Sto) : Prop where
  len : S.length = μ.length
  nd : μ.Nodup
  at_ : ∀ (n : Nat) (ts : List T), S[n]? = some ts → ∃ a xs, μ[n]? = some a ∧ H a = some (.lst xs) ∧ RelTs K μ π H ts xs
  pi : ∀ a ∈ π, H a ≠ none ∧ a ∉ μ

section
variable {K : W.Frag} {μ μ' μ'' π : List Addr} {H H' H'' : Hp} {S S' : Sto}
theorem RelS.mu (h : RelS K μ π H S) {a : Addr} (ha : a ∈ μ) : ∃ xs, H a = some (.lst xs) := by
  obtain ⟨n, hn, e⟩ := List.getElem_of_mem ha
  have hs : n < S.length := by rw [h.len]; exact hn
  obtain ⟨b, xs, h1, h2, _⟩ := h.at_ n S[n] (List.getElem?_eq_getElem hs)
  rw [List.getElem?_eq_getElem hn, e] at h1
  cases h1
  exact ⟨xs, h2⟩
theorem Stp.refl : Stp μ H μ H := ⟨⟨[], by simp, fun a h => absurd h (by simp)⟩, fun _ _ h _ => h⟩
theorem Stp.nin (s : Stp μ H μ' H') {a : Addr} {o : HO} (h : H a = some o) (ha : a ∉ μ) : a ∉ μ' := by
  obtain ⟨ν, rfl, hv⟩ := s.ext
  intro hm
  rcases List.mem_append.mp hm with z | z
  · exact ha z
  · rw [hv a z] at h; cases h
theorem Stp.trans (s : Stp μ H μ' H') (h1 : RelS K μ' π H' S') (t : Stp μ' H' μ'' H'') : Stp μ H μ'' H'' := by
  obtain ⟨ν, e1, f1⟩ := s.ext
  obtain ⟨ν2, e2, f2⟩ := t.ext
  refine ⟨⟨ν ++ ν2, by rw [e2, e1, List.append_assoc], fun a ha => ?_⟩, fun a o h ha => t.keep a o (s.keep a o h ha) (s.nin h ha)⟩
  rcases List.mem_append.mp ha with z | z
  · exact f1 a z
  · cases q : H a with
    | none => rfl
    | some o =>
      have e := f2 a z
      by_cases hm : a ∈ μ
      · obtain ⟨xs, e'⟩ := h1.mu (a := a) (by rw [e1]; exact List.mem_append_left _ hm)
        rw [e] at e'; cases e'
      · rw [s.keep a o q hm] at e; cases e
theorem Stp.get (s : Stp μ H μ' H') {n : Nat} {a : Addr} (h : μ[n]? = some a) : μ'[n]? = some a := by
  obtain ⟨ν, rfl, _⟩ := s.ext
  rw [List.getElem?_append_left (List.getElem?_eq_some_iff.mp h).1]; exact h
theorem Rd.step (s : Stp μ H μ' H') {a : Addr} {u : HO} (h : Rd H a u) (ha : a ∉ μ) : Rd H' a u := by
  rcases h with h | ⟨o, h⟩
  · exact .inl (s.keep a _ h ha)
  · exact .inr ⟨o, s.keep a _ h ha⟩
theorem SqT.stepK (hs : RelS K μ π H S) (s : Stp μ H μ' H') {a : Addr} {xs : List V} (h : SqT K H a xs) : SqT K H' a xs := by
  rcases h with h | h
  · refine .inl (Rd.step s h fun hm => ?_)
    obtain ⟨ys, e⟩ := hs.mu hm
    rcases h with h | ⟨o, h⟩
    · rw [e] at h; cases h
    · rw [e] at h; cases h
  · exact .inr h
theorem SqP.step (s : Stp μ H μ' H') {a : Addr} {xs : List V} (h : SqP K μ π H a xs) : SqP K μ' π H' a xs := by
  rcases h with ⟨h, h1, h2⟩ | h
  · refine .inl ⟨Rd.step s h h1, ?_, h2⟩
    rcases h with h | ⟨o, h⟩
    · exact s.nin h h1
    · exact s.nin h h1
  · exact .inr h
mutual
theorem RelT.step (hs : RelS K μ π H S) (s : Stp μ H μ' H') : ∀ {t : T} {v : V}, RelT K μ π H t v → RelT K μ' π H' t v
  | .non, _, h => by unfold RelT at *; exact h
  | .bl _, _, h => by unfold RelT at *; exact h
  | .int _, _, h => by unfold RelT at *; exact h
  | .str _, _, h => by unfold RelT at *; exact h
  | .ty _, _, h => by unfold RelT at *; exact h
  | .tup ts, _, h => by
    unfold RelT at *
    obtain ⟨a, xs, e, q, r⟩ := h
    exact ⟨a, xs, e, SqT.stepK hs s q, RelTs.step hs s r⟩
  | .lst ts, _, h => by
    unfold RelT at *
    obtain ⟨a, xs, e, q, r⟩ := h
    exact ⟨a, xs, e, SqP.step s q, RelTs.step hs s r⟩
  | .loc n, _, h => by
    unfold RelT at *
    obtain ⟨a, e, q⟩ := h
    exact ⟨a, e, s.get q⟩
  | .exn a d f t, _, h => by
    unfold RelT at *
    obtain ⟨e, vs, w, h1, h2, h3, h4⟩ := h
    exact ⟨e, vs, w, s.keep d _ h1 h2, s.nin h1 h2, h3, RelT.step hs s h4⟩
theorem RelTs.step (hs : RelS K μ π H S) (s : Stp μ H μ' H') : ∀ {ts : List T} {vs : List V}, RelTs K μ π H ts vs → RelTs K μ' π H' ts vs
  | [], _, h => by unfold RelTs at *; exact h
  | t :: ts, _, h => by
    unfold RelTs at *
    obtain ⟨v, r, e, h1, h2⟩ := h
    exact ⟨v, r, e, RelT.step hs s h1, RelTs.step hs s h2⟩
end
theorem RelTs.length : ∀ {ts : List T} {vs : List V}, RelTs K μ π H ts vs → vs.length = ts.length
  | [], _, h => by unfold RelTs at h; subst h; rfl
  | t :: ts, _, h => by
    unfold RelTs at h
    obtain ⟨v, r, rfl, _, h2⟩ := h
    rw [List.length_cons, List.length_cons, RelTs.length h2]
theorem RelTs.get : ∀ {ts : List T} {vs : List V} {i : Nat} {t : T}, RelTs K μ π H ts vs → ts[i]? = some t → ∃ v, vs[i]? = some v ∧ RelT K μ π H t v
  | [], _, _, _, _, e => by simp at e
  | t :: ts, _, 0, _, h, e => by
    unfold RelTs at h
    obtain ⟨v, r, rfl, h1, _⟩ := h
    simp at e; subst e
    exact ⟨v, rfl, h1⟩
  | t :: ts, _, i + 1, _, h, e => by
    unfold RelTs at h
    obtain ⟨v, r, rfl, _, h2⟩ := h
    exact RelTs.get (i := i) h2 (by simpa using e)
theorem RelTs.append : ∀ {ts us : List T} {vs ws : List V}, RelTs K μ π H ts vs → RelTs K μ π H us ws → RelTs K μ π H (ts ++ us) (vs ++ ws)
  | [], _, _, _, h, h' => by unfold RelTs at h; subst h; simpa using h'
  | t :: ts, us, _, ws, h, h' => by
    unfold RelTs at h
    obtain ⟨v, r, rfl, h1, h2⟩ := h
    show RelTs K μ π H (t :: (ts ++ us)) (v :: (r ++ ws))
    unfold RelTs
    exact ⟨v, r ++ ws, rfl, h1, RelTs.append h2 h'⟩
theorem RelTs.set {t : T} {v : V} (h' : RelT K μ π H t v) : ∀ {ts : List T} {vs : List V} (i : Nat), RelTs K μ π H ts vs → RelTs K μ π H (ts.set i t) (vs.set i v)
  | [], _, _, h => by unfold RelTs at h; subst h; unfold RelTs; rfl
  | u :: ts, _, 0, h => by
    unfold RelTs at h
    obtain ⟨w, r, rfl, h1, h2⟩ := h
    show RelTs K μ π H (t :: ts) (v :: r)
    unfold RelTs
    exact ⟨v, r, rfl, h', h2⟩
  | u :: ts, _, i + 1, h => by
    unfold RelTs at h
    obtain ⟨w, r, rfl, h1, h2⟩ := h
    show RelTs K μ π H (u :: ts.set i t) (w :: r.set i v)
    unfold RelTs
    exact ⟨w, _, rfl, h1, RelTs.set h' i h2⟩
theorem RelTs.take : ∀ {ts : List T} {vs : List V} (n : Nat), RelTs K μ π H ts vs → RelTs K μ π H (ts.take n) (vs.take n)
  | _, _, 0, h => by simp [RelTs]
  | [], _, n + 1, h => by unfold RelTs at h; subst h; simp [RelTs]
  | t :: ts, _, n + 1, h => by
    unfold RelTs at h
    obtain ⟨w, r, rfl, h1, h2⟩ := h
    show RelTs K μ π H (t :: ts.take n) (w :: r.take n)
    unfold RelTs
    exact ⟨w, _, rfl, h1, RelTs.take n h2⟩
theorem RelTs.drop : ∀ {ts : List T} {vs : List V} (n : Nat), RelTs K μ π H ts vs → RelTs K μ π H (ts.drop n) (vs.drop n)
  | _, _, 0, h => by simpa using h
  | [], _, n + 1, h => by unfold RelTs at h; subst h; simp [RelTs]
  | t :: ts, _, n + 1, h => by
    unfold RelTs at h
    obtain ⟨w, r, rfl, h1, h2⟩ := h
    exact RelTs.drop n h2
theorem RelTs.reverse : ∀ {ts : List T} {vs : List V}, RelTs K μ π H ts vs → RelTs K μ π H ts.reverse vs.reverse
  | [], _, h => by unfold RelTs at h; subst h; simp [RelTs]
  | t :: ts, _, h => by
    unfold RelTs at h
    obtain ⟨w, r, rfl, h1, h2⟩ := h
    rw [List.reverse_cons, List.reverse_cons]
    exact RelTs.append (RelTs.reverse h2) (by unfold RelTs; exact ⟨w, [], rfl, h1, by unfold RelTs; rfl⟩)
theorem relTs_nil : RelTs K μ π H [] [] := by unfold RelTs; rfl
theorem relTs_cons {t : T} {v : V} {ts : List T} {vs : List V} (h : RelT K μ π H t v) (hs : RelTs K μ π H ts vs) : RelTs K μ π H (t :: ts) (v :: vs) := by
  unfold RelTs; exact ⟨v, vs, rfl, h, hs⟩
theorem relTs_cons_inv {t : T} {ts : List T} {vs : List V} (h : RelTs K μ π H (t :: ts) vs) : ∃ v r, vs = v :: r ∧ RelT K μ π H t v ∧ RelTs K μ π H ts r := by
  unfold RelTs at h; exact h
theorem relTs_nil_inv {vs : List V} (h : RelTs K μ π H [] vs) : vs = [] := by
  unfold RelTs at h; exact h
end

/-! ## results -/
inductive R (α : Type) where
  | ok (a : α) (S : Sto)
  | err (c : Str) (fs : List (Str × T)) (S : Sto)
  | bad
def R.bind {α β : Type} (r : R α) (f : α → Sto → R β) : R β :=
  match r with
  | .ok a S => f a S
  | .err c fs S => .err c fs S
  | .bad => .bad
@[scoped simp] theorem R.bind_ok {α β : Type} (a : α) (S : Sto) (f : α → Sto → R β) : (R.ok a S).bind f = f a S := rfl
@[scoped simp] theorem R.bind_err {α β : Type} (c : Str) (fs : List (Str × T)) (S : Sto) (f : α → Sto → R β) : (R.err c fs S : R α).bind f = .err c fs S := rfl
@[scoped simp] theorem R.bind_bad {α β : Type} (f : α → Sto → R β) : (R.bad : R α).bind f = .bad := rfl

/-- an exception's fields -/
def RelF (K : W.Frag) (μ π : List Addr) (H : Hp) (fs : List (Str × T)) (vs : List (Str × V)) : Prop := ∀ f t, fs.lookup f = some t → ∃ v, vs.lookup f = some v ∧ RelT K μ π H t v
def ErrP (mg : Str → Option Value) (K : W.Frag) (π μ : List Addr) (H : Hp) (c : Str) (fs : List (Str × T)) (S : Sto) (E : XK) : Prop :=
  ∀ C d vs H' μ', Stp μ H μ' H' → RelS K μ' π H' S → mg c = some (.ref C) → H' d = some (.xd vs) → RelF K μ' π H' fs vs → E (.ref C) (some d) H'
/-- what is wanted of a result -/
def Post {α β : Type} (rel : List Addr → Hp → α → β → Prop) (mg : Str → Option Value) (K : W.Frag) (π μ : List Addr) (H : Hp) (r : R α) (Q : β → Hp → Prop) (E : XK) : Prop :=
  match r with
  | .ok t S' => ∀ v H' μ', Stp μ H μ' H' → RelS K μ' π H' S' → rel μ' H' t v → Q v H'
  | .err c fs S' => ErrP mg K π μ H c fs S' E
  | .bad => False
def relV (K : W.Frag) (π : List Addr) : List Addr → Hp → T → V → Prop := fun μ H t v => RelT K μ π H t v
def relVs (K : W.Frag) (π : List Addr) : List Addr → Hp → List T → List V → Prop := fun μ H t v => RelTs K μ π H t v
def relB : List Addr → Hp → Bool → Bool → Prop := fun _ _ a b => a = b

section
variable {K : W.Frag} {mg : Str → Option Value} {μ μ' π : List Addr} {H H' : Hp} {S S' : Sto} {E : XK}
theorem Post.mono {α β : Type} {rel : List Addr → Hp → α → β → Prop} {r : R α} {Q : β → Hp → Prop} (h1 : RelS K μ' π H' S') (s : Stp μ H μ' H') (h : Post rel mg K π μ H r Q E) : Post rel mg K π μ' H' r Q E := by
  cases r with
  | ok t S2 => exact fun v H2 μ2 s2 => h v H2 μ2 (s.trans h1 s2)
  | err c fs S2 => exact fun C d vs H2 μ2 s2 => h C d vs H2 μ2 (s.trans h1 s2)
  | bad => exact h
theorem Post.bind {α β γ δ : Type} {rel : List Addr → Hp → α → β → Prop} {rel' : List Addr → Hp → γ → δ → Prop} {r : R α} {f : α → Sto → R γ} {Q : δ → Hp → Prop} {Q' : β → Hp → Prop} (h : Post rel' mg K π μ H (r.bind f) Q E)
    (hQ : ∀ t S' v H' μ', Stp μ H μ' H' → RelS K μ' π H' S' → rel μ' H' t v → Post rel' mg K π μ' H' (f t S') Q E → Q' v H') : Post rel mg K π μ H r Q' E := by
  cases r with
  | ok t S2 => exact fun v H2 μ2 s2 r2 t2 => hQ t S2 v H2 μ2 s2 r2 t2 (Post.mono r2 s2 h)
  | err c fs S2 => exact h
  | bad => exact h
end

/-- the slots -/
structure RelE (K : W.Frag) (μ π : List Addr) (H : Hp) (ρ : Env') (σ : L2.St) : Prop where
  len : ρ.length = σ.length
  at_ : ∀ (i : Nat) (t : T), ρ[i]? = some (some t) → ∃ v, σ[i]? = some (some v) ∧ RelT K μ π H t v
section
variable {K : W.Frag} {mg : Str → Option Value} {μ μ' π : List Addr} {H H' : Hp} {S S' : Sto} {E : XK} {ρ : Env'} {σ : L2.St}
theorem RelE.step (hs : RelS K μ π H S) (s : Stp μ H μ' H') (h : RelE K μ π H ρ σ) : RelE K μ' π H' ρ σ :=
  ⟨h.len, fun i t e => let ⟨v, e', r⟩ := h.at_ i t e; ⟨v, e', RelT.step hs s r⟩⟩
theorem RelE.set (h : RelE K μ π H ρ σ) {i : Nat} {t : T} {v : V} (r : RelT K μ π H t v) : RelE K μ π H (ρ.set i (some t)) (σ.set i (some v)) := by
  refine ⟨by rw [List.length_set, List.length_set]; exact h.len, fun j u e => ?_⟩
  by_cases hj : i = j
  · subst hj
    by_cases hi : i < ρ.length
    · rw [List.getElem?_set_self hi] at e
      cases e
      exact ⟨v, List.getElem?_set_self (by rw [← h.len]; exact hi), r⟩
    · rw [List.getElem?_eq_none (by rw [List.length_set]; omega)] at e; cases e
  · rw [List.getElem?_set_ne hj] at e
    obtain ⟨w, e', r'⟩ := h.at_ j u e
    exact ⟨w, by rw [List.getElem?_set_ne hj]; exact e', r'⟩
end
abbrev M (α : Type) := Env' → Sto → R α

/-- readings by a meaning -/
def tM (mg : Str → Option Value) (K : W.Frag) (E : XK) (m : M T) : TE := fun σ H Q => ∃ ρ S μ π, RelE K μ π H ρ σ ∧ RelS K μ π H S ∧ Post (relV K π) mg K π μ H (m ρ S) Q E
def tMB (mg : Str → Option Value) (K : W.Frag) (E : XK) (m : M Bool) : TT := fun σ H Q => ∃ ρ S μ π, RelE K μ π H ρ σ ∧ RelS K μ π H S ∧ Post relB mg K π μ H (m ρ S) Q E
def tMA (mg : Str → Option Value) (K : W.Frag) (E : XK) (m : M (List T)) : TA := fun σ H Q => ∃ ρ S μ π, RelE K μ π H ρ σ ∧ RelS K μ π H S ∧ Post (relVs K π) mg K π μ H (m ρ S) Q E

section
variable {X : Cx} {e : Expr} {t t' : TE}
theorem PEimp (h : PE X e t) (i : ∀ σ H Q, t' σ H Q → t σ H Q) : PE X e t' := ⟨fun pins s σ H Q I q => h.run pins s σ H Q I (i σ H Q q)⟩
theorem PTimp {t t' : TT} (h : PT X e t) (i : ∀ σ H Q, t' σ H Q → t σ H Q) : PT X e t' := ⟨fun pins s σ H Q I q => h.run pins s σ H Q I (i σ H Q q)⟩
theorem PAimp {es : List Expr} {t t' : TA} (h : PA X es t) (i : ∀ σ H Q, t' σ H Q → t σ H Q) : PA X es t' := ⟨fun pos pins s σ H Q I q => h.run pos pins s σ H Q I (i σ H Q q)⟩
theorem PSimp {st : Stmt} {t t' : TS} (h : PS X st t) (i : ∀ D σ H, t' D σ H → t D σ H) : PS X st t' := ⟨fun pins s σ H D I q => h.run pins s σ H D I (i D σ H q)⟩
theorem PSsimp {st : List Stmt} {t t' : TS} (h : PSs X st t) (i : ∀ D σ H, t' D σ H → t D σ H) : PSs X st t' := ⟨fun pins s σ H D I q => h.run pins s σ H D I (i D σ H q)⟩
/-- no meaning: nothing is to be shown -/
theorem PEbad {mg : Str → Option Value} {K : W.Frag} {E : XK} {m : M T} (h : ∀ ρ S, m ρ S = .bad) : PE X e (tM mg K E m) := ⟨fun pins s σ H Q I q => by
  obtain ⟨ρ, S, μ, π, _, _, p⟩ := q
  rw [h] at p
  exact p.elim⟩
theorem PTbad {mg : Str → Option Value} {K : W.Frag} {E : XK} {m : M Bool} (h : ∀ ρ S, m ρ S = .bad) : PT X e (tMB mg K E m) := ⟨fun pins s σ H Q I q => by
  obtain ⟨ρ, S, μ, π, _, _, p⟩ := q
  rw [h] at p
  exact p.elim⟩
end
end RL
end
section
set_option maxRecDepth 100000
set_option maxHeartbeats 2000000
namespace RL
open PySem PySem.Spec PyProof.Rows L2
open scoped RL.R

/-! ## operations on values -/
section
variable {X : Cx} {K : W.Frag} {mg : Str → Option Value} {E : XK} {π μ : List Addr} {H : Hp} {S : Sto}
/-- ends: a scalar, a new tuple, a new list -/
theorem Post.val {Q : V → Hp → Prop} {t : T} (h : Post (relV K π) mg K π μ H (.ok t S) Q E) (hs : RelS K μ π H S) {v : V} (r : RelT K μ π H t v) : Q v H := h v H μ Stp.refl hs r
theorem stp_new {a : Addr} {o : HO} (hn : H a = none) : Stp μ H μ (upd H a o) := ⟨⟨[], by simp, fun _ z => absurd z (by simp)⟩, fun b u e _ => by rw [upd_ne (ne_of_none e hn)]; exact e⟩
theorem relS_new (hs : RelS K μ π H S) {a : Addr} {o : HO} (hn : H a = none) : RelS K μ π (upd H a o) S :=
  ⟨hs.len, hs.nd, fun n ts e => let ⟨b, xs, h1, h2, h3⟩ := hs.at_ n ts e; ⟨b, xs, h1, by rw [upd_ne (ne_of_none h2 hn)]; exact h2, RelTs.step hs (stp_new hn) h3⟩,
    fun b hb => let ⟨h1, h2⟩ := hs.pi b hb; ⟨(by
      by_cases e : b = a
      · rw [e, upd_same]; intro z; cases z
      · rw [upd_ne e]; exact h1), h2⟩⟩
theorem new_nin (hs : RelS K μ π H S) {a : Addr} (hn : H a = none) : a ∉ μ ∧ a ∉ π :=
  ⟨fun h => (by obtain ⟨xs, e⟩ := hs.mu h; rw [hn] at e; cases e), fun h => (hs.pi a h).1 hn⟩
theorem Post.tup {Q : V → Hp → Prop} {ts : List T} {xs : List V} (h : Post (relV K π) mg K π μ H (.ok (.tup ts) S) Q E) (hs : RelS K μ π H S) (r : RelTs K μ π H ts xs) {p : Addr} (hp : H p = none) : Q (.ref p) (upd H p (.tup xs)) := by
  refine h (.ref p) _ μ (stp_new hp) (relS_new hs hp) ?_
  show RelT K μ π _ (.tup ts) _
  unfold RelT
  exact ⟨p, xs, rfl, .of upd_same, RelTs.step hs (stp_new hp) r⟩
theorem Post.lst {Q : V → Hp → Prop} {ts : List T} {xs : List V} (h : Post (relV K π) mg K π μ H (.ok (.lst ts) S) Q E) (hs : RelS K μ π H S) (r : RelTs K μ π H ts xs) {p : Addr} (hp : H p = none) : Q (.ref p) (upd H p (.lst xs)) := by
  refine h (.ref p) _ μ (stp_new hp) (relS_new hs hp) ?_
  show RelT K μ π _ (.lst ts) _
  unfold RelT
  have ni := new_nin hs hp
  exact ⟨p, xs, rfl, .inl ⟨.inl upd_same, ni.1, ni.2⟩, RelTs.step hs (stp_new hp) r⟩
/-- a new list that may change -/
theorem stp_mk {a : Addr} {o : HO} (hn : H a = none) : Stp μ H (μ ++ [a]) (upd H a o) := ⟨⟨[a], rfl, fun b z => by rw [List.mem_singleton.mp z]; exact hn⟩, fun b u e _ => by rw [upd_ne (ne_of_none e hn)]; exact e⟩
theorem Post.mk {Q : V → Hp → Prop} {ts : List T} {xs : List V} (h : Post (relV K π) mg K π μ H (.ok (.loc S.length) (S ++ [ts])) Q E) (hs : RelS K μ π H S) (r : RelTs K μ π H ts xs) {p : Addr} (hp : H p = none) : Q (.ref p) (upd H p (.lst xs)) := by
  have ni := new_nin hs hp
  have st := stp_mk (μ := μ) (o := .lst xs) hp
  refine h (.ref p) _ (μ ++ [p]) st ⟨by rw [List.length_append, List.length_append, hs.len]; rfl, List.nodup_append.mpr ⟨hs.nd, by simp, fun a ha b hb => by rw [List.mem_singleton.mp hb]; exact fun e => ni.1 (e ▸ ha)⟩, fun n us e => ?_, fun b hb => ?_⟩ ?_
  · by_cases hn : n < S.length
    · rw [List.getElem?_append_left hn] at e
      obtain ⟨b, ys, h1, h2, h3⟩ := hs.at_ n us e
      exact ⟨b, ys, st.get h1, by rw [upd_ne (ne_of_none h2 hp)]; exact h2, RelTs.step hs st h3⟩
    · rw [List.getElem?_append_right (by omega)] at e
      have hn2 : n = S.length := by
        have := (List.getElem?_eq_some_iff.mp e).1
        simp at this; omega
      subst hn2
      simp at e; subst e
      exact ⟨p, xs, by rw [hs.len, List.getElem?_append_right (Nat.le_refl _)]; simp, upd_same, RelTs.step hs st r⟩
  · obtain ⟨h1, h2⟩ := hs.pi b hb
    have hbp : b ≠ p := fun e => ni.2 (e ▸ hb)
    refine ⟨by rw [upd_ne hbp]; exact h1, fun hm => ?_⟩
    rcases List.mem_append.mp hm with z | z
    · exact h2 z
    · exact hbp (List.mem_singleton.mp z)
  · show RelT K _ π _ (.loc S.length) _
    unfold RelT
    exact ⟨p, rfl, by rw [hs.len, List.getElem?_append_right (Nat.le_refl _)]; simp⟩
/-- a list that changes is written -/
theorem Post.write {α β : Type} {rel : List Addr → Hp → α → β → Prop} {t : α} {v : β} {Q : β → Hp → Prop} {n : Nat} {a : Addr} {ts : List T} {xs : List V} (h : Post rel mg K π μ H (.ok t (S.set n ts)) Q E) (hs : RelS K μ π H S) (hn : μ[n]? = some a) (r : RelTs K μ π H ts xs)
    (rv : ∀ H', Stp μ H μ H' → rel μ H' t v) : Q v (upd H a (.lst xs)) := by
  have ha : a ∈ μ := List.mem_of_getElem? hn
  have st : Stp μ H μ (upd H a (.lst xs)) := ⟨⟨[], by simp, fun _ z => absurd z (by simp)⟩, fun b u e hb => by rw [upd_ne (fun z => hb (by rw [z]; exact ha))]; exact e⟩
  refine h v _ μ st ⟨by rw [List.length_set]; exact hs.len, hs.nd, fun m us e => ?_, fun b hb => ?_⟩ (rv _ st)
  · by_cases hm : n = m
    · subst hm
      by_cases hl : n < S.length
      · rw [List.getElem?_set_self hl] at e
        cases e
        exact ⟨a, xs, hn, upd_same, RelTs.step hs st r⟩
      · rw [List.getElem?_eq_none (by rw [List.length_set]; omega)] at e; cases e
    · rw [List.getElem?_set_ne hm] at e
      obtain ⟨b, ys, h1, h2, h3⟩ := hs.at_ m us e
      refine ⟨b, ys, h1, ?_, RelTs.step hs st h3⟩
      rw [upd_ne ?_]
      · exact h2
      · rintro rfl
        obtain ⟨i1, e1⟩ := List.getElem?_eq_some_iff.mp hn
        obtain ⟨i2, e2⟩ := List.getElem?_eq_some_iff.mp h1
        exact hm ((List.getElem_inj hs.nd).mp (e1.trans e2.symm))
  · obtain ⟨h1, h2⟩ := hs.pi b hb
    exact ⟨by rw [upd_ne (fun z => h2 (by rw [z]; exact ha))]; exact h1, h2⟩
end

/-- a two-place operation by its meaning -/
def rF (mg : Str → Option Value) (K : W.Frag) (E : XK) (f : T → T → Sto → R T) : R2 := fun x y H Q => ∃ a b S μ π, RelS K μ π H S ∧ RelT K μ π H a x ∧ RelT K μ π H b y ∧ Post (relV K π) mg K π μ H (f a b S) Q E
def rF1 (mg : Str → Option Value) (K : W.Frag) (E : XK) (f : T → Sto → R T) : V → Hp → VK → Prop := fun x H Q => ∃ a S μ π, RelS K μ π H S ∧ RelT K μ π H a x ∧ Post (relV K π) mg K π μ H (f a S) Q E
/-- a call with values by its meaning -/
def rFs (mg : Str → Option Value) (K : W.Frag) (E : XK) (f : List T → Sto → R T) : List V → Hp → VK → Prop := fun xs H Q => ∃ as S μ π, RelS K μ π H S ∧ RelTs K μ π H as xs ∧ Post (relV K π) mg K π μ H (f as S) Q E
def m2 {α β γ : Type} (f : α → β → Sto → R γ) (ma : M α) (mb : M β) : M γ := fun ρ S => (ma ρ S).bind fun a S1 => (mb ρ S1).bind fun b S2 => f a b S2
def m1 {α β : Type} (f : α → Sto → R β) (ma : M α) : M β := fun ρ S => (ma ρ S).bind fun a S1 => f a S1

section
variable {X : Cx} {mg : Str → Option Value} {K : W.Frag} {E : XK} {a b : Expr} {es : List Expr} {ma mb : M T} {ms : M (List T)} {f : T → T → Sto → R T} {g : T → Sto → R T} {pos : Pos}
theorem tM_op {σ : L2.St} {H : Hp} {Q : VK} (h : tM mg K E (m2 f ma mb) σ H Q) : tOp (rF mg K E f) (tM mg K E ma) (tM mg K E mb) σ H Q := by
  obtain ⟨ρ, S, μ, π, re, rs, p⟩ := h
  refine ⟨ρ, S, μ, π, re, rs, Post.bind p fun a S1 x H1 μ1 st1 rs1 ra p1 => ?_⟩
  have re1 := re.step rs st1
  refine ⟨ρ, S1, μ1, π, re1, rs1, Post.bind p1 fun b S2 y H2 μ2 st2 rs2 rb p2 => ?_⟩
  exact ⟨a, b, S2, μ2, π, rs2, RelT.step rs1 st2 ra, rb, p2⟩
theorem tM_un {σ : L2.St} {H : Hp} {Q : VK} (h : tM mg K E (m1 g ma) σ H Q) : tUn (rF1 mg K E g) (tM mg K E ma) σ H Q := by
  obtain ⟨ρ, S, μ, π, re, rs, p⟩ := h
  refine ⟨ρ, S, μ, π, re, rs, Post.bind p fun a S1 x H1 μ1 st1 rs1 ra p1 => ?_⟩
  exact ⟨a, S1, μ1, π, rs1, ra, p1⟩
theorem e_bin {op : Operator} (ho : OpR X (binaryOp op) (rF mg K E f)) (ha : PE X a (tM mg K E ma)) (hb : PE X b (tM mg K E mb)) : PE X (.BinOp a op b pos) (tM mg K E (m2 f ma mb)) :=
  PEimp (pe_op ho ha hb) fun _ _ _ h => tM_op h
theorem e_cmp {op : CmpOp} (ho : OpR X (compareOp op) (rF mg K E f)) (ha : PE X a (tM mg K E ma)) (hb : PE X b (tM mg K E mb)) (hm : behindInMarks op b = false) : PE X (.Compare a [op] [b] pos) (tM mg K E (m2 f ma mb)) :=
  PEimp (pe_cmpR ho ha hb hm) fun _ _ _ h => tM_op h
theorem e_un {op : UnaryOp} (ho : UnR X (unaryOp op) (rF1 mg K E g)) (ha : PE X a (tM mg K E ma)) : PE X (.UnaryOp op a pos) (tM mg K E (m1 g ma)) :=
  PEimp (pe_un ho ha) fun _ _ _ h => tM_un h
/-- a value that is to be a bool -/
def boolOf : T → Sto → R Bool
  | .bl b, S => .ok b S
  | _, _ => .bad
theorem tM_test {m : M T} {σ : L2.St} {H : Hp} {Q : Bool → Hp → Prop} (h : tMB mg K E (m1 boolOf m) σ H Q) : tTest (tM mg K E m) σ H Q := by
  obtain ⟨ρ, S, μ, π, re, rs, p⟩ := h
  refine ⟨ρ, S, μ, π, re, rs, Post.bind (rel' := relB) p fun a S1 x H1 μ1 st1 rs1 ra p1 => ?_⟩
  cases a with
  | bl k =>
    have ra : RelT K μ1 π H1 (.bl k) x := ra
    unfold RelT at ra
    exact ⟨k, ra, p1 k H1 μ1 Stp.refl rs1 rfl⟩
  | _ => exact p1.elim
theorem b_cmp {op : CmpOp} (ho : OpR X (compareOp op) (rF mg K E f)) (ha : PE X a (tM mg K E ma)) (hb : PE X b (tM mg K E mb)) (hm : behindInMarks op b = false) : PT X (.Compare a [op] [b] pos) (tMB mg K E (m1 boolOf (m2 f ma mb))) :=
  PTimp (pt_cmpR ho ha hb hm) fun σ H Q h => by
    obtain ⟨ρ, S, μ, π, re, rs, p⟩ := tM_test h
    exact tM_op ⟨ρ, S, μ, π, re, rs, p⟩
/-- truth -/
def truthT : T → Sto → R Bool
  | .non, S => .ok false S
  | .bl b, S => .ok b S
  | .int i, S => .ok (i != 0) S
  | .str x, S => .ok ((x.length : Int) != 0) S
  | .tup ts, S => .ok (!ts.isEmpty) S
  | .lst ts, S => .ok (!ts.isEmpty) S
  | .loc n, S => match S[n]? with
    | some ts => .ok (!ts.isEmpty) S
    | none => .bad
  | _, _ => .bad
theorem truth_noerr {t : T} {S S' : Sto} {c : Str} {fs : List (Str × T)} (h : truthT t S = .err c fs S') : False := by
  cases t with
  | loc n =>
    unfold truthT at h
    dsimp only at h
    split at h <;> exact nomatch h
  | _ => exact nomatch h
theorem relTs_empty {μ π : List Addr} {H : Hp} {ts : List T} {xs : List V} (h : RelTs K μ π H ts xs) : (!xs.isEmpty) = !ts.isEmpty := by
  have e := h.length
  cases ts <;> cases xs <;> simp at e ⊢
theorem truth_ok {μ π : List Addr} {H : Hp} {S S' : Sto} {t : T} {v : V} {k : Bool} (hs : RelS K μ π H S) (r : RelT K μ π H t v) (h : truthT t S = .ok k S') : S' = S ∧ TruV K v H k := by
  cases t with
  | non => unfold RelT at r; subst r; cases h; exact ⟨rfl, rfl⟩
  | bl b => unfold RelT at r; subst r; cases h; exact ⟨rfl, rfl⟩
  | int i => unfold RelT at r; subst r; cases h; exact ⟨rfl, rfl⟩
  | str x => unfold RelT at r; obtain ⟨rfl, hz⟩ := r; cases h; exact ⟨rfl, hz, rfl⟩
  | tup ts =>
    unfold RelT at r
    obtain ⟨a, xs, rfl, q, rt⟩ := r
    cases h
    exact ⟨rfl, .inr (.inl ⟨xs, q, (relTs_empty rt).symm⟩)⟩
  | lst ts =>
    unfold RelT at r
    obtain ⟨a, xs, rfl, q, rt⟩ := r
    cases h
    exact ⟨rfl, .inl ⟨xs, q.sq, (relTs_empty rt).symm⟩⟩
  | loc n =>
    unfold RelT at r
    obtain ⟨a, rfl, q⟩ := r
    unfold truthT at h
    dsimp only at h
    cases e : S[n]? with
    | none => rw [e] at h; cases h
    | some ts =>
      rw [e] at h
      cases h
      obtain ⟨b, xs, h1, h2, h3⟩ := hs.at_ n ts e
      rw [q] at h1; cases h1
      exact ⟨rfl, .inl ⟨xs, .of h2, (relTs_empty h3).symm⟩⟩
  | ty n => cases h
  | exn a d f t => cases h
theorem truth_post {μ π : List Addr} {H : Hp} {S : Sto} {t : T} {v : V} {Q : Bool → Hp → Prop} (hs : RelS K μ π H S) (r : RelT K μ π H t v) (p : Post relB mg K π μ H (truthT t S) Q E) : ∃ k, TruV K v H k ∧ Q k H := by
  cases e : truthT t S with
  | ok k S' =>
    obtain ⟨rfl, h⟩ := truth_ok hs r e
    rw [e] at p
    exact ⟨k, h, p k H μ Stp.refl hs rfl⟩
  | err c fs S' =>
    exact (truth_noerr e).elim
  | bad => rw [e] at p; exact p.elim
theorem b_truth (ha : PE X a (tM mg X.K E ma)) (he : ∀ whole, isTrue a X.env whole = (do let v ← whole; standAt a.pos; holding [v] (truthy v))) : PT X a (tMB mg X.K E (m1 truthT ma)) :=
  PTimp (pt_truth ha he) fun σ H Q h => by
    obtain ⟨ρ, S, μ, π, re, rs, p⟩ := h
    exact ⟨ρ, S, μ, π, re, rs, Post.bind (rel' := relB) p fun a S1 x H1 μ1 st1 rs1 ra p1 => truth_post rs1 ra p1⟩
def notT (b : Bool) (S : Sto) : R Bool := .ok (!b) S
theorem b_not {m : M Bool} (ha : PT X a (tMB mg K E m)) : PT X (.UnaryOp .Not a pos) (tMB mg K E (m1 notT m)) :=
  PTimp (pt_not ha) fun σ H Q h => by
    obtain ⟨ρ, S, μ, π, re, rs, p⟩ := h
    refine ⟨ρ, S, μ, π, re, rs, Post.bind (rel' := relB) p fun b S1 x H1 μ1 st1 rs1 ra p1 => ?_⟩
    have ra : b = x := ra
    subst ra
    exact p1 (!b) H1 μ1 Stp.refl rs1 rfl
def blT (b : Bool) (S : Sto) : R T := .ok (.bl b) S
theorem e_not (ha : PE X a (tM mg X.K E ma)) : PE X (.UnaryOp .Not a pos) (tM mg X.K E (m1 blT (m1 notT (m1 truthT ma)))) :=
  PEimp (pe_notT ha) fun σ H Q h => by
    obtain ⟨ρ, S, μ, π, re, rs, p⟩ := h
    refine ⟨ρ, S, μ, π, re, rs, ?_⟩
    cases e : ma ρ S with
    | ok t S1 =>
      intro x H1 μ1 st1 rs1 ra
      simp only [m1, e, R.bind_ok] at p
      have p' := Post.mono rs1 st1 p
      cases e2 : truthT t S1 with
      | ok k S2 =>
        obtain ⟨rfl, hk⟩ := truth_ok rs1 ra e2
        rw [e2] at p'
        exact ⟨k, hk, Post.val p' rs1 (by unfold RelT; rfl)⟩
      | err c fs S2 =>
        exact (truth_noerr e2).elim
      | bad => rw [e2] at p'; exact p'.elim
    | err c fs S1 => simp only [m1, e, R.bind_err] at p; exact p
    | bad => simp only [m1, e, R.bind_bad] at p; exact p
/-- and, or as tests -/
def andM (m n : M Bool) : M Bool := fun ρ S => (m ρ S).bind fun b S1 => if b = true then n ρ S1 else .ok false S1
def orM (m n : M Bool) : M Bool := fun ρ S => (m ρ S).bind fun b S1 => if b = true then .ok true S1 else n ρ S1
theorem tMB_and {m n : M Bool} {σ : L2.St} {H : Hp} {Q : Bool → Hp → Prop} (h : tMB mg K E (andM m n) σ H Q) : tAnd (tMB mg K E m) (tMB mg K E n) σ H Q := by
  obtain ⟨ρ, S, μ, π, re, rs, p⟩ := h
  refine ⟨ρ, S, μ, π, re, rs, Post.bind (rel' := relB) p fun b S1 x H1 μ1 st1 rs1 ra p1 => ?_⟩
  have ra : b = x := ra
  subst ra
  cases b with
  | true => exact ⟨ρ, S1, μ1, π, re.step rs st1, rs1, p1⟩
  | false => exact p1 false H1 μ1 Stp.refl rs1 rfl
theorem tMB_or {m n : M Bool} {σ : L2.St} {H : Hp} {Q : Bool → Hp → Prop} (h : tMB mg K E (orM m n) σ H Q) : tOr (tMB mg K E m) (tMB mg K E n) σ H Q := by
  obtain ⟨ρ, S, μ, π, re, rs, p⟩ := h
  refine ⟨ρ, S, μ, π, re, rs, Post.bind (rel' := relB) p fun b S1 x H1 μ1 st1 rs1 ra p1 => ?_⟩
  have ra : b = x := ra
  subst ra
  cases b with
  | true => exact p1 true H1 μ1 Stp.refl rs1 rfl
  | false => exact ⟨ρ, S1, μ1, π, re.step rs st1, rs1, p1⟩
theorem PWimp {e : Expr} {t t' : TT} (h : PW X e t) (i : ∀ σ H Q, t' σ H Q → t σ H Q) : PW X e t' := ⟨fun wh pins s σ H Q I q => h.run wh pins s σ H Q I (i σ H Q q)⟩
theorem w_and1 {m : M Bool} (ha : PT X a (tMB mg K E m)) : PW X (.BoolOp .And [a] pos) (tMB mg K E m) := pw_and1 ha
theorem w_or1 {m : M Bool} (ha : PT X a (tMB mg K E m)) : PW X (.BoolOp .Or [a] pos) (tMB mg K E m) := pw_or1 ha
theorem w_and {m n : M Bool} {rest : List Expr} (ha : PT X a (tMB mg K E m)) (hb : PW X (.BoolOp .And (b :: rest) pos) (tMB mg K E n)) : PW X (.BoolOp .And (a :: b :: rest) pos) (tMB mg K E (andM m n)) :=
  PWimp (pw_and ha hb) fun _ _ _ h => tMB_and h
theorem w_or {m n : M Bool} {rest : List Expr} (ha : PT X a (tMB mg K E m)) (hb : PW X (.BoolOp .Or (b :: rest) pos) (tMB mg K E n)) : PW X (.BoolOp .Or (a :: b :: rest) pos) (tMB mg K E (orM m n)) :=
  PWimp (pw_or ha hb) fun _ _ _ h => tMB_or h
/-- .. as values -/
def andV (ma mb : M T) : M T := fun ρ S => (ma ρ S).bind fun a S1 => (truthT a S1).bind fun k S2 => if k = true then mb ρ S2 else .ok a S2
def orV (ma mb : M T) : M T := fun ρ S => (ma ρ S).bind fun a S1 => (truthT a S1).bind fun k S2 => if k = true then .ok a S2 else mb ρ S2
theorem tM_truth {σ : L2.St} {H : Hp} {f : T → Bool → Env' → Sto → R T} {Q : VK} {R' : V → Bool → L2.St → Hp → Prop}
    (h : tM mg K E (fun ρ S => (ma ρ S).bind fun a S1 => (truthT a S1).bind fun k S2 => f a k ρ S2) σ H Q)
    (hR : ∀ ρ S μ π H1 a x k, RelE K μ π H1 ρ σ → RelS K μ π H1 S → RelT K μ π H1 a x → Post (relV K π) mg K π μ H1 (f a k ρ S) Q E → R' x k σ H1) :
    tM mg K E ma σ H fun x H1 => ∃ k, TruV K x H1 k ∧ R' x k σ H1 := by
  obtain ⟨ρ, S, μ, π, re, rs, p⟩ := h
  refine ⟨ρ, S, μ, π, re, rs, Post.bind p fun t S1 x H1 μ1 st1 rs1 ra p1 => ?_⟩
  cases e2 : truthT t S1 with
  | ok k S2 =>
    obtain ⟨rfl, hk⟩ := truth_ok rs1 ra e2
    rw [e2] at p1
    exact ⟨k, hk, hR ρ S2 μ1 π H1 t x k (re.step rs st1) rs1 ra p1⟩
  | err c fs S2 =>
    exact (truth_noerr e2).elim
  | bad => rw [e2] at p1; exact p1.elim
theorem e_and {rest : List Expr} (ha : PE X a (tM mg X.K E ma)) (hb : PE X (.BoolOp .And (b :: rest) pos) (tM mg X.K E mb)) : PE X (.BoolOp .And (a :: b :: rest) pos) (tM mg X.K E (andV ma mb)) :=
  PEimp (pe_andT ha hb) fun σ H Q h => tM_truth (R' := fun x k σ H1 => if k = true then tM mg X.K E mb σ H1 Q else Q x H1) h fun ρ S μ π H1 a x k re rs ra p => by
    cases k with
    | true => exact ⟨ρ, S, μ, π, re, rs, p⟩
    | false => exact Post.val p rs ra
theorem e_or {rest : List Expr} (ha : PE X a (tM mg X.K E ma)) (hb : PE X (.BoolOp .Or (b :: rest) pos) (tM mg X.K E mb)) : PE X (.BoolOp .Or (a :: b :: rest) pos) (tM mg X.K E (orV ma mb)) :=
  PEimp (pe_orT ha hb) fun σ H Q h => tM_truth (R' := fun x k σ H1 => if k = true then Q x H1 else tM mg X.K E mb σ H1 Q) h fun ρ S μ π H1 a x k re rs ra p => by
    cases k with
    | false => exact ⟨ρ, S, μ, π, re, rs, p⟩
    | true => exact Post.val p rs ra
theorem e_one {op : BoolOp} (ha : PE X a (tM mg K E ma)) : PE X (.BoolOp op [a] pos) (tM mg K E ma) := pe_one ha
/-- a if t else b -/
def iteM (m : M Bool) (ma mb : M T) : M T := fun ρ S => (m ρ S).bind fun k S1 => if k = true then ma ρ S1 else mb ρ S1
theorem e_ite {c : Expr} {m : M Bool} (hc : PT X c (tMB mg K E m)) (ha : PE X a (tM mg K E ma)) (hb : PE X b (tM mg K E mb)) : PE X (.IfExp c a b pos) (tM mg K E (iteM m ma mb)) :=
  PEimp (pe_ifExp hc ha hb) fun σ H Q h => by
    obtain ⟨ρ, S, μ, π, re, rs, p⟩ := h
    refine ⟨ρ, S, μ, π, re, rs, Post.bind p fun k S1 x H1 μ1 st1 rs1 ra p1 => ?_⟩
    have ra : k = x := ra
    subst ra
    cases k with
    | true => exact ⟨ρ, S1, μ1, π, re.step rs st1, rs1, p1⟩
    | false => exact ⟨ρ, S1, μ1, π, re.step rs st1, rs1, p1⟩
/-! ### constants and names -/
def retM (t : T) : M T := fun _ S => .ok t S
theorem tM_ret {t : T} {v : V} {σ : L2.St} {H : Hp} {Q : VK} (h : tM mg K E (retM t) σ H Q) (r : ∀ μ π, RelT K μ π H t v) : Q v H := by
  obtain ⟨ρ, S, μ, π, re, rs, p⟩ := h
  exact Post.val p rs (r μ π)
theorem e_int {i : Int} {j : Nat} : PE X (.Constant (.int i) j pos) (tM mg K E (retM (.int i))) := PEimp pe_int fun _ _ _ h => tM_ret h fun _ _ => by unfold RelT; rfl
theorem e_bl {b : Bool} {j : Nat} : PE X (.Constant (.bool b) j pos) (tM mg K E (retM (.bl b))) := PEimp pe_bl fun _ _ _ h => tM_ret h fun _ _ => by unfold RelT; rfl
theorem e_non {j : Nat} : PE X (.Constant .none j pos) (tM mg K E (retM .non)) := PEimp pe_non fun _ _ _ h => tM_ret h fun _ _ => by unfold RelT; rfl
def strM (x : Str) : M T := fun _ S => if x.length ≤ sizeLine then .ok (.str x) S else .bad
theorem e_str {x : Str} {j : Nat} : PE X (.Constant (.str x) j pos) (tM mg K E (strM x)) := PEimp pe_str fun σ H Q h => by
  obtain ⟨ρ, S, μ, π, re, rs, p⟩ := h
  unfold strM at p
  by_cases c : x.length ≤ sizeLine
  · rw [if_pos c] at p
    exact Post.val p rs (by unfold RelT; exact ⟨rfl, c⟩)
  · rw [if_neg c] at p; exact p.elim
def varM (i : Nat) : M T := fun ρ S => match ρ[i]? with
  | some (some t) => .ok t S
  | _ => .bad
theorem e_var {i : Nat} {x : Str} (hN : X.N[i]? = some x) (hv : Vis X.env.scope x) (hd : (x == ("__debug__" : Str)) = false) (hcd : (x == ("__classdict__" : Str)) = false) : PE X (.Name x pos) (tM mg K E (varM i)) :=
  PEimp (pe_var hN hv hd hcd) fun σ H Q h => by
    obtain ⟨ρ, S, μ, π, re, rs, p⟩ := h
    unfold varM at p
    split at p
    · rename_i t e
      obtain ⟨v, e1, r⟩ := re.at_ i t e
      exact ⟨v, e1, Post.val p rs r⟩
    · exact p.elim
theorem e_glob {x : Str} {t : T} {v : V} {u : Value} (hg : Gl X x) (hm : X.mg x = some u) (r : RelV v u) (rt : ∀ μ π H, RelT K μ π H t v) (hd : (x == ("__debug__" : Str)) = false) : PE X (.Name x pos) (tM mg K E (retM t)) :=
  PEimp (pe_glob hg hm r hd) fun σ H Q h => tM_ret h fun μ π => rt μ π H
theorem e_bltn {x : Str} {n : String} (hg : Gl X x) (hm : X.mg x = none) (hv : bootBuiltins x = some (.type n)) (hn : x ≠ "__name__") (hd : (x == ("__debug__" : Str)) = false) : PE X (.Name x pos) (tM mg K E (retM (.ty n))) :=
  PEimp (pe_bltn (v := .ty n) hg hm hv rfl hn hd) fun σ H Q h => tM_ret h fun μ π => by unfold RelT; rfl
/-! ### lists of arguments, displays -/
def nilM : M (List T) := fun _ S => .ok [] S
def consM (m : M T) (ms : M (List T)) : M (List T) := fun ρ S => (m ρ S).bind fun a S1 => (ms ρ S1).bind fun as S2 => .ok (a :: as) S2
theorem a_nil : PA X [] (tMA mg K E nilM) := PAimp pa_nil fun σ H Q h => by
  obtain ⟨ρ, S, μ, π, re, rs, p⟩ := h
  exact p [] H μ Stp.refl rs relTs_nil
theorem a_cons (ha : PE X a (tM mg K E ma)) (hr : PA X es (tMA mg K E ms)) (hs : starEach (a :: es) X.env = (false, eval a X.env) :: starEach es X.env) : PA X (a :: es) (tMA mg K E (consM ma ms)) :=
  PAimp (pa_cons ha hr hs) fun σ H Q h => by
    obtain ⟨ρ, S, μ, π, re, rs, p⟩ := h
    refine ⟨ρ, S, μ, π, re, rs, Post.bind (rel' := relVs K π) p fun t S1 x H1 μ1 st1 rs1 ra p1 => ?_⟩
    refine ⟨ρ, S1, μ1, π, re.step rs st1, rs1, Post.bind (rel' := relVs K π) p1 fun ts S2 xs H2 μ2 st2 rs2 rb p2 => ?_⟩
    exact p2 (x :: xs) H2 μ2 Stp.refl rs2 (relTs_cons (RelT.step rs1 st2 ra) rb)
def tupT (ts : List T) (S : Sto) : R T := if ts.length ≤ sizeLine then .ok (.tup ts) S else .bad
/-- a new list: it may change later (at some places of the text), or it is a value -/
def lstT (mu : Bool) (ts : List T) (S : Sto) : R T := if ts.length ≤ sizeLine then (if mu = true then .ok (.loc S.length) (S ++ [ts]) else .ok (.lst ts) S) else .bad
theorem lst_post {μ π : List Addr} {H : Hp} {S : Sto} {Q : VK} {mu : Bool} {ts : List T} {xs : List V} (p : Post (relV K π) mg K π μ H (lstT mu ts S) Q E) (rs : RelS K μ π H S) (r : RelTs K μ π H ts xs) : xs.length ≤ sizeLine ∧ ∀ q, H q = none → Q (.ref q) (upd H q (.lst xs)) := by
  unfold lstT at p
  by_cases c : ts.length ≤ sizeLine
  · rw [if_pos c] at p
    refine ⟨by rw [r.length]; exact c, fun q hq => ?_⟩
    cases mu with
    | true => exact Post.mk p rs r hq
    | false => exact Post.lst p rs r hq
  · rw [if_neg c] at p; exact p.elim
theorem e_tup {k : Nat} (h : PA X es (tMA mg K E ms)) : PE X (.Tuple es k pos) (tM mg K E (m1 tupT ms)) := PEimp (pe_tup h) fun σ H Q h => by
  obtain ⟨ρ, S, μ, π, re, rs, p⟩ := h
  refine ⟨ρ, S, μ, π, re, rs, Post.bind (rel' := relV K π) p fun ts S1 xs H1 μ1 st1 rs1 ra p1 => ?_⟩
  unfold tupT at p1
  by_cases c : ts.length ≤ sizeLine
  · rw [if_pos c] at p1
    exact ⟨by rw [RelTs.length ra]; exact c, fun q hq => Post.tup p1 rs1 ra hq⟩
  · rw [if_neg c] at p1; exact p1.elim
theorem e_lst {mu : Bool} (h : PA X es (tMA mg K E ms)) : PE X (.List es pos) (tM mg K E (m1 (lstT mu) ms)) := PEimp (pe_lst h) fun σ H Q h => by
  obtain ⟨ρ, S, μ, π, re, rs, p⟩ := h
  exact ⟨ρ, S, μ, π, re, rs, Post.bind (rel' := relV K π) p fun ts S1 xs H1 μ1 st1 rs1 ra p1 => lst_post p1 rs1 ra⟩
end
end RL
end
section
set_option maxRecDepth 100000
set_option maxHeartbeats 2000000
namespace RL
open PySem PySem.Spec PyProof.Rows L2 TL
open scoped RL.R

section
variable {X : Cx} {mg : Str → Option Value} {K : W.Frag} {E : XK} {π μ : List Addr} {H : Hp} {S : Sto}
theorem relT_int {i : Int} {v : V} (h : RelT K μ π H (.int i) v) : v = .int i := by unfold RelT at h; exact h
theorem relT_bl {i : Bool} {v : V} (h : RelT K μ π H (.bl i) v) : v = .bl i := by unfold RelT at h; exact h
theorem relT_non {v : V} (h : RelT K μ π H .non v) : v = .non := by unfold RelT at h; exact h
theorem relT_str {x : Str} {v : V} (h : RelT K μ π H (.str x) v) : v = .str x ∧ x.length ≤ sizeLine := by unfold RelT at h; exact h
theorem relT_tup {ts : List T} {v : V} (h : RelT K μ π H (.tup ts) v) : ∃ a xs, v = .ref a ∧ SqT K H a xs ∧ RelTs K μ π H ts xs := by unfold RelT at h; exact h
theorem relT_lst {ts : List T} {v : V} (h : RelT K μ π H (.lst ts) v) : ∃ a xs, v = .ref a ∧ SqP K μ π H a xs ∧ RelTs K μ π H ts xs := by unfold RelT at h; exact h
theorem relT_loc {n : Nat} {v : V} (h : RelT K μ π H (.loc n) v) : ∃ a, v = .ref a ∧ μ[n]? = some a := by unfold RelT at h; exact h
theorem mkInt {i : Int} : RelT K μ π H (.int i) (.int i) := by unfold RelT; rfl
theorem mkBl {i : Bool} : RelT K μ π H (.bl i) (.bl i) := by unfold RelT; rfl
theorem mkNon : RelT K μ π H .non .non := by unfold RelT; rfl
theorem mkStr {x : Str} (h : x.length ≤ sizeLine) : RelT K μ π H (.str x) (.str x) := by unfold RelT; exact ⟨rfl, h⟩
theorem mkTup {ts : List T} {a : Addr} {xs : List V} (h : SqT K H a xs) (r : RelTs K μ π H ts xs) : RelT K μ π H (.tup ts) (.ref a) := by unfold RelT; exact ⟨a, xs, rfl, h, r⟩
/-- a list's items, whichever list it is -/
def itemsT (t : T) (S : Sto) : Option (List T) := match t with
  | .lst ts => some ts
  | .loc n => S[n]?
  | _ => none
theorem items_rel {t : T} {v : V} {ts : List T} (hs : RelS K μ π H S) (r : RelT K μ π H t v) (e : itemsT t S = some ts) : ∃ a xs, v = .ref a ∧ SqL K H a xs ∧ RelTs K μ π H ts xs := by
  cases t with
  | lst us =>
    cases e
    obtain ⟨a, xs, rfl, q, r⟩ := relT_lst r
    exact ⟨a, xs, rfl, q.sq, r⟩
  | loc n =>
    obtain ⟨a, rfl, q⟩ := relT_loc r
    obtain ⟨b, xs, h1, h2, h3⟩ := hs.at_ n ts e
    rw [q] at h1; cases h1
    exact ⟨a, xs, rfl, .of h2, h3⟩
  | _ => exact nomatch e

/-- only if -/
def gd {α : Type} (c : Prop) [Decidable c] (r : R α) : R α := if c then r else .bad
theorem Post.gd {α β : Type} {rel : List Addr → Hp → α → β → Prop} {c : Prop} [Decidable c] {r : R α} {Q : β → Hp → Prop} (h : Post rel mg K π μ H (RL.gd c r) Q E) : c ∧ Post rel mg K π μ H r Q E := by
  unfold RL.gd at h
  by_cases e : c
  · rw [if_pos e] at h; exact ⟨e, h⟩
  · rw [if_neg e] at h; exact h.elim
@[scoped simp] theorem gd_pos {α : Type} {c : Prop} [Decidable c] {r : R α} (h : c) : RL.gd c r = r := if_pos h

/-! ### + - * // % ** -/
def addT : T → T → Sto → R T
  | .int i, .int j, S => .ok (.int (i + j)) S
  | .str x, .str y, S => gd (x.length + y.length ≤ sizeLine) (.ok (.str (x ++ y)) S)
  | .tup xs, .tup ys, S => gd (xs.length + ys.length ≤ sizeLine) (.ok (.tup (xs ++ ys)) S)
  | .loc m, .loc n, S => match S[m]?, S[n]? with
    | some xs, some ys => gd (xs.length + ys.length ≤ sizeLine) (.ok (.lst (xs ++ ys)) S)
    | _, _ => .bad
  | _, _, _ => .bad
theorem relTs_nilnil {ts : List T} {xs : List V} (r : RelTs K μ π H ts xs) (h : xs = []) : ts = [] := by
  subst h
  cases ts with
  | nil => rfl
  | cons t ts => obtain ⟨v, r', e, _⟩ := relTs_cons_inv r; cases e
theorem op_addT : OpR X (binaryOp .Add) (rF mg X.K E addT) := by
  intro pins s σ H x y v u Q I rx ry h
  obtain ⟨a, b, S, μ, π, hs, ra, rb, p⟩ := h
  cases a <;> cases b <;> first | exact p.elim | skip
  · rename_i i j
    cases relT_int ra; cases relT_int rb
    exact op_add pins s σ H _ _ v u Q I rx ry ⟨i, j, rfl, rfl, Post.val p hs mkInt⟩
  · rename_i i j
    obtain ⟨rfl, h1⟩ := relT_str ra; obtain ⟨rfl, h2⟩ := relT_str rb
    obtain ⟨c, p⟩ := Post.gd p
    exact op_add_str pins s σ H _ _ v u Q I rx ry ⟨i, j, rfl, rfl, c, Post.val p hs (mkStr (by rw [len_tl, tl_append, List.length_append, ← len_tl, ← len_tl]; exact c))⟩
  · rename_i ts us
    obtain ⟨a1, xs, rfl, q1, r1⟩ := relT_tup ra; obtain ⟨a2, ys, rfl, q2, r2⟩ := relT_tup rb
    obtain ⟨c, p⟩ := Post.gd p
    refine op_catA pins s σ H _ _ v u Q I rx ry ⟨a1, a2, xs, ys, rfl, rfl, q1, q2, by rw [r1.length, r2.length]; exact c, fun e => ?_, fun e1 e2 => ?_, fun e1 e2 p' hp => Post.tup p hs (r1.append r2) hp⟩
    · have := relTs_nilnil r1 e
      subst this
      exact Post.val p hs (mkTup q2 r2)
    · have := relTs_nilnil r2 e2
      subst this
      rw [List.append_nil] at p
      exact Post.val p hs (mkTup q1 r1)
  · rename_i m n
    unfold addT at p
    dsimp only at p
    cases e1 : S[m]? with
    | none => rw [e1] at p; exact p.elim
    | some xs =>
      cases e2 : S[n]? with
      | none => rw [e1, e2] at p; exact p.elim
      | some ys =>
        rw [e1, e2] at p
        obtain ⟨c, p⟩ := Post.gd p
        unfold RelT at ra rb
        obtain ⟨a, rfl, qa⟩ := ra
        obtain ⟨b, rfl, qb⟩ := rb
        obtain ⟨a', vs, h1, h2, h3⟩ := hs.at_ m xs e1
        rw [qa] at h1; cases h1
        obtain ⟨b', ws, h4, h5, h6⟩ := hs.at_ n ys e2
        rw [qb] at h4; cases h4
        exact op_cat pins s σ H _ _ v u Q I rx ry ⟨a, b, vs, ws, rfl, rfl, h2, h5, by rw [h3.length, h6.length]; exact c, fun p' hp => Post.lst p hs (h3.append h6) hp⟩
def subT : T → T → Sto → R T
  | .int i, .int j, S => .ok (.int (i - j)) S
  | _, _, _ => .bad
theorem op_subT : OpR X (binaryOp .Sub) (rF mg X.K E subT) := by
  intro pins s σ H x y v u Q I rx ry h
  obtain ⟨a, b, S, μ, π, hs, ra, rb, p⟩ := h
  cases a <;> cases b <;> first | exact p.elim | skip
  rename_i i j
  cases relT_int ra; cases relT_int rb
  exact op_sub pins s σ H _ _ v u Q I rx ry ⟨i, j, rfl, rfl, Post.val p hs mkInt⟩
/-- a text so many times -/
def repS (x : Str) (k : Nat) : Str := ⟨((List.replicate k x.cps.toList).flatten).toArray⟩
def mulT : T → T → Sto → R T
  | .int i, .int j, S => gd ((i.natAbs.log2 + j.natAbs.log2 < 1000000) ∨ (-(2 ^ 64) < i ∧ i < 2 ^ 64) ∨ (-(2 ^ 64) < j ∧ j < 2 ^ 64)) (.ok (.int (i * j)) S)
  | .str x, .int k, S => gd (-4000 ≤ k ∧ k ≤ 4000 ∧ x.length ≤ 1000) (.ok (.str (repS x k.toNat)) S)
  | .tup ts, .int k, S => gd (1 ≤ k ∧ k ≤ 1000 ∧ 1 ≤ ts.length ∧ ts.length ≤ 1000) (.ok (.tup (List.replicate k.toNat ts).flatten) S)
  | _, _, _ => .bad
def fdivT : T → T → Sto → R T
  | .int i, .int j, S => gd (0 < j ∧ j.natAbs.log2 < 9000) (.ok (.int (i / j)) S)
  | _, _, _ => .bad
theorem op_fdivT : OpR X (binaryOp .FloorDiv) (rF mg X.K E fdivT) := by
  intro pins s σ H x y v u Q I rx ry h
  obtain ⟨a, b, S, μ, π, hs, ra, rb, p⟩ := h
  cases a <;> cases b <;> first | exact p.elim | skip
  rename_i i j
  cases relT_int ra; cases relT_int rb
  obtain ⟨c, p⟩ := Post.gd p
  exact op_fdivW pins s σ H _ _ v u Q I rx ry ⟨i, j, rfl, rfl, c, Post.val p hs mkInt⟩
def modT : T → T → Sto → R T
  | .int i, .int j, S => gd (0 < j) (.ok (.int (i % j)) S)
  | _, _, _ => .bad
theorem op_modT : OpR X (binaryOp .Mod) (rF mg X.K E modT) := by
  intro pins s σ H x y v u Q I rx ry h
  obtain ⟨a, b, S, μ, π, hs, ra, rb, p⟩ := h
  cases a <;> cases b <;> first | exact p.elim | skip
  rename_i i j
  cases relT_int ra; cases relT_int rb
  obtain ⟨c, p⟩ := Post.gd p
  exact op_mod pins s σ H _ _ v u Q I rx ry ⟨i, j, rfl, rfl, c, Post.val p hs mkInt⟩
def powT : T → T → Sto → R T
  | .int i, .int j, S => gd (0 ≤ j ∧ (Builtin.Int.intBits i : Int) * j ≤ 2 ^ 27) (.ok (.int (i ^ j.toNat)) S)
  | _, _, _ => .bad
theorem op_powT : OpR X (binaryOp .Pow) (rF mg X.K E powT) := by
  intro pins s σ H x y v u Q I rx ry h
  obtain ⟨a, b, S, μ, π, hs, ra, rb, p⟩ := h
  cases a <;> cases b <;> first | exact p.elim | skip
  rename_i i j
  cases relT_int ra; cases relT_int rb
  obtain ⟨c, p⟩ := Post.gd p
  obtain ⟨t, rfl⟩ := rx
  obtain ⟨t', rfl⟩ := ry
  exact pow_int c.1 c.2 ⟨.int _, H, I.tok _, ⟨_, rfl⟩, Post.val p hs mkInt⟩
theorem rep_flat (its : List Nat) : ∀ (m : Nat) (acc : List Nat), (List.replicate m its.toArray).foldl (fun x1 x2 => x1 ++ x2) acc.toArray = (acc ++ (List.replicate m its).flatten).toArray := fun m => by
  induction m with
  | zero => intro acc; simp
  | succ m ih =>
    intro acc
    rw [List.replicate_succ, List.foldl_cons, List.replicate_succ, List.flatten_cons, ← List.append_assoc]
    have e : acc.toArray ++ its.toArray = (acc ++ its).toArray := by simp
    rw [e, ih]
theorem tuple_mul_one (l : Addr) (items : Array Value) (n : Nat) (dd : Option Addr) (sl : Array (Option Value)) (u : Tok) :
    Meets (Builtin.«tuple.__mul__» ⟨[.ref l, .int 1 u], []⟩) (fun _ R s => s.heap.get? l = some { cls := .type "tuple", dict := dd, data := .seq items n, slots := sl } ∧ R (.ok (.ret (Value.ref l))) s) :=
  .of_wp fun prog w A R s h => by
    obtain ⟨hp, g, d, tk, os⟩ := s
    obtain ⟨hl, h⟩ := h
    have g1 := AutoSeq1.idx_int
    have c1 : (items.isEmpty || (1 : Int) == 1) = true := by simp
    wp_walk using wpAny_loadPart' hl
    repeat (first
      | (refine wpAny_ite_true (by first | decide | exact c1 | (simp; done)) ?_; wp_walk using wpAny_loadPart' hl)
      | (refine wpAny_ite_false (by first | decide | (simp; done)) ?_; wp_walk using wpAny_loadPart' hl))
    exact ⟨_, rfl, h⟩
theorem op_mulT : OpR X (binaryOp .Mult) (rF mg X.K E mulT) := by
  intro pins s σ H x y v u Q I rx ry h
  obtain ⟨a, b, S, μ, π, hs, ra, rb, p⟩ := h
  have hsl : sizeLine = 16777216 := sizeLine_eq
  cases a <;> cases b <;> first | exact p.elim | skip
  · rename_i i j
    cases relT_int ra; cases relT_int rb
    obtain ⟨c, p⟩ := Post.gd p
    rcases c with c | c
    · exact op_mulW pins s σ H _ _ v u Q I rx ry ⟨i, j, rfl, rfl, c, Post.val p hs mkInt⟩
    · exact op_mul pins s σ H _ _ v u Q I rx ry ⟨i, j, rfl, rfl, c, Post.val p hs mkInt⟩
  · rename_i x k
    obtain ⟨rfl, h1⟩ := relT_str ra; cases relT_int rb
    obtain ⟨t, rfl⟩ := rx
    obtain ⟨t', rfl⟩ := ry
    obtain ⟨⟨c1, c2, c3⟩, p⟩ := Post.gd p
    have c3' : x.cps.size ≤ 1000 := c3
    have kn : k.toNat ≤ 4000 := by omega
    have hprod : k.toNat * x.cps.size ≤ 4000 * 1000 := Nat.mul_le_mul kn c3'
    have hlen : (repS x k.toNat).length ≤ sizeLine := by
      show (List.toArray _).size ≤ _
      rw [List.size_toArray, PyProof.Rows.lm_len_rep_flat, Array.length_toList]
      first
        | (rw [Nat.mul_comm]; omega)
        | omega
    refine P.mul_str (by
        have e1 : decide (k < -(2 ^ 63 : Int)) = false := decide_eq_false (by omega)
        have e2 : decide (k ≥ 2 ^ 63) = false := decide_eq_false (by omega)
        rw [e1, e2] <;> rfl) (fun h1 _ => ?_) (fun _ _ => ?_) ?_
    · have h9 : (1000 : Int) ≤ (2 ^ 63 - 1) / k := Int.le_ediv_of_mul_le (by omega) (by omega)
      omega
    · unfold Builtin.Str.tooLong
      refine decide_eq_false ?_
      have : x.length * k.toNat ≤ 1000 * 4000 := Nat.mul_le_mul c3 kn
      omega
    · by_cases k1 : k < 1
      · rw [if_pos k1]
        have e : k.toNat = 0 := by omega
        have es : repS x k.toNat = Str.empty := by rw [e]; rfl
        rw [es] at p
        exact ⟨Nat.zero_le _, .str Str.empty, H, I.tok _, ⟨_, rfl⟩, Post.val p hs (mkStr (Nat.zero_le _))⟩
      · rw [if_neg k1]
        by_cases k2 : k = 1
        · have e : repS x k.toNat = x := by
            subst k2
            refine ext_tl ?_
            show List.flatten (List.replicate 1 x.cps.toList) = _
            simp
          rw [if_pos (by rw [k2]; rfl)]
          rw [e] at p
          exact ⟨.str x, H, I, ⟨t, rfl⟩, Post.val p hs (mkStr h1)⟩
        · by_cases x0 : x.length = 0
          · have xe : x.cps.toList = [] := List.length_eq_zero_iff.mp (by rw [Array.length_toList]; exact x0)
            have e : repS x k.toNat = x := by
              refine ext_tl ?_
              show (List.flatten (List.replicate k.toNat x.cps.toList)) = x.cps.toList
              rw [xe]
              refine List.flatten_eq_nil_iff.mpr fun l hl => ?_
              exact (List.mem_replicate.mp hl).2
            rw [if_pos (by rw [x0]; simp)]
            rw [e] at p
            exact ⟨.str x, H, I, ⟨t, rfl⟩, Post.val p hs (mkStr h1)⟩
          have e0 : (k == 1 || x.length == 0) = false := by
            simp [k2, x0]
          rw [if_neg (by rw [e0]; decide)]
          have e : (⟨(List.replicate k.toNat x.cps).foldl (· ++ ·) #[]⟩ : Str) = repS x k.toNat := by
            have z := rep_flat x.cps.toList k.toNat []
            rw [List.nil_append, Array.toArray_toList] at z
            exact congrArg Str.mk z
          rw [e]
          exact ⟨hlen, .str (repS x k.toNat), H, I.tok _, ⟨_, rfl⟩, Post.val p hs (mkStr hlen)⟩
  · rename_i ts k
    obtain ⟨a1, xs, rfl, q1, r1⟩ := relT_tup ra; cases relT_int rb
    obtain ⟨⟨c1, c2, c3, c4⟩, p⟩ := Post.gd p
    have hl := r1.length
    by_cases k2 : 2 ≤ k
    · refine op_repT pins s σ H _ _ v u Q I rx ry ⟨a1, k, xs, rfl, rfl, q1, fun e => by rw [e] at hl; simp at hl; omega, k2, c2, by omega, fun p' hp => Post.tup p hs ?_ hp⟩
      generalize k.toNat = m
      induction m with
      | zero => simpa using relTs_nil
      | succ m ih =>
        rw [List.replicate_succ, List.replicate_succ, List.flatten_cons, List.flatten_cons]
        exact r1.append ih
    · have ek : k = 1 := by omega
      subst ek
      have et : (List.replicate (1 : Int).toNat ts).flatten = ts := by simp
      rw [et] at p
      cases rx
      obtain ⟨t, rfl⟩ := ry
      obtain ⟨its, r, ⟨⟨cls, dd, data, sl⟩, ho, hc, n, hd⟩, hz⟩ := I.tuple q1
      simp only at hc hd
      subst hc hd
      refine wpAny_binaryOp_repeat_ref (T := "tuple") (U := "int") (by decide) ⟨_, ho, rfl⟩ (fun s' => typeIs_int s' 1 t) noFill_tuple_mul F.fills_int_mul F.slot_int_rmul repeat_tuple F.slot_int_index.lookup
        (call_meets F.slot_int_rmul (typeIs_int s 1 t) F.entry_int_rmul (F.args_int_rmul_2 _ _) (int_rmul_tuple 1 t a1 its.toArray n dd sl)
          ⟨ho, rfl, ⟨_, ho, rfl⟩, call_meets F.slot_tuple_mul ⟨_, ho, rfl⟩ F.entry_tuple_mul (F.args_tuple_mul_2 _ _) (tuple_mul_one a1 its.toArray n dd sl t) ⟨ho, ?_⟩⟩)
      exact ⟨.ref a1, H, I, rfl, Post.val p hs (mkTup q1 r1)⟩
end
end RL
end
section
set_option maxRecDepth 100000
set_option maxHeartbeats 2000000
namespace RL
open PySem PySem.Spec PyProof.Rows L2 TL
open scoped RL.R

/-! ## comparisons -/
def scalT : T → T → Option Bool
  | .non, .non => some true
  | .non, .int _ => some false
  | .int _, .non => some false
  | .non, .bl _ => some false
  | .bl _, .non => some false
  | .non, .str _ => some false
  | .str _, .non => some false
  | .int i, .int j => some (decide (i = j))
  | .bl i, .bl j => some (decide (i = j))
  | .str i, .str j => some (decide (i = j))
  | .int _, .str _ => some false
  | .str _, .int _ => some false
  | .bl _, .str _ => some false
  | .str _, .bl _ => some false
  | _, _ => none
mutual
def datOf : T → Option PyData
  | .non => some .none
  | .bl b => some (.bool b)
  | .int i => some (.int i)
  | .str x => some (.str x)
  | .tup ts => (datsOf ts).map .tuple
  | .lst ts => (datsOf ts).map .list
  | .loc _ => none
  | .ty _ => none
  | .exn _ _ _ _ => none
def datsOf : List T → Option (List PyData)
  | [] => some []
  | t :: ts => match datOf t, datsOf ts with
    | some d, some ds => some (d :: ds)
    | _, _ => none
end
def eqT (a b : T) (S : Sto) : R T := match scalT a b with
  | some k => .ok (.bl k) S
  | none => match datOf a, datOf b with
    | some d, some e => gd (SeqAt.shaped d = true ∧ SeqAt.shaped e = true) (.ok (.bl (PyData.eqv d e)) S)
    | _, _ => .bad
def neT (a b : T) (S : Sto) : R T := match scalT a b with
  | some k => .ok (.bl (!k)) S
  | none => match datOf a, datOf b with
    | some d, some e => gd (SeqAt.shaped d = true ∧ SeqAt.shaped e = true) (.ok (.bl (!PyData.eqv d e)) S)
    | _, _ => .bad
section
variable {X : Cx} {mg : Str → Option Value} {K : W.Frag} {E : XK} {π μ : List Addr} {H : Hp} {S : Sto}
mutual
theorem dat_rel : ∀ {t : T} {v : V} {d : PyData}, RelT K μ π H t v → datOf t = some d → Dp K H v d
  | .non, _, _, r, e => by cases relT_non r; cases e; exact .non
  | .bl _, _, _, r, e => by cases relT_bl r; cases e; exact .bl _
  | .int _, _, _, r, e => by cases relT_int r; cases e; exact .int _
  | .str _, _, _, r, e => by obtain ⟨rfl, _⟩ := relT_str r; cases e; exact .str _
  | .tup ts, _, _, r, e => by
    obtain ⟨a, xs, rfl, q, rs⟩ := relT_tup r
    unfold datOf at e
    cases h : datsOf ts with
    | none => rw [h] at e; cases e
    | some ds => rw [h] at e; cases e; exact .tup q (dats_rel rs h)
  | .lst ts, _, _, r, e => by
    obtain ⟨a, xs, rfl, q, rs⟩ := relT_lst r
    unfold datOf at e
    cases h : datsOf ts with
    | none => rw [h] at e; cases e
    | some ds => rw [h] at e; cases e; exact .lst q.sq (dats_rel rs h)
  | .loc _, _, _, _, e => nomatch e
  | .ty _, _, _, _, e => nomatch e
theorem dats_rel : ∀ {ts : List T} {vs : List V} {ds : List PyData}, RelTs K μ π H ts vs → datsOf ts = some ds → DpAll K H vs ds
  | [], _, _, r, e => by cases relTs_nil_inv r; cases e; exact .nil
  | t :: ts, _, _, r, e => by
    obtain ⟨v, vs, rfl, r1, r2⟩ := relTs_cons_inv r
    unfold datsOf at e
    cases h1 : datOf t with
    | none => rw [h1] at e; cases e
    | some d =>
      cases h2 : datsOf ts with
      | none => rw [h1, h2] at e; cases e
      | some ds => rw [h1, h2] at e; cases e; exact .cons (dat_rel r1 h1) (dats_rel r2 h2)
end
theorem scal_rel {a b : T} {x y : V} {k : Bool} (ra : RelT K μ π H a x) (rb : RelT K μ π H b y) (e : scalT a b = some k) : scal x y = true ∧ decide (x = y) = k := by
  cases a <;> cases b <;> first | (cases e; done) | skip
  all_goals (first | cases relT_non ra | cases relT_bl ra | cases relT_int ra | (obtain ⟨rfl, _⟩ := relT_str ra))
  all_goals (first | cases relT_non rb | cases relT_bl rb | cases relT_int rb | (obtain ⟨rfl, _⟩ := relT_str rb))
  all_goals (cases e; exact ⟨rfl, by simp⟩)
theorem op_eqT (hu : X.A.units + 64 < cLine) : OpR X (compareOp .Eq) (rF mg X.K E eqT) := by
  intro pins s σ H x y v u Q I rx ry h
  obtain ⟨a, b, S, μ, π, hs, ra, rb, p⟩ := h
  unfold eqT at p
  cases e : scalT a b with
  | some k =>
    rw [e] at p
    obtain ⟨h1, h2⟩ := scal_rel ra rb e
    exact op_eq pins s σ H x y v u Q I rx ry ⟨h1, by rw [h2]; exact Post.val p hs mkBl⟩
  | none =>
    rw [e] at p
    cases e1 : datOf a with
    | none => rw [e1] at p; exact p.elim
    | some d =>
      cases e2 : datOf b with
      | none => rw [e1, e2] at p; exact p.elim
      | some d' =>
        rw [e1, e2] at p
        obtain ⟨⟨c1, c2⟩, p⟩ := Post.gd p
        exact op_eqD hu pins s σ H x y v u Q I rx ry ⟨d, d', dat_rel ra e1, dat_rel rb e2, c1, c2, Post.val p hs mkBl⟩
theorem op_neT (hu : X.A.units + 64 < cLine) : OpR X (compareOp .NotEq) (rF mg X.K E neT) := by
  intro pins s σ H x y v u Q I rx ry h
  obtain ⟨a, b, S, μ, π, hs, ra, rb, p⟩ := h
  unfold neT at p
  cases e : scalT a b with
  | some k =>
    rw [e] at p
    obtain ⟨h1, h2⟩ := scal_rel ra rb e
    exact op_ne pins s σ H x y v u Q I rx ry ⟨h1, by rw [h2]; exact Post.val p hs mkBl⟩
  | none =>
    rw [e] at p
    cases e1 : datOf a with
    | none => rw [e1] at p; exact p.elim
    | some d =>
      cases e2 : datOf b with
      | none => rw [e1, e2] at p; exact p.elim
      | some d' =>
        rw [e1, e2] at p
        obtain ⟨⟨c1, c2⟩, p⟩ := Post.gd p
        exact op_neD hu pins s σ H x y v u Q I rx ry ⟨d, d', dat_rel ra e1, dat_rel rb e2, c1, c2, Post.val p hs mkBl⟩
def ltT : T → T → Sto → R T
  | .int i, .int j, S => .ok (.bl (decide (i < j))) S
  | .str x, .str y, S => .ok (.bl (decide (x.cps.toList < y.cps.toList))) S
  | _, _, _ => .bad
def leT : T → T → Sto → R T
  | .int i, .int j, S => .ok (.bl (decide (i ≤ j))) S
  | .str x, .str y, S => .ok (.bl (!decide (y.cps.toList < x.cps.toList))) S
  | _, _, _ => .bad
def gtT : T → T → Sto → R T
  | .int i, .int j, S => .ok (.bl (decide (j < i))) S
  | .str x, .str y, S => .ok (.bl (decide (y.cps.toList < x.cps.toList))) S
  | _, _, _ => .bad
def geT : T → T → Sto → R T
  | .int i, .int j, S => .ok (.bl (decide (j ≤ i))) S
  | .str x, .str y, S => .ok (.bl (!decide (x.cps.toList < y.cps.toList))) S
  | _, _, _ => .bad
theorem op_ltT : OpR X (compareOp .Lt) (rF mg X.K E ltT) := by
  intro pins s σ H x y v u Q I rx ry h
  obtain ⟨a, b, S, μ, π, hs, ra, rb, p⟩ := h
  cases a <;> cases b <;> first | exact p.elim | skip
  · cases relT_int ra; cases relT_int rb
    exact op_lt pins s σ H _ _ v u Q I rx ry ⟨_, _, rfl, rfl, Post.val p hs mkBl⟩
  · obtain ⟨rfl, _⟩ := relT_str ra; obtain ⟨rfl, _⟩ := relT_str rb
    obtain ⟨t, rfl⟩ := rx; obtain ⟨t', rfl⟩ := ry
    exact PySem.P.lt_str (fin_bl I (Post.val p hs mkBl) rfl)
theorem op_leT : OpR X (compareOp .LtE) (rF mg X.K E leT) := by
  intro pins s σ H x y v u Q I rx ry h
  obtain ⟨a, b, S, μ, π, hs, ra, rb, p⟩ := h
  cases a <;> cases b <;> first | exact p.elim | skip
  · cases relT_int ra; cases relT_int rb
    exact op_le pins s σ H _ _ v u Q I rx ry ⟨_, _, rfl, rfl, Post.val p hs mkBl⟩
  · obtain ⟨rfl, _⟩ := relT_str ra; obtain ⟨rfl, _⟩ := relT_str rb
    obtain ⟨t, rfl⟩ := rx; obtain ⟨t', rfl⟩ := ry
    exact PySem.P.le_str (fin_bl I (Post.val p hs mkBl) rfl)
theorem op_gtT : OpR X (compareOp .Gt) (rF mg X.K E gtT) := by
  intro pins s σ H x y v u Q I rx ry h
  obtain ⟨a, b, S, μ, π, hs, ra, rb, p⟩ := h
  cases a <;> cases b <;> first | exact p.elim | skip
  · cases relT_int ra; cases relT_int rb
    exact op_gt pins s σ H _ _ v u Q I rx ry ⟨_, _, rfl, rfl, Post.val p hs mkBl⟩
  · obtain ⟨rfl, _⟩ := relT_str ra; obtain ⟨rfl, _⟩ := relT_str rb
    obtain ⟨t, rfl⟩ := rx; obtain ⟨t', rfl⟩ := ry
    exact PySem.P.gt_str (fin_bl I (Post.val p hs mkBl) rfl)
theorem op_geT : OpR X (compareOp .GtE) (rF mg X.K E geT) := by
  intro pins s σ H x y v u Q I rx ry h
  obtain ⟨a, b, S, μ, π, hs, ra, rb, p⟩ := h
  cases a <;> cases b <;> first | exact p.elim | skip
  · cases relT_int ra; cases relT_int rb
    exact op_ge pins s σ H _ _ v u Q I rx ry ⟨_, _, rfl, rfl, Post.val p hs mkBl⟩
  · obtain ⟨rfl, _⟩ := relT_str ra; obtain ⟨rfl, _⟩ := relT_str rb
    obtain ⟨t, rfl⟩ := rx; obtain ⟨t', rfl⟩ := ry
    exact PySem.P.ge_str (fin_bl I (Post.val p hs mkBl) rfl)
def isNonT : T → Bool
  | .non => true
  | _ => false
def isT (a b : T) (S : Sto) : R T := match b with
  | .non => .ok (.bl (isNonT a)) S
  | _ => .bad
def isntT (a b : T) (S : Sto) : R T := match b with
  | .non => .ok (.bl (!isNonT a)) S
  | _ => .bad
theorem non_rel {a : T} {x : V} (r : RelT K μ π H a x) : decide (x = .non) = isNonT a := by
  cases a with
  | non => cases relT_non r; rfl
  | bl _ => cases relT_bl r; rfl
  | int _ => cases relT_int r; rfl
  | str _ => obtain ⟨rfl, _⟩ := relT_str r; rfl
  | ty n => unfold RelT at r; subst r; rfl
  | exn _ _ _ _ => unfold RelT at r; obtain ⟨rfl, _⟩ := r; rfl
  | tup _ => obtain ⟨a, xs, rfl, _⟩ := relT_tup r; rfl
  | lst _ => obtain ⟨a, xs, rfl, _⟩ := relT_lst r; rfl
  | loc _ => obtain ⟨a, rfl, _⟩ := relT_loc r; rfl
theorem op_isT : OpR X (compareOp .Is) (rF mg X.K E isT) := by
  intro pins s σ H x y v u Q I rx ry h
  obtain ⟨a, b, S, μ, π, hs, ra, rb, p⟩ := h
  cases b <;> first | exact p.elim | skip
  cases relT_non rb
  exact op_isN pins s σ H _ _ v u Q I rx ry ⟨rfl, by rw [non_rel ra]; exact Post.val p hs mkBl⟩
theorem op_isntT : OpR X (compareOp .IsNot) (rF mg X.K E isntT) := by
  intro pins s σ H x y v u Q I rx ry h
  obtain ⟨a, b, S, μ, π, hs, ra, rb, p⟩ := h
  cases b <;> first | exact p.elim | skip
  cases relT_non rb
  exact op_notN pins s σ H _ _ v u Q I rx ry ⟨rfl, by rw [non_rel ra]; exact Post.val p hs mkBl⟩
/-! ### in -/
def flatT : T → Bool
  | .non => true
  | .bl _ => true
  | .int _ => true
  | .str _ => true
  | _ => false
def eqF : T → T → Bool
  | .non, .non => true
  | .bl a, .bl b => a == b
  | .bl a, .int b => (if a then 1 else 0) == b
  | .int a, .bl b => a == (if b then 1 else 0)
  | .int a, .int b => a == b
  | .str a, .str b => a == b
  | _, _ => false
theorem flat_rel {t : T} {v : V} (r : RelT K μ π H t v) (f : flatT t = true) : flatV v = true := by
  cases t with
  | non => cases relT_non r; rfl
  | bl _ => cases relT_bl r; rfl
  | int _ => cases relT_int r; rfl
  | str _ => obtain ⟨rfl, _⟩ := relT_str r; rfl
  | _ => exact nomatch f
theorem eqF_rel {a b : T} {x y : V} (ra : RelT K μ π H a x) (rb : RelT K μ π H b y) (fa : flatT a = true) (fb : flatT b = true) : eqV x y = eqF a b := by
  cases a <;> first | (cases fa; done) | skip
  all_goals (cases b <;> first | (cases fb; done) | skip)
  all_goals (first | cases relT_non ra | cases relT_bl ra | cases relT_int ra | (obtain ⟨rfl, _⟩ := relT_str ra))
  all_goals (first | cases relT_non rb | cases relT_bl rb | cases relT_int rb | (obtain ⟨rfl, _⟩ := relT_str rb))
  all_goals rfl
theorem flats_rel : ∀ {ts : List T} {vs : List V}, RelTs K μ π H ts vs → ts.all flatT = true → vs.all flatV = true
  | [], _, r, _ => by cases relTs_nil_inv r; rfl
  | t :: ts, _, r, f => by
    obtain ⟨v, vs, rfl, r1, r2⟩ := relTs_cons_inv r
    rw [List.all_cons, Bool.and_eq_true] at f ⊢
    exact ⟨flat_rel r1 f.1, flats_rel r2 f.2⟩
theorem in_rel {a : T} {x : V} (ra : RelT K μ π H a x) (fa : flatT a = true) : ∀ {ts : List T} {vs : List V}, RelTs K μ π H ts vs → ts.all flatT = true → inV x vs = ts.any fun y => eqF y a
  | [], _, r, _ => by cases relTs_nil_inv r; rfl
  | t :: ts, _, r, f => by
    obtain ⟨v, vs, rfl, r1, r2⟩ := relTs_cons_inv r
    rw [List.all_cons, Bool.and_eq_true] at f
    have ih := in_rel ra fa r2 f.2
    unfold inV at ih ⊢
    rw [List.any_cons, List.any_cons, ih, eqF_rel r1 ra f.1 fa]
def inT (a b : T) (S : Sto) : R T := match b with
  | .str y => match a with
    | .str x => .ok (.bl (!(Builtin.Str.occurrences y x 0 y.length 1).isEmpty)) S
    | _ => .bad
  | .tup ts => gd (flatT a = true ∧ ts.all flatT = true) (.ok (.bl (ts.any fun y => eqF y a)) S)
  | .lst ts => gd (flatT a = true ∧ ts.all flatT = true) (.ok (.bl (ts.any fun y => eqF y a)) S)
  | .loc n => match S[n]? with
    | some ts => gd (flatT a = true ∧ ts.all flatT = true) (.ok (.bl (ts.any fun y => eqF y a)) S)
    | none => .bad
  | _ => .bad
def ninT (a b : T) (S : Sto) : R T := (inT a b S).bind fun t S1 => match t with
  | .bl k => .ok (.bl (!k)) S1
  | _ => .bad
theorem op_inT : OpR X (compareOp .In) (rF mg X.K E inT) := by
  intro pins s σ H x y v u Q I rx ry h
  obtain ⟨a, b, S, μ, π, hs, ra, rb, p⟩ := h
  cases b <;> first | exact p.elim | skip
  · cases a <;> first | exact p.elim | skip
    obtain ⟨rfl, _⟩ := relT_str ra; obtain ⟨rfl, _⟩ := relT_str rb
    exact op_in_str pins s σ H _ _ v u Q I rx ry ⟨_, _, rfl, rfl, Post.val p hs mkBl⟩
  · obtain ⟨⟨c1, c2⟩, p⟩ := Post.gd p
    obtain ⟨l, xs, rfl, q, r⟩ := relT_tup rb
    exact op_in_seq pins s σ H _ _ v u Q I rx ry ⟨l, xs, rfl, .inr q, flat_rel ra c1, flats_rel r c2, by rw [if_neg (by decide), in_rel ra c1 r c2]; exact Post.val p hs mkBl⟩
  · obtain ⟨⟨c1, c2⟩, p⟩ := Post.gd p
    obtain ⟨l, xs, rfl, q, r⟩ := relT_lst rb
    exact op_in_seq pins s σ H _ _ v u Q I rx ry ⟨l, xs, rfl, .inl q.sq, flat_rel ra c1, flats_rel r c2, by rw [if_neg (by decide), in_rel ra c1 r c2]; exact Post.val p hs mkBl⟩
  · rename_i n
    unfold inT at p
    dsimp only at p
    cases e : S[n]? with
    | none => rw [e] at p; exact p.elim
    | some ts =>
      rw [e] at p
      obtain ⟨⟨c1, c2⟩, p⟩ := Post.gd p
      obtain ⟨l, xs, rfl, q, r⟩ := items_rel (ts := ts) hs rb e
      exact op_in_seq pins s σ H _ _ v u Q I rx ry ⟨l, xs, rfl, .inl q, flat_rel ra c1, flats_rel r c2, by rw [if_neg (by decide), in_rel ra c1 r c2]; exact Post.val p hs mkBl⟩
theorem op_ninT : OpR X (compareOp .NotIn) (rF mg X.K E ninT) := by
  intro pins s σ H x y v u Q I rx ry h
  obtain ⟨a, b, S, μ, π, hs, ra, rb, p⟩ := h
  cases b <;> first | exact p.elim | skip
  · cases a <;> first | exact p.elim | skip
    obtain ⟨rfl, _⟩ := relT_str ra; obtain ⟨rfl, _⟩ := relT_str rb
    exact L2.op_notIn_str pins s σ H _ _ v u Q I rx ry ⟨_, _, rfl, rfl, Post.val p hs mkBl⟩
  · unfold ninT inT at p
    dsimp only at p
    unfold RL.gd at p
    split at p
    · rename_i c
      obtain ⟨c1, c2⟩ := c
      obtain ⟨l, xs, rfl, q, r⟩ := relT_tup rb
      exact op_notIn_seq pins s σ H _ _ v u Q I rx ry ⟨l, xs, rfl, .inr q, flat_rel ra c1, flats_rel r c2, by rw [if_pos rfl, in_rel ra c1 r c2]; exact Post.val p hs mkBl⟩
    · exact p.elim
  · unfold ninT inT at p
    dsimp only at p
    unfold RL.gd at p
    split at p
    · rename_i c
      obtain ⟨c1, c2⟩ := c
      obtain ⟨l, xs, rfl, q, r⟩ := relT_lst rb
      exact op_notIn_seq pins s σ H _ _ v u Q I rx ry ⟨l, xs, rfl, .inl q.sq, flat_rel ra c1, flats_rel r c2, by rw [if_pos rfl, in_rel ra c1 r c2]; exact Post.val p hs mkBl⟩
    · exact p.elim
  · rename_i n
    unfold ninT inT at p
    dsimp only at p
    cases e : S[n]? with
    | none => rw [e] at p; exact p.elim
    | some ts =>
      rw [e] at p
      dsimp only at p
      unfold RL.gd at p
      split at p
      · rename_i c
        obtain ⟨c1, c2⟩ := c
        obtain ⟨l, xs, rfl, q, r⟩ := items_rel (ts := ts) hs rb e
        exact op_notIn_seq pins s σ H _ _ v u Q I rx ry ⟨l, xs, rfl, .inl q, flat_rel ra c1, flats_rel r c2, by rw [if_pos rfl, in_rel ra c1 r c2]; exact Post.val p hs mkBl⟩
      · exact p.elim
/-! ### a op b op' c -/
def chainM (f g : T → T → Sto → R T) (ma mb mc : M T) : M T := fun ρ S => (ma ρ S).bind fun a S1 => (mb ρ S1).bind fun b S2 => (f a b S2).bind fun k S3 => match k with
  | .bl true => (mc ρ S3).bind fun c S4 => g b c S4
  | .bl false => .ok (.bl false) S3
  | _ => .bad
theorem tM_chain {f g : T → T → Sto → R T} {ma mb mc : M T} {σ : L2.St} {Q : VK} (hf : ∀ a b (S : Sto) c fs S', f a b S ≠ .err c fs S') (hf2 : ∀ a b (S : Sto) k S', f a b S = .ok k S' → S' = S) (h : tM mg X.K E (chainM f g ma mb mc) σ H Q) :
    tChain (rF mg X.K E f) (rF mg X.K E g) (tM mg X.K E ma) (tM mg X.K E mb) (tM mg X.K E mc) σ H Q := by
  obtain ⟨ρ, S, μ, π, re, rs, p⟩ := h
  refine ⟨ρ, S, μ, π, re, rs, Post.bind p fun a S1 x H1 μ1 st1 rs1 ra p1 => ?_⟩
  have re1 := re.step rs st1
  refine ⟨ρ, S1, μ1, π, re1, rs1, Post.bind p1 fun b S2 y H2 μ2 st2 rs2 rb p2 => ?_⟩
  have re2 := re1.step rs1 st2
  refine ⟨a, b, S2, μ2, π, rs2, RelT.step rs1 st2 ra, rb, Post.bind p2 fun k S3 z H3 μ3 st3 rs3 rk p3 => ?_⟩
  have rb3 : RelT X.K μ3 π H3 b y := RelT.step rs2 st3 rb
  cases k <;> first | exact p3.elim | skip
  rename_i k
  have rk : RelT X.K μ3 π H3 (.bl k) z := rk
  cases relT_bl rk
  refine ⟨k, rfl, ?_⟩
  cases k with
  | false => exact Post.val p3 rs3 mkBl
  | true =>
    refine ⟨ρ, S3, μ3, π, re2.step rs2 st3, rs3, Post.bind p3 fun c S4 w' H4 μ4 st4 rs4 rc p4 => ?_⟩
    exact ⟨b, c, S4, μ4, π, rs4, RelT.step rs3 st4 rb3, rc, p4⟩
end
end RL
end
section
set_option maxRecDepth 100000
set_option maxHeartbeats 2000000
namespace RL
open PySem PySem.Spec PyProof.Rows L2 TL
open scoped RL.R

/-! ## subscripts and slices -/
def idxT (a b : T) (S : Sto) : R T := match b with
  | .int i => match a with
    | .str x => match atI x.cps.toList i with
      | some c => .ok (.str ⟨#[c]⟩) S
      | none => .bad
    | .tup ts => match atI ts i with
      | some t => .ok t S
      | none => .bad
    | _ => match itemsT a S with
      | some ts => match atI ts i with
        | some t => .ok t S
        | none => .bad
      | none => .bad
  | _ => .bad
section
variable {X : Cx} {mg : Str → Option Value} {K : W.Frag} {E : XK} {π μ : List Addr} {H : Hp} {S : Sto}
theorem at_rel {ts : List T} {xs : List V} {i : Int} {t : T} (r : RelTs K μ π H ts xs) (e : atI ts i = some t) : ∃ v, atI xs i = some v ∧ RelT K μ π H t v := by
  unfold atI at e ⊢
  rw [r.length]
  cases q : ixN ts.length i with
  | none => rw [q] at e; cases e
  | some j =>
    rw [q] at e
    exact r.get e
theorem one_le : (1 : Nat) ≤ sizeLine := by rw [sizeLine_eq]; decide
theorem ix_T : IxR X (rF mg X.K E idxT) := by
  intro value slice pins s σ H x y v u Q I rx ry h hs
  obtain ⟨a, b, S, μ, π, rs, ra, rb, p⟩ := h
  cases b <;> first | exact p.elim | skip
  rename_i i
  cases relT_int rb
  cases a <;> first | exact p.elim | skip
  · rename_i z
    obtain ⟨rfl, hz⟩ := relT_str ra
    unfold idxT at p
    dsimp only at p
    cases e : atI z.cps.toList i with
    | none => rw [e] at p; exact p.elim
    | some c =>
      rw [e] at p
      exact ix_str value slice pins s σ H _ _ v u Q I rx ry ⟨z, i, c, rfl, rfl, hz, e, Post.val p rs (mkStr one_le)⟩ hs
  · rename_i ts
    obtain ⟨l, xs, rfl, q, r⟩ := relT_tup ra
    unfold idxT at p
    dsimp only at p
    cases e : atI ts i with
    | none => rw [e] at p; exact p.elim
    | some t =>
      rw [e] at p
      obtain ⟨w', e', rt⟩ := at_rel r e
      exact ix_tup value slice pins s σ H _ _ v u Q I rx ry ⟨l, xs, i, w', rfl, rfl, q, e', Post.val p rs rt⟩ hs
  · rename_i ts
    obtain ⟨l, xs, rfl, q, r⟩ := relT_lst ra
    unfold idxT itemsT at p
    dsimp only at p
    cases e : atI ts i with
    | none => rw [e] at p; exact p.elim
    | some t =>
      rw [e] at p
      obtain ⟨w', e', rt⟩ := at_rel r e
      exact ix_list value slice pins s σ H _ _ v u Q I rx ry ⟨l, xs, i, w', rfl, rfl, q.sq, e', Post.val p rs rt⟩ hs
  · rename_i n
    unfold idxT at p
    dsimp only at p
    cases e0 : itemsT (.loc n) S with
    | none => rw [e0] at p; exact p.elim
    | some ts =>
      rw [e0] at p
      dsimp only at p
      obtain ⟨l, xs, rfl, q, r⟩ := items_rel rs ra e0
      cases e : atI ts i with
      | none => rw [e] at p; exact p.elim
      | some t =>
        rw [e] at p
        obtain ⟨w', e', rt⟩ := at_rel r e
        exact ix_list value slice pins s σ H _ _ v u Q I rx ry ⟨l, xs, i, w', rfl, rfl, q, e', Post.val p rs rt⟩ hs
theorem e_ix {a b : Expr} {ma mb : M T} {pos : Pos} (ha : PE X a (tM mg X.K E ma)) (hb : PE X b (tM mg X.K E mb)) (hs : PlainIx b) : PE X (.Subscript a b pos) (tM mg X.K E (m2 idxT ma mb)) :=
  PEimp (pe_ix ix_T ha hb hs) fun _ _ _ h => tM_op h
/-! ### slices -/
def cutT (ts : List T) (lo hi : Option Int) : List T := (ts.drop (HT.sIx ts.length 0 lo)).take (HT.sIx ts.length ts.length hi - HT.sIx ts.length 0 lo)
def partM : Option (M T) → M (Option Int)
  | none => fun _ S => .ok none S
  | some m => fun ρ S => (m ρ S).bind fun t S1 => match t with
    | .int i => .ok (some i) S1
    | _ => .bad
def slT (mu : Bool) (a : T) (lo hi : Option Int) (S : Sto) : R T := match a with
  | .str z => .ok (.str (cutS z lo hi)) S
  | .tup ts => .ok (.tup (cutT ts lo hi)) S
  | _ => match itemsT a S with
    | some ts => if mu = true then .ok (.loc S.length) (S ++ [cutT ts lo hi]) else .ok (.lst (cutT ts lo hi)) S
    | none => .bad
def slM (mu : Bool) (ma : M T) (ml mh : M (Option Int)) : M T := fun ρ S => (ma ρ S).bind fun a S1 => (ml ρ S1).bind fun lo S2 => (mh ρ S2).bind fun hi S3 => slT mu a lo hi S3
theorem cut_rel {ts : List T} {xs : List V} (r : RelTs K μ π H ts xs) (lo hi : Option Int) : RelTs K μ π H (cutT ts lo hi) (cutV xs lo hi) := by
  unfold cutT cutV
  rw [r.length]
  exact (r.drop _).take _
def relOI : List Addr → Hp → Option Int → Option Int → Prop := fun _ _ a b => a = b
/-- a part of a slice -/
def tMO (mg : Str → Option Value) (K : W.Frag) (E : XK) (m : M (Option Int)) : TO := fun σ H Q => ∃ ρ S μ π, RelE K μ π H ρ σ ∧ RelS K μ π H S ∧ Post relOI mg K π μ H (m ρ S) Q E
theorem o_none : PO X none (tMO mg K E (partM none)) := ⟨fun pins s σ H Q I h => po_none.run pins s σ H Q I (by
  obtain ⟨ρ, S, μ, π, re, rs, p⟩ := h
  exact p none H μ Stp.refl rs rfl)⟩
theorem o_some {e : Expr} {m : M T} (h : PE X e (tM mg K E m)) : PO X (some e) (tMO mg K E (partM (some m))) := ⟨fun pins s σ H Q I hq => (po_some h).run pins s σ H Q I (by
  obtain ⟨ρ, S, μ, π, re, rs, p⟩ := hq
  refine ⟨ρ, S, μ, π, re, rs, Post.bind (rel' := relOI) p fun t S1 x H1 μ1 st1 rs1 ra p1 => ?_⟩
  cases t <;> first | exact p1.elim | skip
  rename_i i
  have ra : RelT K μ1 π H1 (.int i) x := ra
  exact ⟨i, relT_int ra, p1 (some i) H1 μ1 Stp.refl rs1 rfl⟩)⟩
def rSlF (mg : Str → Option Value) (K : W.Frag) (E : XK) (mu : Bool) : V → Option Int → Option Int → Hp → VK → Prop := fun x lo hi H Q => ∃ a S μ π, RelS K μ π H S ∧ RelT K μ π H a x ∧ Post (relV K π) mg K π μ H (slT mu a lo hi S) Q E
theorem sl_T {mu : Bool} : SlR X (rSlF mg X.K E mu) := by
  intro pins s σ H x v vl vu lo hi sl Q I rx hs pl pu h
  obtain ⟨a, S, μ, π, rs, ra, p⟩ := h
  have lists : ∀ {ts : List T} {l : Addr} {xs : List V}, x = .ref l → SqL X.K H l xs → RelTs X.K μ π H ts xs → Post (relV X.K π) mg X.K π μ H (if mu = true then R.ok (.loc S.length) (S ++ [cutT ts lo hi]) else .ok (.lst (cutT ts lo hi)) S) Q E →
      ∃ T id, typeLookup (.type T) "__getitem__" = pure (some (.builtin id)) ∧ s.TypeIs v T ∧ wpAny (model X.prog X.w) X.A (getItem v (.ref sl)) (EP X pins σ Q) X.xe s := fun {ts l xs} e q r p => by
    subst e
    refine sl_list pins s σ H _ v vl vu lo hi sl Q I rx hs pl pu ⟨l, xs, rfl, q, fun b hb => ?_⟩
    cases mu with
    | true => exact Post.mk p rs (cut_rel r lo hi) hb
    | false => exact Post.lst p rs (cut_rel r lo hi) hb
  cases a <;> first | exact p.elim | skip
  · rename_i z
    obtain ⟨rfl, hz⟩ := relT_str ra
    exact sl_str pins s σ H _ v vl vu lo hi sl Q I rx hs pl pu ⟨z, rfl, hz, Post.val p rs (mkStr (Nat.le_trans (cutS_length z lo hi) hz))⟩
  · rename_i ts
    obtain ⟨l, xs, rfl, q, r⟩ := relT_tup ra
    refine sl_tupA pins s σ H _ v vl vu lo hi sl Q I rx hs pl pu ⟨l, xs, rfl, q, fun e => ?_, fun _ b hb => Post.tup p rs (cut_rel r lo hi) hb⟩
    have ec : cutT ts lo hi = ts := by
      unfold cutT
      rw [← r.length, e.1, e.2]
      simp [r.length]
    have p' : Post (relV X.K π) mg X.K π μ H (R.ok (.tup (cutT ts lo hi)) S) Q E := p
    rw [ec] at p'
    exact Post.val p' rs (mkTup q r)
  · rename_i ts
    obtain ⟨l, xs, rfl, q, r⟩ := relT_lst ra
    exact lists rfl q.sq r p
  · rename_i n
    unfold slT at p
    dsimp only at p
    cases e0 : itemsT (.loc n) S with
    | none => rw [e0] at p; exact p.elim
    | some ts =>
      rw [e0] at p
      obtain ⟨l, xs, rfl, q, r⟩ := items_rel rs ra e0
      exact lists rfl q r p
theorem e_sl {mu : Bool} {a : Expr} {ma : M T} {ml mh : M (Option Int)} {lo hi : Option Expr} {pos p2 : Pos} (ha : PE X a (tM mg X.K E ma)) (hl : PO X lo (tMO mg X.K E ml)) (hh : PO X hi (tMO mg X.K E mh)) :
    PE X (.Subscript a (.Slice lo hi none p2) pos) (tM mg X.K E (slM mu ma ml mh)) := PEimp (pe_slice (sl_T (mu := mu)) ha hl hh) fun σ H Q h => by
  obtain ⟨ρ, S, μ, π, re, rs, p⟩ := h
  refine ⟨ρ, S, μ, π, re, rs, Post.bind (rel' := relV X.K π) p fun a S1 x H1 μ1 st1 rs1 ra p1 => ?_⟩
  have re1 := re.step rs st1
  refine ⟨ρ, S1, μ1, π, re1, rs1, Post.bind (rel' := relV X.K π) p1 fun l S2 l' H2 μ2 st2 rs2 rl p2 => ?_⟩
  have re2 := re1.step rs1 st2
  have rl : l = l' := rl
  subst rl
  refine ⟨ρ, S2, μ2, π, re2, rs2, Post.bind (rel' := relV X.K π) p2 fun u S3 u' H3 μ3 st3 rs3 ru p3 => ?_⟩
  have ru : u = u' := ru
  subst ru
  exact ⟨a, S3, μ3, π, rs3, RelT.step rs2 st3 (RelT.step rs1 st2 ra), p3⟩
end

/-! ## calls of built-in functions and types -/
section
variable {X : Cx} {mg : Str → Option Value} {K : W.Frag} {E : XK} {π μ : List Addr} {H : Hp} {S : Sto} {f : List T → Sto → R T} {ms : M (List T)} {x : Str} {p pos : Pos} {e : Expr} {es : List Expr}
theorem tM_cb {σ : L2.St} {H : Hp} {Q : VK} (h : tM mg K E (m1 f ms) σ H Q) : tCB (rFs mg K E f) (tMA mg K E ms) σ H Q := by
  obtain ⟨ρ, S, μ, π, re, rs, p⟩ := h
  exact ⟨ρ, S, μ, π, re, rs, Post.bind (rel' := relV K π) p fun ts S1 xs H1 μ1 st1 rs1 ra p1 => ⟨ts, S1, μ1, π, rs1, ra, p1⟩⟩
theorem e_callB {id : String} (hc : CallR X (.builtin id) (rFs mg K E f)) (hg : Gl X x) (hm : X.mg x = none) (hv : bootBuiltins x = some (.builtin id)) (ha : PA X (e :: es) (tMA mg K E ms)) (hn : x ≠ "__name__") (hdb : (x == ("__debug__" : Str)) = false)
    (he : starEach (e :: es) X.env = (false, eval e X.env) :: starEach es X.env) (hpl : (backTo pos (starEach es X.env)).any (·.1) = false) : PE X (.Call (.Name x p) (e :: es) [] pos) (tM mg K E (m1 f ms)) :=
  PEimp (pe_callB hc hg hm hv ha hn hdb he hpl) fun _ _ _ h => tM_cb h
theorem e_callTy {id : String} (hc : CallR X (.type id) (rFs mg K E f)) (hg : Gl X x) (hm : X.mg x = none) (hv : bootBuiltins x = some (.type id)) (ha : PA X (e :: es) (tMA mg K E ms)) (hn : x ≠ "__name__") (hdb : (x == ("__debug__" : Str)) = false)
    (he : starEach (e :: es) X.env = (false, eval e X.env) :: starEach es X.env) (hpl : (backTo pos (starEach es X.env)).any (·.1) = false) : PE X (.Call (.Name x p) (e :: es) [] pos) (tM mg K E (m1 f ms)) :=
  PEimp (pe_callTy hc hg hm hv ha hn hdb he hpl) fun _ _ _ h => tM_cb h
theorem relTs1 {t : T} {vs : List V} (h : RelTs K μ π H [t] vs) : ∃ v, vs = [v] ∧ RelT K μ π H t v := by
  obtain ⟨v, r, rfl, h1, h2⟩ := relTs_cons_inv h
  cases relTs_nil_inv h2
  exact ⟨v, rfl, h1⟩
theorem relTs2 {t u : T} {vs : List V} (h : RelTs K μ π H [t, u] vs) : ∃ v w, vs = [v, w] ∧ RelT K μ π H t v ∧ RelT K μ π H u w := by
  obtain ⟨v, r, rfl, h1, h2⟩ := relTs_cons_inv h
  obtain ⟨w, rfl, h3⟩ := relTs1 h2
  exact ⟨v, w, rfl, h1, h3⟩
/-- one argument -/
def f1 (g : T → Sto → R T) : List T → Sto → R T
  | [t], S => g t S
  | _, _ => .bad
theorem r_one {id : Value} {g : T → Sto → R T} (hg : ∀ (pins : List (Addr × Obj)) (s : Shared) (σ : L2.St) (H : Hp) (x : V) (u : Value) (Q : VK) (t : T) (S : Sto) (μ π : List Addr), Inv X pins σ H s → L2.RelV x u → RelS X.K μ π H S → RelT X.K μ π H t x → Post (relV X.K π) mg X.K π μ H (g t S) Q E →
    wpAny (model X.prog X.w) X.A (call id [u]) (EP X pins σ Q) X.xe s) : CallR X id (rFs mg X.K E (f1 g)) := by
  intro pins s σ H xs us Q I r h
  obtain ⟨ts, S, μ, π, rs, ra, p⟩ := h
  match ts, ra, p with
  | [], _, p => exact p.elim
  | _ :: _ :: _, _, p => exact p.elim
  | [t], ra, p =>
    obtain ⟨v, rfl, rt⟩ := relTs1 ra
    obtain ⟨u, rfl, ru⟩ := vals1 r
    exact hg pins s σ H v u Q t S μ π I ru rs rt p
/-- by a rule on values -/
theorem by_rule {id : Value} {r : List V → Hp → VK → Prop} (hc : CallR X id r) {pins : List (Addr × Obj)} {s : Shared} {σ : L2.St} {H : Hp} {x : V} {u : Value} {Q : VK} (I : Inv X pins σ H s) (ru : L2.RelV x u) (h : r [x] H Q) :
    wpAny (model X.prog X.w) X.A (call id [u]) (EP X pins σ Q) X.xe s := hc pins s σ H [x] [u] Q I (.cons ru .nil) h
def lenT (t : T) (S : Sto) : R T := match t with
  | .str x => .ok (.int x.length) S
  | .tup ts => .ok (.int ts.length) S
  | _ => match itemsT t S with
    | some ts => .ok (.int ts.length) S
    | none => .bad
theorem cr_len : CallR X (.builtin "len") (rFs mg X.K E (f1 lenT)) := r_one fun pins s σ H x u Q t S μ π I ru rs rt p => by
  cases t <;> first | exact p.elim | skip
  · obtain ⟨rfl, hz⟩ := relT_str rt
    exact by_rule call_len_str I ru ⟨_, rfl, hz, Post.val p rs mkInt⟩
  · obtain ⟨a, xs, rfl, q, r⟩ := relT_tup rt
    exact by_rule call_len_seq I ru ⟨a, xs, rfl, .inr q, by rw [r.length]; exact Post.val p rs mkInt⟩
  · obtain ⟨a, xs, rfl, q, r⟩ := relT_lst rt
    exact by_rule call_len_seq I ru ⟨a, xs, rfl, .inl q.sq, by rw [r.length]; exact Post.val p rs mkInt⟩
  · rename_i n
    unfold lenT at p
    dsimp only at p
    cases e0 : itemsT (.loc n) S with
    | none => rw [e0] at p; exact p.elim
    | some ts =>
      rw [e0] at p
      obtain ⟨a, xs, rfl, q, r⟩ := items_rel rs rt e0
      exact by_rule call_len_seq I ru ⟨a, xs, rfl, .inl q, by rw [r.length]; exact Post.val p rs mkInt⟩
/-- all, any: items that are bools -/
def boolsOf : List T → Option (List Bool)
  | [] => some []
  | .bl b :: ts => (boolsOf ts).map (b :: ·)
  | _ => none
theorem bools_rel : ∀ {ts : List T} {xs : List V} {bs : List Bool}, RelTs K μ π H ts xs → boolsOf ts = some bs → xs = bs.map V.bl
  | [], _, _, r, e => by cases relTs_nil_inv r; cases e; rfl
  | t :: ts, _, _, r, e => by
    obtain ⟨v, vs, rfl, r1, r2⟩ := relTs_cons_inv r
    cases t <;> first | (cases e; done) | skip
    cases relT_bl r1
    unfold boolsOf at e
    cases h : boolsOf ts with
    | none => rw [h] at e; cases e
    | some bs => rw [h] at e; cases e; rw [bools_rel r2 h]; rfl
def allT (t : T) (S : Sto) : R T := match itemsT t S with
  | some ts => match boolsOf ts with
    | some bs => .ok (.bl (bs.all id)) S
    | none => .bad
  | none => .bad
def anyT (t : T) (S : Sto) : R T := match itemsT t S with
  | some ts => match boolsOf ts with
    | some bs => .ok (.bl (bs.any id)) S
    | none => .bad
  | none => .bad
theorem cr_allT (hc : X.calm = true) : CallR X (.builtin "all") (rFs mg X.K E (f1 allT)) := r_one fun pins s σ H x u Q t S μ π I ru rs rt p => by
  unfold allT at p
  cases e0 : itemsT t S with
  | none => rw [e0] at p; exact p.elim
  | some ts =>
    rw [e0] at p
    dsimp only at p
    obtain ⟨a, xs, rfl, q, r⟩ := items_rel rs rt e0
    cases e : boolsOf ts with
    | none => rw [e] at p; exact p.elim
    | some bs =>
      rw [e] at p
      exact by_rule (cr_all hc) I ru ⟨a, bs, rfl, by rw [← bools_rel r e]; exact q, Post.val p rs mkBl⟩
theorem cr_anyT (hc : X.calm = true) : CallR X (.builtin "any") (rFs mg X.K E (f1 anyT)) := r_one fun pins s σ H x u Q t S μ π I ru rs rt p => by
  unfold anyT at p
  cases e0 : itemsT t S with
  | none => rw [e0] at p; exact p.elim
  | some ts =>
    rw [e0] at p
    dsimp only at p
    obtain ⟨a, xs, rfl, q, r⟩ := items_rel rs rt e0
    cases e : boolsOf ts with
    | none => rw [e] at p; exact p.elim
    | some bs =>
      rw [e] at p
      exact by_rule (cr_any hc) I ru ⟨a, bs, rfl, by rw [← bools_rel r e]; exact q, Post.val p rs mkBl⟩
def intsOf : List T → Option (List Int)
  | [] => some []
  | .int b :: ts => (intsOf ts).map (b :: ·)
  | _ => none
theorem ints_rel : ∀ {ts : List T} {xs : List V} {bs : List Int}, RelTs K μ π H ts xs → intsOf ts = some bs → xs = bs.map V.int
  | [], _, _, r, e => by cases relTs_nil_inv r; cases e; rfl
  | t :: ts, _, _, r, e => by
    obtain ⟨v, vs, rfl, r1, r2⟩ := relTs_cons_inv r
    cases t <;> first | (cases e; done) | skip
    cases relT_int r1
    unfold intsOf at e
    cases h : intsOf ts with
    | none => rw [h] at e; cases e
    | some bs => rw [h] at e; cases e; rw [ints_rel r2 h]; rfl
def strsOf : List T → Option (List Str)
  | [] => some []
  | .str b :: ts => (strsOf ts).map (b :: ·)
  | _ => none
theorem strs_rel : ∀ {ts : List T} {xs : List V} {bs : List Str}, RelTs K μ π H ts xs → strsOf ts = some bs → xs = bs.map V.str ∧ ∀ b ∈ bs, b.length ≤ sizeLine
  | [], _, _, r, e => by cases relTs_nil_inv r; cases e; exact ⟨rfl, fun _ h => absurd h (by simp)⟩
  | t :: ts, _, _, r, e => by
    obtain ⟨v, vs, rfl, r1, r2⟩ := relTs_cons_inv r
    cases t <;> first | (cases e; done) | skip
    obtain ⟨rfl, hz⟩ := relT_str r1
    unfold strsOf at e
    cases h : strsOf ts with
    | none => rw [h] at e; cases e
    | some bs =>
      rw [h] at e; cases e
      obtain ⟨h1, h2⟩ := strs_rel r2 h
      refine ⟨by rw [h1]; rfl, fun b hb => ?_⟩
      rcases List.mem_cons.mp hb with e | hb
      · rw [e]; exact hz
      · exact h2 b hb
def sumT (t : T) (S : Sto) : R T := match itemsT t S with
  | some ts => match intsOf ts with
    | some ns => .ok (.int ns.sum) S
    | none => .bad
  | none => .bad
theorem cr_sumT (hc : X.calm = true) : CallR X (.builtin "sum") (rFs mg X.K E (f1 sumT)) := r_one fun pins s σ H x u Q t S μ π I ru rs rt p => by
  unfold sumT at p
  cases e0 : itemsT t S with
  | none => rw [e0] at p; exact p.elim
  | some ts =>
    rw [e0] at p
    dsimp only at p
    obtain ⟨a, xs, rfl, q, r⟩ := items_rel rs rt e0
    cases e : intsOf ts with
    | none => rw [e] at p; exact p.elim
    | some bs =>
      rw [e] at p
      exact by_rule (cr_sum hc) I ru ⟨a, bs, rfl, by rw [← ints_rel r e]; exact q, Post.val p rs mkInt⟩
def absT (t : T) (S : Sto) : R T := match t with
  | .int i => .ok (.int (if i < 0 then -i else i)) S
  | _ => .bad
theorem cr_abs : CallR X (.builtin "abs") (rFs mg X.K E (f1 absT)) := r_one fun pins s σ H x u Q t S μ π I ru rs rt p => by
  cases t <;> first | exact p.elim | skip
  cases relT_int rt
  exact by_rule call_abs I ru ⟨_, rfl, Post.val p rs mkInt⟩
def intF (t : T) (S : Sto) : R T := match t with
  | .int i => .ok (.int i) S
  | .bl k => .ok (.int (if k then 1 else 0)) S
  | .str a => match intText? a with
    | some n => gd (a.length ≤ 640) (.ok (.int n) S)
    | none => .bad
  | _ => .bad
theorem cr_int : CallR X (.type "int") (rFs mg X.K E (f1 intF)) := r_one fun pins s σ H x u Q t S μ π I ru rs rt p => by
  cases t <;> first | exact p.elim | skip
  · cases relT_bl rt
    exact by_rule call_int1 I ru (.inr ⟨_, rfl, Post.val p rs mkInt⟩)
  · cases relT_int rt
    exact by_rule call_int1 I ru (.inl ⟨_, rfl, Post.val p rs mkInt⟩)
  · obtain ⟨rfl, hz⟩ := relT_str rt
    unfold intF at p
    dsimp only at p
    split at p
    · rename_i n e
      obtain ⟨c, p⟩ := Post.gd p
      exact by_rule call_int_str I ru ⟨_, n, rfl, e, c, Post.val p rs mkInt⟩
    · exact p.elim
def strF (t : T) (S : Sto) : R T := match t with
  | .int i => gd (i.natAbs.log2 < 1920 ∧ (toString i : Str).length ≤ sizeLine) (.ok (.str (toString i : Str)) S)
  | _ => .bad
theorem cr_str : CallR X (.type "str") (rFs mg X.K E (f1 strF)) := r_one fun pins s σ H x u Q t S μ π I ru rs rt p => by
  cases t <;> first | exact p.elim | skip
  cases relT_int rt
  obtain ⟨⟨c1, c2⟩, p⟩ := Post.gd p
  exact by_rule call_str_int I ru ⟨_, rfl, c1, Post.val p rs (mkStr c2)⟩
/-! ### list, tuple, sorted -/
def chs (x : Str) : List T := x.cps.toList.map fun c => .str ⟨#[c]⟩
def seqOf (t : T) (S : Sto) : Option (List T) := match t with
  | .tup ts => some ts
  | .str x => some (chs x)
  | _ => itemsT t S
def listT (mu : Bool) (t : T) (S : Sto) : R T := match seqOf t S with
  | some ts => if mu = true then .ok (.loc S.length) (S ++ [ts]) else .ok (.lst ts) S
  | none => .bad
theorem new_post {mu : Bool} {ts : List T} {xs : List V} {Q : VK} (p : Post (relV K π) mg K π μ H (if mu = true then R.ok (.loc S.length) (S ++ [ts]) else .ok (.lst ts) S) Q E) (rs : RelS K μ π H S) (r : RelTs K μ π H ts xs) {q : Addr} (hq : H q = none) : Q (.ref q) (upd H q (.lst xs)) := by
  cases mu with
  | true => exact Post.mk p rs r hq
  | false => exact Post.lst p rs r hq
theorem chs_rel (x : Str) : RelTs K μ π H (chs x) (x.cps.toList.map fun c => V.str ⟨#[c]⟩) := by
  unfold chs
  induction x.cps.toList with
  | nil => exact relTs_nil
  | cons c l ih => exact relTs_cons (mkStr one_le) ih
theorem signs_vals {x : Str} {acc : Array Value} (h : ItemsOf (SignAt x) acc x.cps.size) : Vals (x.cps.toList.map fun c => V.str ⟨#[c]⟩) acc.toList := by
  have key : ∀ (l : List Nat) (us : List Value), us.length = l.length → (∀ (j : Nat) (c : Nat) (u : Value), l[j]? = some c → us[j]? = some u → L2.RelV (.str ⟨#[c]⟩) u) → Vals (l.map fun c => V.str ⟨#[c]⟩) us := by
    intro l
    induction l with
    | nil => intro us h _; cases us with
      | nil => exact .nil
      | cons _ _ => simp at h
    | cons c l ih =>
      intro us h hq
      cases us with
      | nil => simp at h
      | cons u us => exact .cons (hq 0 c u rfl rfl) (ih us (by simpa using h) fun j c' u' e1 e2 => hq (j + 1) c' u' (by simpa using e1) (by simpa using e2))
  refine key _ _ (by rw [Array.length_toList, h.1, Array.length_toList]) fun j c u e1 e2 => ?_
  obtain ⟨c', t, e3, rfl⟩ := h.2 j u (by rw [← Array.getElem?_toList]; exact e2)
  rw [← Array.getElem?_toList, e1] at e3
  cases e3
  exact ⟨t, rfl⟩
theorem cr_list {mu : Bool} (hc : X.calm = true) : CallR X (.type "list") (rFs mg X.K E (f1 (listT mu))) := r_one fun pins s σ H x u Q t S μ π I ru rs rt p => by
  unfold listT at p
  cases e0 : seqOf t S with
  | none => rw [e0] at p; exact p.elim
  | some ts =>
    rw [e0] at p
    dsimp only at p
    cases t <;> first | (cases e0; done) | skip
    · cases e0
      obtain ⟨rfl, hz⟩ := relT_str rt
      obtain ⟨tk, rfl⟩ := ru
      rename_i z
      refine call_list_str (I.ok.hd hc) z tk (hn := hz) fun h' tk' acc c' k hS ha => ?_
      have hp := I.hok.fresh (Nat.le_refl _)
      refine ⟨.ref s.heap.objs.size, _, I.laid (t' := tk') k (Nat.le_refl _) (o := .lst (z.cps.toList.map fun c => V.str ⟨#[c]⟩)) ⟨by rw [List.length_map]; exact hz, acc.toList, c', signs_vals ha, by simpa using hS⟩, rfl, new_post p rs (chs_rel z) hp⟩
    · cases e0
      obtain ⟨a, xs, rfl, q, r⟩ := relT_tup rt
      exact by_rule call_list_of I ru ⟨a, xs, rfl, .inr q, fun l hl => new_post p rs r hl⟩
    · obtain ⟨a, xs, rfl, q, r⟩ := items_rel rs rt e0
      exact by_rule call_list_of I ru ⟨a, xs, rfl, .inl q, fun l hl => new_post p rs r hl⟩
    · obtain ⟨a, xs, rfl, q, r⟩ := items_rel rs rt e0
      exact by_rule call_list_of I ru ⟨a, xs, rfl, .inl q, fun l hl => new_post p rs r hl⟩
def tupleT (t : T) (S : Sto) : R T := match t with
  | .tup ts => .ok (.tup ts) S
  | _ => match itemsT t S with
    | some ts => .ok (.tup ts) S
    | none => .bad
theorem cr_tuple : CallR X (.type "tuple") (rFs mg X.K E (f1 tupleT)) := r_one fun pins s σ H x u Q t S μ π I ru rs rt p => by
  cases t <;> first | exact p.elim | skip
  · obtain ⟨a, xs, rfl, q, r⟩ := relT_tup rt
    exact by_rule call_tuple_of I ru ⟨a, xs, rfl, .inr ⟨q, Post.val p rs (mkTup q r)⟩⟩
  · obtain ⟨a, xs, rfl, q, r⟩ := relT_lst rt
    exact by_rule call_tuple_of I ru ⟨a, xs, rfl, .inl ⟨q.sq, fun l hl => Post.tup p rs r hl⟩⟩
  · rename_i n
    unfold tupleT at p
    dsimp only at p
    cases e0 : itemsT (.loc n) S with
    | none => rw [e0] at p; exact p.elim
    | some ts =>
      rw [e0] at p
      obtain ⟨a, xs, rfl, q, r⟩ := items_rel rs rt e0
      exact by_rule call_tuple_of I ru ⟨a, xs, rfl, .inl ⟨q, fun l hl => Post.tup p rs r hl⟩⟩
/-- texts sorted -/
def leS (a b : Str) : Bool := !decide (b.cps.toList < a.cps.toList)
def sortS (l : List Str) : List Str := l.mergeSort leS
theorem leS_trans (a b c : Str) (h1 : leS a b = true) (h2 : leS b c = true) : leS a c = true := by
  unfold leS at *
  simp only [Bool.not_eq_true', decide_eq_false_iff_not, List.not_lt] at *
  exact List.le_trans h1 h2
theorem leS_total (a b : Str) : (leS a b || leS b a) = true := by
  unfold leS
  simp only [Bool.or_eq_true, Bool.not_eq_true', decide_eq_false_iff_not, List.not_lt]
  exact List.le_total _ _
theorem leS_anti {a b : Str} (h1 : leS a b = true) (h2 : leS b a = true) : a = b := by
  unfold leS at *
  simp only [Bool.not_eq_true', decide_eq_false_iff_not, List.not_lt] at *
  exact ext_tl (List.le_antisymm h1 h2)
theorem rising_pair : ∀ (l : List Str) (p : Str), risingS p l = true → (p :: l).Pairwise (fun a b => leS a b = true)
  | [], p, _ => by simp
  | x :: r, p, h => by
    unfold risingS at h
    rw [Bool.and_eq_true] at h
    have ih := rising_pair r x h.2
    have hpx : leS p x = true := by
      have := h.1
      rw [ltCps_eq] at this
      exact this
    refine List.pairwise_cons.mpr ⟨fun y hy => ?_, ih⟩
    rcases List.mem_cons.mp hy with e | hy
    · rw [e]; exact hpx
    · exact leS_trans _ _ _ hpx ((List.pairwise_cons.mp ih).1 y hy)
theorem sortS_unique {ys l : List Str} (hp : ys.Perm l) (hs : sortedS ys = true) : ys = sortS l := by
  have h1 : ys.Pairwise (fun a b => leS a b = true) := by
    cases ys with
    | nil => simp
    | cons y r => exact rising_pair r y hs
  exact List.Perm.eq_of_pairwise (le := fun a b => leS a b = true) (fun a b _ _ => leS_anti) h1 (List.pairwise_mergeSort leS_trans leS_total l) (hp.trans (List.mergeSort_perm l leS).symm)
def seqS (t : T) (S : Sto) : Option (List T) := match t with
  | .str x => some (chs x)
  | _ => itemsT t S
def sortedT (mu : Bool) (t : T) (S : Sto) : R T := match seqS t S with
  | some ts => match strsOf ts with
    | some ss => gd (ss.length < 64) (if mu = true then .ok (.loc S.length) (S ++ [(sortS ss).map T.str]) else .ok (.lst ((sortS ss).map T.str)) S)
    | none => .bad
  | none => .bad
theorem strs_relT : ∀ {ss : List Str}, (∀ b ∈ ss, b.length ≤ sizeLine) → RelTs K μ π H (ss.map T.str) (ss.map V.str)
  | [], _ => relTs_nil
  | s :: ss, h => relTs_cons (mkStr (h s (by simp))) (strs_relT fun b hb => h b (by simp [hb]))
theorem strsOf_chs (x : Str) : strsOf (chs x) = some (x.cps.toList.map fun c => (⟨#[c]⟩ : Str)) := by
  unfold chs
  induction x.cps.toList with
  | nil => rfl
  | cons c l ih =>
    simp only [List.map_cons, strsOf, ih, Option.map_some]
theorem sorted_str_run {prog : Program} {w : World} {A : Around} {E : Value → Shared → Prop} {s : Shared} {Q : Value → Shared → Prop} (hh : A.handled = none) (x : Str) (t : Tok) (h64 : x.length < 64)
    (h : ∀ (h1 h' : Heap) (tk : Nat) (out : Array Value) (e : Nat) (ss' : List Str), (∀ b o, s.heap.get? b = some o → h1.get? b = some o) → (∀ b o, h1.get? b = some o → h'.get? b = some o) → h'.get? h1.objs.size = some (seqObj "list" out e) → StrsAre out.toList ss' →
      ss'.Perm (x.cps.toList.map fun c => (⟨#[c]⟩ : Str)) → sortedS ss' = true → Q (.ref h1.objs.size) { s with heap := h', toks := tk }) :
    wpAny (model prog w) A (call (.builtin "sorted") [.str x t]) Q E s := by
  refine Calls.call_function_entry kind_sorted plain_sorted entry_sorted (args_sorted1 _) ?_
  unfold Builtin.«sorted»
  refine wpAny_bind (m := checkCount "sorted" 1 1 _) (wpAny_pure ?_)
  have hz : x.cps.size ≤ sizeLine := by
    have : x.cps.size < 64 := h64
    rw [sizeLine_eq]; omega
  have hh1 : A.in1.handled = none := hh
  refine wpAny_bind (wpAny_collect_str hh1 x t (hn := hz) fun s1 acc k hg hd ho ha => ?_)
  have hsz := ha.1
  refine wpAny_bind (wpAny_newList ?_ (by rw [Array.length_toList, hsz]; exact hz))
  obtain ⟨hp1, g1, d1, t1, os1⟩ := s1
  have ho' : os1 = s.os := ho
  have hg' : g1 = s.gens := hg
  have hd' : d1 = s.drawn := hd
  subst ho'
  subst hg'
  subst hd'
  have hoL : (hp1.push { cls := .type "list", data := .seq acc.toList.toArray }).get? hp1.objs.size = some (seqObj "list" acc.toList.toArray 0) := Heap.get?_push_size _ rfl
  have hS : StrsAre acc.toList (x.cps.toList.map fun c => (⟨#[c]⟩ : Str)) := by
    have := signs_vals ha
    have e : (x.cps.toList.map fun c => V.str ⟨#[c]⟩) = (x.cps.toList.map fun c => (⟨#[c]⟩ : Str)).map V.str := by rw [List.map_map]; rfl
    rw [e] at this
    exact this.strs
  refine wpAny_bind (wpAny_holding (wpAny_call_entry (s := ⟨hp1.push { cls := .type "list", data := .seq acc.toList.toArray }, s.gens, s.drawn, t1, s.os⟩) slot_list_sort ⟨_, hoL, rfl⟩ entry_list_sort (list_sort_treeK strKind_oneLt hoL hS.keysOf (fun v₁ v₂ rest e => keyKind_strs (by rw [← e]; exact hS)) (by rw [Array.length_toList, hsz]; exact h64) fun st' a1 a2 => ⟨_, rfl, ?_⟩) (args_list_sort _)))
  obtain ⟨ss', h1, h2, h3⟩ := sorted_out_str hS a1 a2
  obtain ⟨e, he⟩ := sortedHeap_at (vs := acc.toList) (out := (arrOf st').map (·.2)) hoL
  refine wpAny_pure ⟨_, rfl, h hp1 _ _ ((arrOf st').map (·.2)) e ss' k (fun b o q1 => ?_) he h1 h2 h3⟩
  show (sortedHeap _ _ _ _).get? b = some o
  rw [sortedHeap_old (Nat.ne_of_lt (Heap.lt_size q1)) (by rw [Heap.size_push]; exact Nat.lt_succ_of_lt (Heap.lt_size q1))]
  exact Heap.get?_push_of_some _ q1
theorem cr_sortedT {mu : Bool} (hc : X.calm = true) : CallR X (.builtin "sorted") (rFs mg X.K E (f1 (sortedT mu))) := r_one fun pins s σ H x u Q t S μ π I ru rs rt p => by
  unfold sortedT at p
  cases e0 : seqS t S with
  | none => rw [e0] at p; exact p.elim
  | some ts =>
    rw [e0] at p
    dsimp only at p
    cases e1 : strsOf ts with
    | none => rw [e1] at p; exact p.elim
    | some ss =>
      rw [e1] at p
      obtain ⟨c, p⟩ := Post.gd p
      have lists : ∀ {l : Addr} {xs : List V}, x = .ref l → SqL X.K H l xs → RelTs X.K μ π H ts xs → wpAny (model X.prog X.w) X.A (call (.builtin "sorted") [u]) (EP X pins σ Q) X.xe s := fun {l xs} e q r => by
        subst e
        obtain ⟨h1, h2⟩ := strs_rel r e1
        refine by_rule cr_sortedS I ru ⟨l, ss, rfl, by rw [← h1]; exact q, c, fun ys b hp hso hb => ?_⟩
        have e := sortS_unique hp hso
        subst e
        exact new_post p rs (strs_relT fun b hb' => h2 b ((List.mergeSort_perm ss leS).mem_iff.mp hb')) hb
      cases t <;> first | (cases e0; done) | skip
      · cases e0
        obtain ⟨rfl, hz⟩ := relT_str rt
        obtain ⟨tk, rfl⟩ := ru
        rename_i z
        have ess : ss = z.cps.toList.map fun c => (⟨#[c]⟩ : Str) := by
          rw [strsOf_chs] at e1
          exact (Option.some.inj e1).symm
        refine sorted_str_run (I.ok.hd hc) z tk (by rw [ess, List.length_map, Array.length_toList] at c; exact c) fun h1 h' tk' out e ss' k1 k2 hL hS hp hso => ?_
        have I1 : Inv X pins σ H { s with heap := h1 } := I.kept (t' := s.toks) k1
        have hn := I1.hok.fresh (Nat.le_refl _)
        have eu := sortS_unique hp hso
        rw [← ess] at eu
        subst eu
        have hlen : (sortS ss).length = ss.length := (List.mergeSort_perm ss leS).length_eq
        refine ⟨.ref h1.objs.size, _, I1.laid (t' := tk') (o := .lst ((sortS ss).map V.str)) k2 (Nat.le_refl _) ⟨by rw [List.length_map, hlen, sizeLine_eq]; omega, out.toList, e, vals_of_strs hS, by simpa using hL⟩, rfl, new_post p rs (strs_relT fun b hb => ?_) hn⟩
        have := (List.mergeSort_perm ss leS).mem_iff.mp hb
        rw [ess] at this
        obtain ⟨c', _, rfl⟩ := List.mem_map.mp this
        exact one_le
      · obtain ⟨a, xs, rfl, q, r⟩ := items_rel rs rt e0
        exact lists rfl q r
      · obtain ⟨a, xs, rfl, q, r⟩ := items_rel rs rt e0
        exact lists rfl q r
end
end RL
end
section
set_option maxRecDepth 100000
set_option maxHeartbeats 2000000
namespace RL
open PySem PySem.Spec PyProof.Rows L2 TL
open scoped RL.R

/-! ## isinstance of the built-in kinds -/
def kindT : T → Option String
  | .non => some "NoneType"
  | .bl _ => some "bool"
  | .int _ => some "int"
  | .str _ => some "str"
  | .tup _ => some "tuple"
  | .lst _ => some "list"
  | .loc _ => some "list"
  | _ => none
def kindsK : List String := ["int", "str", "bool", "tuple", "list", "dict"]
def isK (a n : String) : Bool := a == n || (a == "bool" && n == "int")
def tysOf : List T → Option (List String)
  | [] => some []
  | .ty n :: ts => (tysOf ts).map (n :: ·)
  | _ => none
def clsOf : T → Option (List String)
  | .ty n => some [n]
  | .tup ts => tysOf ts
  | _ => none
def isiT (t c : T) (S : Sto) : R T := match kindT t with
  | some a => match clsOf c with
    | some ns => gd ((ns.all fun n => kindsK.contains n) = true) (.ok (.bl (ns.any (isK a))) S)
    | none => .bad
  | none => .bad
def f2 (g : T → T → Sto → R T) : List T → Sto → R T
  | [t, u], S => g t u S
  | _, _ => .bad
section
variable {X : Cx} {mg : Str → Option Value} {K : W.Frag} {E : XK} {π μ : List Addr} {H : Hp} {S : Sto}
theorem kit_K {a n : String} (ha : a ∈ ["NoneType", "bool", "int", "str", "tuple", "list"]) (hn : n ∈ kindsK) : kitB a n = some (isK a n) := by
  have h : (["NoneType", "bool", "int", "str", "tuple", "list"].all fun a => kindsK.all fun n => kitB a n == some (isK a n)) = true := by decide +kernel
  rw [List.all_eq_true] at h
  have h2 := h a ha
  rw [List.all_eq_true] at h2
  exact beq_iff_eq.mp (h2 n hn)
theorem kind_in {t : T} {a : String} (e : kindT t = some a) : a ∈ ["NoneType", "bool", "int", "str", "tuple", "list"] := by
  cases t <;> first | (cases e; simp; done) | (cases e; done)
theorem kind_ty {t : T} {v : V} {a : String} (hs : RelS K μ π H S) (r : RelT K μ π H t v) (e : kindT t = some a) : TyX K H v (.type a) := by
  cases t <;> first | (cases e; done) | skip
  · cases e; cases relT_non r; exact .base .non
  · cases e; cases relT_bl r; exact .base (.bl _)
  · cases e; cases relT_int r; exact .base (.int _)
  · cases e; obtain ⟨rfl, _⟩ := relT_str r; exact .base (.str _)
  · cases e
    obtain ⟨l, xs, rfl, q, _⟩ := relT_tup r
    rcases q with (q | ⟨o, q⟩) | ⟨o, its, n, hk, hc, _⟩
    · exact .base (.tup q)
    · exact .fTuple q
    · exact .kTuple hk hc
  · cases e
    obtain ⟨l, xs, rfl, q, _⟩ := relT_lst r
    rcases q with ⟨q | ⟨o, q⟩, _⟩ | ⟨o, its, n, hk, hc, _⟩
    · exact .base (.lst q)
    · exact .base (.frz q)
    · exact .kList hk hc
  · cases e
    obtain ⟨l, rfl, q⟩ := relT_loc r
    rename_i n
    have hn : n < S.length := by rw [hs.len]; exact (List.getElem?_eq_some_iff.mp q).1
    obtain ⟨b, xs, h1, h2, _⟩ := hs.at_ n S[n] (List.getElem?_eq_getElem hn)
    rw [q] at h1; cases h1
    exact .base (.lst h2)
theorem relT_ty {n : String} {v : V} (h : RelT K μ π H (.ty n) v) : v = .ty n := by unfold RelT at h; exact h
theorem tys_rel : ∀ {ts : List T} {xs : List V} {ns : List String}, RelTs K μ π H ts xs → tysOf ts = some ns → xs = ns.map V.ty
  | [], _, _, r, e => by cases relTs_nil_inv r; cases e; rfl
  | t :: ts, _, _, r, e => by
    obtain ⟨v, vs, rfl, r1, r2⟩ := relTs_cons_inv r
    cases t <;> first | (cases e; done) | skip
    cases relT_ty r1
    unfold tysOf at e
    cases h : tysOf ts with
    | none => rw [h] at e; cases e
    | some bs => rw [h] at e; cases e; rw [tys_rel r2 h]; rfl
theorem clsv_all : ∀ ns : List String, Paired ClsV (ns.map V.ty) (ns.map Value.type)
  | [] => .nil
  | n :: ns => .cons (.ty n) (clsv_all ns)
theorem any_kit {a : String} (ha : a ∈ ["NoneType", "bool", "int", "str", "tuple", "list"]) : ∀ {ns : List String}, (ns.all fun n => kindsK.contains n) = true → W.kitAny K (.type a) (ns.map Value.type) = some (ns.any (isK a))
  | [], _ => rfl
  | n :: ns, h => by
    rw [List.all_cons, Bool.and_eq_true] at h
    have hn : n ∈ kindsK := by simpa using h.1
    refine kitAny_cons (b := isK a n) (kit_ty (kit_K ha hn)) (fun e => ?_) (fun e => by rw [List.any_cons, e]; rfl)
    rw [any_kit ha h.2, List.any_cons, e]; rfl
theorem cr_isi : CallR X (.builtin "isinstance") (rFs mg X.K E (f2 isiT)) := by
  intro pins s σ H xs us Q I r h
  obtain ⟨ts, S, μ, π, rs, ra, p⟩ := h
  match ts, ra, p with
  | [], _, p => exact p.elim
  | [_], _, p => exact p.elim
  | _ :: _ :: _ :: _, _, p => exact p.elim
  | [t, c], ra, p =>
    obtain ⟨v, w', rfl, rt, rc⟩ := relTs2 ra
    have p : Post (relV X.K π) mg X.K π μ H (isiT t c S) Q E := p
    unfold isiT at p
    cases e : kindT t with
    | none => rw [e] at p; exact p.elim
    | some a =>
      rw [e] at p
      dsimp only at p
      have ty := kind_ty rs rt e
      have ha := kind_in e
      cases ec : clsOf c with
      | none => rw [ec] at p; exact p.elim
      | some ns =>
        rw [ec] at p
        obtain ⟨hn, pp⟩ := Post.gd p
        clear p
        cases c with
        | ty m =>
          cases ec
          cases relT_ty rc
          have hn' : m ∈ kindsK := by simpa using hn
          have e1 : ([m].any (isK a)) = isK a m := by simp
          rw [e1] at pp
          exact call_isi pins s σ H _ us Q I r ⟨v, .ty m, _, _, _, rfl, .ty m, ty, kit_ty (kit_K ha hn'), Post.val pp rs mkBl⟩
        | tup cs =>
          obtain ⟨l, ys, rfl, q, r2⟩ := relT_tup rc
          have ey := tys_rel r2 ec
          subst ey
          obtain ⟨u1, u2, rfl, r3, r4⟩ := vals2 r
          cases r4
          obtain ⟨P, Z, hp, hx⟩ := kit_of I r3 ty
          obtain ⟨its, rv, ⟨⟨oc, od, dt, sl⟩, h1, h2, n, h3⟩, _⟩ := I.tuple q
          simp only at h2 h3
          subst h2 h3
          have ei := ClsV.all (clsv_all ns) rv
          subst ei
          exact W.kia_tup Z I.kIn hp h1 (any_kit ha hn) hx fun tk => ⟨.bl _, H, I.tok tk, rfl, Post.val pp rs mkBl⟩
        | _ => cases ec
end
end RL
end
section
set_option maxRecDepth 100000
set_option maxHeartbeats 2000000
namespace RL
open PySem PySem.Spec PyProof.Rows L2 TL
open scoped RL.R

/-! ## methods of texts and lists -/
def rFm (mg : Str → Option Value) (K : W.Frag) (E : XK) (f : T → List T → Sto → R T) : V → List V → Hp → VK → Prop := fun x xs H Q => ∃ o as S μ π, RelS K μ π H S ∧ RelT K μ π H o x ∧ RelTs K μ π H as xs ∧ Post (relV K π) mg K π μ H (f o as S) Q E
def isRecv (ty : String) : T → Bool
  | .str _ => ty == "str"
  | .lst _ => ty == "list"
  | .loc _ => ty == "list"
  | _ => false
def bmM (ty : String) (f : T → List T → Sto → R T) (mo : M T) (ms : M (List T)) : M T := fun ρ S => (mo ρ S).bind fun o S1 => gd (isRecv ty o = true) ((ms ρ S1).bind fun as S2 => f o as S2)
section
variable {X : Cx} {mg : Str → Option Value} {K : W.Frag} {E : XK} {π μ : List Addr} {H : Hp} {S : Sto}
theorem recv_ty {ty : String} {o : T} {x : V} (hs : RelS K μ π H S) (r : RelT K μ π H o x) (h : isRecv ty o = true) : tyV K ty x H := by
  cases o <;> first | (cases h; done) | skip
  · obtain ⟨rfl, _⟩ := relT_str r
    exact beq_iff_eq.mp h
  · obtain ⟨a, xs, rfl, q, _⟩ := relT_lst r
    exact .inl ⟨beq_iff_eq.mp h, xs, q.sq⟩
  · obtain ⟨a, rfl, q⟩ := relT_loc r
    rename_i n
    have hn : n < S.length := by rw [hs.len]; exact (List.getElem?_eq_some_iff.mp q).1
    obtain ⟨b, xs, h1, h2, _⟩ := hs.at_ n S[n] (List.getElem?_eq_getElem hn)
    rw [q] at h1; cases h1
    exact .inl ⟨beq_iff_eq.mp h, xs, .of h2⟩
variable {T' id : String} {f : T → List T → Sto → R T} {o e : Expr} {es : List Expr} {mo : M T} {ms : M (List T)} {name : Str} {apos cpos : Pos}
theorem e_bm (pa : PlainAttrs T') (slot : Slot T' name id) (hty : typeOf (.builtin id) = pure (.type "method_descriptor")) (hm : MtR X id (rFm mg X.K E f)) (ho : PE X o (tM mg X.K E mo)) (ha : PA X (e :: es) (tMA mg X.K E ms))
    (hbase : attributeBase o name X.env (eval o X.env) = eval o X.env)
    (hfew : ((backTo cpos (starEach (e :: es) X.env)).all (fun x => !x.1) && (backToKw cpos (keywordEach [] X.env)).all (fun x => x.1.isSome)
      && decide ((e :: es).length + ([] : List Keyword).length + (if ([] : List Keyword).isEmpty then 0 else 1) < 30)) = true)
    (hline : (apos.endLine == cpos.line) = true) (hs : starEach (e :: es) X.env = (false, eval e X.env) :: starEach es X.env) (hplain : (backTo cpos (starEach es X.env)).any (·.1) = false) :
    PE X (.Call (.Attribute o name apos) (e :: es) [] cpos) (tM mg X.K E (bmM T' f mo ms)) :=
  PEimp (pe_bm pa slot hty hm ho ha hbase hfew hline hs hplain) fun σ H Q h => by
    obtain ⟨ρ, S, μ, π, re, rs, p⟩ := h
    refine ⟨ρ, S, μ, π, re, rs, Post.bind (rel' := relV X.K π) p fun t S1 x H1 μ1 st1 rs1 ra p1 => ?_⟩
    obtain ⟨c, p1⟩ := Post.gd p1
    refine ⟨recv_ty rs1 ra c, ρ, S1, μ1, π, re.step rs st1, rs1, Post.bind (rel' := relV X.K π) p1 fun ts S2 xs H2 μ2 st2 rs2 rb p2 => ?_⟩
    exact ⟨t, ts, S2, μ2, π, rs2, RelT.step rs1 st2 ra, rb, p2⟩
theorem e_bm0 (pa : PlainAttrs T') (slot : Slot T' name id) (hty : typeOf (.builtin id) = pure (.type "method_descriptor")) (hm : MtR X id (rFm mg X.K E f)) (ho : PE X o (tM mg X.K E mo))
    (hbase : attributeBase o name X.env (eval o X.env) = eval o X.env) (hline : (apos.endLine == cpos.line) = true) : PE X (.Call (.Attribute o name apos) [] [] cpos) (tM mg X.K E (bmM T' f mo nilM)) :=
  PEimp (pe_bm0 pa slot hty hm ho hbase hline) fun σ H Q h => by
    obtain ⟨ρ, S, μ, π, re, rs, p⟩ := h
    refine ⟨ρ, S, μ, π, re, rs, Post.bind (rel' := relV X.K π) p fun t S1 x H1 μ1 st1 rs1 ra p1 => ?_⟩
    obtain ⟨c, p1⟩ := Post.gd p1
    exact ⟨recv_ty rs1 ra c, t, [], S1, μ1, π, rs1, ra, relTs_nil, p1⟩
/-! ### texts -/
def swT (o : T) (as : List T) (S : Sto) : R T := match o, as with
  | .str a, [.str b] => .ok (.bl (Txt.startswith a b)) S
  | _, _ => .bad
def ewT (o : T) (as : List T) (S : Sto) : R T := match o, as with
  | .str a, [.str b] => .ok (.bl (Txt.endswith a b)) S
  | _, _ => .bad
def countT (o : T) (as : List T) (S : Sto) : R T := match o, as with
  | .str a, [.str b] => .ok (.int (Txt.count a b)) S
  | _, _ => .bad
def findT (o : T) (as : List T) (S : Sto) : R T := match o, as with
  | .str a, [.str b] => .ok (.int (Txt.find a b)) S
  | _, _ => .bad
def splitT (mu : Bool) (o : T) (as : List T) (S : Sto) : R T := match o, as with
  | .str a, [.str b] => gd ((b.length == 0) = false ∧ a.length + 2 ≤ sizeLine ∧ (Txt.split a b).all (fun x => decide (x.length ≤ sizeLine)) = true)
      (if mu = true then .ok (.loc S.length) (S ++ [(Txt.split a b).map T.str]) else .ok (.lst ((Txt.split a b).map T.str)) S)
  | _, _ => .bad
def seqJ (t : T) (S : Sto) : Option (List T) := match t with
  | .tup ts => some ts
  | _ => itemsT t S
def joinT (o : T) (as : List T) (S : Sto) : R T := match o, as with
  | .str a, [t] => match seqJ t S with
    | some ts => match strsOf ts with
      | some ys => gd ((ys.map (fun x => x.length)).sum + ys.length * a.length ≤ 16777216 ∧ (Txt.join a ys).length ≤ sizeLine) (.ok (.str (Txt.join a ys)) S)
      | none => .bad
    | none => .bad
  | _, _ => .bad
theorem mt_str1 {g : T → List T → Sto → R T} {r : V → List V → Hp → VK → Prop} (hr : MtR X id r) (hg : ∀ (a b : Str) (S : Sto) (μ π : List Addr) (H : Hp) (Q : VK), RelS X.K μ π H S → Post (relV X.K π) mg X.K π μ H (g (.str a) [.str b] S) Q E → r (.str a) [.str b] H Q)
    (hb : ∀ o as S, (∀ a b, ¬ (o = .str a ∧ as = [.str b])) → g o as S = .bad) : MtR X id (rFm mg X.K E g) := by
  intro pins s σ H x xs v us Q I rx rs h
  obtain ⟨o, as, S, μ, π, hs, ro, ras, p⟩ := h
  by_cases c : ∃ a b, o = .str a ∧ as = [.str b]
  · obtain ⟨a, b, rfl, rfl⟩ := c
    obtain ⟨rfl, _⟩ := relT_str ro
    obtain ⟨w', rfl, r2⟩ := relTs1 ras
    obtain ⟨rfl, _⟩ := relT_str r2
    exact hr pins s σ H _ _ v us Q I rx rs (hg a b S μ π H Q hs p)
  · rw [hb o as S fun a b e => c ⟨a, b, e⟩] at p
    exact p.elim
theorem bad1 {g : T → List T → Sto → R T} {k : Str → Str → Sto → R T} (e : ∀ o as S, g o as S = match o, as with | .str a, [.str b] => k a b S | _, _ => .bad) : ∀ o as S, (∀ a b, ¬ (o = .str a ∧ as = [.str b])) → g o as S = .bad := by
  intro o as S h
  rw [e]
  split
  · rename_i a b
    exact absurd ⟨rfl, rfl⟩ (h a b)
  · rfl
theorem mr_sw : MtR X "str.startswith" (rFm mg X.K E swT) := mt_str1 mt_startswith (fun a b S μ π H Q rs p => ⟨a, b, rfl, rfl, Post.val p rs mkBl⟩) (bad1 fun _ _ _ => rfl)
theorem mr_ew : MtR X "str.endswith" (rFm mg X.K E ewT) := mt_str1 mt_endswith (fun a b S μ π H Q rs p => ⟨a, b, rfl, rfl, Post.val p rs mkBl⟩) (bad1 fun _ _ _ => rfl)
theorem mr_count : MtR X "str.count" (rFm mg X.K E countT) := mt_str1 mt_count (fun a b S μ π H Q rs p => ⟨a, b, rfl, rfl, Post.val p rs mkInt⟩) (bad1 fun _ _ _ => rfl)
theorem mr_find : MtR X "str.find" (rFm mg X.K E findT) := mt_str1 mt_find (fun a b S μ π H Q rs p => ⟨a, b, rfl, rfl, Post.val p rs mkInt⟩) (bad1 fun _ _ _ => rfl)
theorem mr_split {mu : Bool} : MtR X "str.split" (rFm mg X.K E (splitT mu)) := mt_str1 mt_split (fun a b S μ π H Q rs p => by
  obtain ⟨⟨c1, c2, c3⟩, p⟩ := Post.gd p
  refine ⟨a, b, rfl, rfl, c1, c2, fun q hq => new_post p rs (strs_relT fun x hx => ?_) hq⟩
  exact of_decide_eq_true (List.all_eq_true.mp c3 x hx)) (bad1 fun _ _ _ => rfl)
theorem mr_join : MtR X "str.join" (rFm mg X.K E joinT) := by
  intro pins s σ H x xs v us Q I rx rs h
  obtain ⟨o, as, S, μ, π, hs, ro, ras, p⟩ := h
  unfold joinT at p
  split at p
  · rename_i a t
    obtain ⟨rfl, _⟩ := relT_str ro
    obtain ⟨w', rfl, r2⟩ := relTs1 ras
    cases e0 : seqJ t S with
    | none => rw [e0] at p; exact p.elim
    | some ts =>
      rw [e0] at p
      dsimp only at p
      cases e1 : strsOf ts with
      | none => rw [e1] at p; exact p.elim
      | some ys =>
        rw [e1] at p
        obtain ⟨⟨c1, c2⟩, p⟩ := Post.gd p
        have lists : ∀ {l : Addr} {zs : List V}, w' = .ref l → (SqL X.K H l zs ∨ SqT X.K H l zs) → RelTs X.K μ π H ts zs → wpAny (model X.prog X.w) X.A (call (.builtin "str.join") (v :: us)) (EP X pins σ Q) X.xe s := fun {l zs} e q r => by
          subst e
          have ez := (strs_rel r e1).1
          subst ez
          exact mt_join pins s σ H _ _ v us Q I rx rs ⟨a, l, ys, rfl, rfl, q, c1, Post.val p hs (mkStr c2)⟩
        cases t with
        | tup us' =>
          cases e0
          obtain ⟨l, zs, rfl, q, r⟩ := relT_tup r2
          exact lists rfl (.inr q) r
        | lst us' =>
          obtain ⟨l, zs, rfl, q, r⟩ := items_rel hs r2 e0
          exact lists rfl (.inl q) r
        | loc n =>
          obtain ⟨l, zs, rfl, q, r⟩ := items_rel hs r2 e0
          exact lists rfl (.inl q) r
        | _ => cases e0
  · exact p.elim
/-! ### lists that change -/
def appT (o : T) (as : List T) (S : Sto) : R T := match o, as with
  | .loc n, [t] => match S[n]? with
    | some ts => gd (ts.length < sizeLine) (.ok .non (S.set n (ts ++ [t])))
    | none => .bad
  | _, _ => .bad
def revT (o : T) (as : List T) (S : Sto) : R T := match o, as with
  | .loc n, [] => match S[n]? with
    | some ts => .ok .non (S.set n ts.reverse)
    | none => .bad
  | _, _ => .bad
theorem loc_at {n : Nat} {x : V} {ts : List T} (hs : RelS K μ π H S) (r : RelT K μ π H (.loc n) x) (e : S[n]? = some ts) : ∃ a xs, x = .ref a ∧ μ[n]? = some a ∧ H a = some (.lst xs) ∧ RelTs K μ π H ts xs := by
  obtain ⟨a, rfl, q⟩ := relT_loc r
  obtain ⟨b, xs, h1, h2, h3⟩ := hs.at_ n ts e
  rw [q] at h1; cases h1
  exact ⟨a, xs, rfl, q, h2, h3⟩
theorem mr_append : MtR X "list.append" (rFm mg X.K E appT) := by
  intro pins s σ H x xs v us Q I rx rs h
  obtain ⟨o, as, S, μ, π, hs, ro, ras, p⟩ := h
  unfold appT at p
  split at p
  · rename_i n t
    obtain ⟨w', rfl, r2⟩ := relTs1 ras
    cases e : S[n]? with
    | none => rw [e] at p; exact p.elim
    | some ts =>
      rw [e] at p
      obtain ⟨c, p⟩ := Post.gd p
      obtain ⟨a, ys, rfl, h1, h2, h3⟩ := loc_at hs ro e
      exact mt_append pins s σ H _ _ v us Q I rx rs ⟨a, ys, w', rfl, rfl, h2, by rw [h3.length]; exact c, Post.write p hs h1 (h3.append (relTs_cons r2 relTs_nil)) fun H' _ => mkNon⟩
  · exact p.elim
theorem mr_reverse : MtR X "list.reverse" (rFm mg X.K E revT) := by
  intro pins s σ H x xs v us Q I rx rs h
  obtain ⟨o, as, S, μ, π, hs, ro, ras, p⟩ := h
  unfold revT at p
  split at p
  · rename_i n
    cases relTs_nil_inv ras
    cases e : S[n]? with
    | none => rw [e] at p; exact p.elim
    | some ts =>
      rw [e] at p
      obtain ⟨a, ys, rfl, h1, h2, h3⟩ := loc_at hs ro e
      exact mt_reverse pins s σ H _ _ v us Q I rx rs ⟨a, ys, rfl, rfl, h2, Post.write p hs h1 h3.reverse fun H' _ => mkNon⟩
  · exact p.elim
/-! ### o[i] = v -/
def setT (o i v : T) (S : Sto) : R Unit := match o, i with
  | .loc n, .int k => match S[n]? with
    | some ts => match ixN ts.length k with
      | some j => .ok () (S.set n (ts.set j v))
      | none => .bad
    | none => .bad
  | _, _ => .bad
def relU : List Addr → Hp → Unit → Unit → Prop := fun _ _ _ _ => True
def rSetF (mg : Str → Option Value) (K : W.Frag) (E : XK) : TSet := fun o i v H Q => ∃ a b c S μ π, RelS K μ π H S ∧ RelT K μ π H a o ∧ RelT K μ π H b i ∧ RelT K μ π H c v ∧ Post relU mg K π μ H (setT a b c S) (fun _ H' => Q H') E
theorem set_T : PSet X (rSetF mg X.K E) := by
  intro pins s σ H o i v ov iv u Q I ro ri rv h
  obtain ⟨a, b, c, S, μ, π, hs, ra, rb, rc, p⟩ := h
  unfold setT at p
  split at p
  · rename_i n k
    cases relT_int rb
    cases e : S[n]? with
    | none => rw [e] at p; exact p.elim
    | some ts =>
      rw [e] at p
      dsimp only at p
      obtain ⟨l, xs, rfl, h1, h2, h3⟩ := loc_at hs ra e
      cases e2 : ixN ts.length k with
      | none => rw [e2] at p; exact p.elim
      | some j =>
        rw [e2] at p
        exact set_list pins s σ H _ _ _ ov iv u Q I ro ri rv ⟨l, xs, k, j, rfl, rfl, h2, by rw [h3.length]; exact e2, Post.write (v := ()) p hs h1 (RelTs.set rc j h3) fun _ _ => trivial⟩
  · exact p.elim
end
/-! ## f'..' -/
section
variable {X : Cx} {mg : Str → Option Value} {K : W.Frag} {E : XK}
def fmtT (t : T) (S : Sto) : R T := match t with
  | .str y => .ok (.str y) S
  | .int i => gd (i.natAbs.log2 < 1920 ∧ (toString i : Str).length ≤ sizeLine) (.ok (.str (toString i : Str)) S)
  | _ => .bad
theorem e_fmt {e : Expr} {m : M T} {pos : Pos} (he : PE X e (tM mg K E m)) : PE X (.FormattedValue e (-1) none pos) (tM mg K E (m1 fmtT m)) := PEimp (pe_fmt he) fun σ H Q h => by
  obtain ⟨ρ, S, μ, π, re, rs, p⟩ := h
  refine ⟨ρ, S, μ, π, re, rs, Post.bind (rel' := relV K π) p fun t S1 x H1 μ1 st1 rs1 ra p1 => ?_⟩
  cases t <;> first | exact p1.elim | skip
  · have ra := relT_int ra
    obtain ⟨⟨c1, c2⟩, p1⟩ := Post.gd p1
    exact .inr ⟨_, ra, c1, Post.val p1 rs1 (mkStr c2)⟩
  · obtain ⟨rfl, hz⟩ := relT_str ra
    exact .inl ⟨_, rfl, hz, Post.val p1 rs1 (mkStr hz)⟩
def jsM : List (M T) → Str → M T
  | [], acc => fun _ S => .ok (.str acc) S
  | m :: ms, acc => fun ρ S => (m ρ S).bind fun t S1 => match t with
    | .str y => gd ((acc ++ y).length ≤ sizeLine) (jsM ms (acc ++ y) ρ S1)
    | _ => .bad
inductive PMs (X : Cx) (mg : Str → Option Value) (K : W.Frag) (E : XK) : List Expr → List (M T) → Prop where
  | nil : PMs X mg K E [] []
  | cons {e : Expr} {m : M T} {es : List Expr} {ms : List (M T)} (h : PE X e (tM mg K E m)) (r : PMs X mg K E es ms) : PMs X mg K E (e :: es) (m :: ms)
theorem PMs.pj {es : List Expr} {ms : List (M T)} (h : PMs X mg K E es ms) : PJ X es (ms.map (tM mg K E)) := by
  induction h with
  | nil => exact .nil
  | cons h _ ih => exact .cons h ih
theorem js_post : ∀ (ms : List (M T)) (acc : Str) (ρ : Env') (S : Sto) (μ π : List Addr) (σ : L2.St) (H : Hp) (Q : VK), acc.length ≤ sizeLine → RelE K μ π H ρ σ → RelS K μ π H S → Post (relV K π) mg K π μ H (jsM ms acc ρ S) Q E →
    tJs (ms.map (tM mg K E)) acc σ H fun out H1 => Q (.str out) H1
  | [], acc, ρ, S, μ, π, σ, H, Q, hz, re, rs, p => Post.val p rs (mkStr hz)
  | m :: ms, acc, ρ, S, μ, π, σ, H, Q, hz, re, rs, p => by
    refine ⟨ρ, S, μ, π, re, rs, Post.bind (rel' := relV K π) p fun t S1 x H1 μ1 st1 rs1 ra p1 => ?_⟩
    cases t <;> first | exact p1.elim | skip
    obtain ⟨rfl, hy⟩ := relT_str ra
    obtain ⟨c, p1⟩ := Post.gd p1
    exact ⟨_, rfl, c, js_post ms _ ρ S1 μ1 π σ H1 Q c (re.step rs st1) rs1 p1⟩
theorem e_joined {v1 v2 : Expr} {rest : List Expr} {ms : List (M T)} {pos : Pos} (h : PMs X mg K E (v1 :: v2 :: rest) ms) : PE X (.JoinedStr (v1 :: v2 :: rest) pos) (tM mg K E (jsM ms Str.empty)) :=
  PEimp (pe_joined h.pj) fun σ H Q hq => by
    obtain ⟨ρ, S, μ, π, re, rs, p⟩ := hq
    exact js_post ms Str.empty ρ S μ π σ H Q (Nat.zero_le _) re rs p
end
/-! ## calls of own defs -/
def spOf (mg : Str → Option Value) (K : W.Frag) (n : Nat) (F : List T → Sto → R T) : Sp := fun vs H Q E => ∃ ts S μ π, ts.length = n ∧ RelS K μ π H S ∧ RelTs K μ π H ts vs ∧ Post (relV K π) mg K π μ H (F ts S) Q E
def callF (n : Nat) (F : List T → Sto → R T) (ts : List T) (S : Sto) : R T := gd (ts.length = n) (F ts S)
section
variable {X : Cx} {CX : CXT} {k n : Nat} {f : Addr} {fd : FuncData} {ps : List Str} {E : XK} {F : List T → Sto → R T} {x : Str} {p pos : Pos} {e : Expr} {es : List Expr} {ms : M (List T)}
theorem tM_call {σ : L2.St} {H : Hp} {Q : VK} (h : tM X.mg X.K E (m1 (callF n F) ms) σ H Q) : tCall (spOf X.mg X.K n F) [] E (tMA X.mg X.K E ms) σ H Q := by
  obtain ⟨ρ, S, μ, π, re, rs, p⟩ := h
  refine ⟨ρ, S, μ, π, re, rs, Post.bind (rel' := relV X.K π) p fun ts S1 xs H1 μ1 st1 rs1 ra p1 => ?_⟩
  obtain ⟨c, p1⟩ := Post.gd p1
  exact ⟨ts, S1, μ1, π, c, rs1, by rw [List.append_nil]; exact ra, p1⟩
theorem e_call (G : FnOk X.prog X.w X.K X.mg X.base CX k f fd ps (spOf X.mg X.K n F)) (hr : Room k X.A) (hg : Gl X x) (hm : X.mg x = some (.ref f)) (hk : W.keepIn X.K (.ref f) = true) (hb : Binds X.K fd ps []) (hx : Passes CX X E)
    (ha : PA X (e :: es) (tMA X.mg X.K E ms)) (hdb : (x == ("__debug__" : Str)) = false) (he : starEach (e :: es) X.env = (false, eval e X.env) :: starEach es X.env) (hpl : (backTo pos (starEach es X.env)).any (·.1) = false) :
    PE X (.Call (.Name x p) (e :: es) [] pos) (tM X.mg X.K E (m1 (callF n F) ms)) :=
  PEimp (pe_call G hr hg hm hk hb .nil hx ha hdb he hpl) fun _ _ _ h => tM_call h
end
end RL
end
section
set_option maxRecDepth 100000
set_option maxHeartbeats 2000000
namespace RL
open PySem PySem.Spec PyProof.Rows L2 TL
open scoped RL.R

/-! ## what is walked -/
/-- .. only if, whatever the condition -/
noncomputable def gdc {α : Type} (c : Prop) (r : R α) : R α := @RL.gd α c (Classical.propDecidable c) r
theorem gdc_pos {α : Type} {c : Prop} {r : R α} (h : c) : gdc c r = r := @gd_pos α c (Classical.propDecidable c) r h
theorem Post.gdc {α β : Type} {rel : List Addr → Hp → α → β → Prop} {mg : Str → Option Value} {K : W.Frag} {π μ : List Addr} {H : Hp} {E : XK} {c : Prop} {r : R α} {Q : β → Hp → Prop} (h : Post rel mg K π μ H (RL.gdc c r) Q E) : c ∧ Post rel mg K π μ H r Q E :=
  @Post.gd mg K E π μ H α β rel c (Classical.propDecidable c) r Q h
def Grd (o : Option Nat) (ts : List T) (S : Sto) : Prop := match o with
  | none => True
  | some n => S[n]? = some ts
abbrev Src := List T × Option Nat
/-- an iterator over known items -/
inductive SrcR (K : W.Frag) (π μ : List Addr) (H : Hp) : Src → It → Prop where
  | lst {a : Addr} {xs : List V} {ts : List T} (q : SqP K μ π H a xs) (r : RelTs K μ π H ts xs) : SrcR K π μ H (ts, none) (Itl K a)
  | tup {a : Addr} {xs : List V} {ts : List T} (q : SqT K H a xs) (r : RelTs K μ π H ts xs) : SrcR K π μ H (ts, none) (Itt K a)
  | loc {a : Addr} {n : Nat} {ts : List T} (q : μ[n]? = some a) : SrcR K π μ H (ts, some n) (Itl K a)
  | rng {lo : Int} {n : Nat} : SrcR K π μ H ((List.range n).map fun i => T.int (lo + (i : Nat)), none) (Itr lo n)
  | rngC {lo c : Int} {n : Nat} : SrcR K π μ H ((List.range n).map fun i => T.int (lo + (i : Nat) * c), none) (Itc lo c n)
  | str {x : Str} : SrcR K π μ H (chs x, none) (Its x)
section
variable {X : Cx} {mg : Str → Option Value} {K : W.Frag} {E : XK} {π μ μ' : List Addr} {H H' : Hp} {S S' : Sto} {src : Src} {J : It}
theorem SrcR.step (hs : RelS K μ π H S) (s : Stp μ H μ' H') (h : SrcR K π μ H src J) : SrcR K π μ' H' src J := by
  cases h with
  | lst q r => exact .lst (SqP.step s q) (RelTs.step hs s r)
  | tup q r => exact .tup (SqT.stepK hs s q) (RelTs.step hs s r)
  | loc q => exact .loc (s.get q)
  | rng => exact .rng
  | rngC => exact .rngC
  | str => exact .str
theorem SrcR.done (hs : RelS K μ π H S) (h : SrcR K π μ H src J) (g : Grd src.2 src.1 S) {i : Nat} (hi : src.1.length ≤ i) : J.stop i H := by
  cases h with
  | lst q r => exact ⟨_, q.sq, by rw [r.length]; exact hi⟩
  | tup q r => exact ⟨_, q, by rw [r.length]; exact hi⟩
  | loc q =>
    obtain ⟨b, xs, h1, h2, h3⟩ := hs.at_ _ _ g
    rw [q] at h1; cases h1
    exact ⟨xs, .of h2, by rw [h3.length]; exact hi⟩
  | rng => simp at hi; exact hi
  | rngC => simp at hi; exact hi
  | @str x => 
    show x.cps.size ≤ i
    unfold chs at hi
    simpa using hi
theorem SrcR.goes (hs : RelS K μ π H S) (h : SrcR K π μ H src J) (g : Grd src.2 src.1 S) {i : Nat} {t : T} (hi : src.1[i]? = some t) : J.go i H ∧ ∀ x H', J.yld i H x H' → H' = H ∧ RelT K μ π H t x := by
  have lists : ∀ {a : Addr} {xs : List V}, SqL K H a xs → RelTs K μ π H src.1 xs → (Itl K a).go i H ∧ ∀ x H', (Itl K a).yld i H x H' → H' = H ∧ RelT K μ π H t x := fun {a xs} q r => by
    obtain ⟨v, e, rv⟩ := r.get hi
    refine ⟨⟨xs, v, q, e⟩, fun x H' y => ⟨y.1, ?_⟩⟩
    have := y.2 xs q
    rw [e] at this; cases this
    exact rv
  cases h with
  | lst q r => exact lists q.sq r
  | @tup a xs ts q r =>
    obtain ⟨v, e, rv⟩ := r.get hi
    refine ⟨⟨xs, v, q, e⟩, fun x H' y => ⟨y.1, ?_⟩⟩
    have := y.2 xs q
    rw [e] at this; cases this
    exact rv
  | loc q =>
    obtain ⟨b, xs, h1, h2, h3⟩ := hs.at_ _ _ g
    rw [q] at h1; cases h1
    exact lists (.of h2) h3
  | @rng lo n =>
    have hlt : i < n := by
      have := (List.getElem?_eq_some_iff.mp hi).1
      simpa using this
    refine ⟨hlt, fun x H' y => ⟨y.1, ?_⟩⟩
    rw [List.getElem?_map, List.getElem?_range hlt] at hi
    cases hi
    rw [y.2]
    exact mkInt
  | @rngC lo c n =>
    have hlt : i < n := by
      have := (List.getElem?_eq_some_iff.mp hi).1
      simpa using this
    refine ⟨hlt, fun x H' y => ⟨y.1, ?_⟩⟩
    rw [List.getElem?_map, List.getElem?_range hlt] at hi
    cases hi
    rw [y.2]
    exact mkInt
  | @str x =>
    have hlt : i < x.cps.size := by
      have := (List.getElem?_eq_some_iff.mp hi).1
      unfold chs at this
      simpa using this
    refine ⟨hlt, fun v H' y => ⟨y.1, ?_⟩⟩
    obtain ⟨c, e, rfl⟩ := y.2
    unfold chs at hi
    rw [List.getElem?_map, Array.getElem?_toList, e] at hi
    cases hi
    exact mkStr one_le
/-- what is walked, by its meaning -/
def tMI (mg : Str → Option Value) (K : W.Frag) (E : XK) (m : M Src) : TI := fun σ H R' => ∃ ρ S μ π, RelE K μ π H ρ σ ∧ RelS K μ π H S ∧ Post (SrcR K π) mg K π μ H (m ρ S) R' E
theorem PIimp {tg iter : Expr} {w w' : TI} (h : PI X tg iter w) (i : ∀ σ H R, w' σ H R → w σ H R) : PI X tg iter w' := ⟨fun pins s σ H R I q => h.run pins s σ H R I (i σ H R q)⟩
/-- a value that is walked -/
def iterT (t : T) (S : Sto) : R Src := match t with
  | .lst ts => .ok (ts, none) S
  | .tup ts => .ok (ts, none) S
  | .str x => .ok (chs x, none) S
  | .loc n => match S[n]? with
    | some ts => .ok (ts, some n) S
    | none => .bad
  | _ => .bad
theorem i_any {tg e : Expr} {m : M T} (he : PE X e (tM mg X.K E m)) : PI X tg e (tMI mg X.K E (m1 iterT m)) := by
  refine ⟨fun pins s σ H R' I h => ?_⟩
  obtain ⟨ρ, S, μ, π, re, rs, p⟩ := h
  refine thn (he.run pins s σ H (fun x H1 => ∃ t S1 μ1, RelS X.K μ1 π H1 S1 ∧ RelT X.K μ1 π H1 t x ∧ Post (SrcR X.K π) mg X.K π μ1 H1 (iterT t S1) R' E) I ⟨ρ, S, μ, π, re, rs, Post.bind (rel' := SrcR X.K π) p fun t S1 x H1 μ1 st1 rs1 ra p1 => ⟨t, S1, μ1, rs1, ra, p1⟩⟩) fun v s1 hv => ?_
  obtain ⟨x, H1, I1, r1, t, S1, μ1, rs1, ra, p1⟩ := hv
  have fresh := I1.hok.fresh (Nat.le_refl s1.heap.objs.size)
  have sole : ∀ {J : It} {o : Obj} {tn : Nat → Heap → Prop}, Turn X.prog X.w X.K tg J [s1.heap.objs.size] s1.heap.objs.size tn → tn 0 (s1.heap.push o) → R' J H1 → PIE X pins σ tg R' (.ref s1.heap.objs.size) { s1 with heap := s1.heap.push o } := fun {J o tn} T0 st q => by
    refine ⟨s1.heap.objs.size, [s1.heap.objs.size], tn, J, H1, rfl, I1.kept (t' := s1.toks) fun b u e => Heap.get?_push_of_some _ e, T0, st, fun b hb => ?_, q⟩
    rw [List.mem_singleton.mp hb]
    exact I1.fpOk (Nat.le_refl _) fresh
  have lists : ∀ {a : Addr} {xs : List V}, x = .ref a → SqL X.K H1 a xs → R' (Itl X.K a) H1 → wpAny (model X.prog X.w) X.A (pyIter v) (PIE X pins σ tg R') X.xe s1 := fun {a xs} e q w0 => by
    subst e
    cases r1
    obtain ⟨its, rv, pl, _⟩ := I1.list q
    exact wpAny_pyIter_list pl.isList (sole (turn_list a _) ⟨_, Heap.get?_push_size _ rfl, rfl, rfl⟩ w0)
  cases t <;> first | exact p1.elim | skip
  · obtain ⟨rfl, _⟩ := relT_str ra
    obtain ⟨tk, rfl⟩ := r1
    have w0 := p1 (Its _) H1 μ1 Stp.refl rs1 .str
    cases ha : (Str.cps _).all (· < 128)
    · exact wpAny_pyIter_wide ha (pi_one (tk := s1.toks) I1 _ (turn_str _ _ tk "str_iterator" (.inr rfl)) ⟨_, Heap.get?_push_size _ rfl, rfl, rfl⟩ w0)
    · exact wpAny_pyIter_ascii ha (pi_one (tk := s1.toks) I1 _ (turn_str _ _ tk "str_ascii_iterator" (.inl rfl)) ⟨_, Heap.get?_push_size _ rfl, rfl, rfl⟩ w0)
  · obtain ⟨a, xs, rfl, q, r⟩ := relT_tup ra
    have w0 := p1 (Itt X.K a) H1 μ1 Stp.refl rs1 (.tup q r)
    cases r1
    obtain ⟨its, rv, pl, _⟩ := I1.tuple q
    exact wpAny_pyIter_tuple (show s1.heap.IsTuple a its.toArray from pl) (sole (turn_tuple a _) ⟨_, Heap.get?_push_size _ rfl, rfl, rfl⟩ w0)
  · obtain ⟨a, xs, rfl, q, r⟩ := relT_lst ra
    exact lists rfl q.sq (p1 (Itl X.K a) H1 μ1 Stp.refl rs1 (.lst q r))
  · rename_i n
    unfold iterT at p1
    dsimp only at p1
    cases e : S1[n]? with
    | none => rw [e] at p1; exact p1.elim
    | some ts =>
      rw [e] at p1
      obtain ⟨a, xs, rfl, h1, h2, h3⟩ := loc_at rs1 ra e
      exact lists rfl (.of h2) (p1 (Itl X.K a) H1 μ1 Stp.refl rs1 (.loc h1))
/-- range(..) -/
def rng1T (ts : List T) (S : Sto) : R Src := match ts with
  | [.int j] => gd (-(2 ^ 62) ≤ j ∧ j < 2 ^ 62) (.ok ((List.range j.toNat).map fun i => T.int (0 + (i : Nat)), none) S)
  | _ => .bad
def rng2T (ts : List T) (S : Sto) : R Src := match ts with
  | [.int i, .int j] => gd (-(2 ^ 62) ≤ i ∧ i < 2 ^ 62 ∧ -(2 ^ 62) ≤ j ∧ j < 2 ^ 62) (.ok ((List.range (j - i).toNat).map fun k => T.int (i + (k : Nat)), none) S)
  | _ => .bad
noncomputable def rng3T (ts : List T) (S : Sto) : R Src := match ts with
  | [.int i, .int j, .int c] => gdc (RgC i j c (Builtin.Range.rangeSize i j c).toNat) (.ok ((List.range (Builtin.Range.rangeSize i j c).toNat).map fun k => T.int (i + (k : Nat) * c), none) S)
  | _ => .bad
theorem i_range1 {tg a : Expr} {ms : M (List T)} {p pos : Pos} (hg : Gl X "range") (hm : X.mg "range" = none) (ha : PA X [a] (tMA mg X.K E ms)) (hs : starEach [a] X.env = [(false, eval a X.env)]) :
    PI X tg (.Call (.Name "range" p) [a] [] pos) (tMI mg X.K E (m1 rng1T ms)) := PIimp (pi_range1 hg hm ha hs) fun σ H R' h => by
  obtain ⟨ρ, S, μ, π, re, rs, p⟩ := h
  refine ⟨ρ, S, μ, π, re, rs, Post.bind (rel' := SrcR X.K π) p fun ts S1 xs H1 μ1 st1 rs1 ra p1 => ?_⟩
  unfold rng1T at p1
  split at p1
  · obtain ⟨v, rfl, rt⟩ := relTs1 ra
    cases relT_int rt
    obtain ⟨c, p1⟩ := Post.gd p1
    exact ⟨_, rfl, c.1, c.2, p1 (Itr 0 _) H1 μ1 Stp.refl rs1 .rng⟩
  · exact p1.elim
theorem i_range2 {tg a b : Expr} {ms : M (List T)} {p pos : Pos} (hg : Gl X "range") (hm : X.mg "range" = none) (ha : PA X [a, b] (tMA mg X.K E ms)) (hs : starEach [a, b] X.env = [(false, eval a X.env), (false, eval b X.env)]) (hs2 : starEach [b] X.env = [(false, eval b X.env)]) :
    PI X tg (.Call (.Name "range" p) [a, b] [] pos) (tMI mg X.K E (m1 rng2T ms)) := PIimp (pi_range2 hg hm ha hs hs2) fun σ H R' h => by
  obtain ⟨ρ, S, μ, π, re, rs, p⟩ := h
  refine ⟨ρ, S, μ, π, re, rs, Post.bind (rel' := SrcR X.K π) p fun ts S1 xs H1 μ1 st1 rs1 ra p1 => ?_⟩
  unfold rng2T at p1
  split at p1
  · obtain ⟨v, w', rfl, rt, ru⟩ := relTs2 ra
    cases relT_int rt
    cases relT_int ru
    obtain ⟨c, p1⟩ := Post.gd p1
    exact ⟨_, _, rfl, c, p1 (Itr _ _) H1 μ1 Stp.refl rs1 .rng⟩
  · exact p1.elim
theorem relTs3 {t u x : T} {vs : List V} (h : RelTs K μ π H [t, u, x] vs) : ∃ v w y, vs = [v, w, y] ∧ RelT K μ π H t v ∧ RelT K μ π H u w ∧ RelT K μ π H x y := by
  obtain ⟨v, r, rfl, h1, h2⟩ := relTs_cons_inv h
  obtain ⟨w, y, rfl, h3, h4⟩ := relTs2 h2
  exact ⟨v, w, y, rfl, h1, h3, h4⟩
theorem i_range3 {tg a b c : Expr} {ms : M (List T)} {p pos : Pos} (hg : Gl X "range") (hm : X.mg "range" = none) (ha : PA X [a, b, c] (tMA mg X.K E ms)) (hs : starEach [a, b, c] X.env = (false, eval a X.env) :: starEach [b, c] X.env) (hpl : (backTo pos (starEach [b, c] X.env)).any (·.1) = false) :
    PI X tg (.Call (.Name "range" p) [a, b, c] [] pos) (tMI mg X.K E (m1 rng3T ms)) := PIimp (pi_range3 hg hm ha hs hpl) fun σ H R' h => by
  obtain ⟨ρ, S, μ, π, re, rs, p⟩ := h
  refine ⟨ρ, S, μ, π, re, rs, Post.bind (rel' := SrcR X.K π) p fun ts S1 xs H1 μ1 st1 rs1 ra p1 => ?_⟩
  unfold rng3T at p1
  split at p1
  · obtain ⟨v, w', y, rfl, rt, ru, ry⟩ := relTs3 ra
    cases relT_int rt
    cases relT_int ru
    cases relT_int ry
    obtain ⟨c, p1⟩ := Post.gdc p1
    exact ⟨_, _, _, _, rfl, c, p1 (Itc _ _ _) H1 μ1 Stp.refl rs1 .rngC⟩
  · exact p1.elim

/-! ## targets -/
abbrev Tgt := T → Env' → Option Env'
def tG (K : W.Frag) (g : Tgt) : TG := fun v σ H Q => ∃ t ρ S μ π, RelE K μ π H ρ σ ∧ RelS K μ π H S ∧ RelT K μ π H t v ∧ (match g t ρ with
  | some ρ' => ∀ σ', RelE K μ π H ρ' σ' → (∀ (i : Nat), ρ'[i]? = ρ[i]? → σ'[i]? = σ[i]?) → Q σ' H
  | none => False)
theorem PGimp {tg : Expr} {g g' : TG} (h : PG X tg g) (i : ∀ v σ H Q, g' v σ H Q → g v σ H Q) : PG X tg g' := ⟨fun pins s σ H v u Q I r q => h.run pins s σ H v u Q I r (i v σ H Q q)⟩
end
end RL
end
section
set_option maxRecDepth 100000
set_option maxHeartbeats 2000000
namespace RL
open PySem PySem.Spec PyProof.Rows L2 TL
open scoped RL.R

/-! ## targets: a name, or names -/
inductive Tg where
  | one (i : Nat)
  | many (is : List Nat)
def Tg.slots : Tg → List Nat
  | .one i => [i]
  | .many is => is
def setAll : List Nat → List T → Env' → Option Env'
  | [], [], ρ => some ρ
  | i :: is, t :: ts, ρ => setAll is ts (ρ.set i (some t))
  | _, _, _ => none
def tgT (g : Tg) (t : T) (S : Sto) (ρ : Env') : Option Env' := match g, t with
  | .one i, t => some (ρ.set i (some t))
  | .many is, .tup ts => setAll is ts ρ
  | .many is, .lst ts => setAll is ts ρ
  | .many is, .loc n => match S[n]? with
    | some ts => setAll is ts ρ
    | none => none
  | _, _ => none
def tTg (K : W.Frag) (g : Tg) : TG := fun v σ H Q => ∃ t ρ ρ' S μ π, RelE K μ π H ρ σ ∧ RelS K μ π H S ∧ RelT K μ π H t v ∧ tgT g t S ρ = some ρ' ∧
  ∀ σ', RelE K μ π H ρ' σ' → σ'.length = σ.length → (∀ j, j ∉ g.slots → σ'[j]? = σ[j]?) → Q σ' H
def namesG : List Nat → TGs
  | [] => gNil
  | i :: is => gCons (gName i) (namesG is)
section
variable {X : Cx} {mg : Str → Option Value} {K : W.Frag} {E : XK} {π μ μ' : List Addr} {H H' : Hp} {S S' : Sto}
theorem namesG_post {Q : L2.St → Hp → Prop} : ∀ {is : List Nat} {ts : List T} {vs : List V} {ρ ρ' : Env'} {σ : L2.St}, RelTs K μ π H ts vs → RelE K μ π H ρ σ → setAll is ts ρ = some ρ' →
    (∀ σ', RelE K μ π H ρ' σ' → σ'.length = σ.length → (∀ j, j ∉ is → σ'[j]? = σ[j]?) → Q σ' H) → namesG is vs σ H Q
  | [], [], vs, ρ, ρ', σ, r, re, e, h => by
    cases e
    exact ⟨relTs_nil_inv r, h σ re rfl fun _ _ => rfl⟩
  | i :: is, t :: ts, vs, ρ, ρ', σ, r, re, e, h => by
    obtain ⟨v, r', rfl, r1, r2⟩ := relTs_cons_inv r
    refine ⟨v, r', rfl, namesG_post r2 (re.set r1) e fun σ' re' hl hs => h σ' re' (by rw [hl, List.length_set]) fun j hj => ?_⟩
    rw [List.mem_cons, not_or] at hj
    rw [hs j hj.2, List.getElem?_set_ne fun z => hj.1 z.symm]
  | [], t :: ts, vs, ρ, ρ', σ, r, re, e, h => nomatch e
  | i :: is, [], vs, ρ, ρ', σ, r, re, e, h => nomatch e
theorem g_one {i : Nat} {x : Str} {pos : Pos} (hN : X.N.Nodup) (hi : X.N[i]? = some x) (hx : Loc X.env.scope x) (hf : X.fn x = true ∨ X.env.scope.names.lookup x = some .local) : PG X (.Name x pos) (tTg X.K (.one i)) :=
  PGimp (pg_name hN hi hx hf) fun v σ H Q h => by
    obtain ⟨t, ρ, ρ', S, μ, π, re, rs, rt, e, h⟩ := h
    cases e
    exact h _ (re.set rt) (by rw [List.length_set]) fun j hj => List.getElem?_set_ne fun z => hj (by rw [z]; exact List.mem_singleton.mpr rfl)
theorem setAll_len : ∀ {is : List Nat} {ts : List T} {ρ ρ' : Env'}, setAll is ts ρ = some ρ' → ts.length = is.length
  | [], [], _, _, _ => rfl
  | i :: is, t :: ts, ρ, ρ', e => by
    have := setAll_len (is := is) (ts := ts) e
    simp [this]
  | [], t :: ts, ρ, ρ', e => nomatch e
  | i :: is, [], ρ, ρ', e => nomatch e
theorem g_many {is : List Nat} {es : List Expr} {k : Nat} {pos : Pos} (hc : X.calm = true) (h : PGs X es (namesG is)) (hn : (assignEach es X.env).length = is.length) (hst : (assignEach es X.env).findIdx? (·.1) = none) : PG X (.Tuple es k pos) (tTg X.K (.many is)) := by
  refine ⟨fun pins s σ H v u Q I r hq => ?_⟩
  obtain ⟨t, ρ, ρ', S, μ, π, re, rs, rt, e, hq⟩ := hq
  have lists : ∀ {ts : List T} {a : Addr} {xs : List V}, v = .ref a → SqL X.K H a xs → RelTs X.K μ π H ts xs → setAll is ts ρ = some ρ' → wpAny (model X.prog X.w) X.A (assign (.Tuple es k pos) X.env u) (fun _ s' => ∃ σ' H', Inv X pins σ' H' s' ∧ Q σ' H') X.xe s := fun {ts a xs} ev q r' e => by
    subst ev
    exact (pg_unl (n := is.length) hc h hn hst).run pins s σ H _ u Q I r ⟨a, xs, rfl, q, by rw [r'.length, setAll_len e], namesG_post r' re e hq⟩
  cases t <;> first | (cases e; done) | skip
  · rename_i ts
    obtain ⟨a, xs, rfl, q, r'⟩ := relT_tup rt
    exact (pg_tup (n := is.length) hc h hn hst).run pins s σ H _ u Q I r ⟨a, xs, rfl, q, by rw [r'.length, setAll_len e], namesG_post r' re e hq⟩
  · obtain ⟨a, xs, ev, q, r'⟩ := relT_lst rt
    exact lists ev q.sq r' e
  · rename_i n
    unfold tgT at e
    dsimp only at e
    cases e1 : S[n]? with
    | none => rw [e1] at e; cases e
    | some ts =>
      rw [e1] at e
      obtain ⟨a, xs, ev, h1, h2, h3⟩ := loc_at rs rt e1
      exact lists ev (.of h2) h3 e
end

/-! ## statements -/
inductive RS where
  | nx (ρ : Env') (S : Sto)
  | ret (t : T) (S : Sto)
  | err (c : Str) (fs : List (Str × T)) (S : Sto)
  | bad
abbrev MS := Env' → Sto → RS
def PostS (mg : Str → Option Value) (K : W.Frag) (π μ : List Addr) (H : Hp) (r : RS) (D : Ends) (E : XK) : Prop :=
  match r with
  | .nx ρ S' => ∀ σ' H' μ', Stp μ H μ' H' → RelS K μ' π H' S' → RelE K μ' π H' ρ σ' → D.nx σ' H'
  | .ret t S' => ∀ v H' μ', Stp μ H μ' H' → RelS K μ' π H' S' → RelT K μ' π H' t v → D.rt v H'
  | .err c fs S' => ErrP mg K π μ H c fs S' E
  | .bad => False
def tMS (mg : Str → Option Value) (K : W.Frag) (E : XK) (m : MS) : TS := fun D σ H => ∃ ρ S μ π, RelE K μ π H ρ σ ∧ RelS K μ π H S ∧ PostS mg K π μ H (m ρ S) D E
def R.bindS {α : Type} (r : R α) (f : α → Sto → RS) : RS :=
  match r with
  | .ok a S => f a S
  | .err c fs S => .err c fs S
  | .bad => .bad
@[scoped simp] theorem R.bindS_ok {α : Type} (a : α) (S : Sto) (f : α → Sto → RS) : (R.ok a S).bindS f = f a S := rfl
@[scoped simp] theorem R.bindS_err {α : Type} (c : Str) (fs : List (Str × T)) (S : Sto) (f : α → Sto → RS) : (R.err c fs S : R α).bindS f = .err c fs S := rfl
@[scoped simp] theorem R.bindS_bad {α : Type} (f : α → Sto → RS) : (R.bad : R α).bindS f = .bad := rfl
def RS.seq (r : RS) (f : MS) : RS := match r with
  | .nx ρ S => f ρ S
  | .ret t S => .ret t S
  | .err c fs S => .err c fs S
  | .bad => .bad
@[scoped simp] theorem RS.seq_nx (ρ : Env') (S : Sto) (f : MS) : (RS.nx ρ S).seq f = f ρ S := rfl
@[scoped simp] theorem RS.seq_ret (t : T) (S : Sto) (f : MS) : (RS.ret t S).seq f = .ret t S := rfl
@[scoped simp] theorem RS.seq_err (c : Str) (fs : List (Str × T)) (S : Sto) (f : MS) : (RS.err c fs S).seq f = .err c fs S := rfl
@[scoped simp] theorem RS.seq_bad (f : MS) : RS.bad.seq f = .bad := rfl
section
variable {X : Cx} {mg : Str → Option Value} {K : W.Frag} {E : XK} {π μ μ' : List Addr} {H H' : Hp} {S S' : Sto} {D D' : Ends}
theorem PostS.mono {r : RS} (h1 : RelS K μ' π H' S') (s : Stp μ H μ' H') (h : PostS mg K π μ H r D E) : PostS mg K π μ' H' r D E := by
  cases r with
  | nx ρ S2 => exact fun σ H2 μ2 s2 => h σ H2 μ2 (s.trans h1 s2)
  | ret t S2 => exact fun v H2 μ2 s2 => h v H2 μ2 (s.trans h1 s2)
  | err c fs S2 => exact fun C d vs H2 μ2 s2 => h C d vs H2 μ2 (s.trans h1 s2)
  | bad => exact h
theorem PostS.bind {α β : Type} {rel : List Addr → Hp → α → β → Prop} {r : R α} {f : α → Sto → RS} {Q' : β → Hp → Prop} (h : PostS mg K π μ H (r.bindS f) D E)
    (hQ : ∀ t S' v H' μ', Stp μ H μ' H' → RelS K μ' π H' S' → rel μ' H' t v → PostS mg K π μ' H' (f t S') D E → Q' v H') : Post rel mg K π μ H r Q' E := by
  cases r with
  | ok t S2 => exact fun v H2 μ2 s2 r2 t2 => hQ t S2 v H2 μ2 s2 r2 t2 (PostS.mono r2 s2 h)
  | err c fs S2 => exact h
  | bad => exact h
theorem PostS.seq {r : RS} {f : MS} (h : PostS mg K π μ H (r.seq f) D E) (hr : D'.rt = D.rt) (hQ : ∀ ρ S' σ H' μ', Stp μ H μ' H' → RelS K μ' π H' S' → RelE K μ' π H' ρ σ → PostS mg K π μ' H' (f ρ S') D E → D'.nx σ H') : PostS mg K π μ H r D' E := by
  cases r with
  | nx ρ S2 => exact fun σ H2 μ2 s2 r2 t2 => hQ ρ S2 σ H2 μ2 s2 r2 t2 (PostS.mono r2 s2 h)
  | ret t S2 =>
    show ∀ v H' μ', _ → _ → _ → D'.rt v H'
    rw [hr]
    exact h
  | err c fs S2 => exact h
  | bad => exact h
theorem PostS.nx {ρ : Env'} {σ : L2.St} (h : PostS mg K π μ H (.nx ρ S) D E) (rs : RelS K μ π H S) (re : RelE K μ π H ρ σ) : D.nx σ H := h σ H μ Stp.refl rs re
theorem PostS.ret {t : T} {v : V} (h : PostS mg K π μ H (.ret t S) D E) (rs : RelS K μ π H S) (r : RelT K μ π H t v) : D.rt v H := h v H μ Stp.refl rs r
variable {st : Stmt} {rest : List Stmt} {m n : MS} {e : Expr} {me : M T} {pos : Pos}
def seqM (m n : MS) : MS := fun ρ S => (m ρ S).seq n
def nextM : MS := fun ρ S => .nx ρ S
theorem s_cons (h1 : PS X st (tMS mg K E m)) (h2 : PSs X rest (tMS mg K E n)) : PSs X (st :: rest) (tMS mg K E (seqM m n)) := PSsimp (pss_cons h1 h2) fun D σ H h => by
  obtain ⟨ρ, S, μ, π, re, rs, p⟩ := h
  exact ⟨ρ, S, μ, π, re, rs, PostS.seq (D' := { D with nx := tMS mg K E n D }) p rfl fun ρ1 S1 σ1 H1 μ1 st1 rs1 re1 p1 => ⟨ρ1, S1, μ1, π, re1, rs1, p1⟩⟩
theorem s_one (h1 : PS X st (tMS mg K E m)) : PSs X [st] (tMS mg K E m) := pss_one h1
theorem s_nil : PSs X [] (tMS mg K E nextM) := PSsimp pss_nil fun D σ H h => by
  obtain ⟨ρ, S, μ, π, re, rs, p⟩ := h
  exact p.nx rs re
/-- nothing is to be shown of these -/
def badM : MS := fun _ _ => .bad
theorem s_bad : PS X st (tMS mg K E badM) := ⟨fun pins s σ H D I h => by
  obtain ⟨ρ, S, μ, π, re, rs, p⟩ := h
  exact p.elim⟩
theorem ss_bad : PSs X rest (tMS mg K E badM) := ⟨fun pins s σ H D I h => by
  obtain ⟨ρ, S, μ, π, re, rs, p⟩ := h
  exact p.elim⟩
def dropM (m : M T) : MS := fun ρ S => (m ρ S).bindS fun _ S1 => .nx ρ S1
theorem s_expr (he : PE X e (tM mg K E me)) (hs : swapsWith e none pos.line X.env = pure false) : PS X (.Expr e pos) (tMS mg K E (dropM me)) := PSimp (ps_expr he hs) fun D σ H h => by
  obtain ⟨ρ, S, μ, π, re, rs, p⟩ := h
  exact ⟨ρ, S, μ, π, re, rs, PostS.bind (rel := relV K π) p fun t S1 v H1 μ1 st1 rs1 rt p1 => p1.nx rs1 (re.step rs st1)⟩
def retS (m : M T) : MS := fun ρ S => (m ρ S).bindS fun t S1 => .ret t S1
theorem s_ret (he : PE X e (tM mg K E me)) : PS X (.Return (some e) pos) (tMS mg K E (retS me)) := PSimp (ps_ret he) fun D σ H h => by
  obtain ⟨ρ, S, μ, π, re, rs, p⟩ := h
  exact ⟨ρ, S, μ, π, re, rs, PostS.bind (rel := relV K π) p fun t S1 v H1 μ1 st1 rs1 rt p1 => p1.ret rs1 rt⟩
def ifS (c : M Bool) (m n : MS) : MS := fun ρ S => (c ρ S).bindS fun b S1 => if b = true then m ρ S1 else n ρ S1
theorem s_if {c : Expr} {mc : M Bool} {as bs : List Stmt} (hc : PT X c (tMB mg K E mc)) (ha : PSs X as (tMS mg K E m)) (hb : PSs X bs (tMS mg K E n)) : PS X (.If c as bs pos) (tMS mg K E (ifS mc m n)) := PSimp (ps_if hc ha hb) fun D σ H h => by
  obtain ⟨ρ, S, μ, π, re, rs, p⟩ := h
  refine ⟨ρ, S, μ, π, re, rs, PostS.bind (rel := relB) p fun b S1 v H1 μ1 st1 rs1 rt p1 => ?_⟩
  have rt : b = v := rt
  subst rt
  cases b with
  | true => exact ⟨ρ, S1, μ1, π, re.step rs st1, rs1, p1⟩
  | false => exact ⟨ρ, S1, μ1, π, re.step rs st1, rs1, p1⟩
/-- name = e -/
def setM (i : Nat) (m : M T) : MS := fun ρ S => (m ρ S).bindS fun t S1 => .nx (ρ.set i (some t)) S1
theorem set_imp {i : Nat} {D : Ends} {σ : L2.St} {H : Hp} (h : tMS mg K E (setM i me) D σ H) : tAsg (tM mg K E me) (gName i) D σ H := by
  obtain ⟨ρ, S, μ, π, re, rs, p⟩ := h
  exact ⟨ρ, S, μ, π, re, rs, PostS.bind (rel := relV K π) p fun t S1 v H1 μ1 st1 rs1 rt p1 => p1.nx rs1 ((re.step rs st1).set rt)⟩
theorem s_set {i : Nat} {x : Str} {pos' : Pos} (hN : X.N.Nodup) (hi : X.N[i]? = some x) (hx : Loc X.env.scope x) (he : PE X e (tM mg K E me)) (hs : swapsWith e (some (.Name x pos')) pos.line X.env = pure false) (hf : X.fn x = true ∨ X.env.scope.names.lookup x = some .local) :
    PS X (.Assign [.Name x pos'] e pos) (tMS mg K E (setM i me)) := PSimp (ps_set hN hi hx he hs hf) fun D σ H h => set_imp h
/-- o[i] = e -/
def subS (mv mo mi : M T) : MS := fun ρ S => (mv ρ S).bindS fun v S1 => (mo ρ S1).bindS fun o S2 => (mi ρ S2).bindS fun i S3 => (setT o i v S3).bindS fun _ S4 => .nx ρ S4
theorem s_sub {o i : Expr} {mo mi : M T} {spos : Pos} (he : PE X e (tM mg X.K E me)) (ho : PE X o (tM mg X.K E mo)) (hi : PE X i (tM mg X.K E mi)) (ha : ∀ v, assign (.Subscript o i pos) X.env v = (do
      let ov ← holding [v] (eval o X.env)
      let iv ← holding [v, ov] (eval i X.env)
      standAt pos
      holding [v, ov, iv] (setItem ov iv v)
      release [v, ov, iv] [])) (hs : swapsWithSole [.Subscript o i pos] e spos.line X.env = pure false) (hw : swappedStores [.Subscript o i pos] e X.env = pure none)
    (h1 : (assignEach [.Subscript o i pos] X.env).map (·.2) = [assign (.Subscript o i pos) X.env]) : PS X (.Assign [.Subscript o i pos] e spos) (tMS mg X.K E (subS me mo mi)) :=
  PSimp (ps_asg he (pg_sub ho hi (set_T (mg := mg) (E := E)) ha) hs hw h1) fun D σ H h => by
    obtain ⟨ρ, S, μ, π, re, rs, p⟩ := h
    refine ⟨ρ, S, μ, π, re, rs, PostS.bind (rel := relV X.K π) p fun t S1 v H1 μ1 st1 rs1 rt p1 => ?_⟩
    refine ⟨ρ, S1, μ1, π, re.step rs st1, rs1, PostS.bind (rel := relV X.K π) p1 fun t2 S2 v2 H2 μ2 st2 rs2 rt2 p2 => ?_⟩
    refine ⟨ρ, S2, μ2, π, (re.step rs st1).step rs1 st2, rs2, PostS.bind (rel := relV X.K π) p2 fun t3 S3 v3 H3 μ3 st3 rs3 rt3 p3 => ?_⟩
    refine ⟨t2, t3, t, S3, μ3, π, rs3, RelT.step rs2 st3 rt2, rt3, RelT.step rs2 st3 (RelT.step rs1 st2 rt), PostS.bind (rel := relU) p3 fun _ S4 _ H4 μ4 st4 rs4 _ p4 => ?_⟩
    exact p4.nx rs4 ((((re.step rs st1).step rs1 st2).step rs2 st3).step rs3 st4)
/-- names = e -/
def asgM (g : Tg) (m : M T) : MS := fun ρ S => (m ρ S).bindS fun t S1 => match tgT g t S1 ρ with
  | some ρ' => .nx ρ' S1
  | none => .bad
theorem s_asg {g : Tg} {tg : Expr} (he : PE X e (tM mg X.K E me)) (hg : PG X tg (tTg X.K g)) (hs : swapsWithSole [tg] e pos.line X.env = pure false) (hw : swappedStores [tg] e X.env = pure none) (h1 : (assignEach [tg] X.env).map (·.2) = [assign tg X.env]) :
    PS X (.Assign [tg] e pos) (tMS mg X.K E (asgM g me)) := PSimp (ps_asg he hg hs hw h1) fun D σ H h => by
  obtain ⟨ρ, S, μ, π, re, rs, p⟩ := h
  refine ⟨ρ, S, μ, π, re, rs, PostS.bind (rel := relV X.K π) p fun t S1 v H1 μ1 st1 rs1 rt p1 => ?_⟩
  cases e1 : tgT g t S1 ρ with
  | none => rw [e1] at p1; exact p1.elim
  | some ρ' =>
    rw [e1] at p1
    exact ⟨t, ρ, ρ', S1, μ1, π, re.step rs st1, rs1, rt, e1, fun σ' re' _ _ => p1.nx rs1 re'⟩
/-! ### for -/
noncomputable def gdS (c : Prop) (r : RS) : RS := @ite _ c (Classical.propDecidable c) r .bad
theorem gdS_pos {c : Prop} {r : RS} (h : c) : gdS c r = r := @if_pos c (Classical.propDecidable c) h _ _ _
theorem PostS.gd {c : Prop} {r : RS} (h : PostS mg K π μ H (gdS c r) D E) : c ∧ PostS mg K π μ H r D E := by
  by_cases e : c
  · rw [gdS_pos e] at h; exact ⟨e, h⟩
  · unfold gdS at h
    rw [@if_neg c (Classical.propDecidable c) e] at h
    exact h.elim
noncomputable def forL (src : Src) (g : Tg) (body : MS) : List T → MS
  | [] => fun ρ S => gdS (Grd src.2 src.1 S) (.nx ρ S)
  | t :: ts => fun ρ S => gdS (Grd src.2 src.1 S) (match tgT g t S ρ with
    | some ρ1 => (body ρ1 S).seq (forL src g body ts)
    | none => .bad)
noncomputable def forM (mi : M Src) (g : Tg) (body : MS) : MS := fun ρ S => (mi ρ S).bindS fun src S1 => forL src g body src.1 ρ S1
theorem s_for {iter tg : Expr} {mi : M Src} {g : Tg} {body : List Stmt} (hp : PassesOwn (model X.prog X.w) X.A X.env X.xe) (hc : X.calm = true) (hi : PI X tg iter (tMI mg X.K E mi)) (hg : PG X tg (tTg X.K g)) (hb : PSs X body (tMS mg X.K E m))
    (hs : ∀ x, foldedSetIterable iter X.env x = pure x) : PS X (.For tg iter body [] pos) (tMS mg X.K E (forM mi g m)) := PSimp (ps_for hp hc hi hg hb hs) fun D σ H h => by
  obtain ⟨ρ, S, μ, π, re, rs, p⟩ := h
  refine ⟨ρ, S, μ, π, re, rs, PostS.bind (rel := SrcR X.K π) p fun src S1 J H1 μ1 st1 rs1 sr1 p1 => ?_⟩
  refine ⟨fun i k σ' H' => k = src.1.length - i ∧ ∃ ρ S μ, RelE X.K μ π H' ρ σ' ∧ RelS X.K μ π H' S ∧ SrcR X.K π μ H' src J ∧ PostS mg X.K π μ H' (forL src g m (src.1.drop i) ρ S) D E, ⟨_, rfl, ρ, S1, μ1, re.step rs st1, rs1, sr1, p1⟩, ?_⟩
  rintro i k σ2 H2 ⟨rfl, ρ2, S2, μ2, re2, rs2, sr2, p2⟩
  by_cases hl : i < src.1.length
  · have e1 : src.1.drop i = src.1[i] :: src.1.drop (i + 1) := List.drop_eq_getElem_cons hl
    rw [e1] at p2
    unfold forL at p2
    obtain ⟨gr, p2⟩ := p2.gd
    obtain ⟨go, yd⟩ := sr2.goes rs2 gr (List.getElem?_eq_getElem hl)
    refine .inr ⟨go, fun σ' H' => ∃ ρ S μ, RelE X.K μ π H' ρ σ' ∧ RelS X.K μ π H' S ∧ SrcR X.K π μ H' src J ∧ PostS mg X.K π μ H' (forL src g m (src.1.drop (i + 1)) ρ S) D E, fun σ' H' n => ⟨src.1.length - (i + 1), by omega, rfl, n⟩, fun x H' y => ?_⟩
    obtain ⟨rfl, rx⟩ := yd x H' y
    cases e2 : tgT g src.1[i] S2 ρ2 with
    | none => rw [e2] at p2; exact p2.elim
    | some ρ3 =>
      rw [e2] at p2
      refine ⟨_, ρ2, ρ3, S2, μ2, π, re2, rs2, rx, e2, fun σ' re' _ _ => ?_⟩
      exact ⟨ρ3, S2, μ2, π, re', rs2, PostS.seq p2 rfl fun ρ4 S4 σ4 H4 μ4 st4 rs4 re4 p4 => ⟨ρ4, S4, μ4, re4, rs4, sr2.step rs2 st4, p4⟩⟩
  · rw [List.drop_eq_nil_of_le (by omega)] at p2
    unfold forL at p2
    obtain ⟨gr, p2⟩ := p2.gd
    exact .inl ⟨sr2.done rs2 gr (by omega), p2.nx rs2 re2⟩
end
end RL
end
section
set_option maxRecDepth 100000
set_option maxHeartbeats 2000000
namespace RL
open PySem PySem.Spec PyProof.Rows L2 TL
open scoped RL.R RL.RS

section
variable {X : Cx} {mg : Str → Option Value} {K : W.Frag} {E : XK} {π π' μ μ' : List Addr} {H H' : Hp} {S S' : Sto} {D : Addr}
mutual
theorem RelT.map (hT : ∀ a xs, SqT K H a xs → SqT K H' a xs) (hP : ∀ a xs, SqP K μ π H a xs → SqP K μ' π' H' a xs) (hg : ∀ (n : Nat) (a : Addr), μ[n]? = some a → μ'[n]? = some a) (hX : ∀ d vs, H d = some (.xd vs) → d ∉ μ → H' d = some (.xd vs) ∧ d ∉ μ') : ∀ {t : T} {v : V}, RelT K μ π H t v → RelT K μ' π' H' t v
  | .non, _, h => by unfold RelT at *; exact h
  | .bl _, _, h => by unfold RelT at *; exact h
  | .int _, _, h => by unfold RelT at *; exact h
  | .str _, _, h => by unfold RelT at *; exact h
  | .ty _, _, h => by unfold RelT at *; exact h
  | .tup ts, _, h => by
    unfold RelT at *
    obtain ⟨a, xs, e, q, r⟩ := h
    exact ⟨a, xs, e, hT a xs q, RelTs.map hT hP hg hX r⟩
  | .lst ts, _, h => by
    unfold RelT at *
    obtain ⟨a, xs, e, q, r⟩ := h
    exact ⟨a, xs, e, hP a xs q, RelTs.map hT hP hg hX r⟩
  | .loc n, _, h => by
    unfold RelT at *
    obtain ⟨a, e, q⟩ := h
    exact ⟨a, e, hg n a q⟩
  | .exn a d f t, _, h => by
    unfold RelT at *
    obtain ⟨e, vs, w, h1, h2, h3, h4⟩ := h
    obtain ⟨h1', h2'⟩ := hX d vs h1 h2
    exact ⟨e, vs, w, h1', h2', h3, RelT.map hT hP hg hX h4⟩
theorem RelTs.map (hT : ∀ a xs, SqT K H a xs → SqT K H' a xs) (hP : ∀ a xs, SqP K μ π H a xs → SqP K μ' π' H' a xs) (hg : ∀ (n : Nat) (a : Addr), μ[n]? = some a → μ'[n]? = some a) (hX : ∀ d vs, H d = some (.xd vs) → d ∉ μ → H' d = some (.xd vs) ∧ d ∉ μ') : ∀ {ts : List T} {vs : List V}, RelTs K μ π H ts vs → RelTs K μ' π' H' ts vs
  | [], _, h => by unfold RelTs at *; exact h
  | t :: ts, _, h => by
    unfold RelTs at *
    obtain ⟨v, r, e, h1, h2⟩ := h
    exact ⟨v, r, e, RelT.map hT hP hg hX h1, RelTs.map hT hP hg hX h2⟩
end
theorem rd_some {a : Addr} {u : HO} (h : Rd H a u) : H a ≠ none := by
  rcases h with h | ⟨o, h⟩ <;> rw [h] <;> exact fun z => nomatch z
/-- what stood ahead of D's making -/
theorem SqP.late (s : Stp μ H μ' H') (hD : H D = none) {a : Addr} {xs : List V} (h : SqP K μ π H a xs) : SqP K μ' (D :: π) H' a xs := by
  have q := SqP.step s h
  rcases q with ⟨q1, q2, q3⟩ | q
  · rcases h with ⟨h1, _⟩ | h
    · exact .inl ⟨q1, q2, fun z => (List.mem_cons.mp z).elim (fun e => rd_some h1 (by rw [e]; exact hD)) q3⟩
    · exact .inr h
  · exact .inr q
theorem RelT.late (hs : RelS K μ π H S) (s : Stp μ H μ' H') (hD : H D = none) {t : T} {v : V} (h : RelT K μ π H t v) : RelT K μ' (D :: π) H' t v :=
  RelT.map (fun _ _ q => SqT.stepK hs s q) (fun _ _ q => SqP.late s hD q) (fun _ _ q => s.get q) (fun _ _ h1 h2 => ⟨s.keep _ _ h1 h2, s.nin h1 h2⟩) h
theorem RelTs.late (hs : RelS K μ π H S) (s : Stp μ H μ' H') (hD : H D = none) {t : List T} {v : List V} (h : RelTs K μ π H t v) : RelTs K μ' (D :: π) H' t v :=
  RelTs.map (fun _ _ q => SqT.stepK hs s q) (fun _ _ q => SqP.late s hD q) (fun _ _ q => s.get q) (fun _ _ h1 h2 => ⟨s.keep _ _ h1 h2, s.nin h1 h2⟩) h
theorem RelE.late {ρ : Env'} {σ : L2.St} (hs : RelS K μ π H S) (s : Stp μ H μ' H') (hD : H D = none) (h : RelE K μ π H ρ σ) : RelE K μ' (D :: π) H' ρ σ :=
  ⟨h.len, fun i t e => let ⟨v, e', r⟩ := h.at_ i t e; ⟨v, e', RelT.late hs s hD r⟩⟩
theorem SrcR.late {src : Src} {J : It} (hs : RelS K μ π H S) (s : Stp μ H μ' H') (hD : H D = none) (h : SrcR K π μ H src J) : SrcR K (D :: π) μ' H' src J := by
  cases h with
  | lst q r => exact .lst (SqP.late s hD q) (RelTs.late hs s hD r)
  | tup q r => exact .tup (SqT.stepK hs s q) (RelTs.late hs s hD r)
  | loc q => exact .loc (s.get q)
  | rng => exact .rng
  | rngC => exact .rngC
  | str => exact .str
/-- D is written -/
theorem SqT.wr {ys : List V} {o : HO} (hD : H D = some (.lst ys)) {a : Addr} {xs : List V} (h : SqT K H a xs) : SqT K (upd H D o) a xs := by
  rcases h with h | h
  · have ne : a ≠ D := fun e => by
      subst e
      rcases h with h | ⟨_, h⟩ <;> rw [hD] at h <;> cases h
    rcases h with h | ⟨u, h⟩
    · exact .inl (.inl (by rw [upd_ne ne]; exact h))
    · exact .inl (.inr ⟨u, by rw [upd_ne ne]; exact h⟩)
  · exact .inr h
theorem SqP.wr {o : HO} {a : Addr} {xs : List V} (h : SqP K μ (D :: π) H a xs) : SqP K μ (D :: π) (upd H D o) a xs := by
  rcases h with ⟨h, h1, h2⟩ | h
  · have ne : a ≠ D := fun e => h2 (by rw [e]; exact List.mem_cons_self ..)
    refine .inl ⟨?_, h1, h2⟩
    rcases h with h | ⟨u, h⟩
    · exact .inl (by rw [upd_ne ne]; exact h)
    · exact .inr ⟨u, by rw [upd_ne ne]; exact h⟩
  · exact .inr h
theorem RelTs.wr {ys : List V} {o : HO} (hD : H D = some (.lst ys)) {t : List T} {v : List V} (h : RelTs K μ (D :: π) H t v) : RelTs K μ (D :: π) (upd H D o) t v :=
  RelTs.map (fun _ _ q => SqT.wr hD q) (fun _ _ q => SqP.wr q) (fun _ _ q => q) (fun d _ h1 h2 => ⟨by rw [upd_ne (fun e => by rw [e, hD] at h1; cases h1)]; exact h1, h2⟩) h
theorem RelS.wr {ys zs : List V} (hD : H D = some (.lst ys)) (hs : RelS K μ (D :: π) H S) : RelS K μ (D :: π) (upd H D (.lst zs)) S := by
  have nD := (hs.pi D (List.mem_cons_self ..)).2
  refine ⟨hs.len, hs.nd, fun n ts e => ?_, fun b hb => ⟨?_, (hs.pi b hb).2⟩⟩
  · obtain ⟨a, xs, h1, h2, h3⟩ := hs.at_ n ts e
    exact ⟨a, xs, h1, by rw [upd_ne (fun z => nD (by rw [← z]; exact List.mem_of_getElem? h1))]; exact h2, RelTs.wr hD h3⟩
  · by_cases e : b = D
    · rw [e, upd_same]; exact fun z => nomatch z
    · rw [upd_ne e]; exact (hs.pi b hb).1
theorem stp_wr {o : HO} (s : Stp μ H μ' H') (hD : H D = none) : Stp μ H μ' (upd H' D o) :=
  ⟨s.ext, fun a u e ha => by rw [upd_ne (ne_of_none e hD)]; exact s.keep a u e ha⟩
/-- D is let go: it is a value -/
theorem SqP.out {a : Addr} {xs : List V} (h : SqP K μ (D :: π) H a xs) : SqP K μ π H a xs := by
  rcases h with ⟨h, h1, h2⟩ | h
  · exact .inl ⟨h, h1, fun z => h2 (List.mem_cons_of_mem _ z)⟩
  · exact .inr h
theorem RelTs.out {t : List T} {v : List V} (h : RelTs K μ (D :: π) H t v) : RelTs K μ π H t v := RelTs.map (fun _ _ q => q) (fun _ _ q => SqP.out q) (fun _ _ q => q) (fun _ _ h1 h2 => ⟨h1, h2⟩) h
theorem RelS.out (hs : RelS K μ (D :: π) H S) : RelS K μ π H S :=
  ⟨hs.len, hs.nd, fun n ts e => let ⟨a, xs, h1, h2, h3⟩ := hs.at_ n ts e; ⟨a, xs, h1, h2, h3.out⟩, fun b hb => hs.pi b (List.mem_cons_of_mem _ hb)⟩
/-- .. or it may change -/
theorem SqP.outM {a : Addr} {xs : List V} (h : SqP K μ (D :: π) H a xs) : SqP K (μ ++ [D]) π H a xs := by
  rcases h with ⟨h, h1, h2⟩ | h
  · exact .inl ⟨h, fun z => (List.mem_append.mp z).elim h1 fun z => h2 (by rw [List.mem_singleton.mp z]; exact List.mem_cons_self ..), fun z => h2 (List.mem_cons_of_mem _ z)⟩
  · exact .inr h
theorem RelTs.outM {t : List T} {v ys : List V} (hD : H D = some (.lst ys)) (h : RelTs K μ (D :: π) H t v) : RelTs K (μ ++ [D]) π H t v := RelTs.map (fun _ _ q => q) (fun _ _ q => SqP.outM q) (fun n a q => by rw [List.getElem?_append_left (List.getElem?_eq_some_iff.mp q).1]; exact q) (fun d _ h1 h2 => ⟨h1, fun z => (List.mem_append.mp z).elim h2 fun z => by rw [List.mem_singleton.mp z, hD] at h1; cases h1⟩) h
theorem RelS.outM {ts : List T} {xs : List V} (hs : RelS K μ (D :: π) H S) (hn : D ∉ π) (hD : H D = some (.lst xs)) (r : RelTs K μ (D :: π) H ts xs) : RelS K (μ ++ [D]) π H (S ++ [ts]) := by
  have nD := (hs.pi D (List.mem_cons_self ..)).2
  refine ⟨by rw [List.length_append, List.length_append, hs.len]; rfl, List.nodup_append.mpr ⟨hs.nd, by simp, fun a ha b hb => by rw [List.mem_singleton.mp hb]; exact fun e => nD (e ▸ ha)⟩, fun n us e => ?_, fun b hb => ?_⟩
  · by_cases hl : n < S.length
    · rw [List.getElem?_append_left hl] at e
      obtain ⟨a, ys, h1, h2, h3⟩ := hs.at_ n us e
      exact ⟨a, ys, by rw [List.getElem?_append_left (List.getElem?_eq_some_iff.mp h1).1]; exact h1, h2, RelTs.outM hD h3⟩
    · rw [List.getElem?_append_right (by omega)] at e
      have hn2 : n = S.length := by
        have := (List.getElem?_eq_some_iff.mp e).1
        simp at this; omega
      subst hn2
      simp at e; subst e
      exact ⟨D, xs, by rw [hs.len, List.getElem?_append_right (Nat.le_refl _)]; simp, hD, RelTs.outM hD r⟩
  · obtain ⟨h1, h2⟩ := hs.pi b (List.mem_cons_of_mem _ hb)
    exact ⟨h1, fun hm => (List.mem_append.mp hm).elim h2 fun z => hn (by rw [← List.mem_singleton.mp z]; exact hb)⟩
end

/-! ## [.. for .. in .. if ..] -/
def wipeE (ρ : Env') : List Nat → Env'
  | [] => ρ
  | v :: vs => (wipeE ρ vs).set v none
def calm {α : Type} (r : R α) : R α := match r with
  | .ok a S => .ok a S
  | _ => .bad
@[scoped simp] theorem calm_ok {α : Type} (a : α) (S : Sto) : calm (R.ok a S) = .ok a S := rfl
@[scoped simp] theorem calm_bad {α : Type} : calm (R.bad : R α) = .bad := rfl
@[scoped simp] theorem calm_err {α : Type} (c : Str) (fs : List (Str × T)) (S : Sto) : calm (R.err c fs S : R α) = .bad := rfl
noncomputable def lcL (src : Src) (g : Tg) (tt : M Bool) (me : M T) : List T → List T → Env' → Sto → R (List T)
  | [], acc, _, S => gdc (Grd src.2 src.1 S) (.ok acc S)
  | t :: ts, acc, ρ, S => gdc (Grd src.2 src.1 S) (match tgT g t S ρ with
    | some ρ1 => (tt ρ1 S).bind fun b S1 => if b = true then (me ρ1 S1).bind fun y S2 => gd (acc.length < sizeLine) (lcL src g tt me ts (acc ++ [y]) ρ S2) else lcL src g tt me ts acc ρ S1
    | none => .bad)
noncomputable def lcM (mu : Bool) (own : List Nat) (mi : M Src) (g : Tg) (tt : M Bool) (me : M T) : M T := fun ρ S => (mi ρ S).bind fun src S1 => (calm (lcL src g tt me src.1 [] (wipeE ρ own) S1)).bind (lstT mu)
def yesM : M Bool := fun _ S => .ok true S
section
variable {X : Cx} {mg : Str → Option Value} {K : W.Frag} {E : XK} {π π' μ μ' : List Addr} {H H' : Hp} {S S' : Sto} {D : Addr}
theorem wipeE_length (ρ : Env') : ∀ vs : List Nat, (wipeE ρ vs).length = ρ.length
  | [] => rfl
  | v :: vs => by unfold wipeE; rw [List.length_set, wipeE_length ρ vs]
theorem RelE.wipe {ρ : Env'} {σ : L2.St} (h : RelE K μ π H ρ σ) : ∀ vs : List Nat, RelE K μ π H (wipeE ρ vs) (L2.wipe σ vs)
  | [] => h
  | v :: vs => by
    have ih := RelE.wipe h vs
    unfold wipeE L2.wipe
    refine ⟨by rw [List.length_set, List.length_set]; exact ih.len, fun i t e => ?_⟩
    by_cases hi : v = i
    · subst hi
      by_cases hv : v < (wipeE ρ vs).length
      · rw [List.getElem?_set_self hv] at e; cases e
      · rw [List.getElem?_eq_none (by rw [List.length_set]; omega)] at e; cases e
    · rw [List.getElem?_set_ne hi] at e
      obtain ⟨w, e', r⟩ := ih.at_ i t e
      exact ⟨w, by rw [List.getElem?_set_ne hi]; exact e', r⟩
theorem wipe_get (σ : L2.St) (j : Nat) : ∀ vs : List Nat, (L2.wipe σ vs)[j]? = if j ∈ vs ∧ j < σ.length then some none else σ[j]?
  | [] => by simp [L2.wipe]
  | v :: vs => by
    unfold L2.wipe
    have ih := wipe_get σ j vs
    have hl := L2.wipe_length σ vs
    by_cases hv : v = j
    · subst hv
      by_cases hj : v < σ.length
      · rw [List.getElem?_set_self (by omega), if_pos ⟨List.mem_cons_self .., hj⟩]
      · rw [List.getElem?_eq_none (by rw [List.length_set]; omega), if_neg (fun z => hj z.2), List.getElem?_eq_none (by omega)]
    · rw [List.getElem?_set_ne hv, ih]
      have e : (j ∈ v :: vs) = (j ∈ vs) := propext ⟨fun z => (List.mem_cons.mp z).resolve_left fun e => hv e.symm, List.mem_cons_of_mem _⟩
      by_cases c : j ∈ vs ∧ j < σ.length
      · rw [if_pos c, if_pos ⟨List.mem_cons_of_mem _ c.1, c.2⟩]
      · rw [if_neg c, if_neg fun z => c ⟨e ▸ z.1, z.2⟩]
theorem wipe_eq {σ σ' : L2.St} {vs is : List Nat} (hl : σ'.length = (L2.wipe σ vs).length) (hi : ∀ i ∈ is, i ∈ vs) (h : ∀ j, j ∉ is → σ'[j]? = (L2.wipe σ vs)[j]?) : L2.wipe σ' vs = L2.wipe σ vs := by
  refine List.ext_getElem? fun j => ?_
  rw [L2.wipe_length] at hl
  rw [wipe_get σ' j vs, wipe_get σ j vs, hl]
  by_cases hj : j ∈ vs ∧ j < σ.length
  · rw [if_pos hj, if_pos hj]
  · rw [if_neg hj, if_neg hj]
    by_cases hm : j ∈ vs
    · rw [List.getElem?_eq_none (by rw [hl]; exact Nat.le_of_not_lt fun z => hj ⟨hm, z⟩), List.getElem?_eq_none (Nat.le_of_not_lt fun z => hj ⟨hm, z⟩)]
    · rw [h j (fun z => hm (hi j z)), wipe_get, if_neg hj]
theorem Post.cgd {α β γ : Type} {rel : List Addr → Hp → γ → β → Prop} {c : Prop} {r : R α} {f : α → Sto → R γ} {Q : β → Hp → Prop} (h : Post rel mg K π μ H ((calm (RL.gdc c r)).bind f) Q E) : c ∧ Post rel mg K π μ H ((calm r).bind f) Q E := by
  by_cases e : c
  · rw [gdc_pos e] at h; exact ⟨e, h⟩
  · unfold RL.gdc RL.gd at h
    rw [@if_neg c (Classical.propDecidable c) e] at h
    exact h.elim
theorem lc_imp {mu : Bool} {own : List Nat} {mi : M Src} {g : Tg} {tt : M Bool} {me : M T} {σ : L2.St} {Q : VK} (hg : ∀ i ∈ g.slots, i ∈ own) (h : tM mg K E (lcM mu own mi g tt me) σ H Q) : tLc (tMI mg K E mi) (tTg K g) (tMB mg K E0 tt) (tM mg K E0 me) own σ H Q := by
  obtain ⟨ρ, S, μ, π, re, rs, p⟩ := h
  unfold lcM at p
  refine ⟨ρ, S, μ, π, re, rs, Post.bind (rel := SrcR K π) (rel' := relV K π) p fun src S1 J H1 μ1 st1 rs1 sr1 p1 => ?_⟩
  have re1 := (re.step rs st1).wipe own
  intro D hD
  have ni := new_nin rs1 hD
  have s0 : Stp μ1 H1 μ1 (upd H1 D (.lst [])) := stp_new hD
  refine ⟨fun i k H => k = src.1.length - i ∧ ∃ S μ acc vs, Stp μ1 H1 μ H ∧ RelS K μ (D :: π) H S ∧ H D = some (.lst vs) ∧ RelTs K μ (D :: π) H acc vs ∧ Post (relV K π) mg K π μ1 H1 ((calm (lcL src g tt me (src.1.drop i) acc (wipeE ρ own) S)).bind (lstT mu)) Q E,
    ⟨_, rfl, S1, μ1, [], [], s0, ⟨rs1.len, rs1.nd, fun n ts e => ?_, fun b hb => ?_⟩, upd_same, relTs_nil, p1⟩, ?_⟩
  · obtain ⟨a, xs, h1, h2, h3⟩ := rs1.at_ n ts e
    exact ⟨a, xs, h1, by rw [upd_ne (ne_of_none h2 hD)]; exact h2, RelTs.late rs1 s0 hD h3⟩
  · rcases List.mem_cons.mp hb with e | hb
    · subst e
      exact ⟨by rw [upd_same]; exact (fun z => nomatch z), ni.1⟩
    · obtain ⟨h1, h2⟩ := rs1.pi b hb
      exact ⟨by rw [upd_ne (fun e => ni.2 (by rw [← e]; exact hb))]; exact h1, h2⟩
  rintro i k H2 ⟨rfl, S2, μ2, acc, vs, s2, rs2, hD2, ra2, p2⟩
  have sr2 := SrcR.late rs1 s2 hD sr1
  have re2 := RelE.late rs1 s2 hD re1
  have nD2 := (rs2.pi D (List.mem_cons_self ..)).2
  by_cases hl : i < src.1.length
  · have e1 : src.1.drop i = src.1[i] :: src.1.drop (i + 1) := List.drop_eq_getElem_cons hl
    rw [e1] at p2
    unfold lcL at p2
    obtain ⟨gr, p2⟩ := Post.cgd p2
    obtain ⟨go, yd⟩ := sr2.goes rs2 gr (List.getElem?_eq_getElem hl)
    refine .inr ⟨go, fun H => ∃ S μ acc vs, Stp μ1 H1 μ H ∧ RelS K μ (D :: π) H S ∧ H D = some (.lst vs) ∧ RelTs K μ (D :: π) H acc vs ∧ Post (relV K π) mg K π μ1 H1 ((calm (lcL src g tt me (src.1.drop (i + 1)) acc (wipeE ρ own) S)).bind (lstT mu)) Q E,
      fun H' n => ⟨src.1.length - (i + 1), by omega, rfl, n⟩, fun x H' y => ?_⟩
    obtain ⟨rfl, rx⟩ := yd x H' y
    cases e2 : tgT g src.1[i] S2 (wipeE ρ own) with
    | none => rw [e2] at p2; exact p2.elim
    | some ρ3 =>
      rw [e2] at p2
      refine ⟨_, _, ρ3, S2, μ2, D :: π, re2, rs2, rx, e2, fun σ' re' hl' hs' => ⟨wipe_eq hl' hg hs', ρ3, S2, μ2, D :: π, re', rs2, ?_⟩⟩
      dsimp only at p2
      cases e3 : tt ρ3 S2 with
      | err c fs S3 => rw [e3] at p2; exact p2.elim
      | bad => rw [e3] at p2; exact p2.elim
      | ok b S3 =>
        rw [e3] at p2
        intro b' H3 μ3 s3 rs3 eb
        have eb : b = b' := eb
        subst eb
        have s13 := s2.trans rs2 s3
        have hD3 := s3.keep D _ hD2 nD2
        cases b with
        | false => exact ⟨S3, μ3, acc, vs, s13, rs3, hD3, RelTs.step rs2 s3 ra2, p2⟩
        | true =>
          refine ⟨ρ3, S3, μ3, D :: π, re'.step rs2 s3, rs3, ?_⟩
          simp only [R.bind_ok, if_true] at p2
          cases e4 : me ρ3 S3 with
          | err c fs S4 => rw [e4] at p2; exact p2.elim
          | bad => rw [e4] at p2; exact p2.elim
          | ok y S4 =>
            rw [e4] at p2
            intro v H4 μ4 s4 rs4 rv
            have nD3 := (rs3.pi D (List.mem_cons_self ..)).2
            have hD4 := s4.keep D _ hD3 nD3
            have ra4 := RelTs.step rs3 s4 (RelTs.step rs2 s3 ra2)
            simp only [R.bind_ok] at p2
            by_cases c : acc.length < sizeLine
            · rw [gd_pos c] at p2
              refine ⟨vs, hD4, by rw [ra2.length]; exact c, S4, μ4, acc ++ [y], vs ++ [v], stp_wr (s13.trans rs3 s4) hD, RelS.wr hD4 rs4, upd_same, RelTs.wr hD4 (ra4.append (relTs_cons rv relTs_nil)), p2⟩
            · unfold RL.gd at p2
              rw [if_neg c] at p2
              exact p2.elim
  · rw [List.drop_eq_nil_of_le (by omega)] at p2
    unfold lcL at p2
    obtain ⟨gr, p2⟩ := Post.cgd p2
    refine .inl ⟨sr2.done rs2 gr (by omega), ?_⟩
    simp only [calm_ok, R.bind_ok] at p2
    unfold lstT at p2
    by_cases c : acc.length ≤ sizeLine
    · rw [if_pos c] at p2
      cases mu with
      | false =>
        exact p2 (.ref D) H2 μ2 s2 rs2.out (by
          show RelT K μ2 π H2 (.lst acc) (.ref D)
          unfold RelT
          exact ⟨D, vs, rfl, .inl ⟨.inl hD2, nD2, ni.2⟩, ra2.out⟩)
      | true =>
        refine p2 (.ref D) H2 (μ2 ++ [D]) ⟨?_, s2.keep⟩ (rs2.outM ni.2 hD2 ra2) (by
          show RelT K (μ2 ++ [D]) π H2 (.loc S2.length) (.ref D)
          unfold RelT
          exact ⟨D, rfl, by rw [rs2.len, List.getElem?_append_right (Nat.le_refl _)]; simp⟩)
        obtain ⟨ν, e, f⟩ := s2.ext
        exact ⟨ν ++ [D], by rw [e, List.append_assoc], fun a ha => (List.mem_append.mp ha).elim (f a) fun z => by rw [List.mem_singleton.mp z]; exact hD⟩
    · rw [if_neg c] at p2; exact p2.elim
theorem t_nil : PTs X [] (tMB mg K E yesM) := ⟨fun pins s σ H Q I h => pts_nil.run pins s σ H Q I (by
  obtain ⟨ρ, S, μ, π, re, rs, p⟩ := h
  exact p true H μ Stp.refl rs rfl)⟩
theorem t_one {c : Expr} {m : M Bool} (h : PT X c (tMB mg K E m)) : PTs X [c] (tMB mg K E m) := pts_one h
theorem e_lc {mu : Bool} {elt tg iter : Expr} {ifs : List Expr} {scope : Scope} {own : List (Str × Nat)} {pos : Pos} {mi : M Src} {g : Tg} {tt : M Bool} {me : M T} (hc : X.calm = true) (hN : X.N.Nodup) (hi : PI X tg iter (tMI mg X.K E mi)) (ok : BlkOk X.N X.env.scope scope own) (hv : ∀ i ∈ g.slots, i ∈ own.map (·.2))
    (hg : ∀ (s : Shared) (H : Hp) (C : Addr) (cl : List (Str × Addr)) (fp : List Addr), PG (X.blk s H scope (compEnvC scope cl C X.env) fp) tg (tTg X.K g))
    (ht : ∀ (s : Shared) (H : Hp) (C : Addr) (cl : List (Str × Addr)) (fp : List Addr), PTs (X.blk s H scope (compEnvC scope cl C X.env) fp) ifs (tMB mg X.K E0 tt))
    (he : ∀ (s : Shared) (H : Hp) (C : Addr) (cl : List (Str × Addr)) (fp : List Addr), PE (X.blk s H scope (compEnvC scope cl C X.env) fp) elt (tM mg X.K E0 me)) (hs : ∀ x, foldedSetIterable iter X.env x = pure x) :
    PE X (.ListComp elt [⟨tg, iter, ifs, 0⟩] scope pos) (tM mg X.K E (lcM mu (own.map (·.2)) mi g tt me)) :=
  PEimp (pe_lc hc hN hi ok hg ht he hs) fun _ _ _ h => lc_imp hv h
theorem s_setLc {mu : Bool} {i : Nat} {y : Str} {py : Pos} {elt tg iter : Expr} {ifs : List Expr} {scope : Scope} {own : List (Str × Nat)} {pos spos : Pos} {mi : M Src} {g : Tg} {tt : M Bool} {me : M T} (hc : X.calm = true) (hN : X.N.Nodup) (hy : X.N[i]? = some y) (hyl : X.env.scope.names.lookup y = some .local)
    (hsw : swapsWith (.ListComp elt [⟨tg, iter, ifs, 0⟩] scope pos) (some (.Name y py)) spos.line X.env = pure true) (hi : PI X tg iter (tMI mg X.K E mi)) (ok : BlkOk X.N X.env.scope scope own) (hv : ∀ i ∈ g.slots, i ∈ own.map (·.2))
    (hg : ∀ (s : Shared) (H : Hp) (C : Addr) (cl : List (Str × Addr)) (fp : List Addr), PG (X.blk s H scope (compEnvC scope cl C X.env) fp) tg (tTg X.K g))
    (ht : ∀ (s : Shared) (H : Hp) (C : Addr) (cl : List (Str × Addr)) (fp : List Addr), PTs (X.blk s H scope (compEnvC scope cl C X.env) fp) ifs (tMB mg X.K E0 tt))
    (he : ∀ (s : Shared) (H : Hp) (C : Addr) (cl : List (Str × Addr)) (fp : List Addr), PE (X.blk s H scope (compEnvC scope cl C X.env) fp) elt (tM mg X.K E0 me)) (hs : ∀ x, foldedSetIterable iter X.env x = pure x) :
    PS X (.Assign [.Name y py] (.ListComp elt [⟨tg, iter, ifs, 0⟩] scope pos) spos) (tMS mg X.K E (setM i (lcM mu (own.map (·.2)) mi g tt me))) :=
  PSimp (ps_setLc hc hN hy hyl hsw hi ok hg ht he hs) fun D σ H h => by
    obtain ⟨ρ, S, μ, π, re, rs, p⟩ := h
    exact lc_imp hv ⟨ρ, S, μ, π, re, rs, PostS.bind (rel := relV X.K π) p fun t S1 v H1 μ1 st1 rs1 rt p1 => p1.nx rs1 ((re.step rs st1).set rt)⟩
end
end RL
end
section
set_option maxRecDepth 100000
set_option maxHeartbeats 2000000
namespace RL
open PySem PySem.Spec PyProof.Rows L2 TL
open scoped RL.R RL.RS

section
variable {K : W.Frag} {mg : Str → Option Value} {π μ μ' : List Addr} {H H' : Hp} {S S' : Sto}
theorem stp_keep (k : ∀ b o, H b = some o → H' b = some o) : Stp μ H μ H' := ⟨⟨[], by simp, fun _ z => absurd z (by simp)⟩, fun b o e _ => k b o e⟩
theorem relS_keep (k : ∀ b o, H b = some o → H' b = some o) (hs : RelS K μ π H S) : RelS K μ π H' S :=
  ⟨hs.len, hs.nd, fun n ts e => let ⟨a, xs, h1, h2, h3⟩ := hs.at_ n ts e; ⟨a, xs, h1, k _ _ h2, RelTs.step hs (stp_keep k) h3⟩, fun b hb => ⟨by
    cases e : H b with
    | none => exact absurd e (hs.pi b hb).1
    | some o => rw [k b o e]; exact (fun z => nomatch z), (hs.pi b hb).2⟩⟩
end

theorem passN {X : Cx} : Passes (L2N.CX X.prog X.w) X E0 := fun _ _ _ _ _ _ _ h => by
  obtain ⟨_, _, _, _, _, _, _, _, _, _, _, _, z⟩ := h
  exact z.elim
theorem okN {CX' : CXT} {P : Program} {w : World} {K : W.Frag} {mg : Str → Option Value} {base : Heap} {x qual : Str} {st : Stmt} {f : Addr} {fd : FuncData} {N ps : List Str} {k : Nat} {sp : Sp} (F : Fun K x qual st f fd) (S : FnScope N ps (defScope st))
    (hl : ∀ vs H Q E, sp vs H Q E → vs.length = ps.length)
    (hb : ∀ (cdv : Value) (A : Around) (outer : List Env) (s : Shared) (H : Hp) (vs : List V) (Q : VK) (E : XK), Room k (A.deeper (envOfC qual (defScope st) s.heap.objs.size f cdv)) → sp vs H Q E →
      ∃ t, PSs (cxOf CX' P w K mg base N qual (defScope st) f cdv A outer s H E) (defBody st) t ∧ t { nx := fun _ H' => Q .non H', rt := Q } (L2.start N vs) H) : FnOk P w K mg base CX' (k + 1) f fd ps sp := by
  obtain ⟨_, _, _, _, _, _, c, _, _, rfl, lk, hcd⟩ := F.ex
  exact fn_of lk hcd S hl fun A outer s H vs Q E hr hsp => hb c A outer s H vs Q E hr hsp
/-- C(e, ..) where nothing is handled: what is made has no context -/
theorem pmkN {X : Cx} {CX' : CXT} {x : Str} {e : Expr} {es : List Expr} {ta : TA} {p pos : Pos} {C fI : Addr} {k : Nat} {fd : FuncData} {ps : List Str} {sp : Sp} (T : OexC X.K C) (iC : W.findIn X.K (.ref C) "__init__" = some (some (.ref fI)))
    (tI : W.typeIn X.K (.ref fI) = some (.type "function")) (FI : FnOk X.prog X.w X.K X.mg X.base CX' k fI fd ps sp) (room : Room (k + 1) X.A) (bnd : Binds X.K fd ps []) (hx : Passes CX' X E0)
    (hg : Gl X x) (hm : X.mg x = some (.ref C)) (args : PA X (e :: es) ta) (hdb : (x == ("__debug__" : Str)) = false) (he : starEach (e :: es) X.env = (false, eval e X.env) :: starEach es X.env)
    (hpl : (backTo pos (starEach es X.env)).any (·.1) = false) : L2N.PMk X (.Call (.Name x p) (e :: es) [] pos) (tMkO C sp [] ta) := by
  intro pins s0 σ0 H0 Q0 J0 hyp
  obtain ⟨a1, a2, a3, a4, mm, a6, a7, a8, a9, b1, b2, b3, b4, b5, b6, klass, refs⟩ := T.cls
  have cont : ∀ Y, _ := fun Y => HandSPX.refsVE_contains Y mm refs
  refine wpAny_Call_Name_kw (ld_glob J0 hg hm ?_ hdb)
  refine W.callWith_K (h₀ := X.base) J0.ok.mod.kin T.kC (thn (args.run pos pins s0 σ0 H0 _ J0 hyp) fun us sA hA => ?_) he hpl
  obtain ⟨vs, HA, JA, rA, short, want⟩ := hA
  refine ⟨JA.kIn, ?_⟩
  obtain ⟨hh, gg, dd, tt, oo⟩ := sA
  have below : hh.objs.size ≤ hh.objs.size + 1 := Nat.le_succ _
  have spec0 := want _ (JA.hok.fresh below)
  rw [List.append_nil] at spec0
  generalize hB : ((hh.push (W.kdv_tup us)).push (HandSPX.excO C hh.objs.size)) = hhB
  have grow : ∀ b o, hh.get? b = some o → hhB.get? b = some o := fun b o q => by
    rw [← hB]
    exact Heap.get?_push_of_some _ (Heap.get?_push_of_some _ q)
  have there : hhB.get? (hh.objs.size + 1) = some (HandSPX.excO C hh.objs.size) := by
    rw [← hB]
    heap_get
  have JB : Inv X pins σ0 (upd HA (hh.objs.size + 1) (exo (hh.objs.size + 1) C none)) ⟨hhB, gg, dd, tt, oo⟩ := JA.laid grow below (exo_ok there)
  have rB : Vals (V.ref (hh.objs.size + 1) :: vs) (Value.ref (hh.objs.size + 1) :: us) := .cons rfl rA
  have lenB : (Value.ref (hh.objs.size + 1) :: us).length = ps.length := rB.length.symm.trans (FI.len _ _ _ _ spec0)
  have few : us.length ≤ sizeLine := by
    rw [← rA.length, sizeLine_eq]
    omega
  have bound := bnd _ (Value.ref (hh.objs.size + 1) :: us) JB.kIn (by rw [List.append_nil]; exact lenB)
  rw [List.append_nil] at bound
  have ran := FI.run _ X.stack _ _ ⟨Value.ref (hh.objs.size + 1) :: us, []⟩ _ _ _ E0 (room.make C us []) (JB.env0.make C us []) bound rB spec0
  subst hB
  refine wpAny_call (HandSPX.call_own F.excBase_ValueError cont (JA.kIn _ _ klass) (W.looks_findIn JA.kIn iC) (fun self => W.bind_fn JA.kIn self tI) few (codeAny_mono ran fun res sC out => ?_))
  cases res with
  | error er => exact hx pins σ0 _ _ er sC JB out
  | ok fl =>
    cases fl with
    | next => exact out.elim
    | brk => exact out.elim
    | cont => exact out.elim
    | ret u =>
      obtain ⟨vv, HC, osC, bareC, unC, hokC, rv, evn, d, fs, atA, atD, freshD, fin⟩ := out
      subst evn
      obtain ⟨hC, gC, dC, tC, oC⟩ := sC
      obtain ⟨t0, G, JG, up, gone, obj, free⟩ := mk_end0 (d2 := dC) (t2 := tC) JA below grow unC hokC osC bareC atA atD freshD
      refine ⟨rv, _, _, _, ⟨G, gC, dC, tC, oC⟩, _, .ref C, some d, rfl, JG, up, gone, obj, ⟨rfl, rfl, fun ws q => ?_⟩, rfl, rfl, free, rfl, bareC, raises_own T.exC T.tyC, fin⟩
      cases q
      rfl
/-! ## an own error with one field -/
/-- C.__init__(self, x): self.f = x -/
def spInit (K : W.Frag) (f : Str) : Sp := fun vs H Q _ => ∃ (a C : Addr) (y : V), vs = [.ref a, y] ∧ OexC K C ∧ PySem.W.findIn K (.ref C) f = some none ∧ H a = some (exo a C none) ∧
  ∀ dx, H dx = none → dx ≠ a → Q .non (upd (upd H dx (exd dx [(f, y)])) a (exo a C (some dx)))
/-- what is known of the class -/
structure ErrC (P : Program) (w : World) (K : W.Frag) (mg : Str → Option Value) (base : Heap) (x f : Str) : Prop where
  ex : ∃ (C fI : Addr) (fd : FuncData) (ps : List Str), mg x = some (.ref C) ∧ OexC K C ∧ PySem.W.findIn K (.ref C) f = some none ∧ PySem.W.findIn K (.ref C) "__init__" = some (some (.ref fI)) ∧ PySem.W.typeIn K (.ref fI) = some (.type "function") ∧
    FnOk P w K mg base (L2N.CX P w) 1 fI fd ps (spInit K f) ∧ Binds K fd ps []
section
variable {P : Program} {w : World} {K : W.Frag} {mg : Str → Option Value} {base : Heap}
theorem init_ok {f : Addr} {fd : FuncData} {st : Stmt} {qual p q fld : Str} {p1 p2 p3 p4 p5 : Pos} (F : Fun K "__init__" qual st f fd) (S : FnScope [p, q] [p, q] (defScope st)) (hb : defBody st = [.Assign [.Attribute (.Name p p1) fld p2] (.Name q p3) p4])
    (v1 : (defScope st).names.lookup p = some .local) (v2 : (defScope st).names.lookup q = some .local) (d1 : (p == ("__debug__" : Str)) = false) (d2 : (p == ("__classdict__" : Str)) = false) (d3 : (q == ("__debug__" : Str)) = false) (d4 : (q == ("__classdict__" : Str)) = false) :
    FnOk P w K mg base (L2N.CX P w) 1 f fd [p, q] (spInit K fld) := by
  refine okN F S (fun vs H Q E h => ?_) (fun cdv A outer s H vs Q E hr h => ?_)
  · obtain ⟨a, C, y, rfl, _⟩ := h
    rfl
  · obtain ⟨a, C, y, rfl, T, hn, ha, k⟩ := h
    rw [hb]
    refine ⟨_, pss_one (ps_ost (pe_var (i := 0) rfl (Or.inl v1) d1 d2) (pe_var (i := 1) rfl (Or.inl v2) d3 d4) rfl), ?_⟩
    refine ⟨_, rfl, _, rfl, a, C, rfl, T, hn, .inl ⟨ha, fun dx h1 h2 => k dx h1 h2⟩⟩
end
def raiseM (c f : Str) (m : M T) : MS := fun ρ S => (m ρ S).bindS fun t S1 => .err c [(f, t)] S1
section
variable {X : Cx} {E : XK} {e : Expr} {me : M T} {pos pos2 p : Pos}
theorem s_raise {x f : Str} {CX' : CXT} (T : ErrC X.prog X.w X.K X.mg X.base x f) (hr : Room 2 X.A) (hg : Gl X x) (hc : X.calm = true) (tk : L2N.Takes X fun cls d _ H => E cls d H) (he : PE X e (tM X.mg X.K E me))
    (hdb : (x == ("__debug__" : Str)) = false) (hst : starEach [e] X.env = (false, eval e X.env) :: starEach [] X.env) :
    PS X (.Raise (some (.Call (.Name x p) [e] [] pos)) none pos2) (tMS X.mg X.K E (raiseM x f me)) := by
  obtain ⟨C, fI, fd, ps, hm, oc, nf, iC, tI, FI, bI⟩ := T.ex
  have rs : Raises X (.ref C) := raises_own oc.exC oc.tyC
  refine PSimp (L2N.ps_raise hc tk (pmkN oc iC tI FI hr bI passN hg hm (pa_cons he pa_nil hst) hdb hst (by rfl))) fun D σ H h => ?_
  obtain ⟨ρ, S, μ, π, re, rs, p⟩ := h
  refine ⟨ρ, S, μ, π, re, rs, PostS.bind (rel := relV X.K π) p fun t S1 v H1 μ1 st1 rs1 rt p1 => ?_⟩
  refine ⟨by show 1 ≤ 1000; decide, fun a ha => ⟨a, C, v, rfl, oc, nf, upd_same, fun dx hd hne => ?_⟩⟩
  have hd1 : H1 dx = none := by rw [upd_ne hne] at hd; exact hd
  refine ⟨rfl, dx, _, upd_same, by rw [upd_ne hne, upd_same], hd1, ?_⟩
  have k : ∀ b o, H1 b = some o → (upd (del (upd (upd (upd H1 a (exo a C none)) dx (exd dx [(f, v)])) a (exo a C (some dx))) a) dx (.xd [(f, v)])) b = some o := fun b o e => by
    have n1 := ne_of_none e ha
    have n2 := ne_of_none e hd1
    rw [upd_ne n2, del_ne n1, upd_ne n1, upd_ne n2, upd_ne n1]
    exact e
  refine p1 C dx [(f, v)] _ μ1 (stp_keep k) (relS_keep k rs1) hm upd_same fun g t' e => ?_
  rw [List.lookup_cons] at e ⊢
  split at e
  · cases e
    exact ⟨v, rfl, RelT.step rs1 (stp_keep k) rt⟩
  · cases e
/-! ## a def by its meaning -/
def startE (n k : Nat) (ts : List T) : Env' := (ts.take n).map some ++ List.replicate k none
def runF (n k : Nat) (m : MS) : List T → Sto → R T := fun ts S => match m (startE n k ts) S with
  | .nx _ S1 => .ok .non S1
  | .ret t S1 => .ok t S1
  | .err c fs S1 => .err c fs S1
  | .bad => .bad
end
section
variable {P : Program} {w : World} {K : W.Frag} {mg : Str → Option Value} {base : Heap} {CX' : CXT}
theorem relTs_get {π μ : List Addr} {H : Hp} : ∀ {ts : List T} {vs : List V} {i : Nat} {t : T}, RelTs K μ π H ts vs → ts[i]? = some t → ∃ v, vs[i]? = some v ∧ RelT K μ π H t v := RelTs.get
theorem relE_start {π μ : List Addr} {H : Hp} {N : List Str} {n k : Nat} {ts : List T} {vs : List V} (hN : N.length = n + k) (hl : ts.length = n) (r : RelTs K μ π H ts vs) : RelE K μ π H (startE n k ts) (L2.start N vs) := by
  have hv : vs.length = n := by rw [r.length, hl]
  unfold startE L2.start
  rw [List.take_of_length_le (by omega), hN, hv, Nat.add_sub_cancel_left]
  refine ⟨by simp [hl, hv], fun i t e => ?_⟩
  by_cases hi : i < n
  · rw [List.getElem?_append_left (by rw [List.length_map]; omega), List.getElem?_map] at e
    cases e1 : ts[i]? with
    | none => rw [e1] at e; cases e
    | some t' =>
      rw [e1] at e
      cases e
      obtain ⟨v, e2, rv⟩ := r.get e1
      exact ⟨v, by rw [List.getElem?_append_left (by rw [List.length_map]; omega), List.getElem?_map, e2]; rfl, rv⟩
  · rw [List.getElem?_append_right (by rw [List.length_map]; omega), List.getElem?_replicate] at e
    split at e <;> cases e
theorem spOf_len {n : Nat} {F : List T → Sto → R T} {vs : List V} {H : Hp} {Q : VK} {E : XK} (h : spOf mg K n F vs H Q E) : vs.length = n := by
  obtain ⟨ts, S, μ, π, hl, rs, rt, p⟩ := h
  rw [rt.length, hl]
theorem runF_post {n k : Nat} {m : MS} {N : List Str} (hN : N.length = n + k) {vs : List V} {H : Hp} {Q : VK} {E : XK} (h : spOf mg K n (runF n k m) vs H Q E) : tMS mg K E m { nx := fun _ H' => Q .non H', rt := Q } (L2.start N vs) H := by
  obtain ⟨ts, S, μ, π, hl, rs, rt, p⟩ := h
  refine ⟨startE n k ts, S, μ, π, relE_start hN hl rt, rs, ?_⟩
  unfold runF at p
  cases e : m (startE n k ts) S with
  | nx ρ S1 => rw [e] at p; exact fun σ' H' μ' st1 rs1 re1 => p .non H' μ' st1 rs1 mkNon
  | ret t S1 => rw [e] at p; exact p
  | err c fs S1 => rw [e] at p; exact p
  | bad => rw [e] at p; exact p.elim
/-- THE RULE -/
theorem fn_M {x qual : Str} {st : Stmt} {f : Addr} {fd : FuncData} {N ps : List Str} {k n kk : Nat} {m : MS} (F : Fun K x qual st f fd) (S : FnScope N ps (defScope st)) (hn : ps.length = n) (hN : N.length = n + kk)
    (hb : ∀ (cdv : Value) (A : Around) (outer : List Env) (s : Shared) (H : Hp) (E : XK), Room k (A.deeper (envOfC qual (defScope st) s.heap.objs.size f cdv)) →
      PSs (cxOf (L2N.CX P w) P w K mg base N qual (defScope st) f cdv A outer s H E) (defBody st) (tMS mg K E m)) : FnOk P w K mg base (L2N.CX P w) (k + 1) f fd ps (spOf mg K n (runF n kk m)) :=
  okN F S (fun vs H Q E h => by rw [hn]; exact spOf_len h) fun cdv A outer s H vs Q E hr h => ⟨_, hb cdv A outer s H E hr, runF_post hN h⟩
/-- .. by what it comes to -/
theorem spOf_imp {n : Nat} {F G : List T → Sto → R T} (hG : ∀ ts S, ts.length = n → G ts S ≠ .bad → F ts S = G ts S) {vs : List V} {H : Hp} {Q : VK} {E : XK} (h : spOf mg K n G vs H Q E) : spOf mg K n F vs H Q E := by
  obtain ⟨ts, S, μ, π, hl, rs, rt, p⟩ := h
  refine ⟨ts, S, μ, π, hl, rs, rt, ?_⟩
  rw [hG ts S hl fun e => by rw [e] at p; exact p]
  exact p
theorem fn_G {k n : Nat} {f : Addr} {fd : FuncData} {ps : List Str} {F G : List T → Sto → R T} (h : FnOk P w K mg base CX' k f fd ps (spOf mg K n F)) (hG : ∀ ts S, ts.length = n → G ts S ≠ .bad → F ts S = G ts S) : FnOk P w K mg base CX' k f fd ps (spOf mg K n G) :=
  h.imp fun vs H Q E q => spOf_imp hG q
end
end RL
end
section
set_option maxRecDepth 100000
set_option maxHeartbeats 2000000
namespace RL
open PySem PySem.Spec PyProof.Rows L2 TL
open scoped RL.R RL.RS

/-! ## short words, with their side conditions -/
/-- a def that may be called by its name -/
structure CalM (P : Program) (w : World) (K : W.Frag) (mg : Str → Option Value) (base : Heap) (k : Nat) (x : Str) (n : Nat) (G : List T → Sto → R T) : Prop where
  ex : ∃ (f : Addr) (fd : FuncData) (ps : List Str), FnOk P w K mg base (L2N.CX P w) k f fd ps (spOf mg K n G) ∧ mg x = some (.ref f) ∧ W.keepIn K (.ref f) = true ∧ Binds K fd ps []
section
variable {P : Program} {w : World} {K : W.Frag} {mg : Str → Option Value} {base : Heap} {k n : Nat} {x : Str} {F G : List T → Sto → R T}
theorem CalM.imp (C : CalM P w K mg base k x n F) (hG : ∀ ts S, ts.length = n → G ts S ≠ .bad → F ts S = G ts S) : CalM P w K mg base k x n G := by
  obtain ⟨f, fd, ps, h1, h2, h3, h4⟩ := C.ex
  exact ⟨f, fd, ps, fn_G h1 hG, h2, h3, h4⟩
theorem CalM.mono {j : Nat} (C : CalM P w K mg base k x n F) (h : k ≤ j) : CalM P w K mg base j x n F := by
  obtain ⟨f, fd, ps, h1, h2, h3, h4⟩ := C.ex
  exact ⟨f, fd, ps, h1.mono h, h2, h3, h4⟩
end
section
variable {X : Cx} {mg : Str → Option Value} {K : W.Frag} {E : XK} {a b c e : Expr} {es : List Expr} {ma mb mc : M T} {ms : M (List T)} {p pos : Pos} {x : Str}
def negT (t : T) (S : Sto) : R T := match t with
  | .int i => .ok (.int (-i)) S
  | _ => .bad
theorem un_negT : UnR X (unaryOp .USub) (rF1 mg X.K E negT) := by
  intro pins s σ H x v Q I r h
  obtain ⟨a, S, μ, π, hs, ra, p⟩ := h
  cases a <;> first | exact p.elim | skip
  cases relT_int ra
  exact un_neg pins s σ H _ v Q I r ⟨_, rfl, Post.val p hs mkInt⟩
theorem vv (i : Nat) (hN : X.N[i]? = some x := by rfl) (hv : Vis X.env.scope x := by first | exact Or.inl rfl | exact Or.inr (Or.inl rfl) | exact Or.inr (Or.inr rfl)) (hd : (x == ("__debug__" : Str)) = false := by decide)
    (hcd : (x == ("__classdict__" : Str)) = false := by decide) : PE X (.Name x pos) (tM mg K E (varM i)) := e_var hN hv hd hcd
theorem egl {t : T} {v : V} (h : ∃ u, X.mg x = some u ∧ RelV v u) (rt : ∀ μ π H, RelT K μ π H t v) (hg : Gl X x := by rfl) (hd : (x == ("__debug__" : Str)) = false := by decide) : PE X (.Name x pos) (tM mg K E (retM t)) := by
  obtain ⟨u, h1, h2⟩ := h
  exact e_glob hg h1 h2 rt hd
theorem ety {n : String} (hm : X.mg x = none) (hv : bootBuiltins x = some (.type n)) (hg : Gl X x := by rfl) (hn : x ≠ "__name__" := by decide) (hd : (x == ("__debug__" : Str)) = false := by decide) : PE X (.Name x pos) (tM mg K E (retM (.ty n))) :=
  e_bltn hg hm hv hn hd
theorem aac (ha : PE X a (tM mg K E ma)) (hr : PA X es (tMA mg K E ms)) (hs : starEach (a :: es) X.env = (false, eval a X.env) :: starEach es X.env := by rfl) : PA X (a :: es) (tMA mg K E (consM ma ms)) := a_cons ha hr hs
theorem ecb {f : List T → Sto → R T} {id : String} (hc : CallR X (.builtin id) (rFs mg K E f)) (hm : X.mg x = none) (hv : bootBuiltins x = some (.builtin id)) (ha : PA X (e :: es) (tMA mg K E ms)) (hg : Gl X x := by rfl) (hn : x ≠ "__name__" := by decide) (hdb : (x == ("__debug__" : Str)) = false := by decide)
    (he : starEach (e :: es) X.env = (false, eval e X.env) :: starEach es X.env := by rfl) (hpl : (backTo pos (starEach es X.env)).any (·.1) = false := by rfl) : PE X (.Call (.Name x p) (e :: es) [] pos) (tM mg K E (m1 f ms)) := e_callB hc hg hm hv ha hn hdb he hpl
theorem ect {f : List T → Sto → R T} {id : String} (hc : CallR X (.type id) (rFs mg K E f)) (hm : X.mg x = none) (hv : bootBuiltins x = some (.type id)) (ha : PA X (e :: es) (tMA mg K E ms)) (hg : Gl X x := by rfl) (hn : x ≠ "__name__" := by decide) (hdb : (x == ("__debug__" : Str)) = false := by decide)
    (he : starEach (e :: es) X.env = (false, eval e X.env) :: starEach es X.env := by rfl) (hpl : (backTo pos (starEach es X.env)).any (·.1) = false := by rfl) : PE X (.Call (.Name x p) (e :: es) [] pos) (tM mg K E (m1 f ms)) := e_callTy hc hg hm hv ha hn hdb he hpl
theorem ecf {k n : Nat} {G : List T → Sto → R T} (C : CalM X.prog X.w X.K X.mg X.base k x n G) (hr : Room k X.A) (hx : Passes (L2N.CX X.prog X.w) X E) (ha : PA X (e :: es) (tMA X.mg X.K E ms)) (hg : Gl X x := by rfl) (hdb : (x == ("__debug__" : Str)) = false := by decide)
    (he : starEach (e :: es) X.env = (false, eval e X.env) :: starEach es X.env := by rfl) (hpl : (backTo pos (starEach es X.env)).any (·.1) = false := by rfl) : PE X (.Call (.Name x p) (e :: es) [] pos) (tM X.mg X.K E (m1 (callF n G) ms)) := by
  obtain ⟨f, fd, ps, h1, h2, h3, h4⟩ := C.ex
  exact e_call h1 hr hg h2 h3 h4 hx ha hdb he hpl
theorem ecm {op : CmpOp} {f : T → T → Sto → R T} (ho : OpR X (compareOp op) (rF mg K E f)) (ha : PE X a (tM mg K E ma)) (hb : PE X b (tM mg K E mb)) (hm : behindInMarks op b = false := by rfl) : PE X (.Compare a [op] [b] pos) (tM mg K E (m2 f ma mb)) := e_cmp ho ha hb hm
theorem bcm {op : CmpOp} {f : T → T → Sto → R T} (ho : OpR X (compareOp op) (rF mg K E f)) (ha : PE X a (tM mg K E ma)) (hb : PE X b (tM mg K E mb)) (hm : behindInMarks op b = false := by rfl) : PT X (.Compare a [op] [b] pos) (tMB mg K E (m1 boolOf (m2 f ma mb))) := b_cmp ho ha hb hm
theorem ltT_ne (a b : T) (S : Sto) (c : Str) (fs : List (Str × T)) (S' : Sto) : ltT a b S ≠ .err c fs S' := by
  unfold ltT; split <;> first | exact fun z => nomatch z | (split <;> exact fun z => nomatch z)
theorem leT_ne (a b : T) (S : Sto) (c : Str) (fs : List (Str × T)) (S' : Sto) : leT a b S ≠ .err c fs S' := by
  unfold leT; split <;> first | exact fun z => nomatch z | (split <;> exact fun z => nomatch z)
theorem ltT_st (a b : T) (S : Sto) (k : T) (S' : Sto) (h : ltT a b S = .ok k S') : S' = S := by
  unfold ltT at h; split at h <;> first | (cases h; rfl) | cases h
theorem leT_st (a b : T) (S : Sto) (k : T) (S' : Sto) (h : leT a b S = .ok k S') : S' = S := by
  unfold leT at h; split at h <;> first | (cases h; rfl) | cases h
theorem ech {op op' : CmpOp} {f g : T → T → Sto → R T} (ho : OpR X (compareOp op) (rF mg X.K E f)) (ho' : OpR X (compareOp op') (rF mg X.K E g)) (ha : PE X a (tM mg X.K E ma)) (hb : PE X b (tM mg X.K E mb)) (hc : PE X c (tM mg X.K E mc))
    (hf : ∀ a b (S : Sto) c fs S', f a b S ≠ .err c fs S') (hf2 : ∀ a b (S : Sto) k S', f a b S = .ok k S' → S' = S) (hm : lastMarks [op, op'] [b, c] = false := by with_unfolding_all rfl) : PE X (.Compare a [op, op'] [b, c] pos) (tM mg X.K E (chainM f g ma mb mc)) :=
  PEimp (pe_chain ho ho' ha hb hc hm) fun σ H Q h => tM_chain hf hf2 h
theorem bch {op op' : CmpOp} {f g : T → T → Sto → R T} (ho : OpR X (compareOp op) (rF mg X.K E f)) (ho' : OpR X (compareOp op') (rF mg X.K E g)) (ha : PE X a (tM mg X.K E ma)) (hb : PE X b (tM mg X.K E mb)) (hc : PE X c (tM mg X.K E mc))
    (hf : ∀ a b (S : Sto) c fs S', f a b S ≠ .err c fs S') (hf2 : ∀ a b (S : Sto) k S', f a b S = .ok k S' → S' = S) (hm : lastMarks [op, op'] [b, c] = false := by with_unfolding_all rfl) : PT X (.Compare a [op, op'] [b, c] pos) (tMB mg X.K E (m1 boolOf (chainM f g ma mb mc))) :=
  PTimp (pt_chain ho ho' ha hb hc hm) fun σ H Q h => by
    obtain ⟨ρ, S, μ, π, re, rs, p⟩ := tM_test h
    exact tM_chain hf hf2 ⟨ρ, S, μ, π, re, rs, p⟩
theorem ebt (ha : PE X a (tM mg X.K E ma)) (he : ∀ whole, isTrue a X.env whole = (do let v ← whole; standAt a.pos; holding [v] (truthy v)) := by intro _; rfl) : PT X a (tMB mg X.K E (m1 truthT ma)) := b_truth ha he
theorem eix (ha : PE X a (tM mg X.K E ma)) (hb : PE X b (tM mg X.K E mb)) (hs : PlainIx b := by exact fun _ _ => rfl) : PE X (.Subscript a b pos) (tM mg X.K E (m2 idxT ma mb)) := e_ix ha hb hs
theorem eme {T' id : String} {f : T → List T → Sto → R T} {name : Str} {apos cpos : Pos} (pa : PlainAttrs T') (slot : Slot T' name id) (hty : typeOf (.builtin id) = pure (.type "method_descriptor")) (hm : MtR X id (rFm mg X.K E f)) (ho : PE X a (tM mg X.K E ma)) (ha : PA X (e :: es) (tMA mg X.K E ms))
    (hbase : attributeBase a name X.env (eval a X.env) = eval a X.env := by rfl)
    (hfew : ((backTo cpos (starEach (e :: es) X.env)).all (fun x => !x.1) && (backToKw cpos (keywordEach [] X.env)).all (fun x => x.1.isSome)
      && decide ((e :: es).length + ([] : List Keyword).length + (if ([] : List Keyword).isEmpty then 0 else 1) < 30)) = true := by rfl)
    (hline : (apos.endLine == cpos.line) = true := by rfl) (hs : starEach (e :: es) X.env = (false, eval e X.env) :: starEach es X.env := by rfl) (hplain : (backTo cpos (starEach es X.env)).any (·.1) = false := by rfl) :
    PE X (.Call (.Attribute a name apos) (e :: es) [] cpos) (tM mg X.K E (bmM T' f ma ms)) := e_bm pa slot hty hm ho ha hbase hfew hline hs hplain
theorem eme0 {T' id : String} {f : T → List T → Sto → R T} {name : Str} {apos cpos : Pos} (pa : PlainAttrs T') (slot : Slot T' name id) (hty : typeOf (.builtin id) = pure (.type "method_descriptor")) (hm : MtR X id (rFm mg X.K E f)) (ho : PE X a (tM mg X.K E ma))
    (hbase : attributeBase a name X.env (eval a X.env) = eval a X.env := by rfl) (hline : (apos.endLine == cpos.line) = true := by rfl) : PE X (.Call (.Attribute a name apos) [] [] cpos) (tM mg X.K E (bmM T' f ma nilM)) := e_bm0 pa slot hty hm ho hbase hline
theorem elc {mu : Bool} {elt tg iter : Expr} {ifs : List Expr} {scope : Scope} (own : List (Str × Nat)) {mi : M Src} {g : Tg} {tt : M Bool} {me : M T} (hc : X.calm = true) (hN : X.N.Nodup) (ok : BlkOk X.N X.env.scope scope own) (hi : PI X tg iter (tMI mg X.K E mi))
    (hg : ∀ (s : Shared) (H : Hp) (C : Addr) (cl : List (Str × Addr)) (fp : List Addr), PG (X.blk s H scope (compEnvC scope cl C X.env) fp) tg (tTg X.K g))
    (ht : ∀ (s : Shared) (H : Hp) (C : Addr) (cl : List (Str × Addr)) (fp : List Addr), PTs (X.blk s H scope (compEnvC scope cl C X.env) fp) ifs (tMB mg X.K E0 tt))
    (he : ∀ (s : Shared) (H : Hp) (C : Addr) (cl : List (Str × Addr)) (fp : List Addr), PE (X.blk s H scope (compEnvC scope cl C X.env) fp) elt (tM mg X.K E0 me)) (hv : ∀ i ∈ g.slots, i ∈ own.map (·.2) := by decide) (hs : ∀ x, foldedSetIterable iter X.env x = pure x := by intro _; rfl) :
    PE X (.ListComp elt [⟨tg, iter, ifs, 0⟩] scope pos) (tM mg X.K E (lcM mu (own.map (·.2)) mi g tt me)) := e_lc hc hN hi ok hv hg ht he hs
theorem gno (i : Nat) (hN : X.N.Nodup) (hi : X.N[i]? = some x := by rfl) (hx : Loc X.env.scope x := by first | exact .inl rfl | exact .inr rfl) (hf : X.fn x = true ∨ X.env.scope.names.lookup x = some .local := by first | exact .inl rfl | exact .inr rfl) : PG X (.Name x pos) (tTg X.K (.one i)) := g_one hN hi hx hf
theorem gnm (i : Nat) (hN : X.N.Nodup) (hi : X.N[i]? = some x := by rfl) (hx : Loc X.env.scope x := by first | exact .inl rfl | exact .inr rfl) (hf : X.fn x = true ∨ X.env.scope.names.lookup x = some .local := by first | exact .inl rfl | exact .inr rfl) : PG X (.Name x pos) (gName i) := pg_name hN hi hx hf
theorem gcs {tg : Expr} {i : Nat} {is : List Nat} (h1 : PG X tg (gName i)) (h2 : PGs X es (namesG is)) (hs : (assignEach (tg :: es) X.env).map (·.2) = assign tg X.env :: (assignEach es X.env).map (·.2) := by rfl) : PGs X (tg :: es) (namesG (i :: is)) := pgs_cons h1 h2 hs
theorem gnl : PGs X [] (namesG []) := pgs_nil
theorem gma {is : List Nat} {k : Nat} (hc : X.calm = true) (h : PGs X es (namesG is)) (hn : (assignEach es X.env).length = is.length := by rfl) (hst : (assignEach es X.env).findIdx? (·.1) = none := by rfl) : PG X (.Tuple es k pos) (tTg X.K (.many is)) := g_many hc h hn hst
theorem sst {spos : Pos} (i : Nat) (hN : X.N.Nodup) (he : PE X e (tM mg K E ma)) (hi : X.N[i]? = some x := by rfl) (hx : Loc X.env.scope x := by first | exact .inl rfl | exact .inr rfl) (hs : swapsWith e (some (.Name x p)) spos.line X.env = pure false := by rfl) (hf : X.fn x = true ∨ X.env.scope.names.lookup x = some .local := by first | exact .inl rfl | exact .inr rfl) :
    PS X (.Assign [.Name x p] e spos) (tMS mg K E (setM i ma)) := s_set hN hi hx he hs hf
theorem sstl {mu : Bool} (i : Nat) {elt tg iter : Expr} {ifs : List Expr} {scope : Scope} {spos : Pos} (own : List (Str × Nat)) {mi : M Src} {g : Tg} {tt : M Bool} {me : M T} (hc : X.calm = true) (hN : X.N.Nodup) (ok : BlkOk X.N X.env.scope scope own) (hi : PI X tg iter (tMI mg X.K E mi))
    (hg : ∀ (s : Shared) (H : Hp) (C : Addr) (cl : List (Str × Addr)) (fp : List Addr), PG (X.blk s H scope (compEnvC scope cl C X.env) fp) tg (tTg X.K g))
    (ht : ∀ (s : Shared) (H : Hp) (C : Addr) (cl : List (Str × Addr)) (fp : List Addr), PTs (X.blk s H scope (compEnvC scope cl C X.env) fp) ifs (tMB mg X.K E0 tt))
    (he : ∀ (s : Shared) (H : Hp) (C : Addr) (cl : List (Str × Addr)) (fp : List Addr), PE (X.blk s H scope (compEnvC scope cl C X.env) fp) elt (tM mg X.K E0 me)) (hy : X.N[i]? = some x := by rfl) (hyl : X.env.scope.names.lookup x = some .local := by rfl)
    (hsw : swapsWith (.ListComp elt [⟨tg, iter, ifs, 0⟩] scope pos) (some (.Name x p)) spos.line X.env = pure true := by rfl) (hv : ∀ i ∈ g.slots, i ∈ own.map (·.2) := by decide) (hs : ∀ x, foldedSetIterable iter X.env x = pure x := by intro _; rfl) :
    PS X (.Assign [.Name x p] (.ListComp elt [⟨tg, iter, ifs, 0⟩] scope pos) spos) (tMS mg X.K E (setM i (lcM mu (own.map (·.2)) mi g tt me))) := s_setLc hc hN hy hyl hsw hi ok hv hg ht he hs
theorem ssub {spos : Pos} (he : PE X e (tM mg X.K E ma)) (ho : PE X a (tM mg X.K E mb)) (hi : PE X b (tM mg X.K E mc)) (ha : ∀ v, assign (.Subscript a b pos) X.env v = (do
      let ov ← holding [v] (eval a X.env)
      let iv ← holding [v, ov] (eval b X.env)
      standAt pos
      holding [v, ov, iv] (setItem ov iv v)
      release [v, ov, iv] []) := by intro _; rfl) (hs : swapsWithSole [.Subscript a b pos] e spos.line X.env = pure false := by rfl) (hw : swappedStores [.Subscript a b pos] e X.env = pure none := by rfl)
    (h1 : (assignEach [.Subscript a b pos] X.env).map (·.2) = [assign (.Subscript a b pos) X.env] := by rfl) : PS X (.Assign [.Subscript a b pos] e spos) (tMS mg X.K E (subS ma mb mc)) := s_sub he ho hi ha hs hw h1
theorem ssx (he : PE X e (tM mg K E ma)) (hs : swapsWith e none pos.line X.env = pure false := by rfl) : PS X (.Expr e pos) (tMS mg K E (dropM ma)) := s_expr he hs
theorem ssf {iter tg : Expr} {mi : M Src} {g : Tg} {body : List Stmt} {m : MS} (hp : PassesOwn (model X.prog X.w) X.A X.env X.xe) (hc : X.calm = true) (hi : PI X tg iter (tMI mg X.K E mi)) (hg : PG X tg (tTg X.K g)) (hb : PSs X body (tMS mg X.K E m))
    (hs : ∀ x, foldedSetIterable iter X.env x = pure x := by intro _; rfl) : PS X (.For tg iter body [] pos) (tMS mg X.K E (forM mi g m)) := s_for hp hc hi hg hb hs
theorem ir1 {tg : Expr} (hm : X.mg "range" = none) (ha : PA X [a] (tMA mg X.K E ms)) (hg : Gl X "range" := by rfl) (hs : starEach [a] X.env = [(false, eval a X.env)] := by rfl) : PI X tg (.Call (.Name "range" p) [a] [] pos) (tMI mg X.K E (m1 rng1T ms)) := i_range1 hg hm ha hs
theorem ir3 {tg : Expr} (hm : X.mg "range" = none) (ha : PA X [a, b, c] (tMA mg X.K E ms)) (hg : Gl X "range" := by rfl) (hs : starEach [a, b, c] X.env = (false, eval a X.env) :: starEach [b, c] X.env := by rfl) (hpl : (backTo pos (starEach [b, c] X.env)).any (·.1) = false := by rfl) : PI X tg (.Call (.Name "range" p) [a, b, c] [] pos) (tMI mg X.K E (m1 rng3T ms)) := i_range3 hg hm ha hs hpl
theorem srz {x f : Str} {pos2 : Pos} (T : ErrC X.prog X.w X.K X.mg X.base x f) (hr : Room 2 X.A) (hc : X.calm = true) (tk : L2N.Takes X fun cls d _ H => E cls d H) (he : PE X e (tM X.mg X.K E ma)) (hg : Gl X x := by rfl) (hdb : (x == ("__debug__" : Str)) = false := by decide) (hst : starEach [e] X.env = (false, eval e X.env) :: starEach [] X.env := by rfl) :
    PS X (.Raise (some (.Call (.Name x p) [e] [] pos)) none pos2) (tMS X.mg X.K E (raiseM x f ma)) := s_raise (CX' := CX0) T hr hg hc tk he hdb hst
end
end RL
end
section
set_option maxRecDepth 100000
set_option maxHeartbeats 2000000
namespace RL
open PySem PySem.Spec PyProof.Rows L2 TL L2H
open scoped RL.R RL.RS

/-! ## where an exception is handled: [.. for .. in range(..) if ..] -/
abbrev blkH (X : Cx) (p : Addr × Obj) (s : Shared) (H : Hp) (sc : Scope) (ce : Env) (fp : List Addr) : Cx := { X.blk s H sc ce fp with pn := [p] }
section
variable {X : Cx} {pins : List (Addr × Obj)} {σ : L2.St} {H H1 : Hp} {s s1 : Shared} {p : Addr × Obj} {sc : Scope} {ce : Env} {fp : List Addr}
theorem okH (ok : (X.blk s1 H1 sc ce fp).Ok) : (blkH X p s1 H1 sc ce fp).Ok :=
  ⟨ok.mod, ok.kind, ok.glob, ok.blt, ok.above, ok.inj, ok.has, ok.cab, ok.hd, ok.frames, ok.stk, ok.exf, ok.bs, ok.bsz, ok.noex, ok.exfs, ok.funs, ok.frf⟩
theorem okU (ok : (blkH X p s1 H1 sc ce fp).Ok) : (X.blk s1 H1 sc ce fp).Ok :=
  ⟨ok.mod, ok.kind, ok.glob, ok.blt, ok.above, ok.inj, ok.has, ok.cab, ok.hd, ok.frames, ok.stk, ok.exf, ok.bs, ok.bsz, ok.noex, ok.exfs, ok.funs, ok.frf⟩
theorem invH (I : Inv (X.blk s1 H1 sc ce fp) (p :: pins) σ H s) : Inv (blkH X p s1 H1 sc ce fp) pins σ H s := ⟨okH I.ok, I.os, I.bare, I.base, I.loc, I.cell, I.free, I.freeC, fun q hq => I.pin q hq, I.hok, I.len⟩
/-- the loop of a comprehension while an exception is handled -/
theorem hot_loop {elt tg iter : Expr} {ifs : List Expr} {pos : Pos} {it D : Addr} {tn : Nat → Heap → Prop} {J : It} {g : TG} {tt : TT} {te : TE} {vs : List Nat} {W : Nat → Nat → Hp → Prop} {R : Result → Shared → Prop} {σ0 : L2.St} {Q : VK}
    (hot : Hot1 X.A p) (T : TurnH X.prog X.w X.K tg J fp it tn) (pg : PG (blkH X p s1 H1 sc ce fp) tg g) (pt : PTs (blkH X p s1 H1 sc ce fp) ifs tt) (pe : PE (blkH X p s1 H1 sc ce fp) elt te)
    (turn : ∀ i m H, W i m H → (J.stop i H ∧ Q (.ref D) H) ∨ (J.go i H ∧ ∃ Nx : Hp → Prop, (∀ H', Nx H' → ∃ m', m' < m ∧ W (i + 1) m' H') ∧ ∀ x H', J.yld i H x H' → g x (L2.wipe σ0 vs) H' fun σ2 H2 => L2.wipe σ2 vs = L2.wipe σ0 vs ∧ tt σ2 H2 fun b H3 =>
      if b = true then te σ2 H3 fun y H4 => ∃ acc, H4 D = some (.lst acc) ∧ acc.length < sizeLine ∧ Nx (upd H4 D (.lst (acc ++ [y]))) else Nx H3))
    (leave : ∀ {H' : Hp} {s' : Shared}, Inv (blkH X p s1 H1 sc ce fp) [] (L2.wipe σ0 vs) H' s' → Q (.ref D) H' → R (.ok .next) s')
    {m0 : Nat} {H0 : Hp} {s0 : Shared} (I0 : Inv (blkH X p s1 H1 sc ce fp) [] (L2.wipe σ0 vs) H0 s0) (t0 : tn 0 s0.heap) (n0 : ∀ b ∈ fp, H0 b = none) (w0 : W 0 m0 H0) (hfp : ∀ b ∈ fp, p.1 ≠ b) :
    codeAny (model X.prog X.w) X.A (.compLoop (.ListComp elt [⟨tg, iter, ifs, 0⟩] sc pos) 0 (.ref it) (.ref D) ce) R s0 := by
  have hc : HotC (blkH X p s1 H1 sc ce fp) := ⟨p, hot, List.mem_singleton.mpr rfl⟩
  have foot : ∀ {σ' : L2.St} {H' : Hp} {s' : Shared}, Inv (blkH X p s1 H1 sc ce fp) [] σ' H' s' → (∀ b ∈ fp, H' b = none) → ∀ b ∈ fp, FpOk (blkH X p s1 H1 sc ce fp) [] H' b := fun {σ' H' s'} I' hn b hb =>
    ⟨hn b hb, (I'.ok.exf b hb).1, I'.ok.exfs b hb, .inl hb, fun x c e => (I'.ok.exf b hb).2 x c e, fun q hq => by
      rw [List.mem_singleton.mp (show q ∈ [p] from hq)]
      exact hfp b hb⟩
  refine compLoop_any (fun n s' => ∃ i H', Inv (blkH X p s1 H1 sc ce fp) [] (L2.wipe σ0 vs) H' s' ∧ tn i s'.heap ∧ (∀ b ∈ fp, H' b = none) ∧ W i n H') (fun n sA hA => ?_) m0 ⟨0, H0, I0, t0, n0, w0⟩
  obtain ⟨i, HA, IA, tA, nA, wA⟩ := hA
  rcases turn i n HA wA with ⟨stop, fin⟩ | ⟨go, Nx, down, step⟩
  · refine thnF (T.done (blkH X p s1 H1 sc ce fp) rfl rfl rfl hc i [] sA _ HA (fun _ _ => False) IA (foot IA nA) tA stop) fun r sB hB => ?_
    obtain ⟨e, IB⟩ := hB
    subst e
    exact leave IB fin
  refine thnF (T.item (blkH X p s1 H1 sc ce fp) rfl rfl rfl hc i [] sA _ HA (fun _ _ => False) IA (foot IA nA) tA go) fun r sB hB => ?_
  obtain ⟨u, e, hB⟩ := hB
  subst e
  refine thnF hB fun _ sC hC => ?_
  obtain ⟨x, HC, IC, rC, yC, tC, nC⟩ := hC
  refine thnF (pg.run _ sC _ HC x u _ (IC.pinned (foot IC nC) (T.obj _ _ tC)) rC (step x HC yC)) fun _ sD hD => ?_
  obtain ⟨σD, HD, ID, back, qD⟩ := hD
  refine thnF (pt.run _ sD σD HD _ ID qD) fun b sE hE => ?_
  obtain ⟨HE, IE, qE⟩ := hE
  have next : ∀ {s' : Shared} {H' : Hp}, Inv (blkH X p s1 H1 sc ce fp) ([] ++ pinsAt fp sC.heap) σD H' s' → Nx H' → ∃ m, m < n ∧ ∃ i H', Inv (blkH X p s1 H1 sc ce fp) [] (L2.wipe σ0 vs) H' s' ∧ tn i s'.heap ∧ (∀ b ∈ fp, H' b = none) ∧ W i m H' := fun {s' H'} I' nx => by
    obtain ⟨m', less, w'⟩ := down H' nx
    have pinned : ∀ b ∈ fp, ∀ o, sC.heap.get? b = some o → s'.heap.get? b = some o ∧ H' b = none := fun b hb o q =>
      have z := I'.pin (b, o) (List.mem_append_right _ (List.mem_append_right _ (mem_pinsAt hb q)))
      ⟨z.1, z.2.1⟩
    have len : (L2.wipe σ0 vs).length = σD.length := by rw [← back, L2.wipe_length]
    refine ⟨m', less, i + 1, H', (I'.unpinned (pins := [])).weak len (fun j v q => ?_), T.keep _ _ _ tC fun b hb o q => (pinned b hb o q).1, fun b hb => ?_, w'⟩
    · rw [← back] at q
      exact (L2.wipe_some q).1
    · obtain ⟨o, q, _⟩ := T.obj _ _ tC b hb
      exact (pinned b hb o q).2
  cases b with
  | false => exact next IE qE
  | true =>
    refine thnF (pe.run _ sE σD HE _ IE qE) fun z sF hF => ?_
    obtain ⟨y, HF, IF, rF, acc, atD, room, nx⟩ := hF
    exact app_ok (X := blkH X p s1 H1 sc ce fp) IF atD room rF fun sG IG => next IG nx
theorem pe_lcH {elt tg iter : Expr} {ifs : List Expr} {scope : Scope} {own : List (Str × Nat)} {pos : Pos} {wi : TI} {g : TG} {tt : TT} {te : TE} (hc : HotC X) (hN : X.N.Nodup) (hi : PIH X tg iter wi) (ok : BlkOk X.N X.env.scope scope own)
    (hg : ∀ (p : Addr × Obj) (s : Shared) (H : Hp) (C : Addr) (cl : List (Str × Addr)) (fp : List Addr), Hot1 X.A p → PG (blkH X p s H scope (compEnvC scope cl C X.env) fp) tg g)
    (ht : ∀ (p : Addr × Obj) (s : Shared) (H : Hp) (C : Addr) (cl : List (Str × Addr)) (fp : List Addr), Hot1 X.A p → PTs (blkH X p s H scope (compEnvC scope cl C X.env) fp) ifs tt)
    (he : ∀ (p : Addr × Obj) (s : Shared) (H : Hp) (C : Addr) (cl : List (Str × Addr)) (fp : List Addr), Hot1 X.A p → PE (blkH X p s H scope (compEnvC scope cl C X.env) fp) elt te) (hs : ∀ x, foldedSetIterable iter X.env x = pure x) :
    PE X (.ListComp elt [⟨tg, iter, ifs, 0⟩] scope pos) (tLc wi g tt te (own.map (·.2))) := by
  refine ⟨fun pins s σ H Q I h => ?_⟩
  obtain ⟨p, hot, hp⟩ := hc
  rw [eval_ListComp]
  have caught : ∀ y ∈ scope.names, y.2 = .free → ∃ c, X.env.cells.lookup y.1 = some c := fun y hy e => (ok.free y hy e).elim (fun q => I.ok.has _ (.inl q)) fun q => I.ok.has _ (.inr q)
  refine wpAny_comprehension_free (use := none) rfl hs (closure_ok caught) ok.kind (fun y hy e => by rw [ok.uniq y hy, e]) (thn (hi.run pins s σ H _ I h) fun xv sX hX => thn hX fun iv s2 h2 => ?_)
  obtain ⟨it, fp, tn, J, H2, e, I2, T, t2, f2, q⟩ := h2
  subst e
  refine wpAny_newObj_type (newEnv_comp ?_) (by show 0 ≤ sizeLine; decide)
  obtain ⟨D, hD⟩ : ∃ D, s2.heap.objs.size = D := ⟨_, rfl⟩
  rw [hD]
  have dead : H2 D = none := I2.hok.fresh (Nat.le_of_eq hD)
  obtain ⟨W, ⟨m0, w0⟩, turn⟩ := q D dead
  obtain ⟨sN, hsN⟩ : ∃ sN : Shared, ({ s2 with heap := s2.heap.push { cls := .type "list", data := .seq ([] : List Value).toArray } } : Shared) = sN := ⟨_, rfl⟩
  have grow : ∀ b o, s2.heap.get? b = some o → sN.heap.get? b = some o := fun b o z => by
    rw [← hsN]
    exact Heap.get?_push_of_some _ z
  have IN : Inv X pins σ (upd H2 D (.lst [])) sN := by
    rw [← hsN]
    refine I2.laid (t' := s2.toks) (fun b o z => Heap.get?_push_of_some _ z) (Nat.le_of_eq hD) ⟨Nat.zero_le _, [], 0, .nil, ?_⟩
    rw [← hD]
    exact Heap.get?_push_size _ rfl
  have low : ∀ b ∈ fp, b < s2.heap.objs.size := fun b hb => by
    obtain ⟨o, z, _⟩ := T.obj _ _ t2 b hb
    exact Heap.lt_size z
  have fN : ∀ b ∈ fp, FpOk X pins (upd H2 D (.lst [])) b ∧ b < sN.heap.objs.size := fun b hb => by
    have l := low b hb
    refine ⟨⟨?_, (f2 b hb).2⟩, ?_⟩
    · rw [upd_ne (by rw [← hD]; exact Nat.ne_of_lt l)]
      exact (f2 b hb).1
    · rw [← hsN]
      show b < (s2.heap.push _).objs.size
      rw [Heap.size_push]
      exact Nat.lt_succ_of_lt l
  have tN : tn 0 sN.heap := T.keep _ _ _ t2 fun b _ o z => grow b o z
  have IB := block_start IN ok hN fN
  obtain ⟨cl, hcl⟩ : ∃ cl, cellsFrom (sN.heap.objs.size + 1) scope.names (cloFrom X.env.cells scope.names []) = cl := ⟨_, rfl⟩
  rw [hcl] at IB
  have pg := hg p sN (upd H2 D (.lst [])) sN.heap.objs.size cl fp hot
  have pt := ht p sN (upd H2 D (.lst [])) sN.heap.objs.size cl fp hot
  have pe := he p sN (upd H2 D (.lst [])) sN.heap.objs.size cl fp hot
  have P0 := IN.pin p (List.mem_append_left _ hp)
  have IH := invH (p := p) (pins := []) (IB.pins_of (pins' := [p]) fun q hq => by
    rw [List.mem_singleton.mp hq]
    refine ⟨pushCells_keeps _ _ _ _ (Heap.get?_push_of_some _ P0.1), P0.2.1, ?_, fun hm => (List.mem_cons.mp (IN.stkSub p.1 hm)).elim P0.2.2.1 P0.2.2.2.1, P0.2.2.2.2⟩
    exact Nat.ne_of_lt (Heap.lt_size P0.1))
  have tB : tn 0 (pushCells (sN.heap.push { cls := .type "dict", data := .dict #[] }) scope.names) := T.keep _ _ _ tN fun b _ o z => pushCells_keeps _ _ _ _ (Heap.get?_push_of_some _ z)
  rw [hsN]
  rw [hcl]
  refine codeAny_compStart_list ?_ (T.self X.A 0 _ _ _ tB ?_)
  all_goals
    refine hot_loop (vs := own.map (·.2)) (σ0 := σ) (Q := Q) hot T pg pt pe turn (fun {H' s'} I' fin => ?_) IH tB (fun b hb => (fN b hb).1.1) w0 fun b hb => (fN b hb).1.2.2.2.2.2 p (List.mem_append_left _ hp)
    have back : Inv X pins σ H' s' := IN.call' (ch := fp) I'.os I'.base I'.hok I'.bare fun b hb => ⟨(fN b hb).1.2.2.2.1, (fN b hb).1.2.1, (fN b hb).1.2.2.2.2.1, (fN b hb).1.2.2.2.2.2⟩
    obtain ⟨m, ns, _⟩ := I'.loc
    have none' : H' sN.heap.objs.size = none := I'.free
    obtain ⟨f0, f1, f2, f3, f4, f5⟩ := IN.fpOk (H' := H') (Nat.le_refl _) none'
    exact ⟨m, ns, fun h3 sb => ⟨.ref D, H', back.turned (t' := s'.toks) (fun b o hb z => (sb.2 b hb).trans z) f0 f1 f3 f4 f5, rfl, fin⟩⟩
end
end RL
end
section
set_option maxRecDepth 100000
set_option maxHeartbeats 2000000
namespace RL
open PySem PySem.Spec PyProof.Rows L2 TL L2H
open scoped RL.R RL.RS

/-! ## where an exception is handled: calls, comprehensions -/
theorem pAt0 {X : Cx} {σ : L2.St} : PassesAt (L2N.CX X.prog X.w) X σ E0 := fun _ _ _ _ _ _ h => by
  obtain ⟨_, _, _, _, _, _, _, _, _, _, _, _, z⟩ := h
  exact z.elim
def calmF (F : List T → Sto → R T) : List T → Sto → R T := fun ts S => calm (F ts S)
structure CalH (P : Program) (w : World) (K : W.Frag) (mg : Str → Option Value) (base : Heap) (k : Nat) (x : Str) (n : Nat) (G : List T → Sto → R T) : Prop where
  ex : ∃ (f : Addr) (fd : FuncData) (ps : List Str), FnH P w K mg base (L2N.CX P w) k f fd ps (spOf mg K n (calmF G)) ∧ mg x = some (.ref f) ∧ W.keepIn K (.ref f) = true ∧ Binds K fd ps []
section
variable {P : Program} {w : World} {K : W.Frag} {mg : Str → Option Value} {base : Heap} {k n : Nat} {x : Str} {F G : List T → Sto → R T}
theorem fnH_M {x qual : Str} {st : Stmt} {f : Addr} {fd : FuncData} {N ps : List Str} {k n kk : Nat} {m : MS} (F : Fun K x qual st f fd) (S : FnScope N ps (defScope st)) (hn : ps.length = n) (hN : N.length = n + kk)
    (hb : ∀ (cdv : Value) (A : Around) (outer : List Env) (s : Shared) (H : Hp) (E : XK) (p : Addr × Obj), Hot1 A p → RoomH k (A.deeper (envOfC qual (defScope st) s.heap.objs.size f cdv)) →
      PSs (cxH (L2N.CX P w) P w K mg base N qual (defScope st) f cdv A outer s H E p) (defBody st) (tMS mg K E0 m)) : FnH P w K mg base (L2N.CX P w) (k + 1) f fd ps (spOf mg K n (calmF (runF n kk m))) := by
  obtain ⟨_, _, _, _, _, _, c, _, _, rfl, lk, hcd⟩ := F.ex
  refine fn_ofH lk hcd S (fun vs H Q E h => by rw [hn]; exact spOf_len h) fun A outer s H vs Q E p hot hr h => ⟨_, hb c A outer s H E p hot hr, ?_⟩
  refine runF_post hN ?_
  obtain ⟨ts, S1, μ, π, hl, rs, rt, q⟩ := h
  refine ⟨ts, S1, μ, π, hl, rs, rt, ?_⟩
  unfold calmF at q
  cases e : runF n kk m ts S1 with
  | ok t S2 => rw [e] at q; exact q
  | err c fs S2 => rw [e] at q; exact q.elim
  | bad => rw [e] at q; exact q.elim
end
section
variable {X : Cx} {mg : Str → Option Value} {K : W.Frag} {E : XK} {a b c e : Expr} {es : List Expr} {ma mb mc : M T} {ms : M (List T)} {p pos : Pos} {x : Str}
theorem ecfH {k n : Nat} {G : List T → Sto → R T} (C : CalH X.prog X.w X.K X.mg X.base k x n G) (hr : RoomH k X.A) (hc : HotC X) (ha : PA X (e :: es) (tMA X.mg X.K E0 ms)) (hg : Gl X x := by rfl) (hdb : (x == ("__debug__" : Str)) = false := by decide)
    (he : starEach (e :: es) X.env = (false, eval e X.env) :: starEach es X.env := by rfl) (hpl : (backTo pos (starEach es X.env)).any (·.1) = false := by rfl) : PE X (.Call (.Name x p) (e :: es) [] pos) (tM X.mg X.K E0 (m1 (callF n (calmF G)) ms)) := by
  obtain ⟨f, fd, ps, h1, h2, h3, h4⟩ := C.ex
  refine PEimp (pe_callH (E := fun _ => E0) h1 hr hc hg h2 h3 h4 (fun _ => pAt0) ha hdb he hpl) fun σ H Q h => ?_
  obtain ⟨ρ, S, μ, π, re, rs, q⟩ := h
  refine ⟨ρ, S, μ, π, re, rs, Post.bind (rel' := relV X.K π) q fun ts S1 xs H1 μ1 st1 rs1 ra q1 => ?_⟩
  obtain ⟨c, q1⟩ := Post.gd q1
  exact ⟨ts, S1, μ1, π, c, rs1, ra, q1⟩
theorem PIHimp {tg iter : Expr} {w w' : TI} (h : PIH X tg iter w) (i : ∀ σ H R, w' σ H R → w σ H R) : PIH X tg iter w' := ⟨fun pins s σ H R I q => h.run pins s σ H R I (i σ H R q)⟩
theorem ir1H {tg : Expr} (hm : X.mg "range" = none) (ha : PA X [a] (tMA mg X.K E ms)) (hg : Gl X "range" := by rfl) (hs : starEach [a] X.env = [(false, eval a X.env)] := by rfl) : PIH X tg (.Call (.Name "range" p) [a] [] pos) (tMI mg X.K E (m1 rng1T ms)) := PIHimp (pi_range1H hg hm ha hs) fun σ H R' h => by
  obtain ⟨ρ, S, μ, π, re, rs, q⟩ := h
  refine ⟨ρ, S, μ, π, re, rs, Post.bind (rel' := SrcR X.K π) q fun ts S1 xs H1 μ1 st1 rs1 ra q1 => ?_⟩
  unfold rng1T at q1
  split at q1
  · obtain ⟨v, rfl, rt⟩ := relTs1 ra
    cases relT_int rt
    obtain ⟨c, q1⟩ := Post.gd q1
    exact ⟨_, rfl, c.1, c.2, q1 (Itr 0 _) H1 μ1 Stp.refl rs1 .rng⟩
  · exact q1.elim
theorem elcH {mu : Bool} {elt tg iter : Expr} {ifs : List Expr} {scope : Scope} (own : List (Str × Nat)) {mi : M Src} {g : Tg} {tt : M Bool} {me : M T} (hc : HotC X) (hN : X.N.Nodup) (ok : BlkOk X.N X.env.scope scope own) (hi : PIH X tg iter (tMI mg X.K E mi))
    (hg : ∀ (p : Addr × Obj) (s : Shared) (H : Hp) (C : Addr) (cl : List (Str × Addr)) (fp : List Addr), Hot1 X.A p → PG (blkH X p s H scope (compEnvC scope cl C X.env) fp) tg (tTg X.K g))
    (ht : ∀ (p : Addr × Obj) (s : Shared) (H : Hp) (C : Addr) (cl : List (Str × Addr)) (fp : List Addr), Hot1 X.A p → PTs (blkH X p s H scope (compEnvC scope cl C X.env) fp) ifs (tMB mg X.K E0 tt))
    (he : ∀ (p : Addr × Obj) (s : Shared) (H : Hp) (C : Addr) (cl : List (Str × Addr)) (fp : List Addr), Hot1 X.A p → PE (blkH X p s H scope (compEnvC scope cl C X.env) fp) elt (tM mg X.K E0 me)) (hv : ∀ i ∈ g.slots, i ∈ own.map (·.2) := by decide) (hs : ∀ x, foldedSetIterable iter X.env x = pure x := by intro _; rfl) :
    PE X (.ListComp elt [⟨tg, iter, ifs, 0⟩] scope pos) (tM mg X.K E (lcM mu (own.map (·.2)) mi g tt me)) := PEimp (pe_lcH hc hN hi ok hg ht he hs) fun _ _ _ h => lc_imp hv h
theorem hotB {p : Addr × Obj} {s : Shared} {H : Hp} {sc : Scope} {ce : Env} {fp : List Addr} (h : Hot1 X.A p) : HotC (blkH X p s H sc ce fp) := ⟨p, h, List.mem_singleton.mpr rfl⟩
theorem hotX {CX' : CXT} {P : Program} {w : World} {K : W.Frag} {mg : Str → Option Value} {base : Heap} {N : List Str} {qual : Str} {scope : Scope} {f : Addr} {cd : Value} {A : Around} {outer : List Env} {s : Shared} {H : Hp} {E : XK} {p : Addr × Obj} (h : Hot1 A p) : HotC (cxH CX' P w K mg base N qual scope f cd A outer s H E p) :=
  ⟨p, ⟨h.1, h.2⟩, List.mem_singleton.mpr rfl⟩
end

/-! ## try: f(..) except X as n: .. -/
def calmS (r : RS) : RS := match r with
  | .err _ _ _ => .bad
  | r => r
theorem PostS.calmS {mg : Str → Option Value} {K : W.Frag} {π μ : List Addr} {H : Hp} {r : RS} {D : Ends} {E E' : XK} (h : PostS mg K π μ H (RL.calmS r) D E) : PostS mg K π μ H r D E' := by
  cases r with
  | err c fs S => exact h.elim
  | nx ρ S => exact h
  | ret t S => exact h
  | bad => exact h.elim
/-- whatever the addresses -/
noncomputable def allA (f : Addr → Addr → RS) : RS := @ite _ (∀ a d, f a d = f 0 0) (Classical.propDecidable _) (f 0 0) .bad
theorem allA_eq {f : Addr → Addr → RS} {r : RS} (h : ∀ a d, f a d = r) : allA f = r := by
  unfold allA
  rw [if_pos fun a d => (h a d).trans (h 0 0).symm]
  exact h 0 0
theorem PostS.allA {mg : Str → Option Value} {K : W.Frag} {π μ : List Addr} {H : Hp} {f : Addr → Addr → RS} {D : Ends} {E : XK} (h : PostS mg K π μ H (RL.allA f) D E) (a d : Addr) : PostS mg K π μ H (f a d) D E := by
  unfold RL.allA at h
  by_cases c : ∀ a d, f a d = f 0 0
  · rw [if_pos c] at h
    rw [c a d]
    exact h
  · rw [if_neg c] at h
    exact h.elim
def endT (i : Nat) (r : RS) : RS := match r with
  | .nx ρ S => .nx (ρ.set i none) S
  | r => r
/-- the suite -/
noncomputable def caughtM (catches : Str → Option Bool) (i : Nat) (suite : Addr → Addr → Str → MS) (ρ : Env') (c : Str) (fs : List (Str × T)) (S : Sto) : RS := match catches c, fs with
  | some true, [(f, t)] => allA fun a d => calmS (endT i (suite a d c (ρ.set i (some (.exn a d f t))) S))
  | some false, fs => .err c fs S
  | _, _ => .bad
noncomputable def tryM (catches : Str → Option Bool) (i : Nat) (after : T → Env' → Env') (m : M T) (suite : Addr → Addr → Str → MS) : MS := fun ρ S => match m ρ S with
  | .ok t S1 => .nx (after t ρ) S1
  | .err c fs S1 => caughtM catches i suite ρ c fs S1
  | .bad => .bad
section
variable {X : Cx} {mg : Str → Option Value} {K : W.Frag} {E : XK}
/-- the suite's reading -/
def tsM (mg : Str → Option Value) (K : W.Frag) (suite : Addr → Addr → Str → MS) (a : Addr) (cls : Value) (d : Option Addr) : TS := fun D σ H => ∃ c dd, d = some dd ∧ mg c = some cls ∧ tMS mg K E0 (suite a dd c) D σ H
theorem caught_post {catches : Str → Option Bool} {i : Nat} {suite : Addr → Addr → Str → MS} {ρ : Env'} {c : Str} {fs : List (Str × T)} {S : Sto} {π μ μ' : List Addr} {H H' : Hp} {D : Ends} {σ : L2.St} {cx : Value} {C dd : Addr} {vs : List (Str × V)}
    (hcat : ∀ c b C, catches c = some b → mg c = some (.ref C) → W.exmOne K (.ref C) cx = some b) (p : PostS mg K π μ H (caughtM catches i suite ρ c fs S) D E) (re : RelE K μ' π H' ρ σ) (st : Stp μ H μ' H') (rs : RelS K μ' π H' S) (hm : mg c = some (.ref C)) (hd : H' dd = some (.xd vs)) (rf : RelF K μ' π H' fs vs) :
    wAs K cx i (tsM mg K suite) (fun cls d _ H => E cls d H) D (.ref C) (some dd) σ H' := by
  unfold caughtM at p
  cases e : catches c with
  | none => rw [e] at p; exact p.elim
  | some b =>
    rw [e] at p
    refine ⟨b, hcat c b C e hm, fun hb a na => ?_, fun hb => ?_⟩
    · subst hb
      cases fs with
      | nil => exact p.elim
      | cons ft fs =>
        cases fs with
        | cons g gs => exact p.elim
        | nil =>
          obtain ⟨f, t⟩ := ft
          have p2 := PostS.mono rs st (PostS.calmS (E' := E0) (PostS.allA p a dd))
          obtain ⟨w', hw, rt⟩ := rf f t (by rw [List.lookup_cons]; simp)
          have nd : dd ∉ μ' := fun hmem => by
            obtain ⟨xs, z⟩ := rs.mu hmem
            rw [hd] at z
            cases z
          have rx : RelT K μ' π H' (.exn a dd f t) (.ref a) := by
            unfold RelT
            exact ⟨rfl, vs, w', hd, nd, hw, rt⟩
          refine ⟨c, dd, rfl, hm, ρ.set i (some (.exn a dd f t)), S, μ', π, re.set rx, rs, ?_⟩
          cases es : suite a dd c (ρ.set i (some (.exn a dd f t))) S with
          | nx ρ3 S3 =>
            rw [es] at p2
            intro σ' H2 μ2 st2 rs2 re2
            refine p2 _ H2 μ2 st2 rs2 ⟨by rw [List.length_set, List.length_set]; exact re2.len, fun j u z => ?_⟩
            by_cases hj : i = j
            · subst hj
              by_cases hi : i < ρ3.length
              · rw [List.getElem?_set_self hi] at z; cases z
              · rw [List.getElem?_eq_none (by rw [List.length_set]; omega)] at z; cases z
            · rw [List.getElem?_set_ne hj] at z
              obtain ⟨v, z2, r2⟩ := re2.at_ j u z
              exact ⟨v, by rw [List.getElem?_set_ne hj]; exact z2, r2⟩
          | ret t3 S3 => rw [es] at p2; exact p2
          | err c3 fs3 S3 => rw [es] at p2; exact p2
          | bad => rw [es] at p2; exact p2
    · subst hb
      exact p C dd vs H' μ' st rs hm hd rf
variable {k n : Nat} {F : List T → Sto → R T} {x y nm : Str} {i j : Nat} {cx : Value} {np pos pos' p1 pc px : Pos} {e : Expr} {es : List Expr} {ms : M (List T)} {catches : Str → Option Bool} {b₀ : Stmt} {suite : List Stmt} {su : Addr → Addr → Str → MS}
/-- try: f(..) except y as nm: .. -/
theorem s_tryE (C : CalM X.prog X.w X.K X.mg X.base k x n F) (hr : Room k X.A) (hs : X.stack = X.env :: X.outer) (hf : X.env.frame = some X.env.locals) (hN : X.N.Nodup) (hi : X.N[i]? = some nm) (hln : X.env.kindOf nm = some .local) (hc : Names X y cx)
    (tk : L2N.Takes X fun cls d _ H => E cls d H) (hcat : ∀ c b C, catches c = some b → X.mg c = some (.ref C) → W.exmOne X.K (.ref C) cx = some b)
    (ha : ∀ pn xe, PA (X.tr pn xe) (e :: es) (tMA X.mg X.K E0 ms)) (hg : Gl X x) (hdb : (x == ("__debug__" : Str)) = false) (he : starEach (e :: es) X.env = (false, eval e X.env) :: starEach es X.env) (hpl : (backTo pc (starEach es X.env)).any (·.1) = false)
    (hsw : swapsWith (.Call (.Name x p1) (e :: es) [] pc) none px.line X.env = pure false)
    (hsu : ∀ (a : Addr) (oe : Obj) (cls : Value) (dd : Addr) (c : Str) (pn : List (Addr × Obj)), L2N.Zn cls (some dd) oe → (∃ vs, oe.data = .fields vs) → X.mg c = some cls → PSs (X.suite a ((a, oe) :: pn)) (b₀ :: suite) (tMS X.mg X.K E0 (su a dd c))) :
    PS X (.Try [.Expr (.Call (.Name x p1) (e :: es) [] pc) px] [.ExceptHandler (some (.Name y np)) (some nm) (b₀ :: suite) pos'] [] [] pos) (tMS X.mg X.K E (tryM catches i (fun _ ρ => ρ) (m1 (callF n F) (fun ρ S => calm (ms ρ S))) su)) := by
  obtain ⟨f, fd, ps, h1, h2, h3, h4⟩ := C.ex
  refine PSimp (L2N.ps_try_as (tb := fun W => tDrop (tCallS (spOf X.mg X.K n F) (WE W) (tMA X.mg X.K E0 ms))) (ts := tsM X.mg X.K su) hs hf hN hi hln hc tk
    (fun W pn xe tkW _ => pss_one (ps_expr (pe_callS h1 hr hg h2 h3 h4 (fun σ => L2N.passAt tkW σ) (ha pn xe) hdb he hpl) hsw))
    (fun a oe cls d pn hz hd => ⟨fun pins s σ H D I h => ?_⟩)) fun D σ H h => ?_
  · obtain ⟨c, dd, rfl, hm, h⟩ := h
    exact (hsu a oe cls dd c pn hz hd hm).run pins s σ H D I h
  · obtain ⟨ρ, S, μ, π, re, rs, p⟩ := h
    refine ⟨ρ, S, μ, π, re, rs, ?_⟩
    unfold tryM m1 at p
    dsimp only at p
    cases e1 : ms ρ S with
    | err c fs S1 => rw [e1] at p; exact p.elim
    | bad => rw [e1] at p; exact p.elim
    | ok ts S1 =>
      rw [e1] at p
      intro vs H1 μ1 st1 rs1 rt1
      simp only [calm_ok, R.bind_ok] at p
      unfold callF at p
      by_cases cl : ts.length = n
      · rw [gd_pos cl] at p
        refine ⟨ts, S1, μ1, π, cl, rs1, rt1, ?_⟩
        cases e2 : F ts S1 with
        | bad => rw [e2] at p; exact p.elim
        | ok t S2 =>
          rw [e2] at p
          intro v H2 μ2 st2 rs2 _
          exact p σ H2 μ2 (st1.trans rs1 st2) rs2 ((re.step rs st1).step rs1 st2)
        | err c fs S2 =>
          rw [e2] at p
          intro Cc dd vs2 H2 μ2 st2 rs2 hm hd rf
          exact caught_post hcat p ((re.step rs st1).step rs1 st2) (st1.trans rs1 st2) rs2 hm hd rf
      · unfold RL.gd at p
        rw [if_neg cl] at p
        exact p.elim
/-- try: z = f(..) except y as nm: .. -/
theorem s_tryA {z : Str} {pz : Pos} (C : CalM X.prog X.w X.K X.mg X.base k x n F) (hr : Room k X.A) (hs : X.stack = X.env :: X.outer) (hf : X.env.frame = some X.env.locals) (hN : X.N.Nodup) (hi : X.N[i]? = some nm) (hln : X.env.kindOf nm = some .local) (hc : Names X y cx)
    (tk : L2N.Takes X fun cls d _ H => E cls d H) (hcat : ∀ c b C, catches c = some b → X.mg c = some (.ref C) → W.exmOne X.K (.ref C) cx = some b)
    (ha : ∀ pn xe, PA (X.tr pn xe) (e :: es) (tMA X.mg X.K E0 ms)) (hg : Gl X x) (hdb : (x == ("__debug__" : Str)) = false) (he : starEach (e :: es) X.env = (false, eval e X.env) :: starEach es X.env) (hpl : (backTo pc (starEach es X.env)).any (·.1) = false)
    (hj : X.N[j]? = some z) (hz : Loc X.env.scope z) (hsw : swapsWith (.Call (.Name x p1) (e :: es) [] pc) (some (.Name z pz)) px.line X.env = pure false) (hfn : X.fn z = true ∨ X.env.scope.names.lookup z = some .local)
    (hsu : ∀ (a : Addr) (oe : Obj) (cls : Value) (dd : Addr) (c : Str) (pn : List (Addr × Obj)), L2N.Zn cls (some dd) oe → (∃ vs, oe.data = .fields vs) → X.mg c = some cls → PSs (X.suite a ((a, oe) :: pn)) (b₀ :: suite) (tMS X.mg X.K E0 (su a dd c))) :
    PS X (.Try [.Assign [.Name z pz] (.Call (.Name x p1) (e :: es) [] pc) px] [.ExceptHandler (some (.Name y np)) (some nm) (b₀ :: suite) pos'] [] [] pos) (tMS X.mg X.K E (tryM catches i (fun t ρ => ρ.set j (some t)) (m1 (callF n F) (fun ρ S => calm (ms ρ S))) su)) := by
  obtain ⟨f, fd, ps, h1, h2, h3, h4⟩ := C.ex
  refine PSimp (L2N.ps_try_as (tb := fun W => tAsg (tCallS (spOf X.mg X.K n F) (WE W) (tMA X.mg X.K E0 ms)) (gName j)) (ts := tsM X.mg X.K su) hs hf hN hi hln hc tk
    (fun W pn xe tkW _ => pss_one (ps_set (X := X.tr pn xe) hN hj hz (pe_callS h1 hr hg h2 h3 h4 (fun σ => L2N.passAt tkW σ) (ha pn xe) hdb he hpl) hsw hfn))
    (fun a oe cls d pn hz hd => ⟨fun pins s σ H D I h => ?_⟩)) fun D σ H h => ?_
  · obtain ⟨c, dd, rfl, hm, h⟩ := h
    exact (hsu a oe cls dd c pn hz hd hm).run pins s σ H D I h
  · obtain ⟨ρ, S, μ, π, re, rs, p⟩ := h
    refine ⟨ρ, S, μ, π, re, rs, ?_⟩
    unfold tryM m1 at p
    dsimp only at p
    cases e1 : ms ρ S with
    | err c fs S1 => rw [e1] at p; exact p.elim
    | bad => rw [e1] at p; exact p.elim
    | ok ts S1 =>
      rw [e1] at p
      intro vs H1 μ1 st1 rs1 rt1
      simp only [calm_ok, R.bind_ok] at p
      unfold callF at p
      by_cases cl : ts.length = n
      · rw [gd_pos cl] at p
        refine ⟨ts, S1, μ1, π, cl, rs1, rt1, ?_⟩
        cases e2 : F ts S1 with
        | bad => rw [e2] at p; exact p.elim
        | ok t S2 =>
          rw [e2] at p
          intro v H2 μ2 st2 rs2 rv
          exact p _ H2 μ2 (st1.trans rs1 st2) rs2 (((re.step rs st1).step rs1 st2).set rv)
        | err c fs S2 =>
          rw [e2] at p
          intro Cc dd vs2 H2 μ2 st2 rs2 hm hd rf
          exact caught_post hcat p ((re.step rs st1).step rs1 st2) (st1.trans rs1 st2) rs2 hm hd rf
      · unfold RL.gd at p
        rw [if_neg cl] at p
        exact p.elim
end
end RL
end
section
set_option maxRecDepth 100000
set_option maxHeartbeats 2000000
namespace RL
open PySem PySem.Spec PyProof.Rows L2 TL L2H
open scoped RL.R RL.RS

/-! ## what a suite asks of the caught exception -/
/-- isinstance and the fields, by the classes' names -/
structure ExnK (K : W.Frag) (mg : Str → Option Value) (subs : Str → Str → Option Bool) (flds : Str → Str → Bool) : Prop where
  sub : ∀ c x b, subs c x = some b → ∃ C, mg c = some (.ref C) ∧ ExcC K C ∧ ((∃ Cx, mg x = some (.ref Cx) ∧ W.kitOne K (.ref C) (.ref Cx) = some b) ∨ (mg x = none ∧ x ≠ "__name__" ∧ ∃ n, bootBuiltins x = some (.type n) ∧ W.kitOne K (.ref C) (.type n) = some b))
  fld : ∀ c f, flds c f = true → ∃ C, mg c = some (.ref C) ∧ XfC K C ∧ W.findIn K (.ref C) f = some none
noncomputable def isxM (subs : Str → Str → Option Bool) (a dd : Addr) (c : Str) (i : Nat) (x : Str) : M T := fun ρ S => match ρ[i]? with
  | some (some (.exn a' d' f t)) => gd (a' = a ∧ d' = dd) (match subs c x with
    | some b => .ok (.bl b) S
    | none => .bad)
  | _ => .bad
noncomputable def xfM (flds : Str → Str → Bool) (a dd : Addr) (c : Str) (i : Nat) (f : Str) : M T := fun ρ S => match ρ[i]? with
  | some (some (.exn a' d' f' t)) => gd (a' = a ∧ d' = dd ∧ f' = f ∧ flds c f = true) (.ok t S)
  | _ => .bad
section
variable {X : Cx} {a dd : Addr} {oe : Obj} {cls : Value} {pn : List (Addr × Obj)} {subs : Str → Str → Option Bool} {flds : Str → Str → Bool} {c x nm f : Str} {i : Nat} {p p1 p2 pos : Pos}
theorem isE {C : Addr} (hC : ExcC X.K C) (hz : L2N.Zn (.ref C) (some dd) oe) (hf : ∃ vs, oe.data = .fields vs) : CallR (X.suite a ((a, oe) :: pn)) (.builtin "isinstance")
    (fun xs H Q => ∃ (y : V) (cv : Value) (b : Bool) (fs : List (Str × V)), xs = [.ref a, y] ∧ (∀ u, RelV y u → u = cv) ∧ W.kitOne X.K (.ref C) cv = some b ∧ H dd = some (.xd fs) ∧ Q (.bl b) H) := by
  intro pins s σ H xs us Q I r h
  obtain ⟨y, cv, b, fs, rfl, only, kit, atD, q⟩ := h
  cases r with
  | cons r1 r =>
    cases r with
    | cons r2 r =>
      cases r
      cases r1
      cases only _ r2
      obtain ⟨vs, hv⟩ := hf
      obtain ⟨hget, _⟩ := I.pin (a, oe) (List.mem_append_left _ List.mem_cons_self)
      have live : ObjOk X.prog X.w H s.heap dd (.xd fs) := I.hok dd _ atD
      obtain ⟨mA, ns, _⟩ := live
      obtain ⟨od, ho, _⟩ := lookIn_ns ns
      have inst : W.InstAt s.heap a oe C (some od) := ⟨hget, hz.1, by unfold W.notCls; rw [hv] <;> rfl, by rw [hz.2.1]; exact ho⟩
      obtain ⟨cd, hcd, _⟩ := W.any_some hC.hd
      exact W.kia_one (W.kitx_exc (by rw [hcd]; rfl) hC.hg hC.hk hC.hs hC.ha hC.hn hC.ht hC.hm) I.kIn inst kit (fun z => nomatch z) fun tk => ⟨.bl b, H, I.kept (t' := tk) fun _ _ z => z, rfl, q⟩
theorem exn_at {ρ : Env'} {σ : L2.St} {K : W.Frag} {μ π : List Addr} {H : Hp} {a d : Addr} {f : Str} {t : T} (re : RelE K μ π H ρ σ) (e : ρ[i]? = some (some (.exn a d f t))) : σ[i]? = some (some (.ref a)) ∧ ∃ vs w, H d = some (.xd vs) ∧ vs.lookup f = some w ∧ RelT K μ π H t w := by
  obtain ⟨v, h1, h2⟩ := re.at_ i _ e
  unfold RelT at h2
  obtain ⟨rfl, vs, w', h3, _, h4, h5⟩ := h2
  exact ⟨h1, vs, w', h3, h4, h5⟩
theorem e_isx (EK : ExnK X.K X.mg subs flds) (hz : L2N.Zn cls (some dd) oe) (hf : ∃ vs, oe.data = .fields vs) (hm : X.mg c = some cls) (hI : X.mg "isinstance" = none) (hi : X.N[i]? = some nm := by rfl) (hv : Vis X.env.scope nm := by first | exact Or.inl rfl | exact Or.inr (Or.inl rfl) | exact Or.inr (Or.inr rfl))
    (g1 : Gl (X.suite a ((a, oe) :: pn)) "isinstance" := by rfl) (g2 : Gl (X.suite a ((a, oe) :: pn)) x := by rfl) (d1 : (nm == ("__debug__" : Str)) = false := by decide) (d2 : (nm == ("__classdict__" : Str)) = false := by decide) (d3 : (x == ("__debug__" : Str)) = false := by decide) :
    PE (X.suite a ((a, oe) :: pn)) (.Call (.Name "isinstance" p) [.Name nm p1, .Name x p2] [] pos) (tM X.mg X.K E0 (isxM subs a dd c i x)) := by
  refine ⟨fun pins s σ H Q I h => ?_⟩
  obtain ⟨ρ, S, μ, π, re, rs, q⟩ := h
  unfold isxM at q
  split at q
  · rename_i a' d' f' t' e
    obtain ⟨⟨ea, ed⟩, q1⟩ := Post.gd q
    clear q
    subst ea ed
    cases es : subs c x with
    | none => rw [es] at q1; exact q1.elim
    | some b =>
      rw [es] at q1
      obtain ⟨C, hC, xc, which⟩ := EK.sub c x b es
      obtain rfl : cls = .ref C := by rw [hm] at hC; exact Option.some.inj hC
      obtain ⟨hs, vs, w', atD, _, _⟩ := exn_at re e
      have fin : Q (.bl b) H := Post.val q1 rs mkBl
      have pvn : PE (X.suite a' ((a', oe) :: pn)) (.Name nm p1) (tVar i) := pe_var hi hv d1 d2
      rcases which with ⟨Cx', hx, kit⟩ | ⟨hx, nn, n, hb, kit⟩
      · have pg : PE (X.suite a' ((a', oe) :: pn)) (.Name x p2) (tC (.ref Cx')) := PEimp (pe_glob (v := .ref Cx') g2 hx rfl d3) fun _ _ _ h => h
        exact (pe_callB (isE xc hz hf) g1 hI (by decide +kernel) (pa_cons pvn (pa_cons pg pa_nil (by rfl)) (by rfl)) (by decide) (by decide) (by rfl) (by rfl)).run pins s σ H Q I
          ⟨_, hs, _, _, b, vs, rfl, fun u r => r, kit, atD, fin⟩
      · have pg : PE (X.suite a' ((a', oe) :: pn)) (.Name x p2) (tC (.ty n)) := PEimp (pe_bltn (v := .ty n) g2 hx hb rfl nn d3) fun _ _ _ h => h
        exact (pe_callB (isE xc hz hf) g1 hI (by decide +kernel) (pa_cons pvn (pa_cons pg pa_nil (by rfl)) (by rfl)) (by decide) (by decide) (by rfl) (by rfl)).run pins s σ H Q I
          ⟨_, hs, _, _, b, vs, rfl, fun u r => r, kit, atD, fin⟩
  · exact q.elim
theorem e_xf (EK : ExnK X.K X.mg subs flds) (hz : L2N.Zn cls (some dd) oe) (hf : ∃ vs, oe.data = .fields vs) (hm : X.mg c = some cls) (hi : X.N[i]? = some nm := by rfl) (hv : Vis X.env.scope nm := by first | exact Or.inl rfl | exact Or.inr (Or.inl rfl) | exact Or.inr (Or.inr rfl))
    (d1 : (nm == ("__debug__" : Str)) = false := by decide) (d2 : (nm == ("__classdict__" : Str)) = false := by decide) (hb : attributeBase (.Name nm p1) f X.env (eval (.Name nm p1) X.env) = eval (.Name nm p1) X.env := by rfl) :
    PE (X.suite a ((a, oe) :: pn)) (.Attribute (.Name nm p1) f pos) (tM X.mg X.K E0 (xfM flds a dd c i f)) := by
  refine ⟨fun pins s σ H Q I h => ?_⟩
  obtain ⟨ρ, S, μ, π, re, rs, q⟩ := h
  unfold xfM at q
  split at q
  · rename_i a' d' f' t' e
    obtain ⟨⟨ea, ed, ef, fl⟩, q1⟩ := Post.gd q
    clear q
    subst ea ed ef
    obtain ⟨C, hC, xc, no⟩ := EK.fld _ _ fl
    obtain rfl : cls = .ref C := by rw [hm] at hC; exact Option.some.inj hC
    obtain ⟨hs, vs, w', atD, hl, rt⟩ := exn_at re e
    exact (pe_xf (d := some d') xc no hz.zc hf (pe_var (X := X.suite a' ((a', oe) :: pn)) hi hv d1 d2) hb).run pins s σ H Q I ⟨_, hs, rfl, rfl, d', vs, w', rfl, atD, hl, Post.val q1 rs rt⟩
  · exact q.elim
theorem hotS {cc : Value} {d : Option Addr} (hz : L2N.Zn cc d oe) (hf : ∃ vs, oe.data = .fields vs) : HotC (X.suite a ((a, oe) :: pn)) := by
  obtain ⟨vs, hv⟩ := hf
  exact ⟨(a, oe), ⟨rfl, vs, hv, hz.2.2 vs hv⟩, List.mem_cons_self⟩
end
end RL
end
section
set_option maxRecDepth 100000
set_option maxHeartbeats 2000000
namespace RL
open PySem L2
open scoped RL.R RL.RS

/-! ## equations of the meanings -/
section
variable {ρ : Env'} {S S' : Sto}
@[scoped simp] theorem m1_eq {α β : Type} (f : α → Sto → R β) (ma : M α) : m1 f ma ρ S = (ma ρ S).bind fun a S1 => f a S1 := rfl
@[scoped simp] theorem m2_eq {α β γ : Type} (f : α → β → Sto → R γ) (ma : M α) (mb : M β) : m2 f ma mb ρ S = (ma ρ S).bind fun a S1 => (mb ρ S1).bind fun b S2 => f a b S2 := rfl
@[scoped simp] theorem retM_eq (t : T) : retM t ρ S = .ok t S := rfl
@[scoped simp] theorem nilM_eq : nilM ρ S = .ok [] S := rfl
@[scoped simp] theorem consM_eq (m : M T) (ms : M (List T)) : consM m ms ρ S = (m ρ S).bind fun a S1 => (ms ρ S1).bind fun as S2 => .ok (a :: as) S2 := rfl
@[scoped simp] theorem andV_eq (ma mb : M T) : andV ma mb ρ S = (ma ρ S).bind fun a S1 => (truthT a S1).bind fun k S2 => if k = true then mb ρ S2 else .ok a S2 := rfl
@[scoped simp] theorem orV_eq (ma mb : M T) : orV ma mb ρ S = (ma ρ S).bind fun a S1 => (truthT a S1).bind fun k S2 => if k = true then .ok a S2 else mb ρ S2 := rfl
@[scoped simp] theorem andM_eq (m n : M Bool) : andM m n ρ S = (m ρ S).bind fun b S1 => if b = true then n ρ S1 else .ok false S1 := rfl
@[scoped simp] theorem orM_eq (m n : M Bool) : orM m n ρ S = (m ρ S).bind fun b S1 => if b = true then .ok true S1 else n ρ S1 := rfl
@[scoped simp] theorem iteM_eq (m : M Bool) (ma mb : M T) : iteM m ma mb ρ S = (m ρ S).bind fun k S1 => if k = true then ma ρ S1 else mb ρ S1 := rfl
@[scoped simp] theorem notT_eq (b : Bool) : notT b S = .ok (!b) S := rfl
@[scoped simp] theorem blT_eq (b : Bool) : blT b S = .ok (.bl b) S := rfl
@[scoped simp] theorem boolOf_eq (b : Bool) : boolOf (.bl b) S = .ok b S := rfl
@[scoped simp] theorem truth_bl (b : Bool) : truthT (.bl b) S = .ok b S := rfl
@[scoped simp] theorem truth_int (i : Int) : truthT (.int i) S = .ok (i != 0) S := rfl
@[scoped simp] theorem truth_str (x : Str) : truthT (.str x) S = .ok ((x.length : Int) != 0) S := rfl
@[scoped simp] theorem truth_tup (l : List T) : truthT (.tup l) S = .ok (!l.isEmpty) S := rfl
@[scoped simp] theorem truth_lst (l : List T) : truthT (.lst l) S = .ok (!l.isEmpty) S := rfl
@[scoped simp] theorem truth_non : truthT .non S = .ok false S := rfl
@[scoped simp] theorem seqM_eq (m n : MS) : seqM m n ρ S = (m ρ S).seq n := rfl
@[scoped simp] theorem nextM_eq : nextM ρ S = .nx ρ S := rfl
@[scoped simp] theorem dropM_eq (m : M T) : dropM m ρ S = (m ρ S).bindS fun _ S1 => .nx ρ S1 := rfl
@[scoped simp] theorem retS_eq (m : M T) : retS m ρ S = (m ρ S).bindS fun t S1 => .ret t S1 := rfl
@[scoped simp] theorem ifS_eq (c : M Bool) (m n : MS) : ifS c m n ρ S = (c ρ S).bindS fun b S1 => if b = true then m ρ S1 else n ρ S1 := rfl
@[scoped simp] theorem setM_eq (i : Nat) (m : M T) : setM i m ρ S = (m ρ S).bindS fun t S1 => .nx (ρ.set i (some t)) S1 := rfl
@[scoped simp] theorem subS_eq (mv mo mi : M T) : subS mv mo mi ρ S = (mv ρ S).bindS fun v S1 => (mo ρ S1).bindS fun o S2 => (mi ρ S2).bindS fun i S3 => (setT o i v S3).bindS fun _ S4 => .nx ρ S4 := rfl
@[scoped simp] theorem raiseM_eq (c f : Str) (m : M T) : raiseM c f m ρ S = (m ρ S).bindS fun t S1 => .err c [(f, t)] S1 := rfl
@[scoped simp] theorem forM_eq (mi : M Src) (g : Tg) (body : MS) : forM mi g body ρ S = (mi ρ S).bindS fun src S1 => forL src g body src.1 ρ S1 := rfl
@[scoped simp] theorem lcM_eq (mu : Bool) (own : List Nat) (mi : M Src) (g : Tg) (tt : M Bool) (me : M T) : lcM mu own mi g tt me ρ S = (mi ρ S).bind fun src S1 => (calm (lcL src g tt me src.1 [] (wipeE ρ own) S1)).bind (lstT mu) := rfl
@[scoped simp] theorem yesM_eq : yesM ρ S = .ok true S := rfl
@[scoped simp] theorem bmM_eq (ty : String) (f : T → List T → Sto → R T) (mo : M T) (ms : M (List T)) : bmM ty f mo ms ρ S = (mo ρ S).bind fun o S1 => gd (isRecv ty o = true) ((ms ρ S1).bind fun as S2 => f o as S2) := rfl
@[scoped simp] theorem callF_eq (n : Nat) (F : List T → Sto → R T) (ts : List T) : callF n F ts S = gd (ts.length = n) (F ts S) := rfl
@[scoped simp] theorem slM_eq (mu : Bool) (ma : M T) (ml mh : M (Option Int)) : slM mu ma ml mh ρ S = (ma ρ S).bind fun a S1 => (ml ρ S1).bind fun lo S2 => (mh ρ S2).bind fun hi S3 => slT mu a lo hi S3 := rfl
@[scoped simp] theorem partM_none : partM none ρ S = .ok none S := rfl
@[scoped simp] theorem partM_some (m : M T) : partM (some m) ρ S = (m ρ S).bind fun t S1 => match t with
    | .int i => .ok (some i) S1
    | _ => .bad := rfl
@[scoped simp] theorem f1_eq (g : T → Sto → R T) (t : T) : f1 g [t] S = g t S := rfl
@[scoped simp] theorem f2_eq (g : T → T → Sto → R T) (t u : T) : f2 g [t, u] S = g t u S := rfl
@[scoped simp] theorem tupT_eq (l : List T) : tupT l S = if l.length ≤ 16777216 then .ok (.tup l) S else .bad := by unfold tupT; rw [sizeLine_eq]
@[scoped simp] theorem lstT_f (l : List T) : lstT false l S = if l.length ≤ 16777216 then .ok (.lst l) S else .bad := by unfold lstT; rw [sizeLine_eq]; simp
@[scoped simp] theorem lstT_t (l : List T) : lstT true l S = if l.length ≤ 16777216 then .ok (.loc S.length) (S ++ [l]) else .bad := by unfold lstT; rw [sizeLine_eq]; simp
theorem var_eq {i : Nat} {t : T} (h : ρ[i]? = some (some t)) : varM i ρ S = .ok t S := by unfold varM; rw [h]
@[scoped simp] theorem calmF_eq (F : List T → Sto → R T) (ts : List T) : calmF F ts S = calm (F ts S) := rfl
@[scoped simp] theorem add_int (i j : Int) : addT (.int i) (.int j) S = .ok (.int (i + j)) S := rfl
@[scoped simp] theorem sub_int (i j : Int) : subT (.int i) (.int j) S = .ok (.int (i - j)) S := rfl
@[scoped simp] theorem mod_int (i j : Int) : modT (.int i) (.int j) S = gd (0 < j) (.ok (.int (i % j)) S) := rfl
@[scoped simp] theorem neg_int (i : Int) : negT (.int i) S = .ok (.int (-i)) S := rfl
@[scoped simp] theorem int_int (i : Int) : intF (.int i) S = .ok (.int i) S := rfl
@[scoped simp] theorem int_bl (b : Bool) : intF (.bl b) S = .ok (.int (if b then 1 else 0)) S := rfl
@[scoped simp] theorem abs_int (i : Int) : absT (.int i) S = .ok (.int (if i < 0 then -i else i)) S := rfl
@[scoped simp] theorem lt_int (i j : Int) : ltT (.int i) (.int j) S = .ok (.bl (decide (i < j))) S := rfl
@[scoped simp] theorem le_int (i j : Int) : leT (.int i) (.int j) S = .ok (.bl (decide (i ≤ j))) S := rfl
@[scoped simp] theorem gt_int (i j : Int) : gtT (.int i) (.int j) S = .ok (.bl (decide (j < i))) S := rfl
@[scoped simp] theorem ge_int (i j : Int) : geT (.int i) (.int j) S = .ok (.bl (decide (j ≤ i))) S := rfl
@[scoped simp] theorem eq_int (i j : Int) : eqT (.int i) (.int j) S = .ok (.bl (decide (i = j))) S := rfl
@[scoped simp] theorem eq_str (i j : Str) : eqT (.str i) (.str j) S = .ok (.bl (decide (i = j))) S := rfl
@[scoped simp] theorem eq_bl (i j : Bool) : eqT (.bl i) (.bl j) S = .ok (.bl (decide (i = j))) S := rfl
@[scoped simp] theorem ne_int (i j : Int) : neT (.int i) (.int j) S = .ok (.bl (!decide (i = j))) S := rfl
@[scoped simp] theorem ne_str (i j : Str) : neT (.str i) (.str j) S = .ok (.bl (!decide (i = j))) S := rfl
@[scoped simp] theorem ne_bl (i j : Bool) : neT (.bl i) (.bl j) S = .ok (.bl (!decide (i = j))) S := rfl
@[scoped simp] theorem is_non (t : T) : isT t .non S = .ok (.bl (isNonT t)) S := rfl
@[scoped simp] theorem isnt_non (t : T) : isntT t .non S = .ok (.bl (!isNonT t)) S := rfl
@[scoped simp] theorem len_str (x : Str) : lenT (.str x) S = .ok (.int x.length) S := rfl
@[scoped simp] theorem len_tup (l : List T) : lenT (.tup l) S = .ok (.int l.length) S := rfl
@[scoped simp] theorem len_lst (l : List T) : lenT (.lst l) S = .ok (.int l.length) S := rfl
theorem len_loc {n : Nat} {l : List T} (h : S[n]? = some l) : lenT (.loc n) S = .ok (.int l.length) S := by unfold lenT itemsT; simp only [h]
@[scoped simp] theorem iter_lst (l : List T) : iterT (.lst l) S = .ok (l, none) S := rfl
@[scoped simp] theorem iter_tup (l : List T) : iterT (.tup l) S = .ok (l, none) S := rfl
@[scoped simp] theorem iter_str (x : Str) : iterT (.str x) S = .ok (chs x, none) S := rfl
theorem iter_loc {n : Nat} {l : List T} (h : S[n]? = some l) : iterT (.loc n) S = .ok (l, some n) S := by unfold iterT; simp only [h]
@[scoped simp] theorem ifbind {α β : Type} (c : Prop) [Decidable c] (a b : R α) (f : α → Sto → R β) : (if c then a else b).bind f = if c then a.bind f else b.bind f := by split <;> rfl
@[scoped simp] theorem ifbindS {α : Type} (c : Prop) [Decidable c] (a b : R α) (f : α → Sto → RS) : (if c then a else b).bindS f = if c then a.bindS f else b.bindS f := by split <;> rfl
@[scoped simp] theorem ifseq (c : Prop) [Decidable c] (a b : RS) (f : MS) : (if c then a else b).seq f = if c then a.seq f else b.seq f := by split <;> rfl
theorem run_ret {n k : Nat} {m : MS} {as : List T} {t : T} (h : m (startE n k as) S = .ret t S') : runF n k m as S = .ok t S' := by unfold runF; rw [h]
theorem run_err {n k : Nat} {m : MS} {as : List T} {c : Str} {fs : List (Str × T)} (h : m (startE n k as) S = .err c fs S') : runF n k m as S = .err c fs S' := by unfold runF; rw [h]
end
/-! ## loops -/
@[scoped simp] theorem grd_none (l : List T) (S : Sto) : Grd none l S = True := rfl
@[scoped simp] theorem grd_some (n : Nat) (l : List T) (S : Sto) : Grd (some n) l S = (S[n]? = some l) := rfl
theorem lcL_nil {src : Src} {g : Tg} {tt : M Bool} {me : M T} {acc : List T} {ρ : Env'} {S : Sto} (h : Grd src.2 src.1 S) : lcL src g tt me [] acc ρ S = .ok acc S := by unfold lcL; rw [gdc_pos h]
theorem lcL_yes {src : Src} {g : Tg} {tt : M Bool} {me : M T} {acc : List T} {t y : T} {ts : List T} {ρ ρ1 : Env'} {S S1 S2 : Sto} (h : Grd src.2 src.1 S) (hg : tgT g t S ρ = some ρ1) (ht : tt ρ1 S = .ok true S1) (hm : me ρ1 S1 = .ok y S2) (ha : acc.length < 16777216) :
    lcL src g tt me (t :: ts) acc ρ S = lcL src g tt me ts (acc ++ [y]) ρ S2 := by
  rw [lcL, gdc_pos h, hg]
  simp only [ht, hm, R.bind_ok, if_true]
  rw [gd_pos (by rw [sizeLine_eq]; exact ha)]
theorem lcL_no {src : Src} {g : Tg} {tt : M Bool} {me : M T} {acc : List T} {t : T} {ts : List T} {ρ ρ1 : Env'} {S S1 : Sto} (h : Grd src.2 src.1 S) (hg : tgT g t S ρ = some ρ1) (ht : tt ρ1 S = .ok false S1) :
    lcL src g tt me (t :: ts) acc ρ S = lcL src g tt me ts acc ρ S1 := by
  rw [lcL, gdc_pos h, hg]
  simp only [ht, R.bind_ok]
  rfl
/-- the items' tests and values are plain -/
theorem lcL_pure {src : Src} {i : Nat} {tt : M Bool} {me : M T} {ρ : Env'} {S : Sto} (p : T → Bool) (f : T → T) (h : Grd src.2 src.1 S) : ∀ (l acc : List T), acc.length + l.length ≤ 16777216 → (∀ t ∈ l, tt (ρ.set i (some t)) S = .ok (p t) S) →
    (∀ t ∈ l, p t = true → me (ρ.set i (some t)) S = .ok (f t) S) → lcL src (.one i) tt me l acc ρ S = .ok (acc ++ (l.filter p).map f) S
  | [], acc, _, _, _ => by rw [lcL_nil h]; simp
  | t :: l, acc, hl, ht, hm => by
    simp only [List.length_cons] at hl
    have h1 := ht t (List.mem_cons_self ..)
    have r1 : ∀ u ∈ l, tt (ρ.set i (some u)) S = .ok (p u) S := fun u hu => ht u (List.mem_cons_of_mem _ hu)
    have r2 : ∀ u ∈ l, p u = true → me (ρ.set i (some u)) S = .ok (f u) S := fun u hu => hm u (List.mem_cons_of_mem _ hu)
    cases e : p t with
    | true =>
      rw [e] at h1
      rw [lcL_yes h rfl h1 (hm t (List.mem_cons_self ..) e) (by omega), lcL_pure p f h l (acc ++ [f t]) (by simp; omega) r1 r2]
      simp [e]
    | false =>
      rw [e] at h1
      rw [lcL_no h rfl h1, lcL_pure p f h l acc (by omega) r1 r2]
      simp [e]
theorem forL_nil {src : Src} {g : Tg} {body : MS} {ρ : Env'} {S : Sto} (h : Grd src.2 src.1 S) : forL src g body [] ρ S = .nx ρ S := by unfold forL; rw [gdS_pos h]
theorem forL_cons {src : Src} {g : Tg} {body : MS} {t : T} {ts : List T} {ρ ρ1 : Env'} {S : Sto} (h : Grd src.2 src.1 S) (hg : tgT g t S ρ = some ρ1) : forL src g body (t :: ts) ρ S = (body ρ1 S).seq (forL src g body ts) := by
  rw [forL]
  dsimp only
  rw [gdS_pos h, hg]
/-- a loop by its invariant -/
theorem forL_inv {src : Src} {g : Tg} {body : MS} (I : Env' → Sto → Prop) (hG : ∀ ρ S, I ρ S → Grd src.2 src.1 S) : ∀ (l : List T) {ρ : Env'} {S : Sto}, I ρ S → (∀ t ∈ l, ∀ ρ S, I ρ S → ∃ ρ1, tgT g t S ρ = some ρ1 ∧ ∃ ρ2 S2, body ρ1 S = .nx ρ2 S2 ∧ I ρ2 S2) →
    ∃ ρ2 S2, forL src g body l ρ S = .nx ρ2 S2 ∧ I ρ2 S2
  | [], ρ, S, h, _ => ⟨ρ, S, forL_nil (hG ρ S h), h⟩
  | t :: l, ρ, S, h, hs => by
    obtain ⟨ρ1, e1, ρ2, S2, e2, h2⟩ := hs t (List.mem_cons_self ..) ρ S h
    obtain ⟨ρ3, S3, e3, h3⟩ := forL_inv I hG l h2 fun u hu => hs u (List.mem_cons_of_mem _ hu)
    exact ⟨ρ3, S3, by rw [forL_cons (hG ρ S h) e1, e2, RS.seq_nx, e3], h3⟩
end RL
end
section
set_option maxRecDepth 100000
set_option maxHeartbeats 2000000
namespace RL
open PySem PySem.Spec PyProof.Rows L2 TL
open scoped RL.R RL.RS
/-! ## names = e -/
section
variable {X : Cx} {mg : Str → Option Value} {K : W.Frag} {E : XK} {e tg : Expr} {pos : Pos} {me : M T}
theorem sasg {g : Tg} (he : PE X e (tM mg X.K E me)) (hg : PG X tg (tTg X.K g)) (hs : swapsWithSole [tg] e pos.line X.env = pure false := by rfl) (hw : swappedStores [tg] e X.env = pure none := by rfl) (h1 : (assignEach [tg] X.env).map (·.2) = [assign tg X.env] := by rfl) :
    PS X (.Assign [tg] e pos) (tMS mg X.K E (asgM g me)) := s_asg he hg hs hw h1
end
end RL
end
section
set_option maxRecDepth 100000
set_option maxHeartbeats 2000000
namespace RL
open PySem PySem.Spec PyProof.Rows L2 TL L2H
open scoped RL.R RL.RS
/-! ## a def that is called while an exception of a known class is handled -/
/-- p is the handled exception, of the class that bears the name c, with the dict dd -/
structure ExP (mg : Str → Option Value) (A : Around) (c : Str) (dd : Addr) (p : Addr × Obj) : Prop where
  hot : Hot1 A p
  zn : ∃ cls, L2N.Zn cls (some dd) p.2 ∧ mg c = some cls
structure FnX (P : Program) (w : World) (K : W.Frag) (mg : Str → Option Value) (base : Heap) (k : Nat) (f : Addr) (fd : FuncData) (ps : List Str) (sp : Str → Addr → Addr → Sp) : Prop where
  len : ∀ c a d vs H Q E, sp c a d vs H Q E → vs.length = ps.length
  run : ∀ {c : Str} {dd : Addr} {p : Addr × Obj} {A : Around} {outer : List Env} {s : Shared} {H : Hp} {args : Args} {us : List Value} {vs : List V} {Q : VK} {E : XK}, ExP mg A c dd p → RoomH k A → PinOk outer H s p → Env0 P w K mg base A outer s H → Vals vs us → BindsTo s fd args (ps.zip us) → sp c p.1 dd vs H Q E →
    codeAny (model P w) A (.call (.ref f) args) (CR (L2N.CX P w) outer P w H s Q E) s
theorem fn_ofX {P : Program} {w : World} {K : W.Frag} {mg : Str → Option Value} {base : Heap} {k : Nat} {f : Addr} {name qual : Str} {params : Arguments} {body : List Stmt} {scope : Scope} {dV kV doc pm cdv ct oc : Value} {an od : Option Addr} {osl : Array (Option Value)} {N ps : List Str} {sp : Str → Addr → Addr → Sp}
    (look : K.lookup f = some ⟨oc, od, .func (W.fnOf name qual params body scope dV kV doc pm an cdv ct), osl⟩) (code : W.codeIn K cdv qual = true) (sc : FnScope N ps scope) (len : ∀ c a d vs H Q E, sp c a d vs H Q E → vs.length = ps.length)
    (bod : ∀ {c : Str} {dd : Addr} {p : Addr × Obj} {A : Around} {outer : List Env} {s : Shared} {H : Hp} {vs : List V} {Q : VK} {E : XK}, ExP mg A c dd p → RoomH k (A.deeper (envOfC qual scope s.heap.objs.size f cdv)) → sp c p.1 dd vs H Q E → ∃ t, PSs (cxH (L2N.CX P w) P w K mg base N qual scope f cdv A outer s H E p) body t ∧ t { rt := Q, nx := fun _ K2 => Q .non K2 } (L2.start N vs) H) :
    FnX P w K mg base (k + 1) f (W.fnOf name qual params body scope dV kV doc pm an cdv ct) ps sp := ⟨len, fun {c dd p A outer s H args us vs Q E} xp room pin e0 vu bd z => by
  have kin := e0.mod.kin.keeps (h' := s.heap) fun b o e => (e0.bs b o e).1
  have nl := e0.mod.nolimit.keeps (h' := s.heap) fun b o e => (e0.bs b o e).1
  refine codeAny_call_function room.depth (kin f _ look) rfl sc.co sc.gen rfl (W.codeRec_of kin code) (bd _ _ _ _ ?_)
  refine wpAny_newFunctionEnv_cells sc.kind (fun nv inz => ?_) fun en isE s1 x => ?_
  · rcases sc.par nv.1 (List.of_mem_zip (show (nv.1, nv.2) ∈ ps.zip us from inz)).1 with q | q
    · exact .inl q
    · exact .inr ⟨q, W.cellsFrom_some _ _ _ (.inl q)⟩
  · cases isE
    refine ⟨nl.keeps x.toInCall.keep, codeAny_func ?_⟩
    obtain ⟨t, body_ok, tz⟩ := bod (outer := outer) xp (room.deeper _) z
    refine wpAny_mono (body_ok.run [] s1 _ H _ (inv_startH sc pin e0 (len _ _ _ _ _ _ _ z) vu x) tz) (fun fl s' hs => ?_) fun _ _ hs => hs
    cases fl with
    | next =>
      obtain ⟨σ1, H1, J, q⟩ := hs
      exact ⟨.non, H1, J.os, J.bare, J.base, J.hok, rfl, q⟩
    | ret u =>
      obtain ⟨v, σ1, H1, J, rv, q⟩ := hs
      exact ⟨v, H1, J.os, J.bare, J.base, J.hok, rv, q⟩
    | cont =>
      obtain ⟨_, _, _, q⟩ := hs
      exact q.elim
    | brk =>
      obtain ⟨_, _, _, q⟩ := hs
      exact q.elim⟩

/-- a suite's reading is one of the def that gets the handled exception -/
theorem mark_self {A : Around} {a : Addr} (h : A.handled = some (.ref a)) : A.mark (some (.ref a)) = A := by
  cases A
  cases h
  rfl
theorem inv_xe {X : Cx} {xe xe' : Value → Shared → Prop} {pins : List (Addr × Obj)} {σ : L2.St} {H : Hp} {s : Shared} (I : Inv { X with xe := xe } pins σ H s) : Inv { X with xe := xe' } pins σ H s := by
  have ok : Cx.Ok { X with xe := xe' } := by
    cases I.ok
    constructor <;> assumption
  exact ⟨ok, I.os, I.bare, I.base, I.loc, I.cell, I.free, I.freeC, I.pin, I.hok, I.len⟩
theorem pss_hot {X : Cx} {p : Addr × Obj} {body : List Stmt} {t : TS} (hc : X.calm = false) (hp : X.pn = [p]) (hA : X.A.handled = some (.ref p.1)) (h : PSs (X.suite p.1 [p]) body t) : PSs X body t := by
  have e : X.suite p.1 [p] = { X with xe := fun _ _ => False } := by
    unfold Cx.suite
    rw [mark_self hA, ← hp, ← hc]
  rw [e] at h
  refine ⟨fun pins s σ H D I z => ?_⟩
  have I1 : Inv { X with xe := fun _ _ => False } pins σ H s := inv_xe (xe := X.xe) I
  refine wpAny_mono (h.run pins s σ H D I1 z) (fun fl s' hs => ?_) fun _ _ hs => hs.elim
  cases fl with
  | next =>
    obtain ⟨σ1, H1, J, q⟩ := hs
    exact ⟨σ1, H1, inv_xe (xe' := X.xe) J, q⟩
  | ret u =>
    obtain ⟨v, σ1, H1, J, rv, q⟩ := hs
    exact ⟨v, σ1, H1, inv_xe (xe' := X.xe) J, rv, q⟩
  | cont =>
    obtain ⟨σ1, H1, J, q⟩ := hs
    exact ⟨σ1, H1, inv_xe (xe' := X.xe) J, q⟩
  | brk =>
    obtain ⟨σ1, H1, J, q⟩ := hs
    exact ⟨σ1, H1, inv_xe (xe' := X.xe) J, q⟩

theorem fnX_M {P : Program} {w : World} {K : W.Frag} {mg : Str → Option Value} {base : Heap} {x qual : Str} {st : Stmt} {f : Addr} {fd : FuncData} {N ps : List Str} {k n kk : Nat} {su : Addr → Addr → Str → MS} (F : Fun K x qual st f fd) (S : FnScope N ps (defScope st)) (hn : ps.length = n) (hN : N.length = n + kk)
    (hb : ∀ (cdv : Value) (A : Around) (outer : List Env) (s : Shared) (H : Hp) (E : XK) (a : Addr) (oe : Obj) (cls : Value) (dd : Addr) (c : Str), L2N.Zn cls (some dd) oe → (∃ vs, oe.data = .fields vs) → mg c = some cls → RoomH k (A.deeper (envOfC qual (defScope st) s.heap.objs.size f cdv)) →
      PSs ((cxOf (L2N.CX P w) P w K mg base N qual (defScope st) f cdv A outer s H E).suite a [(a, oe)]) (defBody st) (tMS mg K E0 (su a dd c))) : FnX P w K mg base (k + 1) f fd ps (fun c a d => spOf mg K n (calmF (runF n kk (su a d c)))) := by
  obtain ⟨_, _, _, _, _, _, c0, _, _, rfl, lk, hcd⟩ := F.ex
  refine fn_ofX lk hcd S (fun c a d vs H Q E h => by rw [hn]; exact spOf_len h) fun {c dd p A outer s H vs Q E} xp hr h => ⟨tMS mg K E0 (su p.1 dd c), ?_, ?_⟩
  · obtain ⟨cls, hz, hm⟩ := xp.zn
    obtain ⟨hA, vs', hv, _⟩ := xp.hot
    exact pss_hot (p := p) rfl rfl hA (hb c0 A outer s H E p.1 p.2 cls dd c hz ⟨vs', hv⟩ hm hr)
  refine runF_post hN ?_
  obtain ⟨ts, S1, μ, π, hl, rs, rt, q⟩ := h
  refine ⟨ts, S1, μ, π, hl, rs, rt, ?_⟩
  unfold calmF at q
  cases e : runF n kk (su p.1 dd c) ts S1 with
  | ok t S2 => rw [e] at q; exact q
  | err c fs S2 => rw [e] at q; exact q.elim
  | bad => rw [e] at q; exact q.elim
structure CalX (P : Program) (w : World) (K : W.Frag) (mg : Str → Option Value) (base : Heap) (k : Nat) (x : Str) (n : Nat) (G : Addr → Addr → Str → List T → Sto → R T) : Prop where
  ex : ∃ (f : Addr) (fd : FuncData) (ps : List Str), FnX P w K mg base k f fd ps (fun c a d => spOf mg K n (calmF (G a d c))) ∧ mg x = some (.ref f) ∧ W.keepIn K (.ref f) = true ∧ Binds K fd ps []
section
variable {X : Cx} {a dd : Addr} {oe : Obj} {cls : Value} {pn : List (Addr × Obj)} {c x : Str} {p pos : Pos} {e : Expr} {es : List Expr} {ms : M (List T)}
theorem ecfX {k n : Nat} {G : Addr → Addr → Str → List T → Sto → R T} (C : CalX X.prog X.w X.K X.mg X.base k x n G) (hr : RoomH k (X.suite a ((a, oe) :: pn)).A) (hz : L2N.Zn cls (some dd) oe) (hf : ∃ vs, oe.data = .fields vs) (hm : X.mg c = some cls) (ha : PA (X.suite a ((a, oe) :: pn)) (e :: es) (tMA X.mg X.K E0 ms)) (hg : Gl (X.suite a ((a, oe) :: pn)) x := by rfl) (hdb : (x == ("__debug__" : Str)) = false := by decide)
    (he : starEach (e :: es) X.env = (false, eval e X.env) :: starEach es X.env := by rfl) (hpl : (backTo pos (starEach es X.env)).any (·.1) = false := by rfl) : PE (X.suite a ((a, oe) :: pn)) (.Call (.Name x p) (e :: es) [] pos) (tM X.mg X.K E0 (m1 (callF n (calmF (G a dd c))) ms)) := by
  obtain ⟨f, fd, ps, h1, h2, h3, h4⟩ := C.ex
  have run : PE (X.suite a ((a, oe) :: pn)) (.Call (.Name x p) (e :: es) [] pos) (tCallS (spOf X.mg X.K n (calmF (G a dd c))) (fun _ => E0) (tMA X.mg X.K E0 ms)) := ⟨fun pins s σ H Q I z => by
    refine wpAny_Call_Name_kw (ld_glob I hg h2 ?_ hdb)
    refine W.callWith_K (h₀ := X.base) I.ok.mod.kin h3 (thn (ha.run pos pins s σ H _ I z) fun us s1 ⟨vs, H1, I1, r, q⟩ => ⟨I1.kIn, ?_⟩) he hpl
    have count : (us ++ []).length = ps.length := by rw [List.append_nil, ← r.length]; exact h1.len _ _ _ _ _ _ _ q
    have bd := h4 s1 us I1.kIn count
    rw [List.append_nil] at bd
    obtain ⟨g1, g2, g3, g4, g5⟩ := I1.pin (a, oe) (List.mem_append_left _ List.mem_cons_self)
    have off : a ∉ frs (X.suite a ((a, oe) :: pn)).stack := fun inF => by
      rcases List.mem_cons.mp (I1.stkSub a inF) with z | z
      · exact g3 z
      · exact g4 z
    obtain ⟨vf, hv⟩ := hf
    refine wpAny_call (codeAny_mono (h1.run (p := (a, oe)) ⟨⟨rfl, vf, hv, hz.2.2 vf hv⟩, cls, hz, hm⟩ hr ⟨g1, g2, off, g5⟩ I1.env0 r bd q) fun out s' done => ?_)
    cases out with
    | error er => exact pAt0 (X := X.suite a ((a, oe) :: pn)) (σ := σ) pins H1 s1 er s' I1 done
    | ok fl =>
      cases fl with
      | ret u => exact I1.after done
      | next => exact done.elim
      | brk => exact done.elim
      | cont => exact done.elim⟩
  refine PEimp run fun σ H Q h => ?_
  obtain ⟨ρ, S, μ, π, re, rs, q⟩ := h
  refine ⟨ρ, S, μ, π, re, rs, Post.bind (rel' := relV X.K π) q fun ts S1 xs H1 μ1 st1 rs1 ra q1 => ?_⟩
  obtain ⟨c, q1⟩ := Post.gd q1
  exact ⟨ts, S1, μ1, π, c, rs1, ra, q1⟩
end
end RL
end
section
set_option maxRecDepth 100000
set_option maxHeartbeats 2000000
namespace K5
open PySem PySem.Spec PyProof.Rows L2 TL L2H RL
open scoped RL.R RL.RS
def subs (c x : Str) : Option Bool := if c = "BadText" then (if x = "BadText" ∨ x = "ValueError" then some true else if x = "BadLine" ∨ x = "BadDeed" ∨ x = "BadPattern" then some false else none) else none
def flds (c f : Str) : Bool := decide (c = "BadText" ∧ f = "at")
def catches_ShowError (c : Str) : Option Bool := if c = "BadText" then some true else none
abbrev top (i : Nat) : Stmt := PySem.Challenge.pw_shownempty_k05_bad_texts.main.body.getD i (.Pass ⟨0, 0, 0, 0⟩)
/-! ### is_kind -/
abbrev s_is_kind : Stmt := top 7
noncomputable def m_is_kind : MS :=
    retS (andV (m1 (f2 isiT) (consM (varM 0) (consM (retM (.ty "str")) (nilM)))) (andV (m2 eqT (m1 (f1 lenT) (consM (varM 0) (nilM))) (retM (.int 1))) (chainM leT leT (strM ("a" : Str)) (varM 0) (strM ("z" : Str)))))
noncomputable def L_is_kind : List T → Sto → R T := runF 1 0 m_is_kind
theorem sc_is_kind : FnScope ["thing"] ["thing"] (defScope s_is_kind) := ⟨rfl, rfl, rfl, by decide +kernel, rfl, by decide +kernel, by decide +kernel⟩
theorem f_is_kind {P : Program} {w : World} {K : W.Frag} {mg : Str → Option Value} {base : Heap}  {a : Addr} {fd : FuncData} (F : Fun K "is_kind" "is_kind" s_is_kind a fd) (b_isinstance : mg "isinstance" = none) (b_len : mg "len" = none) (b_str : mg "str" = none) :
    FnOk P w K mg base (L2N.CX P w) (0 + 1) a fd ["thing"] (spOf mg K 1 (runF 1 0 m_is_kind)) :=
  fn_M F sc_is_kind rfl rfl fun cdv A outer s H E hr => by
    replace hr : Room (0) (A.deeper (envOfC "is_kind" (defScope s_is_kind) s.heap.objs.size a cdv)) := hr
    have nd := sc_is_kind.nd
    have hu := hr.units
    exact (s_one (s_ret (e_and (ecb cr_isi b_isinstance (by decide +kernel) (aac (vv 0) (aac (ety b_str (by decide +kernel)) a_nil))) (e_and (ecm (op_eqT hu) (ecb cr_len b_len (by decide +kernel) (aac (vv 0) a_nil)) e_int) (e_one (ech (op_leT) (op_leT) e_str (vv 0) e_str leT_ne leT_st))))))
/-! ### letters_in -/
abbrev s_letters_in : Stmt := top 30
noncomputable def m_letters_in : MS :=
    retS (m1 (f1 lenT) (consM (lcM false [1] (m1 iterT (varM 0)) (.one 1) (m1 truthT (m1 (callF 1 L_is_kind) (consM (varM 1) (nilM)))) (varM 1)) (nilM)))
noncomputable def L_letters_in : List T → Sto → R T := runF 1 1 m_letters_in
theorem sc_letters_in : FnScope ["text", "character"] ["text"] (defScope s_letters_in) := ⟨rfl, rfl, rfl, by decide +kernel, rfl, by decide +kernel, by decide +kernel⟩
theorem f_letters_in {P : Program} {w : World} {K : W.Frag} {mg : Str → Option Value} {base : Heap}  {a : Addr} {fd : FuncData} (F : Fun K "letters_in" "letters_in" s_letters_in a fd) (b_len : mg "len" = none)
    (c_is_kind : CalM P w K mg base 1 "is_kind" 1 L_is_kind) :
    FnOk P w K mg base (L2N.CX P w) (1 + 1) a fd ["text"] (spOf mg K 1 (runF 1 1 m_letters_in)) :=
  fn_M F sc_letters_in rfl rfl fun cdv A outer s H E hr => by
    replace hr : Room (1) (A.deeper (envOfC "letters_in" (defScope s_letters_in) s.heap.objs.size a cdv)) := hr
    have nd := sc_letters_in.nd
    exact (s_one (s_ret (ecb cr_len b_len (by decide +kernel) (aac (elc (mu := false) (own := [(("character" : Str), 1)]) rfl nd (blkOk_by (N := ["text", "character"]) (sc := defScope s_letters_in) (by decide +kernel)) (i_any (vv 0)) (fun _ _ _ _ _ => (gno 1 nd)) (fun _ _ _ _ _ => t_one (ebt (ecf c_is_kind (hr.mono (by decide)) passN (aac (vv 1) a_nil)))) (fun _ _ _ _ _ => (vv 1))) a_nil))))
/-! ### can_stand_patterntext -/
abbrev s_can_stand_patterntext : Stmt := top 28
noncomputable def p_can_stand_patterntext_0 : MS :=
    setM 2 (m2 idxT (varM 0) (varM 1))
noncomputable def p_can_stand_patterntext_1 : MS :=
    setM 3 (orV (m2 eqT (varM 1) (retM (.int 0))) (m2 eqT (m2 idxT (varM 0) (m2 subT (varM 1) (retM (.int 1)))) (strM ("," : Str))))
noncomputable def p_can_stand_patterntext_2 : MS :=
    ifS (m1 boolOf (m2 eqT (varM 2) (strM ("," : Str)))) (retS (andV (m1 blT (m1 notT (m1 truthT (varM 3)))) (m2 ltT (bmM "str" countT (slM false (varM 0) (partM none) (partM (some (varM 1)))) (consM (strM ("," : Str)) (nilM))) (m2 subT (retM (.int 6)) (retM (.int 1)))))) (nextM)
noncomputable def p_can_stand_patterntext_3 : MS :=
    ifS (m1 truthT (m1 (callF 1 L_is_kind) (consM (varM 2) (nilM)))) (seqM (setM 4 (orV (varM 3) (andV (m1 (callF 1 L_is_kind) (consM (m2 idxT (varM 0) (m2 subT (varM 1) (retM (.int 1)))) (nilM))) (m2 leT (m2 idxT (varM 0) (m2 subT (varM 1) (retM (.int 1)))) (varM 2))))) <|
    retS (andV (varM 4) (m2 ltT (m1 (callF 1 L_letters_in) (consM (slM false (varM 0) (partM none) (partM (some (varM 1)))) (nilM))) (retM (.int 8))))) (nextM)
noncomputable def p_can_stand_patterntext_4 : MS :=
    retS (andV (varM 3) (orV (m2 eqT (varM 2) (retM (.str ("-" : Str)))) (m2 eqT (varM 2) (retM (.str ("?" : Str))))))
noncomputable def t_can_stand_patterntext_3 : MS := seqM (p_can_stand_patterntext_3) (p_can_stand_patterntext_4)
noncomputable def t_can_stand_patterntext_2 : MS := seqM (p_can_stand_patterntext_2) (t_can_stand_patterntext_3)
noncomputable def t_can_stand_patterntext_1 : MS := seqM (p_can_stand_patterntext_1) (t_can_stand_patterntext_2)
noncomputable def m_can_stand_patterntext : MS := seqM (p_can_stand_patterntext_0) (t_can_stand_patterntext_1)
noncomputable def L_can_stand_patterntext : List T → Sto → R T := runF 2 3 m_can_stand_patterntext
theorem sc_can_stand_patterntext : FnScope ["text", "at", "character", "begins", "rises"] ["text", "at"] (defScope s_can_stand_patterntext) := ⟨rfl, rfl, rfl, by decide +kernel, rfl, by decide +kernel, by decide +kernel⟩
theorem f_can_stand_patterntext {P : Program} {w : World} {K : W.Frag} {mg : Str → Option Value} {base : Heap}  {a : Addr} {fd : FuncData} (F : Fun K "can_stand" "can_stand" s_can_stand_patterntext a fd) (g_ANY_WORD : ∃ u, mg "ANY_WORD" = some u ∧ RelV (.str ("?" : Str)) u) (g_MOST_LETTERS : ∃ u, mg "MOST_LETTERS" = some u ∧ RelV (.int 8) u) (g_MOST_SIZE : ∃ u, mg "MOST_SIZE" = some u ∧ RelV (.int 6) u) (g_NO_THING : ∃ u, mg "NO_THING" = some u ∧ RelV (.str ("-" : Str)) u)
    (c_is_kind : CalM P w K mg base 1 "is_kind" 1 L_is_kind)
    (c_letters_in : CalM P w K mg base 2 "letters_in" 1 L_letters_in) :
    FnOk P w K mg base (L2N.CX P w) (2 + 1) a fd ["text", "at"] (spOf mg K 2 (runF 2 3 m_can_stand_patterntext)) :=
  fn_M F sc_can_stand_patterntext rfl rfl fun cdv A outer s H E hr => by
    replace hr : Room (2) (A.deeper (envOfC "can_stand" (defScope s_can_stand_patterntext) s.heap.objs.size a cdv)) := hr
    have nd := sc_can_stand_patterntext.nd
    have hu := hr.units
    have tk : L2N.Takes (cxOf (L2N.CX P w) P w K mg base ["text", "at", "character", "begins", "rises"] "can_stand" (defScope s_can_stand_patterntext) a cdv A outer s H E) (fun cls d _ H => E cls d H) := L2N.takes_of rfl rfl rfl rfl
    have px : Passes (L2N.CX P w) (cxOf (L2N.CX P w) P w K mg base ["text", "at", "character", "begins", "rises"] "can_stand" (defScope s_can_stand_patterntext) a cdv A outer s H E) E := L2N.passes_call tk fun _ _ _ _ h => h
    exact (s_cons (sst 2 nd (eix (vv 0) (vv 1)))
      (s_cons (sst 3 nd (e_or (ecm (op_eqT hu) (vv 1) e_int) (e_one (ecm (op_eqT hu) (eix (vv 0) (e_bin op_subT (vv 1) e_int)) e_str))))
      (s_cons (s_if (bcm (op_eqT hu) (vv 2) e_str) (s_one (s_ret (e_and (e_not (vv 3)) (e_one (ecm (op_ltT) (eme PySem.F.plainAttrs_str PySem.F.slot_str_count PySem.F.type_str_count mr_count (e_sl (mu := false) (vv 0) o_none (o_some (vv 1))) (aac e_str a_nil)) (e_bin op_subT (egl (t := .int 6) (v := .int 6) g_MOST_SIZE fun _ _ _ => mkInt) e_int)))))) s_nil)
      (s_cons (s_if (ebt (ecf c_is_kind (hr.mono (by decide)) px (aac (vv 2) a_nil))) (s_cons (sst 4 nd (e_or (vv 3) (e_one (e_and (ecf c_is_kind (hr.mono (by decide)) px (aac (eix (vv 0) (e_bin op_subT (vv 1) e_int)) a_nil)) (e_one (ecm (op_leT) (eix (vv 0) (e_bin op_subT (vv 1) e_int)) (vv 2)))))))
      (s_one (s_ret (e_and (vv 4) (e_one (ecm (op_ltT) (ecf c_letters_in (hr.mono (by decide)) px (aac (e_sl (mu := false) (vv 0) o_none (o_some (vv 1))) a_nil)) (egl (t := .int 8) (v := .int 8) g_MOST_LETTERS fun _ _ _ => mkInt))))))) s_nil)
      (s_one (s_ret (e_and (vv 3) (e_one (e_or (ecm (op_eqT hu) (vv 2) (egl (t := .str ("-" : Str)) (v := .str ("-" : Str)) g_NO_THING fun _ _ _ => mkStr (by decide +kernel))) (e_one (ecm (op_eqT hu) (vv 2) (egl (t := .str ("?" : Str)) (v := .str ("?" : Str)) g_ANY_WORD fun _ _ _ => mkStr (by decide +kernel)))))))))))))
/-! ### read_item -/
abbrev s_read_item : Stmt := top 27
noncomputable def p_read_item_0 : MS :=
    ifS (m1 boolOf (m2 eqT (varM 0) (retM (.str ("?" : Str))))) (retS (retM .non)) (nextM)
noncomputable def p_read_item_1 : MS :=
    retS (iteM (m1 boolOf (m2 eqT (varM 0) (retM (.str ("-" : Str))))) (strM ("" : Str)) (varM 0))
noncomputable def m_read_item : MS := seqM (p_read_item_0) (p_read_item_1)
noncomputable def L_read_item : List T → Sto → R T := runF 1 0 m_read_item
theorem sc_read_item : FnScope ["text"] ["text"] (defScope s_read_item) := ⟨rfl, rfl, rfl, by decide +kernel, rfl, by decide +kernel, by decide +kernel⟩
theorem f_read_item {P : Program} {w : World} {K : W.Frag} {mg : Str → Option Value} {base : Heap}  {a : Addr} {fd : FuncData} (F : Fun K "read_item" "read_item" s_read_item a fd) (g_ANY_WORD : ∃ u, mg "ANY_WORD" = some u ∧ RelV (.str ("?" : Str)) u) (g_NO_THING : ∃ u, mg "NO_THING" = some u ∧ RelV (.str ("-" : Str)) u) :
    FnOk P w K mg base (L2N.CX P w) (0 + 1) a fd ["text"] (spOf mg K 1 (runF 1 0 m_read_item)) :=
  fn_M F sc_read_item rfl rfl fun cdv A outer s H E hr => by
    replace hr : Room (0) (A.deeper (envOfC "read_item" (defScope s_read_item) s.heap.objs.size a cdv)) := hr
    have nd := sc_read_item.nd
    have hu := hr.units
    exact (s_cons (s_if (bcm (op_eqT hu) (vv 0) (egl (t := .str ("?" : Str)) (v := .str ("?" : Str)) g_ANY_WORD fun _ _ _ => mkStr (by decide +kernel))) (s_one (s_ret e_non)) s_nil)
      (s_one (s_ret (e_ite (bcm (op_eqT hu) (vv 0) (egl (t := .str ("-" : Str)) (v := .str ("-" : Str)) g_NO_THING fun _ _ _ => mkStr (by decide +kernel))) e_str (vv 0)))))
/-! ### read_pattern -/
abbrev s_read_pattern : Stmt := top 26
noncomputable def p_read_pattern_0 : MS :=
    ifS (m1 notT (m1 truthT (m1 (f2 isiT) (consM (varM 0) (consM (retM (.ty "str")) (nilM)))))) (raiseM ("BadText" : Str) ("at" : Str) (m1 negT (retM (.int 1)))) (nextM)
noncomputable def p_read_pattern_1 : MS :=
    ifS (m1 boolOf (m2 eqT (varM 0) (retM (.str ("." : Str))))) (retS (m1 tupT (nilM))) (nextM)
noncomputable def p_read_pattern_2 : MS :=
    ifS (m1 truthT (bmM "str" swT (varM 0) (consM (retM (.str ("." : Str))) (nilM)))) (raiseM ("BadText" : Str) ("at" : Str) (retM (.int 1))) (nextM)
noncomputable def p_read_pattern_3 : MS :=
    forM (m1 rng1T (consM (m1 (f1 lenT) (consM (varM 0) (nilM))) (nilM))) (.one 1) (ifS (m1 notT (m1 truthT (m1 (callF 2 L_can_stand_patterntext) (consM (varM 0) (consM (varM 1) (nilM)))))) (raiseM ("BadText" : Str) ("at" : Str) (varM 1)) (nextM))
noncomputable def p_read_pattern_4 : MS :=
    ifS (orM (m1 boolOf (m2 eqT (varM 0) (strM ("" : Str)))) (m1 truthT (bmM "str" ewT (varM 0) (consM (strM ("," : Str)) (nilM))))) (raiseM ("BadText" : Str) ("at" : Str) (m1 (f1 lenT) (consM (varM 0) (nilM)))) (nextM)
noncomputable def p_read_pattern_5 : MS :=
    retS (m1 (f1 tupleT) (consM (lcM false [2] (m1 iterT (bmM "str" (splitT false) (varM 0) (consM (strM ("," : Str)) (nilM)))) (.one 2) (yesM) (m1 (callF 1 L_read_item) (consM (varM 2) (nilM)))) (nilM)))
noncomputable def t_read_pattern_4 : MS := seqM (p_read_pattern_4) (p_read_pattern_5)
noncomputable def t_read_pattern_3 : MS := seqM (p_read_pattern_3) (t_read_pattern_4)
noncomputable def t_read_pattern_2 : MS := seqM (p_read_pattern_2) (t_read_pattern_3)
noncomputable def t_read_pattern_1 : MS := seqM (p_read_pattern_1) (t_read_pattern_2)
noncomputable def m_read_pattern : MS := seqM (p_read_pattern_0) (t_read_pattern_1)
noncomputable def L_read_pattern : List T → Sto → R T := runF 1 2 m_read_pattern
theorem sc_read_pattern : FnScope ["text", "at", "item"] ["text"] (defScope s_read_pattern) := ⟨rfl, rfl, rfl, by decide +kernel, rfl, by decide +kernel, by decide +kernel⟩
theorem f_read_pattern {P : Program} {w : World} {K : W.Frag} {mg : Str → Option Value} {base : Heap}  {a : Addr} {fd : FuncData} (F : Fun K "read_pattern" "read_pattern" s_read_pattern a fd) (b_isinstance : mg "isinstance" = none) (b_len : mg "len" = none) (b_range : mg "range" = none) (b_str : mg "str" = none) (b_tuple : mg "tuple" = none) (g_NO_ITEMS : ∃ u, mg "NO_ITEMS" = some u ∧ RelV (.str ("." : Str)) u) (e_BadText : ErrC P w K mg base "BadText" "at")
    (c_can_stand_patterntext : CalM P w K mg base 3 "can_stand_patterntext" 2 L_can_stand_patterntext)
    (c_read_item : CalM P w K mg base 1 "read_item" 1 L_read_item) :
    FnOk P w K mg base (L2N.CX P w) (3 + 1) a fd ["text"] (spOf mg K 1 (runF 1 2 m_read_pattern)) :=
  fn_M F sc_read_pattern rfl rfl fun cdv A outer s H E hr => by
    replace hr : Room (3) (A.deeper (envOfC "read_pattern" (defScope s_read_pattern) s.heap.objs.size a cdv)) := hr
    have nd := sc_read_pattern.nd
    have hu := hr.units
    have tk : L2N.Takes (cxOf (L2N.CX P w) P w K mg base ["text", "at", "item"] "read_pattern" (defScope s_read_pattern) a cdv A outer s H E) (fun cls d _ H => E cls d H) := L2N.takes_of rfl rfl rfl rfl
    have px : Passes (L2N.CX P w) (cxOf (L2N.CX P w) P w K mg base ["text", "at", "item"] "read_pattern" (defScope s_read_pattern) a cdv A outer s H E) E := L2N.passes_call tk fun _ _ _ _ h => h
    have po : PassesOwn (model P w) (cxOf (L2N.CX P w) P w K mg base ["text", "at", "item"] "read_pattern" (defScope s_read_pattern) a cdv A outer s H E).A (cxOf (L2N.CX P w) P w K mg base ["text", "at", "item"] "read_pattern" (defScope s_read_pattern) a cdv A outer s H E).env (cxOf (L2N.CX P w) P w K mg base ["text", "at", "item"] "read_pattern" (defScope s_read_pattern) a cdv A outer s H E).xe := passes_of rfl
    exact (s_cons (s_if (b_not (ebt (ecb cr_isi b_isinstance (by decide +kernel) (aac (vv 0) (aac (ety b_str (by decide +kernel)) a_nil))))) (s_one (srz e_BadText (hr.mono (by decide)) rfl tk (e_un un_negT e_int))) s_nil)
      (s_cons (s_if (bcm (op_eqT hu) (vv 0) (egl (t := .str ("." : Str)) (v := .str ("." : Str)) g_NO_ITEMS fun _ _ _ => mkStr (by decide +kernel))) (s_one (s_ret (e_tup a_nil))) s_nil)
      (s_cons (s_if (ebt (eme PySem.F.plainAttrs_str PySem.F.slot_str_startswith PySem.F.type_str_startswith mr_sw (vv 0) (aac (egl (t := .str ("." : Str)) (v := .str ("." : Str)) g_NO_ITEMS fun _ _ _ => mkStr (by decide +kernel)) a_nil))) (s_one (srz e_BadText (hr.mono (by decide)) rfl tk e_int)) s_nil)
      (s_cons (ssf po rfl (ir1 b_range (aac (ecb cr_len b_len (by decide +kernel) (aac (vv 0) a_nil)) a_nil)) (gno 1 nd) (s_one (s_if (b_not (ebt (ecf c_can_stand_patterntext (hr.mono (by decide)) px (aac (vv 0) (aac (vv 1) a_nil))))) (s_one (srz e_BadText (hr.mono (by decide)) rfl tk (vv 1))) s_nil)))
      (s_cons (s_if (w_or (bcm (op_eqT hu) (vv 0) e_str) (w_or1 (ebt (eme PySem.F.plainAttrs_str PySem.F.slot_str_endswith PySem.F.type_str_endswith mr_ew (vv 0) (aac e_str a_nil))))).pt (s_one (srz e_BadText (hr.mono (by decide)) rfl tk (ecb cr_len b_len (by decide +kernel) (aac (vv 0) a_nil)))) s_nil)
      (s_one (s_ret (ect cr_tuple b_tuple (by decide +kernel) (aac (elc (mu := false) (own := [(("item" : Str), 2)]) rfl nd (blkOk_by (N := ["text", "at", "item"]) (sc := defScope s_read_pattern) (by decide +kernel)) (i_any (eme PySem.F.plainAttrs_str PySem.F.slot_str_split PySem.F.type_str_split (mr_split (mu := false)) (vv 0) (aac e_str a_nil))) (fun _ _ _ _ _ => (gno 2 nd)) (fun _ _ _ _ _ => t_nil) (fun _ _ _ _ _ => (ecf c_read_item (hr.mono (by decide)) passN (aac (vv 2) a_nil)))) a_nil)))))))))
/-! ### can_go -/
abbrev s_can_go : Stmt := top 14
noncomputable def m_can_go : MS :=
    retS (orV (m1 (callF 1 L_is_kind) (consM (varM 0) (nilM))) (andV (m1 (f2 isiT) (consM (varM 0) (consM (retM (.ty "str")) (nilM)))) (m2 inT (varM 0) (m1 tupT (consM (retM (.str ("*" : Str))) (consM (retM (.str ("~" : Str))) (nilM)))))))
noncomputable def L_can_go : List T → Sto → R T := runF 1 0 m_can_go
theorem sc_can_go : FnScope ["thing"] ["thing"] (defScope s_can_go) := ⟨rfl, rfl, rfl, by decide +kernel, rfl, by decide +kernel, by decide +kernel⟩
theorem f_can_go {P : Program} {w : World} {K : W.Frag} {mg : Str → Option Value} {base : Heap}  {a : Addr} {fd : FuncData} (F : Fun K "can_go" "can_go" s_can_go a fd) (b_isinstance : mg "isinstance" = none) (b_str : mg "str" = none) (g_ALL : ∃ u, mg "ALL" = some u ∧ RelV (.str ("*" : Str)) u) (g_EXCHANGE : ∃ u, mg "EXCHANGE" = some u ∧ RelV (.str ("~" : Str)) u)
    (c_is_kind : CalM P w K mg base 1 "is_kind" 1 L_is_kind) :
    FnOk P w K mg base (L2N.CX P w) (1 + 1) a fd ["thing"] (spOf mg K 1 (runF 1 0 m_can_go)) :=
  fn_M F sc_can_go rfl rfl fun cdv A outer s H E hr => by
    replace hr : Room (1) (A.deeper (envOfC "can_go" (defScope s_can_go) s.heap.objs.size a cdv)) := hr
    have nd := sc_can_go.nd
    have tk : L2N.Takes (cxOf (L2N.CX P w) P w K mg base ["thing"] "can_go" (defScope s_can_go) a cdv A outer s H E) (fun cls d _ H => E cls d H) := L2N.takes_of rfl rfl rfl rfl
    have px : Passes (L2N.CX P w) (cxOf (L2N.CX P w) P w K mg base ["thing"] "can_go" (defScope s_can_go) a cdv A outer s H E) E := L2N.passes_call tk fun _ _ _ _ h => h
    exact (s_one (s_ret (e_or (ecf c_is_kind (hr.mono (by decide)) px (aac (vv 0) a_nil)) (e_one (e_and (ecb cr_isi b_isinstance (by decide +kernel) (aac (vv 0) (aac (ety b_str (by decide +kernel)) a_nil))) (e_one (ecm (op_inT) (vv 0) (e_tup (aac (egl (t := .str ("*" : Str)) (v := .str ("*" : Str)) g_ALL fun _ _ _ => mkStr (by decide +kernel)) (aac (egl (t := .str ("~" : Str)) (v := .str ("~" : Str)) g_EXCHANGE fun _ _ _ => mkStr (by decide +kernel)) a_nil))))))))))
/-! ### can_stand_deedtext -/
abbrev s_can_stand_deedtext : Stmt := top 20
noncomputable def p_can_stand_deedtext_0 : MS :=
    ifS (m1 boolOf (m2 eqT (varM 1) (m2 mulT (retM (.int 3)) (retM (.int 3))))) (retS (retM (.bl false))) (nextM)
noncomputable def p_can_stand_deedtext_1 : MS :=
    ifS (m1 boolOf (m2 eqT (m2 modT (varM 1) (retM (.int 3))) (retM (.int 0)))) (retS (m1 (callF 1 L_can_go) (consM (m2 idxT (varM 0) (varM 1)) (nilM)))) (nextM)
noncomputable def p_can_stand_deedtext_2 : MS :=
    retS (andV (m2 inT (m2 idxT (varM 0) (varM 1)) (retM (.str ("012345" : Str)))) (m2 neT (m2 idxT (varM 0) (varM 1)) (m2 idxT (varM 0) (m2 subT (varM 1) (retM (.int 1))))))
noncomputable def t_can_stand_deedtext_1 : MS := seqM (p_can_stand_deedtext_1) (p_can_stand_deedtext_2)
noncomputable def m_can_stand_deedtext : MS := seqM (p_can_stand_deedtext_0) (t_can_stand_deedtext_1)
noncomputable def L_can_stand_deedtext : List T → Sto → R T := runF 2 0 m_can_stand_deedtext
theorem sc_can_stand_deedtext : FnScope ["text", "at"] ["text", "at"] (defScope s_can_stand_deedtext) := ⟨rfl, rfl, rfl, by decide +kernel, rfl, by decide +kernel, by decide +kernel⟩
theorem f_can_stand_deedtext {P : Program} {w : World} {K : W.Frag} {mg : Str → Option Value} {base : Heap}  {a : Addr} {fd : FuncData} (F : Fun K "can_stand" "can_stand" s_can_stand_deedtext a fd) (g_IN_STEP : ∃ u, mg "IN_STEP" = some u ∧ RelV (.int 3) u) (g_MOST_STEPS : ∃ u, mg "MOST_STEPS" = some u ∧ RelV (.int 3) u) (g_PLACES : ∃ u, mg "PLACES" = some u ∧ RelV (.str ("012345" : Str)) u)
    (c_can_go : CalM P w K mg base 2 "can_go" 1 L_can_go) :
    FnOk P w K mg base (L2N.CX P w) (2 + 1) a fd ["text", "at"] (spOf mg K 2 (runF 2 0 m_can_stand_deedtext)) :=
  fn_M F sc_can_stand_deedtext rfl rfl fun cdv A outer s H E hr => by
    replace hr : Room (2) (A.deeper (envOfC "can_stand" (defScope s_can_stand_deedtext) s.heap.objs.size a cdv)) := hr
    have nd := sc_can_stand_deedtext.nd
    have hu := hr.units
    have tk : L2N.Takes (cxOf (L2N.CX P w) P w K mg base ["text", "at"] "can_stand" (defScope s_can_stand_deedtext) a cdv A outer s H E) (fun cls d _ H => E cls d H) := L2N.takes_of rfl rfl rfl rfl
    have px : Passes (L2N.CX P w) (cxOf (L2N.CX P w) P w K mg base ["text", "at"] "can_stand" (defScope s_can_stand_deedtext) a cdv A outer s H E) E := L2N.passes_call tk fun _ _ _ _ h => h
    exact (s_cons (s_if (bcm (op_eqT hu) (vv 1) (e_bin op_mulT (egl (t := .int 3) (v := .int 3) g_MOST_STEPS fun _ _ _ => mkInt) (egl (t := .int 3) (v := .int 3) g_IN_STEP fun _ _ _ => mkInt))) (s_one (s_ret e_bl)) s_nil)
      (s_cons (s_if (bcm (op_eqT hu) (e_bin op_modT (vv 1) (egl (t := .int 3) (v := .int 3) g_IN_STEP fun _ _ _ => mkInt)) e_int) (s_one (s_ret (ecf c_can_go (hr.mono (by decide)) px (aac (eix (vv 0) (vv 1)) a_nil)))) s_nil)
      (s_one (s_ret (e_and (ecm (op_inT) (eix (vv 0) (vv 1)) (egl (t := .str ("012345" : Str)) (v := .str ("012345" : Str)) g_PLACES fun _ _ _ => mkStr (by decide +kernel))) (e_one (ecm (op_neT hu) (eix (vv 0) (vv 1)) (eix (vv 0) (e_bin op_subT (vv 1) e_int)))))))))
/-! ### read_deed -/
abbrev s_read_deed : Stmt := top 19
noncomputable def p_read_deed_0 : MS :=
    ifS (m1 notT (m1 truthT (m1 (f2 isiT) (consM (varM 0) (consM (retM (.ty "str")) (nilM)))))) (raiseM ("BadText" : Str) ("at" : Str) (m1 negT (retM (.int 1)))) (nextM)
noncomputable def p_read_deed_1 : MS :=
    ifS (m1 boolOf (m2 eqT (varM 0) (retM (.str ("-" : Str))))) (retS (m1 tupT (nilM))) (nextM)
noncomputable def p_read_deed_2 : MS :=
    ifS (m1 truthT (bmM "str" swT (varM 0) (consM (retM (.str ("-" : Str))) (nilM)))) (raiseM ("BadText" : Str) ("at" : Str) (retM (.int 1))) (nextM)
noncomputable def p_read_deed_3 : MS :=
    forM (m1 rng1T (consM (m1 (f1 lenT) (consM (varM 0) (nilM))) (nilM))) (.one 1) (ifS (m1 notT (m1 truthT (m1 (callF 2 L_can_stand_deedtext) (consM (varM 0) (consM (varM 1) (nilM)))))) (raiseM ("BadText" : Str) ("at" : Str) (varM 1)) (nextM))
noncomputable def p_read_deed_4 : MS :=
    ifS (orM (m1 boolOf (m2 eqT (varM 0) (strM ("" : Str)))) (m1 boolOf (m2 neT (m2 modT (m1 (f1 lenT) (consM (varM 0) (nilM))) (retM (.int 3))) (retM (.int 0))))) (raiseM ("BadText" : Str) ("at" : Str) (m1 (f1 lenT) (consM (varM 0) (nilM)))) (nextM)
noncomputable def p_read_deed_5 : MS :=
    retS (m1 (f1 tupleT) (consM (lcM false [2] (m1 rng3T (consM (retM (.int 0)) (consM (m1 (f1 lenT) (consM (varM 0) (nilM))) (consM (retM (.int 3)) (nilM))))) (.one 2) (yesM) (m1 tupT (consM (m2 idxT (varM 0) (varM 2)) (consM (m1 (f1 intF) (consM (m2 idxT (varM 0) (m2 addT (varM 2) (retM (.int 1)))) (nilM))) (consM (m1 (f1 intF) (consM (m2 idxT (varM 0) (m2 addT (varM 2) (retM (.int 2)))) (nilM))) (nilM)))))) (nilM)))
noncomputable def t_read_deed_4 : MS := seqM (p_read_deed_4) (p_read_deed_5)
noncomputable def t_read_deed_3 : MS := seqM (p_read_deed_3) (t_read_deed_4)
noncomputable def t_read_deed_2 : MS := seqM (p_read_deed_2) (t_read_deed_3)
noncomputable def t_read_deed_1 : MS := seqM (p_read_deed_1) (t_read_deed_2)
noncomputable def m_read_deed : MS := seqM (p_read_deed_0) (t_read_deed_1)
noncomputable def L_read_deed : List T → Sto → R T := runF 1 2 m_read_deed
theorem sc_read_deed : FnScope ["text", "at", "k"] ["text"] (defScope s_read_deed) := ⟨rfl, rfl, rfl, by decide +kernel, rfl, by decide +kernel, by decide +kernel⟩
theorem f_read_deed {P : Program} {w : World} {K : W.Frag} {mg : Str → Option Value} {base : Heap}  {a : Addr} {fd : FuncData} (F : Fun K "read_deed" "read_deed" s_read_deed a fd) (b_int : mg "int" = none) (b_isinstance : mg "isinstance" = none) (b_len : mg "len" = none) (b_range : mg "range" = none) (b_str : mg "str" = none) (b_tuple : mg "tuple" = none) (g_IN_STEP : ∃ u, mg "IN_STEP" = some u ∧ RelV (.int 3) u) (g_NO_STEPS : ∃ u, mg "NO_STEPS" = some u ∧ RelV (.str ("-" : Str)) u) (e_BadText : ErrC P w K mg base "BadText" "at")
    (c_can_stand_deedtext : CalM P w K mg base 3 "can_stand_deedtext" 2 L_can_stand_deedtext) :
    FnOk P w K mg base (L2N.CX P w) (3 + 1) a fd ["text"] (spOf mg K 1 (runF 1 2 m_read_deed)) :=
  fn_M F sc_read_deed rfl rfl fun cdv A outer s H E hr => by
    replace hr : Room (3) (A.deeper (envOfC "read_deed" (defScope s_read_deed) s.heap.objs.size a cdv)) := hr
    have nd := sc_read_deed.nd
    have hu := hr.units
    have tk : L2N.Takes (cxOf (L2N.CX P w) P w K mg base ["text", "at", "k"] "read_deed" (defScope s_read_deed) a cdv A outer s H E) (fun cls d _ H => E cls d H) := L2N.takes_of rfl rfl rfl rfl
    have px : Passes (L2N.CX P w) (cxOf (L2N.CX P w) P w K mg base ["text", "at", "k"] "read_deed" (defScope s_read_deed) a cdv A outer s H E) E := L2N.passes_call tk fun _ _ _ _ h => h
    have po : PassesOwn (model P w) (cxOf (L2N.CX P w) P w K mg base ["text", "at", "k"] "read_deed" (defScope s_read_deed) a cdv A outer s H E).A (cxOf (L2N.CX P w) P w K mg base ["text", "at", "k"] "read_deed" (defScope s_read_deed) a cdv A outer s H E).env (cxOf (L2N.CX P w) P w K mg base ["text", "at", "k"] "read_deed" (defScope s_read_deed) a cdv A outer s H E).xe := passes_of rfl
    exact (s_cons (s_if (b_not (ebt (ecb cr_isi b_isinstance (by decide +kernel) (aac (vv 0) (aac (ety b_str (by decide +kernel)) a_nil))))) (s_one (srz e_BadText (hr.mono (by decide)) rfl tk (e_un un_negT e_int))) s_nil)
      (s_cons (s_if (bcm (op_eqT hu) (vv 0) (egl (t := .str ("-" : Str)) (v := .str ("-" : Str)) g_NO_STEPS fun _ _ _ => mkStr (by decide +kernel))) (s_one (s_ret (e_tup a_nil))) s_nil)
      (s_cons (s_if (ebt (eme PySem.F.plainAttrs_str PySem.F.slot_str_startswith PySem.F.type_str_startswith mr_sw (vv 0) (aac (egl (t := .str ("-" : Str)) (v := .str ("-" : Str)) g_NO_STEPS fun _ _ _ => mkStr (by decide +kernel)) a_nil))) (s_one (srz e_BadText (hr.mono (by decide)) rfl tk e_int)) s_nil)
      (s_cons (ssf po rfl (ir1 b_range (aac (ecb cr_len b_len (by decide +kernel) (aac (vv 0) a_nil)) a_nil)) (gno 1 nd) (s_one (s_if (b_not (ebt (ecf c_can_stand_deedtext (hr.mono (by decide)) px (aac (vv 0) (aac (vv 1) a_nil))))) (s_one (srz e_BadText (hr.mono (by decide)) rfl tk (vv 1))) s_nil)))
      (s_cons (s_if (w_or (bcm (op_eqT hu) (vv 0) e_str) (w_or1 (bcm (op_neT hu) (e_bin op_modT (ecb cr_len b_len (by decide +kernel) (aac (vv 0) a_nil)) (egl (t := .int 3) (v := .int 3) g_IN_STEP fun _ _ _ => mkInt)) e_int))).pt (s_one (srz e_BadText (hr.mono (by decide)) rfl tk (ecb cr_len b_len (by decide +kernel) (aac (vv 0) a_nil)))) s_nil)
      (s_one (s_ret (ect cr_tuple b_tuple (by decide +kernel) (aac (elc (mu := false) (own := [(("k" : Str), 2)]) rfl nd (blkOk_by (N := ["text", "at", "k"]) (sc := defScope s_read_deed) (by decide +kernel)) (ir3 b_range (aac e_int (aac (ecb cr_len b_len (by decide +kernel) (aac (vv 0) a_nil)) (aac (egl (t := .int 3) (v := .int 3) g_IN_STEP fun _ _ _ => mkInt) a_nil)))) (fun _ _ _ _ _ => (gno 2 nd)) (fun _ _ _ _ _ => t_nil) (fun _ _ _ _ _ => (e_tup (aac (eix (vv 0) (vv 2)) (aac (ect cr_int b_int (by decide +kernel) (aac (eix (vv 0) (e_bin op_addT (vv 2) e_int)) a_nil)) (aac (ect cr_int b_int (by decide +kernel) (aac (eix (vv 0) (e_bin op_addT (vv 2) e_int)) a_nil)) a_nil)))))) a_nil)))))))))
/-! ### _law_draw -/
abbrev s__law_draw : Stmt := top 32
noncomputable def p__law_draw_0 : MS :=
    setM 1 (lcM false [2] (m1 iterT (varM 0)) (.one 2) (yesM) (varM 2))
noncomputable def p__law_draw_1 : MS :=
    retS (m1 (lstT true) (consM (varM 1) (consM (retM (.int 0)) (consM (retM (.int 0)) (consM (retM (.int 0)) (consM (retM (.int 0)) (consM (m2 addT (m2 modT (m1 (f1 intF) (consM (m1 (f1 sumT) (consM (varM 1) (nilM))) (nilM))) (retM (.int 1000003))) (m2 mulT (retM (.int 7)) (m1 (f1 lenT) (consM (varM 1) (nilM))))) (nilM))))))))
noncomputable def m__law_draw : MS := seqM (p__law_draw_0) (p__law_draw_1)
noncomputable def L__law_draw : List T → Sto → R T := runF 1 2 m__law_draw
theorem sc__law_draw : FnScope ["_law_script", "_law_cells", "_law_cell"] ["_law_script"] (defScope s__law_draw) := ⟨rfl, rfl, rfl, by decide +kernel, rfl, by decide +kernel, by decide +kernel⟩
theorem f__law_draw {P : Program} {w : World} {K : W.Frag} {mg : Str → Option Value} {base : Heap}  {a : Addr} {fd : FuncData} (F : Fun K "_law_draw" "_law_draw" s__law_draw a fd) (b_int : mg "int" = none) (b_len : mg "len" = none) (b_sum : mg "sum" = none) :
    FnOk P w K mg base (L2N.CX P w) (0 + 1) a fd ["_law_script"] (spOf mg K 1 (runF 1 2 m__law_draw)) :=
  fn_M F sc__law_draw rfl rfl fun cdv A outer s H E hr => by
    replace hr : Room (0) (A.deeper (envOfC "_law_draw" (defScope s__law_draw) s.heap.objs.size a cdv)) := hr
    have nd := sc__law_draw.nd
    exact (s_cons (sstl (mu := false) 1 (own := [(("_law_cell" : Str), 2)]) rfl nd (blkOk_by (N := ["_law_script", "_law_cells", "_law_cell"]) (sc := defScope s__law_draw) (by decide +kernel)) (i_any (vv 0)) (fun _ _ _ _ _ => (gno 2 nd)) (fun _ _ _ _ _ => t_nil) (fun _ _ _ _ _ => (vv 2)))
      (s_one (s_ret (e_lst (mu := true) (aac (vv 1) (aac e_int (aac e_int (aac e_int (aac e_int (aac (e_bin op_addT (e_bin op_modT (ect cr_int b_int (by decide +kernel) (aac (ecb (cr_sumT rfl) b_sum (by decide +kernel) (aac (vv 1) a_nil)) a_nil)) e_int) (e_bin op_mulT e_int (ecb cr_len b_len (by decide +kernel) (aac (vv 1) a_nil)))) a_nil))))))))))
/-! ### _law_mix -/
abbrev s__law_mix : Stmt := top 33
noncomputable def p__law_mix_0 : MS :=
    setM 2 (m2 modT (m1 (f1 intF) (consM (m2 addT (m2 addT (m2 mulT (varM 0) (retM (.int 48271))) (m2 mulT (varM 1) (retM (.int 69621)))) (retM (.int 12345))) (nilM))) (retM (.int 2147483647)))
noncomputable def p__law_mix_1 : MS :=
    setM 3 (m2 modT (m1 (f1 intF) (consM (m2 addT (m2 addT (m2 mulT (varM 2) (varM 2)) (m2 mulT (varM 1) (retM (.int 7919)))) (varM 0)) (nilM))) (retM (.int 998244353)))
noncomputable def p__law_mix_2 : MS :=
    setM 3 (m2 modT (m1 (f1 intF) (consM (m2 addT (m2 mulT (varM 3) (varM 3)) (varM 2)) (nilM))) (retM (.int 1000000007)))
noncomputable def p__law_mix_3 : MS :=
    retS (m2 fdivT (varM 3) (retM (.int 8)))
noncomputable def t__law_mix_2 : MS := seqM (p__law_mix_2) (p__law_mix_3)
noncomputable def t__law_mix_1 : MS := seqM (p__law_mix_1) (t__law_mix_2)
noncomputable def m__law_mix : MS := seqM (p__law_mix_0) (t__law_mix_1)
noncomputable def L__law_mix : List T → Sto → R T := runF 2 2 m__law_mix
theorem sc__law_mix : FnScope ["_law_cell", "_law_turn", "_law_one", "_law_two"] ["_law_cell", "_law_turn"] (defScope s__law_mix) := ⟨rfl, rfl, rfl, by decide +kernel, rfl, by decide +kernel, by decide +kernel⟩
theorem f__law_mix {P : Program} {w : World} {K : W.Frag} {mg : Str → Option Value} {base : Heap}  {a : Addr} {fd : FuncData} (F : Fun K "_law_mix" "_law_mix" s__law_mix a fd) (b_int : mg "int" = none) :
    FnOk P w K mg base (L2N.CX P w) (0 + 1) a fd ["_law_cell", "_law_turn"] (spOf mg K 2 (runF 2 2 m__law_mix)) :=
  fn_M F sc__law_mix rfl rfl fun cdv A outer s H E hr => by
    replace hr : Room (0) (A.deeper (envOfC "_law_mix" (defScope s__law_mix) s.heap.objs.size a cdv)) := hr
    have nd := sc__law_mix.nd
    exact (s_cons (sst 2 nd (e_bin op_modT (ect cr_int b_int (by decide +kernel) (aac (e_bin op_addT (e_bin op_addT (e_bin op_mulT (vv 0) e_int) (e_bin op_mulT (vv 1) e_int)) e_int) a_nil)) e_int))
      (s_cons (sst 3 nd (e_bin op_modT (ect cr_int b_int (by decide +kernel) (aac (e_bin op_addT (e_bin op_addT (e_bin op_mulT (vv 2) (vv 2)) (e_bin op_mulT (vv 1) e_int)) (vv 0)) a_nil)) e_int))
      (s_cons (sst 3 nd (e_bin op_modT (ect cr_int b_int (by decide +kernel) (aac (e_bin op_addT (e_bin op_mulT (vv 3) (vv 3)) (vv 2)) a_nil)) e_int))
      (s_one (s_ret (e_bin op_fdivT (vv 3) e_int))))))
/-! ### _law_pick -/
abbrev s__law_pick : Stmt := top 34
noncomputable def p__law_pick_0 : MS :=
    ifS (m1 boolOf (m2 ltT (varM 1) (retM (.int 2)))) (retS (retM (.int 0))) (nextM)
noncomputable def p__law_pick_1 : MS :=
    ifS (andM (m1 boolOf (m2 eqT (m2 idxT (varM 0) (retM (.int 2))) (retM (.int 0)))) (andM (m1 boolOf (m2 ltT (m2 idxT (varM 0) (retM (.int 1))) (m1 (f1 lenT) (consM (m2 idxT (varM 0) (retM (.int 0))) (nilM))))) (m1 boolOf (m2 eqT (m2 idxT (varM 0) (retM (.int 3))) (retM (.int 0)))))) (seqM (setM 2 (m2 idxT (m2 idxT (varM 0) (retM (.int 0))) (m2 idxT (varM 0) (retM (.int 1))))) <|
    ifS (orM (m1 boolOf (m2 geT (varM 2) (m2 powT (retM (.int 10)) (retM (.int 18))))) (m1 boolOf (m2 leT (varM 2) (m1 negT (m2 powT (retM (.int 10)) (retM (.int 18))))))) (seqM (subS (m2 modT (m1 (f1 intF) (consM (m1 (f1 absT) (consM (varM 2) (nilM))) (nilM))) (m2 powT (m2 powT (retM (.int 10)) (retM (.int 60))) (retM (.int 64)))) (varM 0) (retM (.int 2))) <|
    subS (m2 addT (m2 idxT (varM 0) (retM (.int 1))) (retM (.int 1))) (varM 0) (retM (.int 1))) (nextM)) (nextM)
noncomputable def p__law_pick_2 : MS :=
    ifS (m1 boolOf (m2 gtT (m2 idxT (varM 0) (retM (.int 2))) (retM (.int 0)))) (seqM (setM 3 (m2 modT (m1 (f1 intF) (consM (m2 idxT (varM 0) (retM (.int 2))) (nilM))) (varM 1))) <|
    seqM (subS (m2 fdivT (m2 idxT (varM 0) (retM (.int 2))) (varM 1)) (varM 0) (retM (.int 2))) <|
    retS (varM 3)) (nextM)
noncomputable def p__law_pick_3 : MS :=
    ifS (m1 boolOf (m2 ltT (m2 idxT (varM 0) (retM (.int 1))) (m1 (f1 lenT) (consM (m2 idxT (varM 0) (retM (.int 0))) (nilM))))) (seqM (setM 2 (m2 idxT (m2 idxT (varM 0) (retM (.int 0))) (m2 idxT (varM 0) (retM (.int 1))))) <|
    seqM (subS (m2 addT (m2 idxT (varM 0) (retM (.int 3))) (retM (.int 1))) (varM 0) (retM (.int 3))) <|
    seqM (setM 4 (m2 modT (m1 (f1 intF) (consM (m1 (callF 2 L__law_mix) (consM (m2 addT (varM 2) (m2 mulT (retM (.int 31)) (m2 idxT (varM 0) (retM (.int 1))))) (consM (m2 idxT (varM 0) (retM (.int 3))) (nilM)))) (nilM))) (varM 1))) <|
    seqM (ifS (m1 boolOf (m2 eqT (m2 idxT (varM 0) (retM (.int 3))) (retM (.int 6)))) (seqM (subS (retM (.int 0)) (varM 0) (retM (.int 3))) <|
    subS (m2 addT (m2 idxT (varM 0) (retM (.int 1))) (retM (.int 1))) (varM 0) (retM (.int 1))) (nextM)) <|
    retS (varM 4)) (nextM)
noncomputable def p__law_pick_4 : MS :=
    subS (m2 addT (m2 idxT (varM 0) (retM (.int 4))) (retM (.int 1))) (varM 0) (retM (.int 4))
noncomputable def p__law_pick_5 : MS :=
    retS (m2 modT (m1 (f1 intF) (consM (m1 (callF 2 L__law_mix) (consM (m2 idxT (varM 0) (retM (.int 5))) (consM (m2 addT (m2 idxT (varM 0) (retM (.int 4))) (retM (.int 100))) (nilM)))) (nilM))) (varM 1))
noncomputable def t__law_pick_4 : MS := seqM (p__law_pick_4) (p__law_pick_5)
noncomputable def t__law_pick_3 : MS := seqM (p__law_pick_3) (t__law_pick_4)
noncomputable def t__law_pick_2 : MS := seqM (p__law_pick_2) (t__law_pick_3)
noncomputable def t__law_pick_1 : MS := seqM (p__law_pick_1) (t__law_pick_2)
noncomputable def m__law_pick : MS := seqM (p__law_pick_0) (t__law_pick_1)
noncomputable def L__law_pick : List T → Sto → R T := runF 2 3 m__law_pick
theorem sc__law_pick : FnScope ["_law_draw_here", "_law_many", "_law_cell", "_law_digit", "_law_found"] ["_law_draw_here", "_law_many"] (defScope s__law_pick) := ⟨rfl, rfl, rfl, by decide +kernel, rfl, by decide +kernel, by decide +kernel⟩
theorem f__law_pick {P : Program} {w : World} {K : W.Frag} {mg : Str → Option Value} {base : Heap}  {a : Addr} {fd : FuncData} (F : Fun K "_law_pick" "_law_pick" s__law_pick a fd) (b_abs : mg "abs" = none) (b_int : mg "int" = none) (b_len : mg "len" = none)
    (c__law_mix : CalM P w K mg base 1 "_law_mix" 2 L__law_mix) :
    FnOk P w K mg base (L2N.CX P w) (1 + 1) a fd ["_law_draw_here", "_law_many"] (spOf mg K 2 (runF 2 3 m__law_pick)) :=
  fn_M F sc__law_pick rfl rfl fun cdv A outer s H E hr => by
    replace hr : Room (1) (A.deeper (envOfC "_law_pick" (defScope s__law_pick) s.heap.objs.size a cdv)) := hr
    have nd := sc__law_pick.nd
    have hu := hr.units
    have tk : L2N.Takes (cxOf (L2N.CX P w) P w K mg base ["_law_draw_here", "_law_many", "_law_cell", "_law_digit", "_law_found"] "_law_pick" (defScope s__law_pick) a cdv A outer s H E) (fun cls d _ H => E cls d H) := L2N.takes_of rfl rfl rfl rfl
    have px : Passes (L2N.CX P w) (cxOf (L2N.CX P w) P w K mg base ["_law_draw_here", "_law_many", "_law_cell", "_law_digit", "_law_found"] "_law_pick" (defScope s__law_pick) a cdv A outer s H E) E := L2N.passes_call tk fun _ _ _ _ h => h
    exact (s_cons (s_if (bcm (op_ltT) (vv 1) e_int) (s_one (s_ret e_int)) s_nil)
      (s_cons (s_if (w_and (bcm (op_eqT hu) (eix (vv 0) e_int) e_int) (w_and (bcm (op_ltT) (eix (vv 0) e_int) (ecb cr_len b_len (by decide +kernel) (aac (eix (vv 0) e_int) a_nil))) (w_and1 (bcm (op_eqT hu) (eix (vv 0) e_int) e_int)))).pt (s_cons (sst 2 nd (eix (eix (vv 0) e_int) (eix (vv 0) e_int)))
      (s_one (s_if (w_or (bcm (op_geT) (vv 2) (e_bin op_powT e_int e_int)) (w_or1 (bcm (op_leT) (vv 2) (e_un un_negT (e_bin op_powT e_int e_int))))).pt (s_cons (ssub (e_bin op_modT (ect cr_int b_int (by decide +kernel) (aac (ecb cr_abs b_abs (by decide +kernel) (aac (vv 2) a_nil)) a_nil)) (e_bin op_powT (e_bin op_powT e_int e_int) e_int)) (vv 0) e_int)
      (s_one (ssub (e_bin op_addT (eix (vv 0) e_int) e_int) (vv 0) e_int))) s_nil))) s_nil)
      (s_cons (s_if (bcm (op_gtT) (eix (vv 0) e_int) e_int) (s_cons (sst 3 nd (e_bin op_modT (ect cr_int b_int (by decide +kernel) (aac (eix (vv 0) e_int) a_nil)) (vv 1)))
      (s_cons (ssub (e_bin op_fdivT (eix (vv 0) e_int) (vv 1)) (vv 0) e_int)
      (s_one (s_ret (vv 3))))) s_nil)
      (s_cons (s_if (bcm (op_ltT) (eix (vv 0) e_int) (ecb cr_len b_len (by decide +kernel) (aac (eix (vv 0) e_int) a_nil))) (s_cons (sst 2 nd (eix (eix (vv 0) e_int) (eix (vv 0) e_int)))
      (s_cons (ssub (e_bin op_addT (eix (vv 0) e_int) e_int) (vv 0) e_int)
      (s_cons (sst 4 nd (e_bin op_modT (ect cr_int b_int (by decide +kernel) (aac (ecf c__law_mix (hr.mono (by decide)) px (aac (e_bin op_addT (vv 2) (e_bin op_mulT e_int (eix (vv 0) e_int))) (aac (eix (vv 0) e_int) a_nil))) a_nil)) (vv 1)))
      (s_cons (s_if (bcm (op_eqT hu) (eix (vv 0) e_int) e_int) (s_cons (ssub e_int (vv 0) e_int)
      (s_one (ssub (e_bin op_addT (eix (vv 0) e_int) e_int) (vv 0) e_int))) s_nil)
      (s_one (s_ret (vv 4))))))) s_nil)
      (s_cons (ssub (e_bin op_addT (eix (vv 0) e_int) e_int) (vv 0) e_int)
      (s_one (s_ret (e_bin op_modT (ect cr_int b_int (by decide +kernel) (aac (ecf c__law_mix (hr.mono (by decide)) px (aac (eix (vv 0) e_int) (aac (e_bin op_addT (eix (vv 0) e_int) e_int) a_nil))) a_nil)) (vv 1)))))))))
/-! ### _law_step -/
abbrev s__law_step : Stmt := top 35
noncomputable def p__law_step_0 : MS :=
    setM 3 (m1 (callF 2 L__law_pick) (consM (varM 0) (consM (varM 1) (nilM))))
noncomputable def p__law_step_1 : MS :=
    setM 4 (m2 modT (m1 (f1 intF) (consM (m2 addT (m2 addT (varM 3) (retM (.int 1))) (m1 (callF 2 L__law_pick) (consM (varM 0) (consM (m2 subT (varM 1) (retM (.int 1))) (nilM))))) (nilM))) (varM 1))
noncomputable def p__law_step_2 : MS :=
    setM 5 (m2 idxT (varM 2) (m1 (callF 2 L__law_pick) (consM (varM 0) (consM (m1 (f1 lenT) (consM (varM 2) (nilM))) (nilM)))))
noncomputable def p__law_step_3 : MS :=
    setM 6 (m1 (callF 2 L__law_pick) (consM (varM 0) (consM (retM (.int 9)) (nilM))))
noncomputable def p__law_step_4 : MS :=
    ifS (m1 boolOf (m2 eqT (varM 6) (retM (.int 7)))) (setM 5 (strM ("*" : Str))) (nextM)
noncomputable def p__law_step_5 : MS :=
    ifS (m1 boolOf (m2 eqT (varM 6) (retM (.int 8)))) (setM 5 (strM ("~" : Str))) (nextM)
noncomputable def p__law_step_6 : MS :=
    retS (m1 tupT (consM (varM 5) (consM (varM 3) (consM (varM 4) (nilM)))))
noncomputable def t__law_step_5 : MS := seqM (p__law_step_5) (p__law_step_6)
noncomputable def t__law_step_4 : MS := seqM (p__law_step_4) (t__law_step_5)
noncomputable def t__law_step_3 : MS := seqM (p__law_step_3) (t__law_step_4)
noncomputable def t__law_step_2 : MS := seqM (p__law_step_2) (t__law_step_3)
noncomputable def t__law_step_1 : MS := seqM (p__law_step_1) (t__law_step_2)
noncomputable def m__law_step : MS := seqM (p__law_step_0) (t__law_step_1)
noncomputable def L__law_step : List T → Sto → R T := runF 3 4 m__law_step
theorem sc__law_step : FnScope ["_law_draw_here", "_law_size", "_law_kinds", "_law_one", "_law_two", "_law_what", "_law_way"] ["_law_draw_here", "_law_size", "_law_kinds"] (defScope s__law_step) := ⟨rfl, rfl, rfl, by decide +kernel, rfl, by decide +kernel, by decide +kernel⟩
theorem f__law_step {P : Program} {w : World} {K : W.Frag} {mg : Str → Option Value} {base : Heap}  {a : Addr} {fd : FuncData} (F : Fun K "_law_step" "_law_step" s__law_step a fd) (b_int : mg "int" = none) (b_len : mg "len" = none)
    (c__law_pick : CalM P w K mg base 2 "_law_pick" 2 L__law_pick) :
    FnOk P w K mg base (L2N.CX P w) (2 + 1) a fd ["_law_draw_here", "_law_size", "_law_kinds"] (spOf mg K 3 (runF 3 4 m__law_step)) :=
  fn_M F sc__law_step rfl rfl fun cdv A outer s H E hr => by
    replace hr : Room (2) (A.deeper (envOfC "_law_step" (defScope s__law_step) s.heap.objs.size a cdv)) := hr
    have nd := sc__law_step.nd
    have hu := hr.units
    have tk : L2N.Takes (cxOf (L2N.CX P w) P w K mg base ["_law_draw_here", "_law_size", "_law_kinds", "_law_one", "_law_two", "_law_what", "_law_way"] "_law_step" (defScope s__law_step) a cdv A outer s H E) (fun cls d _ H => E cls d H) := L2N.takes_of rfl rfl rfl rfl
    have px : Passes (L2N.CX P w) (cxOf (L2N.CX P w) P w K mg base ["_law_draw_here", "_law_size", "_law_kinds", "_law_one", "_law_two", "_law_what", "_law_way"] "_law_step" (defScope s__law_step) a cdv A outer s H E) E := L2N.passes_call tk fun _ _ _ _ h => h
    exact (s_cons (sst 3 nd (ecf c__law_pick (hr.mono (by decide)) px (aac (vv 0) (aac (vv 1) a_nil))))
      (s_cons (sst 4 nd (e_bin op_modT (ect cr_int b_int (by decide +kernel) (aac (e_bin op_addT (e_bin op_addT (vv 3) e_int) (ecf c__law_pick (hr.mono (by decide)) px (aac (vv 0) (aac (e_bin op_subT (vv 1) e_int) a_nil)))) a_nil)) (vv 1)))
      (s_cons (sst 5 nd (eix (vv 2) (ecf c__law_pick (hr.mono (by decide)) px (aac (vv 0) (aac (ecb cr_len b_len (by decide +kernel) (aac (vv 2) a_nil)) a_nil)))))
      (s_cons (sst 6 nd (ecf c__law_pick (hr.mono (by decide)) px (aac (vv 0) (aac e_int a_nil))))
      (s_cons (s_if (bcm (op_eqT hu) (vv 6) e_int) (s_one (sst 5 nd e_str)) s_nil)
      (s_cons (s_if (bcm (op_eqT hu) (vv 6) e_int) (s_one (sst 5 nd e_str)) s_nil)
      (s_one (s_ret (e_tup (aac (vv 5) (aac (vv 3) (aac (vv 4) a_nil))))))))))))
/-! ### _law_deed -/
abbrev s__law_deed : Stmt := top 36
noncomputable def m__law_deed : MS :=
    retS (m1 (f1 tupleT) (consM (lcM false [4] (m1 rng1T (consM (m1 (callF 2 L__law_pick) (consM (varM 0) (consM (m2 addT (varM 3) (retM (.int 1))) (nilM)))) (nilM))) (.one 4) (yesM) (m1 (callF 3 L__law_step) (consM (varM 0) (consM (varM 1) (consM (varM 2) (nilM)))))) (nilM)))
noncomputable def L__law_deed : List T → Sto → R T := runF 4 1 m__law_deed
theorem sc__law_deed : FnScope ["_law_draw_here", "_law_size", "_law_kinds", "_law_cap", "_law_turn"] ["_law_draw_here", "_law_size", "_law_kinds", "_law_cap"] (defScope s__law_deed) := ⟨rfl, rfl, rfl, by decide +kernel, rfl, by decide +kernel, by decide +kernel⟩
theorem f__law_deed {P : Program} {w : World} {K : W.Frag} {mg : Str → Option Value} {base : Heap}  {a : Addr} {fd : FuncData} (F : Fun K "_law_deed" "_law_deed" s__law_deed a fd) (b_range : mg "range" = none) (b_tuple : mg "tuple" = none)
    (c__law_pick : CalM P w K mg base 2 "_law_pick" 2 L__law_pick)
    (c__law_step : CalM P w K mg base 3 "_law_step" 3 L__law_step) :
    FnOk P w K mg base (L2N.CX P w) (3 + 1) a fd ["_law_draw_here", "_law_size", "_law_kinds", "_law_cap"] (spOf mg K 4 (runF 4 1 m__law_deed)) :=
  fn_M F sc__law_deed rfl rfl fun cdv A outer s H E hr => by
    replace hr : Room (3) (A.deeper (envOfC "_law_deed" (defScope s__law_deed) s.heap.objs.size a cdv)) := hr
    have nd := sc__law_deed.nd
    have tk : L2N.Takes (cxOf (L2N.CX P w) P w K mg base ["_law_draw_here", "_law_size", "_law_kinds", "_law_cap", "_law_turn"] "_law_deed" (defScope s__law_deed) a cdv A outer s H E) (fun cls d _ H => E cls d H) := L2N.takes_of rfl rfl rfl rfl
    have px : Passes (L2N.CX P w) (cxOf (L2N.CX P w) P w K mg base ["_law_draw_here", "_law_size", "_law_kinds", "_law_cap", "_law_turn"] "_law_deed" (defScope s__law_deed) a cdv A outer s H E) E := L2N.passes_call tk fun _ _ _ _ h => h
    exact (s_one (s_ret (ect cr_tuple b_tuple (by decide +kernel) (aac (elc (mu := false) (own := [(("_law_turn" : Str), 4)]) rfl nd (blkOk_by (N := ["_law_draw_here", "_law_size", "_law_kinds", "_law_cap", "_law_turn"]) (sc := defScope s__law_deed) (by decide +kernel)) (ir1 b_range (aac (ecf c__law_pick (hr.mono (by decide)) px (aac (vv 0) (aac (e_bin op_addT (vv 3) e_int) a_nil))) a_nil)) (fun _ _ _ _ _ => (gno 4 nd)) (fun _ _ _ _ _ => t_nil) (fun _ _ _ _ _ => (ecf c__law_step (hr.mono (by decide)) passN (aac (vv 0) (aac (vv 1) (aac (vv 2) a_nil)))))) a_nil))))
/-! ### _law_is_int -/
abbrev s__law_is_int : Stmt := top 37
noncomputable def m__law_is_int : MS :=
    retS (andV (m1 (f2 isiT) (consM (varM 0) (consM (retM (.ty "int")) (nilM)))) (m1 blT (m1 notT (m1 truthT (m1 (f2 isiT) (consM (varM 0) (consM (retM (.ty "bool")) (nilM))))))))
noncomputable def L__law_is_int : List T → Sto → R T := runF 1 0 m__law_is_int
theorem sc__law_is_int : FnScope ["_law_thing"] ["_law_thing"] (defScope s__law_is_int) := ⟨rfl, rfl, rfl, by decide +kernel, rfl, by decide +kernel, by decide +kernel⟩
theorem f__law_is_int {P : Program} {w : World} {K : W.Frag} {mg : Str → Option Value} {base : Heap}  {a : Addr} {fd : FuncData} (F : Fun K "_law_is_int" "_law_is_int" s__law_is_int a fd) (b_bool : mg "bool" = none) (b_int : mg "int" = none) (b_isinstance : mg "isinstance" = none) :
    FnOk P w K mg base (L2N.CX P w) (0 + 1) a fd ["_law_thing"] (spOf mg K 1 (runF 1 0 m__law_is_int)) :=
  fn_M F sc__law_is_int rfl rfl fun cdv A outer s H E hr => by
    replace hr : Room (0) (A.deeper (envOfC "_law_is_int" (defScope s__law_is_int) s.heap.objs.size a cdv)) := hr
    have nd := sc__law_is_int.nd
    exact (s_one (s_ret (e_and (ecb cr_isi b_isinstance (by decide +kernel) (aac (vv 0) (aac (ety b_int (by decide +kernel)) a_nil))) (e_one (e_not (ecb cr_isi b_isinstance (by decide +kernel) (aac (vv 0) (aac (ety b_bool (by decide +kernel)) a_nil))))))))
theorem fh__law_is_int {P : Program} {w : World} {K : W.Frag} {mg : Str → Option Value} {base : Heap}  {a : Addr} {fd : FuncData} (F : Fun K "_law_is_int" "_law_is_int" s__law_is_int a fd) (b_bool : mg "bool" = none) (b_int : mg "int" = none) (b_isinstance : mg "isinstance" = none) :
    FnH P w K mg base (L2N.CX P w) (0 + 1) a fd ["_law_thing"] (spOf mg K 1 (calmF (runF 1 0 (m__law_is_int)))) :=
  fnH_M F sc__law_is_int rfl rfl fun cdv A outer s H E p hot hrH => by
    replace hrH : RoomH (0) (A.deeper (envOfC "_law_is_int" (defScope s__law_is_int) s.heap.objs.size a cdv)) := hrH
    have nd := sc__law_is_int.nd
    have hc : HotC (cxH (L2N.CX P w) P w K mg base ["_law_thing"] "_law_is_int" (defScope s__law_is_int) a cdv A outer s H E p) := hotX hot
    exact (s_one (s_ret (e_and (ecb cr_isi b_isinstance (by decide +kernel) (aac (vv 0) (aac (ety b_int (by decide +kernel)) a_nil))) (e_one (e_not (ecb cr_isi b_isinstance (by decide +kernel) (aac (vv 0) (aac (ety b_bool (by decide +kernel)) a_nil))))))))
/-! ### _law_exact -/
abbrev s__law_exact : Stmt := top 38
noncomputable def p__law_exact_0 (G__law_exact : List T → Sto → R T) (G__law_is_int : List T → Sto → R T) : MS :=
    ifS (orM (m1 truthT (m1 (f2 isiT) (consM (varM 1) (consM (retM (.ty "tuple")) (nilM))))) (m1 truthT (m1 (f2 isiT) (consM (varM 1) (consM (retM (.ty "list")) (nilM)))))) (seqM (ifS (orM (m1 boolOf (m2 neT (m1 (f2 isiT) (consM (varM 0) (consM (retM (.ty "tuple")) (nilM)))) (m1 (f2 isiT) (consM (varM 1) (consM (retM (.ty "tuple")) (nilM)))))) (m1 boolOf (m2 neT (m1 (f2 isiT) (consM (varM 0) (consM (retM (.ty "list")) (nilM)))) (m1 (f2 isiT) (consM (varM 1) (consM (retM (.ty "list")) (nilM))))))) (retS (retM (.bl false))) (nextM)) <|
    retS (andV (m2 eqT (m1 (f1 lenT) (consM (varM 0) (nilM))) (m1 (f1 lenT) (consM (varM 1) (nilM)))) (m1 blT (m1 notT (m1 truthT (lcM false [2] (m1 rng1T (consM (m1 (f1 lenT) (consM (varM 1) (nilM))) (nilM))) (.one 2) (m1 notT (m1 truthT (m1 (callF 2 G__law_exact) (consM (m2 idxT (varM 0) (varM 2)) (consM (m2 idxT (varM 1) (varM 2)) (nilM)))))) (varM 2))))))) (nextM)
noncomputable def p__law_exact_1 (G__law_exact : List T → Sto → R T) (G__law_is_int : List T → Sto → R T) : MS :=
    ifS (m1 boolOf (m2 isT (varM 1) (retM .non))) (retS (m2 isT (varM 0) (retM .non))) (nextM)
noncomputable def p__law_exact_2 (G__law_exact : List T → Sto → R T) (G__law_is_int : List T → Sto → R T) : MS :=
    ifS (m1 truthT (m1 (f2 isiT) (consM (varM 1) (consM (retM (.ty "bool")) (nilM))))) (retS (andV (m1 (f2 isiT) (consM (varM 0) (consM (retM (.ty "bool")) (nilM)))) (m2 eqT (varM 0) (varM 1)))) (nextM)
noncomputable def p__law_exact_3 (G__law_exact : List T → Sto → R T) (G__law_is_int : List T → Sto → R T) : MS :=
    ifS (m1 truthT (m1 (f2 isiT) (consM (varM 1) (consM (retM (.ty "str")) (nilM))))) (retS (andV (m1 (f2 isiT) (consM (varM 0) (consM (retM (.ty "str")) (nilM)))) (m2 eqT (varM 0) (varM 1)))) (nextM)
noncomputable def p__law_exact_4 (G__law_exact : List T → Sto → R T) (G__law_is_int : List T → Sto → R T) : MS :=
    retS (andV (m1 (callF 1 G__law_is_int) (consM (varM 0) (nilM))) (m2 eqT (varM 0) (varM 1)))
noncomputable def t__law_exact_3 (G__law_exact : List T → Sto → R T) (G__law_is_int : List T → Sto → R T) : MS := seqM (p__law_exact_3 G__law_exact G__law_is_int) (p__law_exact_4 G__law_exact G__law_is_int)
noncomputable def t__law_exact_2 (G__law_exact : List T → Sto → R T) (G__law_is_int : List T → Sto → R T) : MS := seqM (p__law_exact_2 G__law_exact G__law_is_int) (t__law_exact_3 G__law_exact G__law_is_int)
noncomputable def t__law_exact_1 (G__law_exact : List T → Sto → R T) (G__law_is_int : List T → Sto → R T) : MS := seqM (p__law_exact_1 G__law_exact G__law_is_int) (t__law_exact_2 G__law_exact G__law_is_int)
noncomputable def m__law_exact (G__law_exact : List T → Sto → R T) (G__law_is_int : List T → Sto → R T) : MS := seqM (p__law_exact_0 G__law_exact G__law_is_int) (t__law_exact_1 G__law_exact G__law_is_int)
noncomputable def L__law_exact : Nat → List T → Sto → R T
  | 0 => fun _ _ => .bad
  | d + 1 => runF 2 1 (m__law_exact (L__law_exact d) L__law_is_int)
theorem sc__law_exact : FnScope ["_law_told", "_law_due", "_law_k"] ["_law_told", "_law_due"] (defScope s__law_exact) := ⟨rfl, rfl, rfl, by decide +kernel, rfl, by decide +kernel, by decide +kernel⟩
theorem f__law_exact {P : Program} {w : World} {K : W.Frag} {mg : Str → Option Value} {base : Heap} {kk : Nat}  (G__law_exact : List T → Sto → R T) (G__law_is_int : List T → Sto → R T) {a : Addr} {fd : FuncData} (F : Fun K "_law_exact" "_law_exact" s__law_exact a fd) (b_bool : mg "bool" = none) (b_isinstance : mg "isinstance" = none) (b_len : mg "len" = none) (b_list : mg "list" = none) (b_range : mg "range" = none) (b_str : mg "str" = none) (b_tuple : mg "tuple" = none)
    (c__law_exact : CalM P w K mg base (kk + 1) "_law_exact" 2 G__law_exact)
    (c__law_is_int : CalM P w K mg base 1 "_law_is_int" 1 G__law_is_int) :
    FnOk P w K mg base (L2N.CX P w) (kk + 1 + 1) a fd ["_law_told", "_law_due"] (spOf mg K 2 (runF 2 1 (m__law_exact G__law_exact G__law_is_int))) :=
  fn_M F sc__law_exact rfl rfl fun cdv A outer s H E hr => by
    replace hr : Room (kk + 1) (A.deeper (envOfC "_law_exact" (defScope s__law_exact) s.heap.objs.size a cdv)) := hr
    have nd := sc__law_exact.nd
    have hu := hr.units
    have tk : L2N.Takes (cxOf (L2N.CX P w) P w K mg base ["_law_told", "_law_due", "_law_k"] "_law_exact" (defScope s__law_exact) a cdv A outer s H E) (fun cls d _ H => E cls d H) := L2N.takes_of rfl rfl rfl rfl
    have px : Passes (L2N.CX P w) (cxOf (L2N.CX P w) P w K mg base ["_law_told", "_law_due", "_law_k"] "_law_exact" (defScope s__law_exact) a cdv A outer s H E) E := L2N.passes_call tk fun _ _ _ _ h => h
    exact (s_cons (s_if (w_or (ebt (ecb cr_isi b_isinstance (by decide +kernel) (aac (vv 1) (aac (ety b_tuple (by decide +kernel)) a_nil)))) (w_or1 (ebt (ecb cr_isi b_isinstance (by decide +kernel) (aac (vv 1) (aac (ety b_list (by decide +kernel)) a_nil)))))).pt (s_cons (s_if (w_or (bcm (op_neT hu) (ecb cr_isi b_isinstance (by decide +kernel) (aac (vv 0) (aac (ety b_tuple (by decide +kernel)) a_nil))) (ecb cr_isi b_isinstance (by decide +kernel) (aac (vv 1) (aac (ety b_tuple (by decide +kernel)) a_nil)))) (w_or1 (bcm (op_neT hu) (ecb cr_isi b_isinstance (by decide +kernel) (aac (vv 0) (aac (ety b_list (by decide +kernel)) a_nil))) (ecb cr_isi b_isinstance (by decide +kernel) (aac (vv 1) (aac (ety b_list (by decide +kernel)) a_nil)))))).pt (s_one (s_ret e_bl)) s_nil)
      (s_one (s_ret (e_and (ecm (op_eqT hu) (ecb cr_len b_len (by decide +kernel) (aac (vv 0) a_nil)) (ecb cr_len b_len (by decide +kernel) (aac (vv 1) a_nil))) (e_one (e_not (elc (mu := false) (own := [(("_law_k" : Str), 2)]) rfl nd (blkOk_by (N := ["_law_told", "_law_due", "_law_k"]) (sc := defScope s__law_exact) (by decide +kernel)) (ir1 b_range (aac (ecb cr_len b_len (by decide +kernel) (aac (vv 1) a_nil)) a_nil)) (fun _ _ _ _ _ => (gno 2 nd)) (fun _ _ _ _ _ => t_one (b_not (ebt (ecf c__law_exact (hr.mono (by omega)) passN (aac (eix (vv 0) (vv 2)) (aac (eix (vv 1) (vv 2)) a_nil)))))) (fun _ _ _ _ _ => (vv 2))))))))) s_nil)
      (s_cons (s_if (bcm (op_isT) (vv 1) e_non) (s_one (s_ret (ecm (op_isT) (vv 0) e_non))) s_nil)
      (s_cons (s_if (ebt (ecb cr_isi b_isinstance (by decide +kernel) (aac (vv 1) (aac (ety b_bool (by decide +kernel)) a_nil)))) (s_one (s_ret (e_and (ecb cr_isi b_isinstance (by decide +kernel) (aac (vv 0) (aac (ety b_bool (by decide +kernel)) a_nil))) (e_one (ecm (op_eqT hu) (vv 0) (vv 1)))))) s_nil)
      (s_cons (s_if (ebt (ecb cr_isi b_isinstance (by decide +kernel) (aac (vv 1) (aac (ety b_str (by decide +kernel)) a_nil)))) (s_one (s_ret (e_and (ecb cr_isi b_isinstance (by decide +kernel) (aac (vv 0) (aac (ety b_str (by decide +kernel)) a_nil))) (e_one (ecm (op_eqT hu) (vv 0) (vv 1)))))) s_nil)
      (s_one (s_ret (e_and (ecf c__law_is_int (hr.mono (by omega)) px (aac (vv 0) a_nil)) (e_one (ecm (op_eqT hu) (vv 0) (vv 1))))))))))
theorem fh__law_exact {P : Program} {w : World} {K : W.Frag} {mg : Str → Option Value} {base : Heap} {kk : Nat}  (G__law_exact : List T → Sto → R T) (G__law_is_int : List T → Sto → R T) {a : Addr} {fd : FuncData} (F : Fun K "_law_exact" "_law_exact" s__law_exact a fd) (b_bool : mg "bool" = none) (b_isinstance : mg "isinstance" = none) (b_len : mg "len" = none) (b_list : mg "list" = none) (b_range : mg "range" = none) (b_str : mg "str" = none) (b_tuple : mg "tuple" = none)
    (h__law_exact : CalH P w K mg base (kk + 1) "_law_exact" 2 G__law_exact)
    (h__law_is_int : CalH P w K mg base 1 "_law_is_int" 1 G__law_is_int) :
    FnH P w K mg base (L2N.CX P w) (kk + 1 + 1) a fd ["_law_told", "_law_due"] (spOf mg K 2 (calmF (runF 2 1 (m__law_exact (calmF G__law_exact) (calmF G__law_is_int))))) :=
  fnH_M F sc__law_exact rfl rfl fun cdv A outer s H E p hot hrH => by
    replace hrH : RoomH (kk + 1) (A.deeper (envOfC "_law_exact" (defScope s__law_exact) s.heap.objs.size a cdv)) := hrH
    have nd := sc__law_exact.nd
    have hu : (cxH (L2N.CX P w) P w K mg base ["_law_told", "_law_due", "_law_k"] "_law_exact" (defScope s__law_exact) a cdv A outer s H E p).A.units + 64 < cLine := by have := hrH.un; show (A.deeper (envOfC "_law_exact" (defScope s__law_exact) s.heap.objs.size a cdv)).units + 64 < cLine; omega
    have hc : HotC (cxH (L2N.CX P w) P w K mg base ["_law_told", "_law_due", "_law_k"] "_law_exact" (defScope s__law_exact) a cdv A outer s H E p) := hotX hot
    exact (s_cons (s_if (w_or (ebt (ecb cr_isi b_isinstance (by decide +kernel) (aac (vv 1) (aac (ety b_tuple (by decide +kernel)) a_nil)))) (w_or1 (ebt (ecb cr_isi b_isinstance (by decide +kernel) (aac (vv 1) (aac (ety b_list (by decide +kernel)) a_nil)))))).pt (s_cons (s_if (w_or (bcm (op_neT hu) (ecb cr_isi b_isinstance (by decide +kernel) (aac (vv 0) (aac (ety b_tuple (by decide +kernel)) a_nil))) (ecb cr_isi b_isinstance (by decide +kernel) (aac (vv 1) (aac (ety b_tuple (by decide +kernel)) a_nil)))) (w_or1 (bcm (op_neT hu) (ecb cr_isi b_isinstance (by decide +kernel) (aac (vv 0) (aac (ety b_list (by decide +kernel)) a_nil))) (ecb cr_isi b_isinstance (by decide +kernel) (aac (vv 1) (aac (ety b_list (by decide +kernel)) a_nil)))))).pt (s_one (s_ret e_bl)) s_nil)
      (s_one (s_ret (e_and (ecm (op_eqT hu) (ecb cr_len b_len (by decide +kernel) (aac (vv 0) a_nil)) (ecb cr_len b_len (by decide +kernel) (aac (vv 1) a_nil))) (e_one (e_not (elcH (mu := false) (own := [(("_law_k" : Str), 2)]) hc nd (blkOk_by (N := ["_law_told", "_law_due", "_law_k"]) (sc := defScope s__law_exact) (by decide +kernel)) (ir1H b_range (aac (ecb cr_len b_len (by decide +kernel) (aac (vv 1) a_nil)) a_nil)) (fun _ _ _ _ _ _ hot => (gno 2 nd)) (fun _ _ _ _ _ _ hot => t_one (b_not (ebt (ecfH h__law_exact (hrH.mono (by omega)) (hotB hot) (aac (eix (vv 0) (vv 2)) (aac (eix (vv 1) (vv 2)) a_nil)))))) (fun _ _ _ _ _ _ hot => (vv 2))))))))) s_nil)
      (s_cons (s_if (bcm (op_isT) (vv 1) e_non) (s_one (s_ret (ecm (op_isT) (vv 0) e_non))) s_nil)
      (s_cons (s_if (ebt (ecb cr_isi b_isinstance (by decide +kernel) (aac (vv 1) (aac (ety b_bool (by decide +kernel)) a_nil)))) (s_one (s_ret (e_and (ecb cr_isi b_isinstance (by decide +kernel) (aac (vv 0) (aac (ety b_bool (by decide +kernel)) a_nil))) (e_one (ecm (op_eqT hu) (vv 0) (vv 1)))))) s_nil)
      (s_cons (s_if (ebt (ecb cr_isi b_isinstance (by decide +kernel) (aac (vv 1) (aac (ety b_str (by decide +kernel)) a_nil)))) (s_one (s_ret (e_and (ecb cr_isi b_isinstance (by decide +kernel) (aac (vv 0) (aac (ety b_str (by decide +kernel)) a_nil))) (e_one (ecm (op_eqT hu) (vv 0) (vv 1)))))) s_nil)
      (s_one (s_ret (e_and (ecfH h__law_is_int (hrH.mono (by omega)) hc (aac (vv 0) a_nil)) (e_one (ecm (op_eqT hu) (vv 0) (vv 1))))))))))
noncomputable def H__law_exact : Nat → List T → Sto → R T
  | 0 => fun _ _ => .bad
  | d + 1 => runF 2 1 (m__law_exact (calmF (H__law_exact d)) (calmF L__law_is_int))
/-! ### _law_deed_fault -/
abbrev s__law_deed_fault : Stmt := top 39
noncomputable def p__law_deed_fault_0 : MS :=
    ifS (m1 boolOf (m2 eqT (varM 0) (strM ("-" : Str)))) (retS (m1 negT (retM (.int 1)))) (nextM)
noncomputable def p__law_deed_fault_1 : MS :=
    ifS (m1 boolOf (m2 eqT (slM false (varM 0) (partM none) (partM (some (retM (.int 1))))) (strM ("-" : Str)))) (retS (retM (.int 1))) (nextM)
noncomputable def p__law_deed_fault_2 : MS :=
    forM (m1 rng1T (consM (m1 (f1 lenT) (consM (varM 0) (nilM))) (nilM))) (.one 1) (seqM (setM 2 (m2 modT (m1 (f1 intF) (consM (varM 1) (nilM))) (retM (.int 3)))) <|
    seqM (setM 3 (m2 idxT (m1 (lstT false) (consM (strM ("abcdefghijklmnopqrstuvwxyz*~" : Str)) (consM (strM ("012345" : Str)) (consM (strM ("012345" : Str)) (nilM))))) (varM 2))) <|
    ifS (orM (m1 boolOf (m2 eqT (varM 1) (retM (.int 9)))) (orM (m1 boolOf (m2 ninT (m2 idxT (varM 0) (varM 1)) (varM 3))) (andM (m1 boolOf (m2 eqT (varM 2) (retM (.int 2)))) (m1 boolOf (m2 eqT (m2 idxT (varM 0) (varM 1)) (m2 idxT (varM 0) (m2 subT (varM 1) (retM (.int 1))))))))) (retS (varM 1)) (nextM))
noncomputable def p__law_deed_fault_3 : MS :=
    ifS (orM (m1 boolOf (m2 eqT (varM 0) (strM ("" : Str)))) (m1 boolOf (m2 gtT (m2 modT (m1 (f1 intF) (consM (m1 (f1 lenT) (consM (varM 0) (nilM))) (nilM))) (retM (.int 3))) (retM (.int 0))))) (retS (m1 (f1 lenT) (consM (varM 0) (nilM)))) (nextM)
noncomputable def p__law_deed_fault_4 : MS :=
    retS (m1 negT (retM (.int 1)))
noncomputable def t__law_deed_fault_3 : MS := seqM (p__law_deed_fault_3) (p__law_deed_fault_4)
noncomputable def t__law_deed_fault_2 : MS := seqM (p__law_deed_fault_2) (t__law_deed_fault_3)
noncomputable def t__law_deed_fault_1 : MS := seqM (p__law_deed_fault_1) (t__law_deed_fault_2)
noncomputable def m__law_deed_fault : MS := seqM (p__law_deed_fault_0) (t__law_deed_fault_1)
noncomputable def L__law_deed_fault : List T → Sto → R T := runF 1 3 m__law_deed_fault
theorem sc__law_deed_fault : FnScope ["_law_text", "_law_at", "_law_part", "_law_signs"] ["_law_text"] (defScope s__law_deed_fault) := ⟨rfl, rfl, rfl, by decide +kernel, rfl, by decide +kernel, by decide +kernel⟩
theorem f__law_deed_fault {P : Program} {w : World} {K : W.Frag} {mg : Str → Option Value} {base : Heap}  {a : Addr} {fd : FuncData} (F : Fun K "_law_deed_fault" "_law_deed_fault" s__law_deed_fault a fd) (b_int : mg "int" = none) (b_len : mg "len" = none) (b_range : mg "range" = none) :
    FnOk P w K mg base (L2N.CX P w) (0 + 1) a fd ["_law_text"] (spOf mg K 1 (runF 1 3 m__law_deed_fault)) :=
  fn_M F sc__law_deed_fault rfl rfl fun cdv A outer s H E hr => by
    replace hr : Room (0) (A.deeper (envOfC "_law_deed_fault" (defScope s__law_deed_fault) s.heap.objs.size a cdv)) := hr
    have nd := sc__law_deed_fault.nd
    have hu := hr.units
    have po : PassesOwn (model P w) (cxOf (L2N.CX P w) P w K mg base ["_law_text", "_law_at", "_law_part", "_law_signs"] "_law_deed_fault" (defScope s__law_deed_fault) a cdv A outer s H E).A (cxOf (L2N.CX P w) P w K mg base ["_law_text", "_law_at", "_law_part", "_law_signs"] "_law_deed_fault" (defScope s__law_deed_fault) a cdv A outer s H E).env (cxOf (L2N.CX P w) P w K mg base ["_law_text", "_law_at", "_law_part", "_law_signs"] "_law_deed_fault" (defScope s__law_deed_fault) a cdv A outer s H E).xe := passes_of rfl
    exact (s_cons (s_if (bcm (op_eqT hu) (vv 0) e_str) (s_one (s_ret (e_un un_negT e_int))) s_nil)
      (s_cons (s_if (bcm (op_eqT hu) (e_sl (mu := false) (vv 0) o_none (o_some e_int)) e_str) (s_one (s_ret e_int)) s_nil)
      (s_cons (ssf po rfl (ir1 b_range (aac (ecb cr_len b_len (by decide +kernel) (aac (vv 0) a_nil)) a_nil)) (gno 1 nd) (s_cons (sst 2 nd (e_bin op_modT (ect cr_int b_int (by decide +kernel) (aac (vv 1) a_nil)) e_int))
      (s_cons (sst 3 nd (eix (e_lst (mu := false) (aac e_str (aac e_str (aac e_str a_nil)))) (vv 2)))
      (s_one (s_if (w_or (bcm (op_eqT hu) (vv 1) e_int) (w_or (bcm (op_ninT) (eix (vv 0) (vv 1)) (vv 3)) (w_or1 (w_and (bcm (op_eqT hu) (vv 2) e_int) (w_and1 (bcm (op_eqT hu) (eix (vv 0) (vv 1)) (eix (vv 0) (e_bin op_subT (vv 1) e_int))))).pt))).pt (s_one (s_ret (vv 1))) s_nil)))))
      (s_cons (s_if (w_or (bcm (op_eqT hu) (vv 0) e_str) (w_or1 (bcm (op_gtT) (e_bin op_modT (ect cr_int b_int (by decide +kernel) (aac (ecb cr_len b_len (by decide +kernel) (aac (vv 0) a_nil)) a_nil)) e_int) e_int))).pt (s_one (s_ret (ecb cr_len b_len (by decide +kernel) (aac (vv 0) a_nil)))) s_nil)
      (s_one (s_ret (e_un un_negT e_int)))))))
/-! ### _law_pattern_fault -/
abbrev s__law_pattern_fault : Stmt := top 40
noncomputable def p__law_pattern_fault_0 : MS :=
    ifS (m1 boolOf (m2 eqT (slM false (varM 0) (partM none) (partM (some (retM (.int 1))))) (strM ("." : Str)))) (retS (m2 idxT (m1 (lstT false) (consM (m1 negT (retM (.int 1))) (consM (retM (.int 1)) (nilM)))) (m1 (f1 intF) (consM (m2 gtT (m1 (f1 lenT) (consM (varM 0) (nilM))) (retM (.int 1))) (nilM))))) (nextM)
noncomputable def p__law_pattern_fault_1 : MS :=
    asgM (.many [2, 3, 4]) (m1 tupT (consM (retM (.int 1)) (consM (retM (.int 0)) (consM (strM ("" : Str)) (nilM)))))
noncomputable def p__law_pattern_fault_2 : MS :=
    forM (m1 rng1T (consM (m1 (f1 lenT) (consM (varM 0) (nilM))) (nilM))) (.one 1) (seqM (setM 5 (m2 idxT (varM 0) (varM 1))) <|
    ifS (m1 boolOf (m2 eqT (varM 5) (strM ("," : Str)))) (seqM (ifS (orM (m1 boolOf (m2 eqT (varM 4) (strM ("" : Str)))) (m1 boolOf (m2 eqT (varM 2) (retM (.int 6))))) (retS (varM 1)) (nextM)) <|
    seqM (setM 2 (m2 addT (varM 2) (retM (.int 1)))) <|
    setM 4 (strM ("" : Str))) (ifS (m1 boolOf (m2 inT (varM 5) (strM ("abcdefghijklmnopqrstuvwxyz" : Str)))) (seqM (ifS (orM (m1 boolOf (m2 eqT (varM 4) (strM ("-" : Str)))) (orM (m1 boolOf (m2 eqT (varM 4) (strM ("?" : Str)))) (orM (m1 boolOf (m2 eqT (varM 3) (retM (.int 8)))) (andM (m1 boolOf (m2 neT (varM 4) (strM ("" : Str)))) (m1 boolOf (m2 ltT (varM 5) (m2 idxT (varM 4) (m1 negT (retM (.int 1)))))))))) (retS (varM 1)) (nextM)) <|
    seqM (setM 3 (m2 addT (varM 3) (retM (.int 1)))) <|
    setM 4 (m2 addT (varM 4) (varM 5))) (ifS (andM (m1 boolOf (m2 inT (varM 5) (strM ("-?" : Str)))) (m1 boolOf (m2 eqT (varM 4) (strM ("" : Str))))) (setM 4 (varM 5)) (retS (varM 1)))))
noncomputable def p__law_pattern_fault_3 : MS :=
    ifS (m1 boolOf (m2 eqT (varM 4) (strM ("" : Str)))) (retS (m1 (f1 lenT) (consM (varM 0) (nilM)))) (nextM)
noncomputable def p__law_pattern_fault_4 : MS :=
    retS (m1 negT (retM (.int 1)))
noncomputable def t__law_pattern_fault_3 : MS := seqM (p__law_pattern_fault_3) (p__law_pattern_fault_4)
noncomputable def t__law_pattern_fault_2 : MS := seqM (p__law_pattern_fault_2) (t__law_pattern_fault_3)
noncomputable def t__law_pattern_fault_1 : MS := seqM (p__law_pattern_fault_1) (t__law_pattern_fault_2)
noncomputable def m__law_pattern_fault : MS := seqM (p__law_pattern_fault_0) (t__law_pattern_fault_1)
noncomputable def L__law_pattern_fault : List T → Sto → R T := runF 1 5 m__law_pattern_fault
theorem sc__law_pattern_fault : FnScope ["_law_text", "_law_at", "_law_items", "_law_letters", "_law_item", "_law_sign_here"] ["_law_text"] (defScope s__law_pattern_fault) := ⟨rfl, rfl, rfl, by decide +kernel, rfl, by decide +kernel, by decide +kernel⟩
theorem f__law_pattern_fault {P : Program} {w : World} {K : W.Frag} {mg : Str → Option Value} {base : Heap}  {a : Addr} {fd : FuncData} (F : Fun K "_law_pattern_fault" "_law_pattern_fault" s__law_pattern_fault a fd) (b_int : mg "int" = none) (b_len : mg "len" = none) (b_range : mg "range" = none) :
    FnOk P w K mg base (L2N.CX P w) (0 + 1) a fd ["_law_text"] (spOf mg K 1 (runF 1 5 m__law_pattern_fault)) :=
  fn_M F sc__law_pattern_fault rfl rfl fun cdv A outer s H E hr => by
    replace hr : Room (0) (A.deeper (envOfC "_law_pattern_fault" (defScope s__law_pattern_fault) s.heap.objs.size a cdv)) := hr
    have nd := sc__law_pattern_fault.nd
    have hu := hr.units
    have po : PassesOwn (model P w) (cxOf (L2N.CX P w) P w K mg base ["_law_text", "_law_at", "_law_items", "_law_letters", "_law_item", "_law_sign_here"] "_law_pattern_fault" (defScope s__law_pattern_fault) a cdv A outer s H E).A (cxOf (L2N.CX P w) P w K mg base ["_law_text", "_law_at", "_law_items", "_law_letters", "_law_item", "_law_sign_here"] "_law_pattern_fault" (defScope s__law_pattern_fault) a cdv A outer s H E).env (cxOf (L2N.CX P w) P w K mg base ["_law_text", "_law_at", "_law_items", "_law_letters", "_law_item", "_law_sign_here"] "_law_pattern_fault" (defScope s__law_pattern_fault) a cdv A outer s H E).xe := passes_of rfl
    exact (s_cons (s_if (bcm (op_eqT hu) (e_sl (mu := false) (vv 0) o_none (o_some e_int)) e_str) (s_one (s_ret (eix (e_lst (mu := false) (aac (e_un un_negT e_int) (aac e_int a_nil))) (ect cr_int b_int (by decide +kernel) (aac (ecm (op_gtT) (ecb cr_len b_len (by decide +kernel) (aac (vv 0) a_nil)) e_int) a_nil))))) s_nil)
      (s_cons (sasg (e_tup (aac e_int (aac e_int (aac e_str a_nil)))) (gma (is := [2, 3, 4]) rfl (gcs (gnm 2 nd) (gcs (gnm 3 nd) (gcs (gnm 4 nd) gnl)))))
      (s_cons (ssf po rfl (ir1 b_range (aac (ecb cr_len b_len (by decide +kernel) (aac (vv 0) a_nil)) a_nil)) (gno 1 nd) (s_cons (sst 5 nd (eix (vv 0) (vv 1)))
      (s_one (s_if (bcm (op_eqT hu) (vv 5) e_str) (s_cons (s_if (w_or (bcm (op_eqT hu) (vv 4) e_str) (w_or1 (bcm (op_eqT hu) (vv 2) e_int))).pt (s_one (s_ret (vv 1))) s_nil)
      (s_cons (sst 2 nd (e_bin op_addT (vv 2) e_int))
      (s_one (sst 4 nd e_str)))) (s_one (s_if (bcm (op_inT) (vv 5) e_str) (s_cons (s_if (w_or (bcm (op_eqT hu) (vv 4) e_str) (w_or (bcm (op_eqT hu) (vv 4) e_str) (w_or (bcm (op_eqT hu) (vv 3) e_int) (w_or1 (w_and (bcm (op_neT hu) (vv 4) e_str) (w_and1 (bcm (op_ltT) (vv 5) (eix (vv 4) (e_un un_negT e_int))))).pt)))).pt (s_one (s_ret (vv 1))) s_nil)
      (s_cons (sst 3 nd (e_bin op_addT (vv 3) e_int))
      (s_one (sst 4 nd (e_bin op_addT (vv 4) (vv 5)))))) (s_one (s_if (w_and (bcm (op_inT) (vv 5) e_str) (w_and1 (bcm (op_eqT hu) (vv 4) e_str))).pt (s_one (sst 4 nd (vv 5))) (s_one (s_ret (vv 1)))))))))))
      (s_cons (s_if (bcm (op_eqT hu) (vv 4) e_str) (s_one (s_ret (ecb cr_len b_len (by decide +kernel) (aac (vv 0) a_nil)))) s_nil)
      (s_one (s_ret (e_un un_negT e_int)))))))
/-! ### _law_deed_told -/
abbrev s__law_deed_told : Stmt := top 41
noncomputable def p__law_deed_told_0 : MS :=
    ifS (m1 boolOf (m2 eqT (varM 0) (strM ("-" : Str)))) (retS (m1 tupT (nilM))) (nextM)
noncomputable def p__law_deed_told_1 : MS :=
    retS (m1 (f1 tupleT) (consM (lcM false [1] (m1 rng1T (consM (m2 fdivT (m1 (f1 lenT) (consM (varM 0) (nilM))) (retM (.int 3))) (nilM))) (.one 1) (yesM) (m1 tupT (consM (m2 idxT (varM 0) (m2 mulT (retM (.int 3)) (varM 1))) (consM (m1 (f1 intF) (consM (m2 idxT (varM 0) (m2 addT (m2 mulT (retM (.int 3)) (varM 1)) (retM (.int 1)))) (nilM))) (consM (m1 (f1 intF) (consM (m2 idxT (varM 0) (m2 addT (m2 mulT (retM (.int 3)) (varM 1)) (retM (.int 2)))) (nilM))) (nilM)))))) (nilM)))
noncomputable def m__law_deed_told : MS := seqM (p__law_deed_told_0) (p__law_deed_told_1)
noncomputable def L__law_deed_told : List T → Sto → R T := runF 1 1 m__law_deed_told
theorem sc__law_deed_told : FnScope ["_law_text", "_law_k"] ["_law_text"] (defScope s__law_deed_told) := ⟨rfl, rfl, rfl, by decide +kernel, rfl, by decide +kernel, by decide +kernel⟩
theorem f__law_deed_told {P : Program} {w : World} {K : W.Frag} {mg : Str → Option Value} {base : Heap}  {a : Addr} {fd : FuncData} (F : Fun K "_law_deed_told" "_law_deed_told" s__law_deed_told a fd) (b_int : mg "int" = none) (b_len : mg "len" = none) (b_range : mg "range" = none) (b_tuple : mg "tuple" = none) :
    FnOk P w K mg base (L2N.CX P w) (0 + 1) a fd ["_law_text"] (spOf mg K 1 (runF 1 1 m__law_deed_told)) :=
  fn_M F sc__law_deed_told rfl rfl fun cdv A outer s H E hr => by
    replace hr : Room (0) (A.deeper (envOfC "_law_deed_told" (defScope s__law_deed_told) s.heap.objs.size a cdv)) := hr
    have nd := sc__law_deed_told.nd
    have hu := hr.units
    exact (s_cons (s_if (bcm (op_eqT hu) (vv 0) e_str) (s_one (s_ret (e_tup a_nil))) s_nil)
      (s_one (s_ret (ect cr_tuple b_tuple (by decide +kernel) (aac (elc (mu := false) (own := [(("_law_k" : Str), 1)]) rfl nd (blkOk_by (N := ["_law_text", "_law_k"]) (sc := defScope s__law_deed_told) (by decide +kernel)) (ir1 b_range (aac (e_bin op_fdivT (ecb cr_len b_len (by decide +kernel) (aac (vv 0) a_nil)) e_int) a_nil)) (fun _ _ _ _ _ => (gno 1 nd)) (fun _ _ _ _ _ => t_nil) (fun _ _ _ _ _ => (e_tup (aac (eix (vv 0) (e_bin op_mulT e_int (vv 1))) (aac (ect cr_int b_int (by decide +kernel) (aac (eix (vv 0) (e_bin op_addT (e_bin op_mulT e_int (vv 1)) e_int)) a_nil)) (aac (ect cr_int b_int (by decide +kernel) (aac (eix (vv 0) (e_bin op_addT (e_bin op_mulT e_int (vv 1)) e_int)) a_nil)) a_nil)))))) a_nil)))))
/-! ### _law_item_told -/
abbrev s__law_item_told : Stmt := top 42
noncomputable def p__law_item_told_0 : MS :=
    ifS (m1 boolOf (m2 eqT (varM 0) (strM ("?" : Str)))) (retS (retM .non)) (nextM)
noncomputable def p__law_item_told_1 : MS :=
    ifS (m1 boolOf (m2 eqT (varM 0) (strM ("-" : Str)))) (retS (strM ("" : Str))) (nextM)
noncomputable def p__law_item_told_2 : MS :=
    retS (varM 0)
noncomputable def t__law_item_told_1 : MS := seqM (p__law_item_told_1) (p__law_item_told_2)
noncomputable def m__law_item_told : MS := seqM (p__law_item_told_0) (t__law_item_told_1)
noncomputable def L__law_item_told : List T → Sto → R T := runF 1 0 m__law_item_told
theorem sc__law_item_told : FnScope ["_law_word"] ["_law_word"] (defScope s__law_item_told) := ⟨rfl, rfl, rfl, by decide +kernel, rfl, by decide +kernel, by decide +kernel⟩
theorem f__law_item_told {P : Program} {w : World} {K : W.Frag} {mg : Str → Option Value} {base : Heap}  {a : Addr} {fd : FuncData} (F : Fun K "_law_item_told" "_law_item_told" s__law_item_told a fd) :
    FnOk P w K mg base (L2N.CX P w) (0 + 1) a fd ["_law_word"] (spOf mg K 1 (runF 1 0 m__law_item_told)) :=
  fn_M F sc__law_item_told rfl rfl fun cdv A outer s H E hr => by
    replace hr : Room (0) (A.deeper (envOfC "_law_item_told" (defScope s__law_item_told) s.heap.objs.size a cdv)) := hr
    have nd := sc__law_item_told.nd
    have hu := hr.units
    exact (s_cons (s_if (bcm (op_eqT hu) (vv 0) e_str) (s_one (s_ret e_non)) s_nil)
      (s_cons (s_if (bcm (op_eqT hu) (vv 0) e_str) (s_one (s_ret e_str)) s_nil)
      (s_one (s_ret (vv 0)))))
/-! ### _law_pattern_told -/
abbrev s__law_pattern_told : Stmt := top 43
noncomputable def p__law_pattern_told_0 : MS :=
    ifS (m1 boolOf (m2 eqT (varM 0) (strM ("." : Str)))) (retS (m1 tupT (nilM))) (nextM)
noncomputable def p__law_pattern_told_1 : MS :=
    retS (m1 (f1 tupleT) (consM (lcM false [1] (m1 iterT (bmM "str" (splitT false) (varM 0) (consM (strM ("," : Str)) (nilM)))) (.one 1) (yesM) (m1 (callF 1 L__law_item_told) (consM (varM 1) (nilM)))) (nilM)))
noncomputable def m__law_pattern_told : MS := seqM (p__law_pattern_told_0) (p__law_pattern_told_1)
noncomputable def L__law_pattern_told : List T → Sto → R T := runF 1 1 m__law_pattern_told
theorem sc__law_pattern_told : FnScope ["_law_text", "_law_word"] ["_law_text"] (defScope s__law_pattern_told) := ⟨rfl, rfl, rfl, by decide +kernel, rfl, by decide +kernel, by decide +kernel⟩
theorem f__law_pattern_told {P : Program} {w : World} {K : W.Frag} {mg : Str → Option Value} {base : Heap}  {a : Addr} {fd : FuncData} (F : Fun K "_law_pattern_told" "_law_pattern_told" s__law_pattern_told a fd) (b_tuple : mg "tuple" = none)
    (c__law_item_told : CalM P w K mg base 1 "_law_item_told" 1 L__law_item_told) :
    FnOk P w K mg base (L2N.CX P w) (1 + 1) a fd ["_law_text"] (spOf mg K 1 (runF 1 1 m__law_pattern_told)) :=
  fn_M F sc__law_pattern_told rfl rfl fun cdv A outer s H E hr => by
    replace hr : Room (1) (A.deeper (envOfC "_law_pattern_told" (defScope s__law_pattern_told) s.heap.objs.size a cdv)) := hr
    have nd := sc__law_pattern_told.nd
    have hu := hr.units
    exact (s_cons (s_if (bcm (op_eqT hu) (vv 0) e_str) (s_one (s_ret (e_tup a_nil))) s_nil)
      (s_one (s_ret (ect cr_tuple b_tuple (by decide +kernel) (aac (elc (mu := false) (own := [(("_law_word" : Str), 1)]) rfl nd (blkOk_by (N := ["_law_text", "_law_word"]) (sc := defScope s__law_pattern_told) (by decide +kernel)) (i_any (eme PySem.F.plainAttrs_str PySem.F.slot_str_split PySem.F.type_str_split (mr_split (mu := false)) (vv 0) (aac e_str a_nil))) (fun _ _ _ _ _ => (gno 1 nd)) (fun _ _ _ _ _ => t_nil) (fun _ _ _ _ _ => (ecf c__law_item_told (hr.mono (by decide)) passN (aac (vv 1) a_nil)))) a_nil)))))
/-! ### _law_deed_text -/
abbrev s__law_deed_text : Stmt := top 44
noncomputable def p__law_deed_text_0 : MS :=
    ifS (m1 boolOf (m2 eqT (m1 (f1 lenT) (consM (varM 0) (nilM))) (retM (.int 0)))) (retS (strM ("-" : Str))) (nextM)
noncomputable def p__law_deed_text_1 : MS :=
    retS (bmM "str" joinT (strM ("" : Str)) (consM (lcM false [1] (m1 iterT (varM 0)) (.one 1) (yesM) (m2 addT (m2 addT (m2 idxT (varM 1) (retM (.int 0))) (m1 (f1 strF) (consM (m2 idxT (varM 1) (retM (.int 1))) (nilM)))) (m1 (f1 strF) (consM (m2 idxT (varM 1) (retM (.int 2))) (nilM))))) (nilM)))
noncomputable def m__law_deed_text : MS := seqM (p__law_deed_text_0) (p__law_deed_text_1)
noncomputable def L__law_deed_text : List T → Sto → R T := runF 1 1 m__law_deed_text
theorem sc__law_deed_text : FnScope ["_law_deed_here", "_law_step_here"] ["_law_deed_here"] (defScope s__law_deed_text) := ⟨rfl, rfl, rfl, by decide +kernel, rfl, by decide +kernel, by decide +kernel⟩
theorem f__law_deed_text {P : Program} {w : World} {K : W.Frag} {mg : Str → Option Value} {base : Heap}  {a : Addr} {fd : FuncData} (F : Fun K "_law_deed_text" "_law_deed_text" s__law_deed_text a fd) (b_len : mg "len" = none) (b_str : mg "str" = none) :
    FnOk P w K mg base (L2N.CX P w) (0 + 1) a fd ["_law_deed_here"] (spOf mg K 1 (runF 1 1 m__law_deed_text)) :=
  fn_M F sc__law_deed_text rfl rfl fun cdv A outer s H E hr => by
    replace hr : Room (0) (A.deeper (envOfC "_law_deed_text" (defScope s__law_deed_text) s.heap.objs.size a cdv)) := hr
    have nd := sc__law_deed_text.nd
    have hu := hr.units
    exact (s_cons (s_if (bcm (op_eqT hu) (ecb cr_len b_len (by decide +kernel) (aac (vv 0) a_nil)) e_int) (s_one (s_ret e_str)) s_nil)
      (s_one (s_ret (eme PySem.F.plainAttrs_str PySem.F.slot_str_join PySem.F.type_str_join mr_join e_str (aac (elc (mu := false) (own := [(("_law_step_here" : Str), 1)]) rfl nd (blkOk_by (N := ["_law_deed_here", "_law_step_here"]) (sc := defScope s__law_deed_text) (by decide +kernel)) (i_any (vv 0)) (fun _ _ _ _ _ => (gno 1 nd)) (fun _ _ _ _ _ => t_nil) (fun _ _ _ _ _ => (e_bin op_addT (e_bin op_addT (eix (vv 1) e_int) (ect cr_str b_str (by decide +kernel) (aac (eix (vv 1) e_int) a_nil))) (ect cr_str b_str (by decide +kernel) (aac (eix (vv 1) e_int) a_nil))))) a_nil)))))
/-! ### _law_item_text -/
abbrev s__law_item_text : Stmt := top 45
noncomputable def p__law_item_text_0 : MS :=
    ifS (m1 boolOf (m2 isT (varM 0) (retM .non))) (retS (strM ("?" : Str))) (nextM)
noncomputable def p__law_item_text_1 : MS :=
    ifS (m1 boolOf (m2 eqT (varM 0) (strM ("" : Str)))) (retS (strM ("-" : Str))) (nextM)
noncomputable def p__law_item_text_2 : MS :=
    retS (varM 0)
noncomputable def t__law_item_text_1 : MS := seqM (p__law_item_text_1) (p__law_item_text_2)
noncomputable def m__law_item_text : MS := seqM (p__law_item_text_0) (t__law_item_text_1)
noncomputable def L__law_item_text : List T → Sto → R T := runF 1 0 m__law_item_text
theorem sc__law_item_text : FnScope ["_law_item"] ["_law_item"] (defScope s__law_item_text) := ⟨rfl, rfl, rfl, by decide +kernel, rfl, by decide +kernel, by decide +kernel⟩
theorem f__law_item_text {P : Program} {w : World} {K : W.Frag} {mg : Str → Option Value} {base : Heap}  {a : Addr} {fd : FuncData} (F : Fun K "_law_item_text" "_law_item_text" s__law_item_text a fd) :
    FnOk P w K mg base (L2N.CX P w) (0 + 1) a fd ["_law_item"] (spOf mg K 1 (runF 1 0 m__law_item_text)) :=
  fn_M F sc__law_item_text rfl rfl fun cdv A outer s H E hr => by
    replace hr : Room (0) (A.deeper (envOfC "_law_item_text" (defScope s__law_item_text) s.heap.objs.size a cdv)) := hr
    have nd := sc__law_item_text.nd
    have hu := hr.units
    exact (s_cons (s_if (bcm (op_isT) (vv 0) e_non) (s_one (s_ret e_str)) s_nil)
      (s_cons (s_if (bcm (op_eqT hu) (vv 0) e_str) (s_one (s_ret e_str)) s_nil)
      (s_one (s_ret (vv 0)))))
/-! ### _law_pattern_text -/
abbrev s__law_pattern_text : Stmt := top 46
noncomputable def p__law_pattern_text_0 : MS :=
    ifS (m1 boolOf (m2 eqT (m1 (f1 lenT) (consM (varM 0) (nilM))) (retM (.int 0)))) (retS (strM ("." : Str))) (nextM)
noncomputable def p__law_pattern_text_1 : MS :=
    retS (bmM "str" joinT (strM ("," : Str)) (consM (lcM false [1] (m1 iterT (varM 0)) (.one 1) (yesM) (m1 (callF 1 L__law_item_text) (consM (varM 1) (nilM)))) (nilM)))
noncomputable def m__law_pattern_text : MS := seqM (p__law_pattern_text_0) (p__law_pattern_text_1)
noncomputable def L__law_pattern_text : List T → Sto → R T := runF 1 1 m__law_pattern_text
theorem sc__law_pattern_text : FnScope ["_law_pattern", "_law_item"] ["_law_pattern"] (defScope s__law_pattern_text) := ⟨rfl, rfl, rfl, by decide +kernel, rfl, by decide +kernel, by decide +kernel⟩
theorem f__law_pattern_text {P : Program} {w : World} {K : W.Frag} {mg : Str → Option Value} {base : Heap}  {a : Addr} {fd : FuncData} (F : Fun K "_law_pattern_text" "_law_pattern_text" s__law_pattern_text a fd) (b_len : mg "len" = none)
    (c__law_item_text : CalM P w K mg base 1 "_law_item_text" 1 L__law_item_text) :
    FnOk P w K mg base (L2N.CX P w) (1 + 1) a fd ["_law_pattern"] (spOf mg K 1 (runF 1 1 m__law_pattern_text)) :=
  fn_M F sc__law_pattern_text rfl rfl fun cdv A outer s H E hr => by
    replace hr : Room (1) (A.deeper (envOfC "_law_pattern_text" (defScope s__law_pattern_text) s.heap.objs.size a cdv)) := hr
    have nd := sc__law_pattern_text.nd
    have hu := hr.units
    exact (s_cons (s_if (bcm (op_eqT hu) (ecb cr_len b_len (by decide +kernel) (aac (vv 0) a_nil)) e_int) (s_one (s_ret e_str)) s_nil)
      (s_one (s_ret (eme PySem.F.plainAttrs_str PySem.F.slot_str_join PySem.F.type_str_join mr_join e_str (aac (elc (mu := false) (own := [(("_law_item" : Str), 1)]) rfl nd (blkOk_by (N := ["_law_pattern", "_law_item"]) (sc := defScope s__law_pattern_text) (by decide +kernel)) (i_any (vv 0)) (fun _ _ _ _ _ => (gno 1 nd)) (fun _ _ _ _ _ => t_nil) (fun _ _ _ _ _ => (ecf c__law_item_text (hr.mono (by decide)) passN (aac (vv 1) a_nil)))) a_nil)))))
/-! ### _law_some_pattern -/
abbrev s__law_some_pattern : Stmt := top 47
noncomputable def p__law_some_pattern_0 : MS :=
    setM 1 (strM ("abcdefghijklmnopqrstuvwxyz" : Str))
noncomputable def p__law_some_pattern_1 : MS :=
    setM 2 (m1 (callF 2 L__law_pick) (consM (varM 0) (consM (retM (.int 7)) (nilM))))
noncomputable def p__law_some_pattern_2 : MS :=
    ifS (m1 boolOf (m2 eqT (varM 2) (retM (.int 0)))) (retS (m1 tupT (nilM))) (nextM)
noncomputable def p__law_some_pattern_3 : MS :=
    setM 3 (m2 idxT (m1 (lstT false) (consM (retM (.int 26)) (consM (retM (.int 3)) (nilM)))) (m1 (callF 2 L__law_pick) (consM (varM 0) (consM (retM (.int 2)) (nilM)))))
noncomputable def p__law_some_pattern_4 : MS :=
    setM 4 (lcM true [7] (m1 rng1T (consM (varM 2) (nilM))) (.one 7) (yesM) (strM ("" : Str)))
noncomputable def p__law_some_pattern_5 : MS :=
    forM (m1 rng1T (consM (m1 (callF 2 L__law_pick) (consM (varM 0) (consM (retM (.int 9)) (nilM)))) (nilM))) (.one 5) (seqM (setM 6 (m1 (callF 2 L__law_pick) (consM (varM 0) (consM (varM 2) (nilM))))) <|
    subS (bmM "str" joinT (strM ("" : Str)) (consM (m1 (f1 (sortedT false)) (consM (m2 addT (m2 idxT (varM 4) (varM 6)) (m2 idxT (varM 1) (m1 (callF 2 L__law_pick) (consM (varM 0) (consM (varM 3) (nilM)))))) (nilM))) (nilM))) (varM 4) (varM 6))
noncomputable def p__law_some_pattern_6 : MS :=
    retS (m1 (f1 tupleT) (consM (lcM false [8] (m1 iterT (varM 4)) (.one 8) (yesM) (m2 idxT (m1 (lstT false) (consM (varM 8) (consM (retM .non) (nilM)))) (m1 (f1 intF) (consM (andV (m2 eqT (varM 8) (strM ("" : Str))) (m2 eqT (m1 (callF 2 L__law_pick) (consM (varM 0) (consM (retM (.int 2)) (nilM)))) (retM (.int 0)))) (nilM))))) (nilM)))
noncomputable def t__law_some_pattern_5 : MS := seqM (p__law_some_pattern_5) (p__law_some_pattern_6)
noncomputable def t__law_some_pattern_4 : MS := seqM (p__law_some_pattern_4) (t__law_some_pattern_5)
noncomputable def t__law_some_pattern_3 : MS := seqM (p__law_some_pattern_3) (t__law_some_pattern_4)
noncomputable def t__law_some_pattern_2 : MS := seqM (p__law_some_pattern_2) (t__law_some_pattern_3)
noncomputable def t__law_some_pattern_1 : MS := seqM (p__law_some_pattern_1) (t__law_some_pattern_2)
noncomputable def m__law_some_pattern : MS := seqM (p__law_some_pattern_0) (t__law_some_pattern_1)
noncomputable def L__law_some_pattern : List T → Sto → R T := runF 1 8 m__law_some_pattern
theorem sc__law_some_pattern : FnScope ["_law_draw_here", "_law_letters", "_law_many", "_law_wide", "_law_rows", "_law_turn", "_law_at", "_law_k", "_law_row"] ["_law_draw_here"] (defScope s__law_some_pattern) := ⟨rfl, rfl, rfl, by decide +kernel, rfl, by decide +kernel, by decide +kernel⟩
theorem f__law_some_pattern {P : Program} {w : World} {K : W.Frag} {mg : Str → Option Value} {base : Heap}  {a : Addr} {fd : FuncData} (F : Fun K "_law_some_pattern" "_law_some_pattern" s__law_some_pattern a fd) (b_int : mg "int" = none) (b_range : mg "range" = none) (b_sorted : mg "sorted" = none) (b_tuple : mg "tuple" = none)
    (c__law_pick : CalM P w K mg base 2 "_law_pick" 2 L__law_pick) :
    FnOk P w K mg base (L2N.CX P w) (2 + 1) a fd ["_law_draw_here"] (spOf mg K 1 (runF 1 8 m__law_some_pattern)) :=
  fn_M F sc__law_some_pattern rfl rfl fun cdv A outer s H E hr => by
    replace hr : Room (2) (A.deeper (envOfC "_law_some_pattern" (defScope s__law_some_pattern) s.heap.objs.size a cdv)) := hr
    have nd := sc__law_some_pattern.nd
    have hu := hr.units
    have tk : L2N.Takes (cxOf (L2N.CX P w) P w K mg base ["_law_draw_here", "_law_letters", "_law_many", "_law_wide", "_law_rows", "_law_turn", "_law_at", "_law_k", "_law_row"] "_law_some_pattern" (defScope s__law_some_pattern) a cdv A outer s H E) (fun cls d _ H => E cls d H) := L2N.takes_of rfl rfl rfl rfl
    have px : Passes (L2N.CX P w) (cxOf (L2N.CX P w) P w K mg base ["_law_draw_here", "_law_letters", "_law_many", "_law_wide", "_law_rows", "_law_turn", "_law_at", "_law_k", "_law_row"] "_law_some_pattern" (defScope s__law_some_pattern) a cdv A outer s H E) E := L2N.passes_call tk fun _ _ _ _ h => h
    have po : PassesOwn (model P w) (cxOf (L2N.CX P w) P w K mg base ["_law_draw_here", "_law_letters", "_law_many", "_law_wide", "_law_rows", "_law_turn", "_law_at", "_law_k", "_law_row"] "_law_some_pattern" (defScope s__law_some_pattern) a cdv A outer s H E).A (cxOf (L2N.CX P w) P w K mg base ["_law_draw_here", "_law_letters", "_law_many", "_law_wide", "_law_rows", "_law_turn", "_law_at", "_law_k", "_law_row"] "_law_some_pattern" (defScope s__law_some_pattern) a cdv A outer s H E).env (cxOf (L2N.CX P w) P w K mg base ["_law_draw_here", "_law_letters", "_law_many", "_law_wide", "_law_rows", "_law_turn", "_law_at", "_law_k", "_law_row"] "_law_some_pattern" (defScope s__law_some_pattern) a cdv A outer s H E).xe := passes_of rfl
    exact (s_cons (sst 1 nd e_str)
      (s_cons (sst 2 nd (ecf c__law_pick (hr.mono (by decide)) px (aac (vv 0) (aac e_int a_nil))))
      (s_cons (s_if (bcm (op_eqT hu) (vv 2) e_int) (s_one (s_ret (e_tup a_nil))) s_nil)
      (s_cons (sst 3 nd (eix (e_lst (mu := false) (aac e_int (aac e_int a_nil))) (ecf c__law_pick (hr.mono (by decide)) px (aac (vv 0) (aac e_int a_nil)))))
      (s_cons (sstl (mu := true) 4 (own := [(("_law_k" : Str), 7)]) rfl nd (blkOk_by (N := ["_law_draw_here", "_law_letters", "_law_many", "_law_wide", "_law_rows", "_law_turn", "_law_at", "_law_k", "_law_row"]) (sc := defScope s__law_some_pattern) (by decide +kernel)) (ir1 b_range (aac (vv 2) a_nil)) (fun _ _ _ _ _ => (gno 7 nd)) (fun _ _ _ _ _ => t_nil) (fun _ _ _ _ _ => e_str))
      (s_cons (ssf po rfl (ir1 b_range (aac (ecf c__law_pick (hr.mono (by decide)) px (aac (vv 0) (aac e_int a_nil))) a_nil)) (gno 5 nd) (s_cons (sst 6 nd (ecf c__law_pick (hr.mono (by decide)) px (aac (vv 0) (aac (vv 2) a_nil))))
      (s_one (ssub (eme PySem.F.plainAttrs_str PySem.F.slot_str_join PySem.F.type_str_join mr_join e_str (aac (ecb (cr_sortedT (mu := false) rfl) b_sorted (by decide +kernel) (aac (e_bin op_addT (eix (vv 4) (vv 6)) (eix (vv 1) (ecf c__law_pick (hr.mono (by decide)) px (aac (vv 0) (aac (vv 3) a_nil))))) a_nil)) a_nil)) (vv 4) (vv 6)))))
      (s_one (s_ret (ect cr_tuple b_tuple (by decide +kernel) (aac (elc (mu := false) (own := [(("_law_row" : Str), 8)]) rfl nd (blkOk_by (N := ["_law_draw_here", "_law_letters", "_law_many", "_law_wide", "_law_rows", "_law_turn", "_law_at", "_law_k", "_law_row"]) (sc := defScope s__law_some_pattern) (by decide +kernel)) (i_any (vv 4)) (fun _ _ _ _ _ => (gno 8 nd)) (fun _ _ _ _ _ => t_nil) (fun _ _ _ _ _ => (eix (e_lst (mu := false) (aac (vv 8) (aac e_non a_nil))) (ect cr_int b_int (by decide +kernel) (aac (e_and (ecm (op_eqT hu) (vv 8) e_str) (e_one (ecm (op_eqT hu) (ecf c__law_pick (hr.mono (by decide)) passN (aac (vv 0) (aac e_int a_nil))) e_int))) a_nil))))) a_nil))))))))))
/-! ### _law_sign -/
abbrev s__law_sign : Stmt := top 48
noncomputable def p__law_sign_0 : MS :=
    setM 1 (strM (" !\"#$&'()*+,-./0123456789:;<=>?@ABCDEFGHIJKLMNOPQRSTUVWXYZ[\\]^_`" : Str))
noncomputable def p__law_sign_1 : MS :=
    setM 1 (m2 addT (varM 1) (strM ("abcdefghijklmnopqrstuvwxyz{|}~" : Str)))
noncomputable def p__law_sign_2 : MS :=
    setM 2 (m2 idxT (m1 (lstT false) (consM (strM ("012345" : Str)) (consM (strM ("abyz*~" : Str)) (consM (strM (",-?." : Str)) (consM (strM ("0a," : Str)) (consM (varM 1) (nilM))))))) (m1 (callF 2 L__law_pick) (consM (varM 0) (consM (retM (.int 5)) (nilM)))))
noncomputable def p__law_sign_3 : MS :=
    retS (m2 idxT (varM 2) (m1 (callF 2 L__law_pick) (consM (varM 0) (consM (m1 (f1 lenT) (consM (varM 2) (nilM))) (nilM)))))
noncomputable def t__law_sign_2 : MS := seqM (p__law_sign_2) (p__law_sign_3)
noncomputable def t__law_sign_1 : MS := seqM (p__law_sign_1) (t__law_sign_2)
noncomputable def m__law_sign : MS := seqM (p__law_sign_0) (t__law_sign_1)
noncomputable def L__law_sign : List T → Sto → R T := runF 1 2 m__law_sign
theorem sc__law_sign : FnScope ["_law_draw_here", "_law_signs", "_law_pool"] ["_law_draw_here"] (defScope s__law_sign) := ⟨rfl, rfl, rfl, by decide +kernel, rfl, by decide +kernel, by decide +kernel⟩
theorem f__law_sign {P : Program} {w : World} {K : W.Frag} {mg : Str → Option Value} {base : Heap}  {a : Addr} {fd : FuncData} (F : Fun K "_law_sign" "_law_sign" s__law_sign a fd) (b_len : mg "len" = none)
    (c__law_pick : CalM P w K mg base 2 "_law_pick" 2 L__law_pick) :
    FnOk P w K mg base (L2N.CX P w) (2 + 1) a fd ["_law_draw_here"] (spOf mg K 1 (runF 1 2 m__law_sign)) :=
  fn_M F sc__law_sign rfl rfl fun cdv A outer s H E hr => by
    replace hr : Room (2) (A.deeper (envOfC "_law_sign" (defScope s__law_sign) s.heap.objs.size a cdv)) := hr
    have nd := sc__law_sign.nd
    have tk : L2N.Takes (cxOf (L2N.CX P w) P w K mg base ["_law_draw_here", "_law_signs", "_law_pool"] "_law_sign" (defScope s__law_sign) a cdv A outer s H E) (fun cls d _ H => E cls d H) := L2N.takes_of rfl rfl rfl rfl
    have px : Passes (L2N.CX P w) (cxOf (L2N.CX P w) P w K mg base ["_law_draw_here", "_law_signs", "_law_pool"] "_law_sign" (defScope s__law_sign) a cdv A outer s H E) E := L2N.passes_call tk fun _ _ _ _ h => h
    exact (s_cons (sst 1 nd e_str)
      (s_cons (sst 1 nd (e_bin op_addT (vv 1) e_str))
      (s_cons (sst 2 nd (eix (e_lst (mu := false) (aac e_str (aac e_str (aac e_str (aac e_str (aac (vv 1) a_nil)))))) (ecf c__law_pick (hr.mono (by decide)) px (aac (vv 0) (aac e_int a_nil)))))
      (s_one (s_ret (eix (vv 2) (ecf c__law_pick (hr.mono (by decide)) px (aac (vv 0) (aac (ecb cr_len b_len (by decide +kernel) (aac (vv 2) a_nil)) a_nil)))))))))
/-! ### _law_spoilt -/
abbrev s__law_spoilt : Stmt := top 49
noncomputable def p__law_spoilt_0 : MS :=
    setM 2 (m1 (callF 2 L__law_pick) (consM (varM 0) (consM (m2 addT (m1 (f1 lenT) (consM (varM 1) (nilM))) (retM (.int 1))) (nilM))))
noncomputable def p__law_spoilt_1 : MS :=
    setM 3 (m1 (callF 1 L__law_sign) (consM (varM 0) (nilM)))
noncomputable def p__law_spoilt_2 : MS :=
    setM 4 (m1 (callF 2 L__law_pick) (consM (varM 0) (consM (retM (.int 8)) (nilM))))
noncomputable def p__law_spoilt_3 : MS :=
    ifS (m1 boolOf (m2 eqT (varM 4) (retM (.int 0)))) (retS (slM false (varM 1) (partM none) (partM (some (varM 2))))) (nextM)
noncomputable def p__law_spoilt_4 : MS :=
    ifS (m1 boolOf (m2 eqT (varM 4) (retM (.int 1)))) (retS (m2 addT (slM false (varM 1) (partM none) (partM (some (varM 2)))) (slM false (varM 1) (partM (some (m2 addT (varM 2) (retM (.int 1))))) (partM none)))) (nextM)
noncomputable def p__law_spoilt_5 : MS :=
    ifS (m1 boolOf (m2 eqT (varM 4) (retM (.int 2)))) (retS (m2 addT (m2 addT (slM false (varM 1) (partM none) (partM (some (varM 2)))) (varM 3)) (slM false (varM 1) (partM (some (m2 addT (varM 2) (retM (.int 1))))) (partM none)))) (nextM)
noncomputable def p__law_spoilt_6 : MS :=
    ifS (m1 boolOf (m2 eqT (varM 4) (retM (.int 3)))) (retS (m2 addT (m2 addT (slM false (varM 1) (partM none) (partM (some (varM 2)))) (varM 3)) (slM false (varM 1) (partM (some (varM 2))) (partM none)))) (nextM)
noncomputable def p__law_spoilt_7 : MS :=
    ifS (m1 boolOf (m2 eqT (varM 4) (retM (.int 4)))) (retS (m2 addT (m2 addT (slM false (varM 1) (partM none) (partM (some (varM 2)))) (slM false (varM 1) (partM (some (varM 2))) (partM (some (m2 addT (varM 2) (retM (.int 3))))))) (slM false (varM 1) (partM (some (varM 2))) (partM none)))) (nextM)
noncomputable def p__law_spoilt_8 : MS :=
    ifS (m1 boolOf (m2 eqT (varM 4) (retM (.int 5)))) (retS (m2 addT (varM 1) (varM 3))) (nextM)
noncomputable def p__law_spoilt_9 : MS :=
    ifS (m1 boolOf (m2 eqT (varM 4) (retM (.int 6)))) (retS (m2 addT (m2 addT (slM false (varM 1) (partM none) (partM (some (varM 2)))) (m2 mulT (slM false (varM 1) (partM (some (varM 2))) (partM (some (m2 addT (varM 2) (retM (.int 1)))))) (retM (.int 2)))) (slM false (varM 1) (partM (some (m2 addT (varM 2) (retM (.int 2))))) (partM none)))) (nextM)
noncomputable def p__law_spoilt_10 : MS :=
    retS (m2 addT (m2 addT (m2 addT (slM false (varM 1) (partM none) (partM (some (varM 2)))) (slM false (varM 1) (partM (some (m2 addT (varM 2) (retM (.int 1))))) (partM (some (m2 addT (varM 2) (retM (.int 2))))))) (slM false (varM 1) (partM (some (varM 2))) (partM (some (m2 addT (varM 2) (retM (.int 1))))))) (slM false (varM 1) (partM (some (m2 addT (varM 2) (retM (.int 2))))) (partM none)))
noncomputable def t__law_spoilt_9 : MS := seqM (p__law_spoilt_9) (p__law_spoilt_10)
noncomputable def t__law_spoilt_8 : MS := seqM (p__law_spoilt_8) (t__law_spoilt_9)
noncomputable def t__law_spoilt_7 : MS := seqM (p__law_spoilt_7) (t__law_spoilt_8)
noncomputable def t__law_spoilt_6 : MS := seqM (p__law_spoilt_6) (t__law_spoilt_7)
noncomputable def t__law_spoilt_5 : MS := seqM (p__law_spoilt_5) (t__law_spoilt_6)
noncomputable def t__law_spoilt_4 : MS := seqM (p__law_spoilt_4) (t__law_spoilt_5)
noncomputable def t__law_spoilt_3 : MS := seqM (p__law_spoilt_3) (t__law_spoilt_4)
noncomputable def t__law_spoilt_2 : MS := seqM (p__law_spoilt_2) (t__law_spoilt_3)
noncomputable def t__law_spoilt_1 : MS := seqM (p__law_spoilt_1) (t__law_spoilt_2)
noncomputable def m__law_spoilt : MS := seqM (p__law_spoilt_0) (t__law_spoilt_1)
noncomputable def L__law_spoilt : List T → Sto → R T := runF 2 3 m__law_spoilt
theorem sc__law_spoilt : FnScope ["_law_draw_here", "_law_text", "_law_at", "_law_sign_here", "_law_way"] ["_law_draw_here", "_law_text"] (defScope s__law_spoilt) := ⟨rfl, rfl, rfl, by decide +kernel, rfl, by decide +kernel, by decide +kernel⟩
theorem f__law_spoilt {P : Program} {w : World} {K : W.Frag} {mg : Str → Option Value} {base : Heap}  {a : Addr} {fd : FuncData} (F : Fun K "_law_spoilt" "_law_spoilt" s__law_spoilt a fd) (b_len : mg "len" = none)
    (c__law_pick : CalM P w K mg base 2 "_law_pick" 2 L__law_pick)
    (c__law_sign : CalM P w K mg base 3 "_law_sign" 1 L__law_sign) :
    FnOk P w K mg base (L2N.CX P w) (3 + 1) a fd ["_law_draw_here", "_law_text"] (spOf mg K 2 (runF 2 3 m__law_spoilt)) :=
  fn_M F sc__law_spoilt rfl rfl fun cdv A outer s H E hr => by
    replace hr : Room (3) (A.deeper (envOfC "_law_spoilt" (defScope s__law_spoilt) s.heap.objs.size a cdv)) := hr
    have nd := sc__law_spoilt.nd
    have hu := hr.units
    have tk : L2N.Takes (cxOf (L2N.CX P w) P w K mg base ["_law_draw_here", "_law_text", "_law_at", "_law_sign_here", "_law_way"] "_law_spoilt" (defScope s__law_spoilt) a cdv A outer s H E) (fun cls d _ H => E cls d H) := L2N.takes_of rfl rfl rfl rfl
    have px : Passes (L2N.CX P w) (cxOf (L2N.CX P w) P w K mg base ["_law_draw_here", "_law_text", "_law_at", "_law_sign_here", "_law_way"] "_law_spoilt" (defScope s__law_spoilt) a cdv A outer s H E) E := L2N.passes_call tk fun _ _ _ _ h => h
    exact (s_cons (sst 2 nd (ecf c__law_pick (hr.mono (by decide)) px (aac (vv 0) (aac (e_bin op_addT (ecb cr_len b_len (by decide +kernel) (aac (vv 1) a_nil)) e_int) a_nil))))
      (s_cons (sst 3 nd (ecf c__law_sign (hr.mono (by decide)) px (aac (vv 0) a_nil)))
      (s_cons (sst 4 nd (ecf c__law_pick (hr.mono (by decide)) px (aac (vv 0) (aac e_int a_nil))))
      (s_cons (s_if (bcm (op_eqT hu) (vv 4) e_int) (s_one (s_ret (e_sl (mu := false) (vv 1) o_none (o_some (vv 2))))) s_nil)
      (s_cons (s_if (bcm (op_eqT hu) (vv 4) e_int) (s_one (s_ret (e_bin op_addT (e_sl (mu := false) (vv 1) o_none (o_some (vv 2))) (e_sl (mu := false) (vv 1) (o_some (e_bin op_addT (vv 2) e_int)) o_none)))) s_nil)
      (s_cons (s_if (bcm (op_eqT hu) (vv 4) e_int) (s_one (s_ret (e_bin op_addT (e_bin op_addT (e_sl (mu := false) (vv 1) o_none (o_some (vv 2))) (vv 3)) (e_sl (mu := false) (vv 1) (o_some (e_bin op_addT (vv 2) e_int)) o_none)))) s_nil)
      (s_cons (s_if (bcm (op_eqT hu) (vv 4) e_int) (s_one (s_ret (e_bin op_addT (e_bin op_addT (e_sl (mu := false) (vv 1) o_none (o_some (vv 2))) (vv 3)) (e_sl (mu := false) (vv 1) (o_some (vv 2)) o_none)))) s_nil)
      (s_cons (s_if (bcm (op_eqT hu) (vv 4) e_int) (s_one (s_ret (e_bin op_addT (e_bin op_addT (e_sl (mu := false) (vv 1) o_none (o_some (vv 2))) (e_sl (mu := false) (vv 1) (o_some (vv 2)) (o_some (e_bin op_addT (vv 2) e_int)))) (e_sl (mu := false) (vv 1) (o_some (vv 2)) o_none)))) s_nil)
      (s_cons (s_if (bcm (op_eqT hu) (vv 4) e_int) (s_one (s_ret (e_bin op_addT (vv 1) (vv 3)))) s_nil)
      (s_cons (s_if (bcm (op_eqT hu) (vv 4) e_int) (s_one (s_ret (e_bin op_addT (e_bin op_addT (e_sl (mu := false) (vv 1) o_none (o_some (vv 2))) (e_bin op_mulT (e_sl (mu := false) (vv 1) (o_some (vv 2)) (o_some (e_bin op_addT (vv 2) e_int))) e_int)) (e_sl (mu := false) (vv 1) (o_some (e_bin op_addT (vv 2) e_int)) o_none)))) s_nil)
      (s_one (s_ret (e_bin op_addT (e_bin op_addT (e_bin op_addT (e_sl (mu := false) (vv 1) o_none (o_some (vv 2))) (e_sl (mu := false) (vv 1) (o_some (e_bin op_addT (vv 2) e_int)) (o_some (e_bin op_addT (vv 2) e_int)))) (e_sl (mu := false) (vv 1) (o_some (vv 2)) (o_some (e_bin op_addT (vv 2) e_int)))) (e_sl (mu := false) (vv 1) (o_some (e_bin op_addT (vv 2) e_int)) o_none))))))))))))))
/-! ### _law_refusal -/
abbrev s__law_refusal : Stmt := top 50
noncomputable def m__law_refusal (a dd : Addr) (c : Str) : MS :=
    seqM (ifS (orM (m1 notT (m1 truthT (isxM subs a dd c 0 ("BadText" : Str)))) (m1 notT (m1 truthT (isxM subs a dd c 0 ("ValueError" : Str))))) (retS (retM .non)) (nextM)) <|
    seqM (ifS (orM (m1 truthT (isxM subs a dd c 0 ("BadLine" : Str))) (orM (m1 truthT (isxM subs a dd c 0 ("BadDeed" : Str))) (m1 truthT (isxM subs a dd c 0 ("BadPattern" : Str))))) (retS (retM .non)) (nextM)) <|
    retS (xfM flds a dd c 0 ("at" : Str))
noncomputable def L__law_refusal (a dd : Addr) (c : Str) : List T → Sto → R T := runF 1 0 (m__law_refusal a dd c)
theorem sc__law_refusal : FnScope ["_law_e"] ["_law_e"] (defScope s__law_refusal) := ⟨rfl, rfl, rfl, by decide +kernel, rfl, by decide +kernel, by decide +kernel⟩
theorem fx__law_refusal {P : Program} {w : World} {K : W.Frag} {mg : Str → Option Value} {base : Heap} {f : Addr} {fd : FuncData} (F : Fun K "_law_refusal" "_law_refusal" s__law_refusal f fd) (b_isinstance : mg "isinstance" = none) (EK : ExnK K mg subs flds) :
    FnX P w K mg base (0 + 1) f fd ["_law_e"] (fun c a d => spOf mg K 1 (calmF (runF 1 0 (m__law_refusal a d c)))) :=
  fnX_M (su := m__law_refusal) F sc__law_refusal rfl rfl fun cdv A outer s H E a oe cls dd c hz hd hm _ => by
    have nd := sc__law_refusal.nd
    exact (s_cons (s_if (w_or (b_not (ebt (e_isx EK hz hd hm b_isinstance))) (w_or1 (b_not (ebt (e_isx EK hz hd hm b_isinstance))))).pt (s_one (s_ret e_non)) s_nil)
      (s_cons (s_if (w_or (ebt (e_isx EK hz hd hm b_isinstance)) (w_or (ebt (e_isx EK hz hd hm b_isinstance)) (w_or1 (ebt (e_isx EK hz hd hm b_isinstance))))).pt (s_one (s_ret e_non)) s_nil)
      (s_one (s_ret (e_xf EK hz hd hm)))))
/-! ### _law_deed_read -/
abbrev s__law_deed_read : Stmt := top 51
noncomputable def p__law_deed_read_0 : MS :=
    tryM catches_ShowError 2 (fun t ρ => ρ.set 3 (some t)) (m1 (callF 1 L_read_deed) (fun ρ S => calm ((consM (varM 0) (nilM)) ρ S))) (fun a dd c => retS (andV (m2 gtT (varM 1) (m1 negT (retM (.int 2)))) (m1 (callF 2 (calmF (H__law_exact 3))) (consM (m1 (callF 1 (calmF (L__law_refusal a dd c))) (consM (varM 2) (nilM))) (consM (varM 1) (nilM))))))
noncomputable def p__law_deed_read_1 : MS :=
    retS (andV (m2 eqT (varM 1) (m1 negT (retM (.int 2)))) (m1 (callF 2 (L__law_exact 3)) (consM (varM 3) (consM (m1 (callF 1 L__law_deed_told) (consM (varM 0) (nilM))) (nilM)))))
noncomputable def m__law_deed_read : MS := seqM (p__law_deed_read_0) (p__law_deed_read_1)
noncomputable def L__law_deed_read : List T → Sto → R T := runF 2 2 m__law_deed_read
theorem sc__law_deed_read : FnScope ["_law_text", "_law_fault", "_law_e", "_law_told"] ["_law_text", "_law_fault"] (defScope s__law_deed_read) := ⟨rfl, rfl, rfl, by decide +kernel, rfl, by decide +kernel, by decide +kernel⟩
theorem f__law_deed_read {P : Program} {w : World} {K : W.Frag} {mg : Str → Option Value} {base : Heap}  {a : Addr} {fd : FuncData} (F : Fun K "_law_deed_read" "_law_deed_read" s__law_deed_read a fd) (EK : ExnK K mg subs flds) {cx_ShowError : Value} (n_ShowError : mg "ShowError" = some cx_ShowError ∨ (mg "ShowError" = none ∧ bootBuiltins "ShowError" = some cx_ShowError ∧ ("ShowError" : Str) ≠ "__name__")) (k_ShowError : ∀ c b C, catches_ShowError c = some b → mg c = some (.ref C) → W.exmOne K (.ref C) cx_ShowError = some b)
    (c_read_deed : CalM P w K mg base 4 "read_deed" 1 L_read_deed)
    (c__law_deed_told : CalM P w K mg base 1 "_law_deed_told" 1 L__law_deed_told)
    (c__law_exact : CalM P w K mg base 4 "_law_exact" 2 (L__law_exact 3))
    (h__law_exact : CalH P w K mg base 4 "_law_exact" 2 (H__law_exact 3))
    (x__law_refusal : CalX P w K mg base 1 "_law_refusal" 1 L__law_refusal) :
    FnOk P w K mg base (L2N.CX P w) (4 + 1) a fd ["_law_text", "_law_fault"] (spOf mg K 2 (runF 2 2 m__law_deed_read)) :=
  fn_M F sc__law_deed_read rfl rfl fun cdv A outer s H E hr => by
    replace hr : Room (4) (A.deeper (envOfC "_law_deed_read" (defScope s__law_deed_read) s.heap.objs.size a cdv)) := hr
    have nd := sc__law_deed_read.nd
    have hu := hr.units
    have tk : L2N.Takes (cxOf (L2N.CX P w) P w K mg base ["_law_text", "_law_fault", "_law_e", "_law_told"] "_law_deed_read" (defScope s__law_deed_read) a cdv A outer s H E) (fun cls d _ H => E cls d H) := L2N.takes_of rfl rfl rfl rfl
    have px : Passes (L2N.CX P w) (cxOf (L2N.CX P w) P w K mg base ["_law_text", "_law_fault", "_law_e", "_law_told"] "_law_deed_read" (defScope s__law_deed_read) a cdv A outer s H E) E := L2N.passes_call tk fun _ _ _ _ h => h
    exact (s_cons (s_tryA (k := 4) (cx := cx_ShowError) (catches := catches_ShowError) (i := 2) c_read_deed (hr.mono (by decide)) rfl rfl nd rfl rfl ⟨by rfl, by decide, n_ShowError⟩ tk k_ShowError (fun pn xe => (aac (vv 0) a_nil)) rfl (by decide) (by rfl) (by rfl) (j := 3) rfl (by first | exact .inl rfl | exact .inr rfl) rfl (by first | exact .inl rfl | exact .inr rfl) (fun a oe cls dd c pn hz hd hm => by
      have hc := hotS (X := cxOf (L2N.CX P w) P w K mg base ["_law_text", "_law_fault", "_law_e", "_law_told"] "_law_deed_read" (defScope s__law_deed_read) a cdv A outer s H E) (a := a) (pn := pn) hz hd
      exact (s_one (s_ret (e_and (ecm (op_gtT) (vv 1) (e_un un_negT e_int)) (e_one (ecfH h__law_exact (roomH_mark (hr.mono (by decide)) _) hc (aac (ecfX x__law_refusal (roomH_mark (hr.mono (by decide)) _) hz hd hm (aac (vv 2) a_nil)) (aac (vv 1) a_nil)))))))))
      (s_one (s_ret (e_and (ecm (op_eqT hu) (vv 1) (e_un un_negT e_int)) (e_one (ecf c__law_exact (hr.mono (by decide)) px (aac (vv 3) (aac (ecf c__law_deed_told (hr.mono (by decide)) px (aac (vv 0) a_nil)) a_nil))))))))
/-! ### _law_pattern_read -/
abbrev s__law_pattern_read : Stmt := top 52
noncomputable def p__law_pattern_read_0 : MS :=
    tryM catches_ShowError 2 (fun t ρ => ρ.set 3 (some t)) (m1 (callF 1 L_read_pattern) (fun ρ S => calm ((consM (varM 0) (nilM)) ρ S))) (fun a dd c => retS (andV (m2 gtT (varM 1) (m1 negT (retM (.int 2)))) (m1 (callF 2 (calmF (H__law_exact 3))) (consM (m1 (callF 1 (calmF (L__law_refusal a dd c))) (consM (varM 2) (nilM))) (consM (varM 1) (nilM))))))
noncomputable def p__law_pattern_read_1 : MS :=
    retS (andV (m2 eqT (varM 1) (m1 negT (retM (.int 2)))) (m1 (callF 2 (L__law_exact 3)) (consM (varM 3) (consM (m1 (callF 1 L__law_pattern_told) (consM (varM 0) (nilM))) (nilM)))))
noncomputable def m__law_pattern_read : MS := seqM (p__law_pattern_read_0) (p__law_pattern_read_1)
noncomputable def L__law_pattern_read : List T → Sto → R T := runF 2 2 m__law_pattern_read
theorem sc__law_pattern_read : FnScope ["_law_text", "_law_fault", "_law_e", "_law_told"] ["_law_text", "_law_fault"] (defScope s__law_pattern_read) := ⟨rfl, rfl, rfl, by decide +kernel, rfl, by decide +kernel, by decide +kernel⟩
theorem f__law_pattern_read {P : Program} {w : World} {K : W.Frag} {mg : Str → Option Value} {base : Heap}  {a : Addr} {fd : FuncData} (F : Fun K "_law_pattern_read" "_law_pattern_read" s__law_pattern_read a fd) (EK : ExnK K mg subs flds) {cx_ShowError : Value} (n_ShowError : mg "ShowError" = some cx_ShowError ∨ (mg "ShowError" = none ∧ bootBuiltins "ShowError" = some cx_ShowError ∧ ("ShowError" : Str) ≠ "__name__")) (k_ShowError : ∀ c b C, catches_ShowError c = some b → mg c = some (.ref C) → W.exmOne K (.ref C) cx_ShowError = some b)
    (c_read_pattern : CalM P w K mg base 4 "read_pattern" 1 L_read_pattern)
    (c__law_pattern_told : CalM P w K mg base 2 "_law_pattern_told" 1 L__law_pattern_told)
    (c__law_exact : CalM P w K mg base 4 "_law_exact" 2 (L__law_exact 3))
    (h__law_exact : CalH P w K mg base 4 "_law_exact" 2 (H__law_exact 3))
    (x__law_refusal : CalX P w K mg base 1 "_law_refusal" 1 L__law_refusal) :
    FnOk P w K mg base (L2N.CX P w) (4 + 1) a fd ["_law_text", "_law_fault"] (spOf mg K 2 (runF 2 2 m__law_pattern_read)) :=
  fn_M F sc__law_pattern_read rfl rfl fun cdv A outer s H E hr => by
    replace hr : Room (4) (A.deeper (envOfC "_law_pattern_read" (defScope s__law_pattern_read) s.heap.objs.size a cdv)) := hr
    have nd := sc__law_pattern_read.nd
    have hu := hr.units
    have tk : L2N.Takes (cxOf (L2N.CX P w) P w K mg base ["_law_text", "_law_fault", "_law_e", "_law_told"] "_law_pattern_read" (defScope s__law_pattern_read) a cdv A outer s H E) (fun cls d _ H => E cls d H) := L2N.takes_of rfl rfl rfl rfl
    have px : Passes (L2N.CX P w) (cxOf (L2N.CX P w) P w K mg base ["_law_text", "_law_fault", "_law_e", "_law_told"] "_law_pattern_read" (defScope s__law_pattern_read) a cdv A outer s H E) E := L2N.passes_call tk fun _ _ _ _ h => h
    exact (s_cons (s_tryA (k := 4) (cx := cx_ShowError) (catches := catches_ShowError) (i := 2) c_read_pattern (hr.mono (by decide)) rfl rfl nd rfl rfl ⟨by rfl, by decide, n_ShowError⟩ tk k_ShowError (fun pn xe => (aac (vv 0) a_nil)) rfl (by decide) (by rfl) (by rfl) (j := 3) rfl (by first | exact .inl rfl | exact .inr rfl) rfl (by first | exact .inl rfl | exact .inr rfl) (fun a oe cls dd c pn hz hd hm => by
      have hc := hotS (X := cxOf (L2N.CX P w) P w K mg base ["_law_text", "_law_fault", "_law_e", "_law_told"] "_law_pattern_read" (defScope s__law_pattern_read) a cdv A outer s H E) (a := a) (pn := pn) hz hd
      exact (s_one (s_ret (e_and (ecm (op_gtT) (vv 1) (e_un un_negT e_int)) (e_one (ecfH h__law_exact (roomH_mark (hr.mono (by decide)) _) hc (aac (ecfX x__law_refusal (roomH_mark (hr.mono (by decide)) _) hz hd hm (aac (vv 2) a_nil)) (aac (vv 1) a_nil)))))))))
      (s_one (s_ret (e_and (ecm (op_eqT hu) (vv 1) (e_un un_negT e_int)) (e_one (ecf c__law_exact (hr.mono (by decide)) px (aac (vv 3) (aac (ecf c__law_pattern_told (hr.mono (by decide)) px (aac (vv 0) a_nil)) a_nil))))))))
/-! ### _law_both_read -/
abbrev s__law_both_read : Stmt := top 53
noncomputable def p__law_both_read_0 : MS :=
    setM 1 (m1 (callF 1 L__law_deed_fault) (consM (varM 0) (nilM)))
noncomputable def p__law_both_read_1 : MS :=
    setM 2 (m1 (callF 1 L__law_pattern_fault) (consM (varM 0) (nilM)))
noncomputable def p__law_both_read_2 : MS :=
    ifS (m1 boolOf (m2 eqT (varM 1) (m1 negT (retM (.int 1))))) (setM 1 (m1 negT (retM (.int 2)))) (nextM)
noncomputable def p__law_both_read_3 : MS :=
    ifS (m1 boolOf (m2 eqT (varM 2) (m1 negT (retM (.int 1))))) (setM 2 (m1 negT (retM (.int 2)))) (nextM)
noncomputable def p__law_both_read_4 : MS :=
    retS (andV (m1 (callF 2 L__law_deed_read) (consM (varM 0) (consM (varM 1) (nilM)))) (m1 (callF 2 L__law_pattern_read) (consM (varM 0) (consM (varM 2) (nilM)))))
noncomputable def t__law_both_read_3 : MS := seqM (p__law_both_read_3) (p__law_both_read_4)
noncomputable def t__law_both_read_2 : MS := seqM (p__law_both_read_2) (t__law_both_read_3)
noncomputable def t__law_both_read_1 : MS := seqM (p__law_both_read_1) (t__law_both_read_2)
noncomputable def m__law_both_read : MS := seqM (p__law_both_read_0) (t__law_both_read_1)
noncomputable def L__law_both_read : List T → Sto → R T := runF 1 2 m__law_both_read
theorem sc__law_both_read : FnScope ["_law_text", "_law_one", "_law_two"] ["_law_text"] (defScope s__law_both_read) := ⟨rfl, rfl, rfl, by decide +kernel, rfl, by decide +kernel, by decide +kernel⟩
theorem f__law_both_read {P : Program} {w : World} {K : W.Frag} {mg : Str → Option Value} {base : Heap}  {a : Addr} {fd : FuncData} (F : Fun K "_law_both_read" "_law_both_read" s__law_both_read a fd)
    (c__law_deed_fault : CalM P w K mg base 1 "_law_deed_fault" 1 L__law_deed_fault)
    (c__law_pattern_fault : CalM P w K mg base 1 "_law_pattern_fault" 1 L__law_pattern_fault)
    (c__law_deed_read : CalM P w K mg base 5 "_law_deed_read" 2 L__law_deed_read)
    (c__law_pattern_read : CalM P w K mg base 5 "_law_pattern_read" 2 L__law_pattern_read) :
    FnOk P w K mg base (L2N.CX P w) (5 + 1) a fd ["_law_text"] (spOf mg K 1 (runF 1 2 m__law_both_read)) :=
  fn_M F sc__law_both_read rfl rfl fun cdv A outer s H E hr => by
    replace hr : Room (5) (A.deeper (envOfC "_law_both_read" (defScope s__law_both_read) s.heap.objs.size a cdv)) := hr
    have nd := sc__law_both_read.nd
    have hu := hr.units
    have tk : L2N.Takes (cxOf (L2N.CX P w) P w K mg base ["_law_text", "_law_one", "_law_two"] "_law_both_read" (defScope s__law_both_read) a cdv A outer s H E) (fun cls d _ H => E cls d H) := L2N.takes_of rfl rfl rfl rfl
    have px : Passes (L2N.CX P w) (cxOf (L2N.CX P w) P w K mg base ["_law_text", "_law_one", "_law_two"] "_law_both_read" (defScope s__law_both_read) a cdv A outer s H E) E := L2N.passes_call tk fun _ _ _ _ h => h
    exact (s_cons (sst 1 nd (ecf c__law_deed_fault (hr.mono (by decide)) px (aac (vv 0) a_nil)))
      (s_cons (sst 2 nd (ecf c__law_pattern_fault (hr.mono (by decide)) px (aac (vv 0) a_nil)))
      (s_cons (s_if (bcm (op_eqT hu) (vv 1) (e_un un_negT e_int)) (s_one (sst 1 nd (e_un un_negT e_int))) s_nil)
      (s_cons (s_if (bcm (op_eqT hu) (vv 2) (e_un un_negT e_int)) (s_one (sst 2 nd (e_un un_negT e_int))) s_nil)
      (s_one (s_ret (e_and (ecf c__law_deed_read (hr.mono (by decide)) px (aac (vv 0) (aac (vv 1) a_nil))) (e_one (ecf c__law_pattern_read (hr.mono (by decide)) px (aac (vv 0) (aac (vv 2) a_nil)))))))))))
/-! ### _law_round -/
abbrev s__law_round : Stmt := top 54
noncomputable def p__law_round_0 : MS :=
    ifS (m1 boolOf (m2 eqT (m1 (callF 2 L__law_pick) (consM (varM 0) (consM (retM (.int 2)) (nilM)))) (retM (.int 0)))) (setM 5 (m1 (callF 1 L__law_deed_text) (consM (m1 (callF 4 L__law_deed) (consM (varM 0) (consM (retM (.int 6)) (consM (strM ("abcdefghijklmnopqrstuvwxyz" : Str)) (consM (retM (.int 3)) (nilM)))))) (nilM)))) (setM 5 (m1 (callF 1 L__law_pattern_text) (consM (m1 (callF 1 L__law_some_pattern) (consM (varM 0) (nilM))) (nilM))))
noncomputable def p__law_round_1 : MS :=
    setM 1 (m1 (lstT true) (consM (varM 5) (nilM)))
noncomputable def p__law_round_2 : MS :=
    forM (m1 rng1T (consM (retM (.int 3)) (nilM))) (.one 2) (dropM (bmM "list" appT (varM 1) (consM (m1 (callF 2 L__law_spoilt) (consM (varM 0) (consM (m2 idxT (varM 1) (varM 2)) (nilM)))) (nilM))))
noncomputable def p__law_round_3 : MS :=
    dropM (bmM "list" appT (varM 1) (consM (bmM "str" joinT (strM ("" : Str)) (consM (lcM false [2] (m1 rng1T (consM (m1 (callF 2 L__law_pick) (consM (varM 0) (consM (retM (.int 8)) (nilM)))) (nilM))) (.one 2) (yesM) (m1 (callF 1 L__law_sign) (consM (varM 0) (nilM)))) (nilM))) (nilM)))
noncomputable def p__law_round_4 : MS :=
    ifS (m1 boolOf (m2 eqT (m1 (callF 2 L__law_pick) (consM (varM 0) (consM (retM (.int 16)) (nilM)))) (retM (.int 0)))) (dropM (bmM "list" appT (varM 1) (consM (m2 addT (m2 idxT (varM 1) (m1 (callF 2 L__law_pick) (consM (varM 0) (consM (retM (.int 2)) (nilM))))) (m2 mulT (m1 (callF 1 L__law_sign) (consM (varM 0) (nilM))) (m1 (callF 2 L__law_pick) (consM (varM 0) (consM (retM (.int 1901)) (nilM)))))) (nilM)))) (nextM)
noncomputable def p__law_round_5 : MS :=
    forM (m1 iterT (m2 addT (varM 1) (m1 (lstT true) (consM (varM 5) (nilM))))) (.one 3) (ifS (m1 notT (m1 truthT (m1 (callF 1 L__law_both_read) (consM (varM 3) (nilM))))) (retS (retM (.bl false))) (nextM))
noncomputable def p__law_round_6 : MS :=
    setM 4 (m2 idxT (m1 (lstT false) (consM (retM .non) (consM (retM (.int 5)) (consM (retM (.bl true)) (consM (m1 (lstT false) (consM (strM ("a01" : Str)) (nilM))) (consM (m1 tupT (consM (strM ("a01" : Str)) (nilM))) (consM (m1 (lstT false) (nilM)) (consM (m1 tupT (nilM)) (nilM))))))))) (m1 (callF 2 L__law_pick) (consM (varM 0) (consM (retM (.int 7)) (nilM)))))
noncomputable def p__law_round_7 : MS :=
    retS (andV (m1 (callF 2 L__law_deed_read) (consM (varM 4) (consM (m1 negT (retM (.int 1))) (nilM)))) (m1 (callF 2 L__law_pattern_read) (consM (varM 4) (consM (m1 negT (retM (.int 1))) (nilM)))))
noncomputable def t__law_round_6 : MS := seqM (p__law_round_6) (p__law_round_7)
noncomputable def t__law_round_5 : MS := seqM (p__law_round_5) (t__law_round_6)
noncomputable def t__law_round_4 : MS := seqM (p__law_round_4) (t__law_round_5)
noncomputable def t__law_round_3 : MS := seqM (p__law_round_3) (t__law_round_4)
noncomputable def t__law_round_2 : MS := seqM (p__law_round_2) (t__law_round_3)
noncomputable def t__law_round_1 : MS := seqM (p__law_round_1) (t__law_round_2)
noncomputable def m__law_round : MS := seqM (p__law_round_0) (t__law_round_1)
noncomputable def L__law_round : List T → Sto → R T := runF 1 5 m__law_round
theorem sc__law_round : FnScope ["_law_draw_here", "_law_rows", "_law_turn", "_law_row", "_law_odd", "_law_text"] ["_law_draw_here"] (defScope s__law_round) := ⟨rfl, rfl, rfl, by decide +kernel, rfl, by decide +kernel, by decide +kernel⟩
theorem f__law_round {P : Program} {w : World} {K : W.Frag} {mg : Str → Option Value} {base : Heap}  {a : Addr} {fd : FuncData} (F : Fun K "_law_round" "_law_round" s__law_round a fd) (b_range : mg "range" = none)
    (c__law_pick : CalM P w K mg base 2 "_law_pick" 2 L__law_pick)
    (c__law_deed : CalM P w K mg base 4 "_law_deed" 4 L__law_deed)
    (c__law_deed_text : CalM P w K mg base 1 "_law_deed_text" 1 L__law_deed_text)
    (c__law_some_pattern : CalM P w K mg base 3 "_law_some_pattern" 1 L__law_some_pattern)
    (c__law_pattern_text : CalM P w K mg base 2 "_law_pattern_text" 1 L__law_pattern_text)
    (c__law_spoilt : CalM P w K mg base 4 "_law_spoilt" 2 L__law_spoilt)
    (c__law_sign : CalM P w K mg base 3 "_law_sign" 1 L__law_sign)
    (c__law_both_read : CalM P w K mg base 6 "_law_both_read" 1 L__law_both_read)
    (c__law_deed_read : CalM P w K mg base 5 "_law_deed_read" 2 L__law_deed_read)
    (c__law_pattern_read : CalM P w K mg base 5 "_law_pattern_read" 2 L__law_pattern_read) :
    FnOk P w K mg base (L2N.CX P w) (6 + 1) a fd ["_law_draw_here"] (spOf mg K 1 (runF 1 5 m__law_round)) :=
  fn_M F sc__law_round rfl rfl fun cdv A outer s H E hr => by
    replace hr : Room (6) (A.deeper (envOfC "_law_round" (defScope s__law_round) s.heap.objs.size a cdv)) := hr
    have nd := sc__law_round.nd
    have hu := hr.units
    have tk : L2N.Takes (cxOf (L2N.CX P w) P w K mg base ["_law_draw_here", "_law_rows", "_law_turn", "_law_row", "_law_odd", "_law_text"] "_law_round" (defScope s__law_round) a cdv A outer s H E) (fun cls d _ H => E cls d H) := L2N.takes_of rfl rfl rfl rfl
    have px : Passes (L2N.CX P w) (cxOf (L2N.CX P w) P w K mg base ["_law_draw_here", "_law_rows", "_law_turn", "_law_row", "_law_odd", "_law_text"] "_law_round" (defScope s__law_round) a cdv A outer s H E) E := L2N.passes_call tk fun _ _ _ _ h => h
    have po : PassesOwn (model P w) (cxOf (L2N.CX P w) P w K mg base ["_law_draw_here", "_law_rows", "_law_turn", "_law_row", "_law_odd", "_law_text"] "_law_round" (defScope s__law_round) a cdv A outer s H E).A (cxOf (L2N.CX P w) P w K mg base ["_law_draw_here", "_law_rows", "_law_turn", "_law_row", "_law_odd", "_law_text"] "_law_round" (defScope s__law_round) a cdv A outer s H E).env (cxOf (L2N.CX P w) P w K mg base ["_law_draw_here", "_law_rows", "_law_turn", "_law_row", "_law_odd", "_law_text"] "_law_round" (defScope s__law_round) a cdv A outer s H E).xe := passes_of rfl
    exact (s_cons (s_if (bcm (op_eqT hu) (ecf c__law_pick (hr.mono (by decide)) px (aac (vv 0) (aac e_int a_nil))) e_int) (s_one (sst 5 nd (ecf c__law_deed_text (hr.mono (by decide)) px (aac (ecf c__law_deed (hr.mono (by decide)) px (aac (vv 0) (aac e_int (aac e_str (aac e_int a_nil))))) a_nil)))) (s_one (sst 5 nd (ecf c__law_pattern_text (hr.mono (by decide)) px (aac (ecf c__law_some_pattern (hr.mono (by decide)) px (aac (vv 0) a_nil)) a_nil)))))
      (s_cons (sst 1 nd (e_lst (mu := true) (aac (vv 5) a_nil)))
      (s_cons (ssf po rfl (ir1 b_range (aac e_int a_nil)) (gno 2 nd) (s_one (ssx (eme PySem.F.plainAttrs_list PySem.F.slot_list_append PySem.F.type_list_append mr_append (vv 1) (aac (ecf c__law_spoilt (hr.mono (by decide)) px (aac (vv 0) (aac (eix (vv 1) (vv 2)) a_nil))) a_nil)))))
      (s_cons (ssx (eme PySem.F.plainAttrs_list PySem.F.slot_list_append PySem.F.type_list_append mr_append (vv 1) (aac (eme PySem.F.plainAttrs_str PySem.F.slot_str_join PySem.F.type_str_join mr_join e_str (aac (elc (mu := false) (own := [(("_law_turn" : Str), 2)]) rfl nd (blkOk_by (N := ["_law_draw_here", "_law_rows", "_law_turn", "_law_row", "_law_odd", "_law_text"]) (sc := defScope s__law_round) (by decide +kernel)) (ir1 b_range (aac (ecf c__law_pick (hr.mono (by decide)) px (aac (vv 0) (aac e_int a_nil))) a_nil)) (fun _ _ _ _ _ => (gno 2 nd)) (fun _ _ _ _ _ => t_nil) (fun _ _ _ _ _ => (ecf c__law_sign (hr.mono (by decide)) passN (aac (vv 0) a_nil)))) a_nil)) a_nil)))
      (s_cons (s_if (bcm (op_eqT hu) (ecf c__law_pick (hr.mono (by decide)) px (aac (vv 0) (aac e_int a_nil))) e_int) (s_one (ssx (eme PySem.F.plainAttrs_list PySem.F.slot_list_append PySem.F.type_list_append mr_append (vv 1) (aac (e_bin op_addT (eix (vv 1) (ecf c__law_pick (hr.mono (by decide)) px (aac (vv 0) (aac e_int a_nil)))) (e_bin op_mulT (ecf c__law_sign (hr.mono (by decide)) px (aac (vv 0) a_nil)) (ecf c__law_pick (hr.mono (by decide)) px (aac (vv 0) (aac e_int a_nil))))) a_nil)))) s_nil)
      (s_cons (ssf po rfl (i_any (e_bin op_addT (vv 1) (e_lst (mu := true) (aac (vv 5) a_nil)))) (gno 3 nd) (s_one (s_if (b_not (ebt (ecf c__law_both_read (hr.mono (by decide)) px (aac (vv 3) a_nil)))) (s_one (s_ret e_bl)) s_nil)))
      (s_cons (sst 4 nd (eix (e_lst (mu := false) (aac e_non (aac e_int (aac e_bl (aac (e_lst (mu := false) (aac e_str a_nil)) (aac (e_tup (aac e_str a_nil)) (aac (e_lst (mu := false) a_nil) (aac (e_tup a_nil) a_nil)))))))) (ecf c__law_pick (hr.mono (by decide)) px (aac (vv 0) (aac e_int a_nil)))))
      (s_one (s_ret (e_and (ecf c__law_deed_read (hr.mono (by decide)) px (aac (vv 4) (aac (e_un un_negT e_int) a_nil))) (e_one (ecf c__law_pattern_read (hr.mono (by decide)) px (aac (vv 4) (aac (e_un un_negT e_int) a_nil))))))))))))))
/-! ### law -/
abbrev s_law : Stmt := top 55
noncomputable def p_law_0 : MS :=
    setM 1 (m1 (callF 1 L__law_draw) (consM (varM 0) (nilM)))
noncomputable def p_law_1 : MS :=
    forM (m1 rng1T (consM (m2 addT (m2 addT (retM (.int 3)) (m1 (callF 2 L__law_pick) (consM (varM 1) (consM (retM (.int 4)) (nilM))))) (m2 fdivT (m1 (f1 lenT) (consM (varM 0) (nilM))) (retM (.int 4)))) (nilM))) (.one 2) (ifS (m1 notT (m1 truthT (m1 (callF 1 L__law_round) (consM (varM 1) (nilM))))) (retS (retM (.bl false))) (nextM))
noncomputable def p_law_2 : MS :=
    retS (retM (.bl true))
noncomputable def t_law_1 : MS := seqM (p_law_1) (p_law_2)
noncomputable def m_law : MS := seqM (p_law_0) (t_law_1)
noncomputable def L_law : List T → Sto → R T := runF 1 2 m_law
theorem sc_law : FnScope ["_law_script", "_law_draw_here", "_law_turn"] ["_law_script"] (defScope s_law) := ⟨rfl, rfl, rfl, by decide +kernel, rfl, by decide +kernel, by decide +kernel⟩
theorem f_law {P : Program} {w : World} {K : W.Frag} {mg : Str → Option Value} {base : Heap}  {a : Addr} {fd : FuncData} (F : Fun K "law" "law" s_law a fd) (b_len : mg "len" = none) (b_range : mg "range" = none)
    (c__law_draw : CalM P w K mg base 1 "_law_draw" 1 L__law_draw)
    (c__law_pick : CalM P w K mg base 2 "_law_pick" 2 L__law_pick)
    (c__law_round : CalM P w K mg base 7 "_law_round" 1 L__law_round) :
    FnOk P w K mg base (L2N.CX P w) (7 + 1) a fd ["_law_script"] (spOf mg K 1 (runF 1 2 m_law)) :=
  fn_M F sc_law rfl rfl fun cdv A outer s H E hr => by
    replace hr : Room (7) (A.deeper (envOfC "law" (defScope s_law) s.heap.objs.size a cdv)) := hr
    have nd := sc_law.nd
    have tk : L2N.Takes (cxOf (L2N.CX P w) P w K mg base ["_law_script", "_law_draw_here", "_law_turn"] "law" (defScope s_law) a cdv A outer s H E) (fun cls d _ H => E cls d H) := L2N.takes_of rfl rfl rfl rfl
    have px : Passes (L2N.CX P w) (cxOf (L2N.CX P w) P w K mg base ["_law_script", "_law_draw_here", "_law_turn"] "law" (defScope s_law) a cdv A outer s H E) E := L2N.passes_call tk fun _ _ _ _ h => h
    have po : PassesOwn (model P w) (cxOf (L2N.CX P w) P w K mg base ["_law_script", "_law_draw_here", "_law_turn"] "law" (defScope s_law) a cdv A outer s H E).A (cxOf (L2N.CX P w) P w K mg base ["_law_script", "_law_draw_here", "_law_turn"] "law" (defScope s_law) a cdv A outer s H E).env (cxOf (L2N.CX P w) P w K mg base ["_law_script", "_law_draw_here", "_law_turn"] "law" (defScope s_law) a cdv A outer s H E).xe := passes_of rfl
    exact (s_cons (sst 1 nd (ecf c__law_draw (hr.mono (by decide)) px (aac (vv 0) a_nil)))
      (s_cons (ssf po rfl (ir1 b_range (aac (e_bin op_addT (e_bin op_addT e_int (ecf c__law_pick (hr.mono (by decide)) px (aac (vv 1) (aac e_int a_nil)))) (e_bin op_fdivT (ecb cr_len b_len (by decide +kernel) (aac (vv 0) a_nil)) e_int)) a_nil)) (gno 2 nd) (s_one (s_if (b_not (ebt (ecf c__law_round (hr.mono (by decide)) px (aac (vv 1) a_nil)))) (s_one (s_ret e_bl)) s_nil)))
      (s_one (s_ret e_bl))))
end K5
end
section
set_option maxRecDepth 100000
set_option maxHeartbeats 2000000
namespace K5
open PySem L2 TL RL
open scoped RL.R RL.RS
/-! ## the drawing -/
def dr (cs : List T) (a b c e f : Int) : List T := [.lst cs, .int a, .int b, .int c, .int e, .int f]
section
variable {S : Sto} {d : Nat} {cs : List T} {a b c e f : Int}
theorem at_set (hd : d < S.length) {l : List T} : (S.set d l)[d]? = some l := List.getElem?_set_self hd
theorem ix0 (hd : d < S.length) : idxT (.loc d) (.int 0) (S.set d (dr cs a b c e f)) = .ok (.lst cs) (S.set d (dr cs a b c e f)) := by unfold idxT itemsT; simp only [at_set hd]; rfl
theorem ix1 (hd : d < S.length) : idxT (.loc d) (.int 1) (S.set d (dr cs a b c e f)) = .ok (.int a) (S.set d (dr cs a b c e f)) := by unfold idxT itemsT; simp only [at_set hd]; rfl
theorem ix2 (hd : d < S.length) : idxT (.loc d) (.int 2) (S.set d (dr cs a b c e f)) = .ok (.int b) (S.set d (dr cs a b c e f)) := by unfold idxT itemsT; simp only [at_set hd]; rfl
theorem ix3 (hd : d < S.length) : idxT (.loc d) (.int 3) (S.set d (dr cs a b c e f)) = .ok (.int c) (S.set d (dr cs a b c e f)) := by unfold idxT itemsT; simp only [at_set hd]; rfl
theorem ix4 (hd : d < S.length) : idxT (.loc d) (.int 4) (S.set d (dr cs a b c e f)) = .ok (.int e) (S.set d (dr cs a b c e f)) := by unfold idxT itemsT; simp only [at_set hd]; rfl
theorem ix5 (hd : d < S.length) : idxT (.loc d) (.int 5) (S.set d (dr cs a b c e f)) = .ok (.int f) (S.set d (dr cs a b c e f)) := by unfold idxT itemsT; simp only [at_set hd]; rfl
theorem st1 (hd : d < S.length) (x : Int) : setT (.loc d) (.int 1) (.int x) (S.set d (dr cs a b c e f)) = .ok () (S.set d (dr cs x b c e f)) := by unfold setT; simp only [at_set hd]; show R.ok () ((S.set d _).set d _) = _; rw [List.set_set]; rfl
theorem st2 (hd : d < S.length) (x : Int) : setT (.loc d) (.int 2) (.int x) (S.set d (dr cs a b c e f)) = .ok () (S.set d (dr cs a x c e f)) := by unfold setT; simp only [at_set hd]; show R.ok () ((S.set d _).set d _) = _; rw [List.set_set]; rfl
theorem st3 (hd : d < S.length) (x : Int) : setT (.loc d) (.int 3) (.int x) (S.set d (dr cs a b c e f)) = .ok () (S.set d (dr cs a b x e f)) := by unfold setT; simp only [at_set hd]; show R.ok () ((S.set d _).set d _) = _; rw [List.set_set]; rfl
theorem st4 (hd : d < S.length) (x : Int) : setT (.loc d) (.int 4) (.int x) (S.set d (dr cs a b c e f)) = .ok () (S.set d (dr cs a b c x f)) := by unfold setT; simp only [at_set hd]; show R.ok () ((S.set d _).set d _) = _; rw [List.set_set]; rfl
theorem idx_lst {l : List T} {i : Int} {t : T} (h : atI l i = some t) : idxT (.lst l) (.int i) S = .ok t S := by unfold idxT itemsT; simp only [h]
theorem mul_c (i j : Int) (h : -(2 ^ 64) < j ∧ j < 2 ^ 64) : mulT (.int i) (.int j) S = .ok (.int (i * j)) S := by show gd _ _ = _; exact gd_pos (.inr (.inr h))
theorem mul_d (i j : Int) (h : -(2 ^ 64) < i ∧ i < 2 ^ 64) : mulT (.int i) (.int j) S = .ok (.int (i * j)) S := by show gd _ _ = _; exact gd_pos (.inr (.inl h))
theorem fdiv_c (i j : Int) (h : 0 < j) (h2 : j < 2 ^ 64) : fdivT (.int i) (.int j) S = .ok (.int (i / j)) S := by
  show gd _ _ = _
  refine gd_pos ⟨h, ?_⟩
  have h0 : j.natAbs ≠ 0 := by omega
  have : j.natAbs.log2 < 64 := (Nat.log2_lt h0).mpr (by omega)
  omega
theorem mix_ok (x y : Int) : ∃ z, L__law_mix [.int x, .int y] S = .ok (.int z) S := by
  unfold L__law_mix runF m__law_mix startE
  have p1 : ∀ z : Int, -(2 ^ 64) < z % 2147483647 ∧ z % 2147483647 < 2 ^ 64 := fun z => ⟨by omega, by omega⟩
  have p2 : ∀ z : Int, -(2 ^ 64) < z % 998244353 ∧ z % 998244353 < 2 ^ 64 := fun z => ⟨by omega, by omega⟩
  have q : ∀ {S : Sto} (z : Int), fdivT (.int z) (.int 8) S = .ok (.int (z / 8)) S := fun z => fdiv_c z 8 (by decide) (by decide)
  have m1' : ∀ {S : Sto} (z : Int), mulT (.int z) (.int 48271) S = .ok (.int (z * 48271)) S := fun z => mul_c _ _ (by decide)
  have m2' : ∀ {S : Sto} (z : Int), mulT (.int z) (.int 69621) S = .ok (.int (z * 69621)) S := fun z => mul_c _ _ (by decide)
  have m3' : ∀ {S : Sto} (z : Int), mulT (.int z) (.int 7919) S = .ok (.int (z * 7919)) S := fun z => mul_c _ _ (by decide)
  have m4' : ∀ {S : Sto} (z y : Int), mulT (.int (z % 2147483647)) (.int y) S = .ok (.int (z % 2147483647 * y)) S := fun z y => mul_d _ _ (p1 z)
  have m5' : ∀ {S : Sto} (z y : Int), mulT (.int (z % 998244353)) (.int y) S = .ok (.int (z % 998244353 * y)) S := fun z y => mul_d _ _ (p2 z)
  simp [p__law_mix_0, t__law_mix_1, p__law_mix_1, t__law_mix_2, p__law_mix_2, p__law_mix_3, var_eq, q, m1', m2', m3', m4', m5']
/-- the draws -/
def DrawOk (d : Nat) (S : Sto) : Prop := ∃ (ns : List Int) (a b c e f : Int), S[d]? = some (dr (ns.map T.int) a b c e f) ∧ 0 ≤ a ∧ 0 ≤ b
/-- what stood before stands, but for the drawing -/
structure Gr (d : Nat) (S S' : Sto) : Prop where
  len : S.length ≤ S'.length
  same : ∀ n, n < S.length → n ≠ d → S'[n]? = S[n]?
  draw : DrawOk d S'
theorem atI_lt {l : List Int} {a : Int} (h0 : 0 ≤ a) (h1 : a < l.length) : ∃ x : Int, atI (l.map T.int) a = some (.int x) := by
  unfold atI ixN
  rw [if_pos h0, if_pos (by simpa using h1)]
  have : a.toNat < l.length := by omega
  exact ⟨l[a.toNat], by simp [this]⟩
/-- after the great cell's digits are taken up -/
theorem pick_rest {S : Sto} {d : Nat} (hd : d < S.length) (ns : List Int) {a b c e f many : Int} (ha : 0 ≤ a) (hb : 0 ≤ b) (hm : 2 ≤ many) (hm2 : many < 2 ^ 62) (o : Option T) :
    ∃ (v a' b' c' e' f' : Int), t__law_pick_2 [some (.loc d), some (.int many), o, none, none] (S.set d (dr (ns.map T.int) a b c e f)) = .ret (.int v) (S.set d (dr (ns.map T.int) a' b' c' e' f')) ∧ 0 ≤ v ∧ v < many ∧ 0 ≤ a' ∧ 0 ≤ b' := by
  have hp : 0 < many := by omega
  have fd : ∀ {S : Sto} (z : Int), fdivT (.int z) (.int many) S = .ok (.int (z / many)) S := fun z => fdiv_c z many hp (by omega)
  have m31 : ∀ {S : Sto} (z : Int), mulT (.int 31) (.int z) S = .ok (.int (31 * z)) S := fun z => mul_d _ _ (by decide)
  have hl : (ns.map T.int).length = ns.length := List.length_map ..
  unfold t__law_pick_2
  by_cases h1 : 0 < b
  · refine ⟨b % many, a, b / many, c, e, f, ?_, Int.emod_nonneg _ (by omega), Int.emod_lt_of_pos _ hp, ha, Int.ediv_nonneg hb (by omega)⟩
    simp [p__law_pick_2, var_eq, ix2 hd, st2 hd, h1, gd_pos hp, fd]
  · by_cases h2 : a < ns.length
    · obtain ⟨x, hx⟩ := atI_lt ha h2
      obtain ⟨z, hz⟩ := mix_ok (S := S.set d (dr (ns.map T.int) a b (c + 1) e f)) (x + 31 * a) (c + 1)
      by_cases h3 : c + 1 = 6
      · refine ⟨z % many, a + 1, b, 0, e, f, ?_, Int.emod_nonneg _ (by omega), Int.emod_lt_of_pos _ hp, by omega, hb⟩
        rw [h3] at hz
        simp [p__law_pick_2, t__law_pick_3, p__law_pick_3, var_eq, ix0 hd, ix1 hd, ix2 hd, ix3 hd, st1 hd, st3 hd, h1, h2, hl, idx_lst hx, m31, gd_pos hp, hz, h3]
      · refine ⟨z % many, a, b, c + 1, e, f, ?_, Int.emod_nonneg _ (by omega), Int.emod_lt_of_pos _ hp, by omega, hb⟩
        simp [p__law_pick_2, t__law_pick_3, p__law_pick_3, var_eq, ix0 hd, ix1 hd, ix2 hd, ix3 hd, st1 hd, st3 hd, h1, h2, hl, idx_lst hx, m31, gd_pos hp, hz, h3]
    · obtain ⟨z, hz⟩ := mix_ok (S := S.set d (dr (ns.map T.int) a b c (e + 1) f)) f (e + 1 + 100)
      refine ⟨z % many, a, b, c, e + 1, f, ?_, Int.emod_nonneg _ (by omega), Int.emod_lt_of_pos _ hp, ha, hb⟩
      simp [p__law_pick_2, t__law_pick_3, p__law_pick_3, t__law_pick_4, p__law_pick_4, p__law_pick_5, var_eq, ix0 hd, ix1 hd, ix2 hd, ix3 hd, ix4 hd, ix5 hd, st4 hd, h1, h2, hl, m31, gd_pos hp, hz]
theorem pick_ok {d : Nat} {S : Sto} (h : DrawOk d S) {many : Int} (hm : many < 2 ^ 62) : ∃ (v : Int) (S' : Sto), L__law_pick [.loc d, .int many] S = .ok (.int v) S' ∧ 0 ≤ v ∧ (v = 0 ∨ v < many) ∧ S'.length = S.length ∧ Gr d S S' := by
  obtain ⟨ns, a, b, c, e, f, h0, ha, hb⟩ := h
  have hd : d < S.length := (List.getElem?_eq_some_iff.mp h0).1
  suffices H : ∃ (v a' b' c' e' f' : Int), L__law_pick [.loc d, .int many] (S.set d (dr (ns.map T.int) a b c e f)) = .ok (.int v) (S.set d (dr (ns.map T.int) a' b' c' e' f')) ∧ 0 ≤ v ∧ (v = 0 ∨ v < many) ∧ 0 ≤ a' ∧ 0 ≤ b' by
    obtain ⟨v, a', b', c', e', f', h1, h2, h3, h4, h5⟩ := H
    have e0 : S.set d (dr (ns.map T.int) a b c e f) = S := by
      refine List.ext_getElem? fun j => ?_
      by_cases hj : d = j
      · subst hj; rw [at_set hd, h0]
      · rw [List.getElem?_set_ne hj]
    rw [e0] at h1
    refine ⟨v, _, h1, h2, h3, List.length_set, ⟨by simp, fun n _ hn => List.getElem?_set_ne (Ne.symm hn), ns, a', b', c', e', f', at_set hd, h4, h5⟩⟩
  have hl : ∀ {S : Sto}, lenT (.lst (ns.map T.int)) S = .ok (.int ns.length) S := fun {S} => by simp
  have pw : ∀ {S : Sto}, powT (.int 10) (.int 18) S = .ok (.int (10 ^ 18)) S := fun {S} => by show gd _ _ = _; exact gd_pos (by decide +kernel)
  have pw2 : ∀ {S : Sto}, powT (.int 10) (.int 60) S = .ok (.int (10 ^ 60)) S := fun {S} => by show gd _ _ = _; exact gd_pos (by decide +kernel)
  have pw3 : ∀ {S : Sto}, powT (.int (10 ^ 60)) (.int 64) S = .ok (.int ((10 ^ 60) ^ 64)) S := fun {S} => by show gd _ _ = _; exact gd_pos (by decide +kernel)
  have hlen : (ns.map T.int).length = ns.length := List.length_map ..
  generalize hP : ((10 : Int) ^ 60) ^ 64 = P at pw3
  have hP0 : 0 < P := by rw [← hP]; decide +kernel
  generalize hQ : (10 : Int) ^ 60 = Q at pw2 pw3
  generalize hR : (10 : Int) ^ 18 = R0 at pw
  have m31 : ∀ {S : Sto} (z : Int), mulT (.int 31) (.int z) S = .ok (.int (31 * z)) S := fun z => mul_d _ _ (by decide)
  unfold L__law_pick
  by_cases hm2 : many < 2
  · refine ⟨0, a, b, c, e, f, run_ret ?_, by decide, .inl rfl, ha, hb⟩
    simp [m__law_pick, startE, p__law_pick_0, var_eq, hm2]
  · have step : ∀ (a1 b1 : Int) (o : Option T), 0 ≤ a1 → 0 ≤ b1 → p__law_pick_1 [some (.loc d), some (.int many), none, none, none] (S.set d (dr (ns.map T.int) a b c e f)) = .nx [some (.loc d), some (.int many), o, none, none] (S.set d (dr (ns.map T.int) a1 b1 c e f)) →
        ∃ (v a' b' c' e' f' : Int), runF 2 3 m__law_pick [.loc d, .int many] (S.set d (dr (ns.map T.int) a b c e f)) = .ok (.int v) (S.set d (dr (ns.map T.int) a' b' c' e' f')) ∧ 0 ≤ v ∧ (v = 0 ∨ v < many) ∧ 0 ≤ a' ∧ 0 ≤ b' := fun a1 b1 o h1 h2 es => by
      obtain ⟨v, a', b', c', e', f', r1, r2, r3, r4, r5⟩ := pick_rest hd ns (c := c) (e := e) (f := f) h1 h2 (by omega : 2 ≤ many) hm o
      refine ⟨v, a', b', c', e', f', run_ret ?_, r2, .inr r3, r4, r5⟩
      have e0 : p__law_pick_0 [some (.loc d), some (.int many), none, none, none] (S.set d (dr (ns.map T.int) a b c e f)) = .nx [some (.loc d), some (.int many), none, none, none] (S.set d (dr (ns.map T.int) a b c e f)) := by
        simp [p__law_pick_0, var_eq, hm2]
      show m__law_pick [some (.loc d), some (.int many), none, none, none] _ = _
      rw [m__law_pick, seqM_eq, e0, RS.seq_nx, t__law_pick_1, seqM_eq, es, RS.seq_nx, r1]
    by_cases h2 : b = 0 ∧ a < ns.length ∧ c = 0
    · obtain ⟨x, hx⟩ := atI_lt ha h2.2.1
      by_cases h3 : R0 ≤ x ∨ x ≤ -R0
      · refine step (a + 1) ((if x < 0 then -x else x) % P) (some (.int x)) (by omega) (Int.emod_nonneg _ (by omega)) ?_
        rcases h3 with h3 | h3
        · simp [p__law_pick_1, var_eq, ix0 hd, ix1 hd, ix2 hd, ix3 hd, st1 hd, st2 hd, h2, hlen, idx_lst hx, pw, pw2, pw3, h3, gd_pos hP0]
        · by_cases h4 : R0 ≤ x
          · simp [p__law_pick_1, var_eq, ix0 hd, ix1 hd, ix2 hd, ix3 hd, st1 hd, st2 hd, h2, hlen, idx_lst hx, pw, pw2, pw3, h4, gd_pos hP0]
          · simp [p__law_pick_1, var_eq, ix0 hd, ix1 hd, ix2 hd, ix3 hd, st1 hd, st2 hd, h2, hlen, idx_lst hx, pw, pw2, pw3, h3, h4, gd_pos hP0]
      · refine step a b (some (.int x)) ha hb ?_
        have h4 : ¬ R0 ≤ x := fun z => h3 (.inl z)
        have h5 : ¬ x ≤ -R0 := fun z => h3 (.inr z)
        simp [p__law_pick_1, var_eq, ix0 hd, ix1 hd, ix2 hd, ix3 hd, st1 hd, st2 hd, h2, hlen, idx_lst hx, pw, pw2, pw3, h4, h5, gd_pos hP0]
    · refine step a b none ha hb ?_
      by_cases k1 : b = 0
      · by_cases k2 : a < ns.length
        · have k3 : ¬ c = 0 := fun z => h2 ⟨k1, k2, z⟩
          simp [p__law_pick_1, var_eq, ix0 hd, ix1 hd, ix2 hd, ix3 hd, k1, k2, k3, hlen]
        · simp [p__law_pick_1, var_eq, ix0 hd, ix1 hd, ix2 hd, ix3 hd, k1, k2, hlen]
      · simp [p__law_pick_1, var_eq, ix0 hd, ix1 hd, ix2 hd, ix3 hd, k1, hlen]
end
end K5
end
section
set_option maxRecDepth 100000
set_option maxHeartbeats 2000000
namespace K5
open PySem L2 TL RL
open scoped RL.R RL.RS
/-! ## texts -/
@[scoped simp] theorem vc0 {t : T} {ρ : Env'} {S : Sto} : varM 0 ( some t :: ρ) S = .ok t S := rfl
@[scoped simp] theorem vc1 {o0 : Option T} {t : T} {ρ : Env'} {S : Sto} : varM 1 (o0 :: some t :: ρ) S = .ok t S := rfl
@[scoped simp] theorem vc2 {o0 o1 : Option T} {t : T} {ρ : Env'} {S : Sto} : varM 2 (o0 :: o1 :: some t :: ρ) S = .ok t S := rfl
@[scoped simp] theorem vc3 {o0 o1 o2 : Option T} {t : T} {ρ : Env'} {S : Sto} : varM 3 (o0 :: o1 :: o2 :: some t :: ρ) S = .ok t S := rfl
@[scoped simp] theorem vc4 {o0 o1 o2 o3 : Option T} {t : T} {ρ : Env'} {S : Sto} : varM 4 (o0 :: o1 :: o2 :: o3 :: some t :: ρ) S = .ok t S := rfl
@[scoped simp] theorem vc5 {o0 o1 o2 o3 o4 : Option T} {t : T} {ρ : Env'} {S : Sto} : varM 5 (o0 :: o1 :: o2 :: o3 :: o4 :: some t :: ρ) S = .ok t S := rfl
@[scoped simp] theorem vc6 {o0 o1 o2 o3 o4 o5 : Option T} {t : T} {ρ : Env'} {S : Sto} : varM 6 (o0 :: o1 :: o2 :: o3 :: o4 :: o5 :: some t :: ρ) S = .ok t S := rfl
@[scoped simp] theorem vc7 {o0 o1 o2 o3 o4 o5 o6 : Option T} {t : T} {ρ : Env'} {S : Sto} : varM 7 (o0 :: o1 :: o2 :: o3 :: o4 :: o5 :: o6 :: some t :: ρ) S = .ok t S := rfl
@[scoped simp] theorem vc8 {o0 o1 o2 o3 o4 o5 o6 o7 : Option T} {t : T} {ρ : Env'} {S : Sto} : varM 8 (o0 :: o1 :: o2 :: o3 :: o4 :: o5 :: o6 :: o7 :: some t :: ρ) S = .ok t S := rfl
@[scoped simp] theorem vc9 {o0 o1 o2 o3 o4 o5 o6 o7 o8 : Option T} {t : T} {ρ : Env'} {S : Sto} : varM 9 (o0 :: o1 :: o2 :: o3 :: o4 :: o5 :: o6 :: o7 :: o8 :: some t :: ρ) S = .ok t S := rfl
@[scoped simp] theorem vc10 {o0 o1 o2 o3 o4 o5 o6 o7 o8 o9 : Option T} {t : T} {ρ : Env'} {S : Sto} : varM 10 (o0 :: o1 :: o2 :: o3 :: o4 :: o5 :: o6 :: o7 :: o8 :: o9 :: some t :: ρ) S = .ok t S := rfl
@[scoped simp] theorem vc11 {o0 o1 o2 o3 o4 o5 o6 o7 o8 o9 o10 : Option T} {t : T} {ρ : Env'} {S : Sto} : varM 11 (o0 :: o1 :: o2 :: o3 :: o4 :: o5 :: o6 :: o7 :: o8 :: o9 :: o10 :: some t :: ρ) S = .ok t S := rfl
@[scoped simp] theorem s_a : ("a" : Str) = ⟨#[97]⟩ := rfl
@[scoped simp] theorem s_z : ("z" : Str) = ⟨#[122]⟩ := rfl
@[scoped simp] theorem s_q : ("q" : Str) = ⟨#[113]⟩ := rfl
@[scoped simp] theorem s_dot : ("." : Str) = ⟨#[46]⟩ := rfl
@[scoped simp] theorem s_minus : ("-" : Str) = ⟨#[45]⟩ := rfl
@[scoped simp] theorem s_ask : ("?" : Str) = ⟨#[63]⟩ := rfl
@[scoped simp] theorem s_star : ("*" : Str) = ⟨#[42]⟩ := rfl
@[scoped simp] theorem s_tilde : ("~" : Str) = ⟨#[126]⟩ := rfl
@[scoped simp] theorem s_comma : ("," : Str) = ⟨#[44]⟩ := rfl
@[scoped simp] theorem s_none : ("" : Str) = ⟨#[]⟩ := rfl
@[scoped simp] theorem lenS (l : List Nat) : Str.length ⟨l.toArray⟩ = l.length := List.size_toArray ..
theorem str_inj {x y : Str} : x = y ↔ x.cps.toList = y.cps.toList := ⟨fun h => by rw [h], fun h => by
  obtain ⟨⟨a⟩⟩ := x
  obtain ⟨⟨b⟩⟩ := y
  cases h; rfl⟩
@[scoped simp] theorem mk_inj (a b : List Nat) : ((⟨a.toArray⟩ : Str) = ⟨b.toArray⟩) ↔ a = b := str_inj
theorem mk_eq (x : Str) : x = ⟨x.cps.toList.toArray⟩ := str_inj.mpr rfl
section
variable {ρ : Env'} {S : Sto}
@[scoped simp] theorem strM_eq (x : Str) : strM x ρ S = if x.length ≤ 16777216 then .ok (.str x) S else .bad := by unfold strM; rw [sizeLine_eq]
def lt (c : Nat) : Bool := decide (97 ≤ c) && decide (c ≤ 122)
def kd (x : Str) : Bool := match x.cps.toList with
  | [c] => lt c
  | _ => false
theorem lt1 (a b : Nat) : ([a] < [b]) ↔ a < b := by simp [List.cons_lt_cons_iff]
theorem kind1 (c : Nat) : L_is_kind [.str ⟨#[c]⟩] S = .ok (.bl (lt c)) S := by
  refine run_ret ?_
  simp [m_is_kind, startE, var_eq, isiT, kindT, clsOf, kindsK, isK, gd, chainM, leT, lt]
  by_cases h : c < 97
  · have : ¬ 97 ≤ c := by omega
    simp [lt1, h, this]
  · have h0 : 97 ≤ c := by omega
    by_cases h2 : 122 < c
    · have : ¬ c ≤ 122 := by omega
      simp [lt1, h, h2, this]
    · have : c ≤ 122 := by omega
      simp [lt1, h, h2, this, h0]
theorem kindS (x : Str) : L_is_kind [.str x] S = .ok (.bl (kd x)) S := by
  by_cases h : x.length = 1
  · obtain ⟨⟨l⟩⟩ := x
    match l, h with
    | [c], _ => exact kind1 c
  · have e : kd x = false := by
      unfold kd
      split
      · rename_i c hc
        exact absurd (by rw [mk_eq x, hc]; rfl) h
      · rfl
    rw [e]
    refine run_ret ?_
    have h' : ¬ (x.length : Int) = 1 := by omega
    simp [m_is_kind, startE, var_eq, isiT, kindT, clsOf, kindsK, isK, gd, h']
theorem kindN {t : T} (h : kindT t ≠ none) (hs : ∀ x, t ≠ .str x) : L_is_kind [t] S = .ok (.bl false) S := by
  refine run_ret ?_
  cases t <;> first
    | exact absurd rfl (hs _)
    | exact absurd rfl h
    | simp [m_is_kind, startE, var_eq, isiT, kindT, clsOf, kindsK, isK, gd]
/-! ### words -/
def sorted : List Nat → Bool
  | [] => true
  | [_] => true
  | a :: b :: r => decide (a ≤ b) && sorted (b :: r)
def isW : T → Bool
  | .str x => x.cps.toList.all lt && sorted x.cps.toList
  | _ => false
theorem bools_map {α : Type} (f : α → Bool) (l : List α) : boolsOf (l.map fun a => T.bl (f a)) = some (l.map f) := by
  induction l with
  | nil => rfl
  | cons a l ih => simp [boolsOf, ih]
theorem eqvAll_str : ∀ (a b : List Str), PyData.eqvAll (a.map PyData.str) (b.map PyData.str) = decide (a = b)
  | [], [] => rfl
  | [], b :: bs => by simp [PyData.eqvAll]
  | a :: as, [] => by simp [PyData.eqvAll]
  | a :: as, b :: bs => by
    simp only [List.map_cons, PyData.eqvAll, PyData.eqv, eqvAll_str as bs, List.cons.injEq, Bool.decide_and]
    rfl
theorem dats_str (a : List Str) : datsOf (a.map T.str) = some (a.map PyData.str) := by
  induction a with
  | nil => rfl
  | cons x a ih => simp [datsOf, datOf, ih]
theorem depth_str : ∀ a : List Str, PyData.depthAll (a.map PyData.str) = 0
  | [] => rfl
  | x :: a => by simp [PyData.depthAll, PyData.depth, depth_str a]
theorem lay_str : ∀ a : List Str, (∀ x ∈ a, PyData.strOk x = true) → PyData.canLayAll0 (a.map PyData.str) = true
  | [], _ => rfl
  | x :: a, h => by
    simp only [List.map_cons, PyData.canLayAll0, PyData.canLay0, Bool.and_eq_true]
    exact ⟨h x (List.mem_cons_self ..), lay_str a fun y hy => h y (List.mem_cons_of_mem _ hy)⟩
theorem shaped_str (a : List Str) (hs : ∀ x ∈ a, PyData.strOk x = true) : PySem.SeqAt.shaped (.list (a.map PyData.str)) = true := by
  unfold PySem.SeqAt.shaped
  simp [PyData.canLay0, lay_str a hs, PyData.depth, depth_str]
theorem eq_strs (a b : List Str) (ha : ∀ x ∈ a, PyData.strOk x = true) (hb : ∀ x ∈ b, PyData.strOk x = true) : eqT (.lst (a.map T.str)) (.lst (b.map T.str)) S = .ok (.bl (decide (a = b))) S := by
  unfold eqT
  simp only [scalT, datOf, dats_str, Option.map_some]
  rw [gd_pos ⟨shaped_str a ha, shaped_str b hb⟩]
  simp only [PyData.eqv, eqvAll_str]
def ones (l : List Nat) : List Str := l.map fun c => ⟨#[c]⟩
theorem chs_ones (l : List Nat) : chs ⟨l.toArray⟩ = (ones l).map T.str := by unfold chs ones; simp
theorem ones_ok {l : List Nat} (h : ∀ c ∈ l, c < 1114112) : ∀ x ∈ ones l, PyData.strOk x = true := fun x hx => by
  obtain ⟨c, hc, rfl⟩ := List.mem_map.mp hx
  simp [PyData.strOk, h c hc]
theorem ones_inj : ∀ {a b : List Nat}, ones a = ones b → a = b
  | [], [], _ => rfl
  | [], b :: bs, h => nomatch h
  | a :: as, [], h => nomatch h
  | a :: as, b :: bs, h => by
    unfold ones at h
    simp only [List.map_cons, List.cons.injEq] at h
    have e : a = b := by simpa using h.1
    rw [e, ones_inj (show ones as = ones bs from h.2)]
theorem strsOf_map : ∀ a : List Str, strsOf (a.map T.str) = some a
  | [] => rfl
  | x :: a => by simp [strsOf, strsOf_map a]
theorem risingS_iff (p : Str) (l : List Str) : (p :: l).Pairwise (fun a b => leS a b = true) → True := fun _ => trivial
theorem leS1 (a b : Nat) : leS (⟨#[a]⟩ : Str) ⟨#[b]⟩ = decide (a ≤ b) := by
  unfold leS
  by_cases h : b < a
  · have : ¬ a ≤ b := by omega
    simp [lt1, h, this]
  · have : a ≤ b := by omega
    simp [lt1, h, this]
theorem sorted_pw : ∀ l : List Nat, sorted l = true ↔ l.Pairwise (· ≤ ·)
  | [] => by simp [sorted]
  | [a] => by simp [sorted]
  | a :: b :: r => by
    have ih := sorted_pw (b :: r)
    unfold sorted
    rw [Bool.and_eq_true, decide_eq_true_eq, ih, List.pairwise_cons (a := a)]
    constructor
    · rintro ⟨h1, h2⟩
      refine ⟨fun c hc => ?_, h2⟩
      rcases List.mem_cons.mp hc with rfl | hc
      · exact h1
      · exact Nat.le_trans h1 ((List.pairwise_cons.mp h2).1 c hc)
    · rintro ⟨h1, h2⟩
      exact ⟨h1 b (List.mem_cons_self ..), h2⟩
theorem sort_ones (l : List Nat) : decide (ones l = sortS (ones l)) = sorted l := by
  have hp : (sortS (ones l)).Pairwise (fun a b => leS a b = true) := List.pairwise_mergeSort (fun a b c => leS_trans a b c) (fun a b => leS_total a b) _
  rw [Bool.eq_iff_iff, decide_eq_true_eq, sorted_pw]
  constructor
  · intro h
    rw [← h] at hp
    unfold ones at hp
    rw [List.pairwise_map] at hp
    exact hp.imp fun {a b} h => by rw [leS1] at h; exact of_decide_eq_true h
  · intro h
    have hl : (ones l).Pairwise (fun a b => leS a b = true) := by
      unfold ones
      rw [List.pairwise_map]
      exact h.imp fun {a b} h => by rw [leS1]; exact decide_eq_true h
    exact (List.mergeSort_of_pairwise hl).symm
theorem lcl0 {l0 : List T} {i : Nat} {tt : M Bool} {me : M T} {ρ : Env'} {S : Sto} (p : T → Bool) (f : T → T) (l acc : List T) (hl : acc.length + l.length ≤ 16777216) (ht : ∀ t ∈ l, tt (ρ.set i (some t)) S = .ok (p t) S)
    (hm : ∀ t ∈ l, p t = true → me (ρ.set i (some t)) S = .ok (f t) S) : lcL (l0, none) (.one i) tt me l acc ρ S = .ok (acc ++ (l.filter p).map f) S := lcL_pure p f (by simp) l acc hl ht hm
theorem lcl1 {l0 : List T} {i : Nat} {me : M T} {ρ : Env'} {S : Sto} (f : T → T) (l acc : List T) (hl : acc.length + l.length ≤ 16777216) (hm : ∀ t ∈ l, me (ρ.set i (some t)) S = .ok (f t) S) : lcL (l0, none) (.one i) yesM me l acc ρ S = .ok (acc ++ l.map f) S := by
  rw [lcl0 (fun _ => true) f l acc hl (fun _ _ => rfl) fun t ht _ => hm t ht, List.filter_eq_self.mpr fun _ _ => rfl]
end
section
variable {ρ : Env'} {S : Sto}
theorem cnt_count (c : Nat) : ∀ l : List Nat, PyProof.Rows.cnt c l = (l.count c : Nat)
  | [] => rfl
  | n :: l => by
    rw [PyProof.Rows.cnt_cons, cnt_count c l, List.count_cons]
    by_cases h : n = c
    · simp [h]; omega
    · simp [h]
theorem count_T (X : List Nat) : countT (.str ⟨X.toArray⟩) [.str ⟨#[44]⟩] S = .ok (.int (X.count 44 : Nat)) S := by
  unfold countT
  dsimp only
  rw [PyProof.Rows.count_cnt, cnt_count]
theorem idx_str {X : List Nat} {k : Nat} {c : Nat} (h : X[k]? = some c) : idxT (.str ⟨X.toArray⟩) (.int (k : Int)) S = .ok (.str ⟨#[c]⟩) S := by
  have hk := (List.getElem?_eq_some_iff.mp h).1
  unfold idxT
  have e : atI X (k : Int) = some c := by
    unfold atI ixN
    rw [if_pos (by omega), if_pos (by omega)]
    simpa using h
  simp [e]
theorem cut_take (X : List Nat) (k : Nat) : cutS ⟨X.toArray⟩ none (some (k : Int)) = ⟨(X.take k).toArray⟩ := by
  unfold cutS
  rw [HT.sIx_nat, HT.sIx_none]
  simp [Str.length]
def letters (X : List Nat) : Nat := (X.filter lt).length
theorem letters_ok (X : List Nat) (h : X.length ≤ 2000) : L_letters_in [.str ⟨X.toArray⟩] S = .ok (.int (letters X : Nat)) S := by
  refine run_ret ?_
  have e1 : lcL ((ones X).map T.str, none) (.one 1) (m1 truthT (m1 (callF 1 L_is_kind) (consM (varM 1) nilM))) (varM 1) ((ones X).map T.str) [] [some (.str ⟨X.toArray⟩), none] S = .ok (((ones X).map T.str).filter fun t => match t with | .str x => kd x | _ => false) S := by
    rw [lcl0 (fun t => match t with | .str x => kd x | _ => false) id _ _ (by unfold ones; simp; omega)]
    · simp
    · intro t ht
      obtain ⟨x, hx, rfl⟩ := List.mem_map.mp ht
      simp [gd, kindS]
    · intro t ht _
      simp
  have e2 : (((ones X).map T.str).filter fun t => match t with | .str x => kd x | _ => false).length = letters X := by
    unfold ones letters
    rw [List.map_map, List.filter_map, List.length_map]
    rfl
  have l1 : letters X ≤ 16777216 := by
    unfold letters
    exact Nat.le_trans (List.length_filter_le ..) (by omega)
  simp only [m_letters_in, startE, List.take, List.map_cons, List.map_nil, List.replicate, List.cons_append, List.nil_append, retS_eq, m1_eq, consM_eq, nilM_eq, lcM_eq, vc0, R.bind_ok, iter_str, chs_ones, wipeE, List.set, e1, calm_ok, lstT_f, e2, if_pos l1, f1_eq, len_lst, R.bindS_ok]
/-! ### where a sign may stand -/
def beg (X : List Nat) : Nat → Bool
  | 0 => true
  | j + 1 => decide (X[j]? = some 44)
def upTo (X : List Nat) (c : Nat) : Nat → Bool
  | 0 => true
  | j + 1 => match X[j]? with
    | some p => lt p && decide (p ≤ c)
    | none => false
def cs (X : List Nat) (k c : Nat) : Bool :=
  if c = 44 then !(beg X k) && decide ((X.take k).count 44 < 5)
  else if lt c = true then (beg X k || upTo X c k) && decide (letters (X.take k) < 8)
  else beg X k && (decide (c = 45) || decide (c = 63))
theorem lt44 : lt 44 = false := rfl
theorem cs_ok {X : List Nat} {k c : Nat} (hX : X.length ≤ 2000) (h : X[k]? = some c) : L_can_stand_patterntext [.str ⟨X.toArray⟩, .int (k : Int)] S = .ok (.bl (cs X k c)) S := by
  refine run_ret ?_
  have ic := idx_str (S := S) h
  have hl : (X.take k).length ≤ 2000 := by rw [List.length_take]; omega
  have lo := letters_ok (S := S) (X.take k) hl
  have ct := cut_take X k
  have ck := count_T (S := S) (X.take k)
  have cn : ((X.take k).count 44 : Int) < 5 ↔ (X.take k).count 44 < 5 := by omega
  have ln : (letters (X.take k) : Int) < 8 ↔ letters (X.take k) < 8 := by omega
  cases k with
  | zero =>
    have ic : idxT (.str ⟨X.toArray⟩) (.int 0) S = .ok (.str ⟨#[c]⟩) S := ic
    have ct : cutS ⟨X.toArray⟩ none (some 0) = ⟨#[]⟩ := by simpa using ct
    have lo : L_letters_in [.str ⟨#[]⟩] S = .ok (.int 0) S := by simpa [letters] using lo
    by_cases h1 : c = 44
    · subst h1
      simp [m_can_stand_patterntext, t_can_stand_patterntext_1, t_can_stand_patterntext_2, t_can_stand_patterntext_3, p_can_stand_patterntext_0, p_can_stand_patterntext_1, p_can_stand_patterntext_2, startE, ic, cs, beg]
    · by_cases h2 : lt c = true
      · simp [m_can_stand_patterntext, t_can_stand_patterntext_1, t_can_stand_patterntext_2, t_can_stand_patterntext_3, p_can_stand_patterntext_0, p_can_stand_patterntext_1, p_can_stand_patterntext_2, p_can_stand_patterntext_3, startE, ic, cs, beg, h1, h2, gd, kind1, slT, ct, lo, letters]
      · simp at h2
        simp [m_can_stand_patterntext, t_can_stand_patterntext_1, t_can_stand_patterntext_2, t_can_stand_patterntext_3, p_can_stand_patterntext_0, p_can_stand_patterntext_1, p_can_stand_patterntext_2, p_can_stand_patterntext_3, p_can_stand_patterntext_4, startE, ic, cs, beg, h1, h2, gd, kind1]
        by_cases h3 : c = 45 <;> simp [h3]
  | succ j =>
    have hj : j < X.length := by have := (List.getElem?_eq_some_iff.mp h).1; omega
    obtain ⟨p, hp⟩ : ∃ p, X[j]? = some p := ⟨X[j], List.getElem?_eq_getElem hj⟩
    have ip := idx_str (S := S) hp
    have ic : idxT (.str ⟨X.toArray⟩) (.int ((j : Int) + 1)) S = .ok (.str ⟨#[c]⟩) S := ic
    have ct : cutS ⟨X.toArray⟩ none (some ((j : Int) + 1)) = ⟨(X.take (j + 1)).toArray⟩ := ct
    have n0 : ¬ ((j : Int) + 1 = 0) := by omega
    by_cases h1 : c = 44
    · subst h1
      by_cases h4 : p = 44
      · simp [m_can_stand_patterntext, t_can_stand_patterntext_1, t_can_stand_patterntext_2, t_can_stand_patterntext_3, p_can_stand_patterntext_0, p_can_stand_patterntext_1, p_can_stand_patterntext_2, startE, ic, ip, n0, cs, beg, hp, h4]
      · simp [m_can_stand_patterntext, t_can_stand_patterntext_1, t_can_stand_patterntext_2, t_can_stand_patterntext_3, p_can_stand_patterntext_0, p_can_stand_patterntext_1, p_can_stand_patterntext_2, startE, ic, ip, n0, cs, beg, hp, h4, isRecv, gd, slT, ct, ck, cn]
    · by_cases h2 : lt c = true
      · by_cases h4 : p = 44
        · simp [m_can_stand_patterntext, t_can_stand_patterntext_1, t_can_stand_patterntext_2, t_can_stand_patterntext_3, p_can_stand_patterntext_0, p_can_stand_patterntext_1, p_can_stand_patterntext_2, p_can_stand_patterntext_3, startE, ic, ip, n0, cs, beg, hp, h1, h2, h4, gd, kind1, slT, ct, lo, ln]
        · by_cases h5 : lt p = true
          · by_cases h6 : p ≤ c
            · have h7 : ¬ c < p := by omega
              simp [m_can_stand_patterntext, t_can_stand_patterntext_1, t_can_stand_patterntext_2, t_can_stand_patterntext_3, p_can_stand_patterntext_0, p_can_stand_patterntext_1, p_can_stand_patterntext_2, p_can_stand_patterntext_3, startE, ic, ip, n0, cs, beg, upTo, hp, h1, h2, h4, h5, h6, h7, gd, kind1, slT, ct, lo, ln, leT, lt1]
            · have h7 : c < p := by omega
              simp [m_can_stand_patterntext, t_can_stand_patterntext_1, t_can_stand_patterntext_2, t_can_stand_patterntext_3, p_can_stand_patterntext_0, p_can_stand_patterntext_1, p_can_stand_patterntext_2, p_can_stand_patterntext_3, startE, ic, ip, n0, cs, beg, upTo, hp, h1, h2, h4, h5, h6, h7, gd, kind1, slT, ct, lo, ln, leT, lt1]
          · simp at h5
            simp [m_can_stand_patterntext, t_can_stand_patterntext_1, t_can_stand_patterntext_2, t_can_stand_patterntext_3, p_can_stand_patterntext_0, p_can_stand_patterntext_1, p_can_stand_patterntext_2, p_can_stand_patterntext_3, startE, ic, ip, n0, cs, beg, upTo, hp, h1, h2, h4, h5, gd, kind1, slT, ct, lo, ln, leT, lt1]
      · simp at h2
        by_cases h4 : p = 44
        · simp [m_can_stand_patterntext, t_can_stand_patterntext_1, t_can_stand_patterntext_2, t_can_stand_patterntext_3, p_can_stand_patterntext_0, p_can_stand_patterntext_1, p_can_stand_patterntext_2, p_can_stand_patterntext_3, p_can_stand_patterntext_4, startE, ic, ip, n0, cs, beg, hp, h1, h2, h4, gd, kind1]
          by_cases h3 : c = 45 <;> simp [h3]
        · simp [m_can_stand_patterntext, t_can_stand_patterntext_1, t_can_stand_patterntext_2, t_can_stand_patterntext_3, p_can_stand_patterntext_0, p_can_stand_patterntext_1, p_can_stand_patterntext_2, p_can_stand_patterntext_3, p_can_stand_patterntext_4, startE, ic, ip, n0, cs, beg, hp, h1, h2, h4, gd, kind1]
end

/-! ## deeds -/
abbrev Dd := List (Nat × Nat × Nat)
def goC (c : Nat) : Bool := lt c || (decide (c = 42) || decide (c = 126))
theorem cg_ok (c : Nat) : L_can_go [.str ⟨#[c]⟩] S = .ok (.bl (goC c)) S := by
  refine run_ret ?_
  unfold goC
  by_cases h : lt c = true
  · simp [m_can_go, startE, gd, kind1, h]
  · simp at h
    have e : ∀ d : Nat, (((⟨#[d]⟩ : Str) == ⟨#[c]⟩) : Bool) = decide (c = d) := fun d => by
      by_cases hd : c = d
      · subst hd; simp
      · have : ¬ (⟨#[d]⟩ : Str) = ⟨#[c]⟩ := by simp; omega
        simp [this, hd]
    simp [m_can_go, startE, gd, kind1, h, isiT, kindT, clsOf, kindsK, isK, inT, flatT, eqF, e]
def digC (c : Nat) : Bool := decide (c ∈ [48, 49, 50, 51, 52, 53])
theorem s_places : ("012345" : Str) = ⟨#[48, 49, 50, 51, 52, 53]⟩ := rfl
theorem in_places (c : Nat) : inT (.str ⟨#[c]⟩) (.str "012345") S = .ok (.bl (digC c)) S := by
  unfold inT
  dsimp only
  rw [PySem.StrLaws.found_one]
  rfl
def cd (X : List Nat) (k c : Nat) : Bool := if k % 3 = 0 then goC c else digC c && (match X[k - 1]? with
  | some p => !decide (c = p)
  | none => false)
theorem m33 : mulT (.int 3) (.int 3) S = .ok (.int 9) S := mul_c 3 3 (by decide)
theorem csd_ok {X : List Nat} {k c : Nat} (h : X[k]? = some c) (hk : k < 9) : L_can_stand_deedtext [.str ⟨X.toArray⟩, .int (k : Int)] S = .ok (.bl (cd X k c)) S := by
  refine run_ret ?_
  have ic := idx_str (S := S) h
  have n9 : ¬ ((k : Int) = 9) := by omega
  have p0 : p_can_stand_deedtext_0 [some (.str ⟨X.toArray⟩), some (.int (k : Int))] S = .nx [some (.str ⟨X.toArray⟩), some (.int (k : Int))] S := by simp [p_can_stand_deedtext_0, m33, n9]
  show m_can_stand_deedtext [some (.str ⟨X.toArray⟩), some (.int (k : Int))] S = _
  rw [m_can_stand_deedtext, seqM_eq, p0, RS.seq_nx]
  by_cases h3 : k % 3 = 0
  · have e3 : (k : Int) % 3 = 0 := by omega
    simp [t_can_stand_deedtext_1, p_can_stand_deedtext_1, gd, ic, cg_ok, e3, cd, h3]
  · have e3 : ¬ (k : Int) % 3 = 0 := by omega
    obtain ⟨j, rfl⟩ : ∃ j, k = j + 1 := ⟨k - 1, by omega⟩
    have hj : j < X.length := by have := (List.getElem?_eq_some_iff.mp h).1; omega
    obtain ⟨p, hp⟩ : ∃ p, X[j]? = some p := ⟨X[j], List.getElem?_eq_getElem hj⟩
    have ip := idx_str (S := S) hp
    have p1 : p_can_stand_deedtext_1 [some (.str ⟨X.toArray⟩), some (.int ((j + 1 : Nat) : Int))] S = .nx [some (.str ⟨X.toArray⟩), some (.int ((j + 1 : Nat) : Int))] S := by
      have e3' : ¬ ((j : Int) + 1) % 3 = 0 := e3
      simp [p_can_stand_deedtext_1, gd, e3']
    rw [t_can_stand_deedtext_1, seqM_eq, p1, RS.seq_nx]
    have ic' : idxT (.str ⟨X.toArray⟩) (.int ((j : Int) + 1)) S = .ok (.str ⟨#[c]⟩) S := ic
    by_cases hd : digC c = true
    · simp [p_can_stand_deedtext_2, ic', ip, in_places, hd, cd, h3, hp]
    · simp at hd
      simp [p_can_stand_deedtext_2, ic', ip, in_places, hd, cd, h3, hp]

theorem int_dig {s : Nat} (h : s < 6) : intF (.str ⟨#[48 + s]⟩) S = .ok (.int (s : Nat)) S := by
  have e : intText? ⟨#[48 + s]⟩ = some (s : Int) := by
    match s, h with
    | 0, _ => decide +kernel
    | 1, _ => decide +kernel
    | 2, _ => decide +kernel
    | 3, _ => decide +kernel
    | 4, _ => decide +kernel
    | 5, _ => decide +kernel
  unfold intF
  dsimp only
  rw [e]
  exact gd_pos (by show 1 ≤ 640; omega)
theorem num1 {s : Nat} (h : s < 10) : (toString ((s : Nat) : Int) : Str) = ⟨#[48 + s]⟩ := by
  refine str_inj.mpr ?_
  have := tl_num s
  rw [numL_lt h] at this
  exact this

end K5
end
section
set_option maxRecDepth 100000
set_option maxHeartbeats 2000000
namespace RL
open PySem L2
open scoped RL.R RL.RS
/-! ## loops by the number of the turn; loops that end within a turn -/
theorem RS.seq_stop {r : RS} (h : ∀ ρ S, r ≠ .nx ρ S) (f : MS) : r.seq f = r := by
  cases r with
  | nx ρ S => exact absurd rfl (h ρ S)
  | ret t S => rfl
  | err c fs S => rfl
  | bad => rfl
/-- all turns are gone -/
theorem forL_all {src : Src} {g : Tg} {body : MS} (I : Nat → Env' → Sto → Prop) (hG : ∀ k ρ S, I k ρ S → Grd src.2 src.1 S) : ∀ (l : List T) (k : Nat) {ρ : Env'} {S : Sto}, I k ρ S →
    (∀ j t ρ S, l[j]? = some t → I (k + j) ρ S → ∃ ρ1, tgT g t S ρ = some ρ1 ∧ ∃ ρ2 S2, body ρ1 S = .nx ρ2 S2 ∧ I (k + j + 1) ρ2 S2) → ∃ ρ2 S2, forL src g body l ρ S = .nx ρ2 S2 ∧ I (k + l.length) ρ2 S2
  | [], k, ρ, S, h, _ => ⟨ρ, S, forL_nil (hG k ρ S h), h⟩
  | t :: l, k, ρ, S, h, hs => by
    obtain ⟨ρ1, e1, ρ2, S2, e2, h2⟩ := hs 0 t ρ S rfl h
    obtain ⟨ρ3, S3, e3, h3⟩ := forL_all I hG l (k + 1) h2 fun j u ρ' S' hj hI => by
      have := hs (j + 1) u ρ' S' hj (by rw [show k + (j + 1) = k + 1 + j by omega]; exact hI)
      rw [show k + (j + 1) + 1 = k + 1 + j + 1 by omega] at this
      exact this
    refine ⟨ρ3, S3, by rw [forL_cons (hG k ρ S h) e1, e2, RS.seq_nx, e3], ?_⟩
    rw [List.length_cons, show k + (l.length + 1) = k + 1 + l.length by omega]
    exact h3
/-- the turn of the number n ends the loop -/
theorem forL_stop {src : Src} {g : Tg} {body : MS} {r : RS} (I : Nat → Env' → Sto → Prop) (hG : ∀ k ρ S, I k ρ S → Grd src.2 src.1 S) (hr : ∀ ρ S, r ≠ .nx ρ S) : ∀ (n k : Nat) (l : List T) {ρ : Env'} {S : Sto}, n < l.length → I k ρ S →
    (∀ j t ρ S, j < n → l[j]? = some t → I (k + j) ρ S → ∃ ρ1, tgT g t S ρ = some ρ1 ∧ ∃ ρ2 S2, body ρ1 S = .nx ρ2 S2 ∧ I (k + j + 1) ρ2 S2) →
    (∀ t ρ S, l[n]? = some t → I (k + n) ρ S → ∃ ρ1, tgT g t S ρ = some ρ1 ∧ body ρ1 S = r) → forL src g body l ρ S = r
  | _, _, [], _, _, hl, _, _, _ => absurd hl (by simp)
  | 0, k, t :: l, ρ, S, _, h, _, hn => by
    obtain ⟨ρ1, e1, e2⟩ := hn t ρ S rfl h
    rw [forL_cons (hG k ρ S h) e1, e2, RS.seq_stop hr]
  | n + 1, k, t :: l, ρ, S, hl, h, hs, hn => by
    obtain ⟨ρ1, e1, ρ2, S2, e2, h2⟩ := hs 0 t ρ S (by omega) rfl h
    rw [forL_cons (hG k ρ S h) e1, e2, RS.seq_nx]
    refine forL_stop I hG hr n (k + 1) l (by simpa using hl) h2 (fun j u ρ' S' hj hu hI => ?_) (fun u ρ' S' hu hI => ?_)
    · have := hs (j + 1) u ρ' S' (by omega) hu (by rw [show k + (j + 1) = k + 1 + j by omega]; exact hI)
      rw [show k + (j + 1) + 1 = k + 1 + j + 1 by omega] at this
      exact this
    · exact hn u ρ' S' hu (by rw [show k + (n + 1) = k + 1 + n by omega]; exact hI)
end RL
end
section
set_option maxRecDepth 100000
set_option maxHeartbeats 2000000
namespace K5
open PySem L2 TL RL
open scoped RL.R RL.RS
/-! ## reading any text as a deed -/
section
variable {S : Sto}
theorem csd_9 (X : List Nat) : L_can_stand_deedtext [.str ⟨X.toArray⟩, .int 9] S = .ok (.bl false) S := by
  refine run_ret ?_
  simp [m_can_stand_deedtext, p_can_stand_deedtext_0, startE, m33]
theorem csd_any {X : List Nat} {k c : Nat} (h : X[k]? = some c) (hk : k ≤ 9) : L_can_stand_deedtext [.str ⟨X.toArray⟩, .int (k : Int)] S = .ok (.bl (decide (k < 9) && cd X k c)) S := by
  by_cases h9 : k < 9
  · rw [csd_ok h h9, decide_eq_true h9, Bool.true_and]
  · obtain rfl : k = 9 := by omega
    exact csd_9 X
theorem rd_stop {X : List Nat} {n c : Nat} (hc : X[n]? = some c) (hn : n ≤ 9) (hb : ∀ k c, k < n → X[k]? = some c → cd X k c = true) (hf : (decide (n < 9) && cd X n c) = false) :
    forL ((List.range X.length).map fun i => T.int (0 + (i : Nat)), none) (.one 1) (ifS (m1 notT (m1 truthT (m1 (callF 2 L_can_stand_deedtext) (consM (varM 0) (consM (varM 1) nilM))))) (raiseM "BadText" "at" (varM 1)) nextM) ((List.range X.length).map fun i => T.int (0 + (i : Nat))) [some (.str ⟨X.toArray⟩), none, none] S = .err "BadText" [("at", .int (n : Nat))] S := by
  have hl : n < X.length := (List.getElem?_eq_some_iff.mp hc).1
  have at_ : ∀ {j : Nat} {t : T}, ((List.range X.length).map fun i => T.int (0 + (i : Nat)))[j]? = some t → t = .int (j : Nat) ∧ j < X.length := fun {j t} h => by
    rw [List.getElem?_map] at h
    cases e : (List.range X.length)[j]? with
    | none => rw [e] at h; cases h
    | some i =>
      rw [e] at h
      cases h
      obtain ⟨h1, h2⟩ := List.getElem?_eq_some_iff.mp e
      rw [List.getElem_range] at h2
      subst h2
      exact ⟨by simp, by simpa using h1⟩
  refine forL_stop (src := ((List.range X.length).map fun i => T.int (0 + (i : Nat)), none)) (fun _ ρ S' => S' = S ∧ ∃ o, ρ = [some (.str ⟨X.toArray⟩), o, none]) (fun _ _ _ _ => trivial) (fun _ _ => by intro z; cases z) n 0 _ (by simpa using hl) ⟨rfl, none, rfl⟩ (fun j t ρ S' hj ht hI => ?_) (fun t ρ S' ht hI => ?_)
  · obtain ⟨rfl, o, rfl⟩ := hI
    obtain ⟨rfl, hx⟩ := at_ ht
    obtain ⟨d, hd⟩ : ∃ d, X[j]? = some d := ⟨X[j], List.getElem?_eq_getElem hx⟩
    have r := csd_any (S := S') hd (by omega)
    rw [hb j d hj hd, decide_eq_true (show j < 9 by omega)] at r
    refine ⟨_, rfl, _, S', ?_, rfl, some (.int (j : Nat)), rfl⟩
    simp [gd, r]
  · obtain ⟨rfl, o, rfl⟩ := hI
    obtain ⟨rfl, hx⟩ := at_ ht
    have r := csd_any (S := S') hc hn
    rw [hf] at r
    refine ⟨_, rfl, ?_⟩
    simp [gd, r]
def firstN (p : Nat → Nat → Bool) : Nat → List Nat → Option Nat
  | _, [] => none
  | k, c :: l => if p k c = true then firstN p (k + 1) l else some k
theorem firstN_none {p : Nat → Nat → Bool} : ∀ {l : List Nat} {k : Nat}, firstN p k l = none → ∀ (j c : Nat), l[j]? = some c → p (k + j) c = true
  | [], _, _, j, c, h => by simp at h
  | d :: l, k, e, j, c, h => by
    unfold firstN at e
    by_cases hp : p k d = true
    · rw [if_pos hp] at e
      cases j with
      | zero => cases h; exact hp
      | succ j =>
        have := firstN_none e j c h
        rw [show k + (j + 1) = k + 1 + j by omega]
        exact this
    · rw [if_neg hp] at e
      cases e
theorem firstN_some {p : Nat → Nat → Bool} : ∀ {l : List Nat} {k m : Nat}, firstN p k l = some m → ∃ n c, m = k + n ∧ l[n]? = some c ∧ p m c = false ∧ ∀ (j d : Nat), j < n → l[j]? = some d → p (k + j) d = true
  | [], _, _, e => by cases e
  | d :: l, k, m, e => by
    unfold firstN at e
    by_cases hp : p k d = true
    · rw [if_pos hp] at e
      obtain ⟨n, c, e1, e2, e3, e4⟩ := firstN_some e
      refine ⟨n + 1, c, by omega, e2, e3, fun j u hj hu => ?_⟩
      cases j with
      | zero => cases hu; exact hp
      | succ j =>
        have := e4 j u (by omega) hu
        rw [show k + (j + 1) = k + 1 + j by omega]
        exact this
    · rw [if_neg hp] at e
      cases e
      exact ⟨0, d, rfl, rfl, by simpa using hp, fun j u hj _ => by omega⟩
/-- may the sign c stand at the place k of a deed's text X -/
def okD (X : List Nat) (k c : Nat) : Bool := decide (k < 9) && cd X k c
/-- the fault of a text as a deed's -/
def faultD (X : List Nat) : Option Nat :=
  if X = [45] then none else if X[0]? = some 45 then some 1 else match firstN (okD X) 0 X with
  | some n => some n
  | none => if X = [] ∨ X.length % 3 ≠ 0 then some X.length else none
end
end K5
end
section
set_option maxRecDepth 100000
set_option maxHeartbeats 2000000
namespace K5
open PySem L2 TL RL
open scoped RL.R RL.RS
section
variable {S : Sto}
theorem rng_n (n : Nat) (h : n ≤ 2000) : rng1T [.int (n : Nat)] S = .ok ((List.range n).map fun i => T.int (0 + (i : Nat)), none) S := by
  unfold rng1T
  dsimp only
  rw [gd_pos ⟨by omega, by omega⟩, Int.toNat_natCast]
theorem sub_1 (x : Str) (c i : Nat) : (decide (i + (⟨#[c]⟩ : Str).length ≤ x.length) && Builtin.Str.subAt x ⟨#[c]⟩ i) = decide (x.cps.toList[i]? = some c) := by
  rw [Bool.eq_iff_iff, Bool.and_eq_true, decide_eq_true_eq, decide_eq_true_eq]
  exact PySem.StrLaws.subAt_one x c i
theorem sw_1 (X : List Nat) (c : Nat) : swT (.str ⟨X.toArray⟩) [.str ⟨#[c]⟩] S = .ok (.bl (decide (X[0]? = some c))) S := by
  have e : Txt.startswith ⟨X.toArray⟩ ⟨#[c]⟩ = decide (X[0]? = some c) := by
    have := sub_1 ⟨X.toArray⟩ c 0
    rw [show (⟨X.toArray⟩ : Str).cps.toList = X from rfl] at this
    rw [← this]
    rfl
  unfold swT
  dsimp only
  rw [e]
theorem rd_all {X : List Nat} (hb : ∀ k c, X[k]? = some c → okD X k c = true) : ∃ o, forL ((List.range X.length).map fun i => T.int (0 + (i : Nat)), none) (.one 1) (ifS (m1 notT (m1 truthT (m1 (callF 2 L_can_stand_deedtext) (consM (varM 0) (consM (varM 1) nilM))))) (raiseM "BadText" "at" (varM 1)) nextM) ((List.range X.length).map fun i => T.int (0 + (i : Nat))) [some (.str ⟨X.toArray⟩), none, none] S = .nx [some (.str ⟨X.toArray⟩), o, none] S := by
  obtain ⟨ρ2, S2, h1, h2, o, h3⟩ := forL_inv (src := ((List.range X.length).map fun i => T.int (0 + (i : Nat)), none)) (g := .one 1) (body := ifS (m1 notT (m1 truthT (m1 (callF 2 L_can_stand_deedtext) (consM (varM 0) (consM (varM 1) nilM))))) (raiseM "BadText" "at" (varM 1)) nextM)
    (fun ρ S' => S' = S ∧ ∃ o, ρ = [some (.str ⟨X.toArray⟩), o, none]) (fun _ _ _ => trivial) ((List.range X.length).map fun i => T.int (0 + (i : Nat))) (ρ := [some (.str ⟨X.toArray⟩), none, none]) (S := S) ⟨rfl, none, rfl⟩ (fun t ht ρ S' hI => by
      obtain ⟨rfl, o, rfl⟩ := hI
      obtain ⟨k, hk, rfl⟩ := List.mem_map.mp ht
      have hk := List.mem_range.mp hk
      obtain ⟨c, hc⟩ : ∃ c, X[k]? = some c := ⟨X[k], List.getElem?_eq_getElem hk⟩
      have h2 := hb k c hc
      have k9 : k < 9 := of_decide_eq_true (Bool.and_eq_true_iff.mp h2).1
      have r := csd_any (S := S') (X := X) (k := k) (c := c) hc (by omega)
      rw [show (decide (k < 9) && cd X k c) = true from h2] at r
      refine ⟨_, rfl, _, S', ?_, rfl, some (.int (0 + (k : Nat))), rfl⟩
      simp [gd, r])
  subst h2 h3
  exact ⟨o, h1⟩
/-- what a text is refused with, when it is read as a deed -/
theorem read_deed_bad {X : List Nat} {m : Nat} (len : X.length ≤ 2000) (h : faultD X = some m) : L_read_deed [.str ⟨X.toArray⟩] S = .err "BadText" [("at", .int (m : Nat))] S := by
  refine run_err ?_
  show m_read_deed [some (.str ⟨X.toArray⟩), none, none] S = _
  unfold faultD at h
  by_cases h1 : X = [45]
  · rw [if_pos h1] at h; cases h
  rw [if_neg h1] at h
  have s0 : p_read_deed_0 [some (.str ⟨X.toArray⟩), none, none] S = .nx [some (.str ⟨X.toArray⟩), none, none] S := by simp [p_read_deed_0, isiT, kindT, clsOf, kindsK, isK, gd]
  have s1 : p_read_deed_1 [some (.str ⟨X.toArray⟩), none, none] S = .nx [some (.str ⟨X.toArray⟩), none, none] S := by simp [p_read_deed_1, h1]
  rw [m_read_deed, seqM_eq, s0, RS.seq_nx, t_read_deed_1, seqM_eq, s1, RS.seq_nx, t_read_deed_2, seqM_eq]
  have sw := sw_1 (S := S) X 45
  by_cases h2 : X[0]? = some 45
  · rw [if_pos h2] at h
    cases h
    rw [decide_eq_true h2] at sw
    have s2 : p_read_deed_2 [some (.str ⟨X.toArray⟩), none, none] S = .err "BadText" [("at", .int 1)] S := by
      unfold p_read_deed_2
      simp only [ifS_eq, m1_eq, bmM_eq, vc0, R.bind_ok, isRecv, gd_pos (show ("str" == "str") = true from rfl), consM_eq, retM_eq, nilM_eq, s_minus, sw, truth_bl, R.bindS_ok]
      rfl
    rw [s2]
    rfl
  rw [if_neg h2] at h
  rw [decide_eq_false h2] at sw
  have s2 : p_read_deed_2 [some (.str ⟨X.toArray⟩), none, none] S = .nx [some (.str ⟨X.toArray⟩), none, none] S := by
    unfold p_read_deed_2
    simp only [ifS_eq, m1_eq, bmM_eq, vc0, R.bind_ok, isRecv, gd_pos (show ("str" == "str") = true from rfl), consM_eq, retM_eq, nilM_eq, s_minus, sw, truth_bl, R.bindS_ok]
    rfl
  rw [s2, RS.seq_nx, t_read_deed_3, seqM_eq]
  have e1 : consM (m1 (f1 lenT) (consM (varM 0) nilM)) nilM [some (.str ⟨X.toArray⟩), none, none] S = .ok [T.int (X.length : Nat)] S := by
    simp only [m1_eq, consM_eq, nilM_eq, vc0, R.bind_ok, f1_eq, len_str, lenS]
  have e2 : m1 rng1T (consM (m1 (f1 lenT) (consM (varM 0) nilM)) nilM) [some (.str ⟨X.toArray⟩), none, none] S = .ok ((List.range X.length).map fun i => T.int (0 + (i : Nat)), none) S := by
    rw [m1_eq, e1, R.bind_ok]
    exact rng_n _ len
  rw [p_read_deed_3, forM_eq, e2, R.bindS_ok]
  cases hf : firstN (okD X) 0 X with
  | some n =>
    rw [hf] at h
    cases h
    obtain ⟨n', c, e, hc, hbad, hgood⟩ := firstN_some hf
    obtain rfl : m = n' := by omega
    have loop := rd_stop (S := S) hc (by
      by_cases h9 : m ≤ 9
      · exact h9
      · obtain ⟨d, hd⟩ : ∃ d, X[9]? = some d := ⟨X[9]'(by have := (List.getElem?_eq_some_iff.mp hc).1; omega), List.getElem?_eq_getElem _⟩
        have := hgood 9 d (by omega) hd
        exact absurd this (by simp [okD])) (fun k d hk hd => by
      have := hgood k d hk hd
      rw [show 0 + k = k by omega] at this
      exact (Bool.and_eq_true_iff.mp this).2) hbad
    rw [loop]
    rfl
  | none =>
    rw [hf] at h
    dsimp only at h
    obtain ⟨o, loop⟩ := rd_all (S := S) (X := X) fun k c hc => by
      have := firstN_none hf k c hc
      rw [show 0 + k = k by omega] at this
      exact this
    by_cases h3 : X = [] ∨ X.length % 3 ≠ 0
    · rw [if_pos h3] at h
      cases h
      have s4 : p_read_deed_4 [some (.str ⟨X.toArray⟩), o, none] S = .err "BadText" [("at", .int (X.length : Nat))] S := by
        rcases h3 with h3 | h3
        · subst h3
          simp [p_read_deed_4, gd]
        · by_cases x0 : X = []
          · subst x0
            simp at h3
          · have m3 : ¬ ((X.length : Int) % 3 = 0) := by omega
            simp [p_read_deed_4, gd, x0, m3]
      rw [loop, RS.seq_nx, t_read_deed_4, seqM_eq, s4]
      rfl
    · rw [if_neg h3] at h
      cases h
end
end K5
end
section
set_option maxRecDepth 100000
set_option maxHeartbeats 2000000
namespace K5
open PySem L2 TL RL
open scoped RL.R RL.RS
section
variable {S : Sto}
/-! ## what a good text of a deed tells -/
def tripT (X : List Nat) (k : Nat) : T := .tup [.str ⟨#[X.getD (3 * k) 0]⟩, .int ((X.getD (3 * k + 1) 0 - 48 : Nat) : Int), .int ((X.getD (3 * k + 2) 0 - 48 : Nat) : Int)]
def toldD (X : List Nat) : List T := if X = [45] then [] else (List.range (X.length / 3)).map (tripT X)
theorem dig_int {c : Nat} (h : digC c = true) : intF (.str ⟨#[c]⟩) S = .ok (.int ((c - 48 : Nat) : Int)) S := by
  have hc : c = 48 + (c - 48) ∧ c - 48 < 6 := by
    unfold digC at h
    simp at h
    omega
  have := int_dig (S := S) hc.2
  rw [← hc.1] at this
  exact this
/-- the good texts but the one of no step -/
structure GoodD (X : List Nat) : Prop where
  all : ∀ k c, X[k]? = some c → okD X k c = true
  ne : X ≠ []
  m3 : X.length % 3 = 0
theorem GoodD.len {X : List Nat} (g : GoodD X) : X.length ≤ 9 := by
  by_cases h : X.length ≤ 9
  · exact h
  · obtain ⟨c, hc⟩ : ∃ c, X[9]? = some c := ⟨X[9]'(by omega), List.getElem?_eq_getElem _⟩
    exact absurd (g.all 9 c hc) (by simp [okD])
theorem GoodD.cd {X : List Nat} (g : GoodD X) {k c : Nat} (h : X[k]? = some c) : cd X k c = true := (Bool.and_eq_true_iff.mp (g.all k c h)).2
theorem GoodD.at_ {X : List Nat} (g : GoodD X) {k : Nat} (h : k < X.length / 3) : ∃ a b c, X[3 * k]? = some a ∧ X[3 * k + 1]? = some b ∧ X[3 * k + 2]? = some c ∧ digC b = true ∧ digC c = true ∧ tripT X k = .tup [.str ⟨#[a]⟩, .int ((b - 48 : Nat) : Int), .int ((c - 48 : Nat) : Int)] := by
  have l0 : 3 * k + 2 < X.length := by omega
  have h0 : X[3 * k]? = some (X[3 * k]'(by omega)) := List.getElem?_eq_getElem _
  have h1 : X[3 * k + 1]? = some (X[3 * k + 1]'(by omega)) := List.getElem?_eq_getElem _
  have h2 : X[3 * k + 2]? = some (X[3 * k + 2]'(by omega)) := List.getElem?_eq_getElem _
  have c1 := g.cd h1
  have c2 := g.cd h2
  unfold K5.cd at c1 c2
  rw [if_neg (by omega)] at c1 c2
  refine ⟨_, _, _, h0, h1, h2, (Bool.and_eq_true_iff.mp c1).1, (Bool.and_eq_true_iff.mp c2).1, ?_⟩
  unfold tripT
  rw [List.getD_eq_getElem?_getD, List.getD_eq_getElem?_getD, List.getD_eq_getElem?_getD, h0, h1, h2]
  rfl
theorem fault_none {X : List Nat} (h : faultD X = none) : X = [45] ∨ (X ≠ [45] ∧ X[0]? ≠ some 45 ∧ GoodD X) := by
  unfold faultD at h
  by_cases h1 : X = [45]
  · exact .inl h1
  rw [if_neg h1] at h
  by_cases h2 : X[0]? = some 45
  · rw [if_pos h2] at h; cases h
  rw [if_neg h2] at h
  cases e : firstN (okD X) 0 X with
  | some n => rw [e] at h; cases h
  | none =>
    rw [e] at h
    dsimp only at h
    by_cases h3 : X = [] ∨ X.length % 3 ≠ 0
    · rw [if_pos h3] at h; cases h
    · refine .inr ⟨h1, h2, fun k c hc => ?_, fun z => h3 (.inl z), by
        by_cases z : X.length % 3 = 0
        · exact z
        · exact absurd (.inr z) h3⟩
      have := firstN_none e k c hc
      rw [Nat.zero_add] at this
      exact this
theorem rngD {X : List Nat} (g : GoodD X) : rng3T [.int 0, .int (X.length : Nat), .int 3] S = .ok ((List.range (X.length / 3)).map fun k => T.int (0 + (k : Nat) * 3), none) S := by
  have l := g.len
  have m := g.m3
  unfold rng3T
  dsimp only
  have e : (Builtin.Range.rangeSize 0 (X.length : Nat) 3).toNat = X.length / 3 := by
    have c : X.length = 0 ∨ X.length = 3 ∨ X.length = 6 ∨ X.length = 9 := by omega
    rcases c with c | c | c | c <;> rw [c] <;> decide +kernel
  have r : RgC 0 (X.length : Nat) 3 (Builtin.Range.rangeSize 0 (X.length : Nat) 3).toNat := by
    have c : X.length = 0 ∨ X.length = 3 ∨ X.length = 6 ∨ X.length = 9 := by omega
    rcases c with c | c | c | c <;> rw [c] <;> constructor <;> decide +kernel
  rw [gdc_pos r, e]
def stepF (X : List Nat) (t : T) : T := match t with
  | .int j => tripT X (j.toNat / 3)
  | _ => .non
def stepG (X : List Nat) (t : T) : T := match t with
  | .int j => tripT X j.toNat
  | _ => .non
theorem rdD_items {X : List Nat} (g : GoodD X) (o : Option T) (l0 : List T) :
    lcL (l0, none) (.one 2) yesM (m1 tupT (consM (m2 idxT (varM 0) (varM 2)) (consM (m1 (f1 intF) (consM (m2 idxT (varM 0) (m2 addT (varM 2) (retM (.int 1)))) nilM)) (consM (m1 (f1 intF) (consM (m2 idxT (varM 0) (m2 addT (varM 2) (retM (.int 2)))) nilM)) nilM)))) ((List.range (X.length / 3)).map fun k => T.int (0 + (k : Nat) * 3)) [] [some (.str ⟨X.toArray⟩), o, none] S = .ok ((List.range (X.length / 3)).map (tripT X)) S := by
  have l := g.len
  rw [lcl1 (stepF X) _ _ (by simp; omega)]
  · congr 1
    rw [List.nil_append, List.map_map]
    refine List.map_congr_left fun k _ => ?_
    have e : (0 + (k : Int) * 3).toNat / 3 = k := by omega
    simp only [Function.comp_apply, stepF, e]
  · intro t ht
    obtain ⟨k, hk, rfl⟩ := List.mem_map.mp ht
    have hk := List.mem_range.mp hk
    have e : (0 + (k : Int) * 3).toNat / 3 = k := by omega
    obtain ⟨a, b, c, h0, h1, h2, o2, o3, tr⟩ := g.at_ hk
    have i0 := idx_str (S := S) h0
    have i1 := idx_str (S := S) h1
    have i2 := idx_str (S := S) h2
    rw [show ((3 * k : Nat) : Int) = 0 + (k : Int) * 3 by omega] at i0
    rw [show ((3 * k + 1 : Nat) : Int) = 0 + (k : Int) * 3 + 1 by omega] at i1
    rw [show ((3 * k + 2 : Nat) : Int) = 0 + (k : Int) * 3 + 2 by omega] at i2
    have r : stepF X (.int (0 + (k : Int) * 3)) = .tup [.str ⟨#[a]⟩, .int ((b - 48 : Nat) : Int), .int ((c - 48 : Nat) : Int)] := by simp only [stepF, e, tr]
    rw [r]
    simp only [m1_eq, m2_eq, consM_eq, nilM_eq, retM_eq, List.set, vc0, vc2, R.bind_ok, add_int, i0, i1, i2, f1_eq, dig_int o2, dig_int o3, tupT_eq]
    rfl
theorem tdD_items {X : List Nat} (g : GoodD X) (l0 : List T) :
    lcL (l0, none) (.one 1) yesM (m1 tupT (consM (m2 idxT (varM 0) (m2 mulT (retM (.int 3)) (varM 1))) (consM (m1 (f1 intF) (consM (m2 idxT (varM 0) (m2 addT (m2 mulT (retM (.int 3)) (varM 1)) (retM (.int 1)))) (nilM))) (consM (m1 (f1 intF) (consM (m2 idxT (varM 0) (m2 addT (m2 mulT (retM (.int 3)) (varM 1)) (retM (.int 2)))) (nilM))) (nilM))))) ((List.range (X.length / 3)).map fun i => T.int (0 + (i : Nat))) [] [some (.str ⟨X.toArray⟩), none] S = .ok ((List.range (X.length / 3)).map (tripT X)) S := by
  have l := g.len
  have m3 : ∀ z : Int, mulT (.int 3) (.int z) S = .ok (.int (3 * z)) S := fun z => mul_d 3 z (by decide)
  rw [lcl1 (stepG X) _ _ (by simp; omega)]
  · congr 1
    rw [List.nil_append, List.map_map]
    refine List.map_congr_left fun k _ => ?_
    have e : (0 + (k : Int)).toNat = k := by omega
    simp only [Function.comp_apply, stepG, e]
  · intro t ht
    obtain ⟨k, hk, rfl⟩ := List.mem_map.mp ht
    have hk := List.mem_range.mp hk
    have e : (0 + (k : Int)).toNat = k := by omega
    obtain ⟨a, b, c, h0, h1, h2, o2, o3, tr⟩ := g.at_ hk
    have i0 := idx_str (S := S) h0
    have i1 := idx_str (S := S) h1
    have i2 := idx_str (S := S) h2
    rw [show ((3 * k : Nat) : Int) = 3 * (0 + (k : Int)) by omega] at i0
    rw [show ((3 * k + 1 : Nat) : Int) = 3 * (0 + (k : Int)) + 1 by omega] at i1
    rw [show ((3 * k + 2 : Nat) : Int) = 3 * (0 + (k : Int)) + 2 by omega] at i2
    have r : stepG X (.int (0 + (k : Int))) = .tup [.str ⟨#[a]⟩, .int ((b - 48 : Nat) : Int), .int ((c - 48 : Nat) : Int)] := by simp only [stepG, e, tr]
    rw [r]
    simp only [m1_eq, m2_eq, consM_eq, nilM_eq, retM_eq, List.set, vc0, vc1, R.bind_ok, m3, add_int, i0, i1, i2, f1_eq, dig_int o2, dig_int o3, tupT_eq]
    rfl
theorem read_deed_told {X : List Nat} (h : faultD X = none) : L_read_deed [.str ⟨X.toArray⟩] S = .ok (.tup (toldD X)) S := by
  rcases fault_none h with rfl | ⟨n45, h0, g⟩
  · refine run_ret ?_
    simp [m_read_deed, t_read_deed_1, p_read_deed_0, p_read_deed_1, startE, isiT, kindT, clsOf, kindsK, isK, gd, toldD]
  · have lenX := g.len
    obtain ⟨o, loop⟩ := rd_all (S := S) (X := X) g.all
    have rg := rng_n (S := S) X.length (by omega)
    have items := rdD_items (S := S) g o ((List.range (X.length / 3)).map fun k => T.int (0 + (k : Nat) * 3))
    have r3 := rngD (S := S) g
    have x0 : ¬ X = [] := g.ne
    have sw := sw_1 (S := S) X 45
    rw [decide_eq_false h0] at sw
    have m3 : (X.length : Int) % 3 = 0 := by have := g.m3; omega
    refine run_ret ?_
    have s0 : p_read_deed_0 [some (.str ⟨X.toArray⟩), none, none] S = .nx [some (.str ⟨X.toArray⟩), none, none] S := by simp [p_read_deed_0, isiT, kindT, clsOf, kindsK, isK, gd]
    have s1 : p_read_deed_1 [some (.str ⟨X.toArray⟩), none, none] S = .nx [some (.str ⟨X.toArray⟩), none, none] S := by simp [p_read_deed_1, n45]
    have s2 : p_read_deed_2 [some (.str ⟨X.toArray⟩), none, none] S = .nx [some (.str ⟨X.toArray⟩), none, none] S := by
      unfold p_read_deed_2
      simp only [ifS_eq, m1_eq, bmM_eq, vc0, R.bind_ok, isRecv, gd_pos (show ("str" == "str") = true from rfl), consM_eq, retM_eq, nilM_eq, s_minus, sw, truth_bl, R.bindS_ok]
      rfl
    have s3 : p_read_deed_3 [some (.str ⟨X.toArray⟩), none, none] S = .nx [some (.str ⟨X.toArray⟩), o, none] S := by
      have e1 : consM (m1 (f1 lenT) (consM (varM 0) nilM)) nilM [some (.str ⟨X.toArray⟩), none, none] S = .ok [T.int (X.length : Nat)] S := by
        simp only [m1_eq, consM_eq, nilM_eq, vc0, R.bind_ok, f1_eq, len_str, lenS]
      have e2 : m1 rng1T (consM (m1 (f1 lenT) (consM (varM 0) nilM)) nilM) [some (.str ⟨X.toArray⟩), none, none] S = .ok ((List.range X.length).map fun i => T.int (0 + (i : Nat)), none) S := by
        rw [m1_eq, e1, R.bind_ok]
        exact rg
      rw [p_read_deed_3, forM_eq, e2, R.bindS_ok]
      exact loop
    have s4 : p_read_deed_4 [some (.str ⟨X.toArray⟩), o, none] S = .nx [some (.str ⟨X.toArray⟩), o, none] S := by simp [p_read_deed_4, gd, x0, m3]
    have s5 : p_read_deed_5 [some (.str ⟨X.toArray⟩), o, none] S = .ret (.tup (toldD X)) S := by
      have e1 : consM (retM (.int 0)) (consM (m1 (f1 lenT) (consM (varM 0) nilM)) (consM (retM (.int 3)) nilM)) [some (.str ⟨X.toArray⟩), o, none] S = .ok [.int 0, T.int (X.length : Nat), .int 3] S := by
        simp only [m1_eq, consM_eq, nilM_eq, retM_eq, vc0, R.bind_ok, f1_eq, len_str, lenS]
      have e2 : m1 rng3T (consM (retM (.int 0)) (consM (m1 (f1 lenT) (consM (varM 0) nilM)) (consM (retM (.int 3)) nilM))) [some (.str ⟨X.toArray⟩), o, none] S = .ok ((List.range (X.length / 3)).map fun k => T.int (0 + (k : Nat) * 3), none) S := by
        rw [m1_eq, e1, R.bind_ok]
        exact r3
      have l2 : ((List.range (X.length / 3)).map (tripT X)).length ≤ 16777216 := by simp; omega
      rw [p_read_deed_5, retS_eq, m1_eq, consM_eq, lcM_eq, e2, R.bind_ok]
      simp only [wipeE, List.set]
      rw [items]
      simp only [calm_ok, R.bind_ok, lstT_f, if_pos l2, nilM_eq, f1_eq, tupleT, itemsT, R.bindS_ok]
      rw [toldD, if_neg n45]
    show m_read_deed [some (.str ⟨X.toArray⟩), none, none] S = _
    rw [m_read_deed, seqM_eq, s0, RS.seq_nx, t_read_deed_1, seqM_eq, s1, RS.seq_nx, t_read_deed_2, seqM_eq, s2, RS.seq_nx, t_read_deed_3, seqM_eq, s3, RS.seq_nx, t_read_deed_4, seqM_eq, s4, RS.seq_nx, s5]
theorem fd3 (n : Nat) : fdivT (.int (n : Nat)) (.int 3) S = .ok (.int ((n / 3 : Nat) : Int)) S := by
  have e : ((n : Nat) : Int) / 3 = ((n / 3 : Nat) : Int) := by omega
  rw [← e]
  exact fdiv_c _ 3 (by decide) (by decide)
theorem law_deed_told0 : L__law_deed_told [.str ⟨#[45]⟩] S = .ok (.tup []) S := by
  refine run_ret ?_
  simp [m__law_deed_told, p__law_deed_told_0, startE]
theorem tdD_src (X : List Nat) (h : X.length ≤ 9) : m1 rng1T (consM (m2 fdivT (m1 (f1 lenT) (consM (varM 0) (nilM))) (retM (.int 3))) (nilM)) [some (.str ⟨X.toArray⟩), none] S = .ok ((List.range (X.length / 3)).map fun i => T.int (0 + (i : Nat)), none) S := by
  have a : consM (m2 fdivT (m1 (f1 lenT) (consM (varM 0) (nilM))) (retM (.int 3))) (nilM) [some (.str ⟨X.toArray⟩), none] S = .ok [T.int ((X.length / 3 : Nat) : Int)] S := by
    simp only [m1_eq, m2_eq, consM_eq, nilM_eq, retM_eq, vc0, R.bind_ok, f1_eq, len_str, lenS, fd3]
  rw [m1_eq, a, R.bind_ok]
  exact rng_n _ (by omega)
theorem law_deed_told1 {X : List Nat} (n45 : ¬ X = [45]) (g : GoodD X) : L__law_deed_told [.str ⟨X.toArray⟩] S = .ok (.tup ((List.range (X.length / 3)).map (tripT X))) S := by
  have lenX := g.len
  have items := tdD_items (S := S) g ((List.range (X.length / 3)).map fun i => T.int (0 + (i : Nat)))
  have l2 : ((List.range (X.length / 3)).map (tripT X)).length ≤ 16777216 := by simp; omega
  have s0 : p__law_deed_told_0 [some (.str ⟨X.toArray⟩), none] S = .nx [some (.str ⟨X.toArray⟩), none] S := by simp [p__law_deed_told_0, n45]
  have e2 := tdD_src (S := S) X lenX
  refine run_ret ?_
  show m__law_deed_told [some (.str ⟨X.toArray⟩), none] S = _
  rw [m__law_deed_told, seqM_eq, s0, RS.seq_nx, p__law_deed_told_1, retS_eq, m1_eq, consM_eq, lcM_eq, e2, R.bind_ok]
  simp only [wipeE, List.set]
  rw [items]
  simp only [calm_ok, R.bind_ok, lstT_f, if_pos l2, nilM_eq, f1_eq, tupleT, itemsT, R.bindS_ok]
theorem law_deed_told {X : List Nat} (h : faultD X = none) : L__law_deed_told [.str ⟨X.toArray⟩] S = .ok (.tup (toldD X)) S := by
  rcases fault_none h with rfl | ⟨n45, h0, g⟩
  · exact law_deed_told0
  · rw [law_deed_told1 n45 g, toldD, if_neg n45]
end
end K5
end
section
set_option maxRecDepth 100000
set_option maxHeartbeats 2000000
namespace K5
open PySem L2 TL RL
open scoped RL.R RL.RS
def codeO : Option Nat → Int
  | none => -1
  | some m => m
def abc28 : Str := "abcdefghijklmnopqrstuvwxyz*~"
theorem s_abc28 : ("abcdefghijklmnopqrstuvwxyz*~" : Str) = abc28 := rfl
theorem abc28_len : abc28.length ≤ 16777216 := by decide +kernel
def digs6 : Str := "012345"
theorem s_digs6 : ("012345" : Str) = digs6 := rfl
theorem digs6_len : digs6.length ≤ 16777216 := by decide +kernel
section
variable {S : Sto}
theorem in_abc28 (c : Nat) : inT (.str ⟨#[c]⟩) (.str abc28) S = .ok (.bl (goC c)) S := by
  unfold inT
  dsimp only
  rw [PySem.StrLaws.found_one]
  have e : abc28.cps.toList = ((List.range 26).map fun i => 97 + i) ++ [42, 126] := by decide +kernel
  have : (decide (c ∈ abc28.cps.toList)) = goC c := by
    rw [e]
    unfold goC lt
    rw [Bool.eq_iff_iff]
    simp
    constructor
    · rintro (⟨a, h1, h2⟩ | h)
      · omega
      · omega
    · rintro (h | h)
      · exact .inl ⟨c - 97, by omega, by omega⟩
      · exact .inr h
  rw [← this]
theorem nin_abc28 (c : Nat) : ninT (.str ⟨#[c]⟩) (.str abc28) S = .ok (.bl (!goC c)) S := by
  unfold ninT
  rw [in_abc28]
  rfl
theorem nin_digs (c : Nat) : ninT (.str ⟨#[c]⟩) (.str digs6) S = .ok (.bl (!digC c)) S := by
  unfold ninT
  rw [← s_digs6, in_places]
  rfl
def sgn (r : Nat) : Str := if r = 0 then abc28 else digs6
def inSg (r c : Nat) : Bool := if r = 0 then goC c else digC c
theorem nin_sgn (r c : Nat) : ninT (.str ⟨#[c]⟩) (.str (sgn r)) S = .ok (.bl (!inSg r c)) S := by
  unfold sgn inSg
  by_cases h : r = 0
  · rw [if_pos h, if_pos h, nin_abc28]
  · rw [if_neg h, if_neg h, nin_digs]
theorem sgn_at {n : Nat} : idxT (.lst [.str abc28, .str digs6, .str digs6]) (.int ((n : Int) % 3)) S = .ok (.str (sgn (n % 3))) S := by
  have c : n % 3 = 0 ∨ n % 3 = 1 ∨ n % 3 = 2 := by omega
  rcases c with c | c | c
  · rw [show (n : Int) % 3 = 0 by omega, c]; rfl
  · rw [show (n : Int) % 3 = 1 by omega, c]; rfl
  · rw [show (n : Int) % 3 = 2 by omega, c]; rfl
def lbD (X : List Nat) (n c : Nat) : Bool := decide (n = 9) || (!inSg (n % 3) c || (decide (n % 3 = 2) && decide (X[n - 1]? = some c)))
theorem lbD_ok {X : List Nat} {n c : Nat} (hn : n ≤ 9) (hc : X[n]? = some c) (hb : ∀ k d, k < n → X[k]? = some d → okD X k d = true) : lbD X n c = !okD X n c := by
  unfold lbD okD cd inSg
  have hl := (List.getElem?_eq_some_iff.mp hc).1
  by_cases h9 : n = 9
  · subst h9; rfl
  · have h9' : n < 9 := by omega
    rw [decide_eq_false h9, decide_eq_true h9']
    by_cases h0 : n % 3 = 0
    · rw [if_pos h0, if_pos h0, decide_eq_false (by omega : ¬ n % 3 = 2)]
      cases goC c <;> rfl
    · rw [if_neg h0, if_neg h0]
      obtain ⟨p, hp⟩ : ∃ p, X[n - 1]? = some p := ⟨X[n - 1]'(by omega), List.getElem?_eq_getElem _⟩
      rw [hp]
      dsimp only
      by_cases h2 : n % 3 = 2
      · rw [decide_eq_true h2]
        by_cases e : c = p
        · subst e; cases digC c <;> simp
        · have e' : ¬ p = c := fun z => e z.symm
          cases digC c <;> simp [e, e']
      · rw [decide_eq_false h2]
        have hq := hb (n - 1) p (by omega) hp
        unfold okD cd at hq
        rw [if_pos (by omega : (n - 1) % 3 = 0)] at hq
        have gp := (Bool.and_eq_true_iff.mp hq).2
        cases hd : digC c with
        | false => rfl
        | true =>
          have : c ≠ p := fun e => by
            subst e
            unfold goC lt at gp
            unfold digC at hd
            simp at gp hd
            omega
          simp [this]
noncomputable def bodyDF : MS := (seqM (setM 2 (m2 modT (m1 (f1 intF) (consM (varM 1) (nilM))) (retM (.int 3)))) <|
    seqM (setM 3 (m2 idxT (m1 (lstT false) (consM (strM ("abcdefghijklmnopqrstuvwxyz*~" : Str)) (consM (strM ("012345" : Str)) (consM (strM ("012345" : Str)) (nilM))))) (varM 2))) <|
    ifS (orM (m1 boolOf (m2 eqT (varM 1) (retM (.int 9)))) (orM (m1 boolOf (m2 ninT (m2 idxT (varM 0) (varM 1)) (varM 3))) (andM (m1 boolOf (m2 eqT (varM 2) (retM (.int 2)))) (m1 boolOf (m2 eqT (m2 idxT (varM 0) (varM 1)) (m2 idxT (varM 0) (m2 subT (varM 1) (retM (.int 1))))))))) (retS (varM 1)) (nextM))
theorem bodyDF_ok {X : List Nat} {n c : Nat} (hn : n ≤ 9) (hc : X[n]? = some c) (o2 o3 : Option T) : bodyDF [some (.str ⟨X.toArray⟩), some (.int (n : Int)), o2, o3] S = if lbD X n c = true then .ret (.int (n : Int)) S else .nx [some (.str ⟨X.toArray⟩), some (.int (n : Int)), some (.int ((n : Int) % 3)), some (.str (sgn (n % 3)))] S := by
  have hl := (List.getElem?_eq_some_iff.mp hc).1
  have ic := idx_str (S := S) hc
  have s2 : setM 2 (m2 modT (m1 (f1 intF) (consM (varM 1) (nilM))) (retM (.int 3))) [some (.str ⟨X.toArray⟩), some (.int (n : Int)), o2, o3] S = .nx [some (.str ⟨X.toArray⟩), some (.int (n : Int)), some (.int ((n : Int) % 3)), o3] S := by
    simp [gd]
  have s3 : setM 3 (m2 idxT (m1 (lstT false) (consM (strM ("abcdefghijklmnopqrstuvwxyz*~" : Str)) (consM (strM ("012345" : Str)) (consM (strM ("012345" : Str)) (nilM))))) (varM 2)) [some (.str ⟨X.toArray⟩), some (.int (n : Int)), some (.int ((n : Int) % 3)), o3] S = .nx [some (.str ⟨X.toArray⟩), some (.int (n : Int)), some (.int ((n : Int) % 3)), some (.str (sgn (n % 3)))] S := by
    simp only [setM_eq, m1_eq, m2_eq, consM_eq, nilM_eq, strM_eq, s_abc28, s_digs6, if_pos abc28_len, if_pos digs6_len, R.bind_ok, lstT_f, vc2, sgn_at, R.bindS_ok, List.set]
    rw [if_pos (by decide)]
    simp only [R.bind_ok, sgn_at, R.bindS_ok, List.set]
  unfold bodyDF
  rw [seqM_eq, s2, RS.seq_nx, seqM_eq, s3, RS.seq_nx, ifS_eq]
  simp only [orM_eq, andM_eq, m1_eq, m2_eq, retM_eq, vc0, vc1, vc2, vc3, R.bind_ok, eq_int, boolOf_eq, ic, nin_sgn]
  unfold lbD
  by_cases h9 : n = 9
  · have : (n : Int) = 9 := by omega
    simp [h9]
  · have n9 : ¬ (n : Int) = 9 := by omega
    simp only [n9, h9, decide_false, Bool.false_eq_true, if_false, Bool.false_or]
    cases hi : inSg (n % 3) c with
    | false => simp
    | true =>
      by_cases h2 : n % 3 = 2
      · have e2 : (n : Int) % 3 = 2 := by omega
        obtain ⟨p, hp⟩ : ∃ p, X[n - 1]? = some p := ⟨X[n - 1]'(by omega), List.getElem?_eq_getElem _⟩
        have ip := idx_str (S := S) hp
        rw [show ((n - 1 : Nat) : Int) = (n : Int) - 1 by omega] at ip
        by_cases e : p = c
        · subst e
          simp [e2, h2, hp, ip]
        · have e' : ¬ c = p := fun z => e z.symm
          simp [e2, h2, hp, ip, e, e']
      · have e2 : ¬ (n : Int) % 3 = 2 := by omega
        simp [e2, h2]
theorem rng_at {X : List Nat} {j : Nat} {t : T} (h : ((List.range X.length).map fun i => T.int (0 + (i : Nat)))[j]? = some t) : t = .int (j : Nat) ∧ j < X.length := by
  rw [List.getElem?_map] at h
  cases e : (List.range X.length)[j]? with
  | none => rw [e] at h; cases h
  | some i =>
    rw [e] at h
    cases h
    obtain ⟨h1, h2⟩ := List.getElem?_eq_some_iff.mp e
    rw [List.getElem_range] at h2
    subst h2
    exact ⟨by simp, by simpa using h1⟩
theorem rngX {X : List Nat} (len : X.length ≤ 2000) (ρ : Env') : m1 rng1T (consM (m1 (f1 lenT) (consM (varM 0) nilM)) nilM) (some (.str ⟨X.toArray⟩) :: ρ) S = .ok ((List.range X.length).map fun i => T.int (0 + (i : Nat)), none) S := by
  have e1 : consM (m1 (f1 lenT) (consM (varM 0) nilM)) nilM (some (.str ⟨X.toArray⟩) :: ρ) S = .ok [T.int (X.length : Nat)] S := by
    simp only [m1_eq, consM_eq, nilM_eq, vc0, R.bind_ok, f1_eq, len_str, lenS]
  rw [m1_eq, e1, R.bind_ok]
  exact rng_n _ len
theorem law_deed_fault {X : List Nat} (len : X.length ≤ 2000) : L__law_deed_fault [.str ⟨X.toArray⟩] S = .ok (.int (codeO (faultD X))) S := by
  refine run_ret ?_
  show m__law_deed_fault [some (.str ⟨X.toArray⟩), none, none, none] S = _
  unfold faultD
  by_cases h1 : X = [45]
  · subst h1
    rw [if_pos rfl]
    simp [m__law_deed_fault, p__law_deed_fault_0, codeO]
  have s0 : p__law_deed_fault_0 [some (.str ⟨X.toArray⟩), none, none, none] S = .nx [some (.str ⟨X.toArray⟩), none, none, none] S := by simp [p__law_deed_fault_0, h1]
  rw [if_neg h1, m__law_deed_fault, seqM_eq, s0, RS.seq_nx, t__law_deed_fault_1, seqM_eq]
  have ct : cutS ⟨X.toArray⟩ none (some 1) = ⟨(X.take 1).toArray⟩ := cut_take X 1
  by_cases h2 : X[0]? = some 45
  · have tk : X.take 1 = [45] := by
      cases X with
      | nil => simp at h2
      | cons a r => simp at h2; subst h2; rfl
    have s1 : p__law_deed_fault_1 [some (.str ⟨X.toArray⟩), none, none, none] S = .ret (.int 1) S := by simp [p__law_deed_fault_1, slT, ct, tk]
    rw [if_pos h2, s1]
    rfl
  have tk : ¬ X.take 1 = [45] := fun z => h2 (by
    cases X with
    | nil => simp at z
    | cons a r => simp at z; subst z; rfl)
  have s1 : p__law_deed_fault_1 [some (.str ⟨X.toArray⟩), none, none, none] S = .nx [some (.str ⟨X.toArray⟩), none, none, none] S := by simp [p__law_deed_fault_1, slT, ct, tk]
  rw [if_neg h2, s1, RS.seq_nx, t__law_deed_fault_2, seqM_eq]
  have e2 := rngX (S := S) len [none, none, none]
  rw [p__law_deed_fault_2, forM_eq, e2, R.bindS_ok]
  dsimp only
  have body : ∀ {j : Nat} {d : Nat} (o2 o3 : Option T), j ≤ 9 → X[j]? = some d → (∀ k d, k < j → X[k]? = some d → okD X k d = true) → bodyDF [some (.str ⟨X.toArray⟩), some (.int (j : Int)), o2, o3] S = if okD X j d = true then .nx [some (.str ⟨X.toArray⟩), some (.int (j : Int)), some (.int ((j : Int) % 3)), some (.str (sgn (j % 3)))] S else .ret (.int (j : Int)) S := fun {j d} o2 o3 hj hd hb => by
    rw [bodyDF_ok hj hd, lbD_ok hj hd hb]
    cases okD X j d <;> rfl
  cases hf : firstN (okD X) 0 X with
  | some n =>
    obtain ⟨n', c, e, hc, hbad, hgood⟩ := firstN_some hf
    obtain rfl : n = n' := by omega
    have hgood : ∀ k d, k < n → X[k]? = some d → okD X k d = true := fun k d hk hd => by
      have := hgood k d hk hd
      rw [Nat.zero_add] at this
      exact this
    have hl := (List.getElem?_eq_some_iff.mp hc).1
    have n9 : n ≤ 9 := by
      by_cases h9 : n ≤ 9
      · exact h9
      · obtain ⟨d, hd⟩ : ∃ d, X[9]? = some d := ⟨X[9]'(by omega), List.getElem?_eq_getElem _⟩
        exact absurd (hgood 9 d (by omega) hd) (by simp [okD])
    have loop := forL_stop (src := ((List.range X.length).map fun i => T.int (0 + (i : Nat)), none)) (g := .one 1) (body := bodyDF) (r := .ret (.int (n : Int)) S) (fun _ ρ S' => S' = S ∧ ∃ o1 o2 o3, ρ = [some (.str ⟨X.toArray⟩), o1, o2, o3]) (fun _ _ _ _ => trivial) (fun _ _ => by intro z; cases z) n 0 ((List.range X.length).map fun i => T.int (0 + (i : Nat))) (ρ := [some (.str ⟨X.toArray⟩), none, none, none]) (S := S) (by simpa using hl) ⟨rfl, none, none, none, rfl⟩ (fun j t ρ S' hj ht hI => by
        obtain ⟨rfl, o1, o2, o3, rfl⟩ := hI
        obtain ⟨rfl, hx⟩ := rng_at ht
        obtain ⟨d, hd⟩ : ∃ d, X[j]? = some d := ⟨X[j], List.getElem?_eq_getElem hx⟩
        have b := body o2 o3 (by omega) hd (fun k d hk hd => hgood k d (by omega) hd)
        rw [if_pos (hgood j d hj hd)] at b
        exact ⟨_, rfl, _, _, b, rfl, _, _, _, rfl⟩) (fun t ρ S' ht hI => by
        obtain ⟨rfl, o1, o2, o3, rfl⟩ := hI
        obtain ⟨rfl, hx⟩ := rng_at ht
        have b := body o2 o3 n9 hc hgood
        rw [hbad, if_neg Bool.false_ne_true] at b
        exact ⟨_, rfl, b⟩)
    have loop' : forL ((List.range X.length).map fun i => T.int (0 + (i : Nat)), none) (.one 1) (seqM (setM 2 (m2 modT (m1 (f1 intF) (consM (varM 1) (nilM))) (retM (.int 3)))) <|
    seqM (setM 3 (m2 idxT (m1 (lstT false) (consM (strM ("abcdefghijklmnopqrstuvwxyz*~" : Str)) (consM (strM ("012345" : Str)) (consM (strM ("012345" : Str)) (nilM))))) (varM 2))) <|
    ifS (orM (m1 boolOf (m2 eqT (varM 1) (retM (.int 9)))) (orM (m1 boolOf (m2 ninT (m2 idxT (varM 0) (varM 1)) (varM 3))) (andM (m1 boolOf (m2 eqT (varM 2) (retM (.int 2)))) (m1 boolOf (m2 eqT (m2 idxT (varM 0) (varM 1)) (m2 idxT (varM 0) (m2 subT (varM 1) (retM (.int 1))))))))) (retS (varM 1)) (nextM)) ((List.range X.length).map fun i => T.int (0 + (i : Nat))) [some (.str ⟨X.toArray⟩), none, none, none] S = .ret (.int (n : Int)) S := loop
    rw [loop']
    rfl
  | none =>
    have hgood : ∀ k d, X[k]? = some d → okD X k d = true := fun k d hd => by
      have := firstN_none hf k d hd
      rw [Nat.zero_add] at this
      exact this
    have l9 : X.length ≤ 9 := by
      by_cases h : X.length ≤ 9
      · exact h
      · obtain ⟨c, hc⟩ : ∃ c, X[9]? = some c := ⟨X[9]'(by omega), List.getElem?_eq_getElem _⟩
        exact absurd (hgood 9 c hc) (by simp [okD])
    obtain ⟨ρ2, S2, loop, hS, o1, o2, o3, hρ⟩ := forL_all (src := ((List.range X.length).map fun i => T.int (0 + (i : Nat)), none)) (g := .one 1) (body := bodyDF) (fun _ ρ S' => S' = S ∧ ∃ o1 o2 o3, ρ = [some (.str ⟨X.toArray⟩), o1, o2, o3]) (fun _ _ _ _ => trivial) ((List.range X.length).map fun i => T.int (0 + (i : Nat))) 0 (ρ := [some (.str ⟨X.toArray⟩), none, none, none]) (S := S) ⟨rfl, none, none, none, rfl⟩ (fun j t ρ S' ht hI => by
        obtain ⟨rfl, o1, o2, o3, rfl⟩ := hI
        obtain ⟨rfl, hx⟩ := rng_at ht
        obtain ⟨d, hd⟩ : ∃ d, X[j]? = some d := ⟨X[j], List.getElem?_eq_getElem hx⟩
        have b := body o2 o3 (by omega) hd (fun k d hk hd => hgood k d hd)
        rw [if_pos (hgood j d hd)] at b
        exact ⟨_, rfl, _, _, b, rfl, _, _, _, rfl⟩)
    subst hS hρ
    have loop' : forL ((List.range X.length).map fun i => T.int (0 + (i : Nat)), none) (.one 1) (seqM (setM 2 (m2 modT (m1 (f1 intF) (consM (varM 1) (nilM))) (retM (.int 3)))) <|
    seqM (setM 3 (m2 idxT (m1 (lstT false) (consM (strM ("abcdefghijklmnopqrstuvwxyz*~" : Str)) (consM (strM ("012345" : Str)) (consM (strM ("012345" : Str)) (nilM))))) (varM 2))) <|
    ifS (orM (m1 boolOf (m2 eqT (varM 1) (retM (.int 9)))) (orM (m1 boolOf (m2 ninT (m2 idxT (varM 0) (varM 1)) (varM 3))) (andM (m1 boolOf (m2 eqT (varM 2) (retM (.int 2)))) (m1 boolOf (m2 eqT (m2 idxT (varM 0) (varM 1)) (m2 idxT (varM 0) (m2 subT (varM 1) (retM (.int 1))))))))) (retS (varM 1)) (nextM)) ((List.range X.length).map fun i => T.int (0 + (i : Nat))) [some (.str ⟨X.toArray⟩), none, none, none] S2 = .nx [some (.str ⟨X.toArray⟩), o1, o2, o3] S2 := loop
    rw [loop', RS.seq_nx, t__law_deed_fault_3, seqM_eq]
    dsimp only
    have m3 : ((X.length : Int) % 3 > 0) ↔ X.length % 3 ≠ 0 := by omega
    by_cases h3 : X = [] ∨ X.length % 3 ≠ 0
    · have s3 : p__law_deed_fault_3 [some (.str ⟨X.toArray⟩), o1, o2, o3] S2 = .ret (.int (X.length : Nat)) S2 := by
        by_cases x0 : X = []
        · subst x0; simp [p__law_deed_fault_3, gd]
        · have h4 : X.length % 3 ≠ 0 := h3.resolve_left x0
          have h5 : (0 : Int) < (X.length : Int) % 3 := by omega
          simp [p__law_deed_fault_3, gd, x0, h5]
      rw [if_pos h3, s3]
      rfl
    · have x0 : ¬ X = [] := fun z => h3 (.inl z)
      have h5 : ¬ (0 : Int) < (X.length : Int) % 3 := fun z => h3 (.inr (by omega))
      have s3 : p__law_deed_fault_3 [some (.str ⟨X.toArray⟩), o1, o2, o3] S2 = .nx [some (.str ⟨X.toArray⟩), o1, o2, o3] S2 := by
        simp [p__law_deed_fault_3, gd, x0, h5]
      rw [if_neg h3, s3]
      simp [p__law_deed_fault_4, codeO]
end
end K5
end
section
set_option maxRecDepth 100000
set_option maxHeartbeats 2000000
namespace K5
open PySem L2 TL RL
open scoped RL.R RL.RS
/-! ## reading any text as a pattern -/
/-- the fault of a text as a pattern's -/
def faultP (X : List Nat) : Option Nat :=
  if X = [46] then none else if X[0]? = some 46 then some 1 else match firstN (cs X) 0 X with
  | some n => some n
  | none => if X = [] ∨ X[X.length - 1]? = some 44 then some X.length else none
def partsP : List Nat → List (List Nat)
  | [] => [[]]
  | c :: r => if c = 44 then [] :: partsP r else match partsP r with
    | [] => [[c]]
    | p :: ps => (c :: p) :: ps
theorem partsP_ne : ∀ X : List Nat, partsP X ≠ []
  | [] => by simp [partsP]
  | c :: r => by
    unfold partsP
    by_cases h : c = 44
    · rw [if_pos h]; simp
    · rw [if_neg h]
      split <;> simp
theorem partsP_join : ∀ X : List Nat, joinL [44] (partsP X) = X
  | [] => rfl
  | c :: r => by
    have ih := partsP_join r
    have ne := partsP_ne r
    unfold partsP
    by_cases h : c = 44
    · rw [if_pos h]
      cases e : partsP r with
      | nil => exact absurd e ne
      | cons p ps =>
        rw [e] at ih
        show [] ++ ([44] ++ joinL [44] (p :: ps)) = _
        rw [ih, h]
        rfl
    · rw [if_neg h]
      cases e : partsP r with
      | nil => exact absurd e ne
      | cons p ps =>
        rw [e] at ih
        cases ps with
        | nil =>
          dsimp only
          rw [show joinL [44] [c :: p] = c :: p from rfl]
          rw [show joinL [44] [p] = p from rfl] at ih
          rw [ih]
        | cons q qs =>
          dsimp only
          show (c :: p) ++ ([44] ++ joinL [44] (q :: qs)) = _
          have ih : p ++ ([44] ++ joinL [44] (q :: qs)) = r := ih
          rw [List.cons_append, ih]
theorem partsP_no : ∀ (X : List Nat) (p : List Nat), p ∈ partsP X → 44 ∉ p
  | [], p, h => by simp [partsP] at h; subst h; simp
  | c :: r, p, h => by
    unfold partsP at h
    by_cases hc : c = 44
    · rw [if_pos hc] at h
      rcases List.mem_cons.mp h with rfl | h
      · simp
      · exact partsP_no r p h
    · rw [if_neg hc] at h
      cases e : partsP r with
      | nil => exact absurd e (partsP_ne r)
      | cons q qs =>
        rw [e] at h
        dsimp only at h
        rcases List.mem_cons.mp h with rfl | h
        · intro z
          rcases List.mem_cons.mp z with z | z
          · exact hc z.symm
          · exact partsP_no r q (by rw [e]; exact List.mem_cons_self ..) z
        · exact partsP_no r p (by rw [e]; exact List.mem_cons_of_mem _ h)
theorem partsP_sum : ∀ X : List Nat, ((partsP X).map List.length).sum ≤ X.length
  | [] => by simp [partsP]
  | c :: r => by
    have ih := partsP_sum r
    unfold partsP
    by_cases hc : c = 44
    · rw [if_pos hc]; simp; omega
    · rw [if_neg hc]
      cases e : partsP r with
      | nil => exact absurd e (partsP_ne r)
      | cons q qs =>
        rw [e] at ih
        simp at ih ⊢
        omega
theorem partsP_len : ∀ X : List Nat, (partsP X).length = X.count 44 + 1
  | [] => by simp [partsP]
  | c :: r => by
    have ih := partsP_len r
    unfold partsP
    by_cases hc : c = 44
    · rw [if_pos hc, hc]; simp; omega
    · rw [if_neg hc]
      cases e : partsP r with
      | nil => exact absurd e (partsP_ne r)
      | cons q qs =>
        rw [e] at ih
        rw [List.count_cons, if_neg (by simpa using hc)]
        simpa using ih
def mkS (l : List Nat) : Str := ⟨l.toArray⟩
theorem split_parts (X : List Nat) : Txt.split ⟨X.toArray⟩ ⟨#[44]⟩ = (partsP X).map mkS := by
  have e : (⟨X.toArray⟩ : Str) = Txt.join ⟨#[44]⟩ ((partsP X).map mkS) := by
    refine str_inj.mpr ?_
    have := tl_join ⟨#[44]⟩ ((partsP X).map mkS)
    rw [join_eq]
    rw [show ((partsP X).map mkS).map tl = partsP X by rw [List.map_map]; exact (List.map_congr_left fun l _ => rfl).trans (List.map_id _)] at this
    rw [show tl (⟨#[44]⟩ : Str) = [44] from rfl, partsP_join] at this
    simpa [tl] using this.symm
  rw [e]
  refine split_join (s := 44) (S := []) rfl (by decide +kernel) (by simpa using partsP_ne X) fun p hp => ?_
  obtain ⟨q, hq, rfl⟩ := List.mem_map.mp hp
  exact partsP_no X q hq
def itemP (p : List Nat) : T := if p = [63] then .non else if p = [45] then .str ⟨#[]⟩ else .str (mkS p)
def toldP (X : List Nat) : List T := if X = [46] then [] else (partsP X).map itemP
section
variable {S : Sto}
theorem ri_any (p : List Nat) : L_read_item [.str (mkS p)] S = .ok (itemP p) S := by
  refine run_ret ?_
  unfold itemP mkS
  by_cases h1 : p = [63]
  · subst h1
    simp [m_read_item, p_read_item_0, startE]
  · by_cases h2 : p = [45]
    · subst h2
      simp [m_read_item, p_read_item_0, p_read_item_1, startE]
    · simp [m_read_item, p_read_item_0, p_read_item_1, startE, h1, h2]
theorem ti_any (p : List Nat) : L__law_item_told [.str (mkS p)] S = .ok (itemP p) S := by
  refine run_ret ?_
  unfold itemP mkS
  by_cases h1 : p = [63]
  · subst h1
    simp [m__law_item_told, p__law_item_told_0, startE]
  · by_cases h2 : p = [45]
    · subst h2
      simp [m__law_item_told, t__law_item_told_1, p__law_item_told_0, p__law_item_told_1, startE]
    · simp [m__law_item_told, t__law_item_told_1, p__law_item_told_0, p__law_item_told_1, p__law_item_told_2, startE, h1, h2]
theorem parts_le {X : List Nat} {p : List Nat} (h : p ∈ partsP X) : p.length ≤ X.length := by
  have s := partsP_sum X
  have : ∀ (ps : List (List Nat)), p ∈ ps → p.length ≤ (ps.map List.length).sum := fun ps => by
    induction ps with
    | nil => intro h; cases h
    | cons q qs ih =>
      intro h
      rw [List.map_cons, List.sum_cons]
      rcases List.mem_cons.mp h with rfl | h
      · omega
      · have := ih h; omega
  exact Nat.le_trans (this _ h) s
theorem split_any {X : List Nat} (len : X.length ≤ 2000) : splitT false (.str ⟨X.toArray⟩) [.str ⟨#[44]⟩] S = .ok (.lst ((partsP X).map fun p => T.str (mkS p))) S := by
  unfold splitT
  dsimp only
  have a1 : Str.length ⟨X.toArray⟩ + 2 ≤ sizeLine := by rw [sizeLine_eq, lenS]; omega
  have a2 : (((partsP X).map mkS).all fun x => decide (x.length ≤ sizeLine)) = true := List.all_eq_true.mpr fun y hy => decide_eq_true (by
    obtain ⟨p, hp, rfl⟩ := List.mem_map.mp hy
    rw [sizeLine_eq]
    have := parts_le hp
    show Str.length ⟨p.toArray⟩ ≤ _
    rw [lenS]
    omega)
  rw [split_parts, gd_pos ⟨rfl, a1, a2⟩, List.map_map]
  rfl
theorem count_le (X : List Nat) : X.count 44 ≤ X.length := List.count_le_length
theorem parts_n {X : List Nat} (len : X.length ≤ 2000) : (partsP X).length ≤ 2001 := by
  have := partsP_len X
  have := count_le X
  omega
theorem ewl {X : List Nat} (c : Nat) (x0 : ¬ X = []) : ewT (.str ⟨X.toArray⟩) [.str ⟨#[c]⟩] S = .ok (.bl (decide (X[X.length - 1]? = some c))) S := by
  have l0 : X.length ≠ 0 := fun e => x0 (List.length_eq_zero_iff.mp e)
  unfold ewT
  dsimp only
  congr 2
  have := sub_1 ⟨X.toArray⟩ c (X.length - 1)
  rw [show (⟨X.toArray⟩ : Str).cps.toList = X from rfl] at this
  rw [← this]
  unfold Txt.endswith
  have e1 : (⟨#[c]⟩ : Str).length = 1 := rfl
  rw [e1, lenS]
  have e2 : decide (0 + 1 ≤ X.length) = true := decide_eq_true (by omega)
  have e3 : decide (X.length - 1 + 1 ≤ X.length) = true := decide_eq_true (by omega)
  rw [e2, e3]
noncomputable def bodyRP : MS := ifS (m1 notT (m1 truthT (m1 (callF 2 L_can_stand_patterntext) (consM (varM 0) (consM (varM 1) nilM))))) (raiseM "BadText" "at" (varM 1)) nextM
theorem bodyRP_ok {X : List Nat} (len : X.length ≤ 2000) {n c : Nat} (hc : X[n]? = some c) (o : Option T) : bodyRP [some (.str ⟨X.toArray⟩), some (.int (n : Int)), o] S = if cs X n c = true then .nx [some (.str ⟨X.toArray⟩), some (.int (n : Int)), o] S else .err "BadText" [("at", .int (n : Int))] S := by
  have r := cs_ok (S := S) (X := X) (k := n) (c := c) len hc
  unfold bodyRP
  cases e : cs X n c with
  | true => rw [e] at r; simp [gd, r]
  | false => rw [e] at r; simp [gd, r]
theorem rp_loop {X : List Nat} (len : X.length ≤ 2000) : (∃ n, firstN (cs X) 0 X = some n ∧ forL ((List.range X.length).map fun i => T.int (0 + (i : Nat)), none) (.one 1) bodyRP ((List.range X.length).map fun i => T.int (0 + (i : Nat))) [some (.str ⟨X.toArray⟩), none, none] S = .err "BadText" [("at", .int (n : Nat))] S) ∨
    (firstN (cs X) 0 X = none ∧ ∃ o, forL ((List.range X.length).map fun i => T.int (0 + (i : Nat)), none) (.one 1) bodyRP ((List.range X.length).map fun i => T.int (0 + (i : Nat))) [some (.str ⟨X.toArray⟩), none, none] S = .nx [some (.str ⟨X.toArray⟩), o, none] S) := by
  cases hf : firstN (cs X) 0 X with
  | some n =>
    obtain ⟨n', c, e, hc, hbad, hgood⟩ := firstN_some hf
    obtain rfl : n = n' := by omega
    have hgood : ∀ k d, k < n → X[k]? = some d → cs X k d = true := fun k d hk hd => by
      have := hgood k d hk hd
      rw [Nat.zero_add] at this
      exact this
    have hl := (List.getElem?_eq_some_iff.mp hc).1
    refine .inl ⟨n, rfl, ?_⟩
    exact forL_stop (src := ((List.range X.length).map fun i => T.int (0 + (i : Nat)), none)) (g := .one 1) (body := bodyRP) (r := .err "BadText" [("at", .int (n : Nat))] S) (fun _ ρ S' => S' = S ∧ ∃ o1, ρ = [some (.str ⟨X.toArray⟩), o1, none]) (fun _ _ _ _ => trivial) (fun _ _ => by intro z; cases z) n 0 ((List.range X.length).map fun i => T.int (0 + (i : Nat))) (ρ := [some (.str ⟨X.toArray⟩), none, none]) (S := S) (by simpa using hl) ⟨rfl, none, rfl⟩ (fun j t ρ S' hj ht hI => by
        obtain ⟨rfl, o1, rfl⟩ := hI
        obtain ⟨rfl, hx⟩ := rng_at ht
        obtain ⟨d, hd⟩ : ∃ d, X[j]? = some d := ⟨X[j], List.getElem?_eq_getElem hx⟩
        have b := bodyRP_ok (S := S') len hd none
        rw [if_pos (hgood j d hj hd)] at b
        exact ⟨_, rfl, _, _, b, rfl, _, rfl⟩) (fun t ρ S' ht hI => by
        obtain ⟨rfl, o1, rfl⟩ := hI
        obtain ⟨rfl, hx⟩ := rng_at ht
        have b := bodyRP_ok (S := S') len hc none
        rw [hbad, if_neg Bool.false_ne_true] at b
        exact ⟨_, rfl, b⟩)
  | none =>
    have hgood : ∀ k d, X[k]? = some d → cs X k d = true := fun k d hd => by
      have := firstN_none hf k d hd
      rw [Nat.zero_add] at this
      exact this
    obtain ⟨ρ2, S2, loop, hS, o1, hρ⟩ := forL_all (src := ((List.range X.length).map fun i => T.int (0 + (i : Nat)), none)) (g := .one 1) (body := bodyRP) (fun _ ρ S' => S' = S ∧ ∃ o1, ρ = [some (.str ⟨X.toArray⟩), o1, none]) (fun _ _ _ _ => trivial) ((List.range X.length).map fun i => T.int (0 + (i : Nat))) 0 (ρ := [some (.str ⟨X.toArray⟩), none, none]) (S := S) ⟨rfl, none, rfl⟩ (fun j t ρ S' ht hI => by
        obtain ⟨rfl, o1, rfl⟩ := hI
        obtain ⟨rfl, hx⟩ := rng_at ht
        obtain ⟨d, hd⟩ : ∃ d, X[j]? = some d := ⟨X[j], List.getElem?_eq_getElem hx⟩
        have b := bodyRP_ok (S := S') len hd none
        rw [if_pos (hgood j d hd)] at b
        exact ⟨_, rfl, _, _, b, rfl, _, rfl⟩)
    subst hS hρ
    exact .inr ⟨rfl, o1, loop⟩
theorem toP_items {me : M T} {i : Nat} {ρ : Env'} (l0 : List T) {X : List Nat} (len : X.length ≤ 2000) (h : ∀ p, me (ρ.set i (some (.str (mkS p)))) S = .ok (itemP p) S) : lcL (l0, none) (.one i) yesM me ((partsP X).map fun p => T.str (mkS p)) [] ρ S = .ok ((partsP X).map itemP) S := by
  have key : ∀ (ps : List (List Nat)) (acc : List T), acc.length + ps.length ≤ 16777216 → lcL (l0, none) (.one i) yesM me (ps.map fun p => T.str (mkS p)) acc ρ S = .ok (acc ++ ps.map itemP) S := fun ps => by
    induction ps with
    | nil => intro acc _; rw [List.map_nil, lcL_nil (by simp)]; simp
    | cons p ps ih =>
      intro acc hl
      simp only [List.length_cons] at hl
      rw [List.map_cons, lcL_yes (by simp) rfl rfl (h p) (by omega), ih (acc ++ [itemP p]) (by simp; omega)]
      simp
  have := parts_n len
  rw [key (partsP X) [] (by simp; omega)]
  rfl
theorem rp_5 {X : List Nat} (len : X.length ≤ 2000) (o : Option T) : p_read_pattern_5 [some (.str ⟨X.toArray⟩), o, none] S = .ret (.tup ((partsP X).map itemP)) S := by
  have l2 : ((partsP X).map itemP).length ≤ 16777216 := by have := parts_n len; simp; omega
  have stp := split_any (S := S) len
  have it := toP_items (S := S) (me := m1 (callF 1 L_read_item) (consM (varM 2) nilM)) (i := 2) (ρ := [some (.str ⟨X.toArray⟩), o, none]) ((partsP X).map fun p => T.str (mkS p)) len (fun p => by simp [gd, ri_any])
  unfold p_read_pattern_5
  simp only [retS_eq, m1_eq, consM_eq, nilM_eq, lcM_eq, bmM_eq, vc0, R.bind_ok, isRecv, gd_pos (show ("str" == "str") = true from rfl), strM_eq, s_comma, lenS]
  simp only [List.length_cons, List.length_nil, if_pos (show (0 + 1 : Nat) ≤ 16777216 by decide), R.bind_ok, stp, iter_lst, wipeE, List.set]
  rw [it]
  simp only [calm_ok, R.bind_ok, lstT_f, if_pos l2, f1_eq, tupleT, itemsT, R.bindS_ok]
theorem read_pattern_any {X : List Nat} (len : X.length ≤ 2000) : L_read_pattern [.str ⟨X.toArray⟩] S = (match faultP X with
    | none => .ok (.tup (toldP X)) S
    | some m => .err "BadText" [("at", .int (m : Nat))] S) := by
  unfold faultP
  by_cases h1 : X = [46]
  · subst h1
    rw [if_pos rfl]
    refine run_ret ?_
    simp [m_read_pattern, t_read_pattern_1, p_read_pattern_0, p_read_pattern_1, startE, isiT, kindT, clsOf, kindsK, isK, gd, toldP]
  rw [if_neg h1]
  have s0 : p_read_pattern_0 [some (.str ⟨X.toArray⟩), none, none] S = .nx [some (.str ⟨X.toArray⟩), none, none] S := by simp [p_read_pattern_0, isiT, kindT, clsOf, kindsK, isK, gd]
  have s1 : p_read_pattern_1 [some (.str ⟨X.toArray⟩), none, none] S = .nx [some (.str ⟨X.toArray⟩), none, none] S := by simp [p_read_pattern_1, h1]
  have st : ∀ r : RS, (p_read_pattern_2 [some (.str ⟨X.toArray⟩), none, none] S).seq t_read_pattern_3 = r → m_read_pattern (startE 1 2 [.str ⟨X.toArray⟩]) S = r := fun r hr => by
    show m_read_pattern [some (.str ⟨X.toArray⟩), none, none] S = _
    rw [m_read_pattern, seqM_eq, s0, RS.seq_nx, t_read_pattern_1, seqM_eq, s1, RS.seq_nx, t_read_pattern_2, seqM_eq, hr]
  have sw := sw_1 (S := S) X 46
  by_cases h2 : X[0]? = some 46
  · rw [if_pos h2]
    rw [decide_eq_true h2] at sw
    have s2 : p_read_pattern_2 [some (.str ⟨X.toArray⟩), none, none] S = .err "BadText" [("at", .int 1)] S := by
      unfold p_read_pattern_2
      simp only [ifS_eq, m1_eq, bmM_eq, vc0, R.bind_ok, isRecv, gd_pos (show ("str" == "str") = true from rfl), consM_eq, retM_eq, nilM_eq, s_dot, sw, truth_bl, R.bindS_ok]
      rfl
    refine run_err (st _ ?_)
    rw [s2]
    rfl
  rw [if_neg h2]
  rw [decide_eq_false h2] at sw
  have s2 : p_read_pattern_2 [some (.str ⟨X.toArray⟩), none, none] S = .nx [some (.str ⟨X.toArray⟩), none, none] S := by
    unfold p_read_pattern_2
    simp only [ifS_eq, m1_eq, bmM_eq, vc0, R.bind_ok, isRecv, gd_pos (show ("str" == "str") = true from rfl), consM_eq, retM_eq, nilM_eq, s_dot, sw, truth_bl, R.bindS_ok]
    rfl
  have e2 := rngX (S := S) len [none, none]
  have s3 : ∀ r, forL ((List.range X.length).map fun i => T.int (0 + (i : Nat)), none) (.one 1) bodyRP ((List.range X.length).map fun i => T.int (0 + (i : Nat))) [some (.str ⟨X.toArray⟩), none, none] S = r → p_read_pattern_3 [some (.str ⟨X.toArray⟩), none, none] S = r := fun r hr => by
    rw [p_read_pattern_3, forM_eq, e2, R.bindS_ok]
    exact hr
  rcases rp_loop (S := S) len with ⟨n, hf, loop⟩ | ⟨hf, o, loop⟩
  · rw [hf]
    refine run_err (st _ ?_)
    rw [s2, RS.seq_nx, t_read_pattern_3, seqM_eq, s3 _ loop]
    rfl
  · rw [hf]
    dsimp only
    by_cases h3 : X = [] ∨ X[X.length - 1]? = some 44
    · rw [if_pos h3]
      have s4 : p_read_pattern_4 [some (.str ⟨X.toArray⟩), o, none] S = .err "BadText" [("at", .int (X.length : Nat))] S := by
        by_cases x0 : X = []
        · subst x0
          simp [p_read_pattern_4]
        · have ew := ewl (S := S) 44 x0
          rw [decide_eq_true (h3.resolve_left x0)] at ew
          simp [p_read_pattern_4, isRecv, gd, ew, x0]
      refine run_err (st _ ?_)
      rw [s2, RS.seq_nx, t_read_pattern_3, seqM_eq, s3 _ loop, RS.seq_nx, t_read_pattern_4, seqM_eq, s4]
      rfl
    · rw [if_neg h3]
      have x0 : ¬ X = [] := fun z => h3 (.inl z)
      have ew := ewl (S := S) 44 x0
      rw [decide_eq_false fun z => h3 (.inr z)] at ew
      have s4 : p_read_pattern_4 [some (.str ⟨X.toArray⟩), o, none] S = .nx [some (.str ⟨X.toArray⟩), o, none] S := by simp [p_read_pattern_4, isRecv, gd, ew, x0]
      refine run_ret (st _ ?_)
      rw [s2, RS.seq_nx, t_read_pattern_3, seqM_eq, s3 _ loop, RS.seq_nx, t_read_pattern_4, seqM_eq, s4, RS.seq_nx, rp_5 len, toldP, if_neg h1]
theorem law_pattern_told {X : List Nat} (len : X.length ≤ 2000) : L__law_pattern_told [.str ⟨X.toArray⟩] S = .ok (.tup (toldP X)) S := by
  refine run_ret ?_
  by_cases h1 : X = [46]
  · subst h1
    simp [m__law_pattern_told, p__law_pattern_told_0, startE, toldP]
  · have l2 : ((partsP X).map itemP).length ≤ 16777216 := by have := parts_n len; simp; omega
    have stp := split_any (S := S) len
    have it := toP_items (S := S) (me := m1 (callF 1 L__law_item_told) (consM (varM 1) nilM)) (i := 1) (ρ := [some (.str ⟨X.toArray⟩), none]) ((partsP X).map fun p => T.str (mkS p)) len (fun p => by simp [gd, ti_any])
    have s0 : p__law_pattern_told_0 [some (.str ⟨X.toArray⟩), none] S = .nx [some (.str ⟨X.toArray⟩), none] S := by simp [p__law_pattern_told_0, h1]
    show m__law_pattern_told [some (.str ⟨X.toArray⟩), none] S = _
    rw [m__law_pattern_told, seqM_eq, s0, RS.seq_nx]
    unfold p__law_pattern_told_1
    simp only [retS_eq, m1_eq, consM_eq, nilM_eq, lcM_eq, bmM_eq, vc0, R.bind_ok, isRecv, gd_pos (show ("str" == "str") = true from rfl), strM_eq, s_comma, lenS]
    simp only [List.length_cons, List.length_nil, if_pos (show (0 + 1 : Nat) ≤ 16777216 by decide), R.bind_ok, stp, iter_lst, wipeE, List.set]
    rw [it]
    simp only [calm_ok, R.bind_ok, lstT_f, if_pos l2, f1_eq, tupleT, itemsT, R.bindS_ok]
    rw [toldP, if_neg h1]
end
end K5
end
section
set_option maxRecDepth 100000
set_option maxHeartbeats 2000000
namespace K5
open PySem L2 TL RL
open scoped RL.R RL.RS
/-! ## the law's finder of a pattern's fault -/
def abc : Str := "abcdefghijklmnopqrstuvwxyz"
theorem s_abc : ("abcdefghijklmnopqrstuvwxyz" : Str) = abc := rfl
theorem abc_len : abc.length ≤ 16777216 := by decide +kernel
theorem s_mq : ("-?" : Str) = ⟨#[45, 63]⟩ := rfl
section
variable {S : Sto}
theorem in_abc (c : Nat) : inT (.str ⟨#[c]⟩) (.str abc) S = .ok (.bl (lt c)) S := by
  unfold inT
  dsimp only
  rw [PySem.StrLaws.found_one]
  have e : abc.cps.toList = (List.range 26).map fun i => 97 + i := by decide +kernel
  have : (decide (c ∈ abc.cps.toList)) = lt c := by
    rw [e]
    unfold lt
    rw [Bool.eq_iff_iff]
    simp
    constructor
    · rintro ⟨a, h1, h2⟩
      omega
    · rintro h
      exact ⟨c - 97, by omega, by omega⟩
  rw [← this]
theorem in_mq (c : Nat) : inT (.str ⟨#[c]⟩) (.str ⟨#[45, 63]⟩) S = .ok (.bl (decide (c = 45) || decide (c = 63))) S := by
  unfold inT
  dsimp only
  rw [PySem.StrLaws.found_one]
  congr 2
  rw [Bool.eq_iff_iff]
  simp
/-- what the law's item is behind k signs that may stand -/
inductive PI (X : List Nat) (k : Nat) : List Nat → Prop where
  | nil (b : beg X k = true) : PI X k []
  | snoc (J : List Nat) (p : Nat) (hk : 0 < k) (hp : X[k - 1]? = some p) (n44 : p ≠ 44) (l : lt p = true → (J ++ [p]).all lt = true) (o : lt p = false → J = [] ∧ (p = 45 ∨ p = 63)) (len : J.length + 1 ≤ k) : PI X k (J ++ [p])
theorem PI.len {X : List Nat} {k : Nat} {I : List Nat} (h : PI X k I) : I.length ≤ k := by
  cases h with
  | nil b => exact Nat.zero_le _
  | snoc J p hk hp n44 l o len => simpa using len
theorem beg_snoc {X : List Nat} {k p : Nat} (hk : 0 < k) (hp : X[k - 1]? = some p) (n44 : p ≠ 44) : beg X k = false := by
  obtain ⟨j, rfl⟩ : ∃ j, k = j + 1 := ⟨k - 1, by omega⟩
  show decide (X[j]? = some 44) = false
  rw [show j + 1 - 1 = j by omega] at hp
  rw [hp]
  simpa using n44
theorem upTo_snoc {X : List Nat} {k p c : Nat} (hk : 0 < k) (hp : X[k - 1]? = some p) : upTo X c k = (lt p && decide (p ≤ c)) := by
  obtain ⟨j, rfl⟩ : ∃ j, k = j + 1 := ⟨k - 1, by omega⟩
  show (match X[j]? with | some p => lt p && decide (p ≤ c) | none => false) = _
  rw [show j + 1 - 1 = j by omega] at hp
  rw [hp]
theorem PI.beg {X : List Nat} {k : Nat} {I : List Nat} (h : PI X k I) : decide (I = []) = beg X k := by
  cases h with
  | nil b => rw [b]; rfl
  | snoc J p hk hp n44 l o len => rw [beg_snoc hk hp n44]; simp
def cnt (X : List Nat) (k : Nat) : Nat := (X.take k).count 44
def ltr (X : List Nat) (k : Nat) : Nat := letters (X.take k)
theorem take_snoc {X : List Nat} {k c : Nat} (h : X[k]? = some c) : X.take (k + 1) = X.take k ++ [c] := by
  rw [List.take_add_one, h]
  rfl
theorem cnt_succ {X : List Nat} {k c : Nat} (h : X[k]? = some c) : cnt X (k + 1) = cnt X k + (if c = 44 then 1 else 0) := by
  unfold cnt
  rw [take_snoc h, List.count_append, List.count_cons]
  simp
theorem ltr_succ {X : List Nat} {k c : Nat} (h : X[k]? = some c) : ltr X (k + 1) = ltr X k + (if lt c = true then 1 else 0) := by
  unfold ltr letters
  rw [take_snoc h, List.filter_append, List.length_append]
  by_cases hc : lt c = true
  · simp [hc]
  · simp at hc
    simp [hc]
noncomputable def restPF : MS := ifS (m1 boolOf (m2 eqT (varM 5) (strM ("," : Str)))) (seqM (ifS (orM (m1 boolOf (m2 eqT (varM 4) (strM ("" : Str)))) (m1 boolOf (m2 eqT (varM 2) (retM (.int 6))))) (retS (varM 1)) (nextM)) <|
    seqM (setM 2 (m2 addT (varM 2) (retM (.int 1)))) <|
    setM 4 (strM ("" : Str))) (ifS (m1 boolOf (m2 inT (varM 5) (strM ("abcdefghijklmnopqrstuvwxyz" : Str)))) (seqM (ifS (orM (m1 boolOf (m2 eqT (varM 4) (strM ("-" : Str)))) (orM (m1 boolOf (m2 eqT (varM 4) (strM ("?" : Str)))) (orM (m1 boolOf (m2 eqT (varM 3) (retM (.int 8)))) (andM (m1 boolOf (m2 neT (varM 4) (strM ("" : Str)))) (m1 boolOf (m2 ltT (varM 5) (m2 idxT (varM 4) (m1 negT (retM (.int 1)))))))))) (retS (varM 1)) (nextM)) <|
    seqM (setM 3 (m2 addT (varM 3) (retM (.int 1)))) <|
    setM 4 (m2 addT (varM 4) (varM 5))) (ifS (andM (m1 boolOf (m2 inT (varM 5) (strM ("-?" : Str)))) (m1 boolOf (m2 eqT (varM 4) (strM ("" : Str))))) (setM 4 (varM 5)) (retS (varM 1))))
noncomputable def bodyPF : MS := (seqM (setM 5 (m2 idxT (varM 0) (varM 1))) restPF)
def stP (X I : List Nat) (k : Nat) (o1 o5 : Option T) : Env' := [some (.str ⟨X.toArray⟩), o1, some (.int ((cnt X k + 1 : Nat) : Int)), some (.int ((ltr X k : Nat) : Int)), some (.str ⟨I.toArray⟩), o5]
theorem last_1 {J : List Nat} {p : Nat} : idxT (.str ⟨(J ++ [p]).toArray⟩) (.int (-1)) S = .ok (.str ⟨#[p]⟩) S := by
  unfold idxT
  have e : atI (J ++ [p]) (-1) = some p := by
    unfold atI ixN
    rw [if_neg (by decide), if_pos (by simp; omega)]
    simp
    have z : (-1 + ((J.length : Int) + 1)).toNat = J.length := by omega
    rw [z]
    simp
  simp [e]
theorem app_S (a b : List Nat) : (⟨a.toArray⟩ : Str) ++ ⟨b.toArray⟩ = ⟨(a ++ b).toArray⟩ := str_inj.mpr (by
  have := tl_append ⟨a.toArray⟩ ⟨b.toArray⟩
  simpa [tl] using this)
theorem add_S {a b : List Nat} (h : a.length + b.length ≤ 16777216) : addT (.str ⟨a.toArray⟩) (.str ⟨b.toArray⟩) S = .ok (.str ⟨(a ++ b).toArray⟩) S := by
  show gd _ _ = _
  rw [app_S, gd_pos (by rw [sizeLine_eq, lenS, lenS]; exact h)]
theorem bodyPF_ok {X I : List Nat} {k c : Nat} (len : X.length ≤ 2000) (hc : X[k]? = some c) (h : PI X k I) (hcnt : cnt X k ≤ 5) (hltr : ltr X k ≤ 8) (o5 : Option T) :
    (cs X k c = true → ∃ I', PI X (k + 1) I' ∧ bodyPF (stP X I k (some (.int (k : Int))) o5) S = .nx (stP X I' (k + 1) (some (.int (k : Int))) (some (.str ⟨#[c]⟩))) S) ∧
    (cs X k c = false → bodyPF (stP X I k (some (.int (k : Int))) o5) S = .ret (.int (k : Int)) S) := by
  have hl := (List.getElem?_eq_some_iff.mp hc).1
  have ic := idx_str (S := S) hc
  have e5 : setM 5 (m2 idxT (varM 0) (varM 1)) (stP X I k (some (.int (k : Int))) o5) S = .nx (stP X I k (some (.int (k : Int))) (some (.str ⟨#[c]⟩))) S := by
    simp [stP, ic]
  have ecs : cs X k c = (if c = 44 then !(beg X k) && decide (cnt X k < 5) else if lt c = true then (beg X k || upTo X c k) && decide (ltr X k < 8) else beg X k && (decide (c = 45) || decide (c = 63))) := rfl
  have next : X[k + 1 - 1]? = some c := by rw [show k + 1 - 1 = k by omega]; exact hc
  have st1 : bodyPF (stP X I k (some (.int (k : Int))) o5) S = restPF (stP X I k (some (.int (k : Int))) (some (.str ⟨#[c]⟩))) S := by
    unfold bodyPF
    rw [seqM_eq, e5, RS.seq_nx]
  rw [st1]
  have cs1 := cnt_succ hc
  have ls1 := ltr_succ hc
  by_cases h44 : c = 44
  · subst h44
    rw [if_pos rfl] at ecs
    rw [if_pos rfl] at cs1
    rw [if_neg (by decide)] at ls1
    have c6 : ((cnt X k + 1 : Nat) : Int) = 6 ↔ ¬ cnt X k < 5 := by omega
    rw [ecs]
    cases h with
    | nil b =>
      rw [b]
      refine ⟨fun z => by simp at z, fun _ => ?_⟩
      simp [restPF, stP]
    | snoc J p hk hp n44 l o ln =>
      rw [beg_snoc hk hp n44]
      by_cases h5 : cnt X k < 5
      · refine ⟨fun _ => ⟨[], .nil (by show decide (X[k]? = some 44) = true; rw [hc]; rfl), ?_⟩, fun z => by simp [h5] at z⟩
        have n6 : ¬ ((cnt X k : Int) + 1 = 6) := by omega
        simp [restPF, stP, n6, cs1, ls1]
      · refine ⟨fun z => by simp [h5] at z, fun _ => ?_⟩
        have y6 : ((cnt X k : Int) + 1 = 6) := by omega
        simp [restPF, stP, y6]
  · have n44 : ¬ ((⟨#[c]⟩ : Str) = ⟨#[44]⟩) := by simpa using h44
    rw [if_neg h44] at ecs
    rw [if_neg h44] at cs1
    by_cases hlt : lt c = true
    · rw [if_pos hlt] at ecs ls1
      rw [ecs]
      cases h with
      | nil b =>
        rw [b]
        by_cases h8 : ltr X k < 8
        · refine ⟨fun _ => ⟨[] ++ [c], .snoc [] c (by omega) next h44 (fun _ => by simp [hlt]) (fun z => by rw [hlt] at z; cases z) (by simp), ?_⟩, fun z => by simp [h8] at z⟩
          have n8 : ¬ ((ltr X k : Int) = 8) := by omega
          have ad := add_S (S := S) (a := []) (b := [c]) (by simp)
          have ad : addT (.str ⟨#[]⟩) (.str ⟨#[c]⟩) S = .ok (.str ⟨#[c]⟩) S := ad
          simp [restPF, stP, h44, s_abc, abc_len, in_abc, hlt, n8, cs1, ls1, ad]
        · refine ⟨fun z => by simp [h8] at z, fun _ => ?_⟩
          have y8 : ((ltr X k : Int) = 8) := by omega
          simp [restPF, stP, h44, s_abc, abc_len, in_abc, hlt, y8]
      | snoc J p hk hp n44' l o ln =>
        rw [beg_snoc hk hp n44', upTo_snoc hk hp]
        by_cases lp : lt p = true
        · have al := l lp
          have n45 : ¬ (J ++ [p] = [45]) := fun z => by rw [z] at al; exact absurd al (by decide)
          have n63 : ¬ (J ++ [p] = [63]) := fun z => by rw [z] at al; exact absurd al (by decide)
          have ne0 : ¬ (J ++ [p] = []) := by simp
          have la := last_1 (S := S) (J := J) (p := p)
          by_cases h8 : ltr X k < 8
          · have n8 : ¬ ((ltr X k : Int) = 8) := by omega
            by_cases hpc : p ≤ c
            · have ncp : ¬ c < p := by omega
              refine ⟨fun _ => ⟨(J ++ [p]) ++ [c], .snoc (J ++ [p]) c (by omega) next h44 (fun _ => by rw [List.all_append, al]; simp [hlt]) (fun z => by rw [hlt] at z; cases z) (by simp; omega), ?_⟩, fun z => by simp [h8, lp, hpc] at z⟩
              have ad := add_S (S := S) (a := J ++ [p]) (b := [c]) (by simp; omega)
              generalize J ++ [p] = I at *
              have ad : addT (.str ⟨I.toArray⟩) (.str ⟨#[c]⟩) S = .ok (.str ⟨(I ++ [c]).toArray⟩) S := ad
              simp only [restPF, stP, ifS_eq, m1_eq, m2_eq, vc0, vc1, vc2, vc3, vc4, vc5, R.bind_ok, strM_eq, s_comma, s_abc, s_minus, s_ask, s_none, lenS, if_pos abc_len, eq_str, mk_inj, decide_eq_false n44, boolOf_eq, R.bindS_ok, Bool.false_eq_true, if_false, in_abc, hlt, if_true, seqM_eq, orM_eq, andM_eq]
              simp [n45, n63, ne0, n8, h44, la, ltT, lt1, ncp, ad, cs1, ls1]
            · have ncp : c < p := by omega
              refine ⟨fun z => by simp [hpc] at z, fun _ => ?_⟩
              generalize J ++ [p] = I at *
              simp only [restPF, stP, ifS_eq, m1_eq, m2_eq, vc0, vc1, vc2, vc3, vc4, vc5, R.bind_ok, strM_eq, s_comma, s_abc, s_minus, s_ask, s_none, lenS, if_pos abc_len, eq_str, mk_inj, decide_eq_false n44, boolOf_eq, R.bindS_ok, Bool.false_eq_true, if_false, in_abc, hlt, if_true, seqM_eq, orM_eq, andM_eq]
              simp [n45, n63, ne0, n8, h44, la, ltT, lt1, ncp]
          · have y8 : ((ltr X k : Int) = 8) := by omega
            refine ⟨fun z => by simp [h8] at z, fun _ => ?_⟩
            generalize J ++ [p] = I at *
            simp only [restPF, stP, ifS_eq, m1_eq, m2_eq, vc0, vc1, vc2, vc3, vc4, vc5, R.bind_ok, strM_eq, s_comma, s_abc, s_minus, s_ask, s_none, lenS, if_pos abc_len, eq_str, mk_inj, decide_eq_false n44, boolOf_eq, R.bindS_ok, Bool.false_eq_true, if_false, in_abc, hlt, if_true, seqM_eq, orM_eq, andM_eq]
            simp [n45, n63, ne0, y8, h44]
        · simp at lp
          obtain ⟨rfl, hq⟩ := o lp
          refine ⟨fun z => by simp [lp] at z, fun _ => ?_⟩
          rcases hq with rfl | rfl
          · simp [restPF, stP, h44, s_abc, abc_len, in_abc, hlt]
          · simp [restPF, stP, h44, s_abc, abc_len, in_abc, hlt]
    · simp at hlt
      rw [if_neg (by rw [hlt]; decide)] at ecs ls1
      rw [ecs]
      cases h with
      | nil b =>
        rw [b]
        by_cases hq : c = 45 ∨ c = 63
        · refine ⟨fun _ => ⟨[] ++ [c], .snoc [] c (by omega) next h44 (fun z => by rw [hlt] at z; cases z) (fun _ => ⟨rfl, hq⟩) (by simp), ?_⟩, fun z => by rcases hq with rfl | rfl <;> simp at z⟩
          simp [restPF, stP, h44, s_abc, abc_len, in_abc, hlt, s_mq, in_mq, hq, cs1, ls1]
        · refine ⟨fun z => by simp at z; exact absurd z hq, fun _ => ?_⟩
          simp [restPF, stP, h44, s_abc, abc_len, in_abc, hlt, s_mq, in_mq, hq]
      | snoc J p hk hp n44' l o ln =>
        rw [beg_snoc hk hp n44']
        refine ⟨fun z => by simp at z, fun _ => ?_⟩
        simp [restPF, stP, h44, s_abc, abc_len, in_abc, hlt, s_mq, in_mq]
end
end K5
end
section
set_option maxRecDepth 100000
set_option maxHeartbeats 2000000
namespace K5
open PySem L2 TL RL
open scoped RL.R RL.RS
section
variable {S : Sto}
theorem pre_le {X : List Nat} : ∀ n : Nat, n ≤ X.length → (∀ k d, k < n → X[k]? = some d → cs X k d = true) → cnt X n ≤ 5 ∧ ltr X n ≤ 8
  | 0, _, _ => by simp [cnt, ltr, letters]
  | n + 1, hn, h => by
    obtain ⟨h1, h2⟩ := pre_le n (by omega) fun k d hk hd => h k d (by omega) hd
    obtain ⟨c, hc⟩ : ∃ c, X[n]? = some c := ⟨X[n]'(by omega), List.getElem?_eq_getElem _⟩
    have g := h n c (by omega) hc
    have ecs : cs X n c = (if c = 44 then !(beg X n) && decide (cnt X n < 5) else if lt c = true then (beg X n || upTo X c n) && decide (ltr X n < 8) else beg X n && (decide (c = 45) || decide (c = 63))) := rfl
    rw [ecs] at g
    rw [cnt_succ hc, ltr_succ hc]
    by_cases h44 : c = 44
    · rw [if_pos h44] at g ⊢
      have nl : ¬ lt c = true := by rw [h44]; decide
      rw [if_neg nl]
      have := of_decide_eq_true (Bool.and_eq_true_iff.mp g).2
      omega
    · rw [if_neg h44] at g ⊢
      by_cases hl : lt c = true
      · rw [if_pos hl] at g ⊢
        have := of_decide_eq_true (Bool.and_eq_true_iff.mp g).2
        omega
      · rw [if_neg hl]
        omega
theorem law_pattern_fault {X : List Nat} (len : X.length ≤ 2000) : L__law_pattern_fault [.str ⟨X.toArray⟩] S = .ok (.int (codeO (faultP X))) S := by
  refine run_ret ?_
  show m__law_pattern_fault [some (.str ⟨X.toArray⟩), none, none, none, none, none] S = _
  unfold faultP
  have ct : cutS ⟨X.toArray⟩ none (some 1) = ⟨(X.take 1).toArray⟩ := cut_take X 1
  by_cases h2 : X[0]? = some 46
  · obtain ⟨r, rfl⟩ : ∃ r, X = 46 :: r := by
      cases X with
      | nil => simp at h2
      | cons a r => simp at h2; subst h2; exact ⟨r, rfl⟩
    have tk : (46 :: r).take 1 = [46] := rfl
    cases r with
    | nil =>
      rw [if_pos rfl]
      have s0 : p__law_pattern_fault_0 [some (.str ⟨[46].toArray⟩), none, none, none, none, none] S = .ret (.int (-1)) S := by
        have ix : idxT (.lst [.int (-1), .int 1]) (.int 0) S = .ok (.int (-1)) S := rfl
        simp [p__law_pattern_fault_0, slT, ct, ix]
      rw [m__law_pattern_fault, seqM_eq, s0]
      rfl
    | cons b r =>
      rw [if_neg (by simp), if_pos h2]
      have s0 : p__law_pattern_fault_0 [some (.str ⟨(46 :: b :: r).toArray⟩), none, none, none, none, none] S = .ret (.int 1) S := by
        have ix : idxT (.lst [.int (-1), .int 1]) (.int 1) S = .ok (.int 1) S := rfl
        have l1 : (1 : Int) < ((46 :: b :: r).length : Nat) := by simp; omega
        have l1' : (1 : Int) < (r.length : Int) + 1 + 1 := by omega
        simp [p__law_pattern_fault_0, slT, ct, l1', ix]
      rw [m__law_pattern_fault, seqM_eq, s0]
      rfl
  have n46 : ¬ X = [46] := fun z => h2 (by rw [z]; rfl)
  have tk : ¬ X.take 1 = [46] := fun z => h2 (by
    cases X with
    | nil => simp at z
    | cons a r => simp at z; subst z; rfl)
  have s0 : p__law_pattern_fault_0 [some (.str ⟨X.toArray⟩), none, none, none, none, none] S = .nx [some (.str ⟨X.toArray⟩), none, none, none, none, none] S := by simp [p__law_pattern_fault_0, slT, ct, tk]
  have s1 : p__law_pattern_fault_1 [some (.str ⟨X.toArray⟩), none, none, none, none, none] S = .nx (stP X [] 0 none none) S := by
    simp [p__law_pattern_fault_1, asgM, tgT, setAll, stP, cnt, ltr, letters]
  rw [if_neg n46, if_neg h2, m__law_pattern_fault, seqM_eq, s0, RS.seq_nx, t__law_pattern_fault_1, seqM_eq, s1, RS.seq_nx, t__law_pattern_fault_2, seqM_eq]
  have e2 : m1 rng1T (consM (m1 (f1 lenT) (consM (varM 0) nilM)) nilM) (stP X [] 0 none none) S = .ok ((List.range X.length).map fun i => T.int (0 + (i : Nat)), none) S := rngX (S := S) len _
  have lp : ∀ r, forL ((List.range X.length).map fun i => T.int (0 + (i : Nat)), none) (.one 1) bodyPF ((List.range X.length).map fun i => T.int (0 + (i : Nat))) (stP X [] 0 none none) S = r → p__law_pattern_fault_2 (stP X [] 0 none none) S = r := fun r hr => by
    rw [p__law_pattern_fault_2, forM_eq, e2, R.bindS_ok]
    exact hr
  cases hf : firstN (cs X) 0 X with
  | some n =>
    obtain ⟨n', c, e, hc, hbad, hgood⟩ := firstN_some hf
    obtain rfl : n = n' := by omega
    have hgood : ∀ k d, k < n → X[k]? = some d → cs X k d = true := fun k d hk hd => by
      have := hgood k d hk hd
      rw [Nat.zero_add] at this
      exact this
    have hl := (List.getElem?_eq_some_iff.mp hc).1
    have loop := forL_stop (src := ((List.range X.length).map fun i => T.int (0 + (i : Nat)), none)) (g := .one 1) (body := bodyPF) (r := .ret (.int (n : Int)) S) (fun k ρ S' => S' = S ∧ ∃ I o1 o5, ρ = stP X I k o1 o5 ∧ PI X k I) (fun _ _ _ _ => trivial) (fun _ _ => by intro z; cases z) n 0 ((List.range X.length).map fun i => T.int (0 + (i : Nat))) (ρ := stP X [] 0 none none) (S := S) (by simpa using hl) ⟨rfl, [], none, none, rfl, .nil rfl⟩ (fun j t ρ S' hj ht hI => by
        rw [Nat.zero_add] at hI
        obtain ⟨rfl, I, o1, o5, rfl, hp⟩ := hI
        obtain ⟨rfl, hx⟩ := rng_at ht
        obtain ⟨d, hd⟩ : ∃ d, X[j]? = some d := ⟨X[j], List.getElem?_eq_getElem hx⟩
        obtain ⟨p1, p2⟩ := pre_le (X := X) j (by omega) fun k d hk hd => hgood k d (by omega) hd
        obtain ⟨I', hI', b⟩ := (bodyPF_ok (S := S') len hd hp p1 p2 o5).1 (hgood j d hj hd)
        exact ⟨_, rfl, _, _, b, rfl, I', some (.int (j : Int)), some (.str ⟨#[d]⟩), by rw [Nat.zero_add], by rw [Nat.zero_add]; exact hI'⟩) (fun t ρ S' ht hI => by
        rw [Nat.zero_add] at hI
        obtain ⟨rfl, I, o1, o5, rfl, hp⟩ := hI
        obtain ⟨rfl, hx⟩ := rng_at ht
        obtain ⟨p1, p2⟩ := pre_le (X := X) n (by omega) hgood
        exact ⟨_, rfl, (bodyPF_ok (S := S') len hc hp p1 p2 o5).2 hbad⟩)
    rw [lp _ loop]
    rfl
  | none =>
    have hgood : ∀ k d, X[k]? = some d → cs X k d = true := fun k d hd => by
      have := firstN_none hf k d hd
      rw [Nat.zero_add] at this
      exact this
    obtain ⟨ρ2, S2, loop, hS, I, o1, o5, hρ, hp⟩ := forL_all (src := ((List.range X.length).map fun i => T.int (0 + (i : Nat)), none)) (g := .one 1) (body := bodyPF) (fun k ρ S' => S' = S ∧ ∃ I o1 o5, ρ = stP X I k o1 o5 ∧ PI X k I) (fun _ _ _ _ => trivial) ((List.range X.length).map fun i => T.int (0 + (i : Nat))) 0 (ρ := stP X [] 0 none none) (S := S) ⟨rfl, [], none, none, rfl, .nil rfl⟩ (fun j t ρ S' ht hI => by
        rw [Nat.zero_add] at hI
        obtain ⟨rfl, I, o1, o5, rfl, hp⟩ := hI
        obtain ⟨rfl, hx⟩ := rng_at ht
        obtain ⟨d, hd⟩ : ∃ d, X[j]? = some d := ⟨X[j], List.getElem?_eq_getElem hx⟩
        obtain ⟨p1, p2⟩ := pre_le (X := X) j (by omega) fun k d hk hd => hgood k d hd
        obtain ⟨I', hI', b⟩ := (bodyPF_ok (S := S') len hd hp p1 p2 o5).1 (hgood j d hd)
        exact ⟨_, rfl, _, _, b, rfl, I', some (.int (j : Int)), some (.str ⟨#[d]⟩), by rw [Nat.zero_add], by rw [Nat.zero_add]; exact hI'⟩)
    subst hS hρ
    rw [lp _ loop, RS.seq_nx, t__law_pattern_fault_3, seqM_eq]
    dsimp only
    have ln : 0 + ((List.range X.length).map fun i => T.int (0 + (i : Nat))).length = X.length := by simp
    rw [ln] at hp ⊢
    have hb : (I = []) ↔ (X = [] ∨ X[X.length - 1]? = some 44) := by
      have hbeg := hp.beg
      rw [← decide_eq_true_iff (p := I = []), hbeg]
      by_cases x0 : X = []
      · subst x0; simp [beg]
      · obtain ⟨j, hj⟩ : ∃ j, X.length = j + 1 := ⟨X.length - 1, by have : X.length ≠ 0 := fun e => x0 (List.length_eq_zero_iff.mp e); omega⟩
        rw [hj]
        show decide (X[j]? = some 44) = true ↔ _
        rw [show j + 1 - 1 = j by omega]
        simp [x0]
    by_cases h3 : X = [] ∨ X[X.length - 1]? = some 44
    · have hI := hb.mpr h3
      subst hI
      rw [if_pos h3]
      have s3 : p__law_pattern_fault_3 (stP X [] X.length o1 o5) S2 = .ret (.int (X.length : Nat)) S2 := by simp [p__law_pattern_fault_3, stP]
      rw [s3]
      rfl
    · have hI : ¬ I = [] := fun z => h3 (hb.mp z)
      rw [if_neg h3]
      have s3 : p__law_pattern_fault_3 (stP X I X.length o1 o5) S2 = .nx (stP X I X.length o1 o5) S2 := by simp [p__law_pattern_fault_3, stP, hI]
      rw [s3]
      simp [p__law_pattern_fault_4, codeO]
end
end K5
end
section
set_option maxRecDepth 100000
set_option maxHeartbeats 2000000
namespace K5
open PySem L2 TL RL
open scoped RL.R RL.RS
/-! ## the law's comparison -/
def isSc : T → Bool
  | .non => true
  | .bl _ => true
  | .int _ => true
  | .str _ => true
  | _ => false
/-- a row with its items -/
structure Rw (S : Sto) (t : T) (tp : Bool) (l : List T) : Prop where
  kind : kindT t = some (if tp then "tuple" else "list")
  ln : lenT t S = .ok (.int l.length) S
  ix : ∀ (k : Nat) (u : T), l[k]? = some u → idxT t (.int k) S = .ok u S
def eqX : Nat → Sto → T → T → Prop
  | 0, _, _, _ => False
  | n + 1, S, a, b => (isSc b = true ∧ a = b) ∨ ∃ tp la lb, Rw S a tp la ∧ Rw S b tp lb ∧ la.length = lb.length ∧ lb.length ≤ 1000 ∧ ∀ (k : Nat) (u v : T), la[k]? = some u → lb[k]? = some v → eqX n S u v
theorem atI_nat {l : List T} {k : Nat} {u : T} (h : l[k]? = some u) : atI l (k : Int) = some u := by
  have hk := (List.getElem?_eq_some_iff.mp h).1
  unfold atI ixN
  rw [if_pos (by omega), if_pos (by omega)]
  simpa using h
theorem rw_tup {S : Sto} (l : List T) : Rw S (.tup l) true l := ⟨rfl, by simp, fun k u h => by unfold idxT; simp [atI_nat h]⟩
theorem rw_lst {S : Sto} (l : List T) : Rw S (.lst l) false l := ⟨rfl, by simp, fun k u h => idx_lst (atI_nat h)⟩
theorem rw_loc {S : Sto} {n : Nat} {l : List T} (e : S[n]? = some l) : Rw S (.loc n) false l := ⟨rfl, len_loc e, fun k u h => by unfold idxT itemsT; simp [e, atI_nat h]⟩
section
variable {S : Sto}
theorem isi1 {t : T} {a : String} (h : kindT t = some a) (n : String) (hn : n ∈ kindsK) : isiT t (.ty n) S = .ok (.bl (isK a n)) S := by
  unfold isiT
  rw [h]
  simp only [clsOf]
  rw [gd_pos (by simpa using hn)]
  simp
theorem exact_row {GS Gi : List T → Sto → R T} {n : Nat} (hG : ∀ a b, eqX n S a b → GS [a, b] S = .ok (.bl true) S) {a b : T} {tp : Bool} {la lb : List T} (ha : Rw S a tp la) (hb : Rw S b tp lb) (hl : la.length = lb.length) (h1000 : lb.length ≤ 1000)
    (hi : ∀ (k : Nat) (u v : T), la[k]? = some u → lb[k]? = some v → eqX n S u v) : runF 2 1 (m__law_exact GS Gi) [a, b] S = .ok (.bl true) S := by
  refine run_ret ?_
  show m__law_exact GS Gi [some a, some b, none] S = _
  have items : ∀ (l0 : List T), lcL (l0, none) (.one 2) (m1 notT (m1 truthT (m1 (callF 2 GS) (consM (m2 idxT (varM 0) (varM 2)) (consM (m2 idxT (varM 1) (varM 2)) nilM))))) (varM 2) ((List.range lb.length).map fun i => T.int (0 + (i : Nat))) [] [some a, some b, none] S = .ok [] S := fun l0 => by
    rw [lcl0 (fun _ => false) id _ _ (by simp; omega)]
    · simp
    · intro t ht
      obtain ⟨k, hk, rfl⟩ := List.mem_map.mp ht
      have hk := List.mem_range.mp hk
      have ea : la[k]? = some (la[k]'(by omega)) := List.getElem?_eq_getElem _
      have eb : lb[k]? = some lb[k] := List.getElem?_eq_getElem hk
      have ia := ha.ix k _ ea
      have ib := hb.ix k _ eb
      have g := hG _ _ (hi k _ _ ea eb)
      have z : (0 + (k : Int)) = (k : Int) := by omega
      rw [z]
      simp only [m1_eq, m2_eq, consM_eq, nilM_eq, List.set, vc0, vc1, vc2, R.bind_ok, ia, ib, callF_eq, gd_pos (show [la[k]'(by omega), lb[k]].length = 2 from rfl), g, truth_bl, notT_eq, Bool.not_true]
    · intro t _ h
      cases h
  have e1 : consM (m1 (f1 lenT) (consM (varM 1) nilM)) nilM [some a, some b, none] S = .ok [T.int (lb.length : Nat)] S := by
    simp only [m1_eq, consM_eq, nilM_eq, vc1, R.bind_ok, f1_eq, hb.ln]
  have e2 : m1 rng1T (consM (m1 (f1 lenT) (consM (varM 1) nilM)) nilM) [some a, some b, none] S = .ok ((List.range lb.length).map fun i => T.int (0 + (i : Nat)), none) S := by
    rw [m1_eq, e1, R.bind_ok]
    exact rng_n lb.length (by omega)
  have e3 : lcM false [2] (m1 rng1T (consM (m1 (f1 lenT) (consM (varM 1) nilM)) nilM)) (.one 2) (m1 notT (m1 truthT (m1 (callF 2 GS) (consM (m2 idxT (varM 0) (varM 2)) (consM (m2 idxT (varM 1) (varM 2)) nilM))))) (varM 2) [some a, some b, none] S = .ok (.lst []) S := by
    rw [lcM_eq, e2, R.bind_ok]
    simp only [wipeE, List.set]
    rw [items]
    rfl
  have ka := ha.kind
  have kb := hb.kind
  have ia1 := isi1 (S := S) ka "tuple" (by decide)
  have ia2 := isi1 (S := S) ka "list" (by decide)
  have ib1 := isi1 (S := S) kb "tuple" (by decide)
  have ib2 := isi1 (S := S) kb "list" (by decide)
  have inner : (seqM (ifS (orM (m1 boolOf (m2 neT (m1 (f2 isiT) (consM (varM 0) (consM (retM (.ty "tuple")) (nilM)))) (m1 (f2 isiT) (consM (varM 1) (consM (retM (.ty "tuple")) (nilM)))))) (m1 boolOf (m2 neT (m1 (f2 isiT) (consM (varM 0) (consM (retM (.ty "list")) (nilM)))) (m1 (f2 isiT) (consM (varM 1) (consM (retM (.ty "list")) (nilM))))))) (retS (retM (.bl false))) (nextM)) <|
    retS (andV (m2 eqT (m1 (f1 lenT) (consM (varM 0) (nilM))) (m1 (f1 lenT) (consM (varM 1) (nilM)))) (m1 blT (m1 notT (m1 truthT (lcM false [2] (m1 rng1T (consM (m1 (f1 lenT) (consM (varM 1) (nilM))) (nilM))) (.one 2) (m1 notT (m1 truthT (m1 (callF 2 GS) (consM (m2 idxT (varM 0) (varM 2)) (consM (m2 idxT (varM 1) (varM 2)) (nilM)))))) (varM 2))))))) [some a, some b, none] S = .ret (.bl true) S := by
    rw [seqM_eq, ifS_eq]
    simp only [orM_eq, m1_eq, m2_eq, consM_eq, nilM_eq, retM_eq, vc0, vc1, R.bind_ok, f2_eq, ia1, ia2, ib1, ib2, ne_bl, decide_true, Bool.not_true, boolOf_eq, R.bindS_ok, Bool.false_eq_true, if_false, nextM_eq, RS.seq_nx]
    rw [retS_eq, andV_eq]
    simp only [m1_eq, m2_eq, consM_eq, nilM_eq, vc0, vc1, R.bind_ok, f1_eq, ha.ln, hb.ln, hl, eq_int, decide_true, truth_bl, if_true]
    simp only [e3, R.bind_ok, truth_lst, notT_eq, blT_eq, R.bindS_ok]
    rfl
  have kt : (isK (if tp = true then "tuple" else "list") "tuple" || isK (if tp = true then "tuple" else "list") "list") = true := by cases tp <;> decide
  have p0 : p__law_exact_0 GS Gi [some a, some b, none] S = .ret (.bl true) S := by
    unfold p__law_exact_0
    rw [ifS_eq]
    simp only [orM_eq, m1_eq, consM_eq, nilM_eq, retM_eq, vc1, R.bind_ok, f2_eq, ib1, ib2, truth_bl]
    cases tp
    · simp only [show isK (if false = true then "tuple" else "list") "tuple" = false by decide, show isK (if false = true then "tuple" else "list") "list" = true by decide, Bool.false_eq_true, if_false, R.bind_ok, R.bindS_ok, if_true]
      exact inner
    · simp only [show isK (if true = true then "tuple" else "list") "tuple" = true by decide, if_true, R.bindS_ok]
      exact inner
  rw [m__law_exact, seqM_eq, p0, RS.seq_ret]
theorem exact_p0 {GS Gi : List T → Sto → R T} {b : T} {a : String} (h : kindT b = some a) (h1 : isK a "tuple" = false) (h2 : isK a "list" = false) : p__law_exact_0 GS Gi [some b, some b, none] S = .nx [some b, some b, none] S := by
  have c : (orM (m1 truthT (m1 (f2 isiT) (consM (varM 1) (consM (retM (.ty "tuple")) nilM)))) (m1 truthT (m1 (f2 isiT) (consM (varM 1) (consM (retM (.ty "list")) nilM))))) [some b, some b, none] S = .ok false S := by
    have i1 := isi1 (S := S) h "tuple" (by decide)
    have i2 := isi1 (S := S) h "list" (by decide)
    rw [h1] at i1
    rw [h2] at i2
    simp [i1, i2]
  rw [p__law_exact_0, ifS_eq, c, R.bindS_ok, if_neg Bool.false_ne_true, nextM_eq]
theorem exact_sc {GS Gi : List T → Sto → R T} (hGi : ∀ i : Int, Gi [.int i] S = .ok (.bl true) S) {b : T} (hb : isSc b = true) : runF 2 1 (m__law_exact GS Gi) [b, b] S = .ok (.bl true) S := by
  refine run_ret ?_
  show m__law_exact GS Gi [some b, some b, none] S = _
  have key : ∀ {a : String}, kindT b = some a → isK a "tuple" = false → isK a "list" = false → t__law_exact_1 GS Gi [some b, some b, none] S = .ret (.bl true) S → m__law_exact GS Gi [some b, some b, none] S = .ret (.bl true) S := fun h h1 h2 r => by
    rw [m__law_exact, seqM_eq, exact_p0 h h1 h2, RS.seq_nx, r]
  cases b <;> first | (cases hb; done) | skip
  · refine key rfl (by decide) (by decide) ?_
    simp [t__law_exact_1, p__law_exact_1, isNonT]
  · rename_i k
    refine key rfl (by decide) (by decide) ?_
    simp [t__law_exact_1, t__law_exact_2, p__law_exact_1, p__law_exact_2, isiT, kindT, clsOf, gd, kindsK, isK, isNonT]
  · rename_i k
    refine key rfl (by decide) (by decide) ?_
    simp [t__law_exact_1, t__law_exact_2, t__law_exact_3, p__law_exact_1, p__law_exact_2, p__law_exact_3, p__law_exact_4, isiT, kindT, clsOf, gd, kindsK, isK, isNonT, hGi]
  · rename_i k
    refine key rfl (by decide) (by decide) ?_
    simp [t__law_exact_1, t__law_exact_2, t__law_exact_3, p__law_exact_1, p__law_exact_2, p__law_exact_3, isiT, kindT, clsOf, gd, kindsK, isK, isNonT]
theorem isint_ok (i : Int) : L__law_is_int [.int i] S = .ok (.bl true) S := by
  refine run_ret ?_
  simp [m__law_is_int, startE, isiT, kindT, clsOf, gd, kindsK, isK]
theorem exact_ok : ∀ (n : Nat) (a b : T), eqX n S a b → L__law_exact n [a, b] S = .ok (.bl true) S
  | 0, _, _, h => h.elim
  | n + 1, a, b, h => by
    rcases h with ⟨h1, rfl⟩ | ⟨tp, la, lb, ha, hb, h1, h2, h3⟩
    · exact exact_sc isint_ok h1
    · exact exact_row (exact_ok n) ha hb h1 h2 h3
theorem exactH_ok : ∀ (n : Nat) (a b : T), eqX n S a b → H__law_exact n [a, b] S = .ok (.bl true) S
  | 0, _, _, h => h.elim
  | n + 1, a, b, h => by
    rcases h with ⟨h1, rfl⟩ | ⟨tp, la, lb, ha, hb, h1, h2, h3⟩
    · exact exact_sc (fun i => by rw [calmF_eq, isint_ok]; rfl) h1
    · exact exact_row (fun a b h => by rw [calmF_eq, exactH_ok n a b h]; rfl) ha hb h1 h2 h3
/-- what is looked at twice -/
def fineX : Nat → T → Bool
  | 0, _ => false
  | n + 1, t => match t with
    | .tup l => decide (l.length ≤ 1000) && l.all (fineX n)
    | .lst l => decide (l.length ≤ 1000) && l.all (fineX n)
    | t => isSc t
theorem eqX_refl : ∀ (n : Nat) (t : T), fineX n t = true → eqX n S t t
  | 0, _, h => by cases h
  | n + 1, t, h => by
    cases t <;> first | exact .inl ⟨h, rfl⟩ | skip
    · rename_i l
      unfold fineX at h
      simp only [Bool.and_eq_true, decide_eq_true_eq, List.all_eq_true] at h
      refine .inr ⟨true, l, l, rw_tup l, rw_tup l, rfl, h.1, fun k u v h1 h2 => ?_⟩
      rw [h1] at h2; cases h2
      exact eqX_refl n u (h.2 u (List.mem_of_getElem? h1))
    · rename_i l
      unfold fineX at h
      simp only [Bool.and_eq_true, decide_eq_true_eq, List.all_eq_true] at h
      refine .inr ⟨false, l, l, rw_lst l, rw_lst l, rfl, h.1, fun k u v h1 h2 => ?_⟩
      rw [h1] at h2; cases h2
      exact eqX_refl n u (h.2 u (List.mem_of_getElem? h1))
end
end K5
end
section
set_option maxRecDepth 100000
set_option maxHeartbeats 2000000
namespace K5
open PySem L2 TL RL
open scoped RL.R RL.RS
section
variable {S : Sto}
/-! ## what the law asks of one text -/
theorem refusal_ok (a dd : Addr) (m : Int) : L__law_refusal a dd "BadText" [.exn a dd "at" (.int m)] S = .ok (.int m) S := by
  have sb1 : subs "BadText" "BadText" = some true := by decide +kernel
  have sb2 : subs "BadText" "ValueError" = some true := by decide +kernel
  have sb3 : subs "BadText" "BadLine" = some false := by decide +kernel
  have sb4 : subs "BadText" "BadDeed" = some false := by decide +kernel
  have sb5 : subs "BadText" "BadPattern" = some false := by decide +kernel
  have fl : flds "BadText" "at" = true := by decide +kernel
  have ix : ∀ (x : Str) (b : Bool), subs "BadText" x = some b → isxM subs a dd "BadText" 0 x [some (.exn a dd "at" (.int m))] S = .ok (.bl b) S := fun x b hb => by
    show gd _ _ = _
    rw [gd_pos ⟨rfl, rfl⟩, hb]
  have xf : xfM flds a dd "BadText" 0 "at" [some (.exn a dd "at" (.int m))] S = .ok (.int m) S := by
    show gd _ _ = _
    rw [gd_pos ⟨rfl, rfl, rfl, fl⟩]
  have j1 := ix _ _ sb1
  have j2 := ix _ _ sb2
  have j3 := ix _ _ sb3
  have j4 := ix _ _ sb4
  have j5 := ix _ _ sb5
  refine run_ret ?_
  show m__law_refusal a dd "BadText" [some (.exn a dd "at" (.int m))] S = _
  simp [m__law_refusal, j1, j2, j3, j4, j5, xf]
theorem exH (m : Int) : H__law_exact 3 [.int m, .int m] S = .ok (.bl true) S := exactH_ok 3 _ _ (.inl ⟨rfl, rfl⟩)
theorem deed_refused {W : T} {m : Int} (hw : L_read_deed [W] S = .err "BadText" [("at", .int m)] S) (hm : -2 < m) : L__law_deed_read [W, .int m] S = .ok (.bl true) S := by
  have ct : catches_ShowError "BadText" = some true := by decide +kernel
  refine run_ret ?_
  show m__law_deed_read [some W, some (.int m), none, none] S = _
  have p0 : p__law_deed_read_0 [some W, some (.int m), none, none] S = .ret (.bl true) S := by
    unfold p__law_deed_read_0 tryM
    have e0 : m1 (callF 1 L_read_deed) (fun ρ S => calm ((consM (varM 0) nilM) ρ S)) [some W, some (.int m), none, none] S = .err "BadText" [("at", .int m)] S := by simp [gd, hw]
    rw [e0]
    dsimp only
    unfold caughtM
    rw [ct]
    dsimp only
    refine allA_eq fun a dd => ?_
    have j := refusal_ok (S := S) a dd m
    have ex := exH (S := S) m
    simp [hm, gd, j, ex, calmS, endT]
  rw [m__law_deed_read, seqM_eq, p0, RS.seq_ret]
theorem pattern_refused {W : T} {m : Int} (hw : L_read_pattern [W] S = .err "BadText" [("at", .int m)] S) (hm : -2 < m) : L__law_pattern_read [W, .int m] S = .ok (.bl true) S := by
  have ct : catches_ShowError "BadText" = some true := by decide +kernel
  refine run_ret ?_
  show m__law_pattern_read [some W, some (.int m), none, none] S = _
  have p0 : p__law_pattern_read_0 [some W, some (.int m), none, none] S = .ret (.bl true) S := by
    unfold p__law_pattern_read_0 tryM
    have e0 : m1 (callF 1 L_read_pattern) (fun ρ S => calm ((consM (varM 0) nilM) ρ S)) [some W, some (.int m), none, none] S = .err "BadText" [("at", .int m)] S := by simp [gd, hw]
    rw [e0]
    dsimp only
    unfold caughtM
    rw [ct]
    dsimp only
    refine allA_eq fun a dd => ?_
    have j := refusal_ok (S := S) a dd m
    have ex := exH (S := S) m
    simp [hm, gd, j, ex, calmS, endT]
  rw [m__law_pattern_read, seqM_eq, p0, RS.seq_ret]
theorem deed_told {W t : T} (hw : L_read_deed [W] S = .ok t S) (ht : L__law_deed_told [W] S = .ok t S) (hf : fineX 3 t = true) : L__law_deed_read [W, .int (-2)] S = .ok (.bl true) S := by
  have ex := exact_ok (S := S) 3 t t (eqX_refl 3 t hf)
  refine run_ret ?_
  show m__law_deed_read [some W, some (.int (-2)), none, none] S = _
  have p0 : p__law_deed_read_0 [some W, some (.int (-2)), none, none] S = .nx [some W, some (.int (-2)), none, some t] S := by
    unfold p__law_deed_read_0 tryM
    have e0 : m1 (callF 1 L_read_deed) (fun ρ S => calm ((consM (varM 0) nilM) ρ S)) [some W, some (.int (-2)), none, none] S = .ok t S := by simp [gd, hw]
    rw [e0]
    rfl
  rw [m__law_deed_read, seqM_eq, p0, RS.seq_nx]
  simp [p__law_deed_read_1, gd, ht, ex]
theorem pattern_told {W t : T} (hw : L_read_pattern [W] S = .ok t S) (ht : L__law_pattern_told [W] S = .ok t S) (hf : fineX 3 t = true) : L__law_pattern_read [W, .int (-2)] S = .ok (.bl true) S := by
  have ex := exact_ok (S := S) 3 t t (eqX_refl 3 t hf)
  refine run_ret ?_
  show m__law_pattern_read [some W, some (.int (-2)), none, none] S = _
  have p0 : p__law_pattern_read_0 [some W, some (.int (-2)), none, none] S = .nx [some W, some (.int (-2)), none, some t] S := by
    unfold p__law_pattern_read_0 tryM
    have e0 : m1 (callF 1 L_read_pattern) (fun ρ S => calm ((consM (varM 0) nilM) ρ S)) [some W, some (.int (-2)), none, none] S = .ok t S := by simp [gd, hw]
    rw [e0]
    rfl
  rw [m__law_pattern_read, seqM_eq, p0, RS.seq_nx]
  simp [p__law_pattern_read_1, gd, ht, ex]
theorem fine_toldD {X : List Nat} (h : faultD X = none) : fineX 3 (.tup (toldD X)) = true := by
  have l : X.length ≤ 9 := by
    rcases fault_none h with rfl | ⟨_, _, g⟩
    · decide
    · exact g.len
  unfold toldD
  by_cases h1 : X = [45]
  · rw [if_pos h1]; rfl
  · rw [if_neg h1]
    simp only [fineX, List.length_map, List.length_range, Bool.and_eq_true, decide_eq_true_eq, List.all_eq_true]
    refine ⟨by omega, fun t ht => ?_⟩
    obtain ⟨k, _, rfl⟩ := List.mem_map.mp ht
    simp [tripT, fineX, isSc]
theorem faultP_none {X : List Nat} (h : faultP X = none) : X = [46] ∨ (X ≠ [46] ∧ ∀ k c, X[k]? = some c → cs X k c = true) := by
  unfold faultP at h
  by_cases h1 : X = [46]
  · exact .inl h1
  rw [if_neg h1] at h
  by_cases h2 : X[0]? = some 46
  · rw [if_pos h2] at h; cases h
  rw [if_neg h2] at h
  cases e : firstN (cs X) 0 X with
  | some n => rw [e] at h; cases h
  | none =>
    refine .inr ⟨h1, fun k c hc => ?_⟩
    have := firstN_none e k c hc
    rw [Nat.zero_add] at this
    exact this
theorem fine_toldP {X : List Nat} (h : faultP X = none) : fineX 3 (.tup (toldP X)) = true := by
  unfold toldP
  rcases faultP_none h with rfl | ⟨h1, g⟩
  · rfl
  · rw [if_neg h1]
    have c5 := (pre_le (X := X) X.length (Nat.le_refl _) fun k d _ hd => g k d hd).1
    unfold cnt at c5
    rw [List.take_length] at c5
    have pl := partsP_len X
    simp only [fineX, List.length_map, Bool.and_eq_true, decide_eq_true_eq, List.all_eq_true]
    refine ⟨by omega, fun t ht => ?_⟩
    obtain ⟨p, _, rfl⟩ := List.mem_map.mp ht
    unfold itemP
    by_cases e1 : p = [63]
    · rw [if_pos e1]; rfl
    · rw [if_neg e1]
      by_cases e2 : p = [45]
      · rw [if_pos e2]; rfl
      · rw [if_neg e2]; rfl
theorem both_ok {X : List Nat} (len : X.length ≤ 2000) : L__law_both_read [.str ⟨X.toArray⟩] S = .ok (.bl true) S := by
  have f1' := law_deed_fault (S := S) len
  have f2' := law_pattern_fault (S := S) len
  have d : ∃ i : Int, L__law_deed_read [.str ⟨X.toArray⟩, .int i] S = .ok (.bl true) S ∧ (i = if codeO (faultD X) = -1 then -2 else codeO (faultD X)) := by
    cases h : faultD X with
    | none => exact ⟨-2, deed_told (read_deed_told h) (law_deed_told h) (fine_toldD h), rfl⟩
    | some m => exact ⟨m, deed_refused (read_deed_bad len h) (by omega), by
        have : ¬ ((m : Nat) : Int) = -1 := by omega
        show _ = if (m : Int) = -1 then _ else _
        rw [if_neg this]; rfl⟩
  have p : ∃ i : Int, L__law_pattern_read [.str ⟨X.toArray⟩, .int i] S = .ok (.bl true) S ∧ (i = if codeO (faultP X) = -1 then -2 else codeO (faultP X)) := by
    have rp := read_pattern_any (S := S) len
    cases h : faultP X with
    | none =>
      rw [h] at rp
      exact ⟨-2, pattern_told rp (law_pattern_told len) (fine_toldP h), rfl⟩
    | some m =>
      rw [h] at rp
      exact ⟨m, pattern_refused rp (by omega), by
        have : ¬ ((m : Nat) : Int) = -1 := by omega
        show _ = if (m : Int) = -1 then _ else _
        rw [if_neg this]; rfl⟩
  obtain ⟨i, hi, ei⟩ := d
  obtain ⟨j, hj, ej⟩ := p
  refine run_ret ?_
  generalize codeO (faultD X) = a at *
  generalize codeO (faultP X) = b at *
  have q0 : p__law_both_read_0 [some (.str ⟨X.toArray⟩), none, none] S = .nx [some (.str ⟨X.toArray⟩), some (.int a), none] S := by simp [p__law_both_read_0, gd, f1']
  have q1 : p__law_both_read_1 [some (.str ⟨X.toArray⟩), some (.int a), none] S = .nx [some (.str ⟨X.toArray⟩), some (.int a), some (.int b)] S := by simp [p__law_both_read_1, gd, f2']
  have q2 : p__law_both_read_2 [some (.str ⟨X.toArray⟩), some (.int a), some (.int b)] S = .nx [some (.str ⟨X.toArray⟩), some (.int i), some (.int b)] S := by
    by_cases h : a = -1
    · rw [if_pos h] at ei
      simp [p__law_both_read_2, h, ei]
    · rw [if_neg h] at ei
      simp [p__law_both_read_2, h, ei]
  have q3 : p__law_both_read_3 [some (.str ⟨X.toArray⟩), some (.int i), some (.int b)] S = .nx [some (.str ⟨X.toArray⟩), some (.int i), some (.int j)] S := by
    by_cases h : b = -1
    · rw [if_pos h] at ej
      simp [p__law_both_read_3, h, ej]
    · rw [if_neg h] at ej
      simp [p__law_both_read_3, h, ej]
  show m__law_both_read [some (.str ⟨X.toArray⟩), none, none] S = _
  rw [m__law_both_read, seqM_eq, q0, RS.seq_nx, t__law_both_read_1, seqM_eq, q1, RS.seq_nx, t__law_both_read_2, seqM_eq, q2, RS.seq_nx, t__law_both_read_3, seqM_eq, q3, RS.seq_nx]
  simp [p__law_both_read_4, gd, hi, hj]
/-- no text at all -/
theorem odd_deed {W : T} {k : String} (hk : kindT W = some k) (h : isK k "str" = false) : L__law_deed_read [W, .int (-1)] S = .ok (.bl true) S := by
  refine deed_refused ?_ (by decide)
  have i1 := isi1 (S := S) hk "str" (by decide)
  rw [h] at i1
  refine run_err ?_
  show m_read_deed [some W, none, none] S = _
  have s0 : p_read_deed_0 [some W, none, none] S = .err "BadText" [("at", .int (-1))] S := by simp [p_read_deed_0, i1]
  rw [m_read_deed, seqM_eq, s0]
  rfl
theorem odd_pattern {W : T} {k : String} (hk : kindT W = some k) (h : isK k "str" = false) : L__law_pattern_read [W, .int (-1)] S = .ok (.bl true) S := by
  refine pattern_refused ?_ (by decide)
  have i1 := isi1 (S := S) hk "str" (by decide)
  rw [h] at i1
  refine run_err ?_
  show m_read_pattern [some W, none, none] S = _
  have s0 : p_read_pattern_0 [some W, none, none] S = .err "BadText" [("at", .int (-1))] S := by simp [p_read_pattern_0, i1]
  rw [m_read_pattern, seqM_eq, s0]
  rfl
end
end K5
end
section
set_option maxRecDepth 100000
set_option maxHeartbeats 2000000
namespace K5
open PySem L2 TL RL
open scoped RL.R RL.RS
section
variable {S : Sto}
def lenI : T → Nat
  | .str x => x.length
  | _ => 0
def notN : T → Bool
  | .non => false
  | _ => true
def goodP (l : List T) : Bool := decide (l.length ≤ 6) && ((l.filter notN).all isW && decide (((l.filter notN).map lenI).sum ≤ 8))
def itS : T → Str
  | .non => ⟨#[63]⟩
  | .str x => if x = ⟨#[]⟩ then ⟨#[45]⟩ else x
  | _ => ⟨#[]⟩
def isIt : T → Bool
  | .non => true
  | .str _ => true
  | _ => false
theorem joinL_len (y : List Nat) : ∀ ps : List (List Nat), (joinL y ps).length ≤ (ps.map List.length).sum + ps.length * y.length
  | [] => by simp [joinL]
  | [p] => by simp [joinL]
  | p :: q :: r => by
    have ih := joinL_len y (q :: r)
    simp only [joinL, List.length_append, List.map_cons, List.sum_cons, List.length_cons] at *
    have e : (r.length + 1 + 1) * y.length = (r.length + 1) * y.length + y.length := by rw [Nat.add_mul (r.length + 1) 1, Nat.one_mul]
    rw [e]
    omega
def patS (l : List T) : Str := if l = [] then ⟨#[46]⟩ else Txt.join ⟨#[44]⟩ (l.map itS)
@[scoped simp] theorem filt_non (l : List T) : (T.non :: l).filter notN = l.filter notN := rfl
@[scoped simp] theorem filt_str (x : Str) (l : List T) : (T.str x :: l).filter notN = T.str x :: l.filter notN := rfl
theorem filt_sum : ∀ l : List T, (∀ t ∈ l, isIt t = true) → ((l.map itS).map fun x => x.length).sum ≤ ((l.filter notN).map lenI).sum + l.length
  | [], _ => by simp
  | t :: l, h => by
    have h1 := h t (List.mem_cons_self ..)
    have ih := filt_sum l (fun u hu => h u (List.mem_cons_of_mem _ hu))
    cases t <;> first | (cases h1; done) | skip
    · rw [filt_non, List.map_cons, List.map_cons, List.sum_cons, List.length_cons]
      have : (itS .non).length = 1 := rfl
      omega
    · rename_i x
      rw [filt_str, List.map_cons, List.map_cons, List.sum_cons, List.length_cons, List.map_cons, List.sum_cons]
      have : (itS (.str x)).length ≤ lenI (.str x) + 1 := by
        show (if x = ⟨#[]⟩ then (⟨#[45]⟩ : Str) else x).length ≤ x.length + 1
        by_cases hx : x = ⟨#[]⟩
        · rw [if_pos hx]; simp
        · rw [if_neg hx]; omega
      omega
theorem goodP_iff {l : List T} (h : goodP l = true) : l.length ≤ 6 ∧ (l.filter notN).all isW = true ∧ ((l.filter notN).map lenI).sum ≤ 8 := by
  unfold goodP at h
  simp only [Bool.and_eq_true, decide_eq_true_eq] at h
  exact ⟨h.1, h.2.1, h.2.2⟩
theorem good_it {l : List T} (h : goodP l = true) : ∀ t ∈ l, isIt t = true := fun t ht => by
  obtain ⟨_, hw, _⟩ := goodP_iff h
  cases t <;> first
    | rfl
    | (have := List.all_eq_true.mp hw _ (List.mem_filter.mpr ⟨ht, rfl⟩); cases this)
theorem len_le_sum : ∀ (l : List T) (t : T), t ∈ l → lenI t ≤ (l.map lenI).sum
  | u :: l, t, h => by
    rcases List.mem_cons.mp h with rfl | h
    · simp
    · have := len_le_sum l t h
      simp; omega
theorem join_fits {l : List T} (h : goodP l = true) : ((l.map itS).map fun x => x.length).sum + (l.map itS).length * (⟨#[44]⟩ : Str).length ≤ 16777216 ∧ (Txt.join ⟨#[44]⟩ (l.map itS)).length ≤ 16777216 ∧ (Txt.join ⟨#[44]⟩ (l.map itS)).length ≤ 30 := by
  obtain ⟨h1, h2, h3⟩ := goodP_iff h
  have a := filt_sum l (good_it h)
  have b := joinL_len [44] ((l.map itS).map tl)
  have e : (Txt.join ⟨#[44]⟩ (l.map itS)).length = (joinL [44] ((l.map itS).map tl)).length := by
    rw [join_eq]
    have := congrArg List.length (tl_join ⟨#[44]⟩ (l.map itS))
    simpa [Str.length] using this
  have e2 : ((l.map itS).map tl).map List.length = (l.map itS).map fun x => x.length := by
    rw [List.map_map]
    refine List.map_congr_left fun x _ => ?_
    simp [Str.length]
  rw [e2] at b
  simp only [List.length_map, List.length_cons, List.length_nil, lenS] at *
  omega
theorem join_T (l : List T) (h : goodP l = true) : joinT (.str ⟨#[44]⟩) [.lst ((l.map itS).map T.str)] S = .ok (.str (Txt.join ⟨#[44]⟩ (l.map itS))) S := by
  unfold joinT
  simp only [seqJ, itemsT, strsOf_map]
  obtain ⟨a, b, _⟩ := join_fits h
  rw [sizeLine_eq]
  exact gd_pos ⟨a, b⟩
def stOk (d : Nat × Nat × Nat) : Prop := goC d.1 = true ∧ d.2.1 < 6 ∧ d.2.2 < 6 ∧ d.2.1 ≠ d.2.2
def deedX : Dd → List Nat
  | [] => []
  | (c, s, g) :: r => c :: (48 + s) :: (48 + g) :: deedX r
theorem deedX_len : ∀ ds : Dd, (deedX ds).length = 3 * ds.length
  | [] => rfl
  | (c, s, g) :: r => by simp [deedX, deedX_len r]; omega
def deedS (ds : Dd) : Str := if ds = [] then ⟨#[45]⟩ else ⟨(deedX ds).toArray⟩
def stT (d : Nat × Nat × Nat) : T := .tup [.str ⟨#[d.1]⟩, .int (d.2.1 : Nat), .int (d.2.2 : Nat)]
inductive All2 {α β : Type} (R : α → β → Prop) : List α → List β → Prop where
  | nil : All2 R [] []
  | cons {a : α} {b : β} {as : List α} {bs : List β} (h : R a b) (r : All2 R as bs) : All2 R (a :: as) (b :: bs)
theorem All2.len {α β : Type} {R : α → β → Prop} {as : List α} {bs : List β} (h : All2 R as bs) : as.length = bs.length := by
  induction h with
  | nil => rfl
  | cons _ _ ih => simp [ih]
theorem All2.get {α β : Type} {R : α → β → Prop} {as : List α} {bs : List β} (h : All2 R as bs) : ∀ {k : Nat} {a : α} {b : β}, as[k]? = some a → bs[k]? = some b → R a b := by
  induction h with
  | nil => intro k a b h; simp at h
  | cons h _ ih =>
    intro k a b h1 h2
    cases k with
    | zero => simp at h1 h2; subst h1 h2; exact h
    | succ k => exact ih (by simpa using h1) (by simpa using h2)
theorem All2.mono {α β : Type} {R R' : α → β → Prop} {as : List α} {bs : List β} (h : All2 R as bs) (i : ∀ a b, R a b → R' a b) : All2 R' as bs := by
  induction h with
  | nil => exact .nil
  | cons h _ ih => exact .cons (i _ _ h) ih
theorem All2.append {α β : Type} {R : α → β → Prop} {as as' : List α} {bs bs' : List β} (h : All2 R as bs) (h' : All2 R as' bs') : All2 R (as ++ as') (bs ++ bs') := by
  induction h with
  | nil => exact h'
  | cons h _ ih => exact .cons h ih
theorem lcL_all {D : Type} {R : T → D → Prop} {src : Src} {g : Tg} {me : M T} {ρ : Env'} (f : D → T) (hG : Grd src.2 src.1 S) (h : ∀ t d, R t d → ∃ ρ1, tgT g t S ρ = some ρ1 ∧ me ρ1 S = .ok (f d) S) :
    ∀ {l : List T} {ds : List D} (acc : List T), All2 R l ds → acc.length + l.length ≤ 16777216 → lcL src g yesM me l acc ρ S = .ok (acc ++ ds.map f) S
  | _, _, acc, .nil, _ => by rw [lcL_nil hG]; simp
  | _, _, acc, .cons (a := t) (b := d) h1 r, hl => by
    simp only [List.length_cons] at hl
    obtain ⟨ρ1, e1, e2⟩ := h t d h1
    rw [lcL_yes hG e1 rfl e2 (by omega), lcL_all f hG h (acc ++ [f d]) r (by simp; omega)]
    simp
def stepS (d : Nat × Nat × Nat) : Str := ⟨#[d.1, 48 + d.2.1, 48 + d.2.2]⟩
theorem app_str (a b : List Nat) : (⟨a.toArray⟩ : Str) ++ ⟨b.toArray⟩ = ⟨(a ++ b).toArray⟩ := str_inj.mpr (by
  have := tl_append ⟨a.toArray⟩ ⟨b.toArray⟩
  simpa [tl] using this)
theorem s_empty : Str.empty = (⟨([] : List Nat).toArray⟩ : Str) := rfl
theorem str_int {s : Nat} (h : s < 6) : strF (.int (s : Nat)) S = .ok (.str ⟨#[48 + s]⟩) S := by
  show gd _ _ = _
  have a1 : ((s : Nat) : Int).natAbs.log2 < 1920 := by
    have : s = 0 ∨ s = 1 ∨ s = 2 ∨ s = 3 ∨ s = 4 ∨ s = 5 := by omega
    rcases this with rfl | rfl | rfl | rfl | rfl | rfl <;> decide
  rw [num1 (by omega), gd_pos ⟨a1, by rw [sizeLine_eq]; simp⟩]
theorem flat_join : ∀ ps : List (List Nat), joinL [] ps = ps.flatten
  | [] => rfl
  | [p] => by simp [joinL]
  | p :: q :: r => by simp [joinL, flat_join (q :: r)]
theorem steps_flat : ∀ ds : Dd, ((ds.map stepS).map tl).flatten = deedX ds
  | [] => rfl
  | (c, s, g) :: r => by
    simp only [List.map_cons, List.flatten_cons, steps_flat r]
    rfl
theorem steps_join (ds : Dd) : Txt.join ⟨#[]⟩ (ds.map stepS) = ⟨(deedX ds).toArray⟩ := str_inj.mpr (by
  have := tl_join ⟨#[]⟩ (ds.map stepS)
  rw [join_eq]
  rw [show tl (⟨#[]⟩ : Str) = [] from rfl, flat_join, steps_flat] at this
  simpa [tl] using this)
theorem sum3 : ∀ ds : Dd, ((ds.map stepS).map fun x => x.length).sum = 3 * ds.length
  | [] => rfl
  | d :: r => by
    rw [List.map_cons, List.map_cons, List.sum_cons, sum3 r]
    have : (stepS d).length = 3 := rfl
    rw [this, List.length_cons]
    omega
theorem steps_T {ds : Dd} (hn : ds.length ≤ 1000) : joinT (.str ⟨#[]⟩) [.lst (ds.map fun d => T.str (stepS d))] S = .ok (.str ⟨(deedX ds).toArray⟩) S := by
  have e : (ds.map fun d => T.str (stepS d)) = (ds.map stepS).map T.str := by rw [List.map_map]; rfl
  unfold joinT
  simp only [seqJ, itemsT, e, strsOf_map, steps_join, sum3]
  exact gd_pos ⟨by simp; omega, by rw [sizeLine_eq, lenS, deedX_len]; omega⟩
theorem due_deed_ok {ds : Dd} (hd : ∀ d ∈ ds, stOk d) (hn : ds.length ≤ 1000) : L__law_deed_text [.tup (ds.map stT)] S = .ok (.str (deedS ds)) S := by
  have e1 : lcL (ds.map stT, none) (.one 1) yesM (m2 addT (m2 addT (m2 idxT (varM 1) (retM (.int 0))) (m1 (f1 strF) (consM (m2 idxT (varM 1) (retM (.int 1))) (nilM)))) (m1 (f1 strF) (consM (m2 idxT (varM 1) (retM (.int 2))) (nilM)))) (ds.map stT) [] [some (.tup (ds.map stT)), none] S = .ok (ds.map fun d => T.str (stepS d)) S := by
    rw [lcL_all (src := (ds.map stT, none)) (R := fun u d => stOk d ∧ u = stT d) (fun d => T.str (stepS d)) (by simp) ?_ [] (l := ds.map stT) (ds := ds) ?_ (by simp; omega)]
    · simp
    · rintro u d ⟨⟨o1, o2, o3, o4⟩, rfl⟩
      refine ⟨_, rfl, ?_⟩
      have i0 : idxT (stT d) (.int 0) S = .ok (.str ⟨#[d.1]⟩) S := rfl
      have i1 : idxT (stT d) (.int 1) S = .ok (.int (d.2.1 : Nat)) S := rfl
      have i2 : idxT (stT d) (.int 2) S = .ok (.int (d.2.2 : Nat)) S := rfl
      have a1 : addT (.str ⟨#[d.1]⟩) (.str ⟨#[48 + d.2.1]⟩) S = .ok (.str ⟨#[d.1, 48 + d.2.1]⟩) S := by
        show gd _ _ = _
        rw [app_str, gd_pos (by rw [sizeLine_eq]; simp)]
        rfl
      have a2 : addT (.str ⟨#[d.1, 48 + d.2.1]⟩) (.str ⟨#[48 + d.2.2]⟩) S = .ok (.str (stepS d)) S := by
        show gd _ _ = _
        rw [app_str, gd_pos (by rw [sizeLine_eq]; simp)]
        rfl
      simp only [m1_eq, m2_eq, consM_eq, nilM_eq, retM_eq, List.set, vc1, R.bind_ok, i0, i1, i2, f1_eq, str_int o2, str_int o3, a1, a2]
    · clear hn
      induction ds with
      | nil => exact .nil
      | cons d ds ih => exact .cons ⟨hd d (List.mem_cons_self ..), rfl⟩ (ih fun u hu => hd u (List.mem_cons_of_mem _ hu))
  refine run_ret ?_
  by_cases hz : ds = []
  · subst hz
    simp [m__law_deed_text, p__law_deed_text_0, startE, deedS]
  · have n0 : ¬ ((ds.map stT).length : Int) = 0 := by
      have : ds.length ≠ 0 := fun e => hz (List.length_eq_zero_iff.mp e)
      simp; omega
    have l1 : (ds.map fun d => T.str (stepS d)).length ≤ 16777216 := by simp; omega
    have jt := steps_T (S := S) hn
    simp only [m__law_deed_text, p__law_deed_text_0, p__law_deed_text_1, startE, List.take, List.map_cons, List.map_nil, List.replicate, List.cons_append, List.nil_append, seqM_eq, ifS_eq, m1_eq, m2_eq, consM_eq, nilM_eq, vc0, R.bind_ok, f1_eq, len_tup, retM_eq, eq_int, n0, decide_false, boolOf_eq, R.bindS_ok, Bool.false_eq_true, if_false, nextM_eq, RS.seq_nx, retS_eq, bmM_eq, strM_eq, s_none, lenS, List.length_nil, Nat.zero_le, if_true, isRecv, gd_pos (show ("str" == "str") = true from rfl), lcM_eq, iter_tup, wipeE, List.set]
    rw [show (m2 addT (m2 addT (m2 idxT (varM 1) (retM (.int 0))) (m1 (f1 strF) (consM (m2 idxT (varM 1) (retM (.int 1))) (nilM)))) (m1 (f1 strF) (consM (m2 idxT (varM 1) (retM (.int 2))) (nilM)))) = _ from rfl, e1]
    simp only [calm_ok, R.bind_ok, lstT_f, if_pos l1, jt, R.bindS_ok]
    rw [deedS, if_neg hz]
end
end K5
end
section
set_option maxRecDepth 100000
set_option maxHeartbeats 2000000
namespace K5
open PySem L2 TL RL
open scoped RL.R RL.RS
section
variable {S : Sto}
theorem Gr.trans {d : Nat} {S S' S'' : Sto} (g : Gr d S S') (h : Gr d S' S'') : Gr d S S'' := ⟨Nat.le_trans g.len h.len, fun n hn hd => (h.same n (Nat.lt_of_lt_of_le hn g.len) hd).trans (g.same n hn hd), h.draw⟩
theorem Gr.keep {d n : Nat} {S S' : Sto} {l : List T} (g : Gr d S S') (h : S[n]? = some l) (hn : n ≠ d) : S'[n]? = some l := by
  rw [g.same n (List.getElem?_eq_some_iff.mp h).1 hn, h]
theorem draw_ext {d : Nat} {S S' : Sto} (h : DrawOk d S) (e : S'[d]? = S[d]?) : DrawOk d S' := by
  obtain ⟨ns, a, b, c, f, g, h0, h1⟩ := h
  exact ⟨ns, a, b, c, f, g, by rw [e]; exact h0, h1⟩
theorem gr_app {d : Nat} {S X : Sto} (h : DrawOk d S) : Gr d S (S ++ X) := by
  have hd : d < S.length := by
    obtain ⟨_, _, _, _, _, _, h0, _⟩ := h
    exact (List.getElem?_eq_some_iff.mp h0).1
  exact ⟨by simp, fun n hn _ => List.getElem?_append_left hn, draw_ext h (List.getElem?_append_left hd)⟩
theorem pick_at {d : Nat} {S : Sto} (h : DrawOk d S) {many : Int} (h0 : 0 < many) (hm : many < 2 ^ 62) : ∃ (v : Nat) (S' : Sto), L__law_pick [.loc d, .int many] S = .ok (.int (v : Nat)) S' ∧ (v : Int) < many ∧ S'.length = S.length ∧ Gr d S S' := by
  obtain ⟨v, S', h1, h2, h3, h4, h5⟩ := pick_ok h hm
  have e : v = ((v.toNat : Nat) : Int) := by omega
  rw [e] at h1
  exact ⟨v.toNat, S', h1, by omega, h4, h5⟩
theorem abc_at {k : Nat} (h : k < 26) : abc.cps.toList[k]? = some (97 + k) := by
  have e : abc.cps.toList = (List.range 26).map fun i => 97 + i := by decide +kernel
  rw [e, List.getElem?_map, List.getElem?_range h]
  rfl
theorem idx_s {S : Sto} {x : Str} {k c : Nat} (h : x.cps.toList[k]? = some c) : idxT (.str x) (.int (k : Int)) S = .ok (.str ⟨#[c]⟩) S := by
  have := idx_str (S := S) h
  rwa [← mk_eq x] at this
theorem step_ok {d : Nat} {S : Sto} (h : DrawOk d S) {size : Int} (h2 : 2 ≤ size) (h6 : size ≤ 6) : ∃ (dd : Nat × Nat × Nat) (S' : Sto), L__law_step [.loc d, .int size, .str abc] S = .ok (stT dd) S' ∧ stOk dd ∧ Gr d S S' := by
  obtain ⟨a, S1, e1, b1, _, g1⟩ := pick_at h (many := size) (by omega) (by omega)
  obtain ⟨b, S2, e2, b2, _, g2⟩ := pick_at g1.draw (many := size - 1) (by omega) (by omega)
  obtain ⟨c, S3, e3, b3, _, g3⟩ := pick_at g2.draw (many := 26) (by omega) (by omega)
  obtain ⟨w', S4, e4, b4, _, g4⟩ := pick_at g3.draw (many := 9) (by omega) (by omega)
  have la : abc.length = 26 := by decide +kernel
  have ic := idx_s (S := S3) (abc_at (k := c) (by omega))
  have two : ∃ t : Nat, ((a : Int) + 1 + b) % size = (t : Nat) ∧ t < 6 ∧ a ≠ t := by
    have r1 := Int.emod_nonneg ((a : Int) + 1 + b) (show size ≠ 0 by omega)
    have r2 := Int.emod_lt_of_pos ((a : Int) + 1 + b) (show 0 < size by omega)
    refine ⟨(((a : Int) + 1 + b) % size).toNat, by omega, by omega, fun e => ?_⟩
    have e' : ((a : Int) + 1 + b) % size = a := by omega
    have : ((a : Int) + 1 + b) = size * (((a : Int) + 1 + b) / size) + a := by
      have := Int.mul_ediv_add_emod ((a : Int) + 1 + b) size
      omega
    have q : (1 : Int) + b = size * (((a : Int) + 1 + b) / size) := by omega
    have q1 : (1 : Int) + b < size := by omega
    have q2 : 0 < (1 : Int) + b := by omega
    generalize ((a : Int) + 1 + b) / size = z at q
    rcases Int.lt_or_le z 1 with hz | hz
    · have : size * z ≤ 0 := Int.mul_nonpos_of_nonneg_of_nonpos (by omega) (by omega)
      omega
    · have : size * 1 ≤ size * z := Int.mul_le_mul_of_nonneg_left hz (by omega)
      omega
  obtain ⟨t, t1, t2, t3⟩ := two
  have gm : ∀ {S : Sto} (z : Int), modT (.int z) (.int size) S = .ok (.int (z % size)) S := fun z => by rw [mod_int, gd_pos (by omega)]
  have gall := ((g1.trans g2).trans g3).trans g4
  have fin : ∀ ch : Nat, goC ch = true → stOk (ch, a, t) := fun ch hc => ⟨hc, by show a < 6; omega, t2, t3⟩
  have pre : ∀ (rest : MS) , True := fun _ => trivial
  by_cases w7 : w' = 7
  · refine ⟨(42, a, t), S4, run_ret ?_, fin 42 rfl, gall⟩
    subst w7
    simp [m__law_step, t__law_step_1, t__law_step_2, t__law_step_3, t__law_step_4, t__law_step_5, p__law_step_0, p__law_step_1, p__law_step_2, p__law_step_3, p__law_step_4, p__law_step_5, p__law_step_6, startE, gd_pos, e1, e2, gm, t1, la, e3, ic, e4, stT]
  · by_cases w8 : w' = 8
    · refine ⟨(126, a, t), S4, run_ret ?_, fin 126 rfl, gall⟩
      subst w8
      simp [m__law_step, t__law_step_1, t__law_step_2, t__law_step_3, t__law_step_4, t__law_step_5, p__law_step_0, p__law_step_1, p__law_step_2, p__law_step_3, p__law_step_4, p__law_step_5, p__law_step_6, startE, gd_pos, e1, e2, gm, t1, la, e3, ic, e4, stT]
    · have w7' : ¬ (w' : Int) = 7 := by omega
      have w8' : ¬ (w' : Int) = 8 := by omega
      refine ⟨(97 + c, a, t), S4, run_ret ?_, fin _ (by unfold goC lt; simp; omega), gall⟩
      simp [m__law_step, t__law_step_1, t__law_step_2, t__law_step_3, t__law_step_4, t__law_step_5, p__law_step_0, p__law_step_1, p__law_step_2, p__law_step_3, p__law_step_4, p__law_step_5, p__law_step_6, startE, gd_pos, e1, e2, gm, t1, la, e3, ic, e4, stT, w7', w8']
theorem lcL_draw {d : Nat} {D : Type} {l0 : List T} {i : Nat} {me : M T} {ρ : Env'} (f : D → T) (P : D → Prop) (hm : ∀ t S, DrawOk d S → ∃ x S', me (ρ.set i (some t)) S = .ok (f x) S' ∧ P x ∧ Gr d S S') :
    ∀ (l acc : List T) (S : Sto), DrawOk d S → acc.length + l.length ≤ 16777216 → ∃ (ds : List D) (S' : Sto), lcL (l0, none) (.one i) yesM me l acc ρ S = .ok (acc ++ ds.map f) S' ∧ (∀ x ∈ ds, P x) ∧ ds.length = l.length ∧ Gr d S S'
  | [], acc, S, h, _ => ⟨[], S, by rw [lcL_nil (by simp)]; simp, by simp, rfl, ⟨Nat.le_refl _, fun _ _ _ => rfl, h⟩⟩
  | t :: l, acc, S, h, hl => by
    simp only [List.length_cons] at hl
    obtain ⟨x, S1, e1, p1, g1⟩ := hm t S h
    obtain ⟨ds, S2, e2, p2, l2, g2⟩ := lcL_draw f P hm l (acc ++ [f x]) S1 g1.draw (by simp; omega)
    refine ⟨x :: ds, S2, ?_, fun y hy => (List.mem_cons.mp hy).elim (fun e => e ▸ p1) (p2 y), by simp [l2], g1.trans g2⟩
    rw [lcL_yes (by simp) rfl rfl e1 (by omega), e2]
    simp
theorem deed_ok {d : Nat} {S : Sto} (h : DrawOk d S) {size : Int} (h2 : 2 ≤ size) (h6 : size ≤ 6) : ∃ (ds : Dd) (S' : Sto), L__law_deed [.loc d, .int size, .str abc, .int 3] S = .ok (.tup (ds.map stT)) S' ∧ (∀ x ∈ ds, stOk x) ∧ ds.length ≤ 3 ∧ Gr d S S' := by
  obtain ⟨n, S1, e1, b1, _, g1⟩ := pick_at h (many := 4) (by omega) (by omega)
  have er := rng_n (S := S1) n (by omega)
  obtain ⟨ds, S2, e2, p2, l2, g2⟩ := lcL_draw (d := d) (l0 := (List.range n).map fun i => T.int (0 + (i : Nat))) (i := 4) (me := m1 (callF 3 L__law_step) (consM (varM 0) (consM (varM 1) (consM (varM 2) nilM)))) (ρ := [some (.loc d), some (.int size), some (.str abc), some (.int 3), none]) stT stOk
    (fun t S hS => by
      obtain ⟨dd, S', q1, q2, q3⟩ := step_ok hS h2 h6
      exact ⟨dd, S', by simp [gd_pos, q1], q2, q3⟩) ((List.range n).map fun i => T.int (0 + (i : Nat))) [] S1 g1.draw (by simp; omega)
  have ln : ds.length ≤ 3 := by rw [l2]; simp; omega
  refine ⟨ds, S2, run_ret ?_, p2, ln, g1.trans g2⟩
  show m__law_deed [some (.loc d), some (.int size), some (.str abc), some (.int 3), none] S = _
  have a1 : consM (m1 (callF 2 L__law_pick) (consM (varM 0) (consM (m2 addT (varM 3) (retM (.int 1))) nilM))) nilM [some (.loc d), some (.int size), some (.str abc), some (.int 3), none] S = .ok [T.int (n : Nat)] S1 := by simp [gd_pos, e1]
  have a2 : m1 rng1T (consM (m1 (callF 2 L__law_pick) (consM (varM 0) (consM (m2 addT (varM 3) (retM (.int 1))) nilM))) nilM) [some (.loc d), some (.int size), some (.str abc), some (.int 3), none] S = .ok ((List.range n).map fun i => T.int (0 + (i : Nat)), none) S1 := by
    rw [m1_eq, a1, R.bind_ok]
    exact er
  have l1 : (ds.map stT).length ≤ 16777216 := by simp; omega
  rw [m__law_deed, retS_eq, m1_eq, consM_eq, lcM_eq, a2, R.bind_ok]
  simp only [wipeE, List.set]
  rw [e2]
  simp only [List.nil_append, calm_ok, R.bind_ok, lstT_f, if_pos l1, nilM_eq, f1_eq, tupleT, itemsT, R.bindS_ok]
end
end K5
end
section
set_option maxRecDepth 100000
set_option maxHeartbeats 2000000
namespace K5
open PySem L2 TL RL
open scoped RL.R RL.RS
section
variable {S : Sto}
theorem di_ok {t : T} (h : isIt t = true) : L__law_item_text [t] S = .ok (.str (itS t)) S := by
  refine run_ret ?_
  cases t <;> first | (cases h; done) | skip
  · simp [m__law_item_text, p__law_item_text_0, startE, isNonT, itS]
  · rename_i x
    by_cases hx : x = ⟨#[]⟩
    · subst hx
      simp [m__law_item_text, t__law_item_text_1, p__law_item_text_0, p__law_item_text_1, startE, isNonT, itS]
    · simp [m__law_item_text, t__law_item_text_1, p__law_item_text_0, p__law_item_text_1, p__law_item_text_2, startE, isNonT, itS, hx]
theorem dp_ok {l : List T} (hg : goodP l = true) : L__law_pattern_text [.tup l] S = .ok (.str (patS l)) S := by
  refine run_ret ?_
  have e1 : lcL (l, none) (.one 1) yesM (m1 (callF 1 L__law_item_text) (consM (varM 1) nilM)) l [] [some (.tup l), none] S = .ok ((l.map itS).map T.str) S := by
    rw [lcl1 (fun t => .str (itS t)) _ _ (by have := (goodP_iff hg).1; simp; omega)]
    · simp [Function.comp_def]
    · intro u hu
      simp [gd, di_ok (good_it hg u hu)]
  have e2 := join_T (S := S) l hg
  have l1 : ((l.map itS).map T.str).length ≤ 16777216 := by have := (goodP_iff hg).1; simp; omega
  by_cases hl : l = []
  · subst hl
    simp [m__law_pattern_text, p__law_pattern_text_0, startE, patS]
  · have hl2 : ¬ (l.length : Int) = 0 := by
      have : l.length ≠ 0 := fun e => hl (List.length_eq_zero_iff.mp e)
      omega
    show m__law_pattern_text [some (.tup l), none] S = _
    have q0 : p__law_pattern_text_0 [some (.tup l), none] S = .nx [some (.tup l), none] S := by simp [p__law_pattern_text_0, hl]
    rw [m__law_pattern_text, seqM_eq, q0, RS.seq_nx]
    simp only [p__law_pattern_text_1, retS_eq, bmM_eq, strM_eq, s_comma, lenS, List.length_cons, List.length_nil, isRecv, gd_pos (show ("str" == "str") = true from rfl), m1_eq, consM_eq, nilM_eq, lcM_eq, vc0, R.bind_ok, iter_tup, wipeE, List.set, e1, calm_ok, lstT_f, if_pos l1, Nat.reduceAdd, Nat.reduceLeDiff, if_true, e2, R.bindS_ok, patS, if_neg hl]
theorem lcL_inv {src : Src} {i : Nat} {me : M T} {ρ : Env'} (I : Sto → Prop) (hG : ∀ S, I S → Grd src.2 src.1 S) (P : T → T → Prop) : ∀ (l acc : List T) (S : Sto), I S → acc.length + l.length ≤ 16777216 → (∀ t ∈ l, ∀ S, I S → ∃ y S', me (ρ.set i (some t)) S = .ok y S' ∧ P t y ∧ I S') →
    ∃ (ys : List T) (S' : Sto), lcL src (.one i) yesM me l acc ρ S = .ok (acc ++ ys) S' ∧ All2 P l ys ∧ I S'
  | [], acc, S, h, _, _ => ⟨[], S, by rw [lcL_nil (hG S h)]; simp, .nil, h⟩
  | t :: l, acc, S, h, hl, hm => by
    simp only [List.length_cons] at hl
    obtain ⟨y, S1, e1, p1, h1⟩ := hm t (List.mem_cons_self ..) S h
    obtain ⟨ys, S2, e2, p2, h2⟩ := lcL_inv I hG P l (acc ++ [y]) S1 h1 (by simp; omega) fun u hu => hm u (List.mem_cons_of_mem _ hu)
    exact ⟨y :: ys, S2, by rw [lcL_yes (hG S h) rfl rfl e1 (by omega), e2]; simp, .cons p1 p2, h2⟩
theorem ones_of : ∀ (Z : List Str), (∀ x ∈ Z, ∃ c, x = ⟨#[c]⟩) → ∃ Y, Z = ones Y
  | [], _ => ⟨[], rfl⟩
  | x :: Z, h => by
    obtain ⟨c, rfl⟩ := h x (List.mem_cons_self ..)
    obtain ⟨Y, rfl⟩ := ones_of Z fun y hy => h y (List.mem_cons_of_mem _ hy)
    exact ⟨c :: Y, rfl⟩
def hd1 (x : Str) : Nat := x.cps.toList.headD 0
theorem hd_ones : ∀ Y : List Nat, (ones Y).map hd1 = Y
  | [] => rfl
  | c :: Y => by
    have := hd_ones Y
    unfold ones at this ⊢
    rw [List.map_cons, List.map_cons, this]
    rfl
theorem sort_word (L : List Nat) : ∃ Y, sortS (ones L) = ones Y ∧ sorted Y = true ∧ Y.Perm L := by
  have p : (sortS (ones L)).Perm (ones L) := List.mergeSort_perm _ _
  have hp : (sortS (ones L)).Pairwise (fun a b => leS a b = true) := List.pairwise_mergeSort (fun a b c => leS_trans a b c) (fun a b => leS_total a b) _
  obtain ⟨Y, hY⟩ := ones_of (sortS (ones L)) fun x hx => by
    obtain ⟨c, _, e⟩ := List.mem_map.mp (p.mem_iff.mp hx)
    exact ⟨c, e.symm⟩
  rw [hY] at p hp
  refine ⟨Y, hY, ?_, ?_⟩
  · rw [sorted_pw]
    unfold ones at hp
    rw [List.pairwise_map] at hp
    exact hp.imp fun {a b} h => by rw [leS1] at h; exact of_decide_eq_true h
  · have := p.map hd1
    rwa [hd_ones, hd_ones] at this
theorem ones_flat : ∀ Y : List Nat, ((ones Y).map tl).flatten = Y
  | [] => rfl
  | c :: Y => by
    have := ones_flat Y
    unfold ones at this ⊢
    rw [List.map_cons, List.map_cons, List.flatten_cons, this]
    rfl
theorem ones_join (Y : List Nat) : Txt.join ⟨#[]⟩ (ones Y) = ⟨Y.toArray⟩ := str_inj.mpr (by
  have := tl_join ⟨#[]⟩ (ones Y)
  rw [join_eq]
  rw [show tl (⟨#[]⟩ : Str) = [] from rfl, flat_join, ones_flat] at this
  simpa [tl] using this)
theorem ones_sum : ∀ Y : List Nat, ((ones Y).map fun x => x.length).sum = Y.length
  | [] => rfl
  | c :: Y => by
    have := ones_sum Y
    unfold ones at this ⊢
    rw [List.map_cons, List.map_cons, List.sum_cons, this, List.length_cons]
    have : (⟨#[c]⟩ : Str).length = 1 := rfl
    omega
structure Rows (d R k : Nat) (many : Nat) (S : Sto) (l : List T) : Prop where
  draw : DrawOk d S
  at_ : S[R]? = some l
  ne : R ≠ d
  len : l.length = many
  w : ∀ t ∈ l, ∃ x, t = .str x ∧ isW (.str x) = true
  sum : (l.map lenI).sum ≤ k
theorem sum_set : ∀ (l : List T) (i : Nat) (u v : T), l[i]? = some u → ((l.set i v).map lenI).sum + lenI u = (l.map lenI).sum + lenI v
  | [], i, u, v, h => by simp at h
  | t :: l, 0, u, v, h => by simp at h; subst h; simp; omega
  | t :: l, i + 1, u, v, h => by
    have := sum_set l i u v (by simpa using h)
    rw [List.set_cons_succ, List.map_cons, List.map_cons, List.sum_cons, List.sum_cons]
    omega
theorem row_turn {d R k many : Nat} {S : Sto} {l : List T} {wide : Int} (h : Rows d R k many S l) (hk : k < 60) (hm : 1 ≤ many) (hm2 : many ≤ 6) (hw : wide = 26 ∨ wide = 3) (o5 o7 o8 o6 : Option T) : ∃ (ρ6 : Option T) (S' : Sto) (l' : List T),
    (seqM (setM 6 (m1 (callF 2 L__law_pick) (consM (varM 0) (consM (varM 2) (nilM))))) <|
    subS (bmM "str" joinT (strM ("" : Str)) (consM (m1 (f1 (sortedT false)) (consM (m2 addT (m2 idxT (varM 4) (varM 6)) (m2 idxT (varM 1) (m1 (callF 2 L__law_pick) (consM (varM 0) (consM (varM 3) (nilM)))))) (nilM))) (nilM))) (varM 4) (varM 6)) [some (.loc d), some (.str abc), some (.int (many : Nat)), some (.int wide), some (.loc R), o5, o6, o7, o8] S
      = .nx [some (.loc d), some (.str abc), some (.int (many : Nat)), some (.int wide), some (.loc R), o5, ρ6, o7, o8] S' ∧ Rows d R (k + 1) many S' l' := by
  obtain ⟨a, S1, e1, b1, _, g1⟩ := pick_at h.draw (many := (many : Nat)) (by omega) (by omega)
  have r1 := g1.keep h.at_ h.ne
  obtain ⟨c, S2, e2, b2, _, g2⟩ := pick_at g1.draw (many := wide) (by omega) (by omega)
  have r2 := g2.keep r1 h.ne
  have ha : a < l.length := by rw [h.len]; omega
  obtain ⟨x, hx, wx⟩ := h.w l[a] (List.getElem_mem ha)
  have la : l[a]? = some (.str x) := by rw [List.getElem?_eq_getElem ha, hx]
  have i1 : idxT (.loc R) (.int (a : Nat)) S1 = .ok (.str x) S1 := (rw_loc r1).ix a _ la
  have ic := idx_s (S := S2) (abc_at (k := c) (by omega))
  obtain ⟨W, rfl⟩ : ∃ W : List Nat, x = ⟨W.toArray⟩ := ⟨x.cps.toList, mk_eq x⟩
  have wx' := wx
  unfold isW at wx'
  simp only [Bool.and_eq_true] at wx'
  have lw : W.length ≤ k := by
    have := len_le_sum l _ (List.mem_of_getElem? la)
    have e : lenI (.str ⟨W.toArray⟩) = W.length := lenS W
    have := h.sum
    omega
  obtain ⟨Y, hY, sY, pY⟩ := sort_word (W ++ [97 + c])
  have lY : Y.length = W.length + 1 := by rw [pY.length_eq]; simp
  have ad : addT (.str ⟨W.toArray⟩) (.str ⟨#[97 + c]⟩) S2 = .ok (.str ⟨(W ++ [97 + c]).toArray⟩) S2 := by
    show gd _ _ = _
    rw [app_str, gd_pos (by rw [sizeLine_eq]; simp; omega)]
  have so : sortedT false (.str ⟨(W ++ [97 + c]).toArray⟩) S2 = .ok (.lst ((ones Y).map T.str)) S2 := by
    unfold sortedT
    simp only [seqS, chs_ones, strsOf_map, hY]
    rw [gd_pos (by unfold ones; simp; omega)]
    rfl
  have jn : joinT (.str ⟨#[]⟩) [.lst ((ones Y).map T.str)] S2 = .ok (.str ⟨Y.toArray⟩) S2 := by
    unfold joinT
    simp only [seqJ, itemsT, strsOf_map, ones_join, ones_sum]
    exact gd_pos ⟨by simp; omega, by rw [sizeLine_eq, lenS]; omega⟩
  have wY : isW (.str ⟨Y.toArray⟩) = true := by
    unfold isW
    simp only [Bool.and_eq_true]
    refine ⟨List.all_eq_true.mpr fun z hz => ?_, by simpa using sY⟩
    have hz : z ∈ Y := by simpa using hz
    rcases List.mem_append.mp (pY.mem_iff.mp hz) with q | q
    · exact List.all_eq_true.mp wx'.1 z (by simpa using q)
    · rw [List.mem_singleton.mp q]
      unfold lt
      simp; omega
  have hR : R < S2.length := (List.getElem?_eq_some_iff.mp r2).1
  refine ⟨some (.int (a : Nat)), S2.set R (l.set a (.str ⟨Y.toArray⟩)), l.set a (.str ⟨Y.toArray⟩), ?_, ⟨draw_ext g2.draw (List.getElem?_set_ne h.ne), List.getElem?_set_self hR, h.ne, by rw [List.length_set]; exact h.len, fun t ht => ?_, ?_⟩⟩
  · have st : setT (.loc R) (.int (a : Nat)) (.str ⟨Y.toArray⟩) S2 = .ok () (S2.set R (l.set a (.str ⟨Y.toArray⟩))) := by
      unfold setT ixN
      simp only [r2]
      rw [if_pos (by omega), if_pos (by omega)]
      simp
    rw [seqM_eq]
    simp only [setM_eq, m1_eq, m2_eq, consM_eq, nilM_eq, vc0, vc2, RL.R.bind_ok, callF_eq, gd_pos (show [T.loc d, T.int (many : Nat)].length = 2 from rfl), e1, RL.R.bindS_ok, List.set, RS.seq_nx, subS_eq, bmM_eq, strM_eq, s_none, lenS, List.length_nil, Nat.zero_le, if_true, isRecv, gd_pos (show ("str" == "str") = true from rfl), vc4, vc6, i1, vc1, vc3, gd_pos (show [T.loc d, T.int wide].length = 2 from rfl), e2, ic, ad, f1_eq, so, jn, st]
  · rcases List.mem_or_eq_of_mem_set ht with q | q
    · exact h.w t q
    · exact ⟨_, q, wY⟩
  · have := sum_set l a _ (.str ⟨Y.toArray⟩) la
    have e1 : lenI (.str ⟨W.toArray⟩) = W.length := lenS W
    have e2 : lenI (.str ⟨Y.toArray⟩) = Y.length := lenS Y
    have := h.sum
    omega
noncomputable abbrev turnM : MS := seqM (setM 6 (m1 (callF 2 L__law_pick) (consM (varM 0) (consM (varM 2) (nilM))))) <|
    subS (bmM "str" joinT (strM ("" : Str)) (consM (m1 (f1 (sortedT false)) (consM (m2 addT (m2 idxT (varM 4) (varM 6)) (m2 idxT (varM 1) (m1 (callF 2 L__law_pick) (consM (varM 0) (consM (varM 3) (nilM)))))) (nilM))) (nilM))) (varM 4) (varM 6)
theorem rows_loop {d Q0 many : Nat} {wide : Int} (hm : 1 ≤ many) (hm2 : many ≤ 6) (hw : wide = 26 ∨ wide = 3) (l0 : List T) : ∀ (us : List T) (k : Nat) (S : Sto) (l : List T) (o5 o6 : Option T), Rows d Q0 k many S l → k + us.length ≤ 50 →
    ∃ (r5 r6 : Option T) (S' : Sto) (l' : List T), forL (l0, none) (.one 5) turnM us [some (.loc d), some (.str abc), some (.int (many : Nat)), some (.int wide), some (.loc Q0), o5, o6, none, none] S
      = .nx [some (.loc d), some (.str abc), some (.int (many : Nat)), some (.int wide), some (.loc Q0), r5, r6, none, none] S' ∧ Rows d Q0 (k + us.length) many S' l'
  | [], k, S, l, o5, o6, h, _ => ⟨o5, o6, S, l, forL_nil (by simp), h⟩
  | u :: us, k, S, l, o5, o6, h, hk => by
    simp only [List.length_cons] at hk
    obtain ⟨r6, S1, l1, e1, h1⟩ := row_turn h (by omega) hm hm2 hw (some u) none none o6
    obtain ⟨q5, q6, S2, l2, e2, h2⟩ := rows_loop hm hm2 hw l0 us (k + 1) S1 l1 (some u) r6 h1 (by omega)
    refine ⟨q5, q6, S2, l2, ?_, by rw [List.length_cons, show k + (us.length + 1) = k + 1 + us.length by omega]; exact h2⟩
    have e1' : turnM ([some (.loc d), some (.str abc), some (.int (many : Nat)), some (.int wide), some (.loc Q0), o5, o6, none, none].set 5 (some u)) S = _ := e1
    rw [forL_cons (by simp) rfl, e1', RS.seq_nx, e2]
def pickOf (t y : T) : Prop := y = t ∨ y = .non
theorem good_of : ∀ {l ys : List T}, All2 pickOf l ys → (∀ t ∈ l, ∃ x, t = .str x ∧ isW (.str x) = true) → (ys.filter notN).all isW = true ∧ ((ys.filter notN).map lenI).sum ≤ (l.map lenI).sum
  | _, _, .nil, _ => by simp
  | _, _, .cons (a := t) (b := y) (as := l) (bs := ys) h r, hw => by
    obtain ⟨i1, i2⟩ := good_of r fun u hu => hw u (List.mem_cons_of_mem _ hu)
    obtain ⟨x, rfl, wx⟩ := hw t (List.mem_cons_self ..)
    rcases h with rfl | rfl
    · rw [filt_str]
      refine ⟨by simp only [List.all_cons, wx, i1, Bool.and_self], ?_⟩
      rw [List.map_cons, List.map_cons, List.sum_cons, List.sum_cons]
      omega
    · rw [filt_non]
      refine ⟨i1, ?_⟩
      rw [List.map_cons, List.sum_cons]
      omega
theorem last_items {d Q0 many : Nat} {l : List T} (hl : l.length ≤ 1000) (hw : ∀ t ∈ l, ∃ x, t = .str x ∧ isW (.str x) = true) (hne : Q0 ≠ d) (o1 o2 o3 o4 o5 o6 : Option T) {S : Sto} (h : DrawOk d S) (hR : S[Q0]? = some l) :
    ∃ (ys : List T) (S' : Sto), lcL (l, some Q0) (.one 8) yesM (m2 idxT (m1 (lstT false) (consM (varM 8) (consM (retM .non) (nilM)))) (m1 (f1 intF) (consM (andV (m2 eqT (varM 8) (strM ("" : Str))) (m2 eqT (m1 (callF 2 L__law_pick) (consM (varM 0) (consM (retM (.int 2)) (nilM)))) (retM (.int 0)))) (nilM)))) l [] [some (.loc d), o1, o2, o3, o4, o5, o6, none, none] S = .ok ys S' ∧ All2 pickOf l ys ∧ DrawOk d S' := by
  obtain ⟨ys, S', e, p, i⟩ := lcL_inv (src := (l, some Q0)) (i := 8) (ρ := [some (.loc d), o1, o2, o3, o4, o5, o6, none, none]) (me := m2 idxT (m1 (lstT false) (consM (varM 8) (consM (retM .non) (nilM)))) (m1 (f1 intF) (consM (andV (m2 eqT (varM 8) (strM ("" : Str))) (m2 eqT (m1 (callF 2 L__law_pick) (consM (varM 0) (consM (retM (.int 2)) (nilM)))) (retM (.int 0)))) (nilM))))
    (fun S => DrawOk d S ∧ S[Q0]? = some l) (fun S h => h.2) pickOf l [] S ⟨h, hR⟩ (by simp; omega) (fun t ht S hS => by
      obtain ⟨x, rfl, _⟩ := hw t ht
      by_cases hx : x = ⟨#[]⟩
      · subst hx
        obtain ⟨k, S1, e1, b1, _, g1⟩ := pick_at hS.1 (many := 2) (by omega) (by omega)
        by_cases hk : k = 0
        · subst hk
          refine ⟨.non, S1, ?_, .inr rfl, g1.draw, g1.keep hS.2 hne⟩
          have i1 : idxT (.lst [.str ⟨#[]⟩, .non]) (.int 1) S1 = .ok .non S1 := rfl
          simp [gd_pos, e1, i1]
        · refine ⟨.str ⟨#[]⟩, S1, ?_, .inl rfl, g1.draw, g1.keep hS.2 hne⟩
          have i1 : idxT (.lst [.str ⟨#[]⟩, .non]) (.int 0) S1 = .ok (.str ⟨#[]⟩) S1 := rfl
          simp [gd_pos, e1, i1, hk]
      · refine ⟨.str x, S, ?_, .inl rfl, hS⟩
        have i1 : idxT (.lst [.str x, .non]) (.int 0) S = .ok (.str x) S := rfl
        simp [gd_pos, hx, i1])
  exact ⟨ys, S', by simpa using e, p, i.1⟩
theorem some_ok {d : Nat} {S : Sto} (h : DrawOk d S) : ∃ (l : List T) (S' : Sto), L__law_some_pattern [.loc d] S = .ok (.tup l) S' ∧ goodP l = true ∧ DrawOk d S' := by
  obtain ⟨many, S1, e1, b1, _, g1⟩ := pick_at h (many := 7) (by omega) (by omega)
  have q0 : p__law_some_pattern_0 [some (.loc d), none, none, none, none, none, none, none, none] S = .nx [some (.loc d), some (.str abc), none, none, none, none, none, none, none] S := by
    simp only [p__law_some_pattern_0, setM_eq, strM_eq, s_abc, if_pos abc_len, R.bindS_ok, List.set]
  have q1 : p__law_some_pattern_1 [some (.loc d), some (.str abc), none, none, none, none, none, none, none] S = .nx [some (.loc d), some (.str abc), some (.int (many : Nat)), none, none, none, none, none, none] S1 := by
    simp [p__law_some_pattern_1, gd_pos, e1]
  by_cases hz : many = 0
  · subst hz
    refine ⟨[], S1, run_ret ?_, rfl, g1.draw⟩
    show m__law_some_pattern [some (.loc d), none, none, none, none, none, none, none, none] S = _
    rw [m__law_some_pattern, seqM_eq, q0, RS.seq_nx, t__law_some_pattern_1, seqM_eq, q1, RS.seq_nx, t__law_some_pattern_2, seqM_eq]
    simp [p__law_some_pattern_2]
  · obtain ⟨k, S2, e2, b2, _, g2⟩ := pick_at g1.draw (many := 2) (by omega) (by omega)
    obtain ⟨wide, hw, iw⟩ : ∃ wide : Int, (wide = 26 ∨ wide = 3) ∧ idxT (.lst [.int 26, .int 3]) (.int (k : Nat)) S2 = .ok (.int wide) S2 := by
      have : k = 0 ∨ k = 1 := by omega
      rcases this with rfl | rfl
      · exact ⟨26, .inl rfl, rfl⟩
      · exact ⟨3, .inr rfl, rfl⟩
    obtain ⟨rows, hrows⟩ : ∃ rows : List T, ((List.range many).map fun i => T.int (0 + (i : Nat))).map (fun _ => T.str ⟨#[]⟩) = rows := ⟨_, rfl⟩
    have rl : rows.length = many := by rw [← hrows]; simp
    have rw' : ∀ t ∈ rows, ∃ x, t = .str x ∧ isW (.str x) = true := fun t ht => by
      rw [← hrows] at ht
      obtain ⟨_, _, rfl⟩ := List.mem_map.mp ht
      exact ⟨_, rfl, rfl⟩
    have rs : (rows.map lenI).sum = 0 := by
      rw [← hrows, List.map_map, List.map_map]
      have : ∀ xs : List Nat, (xs.map ((lenI ∘ fun _ => T.str ⟨#[]⟩) ∘ fun i => T.int (0 + (i : Nat)))).sum = 0 := fun xs => by
        induction xs with
        | nil => rfl
        | cons x xs ih => rw [List.map_cons, List.sum_cons, ih]; rfl
      exact this _
    have gA := gr_app (X := [rows]) g2.draw
    have dS2 : d < S2.length := by
      obtain ⟨_, _, _, _, _, _, h0, _⟩ := g2.draw
      exact (List.getElem?_eq_some_iff.mp h0).1
    have R0 : Rows d S2.length 0 many (S2 ++ [rows]) rows := ⟨gA.draw, by rw [List.getElem?_append_right (Nat.le_refl _), Nat.sub_self]; rfl, by omega, rl, rw', by omega⟩
    obtain ⟨n, S3, e3, b3, l3, g3⟩ := pick_at gA.draw (many := 9) (by omega) (by omega)
    have R1 : Rows d S2.length 0 many S3 rows := ⟨g3.draw, g3.keep R0.at_ R0.ne, R0.ne, rl, rw', by omega⟩
    obtain ⟨r5, r6, S4, l4, e4, R4⟩ := rows_loop (by omega) (by omega) hw ((List.range n).map fun i => T.int (0 + (i : Nat))) ((List.range n).map fun i => T.int (0 + (i : Nat))) 0 S3 rows none none R1 (by simp; omega)
    obtain ⟨ys, S5, e5, p5, d5⟩ := last_items (many := many) (by rw [R4.len]; omega) R4.w R4.ne (some (.str abc)) (some (.int (many : Nat))) (some (.int wide)) (some (.loc S2.length)) r5 r6 R4.draw R4.at_
    obtain ⟨y1, y2⟩ := good_of p5 R4.w
    have yl : ys.length = many := by rw [← p5.len, R4.len]
    have gd' : goodP ys = true := by
      unfold goodP
      have hs := R4.sum
      simp only [List.length_map, List.length_range] at hs
      have a1 : decide (ys.length ≤ 6) = true := decide_eq_true (by omega)
      have a2 : decide (((ys.filter notN).map lenI).sum ≤ 8) = true := decide_eq_true (by omega)
      rw [a1, y1, a2]
      rfl
    refine ⟨ys, S5, run_ret ?_, gd', d5⟩
    have hz' : ¬ (many : Int) = 0 := by omega
    have q2 : p__law_some_pattern_2 [some (.loc d), some (.str abc), some (.int (many : Nat)), none, none, none, none, none, none] S1 = .nx [some (.loc d), some (.str abc), some (.int (many : Nat)), none, none, none, none, none, none] S1 := by simp [p__law_some_pattern_2, hz]
    have q3 : p__law_some_pattern_3 [some (.loc d), some (.str abc), some (.int (many : Nat)), none, none, none, none, none, none] S1 = .nx [some (.loc d), some (.str abc), some (.int (many : Nat)), some (.int wide), none, none, none, none, none] S2 := by
      simp [p__law_some_pattern_3, gd_pos, e2, iw]
    have q4 : p__law_some_pattern_4 [some (.loc d), some (.str abc), some (.int (many : Nat)), some (.int wide), none, none, none, none, none] S2 = .nx [some (.loc d), some (.str abc), some (.int (many : Nat)), some (.int wide), some (.loc S2.length), none, none, none, none] (S2 ++ [rows]) := by
      have a1 : consM (varM 2) nilM [some (.loc d), some (.str abc), some (.int (many : Nat)), some (.int wide), none, none, none, none, none] S2 = .ok [T.int (many : Nat)] S2 := by simp
      have a2 : m1 rng1T (consM (varM 2) nilM) [some (.loc d), some (.str abc), some (.int (many : Nat)), some (.int wide), none, none, none, none, none] S2 = .ok ((List.range many).map fun i => T.int (0 + (i : Nat)), none) S2 := by
        rw [m1_eq, a1, R.bind_ok]
        exact rng_n many (by omega)
      have a3 : lcL ((List.range many).map fun i => T.int (0 + (i : Nat)), none) (.one 7) yesM (strM ("" : Str)) ((List.range many).map fun i => T.int (0 + (i : Nat))) [] [some (.loc d), some (.str abc), some (.int (many : Nat)), some (.int wide), none, none, none, none, none] S2 = .ok rows S2 := by
        rw [lcl1 (fun _ => T.str ⟨#[]⟩) _ _ (by simp; omega) (fun t _ => by simp), hrows]
        rfl
      have l1 : rows.length ≤ 16777216 := by omega
      rw [p__law_some_pattern_4, setM_eq, lcM_eq, a2, R.bind_ok]
      simp only [wipeE, List.set]
      rw [a3]
      simp only [calm_ok, R.bind_ok, lstT_t, if_pos l1, R.bindS_ok]
    have q5 : p__law_some_pattern_5 [some (.loc d), some (.str abc), some (.int (many : Nat)), some (.int wide), some (.loc S2.length), none, none, none, none] (S2 ++ [rows]) = .nx [some (.loc d), some (.str abc), some (.int (many : Nat)), some (.int wide), some (.loc S2.length), r5, r6, none, none] S4 := by
      have a1 : consM (m1 (callF 2 L__law_pick) (consM (varM 0) (consM (retM (.int 9)) nilM))) nilM [some (.loc d), some (.str abc), some (.int (many : Nat)), some (.int wide), some (.loc S2.length), none, none, none, none] (S2 ++ [rows]) = .ok [T.int (n : Nat)] S3 := by simp [gd_pos, e3]
      have a2 : m1 rng1T (consM (m1 (callF 2 L__law_pick) (consM (varM 0) (consM (retM (.int 9)) nilM))) nilM) [some (.loc d), some (.str abc), some (.int (many : Nat)), some (.int wide), some (.loc S2.length), none, none, none, none] (S2 ++ [rows]) = .ok ((List.range n).map fun i => T.int (0 + (i : Nat)), none) S3 := by
        rw [m1_eq, a1, R.bind_ok]
        exact rng_n n (by omega)
      rw [p__law_some_pattern_5, forM_eq, a2, R.bindS_ok]
      exact e4
    have q6 : p__law_some_pattern_6 [some (.loc d), some (.str abc), some (.int (many : Nat)), some (.int wide), some (.loc S2.length), r5, r6, none, none] S4 = .ret (.tup ys) S5 := by
      have l1 : ys.length ≤ 16777216 := by omega
      rw [p__law_some_pattern_6, retS_eq, m1_eq, consM_eq, lcM_eq, m1_eq, vc4, R.bind_ok, iter_loc R4.at_, R.bind_ok]
      simp only [wipeE, List.set]
      rw [e5]
      simp only [calm_ok, R.bind_ok, lstT_f, if_pos l1, nilM_eq, f1_eq, tupleT, itemsT, R.bindS_ok]
    show m__law_some_pattern [some (.loc d), none, none, none, none, none, none, none, none] S = _
    rw [m__law_some_pattern, seqM_eq, q0, RS.seq_nx, t__law_some_pattern_1, seqM_eq, q1, RS.seq_nx, t__law_some_pattern_2, seqM_eq, q2, RS.seq_nx, t__law_some_pattern_3, seqM_eq, q3, RS.seq_nx, t__law_some_pattern_4, seqM_eq, q4, RS.seq_nx, t__law_some_pattern_5, seqM_eq, q5, RS.seq_nx, q6]
end
end K5
end
section
set_option maxRecDepth 100000
set_option maxHeartbeats 2000000
namespace K5
open PySem L2 TL RL
open scoped RL.R RL.RS
section
variable {S : Sto}
/-! ## drawn signs, spoilt texts -/
theorem len_app (x y : Str) : (x ++ y).length = x.length + y.length := by
  rw [mk_eq x, mk_eq y, app_S, lenS, lenS, lenS, List.length_append]
theorem sign_end {d : Nat} {x : Str} (h : DrawOk d S) (h0 : 0 < x.length) (h1 : x.length < 1000) (o1 : Option T) : ∃ (c : Nat) (S' : Sto), p__law_sign_3 [some (.loc d), o1, some (.str x)] S = .ret (.str ⟨#[c]⟩) S' ∧ Gr d S S' := by
  obtain ⟨v, S1, e1, b1, _, g1⟩ := pick_at h (many := (x.length : Nat)) (by omega) (by omega)
  have hv : v < x.cps.toList.length := by
    have : x.length = x.cps.toList.length := by rw [Array.length_toList]; rfl
    omega
  have ic := idx_s (S := S1) (List.getElem?_eq_getElem hv)
  refine ⟨x.cps.toList[v], S1, ?_, g1⟩
  simp only [p__law_sign_3, retS_eq, m1_eq, m2_eq, consM_eq, nilM_eq, vc0, vc2, R.bind_ok, f1_eq, len_str, callF_eq, gd_pos (show [T.loc d, T.int (x.length : Nat)].length = 2 from rfl), e1, ic, R.bindS_ok]
theorem sign_ok {d : Nat} (h : DrawOk d S) : ∃ (c : Nat) (S' : Sto), L__law_sign [.loc d] S = .ok (.str ⟨#[c]⟩) S' ∧ Gr d S S' := by
  obtain ⟨x1, q0, l1⟩ : ∃ x1 : Str, p__law_sign_0 [some (.loc d), none, none] S = .nx [some (.loc d), some (.str x1), none] S ∧ x1.length = 64 := by
    refine ⟨(" !\"#$&'()*+,-./0123456789:;<=>?@ABCDEFGHIJKLMNOPQRSTUVWXYZ[\\]^_`" : Str), ?_, ?_⟩
    · simp only [p__law_sign_0, setM_eq, strM_eq]
      rw [if_pos (by decide +kernel)]
      rfl
    · decide +kernel
  obtain ⟨x2, q1, l2⟩ : ∃ x2 : Str, p__law_sign_1 [some (.loc d), some (.str x1), none] S = .nx [some (.loc d), some (.str x2), none] S ∧ x2.length = 94 := by
    refine ⟨x1 ++ ("abcdefghijklmnopqrstuvwxyz{|}~" : Str), ?_, ?_⟩
    · have l30 : ("abcdefghijklmnopqrstuvwxyz{|}~" : Str).length = 30 := by decide +kernel
      simp only [p__law_sign_1, setM_eq, m2_eq, vc1, R.bind_ok, strM_eq]
      rw [if_pos (by rw [l30]; decide)]
      rw [R.bind_ok]
      have ad : addT (.str x1) (.str ("abcdefghijklmnopqrstuvwxyz{|}~" : Str)) S = .ok (.str (x1 ++ ("abcdefghijklmnopqrstuvwxyz{|}~" : Str))) S := by
        show gd _ _ = _
        exact gd_pos (by rw [sizeLine_eq, l1, l30]; decide)
      rw [ad]
      rfl
    · rw [len_app, l1]
      decide +kernel
  obtain ⟨v, S1, e1, b1, _, g1⟩ := pick_at h (many := 5) (by omega) (by omega)
  obtain ⟨x, q2, l3, l4⟩ : ∃ x : Str, p__law_sign_2 [some (.loc d), some (.str x2), none] S = .nx [some (.loc d), some (.str x2), some (.str x)] S1 ∧ 0 < x.length ∧ x.length < 1000 := by
    have l5 : ("012345" : Str).length ≤ 16777216 := by decide +kernel
    have l6 : ("abyz*~" : Str).length ≤ 16777216 := by decide +kernel
    have l7 : (",-?." : Str).length ≤ 16777216 := by decide +kernel
    have l8 : ("0a," : Str).length ≤ 16777216 := by decide +kernel
    obtain ⟨x, hx, hl⟩ : ∃ x : Str, idxT (.lst [.str ("012345" : Str), .str ("abyz*~" : Str), .str (",-?." : Str), .str ("0a," : Str), .str x2]) (.int (v : Int)) S1 = .ok (.str x) S1 ∧ 0 < x.length ∧ x.length < 1000 := by
      have cv : v = 0 ∨ v = 1 ∨ v = 2 ∨ v = 3 ∨ v = 4 := by omega
      rcases cv with rfl | rfl | rfl | rfl | rfl
      · exact ⟨_, rfl, by decide +kernel, by decide +kernel⟩
      · exact ⟨_, rfl, by decide +kernel, by decide +kernel⟩
      · exact ⟨_, rfl, by decide +kernel, by decide +kernel⟩
      · exact ⟨_, rfl, by decide +kernel, by decide +kernel⟩
      · exact ⟨x2, rfl, by omega, by omega⟩
    refine ⟨x, ?_, hl⟩
    simp only [p__law_sign_2, setM_eq, m1_eq, m2_eq, consM_eq, nilM_eq, retM_eq, strM_eq, if_pos l5, if_pos l6, if_pos l7, if_pos l8, R.bind_ok, vc0, vc1, lstT_f]
    simp only [List.length_cons, List.length_nil, show (0 + 1 + 1 + 1 + 1 + 1 : Nat) ≤ 16777216 from by decide, if_true]
    simp only [R.bind_ok, callF_eq, gd_pos (show [T.loc d, T.int 5].length = 2 from rfl), e1, hx, R.bindS_ok, List.set]
  obtain ⟨c, S2, e3, g2⟩ := sign_end (S := S1) g1.draw l3 l4 (some (.str x2))
  refine ⟨c, S2, run_ret ?_, g1.trans g2⟩
  show m__law_sign [some (.loc d), none, none] S = _
  rw [m__law_sign, seqM_eq, q0, RS.seq_nx, t__law_sign_1, seqM_eq, q1, RS.seq_nx, t__law_sign_2, seqM_eq, q2, RS.seq_nx, e3]
theorem cut_drop (X : List Nat) (k : Nat) : cutS ⟨X.toArray⟩ (some (k : Int)) none = ⟨(X.drop k).toArray⟩ := by
  unfold cutS
  rw [HT.sIx_nat, HT.sIx_none, lenS]
  congr 2
  show List.take (X.length - min k X.length) (List.drop (min k X.length) X) = _
  by_cases h : k ≤ X.length
  · rw [Nat.min_eq_left h, List.take_of_length_le (by simp)]
  · rw [Nat.min_eq_right (by omega), List.drop_of_length_le (Nat.le_refl _), List.drop_of_length_le (by omega)]
    simp
theorem cut_mid (X : List Nat) (a b : Nat) : ∃ Y : List Nat, cutS ⟨X.toArray⟩ (some (a : Int)) (some (b : Int)) = ⟨Y.toArray⟩ ∧ Y.length = min b X.length - min a X.length := by
  unfold cutS
  rw [HT.sIx_nat, HT.sIx_nat, lenS]
  refine ⟨_, rfl, ?_⟩
  rw [List.length_take, List.length_drop]
  show min _ (X.length - _) = _
  omega
theorem rep_S (L : List Nat) (n : Nat) : repS ⟨L.toArray⟩ n = ⟨((List.replicate n L).flatten).toArray⟩ := rfl
theorem spoilt_ok {d : Nat} (h : DrawOk d S) {X : List Nat} (hX : X.length ≤ 500) : ∃ (Y : List Nat) (S' : Sto), L__law_spoilt [.loc d, .str ⟨X.toArray⟩] S = .ok (.str ⟨Y.toArray⟩) S' ∧ Y.length ≤ X.length + 3 ∧ Gr d S S' := by
  obtain ⟨a, S1, e1, b1, _, g1⟩ := pick_at h (many := (X.length : Int) + 1) (by omega) (by omega)
  obtain ⟨c, S2, e2, g2⟩ := sign_ok g1.draw
  obtain ⟨w, S3, e3, b3, _, g3⟩ := pick_at g2.draw (many := 8) (by omega) (by omega)
  have q0 : p__law_spoilt_0 [some (.loc d), some (.str ⟨X.toArray⟩), none, none, none] S = .nx [some (.loc d), some (.str ⟨X.toArray⟩), some (.int (a : Int)), none, none] S1 := by simp [p__law_spoilt_0, gd_pos, e1]
  have q1 : p__law_spoilt_1 [some (.loc d), some (.str ⟨X.toArray⟩), some (.int (a : Int)), none, none] S1 = .nx [some (.loc d), some (.str ⟨X.toArray⟩), some (.int (a : Int)), some (.str ⟨#[c]⟩), none] S2 := by simp [p__law_spoilt_1, gd_pos, e2]
  have q2 : p__law_spoilt_2 [some (.loc d), some (.str ⟨X.toArray⟩), some (.int (a : Int)), some (.str ⟨#[c]⟩), none] S2 = .nx [some (.loc d), some (.str ⟨X.toArray⟩), some (.int (a : Int)), some (.str ⟨#[c]⟩), some (.int (w : Int))] S3 := by simp [p__law_spoilt_2, gd_pos, e3]
  have fin : ∀ (Y : List Nat), t__law_spoilt_3 [some (.loc d), some (.str ⟨X.toArray⟩), some (.int (a : Int)), some (.str ⟨#[c]⟩), some (.int (w : Int))] S3 = .ret (.str ⟨Y.toArray⟩) S3 → Y.length ≤ X.length + 3 → ∃ (Y : List Nat) (S' : Sto), L__law_spoilt [.loc d, .str ⟨X.toArray⟩] S = .ok (.str ⟨Y.toArray⟩) S' ∧ Y.length ≤ X.length + 3 ∧ Gr d S S' := fun Y r hY => by
    refine ⟨Y, S3, run_ret ?_, hY, (g1.trans g2).trans g3⟩
    show m__law_spoilt [some (.loc d), some (.str ⟨X.toArray⟩), none, none, none] S = _
    rw [m__law_spoilt, seqM_eq, q0, RS.seq_nx, t__law_spoilt_1, seqM_eq, q1, RS.seq_nx, t__law_spoilt_2, seqM_eq, q2, RS.seq_nx, r]
  have ha : a ≤ X.length := by omega
  have k0 : cutS ⟨X.toArray⟩ none (some (a : Int)) = ⟨(X.take a).toArray⟩ := cut_take X a
  have k1 : cutS ⟨X.toArray⟩ (some (a : Int)) none = ⟨(X.drop a).toArray⟩ := cut_drop X a
  have k2 : cutS ⟨X.toArray⟩ (some ((a : Int) + 1)) none = ⟨(X.drop (a + 1)).toArray⟩ := cut_drop X (a + 1)
  have k3 : cutS ⟨X.toArray⟩ (some ((a : Int) + 2)) none = ⟨(X.drop (a + 2)).toArray⟩ := cut_drop X (a + 2)
  obtain ⟨Y3, k4, y3⟩ : ∃ Y : List Nat, cutS ⟨X.toArray⟩ (some (a : Int)) (some ((a : Int) + 3)) = ⟨Y.toArray⟩ ∧ _ := cut_mid X a (a + 3)
  obtain ⟨Y1, k5, y1⟩ : ∃ Y : List Nat, cutS ⟨X.toArray⟩ (some (a : Int)) (some ((a : Int) + 1)) = ⟨Y.toArray⟩ ∧ _ := cut_mid X a (a + 1)
  obtain ⟨Y2, k6, y2⟩ : ∃ Y : List Nat, cutS ⟨X.toArray⟩ (some ((a : Int) + 1)) (some ((a : Int) + 2)) = ⟨Y.toArray⟩ ∧ _ := cut_mid X (a + 1) (a + 2)
  have t0 : (X.take a).length ≤ a := by rw [List.length_take]; omega
  have t1 : (X.drop a).length = X.length - a := List.length_drop
  have t2 : (X.drop (a + 1)).length = X.length - (a + 1) := List.length_drop
  have t3 : (X.drop (a + 2)).length = X.length - (a + 2) := List.length_drop
  generalize X.take a = A at *
  generalize X.drop a = B at *
  generalize X.drop (a + 1) = C at *
  generalize X.drop (a + 2) = D at *
  have ch : (⟨#[c]⟩ : Str) = ⟨([c] : List Nat).toArray⟩ := rfl
  have mu : mulT (.str ⟨Y1.toArray⟩) (.int 2) S3 = .ok (.str ⟨(Y1 ++ Y1).toArray⟩) S3 := by
    show gd _ _ = _
    rw [gd_pos ⟨by decide, by decide, by rw [lenS]; omega⟩, rep_S]
    congr 3
    simp
  have lc : ([c] : List Nat).length = 1 := rfl
  have st : ∀ lo hi, slT false (.str ⟨X.toArray⟩) lo hi S3 = .ok (.str (cutS ⟨X.toArray⟩ lo hi)) S3 := fun _ _ => rfl
  have cw : w = 0 ∨ w = 1 ∨ w = 2 ∨ w = 3 ∨ w = 4 ∨ w = 5 ∨ w = 6 ∨ w = 7 := by omega
  rcases cw with rfl | rfl | rfl | rfl | rfl | rfl | rfl | rfl
  · refine fin (A) ?_ (by omega)
    simp [t__law_spoilt_3, p__law_spoilt_3, st, add_int, k0]
  · have d1 := add_S (S := S3) (a := A) (b := C) (by omega)
    refine fin (A ++ C) ?_ (by rw [List.length_append]; omega)
    generalize A ++ C = P at *
    simp [t__law_spoilt_3, t__law_spoilt_4, p__law_spoilt_3, p__law_spoilt_4, st, add_int, k0, k2, d1]
  · have d1 := add_S (S := S3) (a := A) (b := [c]) (by omega)
    have d2 := add_S (S := S3) (a := A ++ [c]) (b := C) (by rw [List.length_append]; omega)
    refine fin (A ++ [c] ++ C) ?_ (by rw [List.length_append]; rw [List.length_append]; omega)
    rw [← ch] at d1
    generalize A ++ [c] = P at *
    generalize P ++ C = Q at *
    simp [t__law_spoilt_3, t__law_spoilt_4, t__law_spoilt_5, p__law_spoilt_3, p__law_spoilt_4, p__law_spoilt_5, st, add_int, k0, k2, d1, d2]
  · have d1 := add_S (S := S3) (a := A) (b := [c]) (by omega)
    have d2 := add_S (S := S3) (a := A ++ [c]) (b := B) (by rw [List.length_append]; omega)
    refine fin (A ++ [c] ++ B) ?_ (by rw [List.length_append]; rw [List.length_append]; omega)
    rw [← ch] at d1
    generalize A ++ [c] = P at *
    generalize P ++ B = Q at *
    simp [t__law_spoilt_3, t__law_spoilt_4, t__law_spoilt_5, t__law_spoilt_6, p__law_spoilt_3, p__law_spoilt_4, p__law_spoilt_5, p__law_spoilt_6, st, add_int, k0, k1, d1, d2]
  · have d1 := add_S (S := S3) (a := A) (b := Y3) (by omega)
    have d2 := add_S (S := S3) (a := A ++ Y3) (b := B) (by rw [List.length_append]; omega)
    refine fin (A ++ Y3 ++ B) ?_ (by rw [List.length_append]; rw [List.length_append]; omega)
    generalize A ++ Y3 = P at *
    generalize P ++ B = Q at *
    simp [t__law_spoilt_3, t__law_spoilt_4, t__law_spoilt_5, t__law_spoilt_6, t__law_spoilt_7, p__law_spoilt_3, p__law_spoilt_4, p__law_spoilt_5, p__law_spoilt_6, p__law_spoilt_7, st, add_int, k0, k1, k4, d1, d2]
  · have d1 := add_S (S := S3) (a := X) (b := [c]) (by omega)
    refine fin (X ++ [c]) ?_ (by rw [List.length_append]; omega)
    rw [← ch] at d1
    generalize X ++ [c] = P at *
    simp [t__law_spoilt_3, t__law_spoilt_4, t__law_spoilt_5, t__law_spoilt_6, t__law_spoilt_7, t__law_spoilt_8, p__law_spoilt_3, p__law_spoilt_4, p__law_spoilt_5, p__law_spoilt_6, p__law_spoilt_7, p__law_spoilt_8, st, add_int, d1]
  · have d1 := add_S (S := S3) (a := A) (b := (Y1 ++ Y1)) (by rw [List.length_append]; omega)
    have d2 := add_S (S := S3) (a := A ++ (Y1 ++ Y1)) (b := D) (by rw [List.length_append]; rw [List.length_append]; omega)
    refine fin (A ++ (Y1 ++ Y1) ++ D) ?_ (by rw [List.length_append]; rw [List.length_append]; rw [List.length_append]; omega)
    generalize Y1 ++ Y1 = Z at *
    generalize A ++ Z = P at *
    generalize P ++ D = Q at *
    simp [t__law_spoilt_3, t__law_spoilt_4, t__law_spoilt_5, t__law_spoilt_6, t__law_spoilt_7, t__law_spoilt_8, t__law_spoilt_9, p__law_spoilt_3, p__law_spoilt_4, p__law_spoilt_5, p__law_spoilt_6, p__law_spoilt_7, p__law_spoilt_8, p__law_spoilt_9, st, add_int, k0, k3, k5, mu, d1, d2]
  · have d1 := add_S (S := S3) (a := A) (b := Y2) (by omega)
    have d2 := add_S (S := S3) (a := A ++ Y2) (b := Y1) (by rw [List.length_append]; omega)
    have d3 := add_S (S := S3) (a := A ++ Y2 ++ Y1) (b := D) (by rw [List.length_append, List.length_append]; omega)
    refine fin (A ++ Y2 ++ Y1 ++ D) ?_ (by rw [List.length_append]; rw [List.length_append]; rw [List.length_append]; omega)
    generalize A ++ Y2 = P at *
    generalize P ++ Y1 = Q at *
    generalize Q ++ D = U at *
    simp [t__law_spoilt_3, t__law_spoilt_4, t__law_spoilt_5, t__law_spoilt_6, t__law_spoilt_7, t__law_spoilt_8, t__law_spoilt_9, p__law_spoilt_3, p__law_spoilt_4, p__law_spoilt_5, p__law_spoilt_6, p__law_spoilt_7, p__law_spoilt_8, p__law_spoilt_9, p__law_spoilt_10, st, add_int, k0, k3, k5, k6, d1, d2, d3]
end
end K5
end
section
set_option maxRecDepth 100000
set_option maxHeartbeats 2000000
namespace K5
open PySem L2 TL RL
open scoped RL.R RL.RS
section
variable {S : Sto}
/-! ## a round -/
theorem deedS_X (ds : Dd) (hn : ds.length ≤ 3) : ∃ X : List Nat, deedS ds = ⟨X.toArray⟩ ∧ X.length ≤ 30 := by
  unfold deedS
  by_cases h : ds = []
  · rw [if_pos h]; exact ⟨[45], rfl, by decide⟩
  · rw [if_neg h]; exact ⟨deedX ds, rfl, by rw [deedX_len]; omega⟩
theorem patS_X {l : List T} (hg : goodP l = true) : ∃ X : List Nat, patS l = ⟨X.toArray⟩ ∧ X.length ≤ 30 := by
  unfold patS
  by_cases h : l = []
  · rw [if_pos h]; exact ⟨[46], rfl, by decide⟩
  · rw [if_neg h]
    obtain ⟨_, _, j⟩ := join_fits hg
    refine ⟨(Txt.join ⟨#[44]⟩ (l.map itS)).cps.toList, mk_eq _, ?_⟩
    rw [Array.length_toList]
    exact j
theorem text0_ok {d : Nat} (h : DrawOk d S) : ∃ (X : List Nat) (S' : Sto), p__law_round_0 [some (.loc d), none, none, none, none, none] S = .nx [some (.loc d), none, none, none, none, some (.str ⟨X.toArray⟩)] S' ∧ X.length ≤ 30 ∧ DrawOk d S' := by
  obtain ⟨v, S1, e1, b1, _, g1⟩ := pick_at h (many := 2) (by omega) (by omega)
  by_cases hv : v = 0
  · obtain ⟨ds, S2, e2, o2, n2, g2⟩ := deed_ok g1.draw (size := 6) (by omega) (by omega)
    obtain ⟨X, eX, lX⟩ := deedS_X ds n2
    have e3 := due_deed_ok (S := S2) o2 (by omega)
    rw [eX] at e3
    refine ⟨X, S2, ?_, lX, g2.draw⟩
    subst hv
    simp only [p__law_round_0, ifS_eq, m1_eq, m2_eq, consM_eq, nilM_eq, retM_eq, vc0, R.bind_ok, callF_eq, gd_pos (show [T.loc d, T.int 2].length = 2 from rfl), e1, eq_int, boolOf_eq, R.bindS_ok]
    simp only [show decide (((0 : Nat) : Int) = 0) = true from rfl, if_true, setM_eq, m1_eq, consM_eq, nilM_eq, retM_eq, vc0, R.bind_ok, strM_eq, s_abc, if_pos abc_len, callF_eq, gd_pos (show [T.loc d, T.int 6, T.str abc, T.int 3].length = 4 from rfl), e2, gd_pos (show [T.tup (ds.map stT)].length = 1 from rfl), e3, R.bindS_ok, List.set]
  · obtain ⟨l, S2, e2, g2, d2⟩ := some_ok g1.draw
    obtain ⟨X, eX, lX⟩ := patS_X g2
    have e3 := dp_ok (S := S2) g2
    rw [eX] at e3
    refine ⟨X, S2, ?_, lX, d2⟩
    have hv' : ¬ (v : Int) = 0 := by omega
    simp only [p__law_round_0, ifS_eq, m1_eq, m2_eq, consM_eq, nilM_eq, retM_eq, vc0, R.bind_ok, callF_eq, gd_pos (show [T.loc d, T.int 2].length = 2 from rfl), e1, eq_int, boolOf_eq, R.bindS_ok, decide_eq_false hv', Bool.false_eq_true, if_false]
    simp only [setM_eq, m1_eq, consM_eq, nilM_eq, vc0, R.bind_ok, callF_eq, gd_pos (show [T.loc d].length = 1 from rfl), e2, gd_pos (show [T.tup l].length = 1 from rfl), e3, R.bindS_ok, List.set]
/-- the rows of texts -/
structure Rws (d Q : Nat) (S : Sto) (l : List T) (n : Nat) : Prop where
  draw : DrawOk d S
  at_ : S[Q]? = some l
  ne : Q ≠ d
  ok : ∀ t ∈ l, ∃ X : List Nat, t = .str ⟨X.toArray⟩ ∧ X.length ≤ n
theorem Rws.gr {d Q n : Nat} {S' : Sto} {l : List T} (h : Rws d Q S l n) (g : Gr d S S') : Rws d Q S' l n := ⟨g.draw, g.keep h.at_ h.ne, h.ne, h.ok⟩
theorem Rws.add {d Q n m : Nat} {l : List T} (h : Rws d Q S l n) (hl : l.length ≤ 1000) {Y : List Nat} (hY : Y.length ≤ m) (hn : n ≤ m) : appT (.loc Q) [.str ⟨Y.toArray⟩] S = .ok .non (S.set Q (l ++ [.str ⟨Y.toArray⟩])) ∧ Rws d Q (S.set Q (l ++ [.str ⟨Y.toArray⟩])) (l ++ [.str ⟨Y.toArray⟩]) m := by
  have hQ : Q < S.length := (List.getElem?_eq_some_iff.mp h.at_).1
  refine ⟨?_, draw_ext h.draw (List.getElem?_set_ne h.ne), List.getElem?_set_self hQ, h.ne, fun t ht => ?_⟩
  · unfold appT
    simp only [h.at_]
    exact gd_pos (by rw [sizeLine_eq]; omega)
  · rcases List.mem_append.mp ht with q | q
    · obtain ⟨X, e, hX⟩ := h.ok t q
      exact ⟨X, e, by omega⟩
    · exact ⟨Y, List.mem_singleton.mp q, hY⟩
theorem spoil_turns {d Q : Nat} {X : List Nat} {l : List T} (h : Rws d Q S l 30) (hl : l.length = 1) : ∃ (o : Option T) (S' : Sto) (l' : List T), p__law_round_2 [some (.loc d), some (.loc Q), none, none, none, some (.str ⟨X.toArray⟩)] S = .nx [some (.loc d), some (.loc Q), o, none, none, some (.str ⟨X.toArray⟩)] S' ∧ Rws d Q S' l' 39 ∧ l'.length = 4 := by
  have e2 : m1 rng1T (consM (retM (.int 3)) nilM) [some (.loc d), some (.loc Q), none, none, none, some (.str ⟨X.toArray⟩)] S = .ok ((List.range 3).map fun i => T.int (0 + (i : Nat)), none) S := by
    have a : consM (retM (.int 3)) nilM [some (.loc d), some (.loc Q), none, none, none, some (.str ⟨X.toArray⟩)] S = .ok [T.int ((3 : Nat) : Int)] S := rfl
    rw [m1_eq, a, R.bind_ok]
    exact rng_n 3 (by decide)
  obtain ⟨ρ2, S2, loop, l2, o, hρ, h2, n2⟩ := forL_all (src := ((List.range 3).map fun i => T.int (0 + (i : Nat)), none)) (g := .one 2) (body := dropM (bmM "list" appT (varM 1) (consM (m1 (callF 2 L__law_spoilt) (consM (varM 0) (consM (m2 idxT (varM 1) (varM 2)) (nilM)))) (nilM))))
    (fun k ρ S' => ∃ l o, ρ = [some (.loc d), some (.loc Q), o, none, none, some (.str ⟨X.toArray⟩)] ∧ Rws d Q S' l (30 + 3 * k) ∧ l.length = k + 1) (fun _ _ _ _ => trivial) ((List.range 3).map fun i => T.int (0 + (i : Nat))) 0 (ρ := [some (.loc d), some (.loc Q), none, none, none, some (.str ⟨X.toArray⟩)]) (S := S) ⟨l, none, rfl, h, hl⟩ (fun j t ρ S' ht hI => by
      rw [Nat.zero_add] at hI
      obtain ⟨l, o, rfl, hr, hn⟩ := hI
      have ht' : t = .int (j : Nat) ∧ j < 3 := by
        have hj : j < 3 := by have := (List.getElem?_eq_some_iff.mp ht).1; simpa using this
        rw [List.getElem?_map, List.getElem?_range hj] at ht
        simp at ht
        exact ⟨ht.symm, hj⟩
      obtain ⟨rfl, hj⟩ := ht'
      obtain ⟨u, hu⟩ : ∃ u, l[j]? = some u := ⟨l[j]'(by omega), List.getElem?_eq_getElem _⟩
      obtain ⟨Z, rfl, hZ⟩ := hr.ok u (List.mem_of_getElem? hu)
      have ix := (rw_loc hr.at_).ix j _ hu
      obtain ⟨Y, S1, e1, hY, g1⟩ := spoilt_ok hr.draw (X := Z) (by omega)
      obtain ⟨e3, r3⟩ := (hr.gr g1).add (by omega) (Y := Y) (m := 30 + 3 * (j + 1)) (by omega) (by omega)
      refine ⟨_, rfl, [some (.loc d), some (.loc Q), some (.int (j : Nat)), none, none, some (.str ⟨X.toArray⟩)], _, ?_, _, some (.int (j : Nat)), rfl, by rw [Nat.zero_add]; exact r3, by rw [List.length_append, Nat.zero_add, hn]; rfl⟩
      simp only [List.set, dropM_eq, bmM_eq, m1_eq, m2_eq, consM_eq, nilM_eq, vc0, vc1, vc2, R.bind_ok, isRecv, ix, callF_eq, gd_pos (show [T.loc d, T.str ⟨Z.toArray⟩].length = 2 from rfl), e1]
      simp [e3])
  subst hρ
  have ln : 0 + ((List.range 3).map fun i => T.int (0 + (i : Nat))).length = 3 := rfl
  rw [ln] at h2 n2
  refine ⟨o, S2, l2, ?_, h2, n2⟩
  rw [p__law_round_2, forM_eq, e2, R.bindS_ok]
  exact loop
theorem free_turn {d Q : Nat} {l : List T} {o2 o5 : Option T} (h : Rws d Q S l 39) (hl : l.length = 4) (h2 : o2 = none ∨ True) : ∃ (S' : Sto) (l' : List T), p__law_round_3 [some (.loc d), some (.loc Q), o2, none, none, o5] S = .nx [some (.loc d), some (.loc Q), o2, none, none, o5] S' ∧ Rws d Q S' l' 39 ∧ l'.length = 5 := by
  obtain ⟨n, S1, e1, b1, _, g1⟩ := pick_at h.draw (many := 8) (by omega) (by omega)
  have a1 : consM (m1 (callF 2 L__law_pick) (consM (varM 0) (consM (retM (.int 8)) (nilM)))) nilM [some (.loc d), some (.loc Q), o2, none, none, o5] S = .ok [T.int (n : Nat)] S1 := by simp [gd_pos, e1]
  have a2 : m1 rng1T (consM (m1 (callF 2 L__law_pick) (consM (varM 0) (consM (retM (.int 8)) (nilM)))) nilM) [some (.loc d), some (.loc Q), o2, none, none, o5] S = .ok ((List.range n).map fun i => T.int (0 + (i : Nat)), none) S1 := by
    rw [m1_eq, a1, R.bind_ok]
    exact rng_n n (by omega)
  obtain ⟨cs', S2, e2, _, l2, g2⟩ := lcL_draw (d := d) (l0 := (List.range n).map fun i => T.int (0 + (i : Nat))) (i := 2) (me := m1 (callF 1 L__law_sign) (consM (varM 0) nilM)) (ρ := [some (.loc d), some (.loc Q), none, none, none, o5]) (fun c : Nat => T.str ⟨#[c]⟩) (fun _ => True)
    (fun t S hS => by
      obtain ⟨c, S', q1, q2⟩ := sign_ok hS
      exact ⟨c, S', by simp [gd_pos, q1], trivial, q2⟩) ((List.range n).map fun i => T.int (0 + (i : Nat))) [] S1 g1.draw (by simp; omega)
  have ln : cs'.length ≤ 7 := by rw [l2]; simp; omega
  obtain ⟨e3, r3⟩ := ((h.gr g1).gr g2).add (by omega) (Y := cs') (m := 39) (by omega) (by omega)
  refine ⟨_, _, ?_, r3, by rw [List.length_append, hl]; rfl⟩
  have l1 : (cs'.map fun c : Nat => T.str ⟨#[c]⟩).length ≤ 16777216 := by simp; omega
  have eo : (cs'.map fun c : Nat => T.str ⟨#[c]⟩) = (ones cs').map T.str := by unfold ones; rw [List.map_map]; rfl
  have jn : joinT (.str ⟨#[]⟩) [.lst (cs'.map fun c : Nat => T.str ⟨#[c]⟩)] S2 = .ok (.str ⟨cs'.toArray⟩) S2 := by
    rw [eo]
    unfold joinT
    simp only [seqJ, itemsT, strsOf_map, ones_join, ones_sum]
    exact gd_pos ⟨by simp; omega, by rw [sizeLine_eq, lenS]; omega⟩
  have lc : lcM false [2] (m1 rng1T (consM (m1 (callF 2 L__law_pick) (consM (varM 0) (consM (retM (.int 8)) (nilM)))) (nilM))) (.one 2) (yesM) (m1 (callF 1 L__law_sign) (consM (varM 0) (nilM))) [some (.loc d), some (.loc Q), o2, none, none, o5] S = .ok (.lst (cs'.map fun c : Nat => T.str ⟨#[c]⟩)) S2 := by
    rw [lcM_eq, a2, R.bind_ok]
    simp only [wipeE, List.set]
    rw [e2]
    simp only [List.nil_append, calm_ok, R.bind_ok, lstT_f, if_pos l1]
  simp only [p__law_round_3, dropM_eq, bmM_eq, consM_eq, nilM_eq, vc1, R.bind_ok, isRecv, strM_eq, s_none, lenS, List.length_nil, Nat.zero_le, if_true, lc]
  simp [jn, e3]
theorem rep_1 (c n : Nat) : repS ⟨#[c]⟩ n = ⟨(List.replicate n c).toArray⟩ := by
  unfold repS
  congr 2
  induction n with
  | zero => rfl
  | succ n ih => rw [List.replicate_succ, List.flatten_cons, ih, List.replicate_succ]; rfl
theorem long_turn {d Q : Nat} {l : List T} {o2 o5 : Option T} (h : Rws d Q S l 39) (hl : l.length = 5) : ∃ (S' : Sto) (l' : List T), p__law_round_4 [some (.loc d), some (.loc Q), o2, none, none, o5] S = .nx [some (.loc d), some (.loc Q), o2, none, none, o5] S' ∧ Rws d Q S' l' 1939 ∧ l'.length ≤ 6 := by
  obtain ⟨k, S1, e1, b1, _, g1⟩ := pick_at h.draw (many := 16) (by omega) (by omega)
  have h1 := h.gr g1
  by_cases hk : k = 0
  · obtain ⟨v, S2, e2, b2, _, g2⟩ := pick_at g1.draw (many := 2) (by omega) (by omega)
    have h2 := h1.gr g2
    obtain ⟨u, hu⟩ : ∃ u, l[v]? = some u := ⟨l[v]'(by omega), List.getElem?_eq_getElem _⟩
    obtain ⟨Z, rfl, hZ⟩ := h.ok u (List.mem_of_getElem? hu)
    have ix := (rw_loc h2.at_).ix v _ hu
    obtain ⟨c, S3, e3, g3⟩ := sign_ok h2.draw
    have h3 := h2.gr g3
    obtain ⟨n, S4, e4, b4, _, g4⟩ := pick_at h3.draw (many := 1901) (by omega) (by omega)
    have h4 := h3.gr g4
    have mu : mulT (.str ⟨#[c]⟩) (.int (n : Int)) S4 = .ok (.str ⟨(List.replicate n c).toArray⟩) S4 := by
      show gd _ _ = _
      rw [gd_pos ⟨by omega, by omega, by show (1 : Nat) ≤ 1000; decide⟩, Int.toNat_natCast, rep_1]
    have ad := add_S (S := S4) (a := Z) (b := List.replicate n c) (by rw [List.length_replicate]; omega)
    obtain ⟨e5, r5⟩ := h4.add (by omega) (Y := Z ++ List.replicate n c) (m := 1939) (by rw [List.length_append, List.length_replicate]; omega) (by omega)
    refine ⟨_, _, ?_, r5, by rw [List.length_append, hl, List.length_singleton]; omega⟩
    subst hk
    simp only [p__law_round_4, ifS_eq, m1_eq, m2_eq, consM_eq, nilM_eq, retM_eq, vc0, R.bind_ok, callF_eq, gd_pos (show [T.loc d, T.int 16].length = 2 from rfl), e1, eq_int, boolOf_eq, R.bindS_ok]
    simp only [show decide (((0 : Nat) : Int) = 0) = true from rfl, if_true, dropM_eq, bmM_eq, m1_eq, m2_eq, consM_eq, nilM_eq, retM_eq, vc0, vc1, R.bind_ok, gd_pos (show isRecv "list" (T.loc Q) = true from rfl), callF_eq, gd_pos (show [T.loc d, T.int 2].length = 2 from rfl), e2, ix, gd_pos (show [T.loc d].length = 1 from rfl), e3, gd_pos (show [T.loc d, T.int 1901].length = 2 from rfl), e4, mu, ad]
    simp [e5]
  · refine ⟨S1, l, ?_, ⟨h1.draw, h1.at_, h1.ne, fun t ht => ?_⟩, by omega⟩
    · simp [p__law_round_4, gd_pos, e1, hk]
    · obtain ⟨X, e, hX⟩ := h.ok t ht
      exact ⟨X, e, by omega⟩
theorem all_read {d Q : Nat} {l : List T} {o2 : Option T} {X : List Nat} (h : Rws d Q S l 1939) (hl : l.length ≤ 6) (hX : X.length ≤ 30) : ∃ (o3 : Option T) (S' : Sto), p__law_round_5 [some (.loc d), some (.loc Q), o2, none, none, some (.str ⟨X.toArray⟩)] S = .nx [some (.loc d), some (.loc Q), o2, o3, none, some (.str ⟨X.toArray⟩)] S' ∧ DrawOk d S' := by
  have hd : d < S.length := by
    obtain ⟨_, _, _, _, _, _, h0, _⟩ := h.draw
    exact (List.getElem?_eq_some_iff.mp h0).1
  have hQ : Q < S.length := (List.getElem?_eq_some_iff.mp h.at_).1
  obtain ⟨S1, hS1⟩ : ∃ S1, S ++ [[T.str ⟨X.toArray⟩]] = S1 := ⟨_, rfl⟩
  have d1 : DrawOk d S1 := by rw [← hS1]; exact (gr_app h.draw).draw
  have q1 : S1[Q]? = some l := by rw [← hS1, List.getElem?_append_left hQ]; exact h.at_
  have n1 : S1[S.length]? = some [T.str ⟨X.toArray⟩] := by rw [← hS1, List.getElem?_append_right (Nat.le_refl _), Nat.sub_self]; rfl
  have ad : addT (.loc Q) (.loc S.length) S1 = .ok (.lst (l ++ [.str ⟨X.toArray⟩])) S1 := by
    unfold addT
    dsimp only
    rw [q1, n1]
    exact gd_pos (by rw [sizeLine_eq, List.length_singleton]; omega)
  have src : m1 iterT (m2 addT (varM 1) (m1 (lstT true) (consM (varM 5) (nilM)))) [some (.loc d), some (.loc Q), o2, none, none, some (.str ⟨X.toArray⟩)] S = .ok (l ++ [.str ⟨X.toArray⟩], none) S1 := by
    simp only [m1_eq, m2_eq, consM_eq, nilM_eq, vc1, vc5, R.bind_ok, lstT_t, List.length_cons, List.length_nil]
    rw [if_pos (by decide), R.bind_ok, hS1, ad]
    rfl
  obtain ⟨ρ2, S2, loop, hS, o, hρ⟩ := forL_inv (src := (l ++ [.str ⟨X.toArray⟩], none)) (g := .one 3) (body := ifS (m1 notT (m1 truthT (m1 (callF 1 L__law_both_read) (consM (varM 3) (nilM))))) (retS (retM (.bl false))) (nextM))
    (fun ρ S' => S' = S1 ∧ ∃ o, ρ = [some (.loc d), some (.loc Q), o2, o, none, some (.str ⟨X.toArray⟩)]) (fun _ _ _ => trivial) (l ++ [.str ⟨X.toArray⟩]) (ρ := [some (.loc d), some (.loc Q), o2, none, none, some (.str ⟨X.toArray⟩)]) (S := S1) ⟨rfl, none, rfl⟩ (fun t ht ρ S' hI => by
      obtain ⟨rfl, o, rfl⟩ := hI
      obtain ⟨Z, rfl, hZ⟩ : ∃ Z : List Nat, t = .str ⟨Z.toArray⟩ ∧ Z.length ≤ 2000 := by
        rcases List.mem_append.mp ht with q | q
        · obtain ⟨Z, e, hZ⟩ := h.ok t q
          exact ⟨Z, e, by omega⟩
        · exact ⟨X, List.mem_singleton.mp q, by omega⟩
      have b := both_ok (S := S') hZ
      refine ⟨_, rfl, [some (.loc d), some (.loc Q), o2, some (.str ⟨Z.toArray⟩), none, some (.str ⟨X.toArray⟩)], S', ?_, rfl, _, rfl⟩
      simp [gd_pos, b])
  subst hS hρ
  refine ⟨o, S2, ?_, d1⟩
  rw [p__law_round_5, forM_eq, src, R.bindS_ok]
  exact loop
theorem round_ok {d : Nat} (h : DrawOk d S) : ∃ S', L__law_round [.loc d] S = .ok (.bl true) S' ∧ DrawOk d S' := by
  obtain ⟨X, S1, q0, hX, d1⟩ := text0_ok h
  obtain ⟨Q, hQ⟩ : ∃ Q, S1.length = Q := ⟨_, rfl⟩
  obtain ⟨S2, hS2⟩ : ∃ S2, S1 ++ [[T.str ⟨X.toArray⟩]] = S2 := ⟨_, rfl⟩
  have q1 : p__law_round_1 [some (.loc d), none, none, none, none, some (.str ⟨X.toArray⟩)] S1 = .nx [some (.loc d), some (.loc Q), none, none, none, some (.str ⟨X.toArray⟩)] S2 := by
    simp only [p__law_round_1, setM_eq, m1_eq, consM_eq, nilM_eq, vc5, R.bind_ok, lstT_t, List.length_cons, List.length_nil]
    rw [if_pos (by decide), R.bindS_ok, hQ, hS2]
    rfl
  have hd : d < S1.length := by
    obtain ⟨_, _, _, _, _, _, h0, _⟩ := d1
    exact (List.getElem?_eq_some_iff.mp h0).1
  have R2 : Rws d Q S2 [.str ⟨X.toArray⟩] 30 := ⟨by rw [← hS2]; exact (gr_app d1).draw, by rw [← hS2, ← hQ, List.getElem?_append_right (Nat.le_refl _), Nat.sub_self]; rfl, by omega, fun t ht => ⟨X, List.mem_singleton.mp ht, hX⟩⟩
  obtain ⟨o2, S3, l3, q2, R3, n3⟩ := spoil_turns (X := X) R2 rfl
  obtain ⟨S4, l4, q3, R4, n4⟩ := free_turn (o2 := o2) (o5 := some (.str ⟨X.toArray⟩)) R3 n3 (.inr trivial)
  obtain ⟨S5, l5, q4, R5, n5⟩ := long_turn (o2 := o2) (o5 := some (.str ⟨X.toArray⟩)) R4 n4
  obtain ⟨o3, S6, q5, d6⟩ := all_read (o2 := o2) R5 n5 hX
  obtain ⟨v, S7, e7, b7, _, g7⟩ := pick_at d6 (many := 7) (by omega) (by omega)
  obtain ⟨W, k, hW, hk, hn⟩ : ∃ (W : T) (k : String), idxT (.lst [.non, .int 5, .bl true, .lst [.str ("a01" : Str)], .tup [.str ("a01" : Str)], .lst [], .tup []]) (.int (v : Int)) S7 = .ok W S7 ∧ kindT W = some k ∧ isK k "str" = false := by
    have cv : v = 0 ∨ v = 1 ∨ v = 2 ∨ v = 3 ∨ v = 4 ∨ v = 5 ∨ v = 6 := by omega
    rcases cv with rfl | rfl | rfl | rfl | rfl | rfl | rfl
    · exact ⟨_, _, rfl, rfl, by decide⟩
    · exact ⟨_, _, rfl, rfl, by decide⟩
    · exact ⟨_, _, rfl, rfl, by decide⟩
    · exact ⟨_, _, rfl, rfl, by decide⟩
    · exact ⟨_, _, rfl, rfl, by decide⟩
    · exact ⟨_, _, rfl, rfl, by decide⟩
    · exact ⟨_, _, rfl, rfl, by decide⟩
  have la : ("a01" : Str).length ≤ 16777216 := by decide +kernel
  have q6 : p__law_round_6 [some (.loc d), some (.loc Q), o2, o3, none, some (.str ⟨X.toArray⟩)] S6 = .nx [some (.loc d), some (.loc Q), o2, o3, some W, some (.str ⟨X.toArray⟩)] S7 := by
    simp only [p__law_round_6, setM_eq, m1_eq, m2_eq, consM_eq, nilM_eq, retM_eq, strM_eq, if_pos la, R.bind_ok, lstT_f, tupT_eq, List.length_cons, List.length_nil, Nat.zero_le, if_true]
    simp only [List.length_cons, List.length_nil, show (0 + 1 : Nat) ≤ 16777216 from by decide, show (0 + 1 + 1 + 1 + 1 + 1 + 1 + 1 : Nat) ≤ 16777216 from by decide, if_true, R.bind_ok, vc0, callF_eq, gd_pos (show [T.loc d, T.int 7].length = 2 from rfl), gd_pos (show True from trivial), e7, hW, R.bindS_ok, List.set]
  have w1 := odd_deed (S := S7) hk hn
  have w2 := odd_pattern (S := S7) hk hn
  refine ⟨S7, run_ret ?_, g7.draw⟩
  show m__law_round [some (.loc d), none, none, none, none, none] S = _
  rw [m__law_round, seqM_eq, q0, RS.seq_nx, t__law_round_1, seqM_eq, q1, RS.seq_nx, t__law_round_2, seqM_eq, q2, RS.seq_nx, t__law_round_3, seqM_eq, q3, RS.seq_nx, t__law_round_4, seqM_eq, q4, RS.seq_nx, t__law_round_5, seqM_eq, q5, RS.seq_nx, t__law_round_6, seqM_eq, q6, RS.seq_nx]
  simp [p__law_round_7, gd_pos, w1, w2]
theorem ints_map {α : Type} (f : α → Int) (l : List α) : intsOf (l.map fun a => T.int (f a)) = some (l.map f) := by
  induction l with
  | nil => rfl
  | cons a l ih => simp [intsOf, ih]
theorem draw_start (ns : List Int) (hn : ns.length ≤ 63) (S : Sto) : ∃ S', L__law_draw [.lst (ns.map T.int)] S = .ok (.loc S.length) S' ∧ DrawOk S.length S' := by
  have c : lcL (ns.map T.int, none) (.one 2) yesM (varM 2) (ns.map T.int) [] [some (.lst (ns.map T.int)), none, none] S = .ok (ns.map T.int) S := by
    rw [lcl1 id _ _ (by simp; omega) (fun t _ => by simp)]
    simp
  have l1 : (ns.map T.int).length ≤ 16777216 := by simp; omega
  have sm : sumT (.lst (ns.map T.int)) S = .ok (.int ns.sum) S := by
    unfold sumT
    simp only [itemsT]
    rw [show ns.map T.int = ns.map fun i => T.int i from rfl, ints_map]
    simp
  have m7 : ∀ z : Int, mulT (.int 7) (.int z) S = .ok (.int (7 * z)) S := fun z => mul_d _ _ (by decide)
  have p0 : p__law_draw_0 [some (.lst (ns.map T.int)), none, none] S = .nx [some (.lst (ns.map T.int)), some (.lst (ns.map T.int)), none] S := by
    simp only [p__law_draw_0, setM_eq, lcM_eq, m1_eq, vc0, R.bind_ok, iter_lst, wipeE, List.set, c, calm_ok, lstT_f, if_pos l1, R.bindS_ok]
  refine ⟨S ++ [dr (ns.map T.int) 0 0 0 0 (ns.sum % 1000003 + 7 * (ns.length : Int))], run_ret ?_, ns, 0, 0, 0, 0, _, by rw [List.getElem?_append_right (Nat.le_refl _), Nat.sub_self]; rfl, by decide, by decide⟩
  show m__law_draw [some (.lst (ns.map T.int)), none, none] S = _
  rw [m__law_draw, seqM_eq, p0, RS.seq_nx]
  simp [p__law_draw_1, sm, gd, m7, dr]
theorem law_true (ns : List Int) (hn : ns.length ≤ 63) (S : Sto) : ∃ S', L_law [.lst (ns.map T.int)] S = .ok (.bl true) S' := by
  obtain ⟨S1, e1, d1⟩ := draw_start ns hn S
  obtain ⟨d, hd⟩ : ∃ d, S.length = d := ⟨_, rfl⟩
  rw [hd] at e1 d1
  obtain ⟨v, S2, e2, b2, _, g2⟩ := pick_at d1 (many := 4) (by omega) (by omega)
  have fd := fdiv_c (S := S2) (ns.length : Int) 4 (by decide) (by decide)
  obtain ⟨n, hnn⟩ : ∃ n : Nat, 3 + (v : Int) + (ns.length : Int) / 4 = (n : Nat) := ⟨(3 + (v : Int) + (ns.length : Int) / 4).toNat, by omega⟩
  obtain ⟨ρ3, S3, e3, d3, o3, h3⟩ := forL_inv (src := ((List.range n).map fun i => T.int (0 + (i : Nat)), none)) (g := .one 2) (body := ifS (m1 notT (m1 truthT (m1 (callF 1 L__law_round) (consM (varM 1) (nilM))))) (retS (retM (.bl false))) (nextM)) (fun ρ S => DrawOk d S ∧ ∃ o, ρ = [some (.lst (ns.map T.int)), some (.loc d), o]) (fun _ _ _ => trivial) ((List.range n).map fun i => T.int (0 + (i : Nat))) (ρ := [some (.lst (ns.map T.int)), some (.loc d), none]) (S := S2) ⟨g2.draw, none, rfl⟩ (fun t _ ρ S hI => by
    obtain ⟨hS, o, rfl⟩ := hI
    obtain ⟨Sa, ea, da⟩ := round_ok hS
    refine ⟨_, rfl, [some (.lst (ns.map T.int)), some (.loc d), some t], Sa, ?_, da, _, rfl⟩
    simp [gd_pos, ea])
  subst h3
  refine ⟨S3, run_ret ?_⟩
  show m_law [some (.lst (ns.map T.int)), none, none] S = _
  have q0 : p_law_0 [some (.lst (ns.map T.int)), none, none] S = .nx [some (.lst (ns.map T.int)), some (.loc d), none] S1 := by simp [p_law_0, gd_pos, e1]
  have q1 : p_law_1 [some (.lst (ns.map T.int)), some (.loc d), none] S1 = .nx [some (.lst (ns.map T.int)), some (.loc d), o3] S3 := by
    have a1 : consM (m2 addT (m2 addT (retM (.int 3)) (m1 (callF 2 L__law_pick) (consM (varM 1) (consM (retM (.int 4)) (nilM))))) (m2 fdivT (m1 (f1 lenT) (consM (varM 0) (nilM))) (retM (.int 4)))) nilM [some (.lst (ns.map T.int)), some (.loc d), none] S1 = .ok [T.int (n : Nat)] S2 := by
      simp [gd_pos, e2, fd, hnn]
    have a2 : m1 rng1T (consM (m2 addT (m2 addT (retM (.int 3)) (m1 (callF 2 L__law_pick) (consM (varM 1) (consM (retM (.int 4)) (nilM))))) (m2 fdivT (m1 (f1 lenT) (consM (varM 0) (nilM))) (retM (.int 4)))) nilM) [some (.lst (ns.map T.int)), some (.loc d), none] S1 = .ok ((List.range n).map fun i => T.int (0 + (i : Nat)), none) S2 := by
      rw [m1_eq, a1, R.bind_ok]
      exact rng_n n (by omega)
    rw [p_law_1, forM_eq, a2, R.bindS_ok]
    exact e3
  rw [m_law, seqM_eq, q0, RS.seq_nx, t_law_1, seqM_eq, q1, RS.seq_nx]
  simp [p_law_2]
end
end K5
end
section
set_option maxRecDepth 100000
set_option maxHeartbeats 2000000
namespace K5
open PySem PySem.Spec PyProof.Rows L2 TL L2H RL
open scoped RL.R RL.RS
theorem fn_bad {P : Program} {w : World} {K : W.Frag} {mg : Str → Option Value} {base : Heap} {CX' : CXT} {k n : Nat} {f : Addr} {fd : FuncData} {ps : List Str} (hn : ps.length = n) : FnOk P w K mg base CX' k f fd ps (spOf mg K n fun _ _ => .bad) :=
  ⟨fun vs H Q E h => by rw [hn]; exact spOf_len h, fun A outer s H args us vs Q E _ _ _ _ h => by
    obtain ⟨_, _, _, _, _, _, _, p⟩ := h
    exact p.elim⟩
theorem fnH_bad {P : Program} {w : World} {K : W.Frag} {mg : Str → Option Value} {base : Heap} {CX' : CXT} {k n : Nat} {f : Addr} {fd : FuncData} {ps : List Str} (hn : ps.length = n) : FnH P w K mg base CX' k f fd ps (spOf mg K n (calmF fun _ _ => .bad)) :=
  ⟨fun vs H Q E h => by rw [hn]; exact spOf_len h, fun A outer s H args us vs Q E p _ _ _ _ _ _ h => by
    obtain ⟨_, _, _, _, _, _, _, q⟩ := h
    exact q.elim⟩
def spLaw (K : W.Frag) : Sp := fun vs H Q _ => ∃ (a : Addr) (ns : List Int), vs = [.ref a] ∧ SqL K H a (ns.map V.int) ∧ ns.length ≤ 63 ∧ ∀ H', Q (.bl true) H'
theorem ints_relT {K : W.Frag} {μ π : List Addr} {H : Hp} : ∀ ns : List Int, RelTs K μ π H (ns.map T.int) (ns.map V.int)
  | [] => relTs_nil
  | _ :: ns => relTs_cons mkInt (ints_relT ns)
theorem sp_law {K : W.Frag} {mg : Str → Option Value} {vs : List V} {H : Hp} {Q : VK} {E : XK} (h : spLaw K vs H Q E) : spOf mg K 1 L_law vs H Q E := by
  obtain ⟨a, ns, rfl, q, hn, k⟩ := h
  obtain ⟨S', e⟩ := law_true ns hn []
  refine ⟨[.lst (ns.map T.int)], [], [], [], rfl, ⟨rfl, List.nodup_nil, fun n ts h => by simp at h, fun b hb => by cases hb⟩, ?_, ?_⟩
  · refine relTs_cons ?_ relTs_nil
    unfold RelT
    refine ⟨a, _, rfl, ?_, ints_relT ns⟩
    rcases q with q | q
    · exact .inl ⟨q, by simp, by simp⟩
    · exact .inr q
  · rw [e]
    intro v H' μ' _ _ r
    cases relT_bl r
    exact k H'
theorem passE {P : Program} {w : World} {l : List Env} {H : Hp} {s s' : Shared} {e : Value} (h : L2N.CX P w l H s (fun _ _ _ => False) e s') : False := by
  obtain ⟨_, _, _, _, _, _, _, _, _, _, _, _, z⟩ := h
  exact z.elim
theorem all_mk {P : Program} {w : World} {K : W.Frag} {h : Heap} {mg : Str → Option Value} (KX : K.In h) (G : h.Ns mainGlobals mg)
    {p_is_kind : Addr} {od_is_kind an_is_kind : Option Addr} {sl_is_kind : Array (Option Value)} {oc_is_kind kV_is_kind dc_is_kind pm_is_kind cd_is_kind ct_is_kind : Value}
    {p_letters_in : Addr} {od_letters_in an_letters_in : Option Addr} {sl_letters_in : Array (Option Value)} {oc_letters_in kV_letters_in dc_letters_in pm_letters_in cd_letters_in ct_letters_in : Value}
    {p_can_stand_patterntext : Addr} {od_can_stand_patterntext an_can_stand_patterntext : Option Addr} {sl_can_stand_patterntext : Array (Option Value)} {oc_can_stand_patterntext kV_can_stand_patterntext dc_can_stand_patterntext pm_can_stand_patterntext cd_can_stand_patterntext ct_can_stand_patterntext : Value}
    {p_read_item : Addr} {od_read_item an_read_item : Option Addr} {sl_read_item : Array (Option Value)} {oc_read_item kV_read_item dc_read_item pm_read_item cd_read_item ct_read_item : Value}
    {p_read_pattern : Addr} {od_read_pattern an_read_pattern : Option Addr} {sl_read_pattern : Array (Option Value)} {oc_read_pattern kV_read_pattern dc_read_pattern pm_read_pattern cd_read_pattern ct_read_pattern : Value}
    {p_can_go : Addr} {od_can_go an_can_go : Option Addr} {sl_can_go : Array (Option Value)} {oc_can_go kV_can_go dc_can_go pm_can_go cd_can_go ct_can_go : Value}
    {p_can_stand_deedtext : Addr} {od_can_stand_deedtext an_can_stand_deedtext : Option Addr} {sl_can_stand_deedtext : Array (Option Value)} {oc_can_stand_deedtext kV_can_stand_deedtext dc_can_stand_deedtext pm_can_stand_deedtext cd_can_stand_deedtext ct_can_stand_deedtext : Value}
    {p_read_deed : Addr} {od_read_deed an_read_deed : Option Addr} {sl_read_deed : Array (Option Value)} {oc_read_deed kV_read_deed dc_read_deed pm_read_deed cd_read_deed ct_read_deed : Value}
    {p__law_draw : Addr} {od__law_draw an__law_draw : Option Addr} {sl__law_draw : Array (Option Value)} {oc__law_draw kV__law_draw dc__law_draw pm__law_draw cd__law_draw ct__law_draw : Value}
    {p__law_mix : Addr} {od__law_mix an__law_mix : Option Addr} {sl__law_mix : Array (Option Value)} {oc__law_mix kV__law_mix dc__law_mix pm__law_mix cd__law_mix ct__law_mix : Value}
    {p__law_pick : Addr} {od__law_pick an__law_pick : Option Addr} {sl__law_pick : Array (Option Value)} {oc__law_pick kV__law_pick dc__law_pick pm__law_pick cd__law_pick ct__law_pick : Value}
    {p__law_step : Addr} {od__law_step an__law_step : Option Addr} {sl__law_step : Array (Option Value)} {oc__law_step kV__law_step dc__law_step pm__law_step cd__law_step ct__law_step : Value}
    {p__law_deed : Addr} {od__law_deed an__law_deed : Option Addr} {sl__law_deed : Array (Option Value)} {oc__law_deed kV__law_deed dc__law_deed pm__law_deed cd__law_deed ct__law_deed : Value}
    {p__law_is_int : Addr} {od__law_is_int an__law_is_int : Option Addr} {sl__law_is_int : Array (Option Value)} {oc__law_is_int kV__law_is_int dc__law_is_int pm__law_is_int cd__law_is_int ct__law_is_int : Value}
    {p__law_exact : Addr} {od__law_exact an__law_exact : Option Addr} {sl__law_exact : Array (Option Value)} {oc__law_exact kV__law_exact dc__law_exact pm__law_exact cd__law_exact ct__law_exact : Value}
    {p__law_deed_fault : Addr} {od__law_deed_fault an__law_deed_fault : Option Addr} {sl__law_deed_fault : Array (Option Value)} {oc__law_deed_fault kV__law_deed_fault dc__law_deed_fault pm__law_deed_fault cd__law_deed_fault ct__law_deed_fault : Value}
    {p__law_pattern_fault : Addr} {od__law_pattern_fault an__law_pattern_fault : Option Addr} {sl__law_pattern_fault : Array (Option Value)} {oc__law_pattern_fault kV__law_pattern_fault dc__law_pattern_fault pm__law_pattern_fault cd__law_pattern_fault ct__law_pattern_fault : Value}
    {p__law_deed_told : Addr} {od__law_deed_told an__law_deed_told : Option Addr} {sl__law_deed_told : Array (Option Value)} {oc__law_deed_told kV__law_deed_told dc__law_deed_told pm__law_deed_told cd__law_deed_told ct__law_deed_told : Value}
    {p__law_item_told : Addr} {od__law_item_told an__law_item_told : Option Addr} {sl__law_item_told : Array (Option Value)} {oc__law_item_told kV__law_item_told dc__law_item_told pm__law_item_told cd__law_item_told ct__law_item_told : Value}
    {p__law_pattern_told : Addr} {od__law_pattern_told an__law_pattern_told : Option Addr} {sl__law_pattern_told : Array (Option Value)} {oc__law_pattern_told kV__law_pattern_told dc__law_pattern_told pm__law_pattern_told cd__law_pattern_told ct__law_pattern_told : Value}
    {p__law_deed_text : Addr} {od__law_deed_text an__law_deed_text : Option Addr} {sl__law_deed_text : Array (Option Value)} {oc__law_deed_text kV__law_deed_text dc__law_deed_text pm__law_deed_text cd__law_deed_text ct__law_deed_text : Value}
    {p__law_item_text : Addr} {od__law_item_text an__law_item_text : Option Addr} {sl__law_item_text : Array (Option Value)} {oc__law_item_text kV__law_item_text dc__law_item_text pm__law_item_text cd__law_item_text ct__law_item_text : Value}
    {p__law_pattern_text : Addr} {od__law_pattern_text an__law_pattern_text : Option Addr} {sl__law_pattern_text : Array (Option Value)} {oc__law_pattern_text kV__law_pattern_text dc__law_pattern_text pm__law_pattern_text cd__law_pattern_text ct__law_pattern_text : Value}
    {p__law_some_pattern : Addr} {od__law_some_pattern an__law_some_pattern : Option Addr} {sl__law_some_pattern : Array (Option Value)} {oc__law_some_pattern kV__law_some_pattern dc__law_some_pattern pm__law_some_pattern cd__law_some_pattern ct__law_some_pattern : Value}
    {p__law_sign : Addr} {od__law_sign an__law_sign : Option Addr} {sl__law_sign : Array (Option Value)} {oc__law_sign kV__law_sign dc__law_sign pm__law_sign cd__law_sign ct__law_sign : Value}
    {p__law_spoilt : Addr} {od__law_spoilt an__law_spoilt : Option Addr} {sl__law_spoilt : Array (Option Value)} {oc__law_spoilt kV__law_spoilt dc__law_spoilt pm__law_spoilt cd__law_spoilt ct__law_spoilt : Value}
    {p__law_refusal : Addr} {od__law_refusal an__law_refusal : Option Addr} {sl__law_refusal : Array (Option Value)} {oc__law_refusal kV__law_refusal dc__law_refusal pm__law_refusal cd__law_refusal ct__law_refusal : Value}
    {p__law_deed_read : Addr} {od__law_deed_read an__law_deed_read : Option Addr} {sl__law_deed_read : Array (Option Value)} {oc__law_deed_read kV__law_deed_read dc__law_deed_read pm__law_deed_read cd__law_deed_read ct__law_deed_read : Value}
    {p__law_pattern_read : Addr} {od__law_pattern_read an__law_pattern_read : Option Addr} {sl__law_pattern_read : Array (Option Value)} {oc__law_pattern_read kV__law_pattern_read dc__law_pattern_read pm__law_pattern_read cd__law_pattern_read ct__law_pattern_read : Value}
    {p__law_both_read : Addr} {od__law_both_read an__law_both_read : Option Addr} {sl__law_both_read : Array (Option Value)} {oc__law_both_read kV__law_both_read dc__law_both_read pm__law_both_read cd__law_both_read ct__law_both_read : Value}
    {p__law_round : Addr} {od__law_round an__law_round : Option Addr} {sl__law_round : Array (Option Value)} {oc__law_round kV__law_round dc__law_round pm__law_round cd__law_round ct__law_round : Value}
    {p_law : Addr} {od_law an_law : Option Addr} {sl_law : Array (Option Value)} {oc_law kV_law dc_law pm_law cd_law ct_law : Value}
    {tk_ALL : Tok}
    {tk_ANY_WORD : Tok}
    {tk_EXCHANGE : Tok}
    {tk_IN_STEP : Tok}
    {tk_MOST_LETTERS : Tok}
    {tk_MOST_SIZE : Tok}
    {tk_MOST_STEPS : Tok}
    {tk_NO_ITEMS : Tok}
    {tk_NO_STEPS : Tok}
    {tk_NO_THING : Tok}
    {tk_PLACES : Tok}
    {p_BadText : Addr}
    {p_BadLine : Addr}
    {p_BadDeed : Addr}
    {p_BadPattern : Addr}
    {p_ShowError : Addr}
    {i_BadText : Addr} {nm_BadText : _} {qn_BadText : _} {cN_BadText : _} {bs_BadText : _} {bm_BadText : _} {sn_BadText : _} {sb_BadText : _} {ab_BadText : _} {col_BadText : _} {dd_BadText : _} {k0_BadText : _} {k1_BadText : _} {k2_BadText : _} {k3_BadText : _} {k5_BadText : _} {odi_BadText ani_BadText : Option Addr} {sli_BadText : Array (Option Value)} {oci_BadText kVi_BadText dci_BadText pmi_BadText cdi_BadText cti_BadText : Value}
    (a_is_kind : W.nsIn K mainGlobals "is_kind" = some (some (.ref p_is_kind)))
    (l_is_kind : K.lookup p_is_kind = some ⟨oc_is_kind, od_is_kind, .func (W.fnOf "is_kind" "is_kind" (defArgs s_is_kind) (defBody s_is_kind) (defScope s_is_kind) .none kV_is_kind dc_is_kind pm_is_kind an_is_kind cd_is_kind ct_is_kind), sl_is_kind⟩)
    (cc_is_kind : W.codeIn K cd_is_kind "is_kind" = true)
    (kk_is_kind : W.keepIn K (.ref p_is_kind) = true)
    (a_letters_in : W.nsIn K mainGlobals "letters_in" = some (some (.ref p_letters_in)))
    (l_letters_in : K.lookup p_letters_in = some ⟨oc_letters_in, od_letters_in, .func (W.fnOf "letters_in" "letters_in" (defArgs s_letters_in) (defBody s_letters_in) (defScope s_letters_in) .none kV_letters_in dc_letters_in pm_letters_in an_letters_in cd_letters_in ct_letters_in), sl_letters_in⟩)
    (cc_letters_in : W.codeIn K cd_letters_in "letters_in" = true)
    (kk_letters_in : W.keepIn K (.ref p_letters_in) = true)
    (a_can_stand_patterntext : W.nsIn K mainGlobals "can_stand_patterntext" = some (some (.ref p_can_stand_patterntext)))
    (l_can_stand_patterntext : K.lookup p_can_stand_patterntext = some ⟨oc_can_stand_patterntext, od_can_stand_patterntext, .func (W.fnOf "can_stand" "can_stand" (defArgs s_can_stand_patterntext) (defBody s_can_stand_patterntext) (defScope s_can_stand_patterntext) .none kV_can_stand_patterntext dc_can_stand_patterntext pm_can_stand_patterntext an_can_stand_patterntext cd_can_stand_patterntext ct_can_stand_patterntext), sl_can_stand_patterntext⟩)
    (cc_can_stand_patterntext : W.codeIn K cd_can_stand_patterntext "can_stand" = true)
    (kk_can_stand_patterntext : W.keepIn K (.ref p_can_stand_patterntext) = true)
    (a_read_item : W.nsIn K mainGlobals "read_item" = some (some (.ref p_read_item)))
    (l_read_item : K.lookup p_read_item = some ⟨oc_read_item, od_read_item, .func (W.fnOf "read_item" "read_item" (defArgs s_read_item) (defBody s_read_item) (defScope s_read_item) .none kV_read_item dc_read_item pm_read_item an_read_item cd_read_item ct_read_item), sl_read_item⟩)
    (cc_read_item : W.codeIn K cd_read_item "read_item" = true)
    (kk_read_item : W.keepIn K (.ref p_read_item) = true)
    (a_read_pattern : W.nsIn K mainGlobals "read_pattern" = some (some (.ref p_read_pattern)))
    (l_read_pattern : K.lookup p_read_pattern = some ⟨oc_read_pattern, od_read_pattern, .func (W.fnOf "read_pattern" "read_pattern" (defArgs s_read_pattern) (defBody s_read_pattern) (defScope s_read_pattern) .none kV_read_pattern dc_read_pattern pm_read_pattern an_read_pattern cd_read_pattern ct_read_pattern), sl_read_pattern⟩)
    (cc_read_pattern : W.codeIn K cd_read_pattern "read_pattern" = true)
    (kk_read_pattern : W.keepIn K (.ref p_read_pattern) = true)
    (a_can_go : W.nsIn K mainGlobals "can_go" = some (some (.ref p_can_go)))
    (l_can_go : K.lookup p_can_go = some ⟨oc_can_go, od_can_go, .func (W.fnOf "can_go" "can_go" (defArgs s_can_go) (defBody s_can_go) (defScope s_can_go) .none kV_can_go dc_can_go pm_can_go an_can_go cd_can_go ct_can_go), sl_can_go⟩)
    (cc_can_go : W.codeIn K cd_can_go "can_go" = true)
    (kk_can_go : W.keepIn K (.ref p_can_go) = true)
    (a_can_stand_deedtext : W.nsIn K mainGlobals "can_stand_deedtext" = some (some (.ref p_can_stand_deedtext)))
    (l_can_stand_deedtext : K.lookup p_can_stand_deedtext = some ⟨oc_can_stand_deedtext, od_can_stand_deedtext, .func (W.fnOf "can_stand" "can_stand" (defArgs s_can_stand_deedtext) (defBody s_can_stand_deedtext) (defScope s_can_stand_deedtext) .none kV_can_stand_deedtext dc_can_stand_deedtext pm_can_stand_deedtext an_can_stand_deedtext cd_can_stand_deedtext ct_can_stand_deedtext), sl_can_stand_deedtext⟩)
    (cc_can_stand_deedtext : W.codeIn K cd_can_stand_deedtext "can_stand" = true)
    (kk_can_stand_deedtext : W.keepIn K (.ref p_can_stand_deedtext) = true)
    (a_read_deed : W.nsIn K mainGlobals "read_deed" = some (some (.ref p_read_deed)))
    (l_read_deed : K.lookup p_read_deed = some ⟨oc_read_deed, od_read_deed, .func (W.fnOf "read_deed" "read_deed" (defArgs s_read_deed) (defBody s_read_deed) (defScope s_read_deed) .none kV_read_deed dc_read_deed pm_read_deed an_read_deed cd_read_deed ct_read_deed), sl_read_deed⟩)
    (cc_read_deed : W.codeIn K cd_read_deed "read_deed" = true)
    (kk_read_deed : W.keepIn K (.ref p_read_deed) = true)
    (a__law_draw : W.nsIn K mainGlobals "_law_draw" = some (some (.ref p__law_draw)))
    (l__law_draw : K.lookup p__law_draw = some ⟨oc__law_draw, od__law_draw, .func (W.fnOf "_law_draw" "_law_draw" (defArgs s__law_draw) (defBody s__law_draw) (defScope s__law_draw) .none kV__law_draw dc__law_draw pm__law_draw an__law_draw cd__law_draw ct__law_draw), sl__law_draw⟩)
    (cc__law_draw : W.codeIn K cd__law_draw "_law_draw" = true)
    (kk__law_draw : W.keepIn K (.ref p__law_draw) = true)
    (a__law_mix : W.nsIn K mainGlobals "_law_mix" = some (some (.ref p__law_mix)))
    (l__law_mix : K.lookup p__law_mix = some ⟨oc__law_mix, od__law_mix, .func (W.fnOf "_law_mix" "_law_mix" (defArgs s__law_mix) (defBody s__law_mix) (defScope s__law_mix) .none kV__law_mix dc__law_mix pm__law_mix an__law_mix cd__law_mix ct__law_mix), sl__law_mix⟩)
    (cc__law_mix : W.codeIn K cd__law_mix "_law_mix" = true)
    (kk__law_mix : W.keepIn K (.ref p__law_mix) = true)
    (a__law_pick : W.nsIn K mainGlobals "_law_pick" = some (some (.ref p__law_pick)))
    (l__law_pick : K.lookup p__law_pick = some ⟨oc__law_pick, od__law_pick, .func (W.fnOf "_law_pick" "_law_pick" (defArgs s__law_pick) (defBody s__law_pick) (defScope s__law_pick) .none kV__law_pick dc__law_pick pm__law_pick an__law_pick cd__law_pick ct__law_pick), sl__law_pick⟩)
    (cc__law_pick : W.codeIn K cd__law_pick "_law_pick" = true)
    (kk__law_pick : W.keepIn K (.ref p__law_pick) = true)
    (a__law_step : W.nsIn K mainGlobals "_law_step" = some (some (.ref p__law_step)))
    (l__law_step : K.lookup p__law_step = some ⟨oc__law_step, od__law_step, .func (W.fnOf "_law_step" "_law_step" (defArgs s__law_step) (defBody s__law_step) (defScope s__law_step) .none kV__law_step dc__law_step pm__law_step an__law_step cd__law_step ct__law_step), sl__law_step⟩)
    (cc__law_step : W.codeIn K cd__law_step "_law_step" = true)
    (kk__law_step : W.keepIn K (.ref p__law_step) = true)
    (a__law_deed : W.nsIn K mainGlobals "_law_deed" = some (some (.ref p__law_deed)))
    (l__law_deed : K.lookup p__law_deed = some ⟨oc__law_deed, od__law_deed, .func (W.fnOf "_law_deed" "_law_deed" (defArgs s__law_deed) (defBody s__law_deed) (defScope s__law_deed) .none kV__law_deed dc__law_deed pm__law_deed an__law_deed cd__law_deed ct__law_deed), sl__law_deed⟩)
    (cc__law_deed : W.codeIn K cd__law_deed "_law_deed" = true)
    (kk__law_deed : W.keepIn K (.ref p__law_deed) = true)
    (a__law_is_int : W.nsIn K mainGlobals "_law_is_int" = some (some (.ref p__law_is_int)))
    (l__law_is_int : K.lookup p__law_is_int = some ⟨oc__law_is_int, od__law_is_int, .func (W.fnOf "_law_is_int" "_law_is_int" (defArgs s__law_is_int) (defBody s__law_is_int) (defScope s__law_is_int) .none kV__law_is_int dc__law_is_int pm__law_is_int an__law_is_int cd__law_is_int ct__law_is_int), sl__law_is_int⟩)
    (cc__law_is_int : W.codeIn K cd__law_is_int "_law_is_int" = true)
    (kk__law_is_int : W.keepIn K (.ref p__law_is_int) = true)
    (a__law_exact : W.nsIn K mainGlobals "_law_exact" = some (some (.ref p__law_exact)))
    (l__law_exact : K.lookup p__law_exact = some ⟨oc__law_exact, od__law_exact, .func (W.fnOf "_law_exact" "_law_exact" (defArgs s__law_exact) (defBody s__law_exact) (defScope s__law_exact) .none kV__law_exact dc__law_exact pm__law_exact an__law_exact cd__law_exact ct__law_exact), sl__law_exact⟩)
    (cc__law_exact : W.codeIn K cd__law_exact "_law_exact" = true)
    (kk__law_exact : W.keepIn K (.ref p__law_exact) = true)
    (a__law_deed_fault : W.nsIn K mainGlobals "_law_deed_fault" = some (some (.ref p__law_deed_fault)))
    (l__law_deed_fault : K.lookup p__law_deed_fault = some ⟨oc__law_deed_fault, od__law_deed_fault, .func (W.fnOf "_law_deed_fault" "_law_deed_fault" (defArgs s__law_deed_fault) (defBody s__law_deed_fault) (defScope s__law_deed_fault) .none kV__law_deed_fault dc__law_deed_fault pm__law_deed_fault an__law_deed_fault cd__law_deed_fault ct__law_deed_fault), sl__law_deed_fault⟩)
    (cc__law_deed_fault : W.codeIn K cd__law_deed_fault "_law_deed_fault" = true)
    (kk__law_deed_fault : W.keepIn K (.ref p__law_deed_fault) = true)
    (a__law_pattern_fault : W.nsIn K mainGlobals "_law_pattern_fault" = some (some (.ref p__law_pattern_fault)))
    (l__law_pattern_fault : K.lookup p__law_pattern_fault = some ⟨oc__law_pattern_fault, od__law_pattern_fault, .func (W.fnOf "_law_pattern_fault" "_law_pattern_fault" (defArgs s__law_pattern_fault) (defBody s__law_pattern_fault) (defScope s__law_pattern_fault) .none kV__law_pattern_fault dc__law_pattern_fault pm__law_pattern_fault an__law_pattern_fault cd__law_pattern_fault ct__law_pattern_fault), sl__law_pattern_fault⟩)
    (cc__law_pattern_fault : W.codeIn K cd__law_pattern_fault "_law_pattern_fault" = true)
    (kk__law_pattern_fault : W.keepIn K (.ref p__law_pattern_fault) = true)
    (a__law_deed_told : W.nsIn K mainGlobals "_law_deed_told" = some (some (.ref p__law_deed_told)))
    (l__law_deed_told : K.lookup p__law_deed_told = some ⟨oc__law_deed_told, od__law_deed_told, .func (W.fnOf "_law_deed_told" "_law_deed_told" (defArgs s__law_deed_told) (defBody s__law_deed_told) (defScope s__law_deed_told) .none kV__law_deed_told dc__law_deed_told pm__law_deed_told an__law_deed_told cd__law_deed_told ct__law_deed_told), sl__law_deed_told⟩)
    (cc__law_deed_told : W.codeIn K cd__law_deed_told "_law_deed_told" = true)
    (kk__law_deed_told : W.keepIn K (.ref p__law_deed_told) = true)
    (a__law_item_told : W.nsIn K mainGlobals "_law_item_told" = some (some (.ref p__law_item_told)))
    (l__law_item_told : K.lookup p__law_item_told = some ⟨oc__law_item_told, od__law_item_told, .func (W.fnOf "_law_item_told" "_law_item_told" (defArgs s__law_item_told) (defBody s__law_item_told) (defScope s__law_item_told) .none kV__law_item_told dc__law_item_told pm__law_item_told an__law_item_told cd__law_item_told ct__law_item_told), sl__law_item_told⟩)
    (cc__law_item_told : W.codeIn K cd__law_item_told "_law_item_told" = true)
    (kk__law_item_told : W.keepIn K (.ref p__law_item_told) = true)
    (a__law_pattern_told : W.nsIn K mainGlobals "_law_pattern_told" = some (some (.ref p__law_pattern_told)))
    (l__law_pattern_told : K.lookup p__law_pattern_told = some ⟨oc__law_pattern_told, od__law_pattern_told, .func (W.fnOf "_law_pattern_told" "_law_pattern_told" (defArgs s__law_pattern_told) (defBody s__law_pattern_told) (defScope s__law_pattern_told) .none kV__law_pattern_told dc__law_pattern_told pm__law_pattern_told an__law_pattern_told cd__law_pattern_told ct__law_pattern_told), sl__law_pattern_told⟩)
    (cc__law_pattern_told : W.codeIn K cd__law_pattern_told "_law_pattern_told" = true)
    (kk__law_pattern_told : W.keepIn K (.ref p__law_pattern_told) = true)
    (a__law_deed_text : W.nsIn K mainGlobals "_law_deed_text" = some (some (.ref p__law_deed_text)))
    (l__law_deed_text : K.lookup p__law_deed_text = some ⟨oc__law_deed_text, od__law_deed_text, .func (W.fnOf "_law_deed_text" "_law_deed_text" (defArgs s__law_deed_text) (defBody s__law_deed_text) (defScope s__law_deed_text) .none kV__law_deed_text dc__law_deed_text pm__law_deed_text an__law_deed_text cd__law_deed_text ct__law_deed_text), sl__law_deed_text⟩)
    (cc__law_deed_text : W.codeIn K cd__law_deed_text "_law_deed_text" = true)
    (kk__law_deed_text : W.keepIn K (.ref p__law_deed_text) = true)
    (a__law_item_text : W.nsIn K mainGlobals "_law_item_text" = some (some (.ref p__law_item_text)))
    (l__law_item_text : K.lookup p__law_item_text = some ⟨oc__law_item_text, od__law_item_text, .func (W.fnOf "_law_item_text" "_law_item_text" (defArgs s__law_item_text) (defBody s__law_item_text) (defScope s__law_item_text) .none kV__law_item_text dc__law_item_text pm__law_item_text an__law_item_text cd__law_item_text ct__law_item_text), sl__law_item_text⟩)
    (cc__law_item_text : W.codeIn K cd__law_item_text "_law_item_text" = true)
    (kk__law_item_text : W.keepIn K (.ref p__law_item_text) = true)
    (a__law_pattern_text : W.nsIn K mainGlobals "_law_pattern_text" = some (some (.ref p__law_pattern_text)))
    (l__law_pattern_text : K.lookup p__law_pattern_text = some ⟨oc__law_pattern_text, od__law_pattern_text, .func (W.fnOf "_law_pattern_text" "_law_pattern_text" (defArgs s__law_pattern_text) (defBody s__law_pattern_text) (defScope s__law_pattern_text) .none kV__law_pattern_text dc__law_pattern_text pm__law_pattern_text an__law_pattern_text cd__law_pattern_text ct__law_pattern_text), sl__law_pattern_text⟩)
    (cc__law_pattern_text : W.codeIn K cd__law_pattern_text "_law_pattern_text" = true)
    (kk__law_pattern_text : W.keepIn K (.ref p__law_pattern_text) = true)
    (a__law_some_pattern : W.nsIn K mainGlobals "_law_some_pattern" = some (some (.ref p__law_some_pattern)))
    (l__law_some_pattern : K.lookup p__law_some_pattern = some ⟨oc__law_some_pattern, od__law_some_pattern, .func (W.fnOf "_law_some_pattern" "_law_some_pattern" (defArgs s__law_some_pattern) (defBody s__law_some_pattern) (defScope s__law_some_pattern) .none kV__law_some_pattern dc__law_some_pattern pm__law_some_pattern an__law_some_pattern cd__law_some_pattern ct__law_some_pattern), sl__law_some_pattern⟩)
    (cc__law_some_pattern : W.codeIn K cd__law_some_pattern "_law_some_pattern" = true)
    (kk__law_some_pattern : W.keepIn K (.ref p__law_some_pattern) = true)
    (a__law_sign : W.nsIn K mainGlobals "_law_sign" = some (some (.ref p__law_sign)))
    (l__law_sign : K.lookup p__law_sign = some ⟨oc__law_sign, od__law_sign, .func (W.fnOf "_law_sign" "_law_sign" (defArgs s__law_sign) (defBody s__law_sign) (defScope s__law_sign) .none kV__law_sign dc__law_sign pm__law_sign an__law_sign cd__law_sign ct__law_sign), sl__law_sign⟩)
    (cc__law_sign : W.codeIn K cd__law_sign "_law_sign" = true)
    (kk__law_sign : W.keepIn K (.ref p__law_sign) = true)
    (a__law_spoilt : W.nsIn K mainGlobals "_law_spoilt" = some (some (.ref p__law_spoilt)))
    (l__law_spoilt : K.lookup p__law_spoilt = some ⟨oc__law_spoilt, od__law_spoilt, .func (W.fnOf "_law_spoilt" "_law_spoilt" (defArgs s__law_spoilt) (defBody s__law_spoilt) (defScope s__law_spoilt) .none kV__law_spoilt dc__law_spoilt pm__law_spoilt an__law_spoilt cd__law_spoilt ct__law_spoilt), sl__law_spoilt⟩)
    (cc__law_spoilt : W.codeIn K cd__law_spoilt "_law_spoilt" = true)
    (kk__law_spoilt : W.keepIn K (.ref p__law_spoilt) = true)
    (a__law_refusal : W.nsIn K mainGlobals "_law_refusal" = some (some (.ref p__law_refusal)))
    (l__law_refusal : K.lookup p__law_refusal = some ⟨oc__law_refusal, od__law_refusal, .func (W.fnOf "_law_refusal" "_law_refusal" (defArgs s__law_refusal) (defBody s__law_refusal) (defScope s__law_refusal) .none kV__law_refusal dc__law_refusal pm__law_refusal an__law_refusal cd__law_refusal ct__law_refusal), sl__law_refusal⟩)
    (cc__law_refusal : W.codeIn K cd__law_refusal "_law_refusal" = true)
    (kk__law_refusal : W.keepIn K (.ref p__law_refusal) = true)
    (a__law_deed_read : W.nsIn K mainGlobals "_law_deed_read" = some (some (.ref p__law_deed_read)))
    (l__law_deed_read : K.lookup p__law_deed_read = some ⟨oc__law_deed_read, od__law_deed_read, .func (W.fnOf "_law_deed_read" "_law_deed_read" (defArgs s__law_deed_read) (defBody s__law_deed_read) (defScope s__law_deed_read) .none kV__law_deed_read dc__law_deed_read pm__law_deed_read an__law_deed_read cd__law_deed_read ct__law_deed_read), sl__law_deed_read⟩)
    (cc__law_deed_read : W.codeIn K cd__law_deed_read "_law_deed_read" = true)
    (kk__law_deed_read : W.keepIn K (.ref p__law_deed_read) = true)
    (a__law_pattern_read : W.nsIn K mainGlobals "_law_pattern_read" = some (some (.ref p__law_pattern_read)))
    (l__law_pattern_read : K.lookup p__law_pattern_read = some ⟨oc__law_pattern_read, od__law_pattern_read, .func (W.fnOf "_law_pattern_read" "_law_pattern_read" (defArgs s__law_pattern_read) (defBody s__law_pattern_read) (defScope s__law_pattern_read) .none kV__law_pattern_read dc__law_pattern_read pm__law_pattern_read an__law_pattern_read cd__law_pattern_read ct__law_pattern_read), sl__law_pattern_read⟩)
    (cc__law_pattern_read : W.codeIn K cd__law_pattern_read "_law_pattern_read" = true)
    (kk__law_pattern_read : W.keepIn K (.ref p__law_pattern_read) = true)
    (a__law_both_read : W.nsIn K mainGlobals "_law_both_read" = some (some (.ref p__law_both_read)))
    (l__law_both_read : K.lookup p__law_both_read = some ⟨oc__law_both_read, od__law_both_read, .func (W.fnOf "_law_both_read" "_law_both_read" (defArgs s__law_both_read) (defBody s__law_both_read) (defScope s__law_both_read) .none kV__law_both_read dc__law_both_read pm__law_both_read an__law_both_read cd__law_both_read ct__law_both_read), sl__law_both_read⟩)
    (cc__law_both_read : W.codeIn K cd__law_both_read "_law_both_read" = true)
    (kk__law_both_read : W.keepIn K (.ref p__law_both_read) = true)
    (a__law_round : W.nsIn K mainGlobals "_law_round" = some (some (.ref p__law_round)))
    (l__law_round : K.lookup p__law_round = some ⟨oc__law_round, od__law_round, .func (W.fnOf "_law_round" "_law_round" (defArgs s__law_round) (defBody s__law_round) (defScope s__law_round) .none kV__law_round dc__law_round pm__law_round an__law_round cd__law_round ct__law_round), sl__law_round⟩)
    (cc__law_round : W.codeIn K cd__law_round "_law_round" = true)
    (kk__law_round : W.keepIn K (.ref p__law_round) = true)
    (a_law : W.nsIn K mainGlobals "law" = some (some (.ref p_law)))
    (l_law : K.lookup p_law = some ⟨oc_law, od_law, .func (W.fnOf "law" "law" (defArgs s_law) (defBody s_law) (defScope s_law) .none kV_law dc_law pm_law an_law cd_law ct_law), sl_law⟩)
    (cc_law : W.codeIn K cd_law "law" = true)
    (kk_law : W.keepIn K (.ref p_law) = true)
    (nb_abs : W.nsIn K mainGlobals "abs" = some none)
    (nb_bool : W.nsIn K mainGlobals "bool" = some none)
    (nb_int : W.nsIn K mainGlobals "int" = some none)
    (nb_isinstance : W.nsIn K mainGlobals "isinstance" = some none)
    (nb_len : W.nsIn K mainGlobals "len" = some none)
    (nb_list : W.nsIn K mainGlobals "list" = some none)
    (nb_range : W.nsIn K mainGlobals "range" = some none)
    (nb_sorted : W.nsIn K mainGlobals "sorted" = some none)
    (nb_str : W.nsIn K mainGlobals "str" = some none)
    (nb_sum : W.nsIn K mainGlobals "sum" = some none)
    (nb_tuple : W.nsIn K mainGlobals "tuple" = some none)
    (nc_ALL : W.nsIn K mainGlobals "ALL" = some (some (.str ("*" : Str) tk_ALL)))
    (nc_ANY_WORD : W.nsIn K mainGlobals "ANY_WORD" = some (some (.str ("?" : Str) tk_ANY_WORD)))
    (nc_EXCHANGE : W.nsIn K mainGlobals "EXCHANGE" = some (some (.str ("~" : Str) tk_EXCHANGE)))
    (nc_IN_STEP : W.nsIn K mainGlobals "IN_STEP" = some (some (.int 3 tk_IN_STEP)))
    (nc_MOST_LETTERS : W.nsIn K mainGlobals "MOST_LETTERS" = some (some (.int 8 tk_MOST_LETTERS)))
    (nc_MOST_SIZE : W.nsIn K mainGlobals "MOST_SIZE" = some (some (.int 6 tk_MOST_SIZE)))
    (nc_MOST_STEPS : W.nsIn K mainGlobals "MOST_STEPS" = some (some (.int 3 tk_MOST_STEPS)))
    (nc_NO_ITEMS : W.nsIn K mainGlobals "NO_ITEMS" = some (some (.str ("." : Str) tk_NO_ITEMS)))
    (nc_NO_STEPS : W.nsIn K mainGlobals "NO_STEPS" = some (some (.str ("-" : Str) tk_NO_STEPS)))
    (nc_NO_THING : W.nsIn K mainGlobals "NO_THING" = some (some (.str ("-" : Str) tk_NO_THING)))
    (nc_PLACES : W.nsIn K mainGlobals "PLACES" = some (some (.str ("012345" : Str) tk_PLACES)))
    (a_BadText : W.nsIn K mainGlobals "BadText" = some (some (.ref p_BadText)))
    (a_BadLine : W.nsIn K mainGlobals "BadLine" = some (some (.ref p_BadLine)))
    (a_BadDeed : W.nsIn K mainGlobals "BadDeed" = some (some (.ref p_BadDeed)))
    (a_BadPattern : W.nsIn K mainGlobals "BadPattern" = some (some (.ref p_BadPattern)))
    (a_ShowError : W.nsIn K mainGlobals "ShowError" = some (some (.ref p_ShowError)))
    (lk_BadText : K.lookup p_BadText = some (excClassObj nm_BadText qn_BadText p_BadText cN_BadText bs_BadText bm_BadText true sn_BadText sb_BadText ab_BadText col_BadText dd_BadText k0_BadText k1_BadText k2_BadText k3_BadText k5_BadText "ValueError.__new__"))
    (rv_BadText : HandSPX.refsVE bm_BadText = true)
    (sa_BadText : W.findIn K (.ref p_BadText) "__setattr__" = some (some (.builtin "object.__setattr__")))
    (ex_BadText : W.subIn K (.ref p_BadText) (.type "BaseException") = some true)
    (ty_BadText : W.typeIn K (.ref p_BadText) = some (.type "type"))
    (kc_BadText : W.keepIn K (.ref p_BadText) = true)
    (nf_BadText : W.findIn K (.ref p_BadText) "at" = some none)
    (in_BadText : W.findIn K (.ref p_BadText) "__init__" = some (some (.ref i_BadText)))
    (ti_BadText : W.typeIn K (.ref i_BadText) = some (.type "function"))
    (li_BadText : K.lookup i_BadText = some ⟨oci_BadText, odi_BadText, .func (W.fnOf "__init__" "BadText.__init__" (defArgs (inClass (top 3) 0)) (defBody (inClass (top 3) 0)) (defScope (inClass (top 3) 0)) .none kVi_BadText dci_BadText pmi_BadText ani_BadText cdi_BadText cti_BadText), sli_BadText⟩)
    (ci_BadText : W.codeIn K cdi_BadText "BadText.__init__" = true)
    (ki_BadText : W.keepIn K (.ref i_BadText) = true)
    (xg : W.findIn K (.ref p_BadText) "__getattribute__" = some (some (.builtin "BaseException.__getattribute__")))
    (xk : W.findIn K (.ref p_BadText) "__getattr__" = some none)
    (xd : W.hasDictIn K p_BadText = true)
    (xa : W.findIn K (.ref p_BadText) "__class__" = some (some (.builtin "object.__class__")))
    (xn : W.specialIn K (.builtin "object.__class__") "__get__" = some (some (.builtin "getset_descriptor.__get__")))
    (xt : W.takesIn K (.builtin "object.__class__") = some true)
    (xm : W.mroIn K p_BadText (.type "object") = some true)
    (nb_ValueError : W.nsIn K mainGlobals "ValueError" = some none)
    (ko_BadText : W.kitOne K (.ref p_BadText) (.ref p_BadText) = some true)
    (ko_BadLine : W.kitOne K (.ref p_BadText) (.ref p_BadLine) = some false)
    (ko_BadDeed : W.kitOne K (.ref p_BadText) (.ref p_BadDeed) = some false)
    (ko_BadPattern : W.kitOne K (.ref p_BadText) (.ref p_BadPattern) = some false)
    (ko_VE : W.kitOne K (.ref p_BadText) (.type "ValueError") = some true)
    (sE : W.subIn K (.ref p_ShowError) (.type "BaseException") = some true)
    (sd : W.hasDictIn K p_ShowError = true)
    (sty : W.typeIn K (.ref p_ShowError) = some (.type "type"))
    (ss : W.subIn K (.ref p_BadText) (.ref p_ShowError) = some true) {fa : Addr} (hfa : mg "law" = some (.ref fa)) :
    ∃ (fd : FuncData), (∀ (s : Shared) (v : Value), BindsTo s fd ⟨[v], []⟩ [("_law_script", v)]) ∧ ∀ base : Heap, K.In base → base.Ns mainGlobals mg → FnOk P w K mg base (L2N.CX P w) 8 fa fd ["_law_script"] (spLaw K) := by
  have b_abs : mg "abs" = none := W.mg_none_of KX G nb_abs
  have b_bool : mg "bool" = none := W.mg_none_of KX G nb_bool
  have b_int : mg "int" = none := W.mg_none_of KX G nb_int
  have b_isinstance : mg "isinstance" = none := W.mg_none_of KX G nb_isinstance
  have b_len : mg "len" = none := W.mg_none_of KX G nb_len
  have b_list : mg "list" = none := W.mg_none_of KX G nb_list
  have b_range : mg "range" = none := W.mg_none_of KX G nb_range
  have b_sorted : mg "sorted" = none := W.mg_none_of KX G nb_sorted
  have b_str : mg "str" = none := W.mg_none_of KX G nb_str
  have b_sum : mg "sum" = none := W.mg_none_of KX G nb_sum
  have b_tuple : mg "tuple" = none := W.mg_none_of KX G nb_tuple
  have g_ALL : ∃ u, mg "ALL" = some u ∧ RelV (.str ("*" : Str)) u := ⟨_, W.mg_of KX G nc_ALL, _, rfl⟩
  have g_ANY_WORD : ∃ u, mg "ANY_WORD" = some u ∧ RelV (.str ("?" : Str)) u := ⟨_, W.mg_of KX G nc_ANY_WORD, _, rfl⟩
  have g_EXCHANGE : ∃ u, mg "EXCHANGE" = some u ∧ RelV (.str ("~" : Str)) u := ⟨_, W.mg_of KX G nc_EXCHANGE, _, rfl⟩
  have g_IN_STEP : ∃ u, mg "IN_STEP" = some u ∧ RelV (.int 3) u := ⟨_, W.mg_of KX G nc_IN_STEP, _, rfl⟩
  have g_MOST_LETTERS : ∃ u, mg "MOST_LETTERS" = some u ∧ RelV (.int 8) u := ⟨_, W.mg_of KX G nc_MOST_LETTERS, _, rfl⟩
  have g_MOST_SIZE : ∃ u, mg "MOST_SIZE" = some u ∧ RelV (.int 6) u := ⟨_, W.mg_of KX G nc_MOST_SIZE, _, rfl⟩
  have g_MOST_STEPS : ∃ u, mg "MOST_STEPS" = some u ∧ RelV (.int 3) u := ⟨_, W.mg_of KX G nc_MOST_STEPS, _, rfl⟩
  have g_NO_ITEMS : ∃ u, mg "NO_ITEMS" = some u ∧ RelV (.str ("." : Str)) u := ⟨_, W.mg_of KX G nc_NO_ITEMS, _, rfl⟩
  have g_NO_STEPS : ∃ u, mg "NO_STEPS" = some u ∧ RelV (.str ("-" : Str)) u := ⟨_, W.mg_of KX G nc_NO_STEPS, _, rfl⟩
  have g_NO_THING : ∃ u, mg "NO_THING" = some u ∧ RelV (.str ("-" : Str)) u := ⟨_, W.mg_of KX G nc_NO_THING, _, rfl⟩
  have g_PLACES : ∃ u, mg "PLACES" = some u ∧ RelV (.str ("012345" : Str)) u := ⟨_, W.mg_of KX G nc_PLACES, _, rfl⟩
  have F_is_kind := fun_mk (st := s_is_kind) l_is_kind cc_is_kind kk_is_kind
  have B_is_kind := F_is_kind.binds (ps := ["thing"]) fun _ _ _ _ _ _ us hl => match us, hl with | [_], _ => rfl
  have M_is_kind := W.mg_of KX G a_is_kind
  have F_letters_in := fun_mk (st := s_letters_in) l_letters_in cc_letters_in kk_letters_in
  have B_letters_in := F_letters_in.binds (ps := ["text"]) fun _ _ _ _ _ _ us hl => match us, hl with | [_], _ => rfl
  have M_letters_in := W.mg_of KX G a_letters_in
  have F_can_stand_patterntext := fun_mk (st := s_can_stand_patterntext) l_can_stand_patterntext cc_can_stand_patterntext kk_can_stand_patterntext
  have B_can_stand_patterntext := F_can_stand_patterntext.binds (ps := ["text", "at"]) fun _ _ _ _ _ _ us hl => match us, hl with | [_, _], _ => rfl
  have M_can_stand_patterntext := W.mg_of KX G a_can_stand_patterntext
  have F_read_item := fun_mk (st := s_read_item) l_read_item cc_read_item kk_read_item
  have B_read_item := F_read_item.binds (ps := ["text"]) fun _ _ _ _ _ _ us hl => match us, hl with | [_], _ => rfl
  have M_read_item := W.mg_of KX G a_read_item
  have F_read_pattern := fun_mk (st := s_read_pattern) l_read_pattern cc_read_pattern kk_read_pattern
  have B_read_pattern := F_read_pattern.binds (ps := ["text"]) fun _ _ _ _ _ _ us hl => match us, hl with | [_], _ => rfl
  have M_read_pattern := W.mg_of KX G a_read_pattern
  have F_can_go := fun_mk (st := s_can_go) l_can_go cc_can_go kk_can_go
  have B_can_go := F_can_go.binds (ps := ["thing"]) fun _ _ _ _ _ _ us hl => match us, hl with | [_], _ => rfl
  have M_can_go := W.mg_of KX G a_can_go
  have F_can_stand_deedtext := fun_mk (st := s_can_stand_deedtext) l_can_stand_deedtext cc_can_stand_deedtext kk_can_stand_deedtext
  have B_can_stand_deedtext := F_can_stand_deedtext.binds (ps := ["text", "at"]) fun _ _ _ _ _ _ us hl => match us, hl with | [_, _], _ => rfl
  have M_can_stand_deedtext := W.mg_of KX G a_can_stand_deedtext
  have F_read_deed := fun_mk (st := s_read_deed) l_read_deed cc_read_deed kk_read_deed
  have B_read_deed := F_read_deed.binds (ps := ["text"]) fun _ _ _ _ _ _ us hl => match us, hl with | [_], _ => rfl
  have M_read_deed := W.mg_of KX G a_read_deed
  have F__law_draw := fun_mk (st := s__law_draw) l__law_draw cc__law_draw kk__law_draw
  have B__law_draw := F__law_draw.binds (ps := ["_law_script"]) fun _ _ _ _ _ _ us hl => match us, hl with | [_], _ => rfl
  have M__law_draw := W.mg_of KX G a__law_draw
  have F__law_mix := fun_mk (st := s__law_mix) l__law_mix cc__law_mix kk__law_mix
  have B__law_mix := F__law_mix.binds (ps := ["_law_cell", "_law_turn"]) fun _ _ _ _ _ _ us hl => match us, hl with | [_, _], _ => rfl
  have M__law_mix := W.mg_of KX G a__law_mix
  have F__law_pick := fun_mk (st := s__law_pick) l__law_pick cc__law_pick kk__law_pick
  have B__law_pick := F__law_pick.binds (ps := ["_law_draw_here", "_law_many"]) fun _ _ _ _ _ _ us hl => match us, hl with | [_, _], _ => rfl
  have M__law_pick := W.mg_of KX G a__law_pick
  have F__law_step := fun_mk (st := s__law_step) l__law_step cc__law_step kk__law_step
  have B__law_step := F__law_step.binds (ps := ["_law_draw_here", "_law_size", "_law_kinds"]) fun _ _ _ _ _ _ us hl => match us, hl with | [_, _, _], _ => rfl
  have M__law_step := W.mg_of KX G a__law_step
  have F__law_deed := fun_mk (st := s__law_deed) l__law_deed cc__law_deed kk__law_deed
  have B__law_deed := F__law_deed.binds (ps := ["_law_draw_here", "_law_size", "_law_kinds", "_law_cap"]) fun _ _ _ _ _ _ us hl => match us, hl with | [_, _, _, _], _ => rfl
  have M__law_deed := W.mg_of KX G a__law_deed
  have F__law_is_int := fun_mk (st := s__law_is_int) l__law_is_int cc__law_is_int kk__law_is_int
  have B__law_is_int := F__law_is_int.binds (ps := ["_law_thing"]) fun _ _ _ _ _ _ us hl => match us, hl with | [_], _ => rfl
  have M__law_is_int := W.mg_of KX G a__law_is_int
  have F__law_exact := fun_mk (st := s__law_exact) l__law_exact cc__law_exact kk__law_exact
  have B__law_exact := F__law_exact.binds (ps := ["_law_told", "_law_due"]) fun _ _ _ _ _ _ us hl => match us, hl with | [_, _], _ => rfl
  have M__law_exact := W.mg_of KX G a__law_exact
  have F__law_deed_fault := fun_mk (st := s__law_deed_fault) l__law_deed_fault cc__law_deed_fault kk__law_deed_fault
  have B__law_deed_fault := F__law_deed_fault.binds (ps := ["_law_text"]) fun _ _ _ _ _ _ us hl => match us, hl with | [_], _ => rfl
  have M__law_deed_fault := W.mg_of KX G a__law_deed_fault
  have F__law_pattern_fault := fun_mk (st := s__law_pattern_fault) l__law_pattern_fault cc__law_pattern_fault kk__law_pattern_fault
  have B__law_pattern_fault := F__law_pattern_fault.binds (ps := ["_law_text"]) fun _ _ _ _ _ _ us hl => match us, hl with | [_], _ => rfl
  have M__law_pattern_fault := W.mg_of KX G a__law_pattern_fault
  have F__law_deed_told := fun_mk (st := s__law_deed_told) l__law_deed_told cc__law_deed_told kk__law_deed_told
  have B__law_deed_told := F__law_deed_told.binds (ps := ["_law_text"]) fun _ _ _ _ _ _ us hl => match us, hl with | [_], _ => rfl
  have M__law_deed_told := W.mg_of KX G a__law_deed_told
  have F__law_item_told := fun_mk (st := s__law_item_told) l__law_item_told cc__law_item_told kk__law_item_told
  have B__law_item_told := F__law_item_told.binds (ps := ["_law_word"]) fun _ _ _ _ _ _ us hl => match us, hl with | [_], _ => rfl
  have M__law_item_told := W.mg_of KX G a__law_item_told
  have F__law_pattern_told := fun_mk (st := s__law_pattern_told) l__law_pattern_told cc__law_pattern_told kk__law_pattern_told
  have B__law_pattern_told := F__law_pattern_told.binds (ps := ["_law_text"]) fun _ _ _ _ _ _ us hl => match us, hl with | [_], _ => rfl
  have M__law_pattern_told := W.mg_of KX G a__law_pattern_told
  have F__law_deed_text := fun_mk (st := s__law_deed_text) l__law_deed_text cc__law_deed_text kk__law_deed_text
  have B__law_deed_text := F__law_deed_text.binds (ps := ["_law_deed_here"]) fun _ _ _ _ _ _ us hl => match us, hl with | [_], _ => rfl
  have M__law_deed_text := W.mg_of KX G a__law_deed_text
  have F__law_item_text := fun_mk (st := s__law_item_text) l__law_item_text cc__law_item_text kk__law_item_text
  have B__law_item_text := F__law_item_text.binds (ps := ["_law_item"]) fun _ _ _ _ _ _ us hl => match us, hl with | [_], _ => rfl
  have M__law_item_text := W.mg_of KX G a__law_item_text
  have F__law_pattern_text := fun_mk (st := s__law_pattern_text) l__law_pattern_text cc__law_pattern_text kk__law_pattern_text
  have B__law_pattern_text := F__law_pattern_text.binds (ps := ["_law_pattern"]) fun _ _ _ _ _ _ us hl => match us, hl with | [_], _ => rfl
  have M__law_pattern_text := W.mg_of KX G a__law_pattern_text
  have F__law_some_pattern := fun_mk (st := s__law_some_pattern) l__law_some_pattern cc__law_some_pattern kk__law_some_pattern
  have B__law_some_pattern := F__law_some_pattern.binds (ps := ["_law_draw_here"]) fun _ _ _ _ _ _ us hl => match us, hl with | [_], _ => rfl
  have M__law_some_pattern := W.mg_of KX G a__law_some_pattern
  have F__law_sign := fun_mk (st := s__law_sign) l__law_sign cc__law_sign kk__law_sign
  have B__law_sign := F__law_sign.binds (ps := ["_law_draw_here"]) fun _ _ _ _ _ _ us hl => match us, hl with | [_], _ => rfl
  have M__law_sign := W.mg_of KX G a__law_sign
  have F__law_spoilt := fun_mk (st := s__law_spoilt) l__law_spoilt cc__law_spoilt kk__law_spoilt
  have B__law_spoilt := F__law_spoilt.binds (ps := ["_law_draw_here", "_law_text"]) fun _ _ _ _ _ _ us hl => match us, hl with | [_, _], _ => rfl
  have M__law_spoilt := W.mg_of KX G a__law_spoilt
  have F__law_refusal := fun_mk (st := s__law_refusal) l__law_refusal cc__law_refusal kk__law_refusal
  have B__law_refusal := F__law_refusal.binds (ps := ["_law_e"]) fun _ _ _ _ _ _ us hl => match us, hl with | [_], _ => rfl
  have M__law_refusal := W.mg_of KX G a__law_refusal
  have F__law_deed_read := fun_mk (st := s__law_deed_read) l__law_deed_read cc__law_deed_read kk__law_deed_read
  have B__law_deed_read := F__law_deed_read.binds (ps := ["_law_text", "_law_fault"]) fun _ _ _ _ _ _ us hl => match us, hl with | [_, _], _ => rfl
  have M__law_deed_read := W.mg_of KX G a__law_deed_read
  have F__law_pattern_read := fun_mk (st := s__law_pattern_read) l__law_pattern_read cc__law_pattern_read kk__law_pattern_read
  have B__law_pattern_read := F__law_pattern_read.binds (ps := ["_law_text", "_law_fault"]) fun _ _ _ _ _ _ us hl => match us, hl with | [_, _], _ => rfl
  have M__law_pattern_read := W.mg_of KX G a__law_pattern_read
  have F__law_both_read := fun_mk (st := s__law_both_read) l__law_both_read cc__law_both_read kk__law_both_read
  have B__law_both_read := F__law_both_read.binds (ps := ["_law_text"]) fun _ _ _ _ _ _ us hl => match us, hl with | [_], _ => rfl
  have M__law_both_read := W.mg_of KX G a__law_both_read
  have F__law_round := fun_mk (st := s__law_round) l__law_round cc__law_round kk__law_round
  have B__law_round := F__law_round.binds (ps := ["_law_draw_here"]) fun _ _ _ _ _ _ us hl => match us, hl with | [_], _ => rfl
  have M__law_round := W.mg_of KX G a__law_round
  have F_law := fun_mk (st := s_law) l_law cc_law kk_law
  have B_law := F_law.binds (ps := ["_law_script"]) fun _ _ _ _ _ _ us hl => match us, hl with | [_], _ => rfl
  have M_law := W.mg_of KX G a_law
  have e0 : fa = p_law := by rw [M_law] at hfa; cases hfa; rfl
  subst e0
  refine ⟨W.fnOf "law" "law" (defArgs s_law) (defBody s_law) (defScope s_law) .none kV_law dc_law pm_law an_law cd_law ct_law, fun s v => .of_eq rfl, fun base _ _ => ?_⟩
  have M_BadText := W.mg_of KX G a_BadText
  have M_BadLine := W.mg_of KX G a_BadLine
  have M_BadDeed := W.mg_of KX G a_BadDeed
  have M_BadPattern := W.mg_of KX G a_BadPattern
  have M_ShowError := W.mg_of KX G a_ShowError
  have b_ValueError : mg "ValueError" = none := W.mg_none_of KX G nb_ValueError
  have Fi_BadText := fun_mk (st := (inClass (top 3) 0)) li_BadText ci_BadText ki_BadText
  have Bi_BadText := Fi_BadText.binds (ps := ["self", "at"]) fun _ _ _ _ _ _ us hl => match us, hl with | [_, _], _ => rfl
  have e_BadText : ErrC P w K mg base "BadText" "at" := ⟨p_BadText, i_BadText, _, _, M_BadText, ⟨⟨_, _, _, _, _, _, _, _, _, _, _, _, _, _, _, lk_BadText, rv_BadText⟩, sa_BadText, ex_BadText, ty_BadText, kc_BadText⟩, nf_BadText, in_BadText, ti_BadText, init_ok (p5 := ⟨0, 0, 0, 0⟩) Fi_BadText ⟨rfl, rfl, rfl, by decide +kernel, rfl, by decide +kernel, by decide +kernel⟩ rfl rfl rfl (by decide) (by decide) (by decide) (by decide), Bi_BadText⟩
  have XC : ExcC K p_BadText := ⟨xg, xk, ex_BadText, xd, xa, xn, xt, xm⟩
  have EK : ExnK K mg subs flds := ⟨(fun c x b h => by
    unfold subs at h
    split at h
    · rename_i hc
      subst hc
      refine ⟨p_BadText, M_BadText, XC, ?_⟩
      split at h
      · rename_i hx
        cases h
        rcases hx with rfl | rfl
        · exact .inl ⟨p_BadText, M_BadText, ko_BadText⟩
        · exact .inr ⟨b_ValueError, by decide, "ValueError", by decide +kernel, ko_VE⟩
      · split at h
        · rename_i hx
          cases h
          rcases hx with rfl | rfl | rfl
          · exact .inl ⟨_, M_BadLine, ko_BadLine⟩
          · exact .inl ⟨_, M_BadDeed, ko_BadDeed⟩
          · exact .inl ⟨_, M_BadPattern, ko_BadPattern⟩
        · cases h
    · cases h), (fun c f h => by
    obtain ⟨rfl, rfl⟩ := of_decide_eq_true h
    exact ⟨p_BadText, M_BadText, ⟨xg, xk, ex_BadText, xd⟩, nf_BadText⟩)⟩
  have n_ShowError : mg "ShowError" = some (.ref p_ShowError) ∨ (mg "ShowError" = none ∧ bootBuiltins "ShowError" = some (.ref p_ShowError) ∧ ("ShowError" : Str) ≠ "__name__") := .inl M_ShowError
  have k_ShowError : ∀ c b C, catches_ShowError c = some b → mg c = some (.ref C) → W.exmOne K (.ref C) (.ref p_ShowError) = some b := fun c b C h hm => by
    unfold catches_ShowError at h
    split at h
    · rename_i hc
      subst hc
      cases h
      rw [M_BadText] at hm
      cases hm
      exact W.exm_ref sE sd sty ss
    · cases h
  have c_is_kind : CalM P w K mg base 1 "is_kind" 1 L_is_kind := ⟨_, _, _, f_is_kind F_is_kind b_isinstance b_len b_str, M_is_kind, kk_is_kind, B_is_kind⟩
  have c_letters_in : CalM P w K mg base 2 "letters_in" 1 L_letters_in := ⟨_, _, _, f_letters_in F_letters_in b_len c_is_kind, M_letters_in, kk_letters_in, B_letters_in⟩
  have c_can_stand_patterntext : CalM P w K mg base 3 "can_stand_patterntext" 2 L_can_stand_patterntext := ⟨_, _, _, f_can_stand_patterntext F_can_stand_patterntext g_ANY_WORD g_MOST_LETTERS g_MOST_SIZE g_NO_THING c_is_kind c_letters_in, M_can_stand_patterntext, kk_can_stand_patterntext, B_can_stand_patterntext⟩
  have c_read_item : CalM P w K mg base 1 "read_item" 1 L_read_item := ⟨_, _, _, f_read_item F_read_item g_ANY_WORD g_NO_THING, M_read_item, kk_read_item, B_read_item⟩
  have c_read_pattern : CalM P w K mg base 4 "read_pattern" 1 L_read_pattern := ⟨_, _, _, f_read_pattern F_read_pattern b_isinstance b_len b_range b_str b_tuple g_NO_ITEMS e_BadText c_can_stand_patterntext c_read_item, M_read_pattern, kk_read_pattern, B_read_pattern⟩
  have c_can_go : CalM P w K mg base 2 "can_go" 1 L_can_go := ⟨_, _, _, f_can_go F_can_go b_isinstance b_str g_ALL g_EXCHANGE c_is_kind, M_can_go, kk_can_go, B_can_go⟩
  have c_can_stand_deedtext : CalM P w K mg base 3 "can_stand_deedtext" 2 L_can_stand_deedtext := ⟨_, _, _, f_can_stand_deedtext F_can_stand_deedtext g_IN_STEP g_MOST_STEPS g_PLACES c_can_go, M_can_stand_deedtext, kk_can_stand_deedtext, B_can_stand_deedtext⟩
  have c_read_deed : CalM P w K mg base 4 "read_deed" 1 L_read_deed := ⟨_, _, _, f_read_deed F_read_deed b_int b_isinstance b_len b_range b_str b_tuple g_IN_STEP g_NO_STEPS e_BadText c_can_stand_deedtext, M_read_deed, kk_read_deed, B_read_deed⟩
  have c__law_draw : CalM P w K mg base 1 "_law_draw" 1 L__law_draw := ⟨_, _, _, f__law_draw F__law_draw b_int b_len b_sum, M__law_draw, kk__law_draw, B__law_draw⟩
  have c__law_mix : CalM P w K mg base 1 "_law_mix" 2 L__law_mix := ⟨_, _, _, f__law_mix F__law_mix b_int, M__law_mix, kk__law_mix, B__law_mix⟩
  have c__law_pick : CalM P w K mg base 2 "_law_pick" 2 L__law_pick := ⟨_, _, _, f__law_pick F__law_pick b_abs b_int b_len c__law_mix, M__law_pick, kk__law_pick, B__law_pick⟩
  have c__law_step : CalM P w K mg base 3 "_law_step" 3 L__law_step := ⟨_, _, _, f__law_step F__law_step b_int b_len c__law_pick, M__law_step, kk__law_step, B__law_step⟩
  have c__law_deed : CalM P w K mg base 4 "_law_deed" 4 L__law_deed := ⟨_, _, _, f__law_deed F__law_deed b_range b_tuple c__law_pick c__law_step, M__law_deed, kk__law_deed, B__law_deed⟩
  have c__law_is_int : CalM P w K mg base 1 "_law_is_int" 1 L__law_is_int := ⟨_, _, _, f__law_is_int F__law_is_int b_bool b_int b_isinstance, M__law_is_int, kk__law_is_int, B__law_is_int⟩
  have h__law_is_int : CalH P w K mg base 1 "_law_is_int" 1 L__law_is_int := ⟨_, _, _, fh__law_is_int F__law_is_int b_bool b_int b_isinstance, M__law_is_int, kk__law_is_int, B__law_is_int⟩
  have r__law_exact : ∀ n, CalM P w K mg base (n + 1) "_law_exact" 2 (L__law_exact n) := fun n => by
    induction n with
    | zero => exact ⟨_, _, _, fn_bad (ps := ["_law_told", "_law_due"]) rfl, M__law_exact, kk__law_exact, B__law_exact⟩
    | succ n ih => exact ⟨_, _, _, f__law_exact (kk := n) (L__law_exact n) L__law_is_int F__law_exact b_bool b_isinstance b_len b_list b_range b_str b_tuple ih c__law_is_int, M__law_exact, kk__law_exact, B__law_exact⟩
  have c__law_exact := r__law_exact 3
  have rh__law_exact : ∀ n, CalH P w K mg base (n + 1) "_law_exact" 2 (H__law_exact n) := fun n => by
    induction n with
    | zero => exact ⟨_, _, _, fnH_bad (ps := ["_law_told", "_law_due"]) rfl, M__law_exact, kk__law_exact, B__law_exact⟩
    | succ n ih => exact ⟨_, _, _, fh__law_exact (kk := n) (H__law_exact n) L__law_is_int F__law_exact b_bool b_isinstance b_len b_list b_range b_str b_tuple ih h__law_is_int, M__law_exact, kk__law_exact, B__law_exact⟩
  have h__law_exact := rh__law_exact 3
  have c__law_deed_fault : CalM P w K mg base 1 "_law_deed_fault" 1 L__law_deed_fault := ⟨_, _, _, f__law_deed_fault F__law_deed_fault b_int b_len b_range, M__law_deed_fault, kk__law_deed_fault, B__law_deed_fault⟩
  have c__law_pattern_fault : CalM P w K mg base 1 "_law_pattern_fault" 1 L__law_pattern_fault := ⟨_, _, _, f__law_pattern_fault F__law_pattern_fault b_int b_len b_range, M__law_pattern_fault, kk__law_pattern_fault, B__law_pattern_fault⟩
  have c__law_deed_told : CalM P w K mg base 1 "_law_deed_told" 1 L__law_deed_told := ⟨_, _, _, f__law_deed_told F__law_deed_told b_int b_len b_range b_tuple, M__law_deed_told, kk__law_deed_told, B__law_deed_told⟩
  have c__law_item_told : CalM P w K mg base 1 "_law_item_told" 1 L__law_item_told := ⟨_, _, _, f__law_item_told F__law_item_told, M__law_item_told, kk__law_item_told, B__law_item_told⟩
  have c__law_pattern_told : CalM P w K mg base 2 "_law_pattern_told" 1 L__law_pattern_told := ⟨_, _, _, f__law_pattern_told F__law_pattern_told b_tuple c__law_item_told, M__law_pattern_told, kk__law_pattern_told, B__law_pattern_told⟩
  have c__law_deed_text : CalM P w K mg base 1 "_law_deed_text" 1 L__law_deed_text := ⟨_, _, _, f__law_deed_text F__law_deed_text b_len b_str, M__law_deed_text, kk__law_deed_text, B__law_deed_text⟩
  have c__law_item_text : CalM P w K mg base 1 "_law_item_text" 1 L__law_item_text := ⟨_, _, _, f__law_item_text F__law_item_text, M__law_item_text, kk__law_item_text, B__law_item_text⟩
  have c__law_pattern_text : CalM P w K mg base 2 "_law_pattern_text" 1 L__law_pattern_text := ⟨_, _, _, f__law_pattern_text F__law_pattern_text b_len c__law_item_text, M__law_pattern_text, kk__law_pattern_text, B__law_pattern_text⟩
  have c__law_some_pattern : CalM P w K mg base 3 "_law_some_pattern" 1 L__law_some_pattern := ⟨_, _, _, f__law_some_pattern F__law_some_pattern b_int b_range b_sorted b_tuple c__law_pick, M__law_some_pattern, kk__law_some_pattern, B__law_some_pattern⟩
  have c__law_sign : CalM P w K mg base 3 "_law_sign" 1 L__law_sign := ⟨_, _, _, f__law_sign F__law_sign b_len c__law_pick, M__law_sign, kk__law_sign, B__law_sign⟩
  have c__law_spoilt : CalM P w K mg base 4 "_law_spoilt" 2 L__law_spoilt := ⟨_, _, _, f__law_spoilt F__law_spoilt b_len c__law_pick c__law_sign, M__law_spoilt, kk__law_spoilt, B__law_spoilt⟩
  have x__law_refusal : CalX P w K mg base 1 "_law_refusal" 1 L__law_refusal := ⟨_, _, _, fx__law_refusal F__law_refusal b_isinstance EK, M__law_refusal, kk__law_refusal, B__law_refusal⟩
  have c__law_deed_read : CalM P w K mg base 5 "_law_deed_read" 2 L__law_deed_read := ⟨_, _, _, f__law_deed_read F__law_deed_read EK n_ShowError k_ShowError c_read_deed c__law_deed_told c__law_exact h__law_exact x__law_refusal, M__law_deed_read, kk__law_deed_read, B__law_deed_read⟩
  have c__law_pattern_read : CalM P w K mg base 5 "_law_pattern_read" 2 L__law_pattern_read := ⟨_, _, _, f__law_pattern_read F__law_pattern_read EK n_ShowError k_ShowError c_read_pattern c__law_pattern_told c__law_exact h__law_exact x__law_refusal, M__law_pattern_read, kk__law_pattern_read, B__law_pattern_read⟩
  have c__law_both_read : CalM P w K mg base 6 "_law_both_read" 1 L__law_both_read := ⟨_, _, _, f__law_both_read F__law_both_read c__law_deed_fault c__law_pattern_fault c__law_deed_read c__law_pattern_read, M__law_both_read, kk__law_both_read, B__law_both_read⟩
  have c__law_round : CalM P w K mg base 7 "_law_round" 1 L__law_round := ⟨_, _, _, f__law_round F__law_round b_range c__law_pick c__law_deed c__law_deed_text c__law_some_pattern c__law_pattern_text c__law_spoilt c__law_sign c__law_both_read c__law_deed_read c__law_pattern_read, M__law_round, kk__law_round, B__law_round⟩
  have c_law : CalM P w K mg base 8 "law" 1 L_law := ⟨_, _, _, f_law F_law b_len b_range c__law_draw c__law_pick c__law_round, M_law, kk_law, B_law⟩
  exact (f_law F_law b_len b_range c__law_draw c__law_pick c__law_round).imp fun _ _ _ _ q => sp_law q
end K5
end
open PySem PySem.W PyProof.Rows
set_option maxRecDepth 100000 in
set_option maxHeartbeats 0 in
theorem PySem.Challenge.cw_shownempty_k05_bad_texts_holds : PySem.Challenge.rw_shownempty_k05_bad_texts.Holds := by
  w_on; o_law; k_head; (case hw => w_witness2)
  k_fill
  refine L2.walk_of (l := PySem.Challenge.rw_shownempty_k05_bad_texts) (n := 63) (k := 8) (x := "_law_script") (CX := fun w => L2N.CX PySem.Challenge.rw_shownempty_k05_bad_texts.prog w) (sp := fun w => K5.spLaw _) rfl (by decide) rfl ⟨rfl, by decide, by decide⟩ (fun w h Y => PySem.W.kIn_of Y) ?F (fun w H a ns hl _ hS => ⟨a, ns, rfl, hS, hl, fun _ => rfl⟩) (fun w H s e s' z => K5.passE z)
  case F =>
    intro w mg fa h KX G hmg
    refine' K5.all_mk KX G ?a_is_kind ?l_is_kind ?cc_is_kind ?kk_is_kind ?a_letters_in ?l_letters_in ?cc_letters_in ?kk_letters_in ?a_can_stand_patterntext ?l_can_stand_patterntext ?cc_can_stand_patterntext ?kk_can_stand_patterntext ?a_read_item ?l_read_item ?cc_read_item ?kk_read_item ?a_read_pattern ?l_read_pattern ?cc_read_pattern ?kk_read_pattern ?a_can_go ?l_can_go ?cc_can_go ?kk_can_go ?a_can_stand_deedtext ?l_can_stand_deedtext ?cc_can_stand_deedtext ?kk_can_stand_deedtext ?a_read_deed ?l_read_deed ?cc_read_deed ?kk_read_deed ?a__law_draw ?l__law_draw ?cc__law_draw ?kk__law_draw ?a__law_mix ?l__law_mix ?cc__law_mix ?kk__law_mix ?a__law_pick ?l__law_pick ?cc__law_pick ?kk__law_pick ?a__law_step ?l__law_step ?cc__law_step ?kk__law_step ?a__law_deed ?l__law_deed ?cc__law_deed ?kk__law_deed ?a__law_is_int ?l__law_is_int ?cc__law_is_int ?kk__law_is_int ?a__law_exact ?l__law_exact ?cc__law_exact ?kk__law_exact ?a__law_deed_fault ?l__law_deed_fault ?cc__law_deed_fault ?kk__law_deed_fault ?a__law_pattern_fault ?l__law_pattern_fault ?cc__law_pattern_fault ?kk__law_pattern_fault ?a__law_deed_told ?l__law_deed_told ?cc__law_deed_told ?kk__law_deed_told ?a__law_item_told ?l__law_item_told ?cc__law_item_told ?kk__law_item_told ?a__law_pattern_told ?l__law_pattern_told ?cc__law_pattern_told ?kk__law_pattern_told ?a__law_deed_text ?l__law_deed_text ?cc__law_deed_text ?kk__law_deed_text ?a__law_item_text ?l__law_item_text ?cc__law_item_text ?kk__law_item_text ?a__law_pattern_text ?l__law_pattern_text ?cc__law_pattern_text ?kk__law_pattern_text ?a__law_some_pattern ?l__law_some_pattern ?cc__law_some_pattern ?kk__law_some_pattern ?a__law_sign ?l__law_sign ?cc__law_sign ?kk__law_sign ?a__law_spoilt ?l__law_spoilt ?cc__law_spoilt ?kk__law_spoilt ?a__law_refusal ?l__law_refusal ?cc__law_refusal ?kk__law_refusal ?a__law_deed_read ?l__law_deed_read ?cc__law_deed_read ?kk__law_deed_read ?a__law_pattern_read ?l__law_pattern_read ?cc__law_pattern_read ?kk__law_pattern_read ?a__law_both_read ?l__law_both_read ?cc__law_both_read ?kk__law_both_read ?a__law_round ?l__law_round ?cc__law_round ?kk__law_round ?a_law ?l_law ?cc_law ?kk_law ?nb_abs ?nb_bool ?nb_int ?nb_isinstance ?nb_len ?nb_list ?nb_range ?nb_sorted ?nb_str ?nb_sum ?nb_tuple ?nc_ALL ?nc_ANY_WORD ?nc_EXCHANGE ?nc_IN_STEP ?nc_MOST_LETTERS ?nc_MOST_SIZE ?nc_MOST_STEPS ?nc_NO_ITEMS ?nc_NO_STEPS ?nc_NO_THING ?nc_PLACES ?a_BadText ?a_BadLine ?a_BadDeed ?a_BadPattern ?a_ShowError ?lk_BadText ?rv_BadText ?sa_BadText ?ex_BadText ?ty_BadText ?kc_BadText ?nf_BadText ?in_BadText ?ti_BadText ?li_BadText ?ci_BadText ?ki_BadText ?xg ?xk ?xd ?xa ?xn ?xt ?xm ?nb_ValueError ?ko_BadText ?ko_BadLine ?ko_BadDeed ?ko_BadPattern ?ko_VE ?sE ?sd ?sty ?ss hmg
    (case a_is_kind => k_is)
    (case l_is_kind => k_is)
    (case cc_is_kind => k_is)
    (case kk_is_kind => k_is)
    (case a_letters_in => k_is)
    (case l_letters_in => k_is)
    (case cc_letters_in => k_is)
    (case kk_letters_in => k_is)
    (case a_can_stand_patterntext => k_is)
    (case l_can_stand_patterntext => k_is)
    (case cc_can_stand_patterntext => k_is)
    (case kk_can_stand_patterntext => k_is)
    (case a_read_item => k_is)
    (case l_read_item => k_is)
    (case cc_read_item => k_is)
    (case kk_read_item => k_is)
    (case a_read_pattern => k_is)
    (case l_read_pattern => k_is)
    (case cc_read_pattern => k_is)
    (case kk_read_pattern => k_is)
    (case a_can_go => k_is)
    (case l_can_go => k_is)
    (case cc_can_go => k_is)
    (case kk_can_go => k_is)
    (case a_can_stand_deedtext => k_is)
    (case l_can_stand_deedtext => k_is)
    (case cc_can_stand_deedtext => k_is)
    (case kk_can_stand_deedtext => k_is)
    (case a_read_deed => k_is)
    (case l_read_deed => k_is)
    (case cc_read_deed => k_is)
    (case kk_read_deed => k_is)
    (case a__law_draw => k_is)
    (case l__law_draw => k_is)
    (case cc__law_draw => k_is)
    (case kk__law_draw => k_is)
    (case a__law_mix => k_is)
    (case l__law_mix => k_is)
    (case cc__law_mix => k_is)
    (case kk__law_mix => k_is)
    (case a__law_pick => k_is)
    (case l__law_pick => k_is)
    (case cc__law_pick => k_is)
    (case kk__law_pick => k_is)
    (case a__law_step => k_is)
    (case l__law_step => k_is)
    (case cc__law_step => k_is)
    (case kk__law_step => k_is)
    (case a__law_deed => k_is)
    (case l__law_deed => k_is)
    (case cc__law_deed => k_is)
    (case kk__law_deed => k_is)
    (case a__law_is_int => k_is)
    (case l__law_is_int => k_is)
    (case cc__law_is_int => k_is)
    (case kk__law_is_int => k_is)
    (case a__law_exact => k_is)
    (case l__law_exact => k_is)
    (case cc__law_exact => k_is)
    (case kk__law_exact => k_is)
    (case a__law_deed_fault => k_is)
    (case l__law_deed_fault => k_is)
    (case cc__law_deed_fault => k_is)
    (case kk__law_deed_fault => k_is)
    (case a__law_pattern_fault => k_is)
    (case l__law_pattern_fault => k_is)
    (case cc__law_pattern_fault => k_is)
    (case kk__law_pattern_fault => k_is)
    (case a__law_deed_told => k_is)
    (case l__law_deed_told => k_is)
    (case cc__law_deed_told => k_is)
    (case kk__law_deed_told => k_is)
    (case a__law_item_told => k_is)
    (case l__law_item_told => k_is)
    (case cc__law_item_told => k_is)
    (case kk__law_item_told => k_is)
    (case a__law_pattern_told => k_is)
    (case l__law_pattern_told => k_is)
    (case cc__law_pattern_told => k_is)
    (case kk__law_pattern_told => k_is)
    (case a__law_deed_text => k_is)
    (case l__law_deed_text => k_is)
    (case cc__law_deed_text => k_is)
    (case kk__law_deed_text => k_is)
    (case a__law_item_text => k_is)
    (case l__law_item_text => k_is)
    (case cc__law_item_text => k_is)
    (case kk__law_item_text => k_is)
    (case a__law_pattern_text => k_is)
    (case l__law_pattern_text => k_is)
    (case cc__law_pattern_text => k_is)
    (case kk__law_pattern_text => k_is)
    (case a__law_some_pattern => k_is)
    (case l__law_some_pattern => k_is)
    (case cc__law_some_pattern => k_is)
    (case kk__law_some_pattern => k_is)
    (case a__law_sign => k_is)
    (case l__law_sign => k_is)
    (case cc__law_sign => k_is)
    (case kk__law_sign => k_is)
    (case a__law_spoilt => k_is)
    (case l__law_spoilt => k_is)
    (case cc__law_spoilt => k_is)
    (case kk__law_spoilt => k_is)
    (case a__law_refusal => k_is)
    (case l__law_refusal => k_is)
    (case cc__law_refusal => k_is)
    (case kk__law_refusal => k_is)
    (case a__law_deed_read => k_is)
    (case l__law_deed_read => k_is)
    (case cc__law_deed_read => k_is)
    (case kk__law_deed_read => k_is)
    (case a__law_pattern_read => k_is)
    (case l__law_pattern_read => k_is)
    (case cc__law_pattern_read => k_is)
    (case kk__law_pattern_read => k_is)
    (case a__law_both_read => k_is)
    (case l__law_both_read => k_is)
    (case cc__law_both_read => k_is)
    (case kk__law_both_read => k_is)
    (case a__law_round => k_is)
    (case l__law_round => k_is)
    (case cc__law_round => k_is)
    (case kk__law_round => k_is)
    (case a_law => k_is)
    (case l_law => k_is)
    (case cc_law => k_is)
    (case kk_law => k_is)
    (case nb_abs => k_is)
    (case nb_bool => k_is)
    (case nb_int => k_is)
    (case nb_isinstance => k_is)
    (case nb_len => k_is)
    (case nb_list => k_is)
    (case nb_range => k_is)
    (case nb_sorted => k_is)
    (case nb_str => k_is)
    (case nb_sum => k_is)
    (case nb_tuple => k_is)
    (case nc_ALL => k_is)
    (case nc_ANY_WORD => k_is)
    (case nc_EXCHANGE => k_is)
    (case nc_IN_STEP => k_is)
    (case nc_MOST_LETTERS => k_is)
    (case nc_MOST_SIZE => k_is)
    (case nc_MOST_STEPS => k_is)
    (case nc_NO_ITEMS => k_is)
    (case nc_NO_STEPS => k_is)
    (case nc_NO_THING => k_is)
    (case nc_PLACES => k_is)
    (case a_BadText => k_is)
    (case a_BadLine => k_is)
    (case a_BadDeed => k_is)
    (case a_BadPattern => k_is)
    (case a_ShowError => k_is)
    (case lk_BadText => k_is)
    (case rv_BadText => first | k_is | decide | rfl)
    (case sa_BadText => k_is)
    (case ex_BadText => k_is)
    (case ty_BadText => k_is)
    (case kc_BadText => k_is)
    (case nf_BadText => k_is)
    (case in_BadText => k_is)
    (case ti_BadText => k_is)
    (case li_BadText => k_is)
    (case ci_BadText => k_is)
    (case ki_BadText => k_is)
    (case xg => k_is)
    (case xk => k_is)
    (case xd => k_is)
    (case xa => k_is)
    (case xn => k_is)
    (case xt => k_is)
    (case xm => k_is)
    (case nb_ValueError => k_is)
    (case ko_BadText => first | kit_is | k_is)
    (case ko_BadLine => first | kit_is | k_is)
    (case ko_BadDeed => first | kit_is | k_is)
    (case ko_BadPattern => first | kit_is | k_is)
    (case ko_VE => first | kit_is | k_is)
    (case sE => k_is)
    (case sd => k_is)
    (case sty => k_is)
    (case ss => k_is)
