import PyProof.Rows.All
import Wide.All
import OpenK.AllK
import Wide.FinOn
import HandS.Base
import HandS.Call
import HandS.List
import HandS.Comp
import HandS.ExcInit
import HandS.ExcIs
import HandS.Wide
import HandS.TupAny
import HandS.TupMul
import HandS.Gcd
import HandS.WideBits
import HandS.Walk
import HandS.Zip
import HandS.More
import HandS.IsInst
import HandS.RaiseMore
import HandS.Conv
import PyProof.TypeEq
import PyProof.ReprRoads
import HandS.Words
import HandS.ExcValue
import HandS.Dict
import PyProof.RowDictHeap
import HandS.HeadHook4
import HandS.HeadHook3
import HandS.HeadHook2
import HandS.HeadHook1
import HandS.HeadEnd
import HandS.Head2
import PySem.Challenge.RW_splitcosts_k01_errors_each_of_its_own
set_option Elab.async false
set_option linter.all false
set_option maxRecDepth 100000
/-! A layer over the hand layer: values as data, lists that change as cells of a store, a def as a partial function. -/
namespace HM
open PySem PySem.Spec L2
open PyProof.Rows hiding St

/-- data: what never changes (a list that nobody changes any more among it) -/
inductive D where
  | non | bl (b : Bool) | int (i : Int) | str (x : Str) | tup (ds : List D) | fl (ds : List D) | scr (ns : List Int)
  /-- a dict with text keys; an error of the class with this name, without or with one field -/
  | dct (ks : List Str) (ds : List D) | exc0 (c : Str) | exc1 (c f : Str) (d : D)
  deriving Inhabited
/-- what a name holds: data, or a list that may change -/
inductive W where
  | val (d : D) | loc (l : Nat)
  deriving Inhabited

abbrev Mu := List (Option Addr)
abbrev Sto := List (Option (List D))
abbrev Rho := List (Option W)

/-- a list that is not among the cells -/
def FlAt (H : Hp) (μ : Mu) (a : Addr) (vs : List V) : Prop := H a = some (.lst vs) ∧ some a ∉ μ
/-- a list that is not ours: the script -/
def ScrAt (K : PySem.W.Frag) (H : Hp) (a : Addr) (vs : List V) : Prop := (∃ o, H a = some (.frz o (.lst vs))) ∨ SqL K (fun _ => none) a vs

mutual
inductive Rep (K : PySem.W.Frag) (H : Hp) (μ : Mu) : D → V → Prop
  | non : Rep K H μ .non .non
  | bl (b : Bool) : Rep K H μ (.bl b) (.bl b)
  | int (i : Int) : Rep K H μ (.int i) (.int i)
  | str (x : Str) : Rep K H μ (.str x) (.str x)
  | tup {a : Addr} {vs : List V} {ds : List D} : SqT K H a vs → Reps K H μ ds vs → Rep K H μ (.tup ds) (.ref a)
  | fl {a : Addr} {vs : List V} {ds : List D} : FlAt H μ a vs → Reps K H μ ds vs → Rep K H μ (.fl ds) (.ref a)
  | scr {a : Addr} {ns : List Int} : ScrAt K H a (ns.map V.int) → Rep K H μ (.scr ns) (.ref a)
  | dct {a : Addr} {ks : List Str} {vs : List V} {ds : List D} : H a = some (.dK ((ks.map Sum.inr).zip vs)) → ks.length = vs.length → Reps K H μ ds vs → Rep K H μ (.dct ks ds) (.ref a)
  | exc0 {a C : Addr} {c : Str} : PySem.W.nsIn K mainGlobals c = some (some (.ref C)) → H a = some (exo a C none) → Rep K H μ (.exc0 c) (.ref a)
  | exc1 {a C dx : Addr} {c f : Str} {d : D} {v : V} : PySem.W.nsIn K mainGlobals c = some (some (.ref C)) → H a = some (exo a C (some dx)) → H dx = some (exd dx [(f, v)]) → Rep K H μ d v → Rep K H μ (.exc1 c f d) (.ref a)
inductive Reps (K : PySem.W.Frag) (H : Hp) (μ : Mu) : List D → List V → Prop
  | nil : Reps K H μ [] []
  | cons {d : D} {v : V} {ds : List D} {vs : List V} : Rep K H μ d v → Reps K H μ ds vs → Reps K H μ (d :: ds) (v :: vs)
end

/-- the cells: live ones are lists of their own -/
structure StoreOk (K : PySem.W.Frag) (H : Hp) (μ : Mu) (S : Sto) : Prop where
  len : μ.length = S.length
  cell : ∀ (l : Nat) (ds : List D), S[l]? = some (some ds) → ∃ a vs, μ[l]? = some (some a) ∧ H a = some (.lst vs) ∧ Reps K H μ ds vs
  dead : ∀ l : Nat, S[l]? = some none → μ[l]? = some none
  inj : ∀ (l m : Nat) (a : Addr), μ[l]? = some (some a) → μ[m]? = some (some a) → l = m

/-- from one heap to a later one -/
structure Step (H : Hp) (μ : Mu) (H' : Hp) (μ' : Mu) : Prop where
  keep : ∀ a o, H a = some o → some a ∉ μ → H' a = some o
  new : ∀ a, some a ∈ μ' → some a ∈ μ ∨ H a = none
  old : ∀ (l : Nat) (a : Addr), l < μ.length → μ'[l]? = some (some a) → μ[l]? = some (some a)
  len : μ.length ≤ μ'.length

theorem Step.refl {H : Hp} {μ : Mu} : Step H μ H μ := ⟨fun _ _ h _ => h, fun _ h => .inl h, fun _ _ _ h => h, Nat.le_refl _⟩
theorem Step.trans {H1 H2 H3 : Hp} {μ1 μ2 μ3 : Mu} (a : Step H1 μ1 H2 μ2) (b : Step H2 μ2 H3 μ3) : Step H1 μ1 H3 μ3 where
  keep := fun x o h n => b.keep x o (a.keep x o h n) fun z => by
    rcases a.new x z with q | q
    · exact n q
    · rw [h] at q; cases q
  new := fun x h => by
    rcases b.new x h with q | q
    · exact a.new x q
    · cases e : H1 x with
      | none => exact .inr rfl
      | some o =>
        by_cases m : some x ∈ μ1
        · exact .inl m
        · rw [a.keep x o e m] at q; cases q
  old := fun l x hl h => a.old l x hl (b.old l x (Nat.lt_of_lt_of_le hl a.len) h)
  len := Nat.le_trans a.len b.len
/-- a new object that is no cell -/
theorem Step.alloc {H : Hp} {μ : Mu} {p : Addr} {o : HO} (hp : H p = none) : Step H μ (upd H p o) μ :=
  ⟨fun a u h _ => by rw [upd_ne (ne_of_none h hp)]; exact h, fun _ h => .inl h, fun _ _ _ h => h, Nat.le_refl _⟩

section
variable {K : PySem.W.Frag} {H H' : Hp} {μ μ' : Mu} {S : Sto}
theorem StoreOk.at (so : StoreOk K H μ S) {a : Addr} (h : some a ∈ μ) : ∃ vs, H a = some (.lst vs) := by
  obtain ⟨l, hl, e⟩ := List.getElem_of_mem h
  have e1 : μ[l]? = some (some a) := by rw [List.getElem?_eq_getElem hl, e]
  have hs : l < S.length := by rw [← so.len]; exact hl
  cases q : S[l]? with
  | none => rw [List.getElem?_eq_none_iff] at q; omega
  | some c =>
    cases c with
    | none => rw [so.dead l q] at e1; cases e1
    | some ds =>
      obtain ⟨b, vs, h1, h2, _⟩ := so.cell l ds q
      rw [h1] at e1; cases e1
      exact ⟨vs, h2⟩
theorem StoreOk.not_mu (so : StoreOk K H μ S) {a : Addr} {o : HO} (h : H a = some o) (n : ∀ vs, o ≠ .lst vs) : some a ∉ μ := fun z => by
  obtain ⟨vs, e⟩ := so.at z
  rw [h] at e; cases e
  exact n vs rfl
theorem rd_step (so : StoreOk K H μ S) (st : Step H μ H' μ') {a : Addr} {u : HO} (r : Rd H a u) (n : some a ∉ μ) : Rd H' a u := by
  rcases r with r | ⟨o, r⟩
  · exact .inl (st.keep a _ r n)
  · exact .inr ⟨o, st.keep a _ r n⟩
theorem sqT_step (so : StoreOk K H μ S) (st : Step H μ H' μ') {a : Addr} {vs : List V} (q : SqT K H a vs) : SqT K H' a vs := by
  rcases q with q | q
  · refine .inl (rd_step so st q ?_)
    rcases q with q | ⟨o, q⟩
    · exact so.not_mu q fun vs z => by cases z
    · exact so.not_mu q fun vs z => by cases z
  · exact .inr q
theorem flAt_step (so : StoreOk K H μ S) (st : Step H μ H' μ') {a : Addr} {vs : List V} (q : FlAt H μ a vs) : FlAt H' μ' a vs := by
  refine ⟨st.keep a _ q.1 q.2, fun z => ?_⟩
  rcases st.new a z with y | y
  · exact q.2 y
  · rw [q.1] at y; cases y
theorem scrAt_step (so : StoreOk K H μ S) (st : Step H μ H' μ') {a : Addr} {vs : List V} (q : ScrAt K H a vs) : ScrAt K H' a vs := by
  rcases q with ⟨o, q⟩ | q
  · exact .inl ⟨o, st.keep a _ q (so.not_mu q fun vs z => by cases z)⟩
  · exact .inr q
theorem exo_lst {e C : Addr} {d : Option Addr} {vs : List V} (z : exo e C d = .lst vs) : False := by
  have z' : HO.ext _ = HO.lst vs := z
  cases z'
theorem exd_lst {e : Addr} {fs : List (Str × V)} {vs : List V} (z : exd e fs = .lst vs) : False := by
  have z' : HO.ext _ = HO.lst vs := z
  cases z'
mutual
theorem Rep.step (so : StoreOk K H μ S) (st : Step H μ H' μ') : ∀ {d : D} {v : V}, Rep K H μ d v → Rep K H' μ' d v
  | _, _, .non => .non
  | _, _, .bl b => .bl b
  | _, _, .int i => .int i
  | _, _, .str x => .str x
  | _, _, .tup q r => .tup (sqT_step so st q) (Reps.step so st r)
  | _, _, .fl q r => .fl (flAt_step so st q) (Reps.step so st r)
  | _, _, .scr q => .scr (scrAt_step so st q)
  | _, _, .dct q l r => .dct (st.keep _ _ q (so.not_mu q fun vs z => by cases z)) l (Reps.step so st r)
  | _, _, .exc0 c q => .exc0 c (st.keep _ _ q (so.not_mu q fun vs z => exo_lst z))
  | _, _, .exc1 c q x r => .exc1 c (st.keep _ _ q (so.not_mu q fun vs z => exo_lst z)) (st.keep _ _ x (so.not_mu x fun vs z => exd_lst z)) (Rep.step so st r)
theorem Reps.step (so : StoreOk K H μ S) (st : Step H μ H' μ') : ∀ {ds : List D} {vs : List V}, Reps K H μ ds vs → Reps K H' μ' ds vs
  | _, _, .nil => .nil
  | _, _, .cons r t => .cons (Rep.step so st r) (Reps.step so st t)
end
theorem FlAt.sqL {a : Addr} {vs : List V} (q : FlAt H μ a vs) : SqL K H a vs := .inl (.inl q.1)
theorem ScrAt.sqL {a : Addr} {vs : List V} (q : ScrAt K H a vs) : SqL K H a vs := by
  rcases q with ⟨o, q⟩ | q | q
  · exact .inl (.inr ⟨o, q⟩)
  · rcases q with q | ⟨o, q⟩ <;> cases q
  · exact .inr q
theorem Reps.length : ∀ {ds : List D} {vs : List V}, Reps K H μ ds vs → ds.length = vs.length
  | _, _, .nil => rfl
  | _, _, .cons _ t => by rw [List.length_cons, List.length_cons, Reps.length t]
theorem Reps.get : ∀ {ds : List D} {vs : List V} {i : Nat} {d : D}, Reps K H μ ds vs → ds[i]? = some d → ∃ v, vs[i]? = some v ∧ Rep K H μ d v
  | _, _, _, _, .nil, e => by simp at e
  | _, _, 0, _, .cons r _, e => by
    have e' := Option.some.inj e
    subst e'
    exact ⟨_, rfl, r⟩
  | _, _, i + 1, _, .cons _ t, e => Reps.get (i := i) t e
theorem Reps.getV : ∀ {ds : List D} {vs : List V} {i : Nat} {v : V}, Reps K H μ ds vs → vs[i]? = some v → ∃ d, ds[i]? = some d ∧ Rep K H μ d v
  | _, _, _, _, .nil, e => by simp at e
  | _, _, 0, _, .cons r _, e => by
    have e' := Option.some.inj e
    subst e'
    exact ⟨_, rfl, r⟩
  | _, _, i + 1, _, .cons _ t, e => Reps.getV (i := i) t e
theorem Reps.append : ∀ {ds es : List D} {vs ws : List V}, Reps K H μ ds vs → Reps K H μ es ws → Reps K H μ (ds ++ es) (vs ++ ws)
  | _, _, _, _, .nil, s => s
  | _, _, _, _, .cons r t, s => .cons r (Reps.append t s)
theorem Reps.take : ∀ {ds : List D} {vs : List V} (n : Nat), Reps K H μ ds vs → Reps K H μ (ds.take n) (vs.take n)
  | _, _, 0, _ => .nil
  | _, _, _ + 1, .nil => .nil
  | _, _, n + 1, .cons r t => .cons r (Reps.take n t)
theorem Reps.drop : ∀ {ds : List D} {vs : List V} (n : Nat), Reps K H μ ds vs → Reps K H μ (ds.drop n) (vs.drop n)
  | _, _, 0, r => r
  | _, _, _ + 1, .nil => .nil
  | _, _, n + 1, .cons _ t => Reps.drop n t
theorem Reps.set {d : D} {v : V} (r : Rep K H μ d v) : ∀ {ds : List D} {vs : List V} (n : Nat), Reps K H μ ds vs → Reps K H μ (ds.set n d) (vs.set n v)
  | _, _, _, .nil => .nil
  | _, _, 0, .cons _ t => .cons r t
  | _, _, n + 1, .cons q t => .cons q (Reps.set r n t)
end

/-- what a name holds, as a value -/
def RepW (K : PySem.W.Frag) (H : Hp) (μ : Mu) : W → V → Prop
  | .val d, v => Rep K H μ d v
  | .loc l, v => l < μ.length ∧ ∀ a, μ[l]? = some (some a) → v = .ref a
inductive RepWs (K : PySem.W.Frag) (H : Hp) (μ : Mu) : List W → List V → Prop
  | nil : RepWs K H μ [] []
  | cons {w : W} {v : V} {ws : List W} {vs : List V} : RepW K H μ w v → RepWs K H μ ws vs → RepWs K H μ (w :: ws) (v :: vs)
structure EnvOk (K : PySem.W.Frag) (H : Hp) (μ : Mu) (ρ : Rho) (σ : St) : Prop where
  len : ρ.length = σ.length
  at_ : ∀ (i : Nat) (w : W), ρ[i]? = some (some w) → ∃ v, σ[i]? = some (some v) ∧ RepW K H μ w v
section
variable {K : PySem.W.Frag} {H H' : Hp} {μ μ' : Mu} {S S' : Sto} {ρ : Rho} {σ : St}
theorem RepW.step (so : StoreOk K H μ S) (st : Step H μ H' μ') {w : W} {v : V} (r : RepW K H μ w v) : RepW K H' μ' w v := by
  cases w with
  | val d => exact Rep.step so st r
  | loc l => exact ⟨Nat.lt_of_lt_of_le r.1 st.len, fun a h => r.2 a (st.old l a r.1 h)⟩
theorem RepWs.step (so : StoreOk K H μ S) (st : Step H μ H' μ') : ∀ {ws : List W} {vs : List V}, RepWs K H μ ws vs → RepWs K H' μ' ws vs
  | _, _, .nil => .nil
  | _, _, .cons r t => .cons (r.step so st) (RepWs.step so st t)
theorem RepWs.length : ∀ {ws : List W} {vs : List V}, RepWs K H μ ws vs → ws.length = vs.length
  | _, _, .nil => rfl
  | _, _, .cons _ t => by rw [List.length_cons, List.length_cons, RepWs.length t]
theorem RepWs.get : ∀ {ws : List W} {vs : List V} {i : Nat} {w : W}, RepWs K H μ ws vs → ws[i]? = some w → ∃ v, vs[i]? = some v ∧ RepW K H μ w v
  | _, _, _, _, .nil, e => by simp at e
  | _, _, 0, _, .cons r _, e => by
    have e' := Option.some.inj e
    subst e'
    exact ⟨_, rfl, r⟩
  | _, _, i + 1, _, .cons _ t, e => RepWs.get (i := i) t e
theorem EnvOk.step (so : StoreOk K H μ S) (st : Step H μ H' μ') (e : EnvOk K H μ ρ σ) : EnvOk K H' μ' ρ σ :=
  ⟨e.len, fun i w h => let ⟨v, h1, h2⟩ := e.at_ i w h; ⟨v, h1, h2.step so st⟩⟩
theorem EnvOk.set {w : W} {v : V} (e : EnvOk K H μ ρ σ) (r : RepW K H μ w v) (i : Nat) : EnvOk K H μ (ρ.set i (some w)) (σ.set i (some v)) := by
  refine ⟨by rw [List.length_set, List.length_set]; exact e.len, fun j u h => ?_⟩
  by_cases hj : i = j
  · subst hj
    have hl : i < ρ.length := by
      have := (List.getElem?_eq_some_iff.mp h).1
      rwa [List.length_set] at this
    rw [List.getElem?_set_self hl] at h
    cases h
    exact ⟨v, List.getElem?_set_self (by rw [← e.len]; exact hl), r⟩
  · rw [List.getElem?_set_ne hj] at h ⊢
    exact e.at_ j u h
/-- the slots of a comprehension's own names forgotten -/
def wipeR (ρ : Rho) : List Nat → Rho
  | [] => ρ
  | v :: vs => (wipeR ρ vs).set v none
theorem wipeR_length (ρ : Rho) : ∀ vs : List Nat, (wipeR ρ vs).length = ρ.length
  | [] => rfl
  | v :: vs => by unfold wipeR; rw [List.length_set, wipeR_length ρ vs]
theorem EnvOk.unset (e : EnvOk K H μ ρ σ) (i : Nat) : EnvOk K H μ (ρ.set i none) (σ.set i none) := by
  refine ⟨by rw [List.length_set, List.length_set]; exact e.len, fun j u h => ?_⟩
  by_cases hj : i = j
  · subst hj
    have hl : i < ρ.length := by
      have := (List.getElem?_eq_some_iff.mp h).1
      rwa [List.length_set] at this
    rw [List.getElem?_set_self hl] at h
    cases h
  · rw [List.getElem?_set_ne hj] at h ⊢
    exact e.at_ j u h
theorem EnvOk.wipe (e : EnvOk K H μ ρ σ) : ∀ vs : List Nat, EnvOk K H μ (wipeR ρ vs) (wipe σ vs)
  | [] => e
  | v :: vs => by
    show EnvOk K H μ ((wipeR ρ vs).set v none) ((L2.wipe σ vs).set v none)
    exact (EnvOk.wipe e vs).unset v
end

/-! ### readings -/
/-- an expression as a partial function of the slots and the store -/
abbrev EM := Rho → Sto → Option (W × Sto)
abbrev TM := Rho → Sto → Option (Bool × Sto)
abbrev AM := Rho → Sto → Option (List W × Sto)
inductive Ctl where
  | nx | ret (w : W) | brk | cnt
abbrev SM := Rho → Sto → Option (Ctl × Rho × Sto)
abbrev FM := List W → Sto → Option (W × Sto)

structure Ok (K : PySem.W.Frag) (μ : Mu) (ρ : Rho) (S : Sto) (σ : St) (H : Hp) : Prop where
  so : StoreOk K H μ S
  env : EnvOk K H μ ρ σ
theorem Ok.next {K : PySem.W.Frag} {μ μ' : Mu} {ρ : Rho} {S S' : Sto} {σ : St} {H H' : Hp} (o : Ok K μ ρ S σ H) (so : StoreOk K H' μ' S') (st : Step H μ H' μ') : Ok K μ' ρ S' σ H' := ⟨so, o.env.step o.so st⟩

def tM (K : PySem.W.Frag) (m : EM) : TE := fun σ H Q => ∃ μ ρ S w S', Ok K μ ρ S σ H ∧ m ρ S = some (w, S') ∧
  ∀ μ' v H', StoreOk K H' μ' S' → Step H μ H' μ' → RepW K H' μ' w v → Q v H'
def tT (K : PySem.W.Frag) (m : TM) : TT := fun σ H Q => ∃ μ ρ S b S', Ok K μ ρ S σ H ∧ m ρ S = some (b, S') ∧
  ∀ μ' H', StoreOk K H' μ' S' → Step H μ H' μ' → Q b H'
def tA (K : PySem.W.Frag) (m : AM) : TA := fun σ H Q => ∃ μ ρ S ws S', Ok K μ ρ S σ H ∧ m ρ S = some (ws, S') ∧
  ∀ μ' vs H', StoreOk K H' μ' S' → Step H μ H' μ' → RepWs K H' μ' ws vs → Q vs H'
def EndsOk (K : PySem.W.Frag) (D : Ends) (c : Ctl) (ρ : Rho) (μ : Mu) (H : Hp) : Prop :=
  match c with
  | .nx => ∀ σ, EnvOk K H μ ρ σ → D.nx σ H
  | .brk => ∀ σ, EnvOk K H μ ρ σ → D.bk σ H
  | .cnt => ∀ σ, EnvOk K H μ ρ σ → D.ct σ H
  | .ret w => ∀ v, RepW K H μ w v → D.rt v H
def tS (K : PySem.W.Frag) (m : SM) : TS := fun D σ H => ∃ μ ρ S c ρ' S', Ok K μ ρ S σ H ∧ m ρ S = some (c, ρ', S') ∧
  ∀ μ' H', StoreOk K H' μ' S' → Step H μ H' μ' → EndsOk K D c ρ' μ' H'

theorem PE.imp {X : Cx} {e : Expr} {t t' : TE} (h : PE X e t) (i : ∀ σ H Q, t' σ H Q → t σ H Q) : PE X e t' := ⟨fun pins s σ H Q I q => h.run pins s σ H Q I (i σ H Q q)⟩
theorem PT.imp {X : Cx} {e : Expr} {t t' : TT} (h : PT X e t) (i : ∀ σ H Q, t' σ H Q → t σ H Q) : PT X e t' := ⟨fun pins s σ H Q I q => h.run pins s σ H Q I (i σ H Q q)⟩
theorem PW.imp {X : Cx} {e : Expr} {t t' : TT} (h : PW X e t) (i : ∀ σ H Q, t' σ H Q → t σ H Q) : PW X e t' := ⟨fun wh pins s σ H Q I q => h.run wh pins s σ H Q I (i σ H Q q)⟩
theorem PA.imp {X : Cx} {e : List Expr} {t t' : TA} (h : PA X e t) (i : ∀ σ H Q, t' σ H Q → t σ H Q) : PA X e t' := ⟨fun pos pins s σ H Q I q => h.run pos pins s σ H Q I (i σ H Q q)⟩
theorem PS.imp {X : Cx} {e : Stmt} {t t' : TS} (h : PS X e t) (i : ∀ D σ H, t' D σ H → t D σ H) : PS X e t' := ⟨fun pins s σ H D I q => h.run pins s σ H D I (i D σ H q)⟩
theorem PSs.imp {X : Cx} {e : List Stmt} {t t' : TS} (h : PSs X e t) (i : ∀ D σ H, t' D σ H → t D σ H) : PSs X e t' := ⟨fun pins s σ H D I q => h.run pins s σ H D I (i D σ H q)⟩

/-! ### small expressions -/
def mVar (i : Nat) : EM := fun ρ S => match ρ[i]? with
  | some (some w) => some (w, S)
  | _ => none
def mC (d : D) : EM := fun _ S => some (.val d, S)
section
variable {X : Cx} {pos : Pos}
theorem me_var {i : Nat} {x : Str} (hN : X.N[i]? = some x) (hv : Vis X.env.scope x) (hd : (x == ("__debug__" : Str)) = false := by decide) (hcd : (x == ("__classdict__" : Str)) = false := by decide) : PE X (.Name x pos) (tM X.K (mVar i)) := by
  refine PE.imp (pe_var hN hv hd hcd) fun σ H Q q => ?_
  obtain ⟨μ, ρ, S, w, S', ok, e, k⟩ := q
  unfold mVar at e
  split at e
  · rename_i w' e1
    cases e
    obtain ⟨v, h1, h2⟩ := ok.env.at_ i _ e1
    exact ⟨v, h1, k μ v H ok.so .refl h2⟩
  · cases e
theorem me_const {e : Expr} {v : V} {d : D} (h : PE X e (tC v)) (r : ∀ H μ, Rep X.K H μ d v) : PE X e (tM X.K (mC d)) := by
  refine PE.imp h fun σ H Q q => ?_
  obtain ⟨μ, ρ, S, w, S', ok, e, k⟩ := q
  cases e
  exact k μ v H ok.so .refl (r H μ)
theorem me_int {i j} : PE X (.Constant (.int i) j pos) (tM X.K (mC (.int i))) := me_const pe_int fun _ _ => .int i
theorem me_bl {b j} : PE X (.Constant (.bool b) j pos) (tM X.K (mC (.bl b))) := me_const pe_bl fun _ _ => .bl b
theorem me_non {j} : PE X (.Constant .none j pos) (tM X.K (mC .non)) := me_const pe_non fun _ _ => .non
theorem me_str {x j} : PE X (.Constant (.str x) j pos) (tM X.K (mC (.str x))) := me_const pe_str fun _ _ => .str x
end

/-! ### two places, by values -/
abbrev F2 := W → W → Sto → Option (W × Sto)
/-- the rule r gives what f says -/
def Op2 (K : PySem.W.Frag) (r : R2) (f : F2) : Prop := ∀ (μ : Mu) (S : Sto) (H : Hp) (x y : W) (v u : V) (w : W) (S' : Sto) (Q : VK), StoreOk K H μ S → RepW K H μ x v → RepW K H μ y u → f x y S = some (w, S') →
  (∀ μ' z H', StoreOk K H' μ' S' → Step H μ H' μ' → RepW K H' μ' w z → Q z H') → r v u H Q
def mBin (f : F2) (ma mb : EM) : EM := fun ρ S => match ma ρ S with
  | some (x, S1) => match mb ρ S1 with
    | some (y, S2) => f x y S2
    | none => none
  | none => none
section
variable {X : Cx} {a b : Expr} {pos : Pos} {ma mb : EM} {r : R2} {f : F2}
theorem bin_imp (h : Op2 X.K r f) {σ : St} {H : Hp} {Q : VK} (q : tM X.K (mBin f ma mb) σ H Q) : tOp r (tM X.K ma) (tM X.K mb) σ H Q := by
  obtain ⟨μ, ρ, S, w, S', ok, e, k⟩ := q
  unfold mBin at e
  split at e
  · rename_i x S1 e1
    split at e
    · rename_i y S2 e2
      refine ⟨μ, ρ, S, x, S1, ok, e1, fun μ1 v1 H1 so1 st1 r1 => ?_⟩
      refine ⟨μ1, ρ, S1, y, S2, ok.next so1 st1, e2, fun μ2 v2 H2 so2 st2 r2 => ?_⟩
      exact h μ2 S2 H2 x y v1 v2 w S' Q so2 (r1.step so1 st2) r2 e fun μ3 z H3 so3 st3 r3 => k μ3 z H3 so3 ((st1.trans st2).trans st3) r3
    · cases e
  · cases e
theorem me_op {op : Operator} (ho : OpR X (binaryOp op) r) (h : Op2 X.K r f) (ha : PE X a (tM X.K ma)) (hb : PE X b (tM X.K mb)) : PE X (.BinOp a op b pos) (tM X.K (mBin f ma mb)) :=
  PE.imp (pe_op ho ha hb) fun σ H Q q => bin_imp h q
theorem me_cmp {op : CmpOp} (ho : OpR X (compareOp op) r) (h : Op2 X.K r f) (ha : PE X a (tM X.K ma)) (hb : PE X b (tM X.K mb)) (hm : behindInMarks op b = false) : PE X (.Compare a [op] [b] pos) (tM X.K (mBin f ma mb)) :=
  PE.imp (pe_cmpR ho ha hb hm) fun σ H Q q => bin_imp h q
theorem me_ix (hr : IxR X r) (h : Op2 X.K r f) (ha : PE X a (tM X.K ma)) (hb : PE X b (tM X.K mb)) (hs : PlainIx b) : PE X (.Subscript a b pos) (tM X.K (mBin f ma mb)) :=
  PE.imp (pe_ix hr ha hb hs) fun σ H Q q => bin_imp h q
end
/-- a value that is a bool, as a test -/
def mTest (m : EM) : TM := fun ρ S => match m ρ S with
  | some (.val (.bl b), S1) => some (b, S1)
  | _ => none
section
variable {X : Cx} {a b : Expr} {pos : Pos} {ma mb : EM} {r : R2} {f : F2}
theorem test_imp {m : EM} {σ : St} {H : Hp} {Q : Bool → Hp → Prop} (q : tT X.K (mTest m) σ H Q) : tB (tM X.K m) σ H Q := by
  obtain ⟨μ, ρ, S, w, S', ok, e, k⟩ := q
  unfold mTest at e
  split at e
  · rename_i c S1 e1
    cases e
    refine ⟨μ, ρ, S, _, _, ok, e1, fun μ1 v1 H1 so1 st1 r1 => ?_⟩
    cases r1
    exact ⟨_, rfl, k μ1 H1 so1 st1⟩
  · cases e
theorem mt_val {e : Expr} {m : EM} (h : PE X e (tM X.K m)) (he : ∀ whole, isTrue e X.env whole = (do let v ← whole; standAt e.pos; holding [v] (truthy v)) := by intro _; rfl) : PT X e (tT X.K (mTest m)) :=
  PT.imp (pt_val h he) fun σ H Q q => test_imp q
theorem mt_cmp {op : CmpOp} (ho : OpR X (compareOp op) r) (h : Op2 X.K r f) (ha : PE X a (tM X.K ma)) (hb : PE X b (tM X.K mb)) (hm : behindInMarks op b = false) : PT X (.Compare a [op] [b] pos) (tT X.K (mTest (mBin f ma mb))) := by
  refine PT.imp (pt_cmpR ho ha hb hm) fun σ H Q q => ?_
  obtain ⟨μ, ρ, S, w, S', ok, e, k⟩ := q
  unfold mTest at e
  split at e
  · rename_i c S1 e1
    cases e
    have z : tOp r (tM X.K ma) (tM X.K mb) σ H fun x H1 => ∃ c, x = .bl c ∧ Q c H1 := by
      refine bin_imp h ⟨μ, ρ, S, _, _, ok, e1, fun μ1 v1 H1 so1 st1 r1 => ?_⟩
      cases r1
      exact ⟨_, rfl, k μ1 H1 so1 st1⟩
    exact z
  · cases e
end
end HM

set_option Elab.async false
set_option linter.all false
set_option maxRecDepth 100000
namespace HM
open PySem PySem.Spec L2
open PyProof.Rows hiding St

abbrev KK (K : PySem.W.Frag) (H : Hp) (μ : Mu) (S' : Sto) (w : W) (Q : VK) : Prop := ∀ μ' z H', StoreOk K H' μ' S' → Step H μ H' μ' → RepW K H' μ' w z → Q z H'
/-- the items of a list -/
def lItems (w : W) (S : Sto) : Option (List D) := match w with
  | .val (.fl ds) => some ds
  | .val (.scr ns) => some (ns.map D.int)
  | .loc l => (S[l]?).getD none
  | _ => none
def tItems : W → Option (List D)
  | .val (.tup ds) => some ds
  | _ => none
section
variable {K : PySem.W.Frag} {H H' : Hp} {μ μ' : Mu} {S S' : Sto}
theorem reps_ints : ∀ ns : List Int, Reps K H μ (ns.map D.int) (ns.map V.int)
  | [] => .nil
  | n :: r => .cons (.int n) (reps_ints r)
theorem lItems_ok (so : StoreOk K H μ S) {w : W} {v : V} {ds : List D} (r : RepW K H μ w v) (e : lItems w S = some ds) : ∃ a vs, v = .ref a ∧ SqL K H a vs ∧ Reps K H μ ds vs := by
  cases w with
  | val d =>
    cases d with
    | fl ds' =>
      cases e
      cases (show Rep K H μ (.fl ds) v from r) with
      | fl q r' => exact ⟨_, _, rfl, q.sqL, r'⟩
    | scr ns =>
      cases e
      cases (show Rep K H μ (.scr ns) v from r) with
      | scr q => exact ⟨_, _, rfl, q.sqL, reps_ints ns⟩
    | _ => cases e
  | loc l =>
    have e' : (S[l]?).getD none = some ds := e
    cases q : S[l]? with
    | none => rw [q] at e'; cases e'
    | some c =>
      rw [q] at e'
      obtain rfl : c = some ds := e'
      obtain ⟨a, vs, h1, h2, h3⟩ := so.cell l ds q
      exact ⟨a, vs, r.2 a h1, .of h2, h3⟩
theorem tItems_ok {w : W} {v : V} {ds : List D} (r : RepW K H μ w v) (e : tItems w = some ds) : ∃ a vs, v = .ref a ∧ SqT K H a vs ∧ Reps K H μ ds vs := by
  cases w with
  | val d =>
    cases d with
    | tup ds' =>
      cases e
      cases (show Rep K H μ (.tup ds) v from r) with
      | tup q r' => exact ⟨_, _, rfl, q, r'⟩
    | _ => cases e
  | loc l => cases e
/-- a new tuple -/
theorem new_tup (so : StoreOk K H μ S) {p : Addr} {ds : List D} {vs : List V} (hp : H p = none) (r : Reps K H μ ds vs) : StoreOk K (upd H p (.tup vs)) μ S ∧ Step H μ (upd H p (.tup vs)) μ ∧ RepW K (upd H p (.tup vs)) μ (.val (.tup ds)) (.ref p) := by
  have st : Step H μ (upd H p (.tup vs)) μ := .alloc hp
  refine ⟨⟨so.len, fun l es h => ?_, so.dead, so.inj⟩, st, .tup (.of upd_same) (r.step so st)⟩
  obtain ⟨a, us, h1, h2, h3⟩ := so.cell l es h
  exact ⟨a, us, h1, by rw [upd_ne (ne_of_none h2 hp)]; exact h2, h3.step so st⟩
theorem StoreOk.alloc (so : StoreOk K H μ S) {p : Addr} {o : HO} (hp : H p = none) : StoreOk K (upd H p o) μ S := by
  have st : Step H μ (upd H p o) μ := .alloc hp
  refine ⟨so.len, fun l es h => ?_, so.dead, so.inj⟩
  obtain ⟨a, us, h1, h2, h3⟩ := so.cell l es h
  exact ⟨a, us, h1, by rw [upd_ne (ne_of_none h2 hp)]; exact h2, h3.step so st⟩
theorem StoreOk.none_mu (so : StoreOk K H μ S) {p : Addr} (hp : H p = none) : some p ∉ μ := fun z => by
  obtain ⟨vs, e⟩ := so.at z
  rw [hp] at e; cases e
/-- a new list that nobody will change -/
theorem new_fl (so : StoreOk K H μ S) {p : Addr} {ds : List D} {vs : List V} (hp : H p = none) (r : Reps K H μ ds vs) : RepW K (upd H p (.lst vs)) μ (.val (.fl ds)) (.ref p) :=
  .fl ⟨upd_same, so.none_mu hp⟩ (r.step so (.alloc hp))
/-- a new cell -/
theorem new_cell (so : StoreOk K H μ S) {p : Addr} {ds : List D} {vs : List V} (hp : H p = none) (r : Reps K H μ ds vs) :
    StoreOk K (upd H p (.lst vs)) (μ ++ [some p]) (S ++ [some ds]) ∧ Step H μ (upd H p (.lst vs)) (μ ++ [some p]) ∧ RepW K (upd H p (.lst vs)) (μ ++ [some p]) (.loc S.length) (.ref p) := by
  have st : Step H μ (upd H p (.lst vs)) (μ ++ [some p]) := by
    refine ⟨fun a u h _ => by rw [upd_ne (ne_of_none h hp)]; exact h, fun a h => ?_, fun l a hl h => ?_, by simp⟩
    · rcases List.mem_append.mp h with h | h
      · exact .inl h
      · have e : some a = some p := by simpa using h
        cases e
        exact .inr hp
    · rwa [List.getElem?_append_left hl] at h
  have old : ∀ {l : Nat} {a : Addr}, (μ ++ [some p])[l]? = some (some a) → (μ[l]? = some (some a)) ∨ (l = μ.length ∧ a = p) := fun {l a} h => by
    by_cases hl : l < μ.length
    · rw [List.getElem?_append_left hl] at h
      exact .inl h
    · rw [List.getElem?_append_right (by omega)] at h
      have h0 : l - μ.length = 0 := by
        cases q : l - μ.length with
        | zero => rfl
        | succ n => rw [q] at h; simp at h
      rw [h0] at h
      cases h
      exact .inr ⟨by omega, rfl⟩
  have np := so.none_mu hp
  have npl : ∀ {l : Nat}, μ[l]? ≠ some (some p) := fun {l} z => np (List.mem_of_getElem? z)
  refine ⟨⟨by simp [so.len], fun l es h => ?_, fun l h => ?_, fun l m a h1 h2 => ?_⟩, st, by show S.length < (μ ++ [some p]).length; rw [List.length_append, so.len]; simp, fun a h => ?_⟩
  · by_cases hl : l < S.length
    · rw [List.getElem?_append_left hl] at h
      obtain ⟨a, us, h1, h2, h3⟩ := so.cell l es h
      exact ⟨a, us, by rw [List.getElem?_append_left (by rw [so.len]; exact hl)]; exact h1, by rw [upd_ne (ne_of_none h2 hp)]; exact h2, h3.step so st⟩
    · rw [List.getElem?_append_right (by omega)] at h
      have h0 : l - S.length = 0 := by
        cases q : l - S.length with
        | zero => rfl
        | succ n => rw [q] at h; simp at h
      rw [h0] at h
      cases h
      have el : l = μ.length := by rw [so.len]; omega
      subst el
      exact ⟨p, vs, by simp, upd_same, r.step so st⟩
  · by_cases hl : l < S.length
    · rw [List.getElem?_append_left hl] at h
      rw [List.getElem?_append_left (by rw [so.len]; exact hl)]
      exact so.dead l h
    · rw [List.getElem?_append_right (by omega)] at h
      cases q : l - S.length with
      | zero => rw [q] at h; cases h
      | succ n => rw [q] at h; simp at h
  · rcases old h1 with q1 | ⟨q1, e1⟩ <;> rcases old h2 with q2 | ⟨q2, e2⟩
    · exact so.inj l m a q1 q2
    · rw [e2] at q1; exact absurd q1 npl
    · rw [e1] at q2; exact absurd q2 npl
    · omega
  · rcases old h with h | ⟨_, e⟩
    · have := (List.getElem?_eq_some_iff.mp h).1
      rw [so.len] at this
      exact absurd this (Nat.lt_irrefl _)
    · rw [e]
/-- a cell is changed -/
theorem set_cell (so : StoreOk K H μ S) {l : Nat} {a : Addr} {ds es : List D} {us : List V} (hs : S[l]? = some (some ds)) (hm : μ[l]? = some (some a)) (r : Reps K H μ es us) :
    StoreOk K (upd H a (.lst us)) μ (S.set l (some es)) ∧ Step H μ (upd H a (.lst us)) μ := by
  have ma : some a ∈ μ := List.mem_of_getElem? hm
  have st : Step H μ (upd H a (.lst us)) μ := ⟨fun b o h n => by rw [upd_ne (fun z => n (by rw [z]; exact ma))]; exact h, fun _ h => .inl h, fun _ _ _ h => h, Nat.le_refl _⟩
  have hl : l < S.length := (List.getElem?_eq_some_iff.mp hs).1
  refine ⟨⟨by rw [List.length_set]; exact so.len, fun m fs h => ?_, fun m h => ?_, so.inj⟩, st⟩
  · by_cases e : l = m
    · subst e
      rw [List.getElem?_set_self hl] at h
      cases h
      exact ⟨a, us, hm, upd_same, r.step so st⟩
    · rw [List.getElem?_set_ne e] at h
      obtain ⟨b, vs, h1, h2, h3⟩ := so.cell m fs h
      refine ⟨b, vs, h1, ?_, h3.step so st⟩
      rw [upd_ne (fun z => e (so.inj l m a hm (by rw [← z]; exact h1)))]
      exact h2
  · by_cases e : l = m
    · subst e
      rw [List.getElem?_set_self hl] at h
      cases h
    · rw [List.getElem?_set_ne e] at h
      exact so.dead m h
/-- a cell is closed: from here on it is data -/
theorem freeze (so : StoreOk K H μ S) {l : Nat} {ds : List D} {v : V} (hs : S[l]? = some (some ds)) (rv : RepW K H μ (.loc l) v) :
    StoreOk K H (μ.set l none) (S.set l none) ∧ Step H μ H (μ.set l none) ∧ RepW K H (μ.set l none) (.val (.fl ds)) v := by
  obtain ⟨a, vs, h1, h2, h3⟩ := so.cell l ds hs
  have hl : l < μ.length := rv.1
  have sub : ∀ {m : Nat} {b : Addr}, (μ.set l none)[m]? = some (some b) → μ[m]? = some (some b) ∧ m ≠ l := fun {m b} h => by
    by_cases e : l = m
    · subst e
      rw [List.getElem?_set_self hl] at h
      cases h
    · rw [List.getElem?_set_ne e] at h
      exact ⟨h, Ne.symm e⟩
  have st : Step H μ H (μ.set l none) := by
    refine ⟨fun _ _ h _ => h, fun b h => ?_, fun m b _ h => (sub h).1, by simp⟩
    obtain ⟨m, hm, e⟩ := List.getElem_of_mem h
    have e1 : (μ.set l none)[m]? = some (some b) := by rw [List.getElem?_eq_getElem hm, e]
    exact .inl (List.mem_of_getElem? (sub e1).1)
  refine ⟨⟨by simp [so.len], fun m fs h => ?_, fun m h => ?_, fun m n b x y => so.inj m n b (sub x).1 (sub y).1⟩, st, ?_⟩
  · by_cases e : l = m
    · subst e
      rw [List.getElem?_set_self (by rw [← so.len]; exact hl)] at h
      cases h
    · rw [List.getElem?_set_ne e] at h
      obtain ⟨b, us, q1, q2, q3⟩ := so.cell m fs h
      exact ⟨b, us, by rw [List.getElem?_set_ne e]; exact q1, q2, q3.step so st⟩
  · by_cases e : l = m
    · subst e
      rw [List.getElem?_set_self hl]
    · rw [List.getElem?_set_ne e] at h ⊢
      exact so.dead m h
  · rw [rv.2 a h1]
    refine .fl ⟨h2, fun z => ?_⟩ (h3.step so st)
    obtain ⟨m, hm, e⟩ := List.getElem_of_mem z
    have e1 : (μ.set l none)[m]? = some (some a) := by rw [List.getElem?_eq_getElem hm, e]
    exact (sub e1).2 (so.inj m l a (sub e1).1 h1)
end
end HM

set_option Elab.async false
set_option linter.all false
set_option maxRecDepth 100000
namespace HM
open PySem PySem.Spec L2
open PyProof.Rows hiding St

/-! ### argument lists and displays -/
def aNil : AM := fun _ S => some ([], S)
def aCons (m : EM) (r : AM) : AM := fun ρ S => match m ρ S with
  | some (w, S1) => match r ρ S1 with
    | some (ws, S2) => some (w :: ws, S2)
    | none => none
  | none => none
def vals? : List W → Option (List D)
  | [] => some []
  | .val d :: r => (vals? r).map (d :: ·)
  | .loc _ :: _ => none
theorem vals?_ok {K : PySem.W.Frag} {H : Hp} {μ : Mu} : ∀ {ws : List W} {ds : List D} {vs : List V}, vals? ws = some ds → RepWs K H μ ws vs → Reps K H μ ds vs
  | [], _, _, e, .nil => by cases e; exact .nil
  | .val d :: r, _, _, e, .cons h t => by
    unfold vals? at e
    cases q : vals? r with
    | none => rw [q] at e; cases e
    | some es =>
      rw [q] at e
      cases e
      exact .cons h (vals?_ok q t)
  | .loc _ :: _, _, _, e, _ => by cases e
/-- a display: a tuple, a list that nobody changes, a list that may change -/
def mTup (a : AM) : EM := fun ρ S => match a ρ S with
  | some (ws, S1) => match vals? ws with
    | some ds => if ds.length ≤ sizeLine then some (.val (.tup ds), S1) else none
    | none => none
  | none => none
def mFl (a : AM) : EM := fun ρ S => match a ρ S with
  | some (ws, S1) => match vals? ws with
    | some ds => if ds.length ≤ sizeLine then some (.val (.fl ds), S1) else none
    | none => none
  | none => none
def mCell (a : AM) : EM := fun ρ S => match a ρ S with
  | some (ws, S1) => match vals? ws with
    | some ds => if ds.length ≤ sizeLine then some (.loc S1.length, S1 ++ [some ds]) else none
    | none => none
  | none => none
section
variable {X : Cx} {e : Expr} {es : List Expr} {m : EM} {r : AM} {pos : Pos}
theorem ma_nil : PA X [] (tA X.K aNil) := PA.imp pa_nil fun σ H Q q => by
  obtain ⟨μ, ρ, S, ws, S', ok, e, k⟩ := q
  cases e
  exact k μ [] H ok.so .refl .nil
theorem ma_cons (h : PE X e (tM X.K m)) (hr : PA X es (tA X.K r)) (hs : starEach (e :: es) X.env = (false, eval e X.env) :: starEach es X.env := by rfl) : PA X (e :: es) (tA X.K (aCons m r)) := by
  refine PA.imp (pa_cons h hr hs) fun σ H Q q => ?_
  obtain ⟨μ, ρ, S, ws, S', ok, e, k⟩ := q
  unfold aCons at e
  split at e
  · rename_i w S1 e1
    split at e
    · rename_i us S2 e2
      cases e
      refine ⟨μ, ρ, S, w, S1, ok, e1, fun μ1 v1 H1 so1 st1 r1 => ?_⟩
      refine ⟨μ1, ρ, S1, us, _, ok.next so1 st1, e2, fun μ2 vs H2 so2 st2 r2 => ?_⟩
      exact k μ2 (v1 :: vs) H2 so2 (st1.trans st2) (.cons (r1.step so1 st2) r2)
    · cases e
  · cases e
theorem me_tup {x1} (h : PA X es (tA X.K r)) : PE X (.Tuple es x1 pos) (tM X.K (mTup r)) := by
  refine PE.imp (pe_tup h) fun σ H Q q => ?_
  obtain ⟨μ, ρ, S, w, S', ok, e, k⟩ := q
  unfold mTup at e
  split at e
  · rename_i ws S1 e1
    split at e
    · rename_i ds e2
      split at e
      · rename_i hz
        cases e
        refine ⟨μ, ρ, S, ws, _, ok, e1, fun μ1 vs H1 so1 st1 r1 => ?_⟩
        have rs := vals?_ok e2 r1
        refine ⟨by rw [← rs.length]; exact hz, fun p hp => ?_⟩
        obtain ⟨a, b, c⟩ := new_tup so1 hp rs
        exact k μ1 _ _ a (st1.trans b) c
      · cases e
    · cases e
  · cases e
theorem me_fl (h : PA X es (tA X.K r)) : PE X (.List es pos) (tM X.K (mFl r)) := by
  refine PE.imp (pe_lst h) fun σ H Q q => ?_
  obtain ⟨μ, ρ, S, w, S', ok, e, k⟩ := q
  unfold mFl at e
  split at e
  · rename_i ws S1 e1
    split at e
    · rename_i ds e2
      split at e
      · rename_i hz
        cases e
        refine ⟨μ, ρ, S, ws, _, ok, e1, fun μ1 vs H1 so1 st1 r1 => ?_⟩
        have rs := vals?_ok e2 r1
        refine ⟨by rw [← rs.length]; exact hz, fun p hp => ?_⟩
        exact k μ1 _ _ (so1.alloc hp) (st1.trans (.alloc hp)) (new_fl so1 hp rs)
      · cases e
    · cases e
  · cases e
theorem me_cell (h : PA X es (tA X.K r)) : PE X (.List es pos) (tM X.K (mCell r)) := by
  refine PE.imp (pe_lst h) fun σ H Q q => ?_
  obtain ⟨μ, ρ, S, w, S', ok, e, k⟩ := q
  unfold mCell at e
  split at e
  · rename_i ws S1 e1
    split at e
    · rename_i ds e2
      split at e
      · rename_i hz
        cases e
        refine ⟨μ, ρ, S, ws, _, ok, e1, fun μ1 vs H1 so1 st1 r1 => ?_⟩
        have rs := vals?_ok e2 r1
        refine ⟨by rw [← rs.length]; exact hz, fun p hp => ?_⟩
        obtain ⟨a, b, c⟩ := new_cell so1 hp rs
        exact k _ _ _ a (st1.trans b) c
      · cases e
    · cases e
  · cases e
/-- from here on the list is data -/
def mFreeze (m : EM) : EM := fun ρ S => match m ρ S with
  | some (.loc l, S1) => match (S1[l]?).getD none with
    | some ds => some (.val (.fl ds), S1.set l none)
    | none => none
  | _ => none
theorem me_freeze (h : PE X e (tM X.K m)) : PE X e (tM X.K (mFreeze m)) := by
  refine PE.imp h fun σ H Q q => ?_
  obtain ⟨μ, ρ, S, w, S', ok, e, k⟩ := q
  unfold mFreeze at e
  split at e
  · rename_i l S1 e1
    split at e
    · rename_i ds e2
      cases e
      refine ⟨μ, ρ, S, _, _, ok, e1, fun μ1 v H1 so1 st1 r1 => ?_⟩
      have e3 : S1[l]? = some (some ds) := by
        cases q : S1[l]? with
        | none => rw [q] at e2; cases e2
        | some c =>
          rw [q] at e2
          obtain rfl : c = some ds := e2
          rfl
      obtain ⟨a, b, c⟩ := freeze so1 e3 r1
      exact k _ _ _ a (st1.trans b) c
    · cases e
  · cases e
end

/-! ### ints -/
def fI (c : Int → Int → Bool) (g : Int → Int → Int) : F2 := fun x y S => match x, y with
  | .val (.int i), .val (.int j) => if c i j then some (.val (.int (g i j)), S) else none
  | _, _ => none
def fB (g : Int → Int → Bool) : F2 := fun x y S => match x, y with
  | .val (.int i), .val (.int j) => some (.val (.bl (g i j)), S)
  | _, _ => none
section
variable {K : PySem.W.Frag}
theorem op2_I {C : Int → Int → Prop} {c : Int → Int → Bool} {g : Int → Int → Int} (hc : ∀ i j, c i j = true → C i j) : Op2 K (rI C fun i j => .int (g i j)) (fI c g) := by
  intro μ S H x y v u w S' Q so rx ry e k
  unfold fI at e
  split at e
  · rename_i i j
    split at e
    · rename_i h
      cases e
      cases rx
      cases ry
      exact ⟨i, j, rfl, rfl, hc i j h, k μ _ H so .refl (.int _)⟩
    · cases e
  · cases e
theorem op2_I0 {g : Int → Int → Int} : Op2 K (rI0 fun i j => .int (g i j)) (fI (fun _ _ => true) g) := by
  intro μ S H x y v u w S' Q so rx ry e k
  unfold fI at e
  split at e
  · rename_i i j
    rw [if_pos rfl] at e
    cases e
    cases rx
    cases ry
    exact ⟨i, j, rfl, rfl, k μ _ H so .refl (.int _)⟩
  · cases e
theorem op2_B {g : Int → Int → Bool} : Op2 K (rI0 fun i j => .bl (g i j)) (fB g) := by
  intro μ S H x y v u w S' Q so rx ry e k
  unfold fB at e
  split at e
  · rename_i i j
    cases e
    cases rx
    cases ry
    exact ⟨i, j, rfl, rfl, k μ _ H so .refl (.bl _)⟩
  · cases e
theorem Op2.or {r r' : R2} {f : F2} {f' : F2} (h : Op2 K r f) (h' : Op2 K r' f') : Op2 K (fun x y H Q => r x y H Q ∨ r' x y H Q) (fun x y S => (f x y S).orElse fun _ => f' x y S) := by
  intro μ S H x y v u w S' Q so rx ry e k
  have e : (f x y S).orElse (fun _ => f' x y S) = some (w, S') := e
  cases q : f x y S with
  | some p =>
    rw [q] at e
    obtain rfl : p = (w, S') := Option.some.inj e
    exact .inl (h μ S H x y v u w S' Q so rx ry q k)
  | none =>
    rw [q] at e
    exact .inr (h' μ S H x y v u w S' Q so rx ry e k)
end
/-- a product that the machine makes -/
def cMul (i j : Int) : Bool := decide (i.natAbs.log2 + j.natAbs.log2 < 1000000)
theorem cMul_ok (i j : Int) (h : cMul i j = true) : CMulW i j := by
  unfold cMul at h
  exact of_decide_eq_true (p := i.natAbs.log2 + j.natAbs.log2 < 1000000) h
/-- a quotient that the machine makes in one go -/
def cDiv (i j : Int) : Bool := decide (0 < j) && decide (j.natAbs.log2 < 9000)
theorem cDiv_ok (i j : Int) (h : cDiv i j = true) : CDivW i j := by
  unfold cDiv at h
  rw [Bool.and_eq_true] at h
  exact ⟨of_decide_eq_true h.1, of_decide_eq_true h.2⟩
def fAdd : F2 := fI (fun _ _ => true) (· + ·)
def fSub : F2 := fI (fun _ _ => true) (· - ·)
def fMul : F2 := fI cMul (· * ·)
def fDiv : F2 := fI cDiv (· / ·)
def fMod : F2 := fI (fun _ j => decide (0 < j)) (· % ·)
/-- t + u -/
def fCatT : F2 := fun x y S => match tItems x, tItems y with
  | some ds, some es => if ds.length + es.length ≤ sizeLine then some (.val (.tup (ds ++ es)), S) else none
  | _, _ => none
/-- xs + ys -/
def fCatL : F2 := fun x y S => match lOwn x S, lOwn y S with
  | some ds, some es => if ds.length + es.length ≤ sizeLine then some (.val (.fl (ds ++ es)), S) else none
  | _, _ => none
where
  lOwn (w : W) (S : Sto) : Option (List D) := match w with
    | .val (.fl ds) => some ds
    | .loc l => (S[l]?).getD none
    | _ => none
section
variable {K : PySem.W.Frag} {H : Hp} {μ : Mu} {S : Sto}
theorem lOwn_ok (so : StoreOk K H μ S) {w : W} {v : V} {ds : List D} (r : RepW K H μ w v) (e : fCatL.lOwn w S = some ds) : ∃ a vs, v = .ref a ∧ H a = some (.lst vs) ∧ Reps K H μ ds vs := by
  cases w with
  | val d =>
    cases d with
    | fl ds' =>
      cases e
      cases (show Rep K H μ (.fl ds) v from r) with
      | fl q r' => exact ⟨_, _, rfl, q.1, r'⟩
    | _ => cases e
  | loc l =>
    have e' : (S[l]?).getD none = some ds := e
    cases q : S[l]? with
    | none => rw [q] at e'; cases e'
    | some c =>
      rw [q] at e'
      obtain rfl : c = some ds := e'
      obtain ⟨a, vs, h1, h2, h3⟩ := so.cell l ds q
      exact ⟨a, vs, r.2 a h1, h2, h3⟩
end
section
variable {X : Cx}
theorem op2_catT {K : PySem.W.Frag} : Op2 K (rCatA K) fCatT := by
  intro μ S H x y v u w S' Q so rx ry e k
  unfold fCatT at e
  split at e
  · rename_i ds es e1 e2
    split at e
    · rename_i hz
      cases e
      obtain ⟨a, xs, rfl, qa, ra⟩ := tItems_ok rx e1
      obtain ⟨b, ys, rfl, qb, rb⟩ := tItems_ok ry e2
      refine ⟨a, b, xs, ys, rfl, rfl, qa, qb, by rw [← ra.length, ← rb.length]; exact hz, fun h => ?_, fun _ h => ?_, fun _ _ p hp => ?_⟩
      · subst h
        cases ra
        exact k μ _ H so .refl (.tup qb rb)
      · subst h
        cases rb
        rw [List.append_nil] at k
        exact k μ _ H so .refl (.tup qa ra)
      · obtain ⟨s1, s2, s3⟩ := new_tup so hp (ra.append rb)
        exact k μ _ _ s1 s2 s3
    · cases e
  · cases e
theorem op2_catL {K : PySem.W.Frag} : Op2 K rCat fCatL := by
  intro μ S H x y v u w S' Q so rx ry e k
  unfold fCatL at e
  split at e
  · rename_i ds es e1 e2
    split at e
    · rename_i hz
      cases e
      obtain ⟨a, xs, rfl, qa, ra⟩ := lOwn_ok so rx e1
      obtain ⟨b, ys, rfl, qb, rb⟩ := lOwn_ok so ry e2
      refine ⟨a, b, xs, ys, rfl, rfl, qa, qb, by rw [← ra.length, ← rb.length]; exact hz, fun p hp => ?_⟩
      exact k μ _ _ (so.alloc hp) (.alloc hp) (new_fl so hp (ra.append rb))
    · cases e
  · cases e
/-- + of whatever it is -/
def fPlus : F2 := fun x y S => (fAdd x y S).orElse fun _ => (fCatT x y S).orElse fun _ => fCatL x y S
def rPlus (K : PySem.W.Frag) : R2 := fun x y H Q => (rI0 fun i j => .int (i + j)) x y H Q ∨ (rCatA K x y H Q ∨ rCat x y H Q)
theorem op_plus : OpR X (binaryOp .Add) (rPlus X.K) := op_add.or (op_catA.or op_cat)
theorem op2_plus {K : PySem.W.Frag} : Op2 K (rPlus K) fPlus := op2_I0.or (op2_catT.or op2_catL)
variable {a b c : Expr} {pos : Pos} {ma mb mc : EM}
theorem me_add (ha : PE X a (tM X.K ma)) (hb : PE X b (tM X.K mb)) : PE X (.BinOp a .Add b pos) (tM X.K (mBin fPlus ma mb)) := me_op op_plus op2_plus ha hb
theorem me_sub (ha : PE X a (tM X.K ma)) (hb : PE X b (tM X.K mb)) : PE X (.BinOp a .Sub b pos) (tM X.K (mBin fSub ma mb)) := me_op op_sub op2_I0 ha hb
theorem me_mul (ha : PE X a (tM X.K ma)) (hb : PE X b (tM X.K mb)) : PE X (.BinOp a .Mult b pos) (tM X.K (mBin fMul ma mb)) := me_op op_mulW (op2_I cMul_ok) ha hb
theorem me_div (ha : PE X a (tM X.K ma)) (hb : PE X b (tM X.K mb)) : PE X (.BinOp a .FloorDiv b pos) (tM X.K (mBin fDiv ma mb)) := me_op op_fdivW (op2_I cDiv_ok) ha hb
theorem me_mod (ha : PE X a (tM X.K ma)) (hb : PE X b (tM X.K mb)) : PE X (.BinOp a .Mod b pos) (tM X.K (mBin fMod ma mb)) := me_op op_mod (op2_I fun _ _ h => of_decide_eq_true h) ha hb
/-- - x -/
def mNeg (m : EM) : EM := fun ρ S => match m ρ S with
  | some (.val (.int i), S1) => some (.val (.int (-i)), S1)
  | _ => none
theorem me_neg (ha : PE X a (tM X.K ma)) : PE X (.UnaryOp .USub a pos) (tM X.K (mNeg ma)) := by
  refine PE.imp (pe_un un_neg ha) fun σ H Q q => ?_
  obtain ⟨μ, ρ, S, w, S', ok, e, k⟩ := q
  unfold mNeg at e
  split at e
  · rename_i i S1 e1
    cases e
    refine ⟨μ, ρ, S, _, _, ok, e1, fun μ1 v H1 so1 st1 r1 => ?_⟩
    cases r1
    exact ⟨i, rfl, k μ1 _ H1 so1 st1 (.int _)⟩
  · cases e

/-! ### == and != of data -/
mutual
def D.py : D → PyData
  | .non => .none
  | .bl b => .bool b
  | .int i => .int i
  | .str x => .str x
  | .tup ds => .tuple (pyAll ds)
  | .fl ds => .list (pyAll ds)
  | .scr ns => .list (ns.map .int)
  | .dct ks ds => .dict ((ks.map PyData.str).zip (pyAll ds))
  | .exc0 _ => .none
  | .exc1 _ _ _ => .none
def pyAll : List D → List PyData
  | [] => []
  | d :: r => d.py :: pyAll r
end
mutual
/-- no dict, no error within -/
def D.plain : D → Bool
  | .tup ds => plainAll ds
  | .fl ds => plainAll ds
  | .dct _ _ => false
  | .exc0 _ => false
  | .exc1 _ _ _ => false
  | _ => true
def plainAll : List D → Bool
  | [] => true
  | d :: r => d.plain && plainAll r
end
def W.py (w : W) (S : Sto) : Option PyData := match w with
  | .val d => if d.plain then some d.py else none
  | .loc l => match (S[l]?).getD none with
    | some ds => if plainAll ds then some (.list (pyAll ds)) else none
    | none => none
theorem dpInts {K : PySem.W.Frag} {H : Hp} : ∀ ns : List Int, DpAll K H (ns.map V.int) (ns.map PyData.int)
  | [] => .nil
  | n :: r => .cons (.int n) (dpInts r)
mutual
theorem Rep.dp {K : PySem.W.Frag} {H : Hp} {μ : Mu} : ∀ {d : D} {v : V}, d.plain = true → Rep K H μ d v → Dp K H v d.py
  | _, _, _, .non => by unfold D.py; exact .non
  | _, _, _, .bl b => by unfold D.py; exact .bl b
  | _, _, _, .int i => by unfold D.py; exact .int i
  | _, _, _, .str x => by unfold D.py; exact .str x
  | _, _, h, .tup q r => by unfold D.plain at h; unfold D.py; exact .tup q (Reps.dp h r)
  | _, _, h, .fl q r => by unfold D.plain at h; unfold D.py; exact .lst q.sqL (Reps.dp h r)
  | _, _, _, .scr q => by unfold D.py; exact .lst q.sqL (dpInts _)
  | _, _, h, .dct _ _ _ => by unfold D.plain at h; cases h
  | _, _, h, .exc0 _ _ => by unfold D.plain at h; cases h
  | _, _, h, .exc1 _ _ _ _ => by unfold D.plain at h; cases h
theorem Reps.dp {K : PySem.W.Frag} {H : Hp} {μ : Mu} : ∀ {ds : List D} {vs : List V}, plainAll ds = true → Reps K H μ ds vs → DpAll K H vs (pyAll ds)
  | _, _, _, .nil => by unfold pyAll; exact .nil
  | _, _, h, .cons r t => by
    unfold plainAll at h
    rw [Bool.and_eq_true] at h
    unfold pyAll
    exact .cons (Rep.dp h.1 r) (Reps.dp h.2 t)
end
theorem W.dp {K : PySem.W.Frag} {H : Hp} {μ : Mu} {S : Sto} (so : StoreOk K H μ S) {w : W} {v : V} {p : PyData} (r : RepW K H μ w v) (e : w.py S = some p) : Dp K H v p := by
  cases w with
  | val d =>
    have e' : (if d.plain = true then some d.py else none) = some p := e
    split at e'
    · rename_i h
      cases e'
      exact Rep.dp h r
    · cases e'
  | loc l =>
    unfold W.py at e
    simp only at e
    split at e
    · rename_i ds q
      split at e
      · rename_i h
        cases e
        have hs : S[l]? = some (some ds) := by
          cases z : S[l]? with
          | none => rw [z] at q; cases q
          | some c =>
            rw [z] at q
            obtain rfl : c = some ds := q
            rfl
        obtain ⟨a, vs, h1, h2, h3⟩ := so.cell l ds hs
        rw [r.2 a h1]
        exact .lst (.of h2) (Reps.dp h h3)
      · cases e
    · cases e
def fEqD (neg : Bool) : F2 := fun x y S => match x.py S, y.py S with
  | some d, some e => if SeqAt.shaped d && SeqAt.shaped e then some (.val (.bl (if neg then !PyData.eqv d e else PyData.eqv d e)), S) else none
  | _, _ => none
theorem op2_eqD {K : PySem.W.Frag} : Op2 K (rEqD K) (fEqD false) := by
  intro μ S H x y v u w S' Q so rx ry e k
  unfold fEqD at e
  split at e
  · rename_i d e' e1 e2
    split at e
    · rename_i h
      rw [Bool.and_eq_true] at h
      cases e
      exact ⟨d, e', W.dp so rx e1, W.dp so ry e2, h.1, h.2, k μ _ H so .refl (.bl _)⟩
    · cases e
  · cases e
theorem op2_neD {K : PySem.W.Frag} : Op2 K (rNeD K) (fEqD true) := by
  intro μ S H x y v u w S' Q so rx ry e k
  unfold fEqD at e
  split at e
  · rename_i d e' e1 e2
    split at e
    · rename_i h
      rw [Bool.and_eq_true] at h
      cases e
      exact ⟨d, e', W.dp so rx e1, W.dp so ry e2, h.1, h.2, k μ _ H so .refl (.bl _)⟩
    · cases e
  · cases e
end
end HM

set_option Elab.async false
set_option linter.all false
set_option maxRecDepth 100000
namespace HM
open PySem PySem.Spec L2
open PyProof.Rows hiding St

/-! ### tests -/
theorem itT {P Q : Prop} (h : P) : if true = true then P else Q := by rw [if_pos rfl]; exact h
theorem itF {P Q : Prop} (h : Q) : if false = true then P else Q := by rw [if_neg Bool.false_ne_true]; exact h
def mtAnd (t u : TM) : TM := fun ρ S => match t ρ S with
  | some (true, S1) => u ρ S1
  | some (false, S1) => some (false, S1)
  | none => none
def mtOr (t u : TM) : TM := fun ρ S => match t ρ S with
  | some (true, S1) => some (true, S1)
  | some (false, S1) => u ρ S1
  | none => none
def mtNot (t : TM) : TM := fun ρ S => match t ρ S with
  | some (b, S1) => some (!b, S1)
  | none => none
def mAnd (m n : EM) : EM := fun ρ S => match m ρ S with
  | some (.val (.bl true), S1) => n ρ S1
  | some (.val (.bl false), S1) => some (.val (.bl false), S1)
  | _ => none
def mOr (m n : EM) : EM := fun ρ S => match m ρ S with
  | some (.val (.bl true), S1) => some (.val (.bl true), S1)
  | some (.val (.bl false), S1) => n ρ S1
  | _ => none
def mNot (m : EM) : EM := fun ρ S => match m ρ S with
  | some (.val (.bl b), S1) => some (.val (.bl (!b)), S1)
  | _ => none
def mIf (t : TM) (m n : EM) : EM := fun ρ S => match t ρ S with
  | some (true, S1) => m ρ S1
  | some (false, S1) => n ρ S1
  | none => none
section
variable {X : Cx} {a b c : Expr} {rest : List Expr} {pos : Pos} {t u : TM} {m n : EM}
theorem mw_and1 (h : PT X a (tT X.K t)) : PW X (.BoolOp .And [a] pos) (tT X.K t) := pw_and1 h
theorem mw_or1 (h : PT X a (tT X.K t)) : PW X (.BoolOp .Or [a] pos) (tT X.K t) := pw_or1 h
theorem mw_and (ha : PT X a (tT X.K t)) (hb : PW X (.BoolOp .And (b :: rest) pos) (tT X.K u)) : PW X (.BoolOp .And (a :: b :: rest) pos) (tT X.K (mtAnd t u)) := by
  refine PW.imp (pw_and ha hb) fun σ H Q q => ?_
  obtain ⟨μ, ρ, S, w, S', ok, e, k⟩ := q
  unfold mtAnd at e
  split at e
  · rename_i S1 e1
    exact ⟨μ, ρ, S, true, S1, ok, e1, fun μ1 H1 so1 st1 => by
      refine itT ?_
      exact ⟨μ1, ρ, S1, w, S', ok.next so1 st1, e, fun μ2 H2 so2 st2 => k μ2 H2 so2 (st1.trans st2)⟩⟩
  · rename_i S1 e1
    cases e
    exact ⟨μ, ρ, S, false, _, ok, e1, fun μ1 H1 so1 st1 => by
      refine itF ?_
      exact k μ1 H1 so1 st1⟩
  · cases e
theorem mw_or (ha : PT X a (tT X.K t)) (hb : PW X (.BoolOp .Or (b :: rest) pos) (tT X.K u)) : PW X (.BoolOp .Or (a :: b :: rest) pos) (tT X.K (mtOr t u)) := by
  refine PW.imp (pw_or ha hb) fun σ H Q q => ?_
  obtain ⟨μ, ρ, S, w, S', ok, e, k⟩ := q
  unfold mtOr at e
  split at e
  · rename_i S1 e1
    cases e
    exact ⟨μ, ρ, S, true, _, ok, e1, fun μ1 H1 so1 st1 => by
      refine itT ?_
      exact k μ1 H1 so1 st1⟩
  · rename_i S1 e1
    exact ⟨μ, ρ, S, false, S1, ok, e1, fun μ1 H1 so1 st1 => by
      refine itF ?_
      exact ⟨μ1, ρ, S1, w, S', ok.next so1 st1, e, fun μ2 H2 so2 st2 => k μ2 H2 so2 (st1.trans st2)⟩⟩
  · cases e
theorem mt_w (h : PW X a (tT X.K t)) : PT X a (tT X.K t) := h.pt
theorem mt_not (ha : PT X a (tT X.K t)) : PT X (.UnaryOp .Not a pos) (tT X.K (mtNot t)) := by
  refine PT.imp (pt_not ha) fun σ H Q q => ?_
  obtain ⟨μ, ρ, S, w, S', ok, e, k⟩ := q
  unfold mtNot at e
  split at e
  · rename_i d S1 e1
    cases e
    exact ⟨μ, ρ, S, d, _, ok, e1, fun μ1 H1 so1 st1 => k μ1 H1 so1 st1⟩
  · cases e
theorem me_one {op} (h : PE X a (tM X.K m)) : PE X (.BoolOp op [a] pos) (tM X.K m) := pe_one h
theorem me_and (ha : PE X a (tM X.K m)) (hb : PE X (.BoolOp .And (b :: rest) pos) (tM X.K n)) : PE X (.BoolOp .And (a :: b :: rest) pos) (tM X.K (mAnd m n)) := by
  refine PE.imp (pe_and ha hb) fun σ H Q q => ?_
  obtain ⟨μ, ρ, S, w, S', ok, e, k⟩ := q
  unfold mAnd at e
  split at e
  · rename_i S1 e1
    exact ⟨μ, ρ, S, _, S1, ok, e1, fun μ1 v H1 so1 st1 r1 => by
      cases r1
      refine ⟨true, rfl, ?_⟩
      refine itT ?_
      exact ⟨μ1, ρ, S1, w, S', ok.next so1 st1, e, fun μ2 z H2 so2 st2 => k μ2 z H2 so2 (st1.trans st2)⟩⟩
  · rename_i S1 e1
    cases e
    exact ⟨μ, ρ, S, _, _, ok, e1, fun μ1 v H1 so1 st1 r1 => by
      cases r1
      refine ⟨false, rfl, ?_⟩
      refine itF ?_
      exact k μ1 _ H1 so1 st1 (.bl _)⟩
  · cases e
theorem me_or (ha : PE X a (tM X.K m)) (hb : PE X (.BoolOp .Or (b :: rest) pos) (tM X.K n)) : PE X (.BoolOp .Or (a :: b :: rest) pos) (tM X.K (mOr m n)) := by
  refine PE.imp (pe_or ha hb) fun σ H Q q => ?_
  obtain ⟨μ, ρ, S, w, S', ok, e, k⟩ := q
  unfold mOr at e
  split at e
  · rename_i S1 e1
    cases e
    exact ⟨μ, ρ, S, _, _, ok, e1, fun μ1 v H1 so1 st1 r1 => by
      cases r1
      refine ⟨true, rfl, ?_⟩
      refine itT ?_
      exact k μ1 _ H1 so1 st1 (.bl _)⟩
  · rename_i S1 e1
    exact ⟨μ, ρ, S, _, S1, ok, e1, fun μ1 v H1 so1 st1 r1 => by
      cases r1
      refine ⟨false, rfl, ?_⟩
      refine itF ?_
      exact ⟨μ1, ρ, S1, w, S', ok.next so1 st1, e, fun μ2 z H2 so2 st2 => k μ2 z H2 so2 (st1.trans st2)⟩⟩
  · cases e
theorem me_not (ha : PE X a (tM X.K m)) : PE X (.UnaryOp .Not a pos) (tM X.K (mNot m)) := by
  refine PE.imp (pe_not ha) fun σ H Q q => ?_
  obtain ⟨μ, ρ, S, w, S', ok, e, k⟩ := q
  unfold mNot at e
  split at e
  · rename_i d S1 e1
    cases e
    exact ⟨μ, ρ, S, _, _, ok, e1, fun μ1 v H1 so1 st1 r1 => by
      cases r1
      exact ⟨d, rfl, k μ1 _ H1 so1 st1 (.bl _)⟩⟩
  · cases e
theorem me_if (hc : PT X c (tT X.K t)) (ha : PE X a (tM X.K m)) (hb : PE X b (tM X.K n)) : PE X (.IfExp c a b pos) (tM X.K (mIf t m n)) := by
  refine PE.imp (pe_ifExp hc ha hb) fun σ H Q q => ?_
  obtain ⟨μ, ρ, S, w, S', ok, e, k⟩ := q
  unfold mIf at e
  split at e
  · rename_i S1 e1
    exact ⟨μ, ρ, S, true, S1, ok, e1, fun μ1 H1 so1 st1 => by
      refine itT ?_
      exact ⟨μ1, ρ, S1, w, S', ok.next so1 st1, e, fun μ2 z H2 so2 st2 => k μ2 z H2 so2 (st1.trans st2)⟩⟩
  · rename_i S1 e1
    exact ⟨μ, ρ, S, false, S1, ok, e1, fun μ1 H1 so1 st1 => by
      refine itF ?_
      exact ⟨μ1, ρ, S1, w, S', ok.next so1 st1, e, fun μ2 z H2 so2 st2 => k μ2 z H2 so2 (st1.trans st2)⟩⟩
  · cases e
end

/-! ### comparisons -/
def fLt : F2 := fB fun i j => decide (i < j)
def fLe : F2 := fB fun i j => decide (i ≤ j)
def fGt : F2 := fB fun i j => decide (j < i)
def fGe : F2 := fB fun i j => decide (j ≤ i)
/-- == and != of ints at once, of data by their contents -/
def fEq : F2 := fEqD false
def fNe : F2 := fEqD true
section
variable {X : Cx} {pins : List (Addr × Obj)} {σ : L2.St} {H : Hp} {s : Shared}
theorem op_ltI : OpR X (compareOp .Lt) (rI0 fun i j => .bl (decide (i < j))) := fun pins s σ H x y v u Q I rx ry h => by
  obtain ⟨i, j, rfl, rfl, q⟩ := h
  obtain ⟨t, rfl⟩ := rx
  obtain ⟨t', rfl⟩ := ry
  exact lt_int ⟨.bl _, H, I, rfl, q⟩
theorem op_leI : OpR X (compareOp .LtE) (rI0 fun i j => .bl (decide (i ≤ j))) := fun pins s σ H x y v u Q I rx ry h => by
  obtain ⟨i, j, rfl, rfl, q⟩ := h
  obtain ⟨t, rfl⟩ := rx
  obtain ⟨t', rfl⟩ := ry
  exact le_int ⟨.bl _, H, I, rfl, q⟩
theorem op_gtI : OpR X (compareOp .Gt) (rI0 fun i j => .bl (decide (j < i))) := fun pins s σ H x y v u Q I rx ry h => by
  obtain ⟨i, j, rfl, rfl, q⟩ := h
  obtain ⟨t, rfl⟩ := rx
  obtain ⟨t', rfl⟩ := ry
  exact gt_int ⟨.bl _, H, I, rfl, q⟩
theorem op_geI : OpR X (compareOp .GtE) (rI0 fun i j => .bl (decide (j ≤ i))) := fun pins s σ H x y v u Q I rx ry h => by
  obtain ⟨i, j, rfl, rfl, q⟩ := h
  obtain ⟨t, rfl⟩ := rx
  obtain ⟨t', rfl⟩ := ry
  exact ge_int ⟨.bl _, H, I, rfl, q⟩
variable {a b c : Expr} {pos : Pos} {ma mb mc : EM}
theorem me_lt (ha : PE X a (tM X.K ma)) (hb : PE X b (tM X.K mb)) : PE X (.Compare a [.Lt] [b] pos) (tM X.K (mBin fLt ma mb)) := me_cmp op_ltI op2_B ha hb (nomark _)
theorem me_le (ha : PE X a (tM X.K ma)) (hb : PE X b (tM X.K mb)) : PE X (.Compare a [.LtE] [b] pos) (tM X.K (mBin fLe ma mb)) := me_cmp op_leI op2_B ha hb (nomark _)
theorem me_gt (ha : PE X a (tM X.K ma)) (hb : PE X b (tM X.K mb)) : PE X (.Compare a [.Gt] [b] pos) (tM X.K (mBin fGt ma mb)) := me_cmp op_gtI op2_B ha hb (nomark _)
theorem me_ge (ha : PE X a (tM X.K ma)) (hb : PE X b (tM X.K mb)) : PE X (.Compare a [.GtE] [b] pos) (tM X.K (mBin fGe ma mb)) := me_cmp op_geI op2_B ha hb (nomark _)
theorem me_eq (hu : X.A.units + 64 < cLine) (ha : PE X a (tM X.K ma)) (hb : PE X b (tM X.K mb)) : PE X (.Compare a [.Eq] [b] pos) (tM X.K (mBin fEq ma mb)) := me_cmp (op_eqD hu) op2_eqD ha hb (nomark _)
theorem me_ne (hu : X.A.units + 64 < cLine) (ha : PE X a (tM X.K ma)) (hb : PE X b (tM X.K mb)) : PE X (.Compare a [.NotEq] [b] pos) (tM X.K (mBin fNe ma mb)) := me_cmp (op_neD hu) op2_neD ha hb (nomark _)
theorem mt_lt (ha : PE X a (tM X.K ma)) (hb : PE X b (tM X.K mb)) : PT X (.Compare a [.Lt] [b] pos) (tT X.K (mTest (mBin fLt ma mb))) := mt_cmp op_ltI op2_B ha hb (nomark _)
theorem mt_le (ha : PE X a (tM X.K ma)) (hb : PE X b (tM X.K mb)) : PT X (.Compare a [.LtE] [b] pos) (tT X.K (mTest (mBin fLe ma mb))) := mt_cmp op_leI op2_B ha hb (nomark _)
theorem mt_gt (ha : PE X a (tM X.K ma)) (hb : PE X b (tM X.K mb)) : PT X (.Compare a [.Gt] [b] pos) (tT X.K (mTest (mBin fGt ma mb))) := mt_cmp op_gtI op2_B ha hb (nomark _)
theorem mt_ge (ha : PE X a (tM X.K ma)) (hb : PE X b (tM X.K mb)) : PT X (.Compare a [.GtE] [b] pos) (tT X.K (mTest (mBin fGe ma mb))) := mt_cmp op_geI op2_B ha hb (nomark _)
theorem mt_eq (hu : X.A.units + 64 < cLine) (ha : PE X a (tM X.K ma)) (hb : PE X b (tM X.K mb)) : PT X (.Compare a [.Eq] [b] pos) (tT X.K (mTest (mBin fEq ma mb))) := mt_cmp (op_eqD hu) op2_eqD ha hb (nomark _)
theorem mt_ne (hu : X.A.units + 64 < cLine) (ha : PE X a (tM X.K ma)) (hb : PE X b (tM X.K mb)) : PT X (.Compare a [.NotEq] [b] pos) (tT X.K (mTest (mBin fNe ma mb))) := mt_cmp (op_neD hu) op2_neD ha hb (nomark _)
/-- a op1 b op2 c -/
def mChain (f g : F2) (ma mb mc : EM) : EM := fun ρ S => match ma ρ S with
  | some (x, S1) => match mb ρ S1 with
    | some (y, S2) => match f x y S2 with
      | some (.val (.bl true), S3) => match mc ρ S3 with
        | some (z, S4) => g y z S4
        | none => none
      | some (.val (.bl false), S3) => some (.val (.bl false), S3)
      | _ => none
    | none => none
  | none => none
theorem chain_imp {r r' : R2} {f g : F2} (h : Op2 X.K r f) (h' : Op2 X.K r' g) {σ : L2.St} {H : Hp} {Q : VK} (q : tM X.K (mChain f g ma mb mc) σ H Q) : tChain r r' (tM X.K ma) (tM X.K mb) (tM X.K mc) σ H Q := by
  obtain ⟨μ, ρ, S, w, S', ok, e, k⟩ := q
  unfold mChain at e
  split at e
  · rename_i x S1 e1
    split at e
    · rename_i y S2 e2
      refine ⟨μ, ρ, S, x, S1, ok, e1, fun μ1 v1 H1 so1 st1 r1 => ?_⟩
      refine ⟨μ1, ρ, S1, y, S2, ok.next so1 st1, e2, fun μ2 v2 H2 so2 st2 r2 => ?_⟩
      split at e
      · rename_i S3 e3
        split at e
        · rename_i z S4 e4
          refine h μ2 S2 H2 x y v1 v2 _ S3 _ so2 (r1.step so1 st2) r2 e3 fun μ3 c H3 so3 st3 r3 => ?_
          cases r3
          refine ⟨true, rfl, ?_⟩
          refine itT ?_
          refine ⟨μ3, ρ, S3, z, S4, (ok.next so1 st1).next so3 (st2.trans st3), e4, fun μ4 v4 H4 so4 st4 r4 => ?_⟩
          exact h' μ4 S4 H4 y z v2 v4 w S' Q so4 (r2.step so2 (st3.trans st4)) r4 e fun μ5 c H5 so5 st5 r5 => k μ5 c H5 so5 ((((st1.trans st2).trans st3).trans st4).trans st5) r5
        · cases e
      · rename_i S3 e3
        cases e
        refine h μ2 S2 H2 x y v1 v2 _ _ _ so2 (r1.step so1 st2) r2 e3 fun μ3 c H3 so3 st3 r3 => ?_
        cases r3
        refine ⟨false, rfl, ?_⟩
        refine itF ?_
        exact k μ3 _ H3 so3 ((st1.trans st2).trans st3) (.bl _)
      · cases e
    · cases e
  · cases e
theorem me_chain {op op' : CmpOp} {r r' : R2} {f g : F2} (ho : OpR X (compareOp op) r) (ho' : OpR X (compareOp op') r') (h : Op2 X.K r f) (h' : Op2 X.K r' g) (ha : PE X a (tM X.K ma)) (hb : PE X b (tM X.K mb)) (hc : PE X c (tM X.K mc))
    (hm : lastMarks [op, op'] [b, c] = false := by with_unfolding_all rfl) : PE X (.Compare a [op, op'] [b, c] pos) (tM X.K (mChain f g ma mb mc)) :=
  PE.imp (pe_chain ho ho' ha hb hc hm) fun σ H Q q => chain_imp h h' q
theorem mt_chain {op op' : CmpOp} {r r' : R2} {f g : F2} (ho : OpR X (compareOp op) r) (ho' : OpR X (compareOp op') r') (h : Op2 X.K r f) (h' : Op2 X.K r' g) (ha : PE X a (tM X.K ma)) (hb : PE X b (tM X.K mb)) (hc : PE X c (tM X.K mc))
    (hm : lastMarks [op, op'] [b, c] = false := by with_unfolding_all rfl) : PT X (.Compare a [op, op'] [b, c] pos) (tT X.K (mTest (mChain f g ma mb mc))) := by
  refine PT.imp (pt_chain ho ho' ha hb hc hm) fun σ H Q q => ?_
  obtain ⟨μ, ρ, S, w, S', ok, e, k⟩ := q
  unfold mTest at e
  split at e
  · rename_i c S1 e1
    cases e
    have z : tChain r r' (tM X.K ma) (tM X.K mb) (tM X.K mc) σ H fun x H1 => ∃ c, x = .bl c ∧ Q c H1 := by
      refine chain_imp h h' ⟨μ, ρ, S, _, _, ok, e1, fun μ1 v1 H1 so1 st1 r1 => ?_⟩
      cases r1
      exact ⟨_, rfl, k μ1 H1 so1 st1⟩
    exact z
  · cases e
/-- x is None, x is not None -/
def mIsN (neg : Bool) (m : EM) : EM := fun ρ S => match m ρ S with
  | some (.val d, S1) => some (.val (.bl (match d with | .non => !neg | _ => neg)), S1)
  | some (.loc l, S1) => some (.val (.bl neg), S1)
  | none => none
end

/-! ### items and cuts -/
/-- the place of an index -/
def fIx : F2 := fun x y S => match y with
  | .val (.int i) => match tItems x with
    | some ds => (atI ds i).map fun d => (.val d, S)
    | none => match lItems x S with
      | some ds => (atI ds i).map fun d => (.val d, S)
      | none => none
  | _ => none
section
variable {K : PySem.W.Frag} {H : Hp} {μ : Mu} {S : Sto}
theorem Reps.atI {ds : List D} {vs : List V} (r : Reps K H μ ds vs) {i : Int} {d : D} (e : L2.atI ds i = some d) : ∃ v, L2.atI vs i = some v ∧ Rep K H μ d v := by
  unfold L2.atI at e ⊢
  rw [← r.length]
  cases q : ixN ds.length i with
  | none => rw [q] at e; cases e
  | some j =>
    rw [q] at e
    obtain ⟨v, h1, h2⟩ := r.get (show ds[j]? = some d from e)
    exact ⟨v, h1, h2⟩
def rIxA (K : PySem.W.Frag) : R2 := fun x y H Q => rIxT K x y H Q ∨ rIxL K x y H Q
theorem op2_ix : Op2 K (rIxA K) fIx := by
  intro μ S H x y v u w S' Q so rx ry e k
  unfold fIx at e
  split at e
  · rename_i i
    cases ry
    split at e
    · rename_i ds e1
      obtain ⟨a, vs, rfl, q, r⟩ := tItems_ok rx e1
      cases z : L2.atI ds i with
      | none => rw [z] at e; cases e
      | some d =>
        rw [z] at e
        cases e
        obtain ⟨c, h1, h2⟩ := r.atI z
        exact .inl ⟨a, vs, i, c, rfl, rfl, q, h1, k μ _ H so .refl h2⟩
    · split at e
      · rename_i ds e2
        obtain ⟨a, vs, rfl, q, r⟩ := lItems_ok so rx e2
        cases z : L2.atI ds i with
        | none => rw [z] at e; cases e
        | some d =>
          rw [z] at e
          cases e
          obtain ⟨c, h1, h2⟩ := r.atI z
          exact .inr ⟨a, vs, i, c, rfl, rfl, q, h1, k μ _ H so .refl h2⟩
      · cases e
  · cases e
end
section
variable {X : Cx} {a b : Expr} {pos p2 : Pos} {ma mb : EM} {lo hi : Option Expr}
theorem me_at (ha : PE X a (tM X.K ma)) (hb : PE X b (tM X.K mb)) (hs : PlainIx b) : PE X (.Subscript a b pos) (tM X.K (mBin fIx ma mb)) := me_ix (ix_tup.or ix_list) op2_ix ha hb hs
/-- a part of a cut: left out, or an int -/
abbrev OM := Rho → Sto → Option (Option Int × Sto)
def tO (K : PySem.W.Frag) (m : OM) : TO := fun σ H Q => ∃ μ ρ S o S', Ok K μ ρ S σ H ∧ m ρ S = some (o, S') ∧ ∀ μ' H', StoreOk K H' μ' S' → Step H μ H' μ' → Q o H'
theorem PO.imp {e : Option Expr} {t t' : TO} (h : PO X e t) (i : ∀ σ H Q, t' σ H Q → t σ H Q) : PO X e t' := ⟨fun pins s σ H Q I q => h.run pins s σ H Q I (i σ H Q q)⟩
def oNone : OM := fun _ S => some (none, S)
def oSome (m : EM) : OM := fun ρ S => match m ρ S with
  | some (.val (.int i), S1) => some (some i, S1)
  | _ => none
theorem mo_none : PO X none (tO X.K oNone) := PO.imp po_none fun σ H Q q => by
  obtain ⟨μ, ρ, S, o, S', ok, e, k⟩ := q
  cases e
  exact k μ H ok.so .refl
theorem mo_some (h : PE X a (tM X.K ma)) : PO X (some a) (tO X.K (oSome ma)) := PO.imp (po_some h) fun σ H Q q => by
  obtain ⟨μ, ρ, S, o, S', ok, e, k⟩ := q
  unfold oSome at e
  split at e
  · rename_i i S1 e1
    cases e
    refine ⟨μ, ρ, S, _, _, ok, e1, fun μ1 v H1 so1 st1 r1 => ?_⟩
    cases r1
    exact ⟨i, rfl, k μ1 H1 so1 st1⟩
  · cases e
def cutD (xs : List D) (lo hi : Option Int) : List D := (xs.drop (HT.sIx xs.length 0 lo)).take (HT.sIx xs.length xs.length hi - HT.sIx xs.length 0 lo)
theorem Reps.cut {K : PySem.W.Frag} {H : Hp} {μ : Mu} {ds : List D} {vs : List V} (r : Reps K H μ ds vs) (lo hi : Option Int) : Reps K H μ (cutD ds lo hi) (cutV vs lo hi) := by
  unfold cutD cutV
  rw [← r.length]
  exact (r.drop _).take _
def mCut (m : EM) (o p : OM) : EM := fun ρ S => match m ρ S with
  | some (x, S1) => match o ρ S1 with
    | some (l, S2) => match p ρ S2 with
      | some (h, S3) => match tItems x with
        | some ds => some (.val (.tup (cutD ds l h)), S3)
        | none => match lItems x S3 with
          | some ds => some (.val (.fl (cutD ds l h)), S3)
          | none => none
      | none => none
    | none => none
  | none => none
theorem me_cut {o p : OM} (h : PE X a (tM X.K ma)) (hl : PO X lo (tO X.K o)) (hh : PO X hi (tO X.K p)) : PE X (.Subscript a (.Slice lo hi none p2) pos) (tM X.K (mCut ma o p)) := by
  refine PE.imp (pe_slice (sl_tupA.or sl_list) h hl hh) fun σ H Q q => ?_
  obtain ⟨μ, ρ, S, w, S', ok, e, k⟩ := q
  unfold mCut at e
  split at e
  · rename_i x S1 e1
    split at e
    · rename_i l S2 e2
      split at e
      · rename_i hh S3 e3
        refine ⟨μ, ρ, S, x, S1, ok, e1, fun μ1 v1 H1 so1 st1 r1 => ?_⟩
        refine ⟨μ1, ρ, S1, l, S2, ok.next so1 st1, e2, fun μ2 H2 so2 st2 => ?_⟩
        refine ⟨μ2, ρ, S2, hh, S3, (ok.next so1 st1).next so2 st2, e3, fun μ3 H3 so3 st3 => ?_⟩
        have r3 := r1.step so1 (st2.trans st3)
        have st := (st1.trans st2).trans st3
        split at e
        · rename_i ds e4
          cases e
          obtain ⟨b, vs, rfl, q, r⟩ := tItems_ok r3 e4
          refine .inl ⟨b, vs, rfl, q, fun hw => ?_, fun _ p hp => ?_⟩
          · have ew : cutD ds l hh = ds := by
              unfold cutD
              rw [r.length, hw.1, hw.2, List.drop_zero, Nat.sub_zero, ← r.length, List.take_length]
            rw [ew] at k
            exact k μ3 _ H3 so3 st (.tup q r)
          · obtain ⟨s1, s2, s3⟩ := new_tup so3 hp (r.cut l hh)
            exact k μ3 _ _ s1 (st.trans s2) s3
        · split at e
          · rename_i ds e4
            cases e
            obtain ⟨b, vs, rfl, q, r⟩ := lItems_ok so3 r3 e4
            exact .inr ⟨b, vs, rfl, q, fun p hp => k μ3 _ _ (so3.alloc hp) (st.trans (.alloc hp)) (new_fl so3 hp (r.cut l hh))⟩
          · cases e
      · cases e
    · cases e
  · cases e
end
end HM

set_option Elab.async false
set_option linter.all false
set_option maxRecDepth 100000
namespace HM
open PySem PySem.Spec L2
open PyProof.Rows hiding St

/-! ### calls of built-in functions and types -/
abbrev FN := List W → Sto → Option (W × Sto)
def OpN (K : PySem.W.Frag) (r : List V → Hp → VK → Prop) (f : FN) : Prop := ∀ (μ : Mu) (S : Sto) (H : Hp) (ws : List W) (vs : List V) (w : W) (S' : Sto) (Q : VK), StoreOk K H μ S → RepWs K H μ ws vs → f ws S = some (w, S') →
  (∀ μ' z H', StoreOk K H' μ' S' → Step H μ H' μ' → RepW K H' μ' w z → Q z H') → r vs H Q
def mCall (f : FN) (a : AM) : EM := fun ρ S => match a ρ S with
  | some (ws, S1) => f ws S1
  | none => none
section
variable {X : Cx} {x : Str} {p pos : Pos} {e : Expr} {es : List Expr} {a : AM} {f : FN} {r : List V → Hp → VK → Prop} {id T : String}
theorem call_imp (h : OpN X.K r f) {σ : L2.St} {H : Hp} {Q : VK} (q : tM X.K (mCall f a) σ H Q) : tCB r (tA X.K a) σ H Q := by
  obtain ⟨μ, ρ, S, w, S', ok, e, k⟩ := q
  unfold mCall at e
  split at e
  · rename_i ws S1 e1
    exact ⟨μ, ρ, S, ws, S1, ok, e1, fun μ1 vs H1 so1 st1 r1 => h μ1 S1 H1 ws vs w S' Q so1 r1 e fun μ2 z H2 so2 st2 r2 => k μ2 z H2 so2 (st1.trans st2) r2⟩
  · cases e
theorem me_callB (hc : CallR X (.builtin id) r) (h : OpN X.K r f) (hg : Gl X x) (hm : X.mg x = none) (hv : bootBuiltins x = some (.builtin id)) (ha : PA X (e :: es) (tA X.K a)) (hn : x ≠ "__name__" := by decide) (hdb : (x == ("__debug__" : Str)) = false := by decide)
    (he : starEach (e :: es) X.env = (false, eval e X.env) :: starEach es X.env := by rfl) (hpl : (backTo pos (starEach es X.env)).any (·.1) = false := by rfl) : PE X (.Call (.Name x p) (e :: es) [] pos) (tM X.K (mCall f a)) :=
  PE.imp (pe_callB hc hg hm hv ha hn hdb he hpl) fun σ H Q q => call_imp h q
theorem me_callTy (hc : CallR X (.type T) r) (h : OpN X.K r f) (hg : Gl X x) (hm : X.mg x = none) (hv : bootBuiltins x = some (.type T)) (ha : PA X (e :: es) (tA X.K a)) (hn : x ≠ "__name__" := by decide) (hdb : (x == ("__debug__" : Str)) = false := by decide)
    (he : starEach (e :: es) X.env = (false, eval e X.env) :: starEach es X.env := by rfl) (hpl : (backTo pos (starEach es X.env)).any (·.1) = false := by rfl) : PE X (.Call (.Name x p) (e :: es) [] pos) (tM X.K (mCall f a)) :=
  PE.imp (pe_callTy hc hg hm hv ha hn hdb he hpl) fun σ H Q q => call_imp h q
theorem me_callG (hc : CallR X (.builtin id) r) (h : OpN X.K r f) (hg : Gl X x) (hm : X.mg x = some (.builtin id)) (ha : PA X (e :: es) (tA X.K a)) (hdb : (x == ("__debug__" : Str)) = false := by decide)
    (he : starEach (e :: es) X.env = (false, eval e X.env) :: starEach es X.env := by rfl) (hpl : (backTo pos (starEach es X.env)).any (·.1) = false := by rfl) : PE X (.Call (.Name x p) (e :: es) [] pos) (tM X.K (mCall f a)) :=
  PE.imp (pe_callBfun hc hg hm ha hdb he hpl) fun σ H Q q => call_imp h q
end
/-- len -/
def fLen : FN := fun ws S => match ws with
  | [w] => match tItems w with
    | some ds => some (.val (.int ds.length), S)
    | none => match lItems w S with
      | some ds => some (.val (.int ds.length), S)
      | none => none
  | _ => none
/-- one int -/
def fInt1 (g : Int → Int) : FN := fun ws S => match ws with
  | [.val (.int i)] => some (.val (.int (g i)), S)
  | _ => none
/-- int(x) -/
def fInt : FN := fun ws S => match ws with
  | [.val (.int i)] => some (.val (.int i), S)
  | [.val (.bl b)] => some (.val (.int (if b then 1 else 0)), S)
  | _ => none
/-- two ints -/
def fInt2 (g : Int → Int → Int) : FN := fun ws S => match ws with
  | [.val (.int i), .val (.int j)] => some (.val (.int (g i j)), S)
  | _ => none
def iAbs (i : Int) : Int := if i < 0 then -i else i
def iMax (i j : Int) : Int := if j > i then j else i
def iMin (i j : Int) : Int := if j < i then j else i
def iGcd (i j : Int) : Int := ((Nat.gcd i.natAbs j.natAbs : Nat) : Int)
def cDivP (i j : Int) : Bool := decide (0 < j) && !Builtin.divisionGoesByPylong i j
def fDivmod : FN := fun ws S => match ws with
  | [.val (.int i), .val (.int j)] => if cDivP i j then some (.val (.tup [.int (i / j), .int (i % j)]), S) else none
  | _ => none
/-- tuple(x), list(x) -/
def fTuple : FN := fun ws S => match ws with
  | [w] => match tItems w with
    | some ds => some (.val (.tup ds), S)
    | none => match lItems w S with
      | some ds => some (.val (.tup ds), S)
      | none => none
  | _ => none
def fList : FN := fun ws S => match ws with
  | [w] => match tItems w with
    | some ds => some (.val (.fl ds), S)
    | none => match lItems w S with
      | some ds => some (.val (.fl ds), S)
      | none => none
  | _ => none
def fListC : FN := fun ws S => match ws with
  | [w] => match tItems w with
    | some ds => some (.loc S.length, S ++ [some ds])
    | none => match lItems w S with
      | some ds => some (.loc S.length, S ++ [some ds])
      | none => none
  | _ => none
def ints? : List D → Option (List Int)
  | [] => some []
  | .int i :: r => (ints? r).map (i :: ·)
  | _ :: _ => none
def bls? : List D → Option (List Bool)
  | [] => some []
  | .bl i :: r => (bls? r).map (i :: ·)
  | _ :: _ => none
def fSum : FN := fun ws S => match ws with
  | [w] => match lItems w S with
    | some ds => match ints? ds with
      | some ns => some (.val (.int ns.sum), S)
      | none => none
    | none => none
  | _ => none
def fAll : FN := fun ws S => match ws with
  | [w] => match lItems w S with
    | some ds => match bls? ds with
      | some bs => some (.val (.bl (bs.all id)), S)
      | none => none
    | none => none
  | _ => none
section
variable {K : PySem.W.Frag} {H : Hp} {μ : Mu} {S : Sto}
theorem ints?_ok : ∀ {ds : List D} {ns : List Int} {vs : List V}, ints? ds = some ns → Reps K H μ ds vs → vs = ns.map V.int
  | [], _, _, e, .nil => by cases e; rfl
  | .int i :: r, _, _, e, .cons h t => by
    cases h
    unfold ints? at e
    cases q : ints? r with
    | none => rw [q] at e; cases e
    | some ns =>
      rw [q] at e
      cases e
      rw [ints?_ok q t]; rfl
  | .non :: _, _, _, e, _ => by cases e
  | .bl _ :: _, _, _, e, _ => by cases e
  | .str _ :: _, _, _, e, _ => by cases e
  | .tup _ :: _, _, _, e, _ => by cases e
  | .fl _ :: _, _, _, e, _ => by cases e
  | .scr _ :: _, _, _, e, _ => by cases e
  | .dct _ _ :: _, _, _, e, _ => by cases e
  | .exc0 _ :: _, _, _, e, _ => by cases e
  | .exc1 _ _ _ :: _, _, _, e, _ => by cases e
theorem bls?_ok : ∀ {ds : List D} {ns : List Bool} {vs : List V}, bls? ds = some ns → Reps K H μ ds vs → vs = ns.map V.bl
  | [], _, _, e, .nil => by cases e; rfl
  | .bl i :: r, _, _, e, .cons h t => by
    cases h
    unfold bls? at e
    cases q : bls? r with
    | none => rw [q] at e; cases e
    | some ns =>
      rw [q] at e
      cases e
      rw [bls?_ok q t]; rfl
  | .non :: _, _, _, e, _ => by cases e
  | .int _ :: _, _, _, e, _ => by cases e
  | .str _ :: _, _, _, e, _ => by cases e
  | .tup _ :: _, _, _, e, _ => by cases e
  | .fl _ :: _, _, _, e, _ => by cases e
  | .scr _ :: _, _, _, e, _ => by cases e
  | .dct _ _ :: _, _, _, e, _ => by cases e
  | .exc0 _ :: _, _, _, e, _ => by cases e
  | .exc1 _ _ _ :: _, _, _, e, _ => by cases e
theorem RepWs.one {w : W} {vs : List V} (r : RepWs K H μ [w] vs) : ∃ v, vs = [v] ∧ RepW K H μ w v := by
  cases r with
  | cons h t => cases t; exact ⟨_, rfl, h⟩
theorem RepWs.two {w u : W} {vs : List V} (r : RepWs K H μ [w, u] vs) : ∃ v z, vs = [v, z] ∧ RepW K H μ w v ∧ RepW K H μ u z := by
  cases r with
  | cons h t =>
    obtain ⟨z, rfl, q⟩ := t.one
    exact ⟨_, z, rfl, h, q⟩
theorem opN_len : OpN K (fun xs H Q => ∃ p ys, xs = [.ref p] ∧ (SqL K H p ys ∨ SqT K H p ys) ∧ Q (.int ys.length) H) fLen := by
  intro μ S H ws vs w S' Q so r e k
  unfold fLen at e
  split at e
  · rename_i w0
    obtain ⟨v, rfl, rv⟩ := r.one
    split at e
    · rename_i ds e1
      cases e
      obtain ⟨a, us, rfl, q, rr⟩ := tItems_ok rv e1
      exact ⟨a, us, rfl, .inr q, by rw [← rr.length]; exact k μ _ H so .refl (.int _)⟩
    · split at e
      · rename_i ds e1
        cases e
        obtain ⟨a, us, rfl, q, rr⟩ := lItems_ok so rv e1
        exact ⟨a, us, rfl, .inl q, by rw [← rr.length]; exact k μ _ H so .refl (.int _)⟩
      · cases e
  · cases e
theorem opN_abs : OpN K (fun xs H Q => ∃ i, xs = [.int i] ∧ Q (.int (if i < 0 then -i else i)) H) (fInt1 iAbs) := by
  intro μ S H ws vs w S' Q so r e k
  unfold fInt1 at e
  split at e
  · rename_i i
    cases e
    obtain ⟨v, rfl, rv⟩ := r.one
    cases rv
    exact ⟨i, rfl, k μ _ H so .refl (.int _)⟩
  · cases e
theorem opN_int : OpN K (fun xs H Q => (∃ i, xs = [.int i] ∧ Q (.int i) H) ∨ ∃ k, xs = [.bl k] ∧ Q (.int (if k then 1 else 0)) H) fInt := by
  intro μ S H ws vs w S' Q so r e k
  unfold fInt at e
  split at e
  · rename_i i
    cases e
    obtain ⟨v, rfl, rv⟩ := r.one
    cases rv
    exact .inl ⟨i, rfl, k μ _ H so .refl (.int _)⟩
  · rename_i b
    cases e
    obtain ⟨v, rfl, rv⟩ := r.one
    cases rv
    exact .inr ⟨b, rfl, k μ _ H so .refl (.int _)⟩
  · cases e
theorem opN_max2 : OpN K (fun xs H Q => ∃ i j, xs = [.int i, .int j] ∧ Q (.int (if j > i then j else i)) H) (fInt2 iMax) := by
  intro μ S H ws vs w S' Q so r e k
  unfold fInt2 at e
  split at e
  · rename_i i j
    cases e
    obtain ⟨v, z, rfl, rv, rz⟩ := r.two
    cases rv
    cases rz
    exact ⟨i, j, rfl, k μ _ H so .refl (.int _)⟩
  · cases e
theorem opN_min2 : OpN K (fun xs H Q => ∃ i j, xs = [.int i, .int j] ∧ Q (.int (if j < i then j else i)) H) (fInt2 iMin) := by
  intro μ S H ws vs w S' Q so r e k
  unfold fInt2 at e
  split at e
  · rename_i i j
    cases e
    obtain ⟨v, z, rfl, rv, rz⟩ := r.two
    cases rv
    cases rz
    exact ⟨i, j, rfl, k μ _ H so .refl (.int _)⟩
  · cases e
theorem opN_gcd : OpN K rGcd (fInt2 iGcd) := by
  intro μ S H ws vs w S' Q so r e k
  unfold fInt2 at e
  split at e
  · rename_i i j
    cases e
    obtain ⟨v, z, rfl, rv, rz⟩ := r.two
    cases rv
    cases rz
    exact ⟨i, j, rfl, k μ _ H so .refl (.int _)⟩
  · cases e
theorem opN_divmod : OpN K (fun xs H Q => ∃ i j, xs = [.int i, .int j] ∧ CDivP i j ∧ ∀ p, H p = none → Q (.ref p) (upd H p (.tup [.int (i / j), .int (i % j)]))) fDivmod := by
  intro μ S H ws vs w S' Q so r e k
  unfold fDivmod at e
  split at e
  · rename_i i j
    split at e
    · rename_i hc
      cases e
      obtain ⟨v, z, rfl, rv, rz⟩ := r.two
      cases rv
      cases rz
      unfold cDivP at hc
      rw [Bool.and_eq_true] at hc
      refine ⟨i, j, rfl, ⟨of_decide_eq_true hc.1, by simpa using hc.2⟩, fun p hp => ?_⟩
      obtain ⟨s1, s2, s3⟩ := new_tup so hp (.cons (.int (i / j)) (.cons (.int (i % j)) .nil))
      exact k μ _ _ s1 s2 s3
    · cases e
  · cases e
theorem opN_tuple : OpN K (fun xs H Q => ∃ p ys, xs = [.ref p] ∧ ((SqL K H p ys ∧ ∀ l, H l = none → Q (.ref l) (upd H l (.tup ys))) ∨ (SqT K H p ys ∧ Q (.ref p) H))) fTuple := by
  intro μ S H ws vs w S' Q so r e k
  unfold fTuple at e
  split at e
  · rename_i w0
    obtain ⟨v, rfl, rv⟩ := r.one
    split at e
    · rename_i ds e1
      cases e
      obtain ⟨a, us, rfl, q, rr⟩ := tItems_ok rv e1
      exact ⟨a, us, rfl, .inr ⟨q, k μ _ H so .refl (.tup q rr)⟩⟩
    · split at e
      · rename_i ds e1
        cases e
        obtain ⟨a, us, rfl, q, rr⟩ := lItems_ok so rv e1
        refine ⟨a, us, rfl, .inl ⟨q, fun p hp => ?_⟩⟩
        obtain ⟨s1, s2, s3⟩ := new_tup so hp rr
        exact k μ _ _ s1 s2 s3
      · cases e
  · cases e
theorem opN_list : OpN K (fun xs H Q => ∃ p ys, xs = [.ref p] ∧ (SqL K H p ys ∨ SqT K H p ys) ∧ ∀ l, H l = none → Q (.ref l) (upd H l (.lst ys))) fList := by
  intro μ S H ws vs w S' Q so r e k
  unfold fList at e
  split at e
  · rename_i w0
    obtain ⟨v, rfl, rv⟩ := r.one
    split at e
    · rename_i ds e1
      cases e
      obtain ⟨a, us, rfl, q, rr⟩ := tItems_ok rv e1
      exact ⟨a, us, rfl, .inr q, fun p hp => k μ _ _ (so.alloc hp) (.alloc hp) (new_fl so hp rr)⟩
    · split at e
      · rename_i ds e1
        cases e
        obtain ⟨a, us, rfl, q, rr⟩ := lItems_ok so rv e1
        exact ⟨a, us, rfl, .inl q, fun p hp => k μ _ _ (so.alloc hp) (.alloc hp) (new_fl so hp rr)⟩
      · cases e
  · cases e
theorem opN_listC : OpN K (fun xs H Q => ∃ p ys, xs = [.ref p] ∧ (SqL K H p ys ∨ SqT K H p ys) ∧ ∀ l, H l = none → Q (.ref l) (upd H l (.lst ys))) fListC := by
  intro μ S H ws vs w S' Q so r e k
  unfold fListC at e
  split at e
  · rename_i w0
    obtain ⟨v, rfl, rv⟩ := r.one
    split at e
    · rename_i ds e1
      cases e
      obtain ⟨a, us, rfl, q, rr⟩ := tItems_ok rv e1
      refine ⟨a, us, rfl, .inr q, fun p hp => ?_⟩
      obtain ⟨s1, s2, s3⟩ := new_cell so hp rr
      exact k _ _ _ s1 s2 s3
    · split at e
      · rename_i ds e1
        cases e
        obtain ⟨a, us, rfl, q, rr⟩ := lItems_ok so rv e1
        refine ⟨a, us, rfl, .inl q, fun p hp => ?_⟩
        obtain ⟨s1, s2, s3⟩ := new_cell so hp rr
        exact k _ _ _ s1 s2 s3
      · cases e
  · cases e
theorem opN_all : OpN K (rAll K) fAll := by
  intro μ S H ws vs w S' Q so r e k
  unfold fAll at e
  split at e
  · rename_i w0
    obtain ⟨v, rfl, rv⟩ := r.one
    split at e
    · rename_i ds e1
      split at e
      · rename_i bs e2
        cases e
        obtain ⟨a, us, rfl, q, rr⟩ := lItems_ok so rv e1
        rw [bls?_ok e2 rr] at q
        exact ⟨a, bs, rfl, q, k μ _ H so .refl (.bl _)⟩
      · cases e
    · cases e
  · cases e
end

/-! ### types -/
def D.ty : D → String
  | .non => "NoneType"
  | .bl _ => "bool"
  | .int _ => "int"
  | .str _ => "str"
  | .tup _ => "tuple"
  | .fl _ => "list"
  | .scr _ => "list"
  | .dct _ _ => "dict"
  | .exc0 _ => "?"
  | .exc1 _ _ _ => "?"
def D.isB : D → Bool
  | .dct _ _ => false
  | .exc0 _ => false
  | .exc1 _ _ _ => false
  | _ => true
def W.ty : W → String
  | .val d => d.ty
  | .loc _ => "list"
section
variable {K : PySem.W.Frag} {H : Hp} {μ : Mu} {S : Sto}
/-- what a live name holds has a type (a closed list's name has none) -/
def W.live (w : W) (S : Sto) : Bool := match w with
  | .val d => d.isB
  | .loc l => ((S[l]?).getD none).isSome
theorem W.tyB (so : StoreOk K H μ S) {w : W} {v : V} (r : RepW K H μ w v) (hl : w.live S = true) : TyB K H v w.ty := by
  cases w with
  | val d =>
    cases (show Rep K H μ d v from r) with
    | non => exact .non
    | bl b => exact .bl b
    | int i => exact .int i
    | str x => exact .str x
    | tup q _ => exact .tup q
    | fl q _ => exact .lst q.sqL
    | scr q => exact .lst q.sqL
    | dct q _ _ => cases hl
    | exc0 _ _ => cases hl
    | exc1 _ _ _ _ => cases hl
  | loc l =>
    have hl' : ((S[l]?).getD none).isSome = true := hl
    cases q : (S[l]?).getD none with
    | none => rw [q] at hl'; cases hl'
    | some ds =>
      obtain ⟨a, vs, rfl, h1, _⟩ := lItems_ok so (w := .loc l) r q
      exact .lst h1
end
/-- type(x) == T -/
def mTyEq (T : String) (m : EM) : EM := fun ρ S => match m ρ S with
  | some (w, S1) => if w.live S1 then some (.val (.bl (decide (w.ty = T))), S1) else none
  | none => none
theorem tyIs_type {T : String} (h : T ∈ ["NoneType", "bool", "int", "str", "tuple", "list"]) (s : Shared) : s.TypeIs (.type T) "type" := by
  simp only [List.mem_cons, List.not_mem_nil, or_false] at h
  rcases h with rfl | rfl | rfl | rfl | rfl | rfl <;> first | rfl | (show typeOf _ = _; kernel_rfl) | kernel_rfl
theorem W.ty_mem (w : W) (S : Sto) (h : w.live S = true) : w.ty ∈ ["NoneType", "bool", "int", "str", "tuple", "list"] := by
  cases w with
  | loc l => simp [W.ty]
  | val d => cases d <;> first | (simp [W.ty, D.ty]; done) | cases h
def rTyEq : R2 := fun x y H Q => ∃ a b, x = .ty a ∧ y = .ty b ∧ a ∈ ["NoneType", "bool", "int", "str", "tuple", "list"] ∧ b ∈ ["NoneType", "bool", "int", "str", "tuple", "list"] ∧ Q (.bl (decide (a = b))) H
theorem op_tyEq {X : Cx} : OpR X (compareOp .Eq) rTyEq := by
  intro pins s σ H x y v u Q I rx ry h
  obtain ⟨a, b, rfl, rfl, ha, hb, q⟩ := h
  cases rx
  cases ry
  by_cases e : a = b
  · subst e
    rw [decide_eq_true rfl] at q
    exact PySem.TypeEq.eq_type_same (tyIs_type ha) ⟨.bl true, H, I, rfl, q⟩
  · rw [decide_eq_false e] at q
    exact PySem.TypeEq.eq_type_other (tyIs_type ha) (tyIs_type hb) (by simpa using e) ⟨.bl false, H, I, rfl, q⟩
end HM

set_option Elab.async false
set_option linter.all false
set_option maxRecDepth 100000
set_option autoImplicit false
namespace HM
open PySem PySem.Spec L2
open PyProof.Rows hiding St

section
variable {X : Cx} {e : Expr} {m : EM} {p p2 pos pos2 : Pos}
/-- type(e) == T -/
theorem me_tyEq {T : String} {x : Str} (hT : T ∈ ["NoneType", "bool", "int", "str", "tuple", "list"]) (hg : Gl X "type") (hm : X.mg "type" = none) (hg2 : Gl X x) (hm2 : X.mg x = none) (hv : bootBuiltins x = some (.type T)) (h : PE X e (tM X.K m))
    (hn : x ≠ "__name__" := by decide) (hd : (x == ("__debug__" : Str)) = false := by decide) (hb : bootBuiltins "type" = some (.type "type") := by first | rfl | decide +kernel)
    (hs : starEach [e] X.env = (false, eval e X.env) :: starEach [] X.env := by rfl) :
    PE X (.Compare (.Call (.Name "type" p) [e] [] pos) [.Eq] [.Name x p2] pos2) (tM X.K (mTyEq T m)) := by
  have h1 : PE X (.Call (.Name "type" p) [e] [] pos) (tCB (rTyp X.K) (tCons (tM X.K m) tNil)) := pe_callTy call_type1 hg hm hb (pa_cons h pa_nil hs) (by decide) (by decide) hs (by rfl)
  have h2 : PE X (.Name x p2) (tC (.ty T)) := pe_bltn hg2 hm2 hv rfl hn hd
  refine PE.imp (pe_cmpR op_tyEq h1 h2 (nomark _)) fun σ H Q q => ?_
  obtain ⟨μ, ρ, S, w, S', ok, e, k⟩ := q
  unfold mTyEq at e
  split at e
  · rename_i w0 S1 e1
    split at e
    · rename_i hl
      cases e
      refine ⟨μ, ρ, S, w0, _, ok, e1, fun μ1 v H1 so1 st1 r1 => ?_⟩
      exact ⟨v, w0.ty, rfl, W.tyB so1 r1 hl, w0.ty, T, rfl, rfl, w0.ty_mem _ hl, hT, k μ1 _ H1 so1 st1 (.bl _)⟩
    · cases e
  · cases e

/-! ### isinstance -/
theorem TyX.of_d {K : PySem.W.Frag} {H : Hp} {μ : Mu} {d : D} {v : V} (hb : d.isB = true) (r : Rep K H μ d v) : TyX K H v (.type d.ty) := by
  cases r with
  | non => exact .base .non
  | bl b => exact .base (.bl b)
  | int i => exact .base (.int i)
  | str x => exact .base (.str x)
  | tup q _ =>
    rcases q with (q | ⟨o, q⟩) | ⟨o, its, n, h1, h2, _⟩
    · exact .base (.tup q)
    · exact .fTuple q
    · exact .kTuple h1 h2
  | fl q _ => exact .base (.lst q.1)
  | scr q =>
    rcases q with ⟨o, q⟩ | q | ⟨o, its, n, h1, h2, _⟩
    · exact .base (.frz q)
    · rcases q with q | ⟨o, q⟩ <;> cases q
    · exact .kList h1 h2
  | dct q _ _ => cases hb
  | exc0 _ _ => cases hb
  | exc1 _ _ _ _ => cases hb
def isB (T t : String) : Bool := (kitB t T).getD false
def mIsi (T : String) (m : EM) : EM := fun ρ S => match m ρ S with
  | some (.val d, S1) => if d.isB then some (.val (.bl (isB T d.ty)), S1) else none
  | _ => none
theorem me_isi {T : String} {x : Str} (hk : ∀ t ∈ ["NoneType", "bool", "int", "str", "tuple", "list"], (kitB t T).isSome = true) (hg : Gl X "isinstance") (hm : X.mg "isinstance" = none) (hg2 : Gl X x) (hm2 : X.mg x = none) (hv : bootBuiltins x = some (.type T)) (h : PE X e (tM X.K m))
    (hn : x ≠ "__name__" := by decide) (hd : (x == ("__debug__" : Str)) = false := by decide) (hb : bootBuiltins "isinstance" = some (.builtin "isinstance") := by first | rfl | decide +kernel)
    (hs : starEach [e, .Name x p2] X.env = (false, eval e X.env) :: starEach [.Name x p2] X.env := by rfl) (hs2 : starEach [.Name x p2] X.env = (false, eval (.Name x p2) X.env) :: starEach [] X.env := by rfl) (hpl : (backTo pos (starEach [.Name x p2] X.env)).any (·.1) = false := by rfl) :
    PE X (.Call (.Name "isinstance" p) [e, .Name x p2] [] pos) (tM X.K (mIsi T m)) := by
  have h2 : PE X (.Name x p2) (tC (.ty T)) := pe_bltn hg2 hm2 hv rfl hn hd
  refine PE.imp (pe_callB call_isi hg hm hb (pa_cons h (pa_cons h2 pa_nil hs2) hs) (by decide) (by decide) hs hpl) fun σ H Q q => ?_
  obtain ⟨μ, ρ, S, w, S', ok, e, k⟩ := q
  unfold mIsi at e
  split at e
  · rename_i d S1 e1
    split at e
    · rename_i hb
      cases e
      refine ⟨μ, ρ, S, _, _, ok, e1, fun μ1 v H1 so1 st1 r1 => ?_⟩
      have hy := hk d.ty (W.ty_mem (.val d) [] hb)
      refine ⟨v, .ty T, .type d.ty, .type T, isB T d.ty, rfl, .ty T, TyX.of_d hb r1, kit_ty ?_, k μ1 _ H1 so1 st1 (.bl _)⟩
      unfold isB
      cases q : kitB d.ty T with
      | none => rw [q] at hy; cases hy
      | some b => rfl
    · cases e
  · cases e

/-! ### repr -/
theorem shaped_noDict {d : PyData} (h : SeqAt.shaped d = true) : d.hasDict = false := PyData.hasDict_of_canLay d (SeqAt.canLay_of_shaped h)
theorem repr_any {v : Value} {d : PyData} {as : List Addr} {A : Around} {E : Value → Shared → Prop} {s : Shared} {prog : Program} {w : World} {Q : Value → Shared → Prop} (r : Reads s.heap v d as) (hs : d.showable = true) (sh : SeqAt.shaped d = true) (hz : d.shown.length ≤ sizeLine)
    (hg : A.guards = some []) (hu : A.units + 66 < cLine) (hQ : ∀ h' u tk, (∀ b o, s.heap.get? b = some o → h'.get? b = some o) → Q (.str d.shown u) { s with heap := h', toks := tk }) : wpAny (model prog w) A (call (.builtin "repr") [v]) Q E s := by
  have dp := SeqAt.depth_of_shaped sh
  cases r with
  | none => exact PySem.P.repr_of_none (hQ s.heap _ _ fun _ _ e => e)
  | bool b => exact PySem.P.repr_of_bool (hQ s.heap _ _ fun _ _ e => e)
  | int i t =>
    unfold PyData.showable at hs
    exact PySem.P.repr_of_int (of_decide_eq_true hs) (hQ s.heap _ _ fun _ _ e => e)
  | str x t => exact PySem.P.repr_of_str (hQ s.heap _ _ fun _ _ e => e) (by unfold PyData.shown at hz; exact hz)
  | list h1 h2 h3 h4 => exact repr_of_reads' (.list h1 h2 h3 h4) hs (PyData.noDict_hsm (shaped_noDict sh)) hg (by omega) (fun _ _ e => e) hQ hz
  | tuple h1 h2 h3 h4 => exact repr_of_reads' (.tuple h1 h2 h3 h4) hs (PyData.noDict_hsm (shaped_noDict sh)) hg (by omega) (fun _ _ e => e) hQ hz
  | dict h1 h2 h3 h4 h5 =>
    have := shaped_noDict sh
    simp [PyData.hasDict] at this
def rRepr (K : PySem.W.Frag) : List V → Hp → VK → Prop := fun vs H Q => ∃ v d, vs = [v] ∧ Dp K H v d ∧ d.showable = true ∧ SeqAt.shaped d = true ∧ d.shown.length ≤ sizeLine ∧ Q (.str d.shown) H
theorem call_repr (hg : X.A.guards = some []) (hu : X.A.units + 66 < cLine) : CallR X (.builtin "repr") (rRepr X.K) := by
  intro pins s σ H xs us Q I r h
  obtain ⟨v, d, rfl, hd, h1, h2, h3, q⟩ := h
  cases r with
  | cons r rr =>
    cases rr
    obtain ⟨as, rd⟩ := Dp.reads I d v _ hd r
    exact repr_any rd h1 h2 h3 hg hu fun h' u tk k => ⟨.str d.shown, H, I.kept k, ⟨u, rfl⟩, q⟩
def fRepr : FN := fun ws S => match ws with
  | [w] => match w.py S with
    | some d => if d.showable && SeqAt.shaped d && decide (d.shown.length ≤ sizeLine) then some (.val (.str d.shown), S) else none
    | none => none
  | _ => none
theorem opN_repr {K : PySem.W.Frag} : OpN K (rRepr K) fRepr := by
  intro μ S H ws vs w S' Q so r e k
  unfold fRepr at e
  split at e
  · rename_i w0
    obtain ⟨v, rfl, rv⟩ := r.one
    split at e
    · rename_i d e1
      split at e
      · rename_i h
        rw [Bool.and_eq_true, Bool.and_eq_true] at h
        cases e
        exact ⟨v, d, rfl, W.dp so rv e1, h.1.1, h.1.2, of_decide_eq_true h.2, k μ _ H so .refl (.str _)⟩
      · cases e
    · cases e
  · cases e
end

/-! ### a def that is run where no repr is under way -/
structure FnG (P : Program) (w : World) (K : PySem.W.Frag) (mg : Str → Option Value) (base : Heap) (k : Nat) (f : Addr) (fd : FuncData) (ps : List Str) (sp : Sp) : Prop where
  len : ∀ vs H Q E, sp vs H Q E → vs.length = ps.length
  run : ∀ (A : Around) (outer : List Env) (s : Shared) (H : Hp) (args : Args) (us : List Value) (vs : List V) (Q : VK) (E : XK), Room k A → A.guards = some [] → Env0 P w K mg base A outer s H → BindsTo s fd args (ps.zip us) → Vals vs us → sp vs H Q E →
    codeAny (model P w) A (.call (.ref f) args) (CR CX0 outer P w H s Q E) s
theorem FnG.mono {P : Program} {w : World} {K : PySem.W.Frag} {mg : Str → Option Value} {base : Heap} {j k : Nat} {f : Addr} {fd : FuncData} {ps : List Str} {sp : Sp} (F : FnG P w K mg base j f fd ps sp) (h : j ≤ k) : FnG P w K mg base k f fd ps sp :=
  ⟨F.len, fun A outer s H args us vs Q E hr => F.run A outer s H args us vs Q E (hr.mono h)⟩
/-- a def's partial function: its values bound to slots, its body run -/
def fnM (n : Nat) (body : SM) : FM := fun ws S => match body (ws.map some ++ List.replicate (n - ws.length) none) S with
  | some (.nx, _, S') => some (.val .non, S')
  | some (.ret w, _, S') => some (w, S')
  | _ => none
/-- .. that keeps the cells that it has made to itself -/
def trimF (F : FM) : FM := fun ws S => match F ws S with
  | some (.val d, S') => some (.val d, S'.take S.length)
  | _ => none
def spM (K : PySem.W.Frag) (n : Nat) (F : FM) : Sp := fun vs H Q _ => vs.length = n ∧ ∃ μ S ws w S', StoreOk K H μ S ∧ RepWs K H μ ws vs ∧ F ws S = some (w, S') ∧
  ∀ μ' v H', StoreOk K H' μ' S' → Step H μ H' μ' → RepW K H' μ' w v → Q v H'
theorem EnvOk.start {K : PySem.W.Frag} {H : Hp} {μ : Mu} {ws : List W} {vs : List V} {N : List Str} (r : RepWs K H μ ws vs) (hl : vs.length ≤ N.length) : EnvOk K H μ (ws.map some ++ List.replicate (N.length - ws.length) none) (L2.start N vs) := by
  have e := r.length
  refine ⟨?_, fun i w h => ?_⟩
  · unfold L2.start
    rw [List.length_append, List.length_append, List.length_map, List.length_map, List.length_replicate, List.length_replicate, e]
  · by_cases hi : i < ws.length
    · rw [List.getElem?_append_left (by simpa using hi), List.getElem?_map] at h
      cases q : ws[i]? with
      | none => rw [q] at h; cases h
      | some w' =>
        rw [q] at h
        cases h
        obtain ⟨v, h1, h2⟩ := r.get q
        refine ⟨v, ?_, h2⟩
        unfold L2.start
        rw [List.getElem?_append_left (by rw [List.length_map, ← e]; exact hi), List.getElem?_map, h1]
        rfl
    · rw [List.getElem?_append_right (by simpa using hi), List.getElem?_replicate] at h
      split at h <;> cases h
/-- fewer cells -/
def Trim (K : PySem.W.Frag) (H : Hp) (μ μ' : Mu) : Prop := ∀ a, some a ∉ μ → some a ∉ μ'
mutual
theorem Trim.rep {K : PySem.W.Frag} {H : Hp} {μ μ' : Mu} (t : Trim K H μ μ') : ∀ {d : D} {v : V}, Rep K H μ d v → Rep K H μ' d v
  | _, _, .non => .non
  | _, _, .bl b => .bl b
  | _, _, .int i => .int i
  | _, _, .str x => .str x
  | _, _, .tup q r => .tup q (Trim.reps t r)
  | _, _, .fl q r => .fl ⟨q.1, t _ q.2⟩ (Trim.reps t r)
  | _, _, .scr q => .scr q
  | _, _, .dct q l r => .dct q l (Trim.reps t r)
  | _, _, .exc0 c q => .exc0 c q
  | _, _, .exc1 c q x r => .exc1 c q x (Trim.rep t r)
theorem Trim.reps {K : PySem.W.Frag} {H : Hp} {μ μ' : Mu} (t : Trim K H μ μ') : ∀ {ds : List D} {vs : List V}, Reps K H μ ds vs → Reps K H μ' ds vs
  | _, _, .nil => .nil
  | _, _, .cons r q => .cons (Trim.rep t r) (Trim.reps t q)
end
theorem trim_ok {K : PySem.W.Frag} {H H' : Hp} {μ μ' : Mu} {S S' : Sto} {d : D} {v : V} (so : StoreOk K H μ S) (so' : StoreOk K H' μ' S') (st : Step H μ H' μ') (r : Rep K H' μ' d v) :
    StoreOk K H' (μ'.take S.length) (S'.take S.length) ∧ Step H μ H' (μ'.take S.length) ∧ Rep K H' (μ'.take S.length) d v := by
  have sub : ∀ {l : Nat} {a : Addr}, (μ'.take S.length)[l]? = some (some a) → μ'[l]? = some (some a) ∧ l < S.length := fun {l a} h => by
    have hl : l < (μ'.take S.length).length := (List.getElem?_eq_some_iff.mp h).1
    rw [List.length_take] at hl
    have hl' : l < S.length := by omega
    rw [List.getElem?_take_of_lt hl'] at h
    exact ⟨h, hl'⟩
  have mem : ∀ {a : Addr}, some a ∈ μ'.take S.length → some a ∈ μ' := fun {a} h => List.mem_of_mem_take h
  have keepR : ∀ {dd : D} {vv : V}, Rep K H' μ' dd vv → Rep K H' (μ'.take S.length) dd vv := by
    have tr : Trim K H' μ' (μ'.take S.length) := fun a h z => h (mem z)
    exact fun {_ _} r => tr.rep r
  have keepRs : ∀ {dd : List D} {vv : List V}, Reps K H' μ' dd vv → Reps K H' (μ'.take S.length) dd vv := by
    have tr : Trim K H' μ' (μ'.take S.length) := fun a h z => h (mem z)
    exact fun {_ _} r => tr.reps r
  have ln : μ.length ≤ μ'.length := st.len
  have lm : μ.length = S.length := so.len
  refine ⟨⟨by rw [List.length_take, List.length_take, so'.len], fun l ds h => ?_, fun l h => ?_, fun l m a h1 h2 => so'.inj l m a (sub h1).1 (sub h2).1⟩, ⟨st.keep, fun a h => st.new a (mem h), fun l a hl h => st.old l a hl (sub h).1, by rw [List.length_take]; omega⟩, keepR r⟩
  · have hl : l < (S'.take S.length).length := (List.getElem?_eq_some_iff.mp h).1
    rw [List.length_take] at hl
    have hl' : l < S.length := by omega
    rw [List.getElem?_take_of_lt hl'] at h
    obtain ⟨a, vs, h1, h2, h3⟩ := so'.cell l ds h
    exact ⟨a, vs, by rw [List.getElem?_take_of_lt hl']; exact h1, h2, keepRs h3⟩
  · have hl : l < (S'.take S.length).length := (List.getElem?_eq_some_iff.mp h).1
    rw [List.length_take] at hl
    have hl' : l < S.length := by omega
    rw [List.getElem?_take_of_lt hl'] at h ⊢
    exact so'.dead l h
end HM

set_option Elab.async false
set_option linter.all false
set_option maxRecDepth 100000
set_option autoImplicit false
namespace HM
open PySem PySem.Spec L2
open PyProof.Rows hiding St

/-! ### a call of a def -/
section
variable {X : Cx} {k n : Nat} {f : Addr} {fd : FuncData} {ps : List Str} {F : FM} {x : Str} {p pos : Pos} {e : Expr} {es : List Expr} {a : AM}
theorem run_fnG {sp : Sp} {pins : List (Addr × Obj)} {σ : L2.St} {H : Hp} {s : Shared} {Q : VK} {us : List Value} {vs : List V} (G : FnG X.prog X.w X.K X.mg X.base k f fd ps sp) (hr : Room k X.A) (hgd : X.A.guards = some []) (hb : Binds X.K fd ps [])
    (I : Inv X pins σ H s) (r : Vals vs us) (h : sp vs H Q E0) : wpAny (model X.prog X.w) X.A (call (.ref f) us) (EP X pins σ Q) X.xe s := by
  have hl : (us ++ []).length = ps.length := by rw [List.append_nil, ← r.length]; exact G.len _ _ _ _ h
  have hb' := hb s us I.kIn hl
  rw [List.append_nil] at hb'
  refine wpAny_call (codeAny_mono (G.run X.A X.stack s H ⟨us, []⟩ us vs Q E0 hr hgd I.env0 hb' r h) fun r s' hq => ?_)
  cases r with
  | error e => exact (show False from hq).elim
  | ok fl =>
    cases fl with
    | ret u => exact I.after hq
    | next => exact False.elim hq
    | brk => exact False.elim hq
    | cont => exact False.elim hq
theorem me_call (G : FnG X.prog X.w X.K X.mg X.base k f fd ps (spM X.K n F)) (hr : Room k X.A) (hgd : X.A.guards = some []) (hg : Gl X x) (hm : X.mg x = some (.ref f)) (hk : PySem.W.keepIn X.K (.ref f) = true) (hb : Binds X.K fd ps []) (hn : (e :: es).length = n)
    (ha : PA X (e :: es) (tA X.K a)) (hla : ∀ ρ S ws S', a ρ S = some (ws, S') → ws.length = n) (hdb : (x == ("__debug__" : Str)) = false := by decide) (he : starEach (e :: es) X.env = (false, eval e X.env) :: starEach es X.env := by rfl) (hpl : (backTo pos (starEach es X.env)).any (·.1) = false := by rfl) :
    PE X (.Call (.Name x p) (e :: es) [] pos) (tM X.K (mCall F a)) := by
  refine ⟨fun pins s σ H Q I h => ?_⟩
  obtain ⟨μ, ρ, S, w, S', ok, e0, kk⟩ := h
  unfold mCall at e0
  split at e0
  · rename_i ws S1 e1
    refine wpAny_Call_Name_kw (ld_glob I hg hm ?_ hdb)
    refine PySem.W.callWith_K (h₀ := X.base) I.ok.mod.kin hk (thn (ha.run pos pins s σ H (fun vs' H' => spM X.K n F vs' H' Q E0) I ⟨μ, ρ, S, ws, S1, ok, e1, fun μ1 vs H1 so1 st1 r1 => ?_⟩) fun us s1 ⟨vs, H1, I1, r, q⟩ => ⟨I1.kIn, ?_⟩) he hpl
    · refine ⟨by rw [← r1.length]; exact hla _ _ _ _ e1, μ1, S1, ws, w, S', so1, r1, e0, fun μ2 v H2 so2 st2 r2 => kk μ2 v H2 so2 (st1.trans st2) r2⟩
    · exact run_fnG G hr hgd hb I1 r q
  · cases e0
end

/-! ### the body of a def -/
section
variable {P : Program} {w : World} {K : PySem.W.Frag} {mg : Str → Option Value} {base : Heap}
theorem fnG_of {k : Nat} {f : Addr} {name qual : Str} {params : Arguments} {body : List Stmt} {scope : Scope} {dV kV doc pm cdv ct oc : Value} {an od : Option Addr}
    {osl : Array (Option Value)} {N ps : List Str} {sp : Sp} (lk : K.lookup f = some ⟨oc, od, .func (PySem.W.fnOf name qual params body scope dV kV doc pm an cdv ct), osl⟩) (hcd : PySem.W.codeIn K cdv qual = true) (S : FnScope N ps scope)
    (len : ∀ vs H Q E, sp vs H Q E → vs.length = ps.length)
    (hbody : ∀ (A : Around) (outer : List Env) (s : Shared) (H : Hp) (vs : List V) (Q : VK) (E : XK), Room k (A.deeper (envOfC qual scope s.heap.objs.size f cdv)) → (A.deeper (envOfC qual scope s.heap.objs.size f cdv)).guards = some [] → sp vs H Q E →
      ∃ t, PSs (cxOf CX0 P w K mg base N qual scope f cdv A outer s H E).nox body t ∧ t { nx := fun _ H' => Q .non H', rt := Q } (L2.start N vs) H) :
    FnG P w K mg base (k + 1) f (PySem.W.fnOf name qual params body scope dV kV doc pm an cdv ct) ps sp := by
  refine ⟨len, fun A outer s H args us vs Q E hr hgd e0 hb r hsp => ?_⟩
  have hl := len _ _ _ _ hsp
  have KX : K.In s.heap := e0.mod.kin.keeps fun b o e => (e0.bs b o e).1
  have lim : s.heap.NoLimit := e0.mod.nolimit.keeps fun b o e => (e0.bs b o e).1
  have hkind : ∀ y ∈ ps.zip us, scope.names.lookup y.1 = some .local ∨ (scope.names.lookup y.1 = some .cell ∧ ((cellsFrom (s.heap.objs.size + 1) scope.names []).lookup y.1).isSome = true) := fun ⟨n, v⟩ hy => by
    rcases S.par n (List.of_mem_zip hy).1 with q | q
    · exact .inl q
    · exact .inr ⟨q, PySem.W.cellsFrom_some _ _ _ (.inl q)⟩
  refine codeAny_call_function hr.depth (KX _ _ lk) rfl S.co S.gen rfl (PySem.W.codeRec_of KX hcd) (hb _ _ _ _ ?_)
  refine wpAny_newFunctionEnv_cells S.kind hkind fun env he s1 x => ?_
  subst he
  refine ⟨lim.keeps x.toInCall.keep, codeAny_func ?_⟩
  obtain ⟨t, ht0, hq⟩ := hbody A outer s H vs Q E (hr.deeper _) hgd hsp
  have ht := ht0.nox
  have I : Inv (cxOf CX0 P w K mg base N qual scope f cdv A outer s H E) [] (L2.start N vs) H s1 := inv_start S hr.hd e0 hl r x
  refine wpAny_mono (ht.run [] s1 (L2.start N vs) H _ I hq) (fun fl s' hs => ?_) fun e s' hs => hs
  have fin : ∀ {σ' : L2.St} {H' : Hp} {v : V} {u : Value}, Inv (cxOf CX0 P w K mg base N qual scope f cdv A outer s H E) [] σ' H' s' → RelV v u → Q v H' → CE outer P w H s Q u s' :=
    fun {σ' H' v u} J rv q => ⟨v, H', J.os, J.bare, J.base, J.hok, rv, q⟩
  cases fl with
  | ret u =>
    obtain ⟨v, σ', H', J, rv, q⟩ := hs
    exact fin J rv q
  | next =>
    obtain ⟨σ', H', J, q⟩ := hs
    exact fin (v := V.non) (u := Value.none) J rfl q
  | brk =>
    obtain ⟨_, _, _, q⟩ := hs
    exact False.elim q
  | cont =>
    obtain ⟨_, _, _, q⟩ := hs
    exact False.elim q
/-- the context of a def's body -/
abbrev BCx (P : Program) (w : World) (K : PySem.W.Frag) (mg : Str → Option Value) (base : Heap) (N : List Str) (qual : Str) (scope : Scope) (f : Addr) (cdv : Value) (A : Around) (outer : List Env) (s : Shared) (H : Hp) (E : XK) : Cx :=
  (cxOf CX0 P w K mg base N qual scope f cdv A outer s H E).nox
/-- THE RULE: a def whose body has the partial function b -/
theorem fnG {x qual : Str} {st : Stmt} {f : Addr} {fd : FuncData} {N ps : List Str} {k : Nat} {b : SM} (F : Fun K x qual st f fd) (S : FnScope N ps (defScope st))
    (hbody : ∀ (cdv : Value) (A : Around) (outer : List Env) (s : Shared) (H : Hp) (E : XK), Room k (A.deeper (envOfC qual (defScope st) s.heap.objs.size f cdv)) → (A.deeper (envOfC qual (defScope st) s.heap.objs.size f cdv)).guards = some [] →
      PSs (BCx P w K mg base N qual (defScope st) f cdv A outer s H E) (defBody st) (tS K b)) : FnG P w K mg base (k + 1) f fd ps (spM K ps.length (fnM N.length b)) := by
  obtain ⟨oc, od, kV, doc, pm, an, cdv, ct, osl, rfl, lk, hcd⟩ := F.ex
  refine fnG_of lk hcd S (fun vs H Q E h => h.1) fun A outer s H vs Q E hr hgd hsp => ?_
  obtain ⟨hl, μ, S0, ws, w0, S', so, rw', e, kk⟩ := hsp
  refine ⟨_, hbody cdv A outer s H E hr hgd, ?_⟩
  have hpl : ps.length ≤ N.length := by have := congrArg List.length S.pre; rw [List.length_take] at this; omega
  unfold fnM at e
  split at e
  · rename_i ρ' S1 e1
    cases e
    exact ⟨μ, _, S0, _, _, _, ⟨so, EnvOk.start rw' (by omega)⟩, e1, fun μ1 H1 so1 st1 => fun σ _ => kk μ1 .non H1 so1 st1 .non⟩
  · rename_i w1 ρ' S1 e1
    cases e
    exact ⟨μ, _, S0, _, _, _, ⟨so, EnvOk.start rw' (by omega)⟩, e1, fun μ1 H1 so1 st1 => fun v rv => kk μ1 v H1 so1 st1 rv⟩
  · cases e
/-- .. and it keeps its cells to itself -/
theorem FnG.trim {f : Addr} {fd : FuncData} {ps : List Str} {k n : Nat} {F : FM} (G : FnG P w K mg base k f fd ps (spM K n F)) : FnG P w K mg base k f fd ps (spM K n (trimF F)) := by
  have im : ∀ vs H Q E, spM K n (trimF F) vs H Q E → spM K n F vs H Q E := by
    intro vs H Q E h
    obtain ⟨hl, μ, S0, ws, w0, S', so, rw', e, kk⟩ := h
    unfold trimF at e
    split at e
    · rename_i d S1 e1
      cases e
      refine ⟨hl, μ, S0, ws, _, S1, so, rw', e1, fun μ1 v H1 so1 st1 r1 => ?_⟩
      obtain ⟨a, b, c⟩ := trim_ok so so1 st1 (show Rep K H1 μ1 d v from r1)
      exact kk _ v H1 a b c
    · cases e
  exact ⟨fun vs H Q E q => G.len vs H Q E (im _ _ _ _ q), fun A outer s H args us vs Q E hr hgd he hb hv hs => G.run A outer s H args us vs Q E hr hgd he hb hv (im _ _ _ _ hs)⟩
/-- .. by another name of its function -/
theorem FnG.as {f : Addr} {fd : FuncData} {ps : List Str} {k n : Nat} {F F' : FM} (G : FnG P w K mg base k f fd ps (spM K n F)) (h : ∀ ws S w' S', F' ws S = some (w', S') → F ws S = some (w', S')) : FnG P w K mg base k f fd ps (spM K n F') := by
  have im : ∀ vs H Q E, spM K n F' vs H Q E → spM K n F vs H Q E := by
    intro vs H Q E q
    obtain ⟨hl, μ, S0, ws, w0, S', so, rw', e, kk⟩ := q
    exact ⟨hl, μ, S0, ws, w0, S', so, rw', h _ _ _ _ e, kk⟩
  exact ⟨fun vs H Q E q => G.len vs H Q E (im _ _ _ _ q), fun A outer s H args us vs Q E hr hgd he hb hv hs => G.run A outer s H args us vs Q E hr hgd he hb hv (im _ _ _ _ hs)⟩
end

/-! ### statements -/
def sNx : SM := fun ρ S => some (.nx, ρ, S)
def sSeq (a b : SM) : SM := fun ρ S => match a ρ S with
  | some (.nx, ρ1, S1) => b ρ1 S1
  | r => r
def sSet (i : Nat) (m : EM) : SM := fun ρ S => match m ρ S with
  | some (w, S1) => some (.nx, ρ.set i (some w), S1)
  | none => none
def sExpr (m : EM) : SM := fun ρ S => match m ρ S with
  | some (_, S1) => some (.nx, ρ, S1)
  | none => none
def sRet (m : EM) : SM := fun ρ S => match m ρ S with
  | some (w, S1) => some (.ret w, ρ, S1)
  | none => none
def sIf (t : TM) (a b : SM) : SM := fun ρ S => match t ρ S with
  | some (true, S1) => a ρ S1
  | some (false, S1) => b ρ S1
  | none => none
def sNo : SM := fun _ _ => none
section
variable {X : Cx} {st : Stmt} {rest sa sb : List Stmt} {e : Expr} {pos : Pos} {m : EM} {t : TM} {a b : SM}
theorem ms_nil : PSs X [] (tS X.K sNx) := PSs.imp pss_nil fun D σ H q => by
  obtain ⟨μ, ρ, S, c, ρ', S', ok, e, k⟩ := q
  cases e
  exact k μ H ok.so .refl σ ok.env
theorem ms_cons (h : PS X st (tS X.K a)) (hr : PSs X rest (tS X.K b)) : PSs X (st :: rest) (tS X.K (sSeq a b)) := PSs.imp (pss_cons h hr) fun D σ H q => by
  obtain ⟨μ, ρ, S, c, ρ', S', ok, e, k⟩ := q
  unfold sSeq at e
  split at e
  · rename_i ρ1 S1 e1
    refine ⟨μ, ρ, S, .nx, ρ1, S1, ok, e1, fun μ1 H1 so1 st1 => fun σ1 env1 => ?_⟩
    exact ⟨μ1, ρ1, S1, c, ρ', S', ⟨so1, env1⟩, e, fun μ2 H2 so2 st2 => k μ2 H2 so2 (st1.trans st2)⟩
  · rename_i hne
    refine ⟨μ, ρ, S, c, ρ', S', ok, e, fun μ1 H1 so1 st1 => ?_⟩
    have q := k μ1 H1 so1 st1
    cases c with
    | nx => exact absurd e (hne ρ' S')
    | ret w => exact q
    | brk => exact q
    | cnt => exact q
theorem ms_one (h : PS X st (tS X.K a)) : PSs X [st] (tS X.K a) := pss_one h
theorem ms_set {i : Nat} {x : Str} {pos' : Pos} (hN : X.N.Nodup) (hi : X.N[i]? = some x) (hx : Loc X.env.scope x) (he : PE X e (tM X.K m)) (hs : swapsWith e (some (.Name x pos')) pos.line X.env = pure false := by rfl)
    (hf : X.fn x = true ∨ X.env.scope.names.lookup x = some .local := by first | exact .inl rfl | exact .inr rfl | assumption) : PS X (.Assign [.Name x pos'] e pos) (tS X.K (sSet i m)) := PS.imp (ps_set hN hi hx he hs hf) fun D σ H q => by
  obtain ⟨μ, ρ, S, c, ρ', S', ok, e, k⟩ := q
  unfold sSet at e
  split at e
  · rename_i w S1 e1
    cases e
    exact ⟨μ, ρ, S, w, _, ok, e1, fun μ1 v H1 so1 st1 r1 => k μ1 H1 so1 st1 _ ((ok.env.step ok.so st1).set r1 i)⟩
  · cases e
theorem ms_expr (he : PE X e (tM X.K m)) (hs : swapsWith e none pos.line X.env = pure false := by rfl) : PS X (.Expr e pos) (tS X.K (sExpr m)) := PS.imp (ps_expr he hs) fun D σ H q => by
  obtain ⟨μ, ρ, S, c, ρ', S', ok, e, k⟩ := q
  unfold sExpr at e
  split at e
  · rename_i w S1 e1
    cases e
    exact ⟨μ, ρ, S, w, _, ok, e1, fun μ1 v H1 so1 st1 r1 => k μ1 H1 so1 st1 _ (ok.env.step ok.so st1)⟩
  · cases e
theorem ms_ret (he : PE X e (tM X.K m)) : PS X (.Return (some e) pos) (tS X.K (sRet m)) := PS.imp (ps_ret he) fun D σ H q => by
  obtain ⟨μ, ρ, S, c, ρ', S', ok, e, k⟩ := q
  unfold sRet at e
  split at e
  · rename_i w S1 e1
    cases e
    exact ⟨μ, ρ, S, w, _, ok, e1, fun μ1 v H1 so1 st1 r1 => k μ1 H1 so1 st1 v r1⟩
  · cases e
theorem ms_if {c : Expr} (hc : PT X c (tT X.K t)) (ha : PSs X sa (tS X.K a)) (hb : PSs X sb (tS X.K b)) : PS X (.If c sa sb pos) (tS X.K (sIf t a b)) := PS.imp (ps_if hc ha hb) fun D σ H q => by
  obtain ⟨μ, ρ, S, c, ρ', S', ok, e, k⟩ := q
  unfold sIf at e
  split at e
  · rename_i S1 e1
    exact ⟨μ, ρ, S, true, S1, ok, e1, fun μ1 H1 so1 st1 => itT ⟨μ1, ρ, S1, c, ρ', S', ok.next so1 st1, e, fun μ2 H2 so2 st2 => k μ2 H2 so2 (st1.trans st2)⟩⟩
  · rename_i S1 e1
    exact ⟨μ, ρ, S, false, S1, ok, e1, fun μ1 H1 so1 st1 => itF ⟨μ1, ρ, S1, c, ρ', S', ok.next so1 st1, e, fun μ2 H2 so2 st2 => k μ2 H2 so2 (st1.trans st2)⟩⟩
  · cases e
theorem ms_no : PS X st (tS X.K sNo) := PS.imp ps_never fun D σ H q => by
  obtain ⟨μ, ρ, S, c, ρ', S', ok, e, k⟩ := q
  cases e
theorem mss_no : PSs X rest (tS X.K sNo) := PSs.imp pss_never fun D σ H q => by
  obtain ⟨μ, ρ, S, c, ρ', S', ok, e, k⟩ := q
  cases e
theorem ms_pass : PS X (.Pass pos) (tS X.K sNx) := PS.imp ps_pass fun D σ H q => by
  obtain ⟨μ, ρ, S, c, ρ', S', ok, e, k⟩ := q
  cases e
  exact k μ H ok.so .refl σ ok.env
theorem ms_break : PS X (.Break pos) (tS X.K fun ρ S => some (.brk, ρ, S)) := PS.imp ps_break fun D σ H q => by
  obtain ⟨μ, ρ, S, c, ρ', S', ok, e, k⟩ := q
  cases e
  exact k μ H ok.so .refl σ ok.env
end
end HM

set_option Elab.async false
set_option linter.all false
set_option maxRecDepth 100000
set_option autoImplicit false
namespace HM
open PySem PySem.Spec L2
open PyProof.Rows hiding St

/-! ### targets: names, tuples of such -/
inductive Tg where
  | nm (i : Nat) | tp (ts : List Tg)
mutual
def Tg.slots : Tg → List Nat
  | .nm i => [i]
  | .tp ts => slotsAll ts
def slotsAll : List Tg → List Nat
  | [] => []
  | t :: r => t.slots ++ slotsAll r
end
mutual
def bindT : Tg → W → Rho → Option Rho
  | .nm i, w, ρ => some (ρ.set i (some w))
  | .tp ts, .val (.tup ds), ρ => if ds.length = ts.length then bindTs ts ds ρ else none
  | .tp _, .val .non, _ => none
  | .tp _, .val (.bl _), _ => none
  | .tp _, .val (.int _), _ => none
  | .tp _, .val (.str _), _ => none
  | .tp _, .val (.fl _), _ => none
  | .tp _, .val (.scr _), _ => none
  | .tp _, .val (.dct _ _), _ => none
  | .tp _, .val (.exc0 _), _ => none
  | .tp _, .val (.exc1 _ _ _), _ => none
  | .tp _, .loc _, _ => none
def bindTs : List Tg → List D → Rho → Option Rho
  | [], [], ρ => some ρ
  | t :: ts, d :: ds, ρ => match bindT t (.val d) ρ with
    | some ρ1 => bindTs ts ds ρ1
    | none => none
  | [], _ :: _, _ => none
  | _ :: _, [], _ => none
end
mutual
def gT (K : PySem.W.Frag) : Tg → TG
  | .nm i => gName i
  | .tp ts => gTup K ts.length (gTs K ts)
def gTs (K : PySem.W.Frag) : List Tg → TGs
  | [] => gNil
  | t :: r => gCons (gT K t) (gTs K r)
end
/-- σ' is σ but at these slots -/
def Sets (L : List Nat) (σ σ' : L2.St) : Prop := σ'.length = σ.length ∧ ∀ i, i ∉ L → σ'[i]? = σ[i]?
theorem wipe_get (σ : L2.St) (i : Nat) : ∀ vs : List Nat, (wipe σ vs)[i]? = if i ∈ vs then (if i < σ.length then some none else none) else σ[i]?
  | [] => by simp [wipe]
  | v :: vs => by
    show ((wipe σ vs).set v none)[i]? = _
    by_cases h : v = i
    · subst h
      rw [if_pos List.mem_cons_self]
      by_cases hl : v < σ.length
      · rw [if_pos hl, List.getElem?_set_self (by rw [wipe_length]; exact hl)]
      · rw [if_neg hl, List.getElem?_eq_none (by rw [List.length_set, wipe_length]; omega)]
    · rw [List.getElem?_set_ne h, wipe_get σ i vs]
      have e : (i ∈ v :: vs) = (i ∈ vs) := by simp [Ne.symm h]
      simp only [e]
theorem Sets.wipe {L vs : List Nat} {σ σ' : L2.St} (s : Sets L σ σ') (h : ∀ i ∈ L, i ∈ vs) : L2.wipe σ' vs = L2.wipe σ vs := by
  refine List.ext_getElem? fun i => ?_
  rw [wipe_get, wipe_get, s.1]
  by_cases hi : i ∈ vs
  · rw [if_pos hi, if_pos hi]
  · rw [if_neg hi, if_neg hi]
    exact s.2 i fun z => hi (h i z)
theorem wipe_idem (σ : L2.St) (vs : List Nat) : L2.wipe (L2.wipe σ vs) vs = L2.wipe σ vs := by
  refine List.ext_getElem? fun i => ?_
  rw [wipe_get, wipe_get, wipe_length]
  by_cases hi : i ∈ vs
  · rw [if_pos hi, if_pos hi]
  · rw [if_neg hi, if_neg hi]
section
variable {K : PySem.W.Frag} {H : Hp} {μ : Mu} {S : Sto}
mutual
theorem gT_ok (so : StoreOk K H μ S) : ∀ (tg : Tg) (w : W) (v : V) (ρ ρ' : Rho) (σ : L2.St) (Q : L2.St → Hp → Prop), EnvOk K H μ ρ σ → RepW K H μ w v → bindT tg w ρ = some ρ' → (∀ σ', EnvOk K H μ ρ' σ' → Sets tg.slots σ σ' → Q σ' H) → gT K tg v σ H Q
  | .nm i, w, v, ρ, ρ', σ, Q, env, r, e, q => by
    unfold bindT at e
    cases e
    unfold gT
    refine q _ (env.set r i) ⟨by rw [List.length_set], fun j hj => ?_⟩
    unfold Tg.slots at hj
    rw [List.getElem?_set_ne (fun z => hj (by simp [z]))]
  | .tp ts, .val (.tup ds), v, ρ, ρ', σ, Q, env, r, e, q => by
    unfold bindT at e
    split at e
    · rename_i hl
      cases (show Rep K H μ (.tup ds) v from r) with
      | tup qt rs =>
        unfold gT
        refine ⟨_, _, rfl, qt, by rw [← rs.length]; exact hl, gTs_ok so ts ds _ ρ ρ' σ Q env rs e fun σ' h1 h2 => q σ' h1 ?_⟩
        unfold Tg.slots
        exact h2
    · cases e
  | .tp _, .val .non, _, _, _, _, _, _, _, e, _ => by unfold bindT at e; cases e
  | .tp _, .val (.bl _), _, _, _, _, _, _, _, e, _ => by unfold bindT at e; cases e
  | .tp _, .val (.int _), _, _, _, _, _, _, _, e, _ => by unfold bindT at e; cases e
  | .tp _, .val (.str _), _, _, _, _, _, _, _, e, _ => by unfold bindT at e; cases e
  | .tp _, .val (.fl _), _, _, _, _, _, _, _, e, _ => by unfold bindT at e; cases e
  | .tp _, .val (.scr _), _, _, _, _, _, _, _, e, _ => by unfold bindT at e; cases e
  | .tp _, .val (.dct _ _), _, _, _, _, _, _, _, e, _ => by unfold bindT at e; cases e
  | .tp _, .val (.exc0 _), _, _, _, _, _, _, _, e, _ => by unfold bindT at e; cases e
  | .tp _, .val (.exc1 _ _ _), _, _, _, _, _, _, _, e, _ => by unfold bindT at e; cases e
  | .tp _, .loc _, _, _, _, _, _, _, _, e, _ => by unfold bindT at e; cases e
theorem gTs_ok (so : StoreOk K H μ S) : ∀ (ts : List Tg) (ds : List D) (vs : List V) (ρ ρ' : Rho) (σ : L2.St) (Q : L2.St → Hp → Prop), EnvOk K H μ ρ σ → Reps K H μ ds vs → bindTs ts ds ρ = some ρ' → (∀ σ', EnvOk K H μ ρ' σ' → Sets (slotsAll ts) σ σ' → Q σ' H) → gTs K ts vs σ H Q
  | [], [], _, ρ, ρ', σ, Q, env, rs, e, q => by
    unfold bindTs at e
    cases e
    cases rs
    unfold gTs
    exact ⟨rfl, q σ env ⟨rfl, fun _ _ => rfl⟩⟩
  | t :: ts, d :: ds, _, ρ, ρ', σ, Q, env, rs, e, q => by
    unfold bindTs at e
    split at e
    · rename_i ρ1 e1
      cases rs with
      | cons r rs =>
        unfold gTs
        refine ⟨_, _, rfl, gT_ok so t (.val d) _ ρ ρ1 σ _ env r e1 fun σ1 env1 s1 => ?_⟩
        refine gTs_ok so ts ds _ ρ1 ρ' σ1 Q env1 rs e fun σ2 env2 s2 => q σ2 env2 ⟨s2.1.trans s1.1, fun i hi => ?_⟩
        unfold slotsAll at hi
        rw [List.mem_append] at hi
        exact (s2.2 i fun z => hi (.inr z)).trans (s1.2 i fun z => hi (.inl z))
    · cases e
  | [], _ :: _, _, _, _, _, _, _, _, e, _ => by unfold bindTs at e; cases e
  | _ :: _, [], _, _, _, _, _, _, _, e, _ => by unfold bindTs at e; cases e
end
end
section
variable {X : Cx} {pos : Pos}
theorem mg_name {i : Nat} {x : Str} (hN : X.N.Nodup) (hi : X.N[i]? = some x) (hx : Loc X.env.scope x) (hf : X.fn x = true ∨ X.env.scope.names.lookup x = some .local := by first | exact .inl rfl | exact .inr rfl | assumption) : PG X (.Name x pos) (gT X.K (.nm i)) := by
  unfold gT
  exact pg_name hN hi hx hf
theorem mgs_nil : PGs X [] (gTs X.K []) := by
  unfold gTs
  exact pgs_nil
theorem mgs_cons {e : Expr} {es : List Expr} {t : Tg} {ts : List Tg} (h1 : PG X e (gT X.K t)) (h2 : PGs X es (gTs X.K ts))
    (hs : (assignEach (e :: es) X.env).map (·.2) = assign e X.env :: (assignEach es X.env).map (·.2) := by rfl) : PGs X (e :: es) (gTs X.K (t :: ts)) := by
  unfold gTs
  exact pgs_cons h1 h2 hs
theorem mg_tup {es : List Expr} {k : Nat} {ts : List Tg} (hc : X.calm = true) (h : PGs X es (gTs X.K ts)) (hn : (assignEach es X.env).length = ts.length := by rfl) (hst : (assignEach es X.env).findIdx? (·.1) = none := by rfl) : PG X (.Tuple es k pos) (gT X.K (.tp ts)) := by
  unfold gT
  exact pg_tup hc h hn hst
/-- target = value -/
def sAsg (tg : Tg) (m : EM) : SM := fun ρ S => match m ρ S with
  | some (w, S1) => match bindT tg w ρ with
    | some ρ1 => some (.nx, ρ1, S1)
    | none => none
  | none => none
theorem ms_asg {tg : Tg} {target e : Expr} {m : EM} (he : PE X e (tM X.K m)) (hg : PG X target (gT X.K tg)) (hs : swapsWithSole [target] e pos.line X.env = pure false := by rfl) (hw : swappedStores [target] e X.env = pure none := by rfl)
    (h1 : (assignEach [target] X.env).map (·.2) = [assign target X.env] := by rfl) : PS X (.Assign [target] e pos) (tS X.K (sAsg tg m)) := PS.imp (ps_asg he hg hs hw h1) fun D σ H q => by
  obtain ⟨μ, ρ, S, c, ρ', S', ok, e, k⟩ := q
  unfold sAsg at e
  split at e
  · rename_i w S1 e1
    split at e
    · rename_i ρ1 e2
      cases e
      exact ⟨μ, ρ, S, w, _, ok, e1, fun μ1 v H1 so1 st1 r1 => gT_ok so1 tg w v ρ _ σ _ (ok.env.step ok.so st1) r1 e2 fun σ' h1 _ => k μ1 H1 so1 st1 σ' h1⟩
    · cases e
  · cases e
end

/-! ### what is walked -/
structure ItOk (K : PySem.W.Frag) (J : It) (H0 : Hp) (μ0 : Mu) (ds : List D) : Prop where
  go : ∀ (H : Hp) (μ : Mu) (S : Sto) (i : Nat), StoreOk K H μ S → Step H0 μ0 H μ → i < ds.length → J.go i H
  stop : ∀ (H : Hp) (μ : Mu) (S : Sto), StoreOk K H μ S → Step H0 μ0 H μ → J.stop ds.length H
  yld : ∀ (H : Hp) (μ : Mu) (S : Sto) (i : Nat) (x : V) (H' : Hp), StoreOk K H μ S → Step H0 μ0 H μ → i < ds.length → J.yld i H x H' → ∃ d, ds[i]? = some d ∧ StoreOk K H' μ S ∧ Step H μ H' μ ∧ Rep K H' μ d x
abbrev IM := Rho → Sto → Option (List D × Sto)
def tI (K : PySem.W.Frag) (m : IM) : TI := fun σ H R => ∃ μ ρ S ds S', Ok K μ ρ S σ H ∧ m ρ S = some (ds, S') ∧ ∀ μ' H' J, StoreOk K H' μ' S' → Step H μ H' μ' → ItOk K J H' μ' ds → R J H'
theorem PI.imp {X : Cx} {tg e : Expr} {t t' : TI} (h : PI X tg e t) (i : ∀ σ H R, t' σ H R → t σ H R) : PI X tg e t' := ⟨fun pins s σ H R I q => h.run pins s σ H R I (i σ H R q)⟩
theorem PI.or {X : Cx} {tg e : Expr} {t t' : TI} (h : PI X tg e t) (h' : PI X tg e t') : PI X tg e (fun σ H R => t σ H R ∨ t' σ H R) := ⟨fun pins s σ H R I q => by
  rcases q with q | q
  · exact h.run pins s σ H R I q
  · exact h'.run pins s σ H R I q⟩
/-- the items of a list that is data, of a tuple -/
def dItems : W → Option (List D)
  | .val (.fl ds) => some ds
  | .val (.scr ns) => some (ns.map D.int)
  | _ => none
theorem dItems_ok {K : PySem.W.Frag} {H : Hp} {μ : Mu} {w : W} {v : V} {ds : List D} (r : RepW K H μ w v) (e : dItems w = some ds) :
    ∃ a vs, v = .ref a ∧ Reps K H μ ds vs ∧ ∀ (S : Sto) (H' : Hp) (μ' : Mu), StoreOk K H μ S → Step H μ H' μ' → SqL K H' a vs ∧ Reps K H' μ' ds vs := by
  cases w with
  | loc l => cases e
  | val d =>
    cases d with
    | fl ds' =>
      cases e
      cases (show Rep K H μ (.fl ds) v from r) with
      | fl q rs => exact ⟨_, _, rfl, rs, fun S H' μ' so st => ⟨(flAt_step so st q).sqL, rs.step so st⟩⟩
    | scr ns =>
      cases e
      cases (show Rep K H μ (.scr ns) v from r) with
      | scr q => exact ⟨_, _, rfl, reps_ints ns, fun S H' μ' so st => ⟨(scrAt_step so st q).sqL, reps_ints ns⟩⟩
    | _ => cases e
def iSeq (m : EM) : IM := fun ρ S => match m ρ S with
  | some (w, S1) => match tItems w with
    | some ds => some (ds, S1)
    | none => match dItems w with
      | some ds => some (ds, S1)
      | none => none
  | none => none
section
variable {X : Cx} {tg e : Expr} {m : EM}
theorem itOk_tup {K : PySem.W.Frag} {H : Hp} {μ : Mu} {S : Sto} {a : Addr} {vs : List V} {ds : List D} (so : StoreOk K H μ S) (q : SqT K H a vs) (rs : Reps K H μ ds vs) : ItOk K (Itt K a) H μ ds where
  go := fun H' μ' S' i so' st hi => by
    have hv : i < vs.length := by rw [← rs.length]; exact hi
    exact ⟨vs, vs[i], sqT_step so st q, by simp [hv]⟩
  stop := fun H' μ' S' so' st => ⟨vs, sqT_step so st q, by rw [rs.length]; exact Nat.le_refl _⟩
  yld := fun H' μ' S' i x H'' so' st hi y => by
    obtain ⟨rfl, y⟩ := y
    obtain ⟨d, h1, h2⟩ := (rs.step so st).getV (y vs (sqT_step so st q))
    exact ⟨d, h1, so', .refl, h2⟩
theorem itOk_list {K : PySem.W.Frag} {H : Hp} {μ : Mu} {S : Sto} {a : Addr} {vs : List V} {ds : List D} (so : StoreOk K H μ S) (rs : Reps K H μ ds vs) (q : ∀ (S : Sto) (H' : Hp) (μ' : Mu), StoreOk K H μ S → Step H μ H' μ' → SqL K H' a vs ∧ Reps K H' μ' ds vs) : ItOk K (Itl K a) H μ ds where
  go := fun H' μ' S' i so' st hi => by
    have hv : i < vs.length := by rw [← rs.length]; exact hi
    exact ⟨vs, vs[i], (q S H' μ' so st).1, by simp [hv]⟩
  stop := fun H' μ' S' so' st => ⟨vs, (q S H' μ' so st).1, by rw [rs.length]; exact Nat.le_refl _⟩
  yld := fun H' μ' S' i x H'' so' st hi y => by
    obtain ⟨rfl, y⟩ := y
    obtain ⟨d, h1, h2⟩ := (q S H'' μ' so st).2.getV (y vs (q S H'' μ' so st).1)
    exact ⟨d, h1, so', .refl, h2⟩
theorem mi_seq (h : PE X e (tM X.K m)) : PI X tg e (tI X.K (iSeq m)) := by
  refine PI.imp (HM.PI.or (pi_tup h) (pi_list h)) fun σ H R q => ?_
  obtain ⟨μ, ρ, S, ds, S', ok, e, k⟩ := q
  unfold iSeq at e
  split at e
  · rename_i w S1 e1
    split at e
    · rename_i ds' e2
      cases e
      refine .inl ⟨μ, ρ, S, w, _, ok, e1, fun μ1 v H1 so1 st1 r1 => ?_⟩
      obtain ⟨a, vs, rfl, q, rs⟩ := tItems_ok r1 e2
      exact ⟨a, rfl, ⟨vs, q⟩, k μ1 H1 _ so1 st1 (itOk_tup so1 q rs)⟩
    · split at e
      · rename_i ds' e2
        cases e
        refine .inr ⟨μ, ρ, S, w, _, ok, e1, fun μ1 v H1 so1 st1 r1 => ?_⟩
        obtain ⟨a, vs, rfl, rs, q⟩ := dItems_ok r1 e2
        exact ⟨a, rfl, ⟨vs, (q _ H1 μ1 so1 .refl).1⟩, k μ1 H1 _ so1 st1 (itOk_list so1 rs q)⟩
      · cases e
  · cases e
/-- range(n), range(a, b) -/
def upFrom (i : Int) (n : Nat) : List D := (List.range n).map fun j => D.int (i + (j : Nat))
theorem upFrom_length (i : Int) (n : Nat) : (upFrom i n).length = n := by simp [upFrom]
theorem itOk_rng {K : PySem.W.Frag} {H : Hp} {μ : Mu} {i : Int} {n : Nat} : ItOk K (Itr i n) H μ (upFrom i n) where
  go := fun H' μ' S' j so' st hi => by rw [upFrom_length] at hi; exact hi
  stop := fun H' μ' S' so' st => by rw [upFrom_length]; exact Nat.le_refl _
  yld := fun H' μ' S' j x H'' so' st hi y => by
    obtain ⟨rfl, rfl⟩ := y
    rw [upFrom_length] at hi
    exact ⟨.int (i + (j : Nat)), by simp [upFrom, hi], so', .refl, .int _⟩
def small62 (i : Int) : Bool := decide (-(2 ^ 62) ≤ i) && decide (i < 2 ^ 62)
theorem small62_ok {i : Int} (h : small62 i = true) : -(2 ^ 62) ≤ i ∧ i < 2 ^ 62 := by
  unfold small62 at h
  rw [Bool.and_eq_true] at h
  exact ⟨of_decide_eq_true h.1, of_decide_eq_true h.2⟩
def iRange1 (a : AM) : IM := fun ρ S => match a ρ S with
  | some ([.val (.int j)], S1) => if small62 j then some (upFrom 0 j.toNat, S1) else none
  | _ => none
def iRange2 (a : AM) : IM := fun ρ S => match a ρ S with
  | some ([.val (.int i), .val (.int j)], S1) => if small62 i && small62 j then some (upFrom i (j - i).toNat, S1) else none
  | _ => none
theorem mi_range1 {a : Expr} {am : AM} {p pos : Pos} (hg : Gl X "range") (hm : X.mg "range" = none) (ha : PA X [a] (tA X.K am)) (hs : starEach [a] X.env = [(false, eval a X.env)] := by rfl) : PI X tg (.Call (.Name "range" p) [a] [] pos) (tI X.K (iRange1 am)) := by
  refine PI.imp (pi_range1 hg hm ha hs) fun σ H R q => ?_
  obtain ⟨μ, ρ, S, ds, S', ok, e, k⟩ := q
  unfold iRange1 at e
  split at e
  · rename_i j S1 e1
    split at e
    · rename_i hj
      cases e
      refine ⟨μ, ρ, S, _, _, ok, e1, fun μ1 vs H1 so1 st1 r1 => ?_⟩
      obtain ⟨v, rfl, rv⟩ := r1.one
      cases rv
      have := small62_ok hj
      exact ⟨j, rfl, this.1, this.2, k μ1 H1 _ so1 st1 itOk_rng⟩
    · cases e
  · cases e
theorem mi_range2 {a b : Expr} {am : AM} {p pos : Pos} (hg : Gl X "range") (hm : X.mg "range" = none) (ha : PA X [a, b] (tA X.K am)) (hs : starEach [a, b] X.env = [(false, eval a X.env), (false, eval b X.env)] := by rfl) (hs2 : starEach [b] X.env = [(false, eval b X.env)] := by rfl) :
    PI X tg (.Call (.Name "range" p) [a, b] [] pos) (tI X.K (iRange2 am)) := by
  refine PI.imp (pi_range2 hg hm ha hs hs2) fun σ H R q => ?_
  obtain ⟨μ, ρ, S, ds, S', ok, e, k⟩ := q
  unfold iRange2 at e
  split at e
  · rename_i i j S1 e1
    split at e
    · rename_i hj
      cases e
      rw [Bool.and_eq_true] at hj
      refine ⟨μ, ρ, S, _, _, ok, e1, fun μ1 vs H1 so1 st1 r1 => ?_⟩
      obtain ⟨v, z, rfl, rv, rz⟩ := r1.two
      cases rv
      cases rz
      have h1 := small62_ok hj.1
      have h2 := small62_ok hj.2
      exact ⟨i, j, rfl, ⟨h1.1, h1.2, h2.1, h2.2⟩, k μ1 H1 _ so1 st1 itOk_rng⟩
    · cases e
  · cases e
end

/-! ### for -/
def forL (tg : Tg) (b : SM) : List D → Rho → Sto → Option (Ctl × Rho × Sto)
  | [], ρ, S => some (.nx, ρ, S)
  | d :: r, ρ, S => match bindT tg (.val d) ρ with
    | some ρ1 => match b ρ1 S with
      | some (.nx, ρ2, S2) => forL tg b r ρ2 S2
      | some (.cnt, ρ2, S2) => forL tg b r ρ2 S2
      | some (.brk, ρ2, S2) => some (.nx, ρ2, S2)
      | some (.ret w, ρ2, S2) => some (.ret w, ρ2, S2)
      | none => none
    | none => none
def sFor (it : IM) (tg : Tg) (b : SM) : SM := fun ρ S => match it ρ S with
  | some (ds, S1) => forL tg b ds ρ S1
  | none => none
section
variable {X : Cx} {target iter : Expr} {body : List Stmt} {it : IM} {tg : Tg} {b : SM} {pos : Pos}
theorem ms_for (hp : PassesOwn (model X.prog X.w) X.A X.env X.xe) (hc : X.calm = true) (hi : PI X target iter (tI X.K it)) (hg : PG X target (gT X.K tg)) (hb : PSs X body (tS X.K b))
    (hs : ∀ x, foldedSetIterable iter X.env x = pure x := by intro _; rfl) : PS X (.For target iter body [] pos) (tS X.K (sFor it tg b)) := PS.imp (ps_for hp hc hi hg hb hs) fun D σ H q => by
  obtain ⟨μ, ρ, S, c, ρ', S', ok, e, k⟩ := q
  unfold sFor at e
  split at e
  · rename_i ds S1 e1
    refine ⟨μ, ρ, S, ds, S1, ok, e1, fun μ1 H1 J so1 st1 io => ?_⟩
    refine ⟨fun i m σ' H' => m = ds.length - i ∧ i ≤ ds.length ∧ ∃ μi ρi Si, StoreOk X.K H' μi Si ∧ EnvOk X.K H' μi ρi σ' ∧ Step H1 μ1 H' μi ∧ forL tg b (ds.drop i) ρi Si = some (c, ρ', S'),
      ⟨ds.length, by simp, Nat.zero_le _, μ1, ρ, S1, so1, ok.env.step ok.so st1, .refl, by rw [List.drop_zero]; exact e⟩, ?_⟩
    rintro i m σi Hi ⟨rfl, hil, μi, ρi, Si, soi, envi, sti, ei⟩
    by_cases hlt : i < ds.length
    · rw [List.drop_eq_getElem_cons hlt] at ei
      unfold forL at ei
      split at ei
      · rename_i ρ1 eb
        refine .inr ⟨io.go Hi μi Si i soi sti hlt, fun σ' H' => ∃ μj ρj Sj, StoreOk X.K H' μj Sj ∧ EnvOk X.K H' μj ρj σ' ∧ Step H1 μ1 H' μj ∧ forL tg b (ds.drop (i + 1)) ρj Sj = some (c, ρ', S'),
          fun σ' H' hN => ⟨ds.length - (i + 1), by omega, rfl, hlt, hN⟩, fun x H' y => ?_⟩
        obtain ⟨d, hd, soy, sty, ry⟩ := io.yld Hi μi Si i x H' soi sti hlt y
        rw [List.getElem?_eq_getElem hlt] at hd
        obtain rfl : ds[i] = d := Option.some.inj hd
        refine gT_ok soy tg (.val ds[i]) x ρi ρ1 σi _ (envi.step soi sty) ry eb fun σ2 env2 _ => ?_
        have stt := sti.trans sty
        split at ei
        · rename_i ρ2 S2 e2
          exact ⟨μi, ρ1, Si, .nx, ρ2, S2, ⟨soy, env2⟩, e2, fun μ3 H3 so3 st3 => fun σ3 env3 => ⟨μ3, ρ2, S2, so3, env3, stt.trans st3, ei⟩⟩
        · rename_i ρ2 S2 e2
          exact ⟨μi, ρ1, Si, .cnt, ρ2, S2, ⟨soy, env2⟩, e2, fun μ3 H3 so3 st3 => fun σ3 env3 => ⟨μ3, ρ2, S2, so3, env3, stt.trans st3, ei⟩⟩
        · rename_i ρ2 S2 e2
          cases ei
          exact ⟨μi, ρ1, Si, .brk, _, _, ⟨soy, env2⟩, e2, fun μ3 H3 so3 st3 => fun σ3 env3 => k μ3 H3 so3 (st1.trans (stt.trans st3)) σ3 env3⟩
        · rename_i w ρ2 S2 e2
          cases ei
          exact ⟨μi, ρ1, Si, .ret w, _, _, ⟨soy, env2⟩, e2, fun μ3 H3 so3 st3 => fun v rv => k μ3 H3 so3 (st1.trans (stt.trans st3)) v rv⟩
        · cases ei
      · cases ei
    · have ei' : i = ds.length := by omega
      subst ei'
      rw [List.drop_length] at ei
      cases ei
      exact .inl ⟨io.stop Hi μi _ soi sti, k μi Hi soi (st1.trans sti) σi envi⟩
  · cases e
end

/-! ### comprehensions -/
def lcL (tg : Tg) (t : TM) (m : EM) (ρ0 : Rho) (l : Nat) : List D → Sto → Option Sto
  | [], S => some S
  | d :: r, S => match bindT tg (.val d) ρ0 with
    | some ρ1 => match t ρ1 S with
      | some (true, S1) => match m ρ1 S1 with
        | some (.val y, S2) => match (S2[l]?).getD none with
          | some acc => if acc.length < sizeLine then lcL tg t m ρ0 l r (S2.set l (some (acc ++ [y]))) else none
          | none => none
        | _ => none
      | some (false, S1) => lcL tg t m ρ0 l r S1
      | none => none
    | none => none
def mLc (it : IM) (tg : Tg) (t : TM) (m : EM) (vs : List Nat) : EM := fun ρ S => match it ρ S with
  | some (ds, S1) => match lcL tg t m (wipeR ρ vs) S1.length ds (S1 ++ [some []]) with
    | some S2 => match (S2[S1.length]?).getD none with
      | some acc => some (.val (.fl acc), S2.take S1.length)
      | none => none
    | none => none
  | none => none
/-- .. the new list being a cell -/
def mLcC (it : IM) (tg : Tg) (t : TM) (m : EM) (vs : List Nat) : EM := fun ρ S => match it ρ S with
  | some (ds, S1) => match lcL tg t m (wipeR ρ vs) S1.length ds (S1 ++ [some []]) with
    | some S2 => some (.loc S1.length, S2)
    | none => none
  | none => none
theorem getD_some {S : Sto} {l : Nat} {acc : List D} (h : (S[l]?).getD none = some acc) : S[l]? = some (some acc) := by
  cases q : S[l]? with
  | none => rw [q] at h; cases h
  | some c =>
    rw [q] at h
    obtain rfl : c = some acc := h
    rfl
theorem lc_imp {K : PySem.W.Frag} {it : IM} {tg : Tg} {t : TM} {m : EM} {vs : List Nat} (hv : ∀ i ∈ tg.slots, i ∈ vs) {σ : L2.St} {H : Hp} {Q : VK} {μ : Mu} {ρ : Rho} {S S1 S2 : Sto} {ds : List D} (ok : Ok K μ ρ S σ H) (e1 : it ρ S = some (ds, S1)) (e2 : lcL tg t m (wipeR ρ vs) S1.length ds (S1 ++ [some []]) = some S2)
    (k : ∀ μ1 H1, StoreOk K H1 μ1 S1 → Step H μ H1 μ1 → ∀ μ' H' D, StoreOk K H' μ' S2 → Step H1 μ1 H' μ' → RepW K H' μ' (.loc S1.length) (.ref D) → Q (.ref D) H') : tLc (tI K it) (gT K tg) (tT K t) (tM K m) vs σ H Q := by
  refine ⟨μ, ρ, S, ds, S1, ok, e1, fun μ1 H1 J so1 st1 io D hD => ?_⟩
  obtain ⟨soN, stN, rN⟩ := new_cell so1 (ds := []) (vs := []) hD .nil
  have lN : S1.length = μ1.length := so1.len.symm
  have atN : (μ1 ++ [some D])[S1.length]? = some (some D) := by rw [lN]; simp
  have envW : EnvOk K H1 μ1 (wipeR ρ vs) (wipe σ vs) := (ok.env.step ok.so st1).wipe vs
  refine ⟨fun i mm H' => mm = ds.length - i ∧ i ≤ ds.length ∧ ∃ μi Si, StoreOk K H' μi Si ∧ Step (upd H1 D (.lst [])) (μ1 ++ [some D]) H' μi ∧ lcL tg t m (wipeR ρ vs) S1.length (ds.drop i) Si = some S2,
    ⟨ds.length, by simp, Nat.zero_le _, _, _, soN, .refl, by rw [List.drop_zero]; exact e2⟩, ?_⟩
  rintro i mm Hi ⟨rfl, hil, μi, Si, soi, sti, ei⟩
  have lI : S1.length < μi.length := by
    have := sti.len
    rw [List.length_append] at this
    simp at this
    omega
  have isD : ∀ {μ' : Mu} {H' : Hp} {a : Addr}, Step (upd H1 D (.lst [])) (μ1 ++ [some D]) H' μ' → μ'[S1.length]? = some (some a) → a = D := fun {μ' H' a} st h => by
    have q := st.old S1.length a (by rw [List.length_append, lN]; simp) h
    rw [atN] at q
    cases q
    rfl
  by_cases hlt : i < ds.length
  · rw [List.drop_eq_getElem_cons hlt] at ei
    unfold lcL at ei
    split at ei
    · rename_i ρ1 eb
      refine .inr ⟨io.go Hi μi Si i soi (stN.trans sti) hlt, fun H' => ∃ μj Sj, StoreOk K H' μj Sj ∧ Step (upd H1 D (.lst [])) (μ1 ++ [some D]) H' μj ∧ lcL tg t m (wipeR ρ vs) S1.length (ds.drop (i + 1)) Sj = some S2,
        fun H' hN => ⟨ds.length - (i + 1), by omega, rfl, hlt, hN⟩, fun x H' y => ?_⟩
      obtain ⟨d, hd, soy, sty, ry⟩ := io.yld Hi μi Si i x H' soi (stN.trans sti) hlt y
      rw [List.getElem?_eq_getElem hlt] at hd
      obtain rfl : ds[i] = d := Option.some.inj hd
      have stt := sti.trans sty
      refine gT_ok soy tg (.val ds[i]) x (wipeR ρ vs) ρ1 (wipe σ vs) _ (envW.step so1 (stN.trans stt)) ry eb fun σ2 env2 hs2 => ⟨?_, ?_⟩
      · rw [hs2.wipe hv, wipe_idem]
      · split at ei
        · rename_i S3 e3
          refine ⟨μi, ρ1, Si, true, S3, ⟨soy, env2⟩, e3, fun μ3 H3 so3 st3 => itT ?_⟩
          split at ei
          · rename_i yd S4 e4
            split at ei
            · rename_i acc e5
              split at ei
              · rename_i hz
                refine ⟨μ3, ρ1, S3, .val yd, S4, ⟨so3, env2.step soy st3⟩, e4, fun μ4 yv H4 so4 st4 r4 => ?_⟩
                obtain ⟨a, us, h1, h2, h3⟩ := so4.cell _ _ (getD_some e5)
                have st14 := (stt.trans st3).trans st4
                have ea := isD st14 h1
                subst ea
                obtain ⟨so5, st5⟩ := set_cell so4 (getD_some e5) h1 (h3.append (.cons r4 .nil))
                exact ⟨us, h2, by rw [← h3.length]; exact hz, μ4, _, so5, st14.trans st5, ei⟩
              · cases ei
            · cases ei
          · cases ei
        · rename_i S3 e3
          exact ⟨μi, ρ1, Si, false, S3, ⟨soy, env2⟩, e3, fun μ3 H3 so3 st3 => itF ⟨μ3, S3, so3, stt.trans st3, ei⟩⟩
        · cases ei
    · cases ei
  · have ei' : i = ds.length := by omega
    subst ei'
    rw [List.drop_length] at ei
    cases ei
    refine .inl ⟨io.stop Hi μi _ soi (stN.trans sti), k μ1 H1 so1 st1 μi Hi D soi (stN.trans sti) ⟨lI, fun a h => by rw [isD sti h]⟩⟩
theorem lcF_imp {K : PySem.W.Frag} {it : IM} {tg : Tg} {t : TM} {m : EM} {vs : List Nat} (hv : ∀ i ∈ tg.slots, i ∈ vs) {σ : L2.St} {H : Hp} {Q : VK} (q : tM K (mLc it tg t m vs) σ H Q) : tLc (tI K it) (gT K tg) (tT K t) (tM K m) vs σ H Q := by
  obtain ⟨μ, ρ, S, w, S', ok, e, k⟩ := q
  unfold mLc at e
  split at e
  · rename_i ds S1 e1
    split at e
    · rename_i S2 e2
      split at e
      · rename_i acc e3
        cases e
        refine lc_imp hv ok e1 e2 fun μ1 H1 so1 st1 μ' H' D so' st' r' => ?_
        obtain ⟨a1, a2, a3⟩ := freeze so' (getD_some e3) r'
        obtain ⟨b1, b2, b3⟩ := trim_ok so1 a1 (st'.trans a2) (show Rep K H' _ (.fl acc) (.ref D) from a3)
        have et : (S2.set S1.length none).take S1.length = S2.take S1.length := by
          rw [List.take_set_of_le (Nat.le_refl _)]
        rw [et] at b1
        exact k _ _ H' b1 (st1.trans b2) b3
      · cases e
    · cases e
  · cases e
theorem lcC_imp {K : PySem.W.Frag} {it : IM} {tg : Tg} {t : TM} {m : EM} {vs : List Nat} (hv : ∀ i ∈ tg.slots, i ∈ vs) {σ : L2.St} {H : Hp} {Q : VK} (q : tM K (mLcC it tg t m vs) σ H Q) : tLc (tI K it) (gT K tg) (tT K t) (tM K m) vs σ H Q := by
  obtain ⟨μ, ρ, S, w, S', ok, e, k⟩ := q
  unfold mLcC at e
  split at e
  · rename_i ds S1 e1
    split at e
    · rename_i S2 e2
      cases e
      exact lc_imp hv ok e1 e2 fun μ1 H1 so1 st1 μ' H' D so' st' r' => k μ' _ H' so' (st1.trans st') r'
    · cases e
  · cases e
end HM

set_option Elab.async false
set_option linter.all false
set_option maxRecDepth 100000
set_option autoImplicit false
namespace HM
open PySem PySem.Spec L2
open PyProof.Rows hiding St
section
variable {X : Cx} {elt target iter : Expr} {ifs : List Expr} {scope : Scope} {own : List (Str × Nat)} {pos : Pos} {it : IM} {tg : Tg} {t : TM} {m : EM}
def tYesM : TM := fun _ S => some (true, S)
theorem mts_nil : PTs X [] (tT X.K tYesM) := ⟨fun pins s σ H Q I h => by
  obtain ⟨μ, ρ, S, b, S', ok, e, k⟩ := h
  cases e
  exact pts_nil.run pins s σ H Q I (k μ H ok.so .refl)⟩
theorem mts_one {c : Expr} (h : PT X c (tT X.K t)) : PTs X [c] (tT X.K t) := pts_one h
theorem me_lc (hc : X.calm = true) (hN : X.N.Nodup) (hi : PI X target iter (tI X.K it)) (ok : BlkOk X.N X.env.scope scope own) (hv : ∀ i ∈ tg.slots, i ∈ own.map (·.2))
    (hg : ∀ (s : Shared) (H : Hp) (C : Addr) (cl : List (Str × Addr)) (fp : List Addr), PG (X.blk s H scope (compEnvC scope cl C X.env) fp) target (gT X.K tg)) (ht : ∀ (s : Shared) (H : Hp) (C : Addr) (cl : List (Str × Addr)) (fp : List Addr), PTs (X.blk s H scope (compEnvC scope cl C X.env) fp) ifs (tT X.K t))
    (he : ∀ (s : Shared) (H : Hp) (C : Addr) (cl : List (Str × Addr)) (fp : List Addr), PE (X.blk s H scope (compEnvC scope cl C X.env) fp) elt (tM X.K m)) (hs : ∀ x, foldedSetIterable iter X.env x = pure x := by intro _; rfl) :
    PE X (.ListComp elt [⟨target, iter, ifs, 0⟩] scope pos) (tM X.K (mLc it tg t m (own.map (·.2)))) := PE.imp (pe_lc hc hN hi ok hg ht he hs) fun σ H Q q => lcF_imp hv q
theorem me_lcC (hc : X.calm = true) (hN : X.N.Nodup) (hi : PI X target iter (tI X.K it)) (ok : BlkOk X.N X.env.scope scope own) (hv : ∀ i ∈ tg.slots, i ∈ own.map (·.2))
    (hg : ∀ (s : Shared) (H : Hp) (C : Addr) (cl : List (Str × Addr)) (fp : List Addr), PG (X.blk s H scope (compEnvC scope cl C X.env) fp) target (gT X.K tg)) (ht : ∀ (s : Shared) (H : Hp) (C : Addr) (cl : List (Str × Addr)) (fp : List Addr), PTs (X.blk s H scope (compEnvC scope cl C X.env) fp) ifs (tT X.K t))
    (he : ∀ (s : Shared) (H : Hp) (C : Addr) (cl : List (Str × Addr)) (fp : List Addr), PE (X.blk s H scope (compEnvC scope cl C X.env) fp) elt (tM X.K m)) (hs : ∀ x, foldedSetIterable iter X.env x = pure x := by intro _; rfl) :
    PE X (.ListComp elt [⟨target, iter, ifs, 0⟩] scope pos) (tM X.K (mLcC it tg t m (own.map (·.2)))) := PE.imp (pe_lc hc hN hi ok hg ht he hs) fun σ H Q q => lcC_imp hv q
theorem set_imp {D : Ends} {i : Nat} {te : TE} {σ : L2.St} {H : Hp} (hte : ∀ Q, tM X.K m σ H Q → te σ H Q) (q : tS X.K (sSet i m) D σ H) : tAsg te (gName i) D σ H := by
  obtain ⟨μ, ρ, S, c, ρ', S', ok, e, k⟩ := q
  unfold sSet at e
  split at e
  · rename_i w S1 e1
    cases e
    exact hte _ ⟨μ, ρ, S, w, _, ok, e1, fun μ1 v H1 so1 st1 r1 => k μ1 H1 so1 st1 _ ((ok.env.step ok.so st1).set r1 i)⟩
  · cases e
/-- name = [..] on one line -/
theorem ms_setLc {i : Nat} {y : Str} {py spos : Pos} (hc : X.calm = true) (hN : X.N.Nodup) (hy : X.N[i]? = some y) (hyl : X.env.scope.names.lookup y = some .local)
    (hsw : swapsWith (.ListComp elt [⟨target, iter, ifs, 0⟩] scope pos) (some (.Name y py)) spos.line X.env = pure true) (hi : PI X target iter (tI X.K it)) (ok : BlkOk X.N X.env.scope scope own) (hv : ∀ i ∈ tg.slots, i ∈ own.map (·.2))
    (hg : ∀ (s : Shared) (H : Hp) (C : Addr) (cl : List (Str × Addr)) (fp : List Addr), PG (X.blk s H scope (compEnvC scope cl C X.env) fp) target (gT X.K tg)) (ht : ∀ (s : Shared) (H : Hp) (C : Addr) (cl : List (Str × Addr)) (fp : List Addr), PTs (X.blk s H scope (compEnvC scope cl C X.env) fp) ifs (tT X.K t))
    (he : ∀ (s : Shared) (H : Hp) (C : Addr) (cl : List (Str × Addr)) (fp : List Addr), PE (X.blk s H scope (compEnvC scope cl C X.env) fp) elt (tM X.K m)) (hs : ∀ x, foldedSetIterable iter X.env x = pure x := by intro _; rfl) :
    PS X (.Assign [.Name y py] (.ListComp elt [⟨target, iter, ifs, 0⟩] scope pos) spos) (tS X.K (sSet i (mLc it tg t m (own.map (·.2))))) := PS.imp (ps_setLc hc hN hy hyl hsw hi ok hg ht he hs) fun D σ H q => set_imp (fun Q => lcF_imp hv) q
theorem ms_setLcC {i : Nat} {y : Str} {py spos : Pos} (hc : X.calm = true) (hN : X.N.Nodup) (hy : X.N[i]? = some y) (hyl : X.env.scope.names.lookup y = some .local)
    (hsw : swapsWith (.ListComp elt [⟨target, iter, ifs, 0⟩] scope pos) (some (.Name y py)) spos.line X.env = pure true) (hi : PI X target iter (tI X.K it)) (ok : BlkOk X.N X.env.scope scope own) (hv : ∀ i ∈ tg.slots, i ∈ own.map (·.2))
    (hg : ∀ (s : Shared) (H : Hp) (C : Addr) (cl : List (Str × Addr)) (fp : List Addr), PG (X.blk s H scope (compEnvC scope cl C X.env) fp) target (gT X.K tg)) (ht : ∀ (s : Shared) (H : Hp) (C : Addr) (cl : List (Str × Addr)) (fp : List Addr), PTs (X.blk s H scope (compEnvC scope cl C X.env) fp) ifs (tT X.K t))
    (he : ∀ (s : Shared) (H : Hp) (C : Addr) (cl : List (Str × Addr)) (fp : List Addr), PE (X.blk s H scope (compEnvC scope cl C X.env) fp) elt (tM X.K m)) (hs : ∀ x, foldedSetIterable iter X.env x = pure x := by intro _; rfl) :
    PS X (.Assign [.Name y py] (.ListComp elt [⟨target, iter, ifs, 0⟩] scope pos) spos) (tS X.K (sSet i (mLcC it tg t m (own.map (·.2))))) := PS.imp (ps_setLc hc hN hy hyl hsw hi ok hg ht he hs) fun D σ H q => set_imp (fun Q => lcC_imp hv) q
end

/-! ### two names at once -/
section
variable {X : Cx} {i j : Nat} {x y : Str} {a b : Expr} {am : AM} {px py pt : Pos} {kt k2 : Nat} {pt2 pos : Pos}
def sPar (i j : Nat) (am : AM) : SM := fun ρ S => match am ρ S with
  | some ([v, w], S1) => some (.nx, (ρ.set i (some v)).set j (some w), S1)
  | _ => none
theorem ms_par (hc : X.calm = true) (hN : X.N.Nodup) (hi : X.N[i]? = some x) (hj : X.N[j]? = some y) (hij : i ≠ j) (hx : X.env.scope.names.lookup x = some .local) (hy : X.env.scope.names.lookup y = some .local) (ha : PA X [a, b] (tA X.K am))
    (hw : swappedStores [.Tuple [.Name x px, .Name y py] kt pt] (.Tuple [a, b] k2 pt2) X.env = pure (some [x, y])) (hs : swapsWithSole [.Tuple [.Name x px, .Name y py] kt pt] (.Tuple [a, b] k2 pt2) pos.line X.env = pure false := by rfl) :
    PS X (.Assign [.Tuple [.Name x px, .Name y py] kt pt] (.Tuple [a, b] k2 pt2) pos) (tS X.K (sPar i j am)) := PS.imp (ps_par hc hN hi hj hij hx hy ha hw hs) fun D σ H q => by
  obtain ⟨μ, ρ, S, c, ρ', S', ok, e, k⟩ := q
  unfold sPar at e
  split at e
  · rename_i v w S1 e1
    cases e
    refine ⟨μ, ρ, S, _, _, ok, e1, fun μ1 vs H1 so1 st1 r1 => ?_⟩
    obtain ⟨v', w', rfl, rv, rw'⟩ := r1.two
    exact ⟨v', w', rfl, k μ1 H1 so1 st1 _ (((ok.env.step ok.so st1).set rv i).set rw' j)⟩
  · cases e
end

/-! ### zip, enumerate -/
def zipD : List D → List D → List D
  | a :: r, b :: s => .tup [a, b] :: zipD r s
  | _, _ => []
theorem zipD_length : ∀ as bs : List D, (zipD as bs).length = min as.length bs.length
  | [], bs => by simp [zipD]
  | _ :: _, [] => by simp [zipD]
  | a :: r, b :: s => by
    simp only [zipD, List.length_cons, zipD_length r s]
    omega
theorem zipD_get : ∀ (as bs : List D) (i : Nat) (a b : D), as[i]? = some a → bs[i]? = some b → (zipD as bs)[i]? = some (.tup [a, b])
  | [], _, _, _, _, h, _ => by simp at h
  | _ :: _, [], _, _, _, _, h => by simp at h
  | x :: r, y :: s, 0, a, b, h, g => by
    have e1 := Option.some.inj h
    have e2 := Option.some.inj g
    subst e1 e2
    rfl
  | x :: r, y :: s, i + 1, a, b, h, g => zipD_get r s i a b h g
def iZipM (a : AM) : IM := fun ρ S => match a ρ S with
  | some ([x, y], S1) => match tItems x, tItems y with
    | some ds, some es => some (zipD ds es, S1)
    | _, _ => match dItems x, dItems y with
      | some ds, some es => some (zipD ds es, S1)
      | _, _ => none
  | _ => none
theorem itOk_zipT {K : PySem.W.Frag} {H : Hp} {μ : Mu} {S : Sto} {a b : Addr} {us vs : List V} {ds es : List D} (so : StoreOk K H μ S) (qa : SqT K H a us) (qb : SqT K H b vs) (ra : Reps K H μ ds us) (rb : Reps K H μ es vs) : ItOk K (RZ.ItzT K a b) H μ (zipD ds es) where
  go := fun H' μ' S' i so' st hi => by
    rw [zipD_length] at hi
    have h1 : i < us.length := by rw [← ra.length]; omega
    have h2 : i < vs.length := by rw [← rb.length]; omega
    exact ⟨us, vs, us[i], vs[i], sqT_step so st qa, sqT_step so st qb, by simp [h1], by simp [h2]⟩
  stop := fun H' μ' S' so' st => ⟨us, vs, sqT_step so st qa, sqT_step so st qb, by rw [zipD_length, ← ra.length, ← rb.length]; omega⟩
  yld := fun H' μ' S' i x H'' so' st hi y => by
    obtain ⟨T, u, v, rfl, hT, rfl, f1, f2⟩ := y
    obtain ⟨d, h1, h2⟩ := (ra.step so st).getV (f1 us (sqT_step so st qa))
    obtain ⟨e, g1, g2⟩ := (rb.step so st).getV (f2 vs (sqT_step so st qb))
    obtain ⟨s1, s2, s3⟩ := new_tup so' hT (.cons h2 (.cons g2 .nil))
    exact ⟨.tup [d, e], zipD_get ds es i d e h1 g1, s1, s2, s3⟩
theorem itOk_zipL {K : PySem.W.Frag} {H : Hp} {μ : Mu} {S : Sto} {a b : Addr} {us vs : List V} {ds es : List D} (so : StoreOk K H μ S) (ra : Reps K H μ ds us) (rb : Reps K H μ es vs) (qa : ∀ (S : Sto) (H' : Hp) (μ' : Mu), StoreOk K H μ S → Step H μ H' μ' → SqL K H' a us ∧ Reps K H' μ' ds us)
    (qb : ∀ (S : Sto) (H' : Hp) (μ' : Mu), StoreOk K H μ S → Step H μ H' μ' → SqL K H' b vs ∧ Reps K H' μ' es vs) : ItOk K (Itz K a b) H μ (zipD ds es) where
  go := fun H' μ' S' i so' st hi => by
    rw [zipD_length] at hi
    have h1 : i < us.length := by rw [← ra.length]; omega
    have h2 : i < vs.length := by rw [← rb.length]; omega
    exact ⟨us, vs, us[i], vs[i], (qa _ _ _ so st).1, (qb _ _ _ so st).1, by simp [h1], by simp [h2]⟩
  stop := fun H' μ' S' so' st => ⟨us, vs, (qa _ _ _ so st).1, (qb _ _ _ so st).1, by rw [zipD_length, ← ra.length, ← rb.length]; omega⟩
  yld := fun H' μ' S' i x H'' so' st hi y => by
    obtain ⟨T, u, v, rfl, hT, rfl, f1, f2⟩ := y
    obtain ⟨d, h1, h2⟩ := (qa _ _ _ so st).2.getV (f1 us (qa _ _ _ so st).1)
    obtain ⟨e, g1, g2⟩ := (qb _ _ _ so st).2.getV (f2 vs (qb _ _ _ so st).1)
    obtain ⟨s1, s2, s3⟩ := new_tup so' hT (.cons h2 (.cons g2 .nil))
    exact ⟨.tup [d, e], zipD_get ds es i d e h1 g1, s1, s2, s3⟩
section
variable {X : Cx} {e e2 : Expr} {am : AM} {p pos tpos : Pos} {elts : List Expr} {kk : Nat}
theorem mi_zip (hg : Gl X "zip") (hm : X.mg "zip" = none) (ha : PA X [e, e2] (tA X.K am)) (hs : starEach [e, e2] X.env = (false, eval e X.env) :: starEach [e2] X.env := by rfl) (hpl : (backTo pos (starEach [e2] X.env)).any (·.1) = false := by rfl) :
    PI X (.Tuple elts kk tpos) (.Call (.Name "zip" p) [e, e2] [] pos) (tI X.K (iZipM am)) := by
  refine PI.imp (RZ.pi_zipA hg hm ha hs hpl) fun σ H R q => ?_
  obtain ⟨μ, ρ, S, ds, S', ok, e, k⟩ := q
  unfold iZipM at e
  split at e
  · rename_i x y S1 e1
    split at e
    · rename_i ds' es' e2 e3
      cases e
      refine ⟨μ, ρ, S, _, _, ok, e1, fun μ1 vs H1 so1 st1 r1 => ?_⟩
      obtain ⟨v, w, rfl, rv, rw'⟩ := r1.two
      obtain ⟨a, us, rfl, qa, ra⟩ := tItems_ok rv e2
      obtain ⟨b, ws, rfl, qb, rb⟩ := tItems_ok rw' e3
      exact ⟨a, b, us, ws, rfl, .inr ⟨qa, qb, k μ1 H1 _ so1 st1 (itOk_zipT so1 qa qb ra rb)⟩⟩
    · split at e
      · rename_i ds' es' e2 e3
        cases e
        refine ⟨μ, ρ, S, _, _, ok, e1, fun μ1 vs H1 so1 st1 r1 => ?_⟩
        obtain ⟨v, w, rfl, rv, rw'⟩ := r1.two
        obtain ⟨a, us, rfl, ra, qa⟩ := dItems_ok rv e2
        obtain ⟨b, ws, rfl, rb, qb⟩ := dItems_ok rw' e3
        exact ⟨a, b, us, ws, rfl, .inl ⟨(qa _ _ _ so1 .refl).1, (qb _ _ _ so1 .refl).1, k μ1 H1 _ so1 st1 (itOk_zipL so1 ra rb qa qb)⟩⟩
      · cases e
  · cases e
def enumD (ds : List D) : List D := (List.range ds.length).zipWith (fun i d => D.tup [.int (i : Nat), d]) ds
theorem enumD_length (ds : List D) : (enumD ds).length = ds.length := by simp [enumD]
theorem enumD_get {ds : List D} {i : Nat} {d : D} (h : ds[i]? = some d) : (enumD ds)[i]? = some (.tup [.int (i : Nat), d]) := by
  have hl := (List.getElem?_eq_some_iff.mp h).1
  simp [enumD, List.getElem?_zipWith, List.getElem?_range hl, h]
def iEnumM (m : EM) : IM := fun ρ S => match m ρ S with
  | some (x, S1) => match dItems x with
    | some ds => some (enumD ds, S1)
    | none => none
  | none => none
theorem mi_enumL {m : EM} (hg : Gl X "enumerate") (hm : X.mg "enumerate" = none) (h : PE X e (tM X.K m)) (hs : starEach [e] X.env = (false, eval e X.env) :: starEach [] X.env := by rfl) (hs1 : starEach [e] X.env = [(false, eval e X.env)] := by rfl) :
    PI X (.Tuple elts kk tpos) (.Call (.Name "enumerate" p) [e] [] pos) (tI X.K (iEnumM m)) := by
  refine PI.imp (pi_enum hg hm (pa_cons h pa_nil hs) hs1) fun σ H R q => ?_
  obtain ⟨μ, ρ, S, ds, S', ok, e, k⟩ := q
  unfold iEnumM at e
  split at e
  · rename_i x S1 e1
    split at e
    · rename_i ds' e2
      cases e
      refine ⟨μ, ρ, S, x, _, ok, e1, fun μ1 v H1 so1 st1 r1 => ?_⟩
      obtain ⟨a, us, rfl, ra, qa⟩ := dItems_ok r1 e2
      refine ⟨a, us, rfl, (qa _ _ _ so1 .refl).1, k μ1 H1 _ so1 st1 ⟨fun H' μ' S' i so' st hi => ?_, fun H' μ' S' so' st => ⟨us, (qa _ _ _ so1 st).1, by rw [enumD_length, ra.length]; exact Nat.le_refl _⟩, fun H' μ' S' i x H'' so' st hi y => ?_⟩⟩
      · rw [enumD_length] at hi
        have hv : i < us.length := by rw [← ra.length]; exact hi
        exact ⟨us, us[i], (qa _ _ _ so1 st).1, by simp [hv]⟩
      · obtain ⟨T, z, rfl, hT, rfl, f⟩ := y
        obtain ⟨d, h1, h2⟩ := (qa _ _ _ so1 st).2.getV (f us (qa _ _ _ so1 st).1)
        obtain ⟨s1, s2, s3⟩ := new_tup so' hT (.cons (.int ((i : Nat) : Int)) (.cons h2 .nil))
        exact ⟨_, enumD_get h1, s1, s2, s3⟩
    · cases e
  · cases e
end
end HM

set_option Elab.async false
set_option linter.all false
set_option maxRecDepth 100000
set_option autoImplicit false
namespace HM
open PySem PySem.Spec L2
open PyProof.Rows hiding St

theorem hu66 {A : Around} {k : Nat} (hr : Room k A) : A.units + 66 < cLine := by
  have := hr.un
  omega
section
variable {X : Cx}
theorem mv (i : Nat) {x : Str} {pos : Pos} (hN : X.N[i]? = some x := by rfl) (hv : Vis X.env.scope x := by first | exact Or.inl rfl | exact Or.inr (Or.inl rfl) | exact Or.inr (Or.inr rfl)) (hd : (x == ("__debug__" : Str)) = false := by decide)
    (hcd : (x == ("__classdict__" : Str)) = false := by decide) : PE X (.Name x pos) (tM X.K (mVar i)) := me_var hN hv hd hcd
theorem mgn (i : Nat) {x : Str} {pos : Pos} (hN : X.N.Nodup) (hi : X.N[i]? = some x := by rfl) (hx : Loc X.env.scope x := by first | exact Or.inl rfl | exact Or.inr rfl)
    (hf : X.fn x = true ∨ X.env.scope.names.lookup x = some .local := by first | exact .inl rfl | exact .inr rfl) : PG X (.Name x pos) (gT X.K (.nm i)) := mg_name hN hi hx hf
theorem mset (i : Nat) {x : Str} {pos pos' : Pos} {e : Expr} {m : EM} (hN : X.N.Nodup) (he : PE X e (tM X.K m)) (hi : X.N[i]? = some x := by rfl) (hx : Loc X.env.scope x := by first | exact Or.inl rfl | exact Or.inr rfl)
    (hs : swapsWith e (some (.Name x pos')) pos.line X.env = pure false := by rfl) (hf : X.fn x = true ∨ X.env.scope.names.lookup x = some .local := by first | exact .inl rfl | exact .inr rfl) : PS X (.Assign [.Name x pos'] e pos) (tS X.K (sSet i m)) := ms_set hN hi hx he hs hf
theorem me_gint {x : Str} {i : Int} {t : Tok} {pos : Pos} (hm : X.mg x = some (.int i t)) (hg : Gl X x) (hd : (x == ("__debug__" : Str)) = false := by decide) : PE X (.Name x pos) (tM X.K (mC (.int i))) := me_const (pe_glob (v := .int i) hg hm ⟨t, rfl⟩ hd) fun _ _ => .int i
theorem sqT_any {K : PySem.W.Frag} {a : Addr} {vs : List V} (h : SqT K (fun _ => none) a vs) (H : Hp) : SqT K H a vs := by
  rcases h with h | h
  · rcases h with h | ⟨o, h⟩ <;> cases h
  · exact .inr h
theorem me_gpair {x : Str} {i j : Int} {a : Addr} {pos : Pos} (hm : X.mg x = some (.ref a)) (hw : SqT X.K (fun _ => none) a [.int i, .int j]) (hg : Gl X x) (hd : (x == ("__debug__" : Str)) = false := by decide) : PE X (.Name x pos) (tM X.K (mC (.tup [.int i, .int j]))) :=
  me_const (pe_glob (v := .ref a) hg hm rfl hd) fun H μ => .tup (sqT_any hw H) (.cons (.int i) (.cons (.int j) .nil))
end
theorem al_nil {ρ : Rho} {S : Sto} {ws : List W} {S' : Sto} (h : aNil ρ S = some (ws, S')) : ws.length = 0 := by
  cases h
  rfl
theorem al_nil' : ∀ ρ S ws S', aNil ρ S = some (ws, S') → ws.length = 0 := fun _ _ _ _ h => al_nil h
theorem al_cons' {m : EM} {r : AM} {n : Nat} (h : ∀ ρ S ws S', r ρ S = some (ws, S') → ws.length = n) : ∀ ρ S ws S', aCons m r ρ S = some (ws, S') → ws.length = n + 1 := fun ρ S ws S' e => by
  unfold aCons at e
  split at e
  · split at e
    · rename_i us S2 e2
      cases e
      rw [List.length_cons, h _ _ _ _ e2]
    · cases e
  · cases e

/-! ### further operations -/
def cPow (i j : Int) : Bool := decide (0 ≤ j) && decide (j ≤ 1000000) && decide (i.natAbs < 2 ^ 64)
def fPow : F2 := fI cPow fun i j => i ^ j.toNat
/-- a quotient that the machine makes in one go, whatever its size -/
def cDivX (i j : Int) : Bool := decide (0 < j) && !Builtin.divisionGoesByPylong i j
def fDivX : F2 := fI cDivX (· / ·)
section
variable {X : Cx} {a b : Expr} {pos : Pos} {ma mb m : EM}
theorem me_pow (ha : PE X a (tM X.K ma)) (hb : PE X b (tM X.K mb)) : PE X (.BinOp a .Pow b pos) (tM X.K (mBin fPow ma mb)) := me_op op_pow (op2_I fun i j h => by
  unfold cPow at h
  rw [Bool.and_eq_true, Bool.and_eq_true] at h
  exact ⟨of_decide_eq_true h.1.1, of_decide_eq_true h.1.2, of_decide_eq_true h.2⟩) ha hb
theorem op_fdivX : OpR X (binaryOp .FloorDiv) (rI (fun i j => cDivX i j = true) fun i j => .int (i / j)) := opI fun i j _ _ _ _ _ hc q => by
  unfold cDivX at hc
  rw [Bool.and_eq_true] at hc
  have h1 : (0 : Int) < j := of_decide_eq_true hc.1
  exact floordiv_int (by omega) (by rw [Int.fdiv_eq_ediv_of_nonneg i (by omega)]; exact q) (.inl (by simpa using hc.2))
theorem me_divX (ha : PE X a (tM X.K ma)) (hb : PE X b (tM X.K mb)) : PE X (.BinOp a .FloorDiv b pos) (tM X.K (mBin fDivX ma mb)) := me_op op_fdivX (op2_I fun _ _ h => h) ha hb
theorem opN_sum {K : PySem.W.Frag} : OpN K (rSum K) fSum := by
  intro μ S H ws vs w S' Q so r e k
  unfold fSum at e
  split at e
  · rename_i w0
    obtain ⟨v, rfl, rv⟩ := r.one
    split at e
    · rename_i ds e1
      split at e
      · rename_i ns e2
        cases e
        obtain ⟨a, us, rfl, q, rr⟩ := lItems_ok so rv e1
        rw [ints?_ok e2 rr] at q
        exact ⟨a, ns, rfl, q, k μ _ H so .refl (.int _)⟩
      · cases e
    · cases e
  · cases e
/-- is None -/
theorem rep_non {K : PySem.W.Frag} {H : Hp} {μ : Mu} {d : D} {v : V} (r : Rep K H μ d v) : decide (v = V.non) = (match d with | .non => true | _ => false) := by
  cases r <;> rfl
def mNone (neg : Bool) (m : EM) : EM := fun ρ S => match m ρ S with
  | some (.val d, S1) => some (.val (.bl (match d with | .non => !neg | _ => neg)), S1)
  | _ => none
theorem isN_imp {neg : Bool} {σ : L2.St} {H : Hp} {Q : VK} (q : tM X.K (mNone neg m) σ H Q) : tM X.K m σ H fun x H1 => Q (.bl (if neg then !decide (x = .non) else decide (x = .non))) H1 := by
  obtain ⟨μ, ρ, S, w, S', ok, e, k⟩ := q
  unfold mNone at e
  split at e
  · rename_i d S1 e1
    cases e
    refine ⟨μ, ρ, S, _, _, ok, e1, fun μ1 v H1 so1 st1 r1 => ?_⟩
    have q := k μ1 _ H1 so1 st1 (.bl _)
    show Q (.bl (if neg = true then !decide (v = .non) else decide (v = .non))) H1
    rw [rep_non (show Rep X.K H1 μ1 d v from r1)]
    cases neg <;> cases d <;> exact q
  · cases e
theorem me_isN {j pos'} (ha : PE X a (tM X.K m)) : PE X (.Compare a [.Is] [.Constant .none j pos'] pos) (tM X.K (mNone false m)) := PE.imp (pe_cmp (pc_isN ha)) fun σ H Q q => isN_imp q
theorem me_isNotN {j pos'} (ha : PE X a (tM X.K m)) : PE X (.Compare a [.IsNot] [.Constant .none j pos'] pos) (tM X.K (mNone true m)) := PE.imp (pe_cmp (pc_notN ha)) fun σ H Q q => isN_imp q
theorem tB_imp {t : TE} {m : EM} (h : ∀ (σ : L2.St) (H : Hp) (Q : VK), tM X.K m σ H Q → t σ H Q) {σ : L2.St} {H : Hp} {Q : Bool → Hp → Prop} (q : tT X.K (mTest m) σ H Q) : tB t σ H Q := by
  have z : tM X.K m σ H fun x H1 => ∃ c, x = .bl c ∧ Q c H1 := test_imp q
  exact h _ _ _ z
theorem mt_isN {j pos'} (ha : PE X a (tM X.K m)) : PT X (.Compare a [.Is] [.Constant .none j pos'] pos) (tT X.K (mTest (mNone false m))) := PT.imp (pt_cmp (pc_isN ha)) fun σ H Q q => tB_imp (fun _ _ _ q => isN_imp q) q
theorem mt_isNotN {j pos'} (ha : PE X a (tM X.K m)) : PT X (.Compare a [.IsNot] [.Constant .none j pos'] pos) (tT X.K (mTest (mNone true m))) := PT.imp (pt_cmp (pc_notN ha)) fun σ H Q q => tB_imp (fun _ _ _ q => isN_imp q) q
/-- an int in a list or tuple of ints -/
def fIn (neg : Bool) : F2 := fun x y S => match x with
  | .val (.int i) => match (match tItems y with | some ds => some ds | none => lItems y S) with
    | some ds => match ints? ds with
      | some ns => some (.val (.bl (if neg then !ns.contains i else ns.contains i)), S)
      | none => none
    | none => none
  | _ => none
theorem inV_ints (i : Int) : ∀ ns : List Int, inV (.int i) (ns.map V.int) = ns.contains i
  | [] => rfl
  | n :: r => by
    have ih := inV_ints i r
    unfold inV at ih ⊢
    rw [List.map_cons, List.any_cons, ih, List.contains_cons]
    have e1 : eqV (.int n) (.int i) = (i == n) := by
      by_cases h : n = i
      · subst h
        show (n == n) = (n == n)
        rfl
      · have h1 : (n == i) = false := beq_eq_false_iff_ne.mpr h
        have h2 : (i == n) = false := beq_eq_false_iff_ne.mpr (Ne.symm h)
        rw [h2]
        exact h1
    rw [e1]
theorem flat_ints : ∀ ns : List Int, (ns.map V.int).all flatV = true
  | [] => rfl
  | _ :: r => by rw [List.map_cons, List.all_cons, flat_ints r]; rfl
theorem op2_in {K : PySem.W.Frag} {neg : Bool} : Op2 K (rIn K neg) (fIn neg) := by
  intro μ S H x y v u w S' Q so rx ry e k
  unfold fIn at e
  split at e
  · rename_i i
    cases rx
    split at e
    · rename_i ds e1
      split at e
      · rename_i ns e2
        cases e
        have key : ∃ p xs, u = .ref p ∧ (SqL K H p xs ∨ SqT K H p xs) ∧ xs = ns.map V.int := by
          split at e1
          · rename_i ds' e3
            cases e1
            obtain ⟨p, xs, rfl, q, r⟩ := tItems_ok ry e3
            exact ⟨p, xs, rfl, .inr q, ints?_ok e2 r⟩
          · obtain ⟨p, xs, rfl, q, r⟩ := lItems_ok so ry e1
            exact ⟨p, xs, rfl, .inl q, ints?_ok e2 r⟩
        obtain ⟨p, xs, rfl, q, rfl⟩ := key
        refine ⟨p, _, rfl, q, rfl, flat_ints ns, ?_⟩
        rw [inV_ints]
        exact k μ _ H so .refl (.bl _)
      · cases e
    · cases e
  · cases e
theorem me_in (ha : PE X a (tM X.K ma)) (hb : PE X b (tM X.K mb)) (hm : behindInMarks .In b = false := by with_unfolding_all rfl) : PE X (.Compare a [.In] [b] pos) (tM X.K (mBin (fIn false) ma mb)) := me_cmp op_in_seq op2_in ha hb hm
theorem me_notIn (ha : PE X a (tM X.K ma)) (hb : PE X b (tM X.K mb)) (hm : behindInMarks .NotIn b = false := by with_unfolding_all rfl) : PE X (.Compare a [.NotIn] [b] pos) (tM X.K (mBin (fIn true) ma mb)) := me_cmp op_notIn_seq op2_in ha hb hm
theorem mt_in (ha : PE X a (tM X.K ma)) (hb : PE X b (tM X.K mb)) (hm : behindInMarks .In b = false := by with_unfolding_all rfl) : PT X (.Compare a [.In] [b] pos) (tT X.K (mTest (mBin (fIn false) ma mb))) := mt_cmp op_in_seq op2_in ha hb hm
theorem mt_notIn (ha : PE X a (tM X.K ma)) (hb : PE X b (tM X.K mb)) (hm : behindInMarks .NotIn b = false := by with_unfolding_all rfl) : PT X (.Compare a [.NotIn] [b] pos) (tT X.K (mTest (mBin (fIn true) ma mb))) := mt_cmp op_notIn_seq op2_in ha hb hm
/-- x.bit_length() -/
def mBits (m : EM) : EM := fun ρ S => match m ρ S with
  | some (.val (.int i), S1) => some (.val (.int ((Builtin.Int.intBits i : Nat) : Int)), S1)
  | _ => none
theorem me_bits {apos : Pos} (ha : PE X a (tM X.K m)) (hbase : attributeBase a "bit_length" X.env (eval a X.env) = eval a X.env := by rfl) (hline : (apos.endLine == pos.line) = true := by rfl) : PE X (.Call (.Attribute a "bit_length" apos) [] [] pos) (tM X.K (mBits m)) := by
  refine PE.imp (pe_bits ha hbase hline) fun σ H Q q => ?_
  obtain ⟨μ, ρ, S, w, S', ok, e, k⟩ := q
  unfold mBits at e
  split at e
  · rename_i i S1 e1
    cases e
    refine ⟨μ, ρ, S, _, _, ok, e1, fun μ1 v H1 so1 st1 r1 => ?_⟩
    cases r1
    exact ⟨i, rfl, k μ1 _ H1 so1 st1 (.int _)⟩
  · cases e
/-- list(range(a, b)) -/
theorem rgV_reps {K : PySem.W.Frag} {H : Hp} {μ : Mu} (i j : Int) : Reps K H μ (upFrom i (j - i).toNat) (rgV i j) := by
  unfold upFrom rgV
  generalize List.range (j - i).toNat = l
  induction l with
  | nil => exact .nil
  | cons x r ih => exact .cons (.int _) ih
def mLrange (a : AM) : EM := fun ρ S => match a ρ S with
  | some ([.val (.int j)], S1) => if decide (-(2 ^ 62) ≤ j) && decide (j ≤ 2 ^ 24) then some (.val (.fl (upFrom 0 (j - 0).toNat)), S1) else none
  | _ => none
theorem me_lrange {e : Expr} {m : EM} {p p2 pos2 : Pos} (hc : X.calm = true) (hl : X.mg "list" = none) (hm : X.mg "range" = none) (h : PE X e (tM X.K m)) (hg1 : Gl X "list" := by rfl) (hg2 : Gl X "range" := by rfl)
    (na : starEach [e] X.env = (false, eval e X.env) :: starEach [] X.env := by rfl) (na2 : starEach [.Call (.Name "range" p2) [e] [] pos2] X.env = (false, eval (.Call (.Name "range" p2) [e] [] pos2) X.env) :: starEach [] X.env := by rfl) :
    PE X (.Call (.Name "list" p) [.Call (.Name "range" p2) [e] [] pos2] [] pos) (tM X.K (mLrange (aCons m aNil))) := by
  refine PE.imp (pe_listRg hc hg1 hl (prg_1 hg2 hm h na) na2) fun σ H Q q => ?_
  obtain ⟨μ, ρ, S, w, S', ok, e, k⟩ := q
  unfold mLrange at e
  split at e
  · rename_i j S1 e1
    split at e
    · rename_i hj
      cases e
      rw [Bool.and_eq_true] at hj
      have h1 := of_decide_eq_true hj.1
      have h2 := of_decide_eq_true hj.2
      have e2 : m ρ S = some (.val (.int j), S') := by
        cases q : m ρ S with
        | none =>
          have z : (none : Option (List W × Sto)) = some ([.val (.int j)], S') := by
            rw [← e1]
            unfold aCons
            rw [q]
          cases z
        | some pr =>
          obtain ⟨w0, S0⟩ := pr
          have z : some ([w0], S0) = some ([.val (.int j)], S') := by
            rw [← e1]
            unfold aCons
            rw [q]
            rfl
          cases z
          rfl
      refine ⟨μ, ρ, S, _, _, ok, e2, fun μ1 v H1 so1 st1 r1 => ?_⟩
      cases r1
      refine ⟨j, rfl, ⟨by omega, by omega, h1, by omega, by omega⟩, fun p hp => k μ1 _ _ (so1.alloc hp) (st1.trans (.alloc hp)) (new_fl so1 hp (rgV_reps 0 j))⟩
    · cases e
  · cases e
end

/-! ### methods that change a cell -/
def mMet (f : W → FN) (m : EM) (a : AM) : EM := fun ρ S => match m ρ S with
  | some (x, S1) => match a ρ S1 with
    | some (ws, S2) => f x ws S2
    | none => none
  | none => none
def cellOf? (x : W) (S : Sto) : Option (Nat × List D) := match x with
  | .loc l => ((S[l]?).getD none).map fun ds => (l, ds)
  | _ => none
def mappend : W → FN := fun x ws S => match cellOf? x S, ws with
  | some (l, ds), [.val d] => if ds.length < sizeLine then some (.val .non, S.set l (some (ds ++ [d]))) else none
  | _, _ => none
def mpop : W → FN := fun x ws S => match cellOf? x S, ws with
  | some (l, ds), [.val (.int i)] => if decide (0 ≤ i) && decide (i < 2 ^ 62) then match ds[i.toNat]? with
    | some d => some (.val d, S.set l (some (ds.eraseIdx i.toNat)))
    | none => none
    else none
  | _, _ => none
def minsert : W → FN := fun x ws S => match cellOf? x S, ws with
  | some (l, ds), [.val (.int i), .val d] => if decide (0 ≤ i) && decide (i < 2 ^ 62) && decide (ds.length < sizeLine) then some (.val .non, S.set l (some (ds.take i.toNat ++ [d] ++ ds.drop i.toNat))) else none
  | _, _ => none
def mextend : W → FN := fun x ws S => match cellOf? x S, ws with
  | some (l, ds), [y] => match fCatL.lOwn y S with
    | some es => if ds.length + es.length ≤ sizeLine then some (.val .non, S.set l (some (ds ++ es))) else none
    | none => none
  | _, _ => none
def MetR (K : PySem.W.Frag) (r : V → List V → Hp → VK → Prop) (f : W → FN) : Prop := ∀ (μ : Mu) (S : Sto) (H : Hp) (x : W) (v : V) (ws : List W) (vs : List V) (w : W) (S' : Sto) (Q : VK), StoreOk K H μ S → RepW K H μ x v → RepWs K H μ ws vs → f x ws S = some (w, S') →
  (∀ μ' z H', StoreOk K H' μ' S' → Step H μ H' μ' → RepW K H' μ' w z → Q z H') → r v vs H Q
section
variable {K : PySem.W.Frag} {H : Hp} {μ : Mu} {S : Sto}
theorem cellOf?_ok (so : StoreOk K H μ S) {x : W} {v : V} {l : Nat} {ds : List D} (r : RepW K H μ x v) (e : cellOf? x S = some (l, ds)) : S[l]? = some (some ds) ∧ ∃ a vs, v = .ref a ∧ μ[l]? = some (some a) ∧ H a = some (.lst vs) ∧ Reps K H μ ds vs := by
  cases x with
  | val d => cases e
  | loc m =>
    have e' : ((S[m]?).getD none).map (fun ds => (m, ds)) = some (l, ds) := e
    cases q : (S[m]?).getD none with
    | none => rw [q] at e'; cases e'
    | some es =>
      rw [q] at e'
      cases e'
      have hs := getD_some q
      obtain ⟨a, vs, h1, h2, h3⟩ := so.cell l ds hs
      exact ⟨hs, a, vs, r.2 a h1, h1, h2, h3⟩
theorem met_append : MetR K rAppend mappend := by
  intro μ S H x v ws vs w S' Q so rx rs e k
  unfold mappend at e
  split at e
  · rename_i l ds d e1
    split at e
    · rename_i hz
      cases e
      obtain ⟨hs, a, us, rfl, h1, h2, h3⟩ := cellOf?_ok so rx e1
      obtain ⟨y, rfl, ry⟩ := rs.one
      obtain ⟨s1, s2⟩ := set_cell so hs h1 (h3.append (.cons ry .nil))
      exact ⟨a, us, y, rfl, rfl, h2, by rw [← h3.length]; exact hz, k μ _ _ s1 s2 .non⟩
    · cases e
  · cases e
theorem seqIndex_nat {i : Int} {n : Nat} (h0 : 0 ≤ i) (h : i.toNat < n) : seqIndex? i n = some i.toNat := seqIndex_of h0 (by omega)
theorem Reps.eraseIdx : ∀ {ds : List D} {vs : List V} (n : Nat), Reps K H μ ds vs → Reps K H μ (ds.eraseIdx n) (vs.eraseIdx n)
  | _, _, _, .nil => .nil
  | _, _, 0, .cons _ t => t
  | _, _, n + 1, .cons r t => .cons r (Reps.eraseIdx n t)
theorem met_pop : MetR K rPopAt mpop := by
  intro μ S H x v ws vs w S' Q so rx rs e k
  unfold mpop at e
  split at e
  · rename_i l ds i e1
    split at e
    · rename_i hb
      split at e
      · rename_i d e2
        cases e
        rw [Bool.and_eq_true] at hb
        have b1 := of_decide_eq_true hb.1
        have b2 := of_decide_eq_true hb.2
        obtain ⟨hs, a, us, rfl, h1, h2, h3⟩ := cellOf?_ok so rx e1
        obtain ⟨y, rfl, ry⟩ := rs.one
        cases ry
        obtain ⟨z, g1, g2⟩ := h3.get e2
        have hl : i.toNat < us.length := (List.getElem?_eq_some_iff.mp g1).1
        obtain ⟨s1, s2⟩ := set_cell so hs h1 (h3.eraseIdx i.toNat)
        exact ⟨a, us, i, i.toNat, z, rfl, rfl, h2, by omega, by omega, seqIndex_nat b1 hl, g1, k μ _ _ s1 s2 (g2.step so s2)⟩
      · cases e
    · cases e
  · cases e
theorem met_extend : MetR K rExtend mextend := by
  intro μ S H x v ws vs w S' Q so rx rs e k
  unfold mextend at e
  split at e
  · rename_i l ds y e1
    split at e
    · rename_i es e2
      split at e
      · rename_i hz
        cases e
        obtain ⟨hs, a, us, rfl, h1, h2, h3⟩ := cellOf?_ok so rx e1
        obtain ⟨z, rfl, rz⟩ := rs.one
        obtain ⟨b, zs, rfl, g1, g2⟩ := lOwn_ok so rz e2
        obtain ⟨s1, s2⟩ := set_cell so hs h1 (h3.append g2)
        exact ⟨a, b, us, zs, rfl, rfl, h2, g1, by rw [← h3.length, ← g2.length]; exact hz, k μ _ _ s1 s2 .non⟩
      · cases e
    · cases e
  · cases e
theorem met_insert : MetR K (fun x vs H Q => ∃ (l : Addr) (xs : List V) (i : Int) (y : V), x = .ref l ∧ vs = [.int i, y] ∧ H l = some (.lst xs) ∧ xs.length < sizeLine ∧ 0 ≤ i ∧ i < 2 ^ 63 ∧ Q .non (upd H l (.lst (xs.take i.toNat ++ [y] ++ xs.drop i.toNat)))) minsert := by
  intro μ S H x v ws vs w S' Q so rx rs e k
  unfold minsert at e
  split at e
  · rename_i l ds i d e1
    split at e
    · rename_i hb
      cases e
      rw [Bool.and_eq_true, Bool.and_eq_true] at hb
      have b1 := of_decide_eq_true hb.1.1
      have b2 := of_decide_eq_true hb.1.2
      have b3 := of_decide_eq_true hb.2
      obtain ⟨hs, a, us, rfl, h1, h2, h3⟩ := cellOf?_ok so rx e1
      obtain ⟨y, z, rfl, ry, rz⟩ := rs.two
      cases ry
      obtain ⟨s1, s2⟩ := set_cell so hs h1 (((h3.take i.toNat).append (.cons rz .nil)).append (h3.drop i.toNat))
      exact ⟨a, us, i, z, rfl, rfl, h2, by rw [← h3.length]; exact b3, b1, by omega, k μ _ _ s1 s2 .non⟩
    · cases e
  · cases e
end
end HM

set_option Elab.async false
set_option linter.all false
set_option maxRecDepth 100000
set_option autoImplicit false
namespace HM
open PySem PySem.Spec L2
open PyProof.Rows hiding St

section
variable {X : Cx} {o e : Expr} {es : List Expr} {apos cpos : Pos} {m : EM} {a : AM}
/-- the receiver has to be a live cell -/
def mMeth (f : W → FN) (m : EM) (a : AM) : EM := fun ρ S => match m ρ S with
  | some (x, S1) => match cellOf? x S1 with
    | some _ => match a ρ S1 with
      | some (ws, S2) => f x ws S2
      | none => none
    | none => none
  | none => none
theorem meth_imp {T : String} {r : V → List V → Hp → VK → Prop} {f : W → FN} (hT : T = "list") (h : MetR X.K r f) {σ : L2.St} {H : Hp} {Q : VK} (q : tM X.K (mMeth f m a) σ H Q) : tBM X.K T r (tM X.K m) (tA X.K a) σ H Q := by
  subst hT
  obtain ⟨μ, ρ, S, w, S', ok, e, k⟩ := q
  unfold mMeth at e
  split at e
  · rename_i x S1 e1
    split at e
    · rename_i c e2
      split at e
      · rename_i ws S2 e3
        refine ⟨μ, ρ, S, x, S1, ok, e1, fun μ1 v H1 so1 st1 r1 => ?_⟩
        obtain ⟨l, ds⟩ := c
        obtain ⟨hs, p, us, rfl, h1, h2, h3⟩ := cellOf?_ok so1 r1 e2
        refine ⟨.inl ⟨rfl, _, .inl (.inl h2)⟩, μ1, ρ, S1, ws, S2, ok.next so1 st1, e3, fun μ2 vs H2 so2 st2 r2 => ?_⟩
        exact h μ2 S2 H2 x _ ws vs w S' Q so2 (r1.step so1 st2) r2 e fun μ3 z H3 so3 st3 r3 => k μ3 z H3 so3 ((st1.trans st2).trans st3) r3
      · cases e
    · cases e
  · cases e
theorem me_append (ho : PE X o (tM X.K m)) (ha : PA X (e :: es) (tA X.K a)) (hbase : attributeBase o "append" X.env (eval o X.env) = eval o X.env := by rfl)
    (hfew : ((backTo cpos (starEach (e :: es) X.env)).all (fun x => !x.1) && (backToKw cpos (keywordEach [] X.env)).all (fun x => x.1.isSome) && decide ((e :: es).length + ([] : List Keyword).length + (if ([] : List Keyword).isEmpty then 0 else 1) < 30)) = true := by rfl)
    (hline : (apos.endLine == cpos.line) = true := by rfl) (hs : starEach (e :: es) X.env = (false, eval e X.env) :: starEach es X.env := by rfl) (hplain : (backTo cpos (starEach es X.env)).any (·.1) = false := by rfl) :
    PE X (.Call (.Attribute o "append" apos) (e :: es) [] cpos) (tM X.K (mMeth mappend m a)) := PE.imp (pe_bm PySem.F.plainAttrs_list PySem.F.slot_list_append PySem.F.type_list_append mt_append ho ha hbase hfew hline hs hplain) fun σ H Q q => meth_imp rfl met_append q
theorem me_pop (ho : PE X o (tM X.K m)) (ha : PA X (e :: es) (tA X.K a)) (hbase : attributeBase o "pop" X.env (eval o X.env) = eval o X.env := by rfl)
    (hfew : ((backTo cpos (starEach (e :: es) X.env)).all (fun x => !x.1) && (backToKw cpos (keywordEach [] X.env)).all (fun x => x.1.isSome) && decide ((e :: es).length + ([] : List Keyword).length + (if ([] : List Keyword).isEmpty then 0 else 1) < 30)) = true := by rfl)
    (hline : (apos.endLine == cpos.line) = true := by rfl) (hs : starEach (e :: es) X.env = (false, eval e X.env) :: starEach es X.env := by rfl) (hplain : (backTo cpos (starEach es X.env)).any (·.1) = false := by rfl) :
    PE X (.Call (.Attribute o "pop" apos) (e :: es) [] cpos) (tM X.K (mMeth mpop m a)) := PE.imp (pe_bm PySem.F.plainAttrs_list PySem.F.slot_list_pop PySem.F.type_list_pop mt_popAt ho ha hbase hfew hline hs hplain) fun σ H Q q => meth_imp rfl met_pop q
theorem me_insert (ho : PE X o (tM X.K m)) (ha : PA X (e :: es) (tA X.K a)) (hbase : attributeBase o "insert" X.env (eval o X.env) = eval o X.env := by rfl)
    (hfew : ((backTo cpos (starEach (e :: es) X.env)).all (fun x => !x.1) && (backToKw cpos (keywordEach [] X.env)).all (fun x => x.1.isSome) && decide ((e :: es).length + ([] : List Keyword).length + (if ([] : List Keyword).isEmpty then 0 else 1) < 30)) = true := by rfl)
    (hline : (apos.endLine == cpos.line) = true := by rfl) (hs : starEach (e :: es) X.env = (false, eval e X.env) :: starEach es X.env := by rfl) (hplain : (backTo cpos (starEach es X.env)).any (·.1) = false := by rfl) :
    PE X (.Call (.Attribute o "insert" apos) (e :: es) [] cpos) (tM X.K (mMeth minsert m a)) := PE.imp (pe_bm PySem.F.plainAttrs_list PySem.F.slot_list_insert PySem.F.type_list_insert mt_insert ho ha hbase hfew hline hs hplain) fun σ H Q q => meth_imp rfl met_insert q
theorem me_extend (ho : PE X o (tM X.K m)) (ha : PA X (e :: es) (tA X.K a)) (hbase : attributeBase o "extend" X.env (eval o X.env) = eval o X.env := by rfl)
    (hfew : ((backTo cpos (starEach (e :: es) X.env)).all (fun x => !x.1) && (backToKw cpos (keywordEach [] X.env)).all (fun x => x.1.isSome) && decide ((e :: es).length + ([] : List Keyword).length + (if ([] : List Keyword).isEmpty then 0 else 1) < 30)) = true := by rfl)
    (hline : (apos.endLine == cpos.line) = true := by rfl) (hs : starEach (e :: es) X.env = (false, eval e X.env) :: starEach es X.env := by rfl) (hplain : (backTo cpos (starEach es X.env)).any (·.1) = false := by rfl) :
    PE X (.Call (.Attribute o "extend" apos) (e :: es) [] cpos) (tM X.K (mMeth mextend m a)) := PE.imp (pe_bm PySem.F.plainAttrs_list PySem.F.slot_list_extend PySem.F.type_list_extend mt_extend ho ha hbase hfew hline hs hplain) fun σ H Q q => meth_imp rfl met_extend q
end

/-! ### o[i] = e -/
def putAt (x : W) (k : Int) (d : D) (S : Sto) : Option Sto := match cellOf? x S with
  | some (l, ds) => match ixN ds.length k with
    | some j => some (S.set l (some (ds.set j d)))
    | none => none
  | none => none
def sPut (m mo mi : EM) : SM := fun ρ S => match m ρ S with
  | some (.val d, S1) => match mo ρ S1 with
    | some (x, S2) => match mi ρ S2 with
      | some (.val (.int k), S3) => match putAt x k d S3 with
        | some S4 => some (.nx, ρ, S4)
        | none => none
      | _ => none
    | none => none
  | _ => none
/-- o[i], x = a pair -/
def sPut2 (j : Nat) (m mo mi : EM) : SM := fun ρ S => match m ρ S with
  | some (.val (.tup [d, d']), S1) => match mo ρ S1 with
    | some (x, S2) => match mi ρ S2 with
      | some (.val (.int k), S3) => match putAt x k d S3 with
        | some S4 => some (.nx, ρ.set j (some (.val d')), S4)
        | none => none
      | _ => none
    | none => none
  | _ => none
section
variable {X : Cx} {o i e : Expr} {pos apos : Pos} {m mo mi : EM}
theorem put_imp {K : PySem.W.Frag} {H : Hp} {μ : Mu} {S S' : Sto} {x : W} {v y : V} {k : Int} {d : D} {Q : Hp → Prop} (so : StoreOk K H μ S) (rx : RepW K H μ x v) (ry : Rep K H μ d y) (e : putAt x k d S = some S')
    (h : ∀ H', StoreOk K H' μ S' → Step H μ H' μ → Q H') : rSetL v (.int k) y H Q := by
  unfold putAt at e
  split at e
  · rename_i l ds e1
    split at e
    · rename_i j e2
      cases e
      obtain ⟨hs, a, us, rfl, h1, h2, h3⟩ := cellOf?_ok so rx e1
      obtain ⟨s1, s2⟩ := set_cell so hs h1 (h3.set ry j)
      exact ⟨a, us, k, j, rfl, rfl, h2, by rw [← h3.length]; exact e2, h _ s1 s2⟩
    · cases e
  · cases e
theorem ms_put (he : PE X e (tM X.K m)) (ho : PE X o (tM X.K mo)) (hi : PE X i (tM X.K mi)) (hs : swapsWithSole [.Subscript o i apos] e pos.line X.env = pure false := by rfl) (hw : swappedStores [.Subscript o i apos] e X.env = pure none := by rfl)
    (h1 : (assignEach [.Subscript o i apos] X.env).map (·.2) = [assign (.Subscript o i apos) X.env] := by rfl)
    (ha : ∀ v, assign (.Subscript o i apos) X.env v = (do
      let ov ← holding [v] (eval o X.env)
      let iv ← holding [v, ov] (eval i X.env)
      standAt apos
      holding [v, ov, iv] (setItem ov iv v)
      release [v, ov, iv] []) := by intro _; rfl) :
    PS X (.Assign [.Subscript o i apos] e pos) (tS X.K (sPut m mo mi)) := PS.imp (ps_asg he (pg_sub ho hi set_list ha) hs hw h1) fun D σ H q => by
  obtain ⟨μ, ρ, S, c, ρ', S', ok, e, k⟩ := q
  unfold sPut at e
  split at e
  · rename_i d S1 e1
    split at e
    · rename_i x S2 e2
      split at e
      · rename_i kk S3 e3
        split at e
        · rename_i S4 e4
          cases e
          refine ⟨μ, ρ, S, _, S1, ok, e1, fun μ1 v1 H1 so1 st1 r1 => ?_⟩
          refine ⟨μ1, ρ, S1, x, S2, ok.next so1 st1, e2, fun μ2 v2 H2 so2 st2 r2 => ?_⟩
          have ok2 := (ok.next so1 st1).next so2 st2
          refine ⟨μ2, ρ, S2, _, S3, ok2, e3, fun μ3 v3 H3 so3 st3 r3 => ?_⟩
          cases r3
          refine put_imp so3 (r2.step so2 st3) (Rep.step so1 (st2.trans st3) (show Rep X.K H1 μ1 d v1 from r1)) e4 fun H4 so4 st4 => ?_
          have st := ((st1.trans st2).trans st3).trans st4
          exact k μ3 H4 so4 st σ (ok.env.step ok.so st)
        · cases e
      · cases e
    · cases e
  · cases e
theorem ms_put2 {j : Nat} {x : Str} {xpos tpos : Pos} {kk : Nat} (he : PE X e (tM X.K m)) (ho : PE X o (tM X.K mo)) (hi : PE X i (tM X.K mi)) (hc : X.calm = true) (hN : X.N.Nodup) (hj : X.N[j]? = some x) (hx : Loc X.env.scope x)
    (hs : swapsWithSole [.Tuple [.Subscript o i apos, .Name x xpos] kk tpos] e pos.line X.env = pure false := by rfl) (hw : swappedStores [.Tuple [.Subscript o i apos, .Name x xpos] kk tpos] e X.env = pure none := by rfl)
    (h1 : (assignEach [.Tuple [.Subscript o i apos, .Name x xpos] kk tpos] X.env).map (·.2) = [assign (.Tuple [.Subscript o i apos, .Name x xpos] kk tpos) X.env] := by rfl)
    (ha : ∀ v, assign (.Subscript o i apos) X.env v = (do
      let ov ← holding [v] (eval o X.env)
      let iv ← holding [v, ov] (eval i X.env)
      standAt apos
      holding [v, ov, iv] (setItem ov iv v)
      release [v, ov, iv] []) := by intro _; rfl)
    (a1 : (assignEach [.Subscript o i apos, .Name x xpos] X.env).map (·.2) = assign (.Subscript o i apos) X.env :: (assignEach [.Name x xpos] X.env).map (·.2) := by rfl)
    (a2 : (assignEach [.Name x xpos] X.env).map (·.2) = assign (.Name x xpos) X.env :: (assignEach [] X.env).map (·.2) := by rfl)
    (hn : (assignEach [.Subscript o i apos, .Name x xpos] X.env).length = 2 := by rfl) (hst : (assignEach [.Subscript o i apos, .Name x xpos] X.env).findIdx? (·.1) = none := by rfl)
    (hf : X.fn x = true ∨ X.env.scope.names.lookup x = some .local := by first | exact .inl rfl | exact .inr rfl | assumption) :
    PS X (.Assign [.Tuple [.Subscript o i apos, .Name x xpos] kk tpos] e pos) (tS X.K (sPut2 j m mo mi)) := PS.imp (ps_asg he (pg_tup hc (pgs_cons (pg_sub ho hi set_list ha) (pgs_cons (pg_name hN hj hx hf) pgs_nil a2) a1) hn hst) hs hw h1) fun D σ H q => by
  obtain ⟨μ, ρ, S, c, ρ', S', ok, e, k⟩ := q
  unfold sPut2 at e
  split at e
  · rename_i d d' S1 e1
    split at e
    · rename_i y S2 e2
      split at e
      · rename_i kk S3 e3
        split at e
        · rename_i S4 e4
          cases e
          refine ⟨μ, ρ, S, _, S1, ok, e1, fun μ1 v1 H1 so1 st1 r1 => ?_⟩
          cases (show Rep X.K H1 μ1 (.tup [d, d']) v1 from r1) with
          | tup qt rs =>
            cases rs with
            | cons rd rs =>
              cases rs with
              | cons rd' rs =>
                cases rs
                refine ⟨_, _, rfl, qt, rfl, _, _, rfl, ?_⟩
                refine ⟨μ1, ρ, S1, y, S2, ok.next so1 st1, e2, fun μ2 v2 H2 so2 st2 r2 => ?_⟩
                have ok2 := (ok.next so1 st1).next so2 st2
                refine ⟨μ2, ρ, S2, _, S3, ok2, e3, fun μ3 v3 H3 so3 st3 r3 => ?_⟩
                cases r3
                refine put_imp so3 (r2.step so2 st3) (Rep.step so1 (st2.trans st3) rd) e4 fun H4 so4 st4 => ?_
                have st := ((st1.trans st2).trans st3).trans st4
                refine ⟨_, _, rfl, rfl, ?_⟩
                exact k μ3 H4 so4 st _ ((ok.env.step ok.so st).set (w := .val d') (Rep.step so1 ((st2.trans st3).trans st4) rd') j)
        · cases e
      · cases e
    · cases e
  · cases e
end

/-! ### while -/
def whileF (t : TM) (b : SM) : Nat → Rho → Sto → Option (Ctl × Rho × Sto)
  | 0, _, _ => none
  | n + 1, ρ, S => match t ρ S with
    | some (true, S1) => match b ρ S1 with
      | some (.nx, ρ2, S2) => whileF t b n ρ2 S2
      | some (.cnt, ρ2, S2) => whileF t b n ρ2 S2
      | some (.brk, ρ2, S2) => some (.nx, ρ2, S2)
      | some (.ret w, ρ2, S2) => some (.ret w, ρ2, S2)
      | none => none
    | some (false, S1) => some (.nx, ρ, S1)
    | none => none
def sWhile (t : TM) (b : SM) : SM := whileF t b 1000
section
variable {X : Cx} {c : Expr} {body : List Stmt} {t : TM} {b : SM} {pos : Pos}
theorem ms_while (hp : PassesOwn (model X.prog X.w) X.A X.env X.xe) (hc : PT X c (tT X.K t)) (hb : PSs X body (tS X.K b)) : PS X (.While c body [] pos) (tS X.K (sWhile t b)) := PS.imp (ps_while hp hc hb) fun D σ H q => by
  obtain ⟨μ, ρ, S, c, ρ', S', ok, e, k⟩ := q
  refine ⟨fun n σ' H' => ∃ μi ρi Si, StoreOk X.K H' μi Si ∧ EnvOk X.K H' μi ρi σ' ∧ Step H μ H' μi ∧ whileF t b n ρi Si = some (c, ρ', S'), ⟨1000, μ, ρ, S, ok.so, ok.env, .refl, e⟩, ?_⟩
  rintro n σi Hi ⟨μi, ρi, Si, soi, envi, sti, ei⟩
  cases n with
  | zero => cases ei
  | succ n =>
    unfold whileF at ei
    split at ei
    · rename_i S1 e1
      refine ⟨μi, ρi, Si, true, S1, ⟨soi, envi⟩, e1, fun μ1 H1 so1 st1 => itT ?_⟩
      refine ⟨fun σ' H' => ∃ μj ρj Sj, StoreOk X.K H' μj Sj ∧ EnvOk X.K H' μj ρj σ' ∧ Step H μ H' μj ∧ whileF t b n ρj Sj = some (c, ρ', S'), fun σ' H' h => ⟨n, Nat.lt_succ_self n, h⟩, ?_⟩
      have env1 := envi.step soi st1
      split at ei
      · rename_i ρ2 S2 e2
        exact ⟨μ1, ρi, S1, .nx, ρ2, S2, ⟨so1, env1⟩, e2, fun μ3 H3 so3 st3 => fun σ3 env3 => ⟨μ3, ρ2, S2, so3, env3, (sti.trans st1).trans st3, ei⟩⟩
      · rename_i ρ2 S2 e2
        exact ⟨μ1, ρi, S1, .cnt, ρ2, S2, ⟨so1, env1⟩, e2, fun μ3 H3 so3 st3 => fun σ3 env3 => ⟨μ3, ρ2, S2, so3, env3, (sti.trans st1).trans st3, ei⟩⟩
      · rename_i ρ2 S2 e2
        cases ei
        exact ⟨μ1, ρi, S1, .brk, _, _, ⟨so1, env1⟩, e2, fun μ3 H3 so3 st3 => fun σ3 env3 => k μ3 H3 so3 ((sti.trans st1).trans st3) σ3 env3⟩
      · rename_i w ρ2 S2 e2
        cases ei
        exact ⟨μ1, ρi, S1, .ret w, _, _, ⟨so1, env1⟩, e2, fun μ3 H3 so3 st3 => fun v rv => k μ3 H3 so3 ((sti.trans st1).trans st3) v rv⟩
      · cases ei
    · rename_i S1 e1
      cases ei
      exact ⟨μi, _, Si, false, _, ⟨soi, envi⟩, e1, fun μ1 H1 so1 st1 => itF (k μ1 H1 so1 (sti.trans st1) σi (envi.step soi st1))⟩
    · cases ei
/-- the truth of a list or a tuple -/
def mTru (m : EM) : TM := fun ρ S => match m ρ S with
  | some (w, S1) => match (match tItems w with | some ds => some ds | none => lItems w S1) with
    | some ds => some (!ds.isEmpty, S1)
    | none => none
  | none => none
theorem isEmpty_reps {K : PySem.W.Frag} {H : Hp} {μ : Mu} {ds : List D} {vs : List V} (r : Reps K H μ ds vs) : ds.isEmpty = vs.isEmpty := by cases r <;> rfl
theorem mt_tru {e : Expr} {m : EM} (h : PE X e (tM X.K m)) (he : ∀ whole, isTrue e X.env whole = (do let v ← whole; standAt e.pos; holding [v] (truthy v)) := by intro _; rfl) : PT X e (tT X.K (mTru m)) := by
  refine PT.imp (pt_truth h he) fun σ H Q q => ?_
  obtain ⟨μ, ρ, S, w, S', ok, e, k⟩ := q
  unfold mTru at e
  split at e
  · rename_i w0 S1 e1
    split at e
    · rename_i ds e2
      cases e
      refine ⟨μ, ρ, S, _, _, ok, e1, fun μ1 v H1 so1 st1 r1 => ?_⟩
      split at e2
      · rename_i ds' e3
        cases e2
        obtain ⟨a, us, rfl, q, rr⟩ := tItems_ok r1 e3
        exact ⟨_, .inr (.inl ⟨us, q, by rw [isEmpty_reps rr]⟩), k μ1 H1 so1 st1⟩
      · obtain ⟨a, us, rfl, q, rr⟩ := lItems_ok so1 r1 e2
        exact ⟨_, .inl ⟨us, q, by rw [isEmpty_reps rr]⟩, k μ1 H1 so1 st1⟩
    · cases e
  · cases e
end
end HM

set_option Elab.async false
set_option linter.all false
set_option maxRecDepth 100000
set_option autoImplicit false
set_option maxHeartbeats 4000000
namespace PySem.W
open PySem PySem.Spec PySem.Calls PyProof.Rows
section
variable {prog : Program} {w : World} {A : Around} {E : Value → Shared → Prop} {s : Shared} {K : Frag} {x D : Addr} {ox : Obj} {od : Option Obj}
theorem hm_found {C : Addr} {name : Str} {a g : Value} (h1 : (clsIn K C).isSome = true) (h2 : findIn K (.ref C) name = some (some a)) (h3 : specialIn K a "__get__" = some (some g)) (h4 : takesIn K a = some true) : findObj K C od name = some (.bind g a) := by
  obtain ⟨cd, h1⟩ := Option.isSome_iff_exists.mp h1
  unfold findObj
  rw [h1, Option.bind_some, h2, Option.bind_some]
  simp [h3, h4]
/-- x.__class__ of an error that may have a dict of its own -/
theorem hm_class {Q : Option Value → Shared → Prop} (c : L2.ExcC K D) (X : K.In s.heap) (I : InstAt s.heap x ox D od) (h : Q (some (.ref D)) { s with toks := s.toks + 1 }) : wpAny (model prog w) A (getAttr? (.ref x) "__class__") Q E s := by
  have found : findObj K D od "__class__" = some (.bind (.builtin "getset_descriptor.__get__") (.builtin "object.__class__")) := hm_found (by obtain ⟨cd, z, _⟩ := any_some c.hd; rw [z]; rfl) c.ha c.hn c.ht
  obtain ⟨hp, gg, dd, tt, os⟩ := s
  have T0 := I.type (M := model prog w)
  have T1 := looks_findIn (M := model prog w) X c.hg
  have T2 := looks_findIn (M := model prog w) X c.hk
  have T3 := looks_find (M := model prog w) X I found
  have isB : Looks (model prog w) hp (isInstance (.ref x) (.type "BaseException")) true := T0.andThen (looks_subIn X c.hs)
  have n2 : (Value.builtin "BaseException.__getattribute__" == Value.builtin "object.__getattribute__") = false := by decide +kernel
  have n1 : (onTheHeap (Value.ref D) && Value.builtin "BaseException.__getattribute__" == Value.builtin "object.__getattribute__") = false := by rw [n2]; rfl
  have n0 : (false && onTheHeap (Value.builtin "BaseException.__getattribute__")) = false := rfl
  unfold getAttr? getAttrBy? getAttrBy
  refine wpAny_bind (wpAny_mkText (wpAny_bind (wpAny_attempt (wpAny_holding (wpAny_bind (T0.at (wpAny_bind (T1.at ?_))))))))
  show wpAny _ _ (if (onTheHeap (Value.ref D) && Value.builtin "BaseException.__getattribute__" == Value.builtin "object.__getattribute__") = true then _ else _) _ _ _
  rw [n1, if_neg Bool.false_ne_true]
  unfold getAttrByItsOwn hookBefore
  refine wpAny_bind ?_
  rw [if_pos (show onTheHeap (Value.ref D) = true from rfl)]
  refine T2.at ?_
  refine wpAny_bind (wpAny_attempt (wpAny_holding ?_))
  unfold callGetattribute
  rw [n0, if_neg Bool.false_ne_true]
  unfold boundAndCalled
  rw [PySem.F.excAttr_ValueError.ga.bind (.ref x)]
  refine wpAny_bind (wpAny_pure ?_)
  show wpAny _ _ (call (.builtin "BaseException.__getattribute__") [.ref x, .str "__class__" tt]) _ _ _
  refine wpAny_call (codeAny_call_builtin PySem.F.excAttr_ValueError.ga.plain PySem.F.entry_bexc_ga ?_)
  refine @check_slot (model prog w) _ _ ⟨hp, gg, dd, tt + 1, os⟩ "BaseException.__getattribute__" "BaseException" "__getattribute__" (.ref x) [.str "__class__" tt] [] _ (by decide +kernel) (by decide +kernel) isB (PySem.F.args_bexc_ga (.ref x) (.str "__class__" tt)) ?_
  unfold Builtin.«object.__getattribute__»
  refine wpAny_bind (wpAny_of_eq (a := ((Value.ref x : Value), [Value.str "__class__" tt])) (by first | rfl | (simp only [slotArgs]; rfl)) ?_)
  refine wpAny_bind (wpAny_pure (wpAny_bind (T0.at (wpAny_bind (T3.at ?_)))))
  show wpAny _ _ (holding [Value.builtin "object.__class__"] (call (.builtin "getset_descriptor.__get__") [.builtin "object.__class__", .ref x, .ref D]) >>= ret) _ _ _
  refine wpAny_bind (wpAny_holding (wpAny_call (class_get (s := ⟨hp, gg, dd, tt + 1, os⟩) (ox := ox) (od := od) X I c.hm ?_)))
  refine wpAny_pure ?_
  show wpAny _ _ (handedOut (.ref D)) _ _ _
  rw [handedOut_of (v := .ref D) rfl]
  first
    | exact wpAny_pure (wpAny_pure h)
    | exact wpAny_pure h
    | exact wpAny_pure (wpAny_bind (wpAny_pure (wpAny_pure h)))
theorem hm_kit (c : L2.ExcC K D) : KitX K (.ref x) (.ref D) (fun h => InstAt h x ox D od) where
  ty := fun _ _ _ I => I.type
  it := fun _ _ X _ => by
    obtain ⟨cd, z, _⟩ := any_some c.hd
    unfold clsIn at z
    split at z
    · rename_i c' d' cd' sl' ho
      intro A' Q' E' s' k q
      unfold isType loadHead
      exact wpAny_bind (wpAny_loadPart (k _ _ (X _ _ ho)) (wpAny_pure q))
    · cases z
  ne := fun h tp dd its n sl X htp => by
    obtain ⟨cd, z, _⟩ := any_some c.hd
    refine Bool.eq_false_iff.mpr fun q => ?_
    obtain rfl : D = tp := Value.ref.inj (beq_iff_eq.mp q)
    unfold clsIn at z
    split at z
    · rename_i c' d' cd' sl' ho
      have y := (X _ _ ho).symm.trans htp
      cases y
    · cases z
  ca := fun X I k => hm_class c X I k
end
end PySem.W

namespace HM
open PySem PySem.Spec L2
open PyProof.Rows hiding St
/-! ### isinstance of an error -/
section
variable {X : Cx} {pins : List (Addr × Obj)} {σ : L2.St} {H : Hp} {s : Shared} {a C : Addr} {d : Option Addr}
/-- where the error stands -/
def ExAt (H : Hp) (a C : Addr) : Prop := H a = some (exo a C none) ∨ ∃ dx f v, H a = some (exo a C (some dx)) ∧ H dx = some (exd dx [(f, v)])
theorem exAt_inst (I : Inv X pins σ H s) (h : ExAt H a C) : ∃ ox od, PySem.W.InstAt s.heap a ox C od := by
  rcases h with h | ⟨dx, f, v, h, h2⟩
  · obtain ⟨t1, ho⟩ := exo_at I.hok h
    exact ⟨_, none, ho, rfl, rfl, trivial⟩
  · obtain ⟨t1, ho⟩ := exo_at I.hok h
    obtain ⟨mA, ⟨o, es, ep, hod, _⟩, _⟩ := exd_at I.hok h2
    exact ⟨_, some o, ho, rfl, rfl, hod⟩
def rIsX (K : PySem.W.Frag) : List V → Hp → VK → Prop := fun xs H Q => ∃ (a C : Addr) (c : V) (u : Value) (b : Bool), xs = [.ref a, c] ∧ ClsV c u ∧ ExAt H a C ∧ ExcC K C ∧ PySem.W.kitOne K (.ref C) u = some b ∧ Q (.bl b) H
theorem call_isX : CallR X (.builtin "isinstance") (rIsX X.K) := by
  intro pins s σ H xs us Q I r h
  obtain ⟨a, C, c, u, b, rfl, k, hx, hc, e, q⟩ := h
  obtain ⟨u1, u2, rfl, r1, r2⟩ := vals2 r
  obtain rfl := k.eq r2
  obtain rfl : u1 = Value.ref a := r1
  obtain ⟨ox, od, J⟩ := exAt_inst I hx
  exact PySem.W.kia_one (PySem.W.hm_kit hc) I.kIn J e (fun z => nomatch z) fun tk => ⟨.bl b, H, I.tok tk, rfl, q⟩
/-- the class's name, for an error -/
def D.cls? : D → Option Str
  | .exc0 c => some c
  | .exc1 c _ _ => some c
  | _ => none
theorem cls?_ok {K : PySem.W.Frag} {μ : Mu} {e : D} {v : V} {c : Str} (r : Rep K H μ e v) (h : e.cls? = some c) : ∃ a C, v = .ref a ∧ PySem.W.nsIn K mainGlobals c = some (some (.ref C)) ∧ ExAt H a C := by
  cases r with
  | exc0 n q => cases h; exact ⟨_, _, rfl, n, .inl q⟩
  | exc1 n q x _ => cases h; exact ⟨_, _, rfl, n, .inr ⟨_, _, _, q, x⟩⟩
  | _ => cases h
def mIsX (ans : Str → Option Bool) (m : EM) : EM := fun ρ S => match m ρ S with
  | some (.val d, S1) => match d.cls? with
    | some c => match ans c with
      | some b => some (.val (.bl b), S1)
      | none => none
    | none => none
  | _ => none
theorem me_isX {ans : Str → Option Bool} {e : Expr} {m : EM} {x : Str} {p p2 pos : Pos} {c : V} {u : Value} (hc : PE X (.Name x p2) (tC c)) (hu : ClsV c u) (hk : ∀ cn b C, ans cn = some b → PySem.W.nsIn X.K mainGlobals cn = some (some (.ref C)) → ExcC X.K C ∧ PySem.W.kitOne X.K (.ref C) u = some b)
    (hm : X.mg "isinstance" = none) (h : PE X e (tM X.K m)) (hg : Gl X "isinstance" := by rfl) (hb : bootBuiltins "isinstance" = some (.builtin "isinstance") := by first | rfl | decide +kernel)
    (hs : starEach [e, .Name x p2] X.env = (false, eval e X.env) :: starEach [.Name x p2] X.env := by rfl) (hs2 : starEach [.Name x p2] X.env = (false, eval (.Name x p2) X.env) :: starEach [] X.env := by rfl) (hpl : (backTo pos (starEach [.Name x p2] X.env)).any (·.1) = false := by rfl) :
    PE X (.Call (.Name "isinstance" p) [e, .Name x p2] [] pos) (tM X.K (mIsX ans m)) := by
  refine PE.imp (pe_callB call_isX hg hm hb (pa_cons h (pa_cons hc pa_nil hs2) hs) (by decide) (by decide) hs hpl) fun σ H Q q => ?_
  obtain ⟨μ, ρ, S, w, S', ok, e, k⟩ := q
  unfold mIsX at e
  split at e
  · rename_i d S1 e1
    split at e
    · rename_i cn e2
      split at e
      · rename_i b e3
        cases e
        refine ⟨μ, ρ, S, _, _, ok, e1, fun μ1 v H1 so1 st1 r1 => ?_⟩
        obtain ⟨a, C, rfl, n, hx⟩ := cls?_ok r1 e2
        obtain ⟨k1, k2⟩ := hk cn b C e3 n
        exact ⟨a, C, c, u, b, rfl, hu, hx, k1, k2, k μ1 _ H1 so1 st1 (.bl _)⟩
      · cases e
    · cases e
  · cases e
end
end HM

set_option Elab.async false
set_option linter.all false
set_option maxRecDepth 100000
set_option autoImplicit false
set_option maxHeartbeats 4000000
namespace PySem
namespace HandSPX
open Builtin Builtin.ObjectAttr
section
variable {M : Model} {A : Around} {E : Value → Shared → Prop} {hp : Heap} {gs : Array GenState} {dr : Drawn} {tk : Nat} {osx : OsState}
variable {nm q : Str} {C N : Addr} {bs bm bmB : List Value} {hdct : Bool} {sn : List Str} {sub : List Value} {ab : Bool} {col : Option Bool} {dd : Option Addr} {k0 k1 k2 k3 k5 : Option Value} {B newId initId : String}
theorem kw_check (F : ExcBaseFacts B newId initId bmB) (tl : ∀ X : String, bm.contains (.type X) = bmB.contains (.type X)) {us : List Value} {kw : List (Str × Value)} {Q : Unit → Shared → Prop}
    (cC : hp.get? C = some (excClassObj nm q C N bs bm hdct sn sub ab col dd k0 k1 k2 k3 k5 newId)) (z : Q () ⟨hp, gs, dr, tk, osx⟩) : wpAny M A (checkBuiltinCall newId ⟨.ref C :: us, kw⟩) Q E ⟨hp, gs, dr, tk, osx⟩ := by
  have inB : (Value.ref C :: bm).contains (.type B) = true := by rw [List.contains_cons, tl, F.hasB, Bool.or_true]
  have star := F.noStar
  simp only [checkBuiltinCall, F.newKind, F.newSplit, F.newRow]
  repeat (first | refine wpAny_loadPart_at cC ?_ | (refine wpAny_isSubtype_exc cC ?_; rw [inB]) | refine wpAny_staticBase_exc cC ?_ | refine wpAny_madeBy_exc cC ?_ | simp only [bne_self_eq_false, Bool.false_eq_true, if_false] | wp_step)
  exact z
end
section
variable {prog : Program} {w : World} {A : Around} {E : Value → Shared → Prop} {R : Result → Shared → Prop} {hp : Heap} {gs : Array GenState} {dr : Drawn} {tk : Nat} {osx : OsState}
variable {nm q : Str} {C N : Addr} {bs bm bmB : List Value} {hdct : Bool} {sn : List Str} {sub : List Value} {ab : Bool} {col : Option Bool} {dd : Option Addr} {k0 k1 k2 k3 k5 : Option Value} {B newId initId : String}
theorem kw_new (F : ExcBaseFacts B newId initId bmB) (tl : ∀ X : String, bm.contains (.type X) = bmB.contains (.type X)) {us : List Value} {kw : List (Str × Value)}
    (cC : hp.get? C = some (excClassObj nm q C N bs bm hdct sn sub ab col dd k0 k1 k2 k3 k5 newId))
    (z : R (.ok (.ret (.ref (hp.objs.size + 1)))) ⟨(hp.push { cls := .type "tuple", data := .seq us.toArray }).push
      { cls := .ref C, data := .fields #[.ref hp.objs.size, .none, .none, .none, .bool false, .none] }, gs, dr, tk, osx⟩) (lus : us.length ≤ sizeLine) :
    codeAny (model prog w) A (.builtin newId ⟨.ref C :: us, kw⟩) R ⟨hp, gs, dr, tk, osx⟩ := by
  have ends := F.ends
  have inB : (Value.ref C :: bm).contains (.type B) = true := by rw [List.contains_cons, tl, F.hasB, Bool.or_true]
  have inA : (Value.ref C :: bm).contains (.type "AttributeError") = false := by rw [List.contains_cons, tl, F.noAttr]; rfl
  have inN : (Value.ref C :: bm).contains (.type "NameError") = false := by rw [List.contains_cons, tl, F.noName]; rfl
  refine codeAny_builtinAt F.entry ?_
  unfold Builtin.«BaseException.__new__»
  refine wpAt_bind ?_
  show wpAt _ _ _ (stack >>= _) _ _ _
  refine wpAt_bind (wpAt_stack fun p below => wpAt_of_wpAny ?_)
  wp_walk
  refine wpAt_of_wpAny ?_
  rw [F.owner]
  repeat (first | with_reducible refine wpAny_madeHere_exc F.canon cC ?_ | with_reducible refine wpAny_loadPart_at cC ?_ | (with_reducible refine wpAny_isSubtype_exc cC ?_; first | rw [inB] | rw [inA] | rw [inN]) | wp_step)
  show R _ _
  rw [Heap.size_push]
  exact z
theorem kw_type (F : ExcBaseFacts B newId initId bmB) (tl : ∀ X : String, bm.contains (.type X) = bmB.contains (.type X)) {us : List Value} {kw : List (Str × Value)} {fI : Addr} {Q : Fin → Shared → Prop}
    (cC : hp.get? C = some (excClassObj nm q C N bs bm hdct sn sub ab col dd k0 k1 k2 k3 k5 newId))
    (li : W.Looks (model prog w) hp (typeLookup (.ref C) "__init__") (some (.ref fI))) (lb : ∀ self, W.Looks (model prog w) hp (bindSpecial (.ref fI) self) (.ref fI, [self])) (lus : us.length ≤ sizeLine)
    (z : codeAny (model prog w) A (.call (.ref fI) ⟨.ref (hp.objs.size + 1) :: us, kw⟩)
      (fun r s' => match r with | .ok (.ret v) => v = .none ∧ Q (.done (.ret (.ref (hp.objs.size + 1)))) s' | .ok _ => False | .error e => E e s')
      ⟨(hp.push (W.kdv_tup us)).push (excO C hp.objs.size), gs, dr, tk, osx⟩) :
    wpAny (model prog w) A (Builtin.«type.__call__» ⟨.ref C :: us, kw⟩) Q E ⟨hp, gs, dr, tk, osx⟩ := by
  repeat (first | with_reducible refine wpAny_loadPart_at cC ?_ | with_reducible refine wpAny_madeBy_exc cC ?_ | wp_step)
  refine codeAny_call_builtin_code (Code.quiet_builtin _ F.quiet) (kw_check F tl cC ?_)
  refine kw_new F tl cC ?_ lus
  show wpAny _ _ _ _ _ _
  have kk : ∀ b o, hp.get? b = some o → ((hp.push (W.kdv_tup us)).push (excO C hp.objs.size)).get? b = some o := fun b o e => Heap.get?_push_of_some _ (Heap.get?_push_of_some _ e)
  have cC1 := kk _ _ cC
  have got : ((hp.push (W.kdv_tup us)).push (excO C hp.objs.size)).get? (hp.objs.size + 1) = some (excO C hp.objs.size) := by heap_get
  have inC : (Value.ref C :: bm).contains (.ref C) = true := by simp
  have i1 := li.keeps kk
  have b1 := (lb (.ref (hp.objs.size + 1))).keeps kk
  unfold isInstance
  repeat (first | with_reducible refine wpAny_loadPart_at got ?_ | (with_reducible refine wpAny_isSubtype_exc cC1 ?_; rw [inC]) | wp_step)
  show wpAny _ _ (typeLookup (.ref C) _) _ _ _
  refine i1.at ?_
  refine wpAny_holding (wpAny_bind (b1.at ?_))
  refine wpAny_bind (wpAny_call (codeAny_mono z fun r s' y => ?_))
  rcases r with e | (v | _ | _ | _) <;> first | exact y | exact y.elim | skip
  obtain ⟨rfl, y⟩ := y
  first
    | exact wpAny_pure (wpAny_pure y)
    | (wp_walk; exact y)
theorem kw_call (F : ExcBaseFacts B newId initId bmB) (tl : ∀ X : String, bm.contains (.type X) = bmB.contains (.type X)) {us : List Value} {kw : List (Str × Value)} {fI : Addr}
    (cC : hp.get? C = some (excClassObj nm q C N bs bm hdct sn sub ab col dd k0 k1 k2 k3 k5 newId))
    (li : W.Looks (model prog w) hp (typeLookup (.ref C) "__init__") (some (.ref fI))) (lb : ∀ self, W.Looks (model prog w) hp (bindSpecial (.ref fI) self) (.ref fI, [self])) (lus : us.length ≤ sizeLine)
    (z : codeAny (model prog w) (A.under (.builtin "type.__call__" ⟨.ref C :: us, kw⟩)) (.call (.ref fI) ⟨.ref (hp.objs.size + 1) :: us, kw⟩) (W.InitBack (hp.objs.size + 1) R)
      ⟨(hp.push (W.kdv_tup us)).push (excO C hp.objs.size), gs, dr, tk, osx⟩) :
    codeAny (model prog w) A (.call (.ref C) ⟨us, kw⟩) R ⟨hp, gs, dr, tk, osx⟩ := by
  have f1 := tc_lookup
  have f2 := tc_bind (.ref C)
  have isT : (⟨hp, gs, dr, tk, osx⟩ : Shared).TypeIs (.ref C) "type" := ⟨_, cC, rfl⟩
  refine codeAny_of_tree ?_
  show wpAny _ _ (callAny (.ref C) _) _ _ _
  repeat (any_goals (first | assumption | with_reducible refine wpAny_loadPart_at cC ?_ | wp_step))
  refine ⟨rfl, ?_⟩
  refine codeAny_call_builtin_at (Code.quiet_builtin _ (by decide +kernel)) entry_typeCall (wpAny_check_type_call_sub cC (kw_type F tl cC li lb lus ?_))
  refine codeAny_mono z fun r s' y => ?_
  rcases r with e | (v | _ | _ | _) <;> exact y
end
end HandSPX
end PySem

set_option Elab.async false
set_option linter.all false
set_option maxRecDepth 100000
set_option autoImplicit false
set_option maxHeartbeats 4000000
namespace HM
open PySem PySem.Spec L2
open PyProof.Rows hiding St

/-- an error's __init__ stores its one argument -/
def spInit (C : Addr) (f : Str) : Sp := fun vs H Q _ => ∃ (a : Addr) (v : V), vs = [.ref a, v] ∧ H a = some (exo a C none) ∧ ∀ dx, H dx = none → dx ≠ a → Q .non (upd (upd H dx (exd dx [(f, v)])) a (exo a C (some dx)))
/-- what the written part says of a class of errors with one field, and of its __init__ -/
structure XCls (P : Program) (w : World) (K : PySem.W.Frag) (mg : Str → Option Value) (base : Heap) (c f : Str) (C fI : Addr) (fd : FuncData) : Prop where
  ns : PySem.W.nsIn K mainGlobals c = some (some (.ref C))
  g : mg c = some (.ref C)
  oex : OexC K C
  exc : ExcC K C
  iC : PySem.W.findIn K (.ref C) "__init__" = some (some (.ref fI))
  tI : PySem.W.typeIn K (.ref fI) = some (.type "function")
  no : PySem.W.findIn K (.ref C) f = some none
  ok : FnOk P w K mg base CX0 1 fI fd ["self", f] (spInit C f)
  b1 : ∀ (s : Shared) (a u : Value), BindsTo s fd ⟨[a, u], []⟩ [("self", a), (f, u)]
  b2 : ∀ (s : Shared) (a u : Value), BindsTo s fd ⟨[a], [(f, u)]⟩ [("self", a), (f, u)]
section
variable {X : Cx} {c f : Str} {C fI : Addr} {fd : FuncData}
theorem run_mkX {pins : List (Addr × Obj)} {σ : L2.St} {H : Hp} {s : Shared} {Q : VK} {v : V} {u : Value} {us : List Value} {kw : List (Str × Value)} (T : XCls X.prog X.w X.K X.mg X.base c f C fI fd) (hr : Room 2 X.A) (I : Inv X pins σ H s) (rv : RelV v u) (lus : us.length ≤ 1)
    (hb : ∀ (s : Shared) (a : Value), BindsTo s fd ⟨a :: us, kw⟩ [("self", a), (f, u)]) (h : ∀ a dx, H a = none → H dx = none → dx ≠ a → Q (.ref a) (upd (upd H dx (exd dx [(f, v)])) a (exo a C (some dx)))) :
    wpAny (model X.prog X.w) X.A (call (.ref C) us kw) (EP X pins σ Q) X.xe s := by
  obtain ⟨nm, q, N, bs, bm, sn, sub, ab, col, dd, k0, k1, k2, k3, k5, hC, hbm⟩ := T.oex.cls
  obtain ⟨hp, gg, dr, tk, os⟩ := s
  have big : hp.objs.size ≤ hp.objs.size + 1 := Nat.le_succ _
  have nA : H (hp.objs.size + 1) = none := I.hok.fresh big
  have kept : ∀ b o, hp.get? b = some o → ((hp.push (PySem.W.kdv_tup us)).push (PySem.HandSPX.excO C hp.objs.size)).get? b = some o := fun b o e => Heap.get?_push_of_some _ (Heap.get?_push_of_some _ e)
  have got : ((hp.push (PySem.W.kdv_tup us)).push (PySem.HandSPX.excO C hp.objs.size)).get? (hp.objs.size + 1) = some (PySem.HandSPX.excO C hp.objs.size) := by heap_get
  have I2 : Inv X pins σ (upd H (hp.objs.size + 1) (exo (hp.objs.size + 1) C none)) ⟨(hp.push (PySem.W.kdv_tup us)).push (PySem.HandSPX.excO C hp.objs.size), gg, dr, tk, os⟩ :=
    I.laid (t' := tk) (a := hp.objs.size + 1) (o := exo (hp.objs.size + 1) C none) (h' := (hp.push (PySem.W.kdv_tup us)).push (PySem.HandSPX.excO C hp.objs.size)) kept big (exo_ok got)
  have r2 : Vals [V.ref (hp.objs.size + 1), v] [Value.ref (hp.objs.size + 1), u] := .cons rfl (.cons rv .nil)
  have hsp : spInit C f [V.ref (hp.objs.size + 1), v] (upd H (hp.objs.size + 1) (exo (hp.objs.size + 1) C none)) (fun z H2 => z = .non ∧ Q (.ref (hp.objs.size + 1)) H2) E0 := by
    refine ⟨_, v, rfl, upd_same, fun dx hd hne => ⟨rfl, ?_⟩⟩
    have hd' : H dx = none := by rwa [upd_ne hne] at hd
    have e : upd (upd (upd H (hp.objs.size + 1) (exo (hp.objs.size + 1) C none)) dx (exd dx [(f, v)])) (hp.objs.size + 1) (exo (hp.objs.size + 1) C (some dx)) = upd (upd H dx (exd dx [(f, v)])) (hp.objs.size + 1) (exo (hp.objs.size + 1) C (some dx)) := by
      funext b
      by_cases hb : b = hp.objs.size + 1
      · rw [hb, upd_same, upd_same]
      · rw [upd_ne hb, upd_ne hb]
        by_cases hb2 : b = dx
        · rw [hb2, upd_same, upd_same]
        · rw [upd_ne hb2, upd_ne hb2, upd_ne hb]
    rw [e]
    exact h _ dx nA hd' hne
  refine wpAny_call (PySem.HandSPX.kw_call F.excBase_ValueError (fun Y => PySem.HandSPX.refsVE_contains Y bm hbm) (I.kIn _ _ hC) (PySem.W.looks_findIn I.kIn T.iC) (fun self => PySem.W.bind_fn I.kIn self T.tI) (Nat.le_trans lus (by rw [sizeLine_eq]; decide))
    (codeAny_mono (T.ok.run _ X.stack _ _ ⟨Value.ref (hp.objs.size + 1) :: us, kw⟩ [Value.ref (hp.objs.size + 1), u] _ _ E0 (hr.make C us kw) (I2.env0.make C us kw) (hb _ _) r2 hsp) fun r s' hq' => ?_))
  cases r with
  | error er => exact (show False from hq').elim
  | ok fl =>
    cases fl with
    | ret y =>
      obtain ⟨z, H', I3, rz, ez, q3⟩ := I2.after hq'
      subst ez
      exact ⟨rz, ⟨V.ref (hp.objs.size + 1), H', I3, rfl, q3⟩⟩
    | next => exact False.elim hq'
    | brk => exact False.elim hq'
    | cont => exact False.elim hq'
def mMkX (c f : Str) (m : EM) : EM := fun ρ S => match m ρ S with
  | some (.val d, S1) => some (.val (.exc1 c f d), S1)
  | _ => none
theorem mk_imp {H1 : Hp} {μ : Mu} {S : Sto} {d : D} {v : V} {Q : VK} (T : XCls X.prog X.w X.K X.mg X.base c f C fI fd) (so : StoreOk X.K H1 μ S) (r : Rep X.K H1 μ d v)
    (k : ∀ μ' z H', StoreOk X.K H' μ' S → Step H1 μ H' μ' → RepW X.K H' μ' (.val (.exc1 c f d)) z → Q z H') (a dx : Addr) (ha : H1 a = none) (hd : H1 dx = none) (hne : dx ≠ a) : Q (.ref a) (upd (upd H1 dx (exd dx [(f, v)])) a (exo a C (some dx))) := by
  have s1 : Step H1 μ (upd H1 dx (exd dx [(f, v)])) μ := .alloc hd
  have ha1 : upd H1 dx (exd dx [(f, v)]) a = none := by rw [upd_ne (Ne.symm hne)]; exact ha
  have so1 := so.alloc (o := exd dx [(f, v)]) hd
  have s2 : Step (upd H1 dx (exd dx [(f, v)])) μ (upd (upd H1 dx (exd dx [(f, v)])) a (exo a C (some dx))) μ := .alloc ha1
  refine k μ _ _ (so1.alloc ha1) (s1.trans s2) ?_
  exact .exc1 T.ns upd_same (by rw [upd_ne hne]; exact upd_same) (Rep.step so (s1.trans s2) r)
/-- X(e) -/
theorem me_mkX {e : Expr} {m : EM} {p pos : Pos} (T : XCls X.prog X.w X.K X.mg X.base c f C fI fd) (hr : Room 2 X.A) (h : PE X e (tM X.K m)) (hg : Gl X c := by rfl) (hdb : (c == ("__debug__" : Str)) = false := by decide)
    (hs : starEach [e] X.env = (false, eval e X.env) :: starEach [] X.env := by rfl) (hpl : (backTo pos (starEach [] X.env)).any (·.1) = false := by rfl) : PE X (.Call (.Name c p) [e] [] pos) (tM X.K (mMkX c f m)) := by
  refine ⟨fun pins s σ H Q I q => ?_⟩
  obtain ⟨μ, ρ, S, w, S', ok, e0, k⟩ := q
  unfold mMkX at e0
  split at e0
  · rename_i d S1 e1
    cases e0
    refine wpAny_Call_Name_kw (ld_glob I hg T.g ?_ hdb)
    have ha : PA X [e] (tCons (tM X.K m) tNil) := pa_cons h pa_nil hs
    refine PySem.W.callWith_K (h₀ := X.base) I.ok.mod.kin T.oex.kC (thn (ha.run pos pins s σ H (fun vs H1 => ∃ v, vs = [v] ∧ ∀ a dx, H1 a = none → H1 dx = none → dx ≠ a → Q (.ref a) (upd (upd H1 dx (exd dx [(f, v)])) a (exo a C (some dx)))) I ⟨μ, ρ, S, _, _, ok, e1, fun μ1 v H1 so1 st1 r1 => ?_⟩) fun us s1 ⟨vs, H1, I1, r, q⟩ => ⟨I1.kIn, ?_⟩) hs hpl
    · exact ⟨v, rfl, mk_imp T so1 r1 fun μ2 z H2 so2 st2 r2 => k μ2 z H2 so2 (st1.trans st2) r2⟩
    · obtain ⟨v, rfl, q⟩ := q
      cases r with
      | cons rv rn =>
        cases rn
        exact run_mkX T hr I1 rv (Nat.le_refl _) (fun s a => T.b1 s a _) q
  · cases e0
/-- X(f = e) -/
theorem me_mkXk {e : Expr} {m : EM} {p pos kpos : Pos} (T : XCls X.prog X.w X.K X.mg X.base c f C fI fd) (hr : Room 2 X.A) (h : PE X e (tM X.K m)) (hg : Gl X c := by rfl) (hdb : (c == ("__debug__" : Str)) = false := by decide)
    (hall : (backToKw pos (keywordEach [{ arg := some f, value := e, pos := kpos }] X.env)).all (·.1.isSome) = true := by rfl) (hks : (backToKw pos (keywordEach [{ arg := some f, value := e, pos := kpos }] X.env)).filterMap (·.1) = [f] := by rfl)
    (hpl : ((backTo pos (starEach [] X.env)).any (·.1) || (backToKw pos (keywordEach [{ arg := some f, value := e, pos := kpos }] X.env)).any (·.1.isNone)) = false := by rfl) : PE X (.Call (.Name c p) [] [{ arg := some f, value := e, pos := kpos }] pos) (tM X.K (mMkX c f m)) := by
  refine ⟨fun pins s σ H Q I q => ?_⟩
  obtain ⟨μ, ρ, S, w, S', ok, e0, k⟩ := q
  unfold mMkX at e0
  split at e0
  · rename_i d S1 e1
    cases e0
    refine wpAny_Call_Name_kw (ld_glob I hg T.g ?_ hdb)
    have ha : PK X [{ arg := some f, value := e, pos := kpos }] (tCons (tM X.K m) tNil) := pk_cons h pk_nil
    refine PySem.W.callWith_KW0 (h₀ := X.base) I.ok.mod.kin T.oex.kC hall (thn (ha.run pos pins s σ H (fun vs H1 => ∃ v, vs = [v] ∧ ∀ a dx, H1 a = none → H1 dx = none → dx ≠ a → Q (.ref a) (upd (upd H1 dx (exd dx [(f, v)])) a (exo a C (some dx)))) I ⟨μ, ρ, S, _, _, ok, e1, fun μ1 v H1 so1 st1 r1 => ?_⟩) fun us s1 ⟨vs, H1, I1, r, q⟩ => ⟨I1.kIn, ?_⟩) hpl
    · exact ⟨v, rfl, mk_imp T so1 r1 fun μ2 z H2 so2 st2 r2 => k μ2 z H2 so2 (st1.trans st2) r2⟩
    · obtain ⟨v, rfl, q⟩ := q
      cases r with
      | cons rv rn =>
        cases rn
        rw [hks]
        exact run_mkX T hr I1 rv (Nat.zero_le _) (fun s a => T.b2 s a _) q
  · cases e0
/-- e.f of an error -/
def mFldX (f : Str) (m : EM) : EM := fun ρ S => match m ρ S with
  | some (.val (.exc1 c g d), S1) => if g = f then some (.val d, S1) else none
  | _ => none
theorem me_fldX {e : Expr} {m : EM} {f : Str} {pos : Pos} (h : PE X e (tM X.K m))
    (hall : ∀ ρ S c g d S1, m ρ S = some (.val (.exc1 c g d), S1) → g = f → ∀ C, PySem.W.nsIn X.K mainGlobals c = some (some (.ref C)) → ExcC X.K C ∧ PySem.W.findIn X.K (.ref C) f = some none) (hb : attributeBase e f X.env (eval e X.env) = eval e X.env := by rfl) :
    PE X (.Attribute e f pos) (tM X.K (mFldX f m)) := by
  refine ⟨fun pins s σ H Q I q => ?_⟩
  obtain ⟨μ, ρ, S, w, S', ok, e0, k⟩ := q
  unfold mFldX at e0
  split at e0
  · rename_i c g d S1 e1
    split at e0
    · rename_i hg
      cases e0
      subst hg
      refine attr_of hb (thn (h.run pins s σ H (fun x H1 => ∃ a C dx v, x = .ref a ∧ PySem.W.nsIn X.K mainGlobals c = some (some (.ref C)) ∧ H1 a = some (exo a C (some dx)) ∧ H1 dx = some (exd dx [(g, v)]) ∧ Q v H1) I ⟨μ, ρ, S, _, _, ok, e1, fun μ1 v H1 so1 st1 r1 => ?_⟩) fun u s1 hh => ?_)
      · cases (show Rep X.K H1 μ1 (.exc1 c g d) v from r1) with
        | exc1 n q x r => exact ⟨_, _, _, _, rfl, n, q, x, k μ1 _ H1 so1 st1 r⟩
      · obtain ⟨x, H1, I1, rx, a, C, dx, v, rfl, n, ea, ed, q⟩ := hh
        obtain rfl : u = Value.ref a := rx
        obtain ⟨hx, hno⟩ := hall ρ S c g d _ e1 rfl C n
        obtain ⟨t1, ho⟩ := exo_at I1.hok ea
        obtain ⟨mA, hns, hr⟩ := exd_at I1.hok ed
        obtain ⟨od, ho2, hl⟩ := lookIn_ns hns
        have l : List.lookup g [(g, v)] = some v := by simp [List.lookup]
        obtain ⟨y, hy, ry⟩ := RelO.some_of (v := v) (o := mA g) (by rw [← l]; exact hr g)
        have J : PySem.W.InstAt s1.heap a { cls := .ref C, dict := some dx, data := .fields #[.ref t1, .none, .none, .none, .bool false, .none] } C (some od) := ⟨ho, rfl, rfl, ho2⟩
        exact HandSPX.exc_get I1.kIn J hx.hg hx.hk hx.hs (PySem.W.findObj_own hx.hd hno rfl (by rw [hl, hy])) (handed_of ry) ⟨v, H1, I1.tok _, ry, q⟩
    · cases e0
  · cases e0
/-- X() of a class of errors without an __init__ of its own -/
def mMk0 (c : Str) : EM := fun _ S => some (.val (.exc0 c), S)
theorem me_mk0 {c : Str} {C : Addr} {bmB : List Value} {B newId initId : String} {p pos : Pos} (F : ExcBaseFacts B newId initId bmB) (q : PySem.W.excIn X.K C bmB newId = true) (ns : PySem.W.nsIn X.K mainGlobals c = some (some (.ref C))) (gC : X.mg c = some (.ref C)) (kC : PySem.W.keepIn X.K (.ref C) = true)
    (hg : Gl X c := by rfl) (hdb : (c == ("__debug__" : Str)) = false := by decide) : PE X (.Call (.Name c p) [] [] pos) (tM X.K (mMk0 c)) := by
  refine ⟨fun pins s σ H Q I h => ?_⟩
  obtain ⟨μ, ρ, S, w, S', ok, e0, k⟩ := h
  cases e0
  refine wpAny_Call_Name_kw (ld_glob I hg gC ?_ hdb)
  refine PySem.W.callWith_K0 I.kIn kC ?_
  show wpAny _ _ (call (.ref C) []) _ _ _
  obtain ⟨bm, N, nm, qn, bs, hdct, sn, sub, ab, col, dd, k0, k1, k2, k3, k5, mN, hC, hN, hni, T⟩ := exc_obj I.kIn q
  refine wpAny_call_exc_subT F T hC hN hni (fun h' a hm => ?_) (by show 0 ≤ sizeLine; omega)
  have hn : H a = none := I.hok.gone hm.new
  obtain ⟨t, ht, _, _⟩ := hm.there
  exact ⟨.ref a, upd H a (exo a C none), I.laidN hm.keeps hm.new hn (exo_ok ht), rfl, k μ _ _ (ok.so.alloc hn) (.alloc hn) (.exc0 ns upd_same)⟩
end
end HM

set_option Elab.async false
set_option linter.all false
set_option maxRecDepth 100000
set_option autoImplicit false
set_option maxHeartbeats 4000000
namespace HM
open PySem PySem.Spec L2
open PyProof.Rows hiding St
/-! ### repr of what may be a dict -/
def encK : Key → PyData
  | .inl i => .int i
  | .inr x => .str x
theorem encK_reads {P : Program} {w : World} {h : Heap} : ∀ (k : Key) (key : Value), (mixKind P w).is k key = true → Reads h key (encK k) [] := fun k key e => by
  rcases keyIs_shape e with ⟨i, t, rfl, rfl⟩ | ⟨x, t, rfl, rfl⟩
  · exact Reads.int i t
  · exact Reads.str x t
theorem ints_pairs {h : Heap} : ∀ (ks : List Str) (ns : List Int) (vs : List (Key × Value)), KV ((ks.map (Sum.inr : Str → Key)).zip (ns.map V.int)) vs → ks.length = ns.length → PyProof.V.PairsRead h encK vs ((ks.map PyData.str).zip (ns.map PyData.int)) []
  | [], [], _, r, _ => by cases r; exact .nil
  | [], _ :: _, _, _, l => by simp at l
  | _ :: _, [], _, _, l => by simp at l
  | k :: ks, n :: ns, _, r, l => by
    cases r with
    | @cons p q _ vs' r rr =>
      obtain ⟨k', v'⟩ := q
      obtain ⟨e1, e2⟩ := r
      have e1' : (Sum.inr k : Key) = k' := e1
      subst e1'
      obtain ⟨t, e2'⟩ := (show RelV (.int n) v' from e2)
      subst e2'
      have ih := ints_pairs (h := h) ks ns vs' rr (by simpa using l)
      exact PyProof.V.PairsRead.cons (bs := []) (Reads.int n t) ih
theorem pyAll_ints : ∀ {ds : List D} {ns : List Int}, ints? ds = some ns → pyAll ds = ns.map PyData.int
  | [], _, e => by cases e; rfl
  | .int i :: r, _, e => by
    unfold ints? at e
    cases q : ints? r with
    | none => rw [q] at e; cases e
    | some ns =>
      rw [q] at e
      cases e
      unfold pyAll
      rw [pyAll_ints q]
      unfold D.py
      rfl
  | .non :: _, _, e => by cases e
  | .bl _ :: _, _, e => by cases e
  | .str _ :: _, _, e => by cases e
  | .tup _ :: _, _, e => by cases e
  | .fl _ :: _, _, e => by cases e
  | .scr _ :: _, _, e => by cases e
  | .dct _ _ :: _, _, e => by cases e
  | .exc0 _ :: _, _, e => by cases e
  | .exc1 _ _ _ :: _, _, e => by cases e
theorem flatDepthKv : ∀ (ks : List Str) (ns : List Int), PyData.depthKv ((ks.map PyData.str).zip (ns.map PyData.int)) ≤ 2
  | [], _ => by simp [PyData.depthKv]
  | _ :: _, [] => by simp [PyData.depthKv]
  | k :: ks, n :: ns => by
    have ih := flatDepthKv ks ns
    simp only [List.map_cons, List.zip_cons_cons, PyData.depthKv, PyData.depth]
    omega
theorem flatDepth (ks : List Str) (ns : List Int) : (PyData.dict ((ks.map PyData.str).zip (ns.map PyData.int))).depth ≤ 3 := by
  have := flatDepthKv ks ns
  unfold PyData.depth
  omega
/-- data that repr shows: plain, or a dict of ints -/
def D.shows : D → Bool
  | .dct _ ds => (ints? ds).isSome
  | d => d.plain && SeqAt.shaped d.py
theorem shows_or {d : D} (n : ∀ ks ds, d ≠ .dct ks ds) (h : d.shows = true) : d.plain = true ∧ SeqAt.shaped d.py = true := by
  unfold D.shows at h
  split at h
  · exact absurd rfl (n _ _)
  · exact Bool.and_eq_true_iff.mp h
def RepD (K : PySem.W.Frag) (H : Hp) (v : V) (d : D) : Prop := ∃ μ, Rep K H μ d v
def rReprD (K : PySem.W.Frag) : List V → Hp → VK → Prop := fun vs H Q => ∃ v d, vs = [v] ∧ RepD K H v d ∧ d.shows = true ∧ d.py.showable = true ∧ d.py.shown.length ≤ sizeLine ∧ Q (.str d.py.shown) H
section
variable {X : Cx}
theorem call_reprD (hg : X.A.guards = some []) (hu : X.A.units + 66 < cLine) : CallR X (.builtin "repr") (rReprD X.K) := by
  intro pins s σ H xs us Q I r h
  obtain ⟨v, d, rfl, ⟨μ, hd⟩, h1, h2, h3, q⟩ := h
  cases r with
  | cons r rr =>
    cases rr
    have key : ∀ d' : D, d' = d → d'.plain = true → SeqAt.shaped d'.py = true → wpAny (model X.prog X.w) X.A (call (.builtin "repr") [_]) (EP X pins σ Q) X.xe s := fun d' e hp hs => by
      subst e
      obtain ⟨as, rd⟩ := Dp.reads I d'.py v _ (Rep.dp hp hd) r
      exact repr_any rd h2 hs h3 hg hu fun h' u tk k => ⟨.str d'.py.shown, H, I.kept k, ⟨u, rfl⟩, q⟩
    cases d with
    | dct ks ds =>
      have h1' : (ints? ds).isSome = true := h1
      cases hd with
      | @dct a _ vs _ ha hl hr =>
        obtain rfl := (show _ = Value.ref a from r)
        cases z : ints? ds with
        | none => rw [z] at h1'; cases h1'
        | some ns =>
          have ev := ints?_ok z hr
          subst ev
          obtain ⟨_, hsm, vs', kv, hdo⟩ := (show ObjOk X.prog X.w H s.heap a (.dK _) from I.hok a _ ha)
          have lk : ks.length = ns.length := by rw [hl, List.length_map]
          have rd : Reads s.heap (.ref a) (D.dct ks ds).py [a] := by
            have e : (D.dct ks ds).py = .dict ((ks.map PyData.str).zip (ns.map PyData.int)) := by unfold D.py; rw [pyAll_ints z]
            rw [e]
            exact PyProof.V.reads_dictOf (fun k key e => encK_reads k key e) hdo (ints_pairs ks ns vs' kv lk)
          have dep : (D.dct ks ds).py.depth ≤ 64 := by
            have e : (D.dct ks ds).py = .dict ((ks.map PyData.str).zip (ns.map PyData.int)) := by unfold D.py; rw [pyAll_ints z]
            rw [e]
            exact Nat.le_trans (flatDepth ks ns) (by decide)
          exact repr_of_reads' rd h2 (fun _ hm => by
            have e : sysModules = a := by simpa using hm
            rw [← e] at hsm
            simp at hsm) hg (by omega) (fun _ _ e => e) (fun h' u tk k => ⟨.str _, H, I.kept k, ⟨u, rfl⟩, q⟩) h3
    | exc0 c => cases h1
    | exc1 c f e => cases h1
    | non => exact key _ rfl (shows_or (fun _ _ z => by cases z) h1).1 (shows_or (fun _ _ z => by cases z) h1).2
    | bl b => exact key _ rfl (shows_or (fun _ _ z => by cases z) h1).1 (shows_or (fun _ _ z => by cases z) h1).2
    | int i => exact key _ rfl (shows_or (fun _ _ z => by cases z) h1).1 (shows_or (fun _ _ z => by cases z) h1).2
    | str x => exact key _ rfl (shows_or (fun _ _ z => by cases z) h1).1 (shows_or (fun _ _ z => by cases z) h1).2
    | tup ds => exact key _ rfl (shows_or (fun _ _ z => by cases z) h1).1 (shows_or (fun _ _ z => by cases z) h1).2
    | fl ds => exact key _ rfl (shows_or (fun _ _ z => by cases z) h1).1 (shows_or (fun _ _ z => by cases z) h1).2
    | scr ns => exact key _ rfl (shows_or (fun _ _ z => by cases z) h1).1 (shows_or (fun _ _ z => by cases z) h1).2
end
def fReprD : FN := fun ws S => match ws with
  | [.val d] => if d.shows && d.py.showable && decide (d.py.shown.length ≤ sizeLine) then some (.val (.str d.py.shown), S) else none
  | _ => none
theorem opN_reprD {K : PySem.W.Frag} : OpN K (rReprD K) fReprD := by
  intro μ S H ws vs w S' Q so r e k
  unfold fReprD at e
  split at e
  · rename_i d
    obtain ⟨v, rfl, rv⟩ := r.one
    split at e
    · rename_i h
      rw [Bool.and_eq_true, Bool.and_eq_true] at h
      cases e
      exact ⟨v, d, rfl, ⟨μ, rv⟩, h.1.1, h.1.2, of_decide_eq_true h.2, k μ _ H so .refl (.str _)⟩
    · cases e
  · cases e
end HM

set_option Elab.async false
set_option linter.all false
set_option maxRecDepth 100000
set_option autoImplicit false
set_option maxHeartbeats 4000000
namespace HM
open PySem PySem.Spec L2
open PyProof.Rows hiding St
/-- where a class stands -/
def clsAt (K : PySem.W.Frag) (c : Str) : Option Addr := match PySem.W.nsIn K mainGlobals c with
  | some (some (.ref C)) => some C
  | _ => none
theorem clsAt_ns {K : PySem.W.Frag} {c : Str} {C : Addr} (h : clsAt K c = some C) : PySem.W.nsIn K mainGlobals c = some (some (.ref C)) := by
  unfold clsAt at h
  split at h
  · rename_i e; cases h; exact e
  · cases h
theorem ns_clsAt {K : PySem.W.Frag} {c : Str} {C : Addr} (h : PySem.W.nsIn K mainGlobals c = some (some (.ref C))) : clsAt K c = some C := by
  unfold clsAt
  rw [h]
def excB (K : PySem.W.Frag) (C : Addr) : Bool :=
  (PySem.W.findIn K (.ref C) "__getattribute__" == some (some (.builtin "BaseException.__getattribute__"))) && ((PySem.W.findIn K (.ref C) "__getattr__" == some none) && ((PySem.W.subIn K (.ref C) (.type "BaseException") == some true) &&
  (PySem.W.hasDictIn K C && ((PySem.W.findIn K (.ref C) "__class__" == some (some (.builtin "object.__class__"))) && ((PySem.W.specialIn K (.builtin "object.__class__") "__get__" == some (some (.builtin "getset_descriptor.__get__"))) &&
  ((PySem.W.takesIn K (.builtin "object.__class__") == some true) && (PySem.W.mroIn K C (.type "object") == some true)))))))
theorem excB_ok {K : PySem.W.Frag} {C : Addr} (h : excB K C = true) : ExcC K C := by
  unfold excB at h
  simp only [Bool.and_eq_true, beq_iff_eq] at h
  obtain ⟨h1, h2, h3, h4, h5, h6, h7, h8⟩ := h
  exact ⟨h1, h2, h3, h4, h5, h6, h7, h8⟩
def shapeB (C : Addr) : Option Obj → Bool
  | some ⟨.type t, _, .cls cd, sl⟩ => match cd.mro, sl.toList with
    | .ref C' :: bm, [_, _, _, _, some (.builtin n), _] => t == "type" && (C' == C && (n == "ValueError.__new__" && (cd.hasDict && (!cd.hasDel && HandSPX.refsVE bm))))
    | _, _ => false
  | _ => false
theorem shapeB_ok {K : PySem.W.Frag} {C : Addr} (h : shapeB C (K.lookup C) = true) : ∃ nm q N bs bm sn sub ab col dd k0 k1 k2 k3 k5,
      List.lookup C K = some (excClassObj nm q C N bs bm true sn sub ab col dd k0 k1 k2 k3 k5 "ValueError.__new__") ∧ HandSPX.refsVE bm = true := by
  generalize List.lookup C K = o at h
  unfold shapeB at h
  split at h
  · rename_i t dd cd sl
    split at h
    · rename_i C' bm s0 s1 s2 s3 n s5 e1 e2
      simp only [Bool.and_eq_true, beq_iff_eq] at h
      obtain ⟨rfl, rfl, rfl, h4, h6, h5⟩ := h
      have e3 : sl = #[s0, s1, s2, s3, some (.builtin "ValueError.__new__"), s5] := by
        rw [← Array.toArray_toList (xs := sl), e2]
      obtain ⟨nm, bs, mro, N, q, hd, sn, sub, ab, col, hdel⟩ := cd
      cases e1
      cases h4
      subst e3
      have e4 : hdel = false := by simpa using h6
      subst e4
      exact ⟨nm, q, N, bs, bm, sn, sub, ab, col, dd, s0, s1, s2, s3, s5, rfl, h5⟩
    · cases h
  · cases h
def oexB (K : PySem.W.Frag) (C : Addr) : Bool :=
  shapeB C (K.lookup C) && ((PySem.W.findIn K (.ref C) "__setattr__" == some (some (.builtin "object.__setattr__"))) && ((PySem.W.subIn K (.ref C) (.type "BaseException") == some true) && ((PySem.W.typeIn K (.ref C) == some (.type "type")) && PySem.W.keepIn K (.ref C))))
theorem oexB_ok {K : PySem.W.Frag} {C : Addr} (h : oexB K C = true) : OexC K C := by
  unfold oexB at h
  simp only [Bool.and_eq_true, beq_iff_eq] at h
  obtain ⟨h1, h2, h3, h4, h5⟩ := h
  exact ⟨shapeB_ok h1, h2, h3, h4, h5⟩
/-- an own class: an error; of all classes and built-in ones told what it is under -/
def clsB (K : PySem.W.Frag) (all : List (Str × List Str)) (ups dns : List String) (fs : List Str) (p : Str × List Str) : Bool := match clsAt K p.1 with
  | some C => excB K C && (all.all (fun q => match clsAt K q.1 with
      | some T => PySem.W.kitOne K (.ref C) (.ref T) == some (p.2.contains q.1)
      | none => false) && (ups.all (fun t => PySem.W.kitOne K (.ref C) (.type t) == some true) && (dns.all (fun t => PySem.W.kitOne K (.ref C) (.type t) == some false) && fs.all (fun f => PySem.W.findIn K (.ref C) f == some none))))
  | none => false
def initB (K : PySem.W.Frag) (c : Str) : Bool := match clsAt K c with
  | some C => oexB K C && ((PySem.W.findIn K (.ref C) "__init__" == some (some (.ref (He.fAd K (c, some "__init__"))))) && (PySem.W.typeIn K (.ref (He.fAd K (c, some "__init__"))) == some (.type "function")))
  | none => false
def bareB (K : PySem.W.Frag) (bmB : List Value) (c : Str) : Bool := match clsAt K c with
  | some C => PySem.W.excIn K C bmB "ValueError.__new__" && PySem.W.keepIn K (.ref C)
  | none => false
end HM

set_option Elab.async false
set_option linter.all false
set_option maxRecDepth 100000
set_option autoImplicit false
set_option maxHeartbeats 4000000
namespace HM
open PySem PySem.Spec L2
open PyProof.Rows hiding St
theorem fun_of_D {K : PySem.W.Frag} {x q : Str} {st : Stmt} {f : Addr} {fd : FuncData} {kws : List (Str × V)} (F : FunD K x q (defArgs st) (defBody st) (defScope st) [] kws f fd) : Fun K x q st f fd := by
  obtain ⟨oc, od, dV, kV, doc, pm, an, cdv, ct, osl, h1, h2, h3, h4, h5⟩ := F.ex
  rcases h4 with ⟨_, rfl⟩ | ⟨h, _⟩
  · exact ⟨⟨oc, od, kV, doc, pm, an, cdv, ct, osl, h1, h2, h3⟩, F.kp⟩
  · exact absurd rfl h
section
variable {P : Program} {w : World} {K : PySem.W.Frag} {mg : Str → Option Value} {base : Heap}
theorem xcls_mk {c f q : Str} {st : Stmt} {fa C : Addr} {fd : FuncData} (ns : clsAt K c = some C) (g : mg c = some (.ref C)) (oex : OexC K C) (exc : ExcC K C) (iC : PySem.W.findIn K (.ref C) "__init__" = some (some (.ref fa))) (tI : PySem.W.typeIn K (.ref fa) = some (.type "function"))
    (no : PySem.W.findIn K (.ref C) f = some none) (F : Fun K "__init__" q st fa fd) (S : FnScope ["self", f] ["self", f] (defScope st))
    (hbody : ∀ (cdv : Value) (A : Around) (outer : List Env) (s : Shared) (H : Hp) (E : XK), PSs (cxOf CX0 P w K mg base ["self", f] q (defScope st) fa cdv A outer s H E).nox (defBody st) (tOst K f (tVar 0) (tVar 1)))
    (b1 : ∀ (kV doc pm : Value) (an : Option Addr) (cdv ct : Value) (a u : Value), bindArgs (PySem.W.fnOf "__init__" q (defArgs st) (defBody st) (defScope st) .none kV doc pm an cdv ct) ⟨[a, u], []⟩ = pure [(("self" : Str), a), ((f : Str), u)])
    (b2 : ∀ (kV doc pm : Value) (an : Option Addr) (cdv ct : Value) (a u : Value), bindArgs (PySem.W.fnOf "__init__" q (defArgs st) (defBody st) (defScope st) .none kV doc pm an cdv ct) ⟨[a], [((f : Str), u)]⟩ = pure [(("self" : Str), a), ((f : Str), u)]) :
    XCls P w K mg base c f C fa fd := by
  refine ⟨clsAt_ns ns, g, oex, exc, iC, tI, no, ?_, ?_, ?_⟩
  · refine F.ok S (fun vs H Q E h => ?_) (fun cdv A outer s H vs Q E hr h => ⟨_, hbody cdv A outer s H E, ?_⟩)
    · obtain ⟨a, v, rfl, _⟩ := h; rfl
    · obtain ⟨a, v, rfl, ha, k⟩ := h
      exact ⟨v, rfl, .ref a, rfl, a, C, rfl, oex, no, .inl ⟨ha, fun dx h1 h2 => k dx h1 h2⟩⟩
  · obtain ⟨oc, od, kV, doc, pm, an, cdv, ct, osl, rfl, _, _⟩ := F.ex
    exact fun s a u => .of_eq (b1 _ _ _ _ _ _ _ _)
  · obtain ⟨oc, od, kV, doc, pm, an, cdv, ct, osl, rfl, _, _⟩ := F.ex
    exact fun s a u => .of_eq (b2 _ _ _ _ _ _ _ _)
end
/-! ### what an own error is under -/
abbrev Fm : Type := List (Str × List Str)
structure Fam (K : PySem.W.Frag) (fm : Fm) (ups dns : List String) (fs : List Str) : Prop where
  all : fm.all (clsB K fm ups dns fs) = true
def ansO (fm : Fm) (t : Str) : Str → Option Bool := fun c => (fm.lookup c).map fun l => l.contains t
def ansB (fm : Fm) (b : Bool) : Str → Option Bool := fun c => (fm.lookup c).map fun _ => b
theorem lookup_mem {α : Type} : ∀ {fm : List (Str × α)} {c : Str} {l : α}, fm.lookup c = some l → (c, l) ∈ fm
  | (a, b) :: r, c, l, h => by
    rw [List.lookup_cons] at h
    split at h
    · rename_i e
      cases h
      rw [eq_of_beq e]
      exact List.mem_cons_self
    · exact List.mem_cons_of_mem _ (lookup_mem h)
theorem Fam.one {K : PySem.W.Frag} {fm : Fm} {ups dns : List String} {fs : List Str} (F : Fam K fm ups dns fs) {c : Str} {l : List Str} {C : Addr} (h : fm.lookup c = some l) (hC : clsAt K c = some C) :
    ExcC K C ∧ (∀ t T, (fm.lookup t).isSome = true → clsAt K t = some T → PySem.W.kitOne K (.ref C) (.ref T) = some (l.contains t)) ∧ (∀ t ∈ ups, PySem.W.kitOne K (.ref C) (.type t) = some true) ∧ (∀ t ∈ dns, PySem.W.kitOne K (.ref C) (.type t) = some false) ∧ (∀ f ∈ fs, PySem.W.findIn K (.ref C) f = some none) := by
  have h0 := List.all_eq_true.mp F.all _ (lookup_mem h)
  unfold clsB at h0
  rw [hC] at h0
  simp only [Bool.and_eq_true, List.all_eq_true, beq_iff_eq] at h0
  obtain ⟨h1, h2, h3, h4, h5⟩ := h0
  refine ⟨excB_ok h1, fun t T ht hT => ?_, h3, h4, h5⟩
  obtain ⟨l', hl'⟩ := Option.isSome_iff_exists.mp ht
  have h6 := h2 _ (lookup_mem hl')
  rw [hT] at h6
  exact eq_of_beq h6
theorem Fam.at {K : PySem.W.Frag} {fm : Fm} {ups dns : List String} {fs : List Str} (F : Fam K fm ups dns fs) {c : Str} {l : List Str} (h : fm.lookup c = some l) : ∃ C, clsAt K c = some C := by
  have h0 := List.all_eq_true.mp F.all _ (lookup_mem h)
  unfold clsB at h0
  split at h0
  · exact ⟨_, by assumption⟩
  · cases h0
section
variable {X : Cx} {e : Expr} {m : EM} {p p2 pos : Pos} {fm : Fm} {ups dns : List String} {fs : List Str}
theorem me_isO {t : Str} {T : Addr} (F : Fam X.K fm ups dns fs) (gt : X.mg t = some (.ref T)) (cT : clsAt X.K t = some T) (hmem : (fm.lookup t).isSome = true) (hgl : Gl X t) (hm : X.mg "isinstance" = none) (h : PE X e (tM X.K m)) (hdb : (t == ("__debug__" : Str)) = false := by decide) (hg : Gl X "isinstance" := by rfl)
    (hs : starEach [e, .Name t p2] X.env = (false, eval e X.env) :: starEach [.Name t p2] X.env := by rfl) (hs2 : starEach [.Name t p2] X.env = (false, eval (.Name t p2) X.env) :: starEach [] X.env := by rfl) (hpl : (backTo pos (starEach [.Name t p2] X.env)).any (·.1) = false := by rfl) :
    PE X (.Call (.Name "isinstance" p) [e, .Name t p2] [] pos) (tM X.K (mIsX (ansO fm t) m)) := by
  refine me_isX (pe_glob (v := V.ref T) hgl gt rfl hdb) (.own T) (fun cn b C hb hC => ?_) hm h hg (by first | rfl | decide +kernel) hs hs2 hpl
  unfold ansO at hb
  cases q : fm.lookup cn with
  | none => rw [q] at hb; cases hb
  | some l =>
    rw [q] at hb
    cases hb
    obtain ⟨a1, a2, _⟩ := F.one q (ns_clsAt hC)
    exact ⟨a1, a2 t T hmem cT⟩
theorem me_isB {t : Str} {T : String} {b : Bool} (F : Fam X.K fm ups dns fs) (hin : (if b then ups else dns).contains T = true) (hm2 : X.mg t = none) (hv : bootBuiltins t = some (.type T)) (hg2 : Gl X t) (hm : X.mg "isinstance" = none) (h : PE X e (tM X.K m))
    (hn : t ≠ "__name__" := by decide) (hdb : (t == ("__debug__" : Str)) = false := by decide) (hg : Gl X "isinstance" := by rfl)
    (hs : starEach [e, .Name t p2] X.env = (false, eval e X.env) :: starEach [.Name t p2] X.env := by rfl) (hs2 : starEach [.Name t p2] X.env = (false, eval (.Name t p2) X.env) :: starEach [] X.env := by rfl) (hpl : (backTo pos (starEach [.Name t p2] X.env)).any (·.1) = false := by rfl) :
    PE X (.Call (.Name "isinstance" p) [e, .Name t p2] [] pos) (tM X.K (mIsX (ansB fm b) m)) := by
  refine me_isX (pe_bltn (v := V.ty T) hg2 hm2 hv rfl hn hdb) (.ty T) (fun cn b' C hb hC => ?_) hm h hg (by first | rfl | decide +kernel) hs hs2 hpl
  unfold ansB at hb
  cases q : fm.lookup cn with
  | none => rw [q] at hb; cases hb
  | some l =>
    rw [q] at hb
    cases hb
    obtain ⟨a1, _, a3, a4, _⟩ := F.one q (ns_clsAt hC)
    refine ⟨a1, ?_⟩
    have hin' := List.contains_iff_mem.mp hin
    cases b with
    | true => exact a3 T hin'
    | false => exact a4 T hin'
/-- e.f of an own error -/
def mFldF (fm : Fm) (f : Str) (m : EM) : EM := fun ρ S => match m ρ S with
  | some (.val (.exc1 c g d), S1) => if g = f then (if (fm.lookup c).isSome = true then some (.val d, S1) else none) else none
  | _ => none
def mGate (fm : Fm) (f : Str) (m : EM) : EM := fun ρ S => match m ρ S with
  | some (.val (.exc1 c g d), S1) => if g = f ∧ (fm.lookup c).isSome = true then some (.val (.exc1 c g d), S1) else none
  | _ => none
theorem mGate_ok {f : Str} {ρ : Rho} {S S' : Sto} {w : W} (h : mGate fm f m ρ S = some (w, S')) : ∃ c d, w = .val (.exc1 c f d) ∧ (fm.lookup c).isSome = true ∧ m ρ S = some (w, S') := by
  unfold mGate at h
  split at h
  · rename_i c g d S1 e1
    split at h
    · rename_i hh
      obtain ⟨rfl, h2⟩ := hh
      cases h
      exact ⟨c, d, rfl, h2, e1⟩
    · cases h
  · cases h
theorem me_fldF {f : Str} (F : Fam X.K fm ups dns fs) (hf : fs.contains f = true) (h : PE X e (tM X.K m)) (hb : attributeBase e f X.env (eval e X.env) = eval e X.env := by rfl) : PE X (.Attribute e f pos) (tM X.K (mFldF fm f m)) := by
  have hg : PE X e (tM X.K (mGate fm f m)) := PE.imp h fun σ H Q q => by
      obtain ⟨μ, ρ, S, w, S', ok, e0, k⟩ := q
      obtain ⟨c, d, _, _, e1⟩ := mGate_ok e0
      exact ⟨μ, ρ, S, w, S', ok, e1, k⟩
  refine PE.imp (me_fldX (f := f) hg (fun ρ S c g d S1 e0 hgf C hC => ?_) hb) fun σ H Q q => ?_
  · obtain ⟨c', d', hw, hs, _⟩ := mGate_ok e0
    cases hw
    obtain ⟨l, hl⟩ := Option.isSome_iff_exists.mp hs
    obtain ⟨a1, _, _, _, a5⟩ := F.one hl (ns_clsAt hC)
    exact ⟨a1, a5 f (List.contains_iff_mem.mp hf)⟩
  · obtain ⟨μ, ρ, S, w, S', ok, e0, k⟩ := q
    refine ⟨μ, ρ, S, w, S', ok, ?_, k⟩
    unfold mFldF at e0
    unfold mFldX
    split at e0
    · rename_i c g d S1 e1
      split at e0
      · rename_i e2
        split at e0
        · rename_i e3
          cases e0
          have e4 : mGate fm f m ρ S = some (.val (.exc1 c g d), S') := by
            unfold mGate
            rw [e1]
            exact if_pos ⟨e2, e3⟩
          rw [e4]
          exact if_pos e2
        · cases e0
      · cases e0
    · cases e0
/-! ### dict displays -/
theorem me_dct0 : PE X (.Dict [] [] pos) (tM X.K (mC (.dct [] []))) := PE.imp pe_dnewK fun σ H Q q => by
  obtain ⟨μ, ρ, S, w, S', ok, e0, k⟩ := q
  cases e0
  intro a ha
  exact k μ _ _ (ok.so.alloc ha) (.alloc ha) (.dct (ks := []) (vs := []) upd_same rfl .nil)
theorem me_dct1 {k1 v1 : Expr} {x : Str} {i : Int} (hk : PE X k1 (tC (.str x))) (hv : PE X v1 (tC (.int i))) : PE X (.Dict [some k1] [v1] pos) (tM X.K (mC (.dct [x] [.int i]))) := PE.imp (pe_disp (pps_cons hk hv pps_nil) rfl rfl (by simp) (by simp)) fun σ H Q q => by
  obtain ⟨μ, ρ, S, w, S', ok, e0, k⟩ := q
  cases e0
  intro a ha
  refine ⟨upd_same, [(.inr x, .int i)], rfl, by simp, ?_⟩
  have e : upd (upd H a (.dK [])) a (.dK (mergeK [] [(.inr x, .int i)])) = upd H a (.dK [(.inr x, .int i)]) := by
    funext b
    by_cases hb : b = a
    · rw [hb, upd_same, upd_same]; rfl
    · rw [upd_ne hb, upd_ne hb, upd_ne hb]
  rw [e]
  exact k μ _ _ (ok.so.alloc ha) (.alloc ha) (.dct (ks := [x]) (vs := [.int i]) upd_same rfl (.cons (.int i) .nil))
end
end HM

set_option Elab.async false
set_option linter.all false
set_option maxRecDepth 100000
set_option autoImplicit false
set_option maxHeartbeats 4000000
namespace HM
open PySem PySem.Spec L2
open PyProof.Rows hiding St
section
variable {P : Program} {w : World} {K : PySem.W.Frag} {mg mb : Str → Option Value} {k : Nat} {fa a : Addr} {fd : FuncData} {x : Str} {F : FM} {s1 : Shared} {us : List Value} {ns : List Int}
/-- the script that a law is called with, from its list in memory -/
theorem enter_scr (hK : K.In s1.heap) (hG : s1.heap.Ns mainGlobals mg) (hB : s1.heap.Ns builtinsNs mb) (hBb : ∀ (y : Str), y ≠ Str.ofString "__name__" → mb y = bootBuiltins y) (hL : s1.heap.NoLimit) (hg : s1.gens = #[])
    (ha : s1.heap.get? a = some { cls := .type "list", data := .seq us.toArray }) (hi : PyProof.Rows.IntsAre us ns) (hl : ns.length ≤ sizeLine) (hr : Room k callerA) (G : ∀ base : Heap, K.In base → base.Ns mainGlobals mg → FnG P w K mg base k fa fd [x] (spM K 1 F))
    (hb : ∀ (s : Shared) (u : Value), BindsTo s fd { pos := [u] } [(x, u)]) (hF : ∃ S', F [.val (.scr ns)] [] = some (.val (.bl true), S')) :
    codeAny (model P w) callerA (.call (.ref fa) { pos := [.ref a] }) (fun r s' => r = .ok (.ret (.bool true)) ∧ OldK s1.heap s'.heap ∧ s'.os = s1.os ∧ PyProof.Rows.AllBare s'.gens) s1 := by
  have rv := vals_ints hi
  have core : ∀ H : Hp, Only H → ScrAt K H a (ns.map V.int) → HOk P w H s1.heap → (∀ b, H b ≠ none → b = a) → (H a ≠ none → K.lookup a = none) →
      codeAny (model P w) callerA (.call (.ref fa) { pos := [.ref a] }) (fun r s' => r = .ok (.ret (.bool true)) ∧ OldK s1.heap s'.heap ∧ s'.os = s1.os ∧ PyProof.Rows.AllBare s'.gens) s1 := by
    intro H hO hS hok hA hN
    have off : ∀ {b : Addr} {o : Obj} {es : Array DictEntry} {ep : Nat}, s1.heap.get? b = some o → o.data = .dict es ep → H b = none := by
      intro b o es ep e d
      cases q : H b with
      | none => rfl
      | some u =>
        exfalso
        have hba := hA b (by rw [q]; simp)
        subst hba
        rw [ha] at e
        cases e
        cases d
    have nsIn : ∀ {b : Addr} {m : Str → Option Value}, s1.heap.Ns b m → (hidT s1.heap H).Ns b m := fun z => by
      obtain ⟨o, es, ep, e, d, r⟩ := z
      exact ⟨o, es, ep, hidT_get e (off e d), d, r⟩
    have kIn : K.In (hidT s1.heap H) := fun b o e => by
      refine hidT_get (hK b o e) ?_
      cases q : H b with
      | none => rfl
      | some u =>
        exfalso
        have hba := hA b (by rw [q]; simp)
        subst hba
        have := hN (by rw [q]; simp)
        rw [this] at e
        cases e
    have e0 : Env0 P w K mg (hidT s1.heap H) callerA [] s1 H :=
      { frames := rfl
        mod := { kin := kIn, glob := nsIn hG, blt := ⟨mb, nsIn hB, hBb⟩, nolimit := by obtain ⟨mc, h1, h2⟩ := hL; exact ⟨mc, nsIn h1, h2⟩ }
        bs := fun b o e => of_hidT e
        bsz := Nat.le_of_eq (hidT_size s1.heap H)
        funs := trivial
        frf := fun b z => absurd (show b ∈ ([] : List Addr) from z) (by simp)
        hok := hok
        bare := PyProof.Rows.AllBare.of_eq hg }
    have hsp : spM K 1 F [V.ref a] H (fun v _ => v = .bl true) (fun _ _ _ => False) := by
      obtain ⟨S', e⟩ := hF
      refine ⟨rfl, [], [], [.val (.scr ns)], .val (.bl true), S', ⟨rfl, fun l ds z => by simp at z, fun l z => by simp at z, fun l m b z => by simp at z⟩, ?_, e, fun μ' v H' _ _ r => ?_⟩
      · exact .cons (show Rep K H [] (.scr ns) (.ref a) from .scr hS) .nil
      · cases (show Rep K H' μ' (.bl true) v from r)
        rfl
    refine codeAny_mono ((G _ kIn (nsIn hG)).run callerA [] s1 H { pos := [.ref a] } [.ref a] [V.ref a] (fun v _ => v = .bl true) (fun _ _ _ => False) hr rfl e0 (hb s1 (.ref a)) (.cons rfl .nil) hsp) fun r s' h => ?_
    cases r with
    | error e => exact False.elim (show False from h)
    | ok fl =>
      cases fl with
      | next => exact False.elim h
      | brk => exact False.elim h
      | cont => exact False.elim h
      | ret u =>
        obtain ⟨v, H', os, bare, un, hok', r', q⟩ := h
        have q' : v = .bl true := q
        subst q'
        have r2 : u = .bool true := r'
        refine ⟨by rw [r2], .of_keep fun b o e => ?_, os, bare⟩
        cases hq : H b with
        | none => exact un.keep b o e hq (by simp [frs]) (by simp)
        | some y =>
          rcases hO b with z | ⟨ob, xs, z⟩
          · rw [hq] at z; cases z
          · have z2 := un.frzs b ob (.lst xs) z
            have h1 := (hok b _ z).1
            have h2 := (hok' b _ z2).1
            rw [h1] at e
            cases e
            exact h2
  cases hk : K.lookup a with
  | none =>
    refine core (fun b => if b = a then some (.frz { cls := .type "list", data := .seq us.toArray } (.lst (ns.map V.int))) else none) (fun b => ?_) (.inl ⟨_, if_pos rfl⟩) (fun b y z => ?_) (fun b z => ?_) (fun _ => hk)
    · by_cases hba : b = a
      · exact .inr ⟨_, _, if_pos hba⟩
      · exact .inl (if_neg hba)
    · by_cases hba : b = a
      · have z := (if_pos hba).symm.trans z
        cases z
        subst hba
        exact ⟨ha, by rw [List.length_map]; exact hl, us, 0, rv, ha⟩
      · have z := (if_neg hba).symm.trans z
        cases z
    · by_cases hba : b = a
      · exact hba
      · exact absurd (if_neg hba) z
  | some o =>
    have e := hK a o hk
    rw [ha] at e
    cases e
    refine core (fun _ => none) (fun _ => .inl rfl) (.inr ?_) (fun b y z => by cases z) (fun b z => absurd rfl z) (fun z => absurd rfl z)
    exact .inr ⟨_, us.toArray, 0, hk, rfl, rfl, rfl, by simp [← rv.length] at hl ⊢; exact hl, by simpa using rv⟩
theorem walk_scr {l : PySem.W.OpenLaw} {n k : Nat} {q : Program} {loose : List Str} {XP : (Str → Option Value) → Heap → Prop} {YP : World → Heap → Prop} {d : DefRec} {x : Str} (hn : l.most = some n) (hn2 : n ≤ sizeLine) (hdf : d.params.defaults = []) (hr : Room k callerA)
    (G : ∀ (w : World) (mg : Str → Option Value) (fa : Addr) (h : Heap), YP w h → h.Ns mainGlobals mg → mg d.name = some (.ref fa) → ∃ (K : PySem.W.Frag) (fd : FuncData) (F : FM), K.In h ∧ (∀ (s : Shared) (u : Value), BindsTo s fd { pos := [u] } [(x, u)]) ∧
      (∀ ns : List Int, ∃ S', F [.val (.scr ns)] [] = some (.val (.bl true), S')) ∧ ∀ base : Heap, K.In base → base.Ns mainGlobals mg → FnG l.prog w K mg base k fa fd [x] (spM K 1 F)) :
    PySem.W.WalkO q loose XP YP l.row.toRowW d [] fun f vs => call f vs :=
  Att.attach_call hn hdf fun w s0 s1 mg mb fa o pm cd doc a vs ns Gr Y ho hd hcd hmg hobj hints hlen hg => by
    obtain ⟨K, fd, F, KX, hb, hF, hG⟩ := G w mg fa s1.heap Y Gr.T.g hmg
    exact enter_scr KX Gr.T.g Gr.T.b Gr.T.builtins Gr.T.nolimit hg hobj hints (Nat.le_trans hlen hn2) hr hG hb (hF ns)
end
end HM

set_option Elab.async false
set_option linter.all false
set_option maxRecDepth 100000
set_option autoImplicit false
set_option maxHeartbeats 4000000
namespace HM
open PySem PySem.Spec L2
open PyProof.Rows hiding St
section
variable {P : Program} {w : World} {K : PySem.W.Frag} {mg : Str → Option Value} {h : Heap} {fm : Fm} {ups dns : List String} {fs : List Str}
theorem xcls_of (F : Fam K fm ups dns fs) (X : K.In h) (G : h.Ns mainGlobals mg) {c f q : Str} {st : Stmt} {fd : FuncData} (hl : (fm.lookup c).isSome = true) (hf : fs.contains f = true) (hi : initB K c = true) (U : Fun K "__init__" q st (He.fAd K (c, some "__init__")) fd) (S : FnScope ["self", f] ["self", f] (defScope st))
    (hbody : ∀ (base : Heap) (cdv : Value) (A : Around) (outer : List Env) (s : Shared) (H : Hp) (E : XK), PSs (cxOf CX0 P w K mg base ["self", f] q (defScope st) (He.fAd K (c, some "__init__")) cdv A outer s H E).nox (defBody st) (tOst K f (tVar 0) (tVar 1)))
    (b1 : ∀ (kV doc pm : Value) (an : Option Addr) (cdv ct : Value) (a u : Value), bindArgs (PySem.W.fnOf "__init__" q (defArgs st) (defBody st) (defScope st) .none kV doc pm an cdv ct) ⟨[a, u], []⟩ = pure [(("self" : Str), a), ((f : Str), u)])
    (b2 : ∀ (kV doc pm : Value) (an : Option Addr) (cdv ct : Value) (a u : Value), bindArgs (PySem.W.fnOf "__init__" q (defArgs st) (defBody st) (defScope st) .none kV doc pm an cdv ct) ⟨[a], [((f : Str), u)]⟩ = pure [(("self" : Str), a), ((f : Str), u)]) :
    ∃ C, ∀ base : Heap, XCls P w K mg base c f C (He.fAd K (c, some "__init__")) fd := by
  obtain ⟨l, hl'⟩ := Option.isSome_iff_exists.mp hl
  obtain ⟨C, hC⟩ := F.at hl'
  obtain ⟨e1, _, _, _, e5⟩ := F.one hl' hC
  unfold initB at hi
  rw [hC] at hi
  simp only [Bool.and_eq_true, beq_iff_eq] at hi
  obtain ⟨h1, h2, h3⟩ := hi
  exact ⟨C, fun base => xcls_mk hC (PySem.W.mg_of X G (clsAt_ns hC)) (oexB_ok h1) e1 h2 h3 (e5 f (List.contains_iff_mem.mp hf)) U S (hbody base) b1 b2⟩
theorem bare_of (F : Fam K fm ups dns fs) (X : K.In h) (G : h.Ns mainGlobals mg) {c : Str} {bm : List Value} (hl : (fm.lookup c).isSome = true) (hb : bareB K bm c = true) :
    ∃ C, PySem.W.excIn K C bm "ValueError.__new__" = true ∧ PySem.W.nsIn K mainGlobals c = some (some (.ref C)) ∧ mg c = some (.ref C) ∧ PySem.W.keepIn K (.ref C) = true ∧ clsAt K c = some C := by
  obtain ⟨l, hl'⟩ := Option.isSome_iff_exists.mp hl
  obtain ⟨C, hC⟩ := F.at hl'
  unfold bareB at hb
  rw [hC] at hb
  obtain ⟨h1, h2⟩ := Bool.and_eq_true_iff.mp hb
  exact ⟨C, h1, clsAt_ns hC, PySem.W.mg_of X G (clsAt_ns hC), h2, hC⟩
end
end HM

set_option Elab.async false
set_option linter.all false
set_option maxRecDepth 100000
set_option autoImplicit false
set_option maxHeartbeats 4000000
namespace K01
open PySem PySem.Spec L2 HM
open PyProof.Rows hiding St
abbrev prg : Program := PySem.Challenge.pw_splitcosts_k01_errors_each_of_its_own
def topS (i : Nat) : Stmt := prg.main.body.getD i (.Pass ⟨0, 0, 0, 0⟩)
/-- the one statement of a class's body -/
def clsS (i : Nat) : Stmt := match topS i with
  | .ClassDef _ _ _ body _ _ _ _ _ _ _ => body.getD 0 (.Pass ⟨0, 0, 0, 0⟩)
  | s => s
def fams : List (Str × List Str) := [("CostError", ["CostError"]), ("InvalidForm", ["InvalidForm", "CostError"]), ("InvalidTable", ["InvalidTable", "CostError"]), ("InvalidSolver", ["InvalidSolver", "CostError"]), ("InvalidAid", ["InvalidAid", "CostError"]), ("InvalidShare", ["InvalidShare", "CostError"]), ("InvalidNumber", ["InvalidNumber", "CostError"]), ("InvalidAmount", ["InvalidAmount", "CostError"]), ("InvalidLot", ["InvalidLot", "CostError"]), ("InvalidSmoother", ["InvalidSmoother", "CostError"]), ("InvalidWeight", ["InvalidWeight", "CostError"]), ("TooMany", ["TooMany", "CostError"]), ("InvalidRow", ["InvalidRow", "CostError"]), ("InvalidRows", ["InvalidRows", "CostError"]), ("InvalidMethod", ["InvalidMethod", "CostError"]), ("InvalidSplit", ["InvalidSplit", "CostError"]), ("InvalidLots", ["InvalidLots", "CostError"]), ("InvalidTeam", ["InvalidTeam", "CostError"]), ("InvalidSpans", ["InvalidSpans", "CostError"]), ("InvalidParts", ["InvalidParts", "CostError"]), ("InvalidLadder", ["InvalidLadder", "CostError"]), ("NotWhole", ["NotWhole", "CostError"]), ("NotSafe", ["NotSafe", "CostError"])]
def upsN : List String := ["ValueError", "Exception"]
def dnsN : List String := ["LookupError", "ArithmeticError", "TypeError", "RuntimeError", "StopIteration"]
def ones : List Str := (["InvalidForm", "InvalidTable", "InvalidSolver", "InvalidAid", "InvalidShare", "InvalidNumber", "InvalidAmount", "InvalidLot", "InvalidSmoother", "InvalidWeight"] : List Str) ++ (["TooMany", "InvalidRow", "InvalidRows", "InvalidMethod", "InvalidSplit", "InvalidLots", "InvalidTeam", "InvalidSpans", "InvalidParts", "InvalidLadder"] : List Str)
def bares : List Str := ["CostError", "NotWhole", "NotSafe"]
abbrev bmVE : List Value := [.type "ValueError", .type "Exception", .type "BaseException", .type "object"]
abbrev s_law_urn : Stmt := topS 25
theorem sc_law_urn : FnScope ["script", "turn", "mixed", "cell", "own"] ["script", "turn"] (defScope s_law_urn) := ⟨rfl, rfl, rfl, by decide +kernel, rfl, by decide +kernel, by decide +kernel⟩
def b_law_urn : SM := (sSeq
  (sSet 2 (mBin fPlus (mC (.int 40127)) (mBin fMul (mC (.int 6151)) (mVar 1))))
  (sSeq
  (sFor (iSeq (mCut (mVar 0) oNone (oSome (mC (.int 8))))) (.nm 3) (sSeq
  (sSet 2 (mBin fMod (mCall fInt (aCons (mBin fPlus (mBin fPlus (mBin fMul (mVar 2) (mC (.int 58313))) (mBin fMod (mCall fInt (aCons (mVar 3) aNil)) (mC (.int 2147483549)))) (mC (.int 11))) aNil)) (mC (.int 2147483497))))
  sNx))
  (sSeq
  (sSet 4 (mIf (mTest (mBin fLt (mVar 1) (mCall fLen (aCons (mVar 0) aNil)))) (mCall fInt (aCons (mBin fIx (mVar 0) (mVar 1)) aNil)) (mC (.int 0))))
  (sSeq
  (sSet 2 (mBin fMod (mCall fInt (aCons (mBin fPlus (mBin fPlus (mBin fMul (mVar 2) (mC (.int 29))) (mBin fMul (mBin fMod (mCall fInt (aCons (mVar 4) aNil)) (mC (.int 2147483549))) (mC (.int 30011)))) (mC (.int 3))) aNil)) (mC (.int 2147483497))))
  (sSeq
  (sRet (mCell (aCons (mIf (mtOr (mTest (mBin fLt (mVar 4) (mC (.int 0)))) (mTest (mBin fGe (mVar 4) (mBin fPow (mC (.int 10)) (mC (.int 15)))))) (mCall (fInt1 iAbs) (aCons (mVar 4) aNil)) (mC (.int 0))) (aCons (mVar 2) (aCons (mC (.int 0)) (aCons (mC (.int 1)) aNil))))))
  sNx)))))
def F_law_urn : FM := fnM 5 b_law_urn
abbrev s_law_take : Stmt := topS 26
theorem sc_law_take : FnScope ["urn", "limit", "digit", "seed"] ["urn", "limit"] (defScope s_law_take) := ⟨rfl, rfl, rfl, by decide +kernel, rfl, by decide +kernel, by decide +kernel⟩
def b_law_take : SM := (sSeq
  (sIf (mTest (mBin fGt (mBin fIx (mVar 0) (mC (.int 0))) (mC (.int 0)))) (sSeq
  (sPut2 2 (mCall fDivmod (aCons (mBin fIx (mVar 0) (mC (.int 0))) (aCons (mVar 1) aNil))) (mVar 0) (mC (.int 0)))
  (sSeq
  (sRet (mVar 2))
  sNx)) sNx)
  (sSeq
  (sPut (mBin fPlus (mBin fIx (mVar 0) (mC (.int 2))) (mC (.int 1))) (mVar 0) (mC (.int 2)))
  (sSeq
  (sSet 3 (mBin fMod (mCall fInt (aCons (mBin fPlus (mBin fIx (mVar 0) (mC (.int 1))) (mBin fMul (mC (.int 51787)) (mBin fIx (mVar 0) (mC (.int 2))))) aNil)) (mC (.int 2147483497))))
  (sSeq
  (sPut (mBin fMod (mCall fInt (aCons (mBin fPlus (mBin fMul (mVar 3) (mBin fPlus (mBin fMod (mCall fInt (aCons (mVar 3) aNil)) (mC (.int 6007))) (mC (.int 41011)))) (mBin fMul (mC (.int 29)) (mBin fIx (mVar 0) (mC (.int 2))))) aNil)) (mC (.int 2147483497))) (mVar 0) (mC (.int 1)))
  (sSeq
  (sRet (mBin fMod (mCall fInt (aCons (mBin fDivX (mBin fIx (mVar 0) (mC (.int 1))) (mC (.int 769))) aNil)) (mVar 1)))
  sNx)))))
def F_law_take : FM := trimF (fnM 4 b_law_take)
abbrev s_law_pick : Stmt := topS 27
theorem sc_law_pick : FnScope ["urn", "some"] ["urn", "some"] (defScope s_law_pick) := ⟨rfl, rfl, rfl, by decide +kernel, rfl, by decide +kernel, by decide +kernel⟩
def b_law_pick : SM := (sSeq
  (sRet (mBin fIx (mVar 1) (mCall F_law_take (aCons (mVar 0) (aCons (mCall fLen (aCons (mVar 1) aNil)) aNil)))))
  sNx)
def F_law_pick : FM := trimF (fnM 2 b_law_pick)
abbrev s_law_with_value : Stmt := topS 28
theorem sc_law_with_value : FnScope ["spot", "thing", "by_name"] ["spot", "thing", "by_name"] (defScope s_law_with_value) := ⟨rfl, rfl, rfl, by decide +kernel, rfl, by decide +kernel, by decide +kernel⟩
def b_law_with_value : SM := (sSeq
  (sIf (mTest (mBin fEq (mVar 0) (mC (.int 0)))) (sSeq
  (sRet (mIf (mTest (mVar 2)) (mMkX "InvalidForm" "given" (mVar 1)) (mMkX "InvalidForm" "given" (mVar 1))))
  sNx) sNx)
  (sSeq
  (sIf (mTest (mBin fEq (mVar 0) (mC (.int 1)))) (sSeq
  (sRet (mIf (mTest (mVar 2)) (mMkX "InvalidTable" "given" (mVar 1)) (mMkX "InvalidTable" "given" (mVar 1))))
  sNx) sNx)
  (sSeq
  (sIf (mTest (mBin fEq (mVar 0) (mC (.int 2)))) (sSeq
  (sRet (mIf (mTest (mVar 2)) (mMkX "InvalidSolver" "given" (mVar 1)) (mMkX "InvalidSolver" "given" (mVar 1))))
  sNx) sNx)
  (sSeq
  (sIf (mTest (mBin fEq (mVar 0) (mC (.int 3)))) (sSeq
  (sRet (mIf (mTest (mVar 2)) (mMkX "InvalidAid" "given" (mVar 1)) (mMkX "InvalidAid" "given" (mVar 1))))
  sNx) sNx)
  (sSeq
  (sIf (mTest (mBin fEq (mVar 0) (mC (.int 4)))) (sSeq
  (sRet (mIf (mTest (mVar 2)) (mMkX "InvalidShare" "given" (mVar 1)) (mMkX "InvalidShare" "given" (mVar 1))))
  sNx) sNx)
  (sSeq
  (sIf (mTest (mBin fEq (mVar 0) (mC (.int 5)))) (sSeq
  (sRet (mIf (mTest (mVar 2)) (mMkX "InvalidNumber" "given" (mVar 1)) (mMkX "InvalidNumber" "given" (mVar 1))))
  sNx) sNx)
  (sSeq
  (sIf (mTest (mBin fEq (mVar 0) (mC (.int 6)))) (sSeq
  (sRet (mIf (mTest (mVar 2)) (mMkX "InvalidAmount" "given" (mVar 1)) (mMkX "InvalidAmount" "given" (mVar 1))))
  sNx) sNx)
  (sSeq
  (sIf (mTest (mBin fEq (mVar 0) (mC (.int 7)))) (sSeq
  (sRet (mIf (mTest (mVar 2)) (mMkX "InvalidLot" "given" (mVar 1)) (mMkX "InvalidLot" "given" (mVar 1))))
  sNx) sNx)
  (sSeq
  (sIf (mTest (mBin fEq (mVar 0) (mC (.int 8)))) (sSeq
  (sRet (mIf (mTest (mVar 2)) (mMkX "InvalidSmoother" "given" (mVar 1)) (mMkX "InvalidSmoother" "given" (mVar 1))))
  sNx) sNx)
  (sSeq
  (sIf (mTest (mBin fEq (mVar 0) (mC (.int 9)))) (sSeq
  (sRet (mIf (mTest (mVar 2)) (mMkX "InvalidWeight" "given" (mVar 1)) (mMkX "InvalidWeight" "given" (mVar 1))))
  sNx) sNx)
  (sSeq
  (sRet (mIf (mTest (mVar 2)) (mMkX "TooMany" "given" (mVar 1)) (mMkX "TooMany" "given" (mVar 1))))
  sNx)))))))))))
def F_law_with_value : FM := trimF (fnM 3 b_law_with_value)
abbrev s_law_with_place : Stmt := topS 29
theorem sc_law_with_place : FnScope ["spot", "thing", "by_name"] ["spot", "thing", "by_name"] (defScope s_law_with_place) := ⟨rfl, rfl, rfl, by decide +kernel, rfl, by decide +kernel, by decide +kernel⟩
def b_law_with_place : SM := (sSeq
  (sIf (mTest (mBin fEq (mVar 0) (mC (.int 11)))) (sSeq
  (sRet (mIf (mTest (mVar 2)) (mMkX "InvalidRow" "index" (mVar 1)) (mMkX "InvalidRow" "index" (mVar 1))))
  sNx) sNx)
  (sSeq
  (sIf (mTest (mBin fEq (mVar 0) (mC (.int 12)))) (sSeq
  (sRet (mIf (mTest (mVar 2)) (mMkX "InvalidRows" "index" (mVar 1)) (mMkX "InvalidRows" "index" (mVar 1))))
  sNx) sNx)
  (sSeq
  (sIf (mTest (mBin fEq (mVar 0) (mC (.int 13)))) (sSeq
  (sRet (mIf (mTest (mVar 2)) (mMkX "InvalidMethod" "index" (mVar 1)) (mMkX "InvalidMethod" "index" (mVar 1))))
  sNx) sNx)
  (sSeq
  (sIf (mTest (mBin fEq (mVar 0) (mC (.int 14)))) (sSeq
  (sRet (mIf (mTest (mVar 2)) (mMkX "InvalidSplit" "index" (mVar 1)) (mMkX "InvalidSplit" "index" (mVar 1))))
  sNx) sNx)
  (sSeq
  (sIf (mTest (mBin fEq (mVar 0) (mC (.int 15)))) (sSeq
  (sRet (mIf (mTest (mVar 2)) (mMkX "InvalidLots" "index" (mVar 1)) (mMkX "InvalidLots" "index" (mVar 1))))
  sNx) sNx)
  (sSeq
  (sIf (mTest (mBin fEq (mVar 0) (mC (.int 16)))) (sSeq
  (sRet (mIf (mTest (mVar 2)) (mMkX "InvalidTeam" "index" (mVar 1)) (mMkX "InvalidTeam" "index" (mVar 1))))
  sNx) sNx)
  (sSeq
  (sIf (mTest (mBin fEq (mVar 0) (mC (.int 17)))) (sSeq
  (sRet (mIf (mTest (mVar 2)) (mMkX "InvalidSpans" "index" (mVar 1)) (mMkX "InvalidSpans" "index" (mVar 1))))
  sNx) sNx)
  (sSeq
  (sIf (mTest (mBin fEq (mVar 0) (mC (.int 18)))) (sSeq
  (sRet (mIf (mTest (mVar 2)) (mMkX "InvalidParts" "index" (mVar 1)) (mMkX "InvalidParts" "index" (mVar 1))))
  sNx) sNx)
  (sSeq
  (sRet (mIf (mTest (mVar 2)) (mMkX "InvalidLadder" "index" (mVar 1)) (mMkX "InvalidLadder" "index" (mVar 1))))
  sNx)))))))))
def F_law_with_place : FM := trimF (fnM 3 b_law_with_place)
abbrev s_law_under : Stmt := topS 30
theorem sc_law_under : FnScope ["thing", "found"] ["thing"] (defScope s_law_under) := ⟨rfl, rfl, rfl, by decide +kernel, rfl, by decide +kernel, by decide +kernel⟩
def b_law_under : SM := (sSeq
  (sSet 1 (mFl (aCons (mIsX (ansO fams "InvalidForm") (mVar 0)) (aCons (mIsX (ansO fams "InvalidTable") (mVar 0)) (aCons (mIsX (ansO fams "InvalidSolver") (mVar 0)) aNil)))))
  (sSeq
  (sSet 1 (mBin fPlus (mVar 1) (mFl (aCons (mIsX (ansO fams "InvalidAid") (mVar 0)) (aCons (mIsX (ansO fams "InvalidShare") (mVar 0)) (aCons (mIsX (ansO fams "InvalidNumber") (mVar 0)) aNil))))))
  (sSeq
  (sSet 1 (mBin fPlus (mVar 1) (mFl (aCons (mIsX (ansO fams "InvalidAmount") (mVar 0)) (aCons (mIsX (ansO fams "InvalidLot") (mVar 0)) aNil)))))
  (sSeq
  (sSet 1 (mBin fPlus (mVar 1) (mFl (aCons (mIsX (ansO fams "InvalidSmoother") (mVar 0)) (aCons (mIsX (ansO fams "InvalidWeight") (mVar 0)) (aCons (mIsX (ansO fams "TooMany") (mVar 0)) aNil))))))
  (sSeq
  (sSet 1 (mBin fPlus (mVar 1) (mFl (aCons (mIsX (ansO fams "InvalidRow") (mVar 0)) aNil))))
  (sSeq
  (sSet 1 (mBin fPlus (mVar 1) (mFl (aCons (mIsX (ansO fams "InvalidRows") (mVar 0)) (aCons (mIsX (ansO fams "InvalidMethod") (mVar 0)) (aCons (mIsX (ansO fams "InvalidSplit") (mVar 0)) aNil))))))
  (sSeq
  (sSet 1 (mBin fPlus (mVar 1) (mFl (aCons (mIsX (ansO fams "InvalidLots") (mVar 0)) (aCons (mIsX (ansO fams "InvalidTeam") (mVar 0)) (aCons (mIsX (ansO fams "InvalidSpans") (mVar 0)) aNil))))))
  (sSeq
  (sSet 1 (mBin fPlus (mVar 1) (mFl (aCons (mIsX (ansO fams "InvalidParts") (mVar 0)) (aCons (mIsX (ansO fams "InvalidLadder") (mVar 0)) (aCons (mIsX (ansO fams "NotWhole") (mVar 0)) aNil))))))
  (sSeq
  (sRet (mBin fPlus (mVar 1) (mFl (aCons (mIsX (ansO fams "NotSafe") (mVar 0)) (aCons (mIsX (ansO fams "CostError") (mVar 0)) aNil)))))
  sNx)))))))))
def F_law_under : FM := trimF (fnM 2 b_law_under)
abbrev s_law_is_plain : Stmt := topS 31
theorem sc_law_is_plain : FnScope ["thing"] ["thing"] (defScope s_law_is_plain) := ⟨rfl, rfl, rfl, by decide +kernel, rfl, by decide +kernel, by decide +kernel⟩
def b_law_is_plain : SM := (sSeq
  (sIf (mtOr (mtNot (mTest (mIsX (ansB fams true) (mVar 0)))) (mtNot (mTest (mIsX (ansB fams true) (mVar 0))))) (sSeq
  (sRet (mC (.bl false)))
  sNx) sNx)
  (sSeq
  (sIf (mtOr (mTest (mIsX (ansB fams false) (mVar 0))) (mtOr (mTest (mIsX (ansB fams false) (mVar 0))) (mTest (mIsX (ansB fams false) (mVar 0))))) (sSeq
  (sRet (mC (.bl false)))
  sNx) sNx)
  (sSeq
  (sRet (mAnd (mNot (mIsX (ansB fams false) (mVar 0))) (mNot (mIsX (ansB fams false) (mVar 0)))))
  sNx)))
def F_law_is_plain : FM := trimF (fnM 1 b_law_is_plain)
abbrev s_law_is_kind : Stmt := topS 32
theorem sc_law_is_kind : FnScope ["made", "spot", "due", "at"] ["made", "spot"] (defScope s_law_is_kind) := ⟨rfl, rfl, rfl, by decide +kernel, rfl, by decide +kernel, by decide +kernel⟩
def b_law_is_kind : SM := (sSeq
  (sSet 2 (mLc (iRange1 (aCons (mC (.int 23)) aNil)) (.nm 3) tYesM (mOr (mBin fEq (mVar 3) (mVar 1)) (mBin fEq (mVar 3) (mC (.int 22)))) [3]))
  (sSeq
  (sRet (mAnd (mBin fEq (mCall F_law_under (aCons (mVar 0) aNil)) (mVar 2)) (mCall F_law_is_plain (aCons (mVar 0) aNil))))
  sNx))
def F_law_is_kind : FM := trimF (fnM 4 b_law_is_kind)
abbrev s_law_is_kept : Stmt := topS 33
theorem sc_law_is_kept : FnScope ["spot", "thing", "by_name", "made", "more"] ["spot", "thing", "by_name"] (defScope s_law_is_kept) := ⟨rfl, rfl, rfl, by decide +kernel, rfl, by decide +kernel, by decide +kernel⟩
def b_law_is_kept : SM := (sSeq
  (sIf (mTest (mBin fLt (mVar 0) (mC (.int 11)))) (sSeq
  (sSet 3 (mCall F_law_with_value (aCons (mVar 0) (aCons (mVar 1) (aCons (mVar 2) aNil)))))
  (sSeq
  (sRet (mAnd (mCall F_law_is_kind (aCons (mVar 3) (aCons (mVar 0) aNil))) (mBin fEq (mCall fReprD (aCons (mFldF fams "given" (mVar 3)) aNil)) (mCall fReprD (aCons (mVar 1) aNil)))))
  sNx)) sNx)
  (sSeq
  (sSet 4 (mCall F_law_with_place (aCons (mVar 0) (aCons (mVar 1) (aCons (mVar 2) aNil)))))
  (sSeq
  (sRet (mAnd (mCall F_law_is_kind (aCons (mVar 4) (aCons (mVar 0) aNil))) (mBin fEq (mCall fReprD (aCons (mFldF fams "index" (mVar 4)) aNil)) (mCall fReprD (aCons (mVar 1) aNil)))))
  sNx)))
def F_law_is_kept : FM := trimF (fnM 5 b_law_is_kept)
abbrev s_law_right : Stmt := topS 34
theorem sc_law_right : FnScope ["urn", "great", "spot", "thing"] ["urn"] (defScope s_law_right) := ⟨rfl, rfl, rfl, by decide +kernel, rfl, by decide +kernel, by decide +kernel⟩
def b_law_right : SM := (sSeq
  (sSet 1 (mBin fPlus (mBin fPow (mC (.int 10)) (mC (.int 20))) (mCall F_law_take (aCons (mVar 0) (aCons (mC (.int 1000)) aNil)))))
  (sSeq
  (sFor (iRange1 (aCons (mC (.int 20)) aNil)) (.nm 2) (sSeq
  (sSet 3 (mCall F_law_pick (aCons (mVar 0) (aCons (mFl (aCons (mC .non) (aCons (mC (.bl true)) (aCons (mC (.bl false)) (aCons (mC (.int 0)) (aCons (mC (.int 1)) (aCons (mNeg (mC (.int 4))) (aCons (mVar 1) (aCons (mC (.str "")) (aCons (mC (.str "one")) (aCons (mC (.str "given")) (aCons (mTup aNil) (aCons (mTup (aCons (mC (.int 1)) (aCons (mC (.int 2)) aNil))) (aCons (mTup (aCons (mTup (aCons (mC (.int 1)) (aCons (mC (.int 1)) aNil))) (aCons (mTup (aCons (mC (.int 0)) (aCons (mC (.int 1)) aNil))) aNil))) (aCons (mFl aNil) (aCons (mFl (aCons (mC (.int 1)) (aCons (mTup (aCons (mC (.int 2)) (aCons (mC (.int 3)) aNil))) aNil))) (aCons (mC (.dct [] [])) (aCons (mC (.dct ["a"] [.int 1])) (aCons (mTup (aCons (mC .non) (aCons (mFl aNil) aNil))) aNil))))))))))))))))))) aNil))))
  (sSeq
  (sIf (mtOr (mtNot (mTest (mCall F_law_is_kept (aCons (mVar 2) (aCons (mVar 3) (aCons (mC (.bl true)) aNil)))))) (mtNot (mTest (mCall F_law_is_kept (aCons (mVar 2) (aCons (mVar 3) (aCons (mC (.bl false)) aNil))))))) (sSeq
  (sRet (mC (.bl false)))
  sNx) sNx)
  sNx)))
  (sSeq
  (sRet (mAnd (mCall F_law_is_kind (aCons (mMk0 "NotWhole") (aCons (mC (.int 20)) aNil))) (mAnd (mCall F_law_is_kind (aCons (mMk0 "NotSafe") (aCons (mC (.int 21)) aNil))) (mCall F_law_is_kind (aCons (mMk0 "CostError") (aCons (mC (.int 22)) aNil))))))
  sNx)))
def F_law_right : FM := trimF (fnM 4 b_law_right)
abbrev s_law : Stmt := topS 35
theorem sc_law : FnScope ["script", "turn"] ["script"] (defScope s_law) := ⟨rfl, rfl, rfl, by decide +kernel, rfl, by decide +kernel, by decide +kernel⟩
def b_law : SM := (sSeq
  (sRet (mCall fAll (aCons (mLc (iRange1 (aCons (mCall (fInt2 iMax) (aCons (mC (.int 1)) (aCons (mCall (fInt2 iMin) (aCons (mCall fLen (aCons (mVar 0) aNil)) (aCons (mC (.int 2)) aNil))) aNil))) aNil)) (.nm 1) tYesM (mCall F_law_right (aCons (mCall F_law_urn (aCons (mVar 0) (aCons (mVar 1) aNil))) aNil)) [1]) aNil)))
  sNx)
def F_law : FM := trimF (fnM 2 b_law)
structure Tx (P : Program) (w : World) (K : PySem.W.Frag) (mg : Str → Option Value) (base : Heap) where
  f_law_urn : Addr
  d_law_urn : FuncData
  u_law_urn : Fun K "_law_urn" "_law_urn" s_law_urn f_law_urn d_law_urn
  g_law_urn : mg "_law_urn" = some (.ref f_law_urn)
  f_law_take : Addr
  d_law_take : FuncData
  u_law_take : Fun K "_law_take" "_law_take" s_law_take f_law_take d_law_take
  g_law_take : mg "_law_take" = some (.ref f_law_take)
  f_law_pick : Addr
  d_law_pick : FuncData
  u_law_pick : Fun K "_law_pick" "_law_pick" s_law_pick f_law_pick d_law_pick
  g_law_pick : mg "_law_pick" = some (.ref f_law_pick)
  f_law_with_value : Addr
  d_law_with_value : FuncData
  u_law_with_value : Fun K "_law_with_value" "_law_with_value" s_law_with_value f_law_with_value d_law_with_value
  g_law_with_value : mg "_law_with_value" = some (.ref f_law_with_value)
  f_law_with_place : Addr
  d_law_with_place : FuncData
  u_law_with_place : Fun K "_law_with_place" "_law_with_place" s_law_with_place f_law_with_place d_law_with_place
  g_law_with_place : mg "_law_with_place" = some (.ref f_law_with_place)
  f_law_under : Addr
  d_law_under : FuncData
  u_law_under : Fun K "_law_under" "_law_under" s_law_under f_law_under d_law_under
  g_law_under : mg "_law_under" = some (.ref f_law_under)
  f_law_is_plain : Addr
  d_law_is_plain : FuncData
  u_law_is_plain : Fun K "_law_is_plain" "_law_is_plain" s_law_is_plain f_law_is_plain d_law_is_plain
  g_law_is_plain : mg "_law_is_plain" = some (.ref f_law_is_plain)
  f_law_is_kind : Addr
  d_law_is_kind : FuncData
  u_law_is_kind : Fun K "_law_is_kind" "_law_is_kind" s_law_is_kind f_law_is_kind d_law_is_kind
  g_law_is_kind : mg "_law_is_kind" = some (.ref f_law_is_kind)
  f_law_is_kept : Addr
  d_law_is_kept : FuncData
  u_law_is_kept : Fun K "_law_is_kept" "_law_is_kept" s_law_is_kept f_law_is_kept d_law_is_kept
  g_law_is_kept : mg "_law_is_kept" = some (.ref f_law_is_kept)
  f_law_right : Addr
  d_law_right : FuncData
  u_law_right : Fun K "_law_right" "_law_right" s_law_right f_law_right d_law_right
  g_law_right : mg "_law_right" = some (.ref f_law_right)
  f_law : Addr
  d_law : FuncData
  u_law : Fun K "law" "law" s_law f_law d_law
  g_law : mg "law" = some (.ref f_law)
  n_ArithmeticError : mg "ArithmeticError" = none
  n_Exception : mg "Exception" = none
  n_LookupError : mg "LookupError" = none
  n_RuntimeError : mg "RuntimeError" = none
  n_StopIteration : mg "StopIteration" = none
  n_TypeError : mg "TypeError" = none
  n_ValueError : mg "ValueError" = none
  n_abs : mg "abs" = none
  n_all : mg "all" = none
  n_divmod : mg "divmod" = none
  n_int : mg "int" = none
  n_isinstance : mg "isinstance" = none
  n_len : mg "len" = none
  n_max : mg "max" = none
  n_min : mg "min" = none
  n_range : mg "range" = none
  n_repr : mg "repr" = none
  fam : Fam K fams upsN dnsN ["given", "index"]
  a_CostError : Addr
  q_CostError : PySem.W.excIn K a_CostError bmVE "ValueError.__new__" = true
  ns_CostError : PySem.W.nsIn K mainGlobals "CostError" = some (some (.ref a_CostError))
  g_CostError : mg "CostError" = some (.ref a_CostError)
  kc_CostError : PySem.W.keepIn K (.ref a_CostError) = true
  c_CostError : clsAt K "CostError" = some a_CostError
  a_InvalidForm : Addr
  i_InvalidForm : Addr
  j_InvalidForm : FuncData
  x_InvalidForm : XCls P w K mg base "InvalidForm" "given" a_InvalidForm i_InvalidForm j_InvalidForm
  a_InvalidTable : Addr
  i_InvalidTable : Addr
  j_InvalidTable : FuncData
  x_InvalidTable : XCls P w K mg base "InvalidTable" "given" a_InvalidTable i_InvalidTable j_InvalidTable
  a_InvalidSolver : Addr
  i_InvalidSolver : Addr
  j_InvalidSolver : FuncData
  x_InvalidSolver : XCls P w K mg base "InvalidSolver" "given" a_InvalidSolver i_InvalidSolver j_InvalidSolver
  a_InvalidAid : Addr
  i_InvalidAid : Addr
  j_InvalidAid : FuncData
  x_InvalidAid : XCls P w K mg base "InvalidAid" "given" a_InvalidAid i_InvalidAid j_InvalidAid
  a_InvalidShare : Addr
  i_InvalidShare : Addr
  j_InvalidShare : FuncData
  x_InvalidShare : XCls P w K mg base "InvalidShare" "given" a_InvalidShare i_InvalidShare j_InvalidShare
  a_InvalidNumber : Addr
  i_InvalidNumber : Addr
  j_InvalidNumber : FuncData
  x_InvalidNumber : XCls P w K mg base "InvalidNumber" "given" a_InvalidNumber i_InvalidNumber j_InvalidNumber
  a_InvalidAmount : Addr
  i_InvalidAmount : Addr
  j_InvalidAmount : FuncData
  x_InvalidAmount : XCls P w K mg base "InvalidAmount" "given" a_InvalidAmount i_InvalidAmount j_InvalidAmount
  a_InvalidLot : Addr
  i_InvalidLot : Addr
  j_InvalidLot : FuncData
  x_InvalidLot : XCls P w K mg base "InvalidLot" "given" a_InvalidLot i_InvalidLot j_InvalidLot
  a_InvalidSmoother : Addr
  i_InvalidSmoother : Addr
  j_InvalidSmoother : FuncData
  x_InvalidSmoother : XCls P w K mg base "InvalidSmoother" "given" a_InvalidSmoother i_InvalidSmoother j_InvalidSmoother
  a_InvalidWeight : Addr
  i_InvalidWeight : Addr
  j_InvalidWeight : FuncData
  x_InvalidWeight : XCls P w K mg base "InvalidWeight" "given" a_InvalidWeight i_InvalidWeight j_InvalidWeight
  a_TooMany : Addr
  i_TooMany : Addr
  j_TooMany : FuncData
  x_TooMany : XCls P w K mg base "TooMany" "given" a_TooMany i_TooMany j_TooMany
  a_InvalidRow : Addr
  i_InvalidRow : Addr
  j_InvalidRow : FuncData
  x_InvalidRow : XCls P w K mg base "InvalidRow" "index" a_InvalidRow i_InvalidRow j_InvalidRow
  a_InvalidRows : Addr
  i_InvalidRows : Addr
  j_InvalidRows : FuncData
  x_InvalidRows : XCls P w K mg base "InvalidRows" "index" a_InvalidRows i_InvalidRows j_InvalidRows
  a_InvalidMethod : Addr
  i_InvalidMethod : Addr
  j_InvalidMethod : FuncData
  x_InvalidMethod : XCls P w K mg base "InvalidMethod" "index" a_InvalidMethod i_InvalidMethod j_InvalidMethod
  a_InvalidSplit : Addr
  i_InvalidSplit : Addr
  j_InvalidSplit : FuncData
  x_InvalidSplit : XCls P w K mg base "InvalidSplit" "index" a_InvalidSplit i_InvalidSplit j_InvalidSplit
  a_InvalidLots : Addr
  i_InvalidLots : Addr
  j_InvalidLots : FuncData
  x_InvalidLots : XCls P w K mg base "InvalidLots" "index" a_InvalidLots i_InvalidLots j_InvalidLots
  a_InvalidTeam : Addr
  i_InvalidTeam : Addr
  j_InvalidTeam : FuncData
  x_InvalidTeam : XCls P w K mg base "InvalidTeam" "index" a_InvalidTeam i_InvalidTeam j_InvalidTeam
  a_InvalidSpans : Addr
  i_InvalidSpans : Addr
  j_InvalidSpans : FuncData
  x_InvalidSpans : XCls P w K mg base "InvalidSpans" "index" a_InvalidSpans i_InvalidSpans j_InvalidSpans
  a_InvalidParts : Addr
  i_InvalidParts : Addr
  j_InvalidParts : FuncData
  x_InvalidParts : XCls P w K mg base "InvalidParts" "index" a_InvalidParts i_InvalidParts j_InvalidParts
  a_InvalidLadder : Addr
  i_InvalidLadder : Addr
  j_InvalidLadder : FuncData
  x_InvalidLadder : XCls P w K mg base "InvalidLadder" "index" a_InvalidLadder i_InvalidLadder j_InvalidLadder
  a_NotWhole : Addr
  q_NotWhole : PySem.W.excIn K a_NotWhole bmVE "ValueError.__new__" = true
  ns_NotWhole : PySem.W.nsIn K mainGlobals "NotWhole" = some (some (.ref a_NotWhole))
  g_NotWhole : mg "NotWhole" = some (.ref a_NotWhole)
  kc_NotWhole : PySem.W.keepIn K (.ref a_NotWhole) = true
  c_NotWhole : clsAt K "NotWhole" = some a_NotWhole
  a_NotSafe : Addr
  q_NotSafe : PySem.W.excIn K a_NotSafe bmVE "ValueError.__new__" = true
  ns_NotSafe : PySem.W.nsIn K mainGlobals "NotSafe" = some (some (.ref a_NotSafe))
  g_NotSafe : mg "NotSafe" = some (.ref a_NotSafe)
  kc_NotSafe : PySem.W.keepIn K (.ref a_NotSafe) = true
  c_NotSafe : clsAt K "NotSafe" = some a_NotSafe
section
variable {P : Program} {w : World} {K : PySem.W.Frag} {mg : Str → Option Value} {base : Heap}
theorem b_law_urn_binds (T : Tx P w K mg base) : Binds K T.d_law_urn ["script", "turn"] [] := T.u_law_urn.binds (ps := ["script", "turn"]) fun _ _ _ _ _ _ us hl => match us, hl with | [_, _], _ => rfl
theorem okr_law_urn (T : Tx P w K mg base) : FnG P w K mg base 1 T.f_law_urn T.d_law_urn ["script", "turn"] (spM K 2 (fnM 5 b_law_urn)) := by
  have h0 := @fnG P w K mg base "_law_urn" "_law_urn" s_law_urn T.f_law_urn T.d_law_urn ["script", "turn", "mixed", "cell", "own"] ["script", "turn"] 0 b_law_urn T.u_law_urn sc_law_urn
  refine h0 fun cdv A outer s H E hr hgd => ?_
  have hu := hr.units
  have hu2 := hu66 hr
  have nd := sc_law_urn.nd
  unfold b_law_urn
  exact (ms_cons
  (mset 2 nd (me_add me_int (me_mul me_int (mv 1))))
  (ms_cons
  (ms_for (tg := (.nm 3)) PassesOwn.never rfl (mi_seq (me_cut (mv 0) mo_none (mo_some me_int))) (mgn 3 nd) (ms_cons
  (mset 2 nd (me_mod (me_callTy call_int1 opN_int rfl T.n_int (by decide +kernel) (ma_cons (me_add (me_add (me_mul (mv 2) me_int) (me_mod (me_callTy call_int1 opN_int rfl T.n_int (by decide +kernel) (ma_cons (mv 3) ma_nil)) me_int)) me_int) ma_nil)) me_int))
  ms_nil))
  (ms_cons
  (mset 4 nd (me_if (mt_lt (mv 1) (me_callB call_len_seq opN_len rfl T.n_len PySem.boot_len (ma_cons (mv 0) ma_nil))) (me_callTy call_int1 opN_int rfl T.n_int (by decide +kernel) (ma_cons (me_at (mv 0) (mv 1) (fun _ _ => rfl)) ma_nil)) me_int))
  (ms_cons
  (mset 2 nd (me_mod (me_callTy call_int1 opN_int rfl T.n_int (by decide +kernel) (ma_cons (me_add (me_add (me_mul (mv 2) me_int) (me_mul (me_mod (me_callTy call_int1 opN_int rfl T.n_int (by decide +kernel) (ma_cons (mv 4) ma_nil)) me_int) me_int)) me_int) ma_nil)) me_int))
  (ms_cons
  (ms_ret (me_cell (ma_cons (me_if (mt_w (mw_or (mt_lt (mv 4) me_int) (mw_or1 (mt_ge (mv 4) (me_pow me_int me_int))))) (me_callB call_abs opN_abs rfl T.n_abs (by decide +kernel) (ma_cons (mv 4) ma_nil)) me_int) (ma_cons (mv 2) (ma_cons me_int (ma_cons me_int ma_nil))))))
  ms_nil)))))
theorem ok_law_urn (T : Tx P w K mg base) : FnG P w K mg base 1 T.f_law_urn T.d_law_urn ["script", "turn"] (spM K 2 F_law_urn) := okr_law_urn T

theorem b_law_take_binds (T : Tx P w K mg base) : Binds K T.d_law_take ["urn", "limit"] [] := T.u_law_take.binds (ps := ["urn", "limit"]) fun _ _ _ _ _ _ us hl => match us, hl with | [_, _], _ => rfl
theorem okr_law_take (T : Tx P w K mg base) : FnG P w K mg base 1 T.f_law_take T.d_law_take ["urn", "limit"] (spM K 2 (fnM 4 b_law_take)) := by
  have h0 := @fnG P w K mg base "_law_take" "_law_take" s_law_take T.f_law_take T.d_law_take ["urn", "limit", "digit", "seed"] ["urn", "limit"] 0 b_law_take T.u_law_take sc_law_take
  refine h0 fun cdv A outer s H E hr hgd => ?_
  have hu := hr.units
  have hu2 := hu66 hr
  have nd := sc_law_take.nd
  unfold b_law_take
  exact (ms_cons
  (ms_if (mt_gt (me_at (mv 0) me_int (fun _ _ => rfl)) me_int) (ms_cons
  (ms_put2 (j := 2) (me_callB call_divmodW opN_divmod rfl T.n_divmod (by decide +kernel) (ma_cons (me_at (mv 0) me_int (fun _ _ => rfl)) (ma_cons (mv 1) ma_nil))) (mv 0) me_int rfl nd rfl (.inl rfl))
  (ms_cons
  (ms_ret (mv 2))
  ms_nil)) ms_nil)
  (ms_cons
  (ms_put (me_add (me_at (mv 0) me_int (fun _ _ => rfl)) me_int) (mv 0) me_int)
  (ms_cons
  (mset 3 nd (me_mod (me_callTy call_int1 opN_int rfl T.n_int (by decide +kernel) (ma_cons (me_add (me_at (mv 0) me_int (fun _ _ => rfl)) (me_mul me_int (me_at (mv 0) me_int (fun _ _ => rfl)))) ma_nil)) me_int))
  (ms_cons
  (ms_put (me_mod (me_callTy call_int1 opN_int rfl T.n_int (by decide +kernel) (ma_cons (me_add (me_mul (mv 3) (me_add (me_mod (me_callTy call_int1 opN_int rfl T.n_int (by decide +kernel) (ma_cons (mv 3) ma_nil)) me_int) me_int)) (me_mul me_int (me_at (mv 0) me_int (fun _ _ => rfl)))) ma_nil)) me_int) (mv 0) me_int)
  (ms_cons
  (ms_ret (me_mod (me_callTy call_int1 opN_int rfl T.n_int (by decide +kernel) (ma_cons (me_divX (me_at (mv 0) me_int (fun _ _ => rfl)) me_int) ma_nil)) (mv 1)))
  ms_nil)))))
theorem ok_law_take (T : Tx P w K mg base) : FnG P w K mg base 1 T.f_law_take T.d_law_take ["urn", "limit"] (spM K 2 F_law_take) := (okr_law_take T).trim

theorem b_law_pick_binds (T : Tx P w K mg base) : Binds K T.d_law_pick ["urn", "some"] [] := T.u_law_pick.binds (ps := ["urn", "some"]) fun _ _ _ _ _ _ us hl => match us, hl with | [_, _], _ => rfl
theorem okr_law_pick (T : Tx P w K mg base) : FnG P w K mg base 2 T.f_law_pick T.d_law_pick ["urn", "some"] (spM K 2 (fnM 2 b_law_pick)) := by
  have h0 := @fnG P w K mg base "_law_pick" "_law_pick" s_law_pick T.f_law_pick T.d_law_pick ["urn", "some"] ["urn", "some"] 1 b_law_pick T.u_law_pick sc_law_pick
  refine h0 fun cdv A outer s H E hr hgd => ?_
  have hu := hr.units
  have hu2 := hu66 hr
  have nd := sc_law_pick.nd
  unfold b_law_pick
  exact (ms_cons
  (ms_ret (me_at (mv 1) (me_call (ok_law_take T) (hr.mono (by decide)) hgd rfl T.g_law_take T.u_law_take.kp (b_law_take_binds T) rfl (ma_cons (mv 0) (ma_cons (me_callB call_len_seq opN_len rfl T.n_len PySem.boot_len (ma_cons (mv 1) ma_nil)) ma_nil)) (al_cons' (al_cons' al_nil'))) (fun _ _ => rfl)))
  ms_nil)
theorem ok_law_pick (T : Tx P w K mg base) : FnG P w K mg base 2 T.f_law_pick T.d_law_pick ["urn", "some"] (spM K 2 F_law_pick) := (okr_law_pick T).trim

theorem b_law_with_value_binds (T : Tx P w K mg base) : Binds K T.d_law_with_value ["spot", "thing", "by_name"] [] := T.u_law_with_value.binds (ps := ["spot", "thing", "by_name"]) fun _ _ _ _ _ _ us hl => match us, hl with | [_, _, _], _ => rfl
theorem okr_law_with_value (T : Tx P w K mg base) : FnG P w K mg base 3 T.f_law_with_value T.d_law_with_value ["spot", "thing", "by_name"] (spM K 3 (fnM 3 b_law_with_value)) := by
  have h0 := @fnG P w K mg base "_law_with_value" "_law_with_value" s_law_with_value T.f_law_with_value T.d_law_with_value ["spot", "thing", "by_name"] ["spot", "thing", "by_name"] 2 b_law_with_value T.u_law_with_value sc_law_with_value
  refine h0 fun cdv A outer s H E hr hgd => ?_
  have hu := hr.units
  have hu2 := hu66 hr
  have nd := sc_law_with_value.nd
  unfold b_law_with_value
  exact (ms_cons
  (ms_if (mt_eq hu (mv 0) me_int) (ms_cons
  (ms_ret (me_if (mt_val (mv 2)) (me_mkXk T.x_InvalidForm (hr.mono (by decide)) (mv 1)) (me_mkX T.x_InvalidForm (hr.mono (by decide)) (mv 1))))
  ms_nil) ms_nil)
  (ms_cons
  (ms_if (mt_eq hu (mv 0) me_int) (ms_cons
  (ms_ret (me_if (mt_val (mv 2)) (me_mkXk T.x_InvalidTable (hr.mono (by decide)) (mv 1)) (me_mkX T.x_InvalidTable (hr.mono (by decide)) (mv 1))))
  ms_nil) ms_nil)
  (ms_cons
  (ms_if (mt_eq hu (mv 0) me_int) (ms_cons
  (ms_ret (me_if (mt_val (mv 2)) (me_mkXk T.x_InvalidSolver (hr.mono (by decide)) (mv 1)) (me_mkX T.x_InvalidSolver (hr.mono (by decide)) (mv 1))))
  ms_nil) ms_nil)
  (ms_cons
  (ms_if (mt_eq hu (mv 0) me_int) (ms_cons
  (ms_ret (me_if (mt_val (mv 2)) (me_mkXk T.x_InvalidAid (hr.mono (by decide)) (mv 1)) (me_mkX T.x_InvalidAid (hr.mono (by decide)) (mv 1))))
  ms_nil) ms_nil)
  (ms_cons
  (ms_if (mt_eq hu (mv 0) me_int) (ms_cons
  (ms_ret (me_if (mt_val (mv 2)) (me_mkXk T.x_InvalidShare (hr.mono (by decide)) (mv 1)) (me_mkX T.x_InvalidShare (hr.mono (by decide)) (mv 1))))
  ms_nil) ms_nil)
  (ms_cons
  (ms_if (mt_eq hu (mv 0) me_int) (ms_cons
  (ms_ret (me_if (mt_val (mv 2)) (me_mkXk T.x_InvalidNumber (hr.mono (by decide)) (mv 1)) (me_mkX T.x_InvalidNumber (hr.mono (by decide)) (mv 1))))
  ms_nil) ms_nil)
  (ms_cons
  (ms_if (mt_eq hu (mv 0) me_int) (ms_cons
  (ms_ret (me_if (mt_val (mv 2)) (me_mkXk T.x_InvalidAmount (hr.mono (by decide)) (mv 1)) (me_mkX T.x_InvalidAmount (hr.mono (by decide)) (mv 1))))
  ms_nil) ms_nil)
  (ms_cons
  (ms_if (mt_eq hu (mv 0) me_int) (ms_cons
  (ms_ret (me_if (mt_val (mv 2)) (me_mkXk T.x_InvalidLot (hr.mono (by decide)) (mv 1)) (me_mkX T.x_InvalidLot (hr.mono (by decide)) (mv 1))))
  ms_nil) ms_nil)
  (ms_cons
  (ms_if (mt_eq hu (mv 0) me_int) (ms_cons
  (ms_ret (me_if (mt_val (mv 2)) (me_mkXk T.x_InvalidSmoother (hr.mono (by decide)) (mv 1)) (me_mkX T.x_InvalidSmoother (hr.mono (by decide)) (mv 1))))
  ms_nil) ms_nil)
  (ms_cons
  (ms_if (mt_eq hu (mv 0) me_int) (ms_cons
  (ms_ret (me_if (mt_val (mv 2)) (me_mkXk T.x_InvalidWeight (hr.mono (by decide)) (mv 1)) (me_mkX T.x_InvalidWeight (hr.mono (by decide)) (mv 1))))
  ms_nil) ms_nil)
  (ms_cons
  (ms_ret (me_if (mt_val (mv 2)) (me_mkXk T.x_TooMany (hr.mono (by decide)) (mv 1)) (me_mkX T.x_TooMany (hr.mono (by decide)) (mv 1))))
  ms_nil)))))))))))
theorem ok_law_with_value (T : Tx P w K mg base) : FnG P w K mg base 3 T.f_law_with_value T.d_law_with_value ["spot", "thing", "by_name"] (spM K 3 F_law_with_value) := (okr_law_with_value T).trim

theorem b_law_with_place_binds (T : Tx P w K mg base) : Binds K T.d_law_with_place ["spot", "thing", "by_name"] [] := T.u_law_with_place.binds (ps := ["spot", "thing", "by_name"]) fun _ _ _ _ _ _ us hl => match us, hl with | [_, _, _], _ => rfl
theorem okr_law_with_place (T : Tx P w K mg base) : FnG P w K mg base 3 T.f_law_with_place T.d_law_with_place ["spot", "thing", "by_name"] (spM K 3 (fnM 3 b_law_with_place)) := by
  have h0 := @fnG P w K mg base "_law_with_place" "_law_with_place" s_law_with_place T.f_law_with_place T.d_law_with_place ["spot", "thing", "by_name"] ["spot", "thing", "by_name"] 2 b_law_with_place T.u_law_with_place sc_law_with_place
  refine h0 fun cdv A outer s H E hr hgd => ?_
  have hu := hr.units
  have hu2 := hu66 hr
  have nd := sc_law_with_place.nd
  unfold b_law_with_place
  exact (ms_cons
  (ms_if (mt_eq hu (mv 0) me_int) (ms_cons
  (ms_ret (me_if (mt_val (mv 2)) (me_mkXk T.x_InvalidRow (hr.mono (by decide)) (mv 1)) (me_mkX T.x_InvalidRow (hr.mono (by decide)) (mv 1))))
  ms_nil) ms_nil)
  (ms_cons
  (ms_if (mt_eq hu (mv 0) me_int) (ms_cons
  (ms_ret (me_if (mt_val (mv 2)) (me_mkXk T.x_InvalidRows (hr.mono (by decide)) (mv 1)) (me_mkX T.x_InvalidRows (hr.mono (by decide)) (mv 1))))
  ms_nil) ms_nil)
  (ms_cons
  (ms_if (mt_eq hu (mv 0) me_int) (ms_cons
  (ms_ret (me_if (mt_val (mv 2)) (me_mkXk T.x_InvalidMethod (hr.mono (by decide)) (mv 1)) (me_mkX T.x_InvalidMethod (hr.mono (by decide)) (mv 1))))
  ms_nil) ms_nil)
  (ms_cons
  (ms_if (mt_eq hu (mv 0) me_int) (ms_cons
  (ms_ret (me_if (mt_val (mv 2)) (me_mkXk T.x_InvalidSplit (hr.mono (by decide)) (mv 1)) (me_mkX T.x_InvalidSplit (hr.mono (by decide)) (mv 1))))
  ms_nil) ms_nil)
  (ms_cons
  (ms_if (mt_eq hu (mv 0) me_int) (ms_cons
  (ms_ret (me_if (mt_val (mv 2)) (me_mkXk T.x_InvalidLots (hr.mono (by decide)) (mv 1)) (me_mkX T.x_InvalidLots (hr.mono (by decide)) (mv 1))))
  ms_nil) ms_nil)
  (ms_cons
  (ms_if (mt_eq hu (mv 0) me_int) (ms_cons
  (ms_ret (me_if (mt_val (mv 2)) (me_mkXk T.x_InvalidTeam (hr.mono (by decide)) (mv 1)) (me_mkX T.x_InvalidTeam (hr.mono (by decide)) (mv 1))))
  ms_nil) ms_nil)
  (ms_cons
  (ms_if (mt_eq hu (mv 0) me_int) (ms_cons
  (ms_ret (me_if (mt_val (mv 2)) (me_mkXk T.x_InvalidSpans (hr.mono (by decide)) (mv 1)) (me_mkX T.x_InvalidSpans (hr.mono (by decide)) (mv 1))))
  ms_nil) ms_nil)
  (ms_cons
  (ms_if (mt_eq hu (mv 0) me_int) (ms_cons
  (ms_ret (me_if (mt_val (mv 2)) (me_mkXk T.x_InvalidParts (hr.mono (by decide)) (mv 1)) (me_mkX T.x_InvalidParts (hr.mono (by decide)) (mv 1))))
  ms_nil) ms_nil)
  (ms_cons
  (ms_ret (me_if (mt_val (mv 2)) (me_mkXk T.x_InvalidLadder (hr.mono (by decide)) (mv 1)) (me_mkX T.x_InvalidLadder (hr.mono (by decide)) (mv 1))))
  ms_nil)))))))))
theorem ok_law_with_place (T : Tx P w K mg base) : FnG P w K mg base 3 T.f_law_with_place T.d_law_with_place ["spot", "thing", "by_name"] (spM K 3 F_law_with_place) := (okr_law_with_place T).trim

theorem b_law_under_binds (T : Tx P w K mg base) : Binds K T.d_law_under ["thing"] [] := T.u_law_under.binds (ps := ["thing"]) fun _ _ _ _ _ _ us hl => match us, hl with | [_], _ => rfl
theorem okr_law_under (T : Tx P w K mg base) : FnG P w K mg base 1 T.f_law_under T.d_law_under ["thing"] (spM K 1 (fnM 2 b_law_under)) := by
  have h0 := @fnG P w K mg base "_law_under" "_law_under" s_law_under T.f_law_under T.d_law_under ["thing", "found"] ["thing"] 0 b_law_under T.u_law_under sc_law_under
  refine h0 fun cdv A outer s H E hr hgd => ?_
  have hu := hr.units
  have hu2 := hu66 hr
  have nd := sc_law_under.nd
  unfold b_law_under
  exact (ms_cons
  (mset 1 nd (me_fl (ma_cons (me_isO T.fam T.x_InvalidForm.g (ns_clsAt T.x_InvalidForm.ns) rfl rfl T.n_isinstance (mv 0)) (ma_cons (me_isO T.fam T.x_InvalidTable.g (ns_clsAt T.x_InvalidTable.ns) rfl rfl T.n_isinstance (mv 0)) (ma_cons (me_isO T.fam T.x_InvalidSolver.g (ns_clsAt T.x_InvalidSolver.ns) rfl rfl T.n_isinstance (mv 0)) ma_nil)))))
  (ms_cons
  (mset 1 nd (me_add (mv 1) (me_fl (ma_cons (me_isO T.fam T.x_InvalidAid.g (ns_clsAt T.x_InvalidAid.ns) rfl rfl T.n_isinstance (mv 0)) (ma_cons (me_isO T.fam T.x_InvalidShare.g (ns_clsAt T.x_InvalidShare.ns) rfl rfl T.n_isinstance (mv 0)) (ma_cons (me_isO T.fam T.x_InvalidNumber.g (ns_clsAt T.x_InvalidNumber.ns) rfl rfl T.n_isinstance (mv 0)) ma_nil))))))
  (ms_cons
  (mset 1 nd (me_add (mv 1) (me_fl (ma_cons (me_isO T.fam T.x_InvalidAmount.g (ns_clsAt T.x_InvalidAmount.ns) rfl rfl T.n_isinstance (mv 0)) (ma_cons (me_isO T.fam T.x_InvalidLot.g (ns_clsAt T.x_InvalidLot.ns) rfl rfl T.n_isinstance (mv 0)) ma_nil)))))
  (ms_cons
  (mset 1 nd (me_add (mv 1) (me_fl (ma_cons (me_isO T.fam T.x_InvalidSmoother.g (ns_clsAt T.x_InvalidSmoother.ns) rfl rfl T.n_isinstance (mv 0)) (ma_cons (me_isO T.fam T.x_InvalidWeight.g (ns_clsAt T.x_InvalidWeight.ns) rfl rfl T.n_isinstance (mv 0)) (ma_cons (me_isO T.fam T.x_TooMany.g (ns_clsAt T.x_TooMany.ns) rfl rfl T.n_isinstance (mv 0)) ma_nil))))))
  (ms_cons
  (mset 1 nd (me_add (mv 1) (me_fl (ma_cons (me_isO T.fam T.x_InvalidRow.g (ns_clsAt T.x_InvalidRow.ns) rfl rfl T.n_isinstance (mv 0)) ma_nil))))
  (ms_cons
  (mset 1 nd (me_add (mv 1) (me_fl (ma_cons (me_isO T.fam T.x_InvalidRows.g (ns_clsAt T.x_InvalidRows.ns) rfl rfl T.n_isinstance (mv 0)) (ma_cons (me_isO T.fam T.x_InvalidMethod.g (ns_clsAt T.x_InvalidMethod.ns) rfl rfl T.n_isinstance (mv 0)) (ma_cons (me_isO T.fam T.x_InvalidSplit.g (ns_clsAt T.x_InvalidSplit.ns) rfl rfl T.n_isinstance (mv 0)) ma_nil))))))
  (ms_cons
  (mset 1 nd (me_add (mv 1) (me_fl (ma_cons (me_isO T.fam T.x_InvalidLots.g (ns_clsAt T.x_InvalidLots.ns) rfl rfl T.n_isinstance (mv 0)) (ma_cons (me_isO T.fam T.x_InvalidTeam.g (ns_clsAt T.x_InvalidTeam.ns) rfl rfl T.n_isinstance (mv 0)) (ma_cons (me_isO T.fam T.x_InvalidSpans.g (ns_clsAt T.x_InvalidSpans.ns) rfl rfl T.n_isinstance (mv 0)) ma_nil))))))
  (ms_cons
  (mset 1 nd (me_add (mv 1) (me_fl (ma_cons (me_isO T.fam T.x_InvalidParts.g (ns_clsAt T.x_InvalidParts.ns) rfl rfl T.n_isinstance (mv 0)) (ma_cons (me_isO T.fam T.x_InvalidLadder.g (ns_clsAt T.x_InvalidLadder.ns) rfl rfl T.n_isinstance (mv 0)) (ma_cons (me_isO T.fam T.g_NotWhole T.c_NotWhole rfl rfl T.n_isinstance (mv 0)) ma_nil))))))
  (ms_cons
  (ms_ret (me_add (mv 1) (me_fl (ma_cons (me_isO T.fam T.g_NotSafe T.c_NotSafe rfl rfl T.n_isinstance (mv 0)) (ma_cons (me_isO T.fam T.g_CostError T.c_CostError rfl rfl T.n_isinstance (mv 0)) ma_nil)))))
  ms_nil)))))))))
theorem ok_law_under (T : Tx P w K mg base) : FnG P w K mg base 1 T.f_law_under T.d_law_under ["thing"] (spM K 1 F_law_under) := (okr_law_under T).trim

theorem b_law_is_plain_binds (T : Tx P w K mg base) : Binds K T.d_law_is_plain ["thing"] [] := T.u_law_is_plain.binds (ps := ["thing"]) fun _ _ _ _ _ _ us hl => match us, hl with | [_], _ => rfl
theorem okr_law_is_plain (T : Tx P w K mg base) : FnG P w K mg base 1 T.f_law_is_plain T.d_law_is_plain ["thing"] (spM K 1 (fnM 1 b_law_is_plain)) := by
  have h0 := @fnG P w K mg base "_law_is_plain" "_law_is_plain" s_law_is_plain T.f_law_is_plain T.d_law_is_plain ["thing"] ["thing"] 0 b_law_is_plain T.u_law_is_plain sc_law_is_plain
  refine h0 fun cdv A outer s H E hr hgd => ?_
  have hu := hr.units
  have hu2 := hu66 hr
  have nd := sc_law_is_plain.nd
  unfold b_law_is_plain
  exact (ms_cons
  (ms_if (mt_w (mw_or (mt_not (mt_val (me_isB (T := "ValueError") (b := true) T.fam rfl T.n_ValueError (by first | rfl | decide +kernel) rfl T.n_isinstance (mv 0)))) (mw_or1 (mt_not (mt_val (me_isB (T := "Exception") (b := true) T.fam rfl T.n_Exception (by first | rfl | decide +kernel) rfl T.n_isinstance (mv 0))))))) (ms_cons
  (ms_ret me_bl)
  ms_nil) ms_nil)
  (ms_cons
  (ms_if (mt_w (mw_or (mt_val (me_isB (T := "LookupError") (b := false) T.fam rfl T.n_LookupError (by first | rfl | decide +kernel) rfl T.n_isinstance (mv 0))) (mw_or (mt_val (me_isB (T := "ArithmeticError") (b := false) T.fam rfl T.n_ArithmeticError (by first | rfl | decide +kernel) rfl T.n_isinstance (mv 0))) (mw_or1 (mt_val (me_isB (T := "TypeError") (b := false) T.fam rfl T.n_TypeError (by first | rfl | decide +kernel) rfl T.n_isinstance (mv 0))))))) (ms_cons
  (ms_ret me_bl)
  ms_nil) ms_nil)
  (ms_cons
  (ms_ret (me_and (me_not (me_isB (T := "RuntimeError") (b := false) T.fam rfl T.n_RuntimeError (by first | rfl | decide +kernel) rfl T.n_isinstance (mv 0))) (me_one (me_not (me_isB (T := "StopIteration") (b := false) T.fam rfl T.n_StopIteration (by first | rfl | decide +kernel) rfl T.n_isinstance (mv 0))))))
  ms_nil)))
theorem ok_law_is_plain (T : Tx P w K mg base) : FnG P w K mg base 1 T.f_law_is_plain T.d_law_is_plain ["thing"] (spM K 1 F_law_is_plain) := (okr_law_is_plain T).trim

theorem b_law_is_kind_binds (T : Tx P w K mg base) : Binds K T.d_law_is_kind ["made", "spot"] [] := T.u_law_is_kind.binds (ps := ["made", "spot"]) fun _ _ _ _ _ _ us hl => match us, hl with | [_, _], _ => rfl
theorem okr_law_is_kind (T : Tx P w K mg base) : FnG P w K mg base 2 T.f_law_is_kind T.d_law_is_kind ["made", "spot"] (spM K 2 (fnM 4 b_law_is_kind)) := by
  have h0 := @fnG P w K mg base "_law_is_kind" "_law_is_kind" s_law_is_kind T.f_law_is_kind T.d_law_is_kind ["made", "spot", "due", "at"] ["made", "spot"] 1 b_law_is_kind T.u_law_is_kind sc_law_is_kind
  refine h0 fun cdv A outer s H E hr hgd => ?_
  have hu := hr.units
  have hu2 := hu66 hr
  have nd := sc_law_is_kind.nd
  unfold b_law_is_kind
  exact (ms_cons
  (ms_setLc (i := 2) (own := [("at", 3)]) (tg := (.nm 3)) rfl nd rfl rfl (sw_true rfl rfl rfl (by decide +kernel)) (mi_range1 rfl T.n_range (ma_cons me_int ma_nil)) (blkOk_by (N := ["made", "spot", "due", "at"]) (sc := (defScope s_law_is_kind)) (by decide +kernel)) (by decide) (fun _ _ _ _ _ => (mgn 3 nd)) (fun _ _ _ _ _ => mts_nil) (fun _ _ _ _ _ => (me_or (me_eq hu (mv 3) (mv 1)) (me_one (me_eq hu (mv 3) me_int)))))
  (ms_cons
  (ms_ret (me_and (me_eq hu (me_call (ok_law_under T) (hr.mono (by decide)) hgd rfl T.g_law_under T.u_law_under.kp (b_law_under_binds T) rfl (ma_cons (mv 0) ma_nil) (al_cons' al_nil')) (mv 2)) (me_one (me_call (ok_law_is_plain T) (hr.mono (by decide)) hgd rfl T.g_law_is_plain T.u_law_is_plain.kp (b_law_is_plain_binds T) rfl (ma_cons (mv 0) ma_nil) (al_cons' al_nil')))))
  ms_nil))
theorem ok_law_is_kind (T : Tx P w K mg base) : FnG P w K mg base 2 T.f_law_is_kind T.d_law_is_kind ["made", "spot"] (spM K 2 F_law_is_kind) := (okr_law_is_kind T).trim

theorem b_law_is_kept_binds (T : Tx P w K mg base) : Binds K T.d_law_is_kept ["spot", "thing", "by_name"] [] := T.u_law_is_kept.binds (ps := ["spot", "thing", "by_name"]) fun _ _ _ _ _ _ us hl => match us, hl with | [_, _, _], _ => rfl
theorem okr_law_is_kept (T : Tx P w K mg base) : FnG P w K mg base 4 T.f_law_is_kept T.d_law_is_kept ["spot", "thing", "by_name"] (spM K 3 (fnM 5 b_law_is_kept)) := by
  have h0 := @fnG P w K mg base "_law_is_kept" "_law_is_kept" s_law_is_kept T.f_law_is_kept T.d_law_is_kept ["spot", "thing", "by_name", "made", "more"] ["spot", "thing", "by_name"] 3 b_law_is_kept T.u_law_is_kept sc_law_is_kept
  refine h0 fun cdv A outer s H E hr hgd => ?_
  have hu := hr.units
  have hu2 := hu66 hr
  have nd := sc_law_is_kept.nd
  unfold b_law_is_kept
  exact (ms_cons
  (ms_if (mt_lt (mv 0) me_int) (ms_cons
  (mset 3 nd (me_call (ok_law_with_value T) (hr.mono (by decide)) hgd rfl T.g_law_with_value T.u_law_with_value.kp (b_law_with_value_binds T) rfl (ma_cons (mv 0) (ma_cons (mv 1) (ma_cons (mv 2) ma_nil))) (al_cons' (al_cons' (al_cons' al_nil')))))
  (ms_cons
  (ms_ret (me_and (me_call (ok_law_is_kind T) (hr.mono (by decide)) hgd rfl T.g_law_is_kind T.u_law_is_kind.kp (b_law_is_kind_binds T) rfl (ma_cons (mv 3) (ma_cons (mv 0) ma_nil)) (al_cons' (al_cons' al_nil'))) (me_one (me_eq hu (me_callB (call_reprD hgd hu2) opN_reprD rfl T.n_repr (by decide +kernel) (ma_cons (me_fldF T.fam rfl (mv 3)) ma_nil)) (me_callB (call_reprD hgd hu2) opN_reprD rfl T.n_repr (by decide +kernel) (ma_cons (mv 1) ma_nil))))))
  ms_nil)) ms_nil)
  (ms_cons
  (mset 4 nd (me_call (ok_law_with_place T) (hr.mono (by decide)) hgd rfl T.g_law_with_place T.u_law_with_place.kp (b_law_with_place_binds T) rfl (ma_cons (mv 0) (ma_cons (mv 1) (ma_cons (mv 2) ma_nil))) (al_cons' (al_cons' (al_cons' al_nil')))))
  (ms_cons
  (ms_ret (me_and (me_call (ok_law_is_kind T) (hr.mono (by decide)) hgd rfl T.g_law_is_kind T.u_law_is_kind.kp (b_law_is_kind_binds T) rfl (ma_cons (mv 4) (ma_cons (mv 0) ma_nil)) (al_cons' (al_cons' al_nil'))) (me_one (me_eq hu (me_callB (call_reprD hgd hu2) opN_reprD rfl T.n_repr (by decide +kernel) (ma_cons (me_fldF T.fam rfl (mv 4)) ma_nil)) (me_callB (call_reprD hgd hu2) opN_reprD rfl T.n_repr (by decide +kernel) (ma_cons (mv 1) ma_nil))))))
  ms_nil)))
theorem ok_law_is_kept (T : Tx P w K mg base) : FnG P w K mg base 4 T.f_law_is_kept T.d_law_is_kept ["spot", "thing", "by_name"] (spM K 3 F_law_is_kept) := (okr_law_is_kept T).trim

theorem b_law_right_binds (T : Tx P w K mg base) : Binds K T.d_law_right ["urn"] [] := T.u_law_right.binds (ps := ["urn"]) fun _ _ _ _ _ _ us hl => match us, hl with | [_], _ => rfl
theorem okr_law_right (T : Tx P w K mg base) : FnG P w K mg base 5 T.f_law_right T.d_law_right ["urn"] (spM K 1 (fnM 4 b_law_right)) := by
  have h0 := @fnG P w K mg base "_law_right" "_law_right" s_law_right T.f_law_right T.d_law_right ["urn", "great", "spot", "thing"] ["urn"] 4 b_law_right T.u_law_right sc_law_right
  refine h0 fun cdv A outer s H E hr hgd => ?_
  have hu := hr.units
  have hu2 := hu66 hr
  have nd := sc_law_right.nd
  unfold b_law_right
  exact (ms_cons
  (mset 1 nd (me_add (me_pow me_int me_int) (me_call (ok_law_take T) (hr.mono (by decide)) hgd rfl T.g_law_take T.u_law_take.kp (b_law_take_binds T) rfl (ma_cons (mv 0) (ma_cons me_int ma_nil)) (al_cons' (al_cons' al_nil')))))
  (ms_cons
  (ms_for (tg := (.nm 2)) PassesOwn.never rfl (mi_range1 rfl T.n_range (ma_cons me_int ma_nil)) (mgn 2 nd) (ms_cons
  (mset 3 nd (me_call (ok_law_pick T) (hr.mono (by decide)) hgd rfl T.g_law_pick T.u_law_pick.kp (b_law_pick_binds T) rfl (ma_cons (mv 0) (ma_cons (me_fl (ma_cons me_non (ma_cons me_bl (ma_cons me_bl (ma_cons me_int (ma_cons me_int (ma_cons (me_neg me_int) (ma_cons (mv 1) (ma_cons me_str (ma_cons me_str (ma_cons me_str (ma_cons (me_tup ma_nil) (ma_cons (me_tup (ma_cons me_int (ma_cons me_int ma_nil))) (ma_cons (me_tup (ma_cons (me_tup (ma_cons me_int (ma_cons me_int ma_nil))) (ma_cons (me_tup (ma_cons me_int (ma_cons me_int ma_nil))) ma_nil))) (ma_cons (me_fl ma_nil) (ma_cons (me_fl (ma_cons me_int (ma_cons (me_tup (ma_cons me_int (ma_cons me_int ma_nil))) ma_nil))) (ma_cons me_dct0 (ma_cons (me_dct1 pe_str pe_int) (ma_cons (me_tup (ma_cons me_non (ma_cons (me_fl ma_nil) ma_nil))) ma_nil))))))))))))))))))) ma_nil)) (al_cons' (al_cons' al_nil'))))
  (ms_cons
  (ms_if (mt_w (mw_or (mt_not (mt_val (me_call (ok_law_is_kept T) (hr.mono (by decide)) hgd rfl T.g_law_is_kept T.u_law_is_kept.kp (b_law_is_kept_binds T) rfl (ma_cons (mv 2) (ma_cons (mv 3) (ma_cons me_bl ma_nil))) (al_cons' (al_cons' (al_cons' al_nil')))))) (mw_or1 (mt_not (mt_val (me_call (ok_law_is_kept T) (hr.mono (by decide)) hgd rfl T.g_law_is_kept T.u_law_is_kept.kp (b_law_is_kept_binds T) rfl (ma_cons (mv 2) (ma_cons (mv 3) (ma_cons me_bl ma_nil))) (al_cons' (al_cons' (al_cons' al_nil'))))))))) (ms_cons
  (ms_ret me_bl)
  ms_nil) ms_nil)
  ms_nil)))
  (ms_cons
  (ms_ret (me_and (me_call (ok_law_is_kind T) (hr.mono (by decide)) hgd rfl T.g_law_is_kind T.u_law_is_kind.kp (b_law_is_kind_binds T) rfl (ma_cons (me_mk0 F.excBase_ValueError T.q_NotWhole T.ns_NotWhole T.g_NotWhole T.kc_NotWhole) (ma_cons me_int ma_nil)) (al_cons' (al_cons' al_nil'))) (me_and (me_call (ok_law_is_kind T) (hr.mono (by decide)) hgd rfl T.g_law_is_kind T.u_law_is_kind.kp (b_law_is_kind_binds T) rfl (ma_cons (me_mk0 F.excBase_ValueError T.q_NotSafe T.ns_NotSafe T.g_NotSafe T.kc_NotSafe) (ma_cons me_int ma_nil)) (al_cons' (al_cons' al_nil'))) (me_one (me_call (ok_law_is_kind T) (hr.mono (by decide)) hgd rfl T.g_law_is_kind T.u_law_is_kind.kp (b_law_is_kind_binds T) rfl (ma_cons (me_mk0 F.excBase_ValueError T.q_CostError T.ns_CostError T.g_CostError T.kc_CostError) (ma_cons me_int ma_nil)) (al_cons' (al_cons' al_nil')))))))
  ms_nil)))
theorem ok_law_right (T : Tx P w K mg base) : FnG P w K mg base 5 T.f_law_right T.d_law_right ["urn"] (spM K 1 F_law_right) := (okr_law_right T).trim

theorem b_law_binds (T : Tx P w K mg base) : Binds K T.d_law ["script"] [] := T.u_law.binds (ps := ["script"]) fun _ _ _ _ _ _ us hl => match us, hl with | [_], _ => rfl
theorem okr_law (T : Tx P w K mg base) : FnG P w K mg base 6 T.f_law T.d_law ["script"] (spM K 1 (fnM 2 b_law)) := by
  have h0 := @fnG P w K mg base "law" "law" s_law T.f_law T.d_law ["script", "turn"] ["script"] 5 b_law T.u_law sc_law
  refine h0 fun cdv A outer s H E hr hgd => ?_
  have hu := hr.units
  have hu2 := hu66 hr
  have nd := sc_law.nd
  unfold b_law
  exact (ms_cons
  (ms_ret (me_callB (cr_all rfl) opN_all rfl T.n_all (by decide +kernel) (ma_cons (me_lc (own := [("turn", 1)]) (tg := (.nm 1)) rfl nd (mi_range1 rfl T.n_range (ma_cons (me_callB (call_max2 rfl) opN_max2 rfl T.n_max (by decide +kernel) (ma_cons me_int (ma_cons (me_callB (call_min2 rfl) opN_min2 rfl T.n_min (by decide +kernel) (ma_cons (me_callB call_len_seq opN_len rfl T.n_len PySem.boot_len (ma_cons (mv 0) ma_nil)) (ma_cons me_int ma_nil))) ma_nil))) ma_nil)) (blkOk_by (N := ["script", "turn"]) (sc := (defScope s_law)) (by decide +kernel)) (by decide) (fun _ _ _ _ _ => (mgn 1 nd)) (fun _ _ _ _ _ => mts_nil) (fun _ _ _ _ _ => (me_call (ok_law_right T) (hr.mono (by decide)) hgd rfl T.g_law_right T.u_law_right.kp (b_law_right_binds T) rfl (ma_cons (me_call (ok_law_urn T) (hr.mono (by decide)) hgd rfl T.g_law_urn T.u_law_urn.kp (b_law_urn_binds T) rfl (ma_cons (mv 0) (ma_cons (mv 1) ma_nil)) (al_cons' (al_cons' al_nil'))) ma_nil) (al_cons' al_nil')))) ma_nil)))
  ms_nil)
theorem ok_law (T : Tx P w K mg base) : FnG P w K mg base 6 T.f_law T.d_law ["script"] (spM K 1 F_law) := (okr_law T).trim

end
end K01

set_option Elab.async false
set_option linter.all false
set_option maxRecDepth 100000
set_option autoImplicit false
set_option maxHeartbeats 4000000
namespace K01
open PySem PySem.Spec L2 HM
open PyProof.Rows hiding St
theorem log2_64 {n : Nat} (h : n < 2 ^ 64) : n.log2 < 64 := by
  by_cases h0 : n = 0
  · subst h0; decide
  · exact (Nat.log2_lt h0).mpr h
theorem cMul_of {i j : Int} (hi : i.natAbs < 2 ^ 64) (hj : j.natAbs < 2 ^ 64) : cMul i j = true := by
  unfold cMul
  have := log2_64 hi
  have := log2_64 hj
  exact decide_eq_true (by omega)
theorem pyl_of {i j : Int} (hj : j.natAbs < 2 ^ 64) : Builtin.divisionGoesByPylong i j = false := by
  have := log2_64 hj
  unfold Builtin.divisionGoesByPylong
  simp only [Bool.and_eq_false_iff]
  left
  split
  · decide
  · exact decide_eq_false (by omega)
theorem cDivP_of {i j : Int} (h : 0 < j) (hj : j.natAbs < 2 ^ 64) : cDivP i j = true := by
  unfold cDivP
  rw [pyl_of hj, decide_eq_true h]; rfl
theorem cDivX_of {i j : Int} (h : 0 < j) (hj : j.natAbs < 2 ^ 64) : cDivX i j = true := by
  unfold cDivX
  rw [pyl_of hj, decide_eq_true h]; rfl
abbrev Urn (u m c : Int) : List D := [.int u, .int m, .int c, .int 1]
theorem take_ok (x : Option (List D)) (u m c lim : Int) (hu : 0 ≤ u) (hm : 0 ≤ m) (hm2 : m < 2147483497) (hc : 0 ≤ c) (hc2 : c ≤ 100) (hl : 0 < lim) (hl2 : lim ≤ 1000) :
    ∃ d u' m' c', F_law_take [.loc 1, .val (.int lim)] [x, some (Urn u m c)] = some (.val (.int d), [x, some (Urn u' m' c')]) ∧ (0 ≤ d ∧ d < lim) ∧ 0 ≤ u' ∧ (0 ≤ m' ∧ m' < 2147483497) ∧ (c ≤ c' ∧ c' ≤ c + 1) := by
  by_cases h : 0 < u
  · have e1 : cDivP u lim = true := cDivP_of hl (by omega)
    refine ⟨u % lim, u / lim, m, c, ?_, ⟨Int.emod_nonneg _ (by omega), Int.emod_lt_of_pos _ hl⟩, Int.ediv_nonneg hu (by omega), ⟨hm, hm2⟩, by omega, by omega⟩
    · unfold F_law_take trimF fnM b_law_take
      simp [sSeq, sIf, mTest, mBin, fGt, fB, mVar, mC, fIx, tItems, lItems, L2.atI, ixN, sPut2, mCall, aCons, aNil, fDivmod, e1, HM.putAt, cellOf?, sRet, h, Urn]
  · have h0 : u = 0 := by omega
    subst h0
    have e1 : cMul 51787 (c + 1) = true := cMul_of (by omega) (by omega)
    have e2 : cMul 29 (c + 1) = true := cMul_of (by omega) (by omega)
    obtain ⟨sd, hsd⟩ : ∃ sd, sd = (m + 51787 * (c + 1)) % 2147483497 := ⟨_, rfl⟩
    have sd0 : 0 ≤ sd := by omega
    have sd1 : sd < 2147483497 := by omega
    have e3 : cMul sd (sd % 6007 + 41011) = true := cMul_of (by omega) (by omega)
    obtain ⟨z, hz⟩ : ∃ z, z = (sd * (sd % 6007 + 41011) + 29 * (c + 1)) % 2147483497 := ⟨_, rfl⟩
    have z0 : 0 ≤ z := by rw [hz]; exact Int.emod_nonneg _ (by decide)
    have z1 : z < 2147483497 := by rw [hz]; exact Int.emod_lt_of_pos _ (by decide)
    have e4 : cDivX z 769 = true := cDivX_of (by omega) (by decide)
    refine ⟨z / 769 % lim, 0, z, c + 1, ?_, ⟨Int.emod_nonneg _ (by omega), Int.emod_lt_of_pos _ hl⟩, by omega, ⟨z0, z1⟩, by omega, by omega⟩
    unfold F_law_take trimF fnM b_law_take
    simp [sSeq, sIf, mTest, mBin, fGt, fB, mVar, mC, fIx, tItems, lItems, L2.atI, ixN, sPut, mCall, aCons, aNil, HM.putAt, cellOf?, sRet, h, Urn, fPlus, fAdd, fMul, fMod, fI, fInt, sSet, sNx, e1, e2, ← hsd, e3, ← hz, fDivX, e4, hl]
end K01

set_option Elab.async false
set_option linter.all false
set_option maxRecDepth 100000
set_option autoImplicit false
set_option maxHeartbeats 4000000
namespace K01
open PySem PySem.Spec L2 HM
open PyProof.Rows hiding St
theorem mk_0 (x y : Option (List D)) (d : D) (b : Bool) : F_law_with_value [.val (.int 0), .val d, .val (.bl b)] [x, y] = some (.val (.exc1 "InvalidForm" "given" d), [x, y]) := by cases b <;> kernel_rfl
theorem kd_0 (x y : Option (List D)) (d : D) : F_law_is_kind [.val (.exc1 "InvalidForm" "given" d), .val (.int 0)] [x, y] = some (.val (.bl true), [x, y]) := by kernel_rfl
theorem mk_1 (x y : Option (List D)) (d : D) (b : Bool) : F_law_with_value [.val (.int 1), .val d, .val (.bl b)] [x, y] = some (.val (.exc1 "InvalidTable" "given" d), [x, y]) := by cases b <;> kernel_rfl
theorem kd_1 (x y : Option (List D)) (d : D) : F_law_is_kind [.val (.exc1 "InvalidTable" "given" d), .val (.int 1)] [x, y] = some (.val (.bl true), [x, y]) := by kernel_rfl
theorem mk_2 (x y : Option (List D)) (d : D) (b : Bool) : F_law_with_value [.val (.int 2), .val d, .val (.bl b)] [x, y] = some (.val (.exc1 "InvalidSolver" "given" d), [x, y]) := by cases b <;> kernel_rfl
theorem kd_2 (x y : Option (List D)) (d : D) : F_law_is_kind [.val (.exc1 "InvalidSolver" "given" d), .val (.int 2)] [x, y] = some (.val (.bl true), [x, y]) := by kernel_rfl
theorem mk_3 (x y : Option (List D)) (d : D) (b : Bool) : F_law_with_value [.val (.int 3), .val d, .val (.bl b)] [x, y] = some (.val (.exc1 "InvalidAid" "given" d), [x, y]) := by cases b <;> kernel_rfl
theorem kd_3 (x y : Option (List D)) (d : D) : F_law_is_kind [.val (.exc1 "InvalidAid" "given" d), .val (.int 3)] [x, y] = some (.val (.bl true), [x, y]) := by kernel_rfl
theorem mk_4 (x y : Option (List D)) (d : D) (b : Bool) : F_law_with_value [.val (.int 4), .val d, .val (.bl b)] [x, y] = some (.val (.exc1 "InvalidShare" "given" d), [x, y]) := by cases b <;> kernel_rfl
theorem kd_4 (x y : Option (List D)) (d : D) : F_law_is_kind [.val (.exc1 "InvalidShare" "given" d), .val (.int 4)] [x, y] = some (.val (.bl true), [x, y]) := by kernel_rfl
theorem mk_5 (x y : Option (List D)) (d : D) (b : Bool) : F_law_with_value [.val (.int 5), .val d, .val (.bl b)] [x, y] = some (.val (.exc1 "InvalidNumber" "given" d), [x, y]) := by cases b <;> kernel_rfl
theorem kd_5 (x y : Option (List D)) (d : D) : F_law_is_kind [.val (.exc1 "InvalidNumber" "given" d), .val (.int 5)] [x, y] = some (.val (.bl true), [x, y]) := by kernel_rfl
theorem mk_6 (x y : Option (List D)) (d : D) (b : Bool) : F_law_with_value [.val (.int 6), .val d, .val (.bl b)] [x, y] = some (.val (.exc1 "InvalidAmount" "given" d), [x, y]) := by cases b <;> kernel_rfl
theorem kd_6 (x y : Option (List D)) (d : D) : F_law_is_kind [.val (.exc1 "InvalidAmount" "given" d), .val (.int 6)] [x, y] = some (.val (.bl true), [x, y]) := by kernel_rfl
theorem mk_7 (x y : Option (List D)) (d : D) (b : Bool) : F_law_with_value [.val (.int 7), .val d, .val (.bl b)] [x, y] = some (.val (.exc1 "InvalidLot" "given" d), [x, y]) := by cases b <;> kernel_rfl
theorem kd_7 (x y : Option (List D)) (d : D) : F_law_is_kind [.val (.exc1 "InvalidLot" "given" d), .val (.int 7)] [x, y] = some (.val (.bl true), [x, y]) := by kernel_rfl
theorem mk_8 (x y : Option (List D)) (d : D) (b : Bool) : F_law_with_value [.val (.int 8), .val d, .val (.bl b)] [x, y] = some (.val (.exc1 "InvalidSmoother" "given" d), [x, y]) := by cases b <;> kernel_rfl
theorem kd_8 (x y : Option (List D)) (d : D) : F_law_is_kind [.val (.exc1 "InvalidSmoother" "given" d), .val (.int 8)] [x, y] = some (.val (.bl true), [x, y]) := by kernel_rfl
theorem mk_9 (x y : Option (List D)) (d : D) (b : Bool) : F_law_with_value [.val (.int 9), .val d, .val (.bl b)] [x, y] = some (.val (.exc1 "InvalidWeight" "given" d), [x, y]) := by cases b <;> kernel_rfl
theorem kd_9 (x y : Option (List D)) (d : D) : F_law_is_kind [.val (.exc1 "InvalidWeight" "given" d), .val (.int 9)] [x, y] = some (.val (.bl true), [x, y]) := by kernel_rfl
theorem mk_10 (x y : Option (List D)) (d : D) (b : Bool) : F_law_with_value [.val (.int 10), .val d, .val (.bl b)] [x, y] = some (.val (.exc1 "TooMany" "given" d), [x, y]) := by cases b <;> kernel_rfl
theorem kd_10 (x y : Option (List D)) (d : D) : F_law_is_kind [.val (.exc1 "TooMany" "given" d), .val (.int 10)] [x, y] = some (.val (.bl true), [x, y]) := by kernel_rfl
theorem mk_11 (x y : Option (List D)) (d : D) (b : Bool) : F_law_with_place [.val (.int 11), .val d, .val (.bl b)] [x, y] = some (.val (.exc1 "InvalidRow" "index" d), [x, y]) := by cases b <;> kernel_rfl
theorem kd_11 (x y : Option (List D)) (d : D) : F_law_is_kind [.val (.exc1 "InvalidRow" "index" d), .val (.int 11)] [x, y] = some (.val (.bl true), [x, y]) := by kernel_rfl
theorem mk_12 (x y : Option (List D)) (d : D) (b : Bool) : F_law_with_place [.val (.int 12), .val d, .val (.bl b)] [x, y] = some (.val (.exc1 "InvalidRows" "index" d), [x, y]) := by cases b <;> kernel_rfl
theorem kd_12 (x y : Option (List D)) (d : D) : F_law_is_kind [.val (.exc1 "InvalidRows" "index" d), .val (.int 12)] [x, y] = some (.val (.bl true), [x, y]) := by kernel_rfl
theorem mk_13 (x y : Option (List D)) (d : D) (b : Bool) : F_law_with_place [.val (.int 13), .val d, .val (.bl b)] [x, y] = some (.val (.exc1 "InvalidMethod" "index" d), [x, y]) := by cases b <;> kernel_rfl
theorem kd_13 (x y : Option (List D)) (d : D) : F_law_is_kind [.val (.exc1 "InvalidMethod" "index" d), .val (.int 13)] [x, y] = some (.val (.bl true), [x, y]) := by kernel_rfl
theorem mk_14 (x y : Option (List D)) (d : D) (b : Bool) : F_law_with_place [.val (.int 14), .val d, .val (.bl b)] [x, y] = some (.val (.exc1 "InvalidSplit" "index" d), [x, y]) := by cases b <;> kernel_rfl
theorem kd_14 (x y : Option (List D)) (d : D) : F_law_is_kind [.val (.exc1 "InvalidSplit" "index" d), .val (.int 14)] [x, y] = some (.val (.bl true), [x, y]) := by kernel_rfl
theorem mk_15 (x y : Option (List D)) (d : D) (b : Bool) : F_law_with_place [.val (.int 15), .val d, .val (.bl b)] [x, y] = some (.val (.exc1 "InvalidLots" "index" d), [x, y]) := by cases b <;> kernel_rfl
theorem kd_15 (x y : Option (List D)) (d : D) : F_law_is_kind [.val (.exc1 "InvalidLots" "index" d), .val (.int 15)] [x, y] = some (.val (.bl true), [x, y]) := by kernel_rfl
theorem mk_16 (x y : Option (List D)) (d : D) (b : Bool) : F_law_with_place [.val (.int 16), .val d, .val (.bl b)] [x, y] = some (.val (.exc1 "InvalidTeam" "index" d), [x, y]) := by cases b <;> kernel_rfl
theorem kd_16 (x y : Option (List D)) (d : D) : F_law_is_kind [.val (.exc1 "InvalidTeam" "index" d), .val (.int 16)] [x, y] = some (.val (.bl true), [x, y]) := by kernel_rfl
theorem mk_17 (x y : Option (List D)) (d : D) (b : Bool) : F_law_with_place [.val (.int 17), .val d, .val (.bl b)] [x, y] = some (.val (.exc1 "InvalidSpans" "index" d), [x, y]) := by cases b <;> kernel_rfl
theorem kd_17 (x y : Option (List D)) (d : D) : F_law_is_kind [.val (.exc1 "InvalidSpans" "index" d), .val (.int 17)] [x, y] = some (.val (.bl true), [x, y]) := by kernel_rfl
theorem mk_18 (x y : Option (List D)) (d : D) (b : Bool) : F_law_with_place [.val (.int 18), .val d, .val (.bl b)] [x, y] = some (.val (.exc1 "InvalidParts" "index" d), [x, y]) := by cases b <;> kernel_rfl
theorem kd_18 (x y : Option (List D)) (d : D) : F_law_is_kind [.val (.exc1 "InvalidParts" "index" d), .val (.int 18)] [x, y] = some (.val (.bl true), [x, y]) := by kernel_rfl
theorem mk_19 (x y : Option (List D)) (d : D) (b : Bool) : F_law_with_place [.val (.int 19), .val d, .val (.bl b)] [x, y] = some (.val (.exc1 "InvalidLadder" "index" d), [x, y]) := by cases b <;> kernel_rfl
theorem kd_19 (x y : Option (List D)) (d : D) : F_law_is_kind [.val (.exc1 "InvalidLadder" "index" d), .val (.int 19)] [x, y] = some (.val (.bl true), [x, y]) := by kernel_rfl
theorem kd_20 (x y : Option (List D)) : F_law_is_kind [.val (.exc0 "NotWhole"), .val (.int 20)] [x, y] = some (.val (.bl true), [x, y]) := by kernel_rfl
theorem kd_21 (x y : Option (List D)) : F_law_is_kind [.val (.exc0 "NotSafe"), .val (.int 21)] [x, y] = some (.val (.bl true), [x, y]) := by kernel_rfl
theorem kd_22 (x y : Option (List D)) : F_law_is_kind [.val (.exc0 "CostError"), .val (.int 22)] [x, y] = some (.val (.bl true), [x, y]) := by kernel_rfl
end K01

set_option Elab.async false
set_option linter.all false
set_option maxRecDepth 100000
set_option autoImplicit false
set_option maxHeartbeats 4000000
namespace K01
open PySem PySem.Spec L2 HM
open PyProof.Rows hiding St
/-- a thing that repr shows -/
def ShowOk (d : D) : Prop := (d.shows && d.py.showable && decide (d.py.shown.length ≤ sizeLine)) = true ∧ PyData.strOk d.py.shown = true
theorem repr_at {d : D} (h : ShowOk d) (S : Sto) : fReprD [.val d] S = some (.val (.str d.py.shown), S) := by
  unfold fReprD
  exact if_pos h.1
theorem eq_str {s : Str} (hs : PyData.strOk s = true) (S : Sto) : fEq (.val (.str s)) (.val (.str s)) S = some (.val (.bl true), S) := by
  unfold fEq fEqD
  have e : PyData.eqv (.str s) (.str s) = true := by simp [PyData.eqv]
  have e2 : SeqAt.shaped (.str s) = true := by
    unfold SeqAt.shaped
    simp only [PyData.canLay0, PyData.depth, hs]
    rfl
  simp [W.py, D.plain, D.py, e, e2]
theorem kept_v {x y : Option (List D)} {k : Int} {c : Str} {d : D} {b : Bool} (hk : k < 11) (h1 : F_law_with_value [.val (.int k), .val d, .val (.bl b)] [x, y] = some (.val (.exc1 c "given" d), [x, y])) (h2 : F_law_is_kind [.val (.exc1 c "given" d), .val (.int k)] [x, y] = some (.val (.bl true), [x, y]))
    (hc : (fams.lookup c).isSome = true) (h3 : ShowOk d) : F_law_is_kept [.val (.int k), .val d, .val (.bl b)] [x, y] = some (.val (.bl true), [x, y]) := by
  unfold F_law_is_kept trimF fnM b_law_is_kept
  simp [sSeq, sIf, mTest, mBin, fLt, fB, mVar, mC, mCall, aCons, aNil, sRet, sSet, hk, h1, h2, mAnd, mFldF, hc, repr_at h3, eq_str h3.2]
theorem kept_p {x y : Option (List D)} {k : Int} {c : Str} {d : D} {b : Bool} (hk : ¬ k < 11) (h1 : F_law_with_place [.val (.int k), .val d, .val (.bl b)] [x, y] = some (.val (.exc1 c "index" d), [x, y])) (h2 : F_law_is_kind [.val (.exc1 c "index" d), .val (.int k)] [x, y] = some (.val (.bl true), [x, y]))
    (hc : (fams.lookup c).isSome = true) (h3 : ShowOk d) : F_law_is_kept [.val (.int k), .val d, .val (.bl b)] [x, y] = some (.val (.bl true), [x, y]) := by
  unfold F_law_is_kept trimF fnM b_law_is_kept
  simp [sSeq, sIf, mTest, mBin, fLt, fB, mVar, mC, mCall, aCons, aNil, sRet, sSet, hk, h1, h2, mAnd, mFldF, hc, repr_at h3, eq_str h3.2, sNx]
theorem kept_all (x y : Option (List D)) (k : Nat) (hk : k < 20) (d : D) (b : Bool) (h : ShowOk d) : F_law_is_kept [.val (.int (k : Int)), .val d, .val (.bl b)] [x, y] = some (.val (.bl true), [x, y]) := by
  match k, hk with
  | 0, _ => exact kept_v (by decide) (mk_0 x y d b) (kd_0 x y d) (by decide +kernel) h
  | 1, _ => exact kept_v (by decide) (mk_1 x y d b) (kd_1 x y d) (by decide +kernel) h
  | 2, _ => exact kept_v (by decide) (mk_2 x y d b) (kd_2 x y d) (by decide +kernel) h
  | 3, _ => exact kept_v (by decide) (mk_3 x y d b) (kd_3 x y d) (by decide +kernel) h
  | 4, _ => exact kept_v (by decide) (mk_4 x y d b) (kd_4 x y d) (by decide +kernel) h
  | 5, _ => exact kept_v (by decide) (mk_5 x y d b) (kd_5 x y d) (by decide +kernel) h
  | 6, _ => exact kept_v (by decide) (mk_6 x y d b) (kd_6 x y d) (by decide +kernel) h
  | 7, _ => exact kept_v (by decide) (mk_7 x y d b) (kd_7 x y d) (by decide +kernel) h
  | 8, _ => exact kept_v (by decide) (mk_8 x y d b) (kd_8 x y d) (by decide +kernel) h
  | 9, _ => exact kept_v (by decide) (mk_9 x y d b) (kd_9 x y d) (by decide +kernel) h
  | 10, _ => exact kept_v (by decide) (mk_10 x y d b) (kd_10 x y d) (by decide +kernel) h
  | 11, _ => exact kept_p (by decide) (mk_11 x y d b) (kd_11 x y d) (by decide +kernel) h
  | 12, _ => exact kept_p (by decide) (mk_12 x y d b) (kd_12 x y d) (by decide +kernel) h
  | 13, _ => exact kept_p (by decide) (mk_13 x y d b) (kd_13 x y d) (by decide +kernel) h
  | 14, _ => exact kept_p (by decide) (mk_14 x y d b) (kd_14 x y d) (by decide +kernel) h
  | 15, _ => exact kept_p (by decide) (mk_15 x y d b) (kd_15 x y d) (by decide +kernel) h
  | 16, _ => exact kept_p (by decide) (mk_16 x y d b) (kd_16 x y d) (by decide +kernel) h
  | 17, _ => exact kept_p (by decide) (mk_17 x y d b) (kd_17 x y d) (by decide +kernel) h
  | 18, _ => exact kept_p (by decide) (mk_18 x y d b) (kd_18 x y d) (by decide +kernel) h
  | 19, _ => exact kept_p (by decide) (mk_19 x y d b) (kd_19 x y d) (by decide +kernel) h
  | k + 20, hk => exact absurd hk (by omega)
/-! ### the things -/
abbrev things (g : Int) : List D := [.non, .bl true, .bl false, .int 0, .int 1, .int (-4), .int g, .str "", .str "one", .str "given", .tup [], .tup [.int 1, .int 2], .tup [.tup [.int 1, .int 1], .tup [.int 0, .int 1]], .fl [], .fl [.int 1, .tup [.int 2, .int 3]], .dct [] [], .dct ["a"] [.int 1], .tup [.non, .fl []]]
theorem great_ok (g : Int) (h1 : 10 ^ 20 ≤ g) (h2 : g < 10 ^ 20 + 1000) : ShowOk (.int g) := by
  have g0 : 0 ≤ g := Int.le_trans (by decide) h1
  have gn : g.natAbs < 10 ^ 21 := by
    have e : (g.natAbs : Int) = g := Int.natAbs_of_nonneg g0
    have h3 : (10 : Int) ^ 20 + 1000 ≤ 10 ^ 21 := by decide
    have h4 : (g.natAbs : Int) < ((10 ^ 21 : Nat) : Int) := by rw [e]; exact Int.lt_of_lt_of_le h2 (by decide)
    exact Int.ofNat_lt.mp h4
  have lg : g.natAbs.log2 < 1920 := by
    by_cases hz : g.natAbs = 0
    · rw [hz]; decide
    · exact (Nat.log2_lt hz).mpr (Nat.lt_trans gn (by decide))
  have e : (PyData.int g).shown = Str.ofString g.repr := by unfold PyData.shown; rfl
  have ln : (Str.ofString g.repr).length ≤ 21 := by
    rw [Int.repr_eq_if, if_pos g0, Nat.repr_eq_ofList_toDigits, PySem.ofString_ofList_length]
    refine PySem.toDigits_len_pow (by decide) (by decide) ?_
    have : g.toNat = g.natAbs := by omega
    rw [this]; exact gn
  refine ⟨?_, ?_⟩
  · have a1 : (D.int g).shows = true := by rfl
    have a2 : (D.int g).py.showable = true := by
      show (PyData.int g).showable = true
      unfold PyData.showable
      exact decide_eq_true lg
    have a3 : decide ((D.int g).py.shown.length ≤ sizeLine) = true := by
      refine decide_eq_true ?_
      show (PyData.int g).shown.length ≤ sizeLine
      rw [e, sizeLine_eq]
      omega
    rw [a1, a2, a3]; rfl
  · show PyData.strOk (PyData.int g).shown = true
    rw [e]
    unfold PyData.strOk
    rw [← Array.all_toList, PyProof.Rows.signs_ofString]
    refine List.all_eq_true.mpr fun n hn => ?_
    obtain ⟨c, _, rfl⟩ := List.mem_map.mp hn
    refine decide_eq_true ?_
    have hv := c.valid
    have : c.toNat = c.val.toNat := rfl
    rcases hv with h | ⟨_, h⟩ <;> omega
theorem things_ok (g : Int) (h1 : 10 ^ 20 ≤ g) (h2 : g < 10 ^ 20 + 1000) (i : Nat) (d : D) (h : (things g)[i]? = some d) : ShowOk d := by
  match i, h with
  | 0, h => cases h; exact ⟨by decide +kernel, by decide +kernel⟩
  | 1, h => cases h; exact ⟨by decide +kernel, by decide +kernel⟩
  | 2, h => cases h; exact ⟨by decide +kernel, by decide +kernel⟩
  | 3, h => cases h; exact ⟨by decide +kernel, by decide +kernel⟩
  | 4, h => cases h; exact ⟨by decide +kernel, by decide +kernel⟩
  | 5, h => cases h; exact ⟨by decide +kernel, by decide +kernel⟩
  | 6, h => cases h; exact great_ok g h1 h2
  | 7, h => cases h; exact ⟨by decide +kernel, by decide +kernel⟩
  | 8, h => cases h; exact ⟨by decide +kernel, by decide +kernel⟩
  | 9, h => cases h; exact ⟨by decide +kernel, by decide +kernel⟩
  | 10, h => cases h; exact ⟨by decide +kernel, by decide +kernel⟩
  | 11, h => cases h; exact ⟨by decide +kernel, by decide +kernel⟩
  | 12, h => cases h; exact ⟨by decide +kernel, by decide +kernel⟩
  | 13, h => cases h; exact ⟨by decide +kernel, by decide +kernel⟩
  | 14, h => cases h; exact ⟨by decide +kernel, by decide +kernel⟩
  | 15, h => cases h; exact ⟨by decide +kernel, by decide +kernel⟩
  | 16, h => cases h; exact ⟨by decide +kernel, by decide +kernel⟩
  | 17, h => cases h; exact ⟨by decide +kernel, by decide +kernel⟩
  | 18, h => simp at h
  | i + 19, h => simp at h
end K01

set_option Elab.async false
set_option linter.all false
set_option maxRecDepth 100000
set_option autoImplicit false
set_option maxHeartbeats 4000000
namespace K01
open PySem PySem.Spec L2 HM
open PyProof.Rows hiding St
/-- the urn's numbers behind at most n takes -/
structure UrnOk (n : Int) (U : List D) : Prop where
  ex : ∃ u m c, U = Urn u m c ∧ 0 ≤ u ∧ (0 ≤ m ∧ m < 2147483497) ∧ (0 ≤ c ∧ c ≤ n)
theorem take_u {x : Option (List D)} {U : List D} {n lim : Int} (h : UrnOk n U) (hn : n ≤ 100) (hl : 0 < lim) (hl2 : lim ≤ 1000) : ∃ d U', F_law_take [.loc 1, .val (.int lim)] [x, some U] = some (.val (.int d), [x, some U']) ∧ (0 ≤ d ∧ d < lim) ∧ UrnOk (n + 1) U' := by
  obtain ⟨u, m, c, rfl, a1, ⟨b1, b2⟩, ⟨c1, c2⟩⟩ := h
  obtain ⟨d, u', m', c', e, hd, hu, hm, hc⟩ := take_ok x u m c lim a1 b1 b2 c1 (by omega) hl hl2
  exact ⟨d, _, e, hd, ⟨u', m', c', rfl, hu, hm, by omega, by omega⟩⟩
theorem pick_u {x : Option (List D)} {U : List D} {n : Int} {ds : List D} (h : UrnOk n U) (hn : n ≤ 100) (hl : ds.length = 18) : ∃ (i : Nat) (d : D) (U' : List D), ds[i]? = some d ∧ F_law_pick [.loc 1, .val (.fl ds)] [x, some U] = some (.val d, [x, some U']) ∧ UrnOk (n + 1) U' := by
  obtain ⟨j, U', e, ⟨j0, j1⟩, hU⟩ := take_u (x := x) (lim := (ds.length : Int)) h hn (by omega) (by omega)
  obtain ⟨i, rfl⟩ : ∃ i : Nat, j = (i : Int) := ⟨j.toNat, by omega⟩
  have hi : i < ds.length := by omega
  refine ⟨i, ds[i], U', List.getElem?_eq_getElem hi, ?_, hU⟩
  have e2 : L2.atI ds (i : Int) = some ds[i] := atI_nat (List.getElem?_eq_getElem hi)
  unfold F_law_pick trimF fnM b_law_pick
  simp only [sSeq, sRet, mBin, mVar, mCall, aCons, aNil, fLen, tItems, lItems, List.map_cons, List.map_nil, List.length_cons, List.length_nil, List.cons_append, List.nil_append, List.getElem?_cons_zero, List.getElem?_cons_succ, e, fIx, e2, Option.map_some, List.take_succ_cons, List.take_zero]
/-- one spot of _law_right -/
def mThings : EM := (mFl (aCons (mC .non) (aCons (mC (.bl true)) (aCons (mC (.bl false)) (aCons (mC (.int 0)) (aCons (mC (.int 1)) (aCons (mNeg (mC (.int 4))) (aCons (mVar 1) (aCons (mC (.str "")) (aCons (mC (.str "one")) (aCons (mC (.str "given")) (aCons (mTup aNil) (aCons (mTup (aCons (mC (.int 1)) (aCons (mC (.int 2)) aNil))) (aCons (mTup (aCons (mTup (aCons (mC (.int 1)) (aCons (mC (.int 1)) aNil))) (aCons (mTup (aCons (mC (.int 0)) (aCons (mC (.int 1)) aNil))) aNil))) (aCons (mFl aNil) (aCons (mFl (aCons (mC (.int 1)) (aCons (mTup (aCons (mC (.int 2)) (aCons (mC (.int 3)) aNil))) aNil))) (aCons (mC (.dct [] [])) (aCons (mC (.dct ["a"] [.int 1])) (aCons (mTup (aCons (mC .non) (aCons (mFl aNil) aNil))) aNil)))))))))))))))))))
def bodyR : SM := (sSeq
  (sSet 3 (mCall F_law_pick (aCons (mVar 0) (aCons mThings aNil))))
  (sSeq
  (sIf (mtOr (mtNot (mTest (mCall F_law_is_kept (aCons (mVar 2) (aCons (mVar 3) (aCons (mC (.bl true)) aNil)))))) (mtNot (mTest (mCall F_law_is_kept (aCons (mVar 2) (aCons (mVar 3) (aCons (mC (.bl false)) aNil))))))) (sSeq
  (sRet (mC (.bl false)))
  sNx) sNx)
  sNx))
theorem right_eq : b_law_right = (sSeq
  (sSet 1 (mBin fPlus (mBin fPow (mC (.int 10)) (mC (.int 20))) (mCall F_law_take (aCons (mVar 0) (aCons (mC (.int 1000)) aNil)))))
  (sSeq
  (sFor (iRange1 (aCons (mC (.int 20)) aNil)) (.nm 2) bodyR)
  (sSeq
  (sRet (mAnd (mCall F_law_is_kind (aCons (mMk0 "NotWhole") (aCons (mC (.int 20)) aNil))) (mAnd (mCall F_law_is_kind (aCons (mMk0 "NotSafe") (aCons (mC (.int 21)) aNil))) (mCall F_law_is_kind (aCons (mMk0 "CostError") (aCons (mC (.int 22)) aNil))))))
  sNx))) := rfl
theorem range20 : upFrom 0 (20 : Int).toNat = (List.range 20).map fun (k : Nat) => D.int (k : Int) := by kernel_rfl
theorem things_at (g : Int) (x : Option (List D)) (U : List D) (a b c : Option W) : mThings [a, some (.val (.int g)), b, c] [x, some U] = some (.val (.fl (things g)), [x, some U]) := by kernel_rfl
theorem spot_ok {x : Option (List D)} {U : List D} {n g : Int} (g1 : 10 ^ 20 ≤ g) (g2 : g < 10 ^ 20 + 1000) (h : UrnOk n U) (hn : n ≤ 100) (k : Nat) (hk : k < 20) (w3 : Option W) :
    ∃ U' d, bodyR [some (.loc 1), some (.val (.int g)), some (.val (.int (k : Int))), w3] [x, some U] = some (.nx, [some (.loc 1), some (.val (.int g)), some (.val (.int (k : Int))), some (.val d)], [x, some U']) ∧ UrnOk (n + 1) U' := by
  obtain ⟨i, d, U', hi, e, hU⟩ := pick_u (x := x) (ds := things g) h hn rfl
  have hd := things_ok g g1 g2 i d hi
  have k1 := kept_all x (some U') k hk d true hd
  have k2 := kept_all x (some U') k hk d false hd
  refine ⟨U', d, ?_, hU⟩
  unfold bodyR
  simp only [sSeq, sSet, mCall, aCons, aNil, mVar, mC, List.getElem?_cons_zero, List.getElem?_cons_succ, things_at, e, List.set_cons_zero, List.set_cons_succ, sIf, mtOr, mtNot, mTest, k1, k2, Bool.not_true, sNx]
theorem loop_ok {x : Option (List D)} {g : Int} (g1 : 10 ^ 20 ≤ g) (g2 : g < 10 ^ 20 + 1000) : ∀ (l : List Nat) (n : Int) (U : List D) (w2 w3 : Option W), (∀ k ∈ l, k < 20) → UrnOk n U → n + (l.length : Int) ≤ 100 →
    ∃ U' w2' w3', forL (.nm 2) bodyR (l.map fun (k : Nat) => D.int (k : Int)) [some (.loc 1), some (.val (.int g)), w2, w3] [x, some U] = some (.nx, [some (.loc 1), some (.val (.int g)), w2', w3'], [x, some U'])
  | [], n, U, w2, w3, _, h, hn => ⟨U, w2, w3, rfl⟩
  | k :: r, n, U, w2, w3, hk, h, hn => by
    have hl : (((k :: r).length : Nat) : Int) = (r.length : Int) + 1 := by simp
    obtain ⟨U1, d, e, h1⟩ := spot_ok (x := x) g1 g2 h (by omega) k (hk k List.mem_cons_self) w3
    obtain ⟨U', w2', w3', e2⟩ := loop_ok (x := x) g1 g2 r (n + 1) U1 (some (.val (.int (k : Int)))) (some (.val d)) (fun q hq => hk q (List.mem_cons_of_mem _ hq)) h1 (by omega)
    refine ⟨U', w2', w3', ?_⟩
    simp only [List.map_cons, forL, bindT, List.set_cons_zero, List.set_cons_succ, e, e2]
theorem right_ok {x : Option (List D)} {U : List D} (h : UrnOk 0 U) : ∃ U', F_law_right [.loc 1] [x, some U] = some (.val (.bl true), [x, some U']) := by
  obtain ⟨d, U1, e, ⟨d0, d1⟩, h1⟩ := take_u (x := x) (lim := 1000) h (by decide) (by decide) (by decide)
  obtain ⟨U2, w2, w3, e2⟩ := loop_ok (x := x) (g := 10 ^ 20 + d) (by omega) (by omega) (List.range 20) (0 + 1) U1 none none (fun k hk => List.mem_range.mp hk) h1 (by decide)
  refine ⟨U2, ?_⟩
  have z : small62 20 = true := by decide
  have pw : cPow 10 20 = true := by decide
  unfold F_law_right trimF fnM
  rw [right_eq]
  have e3 : (10 : Int) ^ (20 : Int).toNat = 10 ^ 20 := by decide
  simp only [sSeq, sSet, mBin, mC, fPow, fI, pw, if_true, mCall, aCons, aNil, mVar, List.map_cons, List.map_nil, List.length_cons, List.length_nil, List.cons_append, List.nil_append, List.getElem?_cons_zero, List.getElem?_cons_succ, Nat.reduceAdd, Nat.reduceSub, List.replicate, e, fPlus, fAdd, Option.orElse, List.set_cons_zero, List.set_cons_succ, sFor, iRange1, z, range20, e3, e2, sRet, mAnd, mMk0, kd_20, kd_21, kd_22, List.take_succ_cons, List.take_zero]
end K01

set_option Elab.async false
set_option linter.all false
set_option maxRecDepth 100000
set_option autoImplicit false
set_option maxHeartbeats 4000000
namespace K01.V2
open PySem PySem.Spec L2 HM
open PyProof.Rows hiding St
theorem take_ok (x v : Option (List D)) (u m c lim : Int) (hu : 0 ≤ u) (hm : 0 ≤ m) (hm2 : m < 2147483497) (hc : 0 ≤ c) (hc2 : c ≤ 100) (hl : 0 < lim) (hl2 : lim ≤ 1000) :
    ∃ d u' m' c', F_law_take [.loc 2, .val (.int lim)] [x, v, some (Urn u m c)] = some (.val (.int d), [x, v, some (Urn u' m' c')]) ∧ (0 ≤ d ∧ d < lim) ∧ 0 ≤ u' ∧ (0 ≤ m' ∧ m' < 2147483497) ∧ (c ≤ c' ∧ c' ≤ c + 1) := by
  by_cases h : 0 < u
  · have e1 : cDivP u lim = true := cDivP_of hl (by omega)
    refine ⟨u % lim, u / lim, m, c, ?_, ⟨Int.emod_nonneg _ (by omega), Int.emod_lt_of_pos _ hl⟩, Int.ediv_nonneg hu (by omega), ⟨hm, hm2⟩, by omega, by omega⟩
    · unfold F_law_take trimF fnM b_law_take
      simp [sSeq, sIf, mTest, mBin, fGt, fB, mVar, mC, fIx, tItems, lItems, L2.atI, ixN, sPut2, mCall, aCons, aNil, fDivmod, e1, HM.putAt, cellOf?, sRet, h, Urn]
  · have h0 : u = 0 := by omega
    subst h0
    have e1 : cMul 51787 (c + 1) = true := cMul_of (by omega) (by omega)
    have e2 : cMul 29 (c + 1) = true := cMul_of (by omega) (by omega)
    obtain ⟨sd, hsd⟩ : ∃ sd, sd = (m + 51787 * (c + 1)) % 2147483497 := ⟨_, rfl⟩
    have sd0 : 0 ≤ sd := by omega
    have sd1 : sd < 2147483497 := by omega
    have e3 : cMul sd (sd % 6007 + 41011) = true := cMul_of (by omega) (by omega)
    obtain ⟨z, hz⟩ : ∃ z, z = (sd * (sd % 6007 + 41011) + 29 * (c + 1)) % 2147483497 := ⟨_, rfl⟩
    have z0 : 0 ≤ z := by rw [hz]; exact Int.emod_nonneg _ (by decide)
    have z1 : z < 2147483497 := by rw [hz]; exact Int.emod_lt_of_pos _ (by decide)
    have e4 : cDivX z 769 = true := cDivX_of (by omega) (by decide)
    refine ⟨z / 769 % lim, 0, z, c + 1, ?_, ⟨Int.emod_nonneg _ (by omega), Int.emod_lt_of_pos _ hl⟩, by omega, ⟨z0, z1⟩, by omega, by omega⟩
    unfold F_law_take trimF fnM b_law_take
    simp [sSeq, sIf, mTest, mBin, fGt, fB, mVar, mC, fIx, tItems, lItems, L2.atI, ixN, sPut, mCall, aCons, aNil, HM.putAt, cellOf?, sRet, h, Urn, fPlus, fAdd, fMul, fMod, fI, fInt, sSet, sNx, e1, e2, ← hsd, e3, ← hz, fDivX, e4, hl]
theorem mk_0 (x v y : Option (List D)) (d : D) (b : Bool) : F_law_with_value [.val (.int 0), .val d, .val (.bl b)] [x, v, y] = some (.val (.exc1 "InvalidForm" "given" d), [x, v, y]) := by cases b <;> kernel_rfl
theorem kd_0 (x v y : Option (List D)) (d : D) : F_law_is_kind [.val (.exc1 "InvalidForm" "given" d), .val (.int 0)] [x, v, y] = some (.val (.bl true), [x, v, y]) := by kernel_rfl
theorem mk_1 (x v y : Option (List D)) (d : D) (b : Bool) : F_law_with_value [.val (.int 1), .val d, .val (.bl b)] [x, v, y] = some (.val (.exc1 "InvalidTable" "given" d), [x, v, y]) := by cases b <;> kernel_rfl
theorem kd_1 (x v y : Option (List D)) (d : D) : F_law_is_kind [.val (.exc1 "InvalidTable" "given" d), .val (.int 1)] [x, v, y] = some (.val (.bl true), [x, v, y]) := by kernel_rfl
theorem mk_2 (x v y : Option (List D)) (d : D) (b : Bool) : F_law_with_value [.val (.int 2), .val d, .val (.bl b)] [x, v, y] = some (.val (.exc1 "InvalidSolver" "given" d), [x, v, y]) := by cases b <;> kernel_rfl
theorem kd_2 (x v y : Option (List D)) (d : D) : F_law_is_kind [.val (.exc1 "InvalidSolver" "given" d), .val (.int 2)] [x, v, y] = some (.val (.bl true), [x, v, y]) := by kernel_rfl
theorem mk_3 (x v y : Option (List D)) (d : D) (b : Bool) : F_law_with_value [.val (.int 3), .val d, .val (.bl b)] [x, v, y] = some (.val (.exc1 "InvalidAid" "given" d), [x, v, y]) := by cases b <;> kernel_rfl
theorem kd_3 (x v y : Option (List D)) (d : D) : F_law_is_kind [.val (.exc1 "InvalidAid" "given" d), .val (.int 3)] [x, v, y] = some (.val (.bl true), [x, v, y]) := by kernel_rfl
theorem mk_4 (x v y : Option (List D)) (d : D) (b : Bool) : F_law_with_value [.val (.int 4), .val d, .val (.bl b)] [x, v, y] = some (.val (.exc1 "InvalidShare" "given" d), [x, v, y]) := by cases b <;> kernel_rfl
theorem kd_4 (x v y : Option (List D)) (d : D) : F_law_is_kind [.val (.exc1 "InvalidShare" "given" d), .val (.int 4)] [x, v, y] = some (.val (.bl true), [x, v, y]) := by kernel_rfl
theorem mk_5 (x v y : Option (List D)) (d : D) (b : Bool) : F_law_with_value [.val (.int 5), .val d, .val (.bl b)] [x, v, y] = some (.val (.exc1 "InvalidNumber" "given" d), [x, v, y]) := by cases b <;> kernel_rfl
theorem kd_5 (x v y : Option (List D)) (d : D) : F_law_is_kind [.val (.exc1 "InvalidNumber" "given" d), .val (.int 5)] [x, v, y] = some (.val (.bl true), [x, v, y]) := by kernel_rfl
theorem mk_6 (x v y : Option (List D)) (d : D) (b : Bool) : F_law_with_value [.val (.int 6), .val d, .val (.bl b)] [x, v, y] = some (.val (.exc1 "InvalidAmount" "given" d), [x, v, y]) := by cases b <;> kernel_rfl
theorem kd_6 (x v y : Option (List D)) (d : D) : F_law_is_kind [.val (.exc1 "InvalidAmount" "given" d), .val (.int 6)] [x, v, y] = some (.val (.bl true), [x, v, y]) := by kernel_rfl
theorem mk_7 (x v y : Option (List D)) (d : D) (b : Bool) : F_law_with_value [.val (.int 7), .val d, .val (.bl b)] [x, v, y] = some (.val (.exc1 "InvalidLot" "given" d), [x, v, y]) := by cases b <;> kernel_rfl
theorem kd_7 (x v y : Option (List D)) (d : D) : F_law_is_kind [.val (.exc1 "InvalidLot" "given" d), .val (.int 7)] [x, v, y] = some (.val (.bl true), [x, v, y]) := by kernel_rfl
theorem mk_8 (x v y : Option (List D)) (d : D) (b : Bool) : F_law_with_value [.val (.int 8), .val d, .val (.bl b)] [x, v, y] = some (.val (.exc1 "InvalidSmoother" "given" d), [x, v, y]) := by cases b <;> kernel_rfl
theorem kd_8 (x v y : Option (List D)) (d : D) : F_law_is_kind [.val (.exc1 "InvalidSmoother" "given" d), .val (.int 8)] [x, v, y] = some (.val (.bl true), [x, v, y]) := by kernel_rfl
theorem mk_9 (x v y : Option (List D)) (d : D) (b : Bool) : F_law_with_value [.val (.int 9), .val d, .val (.bl b)] [x, v, y] = some (.val (.exc1 "InvalidWeight" "given" d), [x, v, y]) := by cases b <;> kernel_rfl
theorem kd_9 (x v y : Option (List D)) (d : D) : F_law_is_kind [.val (.exc1 "InvalidWeight" "given" d), .val (.int 9)] [x, v, y] = some (.val (.bl true), [x, v, y]) := by kernel_rfl
theorem mk_10 (x v y : Option (List D)) (d : D) (b : Bool) : F_law_with_value [.val (.int 10), .val d, .val (.bl b)] [x, v, y] = some (.val (.exc1 "TooMany" "given" d), [x, v, y]) := by cases b <;> kernel_rfl
theorem kd_10 (x v y : Option (List D)) (d : D) : F_law_is_kind [.val (.exc1 "TooMany" "given" d), .val (.int 10)] [x, v, y] = some (.val (.bl true), [x, v, y]) := by kernel_rfl
theorem mk_11 (x v y : Option (List D)) (d : D) (b : Bool) : F_law_with_place [.val (.int 11), .val d, .val (.bl b)] [x, v, y] = some (.val (.exc1 "InvalidRow" "index" d), [x, v, y]) := by cases b <;> kernel_rfl
theorem kd_11 (x v y : Option (List D)) (d : D) : F_law_is_kind [.val (.exc1 "InvalidRow" "index" d), .val (.int 11)] [x, v, y] = some (.val (.bl true), [x, v, y]) := by kernel_rfl
theorem mk_12 (x v y : Option (List D)) (d : D) (b : Bool) : F_law_with_place [.val (.int 12), .val d, .val (.bl b)] [x, v, y] = some (.val (.exc1 "InvalidRows" "index" d), [x, v, y]) := by cases b <;> kernel_rfl
theorem kd_12 (x v y : Option (List D)) (d : D) : F_law_is_kind [.val (.exc1 "InvalidRows" "index" d), .val (.int 12)] [x, v, y] = some (.val (.bl true), [x, v, y]) := by kernel_rfl
theorem mk_13 (x v y : Option (List D)) (d : D) (b : Bool) : F_law_with_place [.val (.int 13), .val d, .val (.bl b)] [x, v, y] = some (.val (.exc1 "InvalidMethod" "index" d), [x, v, y]) := by cases b <;> kernel_rfl
theorem kd_13 (x v y : Option (List D)) (d : D) : F_law_is_kind [.val (.exc1 "InvalidMethod" "index" d), .val (.int 13)] [x, v, y] = some (.val (.bl true), [x, v, y]) := by kernel_rfl
theorem mk_14 (x v y : Option (List D)) (d : D) (b : Bool) : F_law_with_place [.val (.int 14), .val d, .val (.bl b)] [x, v, y] = some (.val (.exc1 "InvalidSplit" "index" d), [x, v, y]) := by cases b <;> kernel_rfl
theorem kd_14 (x v y : Option (List D)) (d : D) : F_law_is_kind [.val (.exc1 "InvalidSplit" "index" d), .val (.int 14)] [x, v, y] = some (.val (.bl true), [x, v, y]) := by kernel_rfl
theorem mk_15 (x v y : Option (List D)) (d : D) (b : Bool) : F_law_with_place [.val (.int 15), .val d, .val (.bl b)] [x, v, y] = some (.val (.exc1 "InvalidLots" "index" d), [x, v, y]) := by cases b <;> kernel_rfl
theorem kd_15 (x v y : Option (List D)) (d : D) : F_law_is_kind [.val (.exc1 "InvalidLots" "index" d), .val (.int 15)] [x, v, y] = some (.val (.bl true), [x, v, y]) := by kernel_rfl
theorem mk_16 (x v y : Option (List D)) (d : D) (b : Bool) : F_law_with_place [.val (.int 16), .val d, .val (.bl b)] [x, v, y] = some (.val (.exc1 "InvalidTeam" "index" d), [x, v, y]) := by cases b <;> kernel_rfl
theorem kd_16 (x v y : Option (List D)) (d : D) : F_law_is_kind [.val (.exc1 "InvalidTeam" "index" d), .val (.int 16)] [x, v, y] = some (.val (.bl true), [x, v, y]) := by kernel_rfl
theorem mk_17 (x v y : Option (List D)) (d : D) (b : Bool) : F_law_with_place [.val (.int 17), .val d, .val (.bl b)] [x, v, y] = some (.val (.exc1 "InvalidSpans" "index" d), [x, v, y]) := by cases b <;> kernel_rfl
theorem kd_17 (x v y : Option (List D)) (d : D) : F_law_is_kind [.val (.exc1 "InvalidSpans" "index" d), .val (.int 17)] [x, v, y] = some (.val (.bl true), [x, v, y]) := by kernel_rfl
theorem mk_18 (x v y : Option (List D)) (d : D) (b : Bool) : F_law_with_place [.val (.int 18), .val d, .val (.bl b)] [x, v, y] = some (.val (.exc1 "InvalidParts" "index" d), [x, v, y]) := by cases b <;> kernel_rfl
theorem kd_18 (x v y : Option (List D)) (d : D) : F_law_is_kind [.val (.exc1 "InvalidParts" "index" d), .val (.int 18)] [x, v, y] = some (.val (.bl true), [x, v, y]) := by kernel_rfl
theorem mk_19 (x v y : Option (List D)) (d : D) (b : Bool) : F_law_with_place [.val (.int 19), .val d, .val (.bl b)] [x, v, y] = some (.val (.exc1 "InvalidLadder" "index" d), [x, v, y]) := by cases b <;> kernel_rfl
theorem kd_19 (x v y : Option (List D)) (d : D) : F_law_is_kind [.val (.exc1 "InvalidLadder" "index" d), .val (.int 19)] [x, v, y] = some (.val (.bl true), [x, v, y]) := by kernel_rfl
theorem kd_20 (x v y : Option (List D)) : F_law_is_kind [.val (.exc0 "NotWhole"), .val (.int 20)] [x, v, y] = some (.val (.bl true), [x, v, y]) := by kernel_rfl
theorem kd_21 (x v y : Option (List D)) : F_law_is_kind [.val (.exc0 "NotSafe"), .val (.int 21)] [x, v, y] = some (.val (.bl true), [x, v, y]) := by kernel_rfl
theorem kd_22 (x v y : Option (List D)) : F_law_is_kind [.val (.exc0 "CostError"), .val (.int 22)] [x, v, y] = some (.val (.bl true), [x, v, y]) := by kernel_rfl
theorem kept_v {x v y : Option (List D)} {k : Int} {c : Str} {d : D} {b : Bool} (hk : k < 11) (h1 : F_law_with_value [.val (.int k), .val d, .val (.bl b)] [x, v, y] = some (.val (.exc1 c "given" d), [x, v, y])) (h2 : F_law_is_kind [.val (.exc1 c "given" d), .val (.int k)] [x, v, y] = some (.val (.bl true), [x, v, y]))
    (hc : (fams.lookup c).isSome = true) (h3 : ShowOk d) : F_law_is_kept [.val (.int k), .val d, .val (.bl b)] [x, v, y] = some (.val (.bl true), [x, v, y]) := by
  unfold F_law_is_kept trimF fnM b_law_is_kept
  simp [sSeq, sIf, mTest, mBin, fLt, fB, mVar, mC, mCall, aCons, aNil, sRet, sSet, hk, h1, h2, mAnd, mFldF, hc, repr_at h3, eq_str h3.2]
theorem kept_p {x v y : Option (List D)} {k : Int} {c : Str} {d : D} {b : Bool} (hk : ¬ k < 11) (h1 : F_law_with_place [.val (.int k), .val d, .val (.bl b)] [x, v, y] = some (.val (.exc1 c "index" d), [x, v, y])) (h2 : F_law_is_kind [.val (.exc1 c "index" d), .val (.int k)] [x, v, y] = some (.val (.bl true), [x, v, y]))
    (hc : (fams.lookup c).isSome = true) (h3 : ShowOk d) : F_law_is_kept [.val (.int k), .val d, .val (.bl b)] [x, v, y] = some (.val (.bl true), [x, v, y]) := by
  unfold F_law_is_kept trimF fnM b_law_is_kept
  simp [sSeq, sIf, mTest, mBin, fLt, fB, mVar, mC, mCall, aCons, aNil, sRet, sSet, hk, h1, h2, mAnd, mFldF, hc, repr_at h3, eq_str h3.2, sNx]
theorem kept_all (x v y : Option (List D)) (k : Nat) (hk : k < 20) (d : D) (b : Bool) (h : ShowOk d) : F_law_is_kept [.val (.int (k : Int)), .val d, .val (.bl b)] [x, v, y] = some (.val (.bl true), [x, v, y]) := by
  match k, hk with
  | 0, _ => exact kept_v (by decide) (mk_0 x v y d b) (kd_0 x v y d) (by decide +kernel) h
  | 1, _ => exact kept_v (by decide) (mk_1 x v y d b) (kd_1 x v y d) (by decide +kernel) h
  | 2, _ => exact kept_v (by decide) (mk_2 x v y d b) (kd_2 x v y d) (by decide +kernel) h
  | 3, _ => exact kept_v (by decide) (mk_3 x v y d b) (kd_3 x v y d) (by decide +kernel) h
  | 4, _ => exact kept_v (by decide) (mk_4 x v y d b) (kd_4 x v y d) (by decide +kernel) h
  | 5, _ => exact kept_v (by decide) (mk_5 x v y d b) (kd_5 x v y d) (by decide +kernel) h
  | 6, _ => exact kept_v (by decide) (mk_6 x v y d b) (kd_6 x v y d) (by decide +kernel) h
  | 7, _ => exact kept_v (by decide) (mk_7 x v y d b) (kd_7 x v y d) (by decide +kernel) h
  | 8, _ => exact kept_v (by decide) (mk_8 x v y d b) (kd_8 x v y d) (by decide +kernel) h
  | 9, _ => exact kept_v (by decide) (mk_9 x v y d b) (kd_9 x v y d) (by decide +kernel) h
  | 10, _ => exact kept_v (by decide) (mk_10 x v y d b) (kd_10 x v y d) (by decide +kernel) h
  | 11, _ => exact kept_p (by decide) (mk_11 x v y d b) (kd_11 x v y d) (by decide +kernel) h
  | 12, _ => exact kept_p (by decide) (mk_12 x v y d b) (kd_12 x v y d) (by decide +kernel) h
  | 13, _ => exact kept_p (by decide) (mk_13 x v y d b) (kd_13 x v y d) (by decide +kernel) h
  | 14, _ => exact kept_p (by decide) (mk_14 x v y d b) (kd_14 x v y d) (by decide +kernel) h
  | 15, _ => exact kept_p (by decide) (mk_15 x v y d b) (kd_15 x v y d) (by decide +kernel) h
  | 16, _ => exact kept_p (by decide) (mk_16 x v y d b) (kd_16 x v y d) (by decide +kernel) h
  | 17, _ => exact kept_p (by decide) (mk_17 x v y d b) (kd_17 x v y d) (by decide +kernel) h
  | 18, _ => exact kept_p (by decide) (mk_18 x v y d b) (kd_18 x v y d) (by decide +kernel) h
  | 19, _ => exact kept_p (by decide) (mk_19 x v y d b) (kd_19 x v y d) (by decide +kernel) h
  | k + 20, hk => exact absurd hk (by omega)
theorem take_u {x v : Option (List D)} {U : List D} {n lim : Int} (h : UrnOk n U) (hn : n ≤ 100) (hl : 0 < lim) (hl2 : lim ≤ 1000) : ∃ d U', F_law_take [.loc 2, .val (.int lim)] [x, v, some U] = some (.val (.int d), [x, v, some U']) ∧ (0 ≤ d ∧ d < lim) ∧ UrnOk (n + 1) U' := by
  obtain ⟨u, m, c, rfl, a1, ⟨b1, b2⟩, ⟨c1, c2⟩⟩ := h
  obtain ⟨d, u', m', c', e, hd, hu, hm, hc⟩ := take_ok x v u m c lim a1 b1 b2 c1 (by omega) hl hl2
  exact ⟨d, _, e, hd, ⟨u', m', c', rfl, hu, hm, by omega, by omega⟩⟩
theorem pick_u {x v : Option (List D)} {U : List D} {n : Int} {ds : List D} (h : UrnOk n U) (hn : n ≤ 100) (hl : ds.length = 18) : ∃ (i : Nat) (d : D) (U' : List D), ds[i]? = some d ∧ F_law_pick [.loc 2, .val (.fl ds)] [x, v, some U] = some (.val d, [x, v, some U']) ∧ UrnOk (n + 1) U' := by
  obtain ⟨j, U', e, ⟨j0, j1⟩, hU⟩ := take_u (x := x) (v := v) (lim := (ds.length : Int)) h hn (by omega) (by omega)
  obtain ⟨i, rfl⟩ : ∃ i : Nat, j = (i : Int) := ⟨j.toNat, by omega⟩
  have hi : i < ds.length := by omega
  refine ⟨i, ds[i], U', List.getElem?_eq_getElem hi, ?_, hU⟩
  have e2 : L2.atI ds (i : Int) = some ds[i] := atI_nat (List.getElem?_eq_getElem hi)
  unfold F_law_pick trimF fnM b_law_pick
  simp only [sSeq, sRet, mBin, mVar, mCall, aCons, aNil, fLen, tItems, lItems, List.map_cons, List.map_nil, List.length_cons, List.length_nil, List.cons_append, List.nil_append, List.getElem?_cons_zero, List.getElem?_cons_succ, e, fIx, e2, Option.map_some, List.take_succ_cons, List.take_zero]
/-- one spot of _law_right -/
def mThings : EM := (mFl (aCons (mC .non) (aCons (mC (.bl true)) (aCons (mC (.bl false)) (aCons (mC (.int 0)) (aCons (mC (.int 1)) (aCons (mNeg (mC (.int 4))) (aCons (mVar 1) (aCons (mC (.str "")) (aCons (mC (.str "one")) (aCons (mC (.str "given")) (aCons (mTup aNil) (aCons (mTup (aCons (mC (.int 1)) (aCons (mC (.int 2)) aNil))) (aCons (mTup (aCons (mTup (aCons (mC (.int 1)) (aCons (mC (.int 1)) aNil))) (aCons (mTup (aCons (mC (.int 0)) (aCons (mC (.int 1)) aNil))) aNil))) (aCons (mFl aNil) (aCons (mFl (aCons (mC (.int 1)) (aCons (mTup (aCons (mC (.int 2)) (aCons (mC (.int 3)) aNil))) aNil))) (aCons (mC (.dct [] [])) (aCons (mC (.dct ["a"] [.int 1])) (aCons (mTup (aCons (mC .non) (aCons (mFl aNil) aNil))) aNil)))))))))))))))))))
def bodyR : SM := (sSeq
  (sSet 3 (mCall F_law_pick (aCons (mVar 0) (aCons mThings aNil))))
  (sSeq
  (sIf (mtOr (mtNot (mTest (mCall F_law_is_kept (aCons (mVar 2) (aCons (mVar 3) (aCons (mC (.bl true)) aNil)))))) (mtNot (mTest (mCall F_law_is_kept (aCons (mVar 2) (aCons (mVar 3) (aCons (mC (.bl false)) aNil))))))) (sSeq
  (sRet (mC (.bl false)))
  sNx) sNx)
  sNx))
theorem right_eq : b_law_right = (sSeq
  (sSet 1 (mBin fPlus (mBin fPow (mC (.int 10)) (mC (.int 20))) (mCall F_law_take (aCons (mVar 0) (aCons (mC (.int 1000)) aNil)))))
  (sSeq
  (sFor (iRange1 (aCons (mC (.int 20)) aNil)) (.nm 2) bodyR)
  (sSeq
  (sRet (mAnd (mCall F_law_is_kind (aCons (mMk0 "NotWhole") (aCons (mC (.int 20)) aNil))) (mAnd (mCall F_law_is_kind (aCons (mMk0 "NotSafe") (aCons (mC (.int 21)) aNil))) (mCall F_law_is_kind (aCons (mMk0 "CostError") (aCons (mC (.int 22)) aNil))))))
  sNx))) := rfl
theorem range20 : upFrom 0 (20 : Int).toNat = (List.range 20).map fun (k : Nat) => D.int (k : Int) := by kernel_rfl
theorem things_at (g : Int) (x v : Option (List D)) (U : List D) (a b c : Option W) : mThings [a, some (.val (.int g)), b, c] [x, v, some U] = some (.val (.fl (things g)), [x, v, some U]) := by kernel_rfl
theorem spot_ok {x v : Option (List D)} {U : List D} {n g : Int} (g1 : 10 ^ 20 ≤ g) (g2 : g < 10 ^ 20 + 1000) (h : UrnOk n U) (hn : n ≤ 100) (k : Nat) (hk : k < 20) (w3 : Option W) :
    ∃ U' d, bodyR [some (.loc 2), some (.val (.int g)), some (.val (.int (k : Int))), w3] [x, v, some U] = some (.nx, [some (.loc 2), some (.val (.int g)), some (.val (.int (k : Int))), some (.val d)], [x, v, some U']) ∧ UrnOk (n + 1) U' := by
  obtain ⟨i, d, U', hi, e, hU⟩ := pick_u (x := x) (v := v) (ds := things g) h hn rfl
  have hd := things_ok g g1 g2 i d hi
  have k1 := kept_all x v (some U') k hk d true hd
  have k2 := kept_all x v (some U') k hk d false hd
  refine ⟨U', d, ?_, hU⟩
  unfold bodyR
  simp only [sSeq, sSet, mCall, aCons, aNil, mVar, mC, List.getElem?_cons_zero, List.getElem?_cons_succ, things_at, e, List.set_cons_zero, List.set_cons_succ, sIf, mtOr, mtNot, mTest, k1, k2, Bool.not_true, sNx]
theorem loop_ok {x v : Option (List D)} {g : Int} (g1 : 10 ^ 20 ≤ g) (g2 : g < 10 ^ 20 + 1000) : ∀ (l : List Nat) (n : Int) (U : List D) (w2 w3 : Option W), (∀ k ∈ l, k < 20) → UrnOk n U → n + (l.length : Int) ≤ 100 →
    ∃ U' w2' w3', forL (.nm 2) bodyR (l.map fun (k : Nat) => D.int (k : Int)) [some (.loc 2), some (.val (.int g)), w2, w3] [x, v, some U] = some (.nx, [some (.loc 2), some (.val (.int g)), w2', w3'], [x, v, some U'])
  | [], n, U, w2, w3, _, h, hn => ⟨U, w2, w3, rfl⟩
  | k :: r, n, U, w2, w3, hk, h, hn => by
    have hl : (((k :: r).length : Nat) : Int) = (r.length : Int) + 1 := by simp
    obtain ⟨U1, d, e, h1⟩ := spot_ok (x := x) (v := v) g1 g2 h (by omega) k (hk k List.mem_cons_self) w3
    obtain ⟨U', w2', w3', e2⟩ := loop_ok (x := x) (v := v) g1 g2 r (n + 1) U1 (some (.val (.int (k : Int)))) (some (.val d)) (fun q hq => hk q (List.mem_cons_of_mem _ hq)) h1 (by omega)
    refine ⟨U', w2', w3', ?_⟩
    simp only [List.map_cons, forL, bindT, List.set_cons_zero, List.set_cons_succ, e, e2]
theorem right_ok {x v : Option (List D)} {U : List D} (h : UrnOk 0 U) : ∃ U', F_law_right [.loc 2] [x, v, some U] = some (.val (.bl true), [x, v, some U']) := by
  obtain ⟨d, U1, e, ⟨d0, d1⟩, h1⟩ := take_u (x := x) (v := v) (lim := 1000) h (by decide) (by decide) (by decide)
  obtain ⟨U2, w2, w3, e2⟩ := loop_ok (x := x) (v := v) (g := 10 ^ 20 + d) (by omega) (by omega) (List.range 20) (0 + 1) U1 none none (fun k hk => List.mem_range.mp hk) h1 (by decide)
  refine ⟨U2, ?_⟩
  have z : small62 20 = true := by decide
  have pw : cPow 10 20 = true := by decide
  unfold F_law_right trimF fnM
  rw [right_eq]
  have e3 : (10 : Int) ^ (20 : Int).toNat = 10 ^ 20 := by decide
  simp only [sSeq, sSet, mBin, mC, fPow, fI, pw, if_true, mCall, aCons, aNil, mVar, List.map_cons, List.map_nil, List.length_cons, List.length_nil, List.cons_append, List.nil_append, List.getElem?_cons_zero, List.getElem?_cons_succ, Nat.reduceAdd, Nat.reduceSub, List.replicate, e, fPlus, fAdd, Option.orElse, List.set_cons_zero, List.set_cons_succ, sFor, iRange1, z, range20, e3, e2, sRet, mAnd, mMk0, kd_20, kd_21, kd_22, List.take_succ_cons, List.take_zero]
end K01.V2

set_option Elab.async false
set_option linter.all false
set_option maxRecDepth 100000
set_option autoImplicit false
set_option maxHeartbeats 4000000
namespace K01
open PySem PySem.Spec L2 HM
open PyProof.Rows hiding St
def bodyU : SM := (sSeq
  (sSet 2 (mBin fMod (mCall fInt (aCons (mBin fPlus (mBin fPlus (mBin fMul (mVar 2) (mC (.int 58313))) (mBin fMod (mCall fInt (aCons (mVar 3) aNil)) (mC (.int 2147483549)))) (mC (.int 11))) aNil)) (mC (.int 2147483497))))
  sNx)
theorem urn_eq : b_law_urn = (sSeq
  (sSet 2 (mBin fPlus (mC (.int 40127)) (mBin fMul (mC (.int 6151)) (mVar 1))))
  (sSeq
  (sFor (iSeq (mCut (mVar 0) oNone (oSome (mC (.int 8))))) (.nm 3) bodyU)
  (sSeq
  (sSet 4 (mIf (mTest (mBin fLt (mVar 1) (mCall fLen (aCons (mVar 0) aNil)))) (mCall fInt (aCons (mBin fIx (mVar 0) (mVar 1)) aNil)) (mC (.int 0))))
  (sSeq
  (sSet 2 (mBin fMod (mCall fInt (aCons (mBin fPlus (mBin fPlus (mBin fMul (mVar 2) (mC (.int 29))) (mBin fMul (mBin fMod (mCall fInt (aCons (mVar 4) aNil)) (mC (.int 2147483549))) (mC (.int 30011)))) (mC (.int 3))) aNil)) (mC (.int 2147483497))))
  (sSeq
  (sRet (mCell (aCons (mIf (mtOr (mTest (mBin fLt (mVar 4) (mC (.int 0)))) (mTest (mBin fGe (mVar 4) (mBin fPow (mC (.int 10)) (mC (.int 15)))))) (mCall (fInt1 iAbs) (aCons (mVar 4) aNil)) (mC (.int 0))) (aCons (mVar 2) (aCons (mC (.int 0)) (aCons (mC (.int 1)) aNil))))))
  sNx))))) := rfl
theorem cut_ints (ns : List Int) : ∃ l : List Int, HM.cutD (ns.map D.int) none (some 8) = l.map D.int := by
  unfold HM.cutD
  exact ⟨_, by rw [← List.map_drop, ← List.map_take]⟩
theorem cell_ok (S : Sto) (w0 w1 w4 : Option W) : ∀ (l : List Int) (m : Int) (w3 : Option W), (0 ≤ m ∧ m < 2 ^ 40) → ∃ m' w3', forL (.nm 3) bodyU (l.map D.int) [w0, w1, some (.val (.int m)), w3, w4] S = some (.nx, [w0, w1, some (.val (.int m')), w3', w4], S) ∧ 0 ≤ m' ∧ m' < 2 ^ 40
  | [], m, w3, h => ⟨m, w3, rfl, h⟩
  | i :: r, m, w3, h => by
    have e1 : cMul m 58313 = true := cMul_of (by omega) (by decide)
    obtain ⟨z, hz⟩ : ∃ z, z = (m * 58313 + i % 2147483549 + 11) % 2147483497 := ⟨_, rfl⟩
    have z0 : 0 ≤ z := by rw [hz]; exact Int.emod_nonneg _ (by decide)
    have z1 : z < 2147483497 := by rw [hz]; exact Int.emod_lt_of_pos _ (by decide)
    obtain ⟨m', w3', e2, hm⟩ := cell_ok S w0 w1 w4 r z (some (.val (.int i))) ⟨z0, by omega⟩
    refine ⟨m', w3', ?_, hm⟩
    have eb : bodyU [w0, w1, some (.val (.int m)), some (.val (.int i)), w4] S = some (.nx, [w0, w1, some (.val (.int z)), some (.val (.int i)), w4], S) := by
      unfold bodyU
      simp [sSeq, sSet, mBin, mVar, mC, mCall, aCons, aNil, fPlus, fAdd, fMul, fMod, fI, fInt, e1, ← hz, sNx]
    simp only [List.map_cons, forL, bindT, List.set_cons_zero, List.set_cons_succ, eb, e2]
theorem urn_ok (ns : List Int) (t : Nat) (ht : t ≤ 1) (S : Sto) : ∃ U, F_law_urn [.val (.scr ns), .val (.int (t : Int))] S = some (.loc S.length, S ++ [some U]) ∧ UrnOk 0 U := by
  obtain ⟨l, hl⟩ := cut_ints ns
  have e0 : cMul 6151 (t : Int) = true := cMul_of (by decide) (by omega)
  obtain ⟨m0, hm0⟩ : ∃ m0, m0 = 40127 + 6151 * (t : Int) := ⟨_, rfl⟩
  obtain ⟨m, w3, e1, hm1, hm2⟩ := cell_ok S (some (.val (.scr ns))) (some (.val (.int (t : Int)))) none l m0 none (by omega)
  obtain ⟨own, ho⟩ : ∃ own : Int, (if (t : Int) < ((ns.map D.int).length : Int) then L2.atI (ns.map D.int) (t : Int) else some (.int 0)) = some (.int own) := by
    by_cases h : (t : Int) < ((ns.map D.int).length : Int)
    · rw [if_pos h]
      have h2 : t < ns.length := by rw [List.length_map] at h; omega
      exact ⟨ns[t], atI_nat (by rw [List.getElem?_map, List.getElem?_eq_getElem h2]; rfl)⟩
    · rw [if_neg h]; exact ⟨0, rfl⟩
  have e2 : cMul m 29 = true := cMul_of (by omega) (by decide)
  have r0 : 0 ≤ own % 2147483549 := Int.emod_nonneg _ (by decide)
  have r1 : own % 2147483549 < 2147483549 := Int.emod_lt_of_pos _ (by decide)
  have e3 : cMul (own % 2147483549) 30011 = true := cMul_of (by omega) (by decide)
  obtain ⟨z, hz⟩ : ∃ z, z = (m * 29 + own % 2147483549 * 30011 + 3) % 2147483497 := ⟨_, rfl⟩
  have z0 : 0 ≤ z := by rw [hz]; exact Int.emod_nonneg _ (by decide)
  have z1 : z < 2147483497 := by rw [hz]; exact Int.emod_lt_of_pos _ (by decide)
  have pw : cPow 10 15 = true := by decide
  have p15 : (10 : Int) ^ (15 : Int).toNat = 1000000000000000 := by decide
  have sl : (4 : Nat) ≤ sizeLine := by rw [sizeLine_eq]; decide
  have p15' : (10 : Int) ^ 15 = 1000000000000000 := by decide
  obtain ⟨u0, hu0⟩ : ∃ u0 : Int, u0 = if own < 0 ∨ 1000000000000000 ≤ own then iAbs own else 0 := ⟨_, rfl⟩
  have u00 : 0 ≤ u0 := by
    rw [hu0]
    split
    · unfold iAbs; split <;> omega
    · exact Int.le_refl 0
  refine ⟨Urn u0 z 0, ?_, ⟨u0, z, 0, rfl, u00, ⟨z0, z1⟩, by decide⟩⟩
  unfold F_law_urn fnM
  rw [urn_eq]
  have hif : (mIf (mTest (mBin fLt (mVar 1) (mCall fLen (aCons (mVar 0) aNil)))) (mCall fInt (aCons (mBin fIx (mVar 0) (mVar 1)) aNil)) (mC (.int 0))) [some (.val (.scr ns)), some (.val (.int (t : Int))), some (.val (.int m)), w3, none] S = some (.val (.int own), S) := by
    by_cases h : (t : Int) < ((ns.map D.int).length : Int)
    · rw [if_pos h] at ho
      have h' : (t : Int) < (ns.length : Int) := by rw [List.length_map] at h; exact h
      simp [mIf, mTest, mBin, mVar, mCall, aCons, aNil, fLen, tItems, lItems, fLt, fB, fIx, fInt, ho, h']
    · rw [if_neg h] at ho
      have h' : ¬ (t : Int) < (ns.length : Int) := by rw [List.length_map] at h; exact h
      have : own = 0 := by cases ho; rfl
      subst this
      simp [mIf, mTest, mBin, mVar, mCall, aCons, aNil, fLen, tItems, lItems, fLt, fB, mC, h']
  have hcell : ∀ (ρ : Rho), ρ[4]? = some (some (.val (.int own))) → (mIf (mtOr (mTest (mBin fLt (mVar 4) (mC (.int 0)))) (mTest (mBin fGe (mVar 4) (mBin fPow (mC (.int 10)) (mC (.int 15)))))) (mCall (fInt1 iAbs) (aCons (mVar 4) aNil)) (mC (.int 0))) ρ S = some (.val (.int u0), S) := by
    intro ρ hρ
    by_cases h : own < 0
    · rw [if_pos (.inl h)] at hu0
      simp [mIf, mtOr, mTest, mBin, mVar, mC, fLt, fB, hρ, h, mCall, aCons, aNil, fInt1, hu0]
    · by_cases h2 : 1000000000000000 ≤ own
      · rw [if_pos (.inr h2)] at hu0
        simp [mIf, mtOr, mTest, mBin, mVar, mC, fLt, fGe, fB, fPow, fI, pw, hρ, h, h2, mCall, aCons, aNil, fInt1, hu0]
      · rw [if_neg (fun z => z.elim h h2)] at hu0
        simp [mIf, mtOr, mTest, mBin, mVar, mC, fLt, fGe, fB, fPow, fI, pw, hρ, h, h2, hu0]
  have hcut : (iSeq (mCut (mVar 0) oNone (oSome (mC (.int 8))))) [some (.val (.scr ns)), some (.val (.int (t : Int))), some (.val (.int m0)), none, none] S = some (l.map D.int, S) := by
    simp [iSeq, mCut, mVar, oNone, oSome, mC, tItems, lItems, dItems, hl]
  simp only [List.map_cons, List.map_nil, List.length_cons, List.length_nil, List.cons_append, List.nil_append, Nat.reduceAdd, Nat.reduceSub, List.replicate]
  have s1 : (sSet 2 (mBin fPlus (mC (.int 40127)) (mBin fMul (mC (.int 6151)) (mVar 1)))) [some (.val (.scr ns)), some (.val (.int (t : Int))), none, none, none] S = some (.nx, [some (.val (.scr ns)), some (.val (.int (t : Int))), some (.val (.int m0)), none, none], S) := by
    simp [sSet, mBin, mC, mVar, fMul, fI, e0, fPlus, fAdd, hm0]
  simp only [sSeq, s1, sFor, hcut, e1]
  simp only [sSet, hif, List.set_cons_zero, List.set_cons_succ]
  simp [mBin, mVar, mC, fMul, fI, e2, fMod, mCall, aCons, aNil, fInt, e3, fPlus, fAdd, ← hz, sRet, mCell, hcell, vals?, sl, Urn]
theorem small_len {ns : List Int} (h : ns.length ≤ 63) : True := trivial
end K01

set_option Elab.async false
set_option linter.all false
set_option maxRecDepth 100000
set_option autoImplicit false
set_option maxHeartbeats 4000000
namespace K01
open PySem PySem.Spec L2 HM
open PyProof.Rows hiding St
theorem turns_ok (ns : List Int) : (iRange1 (aCons (mCall (fInt2 iMax) (aCons (mC (.int 1)) (aCons (mCall (fInt2 iMin) (aCons (mCall fLen (aCons (mVar 0) aNil)) (aCons (mC (.int 2)) aNil))) aNil))) aNil)) [some (.val (.scr ns)), none] [] = some (if ns.length ≤ 1 then [D.int 0] else [D.int 0, D.int 1], []) := by
  have z1 : small62 1 = true := by decide
  have z2 : small62 2 = true := by decide
  have u1 : upFrom 0 1 = [D.int 0] := rfl
  have u2 : upFrom 0 2 = [D.int 0, D.int 1] := rfl
  by_cases h : ns.length ≤ 1
  · rw [if_pos h]
    have e : iMax 1 (iMin (ns.length : Int) 2) = 1 := by unfold iMax iMin; split <;> split <;> omega
    simp [iRange1, aCons, aNil, mCall, mC, mVar, fLen, tItems, lItems, fInt2, e, z1, u1]
  · rw [if_neg h]
    have e : iMax 1 (iMin (ns.length : Int) 2) = 2 := by unfold iMax iMin; split <;> split <;> omega
    simp [iRange1, aCons, aNil, mCall, mC, mVar, fLen, tItems, lItems, fInt2, e, z2, u2]
theorem law_ok (ns : List Int) : ∃ S', F_law [.val (.scr ns)] [] = some (.val (.bl true), S') := by
  obtain ⟨U, e1, hU⟩ := urn_ok ns 0 (by decide) [some []]
  obtain ⟨U', e2⟩ := right_ok (x := some []) hU
  obtain ⟨W, e3, hW⟩ := urn_ok ns 1 (by decide) [some [.bl true], some U']
  obtain ⟨W', e4⟩ := V2.right_ok (x := some [.bl true]) (v := some U') hW
  have sl : (1 : Nat) < sizeLine := by rw [sizeLine_eq]; decide
  have sl0 : (0 : Nat) < sizeLine := by rw [sizeLine_eq]; decide
  simp at e1 e3
  have t1 := turns_ok ns
  by_cases h : ns.length ≤ 1
  · rw [if_pos h] at t1
    refine ⟨[], ?_⟩
    · unfold F_law trimF fnM b_law
      simp [sSeq, sRet, mCall, aCons, aNil, mLc, t1, lcL, bindT, wipeR, tYesM, mVar, e1, e2, sl0, fAll, lItems, bls?]
  · rw [if_neg h] at t1
    refine ⟨[], ?_⟩
    · unfold F_law trimF fnM b_law
      simp [sSeq, sRet, mCall, aCons, aNil, mLc, t1, lcL, bindT, wipeR, tYesM, mVar, e1, e2, e3, e4, sl0, sl, fAll, lItems, bls?]
end K01

set_option Elab.async false
set_option linter.all false
set_option maxRecDepth 100000
set_option maxHeartbeats 0
namespace K01
open PySem PySem.Spec PyProof.Rows L2 HM
def chk (K : PySem.W.Frag) : Bool := fams.all (clsB K fams upsN dnsN ["given", "index"]) && (ones.all (initB K) && bares.all (bareB K [.type "ValueError", .type "Exception", .type "BaseException", .type "object"]))
def fa : List He.Fa := [.glo "CostError", .glo "InvalidForm", .glo "InvalidTable", .glo "InvalidSolver", .glo "InvalidAid", .glo "InvalidShare", .glo "InvalidNumber", .glo "InvalidAmount", .glo "InvalidLot", .glo "InvalidSmoother", .glo "InvalidWeight", .glo "TooMany", .glo "InvalidRow", .glo "InvalidRows", .glo "InvalidMethod", .glo "InvalidSplit", .glo "InvalidLots", .glo "InvalidTeam", .glo "InvalidSpans", .glo "InvalidParts", .glo "InvalidLadder", .glo "NotWhole", .glo "NotSafe", .glo "_law_urn", .glo "_law_take", .glo "_law_pick", .glo "_law_with_value", .glo "_law_with_place", .glo "_law_under", .glo "_law_is_plain", .glo "_law_is_kind", .glo "_law_is_kept", .glo "_law_right", .glo "law", .free "ArithmeticError", .free "Exception", .free "LookupError", .free "RuntimeError", .free "StopIteration", .free "TypeError", .free "ValueError", .free "abs", .free "all", .free "divmod", .free "int", .free "isinstance", .free "len", .free "max", .free "min", .free "range", .free "repr"]
def fn : List He.DefD := [⟨("InvalidForm", some "__init__"), "__init__", "InvalidForm.__init__", defArgs (clsS 2), defBody (clsS 2), defScope (clsS 2), [], []⟩,
  ⟨("InvalidTable", some "__init__"), "__init__", "InvalidTable.__init__", defArgs (clsS 3), defBody (clsS 3), defScope (clsS 3), [], []⟩,
  ⟨("InvalidSolver", some "__init__"), "__init__", "InvalidSolver.__init__", defArgs (clsS 4), defBody (clsS 4), defScope (clsS 4), [], []⟩,
  ⟨("InvalidAid", some "__init__"), "__init__", "InvalidAid.__init__", defArgs (clsS 5), defBody (clsS 5), defScope (clsS 5), [], []⟩,
  ⟨("InvalidShare", some "__init__"), "__init__", "InvalidShare.__init__", defArgs (clsS 6), defBody (clsS 6), defScope (clsS 6), [], []⟩,
  ⟨("InvalidNumber", some "__init__"), "__init__", "InvalidNumber.__init__", defArgs (clsS 7), defBody (clsS 7), defScope (clsS 7), [], []⟩,
  ⟨("InvalidAmount", some "__init__"), "__init__", "InvalidAmount.__init__", defArgs (clsS 8), defBody (clsS 8), defScope (clsS 8), [], []⟩,
  ⟨("InvalidLot", some "__init__"), "__init__", "InvalidLot.__init__", defArgs (clsS 9), defBody (clsS 9), defScope (clsS 9), [], []⟩,
  ⟨("InvalidSmoother", some "__init__"), "__init__", "InvalidSmoother.__init__", defArgs (clsS 10), defBody (clsS 10), defScope (clsS 10), [], []⟩,
  ⟨("InvalidWeight", some "__init__"), "__init__", "InvalidWeight.__init__", defArgs (clsS 11), defBody (clsS 11), defScope (clsS 11), [], []⟩,
  ⟨("TooMany", some "__init__"), "__init__", "TooMany.__init__", defArgs (clsS 12), defBody (clsS 12), defScope (clsS 12), [], []⟩,
  ⟨("InvalidRow", some "__init__"), "__init__", "InvalidRow.__init__", defArgs (clsS 13), defBody (clsS 13), defScope (clsS 13), [], []⟩,
  ⟨("InvalidRows", some "__init__"), "__init__", "InvalidRows.__init__", defArgs (clsS 14), defBody (clsS 14), defScope (clsS 14), [], []⟩,
  ⟨("InvalidMethod", some "__init__"), "__init__", "InvalidMethod.__init__", defArgs (clsS 15), defBody (clsS 15), defScope (clsS 15), [], []⟩,
  ⟨("InvalidSplit", some "__init__"), "__init__", "InvalidSplit.__init__", defArgs (clsS 16), defBody (clsS 16), defScope (clsS 16), [], []⟩,
  ⟨("InvalidLots", some "__init__"), "__init__", "InvalidLots.__init__", defArgs (clsS 17), defBody (clsS 17), defScope (clsS 17), [], []⟩,
  ⟨("InvalidTeam", some "__init__"), "__init__", "InvalidTeam.__init__", defArgs (clsS 18), defBody (clsS 18), defScope (clsS 18), [], []⟩,
  ⟨("InvalidSpans", some "__init__"), "__init__", "InvalidSpans.__init__", defArgs (clsS 19), defBody (clsS 19), defScope (clsS 19), [], []⟩,
  ⟨("InvalidParts", some "__init__"), "__init__", "InvalidParts.__init__", defArgs (clsS 20), defBody (clsS 20), defScope (clsS 20), [], []⟩,
  ⟨("InvalidLadder", some "__init__"), "__init__", "InvalidLadder.__init__", defArgs (clsS 21), defBody (clsS 21), defScope (clsS 21), [], []⟩,
  ⟨("_law_urn", none), "_law_urn", "_law_urn", defArgs (topS 25), defBody (topS 25), defScope (topS 25), [], []⟩,
  ⟨("_law_take", none), "_law_take", "_law_take", defArgs (topS 26), defBody (topS 26), defScope (topS 26), [], []⟩,
  ⟨("_law_pick", none), "_law_pick", "_law_pick", defArgs (topS 27), defBody (topS 27), defScope (topS 27), [], []⟩,
  ⟨("_law_with_value", none), "_law_with_value", "_law_with_value", defArgs (topS 28), defBody (topS 28), defScope (topS 28), [], []⟩,
  ⟨("_law_with_place", none), "_law_with_place", "_law_with_place", defArgs (topS 29), defBody (topS 29), defScope (topS 29), [], []⟩,
  ⟨("_law_under", none), "_law_under", "_law_under", defArgs (topS 30), defBody (topS 30), defScope (topS 30), [], []⟩,
  ⟨("_law_is_plain", none), "_law_is_plain", "_law_is_plain", defArgs (topS 31), defBody (topS 31), defScope (topS 31), [], []⟩,
  ⟨("_law_is_kind", none), "_law_is_kind", "_law_is_kind", defArgs (topS 32), defBody (topS 32), defScope (topS 32), [], []⟩,
  ⟨("_law_is_kept", none), "_law_is_kept", "_law_is_kept", defArgs (topS 33), defBody (topS 33), defScope (topS 33), [], []⟩,
  ⟨("_law_right", none), "_law_right", "_law_right", defArgs (topS 34), defBody (topS 34), defScope (topS 34), [], []⟩,
  ⟨("law", none), "law", "law", defArgs (topS 35), defBody (topS 35), defScope (topS 35), [], []⟩]
abbrev R : PySem.W.OpenRow := PySem.W.OpenLaw.row PySem.Challenge.rw_splitcosts_k01_errors_each_of_its_own
abbrev hk : PySem.W.Hook := He.hookX 5 fa fn [] [] chk
def ob (s : PySem.W.SharedT) : He.AlX := He.obsX 5 fa fn [] [] chk (HandSHeadRun.getT s)
theorem ob_eq (s : PySem.W.SharedT) : ob s = hk.obs s.abs := He.obsX_eq (HandSHeadRun.getT_eq s)
def loose : List PySem.Str := (["CostError", "InvalidForm", "InvalidTable", "InvalidSolver", "InvalidAid", "InvalidShare", "InvalidNumber", "InvalidAmount", "InvalidLot", "InvalidSmoother", "InvalidWeight", "TooMany"] : List PySem.Str) ++ (["InvalidRow", "InvalidRows", "InvalidMethod", "InvalidSplit", "InvalidLots", "InvalidTeam", "InvalidSpans", "InvalidParts", "InvalidLadder", "NotWhole", "NotSafe", "_law_urn"] : List PySem.Str) ++ (["_law_take", "_law_pick", "_law_with_value", "_law_with_place", "_law_under", "_law_is_plain", "_law_is_kind", "_law_is_kept", "_law_right"] : List PySem.Str)
theorem run (w : World) : HandSHeadRun.RunEq R (PySem.W.view R.prog [35]) hk ob 8000 loose w := by
  intro os
  kernel_rfl

theorem sci_InvalidForm : FnScope ["self", "given"] ["self", "given"] (defScope (clsS 2)) := ⟨rfl, rfl, rfl, by decide +kernel, rfl, by decide +kernel, by decide +kernel⟩
theorem sci_InvalidTable : FnScope ["self", "given"] ["self", "given"] (defScope (clsS 3)) := ⟨rfl, rfl, rfl, by decide +kernel, rfl, by decide +kernel, by decide +kernel⟩
theorem sci_InvalidSolver : FnScope ["self", "given"] ["self", "given"] (defScope (clsS 4)) := ⟨rfl, rfl, rfl, by decide +kernel, rfl, by decide +kernel, by decide +kernel⟩
theorem sci_InvalidAid : FnScope ["self", "given"] ["self", "given"] (defScope (clsS 5)) := ⟨rfl, rfl, rfl, by decide +kernel, rfl, by decide +kernel, by decide +kernel⟩
theorem sci_InvalidShare : FnScope ["self", "given"] ["self", "given"] (defScope (clsS 6)) := ⟨rfl, rfl, rfl, by decide +kernel, rfl, by decide +kernel, by decide +kernel⟩
theorem sci_InvalidNumber : FnScope ["self", "given"] ["self", "given"] (defScope (clsS 7)) := ⟨rfl, rfl, rfl, by decide +kernel, rfl, by decide +kernel, by decide +kernel⟩
theorem sci_InvalidAmount : FnScope ["self", "given"] ["self", "given"] (defScope (clsS 8)) := ⟨rfl, rfl, rfl, by decide +kernel, rfl, by decide +kernel, by decide +kernel⟩
theorem sci_InvalidLot : FnScope ["self", "given"] ["self", "given"] (defScope (clsS 9)) := ⟨rfl, rfl, rfl, by decide +kernel, rfl, by decide +kernel, by decide +kernel⟩
theorem sci_InvalidSmoother : FnScope ["self", "given"] ["self", "given"] (defScope (clsS 10)) := ⟨rfl, rfl, rfl, by decide +kernel, rfl, by decide +kernel, by decide +kernel⟩
theorem sci_InvalidWeight : FnScope ["self", "given"] ["self", "given"] (defScope (clsS 11)) := ⟨rfl, rfl, rfl, by decide +kernel, rfl, by decide +kernel, by decide +kernel⟩
theorem sci_TooMany : FnScope ["self", "given"] ["self", "given"] (defScope (clsS 12)) := ⟨rfl, rfl, rfl, by decide +kernel, rfl, by decide +kernel, by decide +kernel⟩
theorem sci_InvalidRow : FnScope ["self", "index"] ["self", "index"] (defScope (clsS 13)) := ⟨rfl, rfl, rfl, by decide +kernel, rfl, by decide +kernel, by decide +kernel⟩
theorem sci_InvalidRows : FnScope ["self", "index"] ["self", "index"] (defScope (clsS 14)) := ⟨rfl, rfl, rfl, by decide +kernel, rfl, by decide +kernel, by decide +kernel⟩
theorem sci_InvalidMethod : FnScope ["self", "index"] ["self", "index"] (defScope (clsS 15)) := ⟨rfl, rfl, rfl, by decide +kernel, rfl, by decide +kernel, by decide +kernel⟩
theorem sci_InvalidSplit : FnScope ["self", "index"] ["self", "index"] (defScope (clsS 16)) := ⟨rfl, rfl, rfl, by decide +kernel, rfl, by decide +kernel, by decide +kernel⟩
theorem sci_InvalidLots : FnScope ["self", "index"] ["self", "index"] (defScope (clsS 17)) := ⟨rfl, rfl, rfl, by decide +kernel, rfl, by decide +kernel, by decide +kernel⟩
theorem sci_InvalidTeam : FnScope ["self", "index"] ["self", "index"] (defScope (clsS 18)) := ⟨rfl, rfl, rfl, by decide +kernel, rfl, by decide +kernel, by decide +kernel⟩
theorem sci_InvalidSpans : FnScope ["self", "index"] ["self", "index"] (defScope (clsS 19)) := ⟨rfl, rfl, rfl, by decide +kernel, rfl, by decide +kernel, by decide +kernel⟩
theorem sci_InvalidParts : FnScope ["self", "index"] ["self", "index"] (defScope (clsS 20)) := ⟨rfl, rfl, rfl, by decide +kernel, rfl, by decide +kernel, by decide +kernel⟩
theorem sci_InvalidLadder : FnScope ["self", "index"] ["self", "index"] (defScope (clsS 21)) := ⟨rfl, rfl, rfl, by decide +kernel, rfl, by decide +kernel, by decide +kernel⟩
theorem told {P : Program} {w : World} {K : PySem.W.Frag} {h : Heap} {mg : Str → Option Value} {f : Addr} (X : K.In h) (G : h.Ns mainGlobals mg) (hfa : mg ("law" : Str) = some (.ref f)) (c : He.SaysX fa fn [] [] chk w h K) :
    ∃ fd : FuncData, (∀ (s : Shared) (v : Value), BindsTo s fd { pos := [v] } [("script", v)]) ∧ ∀ base : Heap, K.In base → base.Ns mainGlobals mg → FnG P w K mg base 6 f fd ["script"] (spM K 1 F_law) := by
  have cd := c.t.d
  have hc := c.more
  unfold chk at hc
  obtain ⟨hc1, hc23⟩ := Bool.and_eq_true_iff.mp hc
  obtain ⟨hc2, hc3⟩ := Bool.and_eq_true_iff.mp hc23
  have fam : Fam K fams upsN dnsN ["given", "index"] := ⟨hc1⟩
  have ini : ∀ c : Str, c ∈ ones → initB K c = true := List.all_eq_true.mp hc2
  have bar : ∀ c : Str, c ∈ bares → bareB K bmVE c = true := List.all_eq_true.mp hc3
  cases hfa.symm.trans (He.glo_ok X G (cd.fact 33 (f := .glo "law") rfl))
  obtain ⟨d_InvalidForm, U_InvalidForm⟩ := cd.def_ 0 rfl
  obtain ⟨d_InvalidTable, U_InvalidTable⟩ := cd.def_ 1 rfl
  obtain ⟨d_InvalidSolver, U_InvalidSolver⟩ := cd.def_ 2 rfl
  obtain ⟨d_InvalidAid, U_InvalidAid⟩ := cd.def_ 3 rfl
  obtain ⟨d_InvalidShare, U_InvalidShare⟩ := cd.def_ 4 rfl
  obtain ⟨d_InvalidNumber, U_InvalidNumber⟩ := cd.def_ 5 rfl
  obtain ⟨d_InvalidAmount, U_InvalidAmount⟩ := cd.def_ 6 rfl
  obtain ⟨d_InvalidLot, U_InvalidLot⟩ := cd.def_ 7 rfl
  obtain ⟨d_InvalidSmoother, U_InvalidSmoother⟩ := cd.def_ 8 rfl
  obtain ⟨d_InvalidWeight, U_InvalidWeight⟩ := cd.def_ 9 rfl
  obtain ⟨d_TooMany, U_TooMany⟩ := cd.def_ 10 rfl
  obtain ⟨d_InvalidRow, U_InvalidRow⟩ := cd.def_ 11 rfl
  obtain ⟨d_InvalidRows, U_InvalidRows⟩ := cd.def_ 12 rfl
  obtain ⟨d_InvalidMethod, U_InvalidMethod⟩ := cd.def_ 13 rfl
  obtain ⟨d_InvalidSplit, U_InvalidSplit⟩ := cd.def_ 14 rfl
  obtain ⟨d_InvalidLots, U_InvalidLots⟩ := cd.def_ 15 rfl
  obtain ⟨d_InvalidTeam, U_InvalidTeam⟩ := cd.def_ 16 rfl
  obtain ⟨d_InvalidSpans, U_InvalidSpans⟩ := cd.def_ 17 rfl
  obtain ⟨d_InvalidParts, U_InvalidParts⟩ := cd.def_ 18 rfl
  obtain ⟨d_InvalidLadder, U_InvalidLadder⟩ := cd.def_ 19 rfl
  obtain ⟨d_law_urn, U_law_urn⟩ := cd.def_ 20 rfl
  obtain ⟨d_law_take, U_law_take⟩ := cd.def_ 21 rfl
  obtain ⟨d_law_pick, U_law_pick⟩ := cd.def_ 22 rfl
  obtain ⟨d_law_with_value, U_law_with_value⟩ := cd.def_ 23 rfl
  obtain ⟨d_law_with_place, U_law_with_place⟩ := cd.def_ 24 rfl
  obtain ⟨d_law_under, U_law_under⟩ := cd.def_ 25 rfl
  obtain ⟨d_law_is_plain, U_law_is_plain⟩ := cd.def_ 26 rfl
  obtain ⟨d_law_is_kind, U_law_is_kind⟩ := cd.def_ 27 rfl
  obtain ⟨d_law_is_kept, U_law_is_kept⟩ := cd.def_ 28 rfl
  obtain ⟨d_law_right, U_law_right⟩ := cd.def_ 29 rfl
  obtain ⟨d_law, U_law⟩ := cd.def_ 30 rfl
  obtain ⟨C_CostError, q_CostError, ns_CostError, g_CostError, kc_CostError, c_CostError⟩ := bare_of fam X G (c := "CostError") (by decide +kernel) (bar _ (by decide +kernel))
  obtain ⟨C_InvalidForm, x_InvalidForm⟩ := xcls_of (P := P) (w := w) fam X G (c := "InvalidForm") (f := "given") (st := clsS 2) (by decide +kernel) (by decide +kernel) (ini _ (by decide +kernel)) (fun_of_D U_InvalidForm) sci_InvalidForm (fun base cdv A outer s H E => pss_one (ps_ost (pv 0) (pv 1))) (fun _ _ _ _ _ _ _ _ => rfl) (fun _ _ _ _ _ _ _ _ => rfl)
  obtain ⟨C_InvalidTable, x_InvalidTable⟩ := xcls_of (P := P) (w := w) fam X G (c := "InvalidTable") (f := "given") (st := clsS 3) (by decide +kernel) (by decide +kernel) (ini _ (by decide +kernel)) (fun_of_D U_InvalidTable) sci_InvalidTable (fun base cdv A outer s H E => pss_one (ps_ost (pv 0) (pv 1))) (fun _ _ _ _ _ _ _ _ => rfl) (fun _ _ _ _ _ _ _ _ => rfl)
  obtain ⟨C_InvalidSolver, x_InvalidSolver⟩ := xcls_of (P := P) (w := w) fam X G (c := "InvalidSolver") (f := "given") (st := clsS 4) (by decide +kernel) (by decide +kernel) (ini _ (by decide +kernel)) (fun_of_D U_InvalidSolver) sci_InvalidSolver (fun base cdv A outer s H E => pss_one (ps_ost (pv 0) (pv 1))) (fun _ _ _ _ _ _ _ _ => rfl) (fun _ _ _ _ _ _ _ _ => rfl)
  obtain ⟨C_InvalidAid, x_InvalidAid⟩ := xcls_of (P := P) (w := w) fam X G (c := "InvalidAid") (f := "given") (st := clsS 5) (by decide +kernel) (by decide +kernel) (ini _ (by decide +kernel)) (fun_of_D U_InvalidAid) sci_InvalidAid (fun base cdv A outer s H E => pss_one (ps_ost (pv 0) (pv 1))) (fun _ _ _ _ _ _ _ _ => rfl) (fun _ _ _ _ _ _ _ _ => rfl)
  obtain ⟨C_InvalidShare, x_InvalidShare⟩ := xcls_of (P := P) (w := w) fam X G (c := "InvalidShare") (f := "given") (st := clsS 6) (by decide +kernel) (by decide +kernel) (ini _ (by decide +kernel)) (fun_of_D U_InvalidShare) sci_InvalidShare (fun base cdv A outer s H E => pss_one (ps_ost (pv 0) (pv 1))) (fun _ _ _ _ _ _ _ _ => rfl) (fun _ _ _ _ _ _ _ _ => rfl)
  obtain ⟨C_InvalidNumber, x_InvalidNumber⟩ := xcls_of (P := P) (w := w) fam X G (c := "InvalidNumber") (f := "given") (st := clsS 7) (by decide +kernel) (by decide +kernel) (ini _ (by decide +kernel)) (fun_of_D U_InvalidNumber) sci_InvalidNumber (fun base cdv A outer s H E => pss_one (ps_ost (pv 0) (pv 1))) (fun _ _ _ _ _ _ _ _ => rfl) (fun _ _ _ _ _ _ _ _ => rfl)
  obtain ⟨C_InvalidAmount, x_InvalidAmount⟩ := xcls_of (P := P) (w := w) fam X G (c := "InvalidAmount") (f := "given") (st := clsS 8) (by decide +kernel) (by decide +kernel) (ini _ (by decide +kernel)) (fun_of_D U_InvalidAmount) sci_InvalidAmount (fun base cdv A outer s H E => pss_one (ps_ost (pv 0) (pv 1))) (fun _ _ _ _ _ _ _ _ => rfl) (fun _ _ _ _ _ _ _ _ => rfl)
  obtain ⟨C_InvalidLot, x_InvalidLot⟩ := xcls_of (P := P) (w := w) fam X G (c := "InvalidLot") (f := "given") (st := clsS 9) (by decide +kernel) (by decide +kernel) (ini _ (by decide +kernel)) (fun_of_D U_InvalidLot) sci_InvalidLot (fun base cdv A outer s H E => pss_one (ps_ost (pv 0) (pv 1))) (fun _ _ _ _ _ _ _ _ => rfl) (fun _ _ _ _ _ _ _ _ => rfl)
  obtain ⟨C_InvalidSmoother, x_InvalidSmoother⟩ := xcls_of (P := P) (w := w) fam X G (c := "InvalidSmoother") (f := "given") (st := clsS 10) (by decide +kernel) (by decide +kernel) (ini _ (by decide +kernel)) (fun_of_D U_InvalidSmoother) sci_InvalidSmoother (fun base cdv A outer s H E => pss_one (ps_ost (pv 0) (pv 1))) (fun _ _ _ _ _ _ _ _ => rfl) (fun _ _ _ _ _ _ _ _ => rfl)
  obtain ⟨C_InvalidWeight, x_InvalidWeight⟩ := xcls_of (P := P) (w := w) fam X G (c := "InvalidWeight") (f := "given") (st := clsS 11) (by decide +kernel) (by decide +kernel) (ini _ (by decide +kernel)) (fun_of_D U_InvalidWeight) sci_InvalidWeight (fun base cdv A outer s H E => pss_one (ps_ost (pv 0) (pv 1))) (fun _ _ _ _ _ _ _ _ => rfl) (fun _ _ _ _ _ _ _ _ => rfl)
  obtain ⟨C_TooMany, x_TooMany⟩ := xcls_of (P := P) (w := w) fam X G (c := "TooMany") (f := "given") (st := clsS 12) (by decide +kernel) (by decide +kernel) (ini _ (by decide +kernel)) (fun_of_D U_TooMany) sci_TooMany (fun base cdv A outer s H E => pss_one (ps_ost (pv 0) (pv 1))) (fun _ _ _ _ _ _ _ _ => rfl) (fun _ _ _ _ _ _ _ _ => rfl)
  obtain ⟨C_InvalidRow, x_InvalidRow⟩ := xcls_of (P := P) (w := w) fam X G (c := "InvalidRow") (f := "index") (st := clsS 13) (by decide +kernel) (by decide +kernel) (ini _ (by decide +kernel)) (fun_of_D U_InvalidRow) sci_InvalidRow (fun base cdv A outer s H E => pss_one (ps_ost (pv 0) (pv 1))) (fun _ _ _ _ _ _ _ _ => rfl) (fun _ _ _ _ _ _ _ _ => rfl)
  obtain ⟨C_InvalidRows, x_InvalidRows⟩ := xcls_of (P := P) (w := w) fam X G (c := "InvalidRows") (f := "index") (st := clsS 14) (by decide +kernel) (by decide +kernel) (ini _ (by decide +kernel)) (fun_of_D U_InvalidRows) sci_InvalidRows (fun base cdv A outer s H E => pss_one (ps_ost (pv 0) (pv 1))) (fun _ _ _ _ _ _ _ _ => rfl) (fun _ _ _ _ _ _ _ _ => rfl)
  obtain ⟨C_InvalidMethod, x_InvalidMethod⟩ := xcls_of (P := P) (w := w) fam X G (c := "InvalidMethod") (f := "index") (st := clsS 15) (by decide +kernel) (by decide +kernel) (ini _ (by decide +kernel)) (fun_of_D U_InvalidMethod) sci_InvalidMethod (fun base cdv A outer s H E => pss_one (ps_ost (pv 0) (pv 1))) (fun _ _ _ _ _ _ _ _ => rfl) (fun _ _ _ _ _ _ _ _ => rfl)
  obtain ⟨C_InvalidSplit, x_InvalidSplit⟩ := xcls_of (P := P) (w := w) fam X G (c := "InvalidSplit") (f := "index") (st := clsS 16) (by decide +kernel) (by decide +kernel) (ini _ (by decide +kernel)) (fun_of_D U_InvalidSplit) sci_InvalidSplit (fun base cdv A outer s H E => pss_one (ps_ost (pv 0) (pv 1))) (fun _ _ _ _ _ _ _ _ => rfl) (fun _ _ _ _ _ _ _ _ => rfl)
  obtain ⟨C_InvalidLots, x_InvalidLots⟩ := xcls_of (P := P) (w := w) fam X G (c := "InvalidLots") (f := "index") (st := clsS 17) (by decide +kernel) (by decide +kernel) (ini _ (by decide +kernel)) (fun_of_D U_InvalidLots) sci_InvalidLots (fun base cdv A outer s H E => pss_one (ps_ost (pv 0) (pv 1))) (fun _ _ _ _ _ _ _ _ => rfl) (fun _ _ _ _ _ _ _ _ => rfl)
  obtain ⟨C_InvalidTeam, x_InvalidTeam⟩ := xcls_of (P := P) (w := w) fam X G (c := "InvalidTeam") (f := "index") (st := clsS 18) (by decide +kernel) (by decide +kernel) (ini _ (by decide +kernel)) (fun_of_D U_InvalidTeam) sci_InvalidTeam (fun base cdv A outer s H E => pss_one (ps_ost (pv 0) (pv 1))) (fun _ _ _ _ _ _ _ _ => rfl) (fun _ _ _ _ _ _ _ _ => rfl)
  obtain ⟨C_InvalidSpans, x_InvalidSpans⟩ := xcls_of (P := P) (w := w) fam X G (c := "InvalidSpans") (f := "index") (st := clsS 19) (by decide +kernel) (by decide +kernel) (ini _ (by decide +kernel)) (fun_of_D U_InvalidSpans) sci_InvalidSpans (fun base cdv A outer s H E => pss_one (ps_ost (pv 0) (pv 1))) (fun _ _ _ _ _ _ _ _ => rfl) (fun _ _ _ _ _ _ _ _ => rfl)
  obtain ⟨C_InvalidParts, x_InvalidParts⟩ := xcls_of (P := P) (w := w) fam X G (c := "InvalidParts") (f := "index") (st := clsS 20) (by decide +kernel) (by decide +kernel) (ini _ (by decide +kernel)) (fun_of_D U_InvalidParts) sci_InvalidParts (fun base cdv A outer s H E => pss_one (ps_ost (pv 0) (pv 1))) (fun _ _ _ _ _ _ _ _ => rfl) (fun _ _ _ _ _ _ _ _ => rfl)
  obtain ⟨C_InvalidLadder, x_InvalidLadder⟩ := xcls_of (P := P) (w := w) fam X G (c := "InvalidLadder") (f := "index") (st := clsS 21) (by decide +kernel) (by decide +kernel) (ini _ (by decide +kernel)) (fun_of_D U_InvalidLadder) sci_InvalidLadder (fun base cdv A outer s H E => pss_one (ps_ost (pv 0) (pv 1))) (fun _ _ _ _ _ _ _ _ => rfl) (fun _ _ _ _ _ _ _ _ => rfl)
  obtain ⟨C_NotWhole, q_NotWhole, ns_NotWhole, g_NotWhole, kc_NotWhole, c_NotWhole⟩ := bare_of fam X G (c := "NotWhole") (by decide +kernel) (bar _ (by decide +kernel))
  obtain ⟨C_NotSafe, q_NotSafe, ns_NotSafe, g_NotSafe, kc_NotSafe, c_NotSafe⟩ := bare_of fam X G (c := "NotSafe") (by decide +kernel) (bar _ (by decide +kernel))
  have bl := (fun_of_D (st := s_law) U_law).binds (ps := ["script"]) fun _ _ _ _ _ _ us hl => match us, hl with | [_], _ => rfl
  refine ⟨d_law, fun s v => ?_, fun base KB GB => ?_⟩
  · have := FunD.bindsA (ps := ["script"]) U_law fun _ _ _ _ _ _ us hl => match us, hl with | [_], _ => rfl
    exact this s [v] rfl
  · exact ok_law (T := {
      f_law_urn := _, d_law_urn := d_law_urn, u_law_urn := fun_of_D (st := s_law_urn) U_law_urn, g_law_urn := He.glo_ok X G (cd.fact 23 (f := .glo "_law_urn") rfl),
      f_law_take := _, d_law_take := d_law_take, u_law_take := fun_of_D (st := s_law_take) U_law_take, g_law_take := He.glo_ok X G (cd.fact 24 (f := .glo "_law_take") rfl),
      f_law_pick := _, d_law_pick := d_law_pick, u_law_pick := fun_of_D (st := s_law_pick) U_law_pick, g_law_pick := He.glo_ok X G (cd.fact 25 (f := .glo "_law_pick") rfl),
      f_law_with_value := _, d_law_with_value := d_law_with_value, u_law_with_value := fun_of_D (st := s_law_with_value) U_law_with_value, g_law_with_value := He.glo_ok X G (cd.fact 26 (f := .glo "_law_with_value") rfl),
      f_law_with_place := _, d_law_with_place := d_law_with_place, u_law_with_place := fun_of_D (st := s_law_with_place) U_law_with_place, g_law_with_place := He.glo_ok X G (cd.fact 27 (f := .glo "_law_with_place") rfl),
      f_law_under := _, d_law_under := d_law_under, u_law_under := fun_of_D (st := s_law_under) U_law_under, g_law_under := He.glo_ok X G (cd.fact 28 (f := .glo "_law_under") rfl),
      f_law_is_plain := _, d_law_is_plain := d_law_is_plain, u_law_is_plain := fun_of_D (st := s_law_is_plain) U_law_is_plain, g_law_is_plain := He.glo_ok X G (cd.fact 29 (f := .glo "_law_is_plain") rfl),
      f_law_is_kind := _, d_law_is_kind := d_law_is_kind, u_law_is_kind := fun_of_D (st := s_law_is_kind) U_law_is_kind, g_law_is_kind := He.glo_ok X G (cd.fact 30 (f := .glo "_law_is_kind") rfl),
      f_law_is_kept := _, d_law_is_kept := d_law_is_kept, u_law_is_kept := fun_of_D (st := s_law_is_kept) U_law_is_kept, g_law_is_kept := He.glo_ok X G (cd.fact 31 (f := .glo "_law_is_kept") rfl),
      f_law_right := _, d_law_right := d_law_right, u_law_right := fun_of_D (st := s_law_right) U_law_right, g_law_right := He.glo_ok X G (cd.fact 32 (f := .glo "_law_right") rfl),
      f_law := _, d_law := d_law, u_law := fun_of_D (st := s_law) U_law, g_law := He.glo_ok X G (cd.fact 33 (f := .glo "law") rfl),
      n_ArithmeticError := He.free_ok X G (cd.fact 34 (f := .free "ArithmeticError") rfl),
      n_Exception := He.free_ok X G (cd.fact 35 (f := .free "Exception") rfl),
      n_LookupError := He.free_ok X G (cd.fact 36 (f := .free "LookupError") rfl),
      n_RuntimeError := He.free_ok X G (cd.fact 37 (f := .free "RuntimeError") rfl),
      n_StopIteration := He.free_ok X G (cd.fact 38 (f := .free "StopIteration") rfl),
      n_TypeError := He.free_ok X G (cd.fact 39 (f := .free "TypeError") rfl),
      n_ValueError := He.free_ok X G (cd.fact 40 (f := .free "ValueError") rfl),
      n_abs := He.free_ok X G (cd.fact 41 (f := .free "abs") rfl),
      n_all := He.free_ok X G (cd.fact 42 (f := .free "all") rfl),
      n_divmod := He.free_ok X G (cd.fact 43 (f := .free "divmod") rfl),
      n_int := He.free_ok X G (cd.fact 44 (f := .free "int") rfl),
      n_isinstance := He.free_ok X G (cd.fact 45 (f := .free "isinstance") rfl),
      n_len := He.free_ok X G (cd.fact 46 (f := .free "len") rfl),
      n_max := He.free_ok X G (cd.fact 47 (f := .free "max") rfl),
      n_min := He.free_ok X G (cd.fact 48 (f := .free "min") rfl),
      n_range := He.free_ok X G (cd.fact 49 (f := .free "range") rfl),
      n_repr := He.free_ok X G (cd.fact 50 (f := .free "repr") rfl),
      fam := fam,
      a_CostError := C_CostError, q_CostError := q_CostError, ns_CostError := ns_CostError, g_CostError := g_CostError, kc_CostError := kc_CostError, c_CostError := c_CostError,
      a_InvalidForm := C_InvalidForm, i_InvalidForm := _, j_InvalidForm := d_InvalidForm, x_InvalidForm := x_InvalidForm base,
      a_InvalidTable := C_InvalidTable, i_InvalidTable := _, j_InvalidTable := d_InvalidTable, x_InvalidTable := x_InvalidTable base,
      a_InvalidSolver := C_InvalidSolver, i_InvalidSolver := _, j_InvalidSolver := d_InvalidSolver, x_InvalidSolver := x_InvalidSolver base,
      a_InvalidAid := C_InvalidAid, i_InvalidAid := _, j_InvalidAid := d_InvalidAid, x_InvalidAid := x_InvalidAid base,
      a_InvalidShare := C_InvalidShare, i_InvalidShare := _, j_InvalidShare := d_InvalidShare, x_InvalidShare := x_InvalidShare base,
      a_InvalidNumber := C_InvalidNumber, i_InvalidNumber := _, j_InvalidNumber := d_InvalidNumber, x_InvalidNumber := x_InvalidNumber base,
      a_InvalidAmount := C_InvalidAmount, i_InvalidAmount := _, j_InvalidAmount := d_InvalidAmount, x_InvalidAmount := x_InvalidAmount base,
      a_InvalidLot := C_InvalidLot, i_InvalidLot := _, j_InvalidLot := d_InvalidLot, x_InvalidLot := x_InvalidLot base,
      a_InvalidSmoother := C_InvalidSmoother, i_InvalidSmoother := _, j_InvalidSmoother := d_InvalidSmoother, x_InvalidSmoother := x_InvalidSmoother base,
      a_InvalidWeight := C_InvalidWeight, i_InvalidWeight := _, j_InvalidWeight := d_InvalidWeight, x_InvalidWeight := x_InvalidWeight base,
      a_TooMany := C_TooMany, i_TooMany := _, j_TooMany := d_TooMany, x_TooMany := x_TooMany base,
      a_InvalidRow := C_InvalidRow, i_InvalidRow := _, j_InvalidRow := d_InvalidRow, x_InvalidRow := x_InvalidRow base,
      a_InvalidRows := C_InvalidRows, i_InvalidRows := _, j_InvalidRows := d_InvalidRows, x_InvalidRows := x_InvalidRows base,
      a_InvalidMethod := C_InvalidMethod, i_InvalidMethod := _, j_InvalidMethod := d_InvalidMethod, x_InvalidMethod := x_InvalidMethod base,
      a_InvalidSplit := C_InvalidSplit, i_InvalidSplit := _, j_InvalidSplit := d_InvalidSplit, x_InvalidSplit := x_InvalidSplit base,
      a_InvalidLots := C_InvalidLots, i_InvalidLots := _, j_InvalidLots := d_InvalidLots, x_InvalidLots := x_InvalidLots base,
      a_InvalidTeam := C_InvalidTeam, i_InvalidTeam := _, j_InvalidTeam := d_InvalidTeam, x_InvalidTeam := x_InvalidTeam base,
      a_InvalidSpans := C_InvalidSpans, i_InvalidSpans := _, j_InvalidSpans := d_InvalidSpans, x_InvalidSpans := x_InvalidSpans base,
      a_InvalidParts := C_InvalidParts, i_InvalidParts := _, j_InvalidParts := d_InvalidParts, x_InvalidParts := x_InvalidParts base,
      a_InvalidLadder := C_InvalidLadder, i_InvalidLadder := _, j_InvalidLadder := d_InvalidLadder, x_InvalidLadder := x_InvalidLadder base,
      a_NotWhole := C_NotWhole, q_NotWhole := q_NotWhole, ns_NotWhole := ns_NotWhole, g_NotWhole := g_NotWhole, kc_NotWhole := kc_NotWhole, c_NotWhole := c_NotWhole,
      a_NotSafe := C_NotSafe, q_NotSafe := q_NotSafe, ns_NotSafe := ns_NotSafe, g_NotSafe := g_NotSafe, kc_NotSafe := kc_NotSafe, c_NotSafe := c_NotSafe })
end K01
open PySem PySem.W PySem.Calls PyProof.Rows
theorem PySem.Challenge.cw_splitcosts_k01_errors_each_of_its_own_holds : PySem.Challenge.rw_splitcosts_k01_errors_each_of_its_own.Holds := by
  w_on; o_law
  refine HandSHeadRun.head_any (r := OpenLaw.row PySem.Challenge.rw_splitcosts_k01_errors_each_of_its_own) (q := view (OpenLaw.row PySem.Challenge.rw_splitcosts_k01_errors_each_of_its_own).prog [35]) (H := K01.hk) (ob := K01.ob) (M := 8000) (loose := K01.loose) (d := HandSHeadRun.topDef (OpenLaw.row PySem.Challenge.rw_splitcosts_k01_errors_each_of_its_own).prog 35) (kwd := []) K01.ob_eq
    (by kernel_rfl) (fun s => by kernel_rfl) K01.run (by kernel_rfl) (by kernel_rfl) (by kernel_rfl) (by rfl) (by first | assumption | decide +kernel) (by decide +kernel) ⟨rfl, rfl, rfl, rfl, rfl, by decide +kernel⟩ ?hw ?hc
  case hw => w_witness2
  case hc =>
    refine HM.walk_scr (l := PySem.Challenge.rw_splitcosts_k01_errors_each_of_its_own) (n := 63) (k := 6) (x := "script") rfl (by decide) (by kernel_rfl) ⟨rfl, by decide, by decide⟩ ?F
    intro w mg fa h Y G hmg0
    obtain ⟨K, KX, c⟩ := Y
    have hmg : mg ("law" : PySem.Str) = some (.ref fa) := by
      have e : (HandSHeadRun.topDef (OpenLaw.row PySem.Challenge.rw_splitcosts_k01_errors_each_of_its_own).prog 35).name = ("law" : PySem.Str) := by kernel_rfl
      rw [← e]
      exact hmg0
    obtain ⟨fd, hb, hF⟩ := K01.told (P := (PySem.Challenge.rw_splitcosts_k01_errors_each_of_its_own).prog) (w := w) KX G hmg c
    exact ⟨K, fd, K01.F_law, KX, hb, K01.law_ok, hF⟩
