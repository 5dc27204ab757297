import PyProof.Rows.All
import Wide.All
import OpenK.AllK
import Wide.FinOn
import HandS.Base
import HandS.Call
import HandS.List
import HandS.Comp
import HandS.ExcInit
import HandS.ExcIs
import HandS.Wide
import HandS.TupAny
import HandS.TupMul
import HandS.Gcd
import HandS.WideBits
import HandS.Walk
import HandS.Zip
import HandS.More
import HandS.IsInst
import HandS.RaiseMore
import HandS.Conv
import PyProof.TypeEq
import PyProof.ReprRoads
import HandS.Words
import HandS.ExcValue
import HandS.Dict
import PyProof.RowDictHeap
import HandS.HeadHook4
import HandS.HeadHook3
import HandS.HeadHook2
import HandS.HeadHook1
import HandS.HeadEnd
import HandS.Head2
import HandS.Style
import HandS.Zip0
import KE.KDictZip
import PyProof.CollectWalk
import PyProof.TupleOfGen
import HandS.Star
import KE.KStar
import KE.GoesEnum
import KE.GoesMore
import HandS.Head3
import PySem.Challenge.RW_splitcosts_k02_tables_of_anything
set_option Elab.async false
set_option linter.all false
set_option maxRecDepth 100000
/-! A layer over the hand layer: values as data, lists that change as cells of a store, a def as a partial function. -/
namespace HM
open PySem PySem.Spec L2
open PyProof.Rows hiding St

/-- data: what never changes (a list that nobody changes any more among it) -/
inductive D where
  | non | bl (b : Bool) | int (i : Int) | str (x : Str) | tup (ds : List D) | fl (ds : List D) | scr (ns : List Int)
  /-- a dict with text keys; an error of the class with this name, without or with one field -/
  | dct (ks : List Str) (ds : List D) | exc0 (c : Str) | exc1 (c f : Str) (d : D)
  deriving Inhabited
/-- what a name holds: data, or a list that may change -/
inductive W where
  | val (d : D) | loc (l : Nat)
  deriving Inhabited

abbrev Mu := List (Option Addr)
abbrev Sto := List (Option (List D))
abbrev Rho := List (Option W)

/-- a list that is not among the cells -/
def FlAt (H : Hp) (μ : Mu) (a : Addr) (vs : List V) : Prop := H a = some (.lst vs) ∧ some a ∉ μ
/-- a list that is not ours: the script -/
def ScrAt (K : PySem.W.Frag) (H : Hp) (a : Addr) (vs : List V) : Prop := (∃ o, H a = some (.frz o (.lst vs))) ∨ SqL K (fun _ => none) a vs

mutual
inductive Rep (K : PySem.W.Frag) (H : Hp) (μ : Mu) : D → V → Prop
  | non : Rep K H μ .non .non
  | bl (b : Bool) : Rep K H μ (.bl b) (.bl b)
  | int (i : Int) : Rep K H μ (.int i) (.int i)
  | str (x : Str) : Rep K H μ (.str x) (.str x)
  | tup {a : Addr} {vs : List V} {ds : List D} : SqT K H a vs → Reps K H μ ds vs → Rep K H μ (.tup ds) (.ref a)
  | fl {a : Addr} {vs : List V} {ds : List D} : FlAt H μ a vs → Reps K H μ ds vs → Rep K H μ (.fl ds) (.ref a)
  | scr {a : Addr} {ns : List Int} : ScrAt K H a (ns.map V.int) → Rep K H μ (.scr ns) (.ref a)
  | dct {a : Addr} {ks : List Str} {vs : List V} {ds : List D} : H a = some (.dK ((ks.map Sum.inr).zip vs)) → ks.length = vs.length → Reps K H μ ds vs → Rep K H μ (.dct ks ds) (.ref a)
  | exc0 {a C : Addr} {c : Str} : PySem.W.nsIn K mainGlobals c = some (some (.ref C)) → H a = some (exo a C none) → Rep K H μ (.exc0 c) (.ref a)
  | exc1 {a C dx : Addr} {c f : Str} {d : D} {v : V} : PySem.W.nsIn K mainGlobals c = some (some (.ref C)) → H a = some (exo a C (some dx)) → H dx = some (exd dx [(f, v)]) → Rep K H μ d v → Rep K H μ (.exc1 c f d) (.ref a)
inductive Reps (K : PySem.W.Frag) (H : Hp) (μ : Mu) : List D → List V → Prop
  | nil : Reps K H μ [] []
  | cons {d : D} {v : V} {ds : List D} {vs : List V} : Rep K H μ d v → Reps K H μ ds vs → Reps K H μ (d :: ds) (v :: vs)
end

/-- the cells: live ones are lists of their own -/
structure StoreOk (K : PySem.W.Frag) (H : Hp) (μ : Mu) (S : Sto) : Prop where
  len : μ.length = S.length
  cell : ∀ (l : Nat) (ds : List D), S[l]? = some (some ds) → ∃ a vs, μ[l]? = some (some a) ∧ H a = some (.lst vs) ∧ Reps K H μ ds vs
  dead : ∀ l : Nat, S[l]? = some none → μ[l]? = some none
  inj : ∀ (l m : Nat) (a : Addr), μ[l]? = some (some a) → μ[m]? = some (some a) → l = m

/-- from one heap to a later one -/
structure Step (H : Hp) (μ : Mu) (H' : Hp) (μ' : Mu) : Prop where
  keep : ∀ a o, H a = some o → some a ∉ μ → H' a = some o
  new : ∀ a, some a ∈ μ' → some a ∈ μ ∨ H a = none
  old : ∀ (l : Nat) (a : Addr), l < μ.length → μ'[l]? = some (some a) → μ[l]? = some (some a)
  len : μ.length ≤ μ'.length

theorem Step.refl {H : Hp} {μ : Mu} : Step H μ H μ := ⟨fun _ _ h _ => h, fun _ h => .inl h, fun _ _ _ h => h, Nat.le_refl _⟩
theorem Step.trans {H1 H2 H3 : Hp} {μ1 μ2 μ3 : Mu} (a : Step H1 μ1 H2 μ2) (b : Step H2 μ2 H3 μ3) : Step H1 μ1 H3 μ3 where
  keep := fun x o h n => b.keep x o (a.keep x o h n) fun z => by
    rcases a.new x z with q | q
    · exact n q
    · rw [h] at q; cases q
  new := fun x h => by
    rcases b.new x h with q | q
    · exact a.new x q
    · cases e : H1 x with
      | none => exact .inr rfl
      | some o =>
        by_cases m : some x ∈ μ1
        · exact .inl m
        · rw [a.keep x o e m] at q; cases q
  old := fun l x hl h => a.old l x hl (b.old l x (Nat.lt_of_lt_of_le hl a.len) h)
  len := Nat.le_trans a.len b.len
/-- a new object that is no cell -/
theorem Step.alloc {H : Hp} {μ : Mu} {p : Addr} {o : HO} (hp : H p = none) : Step H μ (upd H p o) μ :=
  ⟨fun a u h _ => by rw [upd_ne (ne_of_none h hp)]; exact h, fun _ h => .inl h, fun _ _ _ h => h, Nat.le_refl _⟩

section
variable {K : PySem.W.Frag} {H H' : Hp} {μ μ' : Mu} {S : Sto}
theorem StoreOk.at (so : StoreOk K H μ S) {a : Addr} (h : some a ∈ μ) : ∃ vs, H a = some (.lst vs) := by
  obtain ⟨l, hl, e⟩ := List.getElem_of_mem h
  have e1 : μ[l]? = some (some a) := by rw [List.getElem?_eq_getElem hl, e]
  have hs : l < S.length := by rw [← so.len]; exact hl
  cases q : S[l]? with
  | none => rw [List.getElem?_eq_none_iff] at q; omega
  | some c =>
    cases c with
    | none => rw [so.dead l q] at e1; cases e1
    | some ds =>
      obtain ⟨b, vs, h1, h2, _⟩ := so.cell l ds q
      rw [h1] at e1; cases e1
      exact ⟨vs, h2⟩
theorem StoreOk.not_mu (so : StoreOk K H μ S) {a : Addr} {o : HO} (h : H a = some o) (n : ∀ vs, o ≠ .lst vs) : some a ∉ μ := fun z => by
  obtain ⟨vs, e⟩ := so.at z
  rw [h] at e; cases e
  exact n vs rfl
theorem rd_step (so : StoreOk K H μ S) (st : Step H μ H' μ') {a : Addr} {u : HO} (r : Rd H a u) (n : some a ∉ μ) : Rd H' a u := by
  rcases r with r | ⟨o, r⟩
  · exact .inl (st.keep a _ r n)
  · exact .inr ⟨o, st.keep a _ r n⟩
theorem sqT_step (so : StoreOk K H μ S) (st : Step H μ H' μ') {a : Addr} {vs : List V} (q : SqT K H a vs) : SqT K H' a vs := by
  rcases q with q | q
  · refine .inl (rd_step so st q ?_)
    rcases q with q | ⟨o, q⟩
    · exact so.not_mu q fun vs z => by cases z
    · exact so.not_mu q fun vs z => by cases z
  · exact .inr q
theorem flAt_step (so : StoreOk K H μ S) (st : Step H μ H' μ') {a : Addr} {vs : List V} (q : FlAt H μ a vs) : FlAt H' μ' a vs := by
  refine ⟨st.keep a _ q.1 q.2, fun z => ?_⟩
  rcases st.new a z with y | y
  · exact q.2 y
  · rw [q.1] at y; cases y
theorem scrAt_step (so : StoreOk K H μ S) (st : Step H μ H' μ') {a : Addr} {vs : List V} (q : ScrAt K H a vs) : ScrAt K H' a vs := by
  rcases q with ⟨o, q⟩ | q
  · exact .inl ⟨o, st.keep a _ q (so.not_mu q fun vs z => by cases z)⟩
  · exact .inr q
theorem exo_lst {e C : Addr} {d : Option Addr} {vs : List V} (z : exo e C d = .lst vs) : False := by
  have z' : HO.ext _ = HO.lst vs := z
  cases z'
theorem exd_lst {e : Addr} {fs : List (Str × V)} {vs : List V} (z : exd e fs = .lst vs) : False := by
  have z' : HO.ext _ = HO.lst vs := z
  cases z'
mutual
theorem Rep.step (so : StoreOk K H μ S) (st : Step H μ H' μ') : ∀ {d : D} {v : V}, Rep K H μ d v → Rep K H' μ' d v
  | _, _, .non => .non
  | _, _, .bl b => .bl b
  | _, _, .int i => .int i
  | _, _, .str x => .str x
  | _, _, .tup q r => .tup (sqT_step so st q) (Reps.step so st r)
  | _, _, .fl q r => .fl (flAt_step so st q) (Reps.step so st r)
  | _, _, .scr q => .scr (scrAt_step so st q)
  | _, _, .dct q l r => .dct (st.keep _ _ q (so.not_mu q fun vs z => by cases z)) l (Reps.step so st r)
  | _, _, .exc0 c q => .exc0 c (st.keep _ _ q (so.not_mu q fun vs z => exo_lst z))
  | _, _, .exc1 c q x r => .exc1 c (st.keep _ _ q (so.not_mu q fun vs z => exo_lst z)) (st.keep _ _ x (so.not_mu x fun vs z => exd_lst z)) (Rep.step so st r)
theorem Reps.step (so : StoreOk K H μ S) (st : Step H μ H' μ') : ∀ {ds : List D} {vs : List V}, Reps K H μ ds vs → Reps K H' μ' ds vs
  | _, _, .nil => .nil
  | _, _, .cons r t => .cons (Rep.step so st r) (Reps.step so st t)
end
theorem FlAt.sqL {a : Addr} {vs : List V} (q : FlAt H μ a vs) : SqL K H a vs := .inl (.inl q.1)
theorem ScrAt.sqL {a : Addr} {vs : List V} (q : ScrAt K H a vs) : SqL K H a vs := by
  rcases q with ⟨o, q⟩ | q | q
  · exact .inl (.inr ⟨o, q⟩)
  · rcases q with q | ⟨o, q⟩ <;> cases q
  · exact .inr q
theorem Reps.length : ∀ {ds : List D} {vs : List V}, Reps K H μ ds vs → ds.length = vs.length
  | _, _, .nil => rfl
  | _, _, .cons _ t => by rw [List.length_cons, List.length_cons, Reps.length t]
theorem Reps.get : ∀ {ds : List D} {vs : List V} {i : Nat} {d : D}, Reps K H μ ds vs → ds[i]? = some d → ∃ v, vs[i]? = some v ∧ Rep K H μ d v
  | _, _, _, _, .nil, e => by simp at e
  | _, _, 0, _, .cons r _, e => by
    have e' := Option.some.inj e
    subst e'
    exact ⟨_, rfl, r⟩
  | _, _, i + 1, _, .cons _ t, e => Reps.get (i := i) t e
theorem Reps.getV : ∀ {ds : List D} {vs : List V} {i : Nat} {v : V}, Reps K H μ ds vs → vs[i]? = some v → ∃ d, ds[i]? = some d ∧ Rep K H μ d v
  | _, _, _, _, .nil, e => by simp at e
  | _, _, 0, _, .cons r _, e => by
    have e' := Option.some.inj e
    subst e'
    exact ⟨_, rfl, r⟩
  | _, _, i + 1, _, .cons _ t, e => Reps.getV (i := i) t e
theorem Reps.append : ∀ {ds es : List D} {vs ws : List V}, Reps K H μ ds vs → Reps K H μ es ws → Reps K H μ (ds ++ es) (vs ++ ws)
  | _, _, _, _, .nil, s => s
  | _, _, _, _, .cons r t, s => .cons r (Reps.append t s)
theorem Reps.take : ∀ {ds : List D} {vs : List V} (n : Nat), Reps K H μ ds vs → Reps K H μ (ds.take n) (vs.take n)
  | _, _, 0, _ => .nil
  | _, _, _ + 1, .nil => .nil
  | _, _, n + 1, .cons r t => .cons r (Reps.take n t)
theorem Reps.drop : ∀ {ds : List D} {vs : List V} (n : Nat), Reps K H μ ds vs → Reps K H μ (ds.drop n) (vs.drop n)
  | _, _, 0, r => r
  | _, _, _ + 1, .nil => .nil
  | _, _, n + 1, .cons _ t => Reps.drop n t
theorem Reps.set {d : D} {v : V} (r : Rep K H μ d v) : ∀ {ds : List D} {vs : List V} (n : Nat), Reps K H μ ds vs → Reps K H μ (ds.set n d) (vs.set n v)
  | _, _, _, .nil => .nil
  | _, _, 0, .cons _ t => .cons r t
  | _, _, n + 1, .cons q t => .cons q (Reps.set r n t)
end

/-- what a name holds, as a value -/
def RepW (K : PySem.W.Frag) (H : Hp) (μ : Mu) : W → V → Prop
  | .val d, v => Rep K H μ d v
  | .loc l, v => l < μ.length ∧ ∀ a, μ[l]? = some (some a) → v = .ref a
inductive RepWs (K : PySem.W.Frag) (H : Hp) (μ : Mu) : List W → List V → Prop
  | nil : RepWs K H μ [] []
  | cons {w : W} {v : V} {ws : List W} {vs : List V} : RepW K H μ w v → RepWs K H μ ws vs → RepWs K H μ (w :: ws) (v :: vs)
structure EnvOk (K : PySem.W.Frag) (H : Hp) (μ : Mu) (ρ : Rho) (σ : St) : Prop where
  len : ρ.length = σ.length
  at_ : ∀ (i : Nat) (w : W), ρ[i]? = some (some w) → ∃ v, σ[i]? = some (some v) ∧ RepW K H μ w v
section
variable {K : PySem.W.Frag} {H H' : Hp} {μ μ' : Mu} {S S' : Sto} {ρ : Rho} {σ : St}
theorem RepW.step (so : StoreOk K H μ S) (st : Step H μ H' μ') {w : W} {v : V} (r : RepW K H μ w v) : RepW K H' μ' w v := by
  cases w with
  | val d => exact Rep.step so st r
  | loc l => exact ⟨Nat.lt_of_lt_of_le r.1 st.len, fun a h => r.2 a (st.old l a r.1 h)⟩
theorem RepWs.step (so : StoreOk K H μ S) (st : Step H μ H' μ') : ∀ {ws : List W} {vs : List V}, RepWs K H μ ws vs → RepWs K H' μ' ws vs
  | _, _, .nil => .nil
  | _, _, .cons r t => .cons (r.step so st) (RepWs.step so st t)
theorem RepWs.length : ∀ {ws : List W} {vs : List V}, RepWs K H μ ws vs → ws.length = vs.length
  | _, _, .nil => rfl
  | _, _, .cons _ t => by rw [List.length_cons, List.length_cons, RepWs.length t]
theorem RepWs.get : ∀ {ws : List W} {vs : List V} {i : Nat} {w : W}, RepWs K H μ ws vs → ws[i]? = some w → ∃ v, vs[i]? = some v ∧ RepW K H μ w v
  | _, _, _, _, .nil, e => by simp at e
  | _, _, 0, _, .cons r _, e => by
    have e' := Option.some.inj e
    subst e'
    exact ⟨_, rfl, r⟩
  | _, _, i + 1, _, .cons _ t, e => RepWs.get (i := i) t e
theorem EnvOk.step (so : StoreOk K H μ S) (st : Step H μ H' μ') (e : EnvOk K H μ ρ σ) : EnvOk K H' μ' ρ σ :=
  ⟨e.len, fun i w h => let ⟨v, h1, h2⟩ := e.at_ i w h; ⟨v, h1, h2.step so st⟩⟩
theorem EnvOk.set {w : W} {v : V} (e : EnvOk K H μ ρ σ) (r : RepW K H μ w v) (i : Nat) : EnvOk K H μ (ρ.set i (some w)) (σ.set i (some v)) := by
  refine ⟨by rw [List.length_set, List.length_set]; exact e.len, fun j u h => ?_⟩
  by_cases hj : i = j
  · subst hj
    have hl : i < ρ.length := by
      have := (List.getElem?_eq_some_iff.mp h).1
      rwa [List.length_set] at this
    rw [List.getElem?_set_self hl] at h
    cases h
    exact ⟨v, List.getElem?_set_self (by rw [← e.len]; exact hl), r⟩
  · rw [List.getElem?_set_ne hj] at h ⊢
    exact e.at_ j u h
/-- the slots of a comprehension's own names forgotten -/
def wipeR (ρ : Rho) : List Nat → Rho
  | [] => ρ
  | v :: vs => (wipeR ρ vs).set v none
theorem wipeR_length (ρ : Rho) : ∀ vs : List Nat, (wipeR ρ vs).length = ρ.length
  | [] => rfl
  | v :: vs => by unfold wipeR; rw [List.length_set, wipeR_length ρ vs]
theorem EnvOk.unset (e : EnvOk K H μ ρ σ) (i : Nat) : EnvOk K H μ (ρ.set i none) (σ.set i none) := by
  refine ⟨by rw [List.length_set, List.length_set]; exact e.len, fun j u h => ?_⟩
  by_cases hj : i = j
  · subst hj
    have hl : i < ρ.length := by
      have := (List.getElem?_eq_some_iff.mp h).1
      rwa [List.length_set] at this
    rw [List.getElem?_set_self hl] at h
    cases h
  · rw [List.getElem?_set_ne hj] at h ⊢
    exact e.at_ j u h
theorem EnvOk.wipe (e : EnvOk K H μ ρ σ) : ∀ vs : List Nat, EnvOk K H μ (wipeR ρ vs) (wipe σ vs)
  | [] => e
  | v :: vs => by
    show EnvOk K H μ ((wipeR ρ vs).set v none) ((L2.wipe σ vs).set v none)
    exact (EnvOk.wipe e vs).unset v
end

/-! ### readings -/
/-- an expression as a partial function of the slots and the store -/
abbrev EM := Rho → Sto → Option (W × Sto)
abbrev TM := Rho → Sto → Option (Bool × Sto)
abbrev AM := Rho → Sto → Option (List W × Sto)
inductive Ctl where
  | nx | ret (w : W) | brk | cnt
abbrev SM := Rho → Sto → Option (Ctl × Rho × Sto)
abbrev FM := List W → Sto → Option (W × Sto)

structure Ok (K : PySem.W.Frag) (μ : Mu) (ρ : Rho) (S : Sto) (σ : St) (H : Hp) : Prop where
  so : StoreOk K H μ S
  env : EnvOk K H μ ρ σ
theorem Ok.next {K : PySem.W.Frag} {μ μ' : Mu} {ρ : Rho} {S S' : Sto} {σ : St} {H H' : Hp} (o : Ok K μ ρ S σ H) (so : StoreOk K H' μ' S') (st : Step H μ H' μ') : Ok K μ' ρ S' σ H' := ⟨so, o.env.step o.so st⟩

def tM (K : PySem.W.Frag) (m : EM) : TE := fun σ H Q => ∃ μ ρ S w S', Ok K μ ρ S σ H ∧ m ρ S = some (w, S') ∧
  ∀ μ' v H', StoreOk K H' μ' S' → Step H μ H' μ' → RepW K H' μ' w v → Q v H'
def tT (K : PySem.W.Frag) (m : TM) : TT := fun σ H Q => ∃ μ ρ S b S', Ok K μ ρ S σ H ∧ m ρ S = some (b, S') ∧
  ∀ μ' H', StoreOk K H' μ' S' → Step H μ H' μ' → Q b H'
def tA (K : PySem.W.Frag) (m : AM) : TA := fun σ H Q => ∃ μ ρ S ws S', Ok K μ ρ S σ H ∧ m ρ S = some (ws, S') ∧
  ∀ μ' vs H', StoreOk K H' μ' S' → Step H μ H' μ' → RepWs K H' μ' ws vs → Q vs H'
def EndsOk (K : PySem.W.Frag) (D : Ends) (c : Ctl) (ρ : Rho) (μ : Mu) (H : Hp) : Prop :=
  match c with
  | .nx => ∀ σ, EnvOk K H μ ρ σ → D.nx σ H
  | .brk => ∀ σ, EnvOk K H μ ρ σ → D.bk σ H
  | .cnt => ∀ σ, EnvOk K H μ ρ σ → D.ct σ H
  | .ret w => ∀ v, RepW K H μ w v → D.rt v H
def tS (K : PySem.W.Frag) (m : SM) : TS := fun D σ H => ∃ μ ρ S c ρ' S', Ok K μ ρ S σ H ∧ m ρ S = some (c, ρ', S') ∧
  ∀ μ' H', StoreOk K H' μ' S' → Step H μ H' μ' → EndsOk K D c ρ' μ' H'

theorem PE.imp {X : Cx} {e : Expr} {t t' : TE} (h : PE X e t) (i : ∀ σ H Q, t' σ H Q → t σ H Q) : PE X e t' := ⟨fun pins s σ H Q I q => h.run pins s σ H Q I (i σ H Q q)⟩
theorem PT.imp {X : Cx} {e : Expr} {t t' : TT} (h : PT X e t) (i : ∀ σ H Q, t' σ H Q → t σ H Q) : PT X e t' := ⟨fun pins s σ H Q I q => h.run pins s σ H Q I (i σ H Q q)⟩
theorem PW.imp {X : Cx} {e : Expr} {t t' : TT} (h : PW X e t) (i : ∀ σ H Q, t' σ H Q → t σ H Q) : PW X e t' := ⟨fun wh pins s σ H Q I q => h.run wh pins s σ H Q I (i σ H Q q)⟩
theorem PA.imp {X : Cx} {e : List Expr} {t t' : TA} (h : PA X e t) (i : ∀ σ H Q, t' σ H Q → t σ H Q) : PA X e t' := ⟨fun pos pins s σ H Q I q => h.run pos pins s σ H Q I (i σ H Q q)⟩
theorem PS.imp {X : Cx} {e : Stmt} {t t' : TS} (h : PS X e t) (i : ∀ D σ H, t' D σ H → t D σ H) : PS X e t' := ⟨fun pins s σ H D I q => h.run pins s σ H D I (i D σ H q)⟩
theorem PSs.imp {X : Cx} {e : List Stmt} {t t' : TS} (h : PSs X e t) (i : ∀ D σ H, t' D σ H → t D σ H) : PSs X e t' := ⟨fun pins s σ H D I q => h.run pins s σ H D I (i D σ H q)⟩

/-! ### small expressions -/
def mVar (i : Nat) : EM := fun ρ S => match ρ[i]? with
  | some (some w) => some (w, S)
  | _ => none
def mC (d : D) : EM := fun _ S => some (.val d, S)
section
variable {X : Cx} {pos : Pos}
theorem me_var {i : Nat} {x : Str} (hN : X.N[i]? = some x) (hv : Vis X.env.scope x) (hd : (x == ("__debug__" : Str)) = false := by decide) (hcd : (x == ("__classdict__" : Str)) = false := by decide) : PE X (.Name x pos) (tM X.K (mVar i)) := by
  refine PE.imp (pe_var hN hv hd hcd) fun σ H Q q => ?_
  obtain ⟨μ, ρ, S, w, S', ok, e, k⟩ := q
  unfold mVar at e
  split at e
  · rename_i w' e1
    cases e
    obtain ⟨v, h1, h2⟩ := ok.env.at_ i _ e1
    exact ⟨v, h1, k μ v H ok.so .refl h2⟩
  · cases e
theorem me_const {e : Expr} {v : V} {d : D} (h : PE X e (tC v)) (r : ∀ H μ, Rep X.K H μ d v) : PE X e (tM X.K (mC d)) := by
  refine PE.imp h fun σ H Q q => ?_
  obtain ⟨μ, ρ, S, w, S', ok, e, k⟩ := q
  cases e
  exact k μ v H ok.so .refl (r H μ)
theorem me_int {i j} : PE X (.Constant (.int i) j pos) (tM X.K (mC (.int i))) := me_const pe_int fun _ _ => .int i
theorem me_bl {b j} : PE X (.Constant (.bool b) j pos) (tM X.K (mC (.bl b))) := me_const pe_bl fun _ _ => .bl b
theorem me_non {j} : PE X (.Constant .none j pos) (tM X.K (mC .non)) := me_const pe_non fun _ _ => .non
theorem me_str {x j} : PE X (.Constant (.str x) j pos) (tM X.K (mC (.str x))) := me_const pe_str fun _ _ => .str x
end

/-! ### two places, by values -/
abbrev F2 := W → W → Sto → Option (W × Sto)
/-- the rule r gives what f says -/
def Op2 (K : PySem.W.Frag) (r : R2) (f : F2) : Prop := ∀ (μ : Mu) (S : Sto) (H : Hp) (x y : W) (v u : V) (w : W) (S' : Sto) (Q : VK), StoreOk K H μ S → RepW K H μ x v → RepW K H μ y u → f x y S = some (w, S') →
  (∀ μ' z H', StoreOk K H' μ' S' → Step H μ H' μ' → RepW K H' μ' w z → Q z H') → r v u H Q
def mBin (f : F2) (ma mb : EM) : EM := fun ρ S => match ma ρ S with
  | some (x, S1) => match mb ρ S1 with
    | some (y, S2) => f x y S2
    | none => none
  | none => none
section
variable {X : Cx} {a b : Expr} {pos : Pos} {ma mb : EM} {r : R2} {f : F2}
theorem bin_imp (h : Op2 X.K r f) {σ : St} {H : Hp} {Q : VK} (q : tM X.K (mBin f ma mb) σ H Q) : tOp r (tM X.K ma) (tM X.K mb) σ H Q := by
  obtain ⟨μ, ρ, S, w, S', ok, e, k⟩ := q
  unfold mBin at e
  split at e
  · rename_i x S1 e1
    split at e
    · rename_i y S2 e2
      refine ⟨μ, ρ, S, x, S1, ok, e1, fun μ1 v1 H1 so1 st1 r1 => ?_⟩
      refine ⟨μ1, ρ, S1, y, S2, ok.next so1 st1, e2, fun μ2 v2 H2 so2 st2 r2 => ?_⟩
      exact h μ2 S2 H2 x y v1 v2 w S' Q so2 (r1.step so1 st2) r2 e fun μ3 z H3 so3 st3 r3 => k μ3 z H3 so3 ((st1.trans st2).trans st3) r3
    · cases e
  · cases e
theorem me_op {op : Operator} (ho : OpR X (binaryOp op) r) (h : Op2 X.K r f) (ha : PE X a (tM X.K ma)) (hb : PE X b (tM X.K mb)) : PE X (.BinOp a op b pos) (tM X.K (mBin f ma mb)) :=
  PE.imp (pe_op ho ha hb) fun σ H Q q => bin_imp h q
theorem me_cmp {op : CmpOp} (ho : OpR X (compareOp op) r) (h : Op2 X.K r f) (ha : PE X a (tM X.K ma)) (hb : PE X b (tM X.K mb)) (hm : behindInMarks op b = false) : PE X (.Compare a [op] [b] pos) (tM X.K (mBin f ma mb)) :=
  PE.imp (pe_cmpR ho ha hb hm) fun σ H Q q => bin_imp h q
theorem me_ix (hr : IxR X r) (h : Op2 X.K r f) (ha : PE X a (tM X.K ma)) (hb : PE X b (tM X.K mb)) (hs : PlainIx b) : PE X (.Subscript a b pos) (tM X.K (mBin f ma mb)) :=
  PE.imp (pe_ix hr ha hb hs) fun σ H Q q => bin_imp h q
end
/-- a value that is a bool, as a test -/
def mTest (m : EM) : TM := fun ρ S => match m ρ S with
  | some (.val (.bl b), S1) => some (b, S1)
  | _ => none
section
variable {X : Cx} {a b : Expr} {pos : Pos} {ma mb : EM} {r : R2} {f : F2}
theorem test_imp {m : EM} {σ : St} {H : Hp} {Q : Bool → Hp → Prop} (q : tT X.K (mTest m) σ H Q) : tB (tM X.K m) σ H Q := by
  obtain ⟨μ, ρ, S, w, S', ok, e, k⟩ := q
  unfold mTest at e
  split at e
  · rename_i c S1 e1
    cases e
    refine ⟨μ, ρ, S, _, _, ok, e1, fun μ1 v1 H1 so1 st1 r1 => ?_⟩
    cases r1
    exact ⟨_, rfl, k μ1 H1 so1 st1⟩
  · cases e
theorem mt_val {e : Expr} {m : EM} (h : PE X e (tM X.K m)) (he : ∀ whole, isTrue e X.env whole = (do let v ← whole; standAt e.pos; holding [v] (truthy v)) := by intro _; rfl) : PT X e (tT X.K (mTest m)) :=
  PT.imp (pt_val h he) fun σ H Q q => test_imp q
theorem mt_cmp {op : CmpOp} (ho : OpR X (compareOp op) r) (h : Op2 X.K r f) (ha : PE X a (tM X.K ma)) (hb : PE X b (tM X.K mb)) (hm : behindInMarks op b = false) : PT X (.Compare a [op] [b] pos) (tT X.K (mTest (mBin f ma mb))) := by
  refine PT.imp (pt_cmpR ho ha hb hm) fun σ H Q q => ?_
  obtain ⟨μ, ρ, S, w, S', ok, e, k⟩ := q
  unfold mTest at e
  split at e
  · rename_i c S1 e1
    cases e
    have z : tOp r (tM X.K ma) (tM X.K mb) σ H fun x H1 => ∃ c, x = .bl c ∧ Q c H1 := by
      refine bin_imp h ⟨μ, ρ, S, _, _, ok, e1, fun μ1 v1 H1 so1 st1 r1 => ?_⟩
      cases r1
      exact ⟨_, rfl, k μ1 H1 so1 st1⟩
    exact z
  · cases e
end
end HM

set_option Elab.async false
set_option linter.all false
set_option maxRecDepth 100000
namespace HM
open PySem PySem.Spec L2
open PyProof.Rows hiding St

abbrev KK (K : PySem.W.Frag) (H : Hp) (μ : Mu) (S' : Sto) (w : W) (Q : VK) : Prop := ∀ μ' z H', StoreOk K H' μ' S' → Step H μ H' μ' → RepW K H' μ' w z → Q z H'
/-- the items of a list -/
def lItems (w : W) (S : Sto) : Option (List D) := match w with
  | .val (.fl ds) => some ds
  | .val (.scr ns) => some (ns.map D.int)
  | .loc l => (S[l]?).getD none
  | _ => none
def tItems : W → Option (List D)
  | .val (.tup ds) => some ds
  | _ => none
section
variable {K : PySem.W.Frag} {H H' : Hp} {μ μ' : Mu} {S S' : Sto}
theorem reps_ints : ∀ ns : List Int, Reps K H μ (ns.map D.int) (ns.map V.int)
  | [] => .nil
  | n :: r => .cons (.int n) (reps_ints r)
theorem lItems_ok (so : StoreOk K H μ S) {w : W} {v : V} {ds : List D} (r : RepW K H μ w v) (e : lItems w S = some ds) : ∃ a vs, v = .ref a ∧ SqL K H a vs ∧ Reps K H μ ds vs := by
  cases w with
  | val d =>
    cases d with
    | fl ds' =>
      cases e
      cases (show Rep K H μ (.fl ds) v from r) with
      | fl q r' => exact ⟨_, _, rfl, q.sqL, r'⟩
    | scr ns =>
      cases e
      cases (show Rep K H μ (.scr ns) v from r) with
      | scr q => exact ⟨_, _, rfl, q.sqL, reps_ints ns⟩
    | _ => cases e
  | loc l =>
    have e' : (S[l]?).getD none = some ds := e
    cases q : S[l]? with
    | none => rw [q] at e'; cases e'
    | some c =>
      rw [q] at e'
      obtain rfl : c = some ds := e'
      obtain ⟨a, vs, h1, h2, h3⟩ := so.cell l ds q
      exact ⟨a, vs, r.2 a h1, .of h2, h3⟩
theorem tItems_ok {w : W} {v : V} {ds : List D} (r : RepW K H μ w v) (e : tItems w = some ds) : ∃ a vs, v = .ref a ∧ SqT K H a vs ∧ Reps K H μ ds vs := by
  cases w with
  | val d =>
    cases d with
    | tup ds' =>
      cases e
      cases (show Rep K H μ (.tup ds) v from r) with
      | tup q r' => exact ⟨_, _, rfl, q, r'⟩
    | _ => cases e
  | loc l => cases e
/-- a new tuple -/
theorem new_tup (so : StoreOk K H μ S) {p : Addr} {ds : List D} {vs : List V} (hp : H p = none) (r : Reps K H μ ds vs) : StoreOk K (upd H p (.tup vs)) μ S ∧ Step H μ (upd H p (.tup vs)) μ ∧ RepW K (upd H p (.tup vs)) μ (.val (.tup ds)) (.ref p) := by
  have st : Step H μ (upd H p (.tup vs)) μ := .alloc hp
  refine ⟨⟨so.len, fun l es h => ?_, so.dead, so.inj⟩, st, .tup (.of upd_same) (r.step so st)⟩
  obtain ⟨a, us, h1, h2, h3⟩ := so.cell l es h
  exact ⟨a, us, h1, by rw [upd_ne (ne_of_none h2 hp)]; exact h2, h3.step so st⟩
theorem StoreOk.alloc (so : StoreOk K H μ S) {p : Addr} {o : HO} (hp : H p = none) : StoreOk K (upd H p o) μ S := by
  have st : Step H μ (upd H p o) μ := .alloc hp
  refine ⟨so.len, fun l es h => ?_, so.dead, so.inj⟩
  obtain ⟨a, us, h1, h2, h3⟩ := so.cell l es h
  exact ⟨a, us, h1, by rw [upd_ne (ne_of_none h2 hp)]; exact h2, h3.step so st⟩
theorem StoreOk.none_mu (so : StoreOk K H μ S) {p : Addr} (hp : H p = none) : some p ∉ μ := fun z => by
  obtain ⟨vs, e⟩ := so.at z
  rw [hp] at e; cases e
/-- a new list that nobody will change -/
theorem new_fl (so : StoreOk K H μ S) {p : Addr} {ds : List D} {vs : List V} (hp : H p = none) (r : Reps K H μ ds vs) : RepW K (upd H p (.lst vs)) μ (.val (.fl ds)) (.ref p) :=
  .fl ⟨upd_same, so.none_mu hp⟩ (r.step so (.alloc hp))
/-- a new cell -/
theorem new_cell (so : StoreOk K H μ S) {p : Addr} {ds : List D} {vs : List V} (hp : H p = none) (r : Reps K H μ ds vs) :
    StoreOk K (upd H p (.lst vs)) (μ ++ [some p]) (S ++ [some ds]) ∧ Step H μ (upd H p (.lst vs)) (μ ++ [some p]) ∧ RepW K (upd H p (.lst vs)) (μ ++ [some p]) (.loc S.length) (.ref p) := by
  have st : Step H μ (upd H p (.lst vs)) (μ ++ [some p]) := by
    refine ⟨fun a u h _ => by rw [upd_ne (ne_of_none h hp)]; exact h, fun a h => ?_, fun l a hl h => ?_, by simp⟩
    · rcases List.mem_append.mp h with h | h
      · exact .inl h
      · have e : some a = some p := by simpa using h
        cases e
        exact .inr hp
    · rwa [List.getElem?_append_left hl] at h
  have old : ∀ {l : Nat} {a : Addr}, (μ ++ [some p])[l]? = some (some a) → (μ[l]? = some (some a)) ∨ (l = μ.length ∧ a = p) := fun {l a} h => by
    by_cases hl : l < μ.length
    · rw [List.getElem?_append_left hl] at h
      exact .inl h
    · rw [List.getElem?_append_right (by omega)] at h
      have h0 : l - μ.length = 0 := by
        cases q : l - μ.length with
        | zero => rfl
        | succ n => rw [q] at h; simp at h
      rw [h0] at h
      cases h
      exact .inr ⟨by omega, rfl⟩
  have np := so.none_mu hp
  have npl : ∀ {l : Nat}, μ[l]? ≠ some (some p) := fun {l} z => np (List.mem_of_getElem? z)
  refine ⟨⟨by simp [so.len], fun l es h => ?_, fun l h => ?_, fun l m a h1 h2 => ?_⟩, st, by show S.length < (μ ++ [some p]).length; rw [List.length_append, so.len]; simp, fun a h => ?_⟩
  · by_cases hl : l < S.length
    · rw [List.getElem?_append_left hl] at h
      obtain ⟨a, us, h1, h2, h3⟩ := so.cell l es h
      exact ⟨a, us, by rw [List.getElem?_append_left (by rw [so.len]; exact hl)]; exact h1, by rw [upd_ne (ne_of_none h2 hp)]; exact h2, h3.step so st⟩
    · rw [List.getElem?_append_right (by omega)] at h
      have h0 : l - S.length = 0 := by
        cases q : l - S.length with
        | zero => rfl
        | succ n => rw [q] at h; simp at h
      rw [h0] at h
      cases h
      have el : l = μ.length := by rw [so.len]; omega
      subst el
      exact ⟨p, vs, by simp, upd_same, r.step so st⟩
  · by_cases hl : l < S.length
    · rw [List.getElem?_append_left hl] at h
      rw [List.getElem?_append_left (by rw [so.len]; exact hl)]
      exact so.dead l h
    · rw [List.getElem?_append_right (by omega)] at h
      cases q : l - S.length with
      | zero => rw [q] at h; cases h
      | succ n => rw [q] at h; simp at h
  · rcases old h1 with q1 | ⟨q1, e1⟩ <;> rcases old h2 with q2 | ⟨q2, e2⟩
    · exact so.inj l m a q1 q2
    · rw [e2] at q1; exact absurd q1 npl
    · rw [e1] at q2; exact absurd q2 npl
    · omega
  · rcases old h with h | ⟨_, e⟩
    · have := (List.getElem?_eq_some_iff.mp h).1
      rw [so.len] at this
      exact absurd this (Nat.lt_irrefl _)
    · rw [e]
/-- a cell is changed -/
theorem set_cell (so : StoreOk K H μ S) {l : Nat} {a : Addr} {ds es : List D} {us : List V} (hs : S[l]? = some (some ds)) (hm : μ[l]? = some (some a)) (r : Reps K H μ es us) :
    StoreOk K (upd H a (.lst us)) μ (S.set l (some es)) ∧ Step H μ (upd H a (.lst us)) μ := by
  have ma : some a ∈ μ := List.mem_of_getElem? hm
  have st : Step H μ (upd H a (.lst us)) μ := ⟨fun b o h n => by rw [upd_ne (fun z => n (by rw [z]; exact ma))]; exact h, fun _ h => .inl h, fun _ _ _ h => h, Nat.le_refl _⟩
  have hl : l < S.length := (List.getElem?_eq_some_iff.mp hs).1
  refine ⟨⟨by rw [List.length_set]; exact so.len, fun m fs h => ?_, fun m h => ?_, so.inj⟩, st⟩
  · by_cases e : l = m
    · subst e
      rw [List.getElem?_set_self hl] at h
      cases h
      exact ⟨a, us, hm, upd_same, r.step so st⟩
    · rw [List.getElem?_set_ne e] at h
      obtain ⟨b, vs, h1, h2, h3⟩ := so.cell m fs h
      refine ⟨b, vs, h1, ?_, h3.step so st⟩
      rw [upd_ne (fun z => e (so.inj l m a hm (by rw [← z]; exact h1)))]
      exact h2
  · by_cases e : l = m
    · subst e
      rw [List.getElem?_set_self hl] at h
      cases h
    · rw [List.getElem?_set_ne e] at h
      exact so.dead m h
/-- a cell is closed: from here on it is data -/
theorem freeze (so : StoreOk K H μ S) {l : Nat} {ds : List D} {v : V} (hs : S[l]? = some (some ds)) (rv : RepW K H μ (.loc l) v) :
    StoreOk K H (μ.set l none) (S.set l none) ∧ Step H μ H (μ.set l none) ∧ RepW K H (μ.set l none) (.val (.fl ds)) v := by
  obtain ⟨a, vs, h1, h2, h3⟩ := so.cell l ds hs
  have hl : l < μ.length := rv.1
  have sub : ∀ {m : Nat} {b : Addr}, (μ.set l none)[m]? = some (some b) → μ[m]? = some (some b) ∧ m ≠ l := fun {m b} h => by
    by_cases e : l = m
    · subst e
      rw [List.getElem?_set_self hl] at h
      cases h
    · rw [List.getElem?_set_ne e] at h
      exact ⟨h, Ne.symm e⟩
  have st : Step H μ H (μ.set l none) := by
    refine ⟨fun _ _ h _ => h, fun b h => ?_, fun m b _ h => (sub h).1, by simp⟩
    obtain ⟨m, hm, e⟩ := List.getElem_of_mem h
    have e1 : (μ.set l none)[m]? = some (some b) := by rw [List.getElem?_eq_getElem hm, e]
    exact .inl (List.mem_of_getElem? (sub e1).1)
  refine ⟨⟨by simp [so.len], fun m fs h => ?_, fun m h => ?_, fun m n b x y => so.inj m n b (sub x).1 (sub y).1⟩, st, ?_⟩
  · by_cases e : l = m
    · subst e
      rw [List.getElem?_set_self (by rw [← so.len]; exact hl)] at h
      cases h
    · rw [List.getElem?_set_ne e] at h
      obtain ⟨b, us, q1, q2, q3⟩ := so.cell m fs h
      exact ⟨b, us, by rw [List.getElem?_set_ne e]; exact q1, q2, q3.step so st⟩
  · by_cases e : l = m
    · subst e
      rw [List.getElem?_set_self hl]
    · rw [List.getElem?_set_ne e] at h ⊢
      exact so.dead m h
  · rw [rv.2 a h1]
    refine .fl ⟨h2, fun z => ?_⟩ (h3.step so st)
    obtain ⟨m, hm, e⟩ := List.getElem_of_mem z
    have e1 : (μ.set l none)[m]? = some (some a) := by rw [List.getElem?_eq_getElem hm, e]
    exact (sub e1).2 (so.inj m l a (sub e1).1 h1)
end
end HM

set_option Elab.async false
set_option linter.all false
set_option maxRecDepth 100000
namespace HM
open PySem PySem.Spec L2
open PyProof.Rows hiding St

/-! ### argument lists and displays -/
def aNil : AM := fun _ S => some ([], S)
def aCons (m : EM) (r : AM) : AM := fun ρ S => match m ρ S with
  | some (w, S1) => match r ρ S1 with
    | some (ws, S2) => some (w :: ws, S2)
    | none => none
  | none => none
def vals? : List W → Option (List D)
  | [] => some []
  | .val d :: r => (vals? r).map (d :: ·)
  | .loc _ :: _ => none
theorem vals?_ok {K : PySem.W.Frag} {H : Hp} {μ : Mu} : ∀ {ws : List W} {ds : List D} {vs : List V}, vals? ws = some ds → RepWs K H μ ws vs → Reps K H μ ds vs
  | [], _, _, e, .nil => by cases e; exact .nil
  | .val d :: r, _, _, e, .cons h t => by
    unfold vals? at e
    cases q : vals? r with
    | none => rw [q] at e; cases e
    | some es =>
      rw [q] at e
      cases e
      exact .cons h (vals?_ok q t)
  | .loc _ :: _, _, _, e, _ => by cases e
/-- a display: a tuple, a list that nobody changes, a list that may change -/
def mTup (a : AM) : EM := fun ρ S => match a ρ S with
  | some (ws, S1) => match vals? ws with
    | some ds => if ds.length ≤ sizeLine then some (.val (.tup ds), S1) else none
    | none => none
  | none => none
def mFl (a : AM) : EM := fun ρ S => match a ρ S with
  | some (ws, S1) => match vals? ws with
    | some ds => if ds.length ≤ sizeLine then some (.val (.fl ds), S1) else none
    | none => none
  | none => none
def mCell (a : AM) : EM := fun ρ S => match a ρ S with
  | some (ws, S1) => match vals? ws with
    | some ds => if ds.length ≤ sizeLine then some (.loc S1.length, S1 ++ [some ds]) else none
    | none => none
  | none => none
section
variable {X : Cx} {e : Expr} {es : List Expr} {m : EM} {r : AM} {pos : Pos}
theorem ma_nil : PA X [] (tA X.K aNil) := PA.imp pa_nil fun σ H Q q => by
  obtain ⟨μ, ρ, S, ws, S', ok, e, k⟩ := q
  cases e
  exact k μ [] H ok.so .refl .nil
theorem ma_cons (h : PE X e (tM X.K m)) (hr : PA X es (tA X.K r)) (hs : starEach (e :: es) X.env = (false, eval e X.env) :: starEach es X.env := by rfl) : PA X (e :: es) (tA X.K (aCons m r)) := by
  refine PA.imp (pa_cons h hr hs) fun σ H Q q => ?_
  obtain ⟨μ, ρ, S, ws, S', ok, e, k⟩ := q
  unfold aCons at e
  split at e
  · rename_i w S1 e1
    split at e
    · rename_i us S2 e2
      cases e
      refine ⟨μ, ρ, S, w, S1, ok, e1, fun μ1 v1 H1 so1 st1 r1 => ?_⟩
      refine ⟨μ1, ρ, S1, us, _, ok.next so1 st1, e2, fun μ2 vs H2 so2 st2 r2 => ?_⟩
      exact k μ2 (v1 :: vs) H2 so2 (st1.trans st2) (.cons (r1.step so1 st2) r2)
    · cases e
  · cases e
theorem me_tup {x1} (h : PA X es (tA X.K r)) : PE X (.Tuple es x1 pos) (tM X.K (mTup r)) := by
  refine PE.imp (pe_tup h) fun σ H Q q => ?_
  obtain ⟨μ, ρ, S, w, S', ok, e, k⟩ := q
  unfold mTup at e
  split at e
  · rename_i ws S1 e1
    split at e
    · rename_i ds e2
      split at e
      · rename_i hz
        cases e
        refine ⟨μ, ρ, S, ws, _, ok, e1, fun μ1 vs H1 so1 st1 r1 => ?_⟩
        have rs := vals?_ok e2 r1
        refine ⟨by rw [← rs.length]; exact hz, fun p hp => ?_⟩
        obtain ⟨a, b, c⟩ := new_tup so1 hp rs
        exact k μ1 _ _ a (st1.trans b) c
      · cases e
    · cases e
  · cases e
theorem me_fl (h : PA X es (tA X.K r)) : PE X (.List es pos) (tM X.K (mFl r)) := by
  refine PE.imp (pe_lst h) fun σ H Q q => ?_
  obtain ⟨μ, ρ, S, w, S', ok, e, k⟩ := q
  unfold mFl at e
  split at e
  · rename_i ws S1 e1
    split at e
    · rename_i ds e2
      split at e
      · rename_i hz
        cases e
        refine ⟨μ, ρ, S, ws, _, ok, e1, fun μ1 vs H1 so1 st1 r1 => ?_⟩
        have rs := vals?_ok e2 r1
        refine ⟨by rw [← rs.length]; exact hz, fun p hp => ?_⟩
        exact k μ1 _ _ (so1.alloc hp) (st1.trans (.alloc hp)) (new_fl so1 hp rs)
      · cases e
    · cases e
  · cases e
theorem me_cell (h : PA X es (tA X.K r)) : PE X (.List es pos) (tM X.K (mCell r)) := by
  refine PE.imp (pe_lst h) fun σ H Q q => ?_
  obtain ⟨μ, ρ, S, w, S', ok, e, k⟩ := q
  unfold mCell at e
  split at e
  · rename_i ws S1 e1
    split at e
    · rename_i ds e2
      split at e
      · rename_i hz
        cases e
        refine ⟨μ, ρ, S, ws, _, ok, e1, fun μ1 vs H1 so1 st1 r1 => ?_⟩
        have rs := vals?_ok e2 r1
        refine ⟨by rw [← rs.length]; exact hz, fun p hp => ?_⟩
        obtain ⟨a, b, c⟩ := new_cell so1 hp rs
        exact k _ _ _ a (st1.trans b) c
      · cases e
    · cases e
  · cases e
/-- from here on the list is data -/
def mFreeze (m : EM) : EM := fun ρ S => match m ρ S with
  | some (.loc l, S1) => match (S1[l]?).getD none with
    | some ds => some (.val (.fl ds), S1.set l none)
    | none => none
  | _ => none
theorem me_freeze (h : PE X e (tM X.K m)) : PE X e (tM X.K (mFreeze m)) := by
  refine PE.imp h fun σ H Q q => ?_
  obtain ⟨μ, ρ, S, w, S', ok, e, k⟩ := q
  unfold mFreeze at e
  split at e
  · rename_i l S1 e1
    split at e
    · rename_i ds e2
      cases e
      refine ⟨μ, ρ, S, _, _, ok, e1, fun μ1 v H1 so1 st1 r1 => ?_⟩
      have e3 : S1[l]? = some (some ds) := by
        cases q : S1[l]? with
        | none => rw [q] at e2; cases e2
        | some c =>
          rw [q] at e2
          obtain rfl : c = some ds := e2
          rfl
      obtain ⟨a, b, c⟩ := freeze so1 e3 r1
      exact k _ _ _ a (st1.trans b) c
    · cases e
  · cases e
end

/-! ### ints -/
def fI (c : Int → Int → Bool) (g : Int → Int → Int) : F2 := fun x y S => match x, y with
  | .val (.int i), .val (.int j) => if c i j then some (.val (.int (g i j)), S) else none
  | _, _ => none
def fB (g : Int → Int → Bool) : F2 := fun x y S => match x, y with
  | .val (.int i), .val (.int j) => some (.val (.bl (g i j)), S)
  | _, _ => none
section
variable {K : PySem.W.Frag}
theorem op2_I {C : Int → Int → Prop} {c : Int → Int → Bool} {g : Int → Int → Int} (hc : ∀ i j, c i j = true → C i j) : Op2 K (rI C fun i j => .int (g i j)) (fI c g) := by
  intro μ S H x y v u w S' Q so rx ry e k
  unfold fI at e
  split at e
  · rename_i i j
    split at e
    · rename_i h
      cases e
      cases rx
      cases ry
      exact ⟨i, j, rfl, rfl, hc i j h, k μ _ H so .refl (.int _)⟩
    · cases e
  · cases e
theorem op2_I0 {g : Int → Int → Int} : Op2 K (rI0 fun i j => .int (g i j)) (fI (fun _ _ => true) g) := by
  intro μ S H x y v u w S' Q so rx ry e k
  unfold fI at e
  split at e
  · rename_i i j
    rw [if_pos rfl] at e
    cases e
    cases rx
    cases ry
    exact ⟨i, j, rfl, rfl, k μ _ H so .refl (.int _)⟩
  · cases e
theorem op2_B {g : Int → Int → Bool} : Op2 K (rI0 fun i j => .bl (g i j)) (fB g) := by
  intro μ S H x y v u w S' Q so rx ry e k
  unfold fB at e
  split at e
  · rename_i i j
    cases e
    cases rx
    cases ry
    exact ⟨i, j, rfl, rfl, k μ _ H so .refl (.bl _)⟩
  · cases e
theorem Op2.or {r r' : R2} {f : F2} {f' : F2} (h : Op2 K r f) (h' : Op2 K r' f') : Op2 K (fun x y H Q => r x y H Q ∨ r' x y H Q) (fun x y S => (f x y S).orElse fun _ => f' x y S) := by
  intro μ S H x y v u w S' Q so rx ry e k
  have e : (f x y S).orElse (fun _ => f' x y S) = some (w, S') := e
  cases q : f x y S with
  | some p =>
    rw [q] at e
    obtain rfl : p = (w, S') := Option.some.inj e
    exact .inl (h μ S H x y v u w S' Q so rx ry q k)
  | none =>
    rw [q] at e
    exact .inr (h' μ S H x y v u w S' Q so rx ry e k)
end
/-- a product that the machine makes -/
def cMul (i j : Int) : Bool := decide (i.natAbs.log2 + j.natAbs.log2 < 1000000)
theorem cMul_ok (i j : Int) (h : cMul i j = true) : CMulW i j := by
  unfold cMul at h
  exact of_decide_eq_true (p := i.natAbs.log2 + j.natAbs.log2 < 1000000) h
/-- a quotient that the machine makes in one go -/
def cDiv (i j : Int) : Bool := decide (0 < j) && decide (j.natAbs.log2 < 9000)
theorem cDiv_ok (i j : Int) (h : cDiv i j = true) : CDivW i j := by
  unfold cDiv at h
  rw [Bool.and_eq_true] at h
  exact ⟨of_decide_eq_true h.1, of_decide_eq_true h.2⟩
def fAdd : F2 := fI (fun _ _ => true) (· + ·)
def fSub : F2 := fI (fun _ _ => true) (· - ·)
def fMul : F2 := fI cMul (· * ·)
def fDiv : F2 := fI cDiv (· / ·)
def fMod : F2 := fI (fun _ j => decide (0 < j)) (· % ·)
/-- t + u -/
def fCatT : F2 := fun x y S => match tItems x, tItems y with
  | some ds, some es => if ds.length + es.length ≤ sizeLine then some (.val (.tup (ds ++ es)), S) else none
  | _, _ => none
/-- xs + ys -/
def fCatL : F2 := fun x y S => match lOwn x S, lOwn y S with
  | some ds, some es => if ds.length + es.length ≤ sizeLine then some (.val (.fl (ds ++ es)), S) else none
  | _, _ => none
where
  lOwn (w : W) (S : Sto) : Option (List D) := match w with
    | .val (.fl ds) => some ds
    | .loc l => (S[l]?).getD none
    | _ => none
section
variable {K : PySem.W.Frag} {H : Hp} {μ : Mu} {S : Sto}
theorem lOwn_ok (so : StoreOk K H μ S) {w : W} {v : V} {ds : List D} (r : RepW K H μ w v) (e : fCatL.lOwn w S = some ds) : ∃ a vs, v = .ref a ∧ H a = some (.lst vs) ∧ Reps K H μ ds vs := by
  cases w with
  | val d =>
    cases d with
    | fl ds' =>
      cases e
      cases (show Rep K H μ (.fl ds) v from r) with
      | fl q r' => exact ⟨_, _, rfl, q.1, r'⟩
    | _ => cases e
  | loc l =>
    have e' : (S[l]?).getD none = some ds := e
    cases q : S[l]? with
    | none => rw [q] at e'; cases e'
    | some c =>
      rw [q] at e'
      obtain rfl : c = some ds := e'
      obtain ⟨a, vs, h1, h2, h3⟩ := so.cell l ds q
      exact ⟨a, vs, r.2 a h1, h2, h3⟩
end
section
variable {X : Cx}
theorem op2_catT {K : PySem.W.Frag} : Op2 K (rCatA K) fCatT := by
  intro μ S H x y v u w S' Q so rx ry e k
  unfold fCatT at e
  split at e
  · rename_i ds es e1 e2
    split at e
    · rename_i hz
      cases e
      obtain ⟨a, xs, rfl, qa, ra⟩ := tItems_ok rx e1
      obtain ⟨b, ys, rfl, qb, rb⟩ := tItems_ok ry e2
      refine ⟨a, b, xs, ys, rfl, rfl, qa, qb, by rw [← ra.length, ← rb.length]; exact hz, fun h => ?_, fun _ h => ?_, fun _ _ p hp => ?_⟩
      · subst h
        cases ra
        exact k μ _ H so .refl (.tup qb rb)
      · subst h
        cases rb
        rw [List.append_nil] at k
        exact k μ _ H so .refl (.tup qa ra)
      · obtain ⟨s1, s2, s3⟩ := new_tup so hp (ra.append rb)
        exact k μ _ _ s1 s2 s3
    · cases e
  · cases e
theorem op2_catL {K : PySem.W.Frag} : Op2 K rCat fCatL := by
  intro μ S H x y v u w S' Q so rx ry e k
  unfold fCatL at e
  split at e
  · rename_i ds es e1 e2
    split at e
    · rename_i hz
      cases e
      obtain ⟨a, xs, rfl, qa, ra⟩ := lOwn_ok so rx e1
      obtain ⟨b, ys, rfl, qb, rb⟩ := lOwn_ok so ry e2
      refine ⟨a, b, xs, ys, rfl, rfl, qa, qb, by rw [← ra.length, ← rb.length]; exact hz, fun p hp => ?_⟩
      exact k μ _ _ (so.alloc hp) (.alloc hp) (new_fl so hp (ra.append rb))
    · cases e
  · cases e
/-- + of whatever it is -/
def fPlus : F2 := fun x y S => (fAdd x y S).orElse fun _ => (fCatT x y S).orElse fun _ => fCatL x y S
def rPlus (K : PySem.W.Frag) : R2 := fun x y H Q => (rI0 fun i j => .int (i + j)) x y H Q ∨ (rCatA K x y H Q ∨ rCat x y H Q)
theorem op_plus : OpR X (binaryOp .Add) (rPlus X.K) := op_add.or (op_catA.or op_cat)
theorem op2_plus {K : PySem.W.Frag} : Op2 K (rPlus K) fPlus := op2_I0.or (op2_catT.or op2_catL)
variable {a b c : Expr} {pos : Pos} {ma mb mc : EM}
theorem me_add (ha : PE X a (tM X.K ma)) (hb : PE X b (tM X.K mb)) : PE X (.BinOp a .Add b pos) (tM X.K (mBin fPlus ma mb)) := me_op op_plus op2_plus ha hb
theorem me_sub (ha : PE X a (tM X.K ma)) (hb : PE X b (tM X.K mb)) : PE X (.BinOp a .Sub b pos) (tM X.K (mBin fSub ma mb)) := me_op op_sub op2_I0 ha hb
theorem me_mul (ha : PE X a (tM X.K ma)) (hb : PE X b (tM X.K mb)) : PE X (.BinOp a .Mult b pos) (tM X.K (mBin fMul ma mb)) := me_op op_mulW (op2_I cMul_ok) ha hb
theorem me_div (ha : PE X a (tM X.K ma)) (hb : PE X b (tM X.K mb)) : PE X (.BinOp a .FloorDiv b pos) (tM X.K (mBin fDiv ma mb)) := me_op op_fdivW (op2_I cDiv_ok) ha hb
theorem me_mod (ha : PE X a (tM X.K ma)) (hb : PE X b (tM X.K mb)) : PE X (.BinOp a .Mod b pos) (tM X.K (mBin fMod ma mb)) := me_op op_mod (op2_I fun _ _ h => of_decide_eq_true h) ha hb
/-- - x -/
def mNeg (m : EM) : EM := fun ρ S => match m ρ S with
  | some (.val (.int i), S1) => some (.val (.int (-i)), S1)
  | _ => none
theorem me_neg (ha : PE X a (tM X.K ma)) : PE X (.UnaryOp .USub a pos) (tM X.K (mNeg ma)) := by
  refine PE.imp (pe_un un_neg ha) fun σ H Q q => ?_
  obtain ⟨μ, ρ, S, w, S', ok, e, k⟩ := q
  unfold mNeg at e
  split at e
  · rename_i i S1 e1
    cases e
    refine ⟨μ, ρ, S, _, _, ok, e1, fun μ1 v H1 so1 st1 r1 => ?_⟩
    cases r1
    exact ⟨i, rfl, k μ1 _ H1 so1 st1 (.int _)⟩
  · cases e

/-! ### == and != of data -/
mutual
def D.py : D → PyData
  | .non => .none
  | .bl b => .bool b
  | .int i => .int i
  | .str x => .str x
  | .tup ds => .tuple (pyAll ds)
  | .fl ds => .list (pyAll ds)
  | .scr ns => .list (ns.map .int)
  | .dct ks ds => .dict ((ks.map PyData.str).zip (pyAll ds))
  | .exc0 _ => .none
  | .exc1 _ _ _ => .none
def pyAll : List D → List PyData
  | [] => []
  | d :: r => d.py :: pyAll r
end
mutual
/-- no dict, no error within -/
def D.plain : D → Bool
  | .tup ds => plainAll ds
  | .fl ds => plainAll ds
  | .dct _ _ => false
  | .exc0 _ => false
  | .exc1 _ _ _ => false
  | _ => true
def plainAll : List D → Bool
  | [] => true
  | d :: r => d.plain && plainAll r
end
def W.py (w : W) (S : Sto) : Option PyData := match w with
  | .val d => if d.plain then some d.py else none
  | .loc l => match (S[l]?).getD none with
    | some ds => if plainAll ds then some (.list (pyAll ds)) else none
    | none => none
theorem dpInts {K : PySem.W.Frag} {H : Hp} : ∀ ns : List Int, DpAll K H (ns.map V.int) (ns.map PyData.int)
  | [] => .nil
  | n :: r => .cons (.int n) (dpInts r)
mutual
theorem Rep.dp {K : PySem.W.Frag} {H : Hp} {μ : Mu} : ∀ {d : D} {v : V}, d.plain = true → Rep K H μ d v → Dp K H v d.py
  | _, _, _, .non => by unfold D.py; exact .non
  | _, _, _, .bl b => by unfold D.py; exact .bl b
  | _, _, _, .int i => by unfold D.py; exact .int i
  | _, _, _, .str x => by unfold D.py; exact .str x
  | _, _, h, .tup q r => by unfold D.plain at h; unfold D.py; exact .tup q (Reps.dp h r)
  | _, _, h, .fl q r => by unfold D.plain at h; unfold D.py; exact .lst q.sqL (Reps.dp h r)
  | _, _, _, .scr q => by unfold D.py; exact .lst q.sqL (dpInts _)
  | _, _, h, .dct _ _ _ => by unfold D.plain at h; cases h
  | _, _, h, .exc0 _ _ => by unfold D.plain at h; cases h
  | _, _, h, .exc1 _ _ _ _ => by unfold D.plain at h; cases h
theorem Reps.dp {K : PySem.W.Frag} {H : Hp} {μ : Mu} : ∀ {ds : List D} {vs : List V}, plainAll ds = true → Reps K H μ ds vs → DpAll K H vs (pyAll ds)
  | _, _, _, .nil => by unfold pyAll; exact .nil
  | _, _, h, .cons r t => by
    unfold plainAll at h
    rw [Bool.and_eq_true] at h
    unfold pyAll
    exact .cons (Rep.dp h.1 r) (Reps.dp h.2 t)
end
theorem W.dp {K : PySem.W.Frag} {H : Hp} {μ : Mu} {S : Sto} (so : StoreOk K H μ S) {w : W} {v : V} {p : PyData} (r : RepW K H μ w v) (e : w.py S = some p) : Dp K H v p := by
  cases w with
  | val d =>
    have e' : (if d.plain = true then some d.py else none) = some p := e
    split at e'
    · rename_i h
      cases e'
      exact Rep.dp h r
    · cases e'
  | loc l =>
    unfold W.py at e
    simp only at e
    split at e
    · rename_i ds q
      split at e
      · rename_i h
        cases e
        have hs : S[l]? = some (some ds) := by
          cases z : S[l]? with
          | none => rw [z] at q; cases q
          | some c =>
            rw [z] at q
            obtain rfl : c = some ds := q
            rfl
        obtain ⟨a, vs, h1, h2, h3⟩ := so.cell l ds hs
        rw [r.2 a h1]
        exact .lst (.of h2) (Reps.dp h h3)
      · cases e
    · cases e
def fEqD (neg : Bool) : F2 := fun x y S => match x.py S, y.py S with
  | some d, some e => if SeqAt.shaped d && SeqAt.shaped e then some (.val (.bl (if neg then !PyData.eqv d e else PyData.eqv d e)), S) else none
  | _, _ => none
theorem op2_eqD {K : PySem.W.Frag} : Op2 K (rEqD K) (fEqD false) := by
  intro μ S H x y v u w S' Q so rx ry e k
  unfold fEqD at e
  split at e
  · rename_i d e' e1 e2
    split at e
    · rename_i h
      rw [Bool.and_eq_true] at h
      cases e
      exact ⟨d, e', W.dp so rx e1, W.dp so ry e2, h.1, h.2, k μ _ H so .refl (.bl _)⟩
    · cases e
  · cases e
theorem op2_neD {K : PySem.W.Frag} : Op2 K (rNeD K) (fEqD true) := by
  intro μ S H x y v u w S' Q so rx ry e k
  unfold fEqD at e
  split at e
  · rename_i d e' e1 e2
    split at e
    · rename_i h
      rw [Bool.and_eq_true] at h
      cases e
      exact ⟨d, e', W.dp so rx e1, W.dp so ry e2, h.1, h.2, k μ _ H so .refl (.bl _)⟩
    · cases e
  · cases e
end
end HM

set_option Elab.async false
set_option linter.all false
set_option maxRecDepth 100000
namespace HM
open PySem PySem.Spec L2
open PyProof.Rows hiding St

/-! ### tests -/
theorem itT {P Q : Prop} (h : P) : if true = true then P else Q := by rw [if_pos rfl]; exact h
theorem itF {P Q : Prop} (h : Q) : if false = true then P else Q := by rw [if_neg Bool.false_ne_true]; exact h
def mtAnd (t u : TM) : TM := fun ρ S => match t ρ S with
  | some (true, S1) => u ρ S1
  | some (false, S1) => some (false, S1)
  | none => none
def mtOr (t u : TM) : TM := fun ρ S => match t ρ S with
  | some (true, S1) => some (true, S1)
  | some (false, S1) => u ρ S1
  | none => none
def mtNot (t : TM) : TM := fun ρ S => match t ρ S with
  | some (b, S1) => some (!b, S1)
  | none => none
def mAnd (m n : EM) : EM := fun ρ S => match m ρ S with
  | some (.val (.bl true), S1) => n ρ S1
  | some (.val (.bl false), S1) => some (.val (.bl false), S1)
  | _ => none
def mOr (m n : EM) : EM := fun ρ S => match m ρ S with
  | some (.val (.bl true), S1) => some (.val (.bl true), S1)
  | some (.val (.bl false), S1) => n ρ S1
  | _ => none
def mNot (m : EM) : EM := fun ρ S => match m ρ S with
  | some (.val (.bl b), S1) => some (.val (.bl (!b)), S1)
  | _ => none
def mIf (t : TM) (m n : EM) : EM := fun ρ S => match t ρ S with
  | some (true, S1) => m ρ S1
  | some (false, S1) => n ρ S1
  | none => none
section
variable {X : Cx} {a b c : Expr} {rest : List Expr} {pos : Pos} {t u : TM} {m n : EM}
theorem mw_and1 (h : PT X a (tT X.K t)) : PW X (.BoolOp .And [a] pos) (tT X.K t) := pw_and1 h
theorem mw_or1 (h : PT X a (tT X.K t)) : PW X (.BoolOp .Or [a] pos) (tT X.K t) := pw_or1 h
theorem mw_and (ha : PT X a (tT X.K t)) (hb : PW X (.BoolOp .And (b :: rest) pos) (tT X.K u)) : PW X (.BoolOp .And (a :: b :: rest) pos) (tT X.K (mtAnd t u)) := by
  refine PW.imp (pw_and ha hb) fun σ H Q q => ?_
  obtain ⟨μ, ρ, S, w, S', ok, e, k⟩ := q
  unfold mtAnd at e
  split at e
  · rename_i S1 e1
    exact ⟨μ, ρ, S, true, S1, ok, e1, fun μ1 H1 so1 st1 => by
      refine itT ?_
      exact ⟨μ1, ρ, S1, w, S', ok.next so1 st1, e, fun μ2 H2 so2 st2 => k μ2 H2 so2 (st1.trans st2)⟩⟩
  · rename_i S1 e1
    cases e
    exact ⟨μ, ρ, S, false, _, ok, e1, fun μ1 H1 so1 st1 => by
      refine itF ?_
      exact k μ1 H1 so1 st1⟩
  · cases e
theorem mw_or (ha : PT X a (tT X.K t)) (hb : PW X (.BoolOp .Or (b :: rest) pos) (tT X.K u)) : PW X (.BoolOp .Or (a :: b :: rest) pos) (tT X.K (mtOr t u)) := by
  refine PW.imp (pw_or ha hb) fun σ H Q q => ?_
  obtain ⟨μ, ρ, S, w, S', ok, e, k⟩ := q
  unfold mtOr at e
  split at e
  · rename_i S1 e1
    cases e
    exact ⟨μ, ρ, S, true, _, ok, e1, fun μ1 H1 so1 st1 => by
      refine itT ?_
      exact k μ1 H1 so1 st1⟩
  · rename_i S1 e1
    exact ⟨μ, ρ, S, false, S1, ok, e1, fun μ1 H1 so1 st1 => by
      refine itF ?_
      exact ⟨μ1, ρ, S1, w, S', ok.next so1 st1, e, fun μ2 H2 so2 st2 => k μ2 H2 so2 (st1.trans st2)⟩⟩
  · cases e
theorem mt_w (h : PW X a (tT X.K t)) : PT X a (tT X.K t) := h.pt
theorem mt_not (ha : PT X a (tT X.K t)) : PT X (.UnaryOp .Not a pos) (tT X.K (mtNot t)) := by
  refine PT.imp (pt_not ha) fun σ H Q q => ?_
  obtain ⟨μ, ρ, S, w, S', ok, e, k⟩ := q
  unfold mtNot at e
  split at e
  · rename_i d S1 e1
    cases e
    exact ⟨μ, ρ, S, d, _, ok, e1, fun μ1 H1 so1 st1 => k μ1 H1 so1 st1⟩
  · cases e
theorem me_one {op} (h : PE X a (tM X.K m)) : PE X (.BoolOp op [a] pos) (tM X.K m) := pe_one h
theorem me_and (ha : PE X a (tM X.K m)) (hb : PE X (.BoolOp .And (b :: rest) pos) (tM X.K n)) : PE X (.BoolOp .And (a :: b :: rest) pos) (tM X.K (mAnd m n)) := by
  refine PE.imp (pe_and ha hb) fun σ H Q q => ?_
  obtain ⟨μ, ρ, S, w, S', ok, e, k⟩ := q
  unfold mAnd at e
  split at e
  · rename_i S1 e1
    exact ⟨μ, ρ, S, _, S1, ok, e1, fun μ1 v H1 so1 st1 r1 => by
      cases r1
      refine ⟨true, rfl, ?_⟩
      refine itT ?_
      exact ⟨μ1, ρ, S1, w, S', ok.next so1 st1, e, fun μ2 z H2 so2 st2 => k μ2 z H2 so2 (st1.trans st2)⟩⟩
  · rename_i S1 e1
    cases e
    exact ⟨μ, ρ, S, _, _, ok, e1, fun μ1 v H1 so1 st1 r1 => by
      cases r1
      refine ⟨false, rfl, ?_⟩
      refine itF ?_
      exact k μ1 _ H1 so1 st1 (.bl _)⟩
  · cases e
theorem me_or (ha : PE X a (tM X.K m)) (hb : PE X (.BoolOp .Or (b :: rest) pos) (tM X.K n)) : PE X (.BoolOp .Or (a :: b :: rest) pos) (tM X.K (mOr m n)) := by
  refine PE.imp (pe_or ha hb) fun σ H Q q => ?_
  obtain ⟨μ, ρ, S, w, S', ok, e, k⟩ := q
  unfold mOr at e
  split at e
  · rename_i S1 e1
    cases e
    exact ⟨μ, ρ, S, _, _, ok, e1, fun μ1 v H1 so1 st1 r1 => by
      cases r1
      refine ⟨true, rfl, ?_⟩
      refine itT ?_
      exact k μ1 _ H1 so1 st1 (.bl _)⟩
  · rename_i S1 e1
    exact ⟨μ, ρ, S, _, S1, ok, e1, fun μ1 v H1 so1 st1 r1 => by
      cases r1
      refine ⟨false, rfl, ?_⟩
      refine itF ?_
      exact ⟨μ1, ρ, S1, w, S', ok.next so1 st1, e, fun μ2 z H2 so2 st2 => k μ2 z H2 so2 (st1.trans st2)⟩⟩
  · cases e
theorem me_not (ha : PE X a (tM X.K m)) : PE X (.UnaryOp .Not a pos) (tM X.K (mNot m)) := by
  refine PE.imp (pe_not ha) fun σ H Q q => ?_
  obtain ⟨μ, ρ, S, w, S', ok, e, k⟩ := q
  unfold mNot at e
  split at e
  · rename_i d S1 e1
    cases e
    exact ⟨μ, ρ, S, _, _, ok, e1, fun μ1 v H1 so1 st1 r1 => by
      cases r1
      exact ⟨d, rfl, k μ1 _ H1 so1 st1 (.bl _)⟩⟩
  · cases e
theorem me_if (hc : PT X c (tT X.K t)) (ha : PE X a (tM X.K m)) (hb : PE X b (tM X.K n)) : PE X (.IfExp c a b pos) (tM X.K (mIf t m n)) := by
  refine PE.imp (pe_ifExp hc ha hb) fun σ H Q q => ?_
  obtain ⟨μ, ρ, S, w, S', ok, e, k⟩ := q
  unfold mIf at e
  split at e
  · rename_i S1 e1
    exact ⟨μ, ρ, S, true, S1, ok, e1, fun μ1 H1 so1 st1 => by
      refine itT ?_
      exact ⟨μ1, ρ, S1, w, S', ok.next so1 st1, e, fun μ2 z H2 so2 st2 => k μ2 z H2 so2 (st1.trans st2)⟩⟩
  · rename_i S1 e1
    exact ⟨μ, ρ, S, false, S1, ok, e1, fun μ1 H1 so1 st1 => by
      refine itF ?_
      exact ⟨μ1, ρ, S1, w, S', ok.next so1 st1, e, fun μ2 z H2 so2 st2 => k μ2 z H2 so2 (st1.trans st2)⟩⟩
  · cases e
end

/-! ### comparisons -/
def fLt : F2 := fB fun i j => decide (i < j)
def fLe : F2 := fB fun i j => decide (i ≤ j)
def fGt : F2 := fB fun i j => decide (j < i)
def fGe : F2 := fB fun i j => decide (j ≤ i)
/-- == and != of ints at once, of data by their contents -/
def fEq : F2 := fEqD false
def fNe : F2 := fEqD true
section
variable {X : Cx} {pins : List (Addr × Obj)} {σ : L2.St} {H : Hp} {s : Shared}
theorem op_ltI : OpR X (compareOp .Lt) (rI0 fun i j => .bl (decide (i < j))) := fun pins s σ H x y v u Q I rx ry h => by
  obtain ⟨i, j, rfl, rfl, q⟩ := h
  obtain ⟨t, rfl⟩ := rx
  obtain ⟨t', rfl⟩ := ry
  exact lt_int ⟨.bl _, H, I, rfl, q⟩
theorem op_leI : OpR X (compareOp .LtE) (rI0 fun i j => .bl (decide (i ≤ j))) := fun pins s σ H x y v u Q I rx ry h => by
  obtain ⟨i, j, rfl, rfl, q⟩ := h
  obtain ⟨t, rfl⟩ := rx
  obtain ⟨t', rfl⟩ := ry
  exact le_int ⟨.bl _, H, I, rfl, q⟩
theorem op_gtI : OpR X (compareOp .Gt) (rI0 fun i j => .bl (decide (j < i))) := fun pins s σ H x y v u Q I rx ry h => by
  obtain ⟨i, j, rfl, rfl, q⟩ := h
  obtain ⟨t, rfl⟩ := rx
  obtain ⟨t', rfl⟩ := ry
  exact gt_int ⟨.bl _, H, I, rfl, q⟩
theorem op_geI : OpR X (compareOp .GtE) (rI0 fun i j => .bl (decide (j ≤ i))) := fun pins s σ H x y v u Q I rx ry h => by
  obtain ⟨i, j, rfl, rfl, q⟩ := h
  obtain ⟨t, rfl⟩ := rx
  obtain ⟨t', rfl⟩ := ry
  exact ge_int ⟨.bl _, H, I, rfl, q⟩
variable {a b c : Expr} {pos : Pos} {ma mb mc : EM}
theorem me_lt (ha : PE X a (tM X.K ma)) (hb : PE X b (tM X.K mb)) : PE X (.Compare a [.Lt] [b] pos) (tM X.K (mBin fLt ma mb)) := me_cmp op_ltI op2_B ha hb (nomark _)
theorem me_le (ha : PE X a (tM X.K ma)) (hb : PE X b (tM X.K mb)) : PE X (.Compare a [.LtE] [b] pos) (tM X.K (mBin fLe ma mb)) := me_cmp op_leI op2_B ha hb (nomark _)
theorem me_gt (ha : PE X a (tM X.K ma)) (hb : PE X b (tM X.K mb)) : PE X (.Compare a [.Gt] [b] pos) (tM X.K (mBin fGt ma mb)) := me_cmp op_gtI op2_B ha hb (nomark _)
theorem me_ge (ha : PE X a (tM X.K ma)) (hb : PE X b (tM X.K mb)) : PE X (.Compare a [.GtE] [b] pos) (tM X.K (mBin fGe ma mb)) := me_cmp op_geI op2_B ha hb (nomark _)
theorem me_eq (hu : X.A.units + 64 < cLine) (ha : PE X a (tM X.K ma)) (hb : PE X b (tM X.K mb)) : PE X (.Compare a [.Eq] [b] pos) (tM X.K (mBin fEq ma mb)) := me_cmp (op_eqD hu) op2_eqD ha hb (nomark _)
theorem me_ne (hu : X.A.units + 64 < cLine) (ha : PE X a (tM X.K ma)) (hb : PE X b (tM X.K mb)) : PE X (.Compare a [.NotEq] [b] pos) (tM X.K (mBin fNe ma mb)) := me_cmp (op_neD hu) op2_neD ha hb (nomark _)
theorem mt_lt (ha : PE X a (tM X.K ma)) (hb : PE X b (tM X.K mb)) : PT X (.Compare a [.Lt] [b] pos) (tT X.K (mTest (mBin fLt ma mb))) := mt_cmp op_ltI op2_B ha hb (nomark _)
theorem mt_le (ha : PE X a (tM X.K ma)) (hb : PE X b (tM X.K mb)) : PT X (.Compare a [.LtE] [b] pos) (tT X.K (mTest (mBin fLe ma mb))) := mt_cmp op_leI op2_B ha hb (nomark _)
theorem mt_gt (ha : PE X a (tM X.K ma)) (hb : PE X b (tM X.K mb)) : PT X (.Compare a [.Gt] [b] pos) (tT X.K (mTest (mBin fGt ma mb))) := mt_cmp op_gtI op2_B ha hb (nomark _)
theorem mt_ge (ha : PE X a (tM X.K ma)) (hb : PE X b (tM X.K mb)) : PT X (.Compare a [.GtE] [b] pos) (tT X.K (mTest (mBin fGe ma mb))) := mt_cmp op_geI op2_B ha hb (nomark _)
theorem mt_eq (hu : X.A.units + 64 < cLine) (ha : PE X a (tM X.K ma)) (hb : PE X b (tM X.K mb)) : PT X (.Compare a [.Eq] [b] pos) (tT X.K (mTest (mBin fEq ma mb))) := mt_cmp (op_eqD hu) op2_eqD ha hb (nomark _)
theorem mt_ne (hu : X.A.units + 64 < cLine) (ha : PE X a (tM X.K ma)) (hb : PE X b (tM X.K mb)) : PT X (.Compare a [.NotEq] [b] pos) (tT X.K (mTest (mBin fNe ma mb))) := mt_cmp (op_neD hu) op2_neD ha hb (nomark _)
/-- a op1 b op2 c -/
def mChain (f g : F2) (ma mb mc : EM) : EM := fun ρ S => match ma ρ S with
  | some (x, S1) => match mb ρ S1 with
    | some (y, S2) => match f x y S2 with
      | some (.val (.bl true), S3) => match mc ρ S3 with
        | some (z, S4) => g y z S4
        | none => none
      | some (.val (.bl false), S3) => some (.val (.bl false), S3)
      | _ => none
    | none => none
  | none => none
theorem chain_imp {r r' : R2} {f g : F2} (h : Op2 X.K r f) (h' : Op2 X.K r' g) {σ : L2.St} {H : Hp} {Q : VK} (q : tM X.K (mChain f g ma mb mc) σ H Q) : tChain r r' (tM X.K ma) (tM X.K mb) (tM X.K mc) σ H Q := by
  obtain ⟨μ, ρ, S, w, S', ok, e, k⟩ := q
  unfold mChain at e
  split at e
  · rename_i x S1 e1
    split at e
    · rename_i y S2 e2
      refine ⟨μ, ρ, S, x, S1, ok, e1, fun μ1 v1 H1 so1 st1 r1 => ?_⟩
      refine ⟨μ1, ρ, S1, y, S2, ok.next so1 st1, e2, fun μ2 v2 H2 so2 st2 r2 => ?_⟩
      split at e
      · rename_i S3 e3
        split at e
        · rename_i z S4 e4
          refine h μ2 S2 H2 x y v1 v2 _ S3 _ so2 (r1.step so1 st2) r2 e3 fun μ3 c H3 so3 st3 r3 => ?_
          cases r3
          refine ⟨true, rfl, ?_⟩
          refine itT ?_
          refine ⟨μ3, ρ, S3, z, S4, (ok.next so1 st1).next so3 (st2.trans st3), e4, fun μ4 v4 H4 so4 st4 r4 => ?_⟩
          exact h' μ4 S4 H4 y z v2 v4 w S' Q so4 (r2.step so2 (st3.trans st4)) r4 e fun μ5 c H5 so5 st5 r5 => k μ5 c H5 so5 ((((st1.trans st2).trans st3).trans st4).trans st5) r5
        · cases e
      · rename_i S3 e3
        cases e
        refine h μ2 S2 H2 x y v1 v2 _ _ _ so2 (r1.step so1 st2) r2 e3 fun μ3 c H3 so3 st3 r3 => ?_
        cases r3
        refine ⟨false, rfl, ?_⟩
        refine itF ?_
        exact k μ3 _ H3 so3 ((st1.trans st2).trans st3) (.bl _)
      · cases e
    · cases e
  · cases e
theorem me_chain {op op' : CmpOp} {r r' : R2} {f g : F2} (ho : OpR X (compareOp op) r) (ho' : OpR X (compareOp op') r') (h : Op2 X.K r f) (h' : Op2 X.K r' g) (ha : PE X a (tM X.K ma)) (hb : PE X b (tM X.K mb)) (hc : PE X c (tM X.K mc))
    (hm : lastMarks [op, op'] [b, c] = false := by with_unfolding_all rfl) : PE X (.Compare a [op, op'] [b, c] pos) (tM X.K (mChain f g ma mb mc)) :=
  PE.imp (pe_chain ho ho' ha hb hc hm) fun σ H Q q => chain_imp h h' q
theorem mt_chain {op op' : CmpOp} {r r' : R2} {f g : F2} (ho : OpR X (compareOp op) r) (ho' : OpR X (compareOp op') r') (h : Op2 X.K r f) (h' : Op2 X.K r' g) (ha : PE X a (tM X.K ma)) (hb : PE X b (tM X.K mb)) (hc : PE X c (tM X.K mc))
    (hm : lastMarks [op, op'] [b, c] = false := by with_unfolding_all rfl) : PT X (.Compare a [op, op'] [b, c] pos) (tT X.K (mTest (mChain f g ma mb mc))) := by
  refine PT.imp (pt_chain ho ho' ha hb hc hm) fun σ H Q q => ?_
  obtain ⟨μ, ρ, S, w, S', ok, e, k⟩ := q
  unfold mTest at e
  split at e
  · rename_i c S1 e1
    cases e
    have z : tChain r r' (tM X.K ma) (tM X.K mb) (tM X.K mc) σ H fun x H1 => ∃ c, x = .bl c ∧ Q c H1 := by
      refine chain_imp h h' ⟨μ, ρ, S, _, _, ok, e1, fun μ1 v1 H1 so1 st1 r1 => ?_⟩
      cases r1
      exact ⟨_, rfl, k μ1 H1 so1 st1⟩
    exact z
  · cases e
/-- x is None, x is not None -/
def mIsN (neg : Bool) (m : EM) : EM := fun ρ S => match m ρ S with
  | some (.val d, S1) => some (.val (.bl (match d with | .non => !neg | _ => neg)), S1)
  | some (.loc l, S1) => some (.val (.bl neg), S1)
  | none => none
end

/-! ### items and cuts -/
/-- the place of an index -/
def fIx : F2 := fun x y S => match y with
  | .val (.int i) => match tItems x with
    | some ds => (atI ds i).map fun d => (.val d, S)
    | none => match lItems x S with
      | some ds => (atI ds i).map fun d => (.val d, S)
      | none => none
  | _ => none
section
variable {K : PySem.W.Frag} {H : Hp} {μ : Mu} {S : Sto}
theorem Reps.atI {ds : List D} {vs : List V} (r : Reps K H μ ds vs) {i : Int} {d : D} (e : L2.atI ds i = some d) : ∃ v, L2.atI vs i = some v ∧ Rep K H μ d v := by
  unfold L2.atI at e ⊢
  rw [← r.length]
  cases q : ixN ds.length i with
  | none => rw [q] at e; cases e
  | some j =>
    rw [q] at e
    obtain ⟨v, h1, h2⟩ := r.get (show ds[j]? = some d from e)
    exact ⟨v, h1, h2⟩
def rIxA (K : PySem.W.Frag) : R2 := fun x y H Q => rIxT K x y H Q ∨ rIxL K x y H Q
theorem op2_ix : Op2 K (rIxA K) fIx := by
  intro μ S H x y v u w S' Q so rx ry e k
  unfold fIx at e
  split at e
  · rename_i i
    cases ry
    split at e
    · rename_i ds e1
      obtain ⟨a, vs, rfl, q, r⟩ := tItems_ok rx e1
      cases z : L2.atI ds i with
      | none => rw [z] at e; cases e
      | some d =>
        rw [z] at e
        cases e
        obtain ⟨c, h1, h2⟩ := r.atI z
        exact .inl ⟨a, vs, i, c, rfl, rfl, q, h1, k μ _ H so .refl h2⟩
    · split at e
      · rename_i ds e2
        obtain ⟨a, vs, rfl, q, r⟩ := lItems_ok so rx e2
        cases z : L2.atI ds i with
        | none => rw [z] at e; cases e
        | some d =>
          rw [z] at e
          cases e
          obtain ⟨c, h1, h2⟩ := r.atI z
          exact .inr ⟨a, vs, i, c, rfl, rfl, q, h1, k μ _ H so .refl h2⟩
      · cases e
  · cases e
end
section
variable {X : Cx} {a b : Expr} {pos p2 : Pos} {ma mb : EM} {lo hi : Option Expr}
theorem me_at (ha : PE X a (tM X.K ma)) (hb : PE X b (tM X.K mb)) (hs : PlainIx b) : PE X (.Subscript a b pos) (tM X.K (mBin fIx ma mb)) := me_ix (ix_tup.or ix_list) op2_ix ha hb hs
/-- a part of a cut: left out, or an int -/
abbrev OM := Rho → Sto → Option (Option Int × Sto)
def tO (K : PySem.W.Frag) (m : OM) : TO := fun σ H Q => ∃ μ ρ S o S', Ok K μ ρ S σ H ∧ m ρ S = some (o, S') ∧ ∀ μ' H', StoreOk K H' μ' S' → Step H μ H' μ' → Q o H'
theorem PO.imp {e : Option Expr} {t t' : TO} (h : PO X e t) (i : ∀ σ H Q, t' σ H Q → t σ H Q) : PO X e t' := ⟨fun pins s σ H Q I q => h.run pins s σ H Q I (i σ H Q q)⟩
def oNone : OM := fun _ S => some (none, S)
def oSome (m : EM) : OM := fun ρ S => match m ρ S with
  | some (.val (.int i), S1) => some (some i, S1)
  | _ => none
theorem mo_none : PO X none (tO X.K oNone) := PO.imp po_none fun σ H Q q => by
  obtain ⟨μ, ρ, S, o, S', ok, e, k⟩ := q
  cases e
  exact k μ H ok.so .refl
theorem mo_some (h : PE X a (tM X.K ma)) : PO X (some a) (tO X.K (oSome ma)) := PO.imp (po_some h) fun σ H Q q => by
  obtain ⟨μ, ρ, S, o, S', ok, e, k⟩ := q
  unfold oSome at e
  split at e
  · rename_i i S1 e1
    cases e
    refine ⟨μ, ρ, S, _, _, ok, e1, fun μ1 v H1 so1 st1 r1 => ?_⟩
    cases r1
    exact ⟨i, rfl, k μ1 H1 so1 st1⟩
  · cases e
def cutD (xs : List D) (lo hi : Option Int) : List D := (xs.drop (HT.sIx xs.length 0 lo)).take (HT.sIx xs.length xs.length hi - HT.sIx xs.length 0 lo)
theorem Reps.cut {K : PySem.W.Frag} {H : Hp} {μ : Mu} {ds : List D} {vs : List V} (r : Reps K H μ ds vs) (lo hi : Option Int) : Reps K H μ (cutD ds lo hi) (cutV vs lo hi) := by
  unfold cutD cutV
  rw [← r.length]
  exact (r.drop _).take _
def mCut (m : EM) (o p : OM) : EM := fun ρ S => match m ρ S with
  | some (x, S1) => match o ρ S1 with
    | some (l, S2) => match p ρ S2 with
      | some (h, S3) => match tItems x with
        | some ds => some (.val (.tup (cutD ds l h)), S3)
        | none => match lItems x S3 with
          | some ds => some (.val (.fl (cutD ds l h)), S3)
          | none => none
      | none => none
    | none => none
  | none => none
theorem me_cut {o p : OM} (h : PE X a (tM X.K ma)) (hl : PO X lo (tO X.K o)) (hh : PO X hi (tO X.K p)) : PE X (.Subscript a (.Slice lo hi none p2) pos) (tM X.K (mCut ma o p)) := by
  refine PE.imp (pe_slice (sl_tupA.or sl_list) h hl hh) fun σ H Q q => ?_
  obtain ⟨μ, ρ, S, w, S', ok, e, k⟩ := q
  unfold mCut at e
  split at e
  · rename_i x S1 e1
    split at e
    · rename_i l S2 e2
      split at e
      · rename_i hh S3 e3
        refine ⟨μ, ρ, S, x, S1, ok, e1, fun μ1 v1 H1 so1 st1 r1 => ?_⟩
        refine ⟨μ1, ρ, S1, l, S2, ok.next so1 st1, e2, fun μ2 H2 so2 st2 => ?_⟩
        refine ⟨μ2, ρ, S2, hh, S3, (ok.next so1 st1).next so2 st2, e3, fun μ3 H3 so3 st3 => ?_⟩
        have r3 := r1.step so1 (st2.trans st3)
        have st := (st1.trans st2).trans st3
        split at e
        · rename_i ds e4
          cases e
          obtain ⟨b, vs, rfl, q, r⟩ := tItems_ok r3 e4
          refine .inl ⟨b, vs, rfl, q, fun hw => ?_, fun _ p hp => ?_⟩
          · have ew : cutD ds l hh = ds := by
              unfold cutD
              rw [r.length, hw.1, hw.2, List.drop_zero, Nat.sub_zero, ← r.length, List.take_length]
            rw [ew] at k
            exact k μ3 _ H3 so3 st (.tup q r)
          · obtain ⟨s1, s2, s3⟩ := new_tup so3 hp (r.cut l hh)
            exact k μ3 _ _ s1 (st.trans s2) s3
        · split at e
          · rename_i ds e4
            cases e
            obtain ⟨b, vs, rfl, q, r⟩ := lItems_ok so3 r3 e4
            exact .inr ⟨b, vs, rfl, q, fun p hp => k μ3 _ _ (so3.alloc hp) (st.trans (.alloc hp)) (new_fl so3 hp (r.cut l hh))⟩
          · cases e
      · cases e
    · cases e
  · cases e
end
end HM

set_option Elab.async false
set_option linter.all false
set_option maxRecDepth 100000
namespace HM
open PySem PySem.Spec L2
open PyProof.Rows hiding St

/-! ### calls of built-in functions and types -/
abbrev FN := List W → Sto → Option (W × Sto)
def OpN (K : PySem.W.Frag) (r : List V → Hp → VK → Prop) (f : FN) : Prop := ∀ (μ : Mu) (S : Sto) (H : Hp) (ws : List W) (vs : List V) (w : W) (S' : Sto) (Q : VK), StoreOk K H μ S → RepWs K H μ ws vs → f ws S = some (w, S') →
  (∀ μ' z H', StoreOk K H' μ' S' → Step H μ H' μ' → RepW K H' μ' w z → Q z H') → r vs H Q
def mCall (f : FN) (a : AM) : EM := fun ρ S => match a ρ S with
  | some (ws, S1) => f ws S1
  | none => none
section
variable {X : Cx} {x : Str} {p pos : Pos} {e : Expr} {es : List Expr} {a : AM} {f : FN} {r : List V → Hp → VK → Prop} {id T : String}
theorem call_imp (h : OpN X.K r f) {σ : L2.St} {H : Hp} {Q : VK} (q : tM X.K (mCall f a) σ H Q) : tCB r (tA X.K a) σ H Q := by
  obtain ⟨μ, ρ, S, w, S', ok, e, k⟩ := q
  unfold mCall at e
  split at e
  · rename_i ws S1 e1
    exact ⟨μ, ρ, S, ws, S1, ok, e1, fun μ1 vs H1 so1 st1 r1 => h μ1 S1 H1 ws vs w S' Q so1 r1 e fun μ2 z H2 so2 st2 r2 => k μ2 z H2 so2 (st1.trans st2) r2⟩
  · cases e
theorem me_callB (hc : CallR X (.builtin id) r) (h : OpN X.K r f) (hg : Gl X x) (hm : X.mg x = none) (hv : bootBuiltins x = some (.builtin id)) (ha : PA X (e :: es) (tA X.K a)) (hn : x ≠ "__name__" := by decide) (hdb : (x == ("__debug__" : Str)) = false := by decide)
    (he : starEach (e :: es) X.env = (false, eval e X.env) :: starEach es X.env := by rfl) (hpl : (backTo pos (starEach es X.env)).any (·.1) = false := by rfl) : PE X (.Call (.Name x p) (e :: es) [] pos) (tM X.K (mCall f a)) :=
  PE.imp (pe_callB hc hg hm hv ha hn hdb he hpl) fun σ H Q q => call_imp h q
theorem me_callTy (hc : CallR X (.type T) r) (h : OpN X.K r f) (hg : Gl X x) (hm : X.mg x = none) (hv : bootBuiltins x = some (.type T)) (ha : PA X (e :: es) (tA X.K a)) (hn : x ≠ "__name__" := by decide) (hdb : (x == ("__debug__" : Str)) = false := by decide)
    (he : starEach (e :: es) X.env = (false, eval e X.env) :: starEach es X.env := by rfl) (hpl : (backTo pos (starEach es X.env)).any (·.1) = false := by rfl) : PE X (.Call (.Name x p) (e :: es) [] pos) (tM X.K (mCall f a)) :=
  PE.imp (pe_callTy hc hg hm hv ha hn hdb he hpl) fun σ H Q q => call_imp h q
theorem me_callG (hc : CallR X (.builtin id) r) (h : OpN X.K r f) (hg : Gl X x) (hm : X.mg x = some (.builtin id)) (ha : PA X (e :: es) (tA X.K a)) (hdb : (x == ("__debug__" : Str)) = false := by decide)
    (he : starEach (e :: es) X.env = (false, eval e X.env) :: starEach es X.env := by rfl) (hpl : (backTo pos (starEach es X.env)).any (·.1) = false := by rfl) : PE X (.Call (.Name x p) (e :: es) [] pos) (tM X.K (mCall f a)) :=
  PE.imp (pe_callBfun hc hg hm ha hdb he hpl) fun σ H Q q => call_imp h q
end
/-- len -/
def fLen : FN := fun ws S => match ws with
  | [w] => match tItems w with
    | some ds => some (.val (.int ds.length), S)
    | none => match lItems w S with
      | some ds => some (.val (.int ds.length), S)
      | none => none
  | _ => none
/-- one int -/
def fInt1 (g : Int → Int) : FN := fun ws S => match ws with
  | [.val (.int i)] => some (.val (.int (g i)), S)
  | _ => none
/-- int(x) -/
def fInt : FN := fun ws S => match ws with
  | [.val (.int i)] => some (.val (.int i), S)
  | [.val (.bl b)] => some (.val (.int (if b then 1 else 0)), S)
  | _ => none
/-- two ints -/
def fInt2 (g : Int → Int → Int) : FN := fun ws S => match ws with
  | [.val (.int i), .val (.int j)] => some (.val (.int (g i j)), S)
  | _ => none
def iAbs (i : Int) : Int := if i < 0 then -i else i
def iMax (i j : Int) : Int := if j > i then j else i
def iMin (i j : Int) : Int := if j < i then j else i
def iGcd (i j : Int) : Int := ((Nat.gcd i.natAbs j.natAbs : Nat) : Int)
def cDivP (i j : Int) : Bool := decide (0 < j) && !Builtin.divisionGoesByPylong i j
def fDivmod : FN := fun ws S => match ws with
  | [.val (.int i), .val (.int j)] => if cDivP i j then some (.val (.tup [.int (i / j), .int (i % j)]), S) else none
  | _ => none
/-- tuple(x), list(x) -/
def fTuple : FN := fun ws S => match ws with
  | [w] => match tItems w with
    | some ds => some (.val (.tup ds), S)
    | none => match lItems w S with
      | some ds => some (.val (.tup ds), S)
      | none => none
  | _ => none
def fList : FN := fun ws S => match ws with
  | [w] => match tItems w with
    | some ds => some (.val (.fl ds), S)
    | none => match lItems w S with
      | some ds => some (.val (.fl ds), S)
      | none => none
  | _ => none
def fListC : FN := fun ws S => match ws with
  | [w] => match tItems w with
    | some ds => some (.loc S.length, S ++ [some ds])
    | none => match lItems w S with
      | some ds => some (.loc S.length, S ++ [some ds])
      | none => none
  | _ => none
def ints? : List D → Option (List Int)
  | [] => some []
  | .int i :: r => (ints? r).map (i :: ·)
  | _ :: _ => none
def bls? : List D → Option (List Bool)
  | [] => some []
  | .bl i :: r => (bls? r).map (i :: ·)
  | _ :: _ => none
def fSum : FN := fun ws S => match ws with
  | [w] => match lItems w S with
    | some ds => match ints? ds with
      | some ns => some (.val (.int ns.sum), S)
      | none => none
    | none => none
  | _ => none
def fAll : FN := fun ws S => match ws with
  | [w] => match lItems w S with
    | some ds => match bls? ds with
      | some bs => some (.val (.bl (bs.all id)), S)
      | none => none
    | none => none
  | _ => none
section
variable {K : PySem.W.Frag} {H : Hp} {μ : Mu} {S : Sto}
theorem ints?_ok : ∀ {ds : List D} {ns : List Int} {vs : List V}, ints? ds = some ns → Reps K H μ ds vs → vs = ns.map V.int
  | [], _, _, e, .nil => by cases e; rfl
  | .int i :: r, _, _, e, .cons h t => by
    cases h
    unfold ints? at e
    cases q : ints? r with
    | none => rw [q] at e; cases e
    | some ns =>
      rw [q] at e
      cases e
      rw [ints?_ok q t]; rfl
  | .non :: _, _, _, e, _ => by cases e
  | .bl _ :: _, _, _, e, _ => by cases e
  | .str _ :: _, _, _, e, _ => by cases e
  | .tup _ :: _, _, _, e, _ => by cases e
  | .fl _ :: _, _, _, e, _ => by cases e
  | .scr _ :: _, _, _, e, _ => by cases e
  | .dct _ _ :: _, _, _, e, _ => by cases e
  | .exc0 _ :: _, _, _, e, _ => by cases e
  | .exc1 _ _ _ :: _, _, _, e, _ => by cases e
theorem bls?_ok : ∀ {ds : List D} {ns : List Bool} {vs : List V}, bls? ds = some ns → Reps K H μ ds vs → vs = ns.map V.bl
  | [], _, _, e, .nil => by cases e; rfl
  | .bl i :: r, _, _, e, .cons h t => by
    cases h
    unfold bls? at e
    cases q : bls? r with
    | none => rw [q] at e; cases e
    | some ns =>
      rw [q] at e
      cases e
      rw [bls?_ok q t]; rfl
  | .non :: _, _, _, e, _ => by cases e
  | .int _ :: _, _, _, e, _ => by cases e
  | .str _ :: _, _, _, e, _ => by cases e
  | .tup _ :: _, _, _, e, _ => by cases e
  | .fl _ :: _, _, _, e, _ => by cases e
  | .scr _ :: _, _, _, e, _ => by cases e
  | .dct _ _ :: _, _, _, e, _ => by cases e
  | .exc0 _ :: _, _, _, e, _ => by cases e
  | .exc1 _ _ _ :: _, _, _, e, _ => by cases e
theorem RepWs.one {w : W} {vs : List V} (r : RepWs K H μ [w] vs) : ∃ v, vs = [v] ∧ RepW K H μ w v := by
  cases r with
  | cons h t => cases t; exact ⟨_, rfl, h⟩
theorem RepWs.two {w u : W} {vs : List V} (r : RepWs K H μ [w, u] vs) : ∃ v z, vs = [v, z] ∧ RepW K H μ w v ∧ RepW K H μ u z := by
  cases r with
  | cons h t =>
    obtain ⟨z, rfl, q⟩ := t.one
    exact ⟨_, z, rfl, h, q⟩
theorem opN_len : OpN K (fun xs H Q => ∃ p ys, xs = [.ref p] ∧ (SqL K H p ys ∨ SqT K H p ys) ∧ Q (.int ys.length) H) fLen := by
  intro μ S H ws vs w S' Q so r e k
  unfold fLen at e
  split at e
  · rename_i w0
    obtain ⟨v, rfl, rv⟩ := r.one
    split at e
    · rename_i ds e1
      cases e
      obtain ⟨a, us, rfl, q, rr⟩ := tItems_ok rv e1
      exact ⟨a, us, rfl, .inr q, by rw [← rr.length]; exact k μ _ H so .refl (.int _)⟩
    · split at e
      · rename_i ds e1
        cases e
        obtain ⟨a, us, rfl, q, rr⟩ := lItems_ok so rv e1
        exact ⟨a, us, rfl, .inl q, by rw [← rr.length]; exact k μ _ H so .refl (.int _)⟩
      · cases e
  · cases e
theorem opN_abs : OpN K (fun xs H Q => ∃ i, xs = [.int i] ∧ Q (.int (if i < 0 then -i else i)) H) (fInt1 iAbs) := by
  intro μ S H ws vs w S' Q so r e k
  unfold fInt1 at e
  split at e
  · rename_i i
    cases e
    obtain ⟨v, rfl, rv⟩ := r.one
    cases rv
    exact ⟨i, rfl, k μ _ H so .refl (.int _)⟩
  · cases e
theorem opN_int : OpN K (fun xs H Q => (∃ i, xs = [.int i] ∧ Q (.int i) H) ∨ ∃ k, xs = [.bl k] ∧ Q (.int (if k then 1 else 0)) H) fInt := by
  intro μ S H ws vs w S' Q so r e k
  unfold fInt at e
  split at e
  · rename_i i
    cases e
    obtain ⟨v, rfl, rv⟩ := r.one
    cases rv
    exact .inl ⟨i, rfl, k μ _ H so .refl (.int _)⟩
  · rename_i b
    cases e
    obtain ⟨v, rfl, rv⟩ := r.one
    cases rv
    exact .inr ⟨b, rfl, k μ _ H so .refl (.int _)⟩
  · cases e
theorem opN_max2 : OpN K (fun xs H Q => ∃ i j, xs = [.int i, .int j] ∧ Q (.int (if j > i then j else i)) H) (fInt2 iMax) := by
  intro μ S H ws vs w S' Q so r e k
  unfold fInt2 at e
  split at e
  · rename_i i j
    cases e
    obtain ⟨v, z, rfl, rv, rz⟩ := r.two
    cases rv
    cases rz
    exact ⟨i, j, rfl, k μ _ H so .refl (.int _)⟩
  · cases e
theorem opN_min2 : OpN K (fun xs H Q => ∃ i j, xs = [.int i, .int j] ∧ Q (.int (if j < i then j else i)) H) (fInt2 iMin) := by
  intro μ S H ws vs w S' Q so r e k
  unfold fInt2 at e
  split at e
  · rename_i i j
    cases e
    obtain ⟨v, z, rfl, rv, rz⟩ := r.two
    cases rv
    cases rz
    exact ⟨i, j, rfl, k μ _ H so .refl (.int _)⟩
  · cases e
theorem opN_gcd : OpN K rGcd (fInt2 iGcd) := by
  intro μ S H ws vs w S' Q so r e k
  unfold fInt2 at e
  split at e
  · rename_i i j
    cases e
    obtain ⟨v, z, rfl, rv, rz⟩ := r.two
    cases rv
    cases rz
    exact ⟨i, j, rfl, k μ _ H so .refl (.int _)⟩
  · cases e
theorem opN_divmod : OpN K (fun xs H Q => ∃ i j, xs = [.int i, .int j] ∧ CDivP i j ∧ ∀ p, H p = none → Q (.ref p) (upd H p (.tup [.int (i / j), .int (i % j)]))) fDivmod := by
  intro μ S H ws vs w S' Q so r e k
  unfold fDivmod at e
  split at e
  · rename_i i j
    split at e
    · rename_i hc
      cases e
      obtain ⟨v, z, rfl, rv, rz⟩ := r.two
      cases rv
      cases rz
      unfold cDivP at hc
      rw [Bool.and_eq_true] at hc
      refine ⟨i, j, rfl, ⟨of_decide_eq_true hc.1, by simpa using hc.2⟩, fun p hp => ?_⟩
      obtain ⟨s1, s2, s3⟩ := new_tup so hp (.cons (.int (i / j)) (.cons (.int (i % j)) .nil))
      exact k μ _ _ s1 s2 s3
    · cases e
  · cases e
theorem opN_tuple : OpN K (fun xs H Q => ∃ p ys, xs = [.ref p] ∧ ((SqL K H p ys ∧ ∀ l, H l = none → Q (.ref l) (upd H l (.tup ys))) ∨ (SqT K H p ys ∧ Q (.ref p) H))) fTuple := by
  intro μ S H ws vs w S' Q so r e k
  unfold fTuple at e
  split at e
  · rename_i w0
    obtain ⟨v, rfl, rv⟩ := r.one
    split at e
    · rename_i ds e1
      cases e
      obtain ⟨a, us, rfl, q, rr⟩ := tItems_ok rv e1
      exact ⟨a, us, rfl, .inr ⟨q, k μ _ H so .refl (.tup q rr)⟩⟩
    · split at e
      · rename_i ds e1
        cases e
        obtain ⟨a, us, rfl, q, rr⟩ := lItems_ok so rv e1
        refine ⟨a, us, rfl, .inl ⟨q, fun p hp => ?_⟩⟩
        obtain ⟨s1, s2, s3⟩ := new_tup so hp rr
        exact k μ _ _ s1 s2 s3
      · cases e
  · cases e
theorem opN_list : OpN K (fun xs H Q => ∃ p ys, xs = [.ref p] ∧ (SqL K H p ys ∨ SqT K H p ys) ∧ ∀ l, H l = none → Q (.ref l) (upd H l (.lst ys))) fList := by
  intro μ S H ws vs w S' Q so r e k
  unfold fList at e
  split at e
  · rename_i w0
    obtain ⟨v, rfl, rv⟩ := r.one
    split at e
    · rename_i ds e1
      cases e
      obtain ⟨a, us, rfl, q, rr⟩ := tItems_ok rv e1
      exact ⟨a, us, rfl, .inr q, fun p hp => k μ _ _ (so.alloc hp) (.alloc hp) (new_fl so hp rr)⟩
    · split at e
      · rename_i ds e1
        cases e
        obtain ⟨a, us, rfl, q, rr⟩ := lItems_ok so rv e1
        exact ⟨a, us, rfl, .inl q, fun p hp => k μ _ _ (so.alloc hp) (.alloc hp) (new_fl so hp rr)⟩
      · cases e
  · cases e
theorem opN_listC : OpN K (fun xs H Q => ∃ p ys, xs = [.ref p] ∧ (SqL K H p ys ∨ SqT K H p ys) ∧ ∀ l, H l = none → Q (.ref l) (upd H l (.lst ys))) fListC := by
  intro μ S H ws vs w S' Q so r e k
  unfold fListC at e
  split at e
  · rename_i w0
    obtain ⟨v, rfl, rv⟩ := r.one
    split at e
    · rename_i ds e1
      cases e
      obtain ⟨a, us, rfl, q, rr⟩ := tItems_ok rv e1
      refine ⟨a, us, rfl, .inr q, fun p hp => ?_⟩
      obtain ⟨s1, s2, s3⟩ := new_cell so hp rr
      exact k _ _ _ s1 s2 s3
    · split at e
      · rename_i ds e1
        cases e
        obtain ⟨a, us, rfl, q, rr⟩ := lItems_ok so rv e1
        refine ⟨a, us, rfl, .inl q, fun p hp => ?_⟩
        obtain ⟨s1, s2, s3⟩ := new_cell so hp rr
        exact k _ _ _ s1 s2 s3
      · cases e
  · cases e
theorem opN_all : OpN K (rAll K) fAll := by
  intro μ S H ws vs w S' Q so r e k
  unfold fAll at e
  split at e
  · rename_i w0
    obtain ⟨v, rfl, rv⟩ := r.one
    split at e
    · rename_i ds e1
      split at e
      · rename_i bs e2
        cases e
        obtain ⟨a, us, rfl, q, rr⟩ := lItems_ok so rv e1
        rw [bls?_ok e2 rr] at q
        exact ⟨a, bs, rfl, q, k μ _ H so .refl (.bl _)⟩
      · cases e
    · cases e
  · cases e
end

/-! ### types -/
def D.ty : D → String
  | .non => "NoneType"
  | .bl _ => "bool"
  | .int _ => "int"
  | .str _ => "str"
  | .tup _ => "tuple"
  | .fl _ => "list"
  | .scr _ => "list"
  | .dct _ _ => "dict"
  | .exc0 _ => "?"
  | .exc1 _ _ _ => "?"
def D.isB : D → Bool
  | .dct _ _ => false
  | .exc0 _ => false
  | .exc1 _ _ _ => false
  | _ => true
def W.ty : W → String
  | .val d => d.ty
  | .loc _ => "list"
section
variable {K : PySem.W.Frag} {H : Hp} {μ : Mu} {S : Sto}
/-- what a live name holds has a type (a closed list's name has none) -/
def W.live (w : W) (S : Sto) : Bool := match w with
  | .val d => d.isB
  | .loc l => ((S[l]?).getD none).isSome
theorem W.tyB (so : StoreOk K H μ S) {w : W} {v : V} (r : RepW K H μ w v) (hl : w.live S = true) : TyB K H v w.ty := by
  cases w with
  | val d =>
    cases (show Rep K H μ d v from r) with
    | non => exact .non
    | bl b => exact .bl b
    | int i => exact .int i
    | str x => exact .str x
    | tup q _ => exact .tup q
    | fl q _ => exact .lst q.sqL
    | scr q => exact .lst q.sqL
    | dct q _ _ => cases hl
    | exc0 _ _ => cases hl
    | exc1 _ _ _ _ => cases hl
  | loc l =>
    have hl' : ((S[l]?).getD none).isSome = true := hl
    cases q : (S[l]?).getD none with
    | none => rw [q] at hl'; cases hl'
    | some ds =>
      obtain ⟨a, vs, rfl, h1, _⟩ := lItems_ok so (w := .loc l) r q
      exact .lst h1
end
/-- type(x) == T -/
def mTyEq (T : String) (m : EM) : EM := fun ρ S => match m ρ S with
  | some (w, S1) => if w.live S1 then some (.val (.bl (decide (w.ty = T))), S1) else none
  | none => none
theorem tyIs_type {T : String} (h : T ∈ ["NoneType", "bool", "int", "str", "tuple", "list"]) (s : Shared) : s.TypeIs (.type T) "type" := by
  simp only [List.mem_cons, List.not_mem_nil, or_false] at h
  rcases h with rfl | rfl | rfl | rfl | rfl | rfl <;> first | rfl | (show typeOf _ = _; kernel_rfl) | kernel_rfl
theorem W.ty_mem (w : W) (S : Sto) (h : w.live S = true) : w.ty ∈ ["NoneType", "bool", "int", "str", "tuple", "list"] := by
  cases w with
  | loc l => simp [W.ty]
  | val d => cases d <;> first | (simp [W.ty, D.ty]; done) | cases h
def rTyEq : R2 := fun x y H Q => ∃ a b, x = .ty a ∧ y = .ty b ∧ a ∈ ["NoneType", "bool", "int", "str", "tuple", "list"] ∧ b ∈ ["NoneType", "bool", "int", "str", "tuple", "list"] ∧ Q (.bl (decide (a = b))) H
theorem op_tyEq {X : Cx} : OpR X (compareOp .Eq) rTyEq := by
  intro pins s σ H x y v u Q I rx ry h
  obtain ⟨a, b, rfl, rfl, ha, hb, q⟩ := h
  cases rx
  cases ry
  by_cases e : a = b
  · subst e
    rw [decide_eq_true rfl] at q
    exact PySem.TypeEq.eq_type_same (tyIs_type ha) ⟨.bl true, H, I, rfl, q⟩
  · rw [decide_eq_false e] at q
    exact PySem.TypeEq.eq_type_other (tyIs_type ha) (tyIs_type hb) (by simpa using e) ⟨.bl false, H, I, rfl, q⟩
end HM

set_option Elab.async false
set_option linter.all false
set_option maxRecDepth 100000
set_option autoImplicit false
namespace HM
open PySem PySem.Spec L2
open PyProof.Rows hiding St

section
variable {X : Cx} {e : Expr} {m : EM} {p p2 pos pos2 : Pos}
/-- type(e) == T -/
theorem me_tyEq {T : String} {x : Str} (hT : T ∈ ["NoneType", "bool", "int", "str", "tuple", "list"]) (hg : Gl X "type") (hm : X.mg "type" = none) (hg2 : Gl X x) (hm2 : X.mg x = none) (hv : bootBuiltins x = some (.type T)) (h : PE X e (tM X.K m))
    (hn : x ≠ "__name__" := by decide) (hd : (x == ("__debug__" : Str)) = false := by decide) (hb : bootBuiltins "type" = some (.type "type") := by first | rfl | decide +kernel)
    (hs : starEach [e] X.env = (false, eval e X.env) :: starEach [] X.env := by rfl) :
    PE X (.Compare (.Call (.Name "type" p) [e] [] pos) [.Eq] [.Name x p2] pos2) (tM X.K (mTyEq T m)) := by
  have h1 : PE X (.Call (.Name "type" p) [e] [] pos) (tCB (rTyp X.K) (tCons (tM X.K m) tNil)) := pe_callTy call_type1 hg hm hb (pa_cons h pa_nil hs) (by decide) (by decide) hs (by rfl)
  have h2 : PE X (.Name x p2) (tC (.ty T)) := pe_bltn hg2 hm2 hv rfl hn hd
  refine PE.imp (pe_cmpR op_tyEq h1 h2 (nomark _)) fun σ H Q q => ?_
  obtain ⟨μ, ρ, S, w, S', ok, e, k⟩ := q
  unfold mTyEq at e
  split at e
  · rename_i w0 S1 e1
    split at e
    · rename_i hl
      cases e
      refine ⟨μ, ρ, S, w0, _, ok, e1, fun μ1 v H1 so1 st1 r1 => ?_⟩
      exact ⟨v, w0.ty, rfl, W.tyB so1 r1 hl, w0.ty, T, rfl, rfl, w0.ty_mem _ hl, hT, k μ1 _ H1 so1 st1 (.bl _)⟩
    · cases e
  · cases e

/-! ### isinstance -/
theorem TyX.of_d {K : PySem.W.Frag} {H : Hp} {μ : Mu} {d : D} {v : V} (hb : d.isB = true) (r : Rep K H μ d v) : TyX K H v (.type d.ty) := by
  cases r with
  | non => exact .base .non
  | bl b => exact .base (.bl b)
  | int i => exact .base (.int i)
  | str x => exact .base (.str x)
  | tup q _ =>
    rcases q with (q | ⟨o, q⟩) | ⟨o, its, n, h1, h2, _⟩
    · exact .base (.tup q)
    · exact .fTuple q
    · exact .kTuple h1 h2
  | fl q _ => exact .base (.lst q.1)
  | scr q =>
    rcases q with ⟨o, q⟩ | q | ⟨o, its, n, h1, h2, _⟩
    · exact .base (.frz q)
    · rcases q with q | ⟨o, q⟩ <;> cases q
    · exact .kList h1 h2
  | dct q _ _ => cases hb
  | exc0 _ _ => cases hb
  | exc1 _ _ _ _ => cases hb
def isB (T t : String) : Bool := (kitB t T).getD false
def mIsi (T : String) (m : EM) : EM := fun ρ S => match m ρ S with
  | some (.val d, S1) => if d.isB then some (.val (.bl (isB T d.ty)), S1) else none
  | _ => none
theorem me_isi {T : String} {x : Str} (hk : ∀ t ∈ ["NoneType", "bool", "int", "str", "tuple", "list"], (kitB t T).isSome = true) (hg : Gl X "isinstance") (hm : X.mg "isinstance" = none) (hg2 : Gl X x) (hm2 : X.mg x = none) (hv : bootBuiltins x = some (.type T)) (h : PE X e (tM X.K m))
    (hn : x ≠ "__name__" := by decide) (hd : (x == ("__debug__" : Str)) = false := by decide) (hb : bootBuiltins "isinstance" = some (.builtin "isinstance") := by first | rfl | decide +kernel)
    (hs : starEach [e, .Name x p2] X.env = (false, eval e X.env) :: starEach [.Name x p2] X.env := by rfl) (hs2 : starEach [.Name x p2] X.env = (false, eval (.Name x p2) X.env) :: starEach [] X.env := by rfl) (hpl : (backTo pos (starEach [.Name x p2] X.env)).any (·.1) = false := by rfl) :
    PE X (.Call (.Name "isinstance" p) [e, .Name x p2] [] pos) (tM X.K (mIsi T m)) := by
  have h2 : PE X (.Name x p2) (tC (.ty T)) := pe_bltn hg2 hm2 hv rfl hn hd
  refine PE.imp (pe_callB call_isi hg hm hb (pa_cons h (pa_cons h2 pa_nil hs2) hs) (by decide) (by decide) hs hpl) fun σ H Q q => ?_
  obtain ⟨μ, ρ, S, w, S', ok, e, k⟩ := q
  unfold mIsi at e
  split at e
  · rename_i d S1 e1
    split at e
    · rename_i hb
      cases e
      refine ⟨μ, ρ, S, _, _, ok, e1, fun μ1 v H1 so1 st1 r1 => ?_⟩
      have hy := hk d.ty (W.ty_mem (.val d) [] hb)
      refine ⟨v, .ty T, .type d.ty, .type T, isB T d.ty, rfl, .ty T, TyX.of_d hb r1, kit_ty ?_, k μ1 _ H1 so1 st1 (.bl _)⟩
      unfold isB
      cases q : kitB d.ty T with
      | none => rw [q] at hy; cases hy
      | some b => rfl
    · cases e
  · cases e

/-! ### repr -/
theorem shaped_noDict {d : PyData} (h : SeqAt.shaped d = true) : d.hasDict = false := PyData.hasDict_of_canLay d (SeqAt.canLay_of_shaped h)
theorem repr_any {v : Value} {d : PyData} {as : List Addr} {A : Around} {E : Value → Shared → Prop} {s : Shared} {prog : Program} {w : World} {Q : Value → Shared → Prop} (r : Reads s.heap v d as) (hs : d.showable = true) (sh : SeqAt.shaped d = true) (hz : d.shown.length ≤ sizeLine)
    (hg : A.guards = some []) (hu : A.units + 66 < cLine) (hQ : ∀ h' u tk, (∀ b o, s.heap.get? b = some o → h'.get? b = some o) → Q (.str d.shown u) { s with heap := h', toks := tk }) : wpAny (model prog w) A (call (.builtin "repr") [v]) Q E s := by
  have dp := SeqAt.depth_of_shaped sh
  cases r with
  | none => exact PySem.P.repr_of_none (hQ s.heap _ _ fun _ _ e => e)
  | bool b => exact PySem.P.repr_of_bool (hQ s.heap _ _ fun _ _ e => e)
  | int i t =>
    unfold PyData.showable at hs
    exact PySem.P.repr_of_int (of_decide_eq_true hs) (hQ s.heap _ _ fun _ _ e => e)
  | str x t => exact PySem.P.repr_of_str (hQ s.heap _ _ fun _ _ e => e) (by unfold PyData.shown at hz; exact hz)
  | list h1 h2 h3 h4 => exact repr_of_reads' (.list h1 h2 h3 h4) hs (PyData.noDict_hsm (shaped_noDict sh)) hg (by omega) (fun _ _ e => e) hQ hz
  | tuple h1 h2 h3 h4 => exact repr_of_reads' (.tuple h1 h2 h3 h4) hs (PyData.noDict_hsm (shaped_noDict sh)) hg (by omega) (fun _ _ e => e) hQ hz
  | dict h1 h2 h3 h4 h5 =>
    have := shaped_noDict sh
    simp [PyData.hasDict] at this
def rRepr (K : PySem.W.Frag) : List V → Hp → VK → Prop := fun vs H Q => ∃ v d, vs = [v] ∧ Dp K H v d ∧ d.showable = true ∧ SeqAt.shaped d = true ∧ d.shown.length ≤ sizeLine ∧ Q (.str d.shown) H
theorem call_repr (hg : X.A.guards = some []) (hu : X.A.units + 66 < cLine) : CallR X (.builtin "repr") (rRepr X.K) := by
  intro pins s σ H xs us Q I r h
  obtain ⟨v, d, rfl, hd, h1, h2, h3, q⟩ := h
  cases r with
  | cons r rr =>
    cases rr
    obtain ⟨as, rd⟩ := Dp.reads I d v _ hd r
    exact repr_any rd h1 h2 h3 hg hu fun h' u tk k => ⟨.str d.shown, H, I.kept k, ⟨u, rfl⟩, q⟩
def fRepr : FN := fun ws S => match ws with
  | [w] => match w.py S with
    | some d => if d.showable && SeqAt.shaped d && decide (d.shown.length ≤ sizeLine) then some (.val (.str d.shown), S) else none
    | none => none
  | _ => none
theorem opN_repr {K : PySem.W.Frag} : OpN K (rRepr K) fRepr := by
  intro μ S H ws vs w S' Q so r e k
  unfold fRepr at e
  split at e
  · rename_i w0
    obtain ⟨v, rfl, rv⟩ := r.one
    split at e
    · rename_i d e1
      split at e
      · rename_i h
        rw [Bool.and_eq_true, Bool.and_eq_true] at h
        cases e
        exact ⟨v, d, rfl, W.dp so rv e1, h.1.1, h.1.2, of_decide_eq_true h.2, k μ _ H so .refl (.str _)⟩
      · cases e
    · cases e
  · cases e
end

/-! ### a def that is run where no repr is under way -/
structure FnG (P : Program) (w : World) (K : PySem.W.Frag) (mg : Str → Option Value) (base : Heap) (k : Nat) (f : Addr) (fd : FuncData) (ps : List Str) (sp : Sp) : Prop where
  len : ∀ vs H Q E, sp vs H Q E → vs.length = ps.length
  run : ∀ (A : Around) (outer : List Env) (s : Shared) (H : Hp) (args : Args) (us : List Value) (vs : List V) (Q : VK) (E : XK), Room k A → A.guards = some [] → Env0 P w K mg base A outer s H → BindsTo s fd args (ps.zip us) → Vals vs us → sp vs H Q E →
    codeAny (model P w) A (.call (.ref f) args) (CR CX0 outer P w H s Q E) s
theorem FnG.mono {P : Program} {w : World} {K : PySem.W.Frag} {mg : Str → Option Value} {base : Heap} {j k : Nat} {f : Addr} {fd : FuncData} {ps : List Str} {sp : Sp} (F : FnG P w K mg base j f fd ps sp) (h : j ≤ k) : FnG P w K mg base k f fd ps sp :=
  ⟨F.len, fun A outer s H args us vs Q E hr => F.run A outer s H args us vs Q E (hr.mono h)⟩
/-- a def's partial function: its values bound to slots, its body run -/
def fnM (n : Nat) (body : SM) : FM := fun ws S => match body (ws.map some ++ List.replicate (n - ws.length) none) S with
  | some (.nx, _, S') => some (.val .non, S')
  | some (.ret w, _, S') => some (w, S')
  | _ => none
/-- .. that keeps the cells that it has made to itself -/
def trimF (F : FM) : FM := fun ws S => match F ws S with
  | some (.val d, S') => some (.val d, S'.take S.length)
  | _ => none
def spM (K : PySem.W.Frag) (n : Nat) (F : FM) : Sp := fun vs H Q _ => vs.length = n ∧ ∃ μ S ws w S', StoreOk K H μ S ∧ RepWs K H μ ws vs ∧ F ws S = some (w, S') ∧
  ∀ μ' v H', StoreOk K H' μ' S' → Step H μ H' μ' → RepW K H' μ' w v → Q v H'
theorem EnvOk.start {K : PySem.W.Frag} {H : Hp} {μ : Mu} {ws : List W} {vs : List V} {N : List Str} (r : RepWs K H μ ws vs) (hl : vs.length ≤ N.length) : EnvOk K H μ (ws.map some ++ List.replicate (N.length - ws.length) none) (L2.start N vs) := by
  have e := r.length
  refine ⟨?_, fun i w h => ?_⟩
  · unfold L2.start
    rw [List.length_append, List.length_append, List.length_map, List.length_map, List.length_replicate, List.length_replicate, e]
  · by_cases hi : i < ws.length
    · rw [List.getElem?_append_left (by simpa using hi), List.getElem?_map] at h
      cases q : ws[i]? with
      | none => rw [q] at h; cases h
      | some w' =>
        rw [q] at h
        cases h
        obtain ⟨v, h1, h2⟩ := r.get q
        refine ⟨v, ?_, h2⟩
        unfold L2.start
        rw [List.getElem?_append_left (by rw [List.length_map, ← e]; exact hi), List.getElem?_map, h1]
        rfl
    · rw [List.getElem?_append_right (by simpa using hi), List.getElem?_replicate] at h
      split at h <;> cases h
/-- fewer cells -/
def Trim (K : PySem.W.Frag) (H : Hp) (μ μ' : Mu) : Prop := ∀ a, some a ∉ μ → some a ∉ μ'
mutual
theorem Trim.rep {K : PySem.W.Frag} {H : Hp} {μ μ' : Mu} (t : Trim K H μ μ') : ∀ {d : D} {v : V}, Rep K H μ d v → Rep K H μ' d v
  | _, _, .non => .non
  | _, _, .bl b => .bl b
  | _, _, .int i => .int i
  | _, _, .str x => .str x
  | _, _, .tup q r => .tup q (Trim.reps t r)
  | _, _, .fl q r => .fl ⟨q.1, t _ q.2⟩ (Trim.reps t r)
  | _, _, .scr q => .scr q
  | _, _, .dct q l r => .dct q l (Trim.reps t r)
  | _, _, .exc0 c q => .exc0 c q
  | _, _, .exc1 c q x r => .exc1 c q x (Trim.rep t r)
theorem Trim.reps {K : PySem.W.Frag} {H : Hp} {μ μ' : Mu} (t : Trim K H μ μ') : ∀ {ds : List D} {vs : List V}, Reps K H μ ds vs → Reps K H μ' ds vs
  | _, _, .nil => .nil
  | _, _, .cons r q => .cons (Trim.rep t r) (Trim.reps t q)
end
theorem trim_ok {K : PySem.W.Frag} {H H' : Hp} {μ μ' : Mu} {S S' : Sto} {d : D} {v : V} (so : StoreOk K H μ S) (so' : StoreOk K H' μ' S') (st : Step H μ H' μ') (r : Rep K H' μ' d v) :
    StoreOk K H' (μ'.take S.length) (S'.take S.length) ∧ Step H μ H' (μ'.take S.length) ∧ Rep K H' (μ'.take S.length) d v := by
  have sub : ∀ {l : Nat} {a : Addr}, (μ'.take S.length)[l]? = some (some a) → μ'[l]? = some (some a) ∧ l < S.length := fun {l a} h => by
    have hl : l < (μ'.take S.length).length := (List.getElem?_eq_some_iff.mp h).1
    rw [List.length_take] at hl
    have hl' : l < S.length := by omega
    rw [List.getElem?_take_of_lt hl'] at h
    exact ⟨h, hl'⟩
  have mem : ∀ {a : Addr}, some a ∈ μ'.take S.length → some a ∈ μ' := fun {a} h => List.mem_of_mem_take h
  have keepR : ∀ {dd : D} {vv : V}, Rep K H' μ' dd vv → Rep K H' (μ'.take S.length) dd vv := by
    have tr : Trim K H' μ' (μ'.take S.length) := fun a h z => h (mem z)
    exact fun {_ _} r => tr.rep r
  have keepRs : ∀ {dd : List D} {vv : List V}, Reps K H' μ' dd vv → Reps K H' (μ'.take S.length) dd vv := by
    have tr : Trim K H' μ' (μ'.take S.length) := fun a h z => h (mem z)
    exact fun {_ _} r => tr.reps r
  have ln : μ.length ≤ μ'.length := st.len
  have lm : μ.length = S.length := so.len
  refine ⟨⟨by rw [List.length_take, List.length_take, so'.len], fun l ds h => ?_, fun l h => ?_, fun l m a h1 h2 => so'.inj l m a (sub h1).1 (sub h2).1⟩, ⟨st.keep, fun a h => st.new a (mem h), fun l a hl h => st.old l a hl (sub h).1, by rw [List.length_take]; omega⟩, keepR r⟩
  · have hl : l < (S'.take S.length).length := (List.getElem?_eq_some_iff.mp h).1
    rw [List.length_take] at hl
    have hl' : l < S.length := by omega
    rw [List.getElem?_take_of_lt hl'] at h
    obtain ⟨a, vs, h1, h2, h3⟩ := so'.cell l ds h
    exact ⟨a, vs, by rw [List.getElem?_take_of_lt hl']; exact h1, h2, keepRs h3⟩
  · have hl : l < (S'.take S.length).length := (List.getElem?_eq_some_iff.mp h).1
    rw [List.length_take] at hl
    have hl' : l < S.length := by omega
    rw [List.getElem?_take_of_lt hl'] at h ⊢
    exact so'.dead l h
end HM

set_option Elab.async false
set_option linter.all false
set_option maxRecDepth 100000
set_option autoImplicit false
namespace HM
open PySem PySem.Spec L2
open PyProof.Rows hiding St

/-! ### a call of a def -/
section
variable {X : Cx} {k n : Nat} {f : Addr} {fd : FuncData} {ps : List Str} {F : FM} {x : Str} {p pos : Pos} {e : Expr} {es : List Expr} {a : AM}
theorem run_fnG {sp : Sp} {pins : List (Addr × Obj)} {σ : L2.St} {H : Hp} {s : Shared} {Q : VK} {us : List Value} {vs : List V} (G : FnG X.prog X.w X.K X.mg X.base k f fd ps sp) (hr : Room k X.A) (hgd : X.A.guards = some []) (hb : Binds X.K fd ps [])
    (I : Inv X pins σ H s) (r : Vals vs us) (h : sp vs H Q E0) : wpAny (model X.prog X.w) X.A (call (.ref f) us) (EP X pins σ Q) X.xe s := by
  have hl : (us ++ []).length = ps.length := by rw [List.append_nil, ← r.length]; exact G.len _ _ _ _ h
  have hb' := hb s us I.kIn hl
  rw [List.append_nil] at hb'
  refine wpAny_call (codeAny_mono (G.run X.A X.stack s H ⟨us, []⟩ us vs Q E0 hr hgd I.env0 hb' r h) fun r s' hq => ?_)
  cases r with
  | error e => exact (show False from hq).elim
  | ok fl =>
    cases fl with
    | ret u => exact I.after hq
    | next => exact False.elim hq
    | brk => exact False.elim hq
    | cont => exact False.elim hq
theorem me_call (G : FnG X.prog X.w X.K X.mg X.base k f fd ps (spM X.K n F)) (hr : Room k X.A) (hgd : X.A.guards = some []) (hg : Gl X x) (hm : X.mg x = some (.ref f)) (hk : PySem.W.keepIn X.K (.ref f) = true) (hb : Binds X.K fd ps []) (hn : (e :: es).length = n)
    (ha : PA X (e :: es) (tA X.K a)) (hla : ∀ ρ S ws S', a ρ S = some (ws, S') → ws.length = n) (hdb : (x == ("__debug__" : Str)) = false := by decide) (he : starEach (e :: es) X.env = (false, eval e X.env) :: starEach es X.env := by rfl) (hpl : (backTo pos (starEach es X.env)).any (·.1) = false := by rfl) :
    PE X (.Call (.Name x p) (e :: es) [] pos) (tM X.K (mCall F a)) := by
  refine ⟨fun pins s σ H Q I h => ?_⟩
  obtain ⟨μ, ρ, S, w, S', ok, e0, kk⟩ := h
  unfold mCall at e0
  split at e0
  · rename_i ws S1 e1
    refine wpAny_Call_Name_kw (ld_glob I hg hm ?_ hdb)
    refine PySem.W.callWith_K (h₀ := X.base) I.ok.mod.kin hk (thn (ha.run pos pins s σ H (fun vs' H' => spM X.K n F vs' H' Q E0) I ⟨μ, ρ, S, ws, S1, ok, e1, fun μ1 vs H1 so1 st1 r1 => ?_⟩) fun us s1 ⟨vs, H1, I1, r, q⟩ => ⟨I1.kIn, ?_⟩) he hpl
    · refine ⟨by rw [← r1.length]; exact hla _ _ _ _ e1, μ1, S1, ws, w, S', so1, r1, e0, fun μ2 v H2 so2 st2 r2 => kk μ2 v H2 so2 (st1.trans st2) r2⟩
    · exact run_fnG G hr hgd hb I1 r q
  · cases e0
end

/-! ### the body of a def -/
section
variable {P : Program} {w : World} {K : PySem.W.Frag} {mg : Str → Option Value} {base : Heap}
theorem fnG_of {k : Nat} {f : Addr} {name qual : Str} {params : Arguments} {body : List Stmt} {scope : Scope} {dV kV doc pm cdv ct oc : Value} {an od : Option Addr}
    {osl : Array (Option Value)} {N ps : List Str} {sp : Sp} (lk : K.lookup f = some ⟨oc, od, .func (PySem.W.fnOf name qual params body scope dV kV doc pm an cdv ct), osl⟩) (hcd : PySem.W.codeIn K cdv qual = true) (S : FnScope N ps scope)
    (len : ∀ vs H Q E, sp vs H Q E → vs.length = ps.length)
    (hbody : ∀ (A : Around) (outer : List Env) (s : Shared) (H : Hp) (vs : List V) (Q : VK) (E : XK), Room k (A.deeper (envOfC qual scope s.heap.objs.size f cdv)) → (A.deeper (envOfC qual scope s.heap.objs.size f cdv)).guards = some [] → sp vs H Q E →
      ∃ t, PSs (cxOf CX0 P w K mg base N qual scope f cdv A outer s H E).nox body t ∧ t { nx := fun _ H' => Q .non H', rt := Q } (L2.start N vs) H) :
    FnG P w K mg base (k + 1) f (PySem.W.fnOf name qual params body scope dV kV doc pm an cdv ct) ps sp := by
  refine ⟨len, fun A outer s H args us vs Q E hr hgd e0 hb r hsp => ?_⟩
  have hl := len _ _ _ _ hsp
  have KX : K.In s.heap := e0.mod.kin.keeps fun b o e => (e0.bs b o e).1
  have lim : s.heap.NoLimit := e0.mod.nolimit.keeps fun b o e => (e0.bs b o e).1
  have hkind : ∀ y ∈ ps.zip us, scope.names.lookup y.1 = some .local ∨ (scope.names.lookup y.1 = some .cell ∧ ((cellsFrom (s.heap.objs.size + 1) scope.names []).lookup y.1).isSome = true) := fun ⟨n, v⟩ hy => by
    rcases S.par n (List.of_mem_zip hy).1 with q | q
    · exact .inl q
    · exact .inr ⟨q, PySem.W.cellsFrom_some _ _ _ (.inl q)⟩
  refine codeAny_call_function hr.depth (KX _ _ lk) rfl S.co S.gen rfl (PySem.W.codeRec_of KX hcd) (hb _ _ _ _ ?_)
  refine wpAny_newFunctionEnv_cells S.kind hkind fun env he s1 x => ?_
  subst he
  refine ⟨lim.keeps x.toInCall.keep, codeAny_func ?_⟩
  obtain ⟨t, ht0, hq⟩ := hbody A outer s H vs Q E (hr.deeper _) hgd hsp
  have ht := ht0.nox
  have I : Inv (cxOf CX0 P w K mg base N qual scope f cdv A outer s H E) [] (L2.start N vs) H s1 := inv_start S hr.hd e0 hl r x
  refine wpAny_mono (ht.run [] s1 (L2.start N vs) H _ I hq) (fun fl s' hs => ?_) fun e s' hs => hs
  have fin : ∀ {σ' : L2.St} {H' : Hp} {v : V} {u : Value}, Inv (cxOf CX0 P w K mg base N qual scope f cdv A outer s H E) [] σ' H' s' → RelV v u → Q v H' → CE outer P w H s Q u s' :=
    fun {σ' H' v u} J rv q => ⟨v, H', J.os, J.bare, J.base, J.hok, rv, q⟩
  cases fl with
  | ret u =>
    obtain ⟨v, σ', H', J, rv, q⟩ := hs
    exact fin J rv q
  | next =>
    obtain ⟨σ', H', J, q⟩ := hs
    exact fin (v := V.non) (u := Value.none) J rfl q
  | brk =>
    obtain ⟨_, _, _, q⟩ := hs
    exact False.elim q
  | cont =>
    obtain ⟨_, _, _, q⟩ := hs
    exact False.elim q
/-- the context of a def's body -/
abbrev BCx (P : Program) (w : World) (K : PySem.W.Frag) (mg : Str → Option Value) (base : Heap) (N : List Str) (qual : Str) (scope : Scope) (f : Addr) (cdv : Value) (A : Around) (outer : List Env) (s : Shared) (H : Hp) (E : XK) : Cx :=
  (cxOf CX0 P w K mg base N qual scope f cdv A outer s H E).nox
/-- THE RULE: a def whose body has the partial function b -/
theorem fnG {x qual : Str} {st : Stmt} {f : Addr} {fd : FuncData} {N ps : List Str} {k : Nat} {b : SM} (F : Fun K x qual st f fd) (S : FnScope N ps (defScope st))
    (hbody : ∀ (cdv : Value) (A : Around) (outer : List Env) (s : Shared) (H : Hp) (E : XK), Room k (A.deeper (envOfC qual (defScope st) s.heap.objs.size f cdv)) → (A.deeper (envOfC qual (defScope st) s.heap.objs.size f cdv)).guards = some [] →
      PSs (BCx P w K mg base N qual (defScope st) f cdv A outer s H E) (defBody st) (tS K b)) : FnG P w K mg base (k + 1) f fd ps (spM K ps.length (fnM N.length b)) := by
  obtain ⟨oc, od, kV, doc, pm, an, cdv, ct, osl, rfl, lk, hcd⟩ := F.ex
  refine fnG_of lk hcd S (fun vs H Q E h => h.1) fun A outer s H vs Q E hr hgd hsp => ?_
  obtain ⟨hl, μ, S0, ws, w0, S', so, rw', e, kk⟩ := hsp
  refine ⟨_, hbody cdv A outer s H E hr hgd, ?_⟩
  have hpl : ps.length ≤ N.length := by have := congrArg List.length S.pre; rw [List.length_take] at this; omega
  unfold fnM at e
  split at e
  · rename_i ρ' S1 e1
    cases e
    exact ⟨μ, _, S0, _, _, _, ⟨so, EnvOk.start rw' (by omega)⟩, e1, fun μ1 H1 so1 st1 => fun σ _ => kk μ1 .non H1 so1 st1 .non⟩
  · rename_i w1 ρ' S1 e1
    cases e
    exact ⟨μ, _, S0, _, _, _, ⟨so, EnvOk.start rw' (by omega)⟩, e1, fun μ1 H1 so1 st1 => fun v rv => kk μ1 v H1 so1 st1 rv⟩
  · cases e
/-- .. and it keeps its cells to itself -/
theorem FnG.trim {f : Addr} {fd : FuncData} {ps : List Str} {k n : Nat} {F : FM} (G : FnG P w K mg base k f fd ps (spM K n F)) : FnG P w K mg base k f fd ps (spM K n (trimF F)) := by
  have im : ∀ vs H Q E, spM K n (trimF F) vs H Q E → spM K n F vs H Q E := by
    intro vs H Q E h
    obtain ⟨hl, μ, S0, ws, w0, S', so, rw', e, kk⟩ := h
    unfold trimF at e
    split at e
    · rename_i d S1 e1
      cases e
      refine ⟨hl, μ, S0, ws, _, S1, so, rw', e1, fun μ1 v H1 so1 st1 r1 => ?_⟩
      obtain ⟨a, b, c⟩ := trim_ok so so1 st1 (show Rep K H1 μ1 d v from r1)
      exact kk _ v H1 a b c
    · cases e
  exact ⟨fun vs H Q E q => G.len vs H Q E (im _ _ _ _ q), fun A outer s H args us vs Q E hr hgd he hb hv hs => G.run A outer s H args us vs Q E hr hgd he hb hv (im _ _ _ _ hs)⟩
/-- .. by another name of its function -/
theorem FnG.as {f : Addr} {fd : FuncData} {ps : List Str} {k n : Nat} {F F' : FM} (G : FnG P w K mg base k f fd ps (spM K n F)) (h : ∀ ws S w' S', F' ws S = some (w', S') → F ws S = some (w', S')) : FnG P w K mg base k f fd ps (spM K n F') := by
  have im : ∀ vs H Q E, spM K n F' vs H Q E → spM K n F vs H Q E := by
    intro vs H Q E q
    obtain ⟨hl, μ, S0, ws, w0, S', so, rw', e, kk⟩ := q
    exact ⟨hl, μ, S0, ws, w0, S', so, rw', h _ _ _ _ e, kk⟩
  exact ⟨fun vs H Q E q => G.len vs H Q E (im _ _ _ _ q), fun A outer s H args us vs Q E hr hgd he hb hv hs => G.run A outer s H args us vs Q E hr hgd he hb hv (im _ _ _ _ hs)⟩
end

/-! ### statements -/
def sNx : SM := fun ρ S => some (.nx, ρ, S)
def sSeq (a b : SM) : SM := fun ρ S => match a ρ S with
  | some (.nx, ρ1, S1) => b ρ1 S1
  | r => r
def sSet (i : Nat) (m : EM) : SM := fun ρ S => match m ρ S with
  | some (w, S1) => some (.nx, ρ.set i (some w), S1)
  | none => none
def sExpr (m : EM) : SM := fun ρ S => match m ρ S with
  | some (_, S1) => some (.nx, ρ, S1)
  | none => none
def sRet (m : EM) : SM := fun ρ S => match m ρ S with
  | some (w, S1) => some (.ret w, ρ, S1)
  | none => none
def sIf (t : TM) (a b : SM) : SM := fun ρ S => match t ρ S with
  | some (true, S1) => a ρ S1
  | some (false, S1) => b ρ S1
  | none => none
def sNo : SM := fun _ _ => none
section
variable {X : Cx} {st : Stmt} {rest sa sb : List Stmt} {e : Expr} {pos : Pos} {m : EM} {t : TM} {a b : SM}
theorem ms_nil : PSs X [] (tS X.K sNx) := PSs.imp pss_nil fun D σ H q => by
  obtain ⟨μ, ρ, S, c, ρ', S', ok, e, k⟩ := q
  cases e
  exact k μ H ok.so .refl σ ok.env
theorem ms_cons (h : PS X st (tS X.K a)) (hr : PSs X rest (tS X.K b)) : PSs X (st :: rest) (tS X.K (sSeq a b)) := PSs.imp (pss_cons h hr) fun D σ H q => by
  obtain ⟨μ, ρ, S, c, ρ', S', ok, e, k⟩ := q
  unfold sSeq at e
  split at e
  · rename_i ρ1 S1 e1
    refine ⟨μ, ρ, S, .nx, ρ1, S1, ok, e1, fun μ1 H1 so1 st1 => fun σ1 env1 => ?_⟩
    exact ⟨μ1, ρ1, S1, c, ρ', S', ⟨so1, env1⟩, e, fun μ2 H2 so2 st2 => k μ2 H2 so2 (st1.trans st2)⟩
  · rename_i hne
    refine ⟨μ, ρ, S, c, ρ', S', ok, e, fun μ1 H1 so1 st1 => ?_⟩
    have q := k μ1 H1 so1 st1
    cases c with
    | nx => exact absurd e (hne ρ' S')
    | ret w => exact q
    | brk => exact q
    | cnt => exact q
theorem ms_one (h : PS X st (tS X.K a)) : PSs X [st] (tS X.K a) := pss_one h
theorem ms_set {i : Nat} {x : Str} {pos' : Pos} (hN : X.N.Nodup) (hi : X.N[i]? = some x) (hx : Loc X.env.scope x) (he : PE X e (tM X.K m)) (hs : swapsWith e (some (.Name x pos')) pos.line X.env = pure false := by rfl)
    (hf : X.fn x = true ∨ X.env.scope.names.lookup x = some .local := by first | exact .inl rfl | exact .inr rfl | assumption) : PS X (.Assign [.Name x pos'] e pos) (tS X.K (sSet i m)) := PS.imp (ps_set hN hi hx he hs hf) fun D σ H q => by
  obtain ⟨μ, ρ, S, c, ρ', S', ok, e, k⟩ := q
  unfold sSet at e
  split at e
  · rename_i w S1 e1
    cases e
    exact ⟨μ, ρ, S, w, _, ok, e1, fun μ1 v H1 so1 st1 r1 => k μ1 H1 so1 st1 _ ((ok.env.step ok.so st1).set r1 i)⟩
  · cases e
theorem ms_expr (he : PE X e (tM X.K m)) (hs : swapsWith e none pos.line X.env = pure false := by rfl) : PS X (.Expr e pos) (tS X.K (sExpr m)) := PS.imp (ps_expr he hs) fun D σ H q => by
  obtain ⟨μ, ρ, S, c, ρ', S', ok, e, k⟩ := q
  unfold sExpr at e
  split at e
  · rename_i w S1 e1
    cases e
    exact ⟨μ, ρ, S, w, _, ok, e1, fun μ1 v H1 so1 st1 r1 => k μ1 H1 so1 st1 _ (ok.env.step ok.so st1)⟩
  · cases e
theorem ms_ret (he : PE X e (tM X.K m)) : PS X (.Return (some e) pos) (tS X.K (sRet m)) := PS.imp (ps_ret he) fun D σ H q => by
  obtain ⟨μ, ρ, S, c, ρ', S', ok, e, k⟩ := q
  unfold sRet at e
  split at e
  · rename_i w S1 e1
    cases e
    exact ⟨μ, ρ, S, w, _, ok, e1, fun μ1 v H1 so1 st1 r1 => k μ1 H1 so1 st1 v r1⟩
  · cases e
theorem ms_if {c : Expr} (hc : PT X c (tT X.K t)) (ha : PSs X sa (tS X.K a)) (hb : PSs X sb (tS X.K b)) : PS X (.If c sa sb pos) (tS X.K (sIf t a b)) := PS.imp (ps_if hc ha hb) fun D σ H q => by
  obtain ⟨μ, ρ, S, c, ρ', S', ok, e, k⟩ := q
  unfold sIf at e
  split at e
  · rename_i S1 e1
    exact ⟨μ, ρ, S, true, S1, ok, e1, fun μ1 H1 so1 st1 => itT ⟨μ1, ρ, S1, c, ρ', S', ok.next so1 st1, e, fun μ2 H2 so2 st2 => k μ2 H2 so2 (st1.trans st2)⟩⟩
  · rename_i S1 e1
    exact ⟨μ, ρ, S, false, S1, ok, e1, fun μ1 H1 so1 st1 => itF ⟨μ1, ρ, S1, c, ρ', S', ok.next so1 st1, e, fun μ2 H2 so2 st2 => k μ2 H2 so2 (st1.trans st2)⟩⟩
  · cases e
theorem ms_no : PS X st (tS X.K sNo) := PS.imp ps_never fun D σ H q => by
  obtain ⟨μ, ρ, S, c, ρ', S', ok, e, k⟩ := q
  cases e
theorem mss_no : PSs X rest (tS X.K sNo) := PSs.imp pss_never fun D σ H q => by
  obtain ⟨μ, ρ, S, c, ρ', S', ok, e, k⟩ := q
  cases e
theorem ms_pass : PS X (.Pass pos) (tS X.K sNx) := PS.imp ps_pass fun D σ H q => by
  obtain ⟨μ, ρ, S, c, ρ', S', ok, e, k⟩ := q
  cases e
  exact k μ H ok.so .refl σ ok.env
theorem ms_break : PS X (.Break pos) (tS X.K fun ρ S => some (.brk, ρ, S)) := PS.imp ps_break fun D σ H q => by
  obtain ⟨μ, ρ, S, c, ρ', S', ok, e, k⟩ := q
  cases e
  exact k μ H ok.so .refl σ ok.env
end
end HM

set_option Elab.async false
set_option linter.all false
set_option maxRecDepth 100000
set_option autoImplicit false
namespace HM
open PySem PySem.Spec L2
open PyProof.Rows hiding St

/-! ### targets: names, tuples of such -/
inductive Tg where
  | nm (i : Nat) | tp (ts : List Tg)
mutual
def Tg.slots : Tg → List Nat
  | .nm i => [i]
  | .tp ts => slotsAll ts
def slotsAll : List Tg → List Nat
  | [] => []
  | t :: r => t.slots ++ slotsAll r
end
mutual
def bindT : Tg → W → Rho → Option Rho
  | .nm i, w, ρ => some (ρ.set i (some w))
  | .tp ts, .val (.tup ds), ρ => if ds.length = ts.length then bindTs ts ds ρ else none
  | .tp _, .val .non, _ => none
  | .tp _, .val (.bl _), _ => none
  | .tp _, .val (.int _), _ => none
  | .tp _, .val (.str _), _ => none
  | .tp _, .val (.fl _), _ => none
  | .tp _, .val (.scr _), _ => none
  | .tp _, .val (.dct _ _), _ => none
  | .tp _, .val (.exc0 _), _ => none
  | .tp _, .val (.exc1 _ _ _), _ => none
  | .tp _, .loc _, _ => none
def bindTs : List Tg → List D → Rho → Option Rho
  | [], [], ρ => some ρ
  | t :: ts, d :: ds, ρ => match bindT t (.val d) ρ with
    | some ρ1 => bindTs ts ds ρ1
    | none => none
  | [], _ :: _, _ => none
  | _ :: _, [], _ => none
end
mutual
def gT (K : PySem.W.Frag) : Tg → TG
  | .nm i => gName i
  | .tp ts => gTup K ts.length (gTs K ts)
def gTs (K : PySem.W.Frag) : List Tg → TGs
  | [] => gNil
  | t :: r => gCons (gT K t) (gTs K r)
end
/-- σ' is σ but at these slots -/
def Sets (L : List Nat) (σ σ' : L2.St) : Prop := σ'.length = σ.length ∧ ∀ i, i ∉ L → σ'[i]? = σ[i]?
theorem wipe_get (σ : L2.St) (i : Nat) : ∀ vs : List Nat, (wipe σ vs)[i]? = if i ∈ vs then (if i < σ.length then some none else none) else σ[i]?
  | [] => by simp [wipe]
  | v :: vs => by
    show ((wipe σ vs).set v none)[i]? = _
    by_cases h : v = i
    · subst h
      rw [if_pos List.mem_cons_self]
      by_cases hl : v < σ.length
      · rw [if_pos hl, List.getElem?_set_self (by rw [wipe_length]; exact hl)]
      · rw [if_neg hl, List.getElem?_eq_none (by rw [List.length_set, wipe_length]; omega)]
    · rw [List.getElem?_set_ne h, wipe_get σ i vs]
      have e : (i ∈ v :: vs) = (i ∈ vs) := by simp [Ne.symm h]
      simp only [e]
theorem Sets.wipe {L vs : List Nat} {σ σ' : L2.St} (s : Sets L σ σ') (h : ∀ i ∈ L, i ∈ vs) : L2.wipe σ' vs = L2.wipe σ vs := by
  refine List.ext_getElem? fun i => ?_
  rw [wipe_get, wipe_get, s.1]
  by_cases hi : i ∈ vs
  · rw [if_pos hi, if_pos hi]
  · rw [if_neg hi, if_neg hi]
    exact s.2 i fun z => hi (h i z)
theorem wipe_idem (σ : L2.St) (vs : List Nat) : L2.wipe (L2.wipe σ vs) vs = L2.wipe σ vs := by
  refine List.ext_getElem? fun i => ?_
  rw [wipe_get, wipe_get, wipe_length]
  by_cases hi : i ∈ vs
  · rw [if_pos hi, if_pos hi]
  · rw [if_neg hi, if_neg hi]
section
variable {K : PySem.W.Frag} {H : Hp} {μ : Mu} {S : Sto}
mutual
theorem gT_ok (so : StoreOk K H μ S) : ∀ (tg : Tg) (w : W) (v : V) (ρ ρ' : Rho) (σ : L2.St) (Q : L2.St → Hp → Prop), EnvOk K H μ ρ σ → RepW K H μ w v → bindT tg w ρ = some ρ' → (∀ σ', EnvOk K H μ ρ' σ' → Sets tg.slots σ σ' → Q σ' H) → gT K tg v σ H Q
  | .nm i, w, v, ρ, ρ', σ, Q, env, r, e, q => by
    unfold bindT at e
    cases e
    unfold gT
    refine q _ (env.set r i) ⟨by rw [List.length_set], fun j hj => ?_⟩
    unfold Tg.slots at hj
    rw [List.getElem?_set_ne (fun z => hj (by simp [z]))]
  | .tp ts, .val (.tup ds), v, ρ, ρ', σ, Q, env, r, e, q => by
    unfold bindT at e
    split at e
    · rename_i hl
      cases (show Rep K H μ (.tup ds) v from r) with
      | tup qt rs =>
        unfold gT
        refine ⟨_, _, rfl, qt, by rw [← rs.length]; exact hl, gTs_ok so ts ds _ ρ ρ' σ Q env rs e fun σ' h1 h2 => q σ' h1 ?_⟩
        unfold Tg.slots
        exact h2
    · cases e
  | .tp _, .val .non, _, _, _, _, _, _, _, e, _ => by unfold bindT at e; cases e
  | .tp _, .val (.bl _), _, _, _, _, _, _, _, e, _ => by unfold bindT at e; cases e
  | .tp _, .val (.int _), _, _, _, _, _, _, _, e, _ => by unfold bindT at e; cases e
  | .tp _, .val (.str _), _, _, _, _, _, _, _, e, _ => by unfold bindT at e; cases e
  | .tp _, .val (.fl _), _, _, _, _, _, _, _, e, _ => by unfold bindT at e; cases e
  | .tp _, .val (.scr _), _, _, _, _, _, _, _, e, _ => by unfold bindT at e; cases e
  | .tp _, .val (.dct _ _), _, _, _, _, _, _, _, e, _ => by unfold bindT at e; cases e
  | .tp _, .val (.exc0 _), _, _, _, _, _, _, _, e, _ => by unfold bindT at e; cases e
  | .tp _, .val (.exc1 _ _ _), _, _, _, _, _, _, _, e, _ => by unfold bindT at e; cases e
  | .tp _, .loc _, _, _, _, _, _, _, _, e, _ => by unfold bindT at e; cases e
theorem gTs_ok (so : StoreOk K H μ S) : ∀ (ts : List Tg) (ds : List D) (vs : List V) (ρ ρ' : Rho) (σ : L2.St) (Q : L2.St → Hp → Prop), EnvOk K H μ ρ σ → Reps K H μ ds vs → bindTs ts ds ρ = some ρ' → (∀ σ', EnvOk K H μ ρ' σ' → Sets (slotsAll ts) σ σ' → Q σ' H) → gTs K ts vs σ H Q
  | [], [], _, ρ, ρ', σ, Q, env, rs, e, q => by
    unfold bindTs at e
    cases e
    cases rs
    unfold gTs
    exact ⟨rfl, q σ env ⟨rfl, fun _ _ => rfl⟩⟩
  | t :: ts, d :: ds, _, ρ, ρ', σ, Q, env, rs, e, q => by
    unfold bindTs at e
    split at e
    · rename_i ρ1 e1
      cases rs with
      | cons r rs =>
        unfold gTs
        refine ⟨_, _, rfl, gT_ok so t (.val d) _ ρ ρ1 σ _ env r e1 fun σ1 env1 s1 => ?_⟩
        refine gTs_ok so ts ds _ ρ1 ρ' σ1 Q env1 rs e fun σ2 env2 s2 => q σ2 env2 ⟨s2.1.trans s1.1, fun i hi => ?_⟩
        unfold slotsAll at hi
        rw [List.mem_append] at hi
        exact (s2.2 i fun z => hi (.inr z)).trans (s1.2 i fun z => hi (.inl z))
    · cases e
  | [], _ :: _, _, _, _, _, _, _, _, e, _ => by unfold bindTs at e; cases e
  | _ :: _, [], _, _, _, _, _, _, _, e, _ => by unfold bindTs at e; cases e
end
end
section
variable {X : Cx} {pos : Pos}
theorem mg_name {i : Nat} {x : Str} (hN : X.N.Nodup) (hi : X.N[i]? = some x) (hx : Loc X.env.scope x) (hf : X.fn x = true ∨ X.env.scope.names.lookup x = some .local := by first | exact .inl rfl | exact .inr rfl | assumption) : PG X (.Name x pos) (gT X.K (.nm i)) := by
  unfold gT
  exact pg_name hN hi hx hf
theorem mgs_nil : PGs X [] (gTs X.K []) := by
  unfold gTs
  exact pgs_nil
theorem mgs_cons {e : Expr} {es : List Expr} {t : Tg} {ts : List Tg} (h1 : PG X e (gT X.K t)) (h2 : PGs X es (gTs X.K ts))
    (hs : (assignEach (e :: es) X.env).map (·.2) = assign e X.env :: (assignEach es X.env).map (·.2) := by rfl) : PGs X (e :: es) (gTs X.K (t :: ts)) := by
  unfold gTs
  exact pgs_cons h1 h2 hs
theorem mg_tup {es : List Expr} {k : Nat} {ts : List Tg} (hc : X.calm = true) (h : PGs X es (gTs X.K ts)) (hn : (assignEach es X.env).length = ts.length := by rfl) (hst : (assignEach es X.env).findIdx? (·.1) = none := by rfl) : PG X (.Tuple es k pos) (gT X.K (.tp ts)) := by
  unfold gT
  exact pg_tup hc h hn hst
/-- target = value -/
def sAsg (tg : Tg) (m : EM) : SM := fun ρ S => match m ρ S with
  | some (w, S1) => match bindT tg w ρ with
    | some ρ1 => some (.nx, ρ1, S1)
    | none => none
  | none => none
theorem ms_asg {tg : Tg} {target e : Expr} {m : EM} (he : PE X e (tM X.K m)) (hg : PG X target (gT X.K tg)) (hs : swapsWithSole [target] e pos.line X.env = pure false := by rfl) (hw : swappedStores [target] e X.env = pure none := by rfl)
    (h1 : (assignEach [target] X.env).map (·.2) = [assign target X.env] := by rfl) : PS X (.Assign [target] e pos) (tS X.K (sAsg tg m)) := PS.imp (ps_asg he hg hs hw h1) fun D σ H q => by
  obtain ⟨μ, ρ, S, c, ρ', S', ok, e, k⟩ := q
  unfold sAsg at e
  split at e
  · rename_i w S1 e1
    split at e
    · rename_i ρ1 e2
      cases e
      exact ⟨μ, ρ, S, w, _, ok, e1, fun μ1 v H1 so1 st1 r1 => gT_ok so1 tg w v ρ _ σ _ (ok.env.step ok.so st1) r1 e2 fun σ' h1 _ => k μ1 H1 so1 st1 σ' h1⟩
    · cases e
  · cases e
end

/-! ### what is walked -/
structure ItOk (K : PySem.W.Frag) (J : It) (H0 : Hp) (μ0 : Mu) (ds : List D) : Prop where
  go : ∀ (H : Hp) (μ : Mu) (S : Sto) (i : Nat), StoreOk K H μ S → Step H0 μ0 H μ → i < ds.length → J.go i H
  stop : ∀ (H : Hp) (μ : Mu) (S : Sto), StoreOk K H μ S → Step H0 μ0 H μ → J.stop ds.length H
  yld : ∀ (H : Hp) (μ : Mu) (S : Sto) (i : Nat) (x : V) (H' : Hp), StoreOk K H μ S → Step H0 μ0 H μ → i < ds.length → J.yld i H x H' → ∃ d, ds[i]? = some d ∧ StoreOk K H' μ S ∧ Step H μ H' μ ∧ Rep K H' μ d x
abbrev IM := Rho → Sto → Option (List D × Sto)
def tI (K : PySem.W.Frag) (m : IM) : TI := fun σ H R => ∃ μ ρ S ds S', Ok K μ ρ S σ H ∧ m ρ S = some (ds, S') ∧ ∀ μ' H' J, StoreOk K H' μ' S' → Step H μ H' μ' → ItOk K J H' μ' ds → R J H'
theorem PI.imp {X : Cx} {tg e : Expr} {t t' : TI} (h : PI X tg e t) (i : ∀ σ H R, t' σ H R → t σ H R) : PI X tg e t' := ⟨fun pins s σ H R I q => h.run pins s σ H R I (i σ H R q)⟩
theorem PI.or {X : Cx} {tg e : Expr} {t t' : TI} (h : PI X tg e t) (h' : PI X tg e t') : PI X tg e (fun σ H R => t σ H R ∨ t' σ H R) := ⟨fun pins s σ H R I q => by
  rcases q with q | q
  · exact h.run pins s σ H R I q
  · exact h'.run pins s σ H R I q⟩
/-- the items of a list that is data, of a tuple -/
def dItems : W → Option (List D)
  | .val (.fl ds) => some ds
  | .val (.scr ns) => some (ns.map D.int)
  | _ => none
theorem dItems_ok {K : PySem.W.Frag} {H : Hp} {μ : Mu} {w : W} {v : V} {ds : List D} (r : RepW K H μ w v) (e : dItems w = some ds) :
    ∃ a vs, v = .ref a ∧ Reps K H μ ds vs ∧ ∀ (S : Sto) (H' : Hp) (μ' : Mu), StoreOk K H μ S → Step H μ H' μ' → SqL K H' a vs ∧ Reps K H' μ' ds vs := by
  cases w with
  | loc l => cases e
  | val d =>
    cases d with
    | fl ds' =>
      cases e
      cases (show Rep K H μ (.fl ds) v from r) with
      | fl q rs => exact ⟨_, _, rfl, rs, fun S H' μ' so st => ⟨(flAt_step so st q).sqL, rs.step so st⟩⟩
    | scr ns =>
      cases e
      cases (show Rep K H μ (.scr ns) v from r) with
      | scr q => exact ⟨_, _, rfl, reps_ints ns, fun S H' μ' so st => ⟨(scrAt_step so st q).sqL, reps_ints ns⟩⟩
    | _ => cases e
def iSeq (m : EM) : IM := fun ρ S => match m ρ S with
  | some (w, S1) => match tItems w with
    | some ds => some (ds, S1)
    | none => match dItems w with
      | some ds => some (ds, S1)
      | none => none
  | none => none
section
variable {X : Cx} {tg e : Expr} {m : EM}
theorem itOk_tup {K : PySem.W.Frag} {H : Hp} {μ : Mu} {S : Sto} {a : Addr} {vs : List V} {ds : List D} (so : StoreOk K H μ S) (q : SqT K H a vs) (rs : Reps K H μ ds vs) : ItOk K (Itt K a) H μ ds where
  go := fun H' μ' S' i so' st hi => by
    have hv : i < vs.length := by rw [← rs.length]; exact hi
    exact ⟨vs, vs[i], sqT_step so st q, by simp [hv]⟩
  stop := fun H' μ' S' so' st => ⟨vs, sqT_step so st q, by rw [rs.length]; exact Nat.le_refl _⟩
  yld := fun H' μ' S' i x H'' so' st hi y => by
    obtain ⟨rfl, y⟩ := y
    obtain ⟨d, h1, h2⟩ := (rs.step so st).getV (y vs (sqT_step so st q))
    exact ⟨d, h1, so', .refl, h2⟩
theorem itOk_list {K : PySem.W.Frag} {H : Hp} {μ : Mu} {S : Sto} {a : Addr} {vs : List V} {ds : List D} (so : StoreOk K H μ S) (rs : Reps K H μ ds vs) (q : ∀ (S : Sto) (H' : Hp) (μ' : Mu), StoreOk K H μ S → Step H μ H' μ' → SqL K H' a vs ∧ Reps K H' μ' ds vs) : ItOk K (Itl K a) H μ ds where
  go := fun H' μ' S' i so' st hi => by
    have hv : i < vs.length := by rw [← rs.length]; exact hi
    exact ⟨vs, vs[i], (q S H' μ' so st).1, by simp [hv]⟩
  stop := fun H' μ' S' so' st => ⟨vs, (q S H' μ' so st).1, by rw [rs.length]; exact Nat.le_refl _⟩
  yld := fun H' μ' S' i x H'' so' st hi y => by
    obtain ⟨rfl, y⟩ := y
    obtain ⟨d, h1, h2⟩ := (q S H'' μ' so st).2.getV (y vs (q S H'' μ' so st).1)
    exact ⟨d, h1, so', .refl, h2⟩
theorem mi_seq (h : PE X e (tM X.K m)) : PI X tg e (tI X.K (iSeq m)) := by
  refine PI.imp (HM.PI.or (pi_tup h) (pi_list h)) fun σ H R q => ?_
  obtain ⟨μ, ρ, S, ds, S', ok, e, k⟩ := q
  unfold iSeq at e
  split at e
  · rename_i w S1 e1
    split at e
    · rename_i ds' e2
      cases e
      refine .inl ⟨μ, ρ, S, w, _, ok, e1, fun μ1 v H1 so1 st1 r1 => ?_⟩
      obtain ⟨a, vs, rfl, q, rs⟩ := tItems_ok r1 e2
      exact ⟨a, rfl, ⟨vs, q⟩, k μ1 H1 _ so1 st1 (itOk_tup so1 q rs)⟩
    · split at e
      · rename_i ds' e2
        cases e
        refine .inr ⟨μ, ρ, S, w, _, ok, e1, fun μ1 v H1 so1 st1 r1 => ?_⟩
        obtain ⟨a, vs, rfl, rs, q⟩ := dItems_ok r1 e2
        exact ⟨a, rfl, ⟨vs, (q _ H1 μ1 so1 .refl).1⟩, k μ1 H1 _ so1 st1 (itOk_list so1 rs q)⟩
      · cases e
  · cases e
/-- range(n), range(a, b) -/
def upFrom (i : Int) (n : Nat) : List D := (List.range n).map fun j => D.int (i + (j : Nat))
theorem upFrom_length (i : Int) (n : Nat) : (upFrom i n).length = n := by simp [upFrom]
theorem itOk_rng {K : PySem.W.Frag} {H : Hp} {μ : Mu} {i : Int} {n : Nat} : ItOk K (Itr i n) H μ (upFrom i n) where
  go := fun H' μ' S' j so' st hi => by rw [upFrom_length] at hi; exact hi
  stop := fun H' μ' S' so' st => by rw [upFrom_length]; exact Nat.le_refl _
  yld := fun H' μ' S' j x H'' so' st hi y => by
    obtain ⟨rfl, rfl⟩ := y
    rw [upFrom_length] at hi
    exact ⟨.int (i + (j : Nat)), by simp [upFrom, hi], so', .refl, .int _⟩
def small62 (i : Int) : Bool := decide (-(2 ^ 62) ≤ i) && decide (i < 2 ^ 62)
theorem small62_ok {i : Int} (h : small62 i = true) : -(2 ^ 62) ≤ i ∧ i < 2 ^ 62 := by
  unfold small62 at h
  rw [Bool.and_eq_true] at h
  exact ⟨of_decide_eq_true h.1, of_decide_eq_true h.2⟩
def iRange1 (a : AM) : IM := fun ρ S => match a ρ S with
  | some ([.val (.int j)], S1) => if small62 j then some (upFrom 0 j.toNat, S1) else none
  | _ => none
def iRange2 (a : AM) : IM := fun ρ S => match a ρ S with
  | some ([.val (.int i), .val (.int j)], S1) => if small62 i && small62 j then some (upFrom i (j - i).toNat, S1) else none
  | _ => none
theorem mi_range1 {a : Expr} {am : AM} {p pos : Pos} (hg : Gl X "range") (hm : X.mg "range" = none) (ha : PA X [a] (tA X.K am)) (hs : starEach [a] X.env = [(false, eval a X.env)] := by rfl) : PI X tg (.Call (.Name "range" p) [a] [] pos) (tI X.K (iRange1 am)) := by
  refine PI.imp (pi_range1 hg hm ha hs) fun σ H R q => ?_
  obtain ⟨μ, ρ, S, ds, S', ok, e, k⟩ := q
  unfold iRange1 at e
  split at e
  · rename_i j S1 e1
    split at e
    · rename_i hj
      cases e
      refine ⟨μ, ρ, S, _, _, ok, e1, fun μ1 vs H1 so1 st1 r1 => ?_⟩
      obtain ⟨v, rfl, rv⟩ := r1.one
      cases rv
      have := small62_ok hj
      exact ⟨j, rfl, this.1, this.2, k μ1 H1 _ so1 st1 itOk_rng⟩
    · cases e
  · cases e
theorem mi_range2 {a b : Expr} {am : AM} {p pos : Pos} (hg : Gl X "range") (hm : X.mg "range" = none) (ha : PA X [a, b] (tA X.K am)) (hs : starEach [a, b] X.env = [(false, eval a X.env), (false, eval b X.env)] := by rfl) (hs2 : starEach [b] X.env = [(false, eval b X.env)] := by rfl) :
    PI X tg (.Call (.Name "range" p) [a, b] [] pos) (tI X.K (iRange2 am)) := by
  refine PI.imp (pi_range2 hg hm ha hs hs2) fun σ H R q => ?_
  obtain ⟨μ, ρ, S, ds, S', ok, e, k⟩ := q
  unfold iRange2 at e
  split at e
  · rename_i i j S1 e1
    split at e
    · rename_i hj
      cases e
      rw [Bool.and_eq_true] at hj
      refine ⟨μ, ρ, S, _, _, ok, e1, fun μ1 vs H1 so1 st1 r1 => ?_⟩
      obtain ⟨v, z, rfl, rv, rz⟩ := r1.two
      cases rv
      cases rz
      have h1 := small62_ok hj.1
      have h2 := small62_ok hj.2
      exact ⟨i, j, rfl, ⟨h1.1, h1.2, h2.1, h2.2⟩, k μ1 H1 _ so1 st1 itOk_rng⟩
    · cases e
  · cases e
end

/-! ### for -/
def forL (tg : Tg) (b : SM) : List D → Rho → Sto → Option (Ctl × Rho × Sto)
  | [], ρ, S => some (.nx, ρ, S)
  | d :: r, ρ, S => match bindT tg (.val d) ρ with
    | some ρ1 => match b ρ1 S with
      | some (.nx, ρ2, S2) => forL tg b r ρ2 S2
      | some (.cnt, ρ2, S2) => forL tg b r ρ2 S2
      | some (.brk, ρ2, S2) => some (.nx, ρ2, S2)
      | some (.ret w, ρ2, S2) => some (.ret w, ρ2, S2)
      | none => none
    | none => none
def sFor (it : IM) (tg : Tg) (b : SM) : SM := fun ρ S => match it ρ S with
  | some (ds, S1) => forL tg b ds ρ S1
  | none => none
section
variable {X : Cx} {target iter : Expr} {body : List Stmt} {it : IM} {tg : Tg} {b : SM} {pos : Pos}
theorem ms_for (hp : PassesOwn (model X.prog X.w) X.A X.env X.xe) (hc : X.calm = true) (hi : PI X target iter (tI X.K it)) (hg : PG X target (gT X.K tg)) (hb : PSs X body (tS X.K b))
    (hs : ∀ x, foldedSetIterable iter X.env x = pure x := by intro _; rfl) : PS X (.For target iter body [] pos) (tS X.K (sFor it tg b)) := PS.imp (ps_for hp hc hi hg hb hs) fun D σ H q => by
  obtain ⟨μ, ρ, S, c, ρ', S', ok, e, k⟩ := q
  unfold sFor at e
  split at e
  · rename_i ds S1 e1
    refine ⟨μ, ρ, S, ds, S1, ok, e1, fun μ1 H1 J so1 st1 io => ?_⟩
    refine ⟨fun i m σ' H' => m = ds.length - i ∧ i ≤ ds.length ∧ ∃ μi ρi Si, StoreOk X.K H' μi Si ∧ EnvOk X.K H' μi ρi σ' ∧ Step H1 μ1 H' μi ∧ forL tg b (ds.drop i) ρi Si = some (c, ρ', S'),
      ⟨ds.length, by simp, Nat.zero_le _, μ1, ρ, S1, so1, ok.env.step ok.so st1, .refl, by rw [List.drop_zero]; exact e⟩, ?_⟩
    rintro i m σi Hi ⟨rfl, hil, μi, ρi, Si, soi, envi, sti, ei⟩
    by_cases hlt : i < ds.length
    · rw [List.drop_eq_getElem_cons hlt] at ei
      unfold forL at ei
      split at ei
      · rename_i ρ1 eb
        refine .inr ⟨io.go Hi μi Si i soi sti hlt, fun σ' H' => ∃ μj ρj Sj, StoreOk X.K H' μj Sj ∧ EnvOk X.K H' μj ρj σ' ∧ Step H1 μ1 H' μj ∧ forL tg b (ds.drop (i + 1)) ρj Sj = some (c, ρ', S'),
          fun σ' H' hN => ⟨ds.length - (i + 1), by omega, rfl, hlt, hN⟩, fun x H' y => ?_⟩
        obtain ⟨d, hd, soy, sty, ry⟩ := io.yld Hi μi Si i x H' soi sti hlt y
        rw [List.getElem?_eq_getElem hlt] at hd
        obtain rfl : ds[i] = d := Option.some.inj hd
        refine gT_ok soy tg (.val ds[i]) x ρi ρ1 σi _ (envi.step soi sty) ry eb fun σ2 env2 _ => ?_
        have stt := sti.trans sty
        split at ei
        · rename_i ρ2 S2 e2
          exact ⟨μi, ρ1, Si, .nx, ρ2, S2, ⟨soy, env2⟩, e2, fun μ3 H3 so3 st3 => fun σ3 env3 => ⟨μ3, ρ2, S2, so3, env3, stt.trans st3, ei⟩⟩
        · rename_i ρ2 S2 e2
          exact ⟨μi, ρ1, Si, .cnt, ρ2, S2, ⟨soy, env2⟩, e2, fun μ3 H3 so3 st3 => fun σ3 env3 => ⟨μ3, ρ2, S2, so3, env3, stt.trans st3, ei⟩⟩
        · rename_i ρ2 S2 e2
          cases ei
          exact ⟨μi, ρ1, Si, .brk, _, _, ⟨soy, env2⟩, e2, fun μ3 H3 so3 st3 => fun σ3 env3 => k μ3 H3 so3 (st1.trans (stt.trans st3)) σ3 env3⟩
        · rename_i w ρ2 S2 e2
          cases ei
          exact ⟨μi, ρ1, Si, .ret w, _, _, ⟨soy, env2⟩, e2, fun μ3 H3 so3 st3 => fun v rv => k μ3 H3 so3 (st1.trans (stt.trans st3)) v rv⟩
        · cases ei
      · cases ei
    · have ei' : i = ds.length := by omega
      subst ei'
      rw [List.drop_length] at ei
      cases ei
      exact .inl ⟨io.stop Hi μi _ soi sti, k μi Hi soi (st1.trans sti) σi envi⟩
  · cases e
end

/-! ### comprehensions -/
def lcL (tg : Tg) (t : TM) (m : EM) (ρ0 : Rho) (l : Nat) : List D → Sto → Option Sto
  | [], S => some S
  | d :: r, S => match bindT tg (.val d) ρ0 with
    | some ρ1 => match t ρ1 S with
      | some (true, S1) => match m ρ1 S1 with
        | some (.val y, S2) => match (S2[l]?).getD none with
          | some acc => if acc.length < sizeLine then lcL tg t m ρ0 l r (S2.set l (some (acc ++ [y]))) else none
          | none => none
        | _ => none
      | some (false, S1) => lcL tg t m ρ0 l r S1
      | none => none
    | none => none
def mLc (it : IM) (tg : Tg) (t : TM) (m : EM) (vs : List Nat) : EM := fun ρ S => match it ρ S with
  | some (ds, S1) => match lcL tg t m (wipeR ρ vs) S1.length ds (S1 ++ [some []]) with
    | some S2 => match (S2[S1.length]?).getD none with
      | some acc => some (.val (.fl acc), S2.take S1.length)
      | none => none
    | none => none
  | none => none
/-- .. the new list being a cell -/
def mLcC (it : IM) (tg : Tg) (t : TM) (m : EM) (vs : List Nat) : EM := fun ρ S => match it ρ S with
  | some (ds, S1) => match lcL tg t m (wipeR ρ vs) S1.length ds (S1 ++ [some []]) with
    | some S2 => some (.loc S1.length, S2)
    | none => none
  | none => none
theorem getD_some {S : Sto} {l : Nat} {acc : List D} (h : (S[l]?).getD none = some acc) : S[l]? = some (some acc) := by
  cases q : S[l]? with
  | none => rw [q] at h; cases h
  | some c =>
    rw [q] at h
    obtain rfl : c = some acc := h
    rfl
theorem lc_imp {K : PySem.W.Frag} {it : IM} {tg : Tg} {t : TM} {m : EM} {vs : List Nat} (hv : ∀ i ∈ tg.slots, i ∈ vs) {σ : L2.St} {H : Hp} {Q : VK} {μ : Mu} {ρ : Rho} {S S1 S2 : Sto} {ds : List D} (ok : Ok K μ ρ S σ H) (e1 : it ρ S = some (ds, S1)) (e2 : lcL tg t m (wipeR ρ vs) S1.length ds (S1 ++ [some []]) = some S2)
    (k : ∀ μ1 H1, StoreOk K H1 μ1 S1 → Step H μ H1 μ1 → ∀ μ' H' D, StoreOk K H' μ' S2 → Step H1 μ1 H' μ' → RepW K H' μ' (.loc S1.length) (.ref D) → Q (.ref D) H') : tLc (tI K it) (gT K tg) (tT K t) (tM K m) vs σ H Q := by
  refine ⟨μ, ρ, S, ds, S1, ok, e1, fun μ1 H1 J so1 st1 io D hD => ?_⟩
  obtain ⟨soN, stN, rN⟩ := new_cell so1 (ds := []) (vs := []) hD .nil
  have lN : S1.length = μ1.length := so1.len.symm
  have atN : (μ1 ++ [some D])[S1.length]? = some (some D) := by rw [lN]; simp
  have envW : EnvOk K H1 μ1 (wipeR ρ vs) (wipe σ vs) := (ok.env.step ok.so st1).wipe vs
  refine ⟨fun i mm H' => mm = ds.length - i ∧ i ≤ ds.length ∧ ∃ μi Si, StoreOk K H' μi Si ∧ Step (upd H1 D (.lst [])) (μ1 ++ [some D]) H' μi ∧ lcL tg t m (wipeR ρ vs) S1.length (ds.drop i) Si = some S2,
    ⟨ds.length, by simp, Nat.zero_le _, _, _, soN, .refl, by rw [List.drop_zero]; exact e2⟩, ?_⟩
  rintro i mm Hi ⟨rfl, hil, μi, Si, soi, sti, ei⟩
  have lI : S1.length < μi.length := by
    have := sti.len
    rw [List.length_append] at this
    simp at this
    omega
  have isD : ∀ {μ' : Mu} {H' : Hp} {a : Addr}, Step (upd H1 D (.lst [])) (μ1 ++ [some D]) H' μ' → μ'[S1.length]? = some (some a) → a = D := fun {μ' H' a} st h => by
    have q := st.old S1.length a (by rw [List.length_append, lN]; simp) h
    rw [atN] at q
    cases q
    rfl
  by_cases hlt : i < ds.length
  · rw [List.drop_eq_getElem_cons hlt] at ei
    unfold lcL at ei
    split at ei
    · rename_i ρ1 eb
      refine .inr ⟨io.go Hi μi Si i soi (stN.trans sti) hlt, fun H' => ∃ μj Sj, StoreOk K H' μj Sj ∧ Step (upd H1 D (.lst [])) (μ1 ++ [some D]) H' μj ∧ lcL tg t m (wipeR ρ vs) S1.length (ds.drop (i + 1)) Sj = some S2,
        fun H' hN => ⟨ds.length - (i + 1), by omega, rfl, hlt, hN⟩, fun x H' y => ?_⟩
      obtain ⟨d, hd, soy, sty, ry⟩ := io.yld Hi μi Si i x H' soi (stN.trans sti) hlt y
      rw [List.getElem?_eq_getElem hlt] at hd
      obtain rfl : ds[i] = d := Option.some.inj hd
      have stt := sti.trans sty
      refine gT_ok soy tg (.val ds[i]) x (wipeR ρ vs) ρ1 (wipe σ vs) _ (envW.step so1 (stN.trans stt)) ry eb fun σ2 env2 hs2 => ⟨?_, ?_⟩
      · rw [hs2.wipe hv, wipe_idem]
      · split at ei
        · rename_i S3 e3
          refine ⟨μi, ρ1, Si, true, S3, ⟨soy, env2⟩, e3, fun μ3 H3 so3 st3 => itT ?_⟩
          split at ei
          · rename_i yd S4 e4
            split at ei
            · rename_i acc e5
              split at ei
              · rename_i hz
                refine ⟨μ3, ρ1, S3, .val yd, S4, ⟨so3, env2.step soy st3⟩, e4, fun μ4 yv H4 so4 st4 r4 => ?_⟩
                obtain ⟨a, us, h1, h2, h3⟩ := so4.cell _ _ (getD_some e5)
                have st14 := (stt.trans st3).trans st4
                have ea := isD st14 h1
                subst ea
                obtain ⟨so5, st5⟩ := set_cell so4 (getD_some e5) h1 (h3.append (.cons r4 .nil))
                exact ⟨us, h2, by rw [← h3.length]; exact hz, μ4, _, so5, st14.trans st5, ei⟩
              · cases ei
            · cases ei
          · cases ei
        · rename_i S3 e3
          exact ⟨μi, ρ1, Si, false, S3, ⟨soy, env2⟩, e3, fun μ3 H3 so3 st3 => itF ⟨μ3, S3, so3, stt.trans st3, ei⟩⟩
        · cases ei
    · cases ei
  · have ei' : i = ds.length := by omega
    subst ei'
    rw [List.drop_length] at ei
    cases ei
    refine .inl ⟨io.stop Hi μi _ soi (stN.trans sti), k μ1 H1 so1 st1 μi Hi D soi (stN.trans sti) ⟨lI, fun a h => by rw [isD sti h]⟩⟩
theorem lcF_imp {K : PySem.W.Frag} {it : IM} {tg : Tg} {t : TM} {m : EM} {vs : List Nat} (hv : ∀ i ∈ tg.slots, i ∈ vs) {σ : L2.St} {H : Hp} {Q : VK} (q : tM K (mLc it tg t m vs) σ H Q) : tLc (tI K it) (gT K tg) (tT K t) (tM K m) vs σ H Q := by
  obtain ⟨μ, ρ, S, w, S', ok, e, k⟩ := q
  unfold mLc at e
  split at e
  · rename_i ds S1 e1
    split at e
    · rename_i S2 e2
      split at e
      · rename_i acc e3
        cases e
        refine lc_imp hv ok e1 e2 fun μ1 H1 so1 st1 μ' H' D so' st' r' => ?_
        obtain ⟨a1, a2, a3⟩ := freeze so' (getD_some e3) r'
        obtain ⟨b1, b2, b3⟩ := trim_ok so1 a1 (st'.trans a2) (show Rep K H' _ (.fl acc) (.ref D) from a3)
        have et : (S2.set S1.length none).take S1.length = S2.take S1.length := by
          rw [List.take_set_of_le (Nat.le_refl _)]
        rw [et] at b1
        exact k _ _ H' b1 (st1.trans b2) b3
      · cases e
    · cases e
  · cases e
theorem lcC_imp {K : PySem.W.Frag} {it : IM} {tg : Tg} {t : TM} {m : EM} {vs : List Nat} (hv : ∀ i ∈ tg.slots, i ∈ vs) {σ : L2.St} {H : Hp} {Q : VK} (q : tM K (mLcC it tg t m vs) σ H Q) : tLc (tI K it) (gT K tg) (tT K t) (tM K m) vs σ H Q := by
  obtain ⟨μ, ρ, S, w, S', ok, e, k⟩ := q
  unfold mLcC at e
  split at e
  · rename_i ds S1 e1
    split at e
    · rename_i S2 e2
      cases e
      exact lc_imp hv ok e1 e2 fun μ1 H1 so1 st1 μ' H' D so' st' r' => k μ' _ H' so' (st1.trans st') r'
    · cases e
  · cases e
end HM

set_option Elab.async false
set_option linter.all false
set_option maxRecDepth 100000
set_option autoImplicit false
namespace HM
open PySem PySem.Spec L2
open PyProof.Rows hiding St
section
variable {X : Cx} {elt target iter : Expr} {ifs : List Expr} {scope : Scope} {own : List (Str × Nat)} {pos : Pos} {it : IM} {tg : Tg} {t : TM} {m : EM}
def tYesM : TM := fun _ S => some (true, S)
theorem mts_nil : PTs X [] (tT X.K tYesM) := ⟨fun pins s σ H Q I h => by
  obtain ⟨μ, ρ, S, b, S', ok, e, k⟩ := h
  cases e
  exact pts_nil.run pins s σ H Q I (k μ H ok.so .refl)⟩
theorem mts_one {c : Expr} (h : PT X c (tT X.K t)) : PTs X [c] (tT X.K t) := pts_one h
theorem me_lc (hc : X.calm = true) (hN : X.N.Nodup) (hi : PI X target iter (tI X.K it)) (ok : BlkOk X.N X.env.scope scope own) (hv : ∀ i ∈ tg.slots, i ∈ own.map (·.2))
    (hg : ∀ (s : Shared) (H : Hp) (C : Addr) (cl : List (Str × Addr)) (fp : List Addr), PG (X.blk s H scope (compEnvC scope cl C X.env) fp) target (gT X.K tg)) (ht : ∀ (s : Shared) (H : Hp) (C : Addr) (cl : List (Str × Addr)) (fp : List Addr), PTs (X.blk s H scope (compEnvC scope cl C X.env) fp) ifs (tT X.K t))
    (he : ∀ (s : Shared) (H : Hp) (C : Addr) (cl : List (Str × Addr)) (fp : List Addr), PE (X.blk s H scope (compEnvC scope cl C X.env) fp) elt (tM X.K m)) (hs : ∀ x, foldedSetIterable iter X.env x = pure x := by intro _; rfl) :
    PE X (.ListComp elt [⟨target, iter, ifs, 0⟩] scope pos) (tM X.K (mLc it tg t m (own.map (·.2)))) := PE.imp (pe_lc hc hN hi ok hg ht he hs) fun σ H Q q => lcF_imp hv q
theorem me_lcC (hc : X.calm = true) (hN : X.N.Nodup) (hi : PI X target iter (tI X.K it)) (ok : BlkOk X.N X.env.scope scope own) (hv : ∀ i ∈ tg.slots, i ∈ own.map (·.2))
    (hg : ∀ (s : Shared) (H : Hp) (C : Addr) (cl : List (Str × Addr)) (fp : List Addr), PG (X.blk s H scope (compEnvC scope cl C X.env) fp) target (gT X.K tg)) (ht : ∀ (s : Shared) (H : Hp) (C : Addr) (cl : List (Str × Addr)) (fp : List Addr), PTs (X.blk s H scope (compEnvC scope cl C X.env) fp) ifs (tT X.K t))
    (he : ∀ (s : Shared) (H : Hp) (C : Addr) (cl : List (Str × Addr)) (fp : List Addr), PE (X.blk s H scope (compEnvC scope cl C X.env) fp) elt (tM X.K m)) (hs : ∀ x, foldedSetIterable iter X.env x = pure x := by intro _; rfl) :
    PE X (.ListComp elt [⟨target, iter, ifs, 0⟩] scope pos) (tM X.K (mLcC it tg t m (own.map (·.2)))) := PE.imp (pe_lc hc hN hi ok hg ht he hs) fun σ H Q q => lcC_imp hv q
theorem set_imp {D : Ends} {i : Nat} {te : TE} {σ : L2.St} {H : Hp} (hte : ∀ Q, tM X.K m σ H Q → te σ H Q) (q : tS X.K (sSet i m) D σ H) : tAsg te (gName i) D σ H := by
  obtain ⟨μ, ρ, S, c, ρ', S', ok, e, k⟩ := q
  unfold sSet at e
  split at e
  · rename_i w S1 e1
    cases e
    exact hte _ ⟨μ, ρ, S, w, _, ok, e1, fun μ1 v H1 so1 st1 r1 => k μ1 H1 so1 st1 _ ((ok.env.step ok.so st1).set r1 i)⟩
  · cases e
/-- name = [..] on one line -/
theorem ms_setLc {i : Nat} {y : Str} {py spos : Pos} (hc : X.calm = true) (hN : X.N.Nodup) (hy : X.N[i]? = some y) (hyl : X.env.scope.names.lookup y = some .local)
    (hsw : swapsWith (.ListComp elt [⟨target, iter, ifs, 0⟩] scope pos) (some (.Name y py)) spos.line X.env = pure true) (hi : PI X target iter (tI X.K it)) (ok : BlkOk X.N X.env.scope scope own) (hv : ∀ i ∈ tg.slots, i ∈ own.map (·.2))
    (hg : ∀ (s : Shared) (H : Hp) (C : Addr) (cl : List (Str × Addr)) (fp : List Addr), PG (X.blk s H scope (compEnvC scope cl C X.env) fp) target (gT X.K tg)) (ht : ∀ (s : Shared) (H : Hp) (C : Addr) (cl : List (Str × Addr)) (fp : List Addr), PTs (X.blk s H scope (compEnvC scope cl C X.env) fp) ifs (tT X.K t))
    (he : ∀ (s : Shared) (H : Hp) (C : Addr) (cl : List (Str × Addr)) (fp : List Addr), PE (X.blk s H scope (compEnvC scope cl C X.env) fp) elt (tM X.K m)) (hs : ∀ x, foldedSetIterable iter X.env x = pure x := by intro _; rfl) :
    PS X (.Assign [.Name y py] (.ListComp elt [⟨target, iter, ifs, 0⟩] scope pos) spos) (tS X.K (sSet i (mLc it tg t m (own.map (·.2))))) := PS.imp (ps_setLc hc hN hy hyl hsw hi ok hg ht he hs) fun D σ H q => set_imp (fun Q => lcF_imp hv) q
theorem ms_setLcC {i : Nat} {y : Str} {py spos : Pos} (hc : X.calm = true) (hN : X.N.Nodup) (hy : X.N[i]? = some y) (hyl : X.env.scope.names.lookup y = some .local)
    (hsw : swapsWith (.ListComp elt [⟨target, iter, ifs, 0⟩] scope pos) (some (.Name y py)) spos.line X.env = pure true) (hi : PI X target iter (tI X.K it)) (ok : BlkOk X.N X.env.scope scope own) (hv : ∀ i ∈ tg.slots, i ∈ own.map (·.2))
    (hg : ∀ (s : Shared) (H : Hp) (C : Addr) (cl : List (Str × Addr)) (fp : List Addr), PG (X.blk s H scope (compEnvC scope cl C X.env) fp) target (gT X.K tg)) (ht : ∀ (s : Shared) (H : Hp) (C : Addr) (cl : List (Str × Addr)) (fp : List Addr), PTs (X.blk s H scope (compEnvC scope cl C X.env) fp) ifs (tT X.K t))
    (he : ∀ (s : Shared) (H : Hp) (C : Addr) (cl : List (Str × Addr)) (fp : List Addr), PE (X.blk s H scope (compEnvC scope cl C X.env) fp) elt (tM X.K m)) (hs : ∀ x, foldedSetIterable iter X.env x = pure x := by intro _; rfl) :
    PS X (.Assign [.Name y py] (.ListComp elt [⟨target, iter, ifs, 0⟩] scope pos) spos) (tS X.K (sSet i (mLcC it tg t m (own.map (·.2))))) := PS.imp (ps_setLc hc hN hy hyl hsw hi ok hg ht he hs) fun D σ H q => set_imp (fun Q => lcC_imp hv) q
end

/-! ### two names at once -/
section
variable {X : Cx} {i j : Nat} {x y : Str} {a b : Expr} {am : AM} {px py pt : Pos} {kt k2 : Nat} {pt2 pos : Pos}
def sPar (i j : Nat) (am : AM) : SM := fun ρ S => match am ρ S with
  | some ([v, w], S1) => some (.nx, (ρ.set i (some v)).set j (some w), S1)
  | _ => none
theorem ms_par (hc : X.calm = true) (hN : X.N.Nodup) (hi : X.N[i]? = some x) (hj : X.N[j]? = some y) (hij : i ≠ j) (hx : X.env.scope.names.lookup x = some .local) (hy : X.env.scope.names.lookup y = some .local) (ha : PA X [a, b] (tA X.K am))
    (hw : swappedStores [.Tuple [.Name x px, .Name y py] kt pt] (.Tuple [a, b] k2 pt2) X.env = pure (some [x, y])) (hs : swapsWithSole [.Tuple [.Name x px, .Name y py] kt pt] (.Tuple [a, b] k2 pt2) pos.line X.env = pure false := by rfl) :
    PS X (.Assign [.Tuple [.Name x px, .Name y py] kt pt] (.Tuple [a, b] k2 pt2) pos) (tS X.K (sPar i j am)) := PS.imp (ps_par hc hN hi hj hij hx hy ha hw hs) fun D σ H q => by
  obtain ⟨μ, ρ, S, c, ρ', S', ok, e, k⟩ := q
  unfold sPar at e
  split at e
  · rename_i v w S1 e1
    cases e
    refine ⟨μ, ρ, S, _, _, ok, e1, fun μ1 vs H1 so1 st1 r1 => ?_⟩
    obtain ⟨v', w', rfl, rv, rw'⟩ := r1.two
    exact ⟨v', w', rfl, k μ1 H1 so1 st1 _ (((ok.env.step ok.so st1).set rv i).set rw' j)⟩
  · cases e
end

/-! ### zip, enumerate -/
def zipD : List D → List D → List D
  | a :: r, b :: s => .tup [a, b] :: zipD r s
  | _, _ => []
theorem zipD_length : ∀ as bs : List D, (zipD as bs).length = min as.length bs.length
  | [], bs => by simp [zipD]
  | _ :: _, [] => by simp [zipD]
  | a :: r, b :: s => by
    simp only [zipD, List.length_cons, zipD_length r s]
    omega
theorem zipD_get : ∀ (as bs : List D) (i : Nat) (a b : D), as[i]? = some a → bs[i]? = some b → (zipD as bs)[i]? = some (.tup [a, b])
  | [], _, _, _, _, h, _ => by simp at h
  | _ :: _, [], _, _, _, _, h => by simp at h
  | x :: r, y :: s, 0, a, b, h, g => by
    have e1 := Option.some.inj h
    have e2 := Option.some.inj g
    subst e1 e2
    rfl
  | x :: r, y :: s, i + 1, a, b, h, g => zipD_get r s i a b h g
def iZipM (a : AM) : IM := fun ρ S => match a ρ S with
  | some ([x, y], S1) => match tItems x, tItems y with
    | some ds, some es => some (zipD ds es, S1)
    | _, _ => match dItems x, dItems y with
      | some ds, some es => some (zipD ds es, S1)
      | _, _ => none
  | _ => none
theorem itOk_zipT {K : PySem.W.Frag} {H : Hp} {μ : Mu} {S : Sto} {a b : Addr} {us vs : List V} {ds es : List D} (so : StoreOk K H μ S) (qa : SqT K H a us) (qb : SqT K H b vs) (ra : Reps K H μ ds us) (rb : Reps K H μ es vs) : ItOk K (RZ.ItzT K a b) H μ (zipD ds es) where
  go := fun H' μ' S' i so' st hi => by
    rw [zipD_length] at hi
    have h1 : i < us.length := by rw [← ra.length]; omega
    have h2 : i < vs.length := by rw [← rb.length]; omega
    exact ⟨us, vs, us[i], vs[i], sqT_step so st qa, sqT_step so st qb, by simp [h1], by simp [h2]⟩
  stop := fun H' μ' S' so' st => ⟨us, vs, sqT_step so st qa, sqT_step so st qb, by rw [zipD_length, ← ra.length, ← rb.length]; omega⟩
  yld := fun H' μ' S' i x H'' so' st hi y => by
    obtain ⟨T, u, v, rfl, hT, rfl, f1, f2⟩ := y
    obtain ⟨d, h1, h2⟩ := (ra.step so st).getV (f1 us (sqT_step so st qa))
    obtain ⟨e, g1, g2⟩ := (rb.step so st).getV (f2 vs (sqT_step so st qb))
    obtain ⟨s1, s2, s3⟩ := new_tup so' hT (.cons h2 (.cons g2 .nil))
    exact ⟨.tup [d, e], zipD_get ds es i d e h1 g1, s1, s2, s3⟩
theorem itOk_zipL {K : PySem.W.Frag} {H : Hp} {μ : Mu} {S : Sto} {a b : Addr} {us vs : List V} {ds es : List D} (so : StoreOk K H μ S) (ra : Reps K H μ ds us) (rb : Reps K H μ es vs) (qa : ∀ (S : Sto) (H' : Hp) (μ' : Mu), StoreOk K H μ S → Step H μ H' μ' → SqL K H' a us ∧ Reps K H' μ' ds us)
    (qb : ∀ (S : Sto) (H' : Hp) (μ' : Mu), StoreOk K H μ S → Step H μ H' μ' → SqL K H' b vs ∧ Reps K H' μ' es vs) : ItOk K (Itz K a b) H μ (zipD ds es) where
  go := fun H' μ' S' i so' st hi => by
    rw [zipD_length] at hi
    have h1 : i < us.length := by rw [← ra.length]; omega
    have h2 : i < vs.length := by rw [← rb.length]; omega
    exact ⟨us, vs, us[i], vs[i], (qa _ _ _ so st).1, (qb _ _ _ so st).1, by simp [h1], by simp [h2]⟩
  stop := fun H' μ' S' so' st => ⟨us, vs, (qa _ _ _ so st).1, (qb _ _ _ so st).1, by rw [zipD_length, ← ra.length, ← rb.length]; omega⟩
  yld := fun H' μ' S' i x H'' so' st hi y => by
    obtain ⟨T, u, v, rfl, hT, rfl, f1, f2⟩ := y
    obtain ⟨d, h1, h2⟩ := (qa _ _ _ so st).2.getV (f1 us (qa _ _ _ so st).1)
    obtain ⟨e, g1, g2⟩ := (qb _ _ _ so st).2.getV (f2 vs (qb _ _ _ so st).1)
    obtain ⟨s1, s2, s3⟩ := new_tup so' hT (.cons h2 (.cons g2 .nil))
    exact ⟨.tup [d, e], zipD_get ds es i d e h1 g1, s1, s2, s3⟩
section
variable {X : Cx} {e e2 : Expr} {am : AM} {p pos tpos : Pos} {elts : List Expr} {kk : Nat}
theorem mi_zip (hg : Gl X "zip") (hm : X.mg "zip" = none) (ha : PA X [e, e2] (tA X.K am)) (hs : starEach [e, e2] X.env = (false, eval e X.env) :: starEach [e2] X.env := by rfl) (hpl : (backTo pos (starEach [e2] X.env)).any (·.1) = false := by rfl) :
    PI X (.Tuple elts kk tpos) (.Call (.Name "zip" p) [e, e2] [] pos) (tI X.K (iZipM am)) := by
  refine PI.imp (RZ.pi_zipA hg hm ha hs hpl) fun σ H R q => ?_
  obtain ⟨μ, ρ, S, ds, S', ok, e, k⟩ := q
  unfold iZipM at e
  split at e
  · rename_i x y S1 e1
    split at e
    · rename_i ds' es' e2 e3
      cases e
      refine ⟨μ, ρ, S, _, _, ok, e1, fun μ1 vs H1 so1 st1 r1 => ?_⟩
      obtain ⟨v, w, rfl, rv, rw'⟩ := r1.two
      obtain ⟨a, us, rfl, qa, ra⟩ := tItems_ok rv e2
      obtain ⟨b, ws, rfl, qb, rb⟩ := tItems_ok rw' e3
      exact ⟨a, b, us, ws, rfl, .inr ⟨qa, qb, k μ1 H1 _ so1 st1 (itOk_zipT so1 qa qb ra rb)⟩⟩
    · split at e
      · rename_i ds' es' e2 e3
        cases e
        refine ⟨μ, ρ, S, _, _, ok, e1, fun μ1 vs H1 so1 st1 r1 => ?_⟩
        obtain ⟨v, w, rfl, rv, rw'⟩ := r1.two
        obtain ⟨a, us, rfl, ra, qa⟩ := dItems_ok rv e2
        obtain ⟨b, ws, rfl, rb, qb⟩ := dItems_ok rw' e3
        exact ⟨a, b, us, ws, rfl, .inl ⟨(qa _ _ _ so1 .refl).1, (qb _ _ _ so1 .refl).1, k μ1 H1 _ so1 st1 (itOk_zipL so1 ra rb qa qb)⟩⟩
      · cases e
  · cases e
def enumD (ds : List D) : List D := (List.range ds.length).zipWith (fun i d => D.tup [.int (i : Nat), d]) ds
theorem enumD_length (ds : List D) : (enumD ds).length = ds.length := by simp [enumD]
theorem enumD_get {ds : List D} {i : Nat} {d : D} (h : ds[i]? = some d) : (enumD ds)[i]? = some (.tup [.int (i : Nat), d]) := by
  have hl := (List.getElem?_eq_some_iff.mp h).1
  simp [enumD, List.getElem?_zipWith, List.getElem?_range hl, h]
def iEnumM (m : EM) : IM := fun ρ S => match m ρ S with
  | some (x, S1) => match dItems x with
    | some ds => some (enumD ds, S1)
    | none => none
  | none => none
theorem mi_enumL {m : EM} (hg : Gl X "enumerate") (hm : X.mg "enumerate" = none) (h : PE X e (tM X.K m)) (hs : starEach [e] X.env = (false, eval e X.env) :: starEach [] X.env := by rfl) (hs1 : starEach [e] X.env = [(false, eval e X.env)] := by rfl) :
    PI X (.Tuple elts kk tpos) (.Call (.Name "enumerate" p) [e] [] pos) (tI X.K (iEnumM m)) := by
  refine PI.imp (pi_enum hg hm (pa_cons h pa_nil hs) hs1) fun σ H R q => ?_
  obtain ⟨μ, ρ, S, ds, S', ok, e, k⟩ := q
  unfold iEnumM at e
  split at e
  · rename_i x S1 e1
    split at e
    · rename_i ds' e2
      cases e
      refine ⟨μ, ρ, S, x, _, ok, e1, fun μ1 v H1 so1 st1 r1 => ?_⟩
      obtain ⟨a, us, rfl, ra, qa⟩ := dItems_ok r1 e2
      refine ⟨a, us, rfl, (qa _ _ _ so1 .refl).1, k μ1 H1 _ so1 st1 ⟨fun H' μ' S' i so' st hi => ?_, fun H' μ' S' so' st => ⟨us, (qa _ _ _ so1 st).1, by rw [enumD_length, ra.length]; exact Nat.le_refl _⟩, fun H' μ' S' i x H'' so' st hi y => ?_⟩⟩
      · rw [enumD_length] at hi
        have hv : i < us.length := by rw [← ra.length]; exact hi
        exact ⟨us, us[i], (qa _ _ _ so1 st).1, by simp [hv]⟩
      · obtain ⟨T, z, rfl, hT, rfl, f⟩ := y
        obtain ⟨d, h1, h2⟩ := (qa _ _ _ so1 st).2.getV (f us (qa _ _ _ so1 st).1)
        obtain ⟨s1, s2, s3⟩ := new_tup so' hT (.cons (.int ((i : Nat) : Int)) (.cons h2 .nil))
        exact ⟨_, enumD_get h1, s1, s2, s3⟩
    · cases e
  · cases e
end
end HM

set_option Elab.async false
set_option linter.all false
set_option maxRecDepth 100000
set_option autoImplicit false
namespace HM
open PySem PySem.Spec L2
open PyProof.Rows hiding St

theorem hu66 {A : Around} {k : Nat} (hr : Room k A) : A.units + 66 < cLine := by
  have := hr.un
  omega
section
variable {X : Cx}
theorem mv (i : Nat) {x : Str} {pos : Pos} (hN : X.N[i]? = some x := by rfl) (hv : Vis X.env.scope x := by first | exact Or.inl rfl | exact Or.inr (Or.inl rfl) | exact Or.inr (Or.inr rfl)) (hd : (x == ("__debug__" : Str)) = false := by decide)
    (hcd : (x == ("__classdict__" : Str)) = false := by decide) : PE X (.Name x pos) (tM X.K (mVar i)) := me_var hN hv hd hcd
theorem mgn (i : Nat) {x : Str} {pos : Pos} (hN : X.N.Nodup) (hi : X.N[i]? = some x := by rfl) (hx : Loc X.env.scope x := by first | exact Or.inl rfl | exact Or.inr rfl)
    (hf : X.fn x = true ∨ X.env.scope.names.lookup x = some .local := by first | exact .inl rfl | exact .inr rfl) : PG X (.Name x pos) (gT X.K (.nm i)) := mg_name hN hi hx hf
theorem mset (i : Nat) {x : Str} {pos pos' : Pos} {e : Expr} {m : EM} (hN : X.N.Nodup) (he : PE X e (tM X.K m)) (hi : X.N[i]? = some x := by rfl) (hx : Loc X.env.scope x := by first | exact Or.inl rfl | exact Or.inr rfl)
    (hs : swapsWith e (some (.Name x pos')) pos.line X.env = pure false := by rfl) (hf : X.fn x = true ∨ X.env.scope.names.lookup x = some .local := by first | exact .inl rfl | exact .inr rfl) : PS X (.Assign [.Name x pos'] e pos) (tS X.K (sSet i m)) := ms_set hN hi hx he hs hf
theorem me_gint {x : Str} {i : Int} {t : Tok} {pos : Pos} (hm : X.mg x = some (.int i t)) (hg : Gl X x) (hd : (x == ("__debug__" : Str)) = false := by decide) : PE X (.Name x pos) (tM X.K (mC (.int i))) := me_const (pe_glob (v := .int i) hg hm ⟨t, rfl⟩ hd) fun _ _ => .int i
theorem sqT_any {K : PySem.W.Frag} {a : Addr} {vs : List V} (h : SqT K (fun _ => none) a vs) (H : Hp) : SqT K H a vs := by
  rcases h with h | h
  · rcases h with h | ⟨o, h⟩ <;> cases h
  · exact .inr h
theorem me_gpair {x : Str} {i j : Int} {a : Addr} {pos : Pos} (hm : X.mg x = some (.ref a)) (hw : SqT X.K (fun _ => none) a [.int i, .int j]) (hg : Gl X x) (hd : (x == ("__debug__" : Str)) = false := by decide) : PE X (.Name x pos) (tM X.K (mC (.tup [.int i, .int j]))) :=
  me_const (pe_glob (v := .ref a) hg hm rfl hd) fun H μ => .tup (sqT_any hw H) (.cons (.int i) (.cons (.int j) .nil))
end
theorem al_nil {ρ : Rho} {S : Sto} {ws : List W} {S' : Sto} (h : aNil ρ S = some (ws, S')) : ws.length = 0 := by
  cases h
  rfl
theorem al_nil' : ∀ ρ S ws S', aNil ρ S = some (ws, S') → ws.length = 0 := fun _ _ _ _ h => al_nil h
theorem al_cons' {m : EM} {r : AM} {n : Nat} (h : ∀ ρ S ws S', r ρ S = some (ws, S') → ws.length = n) : ∀ ρ S ws S', aCons m r ρ S = some (ws, S') → ws.length = n + 1 := fun ρ S ws S' e => by
  unfold aCons at e
  split at e
  · split at e
    · rename_i us S2 e2
      cases e
      rw [List.length_cons, h _ _ _ _ e2]
    · cases e
  · cases e

/-! ### further operations -/
def cPow (i j : Int) : Bool := decide (0 ≤ j) && decide (j ≤ 1000000) && decide (i.natAbs < 2 ^ 64)
def fPow : F2 := fI cPow fun i j => i ^ j.toNat
/-- a quotient that the machine makes in one go, whatever its size -/
def cDivX (i j : Int) : Bool := decide (0 < j) && !Builtin.divisionGoesByPylong i j
def fDivX : F2 := fI cDivX (· / ·)
section
variable {X : Cx} {a b : Expr} {pos : Pos} {ma mb m : EM}
theorem me_pow (ha : PE X a (tM X.K ma)) (hb : PE X b (tM X.K mb)) : PE X (.BinOp a .Pow b pos) (tM X.K (mBin fPow ma mb)) := me_op op_pow (op2_I fun i j h => by
  unfold cPow at h
  rw [Bool.and_eq_true, Bool.and_eq_true] at h
  exact ⟨of_decide_eq_true h.1.1, of_decide_eq_true h.1.2, of_decide_eq_true h.2⟩) ha hb
theorem op_fdivX : OpR X (binaryOp .FloorDiv) (rI (fun i j => cDivX i j = true) fun i j => .int (i / j)) := opI fun i j _ _ _ _ _ hc q => by
  unfold cDivX at hc
  rw [Bool.and_eq_true] at hc
  have h1 : (0 : Int) < j := of_decide_eq_true hc.1
  exact floordiv_int (by omega) (by rw [Int.fdiv_eq_ediv_of_nonneg i (by omega)]; exact q) (.inl (by simpa using hc.2))
theorem me_divX (ha : PE X a (tM X.K ma)) (hb : PE X b (tM X.K mb)) : PE X (.BinOp a .FloorDiv b pos) (tM X.K (mBin fDivX ma mb)) := me_op op_fdivX (op2_I fun _ _ h => h) ha hb
theorem opN_sum {K : PySem.W.Frag} : OpN K (rSum K) fSum := by
  intro μ S H ws vs w S' Q so r e k
  unfold fSum at e
  split at e
  · rename_i w0
    obtain ⟨v, rfl, rv⟩ := r.one
    split at e
    · rename_i ds e1
      split at e
      · rename_i ns e2
        cases e
        obtain ⟨a, us, rfl, q, rr⟩ := lItems_ok so rv e1
        rw [ints?_ok e2 rr] at q
        exact ⟨a, ns, rfl, q, k μ _ H so .refl (.int _)⟩
      · cases e
    · cases e
  · cases e
/-- is None -/
theorem rep_non {K : PySem.W.Frag} {H : Hp} {μ : Mu} {d : D} {v : V} (r : Rep K H μ d v) : decide (v = V.non) = (match d with | .non => true | _ => false) := by
  cases r <;> rfl
def mNone (neg : Bool) (m : EM) : EM := fun ρ S => match m ρ S with
  | some (.val d, S1) => some (.val (.bl (match d with | .non => !neg | _ => neg)), S1)
  | _ => none
theorem isN_imp {neg : Bool} {σ : L2.St} {H : Hp} {Q : VK} (q : tM X.K (mNone neg m) σ H Q) : tM X.K m σ H fun x H1 => Q (.bl (if neg then !decide (x = .non) else decide (x = .non))) H1 := by
  obtain ⟨μ, ρ, S, w, S', ok, e, k⟩ := q
  unfold mNone at e
  split at e
  · rename_i d S1 e1
    cases e
    refine ⟨μ, ρ, S, _, _, ok, e1, fun μ1 v H1 so1 st1 r1 => ?_⟩
    have q := k μ1 _ H1 so1 st1 (.bl _)
    show Q (.bl (if neg = true then !decide (v = .non) else decide (v = .non))) H1
    rw [rep_non (show Rep X.K H1 μ1 d v from r1)]
    cases neg <;> cases d <;> exact q
  · cases e
theorem me_isN {j pos'} (ha : PE X a (tM X.K m)) : PE X (.Compare a [.Is] [.Constant .none j pos'] pos) (tM X.K (mNone false m)) := PE.imp (pe_cmp (pc_isN ha)) fun σ H Q q => isN_imp q
theorem me_isNotN {j pos'} (ha : PE X a (tM X.K m)) : PE X (.Compare a [.IsNot] [.Constant .none j pos'] pos) (tM X.K (mNone true m)) := PE.imp (pe_cmp (pc_notN ha)) fun σ H Q q => isN_imp q
theorem tB_imp {t : TE} {m : EM} (h : ∀ (σ : L2.St) (H : Hp) (Q : VK), tM X.K m σ H Q → t σ H Q) {σ : L2.St} {H : Hp} {Q : Bool → Hp → Prop} (q : tT X.K (mTest m) σ H Q) : tB t σ H Q := by
  have z : tM X.K m σ H fun x H1 => ∃ c, x = .bl c ∧ Q c H1 := test_imp q
  exact h _ _ _ z
theorem mt_isN {j pos'} (ha : PE X a (tM X.K m)) : PT X (.Compare a [.Is] [.Constant .none j pos'] pos) (tT X.K (mTest (mNone false m))) := PT.imp (pt_cmp (pc_isN ha)) fun σ H Q q => tB_imp (fun _ _ _ q => isN_imp q) q
theorem mt_isNotN {j pos'} (ha : PE X a (tM X.K m)) : PT X (.Compare a [.IsNot] [.Constant .none j pos'] pos) (tT X.K (mTest (mNone true m))) := PT.imp (pt_cmp (pc_notN ha)) fun σ H Q q => tB_imp (fun _ _ _ q => isN_imp q) q
/-- an int in a list or tuple of ints -/
def fIn (neg : Bool) : F2 := fun x y S => match x with
  | .val (.int i) => match (match tItems y with | some ds => some ds | none => lItems y S) with
    | some ds => match ints? ds with
      | some ns => some (.val (.bl (if neg then !ns.contains i else ns.contains i)), S)
      | none => none
    | none => none
  | _ => none
theorem inV_ints (i : Int) : ∀ ns : List Int, inV (.int i) (ns.map V.int) = ns.contains i
  | [] => rfl
  | n :: r => by
    have ih := inV_ints i r
    unfold inV at ih ⊢
    rw [List.map_cons, List.any_cons, ih, List.contains_cons]
    have e1 : eqV (.int n) (.int i) = (i == n) := by
      by_cases h : n = i
      · subst h
        show (n == n) = (n == n)
        rfl
      · have h1 : (n == i) = false := beq_eq_false_iff_ne.mpr h
        have h2 : (i == n) = false := beq_eq_false_iff_ne.mpr (Ne.symm h)
        rw [h2]
        exact h1
    rw [e1]
theorem flat_ints : ∀ ns : List Int, (ns.map V.int).all flatV = true
  | [] => rfl
  | _ :: r => by rw [List.map_cons, List.all_cons, flat_ints r]; rfl
theorem op2_in {K : PySem.W.Frag} {neg : Bool} : Op2 K (rIn K neg) (fIn neg) := by
  intro μ S H x y v u w S' Q so rx ry e k
  unfold fIn at e
  split at e
  · rename_i i
    cases rx
    split at e
    · rename_i ds e1
      split at e
      · rename_i ns e2
        cases e
        have key : ∃ p xs, u = .ref p ∧ (SqL K H p xs ∨ SqT K H p xs) ∧ xs = ns.map V.int := by
          split at e1
          · rename_i ds' e3
            cases e1
            obtain ⟨p, xs, rfl, q, r⟩ := tItems_ok ry e3
            exact ⟨p, xs, rfl, .inr q, ints?_ok e2 r⟩
          · obtain ⟨p, xs, rfl, q, r⟩ := lItems_ok so ry e1
            exact ⟨p, xs, rfl, .inl q, ints?_ok e2 r⟩
        obtain ⟨p, xs, rfl, q, rfl⟩ := key
        refine ⟨p, _, rfl, q, rfl, flat_ints ns, ?_⟩
        rw [inV_ints]
        exact k μ _ H so .refl (.bl _)
      · cases e
    · cases e
  · cases e
theorem me_in (ha : PE X a (tM X.K ma)) (hb : PE X b (tM X.K mb)) (hm : behindInMarks .In b = false := by with_unfolding_all rfl) : PE X (.Compare a [.In] [b] pos) (tM X.K (mBin (fIn false) ma mb)) := me_cmp op_in_seq op2_in ha hb hm
theorem me_notIn (ha : PE X a (tM X.K ma)) (hb : PE X b (tM X.K mb)) (hm : behindInMarks .NotIn b = false := by with_unfolding_all rfl) : PE X (.Compare a [.NotIn] [b] pos) (tM X.K (mBin (fIn true) ma mb)) := me_cmp op_notIn_seq op2_in ha hb hm
theorem mt_in (ha : PE X a (tM X.K ma)) (hb : PE X b (tM X.K mb)) (hm : behindInMarks .In b = false := by with_unfolding_all rfl) : PT X (.Compare a [.In] [b] pos) (tT X.K (mTest (mBin (fIn false) ma mb))) := mt_cmp op_in_seq op2_in ha hb hm
theorem mt_notIn (ha : PE X a (tM X.K ma)) (hb : PE X b (tM X.K mb)) (hm : behindInMarks .NotIn b = false := by with_unfolding_all rfl) : PT X (.Compare a [.NotIn] [b] pos) (tT X.K (mTest (mBin (fIn true) ma mb))) := mt_cmp op_notIn_seq op2_in ha hb hm
/-- x.bit_length() -/
def mBits (m : EM) : EM := fun ρ S => match m ρ S with
  | some (.val (.int i), S1) => some (.val (.int ((Builtin.Int.intBits i : Nat) : Int)), S1)
  | _ => none
theorem me_bits {apos : Pos} (ha : PE X a (tM X.K m)) (hbase : attributeBase a "bit_length" X.env (eval a X.env) = eval a X.env := by rfl) (hline : (apos.endLine == pos.line) = true := by rfl) : PE X (.Call (.Attribute a "bit_length" apos) [] [] pos) (tM X.K (mBits m)) := by
  refine PE.imp (pe_bits ha hbase hline) fun σ H Q q => ?_
  obtain ⟨μ, ρ, S, w, S', ok, e, k⟩ := q
  unfold mBits at e
  split at e
  · rename_i i S1 e1
    cases e
    refine ⟨μ, ρ, S, _, _, ok, e1, fun μ1 v H1 so1 st1 r1 => ?_⟩
    cases r1
    exact ⟨i, rfl, k μ1 _ H1 so1 st1 (.int _)⟩
  · cases e
/-- list(range(a, b)) -/
theorem rgV_reps {K : PySem.W.Frag} {H : Hp} {μ : Mu} (i j : Int) : Reps K H μ (upFrom i (j - i).toNat) (rgV i j) := by
  unfold upFrom rgV
  generalize List.range (j - i).toNat = l
  induction l with
  | nil => exact .nil
  | cons x r ih => exact .cons (.int _) ih
def mLrange (a : AM) : EM := fun ρ S => match a ρ S with
  | some ([.val (.int j)], S1) => if decide (-(2 ^ 62) ≤ j) && decide (j ≤ 2 ^ 24) then some (.val (.fl (upFrom 0 (j - 0).toNat)), S1) else none
  | _ => none
theorem me_lrange {e : Expr} {m : EM} {p p2 pos2 : Pos} (hc : X.calm = true) (hl : X.mg "list" = none) (hm : X.mg "range" = none) (h : PE X e (tM X.K m)) (hg1 : Gl X "list" := by rfl) (hg2 : Gl X "range" := by rfl)
    (na : starEach [e] X.env = (false, eval e X.env) :: starEach [] X.env := by rfl) (na2 : starEach [.Call (.Name "range" p2) [e] [] pos2] X.env = (false, eval (.Call (.Name "range" p2) [e] [] pos2) X.env) :: starEach [] X.env := by rfl) :
    PE X (.Call (.Name "list" p) [.Call (.Name "range" p2) [e] [] pos2] [] pos) (tM X.K (mLrange (aCons m aNil))) := by
  refine PE.imp (pe_listRg hc hg1 hl (prg_1 hg2 hm h na) na2) fun σ H Q q => ?_
  obtain ⟨μ, ρ, S, w, S', ok, e, k⟩ := q
  unfold mLrange at e
  split at e
  · rename_i j S1 e1
    split at e
    · rename_i hj
      cases e
      rw [Bool.and_eq_true] at hj
      have h1 := of_decide_eq_true hj.1
      have h2 := of_decide_eq_true hj.2
      have e2 : m ρ S = some (.val (.int j), S') := by
        cases q : m ρ S with
        | none =>
          have z : (none : Option (List W × Sto)) = some ([.val (.int j)], S') := by
            rw [← e1]
            unfold aCons
            rw [q]
          cases z
        | some pr =>
          obtain ⟨w0, S0⟩ := pr
          have z : some ([w0], S0) = some ([.val (.int j)], S') := by
            rw [← e1]
            unfold aCons
            rw [q]
            rfl
          cases z
          rfl
      refine ⟨μ, ρ, S, _, _, ok, e2, fun μ1 v H1 so1 st1 r1 => ?_⟩
      cases r1
      refine ⟨j, rfl, ⟨by omega, by omega, h1, by omega, by omega⟩, fun p hp => k μ1 _ _ (so1.alloc hp) (st1.trans (.alloc hp)) (new_fl so1 hp (rgV_reps 0 j))⟩
    · cases e
  · cases e
end

/-! ### methods that change a cell -/
def mMet (f : W → FN) (m : EM) (a : AM) : EM := fun ρ S => match m ρ S with
  | some (x, S1) => match a ρ S1 with
    | some (ws, S2) => f x ws S2
    | none => none
  | none => none
def cellOf? (x : W) (S : Sto) : Option (Nat × List D) := match x with
  | .loc l => ((S[l]?).getD none).map fun ds => (l, ds)
  | _ => none
def mappend : W → FN := fun x ws S => match cellOf? x S, ws with
  | some (l, ds), [.val d] => if ds.length < sizeLine then some (.val .non, S.set l (some (ds ++ [d]))) else none
  | _, _ => none
def mpop : W → FN := fun x ws S => match cellOf? x S, ws with
  | some (l, ds), [.val (.int i)] => if decide (0 ≤ i) && decide (i < 2 ^ 62) then match ds[i.toNat]? with
    | some d => some (.val d, S.set l (some (ds.eraseIdx i.toNat)))
    | none => none
    else none
  | _, _ => none
def minsert : W → FN := fun x ws S => match cellOf? x S, ws with
  | some (l, ds), [.val (.int i), .val d] => if decide (0 ≤ i) && decide (i < 2 ^ 62) && decide (ds.length < sizeLine) then some (.val .non, S.set l (some (ds.take i.toNat ++ [d] ++ ds.drop i.toNat))) else none
  | _, _ => none
def mextend : W → FN := fun x ws S => match cellOf? x S, ws with
  | some (l, ds), [y] => match fCatL.lOwn y S with
    | some es => if ds.length + es.length ≤ sizeLine then some (.val .non, S.set l (some (ds ++ es))) else none
    | none => none
  | _, _ => none
def MetR (K : PySem.W.Frag) (r : V → List V → Hp → VK → Prop) (f : W → FN) : Prop := ∀ (μ : Mu) (S : Sto) (H : Hp) (x : W) (v : V) (ws : List W) (vs : List V) (w : W) (S' : Sto) (Q : VK), StoreOk K H μ S → RepW K H μ x v → RepWs K H μ ws vs → f x ws S = some (w, S') →
  (∀ μ' z H', StoreOk K H' μ' S' → Step H μ H' μ' → RepW K H' μ' w z → Q z H') → r v vs H Q
section
variable {K : PySem.W.Frag} {H : Hp} {μ : Mu} {S : Sto}
theorem cellOf?_ok (so : StoreOk K H μ S) {x : W} {v : V} {l : Nat} {ds : List D} (r : RepW K H μ x v) (e : cellOf? x S = some (l, ds)) : S[l]? = some (some ds) ∧ ∃ a vs, v = .ref a ∧ μ[l]? = some (some a) ∧ H a = some (.lst vs) ∧ Reps K H μ ds vs := by
  cases x with
  | val d => cases e
  | loc m =>
    have e' : ((S[m]?).getD none).map (fun ds => (m, ds)) = some (l, ds) := e
    cases q : (S[m]?).getD none with
    | none => rw [q] at e'; cases e'
    | some es =>
      rw [q] at e'
      cases e'
      have hs := getD_some q
      obtain ⟨a, vs, h1, h2, h3⟩ := so.cell l ds hs
      exact ⟨hs, a, vs, r.2 a h1, h1, h2, h3⟩
theorem met_append : MetR K rAppend mappend := by
  intro μ S H x v ws vs w S' Q so rx rs e k
  unfold mappend at e
  split at e
  · rename_i l ds d e1
    split at e
    · rename_i hz
      cases e
      obtain ⟨hs, a, us, rfl, h1, h2, h3⟩ := cellOf?_ok so rx e1
      obtain ⟨y, rfl, ry⟩ := rs.one
      obtain ⟨s1, s2⟩ := set_cell so hs h1 (h3.append (.cons ry .nil))
      exact ⟨a, us, y, rfl, rfl, h2, by rw [← h3.length]; exact hz, k μ _ _ s1 s2 .non⟩
    · cases e
  · cases e
theorem seqIndex_nat {i : Int} {n : Nat} (h0 : 0 ≤ i) (h : i.toNat < n) : seqIndex? i n = some i.toNat := seqIndex_of h0 (by omega)
theorem Reps.eraseIdx : ∀ {ds : List D} {vs : List V} (n : Nat), Reps K H μ ds vs → Reps K H μ (ds.eraseIdx n) (vs.eraseIdx n)
  | _, _, _, .nil => .nil
  | _, _, 0, .cons _ t => t
  | _, _, n + 1, .cons r t => .cons r (Reps.eraseIdx n t)
theorem met_pop : MetR K rPopAt mpop := by
  intro μ S H x v ws vs w S' Q so rx rs e k
  unfold mpop at e
  split at e
  · rename_i l ds i e1
    split at e
    · rename_i hb
      split at e
      · rename_i d e2
        cases e
        rw [Bool.and_eq_true] at hb
        have b1 := of_decide_eq_true hb.1
        have b2 := of_decide_eq_true hb.2
        obtain ⟨hs, a, us, rfl, h1, h2, h3⟩ := cellOf?_ok so rx e1
        obtain ⟨y, rfl, ry⟩ := rs.one
        cases ry
        obtain ⟨z, g1, g2⟩ := h3.get e2
        have hl : i.toNat < us.length := (List.getElem?_eq_some_iff.mp g1).1
        obtain ⟨s1, s2⟩ := set_cell so hs h1 (h3.eraseIdx i.toNat)
        exact ⟨a, us, i, i.toNat, z, rfl, rfl, h2, by omega, by omega, seqIndex_nat b1 hl, g1, k μ _ _ s1 s2 (g2.step so s2)⟩
      · cases e
    · cases e
  · cases e
theorem met_extend : MetR K rExtend mextend := by
  intro μ S H x v ws vs w S' Q so rx rs e k
  unfold mextend at e
  split at e
  · rename_i l ds y e1
    split at e
    · rename_i es e2
      split at e
      · rename_i hz
        cases e
        obtain ⟨hs, a, us, rfl, h1, h2, h3⟩ := cellOf?_ok so rx e1
        obtain ⟨z, rfl, rz⟩ := rs.one
        obtain ⟨b, zs, rfl, g1, g2⟩ := lOwn_ok so rz e2
        obtain ⟨s1, s2⟩ := set_cell so hs h1 (h3.append g2)
        exact ⟨a, b, us, zs, rfl, rfl, h2, g1, by rw [← h3.length, ← g2.length]; exact hz, k μ _ _ s1 s2 .non⟩
      · cases e
    · cases e
  · cases e
theorem met_insert : MetR K (fun x vs H Q => ∃ (l : Addr) (xs : List V) (i : Int) (y : V), x = .ref l ∧ vs = [.int i, y] ∧ H l = some (.lst xs) ∧ xs.length < sizeLine ∧ 0 ≤ i ∧ i < 2 ^ 63 ∧ Q .non (upd H l (.lst (xs.take i.toNat ++ [y] ++ xs.drop i.toNat)))) minsert := by
  intro μ S H x v ws vs w S' Q so rx rs e k
  unfold minsert at e
  split at e
  · rename_i l ds i d e1
    split at e
    · rename_i hb
      cases e
      rw [Bool.and_eq_true, Bool.and_eq_true] at hb
      have b1 := of_decide_eq_true hb.1.1
      have b2 := of_decide_eq_true hb.1.2
      have b3 := of_decide_eq_true hb.2
      obtain ⟨hs, a, us, rfl, h1, h2, h3⟩ := cellOf?_ok so rx e1
      obtain ⟨y, z, rfl, ry, rz⟩ := rs.two
      cases ry
      obtain ⟨s1, s2⟩ := set_cell so hs h1 (((h3.take i.toNat).append (.cons rz .nil)).append (h3.drop i.toNat))
      exact ⟨a, us, i, z, rfl, rfl, h2, by rw [← h3.length]; exact b3, b1, by omega, k μ _ _ s1 s2 .non⟩
    · cases e
  · cases e
end
end HM

set_option Elab.async false
set_option linter.all false
set_option maxRecDepth 100000
set_option autoImplicit false
namespace HM
open PySem PySem.Spec L2
open PyProof.Rows hiding St

section
variable {X : Cx} {o e : Expr} {es : List Expr} {apos cpos : Pos} {m : EM} {a : AM}
/-- the receiver has to be a live cell -/
def mMeth (f : W → FN) (m : EM) (a : AM) : EM := fun ρ S => match m ρ S with
  | some (x, S1) => match cellOf? x S1 with
    | some _ => match a ρ S1 with
      | some (ws, S2) => f x ws S2
      | none => none
    | none => none
  | none => none
theorem meth_imp {T : String} {r : V → List V → Hp → VK → Prop} {f : W → FN} (hT : T = "list") (h : MetR X.K r f) {σ : L2.St} {H : Hp} {Q : VK} (q : tM X.K (mMeth f m a) σ H Q) : tBM X.K T r (tM X.K m) (tA X.K a) σ H Q := by
  subst hT
  obtain ⟨μ, ρ, S, w, S', ok, e, k⟩ := q
  unfold mMeth at e
  split at e
  · rename_i x S1 e1
    split at e
    · rename_i c e2
      split at e
      · rename_i ws S2 e3
        refine ⟨μ, ρ, S, x, S1, ok, e1, fun μ1 v H1 so1 st1 r1 => ?_⟩
        obtain ⟨l, ds⟩ := c
        obtain ⟨hs, p, us, rfl, h1, h2, h3⟩ := cellOf?_ok so1 r1 e2
        refine ⟨.inl ⟨rfl, _, .inl (.inl h2)⟩, μ1, ρ, S1, ws, S2, ok.next so1 st1, e3, fun μ2 vs H2 so2 st2 r2 => ?_⟩
        exact h μ2 S2 H2 x _ ws vs w S' Q so2 (r1.step so1 st2) r2 e fun μ3 z H3 so3 st3 r3 => k μ3 z H3 so3 ((st1.trans st2).trans st3) r3
      · cases e
    · cases e
  · cases e
theorem me_append (ho : PE X o (tM X.K m)) (ha : PA X (e :: es) (tA X.K a)) (hbase : attributeBase o "append" X.env (eval o X.env) = eval o X.env := by rfl)
    (hfew : ((backTo cpos (starEach (e :: es) X.env)).all (fun x => !x.1) && (backToKw cpos (keywordEach [] X.env)).all (fun x => x.1.isSome) && decide ((e :: es).length + ([] : List Keyword).length + (if ([] : List Keyword).isEmpty then 0 else 1) < 30)) = true := by rfl)
    (hline : (apos.endLine == cpos.line) = true := by rfl) (hs : starEach (e :: es) X.env = (false, eval e X.env) :: starEach es X.env := by rfl) (hplain : (backTo cpos (starEach es X.env)).any (·.1) = false := by rfl) :
    PE X (.Call (.Attribute o "append" apos) (e :: es) [] cpos) (tM X.K (mMeth mappend m a)) := PE.imp (pe_bm PySem.F.plainAttrs_list PySem.F.slot_list_append PySem.F.type_list_append mt_append ho ha hbase hfew hline hs hplain) fun σ H Q q => meth_imp rfl met_append q
theorem me_pop (ho : PE X o (tM X.K m)) (ha : PA X (e :: es) (tA X.K a)) (hbase : attributeBase o "pop" X.env (eval o X.env) = eval o X.env := by rfl)
    (hfew : ((backTo cpos (starEach (e :: es) X.env)).all (fun x => !x.1) && (backToKw cpos (keywordEach [] X.env)).all (fun x => x.1.isSome) && decide ((e :: es).length + ([] : List Keyword).length + (if ([] : List Keyword).isEmpty then 0 else 1) < 30)) = true := by rfl)
    (hline : (apos.endLine == cpos.line) = true := by rfl) (hs : starEach (e :: es) X.env = (false, eval e X.env) :: starEach es X.env := by rfl) (hplain : (backTo cpos (starEach es X.env)).any (·.1) = false := by rfl) :
    PE X (.Call (.Attribute o "pop" apos) (e :: es) [] cpos) (tM X.K (mMeth mpop m a)) := PE.imp (pe_bm PySem.F.plainAttrs_list PySem.F.slot_list_pop PySem.F.type_list_pop mt_popAt ho ha hbase hfew hline hs hplain) fun σ H Q q => meth_imp rfl met_pop q
theorem me_insert (ho : PE X o (tM X.K m)) (ha : PA X (e :: es) (tA X.K a)) (hbase : attributeBase o "insert" X.env (eval o X.env) = eval o X.env := by rfl)
    (hfew : ((backTo cpos (starEach (e :: es) X.env)).all (fun x => !x.1) && (backToKw cpos (keywordEach [] X.env)).all (fun x => x.1.isSome) && decide ((e :: es).length + ([] : List Keyword).length + (if ([] : List Keyword).isEmpty then 0 else 1) < 30)) = true := by rfl)
    (hline : (apos.endLine == cpos.line) = true := by rfl) (hs : starEach (e :: es) X.env = (false, eval e X.env) :: starEach es X.env := by rfl) (hplain : (backTo cpos (starEach es X.env)).any (·.1) = false := by rfl) :
    PE X (.Call (.Attribute o "insert" apos) (e :: es) [] cpos) (tM X.K (mMeth minsert m a)) := PE.imp (pe_bm PySem.F.plainAttrs_list PySem.F.slot_list_insert PySem.F.type_list_insert mt_insert ho ha hbase hfew hline hs hplain) fun σ H Q q => meth_imp rfl met_insert q
theorem me_extend (ho : PE X o (tM X.K m)) (ha : PA X (e :: es) (tA X.K a)) (hbase : attributeBase o "extend" X.env (eval o X.env) = eval o X.env := by rfl)
    (hfew : ((backTo cpos (starEach (e :: es) X.env)).all (fun x => !x.1) && (backToKw cpos (keywordEach [] X.env)).all (fun x => x.1.isSome) && decide ((e :: es).length + ([] : List Keyword).length + (if ([] : List Keyword).isEmpty then 0 else 1) < 30)) = true := by rfl)
    (hline : (apos.endLine == cpos.line) = true := by rfl) (hs : starEach (e :: es) X.env = (false, eval e X.env) :: starEach es X.env := by rfl) (hplain : (backTo cpos (starEach es X.env)).any (·.1) = false := by rfl) :
    PE X (.Call (.Attribute o "extend" apos) (e :: es) [] cpos) (tM X.K (mMeth mextend m a)) := PE.imp (pe_bm PySem.F.plainAttrs_list PySem.F.slot_list_extend PySem.F.type_list_extend mt_extend ho ha hbase hfew hline hs hplain) fun σ H Q q => meth_imp rfl met_extend q
end

/-! ### o[i] = e -/
def putAt (x : W) (k : Int) (d : D) (S : Sto) : Option Sto := match cellOf? x S with
  | some (l, ds) => match ixN ds.length k with
    | some j => some (S.set l (some (ds.set j d)))
    | none => none
  | none => none
def sPut (m mo mi : EM) : SM := fun ρ S => match m ρ S with
  | some (.val d, S1) => match mo ρ S1 with
    | some (x, S2) => match mi ρ S2 with
      | some (.val (.int k), S3) => match putAt x k d S3 with
        | some S4 => some (.nx, ρ, S4)
        | none => none
      | _ => none
    | none => none
  | _ => none
/-- o[i], x = a pair -/
def sPut2 (j : Nat) (m mo mi : EM) : SM := fun ρ S => match m ρ S with
  | some (.val (.tup [d, d']), S1) => match mo ρ S1 with
    | some (x, S2) => match mi ρ S2 with
      | some (.val (.int k), S3) => match putAt x k d S3 with
        | some S4 => some (.nx, ρ.set j (some (.val d')), S4)
        | none => none
      | _ => none
    | none => none
  | _ => none
section
variable {X : Cx} {o i e : Expr} {pos apos : Pos} {m mo mi : EM}
theorem put_imp {K : PySem.W.Frag} {H : Hp} {μ : Mu} {S S' : Sto} {x : W} {v y : V} {k : Int} {d : D} {Q : Hp → Prop} (so : StoreOk K H μ S) (rx : RepW K H μ x v) (ry : Rep K H μ d y) (e : putAt x k d S = some S')
    (h : ∀ H', StoreOk K H' μ S' → Step H μ H' μ → Q H') : rSetL v (.int k) y H Q := by
  unfold putAt at e
  split at e
  · rename_i l ds e1
    split at e
    · rename_i j e2
      cases e
      obtain ⟨hs, a, us, rfl, h1, h2, h3⟩ := cellOf?_ok so rx e1
      obtain ⟨s1, s2⟩ := set_cell so hs h1 (h3.set ry j)
      exact ⟨a, us, k, j, rfl, rfl, h2, by rw [← h3.length]; exact e2, h _ s1 s2⟩
    · cases e
  · cases e
theorem ms_put (he : PE X e (tM X.K m)) (ho : PE X o (tM X.K mo)) (hi : PE X i (tM X.K mi)) (hs : swapsWithSole [.Subscript o i apos] e pos.line X.env = pure false := by rfl) (hw : swappedStores [.Subscript o i apos] e X.env = pure none := by rfl)
    (h1 : (assignEach [.Subscript o i apos] X.env).map (·.2) = [assign (.Subscript o i apos) X.env] := by rfl)
    (ha : ∀ v, assign (.Subscript o i apos) X.env v = (do
      let ov ← holding [v] (eval o X.env)
      let iv ← holding [v, ov] (eval i X.env)
      standAt apos
      holding [v, ov, iv] (setItem ov iv v)
      release [v, ov, iv] []) := by intro _; rfl) :
    PS X (.Assign [.Subscript o i apos] e pos) (tS X.K (sPut m mo mi)) := PS.imp (ps_asg he (pg_sub ho hi set_list ha) hs hw h1) fun D σ H q => by
  obtain ⟨μ, ρ, S, c, ρ', S', ok, e, k⟩ := q
  unfold sPut at e
  split at e
  · rename_i d S1 e1
    split at e
    · rename_i x S2 e2
      split at e
      · rename_i kk S3 e3
        split at e
        · rename_i S4 e4
          cases e
          refine ⟨μ, ρ, S, _, S1, ok, e1, fun μ1 v1 H1 so1 st1 r1 => ?_⟩
          refine ⟨μ1, ρ, S1, x, S2, ok.next so1 st1, e2, fun μ2 v2 H2 so2 st2 r2 => ?_⟩
          have ok2 := (ok.next so1 st1).next so2 st2
          refine ⟨μ2, ρ, S2, _, S3, ok2, e3, fun μ3 v3 H3 so3 st3 r3 => ?_⟩
          cases r3
          refine put_imp so3 (r2.step so2 st3) (Rep.step so1 (st2.trans st3) (show Rep X.K H1 μ1 d v1 from r1)) e4 fun H4 so4 st4 => ?_
          have st := ((st1.trans st2).trans st3).trans st4
          exact k μ3 H4 so4 st σ (ok.env.step ok.so st)
        · cases e
      · cases e
    · cases e
  · cases e
theorem ms_put2 {j : Nat} {x : Str} {xpos tpos : Pos} {kk : Nat} (he : PE X e (tM X.K m)) (ho : PE X o (tM X.K mo)) (hi : PE X i (tM X.K mi)) (hc : X.calm = true) (hN : X.N.Nodup) (hj : X.N[j]? = some x) (hx : Loc X.env.scope x)
    (hs : swapsWithSole [.Tuple [.Subscript o i apos, .Name x xpos] kk tpos] e pos.line X.env = pure false := by rfl) (hw : swappedStores [.Tuple [.Subscript o i apos, .Name x xpos] kk tpos] e X.env = pure none := by rfl)
    (h1 : (assignEach [.Tuple [.Subscript o i apos, .Name x xpos] kk tpos] X.env).map (·.2) = [assign (.Tuple [.Subscript o i apos, .Name x xpos] kk tpos) X.env] := by rfl)
    (ha : ∀ v, assign (.Subscript o i apos) X.env v = (do
      let ov ← holding [v] (eval o X.env)
      let iv ← holding [v, ov] (eval i X.env)
      standAt apos
      holding [v, ov, iv] (setItem ov iv v)
      release [v, ov, iv] []) := by intro _; rfl)
    (a1 : (assignEach [.Subscript o i apos, .Name x xpos] X.env).map (·.2) = assign (.Subscript o i apos) X.env :: (assignEach [.Name x xpos] X.env).map (·.2) := by rfl)
    (a2 : (assignEach [.Name x xpos] X.env).map (·.2) = assign (.Name x xpos) X.env :: (assignEach [] X.env).map (·.2) := by rfl)
    (hn : (assignEach [.Subscript o i apos, .Name x xpos] X.env).length = 2 := by rfl) (hst : (assignEach [.Subscript o i apos, .Name x xpos] X.env).findIdx? (·.1) = none := by rfl)
    (hf : X.fn x = true ∨ X.env.scope.names.lookup x = some .local := by first | exact .inl rfl | exact .inr rfl | assumption) :
    PS X (.Assign [.Tuple [.Subscript o i apos, .Name x xpos] kk tpos] e pos) (tS X.K (sPut2 j m mo mi)) := PS.imp (ps_asg he (pg_tup hc (pgs_cons (pg_sub ho hi set_list ha) (pgs_cons (pg_name hN hj hx hf) pgs_nil a2) a1) hn hst) hs hw h1) fun D σ H q => by
  obtain ⟨μ, ρ, S, c, ρ', S', ok, e, k⟩ := q
  unfold sPut2 at e
  split at e
  · rename_i d d' S1 e1
    split at e
    · rename_i y S2 e2
      split at e
      · rename_i kk S3 e3
        split at e
        · rename_i S4 e4
          cases e
          refine ⟨μ, ρ, S, _, S1, ok, e1, fun μ1 v1 H1 so1 st1 r1 => ?_⟩
          cases (show Rep X.K H1 μ1 (.tup [d, d']) v1 from r1) with
          | tup qt rs =>
            cases rs with
            | cons rd rs =>
              cases rs with
              | cons rd' rs =>
                cases rs
                refine ⟨_, _, rfl, qt, rfl, _, _, rfl, ?_⟩
                refine ⟨μ1, ρ, S1, y, S2, ok.next so1 st1, e2, fun μ2 v2 H2 so2 st2 r2 => ?_⟩
                have ok2 := (ok.next so1 st1).next so2 st2
                refine ⟨μ2, ρ, S2, _, S3, ok2, e3, fun μ3 v3 H3 so3 st3 r3 => ?_⟩
                cases r3
                refine put_imp so3 (r2.step so2 st3) (Rep.step so1 (st2.trans st3) rd) e4 fun H4 so4 st4 => ?_
                have st := ((st1.trans st2).trans st3).trans st4
                refine ⟨_, _, rfl, rfl, ?_⟩
                exact k μ3 H4 so4 st _ ((ok.env.step ok.so st).set (w := .val d') (Rep.step so1 ((st2.trans st3).trans st4) rd') j)
        · cases e
      · cases e
    · cases e
  · cases e
end

/-! ### while -/
def whileF (t : TM) (b : SM) : Nat → Rho → Sto → Option (Ctl × Rho × Sto)
  | 0, _, _ => none
  | n + 1, ρ, S => match t ρ S with
    | some (true, S1) => match b ρ S1 with
      | some (.nx, ρ2, S2) => whileF t b n ρ2 S2
      | some (.cnt, ρ2, S2) => whileF t b n ρ2 S2
      | some (.brk, ρ2, S2) => some (.nx, ρ2, S2)
      | some (.ret w, ρ2, S2) => some (.ret w, ρ2, S2)
      | none => none
    | some (false, S1) => some (.nx, ρ, S1)
    | none => none
def sWhile (t : TM) (b : SM) : SM := whileF t b 100000
section
variable {X : Cx} {c : Expr} {body : List Stmt} {t : TM} {b : SM} {pos : Pos}
theorem ms_while (hp : PassesOwn (model X.prog X.w) X.A X.env X.xe) (hc : PT X c (tT X.K t)) (hb : PSs X body (tS X.K b)) : PS X (.While c body [] pos) (tS X.K (sWhile t b)) := PS.imp (ps_while hp hc hb) fun D σ H q => by
  obtain ⟨μ, ρ, S, c, ρ', S', ok, e, k⟩ := q
  refine ⟨fun n σ' H' => ∃ μi ρi Si, StoreOk X.K H' μi Si ∧ EnvOk X.K H' μi ρi σ' ∧ Step H μ H' μi ∧ whileF t b n ρi Si = some (c, ρ', S'), ⟨100000, μ, ρ, S, ok.so, ok.env, .refl, e⟩, ?_⟩
  rintro n σi Hi ⟨μi, ρi, Si, soi, envi, sti, ei⟩
  cases n with
  | zero => cases ei
  | succ n =>
    unfold whileF at ei
    split at ei
    · rename_i S1 e1
      refine ⟨μi, ρi, Si, true, S1, ⟨soi, envi⟩, e1, fun μ1 H1 so1 st1 => itT ?_⟩
      refine ⟨fun σ' H' => ∃ μj ρj Sj, StoreOk X.K H' μj Sj ∧ EnvOk X.K H' μj ρj σ' ∧ Step H μ H' μj ∧ whileF t b n ρj Sj = some (c, ρ', S'), fun σ' H' h => ⟨n, Nat.lt_succ_self n, h⟩, ?_⟩
      have env1 := envi.step soi st1
      split at ei
      · rename_i ρ2 S2 e2
        exact ⟨μ1, ρi, S1, .nx, ρ2, S2, ⟨so1, env1⟩, e2, fun μ3 H3 so3 st3 => fun σ3 env3 => ⟨μ3, ρ2, S2, so3, env3, (sti.trans st1).trans st3, ei⟩⟩
      · rename_i ρ2 S2 e2
        exact ⟨μ1, ρi, S1, .cnt, ρ2, S2, ⟨so1, env1⟩, e2, fun μ3 H3 so3 st3 => fun σ3 env3 => ⟨μ3, ρ2, S2, so3, env3, (sti.trans st1).trans st3, ei⟩⟩
      · rename_i ρ2 S2 e2
        cases ei
        exact ⟨μ1, ρi, S1, .brk, _, _, ⟨so1, env1⟩, e2, fun μ3 H3 so3 st3 => fun σ3 env3 => k μ3 H3 so3 ((sti.trans st1).trans st3) σ3 env3⟩
      · rename_i w ρ2 S2 e2
        cases ei
        exact ⟨μ1, ρi, S1, .ret w, _, _, ⟨so1, env1⟩, e2, fun μ3 H3 so3 st3 => fun v rv => k μ3 H3 so3 ((sti.trans st1).trans st3) v rv⟩
      · cases ei
    · rename_i S1 e1
      cases ei
      exact ⟨μi, _, Si, false, _, ⟨soi, envi⟩, e1, fun μ1 H1 so1 st1 => itF (k μ1 H1 so1 (sti.trans st1) σi (envi.step soi st1))⟩
    · cases ei
/-- the truth of a list or a tuple -/
def mTru (m : EM) : TM := fun ρ S => match m ρ S with
  | some (w, S1) => match (match tItems w with | some ds => some ds | none => lItems w S1) with
    | some ds => some (!ds.isEmpty, S1)
    | none => none
  | none => none
theorem isEmpty_reps {K : PySem.W.Frag} {H : Hp} {μ : Mu} {ds : List D} {vs : List V} (r : Reps K H μ ds vs) : ds.isEmpty = vs.isEmpty := by cases r <;> rfl
theorem mt_tru {e : Expr} {m : EM} (h : PE X e (tM X.K m)) (he : ∀ whole, isTrue e X.env whole = (do let v ← whole; standAt e.pos; holding [v] (truthy v)) := by intro _; rfl) : PT X e (tT X.K (mTru m)) := by
  refine PT.imp (pt_truth h he) fun σ H Q q => ?_
  obtain ⟨μ, ρ, S, w, S', ok, e, k⟩ := q
  unfold mTru at e
  split at e
  · rename_i w0 S1 e1
    split at e
    · rename_i ds e2
      cases e
      refine ⟨μ, ρ, S, _, _, ok, e1, fun μ1 v H1 so1 st1 r1 => ?_⟩
      split at e2
      · rename_i ds' e3
        cases e2
        obtain ⟨a, us, rfl, q, rr⟩ := tItems_ok r1 e3
        exact ⟨_, .inr (.inl ⟨us, q, by rw [isEmpty_reps rr]⟩), k μ1 H1 so1 st1⟩
      · obtain ⟨a, us, rfl, q, rr⟩ := lItems_ok so1 r1 e2
        exact ⟨_, .inl ⟨us, q, by rw [isEmpty_reps rr]⟩, k μ1 H1 so1 st1⟩
    · cases e
  · cases e
end
end HM

set_option Elab.async false
set_option linter.all false
set_option maxRecDepth 100000
set_option autoImplicit false
set_option maxHeartbeats 4000000
namespace PySem.W
open PySem PySem.Spec PySem.Calls PyProof.Rows
section
variable {prog : Program} {w : World} {A : Around} {E : Value → Shared → Prop} {s : Shared} {K : Frag} {x D : Addr} {ox : Obj} {od : Option Obj}
theorem hm_found {C : Addr} {name : Str} {a g : Value} (h1 : (clsIn K C).isSome = true) (h2 : findIn K (.ref C) name = some (some a)) (h3 : specialIn K a "__get__" = some (some g)) (h4 : takesIn K a = some true) : findObj K C od name = some (.bind g a) := by
  obtain ⟨cd, h1⟩ := Option.isSome_iff_exists.mp h1
  unfold findObj
  rw [h1, Option.bind_some, h2, Option.bind_some]
  simp [h3, h4]
/-- x.__class__ of an error that may have a dict of its own -/
theorem hm_class {Q : Option Value → Shared → Prop} (c : L2.ExcC K D) (X : K.In s.heap) (I : InstAt s.heap x ox D od) (h : Q (some (.ref D)) { s with toks := s.toks + 1 }) : wpAny (model prog w) A (getAttr? (.ref x) "__class__") Q E s := by
  have found : findObj K D od "__class__" = some (.bind (.builtin "getset_descriptor.__get__") (.builtin "object.__class__")) := hm_found (by obtain ⟨cd, z, _⟩ := any_some c.hd; rw [z]; rfl) c.ha c.hn c.ht
  obtain ⟨hp, gg, dd, tt, os⟩ := s
  have T0 := I.type (M := model prog w)
  have T1 := looks_findIn (M := model prog w) X c.hg
  have T2 := looks_findIn (M := model prog w) X c.hk
  have T3 := looks_find (M := model prog w) X I found
  have isB : Looks (model prog w) hp (isInstance (.ref x) (.type "BaseException")) true := T0.andThen (looks_subIn X c.hs)
  have n2 : (Value.builtin "BaseException.__getattribute__" == Value.builtin "object.__getattribute__") = false := by decide +kernel
  have n1 : (onTheHeap (Value.ref D) && Value.builtin "BaseException.__getattribute__" == Value.builtin "object.__getattribute__") = false := by rw [n2]; rfl
  have n0 : (false && onTheHeap (Value.builtin "BaseException.__getattribute__")) = false := rfl
  unfold getAttr? getAttrBy? getAttrBy
  refine wpAny_bind (wpAny_mkText (wpAny_bind (wpAny_attempt (wpAny_holding (wpAny_bind (T0.at (wpAny_bind (T1.at ?_))))))))
  show wpAny _ _ (if (onTheHeap (Value.ref D) && Value.builtin "BaseException.__getattribute__" == Value.builtin "object.__getattribute__") = true then _ else _) _ _ _
  rw [n1, if_neg Bool.false_ne_true]
  unfold getAttrByItsOwn hookBefore
  refine wpAny_bind ?_
  rw [if_pos (show onTheHeap (Value.ref D) = true from rfl)]
  refine T2.at ?_
  refine wpAny_bind (wpAny_attempt (wpAny_holding ?_))
  unfold callGetattribute
  rw [n0, if_neg Bool.false_ne_true]
  unfold boundAndCalled
  rw [PySem.F.excAttr_ValueError.ga.bind (.ref x)]
  refine wpAny_bind (wpAny_pure ?_)
  show wpAny _ _ (call (.builtin "BaseException.__getattribute__") [.ref x, .str "__class__" tt]) _ _ _
  refine wpAny_call (codeAny_call_builtin PySem.F.excAttr_ValueError.ga.plain PySem.F.entry_bexc_ga ?_)
  refine @check_slot (model prog w) _ _ ⟨hp, gg, dd, tt + 1, os⟩ "BaseException.__getattribute__" "BaseException" "__getattribute__" (.ref x) [.str "__class__" tt] [] _ (by decide +kernel) (by decide +kernel) isB (PySem.F.args_bexc_ga (.ref x) (.str "__class__" tt)) ?_
  unfold Builtin.«object.__getattribute__»
  refine wpAny_bind (wpAny_of_eq (a := ((Value.ref x : Value), [Value.str "__class__" tt])) (by first | rfl | (simp only [slotArgs]; rfl)) ?_)
  refine wpAny_bind (wpAny_pure (wpAny_bind (T0.at (wpAny_bind (T3.at ?_)))))
  show wpAny _ _ (holding [Value.builtin "object.__class__"] (call (.builtin "getset_descriptor.__get__") [.builtin "object.__class__", .ref x, .ref D]) >>= ret) _ _ _
  refine wpAny_bind (wpAny_holding (wpAny_call (class_get (s := ⟨hp, gg, dd, tt + 1, os⟩) (ox := ox) (od := od) X I c.hm ?_)))
  refine wpAny_pure ?_
  show wpAny _ _ (handedOut (.ref D)) _ _ _
  rw [handedOut_of (v := .ref D) rfl]
  first
    | exact wpAny_pure (wpAny_pure h)
    | exact wpAny_pure h
    | exact wpAny_pure (wpAny_bind (wpAny_pure (wpAny_pure h)))
theorem hm_kit (c : L2.ExcC K D) : KitX K (.ref x) (.ref D) (fun h => InstAt h x ox D od) where
  ty := fun _ _ _ I => I.type
  it := fun _ _ X _ => by
    obtain ⟨cd, z, _⟩ := any_some c.hd
    unfold clsIn at z
    split at z
    · rename_i c' d' cd' sl' ho
      intro A' Q' E' s' k q
      unfold isType loadHead
      exact wpAny_bind (wpAny_loadPart (k _ _ (X _ _ ho)) (wpAny_pure q))
    · cases z
  ne := fun h tp dd its n sl X htp => by
    obtain ⟨cd, z, _⟩ := any_some c.hd
    refine Bool.eq_false_iff.mpr fun q => ?_
    obtain rfl : D = tp := Value.ref.inj (beq_iff_eq.mp q)
    unfold clsIn at z
    split at z
    · rename_i c' d' cd' sl' ho
      have y := (X _ _ ho).symm.trans htp
      cases y
    · cases z
  ca := fun X I k => hm_class c X I k
end
end PySem.W

namespace HM
open PySem PySem.Spec L2
open PyProof.Rows hiding St
/-! ### isinstance of an error -/
section
variable {X : Cx} {pins : List (Addr × Obj)} {σ : L2.St} {H : Hp} {s : Shared} {a C : Addr} {d : Option Addr}
/-- where the error stands -/
def ExAt (H : Hp) (a C : Addr) : Prop := H a = some (exo a C none) ∨ ∃ dx f v, H a = some (exo a C (some dx)) ∧ H dx = some (exd dx [(f, v)])
theorem exAt_inst (I : Inv X pins σ H s) (h : ExAt H a C) : ∃ ox od, PySem.W.InstAt s.heap a ox C od := by
  rcases h with h | ⟨dx, f, v, h, h2⟩
  · obtain ⟨t1, ho⟩ := exo_at I.hok h
    exact ⟨_, none, ho, rfl, rfl, trivial⟩
  · obtain ⟨t1, ho⟩ := exo_at I.hok h
    obtain ⟨mA, ⟨o, es, ep, hod, _⟩, _⟩ := exd_at I.hok h2
    exact ⟨_, some o, ho, rfl, rfl, hod⟩
def rIsX (K : PySem.W.Frag) : List V → Hp → VK → Prop := fun xs H Q => ∃ (a C : Addr) (c : V) (u : Value) (b : Bool), xs = [.ref a, c] ∧ ClsV c u ∧ ExAt H a C ∧ ExcC K C ∧ PySem.W.kitOne K (.ref C) u = some b ∧ Q (.bl b) H
theorem call_isX : CallR X (.builtin "isinstance") (rIsX X.K) := by
  intro pins s σ H xs us Q I r h
  obtain ⟨a, C, c, u, b, rfl, k, hx, hc, e, q⟩ := h
  obtain ⟨u1, u2, rfl, r1, r2⟩ := vals2 r
  obtain rfl := k.eq r2
  obtain rfl : u1 = Value.ref a := r1
  obtain ⟨ox, od, J⟩ := exAt_inst I hx
  exact PySem.W.kia_one (PySem.W.hm_kit hc) I.kIn J e (fun z => nomatch z) fun tk => ⟨.bl b, H, I.tok tk, rfl, q⟩
/-- the class's name, for an error -/
def D.cls? : D → Option Str
  | .exc0 c => some c
  | .exc1 c _ _ => some c
  | _ => none
theorem cls?_ok {K : PySem.W.Frag} {μ : Mu} {e : D} {v : V} {c : Str} (r : Rep K H μ e v) (h : e.cls? = some c) : ∃ a C, v = .ref a ∧ PySem.W.nsIn K mainGlobals c = some (some (.ref C)) ∧ ExAt H a C := by
  cases r with
  | exc0 n q => cases h; exact ⟨_, _, rfl, n, .inl q⟩
  | exc1 n q x _ => cases h; exact ⟨_, _, rfl, n, .inr ⟨_, _, _, q, x⟩⟩
  | _ => cases h
def mIsX (ans : Str → Option Bool) (m : EM) : EM := fun ρ S => match m ρ S with
  | some (.val d, S1) => match d.cls? with
    | some c => match ans c with
      | some b => some (.val (.bl b), S1)
      | none => none
    | none => none
  | _ => none
theorem me_isX {ans : Str → Option Bool} {e : Expr} {m : EM} {x : Str} {p p2 pos : Pos} {c : V} {u : Value} (hc : PE X (.Name x p2) (tC c)) (hu : ClsV c u) (hk : ∀ cn b C, ans cn = some b → PySem.W.nsIn X.K mainGlobals cn = some (some (.ref C)) → ExcC X.K C ∧ PySem.W.kitOne X.K (.ref C) u = some b)
    (hm : X.mg "isinstance" = none) (h : PE X e (tM X.K m)) (hg : Gl X "isinstance" := by rfl) (hb : bootBuiltins "isinstance" = some (.builtin "isinstance") := by first | rfl | decide +kernel)
    (hs : starEach [e, .Name x p2] X.env = (false, eval e X.env) :: starEach [.Name x p2] X.env := by rfl) (hs2 : starEach [.Name x p2] X.env = (false, eval (.Name x p2) X.env) :: starEach [] X.env := by rfl) (hpl : (backTo pos (starEach [.Name x p2] X.env)).any (·.1) = false := by rfl) :
    PE X (.Call (.Name "isinstance" p) [e, .Name x p2] [] pos) (tM X.K (mIsX ans m)) := by
  refine PE.imp (pe_callB call_isX hg hm hb (pa_cons h (pa_cons hc pa_nil hs2) hs) (by decide) (by decide) hs hpl) fun σ H Q q => ?_
  obtain ⟨μ, ρ, S, w, S', ok, e, k⟩ := q
  unfold mIsX at e
  split at e
  · rename_i d S1 e1
    split at e
    · rename_i cn e2
      split at e
      · rename_i b e3
        cases e
        refine ⟨μ, ρ, S, _, _, ok, e1, fun μ1 v H1 so1 st1 r1 => ?_⟩
        obtain ⟨a, C, rfl, n, hx⟩ := cls?_ok r1 e2
        obtain ⟨k1, k2⟩ := hk cn b C e3 n
        exact ⟨a, C, c, u, b, rfl, hu, hx, k1, k2, k μ1 _ H1 so1 st1 (.bl _)⟩
      · cases e
    · cases e
  · cases e
end
end HM

set_option Elab.async false
set_option linter.all false
set_option maxRecDepth 100000
set_option autoImplicit false
set_option maxHeartbeats 4000000
namespace PySem
namespace HandSPX
open Builtin Builtin.ObjectAttr
section
variable {M : Model} {A : Around} {E : Value → Shared → Prop} {hp : Heap} {gs : Array GenState} {dr : Drawn} {tk : Nat} {osx : OsState}
variable {nm q : Str} {C N : Addr} {bs bm bmB : List Value} {hdct : Bool} {sn : List Str} {sub : List Value} {ab : Bool} {col : Option Bool} {dd : Option Addr} {k0 k1 k2 k3 k5 : Option Value} {B newId initId : String}
theorem kw_check (F : ExcBaseFacts B newId initId bmB) (tl : ∀ X : String, bm.contains (.type X) = bmB.contains (.type X)) {us : List Value} {kw : List (Str × Value)} {Q : Unit → Shared → Prop}
    (cC : hp.get? C = some (excClassObj nm q C N bs bm hdct sn sub ab col dd k0 k1 k2 k3 k5 newId)) (z : Q () ⟨hp, gs, dr, tk, osx⟩) : wpAny M A (checkBuiltinCall newId ⟨.ref C :: us, kw⟩) Q E ⟨hp, gs, dr, tk, osx⟩ := by
  have inB : (Value.ref C :: bm).contains (.type B) = true := by rw [List.contains_cons, tl, F.hasB, Bool.or_true]
  have star := F.noStar
  simp only [checkBuiltinCall, F.newKind, F.newSplit, F.newRow]
  repeat (first | refine wpAny_loadPart_at cC ?_ | (refine wpAny_isSubtype_exc cC ?_; rw [inB]) | refine wpAny_staticBase_exc cC ?_ | refine wpAny_madeBy_exc cC ?_ | simp only [bne_self_eq_false, Bool.false_eq_true, if_false] | wp_step)
  exact z
end
section
variable {prog : Program} {w : World} {A : Around} {E : Value → Shared → Prop} {R : Result → Shared → Prop} {hp : Heap} {gs : Array GenState} {dr : Drawn} {tk : Nat} {osx : OsState}
variable {nm q : Str} {C N : Addr} {bs bm bmB : List Value} {hdct : Bool} {sn : List Str} {sub : List Value} {ab : Bool} {col : Option Bool} {dd : Option Addr} {k0 k1 k2 k3 k5 : Option Value} {B newId initId : String}
theorem kw_new (F : ExcBaseFacts B newId initId bmB) (tl : ∀ X : String, bm.contains (.type X) = bmB.contains (.type X)) {us : List Value} {kw : List (Str × Value)}
    (cC : hp.get? C = some (excClassObj nm q C N bs bm hdct sn sub ab col dd k0 k1 k2 k3 k5 newId))
    (z : R (.ok (.ret (.ref (hp.objs.size + 1)))) ⟨(hp.push { cls := .type "tuple", data := .seq us.toArray }).push
      { cls := .ref C, data := .fields #[.ref hp.objs.size, .none, .none, .none, .bool false, .none] }, gs, dr, tk, osx⟩) (lus : us.length ≤ sizeLine) :
    codeAny (model prog w) A (.builtin newId ⟨.ref C :: us, kw⟩) R ⟨hp, gs, dr, tk, osx⟩ := by
  have ends := F.ends
  have inB : (Value.ref C :: bm).contains (.type B) = true := by rw [List.contains_cons, tl, F.hasB, Bool.or_true]
  have inA : (Value.ref C :: bm).contains (.type "AttributeError") = false := by rw [List.contains_cons, tl, F.noAttr]; rfl
  have inN : (Value.ref C :: bm).contains (.type "NameError") = false := by rw [List.contains_cons, tl, F.noName]; rfl
  refine codeAny_builtinAt F.entry ?_
  unfold Builtin.«BaseException.__new__»
  refine wpAt_bind ?_
  show wpAt _ _ _ (stack >>= _) _ _ _
  refine wpAt_bind (wpAt_stack fun p below => wpAt_of_wpAny ?_)
  wp_walk
  refine wpAt_of_wpAny ?_
  rw [F.owner]
  repeat (first | with_reducible refine wpAny_madeHere_exc F.canon cC ?_ | with_reducible refine wpAny_loadPart_at cC ?_ | (with_reducible refine wpAny_isSubtype_exc cC ?_; first | rw [inB] | rw [inA] | rw [inN]) | wp_step)
  show R _ _
  rw [Heap.size_push]
  exact z
theorem kw_type (F : ExcBaseFacts B newId initId bmB) (tl : ∀ X : String, bm.contains (.type X) = bmB.contains (.type X)) {us : List Value} {kw : List (Str × Value)} {fI : Addr} {Q : Fin → Shared → Prop}
    (cC : hp.get? C = some (excClassObj nm q C N bs bm hdct sn sub ab col dd k0 k1 k2 k3 k5 newId))
    (li : W.Looks (model prog w) hp (typeLookup (.ref C) "__init__") (some (.ref fI))) (lb : ∀ self, W.Looks (model prog w) hp (bindSpecial (.ref fI) self) (.ref fI, [self])) (lus : us.length ≤ sizeLine)
    (z : codeAny (model prog w) A (.call (.ref fI) ⟨.ref (hp.objs.size + 1) :: us, kw⟩)
      (fun r s' => match r with | .ok (.ret v) => v = .none ∧ Q (.done (.ret (.ref (hp.objs.size + 1)))) s' | .ok _ => False | .error e => E e s')
      ⟨(hp.push (W.kdv_tup us)).push (excO C hp.objs.size), gs, dr, tk, osx⟩) :
    wpAny (model prog w) A (Builtin.«type.__call__» ⟨.ref C :: us, kw⟩) Q E ⟨hp, gs, dr, tk, osx⟩ := by
  repeat (first | with_reducible refine wpAny_loadPart_at cC ?_ | with_reducible refine wpAny_madeBy_exc cC ?_ | wp_step)
  refine codeAny_call_builtin_code (Code.quiet_builtin _ F.quiet) (kw_check F tl cC ?_)
  refine kw_new F tl cC ?_ lus
  show wpAny _ _ _ _ _ _
  have kk : ∀ b o, hp.get? b = some o → ((hp.push (W.kdv_tup us)).push (excO C hp.objs.size)).get? b = some o := fun b o e => Heap.get?_push_of_some _ (Heap.get?_push_of_some _ e)
  have cC1 := kk _ _ cC
  have got : ((hp.push (W.kdv_tup us)).push (excO C hp.objs.size)).get? (hp.objs.size + 1) = some (excO C hp.objs.size) := by heap_get
  have inC : (Value.ref C :: bm).contains (.ref C) = true := by simp
  have i1 := li.keeps kk
  have b1 := (lb (.ref (hp.objs.size + 1))).keeps kk
  unfold isInstance
  repeat (first | with_reducible refine wpAny_loadPart_at got ?_ | (with_reducible refine wpAny_isSubtype_exc cC1 ?_; rw [inC]) | wp_step)
  show wpAny _ _ (typeLookup (.ref C) _) _ _ _
  refine i1.at ?_
  refine wpAny_holding (wpAny_bind (b1.at ?_))
  refine wpAny_bind (wpAny_call (codeAny_mono z fun r s' y => ?_))
  rcases r with e | (v | _ | _ | _) <;> first | exact y | exact y.elim | skip
  obtain ⟨rfl, y⟩ := y
  first
    | exact wpAny_pure (wpAny_pure y)
    | (wp_walk; exact y)
theorem kw_call (F : ExcBaseFacts B newId initId bmB) (tl : ∀ X : String, bm.contains (.type X) = bmB.contains (.type X)) {us : List Value} {kw : List (Str × Value)} {fI : Addr}
    (cC : hp.get? C = some (excClassObj nm q C N bs bm hdct sn sub ab col dd k0 k1 k2 k3 k5 newId))
    (li : W.Looks (model prog w) hp (typeLookup (.ref C) "__init__") (some (.ref fI))) (lb : ∀ self, W.Looks (model prog w) hp (bindSpecial (.ref fI) self) (.ref fI, [self])) (lus : us.length ≤ sizeLine)
    (z : codeAny (model prog w) (A.under (.builtin "type.__call__" ⟨.ref C :: us, kw⟩)) (.call (.ref fI) ⟨.ref (hp.objs.size + 1) :: us, kw⟩) (W.InitBack (hp.objs.size + 1) R)
      ⟨(hp.push (W.kdv_tup us)).push (excO C hp.objs.size), gs, dr, tk, osx⟩) :
    codeAny (model prog w) A (.call (.ref C) ⟨us, kw⟩) R ⟨hp, gs, dr, tk, osx⟩ := by
  have f1 := tc_lookup
  have f2 := tc_bind (.ref C)
  have isT : (⟨hp, gs, dr, tk, osx⟩ : Shared).TypeIs (.ref C) "type" := ⟨_, cC, rfl⟩
  refine codeAny_of_tree ?_
  show wpAny _ _ (callAny (.ref C) _) _ _ _
  repeat (any_goals (first | assumption | with_reducible refine wpAny_loadPart_at cC ?_ | wp_step))
  refine ⟨rfl, ?_⟩
  refine codeAny_call_builtin_at (Code.quiet_builtin _ (by decide +kernel)) entry_typeCall (wpAny_check_type_call_sub cC (kw_type F tl cC li lb lus ?_))
  refine codeAny_mono z fun r s' y => ?_
  rcases r with e | (v | _ | _ | _) <;> exact y
end
end HandSPX
end PySem

set_option Elab.async false
set_option linter.all false
set_option maxRecDepth 100000
set_option autoImplicit false
set_option maxHeartbeats 4000000
namespace HM
open PySem PySem.Spec L2
open PyProof.Rows hiding St

/-- an error's __init__ stores its one argument -/
def spInit (C : Addr) (f : Str) : Sp := fun vs H Q _ => ∃ (a : Addr) (v : V), vs = [.ref a, v] ∧ H a = some (exo a C none) ∧ ∀ dx, H dx = none → dx ≠ a → Q .non (upd (upd H dx (exd dx [(f, v)])) a (exo a C (some dx)))
/-- what the written part says of a class of errors with one field, and of its __init__ -/
structure XCls (P : Program) (w : World) (K : PySem.W.Frag) (mg : Str → Option Value) (base : Heap) (c f : Str) (C fI : Addr) (fd : FuncData) : Prop where
  ns : PySem.W.nsIn K mainGlobals c = some (some (.ref C))
  g : mg c = some (.ref C)
  oex : OexC K C
  exc : ExcC K C
  iC : PySem.W.findIn K (.ref C) "__init__" = some (some (.ref fI))
  tI : PySem.W.typeIn K (.ref fI) = some (.type "function")
  no : PySem.W.findIn K (.ref C) f = some none
  ok : FnOk P w K mg base CX0 1 fI fd ["self", f] (spInit C f)
  b1 : ∀ (s : Shared) (a u : Value), BindsTo s fd ⟨[a, u], []⟩ [("self", a), (f, u)]
  b2 : ∀ (s : Shared) (a u : Value), BindsTo s fd ⟨[a], [(f, u)]⟩ [("self", a), (f, u)]
section
variable {X : Cx} {c f : Str} {C fI : Addr} {fd : FuncData}
theorem run_mkX {pins : List (Addr × Obj)} {σ : L2.St} {H : Hp} {s : Shared} {Q : VK} {v : V} {u : Value} {us : List Value} {kw : List (Str × Value)} (T : XCls X.prog X.w X.K X.mg X.base c f C fI fd) (hr : Room 2 X.A) (I : Inv X pins σ H s) (rv : RelV v u) (lus : us.length ≤ 1)
    (hb : ∀ (s : Shared) (a : Value), BindsTo s fd ⟨a :: us, kw⟩ [("self", a), (f, u)]) (h : ∀ a dx, H a = none → H dx = none → dx ≠ a → Q (.ref a) (upd (upd H dx (exd dx [(f, v)])) a (exo a C (some dx)))) :
    wpAny (model X.prog X.w) X.A (call (.ref C) us kw) (EP X pins σ Q) X.xe s := by
  obtain ⟨nm, q, N, bs, bm, sn, sub, ab, col, dd, k0, k1, k2, k3, k5, hC, hbm⟩ := T.oex.cls
  obtain ⟨hp, gg, dr, tk, os⟩ := s
  have big : hp.objs.size ≤ hp.objs.size + 1 := Nat.le_succ _
  have nA : H (hp.objs.size + 1) = none := I.hok.fresh big
  have kept : ∀ b o, hp.get? b = some o → ((hp.push (PySem.W.kdv_tup us)).push (PySem.HandSPX.excO C hp.objs.size)).get? b = some o := fun b o e => Heap.get?_push_of_some _ (Heap.get?_push_of_some _ e)
  have got : ((hp.push (PySem.W.kdv_tup us)).push (PySem.HandSPX.excO C hp.objs.size)).get? (hp.objs.size + 1) = some (PySem.HandSPX.excO C hp.objs.size) := by heap_get
  have I2 : Inv X pins σ (upd H (hp.objs.size + 1) (exo (hp.objs.size + 1) C none)) ⟨(hp.push (PySem.W.kdv_tup us)).push (PySem.HandSPX.excO C hp.objs.size), gg, dr, tk, os⟩ :=
    I.laid (t' := tk) (a := hp.objs.size + 1) (o := exo (hp.objs.size + 1) C none) (h' := (hp.push (PySem.W.kdv_tup us)).push (PySem.HandSPX.excO C hp.objs.size)) kept big (exo_ok got)
  have r2 : Vals [V.ref (hp.objs.size + 1), v] [Value.ref (hp.objs.size + 1), u] := .cons rfl (.cons rv .nil)
  have hsp : spInit C f [V.ref (hp.objs.size + 1), v] (upd H (hp.objs.size + 1) (exo (hp.objs.size + 1) C none)) (fun z H2 => z = .non ∧ Q (.ref (hp.objs.size + 1)) H2) E0 := by
    refine ⟨_, v, rfl, upd_same, fun dx hd hne => ⟨rfl, ?_⟩⟩
    have hd' : H dx = none := by rwa [upd_ne hne] at hd
    have e : upd (upd (upd H (hp.objs.size + 1) (exo (hp.objs.size + 1) C none)) dx (exd dx [(f, v)])) (hp.objs.size + 1) (exo (hp.objs.size + 1) C (some dx)) = upd (upd H dx (exd dx [(f, v)])) (hp.objs.size + 1) (exo (hp.objs.size + 1) C (some dx)) := by
      funext b
      by_cases hb : b = hp.objs.size + 1
      · rw [hb, upd_same, upd_same]
      · rw [upd_ne hb, upd_ne hb]
        by_cases hb2 : b = dx
        · rw [hb2, upd_same, upd_same]
        · rw [upd_ne hb2, upd_ne hb2, upd_ne hb]
    rw [e]
    exact h _ dx nA hd' hne
  refine wpAny_call (PySem.HandSPX.kw_call F.excBase_ValueError (fun Y => PySem.HandSPX.refsVE_contains Y bm hbm) (I.kIn _ _ hC) (PySem.W.looks_findIn I.kIn T.iC) (fun self => PySem.W.bind_fn I.kIn self T.tI) (Nat.le_trans lus (by rw [sizeLine_eq]; decide))
    (codeAny_mono (T.ok.run _ X.stack _ _ ⟨Value.ref (hp.objs.size + 1) :: us, kw⟩ [Value.ref (hp.objs.size + 1), u] _ _ E0 (hr.make C us kw) (I2.env0.make C us kw) (hb _ _) r2 hsp) fun r s' hq' => ?_))
  cases r with
  | error er => exact (show False from hq').elim
  | ok fl =>
    cases fl with
    | ret y =>
      obtain ⟨z, H', I3, rz, ez, q3⟩ := I2.after hq'
      subst ez
      exact ⟨rz, ⟨V.ref (hp.objs.size + 1), H', I3, rfl, q3⟩⟩
    | next => exact False.elim hq'
    | brk => exact False.elim hq'
    | cont => exact False.elim hq'
def mMkX (c f : Str) (m : EM) : EM := fun ρ S => match m ρ S with
  | some (.val d, S1) => some (.val (.exc1 c f d), S1)
  | _ => none
theorem mk_imp {H1 : Hp} {μ : Mu} {S : Sto} {d : D} {v : V} {Q : VK} (T : XCls X.prog X.w X.K X.mg X.base c f C fI fd) (so : StoreOk X.K H1 μ S) (r : Rep X.K H1 μ d v)
    (k : ∀ μ' z H', StoreOk X.K H' μ' S → Step H1 μ H' μ' → RepW X.K H' μ' (.val (.exc1 c f d)) z → Q z H') (a dx : Addr) (ha : H1 a = none) (hd : H1 dx = none) (hne : dx ≠ a) : Q (.ref a) (upd (upd H1 dx (exd dx [(f, v)])) a (exo a C (some dx))) := by
  have s1 : Step H1 μ (upd H1 dx (exd dx [(f, v)])) μ := .alloc hd
  have ha1 : upd H1 dx (exd dx [(f, v)]) a = none := by rw [upd_ne (Ne.symm hne)]; exact ha
  have so1 := so.alloc (o := exd dx [(f, v)]) hd
  have s2 : Step (upd H1 dx (exd dx [(f, v)])) μ (upd (upd H1 dx (exd dx [(f, v)])) a (exo a C (some dx))) μ := .alloc ha1
  refine k μ _ _ (so1.alloc ha1) (s1.trans s2) ?_
  exact .exc1 T.ns upd_same (by rw [upd_ne hne]; exact upd_same) (Rep.step so (s1.trans s2) r)
/-- X(e) -/
theorem me_mkX {e : Expr} {m : EM} {p pos : Pos} (T : XCls X.prog X.w X.K X.mg X.base c f C fI fd) (hr : Room 2 X.A) (h : PE X e (tM X.K m)) (hg : Gl X c := by rfl) (hdb : (c == ("__debug__" : Str)) = false := by decide)
    (hs : starEach [e] X.env = (false, eval e X.env) :: starEach [] X.env := by rfl) (hpl : (backTo pos (starEach [] X.env)).any (·.1) = false := by rfl) : PE X (.Call (.Name c p) [e] [] pos) (tM X.K (mMkX c f m)) := by
  refine ⟨fun pins s σ H Q I q => ?_⟩
  obtain ⟨μ, ρ, S, w, S', ok, e0, k⟩ := q
  unfold mMkX at e0
  split at e0
  · rename_i d S1 e1
    cases e0
    refine wpAny_Call_Name_kw (ld_glob I hg T.g ?_ hdb)
    have ha : PA X [e] (tCons (tM X.K m) tNil) := pa_cons h pa_nil hs
    refine PySem.W.callWith_K (h₀ := X.base) I.ok.mod.kin T.oex.kC (thn (ha.run pos pins s σ H (fun vs H1 => ∃ v, vs = [v] ∧ ∀ a dx, H1 a = none → H1 dx = none → dx ≠ a → Q (.ref a) (upd (upd H1 dx (exd dx [(f, v)])) a (exo a C (some dx)))) I ⟨μ, ρ, S, _, _, ok, e1, fun μ1 v H1 so1 st1 r1 => ?_⟩) fun us s1 ⟨vs, H1, I1, r, q⟩ => ⟨I1.kIn, ?_⟩) hs hpl
    · exact ⟨v, rfl, mk_imp T so1 r1 fun μ2 z H2 so2 st2 r2 => k μ2 z H2 so2 (st1.trans st2) r2⟩
    · obtain ⟨v, rfl, q⟩ := q
      cases r with
      | cons rv rn =>
        cases rn
        exact run_mkX T hr I1 rv (Nat.le_refl _) (fun s a => T.b1 s a _) q
  · cases e0
/-- X(f = e) -/
theorem me_mkXk {e : Expr} {m : EM} {p pos kpos : Pos} (T : XCls X.prog X.w X.K X.mg X.base c f C fI fd) (hr : Room 2 X.A) (h : PE X e (tM X.K m)) (hg : Gl X c := by rfl) (hdb : (c == ("__debug__" : Str)) = false := by decide)
    (hall : (backToKw pos (keywordEach [{ arg := some f, value := e, pos := kpos }] X.env)).all (·.1.isSome) = true := by rfl) (hks : (backToKw pos (keywordEach [{ arg := some f, value := e, pos := kpos }] X.env)).filterMap (·.1) = [f] := by rfl)
    (hpl : ((backTo pos (starEach [] X.env)).any (·.1) || (backToKw pos (keywordEach [{ arg := some f, value := e, pos := kpos }] X.env)).any (·.1.isNone)) = false := by rfl) : PE X (.Call (.Name c p) [] [{ arg := some f, value := e, pos := kpos }] pos) (tM X.K (mMkX c f m)) := by
  refine ⟨fun pins s σ H Q I q => ?_⟩
  obtain ⟨μ, ρ, S, w, S', ok, e0, k⟩ := q
  unfold mMkX at e0
  split at e0
  · rename_i d S1 e1
    cases e0
    refine wpAny_Call_Name_kw (ld_glob I hg T.g ?_ hdb)
    have ha : PK X [{ arg := some f, value := e, pos := kpos }] (tCons (tM X.K m) tNil) := pk_cons h pk_nil
    refine PySem.W.callWith_KW0 (h₀ := X.base) I.ok.mod.kin T.oex.kC hall (thn (ha.run pos pins s σ H (fun vs H1 => ∃ v, vs = [v] ∧ ∀ a dx, H1 a = none → H1 dx = none → dx ≠ a → Q (.ref a) (upd (upd H1 dx (exd dx [(f, v)])) a (exo a C (some dx)))) I ⟨μ, ρ, S, _, _, ok, e1, fun μ1 v H1 so1 st1 r1 => ?_⟩) fun us s1 ⟨vs, H1, I1, r, q⟩ => ⟨I1.kIn, ?_⟩) hpl
    · exact ⟨v, rfl, mk_imp T so1 r1 fun μ2 z H2 so2 st2 r2 => k μ2 z H2 so2 (st1.trans st2) r2⟩
    · obtain ⟨v, rfl, q⟩ := q
      cases r with
      | cons rv rn =>
        cases rn
        rw [hks]
        exact run_mkX T hr I1 rv (Nat.zero_le _) (fun s a => T.b2 s a _) q
  · cases e0
/-- e.f of an error -/
def mFldX (f : Str) (m : EM) : EM := fun ρ S => match m ρ S with
  | some (.val (.exc1 c g d), S1) => if g = f then some (.val d, S1) else none
  | _ => none
theorem me_fldX {e : Expr} {m : EM} {f : Str} {pos : Pos} (h : PE X e (tM X.K m))
    (hall : ∀ ρ S c g d S1, m ρ S = some (.val (.exc1 c g d), S1) → g = f → ∀ C, PySem.W.nsIn X.K mainGlobals c = some (some (.ref C)) → ExcC X.K C ∧ PySem.W.findIn X.K (.ref C) f = some none) (hb : attributeBase e f X.env (eval e X.env) = eval e X.env := by rfl) :
    PE X (.Attribute e f pos) (tM X.K (mFldX f m)) := by
  refine ⟨fun pins s σ H Q I q => ?_⟩
  obtain ⟨μ, ρ, S, w, S', ok, e0, k⟩ := q
  unfold mFldX at e0
  split at e0
  · rename_i c g d S1 e1
    split at e0
    · rename_i hg
      cases e0
      subst hg
      refine attr_of hb (thn (h.run pins s σ H (fun x H1 => ∃ a C dx v, x = .ref a ∧ PySem.W.nsIn X.K mainGlobals c = some (some (.ref C)) ∧ H1 a = some (exo a C (some dx)) ∧ H1 dx = some (exd dx [(g, v)]) ∧ Q v H1) I ⟨μ, ρ, S, _, _, ok, e1, fun μ1 v H1 so1 st1 r1 => ?_⟩) fun u s1 hh => ?_)
      · cases (show Rep X.K H1 μ1 (.exc1 c g d) v from r1) with
        | exc1 n q x r => exact ⟨_, _, _, _, rfl, n, q, x, k μ1 _ H1 so1 st1 r⟩
      · obtain ⟨x, H1, I1, rx, a, C, dx, v, rfl, n, ea, ed, q⟩ := hh
        obtain rfl : u = Value.ref a := rx
        obtain ⟨hx, hno⟩ := hall ρ S c g d _ e1 rfl C n
        obtain ⟨t1, ho⟩ := exo_at I1.hok ea
        obtain ⟨mA, hns, hr⟩ := exd_at I1.hok ed
        obtain ⟨od, ho2, hl⟩ := lookIn_ns hns
        have l : List.lookup g [(g, v)] = some v := by simp [List.lookup]
        obtain ⟨y, hy, ry⟩ := RelO.some_of (v := v) (o := mA g) (by rw [← l]; exact hr g)
        have J : PySem.W.InstAt s1.heap a { cls := .ref C, dict := some dx, data := .fields #[.ref t1, .none, .none, .none, .bool false, .none] } C (some od) := ⟨ho, rfl, rfl, ho2⟩
        exact HandSPX.exc_get I1.kIn J hx.hg hx.hk hx.hs (PySem.W.findObj_own hx.hd hno rfl (by rw [hl, hy])) (handed_of ry) ⟨v, H1, I1.tok _, ry, q⟩
    · cases e0
  · cases e0
/-- X() of a class of errors without an __init__ of its own -/
def mMk0 (c : Str) : EM := fun _ S => some (.val (.exc0 c), S)
theorem me_mk0 {c : Str} {C : Addr} {bmB : List Value} {B newId initId : String} {p pos : Pos} (F : ExcBaseFacts B newId initId bmB) (q : PySem.W.excIn X.K C bmB newId = true) (ns : PySem.W.nsIn X.K mainGlobals c = some (some (.ref C))) (gC : X.mg c = some (.ref C)) (kC : PySem.W.keepIn X.K (.ref C) = true)
    (hg : Gl X c := by rfl) (hdb : (c == ("__debug__" : Str)) = false := by decide) : PE X (.Call (.Name c p) [] [] pos) (tM X.K (mMk0 c)) := by
  refine ⟨fun pins s σ H Q I h => ?_⟩
  obtain ⟨μ, ρ, S, w, S', ok, e0, k⟩ := h
  cases e0
  refine wpAny_Call_Name_kw (ld_glob I hg gC ?_ hdb)
  refine PySem.W.callWith_K0 I.kIn kC ?_
  show wpAny _ _ (call (.ref C) []) _ _ _
  obtain ⟨bm, N, nm, qn, bs, hdct, sn, sub, ab, col, dd, k0, k1, k2, k3, k5, mN, hC, hN, hni, T⟩ := exc_obj I.kIn q
  refine wpAny_call_exc_subT F T hC hN hni (fun h' a hm => ?_) (by show 0 ≤ sizeLine; omega)
  have hn : H a = none := I.hok.gone hm.new
  obtain ⟨t, ht, _, _⟩ := hm.there
  exact ⟨.ref a, upd H a (exo a C none), I.laidN hm.keeps hm.new hn (exo_ok ht), rfl, k μ _ _ (ok.so.alloc hn) (.alloc hn) (.exc0 ns upd_same)⟩
end
end HM

set_option Elab.async false
set_option linter.all false
set_option maxRecDepth 100000
set_option autoImplicit false
set_option maxHeartbeats 4000000
namespace HM
open PySem PySem.Spec L2
open PyProof.Rows hiding St
/-! ### repr of what may be a dict -/
def encK : Key → PyData
  | .inl i => .int i
  | .inr x => .str x
theorem encK_reads {P : Program} {w : World} {h : Heap} : ∀ (k : Key) (key : Value), (mixKind P w).is k key = true → Reads h key (encK k) [] := fun k key e => by
  rcases keyIs_shape e with ⟨i, t, rfl, rfl⟩ | ⟨x, t, rfl, rfl⟩
  · exact Reads.int i t
  · exact Reads.str x t
theorem ints_pairs {h : Heap} : ∀ (ks : List Str) (ns : List Int) (vs : List (Key × Value)), KV ((ks.map (Sum.inr : Str → Key)).zip (ns.map V.int)) vs → ks.length = ns.length → PyProof.V.PairsRead h encK vs ((ks.map PyData.str).zip (ns.map PyData.int)) []
  | [], [], _, r, _ => by cases r; exact .nil
  | [], _ :: _, _, _, l => by simp at l
  | _ :: _, [], _, _, l => by simp at l
  | k :: ks, n :: ns, _, r, l => by
    cases r with
    | @cons p q _ vs' r rr =>
      obtain ⟨k', v'⟩ := q
      obtain ⟨e1, e2⟩ := r
      have e1' : (Sum.inr k : Key) = k' := e1
      subst e1'
      obtain ⟨t, e2'⟩ := (show RelV (.int n) v' from e2)
      subst e2'
      have ih := ints_pairs (h := h) ks ns vs' rr (by simpa using l)
      exact PyProof.V.PairsRead.cons (bs := []) (Reads.int n t) ih
theorem pyAll_ints : ∀ {ds : List D} {ns : List Int}, ints? ds = some ns → pyAll ds = ns.map PyData.int
  | [], _, e => by cases e; rfl
  | .int i :: r, _, e => by
    unfold ints? at e
    cases q : ints? r with
    | none => rw [q] at e; cases e
    | some ns =>
      rw [q] at e
      cases e
      unfold pyAll
      rw [pyAll_ints q]
      unfold D.py
      rfl
  | .non :: _, _, e => by cases e
  | .bl _ :: _, _, e => by cases e
  | .str _ :: _, _, e => by cases e
  | .tup _ :: _, _, e => by cases e
  | .fl _ :: _, _, e => by cases e
  | .scr _ :: _, _, e => by cases e
  | .dct _ _ :: _, _, e => by cases e
  | .exc0 _ :: _, _, e => by cases e
  | .exc1 _ _ _ :: _, _, e => by cases e
theorem flatDepthKv : ∀ (ks : List Str) (ns : List Int), PyData.depthKv ((ks.map PyData.str).zip (ns.map PyData.int)) ≤ 2
  | [], _ => by simp [PyData.depthKv]
  | _ :: _, [] => by simp [PyData.depthKv]
  | k :: ks, n :: ns => by
    have ih := flatDepthKv ks ns
    simp only [List.map_cons, List.zip_cons_cons, PyData.depthKv, PyData.depth]
    omega
theorem flatDepth (ks : List Str) (ns : List Int) : (PyData.dict ((ks.map PyData.str).zip (ns.map PyData.int))).depth ≤ 3 := by
  have := flatDepthKv ks ns
  unfold PyData.depth
  omega
/-- data that repr shows: plain, or a dict of ints -/
def D.shows : D → Bool
  | .dct _ ds => (ints? ds).isSome
  | d => d.plain && SeqAt.shaped d.py
theorem shows_or {d : D} (n : ∀ ks ds, d ≠ .dct ks ds) (h : d.shows = true) : d.plain = true ∧ SeqAt.shaped d.py = true := by
  unfold D.shows at h
  split at h
  · exact absurd rfl (n _ _)
  · exact Bool.and_eq_true_iff.mp h
def RepD (K : PySem.W.Frag) (H : Hp) (v : V) (d : D) : Prop := ∃ μ, Rep K H μ d v
def rReprD (K : PySem.W.Frag) : List V → Hp → VK → Prop := fun vs H Q => ∃ v d, vs = [v] ∧ RepD K H v d ∧ d.shows = true ∧ d.py.showable = true ∧ d.py.shown.length ≤ sizeLine ∧ Q (.str d.py.shown) H
section
variable {X : Cx}
theorem call_reprD (hg : X.A.guards = some []) (hu : X.A.units + 66 < cLine) : CallR X (.builtin "repr") (rReprD X.K) := by
  intro pins s σ H xs us Q I r h
  obtain ⟨v, d, rfl, ⟨μ, hd⟩, h1, h2, h3, q⟩ := h
  cases r with
  | cons r rr =>
    cases rr
    have key : ∀ d' : D, d' = d → d'.plain = true → SeqAt.shaped d'.py = true → wpAny (model X.prog X.w) X.A (call (.builtin "repr") [_]) (EP X pins σ Q) X.xe s := fun d' e hp hs => by
      subst e
      obtain ⟨as, rd⟩ := Dp.reads I d'.py v _ (Rep.dp hp hd) r
      exact repr_any rd h2 hs h3 hg hu fun h' u tk k => ⟨.str d'.py.shown, H, I.kept k, ⟨u, rfl⟩, q⟩
    cases d with
    | dct ks ds =>
      have h1' : (ints? ds).isSome = true := h1
      cases hd with
      | @dct a _ vs _ ha hl hr =>
        obtain rfl := (show _ = Value.ref a from r)
        cases z : ints? ds with
        | none => rw [z] at h1'; cases h1'
        | some ns =>
          have ev := ints?_ok z hr
          subst ev
          obtain ⟨_, hsm, vs', kv, hdo⟩ := (show ObjOk X.prog X.w H s.heap a (.dK _) from I.hok a _ ha)
          have lk : ks.length = ns.length := by rw [hl, List.length_map]
          have rd : Reads s.heap (.ref a) (D.dct ks ds).py [a] := by
            have e : (D.dct ks ds).py = .dict ((ks.map PyData.str).zip (ns.map PyData.int)) := by unfold D.py; rw [pyAll_ints z]
            rw [e]
            exact PyProof.V.reads_dictOf (fun k key e => encK_reads k key e) hdo (ints_pairs ks ns vs' kv lk)
          have dep : (D.dct ks ds).py.depth ≤ 64 := by
            have e : (D.dct ks ds).py = .dict ((ks.map PyData.str).zip (ns.map PyData.int)) := by unfold D.py; rw [pyAll_ints z]
            rw [e]
            exact Nat.le_trans (flatDepth ks ns) (by decide)
          exact repr_of_reads' rd h2 (fun _ hm => by
            have e : sysModules = a := by simpa using hm
            rw [← e] at hsm
            simp at hsm) hg (by omega) (fun _ _ e => e) (fun h' u tk k => ⟨.str _, H, I.kept k, ⟨u, rfl⟩, q⟩) h3
    | exc0 c => cases h1
    | exc1 c f e => cases h1
    | non => exact key _ rfl (shows_or (fun _ _ z => by cases z) h1).1 (shows_or (fun _ _ z => by cases z) h1).2
    | bl b => exact key _ rfl (shows_or (fun _ _ z => by cases z) h1).1 (shows_or (fun _ _ z => by cases z) h1).2
    | int i => exact key _ rfl (shows_or (fun _ _ z => by cases z) h1).1 (shows_or (fun _ _ z => by cases z) h1).2
    | str x => exact key _ rfl (shows_or (fun _ _ z => by cases z) h1).1 (shows_or (fun _ _ z => by cases z) h1).2
    | tup ds => exact key _ rfl (shows_or (fun _ _ z => by cases z) h1).1 (shows_or (fun _ _ z => by cases z) h1).2
    | fl ds => exact key _ rfl (shows_or (fun _ _ z => by cases z) h1).1 (shows_or (fun _ _ z => by cases z) h1).2
    | scr ns => exact key _ rfl (shows_or (fun _ _ z => by cases z) h1).1 (shows_or (fun _ _ z => by cases z) h1).2
end
def fReprD : FN := fun ws S => match ws with
  | [.val d] => if d.shows && d.py.showable && decide (d.py.shown.length ≤ sizeLine) then some (.val (.str d.py.shown), S) else none
  | _ => none
theorem opN_reprD {K : PySem.W.Frag} : OpN K (rReprD K) fReprD := by
  intro μ S H ws vs w S' Q so r e k
  unfold fReprD at e
  split at e
  · rename_i d
    obtain ⟨v, rfl, rv⟩ := r.one
    split at e
    · rename_i h
      rw [Bool.and_eq_true, Bool.and_eq_true] at h
      cases e
      exact ⟨v, d, rfl, ⟨μ, rv⟩, h.1.1, h.1.2, of_decide_eq_true h.2, k μ _ H so .refl (.str _)⟩
    · cases e
  · cases e
end HM

set_option Elab.async false
set_option linter.all false
set_option maxRecDepth 100000
set_option autoImplicit false
set_option maxHeartbeats 4000000
namespace HM
open PySem PySem.Spec L2
open PyProof.Rows hiding St
/-- where a class stands -/
def clsAt (K : PySem.W.Frag) (c : Str) : Option Addr := match PySem.W.nsIn K mainGlobals c with
  | some (some (.ref C)) => some C
  | _ => none
theorem clsAt_ns {K : PySem.W.Frag} {c : Str} {C : Addr} (h : clsAt K c = some C) : PySem.W.nsIn K mainGlobals c = some (some (.ref C)) := by
  unfold clsAt at h
  split at h
  · rename_i e; cases h; exact e
  · cases h
theorem ns_clsAt {K : PySem.W.Frag} {c : Str} {C : Addr} (h : PySem.W.nsIn K mainGlobals c = some (some (.ref C))) : clsAt K c = some C := by
  unfold clsAt
  rw [h]
def excB (K : PySem.W.Frag) (C : Addr) : Bool :=
  (PySem.W.findIn K (.ref C) "__getattribute__" == some (some (.builtin "BaseException.__getattribute__"))) && ((PySem.W.findIn K (.ref C) "__getattr__" == some none) && ((PySem.W.subIn K (.ref C) (.type "BaseException") == some true) &&
  (PySem.W.hasDictIn K C && ((PySem.W.findIn K (.ref C) "__class__" == some (some (.builtin "object.__class__"))) && ((PySem.W.specialIn K (.builtin "object.__class__") "__get__" == some (some (.builtin "getset_descriptor.__get__"))) &&
  ((PySem.W.takesIn K (.builtin "object.__class__") == some true) && (PySem.W.mroIn K C (.type "object") == some true)))))))
theorem excB_ok {K : PySem.W.Frag} {C : Addr} (h : excB K C = true) : ExcC K C := by
  unfold excB at h
  simp only [Bool.and_eq_true, beq_iff_eq] at h
  obtain ⟨h1, h2, h3, h4, h5, h6, h7, h8⟩ := h
  exact ⟨h1, h2, h3, h4, h5, h6, h7, h8⟩
def shapeB (C : Addr) : Option Obj → Bool
  | some ⟨.type t, _, .cls cd, sl⟩ => match cd.mro, sl.toList with
    | .ref C' :: bm, [_, _, _, _, some (.builtin n), _] => t == "type" && (C' == C && (n == "ValueError.__new__" && (cd.hasDict && (!cd.hasDel && HandSPX.refsVE bm))))
    | _, _ => false
  | _ => false
theorem shapeB_ok {K : PySem.W.Frag} {C : Addr} (h : shapeB C (K.lookup C) = true) : ∃ nm q N bs bm sn sub ab col dd k0 k1 k2 k3 k5,
      List.lookup C K = some (excClassObj nm q C N bs bm true sn sub ab col dd k0 k1 k2 k3 k5 "ValueError.__new__") ∧ HandSPX.refsVE bm = true := by
  generalize List.lookup C K = o at h
  unfold shapeB at h
  split at h
  · rename_i t dd cd sl
    split at h
    · rename_i C' bm s0 s1 s2 s3 n s5 e1 e2
      simp only [Bool.and_eq_true, beq_iff_eq] at h
      obtain ⟨rfl, rfl, rfl, h4, h6, h5⟩ := h
      have e3 : sl = #[s0, s1, s2, s3, some (.builtin "ValueError.__new__"), s5] := by
        rw [← Array.toArray_toList (xs := sl), e2]
      obtain ⟨nm, bs, mro, N, q, hd, sn, sub, ab, col, hdel⟩ := cd
      cases e1
      cases h4
      subst e3
      have e4 : hdel = false := by simpa using h6
      subst e4
      exact ⟨nm, q, N, bs, bm, sn, sub, ab, col, dd, s0, s1, s2, s3, s5, rfl, h5⟩
    · cases h
  · cases h
def oexB (K : PySem.W.Frag) (C : Addr) : Bool :=
  shapeB C (K.lookup C) && ((PySem.W.findIn K (.ref C) "__setattr__" == some (some (.builtin "object.__setattr__"))) && ((PySem.W.subIn K (.ref C) (.type "BaseException") == some true) && ((PySem.W.typeIn K (.ref C) == some (.type "type")) && PySem.W.keepIn K (.ref C))))
theorem oexB_ok {K : PySem.W.Frag} {C : Addr} (h : oexB K C = true) : OexC K C := by
  unfold oexB at h
  simp only [Bool.and_eq_true, beq_iff_eq] at h
  obtain ⟨h1, h2, h3, h4, h5⟩ := h
  exact ⟨shapeB_ok h1, h2, h3, h4, h5⟩
/-- an own class: an error; of all classes and built-in ones told what it is under -/
def clsB (K : PySem.W.Frag) (all : List (Str × List Str)) (ups dns : List String) (fs : List Str) (p : Str × List Str) : Bool := match clsAt K p.1 with
  | some C => excB K C && (all.all (fun q => match clsAt K q.1 with
      | some T => PySem.W.kitOne K (.ref C) (.ref T) == some (p.2.contains q.1)
      | none => false) && (ups.all (fun t => PySem.W.kitOne K (.ref C) (.type t) == some true) && (dns.all (fun t => PySem.W.kitOne K (.ref C) (.type t) == some false) && fs.all (fun f => PySem.W.findIn K (.ref C) f == some none))))
  | none => false
def initB (K : PySem.W.Frag) (c : Str) : Bool := match clsAt K c with
  | some C => oexB K C && ((PySem.W.findIn K (.ref C) "__init__" == some (some (.ref (He.fAd K (c, some "__init__"))))) && (PySem.W.typeIn K (.ref (He.fAd K (c, some "__init__"))) == some (.type "function")))
  | none => false
def bareB (K : PySem.W.Frag) (bmB : List Value) (c : Str) : Bool := match clsAt K c with
  | some C => PySem.W.excIn K C bmB "ValueError.__new__" && PySem.W.keepIn K (.ref C)
  | none => false
end HM

set_option Elab.async false
set_option linter.all false
set_option maxRecDepth 100000
set_option autoImplicit false
set_option maxHeartbeats 4000000
namespace HM
open PySem PySem.Spec L2
open PyProof.Rows hiding St
theorem fun_of_D {K : PySem.W.Frag} {x q : Str} {st : Stmt} {f : Addr} {fd : FuncData} {kws : List (Str × V)} (F : FunD K x q (defArgs st) (defBody st) (defScope st) [] kws f fd) : Fun K x q st f fd := by
  obtain ⟨oc, od, dV, kV, doc, pm, an, cdv, ct, osl, h1, h2, h3, h4, h5⟩ := F.ex
  rcases h4 with ⟨_, rfl⟩ | ⟨h, _⟩
  · exact ⟨⟨oc, od, kV, doc, pm, an, cdv, ct, osl, h1, h2, h3⟩, F.kp⟩
  · exact absurd rfl h
section
variable {P : Program} {w : World} {K : PySem.W.Frag} {mg : Str → Option Value} {base : Heap}
theorem xcls_mk {c f q : Str} {st : Stmt} {fa C : Addr} {fd : FuncData} (ns : clsAt K c = some C) (g : mg c = some (.ref C)) (oex : OexC K C) (exc : ExcC K C) (iC : PySem.W.findIn K (.ref C) "__init__" = some (some (.ref fa))) (tI : PySem.W.typeIn K (.ref fa) = some (.type "function"))
    (no : PySem.W.findIn K (.ref C) f = some none) (F : Fun K "__init__" q st fa fd) (S : FnScope ["self", f] ["self", f] (defScope st))
    (hbody : ∀ (cdv : Value) (A : Around) (outer : List Env) (s : Shared) (H : Hp) (E : XK), PSs (cxOf CX0 P w K mg base ["self", f] q (defScope st) fa cdv A outer s H E).nox (defBody st) (tOst K f (tVar 0) (tVar 1)))
    (b1 : ∀ (kV doc pm : Value) (an : Option Addr) (cdv ct : Value) (a u : Value), bindArgs (PySem.W.fnOf "__init__" q (defArgs st) (defBody st) (defScope st) .none kV doc pm an cdv ct) ⟨[a, u], []⟩ = pure [(("self" : Str), a), ((f : Str), u)])
    (b2 : ∀ (kV doc pm : Value) (an : Option Addr) (cdv ct : Value) (a u : Value), bindArgs (PySem.W.fnOf "__init__" q (defArgs st) (defBody st) (defScope st) .none kV doc pm an cdv ct) ⟨[a], [((f : Str), u)]⟩ = pure [(("self" : Str), a), ((f : Str), u)]) :
    XCls P w K mg base c f C fa fd := by
  refine ⟨clsAt_ns ns, g, oex, exc, iC, tI, no, ?_, ?_, ?_⟩
  · refine F.ok S (fun vs H Q E h => ?_) (fun cdv A outer s H vs Q E hr h => ⟨_, hbody cdv A outer s H E, ?_⟩)
    · obtain ⟨a, v, rfl, _⟩ := h; rfl
    · obtain ⟨a, v, rfl, ha, k⟩ := h
      exact ⟨v, rfl, .ref a, rfl, a, C, rfl, oex, no, .inl ⟨ha, fun dx h1 h2 => k dx h1 h2⟩⟩
  · obtain ⟨oc, od, kV, doc, pm, an, cdv, ct, osl, rfl, _, _⟩ := F.ex
    exact fun s a u => .of_eq (b1 _ _ _ _ _ _ _ _)
  · obtain ⟨oc, od, kV, doc, pm, an, cdv, ct, osl, rfl, _, _⟩ := F.ex
    exact fun s a u => .of_eq (b2 _ _ _ _ _ _ _ _)
end
/-! ### what an own error is under -/
abbrev Fm : Type := List (Str × List Str)
structure Fam (K : PySem.W.Frag) (fm : Fm) (ups dns : List String) (fs : List Str) : Prop where
  all : fm.all (clsB K fm ups dns fs) = true
def ansO (fm : Fm) (t : Str) : Str → Option Bool := fun c => (fm.lookup c).map fun l => l.contains t
def ansB (fm : Fm) (b : Bool) : Str → Option Bool := fun c => (fm.lookup c).map fun _ => b
theorem lookup_mem {α : Type} : ∀ {fm : List (Str × α)} {c : Str} {l : α}, fm.lookup c = some l → (c, l) ∈ fm
  | (a, b) :: r, c, l, h => by
    rw [List.lookup_cons] at h
    split at h
    · rename_i e
      cases h
      rw [eq_of_beq e]
      exact List.mem_cons_self
    · exact List.mem_cons_of_mem _ (lookup_mem h)
theorem Fam.one {K : PySem.W.Frag} {fm : Fm} {ups dns : List String} {fs : List Str} (F : Fam K fm ups dns fs) {c : Str} {l : List Str} {C : Addr} (h : fm.lookup c = some l) (hC : clsAt K c = some C) :
    ExcC K C ∧ (∀ t T, (fm.lookup t).isSome = true → clsAt K t = some T → PySem.W.kitOne K (.ref C) (.ref T) = some (l.contains t)) ∧ (∀ t ∈ ups, PySem.W.kitOne K (.ref C) (.type t) = some true) ∧ (∀ t ∈ dns, PySem.W.kitOne K (.ref C) (.type t) = some false) ∧ (∀ f ∈ fs, PySem.W.findIn K (.ref C) f = some none) := by
  have h0 := List.all_eq_true.mp F.all _ (lookup_mem h)
  unfold clsB at h0
  rw [hC] at h0
  simp only [Bool.and_eq_true, List.all_eq_true, beq_iff_eq] at h0
  obtain ⟨h1, h2, h3, h4, h5⟩ := h0
  refine ⟨excB_ok h1, fun t T ht hT => ?_, h3, h4, h5⟩
  obtain ⟨l', hl'⟩ := Option.isSome_iff_exists.mp ht
  have h6 := h2 _ (lookup_mem hl')
  rw [hT] at h6
  exact eq_of_beq h6
theorem Fam.at {K : PySem.W.Frag} {fm : Fm} {ups dns : List String} {fs : List Str} (F : Fam K fm ups dns fs) {c : Str} {l : List Str} (h : fm.lookup c = some l) : ∃ C, clsAt K c = some C := by
  have h0 := List.all_eq_true.mp F.all _ (lookup_mem h)
  unfold clsB at h0
  split at h0
  · exact ⟨_, by assumption⟩
  · cases h0
section
variable {X : Cx} {e : Expr} {m : EM} {p p2 pos : Pos} {fm : Fm} {ups dns : List String} {fs : List Str}
theorem me_isO {t : Str} {T : Addr} (F : Fam X.K fm ups dns fs) (gt : X.mg t = some (.ref T)) (cT : clsAt X.K t = some T) (hmem : (fm.lookup t).isSome = true) (hgl : Gl X t) (hm : X.mg "isinstance" = none) (h : PE X e (tM X.K m)) (hdb : (t == ("__debug__" : Str)) = false := by decide) (hg : Gl X "isinstance" := by rfl)
    (hs : starEach [e, .Name t p2] X.env = (false, eval e X.env) :: starEach [.Name t p2] X.env := by rfl) (hs2 : starEach [.Name t p2] X.env = (false, eval (.Name t p2) X.env) :: starEach [] X.env := by rfl) (hpl : (backTo pos (starEach [.Name t p2] X.env)).any (·.1) = false := by rfl) :
    PE X (.Call (.Name "isinstance" p) [e, .Name t p2] [] pos) (tM X.K (mIsX (ansO fm t) m)) := by
  refine me_isX (pe_glob (v := V.ref T) hgl gt rfl hdb) (.own T) (fun cn b C hb hC => ?_) hm h hg (by first | rfl | decide +kernel) hs hs2 hpl
  unfold ansO at hb
  cases q : fm.lookup cn with
  | none => rw [q] at hb; cases hb
  | some l =>
    rw [q] at hb
    cases hb
    obtain ⟨a1, a2, _⟩ := F.one q (ns_clsAt hC)
    exact ⟨a1, a2 t T hmem cT⟩
theorem me_isB {t : Str} {T : String} {b : Bool} (F : Fam X.K fm ups dns fs) (hin : (if b then ups else dns).contains T = true) (hm2 : X.mg t = none) (hv : bootBuiltins t = some (.type T)) (hg2 : Gl X t) (hm : X.mg "isinstance" = none) (h : PE X e (tM X.K m))
    (hn : t ≠ "__name__" := by decide) (hdb : (t == ("__debug__" : Str)) = false := by decide) (hg : Gl X "isinstance" := by rfl)
    (hs : starEach [e, .Name t p2] X.env = (false, eval e X.env) :: starEach [.Name t p2] X.env := by rfl) (hs2 : starEach [.Name t p2] X.env = (false, eval (.Name t p2) X.env) :: starEach [] X.env := by rfl) (hpl : (backTo pos (starEach [.Name t p2] X.env)).any (·.1) = false := by rfl) :
    PE X (.Call (.Name "isinstance" p) [e, .Name t p2] [] pos) (tM X.K (mIsX (ansB fm b) m)) := by
  refine me_isX (pe_bltn (v := V.ty T) hg2 hm2 hv rfl hn hdb) (.ty T) (fun cn b' C hb hC => ?_) hm h hg (by first | rfl | decide +kernel) hs hs2 hpl
  unfold ansB at hb
  cases q : fm.lookup cn with
  | none => rw [q] at hb; cases hb
  | some l =>
    rw [q] at hb
    cases hb
    obtain ⟨a1, _, a3, a4, _⟩ := F.one q (ns_clsAt hC)
    refine ⟨a1, ?_⟩
    have hin' := List.contains_iff_mem.mp hin
    cases b with
    | true => exact a3 T hin'
    | false => exact a4 T hin'
/-- e.f of an own error -/
def mFldF (fm : Fm) (f : Str) (m : EM) : EM := fun ρ S => match m ρ S with
  | some (.val (.exc1 c g d), S1) => if g = f then (if (fm.lookup c).isSome = true then some (.val d, S1) else none) else none
  | _ => none
def mGate (fm : Fm) (f : Str) (m : EM) : EM := fun ρ S => match m ρ S with
  | some (.val (.exc1 c g d), S1) => if g = f ∧ (fm.lookup c).isSome = true then some (.val (.exc1 c g d), S1) else none
  | _ => none
theorem mGate_ok {f : Str} {ρ : Rho} {S S' : Sto} {w : W} (h : mGate fm f m ρ S = some (w, S')) : ∃ c d, w = .val (.exc1 c f d) ∧ (fm.lookup c).isSome = true ∧ m ρ S = some (w, S') := by
  unfold mGate at h
  split at h
  · rename_i c g d S1 e1
    split at h
    · rename_i hh
      obtain ⟨rfl, h2⟩ := hh
      cases h
      exact ⟨c, d, rfl, h2, e1⟩
    · cases h
  · cases h
theorem me_fldF {f : Str} (F : Fam X.K fm ups dns fs) (hf : fs.contains f = true) (h : PE X e (tM X.K m)) (hb : attributeBase e f X.env (eval e X.env) = eval e X.env := by rfl) : PE X (.Attribute e f pos) (tM X.K (mFldF fm f m)) := by
  have hg : PE X e (tM X.K (mGate fm f m)) := PE.imp h fun σ H Q q => by
      obtain ⟨μ, ρ, S, w, S', ok, e0, k⟩ := q
      obtain ⟨c, d, _, _, e1⟩ := mGate_ok e0
      exact ⟨μ, ρ, S, w, S', ok, e1, k⟩
  refine PE.imp (me_fldX (f := f) hg (fun ρ S c g d S1 e0 hgf C hC => ?_) hb) fun σ H Q q => ?_
  · obtain ⟨c', d', hw, hs, _⟩ := mGate_ok e0
    cases hw
    obtain ⟨l, hl⟩ := Option.isSome_iff_exists.mp hs
    obtain ⟨a1, _, _, _, a5⟩ := F.one hl (ns_clsAt hC)
    exact ⟨a1, a5 f (List.contains_iff_mem.mp hf)⟩
  · obtain ⟨μ, ρ, S, w, S', ok, e0, k⟩ := q
    refine ⟨μ, ρ, S, w, S', ok, ?_, k⟩
    unfold mFldF at e0
    unfold mFldX
    split at e0
    · rename_i c g d S1 e1
      split at e0
      · rename_i e2
        split at e0
        · rename_i e3
          cases e0
          have e4 : mGate fm f m ρ S = some (.val (.exc1 c g d), S') := by
            unfold mGate
            rw [e1]
            exact if_pos ⟨e2, e3⟩
          rw [e4]
          exact if_pos e2
        · cases e0
      · cases e0
    · cases e0
/-! ### dict displays -/
theorem me_dct0 : PE X (.Dict [] [] pos) (tM X.K (mC (.dct [] []))) := PE.imp pe_dnewK fun σ H Q q => by
  obtain ⟨μ, ρ, S, w, S', ok, e0, k⟩ := q
  cases e0
  intro a ha
  exact k μ _ _ (ok.so.alloc ha) (.alloc ha) (.dct (ks := []) (vs := []) upd_same rfl .nil)
theorem me_dct1 {k1 v1 : Expr} {x : Str} {i : Int} (hk : PE X k1 (tC (.str x))) (hv : PE X v1 (tC (.int i))) : PE X (.Dict [some k1] [v1] pos) (tM X.K (mC (.dct [x] [.int i]))) := PE.imp (pe_disp (pps_cons hk hv pps_nil) rfl rfl (by simp) (by simp)) fun σ H Q q => by
  obtain ⟨μ, ρ, S, w, S', ok, e0, k⟩ := q
  cases e0
  intro a ha
  refine ⟨upd_same, [(.inr x, .int i)], rfl, by simp, ?_⟩
  have e : upd (upd H a (.dK [])) a (.dK (mergeK [] [(.inr x, .int i)])) = upd H a (.dK [(.inr x, .int i)]) := by
    funext b
    by_cases hb : b = a
    · rw [hb, upd_same, upd_same]; rfl
    · rw [upd_ne hb, upd_ne hb, upd_ne hb]
  rw [e]
  exact k μ _ _ (ok.so.alloc ha) (.alloc ha) (.dct (ks := [x]) (vs := [.int i]) upd_same rfl (.cons (.int i) .nil))
end
end HM

set_option Elab.async false
set_option linter.all false
set_option maxRecDepth 100000
set_option autoImplicit false
set_option maxHeartbeats 4000000
namespace HM
open PySem PySem.Spec L2
open PyProof.Rows hiding St
/-! ### quotients by any number but 0 -/
def cDivF (i j : Int) : Bool := decide (j ≠ 0) && !Builtin.divisionGoesByPylong i j
def fDivF : F2 := fI cDivF Int.fdiv
section
variable {X : Cx} {a b : Expr} {pos : Pos} {ma mb : EM}
theorem op_fdivF : OpR X (binaryOp .FloorDiv) (rI (fun i j => cDivF i j = true) fun i j => .int (Int.fdiv i j)) := opI fun i j _ _ _ _ _ hc q => by
  unfold cDivF at hc
  rw [Bool.and_eq_true] at hc
  have h1 : j ≠ 0 := of_decide_eq_true hc.1
  exact floordiv_int h1 q (.inl (by simpa using hc.2))
theorem me_divF (ha : PE X a (tM X.K ma)) (hb : PE X b (tM X.K mb)) : PE X (.BinOp a .FloorDiv b pos) (tM X.K (mBin fDivF ma mb)) := me_op op_fdivF (op2_I fun _ _ h => h) ha hb
end
/-! ### fractions: pairs in lowest terms, read as Lean's own Rat -/
def fr (q : Rat) : D := .tup [.int q.num, .int (q.den : Int)]
theorem fr_inj {p q : Rat} (h : fr p = fr q) : p = q := by
  unfold fr at h
  injection h with h1
  injection h1 with h2 h3
  injection h2 with h2
  injection h3 with h3 _
  injection h3 with h3
  exact Rat.ext h2 (by omega)
/-- fewer than k bits -/
def Bits (i : Int) (k : Nat) : Prop := i.natAbs < 2 ^ k
theorem Bits.mono {i : Int} {k l : Nat} (h : Bits i k) (hl : k ≤ l) : Bits i l := Nat.lt_of_lt_of_le h (Nat.pow_le_pow_right (by decide) hl)
theorem Bits.log {i : Int} {k : Nat} (h : Bits i k) : i.natAbs.log2 ≤ k := by
  by_cases h0 : i.natAbs = 0
  · rw [h0]; simp
  · exact Nat.le_of_lt ((Nat.log2_lt h0).mpr h)
theorem Bits.mul {i j : Int} {k l : Nat} (hi : Bits i k) (hj : Bits j l) : Bits (i * j) (k + l) := by
  unfold Bits at *
  rw [Int.natAbs_mul, Nat.pow_add]
  exact Nat.mul_lt_mul'' hi hj
theorem Bits.add {i j : Int} {k : Nat} (hi : Bits i k) (hj : Bits j k) : Bits (i + j) (k + 1) := by
  unfold Bits at *
  have := Int.natAbs_add_le i j
  rw [Nat.pow_succ]
  omega
theorem Bits.neg {i : Int} {k : Nat} (h : Bits i k) : Bits (-i) k := by
  unfold Bits at *
  rwa [Int.natAbs_neg]
theorem Bits.sub {i j : Int} {k : Nat} (hi : Bits i k) (hj : Bits j k) : Bits (i - j) (k + 1) := by
  rw [Int.sub_eq_add_neg]
  exact hi.add hj.neg
theorem cMul_bits {i j : Int} {k l : Nat} (hi : Bits i k) (hj : Bits j l) (h : k + l < 1000000) : cMul i j = true := by
  unfold cMul
  have := hi.log
  have := hj.log
  exact decide_eq_true (by omega)
theorem pylong_bits {i j : Int} {k : Nat} (hj : Bits j k) (h : k < 9000) : Builtin.divisionGoesByPylong i j = false := by
  have := hj.log
  unfold Builtin.divisionGoesByPylong
  simp only [Bool.and_eq_false_iff]
  left
  split
  · decide
  · exact decide_eq_false (by omega)
theorem cDivF_bits {i j : Int} {k : Nat} (h0 : j ≠ 0) (hj : Bits j k) (h : k < 9000) : cDivF i j = true := by
  unfold cDivF
  rw [pylong_bits hj h, decide_eq_true h0]
  rfl
/-- the divisor that brings a pair to lowest terms, with the sign of the lower number -/
def redG (a b : Int) : Int := if b < 0 then -(iGcd a b) else iGcd a b
theorem redG_ne {a b : Int} (h : b ≠ 0) : redG a b ≠ 0 := by
  have : Nat.gcd a.natAbs b.natAbs ≠ 0 := fun z => h (Int.natAbs_eq_zero.mp (Nat.gcd_eq_zero_iff.mp z).2)
  unfold redG iGcd
  split <;> omega
theorem redG_bits {a b : Int} {k : Nat} (h : b ≠ 0) (hb : Bits b k) : Bits (redG a b) k := by
  have h1 : Nat.gcd a.natAbs b.natAbs ≤ b.natAbs := Nat.gcd_le_right _ (Int.natAbs_pos.mpr h)
  unfold Bits redG iGcd at *
  split
  · rw [Int.natAbs_neg, Int.natAbs_natCast]; omega
  · rw [Int.natAbs_natCast]; omega
theorem gcd_eq (a b : Int) : ((b.gcd a : Nat) : Int) = iGcd a b := by unfold iGcd Int.gcd; rw [Nat.gcd_comm]
theorem iGcd_ne {a b : Int} (h : b ≠ 0) : iGcd a b ≠ 0 := by
  have : Nat.gcd a.natAbs b.natAbs ≠ 0 := fun z => h (Int.natAbs_eq_zero.mp (Nat.gcd_eq_zero_iff.mp z).2)
  unfold iGcd; omega
theorem fdiv_of {g c x : Int} (h0 : g ≠ 0) (hc : x = g * c) : Int.fdiv x g = c ∧ Int.fdiv x (-g) = -c := by
  subst hc
  refine ⟨by rw [Int.fdiv_eq_ediv_of_dvd ⟨c, rfl⟩, Int.mul_ediv_cancel_left _ h0], ?_⟩
  rw [Int.fdiv_eq_ediv_of_dvd ⟨-c, by rw [Int.neg_mul_neg]⟩, Int.ediv_neg, Int.mul_ediv_cancel_left _ h0]
theorem red_num {a b : Int} (h : b ≠ 0) : Int.fdiv a (redG a b) = (Rat.divInt a b).num := by
  rw [Rat.num_divInt, gcd_eq]
  have h0 := iGcd_ne (a := a) h
  obtain ⟨c, hc⟩ : iGcd a b ∣ a := by unfold iGcd; exact Int.ofNat_dvd_left.mpr (Nat.gcd_dvd_left _ _)
  obtain ⟨e1, e2⟩ := fdiv_of h0 hc
  have e3 : a / iGcd a b = c := by
    have := Int.mul_ediv_cancel_left c h0
    rwa [← hc] at this
  unfold redG
  by_cases hb : b < 0
  · rw [if_pos hb, e2, Int.sign_eq_neg_one_of_neg hb, Int.neg_one_mul]
    have : -a / iGcd a b = -c := by
      have q : -a = iGcd a b * (-c) := by rw [Int.mul_neg, ← hc]
      rw [q, Int.mul_ediv_cancel_left _ h0]
    exact this.symm
  · rw [if_neg hb, e1, Int.sign_eq_one_of_pos (by omega), Int.one_mul]
    exact e3.symm
theorem red_den {a b : Int} (h : b ≠ 0) : Int.fdiv b (redG a b) = ((Rat.divInt a b).den : Int) := by
  rw [Rat.den_divInt, if_neg h]
  have h0 := iGcd_ne (a := a) h
  obtain ⟨c, hc⟩ : iGcd a b ∣ b := by unfold iGcd; exact Int.ofNat_dvd_left.mpr (Nat.gcd_dvd_right _ _)
  obtain ⟨e1, e2⟩ := fdiv_of h0 hc
  have g0 : 0 < iGcd a b := by unfold iGcd at h0 ⊢; omega
  have e4 : ((b.natAbs / b.gcd a : Nat) : Int) = (b.natAbs : Int) / iGcd a b := by rw [Int.natCast_ediv, gcd_eq]
  rw [e4]
  unfold redG
  by_cases hb : b < 0
  · rw [if_pos hb, e2]
    have q : (b.natAbs : Int) = iGcd a b * (-c) := by rw [Int.mul_neg, ← hc]; omega
    rw [q, Int.mul_ediv_cancel_left _ h0]
  · rw [if_neg hb, e1]
    have q : (b.natAbs : Int) = iGcd a b * c := by rw [← hc]; omega
    rw [q, Int.mul_ediv_cancel_left _ h0]
/-- a whole number over another, in lowest terms -/
theorem fr_red {a b : Int} (h : b ≠ 0) : D.tup [.int (Int.fdiv a (redG a b)), .int (Int.fdiv b (redG a b))] = fr (Rat.divInt a b) := by
  rw [red_num h, red_den h]
  rfl
theorem rat_self (q : Rat) : Rat.divInt q.num q.den = q := Rat.num_divInt_den q
theorem den_ne (q : Rat) : (q.den : Int) ≠ 0 := by have := q.den_nz; omega
theorem cast_ne {b : Int} (h : b ≠ 0) : (b : Rat) ≠ 0 := by
  intro z
  have : (b : Rat) = ((0 : Int) : Rat) := z
  exact h (Rat.intCast_inj.mp this)
theorem add_fr (p q : Rat) : Rat.divInt (p.num * q.den + q.num * p.den) (p.den * q.den) = p + q := by
  have h1 := cast_ne (den_ne p)
  have h2 := cast_ne (den_ne q)
  have e1 : (p.num : Rat) / ((p.den : Int) : Rat) = p := by rw [← Rat.divInt_eq_div]; exact rat_self p
  have e2 : (q.num : Rat) / ((q.den : Int) : Rat) = q := by rw [← Rat.divInt_eq_div]; exact rat_self q
  rw [Rat.divInt_eq_div]
  simp only [Rat.intCast_add, Rat.intCast_mul]
  generalize ((p.den : Int) : Rat) = pd at *
  generalize ((q.den : Int) : Rat) = qd at *
  generalize (p.num : Rat) = pn at *
  generalize (q.num : Rat) = qn at *
  grind
theorem mul_fr (p q : Rat) : Rat.divInt (p.num * q.num) (p.den * q.den) = p * q := by
  have h1 := cast_ne (den_ne p)
  have h2 := cast_ne (den_ne q)
  have e1 : (p.num : Rat) / ((p.den : Int) : Rat) = p := by rw [← Rat.divInt_eq_div]; exact rat_self p
  have e2 : (q.num : Rat) / ((q.den : Int) : Rat) = q := by rw [← Rat.divInt_eq_div]; exact rat_self q
  rw [Rat.divInt_eq_div]
  simp only [Rat.intCast_mul]
  generalize ((p.den : Int) : Rat) = pd at *
  generalize ((q.den : Int) : Rat) = qd at *
  generalize (p.num : Rat) = pn at *
  generalize (q.num : Rat) = qn at *
  grind
end HM

set_option Elab.async false
set_option linter.all false
set_option maxRecDepth 100000
set_option autoImplicit false
set_option maxHeartbeats 4000000
namespace HM
open PySem PySem.Spec L2
open PyProof.Rows hiding St
/-! ### calls of own defs by name -/
theorem PK.imp {X : Cx} {kws : List Keyword} {t t' : TA} (h : PK X kws t) (im : ∀ σ H Q, t' σ H Q → t σ H Q) : PK X kws t' := ⟨fun pos pins s σ H Q I q => h.run pos pins s σ H Q I (im _ _ _ q)⟩
/-- the values at the places of π -/
def pickW (ws : List W) : List Nat → Option (List W)
  | [] => some []
  | i :: r => match ws[i]?, pickW ws r with
    | some w, some us => some (w :: us)
    | _, _ => none
def pickV {α : Type} (vs : List α) : List Nat → Option (List α)
  | [] => some []
  | i :: r => match vs[i]?, pickV vs r with
    | some w, some us => some (w :: us)
    | _, _ => none
theorem RepWs.pick {K : PySem.W.Frag} {H : Hp} {μ : Mu} : ∀ {ws : List W} {vs : List V}, RepWs K H μ ws vs → ∀ {i : Nat} {w : W}, ws[i]? = some w → ∃ v, vs[i]? = some v ∧ RepW K H μ w v
  | _, _, .nil, i, w, h => by simp at h
  | _, _, .cons r rr, 0, w, h => by
    simp at h; subst h
    exact ⟨_, by simp, r⟩
  | _, _, .cons r rr, i + 1, w, h => by
    simp at h
    obtain ⟨v, e, rv⟩ := RepWs.pick rr h
    exact ⟨v, by simpa using e, rv⟩
theorem pick_rep {K : PySem.W.Frag} {H : Hp} {μ : Mu} {ws : List W} {vs : List V} (r : RepWs K H μ ws vs) : ∀ {π : List Nat} {us : List W}, pickW ws π = some us → ∃ xs, pickV vs π = some xs ∧ RepWs K H μ us xs
  | [], us, h => by cases h; exact ⟨[], rfl, .nil⟩
  | i :: π, us, h => by
    unfold pickW at h
    split at h
    · rename_i w us' e1 e2
      cases h
      obtain ⟨v, ev, rv⟩ := r.pick e1
      obtain ⟨xs, ex, rx⟩ := pick_rep r e2
      exact ⟨v :: xs, by unfold pickV; rw [ev, ex], .cons rv rx⟩
    · cases h
theorem Vals.at {vs : List V} {us : List Value} (r : Vals vs us) : ∀ {i : Nat} {v : V}, vs[i]? = some v → ∃ u, us[i]? = some u ∧ RelV v u := by
  induction r with
  | nil => intro i v h; simp at h
  | cons a b ih =>
    intro i v h
    cases i with
    | zero => simp at h; subst h; exact ⟨_, by simp, a⟩
    | succ i => simp at h; obtain ⟨u, e, q⟩ := ih h; exact ⟨u, by simpa using e, q⟩
theorem pick_vals {vs : List V} {us : List Value} (r : Vals vs us) : ∀ {π : List Nat} {xs : List V}, pickV vs π = some xs → ∃ ys, pickV us π = some ys ∧ Vals xs ys
  | [], xs, h => by cases h; exact ⟨[], rfl, .nil⟩
  | i :: π, xs, h => by
    unfold pickV at h
    split at h
    · rename_i v xs' e1 e2
      cases h
      obtain ⟨u, eu, ru⟩ := Vals.at r e1
      obtain ⟨ys, ey, ry⟩ := pick_vals r e2
      exact ⟨u :: ys, by unfold pickV; rw [eu, ey], .cons ru ry⟩
    · cases h
section
variable {X : Cx} {k n : Nat} {f : Addr} {fd : FuncData} {ps : List Str} {F : FM} {x : Str} {p pos kpos : Pos} {e : Expr} {es : List Keyword} {a : AM} {m : EM} {r : AM} {kws : List Keyword} {nm : Option Str}
theorem mk_nil : PK X [] (tA X.K aNil) := PK.imp pk_nil fun σ H Q q => by
  obtain ⟨μ, ρ, S, ws, S', ok, e, k⟩ := q
  cases e
  exact k μ [] H ok.so .refl .nil
theorem mk_cons (h : PE X e (tM X.K m)) (hr : PK X kws (tA X.K r)) : PK X ({ arg := nm, value := e, pos := kpos } :: kws) (tA X.K (aCons m r)) := PK.imp (pk_cons h hr) fun σ H Q q => by
  obtain ⟨μ, ρ, S, ws, S', ok, e0, k⟩ := q
  unfold aCons at e0
  split at e0
  · rename_i w S1 e1
    split at e0
    · rename_i us S2 e2
      cases e0
      refine ⟨μ, ρ, S, w, S1, ok, e1, fun μ1 v1 H1 so1 st1 r1 => ?_⟩
      refine ⟨μ1, ρ, S1, us, _, ok.next so1 st1, e2, fun μ2 vs H2 so2 st2 r2 => ?_⟩
      exact k μ2 (v1 :: vs) H2 so2 (st1.trans st2) (.cons (r1.step so1 st2) r2)
    · cases e0
  · cases e0
/-- f(n1 = e1, ..): the values in written order, the function's own order by π -/
def mCallK (π : List Nat) (F : FM) (a : AM) : EM := fun ρ S => match a ρ S with
  | some (ws, S1) => match pickW ws π with
    | some us => F us S1
    | none => none
  | none => none
/-- how a def binds what is passed by name -/
def BindsK (K : PySem.W.Frag) (fd : FuncData) (ps names : List Str) (π : List Nat) : Prop := ∀ (s : Shared) (us ys : List Value), us.length = names.length → pickV us π = some ys → BindsTo s fd ⟨[], names.zip us⟩ (ps.zip ys)
theorem me_callK {names : List Str} {π : List Nat} (G : FnG X.prog X.w X.K X.mg X.base k f fd ps (spM X.K n F)) (hr : Room k X.A) (hgd : X.A.guards = some []) (hg : Gl X x) (hm : X.mg x = some (.ref f)) (hk : PySem.W.keepIn X.K (.ref f) = true) (hb : BindsK X.K fd ps names π)
    (ha : PK X kws (tA X.K a)) (hla : ∀ ρ S ws S', a ρ S = some (ws, S') → ws.length = names.length) (hn : π.length = n) (hdb : (x == ("__debug__" : Str)) = false := by decide)
    (hall : (backToKw pos (keywordEach kws X.env)).all (·.1.isSome) = true := by rfl) (hks : (backToKw pos (keywordEach kws X.env)).filterMap (·.1) = names := by rfl)
    (hpl : ((backTo pos (starEach [] X.env)).any (·.1) || (backToKw pos (keywordEach kws X.env)).any (·.1.isNone)) = false := by rfl) :
    PE X (.Call (.Name x p) [] kws pos) (tM X.K (mCallK π F a)) := by
  refine ⟨fun pins s σ H Q I h => ?_⟩
  obtain ⟨μ, ρ, S, w, S', ok, e0, kk⟩ := h
  unfold mCallK at e0
  split at e0
  · rename_i ws S1 e1
    split at e0
    · rename_i us0 e2
      refine wpAny_Call_Name_kw (ld_glob I hg hm ?_ hdb)
      refine PySem.W.callWith_KW0 (h₀ := X.base) I.ok.mod.kin hk hall (thn (ha.run pos pins s σ H (fun vs' H' => vs'.length = names.length ∧ ∃ xs, pickV vs' π = some xs ∧ spM X.K n F xs H' Q E0) I ⟨μ, ρ, S, ws, S1, ok, e1, fun μ1 vs H1 so1 st1 r1 => ?_⟩) fun us s1 ⟨vs, H1, I1, rv, hlen, xs, ex, q⟩ => ⟨I1.kIn, ?_⟩) hpl
      · obtain ⟨xs, ex, rx⟩ := pick_rep r1 e2
        refine ⟨by rw [← r1.length]; exact hla _ _ _ _ e1, xs, ex, ?_⟩
        refine ⟨?_, μ1, S1, us0, w, S', so1, rx, e0, fun μ2 v H2 so2 st2 r2 => kk μ2 v H2 so2 (st1.trans st2) r2⟩
        have pl : ∀ {π : List Nat} {xs : List V}, pickV vs π = some xs → xs.length = π.length := by
          intro π
          induction π with
          | nil => intro xs h; cases h; rfl
          | cons i r ih =>
            intro xs h
            unfold pickV at h
            split at h
            · rename_i e3
              cases h
              simp [ih e3]
            · cases h
        rw [pl ex, hn]
      · obtain ⟨ys, ey, ry⟩ := pick_vals rv ex
        rw [hks]
        refine wpAny_call (codeAny_mono (G.run X.A X.stack s1 H1 ⟨[], names.zip us⟩ ys xs Q E0 hr hgd I1.env0 (hb s1 us ys (by rw [← rv.length]; exact hlen) ey) ry q) fun r s' hq => ?_)
        cases r with
        | error e => exact (show False from hq).elim
        | ok fl =>
          cases fl with
          | ret u => exact I1.after hq
          | next => exact False.elim hq
          | brk => exact False.elim hq
          | cont => exact False.elim hq
    · cases e0
  · cases e0
end
theorem fun_bindsK {K : PySem.W.Frag} {x q : Str} {st : Stmt} {f : Addr} {fd : FuncData} {ps names : List Str} {π : List Nat} (F : Fun K x q st f fd)
    (h : ∀ (kV doc pm : Value) (an : Option Addr) (cdv ct : Value) (us ys : List Value), us.length = names.length → pickV us π = some ys → bindArgs (PySem.W.fnOf x q (defArgs st) (defBody st) (defScope st) .none kV doc pm an cdv ct) ⟨[], names.zip us⟩ = pure (ps.zip ys)) : BindsK K fd ps names π := by
  obtain ⟨oc, od, kV, doc, pm, an, cdv, ct, osl, rfl, _, _⟩ := F.ex
  exact fun s us ys hl hp => .of_eq (h _ _ _ _ _ _ us ys hl hp)
/-- a def of which nothing is told: where a recursion's depth is used up -/
theorem fnG_none {P : Program} {w : World} {K : PySem.W.Frag} {mg : Str → Option Value} {base : Heap} {k n : Nat} {f : Addr} {fd : FuncData} {ps : List Str} (hl : ps.length = n) : FnG P w K mg base k f fd ps (spM K n fun _ _ => none) :=
  ⟨fun vs H Q E h => by rw [h.1, hl], fun A outer s H args us vs Q E hr hgd he hb hv h => by
    obtain ⟨_, μ, S, ws, w0, S', _, _, e, _⟩ := h
    cases e⟩
end HM

set_option Elab.async false
set_option linter.all false
set_option maxRecDepth 100000
set_option maxHeartbeats 4000000
namespace HM
open PySem PySem.Spec L2
open PyProof.Rows hiding St
/-! ### t * k for any small k -/
theorem tmul_same (l : Addr) (items : Array Value) (n : Nat) (dd : Option Addr) (sl : Array (Option Value)) (x : Int) (u : Tok) (c0 : (decide (x < -(2 ^ 63)) || decide (x ≥ 2 ^ 63)) = false) (c1 : (items.isEmpty || x == 1) = true) :
    Meets (Builtin.«tuple.__mul__» ⟨[.ref l, .int x u], []⟩) (fun _ R s => s.heap.get? l = some { cls := .type "tuple", dict := dd, data := .seq items n, slots := sl } ∧ R (.ok (.ret (.ref l))) s) :=
  .of_wp fun prog w A R s h => by
    obtain ⟨hp, g, d, tk, os⟩ := s
    obtain ⟨hl, h⟩ := h
    have f1 := AutoSeq1.idx_int
    wp_walk using wpAny_loadPart' hl
    repeat (first
      | (refine wpAny_ite_false (decide_eq_false (by rw [c0]; exact Bool.false_ne_true)) ?_; wp_walk using wpAny_loadPart' hl)
      | (refine wpAny_ite_true (decide_eq_true (by rw [c1])) ?_; wp_walk using wpAny_loadPart' hl))
    exact ⟨_, rfl, h⟩
theorem tmul_none (l : Addr) (items : Array Value) (n : Nat) (dd : Option Addr) (sl : Array (Option Value)) (x : Int) (u : Tok) (c0 : (decide (x < -(2 ^ 63)) || decide (x ≥ 2 ^ 63)) = false) (c1 : (items.isEmpty || x == 1) = false) (c2 : (decide (x ≤ 0) || items.isEmpty) = true) :
    Meets (Builtin.«tuple.__mul__» ⟨[.ref l, .int x u], []⟩) (fun _ R s => s.heap.get? l = some { cls := .type "tuple", dict := dd, data := .seq items n, slots := sl } ∧
      R (.ok (.ret (Value.ref s.heap.objs.size))) { s with heap := s.heap.push { cls := Value.type "tuple", data := Data.seq #[] }, toks := s.toks }) :=
  .of_wp fun prog w A R s h => by
    obtain ⟨hp, g, d, tk, os⟩ := s
    obtain ⟨hl, h⟩ := h
    have f1 := AutoSeq1.idx_int
    wp_walk using wpAny_loadPart' hl
    repeat (first
      | (refine wpAny_ite_false (decide_eq_false (by rw [c0]; exact Bool.false_ne_true)) ?_; wp_walk using wpAny_loadPart' hl)
      | (refine wpAny_ite_false (decide_eq_false (by rw [c1]; exact Bool.false_ne_true)) ?_; wp_walk using wpAny_loadPart' hl)
      | (refine wpAny_ite_true (decide_eq_true (by rw [c2])) ?_; wp_walk using wpAny_loadPart' hl))
    exact ⟨_, rfl, h⟩
/-- the result's own items -/
def repL {α : Type} (xs : List α) (k : Int) : List α := if k ≤ 0 then [] else (List.replicate k.toNat xs).flatten
def rRepA (K : PySem.W.Frag) : R2 := fun x y H Q => ∃ l k xs, x = .ref l ∧ y = .int k ∧ SqT K H l xs ∧ -1000 ≤ k ∧ k ≤ 1000 ∧ xs.length ≤ 1000 ∧ (xs = [] ∨ k = 1 → Q (.ref l) H) ∧ (¬ (xs = [] ∨ k = 1) → ∀ p, H p = none → Q (.ref p) (upd H p (.tup (repL xs k))))
theorem op_repA {X : Cx} : OpR X (binaryOp .Mult) (rRepA X.K) := by
  intro pins s σ H x y v u Q I rx ry h
  obtain ⟨l, k, xs, rfl, rfl, hT, h1, h2, hz, q1, q2⟩ := h
  by_cases hsame : xs = [] ∨ k = 1
  · have q := q1 hsame
    cases rx
    obtain ⟨t, rfl⟩ := ry
    obtain ⟨its, r, ⟨⟨cls, dd, data, sl⟩, ho, hc, n, hd⟩, hs⟩ := I.tuple hT
    simp only at hc hd
    subst hc hd
    have c0 : (decide (k < -(2 ^ 63)) || decide (k ≥ 2 ^ 63)) = false := by
      rw [decide_eq_false (by omega), decide_eq_false (by omega)] <;> rfl
    have c1 : (its.toArray.isEmpty || k == 1) = true := by
      rcases hsame with e | e
      · subst e
        cases r
        rfl
      · subst e
        simp
    refine wpAny_binaryOp_repeat_ref (T := "tuple") (U := "int") (by decide) ⟨_, ho, rfl⟩ (fun s' => typeIs_int s' k t) noFill_tuple_mul F.fills_int_mul F.slot_int_rmul repeat_tuple F.slot_int_index.lookup
      (call_meets F.slot_int_rmul (typeIs_int s k t) F.entry_int_rmul (F.args_int_rmul_2 _ _) (int_rmul_tuple k t l its.toArray n dd sl)
        ⟨ho, rfl, ⟨_, ho, rfl⟩, call_meets F.slot_tuple_mul ⟨_, ho, rfl⟩ F.entry_tuple_mul (F.args_tuple_mul_2 _ _) (tmul_same l its.toArray n dd sl k t c0 c1) ⟨ho, ?_⟩⟩)
    exact ⟨.ref l, H, I, rfl, q⟩
  · have hne : xs ≠ [] := fun z => hsame (.inl z)
    have hk1 : k ≠ 1 := fun z => hsame (.inr z)
    have q := q2 hsame
    by_cases hk : k ≤ 0
    · have hr : repL xs k = [] := if_pos hk
      rw [hr] at q
      cases rx
      obtain ⟨t, rfl⟩ := ry
      obtain ⟨its, r, ⟨⟨cls, dd, data, sl⟩, ho, hc, n, hd⟩, hs⟩ := I.tuple hT
      simp only at hc hd
      subst hc hd
      have hi : its.toArray.isEmpty = false := by
        cases its with
        | nil => cases r; exact absurd rfl hne
        | cons a b => rfl
      have c0 : (decide (k < -(2 ^ 63)) || decide (k ≥ 2 ^ 63)) = false := by
        rw [decide_eq_false (by omega), decide_eq_false (by omega)] <;> rfl
      have c1 : (its.toArray.isEmpty || k == 1) = false := by
        rw [hi, Bool.false_or]
        exact beq_eq_false_iff_ne.mpr hk1
      have c2 : (decide (k ≤ 0) || its.toArray.isEmpty) = true := by rw [decide_eq_true hk]; rfl
      refine wpAny_binaryOp_repeat_ref (T := "tuple") (U := "int") (by decide) ⟨_, ho, rfl⟩ (fun s' => typeIs_int s' k t) noFill_tuple_mul F.fills_int_mul F.slot_int_rmul repeat_tuple F.slot_int_index.lookup
        (call_meets F.slot_int_rmul (typeIs_int s k t) F.entry_int_rmul (F.args_int_rmul_2 _ _) (int_rmul_tuple k t l its.toArray n dd sl)
          ⟨ho, rfl, ⟨_, ho, rfl⟩, call_meets F.slot_tuple_mul ⟨_, ho, rfl⟩ F.entry_tuple_mul (F.args_tuple_mul_2 _ _) (tmul_none l its.toArray n dd sl k t c0 c1 c2) ⟨ho, ?_⟩⟩)
      refine ⟨.ref s.heap.objs.size, _, I.laid (t' := s.toks) (o := .tup []) (fun b ob q => Heap.get?_push_of_some _ q) (Nat.le_refl _) ?_, rfl, q _ (I.hok.fresh (Nat.le_refl _))⟩
      exact ⟨Nat.zero_le _, _, .nil, IsTup.new _ _⟩
    · have hr : repL xs k = (List.replicate k.toNat xs).flatten := if_neg hk
      rw [hr] at q
      exact op_repT pins s σ H _ _ _ _ Q I rx ry ⟨l, k, xs, rfl, rfl, hT, hne, by omega, h2, hz, q⟩
def fRepA : F2 := fun x y S => match x, y with
  | .val (.tup ds), .val (.int k) => if decide (-1000 ≤ k) && decide (k ≤ 1000) && decide (ds.length ≤ 1000) then some (.val (.tup (if ds.isEmpty || k == 1 then ds else repL ds k)), S) else none
  | _, _ => none
theorem Reps.repl {K : PySem.W.Frag} {H : Hp} {μ : Mu} {ds : List D} {vs : List V} (r : Reps K H μ ds vs) : ∀ n : Nat, Reps K H μ (List.replicate n ds).flatten (List.replicate n vs).flatten
  | 0 => .nil
  | n + 1 => by
    rw [List.replicate_succ, List.replicate_succ, List.flatten_cons, List.flatten_cons]
    exact r.append (Reps.repl r n)
theorem op2_repA {K : PySem.W.Frag} : Op2 K (rRepA K) fRepA := by
  intro μ S H x y v u w S' Q so rx ry e k
  unfold fRepA at e
  split at e
  · rename_i ds i
    split at e
    · rename_i h
      rw [Bool.and_eq_true, Bool.and_eq_true] at h
      have h1 : -1000 ≤ i := of_decide_eq_true h.1.1
      have h2 : i ≤ 1000 := of_decide_eq_true h.1.2
      have h3 : ds.length ≤ 1000 := of_decide_eq_true h.2
      cases e
      cases (show Rep K H μ (.int i) u from ry)
      cases (show Rep K H μ (.tup ds) v from rx) with
      | @tup a vs _ hq rs =>
        refine ⟨a, i, vs, rfl, rfl, hq, h1, h2, by rw [← rs.length]; exact h3, fun hc => ?_, fun hc p hp => ?_⟩
        · have hc' : (ds.isEmpty || i == 1) = true := by
            rcases hc with z | z
            · subst z; cases rs; rfl
            · subst z; simp
          have := k μ (.ref a) H so .refl
          rw [if_pos hc'] at this
          exact this (.tup hq rs)
        · have hc' : ¬ (ds.isEmpty || i == 1) = true := fun z => hc (by
            rcases Bool.or_eq_true_iff.mp z with z | z
            · left; cases rs with
              | nil => rfl
              | cons _ _ => cases z
            · right; exact eq_of_beq z)
          have := k μ (.ref p) (upd H p (.tup (repL vs i)))
          rw [if_neg hc'] at this
          have rr : Reps K H μ (repL ds i) (repL vs i) := by
            unfold repL
            split
            · exact .nil
            · exact Reps.repl rs _
          obtain ⟨a1, a2, a3⟩ := new_tup so hp rr
          exact this a1 a2 a3
    · cases e
  · cases e
end HM

set_option Elab.async false
set_option linter.all false
set_option maxRecDepth 100000
set_option maxHeartbeats 4000000
namespace HM
open PySem PySem.Spec L2
open PyProof.Rows hiding St
/-! ### t[::-1], xs[::-1] -/
section
variable {prog : Program} {w : World} {A : Around} {E : Value → Shared → Prop} {s : Shared}
theorem applied_back {sl : Addr} {vl vu vs : Value} {n : Nat} {Q : Int × Int × Nat → Shared → Prop} (hs : s.heap.IsSliceOf sl vl vu vs) (pl : IsPart vl none) (pu : IsPart vu none) (ps : IsPart vs (some (-1)))
    (h : Q (((n : Int) - 1), -1, n) s) : wpAny (model prog w) A (Builtin.Slice.sliceApplied (.ref sl) (pure (n : Int))) Q E s := by
  obtain ⟨o, ho, hc, hd⟩ := id hs
  unfold Builtin.Slice.sliceApplied Builtin.Slice.sliceFields
  refine wpAny_bind (wpAny_bind (wpAny_field ho hd (x := vl) rfl (wpAny_bind (wpAny_field ho hd (x := vu) rfl (wpAny_bind (wpAny_field ho hd (x := vs) rfl (wpAny_pure ?_)))))))
  refine wpAny_bind (HT.slicePart_ ps ?_)
  show wpAny _ _ (if ((-1 : Int) == 0) = true then _ else _) _ _ s
  rw [if_neg (by decide)]
  refine wpAny_bind (HT.slicePart_ pl (wpAny_bind (HT.slicePart_ pu (wpAny_bind (wpAny_pure ?_)))))
  show wpAny _ _ (pure (((n : Int) - 1), (-1 : Int), Builtin.Slice.slicePlaces ((n : Int) - 1) (-1) (-1))) _ _ s
  have e : Builtin.Slice.slicePlaces ((n : Int) - 1) (-1) (-1) = n := by
    unfold Builtin.Slice.slicePlaces
    rw [if_neg (by decide)]
    by_cases h0 : n = 0
    · subst h0; rfl
    · rw [if_pos (by omega)]
      simp only [Int.neg_neg, Int.ediv_one]
      omega
  rw [e]
  exact wpAny_pure h
theorem fm_map {α β : Type} {f : α → Option β} {g : α → β} : ∀ (l : List α), (∀ m ∈ l, f m = some (g m)) → l.filterMap f = l.map g
  | [], _ => rfl
  | a :: r, h => by
    rw [List.filterMap_cons, h a List.mem_cons_self, List.map_cons]
    simp only []
    rw [fm_map r fun m hm => h m (List.mem_cons_of_mem _ hm)]
theorem pick_back (xs : Array Value) : ((List.range xs.size).filterMap fun (m : Nat) => xs[(((xs.size : Int) - 1) + (m : Int) * (-1)).toNat]?).toArray = xs.toList.reverse.toArray := by
  congr 1
  apply List.ext_getElem?
  intro i
  have hl : ((List.range xs.size).filterMap fun (m : Nat) => xs[(((xs.size : Int) - 1) + (m : Int) * (-1)).toNat]?) = (List.range xs.size).map fun (m : Nat) => xs.toList.reverse.getD m Value.none := by
    refine fm_map _ fun m hm => ?_
    have hm' := List.mem_range.mp hm
    have e : (((xs.size : Int) - 1) + (m : Int) * (-1)).toNat = xs.size - 1 - m := by omega
    rw [e]
    have hlt : xs.size - 1 - m < xs.size := by omega
    rw [Array.getElem?_eq_getElem hlt]
    simp [List.getD, List.getElem?_reverse (show m < xs.toList.length by simpa using hm'), hlt]
  rw [hl]
  by_cases hi : i < xs.size
  · simp [List.getD, hi, List.getElem?_reverse (show i < xs.toList.length by simpa using hi)]
  · have h1 : xs.toList.reverse.length ≤ i := by simp; omega
    rw [List.getElem?_eq_none h1]
    apply List.getElem?_eq_none
    simp
    omega
theorem getItem_back {t sl : Addr} {items : Array Value} {vl vu vs : Value} {Q : Value → Shared → Prop} (ht : IsTup s.heap t items) (hs : s.heap.IsSliceOf sl vl vu vs) (pl : IsPart vl none) (pu : IsPart vu none) (ps : IsPart vs (some (-1)))
    (hz : items.size ≤ sizeLine) (h : Q (.ref s.heap.objs.size) { s with heap := s.heap.push { cls := .type "tuple", data := .seq items.toList.reverse.toArray } }) : wpAny (model prog w) A (getItem (.ref t) (.ref sl)) Q E s := by
  obtain ⟨o, ho, hc, hd⟩ := id hs
  have hT : s.TypeIs (.ref sl) "slice" := ⟨o, ho, hc⟩
  unfold getItem
  try with_reducible refine wpAny_holding ?_
  first | refine wpAny_bind (wpAny_pure ?_) | skip
  refine wpAny_bind (wpAny_sequenceKey ht.typeIs (by decide) ?_)
  refine wpAny_bind (wpAny_callSpecial?_slot (name := Str.ofString "__getitem__") ht.typeIs PyProof.Rows.slot_tuple_getitem (wpAny_call_entry PyProof.Rows.slot_tuple_getitem ht.typeIs entry_tuple_getitem ?_ (args_tuple_getitem _ _)))
  show wpAny _ _ (Builtin.Tuple.tupleItemsOf (.ref t) >>= _) _ _ s
  refine wpAny_bind (tupleItemsOf_ ht ?_)
  refine wpAny_bind (wpAny_typeOf hT ?_)
  rw [if_pos (by decide)]
  refine wpAny_bind (applied_back (n := items.size) hs pl pu ps ?_)
  show wpAny _ _ (if ((((items.size : Int) - 1) == 0 && (-1 : Int) == 1) && items.size == items.size) = true then _ else _) _ _ s
  have hno : ((((items.size : Int) - 1) == 0 && (-1 : Int) == 1) && items.size == items.size) = false := by simp
  rw [hno, if_neg Bool.false_ne_true]
  show wpAny _ _ (Builtin.Tuple.tupleExact ((List.range items.size).filterMap fun (m : Nat) => items[(((items.size : Int) - 1) + (m : Int) * (-1)).toNat]?).toArray >>= _) _ _ s
  rw [pick_back]
  exact wpAny_bind (wpAny_newObj_type (by first | exact wpAny_bind (wpAny_pure (wpAny_pure ⟨_, rfl, wpAny_pure h⟩)) | exact wpAny_pure ⟨_, rfl, wpAny_pure h⟩) (by show items.toList.reverse.toArray.size ≤ sizeLine; simpa using hz))
end
section
variable {X : Cx}
def tBackA (K : PySem.W.Frag) (te : TE) : TE := fun σ H Q => te σ H fun x G =>
  (∃ a zs, x = .ref a ∧ SqL K G a zs ∧ ∀ b, G b = none → Q (.ref b) (upd G b (.lst zs.reverse))) ∨ (∃ a zs, x = .ref a ∧ SqT K G a zs ∧ ∀ b, G b = none → Q (.ref b) (upd G b (.tup zs.reverse)))
theorem pe_backA {e : Expr} {te : TE} {k : Nat} {pa pb pc pos : Pos} (he : PE X e te) : PE X (.Subscript e (.Slice none none (some (.UnaryOp .USub (.Constant (.int 1) k pa) pb)) pc) pos) (tBackA X.K te) := by
  refine ⟨fun pins s σ H Q I0 h0 => ?_⟩
  refine Subscript_ (thn (he.run pins s σ H _ I0 h0) fun v t1 ⟨x, G1, J1, rx, qx⟩ => ?_)
  have hst : PO X (some (.UnaryOp .USub (.Constant (.int 1) k pa) pb)) (tPart (tUn (rU fun i => .int (-i)) (tC (.int 1)))) := po_some (pe_un un_neg pe_int)
  refine wpAny_Slice (thn (po_none.run pins t1 σ G1 (fun o G => o = none ∧ G = G1) J1 ⟨rfl, rfl⟩) fun vl t2 ⟨l, G2, J2, pl, el, e2⟩ => ?_)
  subst el e2
  refine thn (po_none.run pins t2 σ G2 (fun o G => o = none ∧ G = G2) J2 ⟨rfl, rfl⟩) fun vu t3 ⟨u, G3, J3, pu, eu, e3⟩ => ?_
  subst eu e3
  refine thn (hst.run pins t3 σ G3 (fun o G => o = some (-1) ∧ G = G3) J3 ⟨1, rfl, -1, rfl, rfl, rfl⟩) fun vs t4 ⟨o, G4, J4, pw, eo, e4⟩ => ?_
  subst eo e4
  have J5 : Inv X pins σ G4 { t4 with heap := t4.heap.push { cls := .type "slice", data := .fields #[vl, vu, vs] } } := J4.kept (t' := t4.toks) fun b ob q => Heap.get?_push_of_some _ q
  rcases qx with ⟨a, zs, ex, hz, q⟩ | ⟨a, zs, ex, hz, q⟩
  · subst ex
    cases rx
    obtain ⟨its, r, ht, hn⟩ := J5.list hz
    have hlen := r.length
    show wpAny (model X.prog X.w) X.A (subscriptTail e (.Slice none none (some (.UnaryOp .USub (.Constant (.int 1) k pa) pb)) pc) (.ref a) (.ref t4.heap.objs.size)) (EP X pins σ Q) X.xe { t4 with heap := t4.heap.push { cls := .type "slice", data := .fields #[vl, vu, vs] } }
    refine tail_any (ops := [.ref a, .ref t4.heap.objs.size]) ht.isList.typeIs (PySem.slot_list_getitem.lookup) ?_ (by with_unfolding_all rfl)
    refine wpAny_getItem_list_slice ht.isList (Heap.IsSliceOf.new _ vl vu vs) pl pu pw (by decide) ?_ (by rw [List.size_toArray]; omega)
    rw [PySem.W.krv_pick]
    refine ⟨.ref _, _, J5.laid (t' := t4.toks) (o := .lst zs.reverse) (fun b ob q => Heap.get?_push_of_some _ q) (Nat.le_refl _) ?_, rfl, q _ (J5.hok.fresh (Nat.le_refl _))⟩
    exact ⟨by rw [List.length_reverse]; exact hn, _, 0, r.reverse, Heap.get?_push_size _ rfl⟩
  · subst ex
    cases rx
    obtain ⟨its, r, ht, hn⟩ := J5.tuple hz
    have hlen := r.length
    show wpAny (model X.prog X.w) X.A (subscriptTail e (.Slice none none (some (.UnaryOp .USub (.Constant (.int 1) k pa) pb)) pc) (.ref a) (.ref t4.heap.objs.size)) (EP X pins σ Q) X.xe { t4 with heap := t4.heap.push { cls := .type "slice", data := .fields #[vl, vu, vs] } }
    refine tail_any (ops := [.ref a, .ref t4.heap.objs.size]) ht.typeIs (PyProof.Rows.slot_tuple_getitem.lookup) ?_ (by with_unfolding_all rfl)
    refine getItem_back ht (Heap.IsSliceOf.new _ vl vu vs) pl pu pw (by rw [List.size_toArray]; omega) ?_
    refine ⟨.ref _, _, J5.laid (t' := t4.toks) (o := .tup zs.reverse) (fun b ob q => Heap.get?_push_of_some _ q) (Nat.le_refl _) ?_, rfl, q _ (J5.hok.fresh (Nat.le_refl _))⟩
    exact ⟨by rw [List.length_reverse]; exact hn, _, r.reverse, IsTup.new _ _⟩
theorem Reps.rev {K : PySem.W.Frag} {H : Hp} {μ : Mu} : ∀ {ds : List D} {vs : List V}, Reps K H μ ds vs → Reps K H μ ds.reverse vs.reverse
  | _, _, .nil => .nil
  | _, _, .cons a b => by
    rw [List.reverse_cons, List.reverse_cons]
    exact (Reps.rev b).append (.cons a .nil)
def mBack (m : EM) : EM := fun ρ S => match m ρ S with
  | some (x, S1) => match tItems x with
    | some ds => some (.val (.tup ds.reverse), S1)
    | none => match lItems x S1 with
      | some ds => some (.val (.fl ds.reverse), S1)
      | none => none
  | none => none
theorem me_back {e : Expr} {m : EM} {k : Nat} {pa pb pc pos : Pos} (h : PE X e (tM X.K m)) : PE X (.Subscript e (.Slice none none (some (.UnaryOp .USub (.Constant (.int 1) k pa) pb)) pc) pos) (tM X.K (mBack m)) := PE.imp (pe_backA h) fun σ H Q q => by
  obtain ⟨μ, ρ, S, w, S', ok, e0, kk⟩ := q
  unfold mBack at e0
  split at e0
  · rename_i x S1 e1
    split at e0
    · rename_i ds e2
      cases e0
      refine ⟨μ, ρ, S, x, _, ok, e1, fun μ1 v H1 so1 st1 r1 => .inr ?_⟩
      obtain ⟨a, vs, rfl, hq, rr⟩ := tItems_ok r1 e2
      refine ⟨a, vs, rfl, hq, fun p hp => ?_⟩
      obtain ⟨b1, b2, b3⟩ := new_tup so1 hp (Reps.rev rr)
      exact kk μ1 _ _ b1 (st1.trans b2) b3
    · split at e0
      · rename_i ds e3
        cases e0
        refine ⟨μ, ρ, S, x, _, ok, e1, fun μ1 v H1 so1 st1 r1 => .inl ?_⟩
        obtain ⟨a, vs, rfl, hq, rr⟩ := lItems_ok so1 r1 e3
        refine ⟨a, vs, rfl, hq, fun p hp => ?_⟩
        exact kk μ1 _ _ (so1.alloc hp) (st1.trans (.alloc hp)) (new_fl so1 hp (Reps.rev rr))
      · cases e0
  · cases e0
/-! ### x * y, of ints or of a tuple and an int -/
def fMulX : F2 := fun x y S => (fMul x y S).orElse fun _ => fRepA x y S
theorem me_mulX {a b : Expr} {pos : Pos} {ma mb : EM} (ha : PE X a (tM X.K ma)) (hb : PE X b (tM X.K mb)) : PE X (.BinOp a .Mult b pos) (tM X.K (mBin fMulX ma mb)) := me_op (op_mulW.or op_repA) ((op2_I cMul_ok).or op2_repA) ha hb
end
end HM

set_option Elab.async false
set_option linter.all false
set_option maxRecDepth 100000
set_option autoImplicit false
set_option maxHeartbeats 4000000
namespace HM
open PySem PySem.Spec L2
open PyProof.Rows hiding St
/-- o[i], p[j] = a pair -/
def sPutB (m mo mi mp mj : EM) : SM := fun ρ S => match m ρ S with
  | some (.val (.tup [d, d']), S1) => match mo ρ S1 with
    | some (x, S2) => match mi ρ S2 with
      | some (.val (.int k), S3) => match putAt x k d S3 with
        | some S4 => match mp ρ S4 with
          | some (y, S5) => match mj ρ S5 with
            | some (.val (.int l), S6) => match putAt y l d' S6 with
              | some S7 => some (.nx, ρ, S7)
              | none => none
            | _ => none
          | none => none
        | none => none
      | _ => none
    | none => none
  | _ => none
section
variable {X : Cx}
theorem ms_putB {e o i p j : Expr} {m mo mi mp mj : EM} {pos apos bpos tpos : Pos} {kk : Nat} (he : PE X e (tM X.K m)) (ho : PE X o (tM X.K mo)) (hi : PE X i (tM X.K mi)) (hp : PE X p (tM X.K mp)) (hj : PE X j (tM X.K mj)) (hc : X.calm = true)
    (hs : swapsWithSole [.Tuple [.Subscript o i apos, .Subscript p j bpos] kk tpos] e pos.line X.env = pure false := by rfl) (hw : swappedStores [.Tuple [.Subscript o i apos, .Subscript p j bpos] kk tpos] e X.env = pure none := by rfl)
    (h1 : (assignEach [.Tuple [.Subscript o i apos, .Subscript p j bpos] kk tpos] X.env).map (·.2) = [assign (.Tuple [.Subscript o i apos, .Subscript p j bpos] kk tpos) X.env] := by rfl)
    (ha : ∀ v, assign (.Subscript o i apos) X.env v = (do
      let ov ← holding [v] (eval o X.env)
      let iv ← holding [v, ov] (eval i X.env)
      standAt apos
      holding [v, ov, iv] (setItem ov iv v)
      release [v, ov, iv] []) := by intro _; rfl)
    (hb : ∀ v, assign (.Subscript p j bpos) X.env v = (do
      let ov ← holding [v] (eval p X.env)
      let iv ← holding [v, ov] (eval j X.env)
      standAt bpos
      holding [v, ov, iv] (setItem ov iv v)
      release [v, ov, iv] []) := by intro _; rfl)
    (a1 : (assignEach [.Subscript o i apos, .Subscript p j bpos] X.env).map (·.2) = assign (.Subscript o i apos) X.env :: (assignEach [.Subscript p j bpos] X.env).map (·.2) := by rfl)
    (a2 : (assignEach [.Subscript p j bpos] X.env).map (·.2) = assign (.Subscript p j bpos) X.env :: (assignEach [] X.env).map (·.2) := by rfl)
    (hn : (assignEach [.Subscript o i apos, .Subscript p j bpos] X.env).length = 2 := by rfl) (hst : (assignEach [.Subscript o i apos, .Subscript p j bpos] X.env).findIdx? (·.1) = none := by rfl) :
    PS X (.Assign [.Tuple [.Subscript o i apos, .Subscript p j bpos] kk tpos] e pos) (tS X.K (sPutB m mo mi mp mj)) := PS.imp (ps_asg he (pg_tup hc (pgs_cons (pg_sub ho hi set_list ha) (pgs_cons (pg_sub hp hj set_list hb) pgs_nil a2) a1) hn hst) hs hw h1) fun D σ H q => by
  obtain ⟨μ, ρ, S, c, ρ', S', ok, e, k⟩ := q
  unfold sPutB at e
  split at e
  · rename_i d d' S1 e1
    split at e
    · rename_i y S2 e2
      split at e
      · rename_i kk S3 e3
        split at e
        · rename_i S4 e4
          split at e
          · rename_i z S5 e5
            split at e
            · rename_i ll S6 e6
              split at e
              · rename_i S7 e7
                cases e
                refine ⟨μ, ρ, S, _, S1, ok, e1, fun μ1 v1 H1 so1 st1 r1 => ?_⟩
                cases (show Rep X.K H1 μ1 (.tup [d, d']) v1 from r1) with
                | tup qt rs =>
                  cases rs with
                  | cons rd rs =>
                    cases rs with
                    | cons rd' rs =>
                      cases rs
                      refine ⟨_, _, rfl, qt, rfl, _, _, rfl, ?_⟩
                      refine ⟨μ1, ρ, S1, y, S2, ok.next so1 st1, e2, fun μ2 v2 H2 so2 st2 r2 => ?_⟩
                      have ok2 := (ok.next so1 st1).next so2 st2
                      refine ⟨μ2, ρ, S2, _, S3, ok2, e3, fun μ3 v3 H3 so3 st3 r3 => ?_⟩
                      cases r3
                      refine put_imp so3 (r2.step so2 st3) (Rep.step so1 (st2.trans st3) rd) e4 fun H4 so4 st4 => ?_
                      refine ⟨_, _, rfl, ?_⟩
                      have ok4 := (ok2.next so3 st3).next so4 st4
                      refine ⟨μ3, ρ, S4, z, S5, ok4, e5, fun μ5 v5 H5 so5 st5 r5 => ?_⟩
                      have ok5 := ok4.next so5 st5
                      refine ⟨μ5, ρ, S5, _, S6, ok5, e6, fun μ6 v6 H6 so6 st6 r6 => ?_⟩
                      cases r6
                      refine put_imp so6 (r5.step so5 st6) (Rep.step so1 ((((st2.trans st3).trans st4).trans st5).trans st6) rd') e7 fun H7 so7 st7 => ?_
                      have st := (((((st1.trans st2).trans st3).trans st4).trans st5).trans st6).trans st7
                      refine ⟨rfl, ?_⟩
                      exact k μ6 H7 so7 st _ (ok.env.step ok.so st)
              · cases e
            · cases e
          · cases e
        · cases e
      · cases e
    · cases e
  · cases e
end
/-- a, b, c = three values: three different local names -/
def sPar3 (i j l : Nat) (am : AM) : SM := fun ρ S => match am ρ S with
  | some ([u, v, w], S1) => some (.nx, ((ρ.set i (some u)).set j (some v)).set l (some w), S1)
  | _ => none
theorem RepWs.three {K : PySem.W.Frag} {H : Hp} {μ : Mu} {u v w : W} {vs : List V} (r : RepWs K H μ [u, v, w] vs) : ∃ a b c, vs = [a, b, c] ∧ RepW K H μ u a ∧ RepW K H μ v b ∧ RepW K H μ w c := by
  cases r with
  | cons r1 r =>
    cases r with
    | cons r2 r =>
      cases r with
      | cons r3 r =>
        cases r
        exact ⟨_, _, _, rfl, r1, r2, r3⟩
theorem ms_par3 {X : Cx} {i j l : Nat} {x y z : Str} {a b c : Expr} {am : AM} {px py pz pt pos : Pos} {kt k2 : Nat} {pt2 : Pos} (hc : X.calm = true) (hN : X.N.Nodup) (hi : X.N[i]? = some x) (hj : X.N[j]? = some y) (hl : X.N[l]? = some z) (hij : i ≠ j) (hil : i ≠ l) (hjl : j ≠ l)
    (hx : X.env.scope.names.lookup x = some .local) (hy : X.env.scope.names.lookup y = some .local) (hz : X.env.scope.names.lookup z = some .local) (ha : PA X [a, b, c] (tA X.K am))
    (hw : swappedStores [.Tuple [.Name x px, .Name y py, .Name z pz] kt pt] (.Tuple [a, b, c] k2 pt2) X.env = pure (some [x, y, z])) (hs : swapsWithSole [.Tuple [.Name x px, .Name y py, .Name z pz] kt pt] (.Tuple [a, b, c] k2 pt2) pos.line X.env = pure false := by rfl) :
    PS X (.Assign [.Tuple [.Name x px, .Name y py, .Name z pz] kt pt] (.Tuple [a, b, c] k2 pt2) pos) (tS X.K (sPar3 i j l am)) := PS.imp (ps_par3 hc hN hi hj hl hij hil hjl hx hy hz ha hw hs) fun D σ H q => by
  obtain ⟨μ, ρ, S, d, ρ', S', ok, e, k⟩ := q
  unfold sPar3 at e
  split at e
  · rename_i u v w S1 e1
    cases e
    refine ⟨μ, ρ, S, _, _, ok, e1, fun μ1 vs H1 so1 st1 r1 => ?_⟩
    obtain ⟨u', v', w', rfl, ru, rv, rw'⟩ := RepWs.three r1
    exact ⟨u', v', w', rfl, k μ1 H1 so1 st1 _ ((((ok.env.step ok.so st1).set ru i).set rv j).set rw' l)⟩
  · cases e
/-! ### isinstance of any value but an error -/
def D.isE : D → Bool
  | .exc0 _ => false
  | .exc1 _ _ _ => false
  | _ => true
theorem TyX.of_e {K : PySem.W.Frag} {H : Hp} {μ : Mu} {d : D} {v : V} (hb : d.isE = true) (r : Rep K H μ d v) : TyX K H v (.type d.ty) := by
  cases hd : d.isB with
  | true => exact TyX.of_d hd r
  | false =>
    cases d with
    | dct ks ds =>
      cases r with
      | dct q _ _ => exact .base (.dK q)
    | exc0 _ => cases hb
    | exc1 _ _ _ => cases hb
    | _ => cases hd
def kinds7 : List String := ["NoneType", "bool", "int", "str", "tuple", "list", "dict"]
theorem D.ty_in {d : D} (h : d.isE = true) : d.ty ∈ kinds7 := by
  cases d with
  | exc0 _ => cases h
  | exc1 _ _ _ => cases h
  | _ => simp [D.ty, kinds7]
def mIsE (T : String) (m : EM) : EM := fun ρ S => match m ρ S with
  | some (.val d, S1) => if d.isE then some (.val (.bl (isB T d.ty)), S1) else none
  | _ => none
theorem me_isE {X : Cx} {e : Expr} {m : EM} {p p2 pos : Pos} {T : String} {x : Str} (hk : ∀ t ∈ kinds7, (kitB t T).isSome = true) (hg : Gl X "isinstance") (hm : X.mg "isinstance" = none) (hg2 : Gl X x) (hm2 : X.mg x = none) (hv : bootBuiltins x = some (.type T)) (h : PE X e (tM X.K m))
    (hn : x ≠ "__name__" := by decide) (hd : (x == ("__debug__" : Str)) = false := by decide) (hb : bootBuiltins "isinstance" = some (.builtin "isinstance") := by first | rfl | decide +kernel)
    (hs : starEach [e, .Name x p2] X.env = (false, eval e X.env) :: starEach [.Name x p2] X.env := by rfl) (hs2 : starEach [.Name x p2] X.env = (false, eval (.Name x p2) X.env) :: starEach [] X.env := by rfl) (hpl : (backTo pos (starEach [.Name x p2] X.env)).any (·.1) = false := by rfl) :
    PE X (.Call (.Name "isinstance" p) [e, .Name x p2] [] pos) (tM X.K (mIsE T m)) := by
  have h2 : PE X (.Name x p2) (tC (.ty T)) := pe_bltn hg2 hm2 hv rfl hn hd
  refine PE.imp (pe_callB call_isi hg hm hb (pa_cons h (pa_cons h2 pa_nil hs2) hs) (by decide) (by decide) hs hpl) fun σ H Q q => ?_
  obtain ⟨μ, ρ, S, w, S', ok, e, k⟩ := q
  unfold mIsE at e
  split at e
  · rename_i d S1 e1
    split at e
    · rename_i hb
      cases e
      refine ⟨μ, ρ, S, _, _, ok, e1, fun μ1 v H1 so1 st1 r1 => ?_⟩
      have hy := hk d.ty (D.ty_in hb)
      refine ⟨v, .ty T, .type d.ty, .type T, isB T d.ty, rfl, .ty T, TyX.of_e hb r1, kit_ty ?_, k μ1 _ H1 so1 st1 (.bl _)⟩
      unfold isB
      cases q : kitB d.ty T with
      | none => rw [q] at hy; cases hy
      | some b => rfl
    · cases e
  · cases e
end HM

set_option Elab.async false
set_option linter.all false
set_option maxRecDepth 100000
set_option autoImplicit false
set_option maxHeartbeats 4000000
namespace HM
open PySem PySem.Spec L2
open PyProof.Rows hiding St
/-! ### t == (), t != (): whatever t holds -/
section
variable {X : Cx}
def rNilE (neg : Bool) (K : PySem.W.Frag) : R2 := fun x y H Q => ∃ a b xs, x = .ref a ∧ y = .ref b ∧ SqT K H a xs ∧ SqT K H b [] ∧ Q (.bl (if neg then !xs.isEmpty else xs.isEmpty)) H
theorem op_eqN (hu : X.A.units + 64 < cLine) : OpR X (compareOp .Eq) (rNilE false X.K) := by
  intro pins s σ H x y v u Q I rx ry h
  obtain ⟨a, b, xs, rfl, rfl, ha, hb, q⟩ := h
  cases rx
  cases ry
  obtain ⟨its, rv, t1, _⟩ := I.tuple ha
  obtain ⟨jts, rw', t2, _⟩ := I.tuple hb
  have n1 : its.toArray.size = xs.length := by have := Vals.length rv; simp at this ⊢; omega
  have n2 : jts.toArray.size = 0 := by cases rw'; rfl
  refine SeqAt.RcAt.tuples (e := fun _ => true) t1 t2 (by omega) (fun j _ h2 => absurd h2 (by omega)) _ _ _ _ ?_
  refine ⟨.bl _, H, I, ?_, q⟩
  have : ((List.range (min its.toArray.size jts.toArray.size)).all (fun _ => true) && its.toArray.size == jts.toArray.size) = xs.isEmpty := by
    rw [n1, n2]; cases xs <;> simp
  rw [this]
  rfl
theorem op_neN (hu : X.A.units + 64 < cLine) : OpR X (compareOp .NotEq) (rNilE true X.K) := by
  intro pins s σ H x y v u Q I rx ry h
  obtain ⟨a, b, xs, rfl, rfl, ha, hb, q⟩ := h
  cases rx
  cases ry
  obtain ⟨its, rv, t1, _⟩ := I.tuple ha
  obtain ⟨jts, rw', t2, _⟩ := I.tuple hb
  have n1 : its.toArray.size = xs.length := by have := Vals.length rv; simp at this ⊢; omega
  have n2 : jts.toArray.size = 0 := by cases rw'; rfl
  refine SeqAt.RcNeAt.tuples (e := fun _ => true) t1 t2 (by omega) (fun j _ h2 => absurd h2 (by omega)) _ _ _ _ ?_
  refine ⟨.bl _, H, I, ?_, q⟩
  have : (!((List.range (min its.toArray.size jts.toArray.size)).all (fun _ => true) && its.toArray.size == jts.toArray.size)) = !xs.isEmpty := by
    rw [n1, n2]; cases xs <;> simp
  rw [this]
  rfl
/-- what is no tuple is compared as plain data -/
def fNilE (neg : Bool) : F2 := fun x y S => match x, y with
  | .val (.tup ds), .val (.tup []) => some (.val (.bl (if neg then !ds.isEmpty else ds.isEmpty)), S)
  | _, _ => none
theorem op2_nil {neg : Bool} {K : PySem.W.Frag} : Op2 K (rNilE neg K) (fNilE neg) := by
  intro μ S H x y v u w S' Q so rx ry e k
  unfold fNilE at e
  split at e
  · rename_i ds
    cases e
    cases rx with
    | tup q1 r1 =>
      cases ry with
      | tup q2 r2 =>
        cases r2
        rename_i a vs b
        have hl : vs.isEmpty = ds.isEmpty := by
          have := Reps.length r1
          cases vs <;> cases ds <;> simp at this ⊢
        refine ⟨_, _, vs, rfl, rfl, q1, q2, ?_⟩
        rw [hl]
        exact k μ _ H so .refl (.bl _)
  · cases e
variable {a b : Expr} {pos : Pos} {ma mb : EM}
theorem me_eqN (hu : X.A.units + 64 < cLine) (ha : PE X a (tM X.K ma)) (hb : PE X b (tM X.K mb)) : PE X (.Compare a [.Eq] [b] pos) (tM X.K (mBin (fNilE false) ma mb)) := me_cmp (op_eqN hu) op2_nil ha hb (nomark _)
theorem me_neN (hu : X.A.units + 64 < cLine) (ha : PE X a (tM X.K ma)) (hb : PE X b (tM X.K mb)) : PE X (.Compare a [.NotEq] [b] pos) (tM X.K (mBin (fNilE true) ma mb)) := me_cmp (op_neN hu) op2_nil ha hb (nomark _)
theorem mt_eqN (hu : X.A.units + 64 < cLine) (ha : PE X a (tM X.K ma)) (hb : PE X b (tM X.K mb)) : PT X (.Compare a [.Eq] [b] pos) (tT X.K (mTest (mBin (fNilE false) ma mb))) := mt_cmp (op_eqN hu) op2_nil ha hb (nomark _)
theorem mt_neN (hu : X.A.units + 64 < cLine) (ha : PE X a (tM X.K ma)) (hb : PE X b (tM X.K mb)) : PT X (.Compare a [.NotEq] [b] pos) (tT X.K (mTest (mBin (fNilE true) ma mb))) := mt_cmp (op_neN hu) op2_nil ha hb (nomark _)
end
end HM

set_option Elab.async false
set_option linter.all false
set_option maxRecDepth 100000
set_option autoImplicit false
set_option maxHeartbeats 4000000
namespace TZ
open PySem
open PySem.Sem (wp)
theorem typeCall_zipN (args : List Value) : checkTypeCall "zip" ⟨args, []⟩ = pure () := by kernel_rfl
theorem args_object_init_N (a : Value) (args : List Value) : argsOk "object.__init__" ⟨a :: args, []⟩ := by
  unfold argsOk; rw [signature?_of (id := "object.__init__") (n := ['_', '_', 't', 'i', 'n', 'i', '_', '_']) (o := ['t', 'c', 'e', 'j', 'b', 'o']) (by kernel_rfl) F.owner_object]; kernel_rfl
theorem newCall_zipN : ∀ args : List Value, 0 < args.length ∧ args.length ≤ 40 → checkBuiltinCall "zip.__new__" ⟨.type "zip" :: args, []⟩ = pure ()
  | [], h => absurd h.1 (by decide)
  | (List.cons _ List.nil), _ => by kernel_rfl
  | (List.cons _ (List.cons _ List.nil)), _ => by kernel_rfl
  | (List.cons _ (List.cons _ (List.cons _ List.nil))), _ => by kernel_rfl
  | (List.cons _ (List.cons _ (List.cons _ (List.cons _ List.nil)))), _ => by kernel_rfl
  | (List.cons _ (List.cons _ (List.cons _ (List.cons _ (List.cons _ List.nil))))), _ => by kernel_rfl
  | (List.cons _ (List.cons _ (List.cons _ (List.cons _ (List.cons _ (List.cons _ List.nil)))))), _ => by kernel_rfl
  | (List.cons _ (List.cons _ (List.cons _ (List.cons _ (List.cons _ (List.cons _ (List.cons _ List.nil))))))), _ => by kernel_rfl
  | (List.cons _ (List.cons _ (List.cons _ (List.cons _ (List.cons _ (List.cons _ (List.cons _ (List.cons _ List.nil)))))))), _ => by kernel_rfl
  | (List.cons _ (List.cons _ (List.cons _ (List.cons _ (List.cons _ (List.cons _ (List.cons _ (List.cons _ (List.cons _ List.nil))))))))), _ => by kernel_rfl
  | (List.cons _ (List.cons _ (List.cons _ (List.cons _ (List.cons _ (List.cons _ (List.cons _ (List.cons _ (List.cons _ (List.cons _ List.nil)))))))))), _ => by kernel_rfl
  | (List.cons _ (List.cons _ (List.cons _ (List.cons _ (List.cons _ (List.cons _ (List.cons _ (List.cons _ (List.cons _ (List.cons _ (List.cons _ List.nil))))))))))), _ => by kernel_rfl
  | (List.cons _ (List.cons _ (List.cons _ (List.cons _ (List.cons _ (List.cons _ (List.cons _ (List.cons _ (List.cons _ (List.cons _ (List.cons _ (List.cons _ List.nil)))))))))))), _ => by kernel_rfl
  | (List.cons _ (List.cons _ (List.cons _ (List.cons _ (List.cons _ (List.cons _ (List.cons _ (List.cons _ (List.cons _ (List.cons _ (List.cons _ (List.cons _ (List.cons _ List.nil))))))))))))), _ => by kernel_rfl
  | (List.cons _ (List.cons _ (List.cons _ (List.cons _ (List.cons _ (List.cons _ (List.cons _ (List.cons _ (List.cons _ (List.cons _ (List.cons _ (List.cons _ (List.cons _ (List.cons _ List.nil)))))))))))))), _ => by kernel_rfl
  | (List.cons _ (List.cons _ (List.cons _ (List.cons _ (List.cons _ (List.cons _ (List.cons _ (List.cons _ (List.cons _ (List.cons _ (List.cons _ (List.cons _ (List.cons _ (List.cons _ (List.cons _ List.nil))))))))))))))), _ => by kernel_rfl
  | (List.cons _ (List.cons _ (List.cons _ (List.cons _ (List.cons _ (List.cons _ (List.cons _ (List.cons _ (List.cons _ (List.cons _ (List.cons _ (List.cons _ (List.cons _ (List.cons _ (List.cons _ (List.cons _ List.nil)))))))))))))))), _ => by kernel_rfl
  | (List.cons _ (List.cons _ (List.cons _ (List.cons _ (List.cons _ (List.cons _ (List.cons _ (List.cons _ (List.cons _ (List.cons _ (List.cons _ (List.cons _ (List.cons _ (List.cons _ (List.cons _ (List.cons _ (List.cons _ List.nil))))))))))))))))), _ => by kernel_rfl
  | (List.cons _ (List.cons _ (List.cons _ (List.cons _ (List.cons _ (List.cons _ (List.cons _ (List.cons _ (List.cons _ (List.cons _ (List.cons _ (List.cons _ (List.cons _ (List.cons _ (List.cons _ (List.cons _ (List.cons _ (List.cons _ List.nil)))))))))))))))))), _ => by kernel_rfl
  | (List.cons _ (List.cons _ (List.cons _ (List.cons _ (List.cons _ (List.cons _ (List.cons _ (List.cons _ (List.cons _ (List.cons _ (List.cons _ (List.cons _ (List.cons _ (List.cons _ (List.cons _ (List.cons _ (List.cons _ (List.cons _ (List.cons _ List.nil))))))))))))))))))), _ => by kernel_rfl
  | (List.cons _ (List.cons _ (List.cons _ (List.cons _ (List.cons _ (List.cons _ (List.cons _ (List.cons _ (List.cons _ (List.cons _ (List.cons _ (List.cons _ (List.cons _ (List.cons _ (List.cons _ (List.cons _ (List.cons _ (List.cons _ (List.cons _ (List.cons _ List.nil)))))))))))))))))))), _ => by kernel_rfl
  | (List.cons _ (List.cons _ (List.cons _ (List.cons _ (List.cons _ (List.cons _ (List.cons _ (List.cons _ (List.cons _ (List.cons _ (List.cons _ (List.cons _ (List.cons _ (List.cons _ (List.cons _ (List.cons _ (List.cons _ (List.cons _ (List.cons _ (List.cons _ (List.cons _ List.nil))))))))))))))))))))), _ => by kernel_rfl
  | (List.cons _ (List.cons _ (List.cons _ (List.cons _ (List.cons _ (List.cons _ (List.cons _ (List.cons _ (List.cons _ (List.cons _ (List.cons _ (List.cons _ (List.cons _ (List.cons _ (List.cons _ (List.cons _ (List.cons _ (List.cons _ (List.cons _ (List.cons _ (List.cons _ (List.cons _ List.nil)))))))))))))))))))))), _ => by kernel_rfl
  | (List.cons _ (List.cons _ (List.cons _ (List.cons _ (List.cons _ (List.cons _ (List.cons _ (List.cons _ (List.cons _ (List.cons _ (List.cons _ (List.cons _ (List.cons _ (List.cons _ (List.cons _ (List.cons _ (List.cons _ (List.cons _ (List.cons _ (List.cons _ (List.cons _ (List.cons _ (List.cons _ List.nil))))))))))))))))))))))), _ => by kernel_rfl
  | (List.cons _ (List.cons _ (List.cons _ (List.cons _ (List.cons _ (List.cons _ (List.cons _ (List.cons _ (List.cons _ (List.cons _ (List.cons _ (List.cons _ (List.cons _ (List.cons _ (List.cons _ (List.cons _ (List.cons _ (List.cons _ (List.cons _ (List.cons _ (List.cons _ (List.cons _ (List.cons _ (List.cons _ List.nil)))))))))))))))))))))))), _ => by kernel_rfl
  | (List.cons _ (List.cons _ (List.cons _ (List.cons _ (List.cons _ (List.cons _ (List.cons _ (List.cons _ (List.cons _ (List.cons _ (List.cons _ (List.cons _ (List.cons _ (List.cons _ (List.cons _ (List.cons _ (List.cons _ (List.cons _ (List.cons _ (List.cons _ (List.cons _ (List.cons _ (List.cons _ (List.cons _ (List.cons _ List.nil))))))))))))))))))))))))), _ => by kernel_rfl
  | (List.cons _ (List.cons _ (List.cons _ (List.cons _ (List.cons _ (List.cons _ (List.cons _ (List.cons _ (List.cons _ (List.cons _ (List.cons _ (List.cons _ (List.cons _ (List.cons _ (List.cons _ (List.cons _ (List.cons _ (List.cons _ (List.cons _ (List.cons _ (List.cons _ (List.cons _ (List.cons _ (List.cons _ (List.cons _ (List.cons _ List.nil)))))))))))))))))))))))))), _ => by kernel_rfl
  | (List.cons _ (List.cons _ (List.cons _ (List.cons _ (List.cons _ (List.cons _ (List.cons _ (List.cons _ (List.cons _ (List.cons _ (List.cons _ (List.cons _ (List.cons _ (List.cons _ (List.cons _ (List.cons _ (List.cons _ (List.cons _ (List.cons _ (List.cons _ (List.cons _ (List.cons _ (List.cons _ (List.cons _ (List.cons _ (List.cons _ (List.cons _ List.nil))))))))))))))))))))))))))), _ => by kernel_rfl
  | (List.cons _ (List.cons _ (List.cons _ (List.cons _ (List.cons _ (List.cons _ (List.cons _ (List.cons _ (List.cons _ (List.cons _ (List.cons _ (List.cons _ (List.cons _ (List.cons _ (List.cons _ (List.cons _ (List.cons _ (List.cons _ (List.cons _ (List.cons _ (List.cons _ (List.cons _ (List.cons _ (List.cons _ (List.cons _ (List.cons _ (List.cons _ (List.cons _ List.nil)))))))))))))))))))))))))))), _ => by kernel_rfl
  | (List.cons _ (List.cons _ (List.cons _ (List.cons _ (List.cons _ (List.cons _ (List.cons _ (List.cons _ (List.cons _ (List.cons _ (List.cons _ (List.cons _ (List.cons _ (List.cons _ (List.cons _ (List.cons _ (List.cons _ (List.cons _ (List.cons _ (List.cons _ (List.cons _ (List.cons _ (List.cons _ (List.cons _ (List.cons _ (List.cons _ (List.cons _ (List.cons _ (List.cons _ List.nil))))))))))))))))))))))))))))), _ => by kernel_rfl
  | (List.cons _ (List.cons _ (List.cons _ (List.cons _ (List.cons _ (List.cons _ (List.cons _ (List.cons _ (List.cons _ (List.cons _ (List.cons _ (List.cons _ (List.cons _ (List.cons _ (List.cons _ (List.cons _ (List.cons _ (List.cons _ (List.cons _ (List.cons _ (List.cons _ (List.cons _ (List.cons _ (List.cons _ (List.cons _ (List.cons _ (List.cons _ (List.cons _ (List.cons _ (List.cons _ List.nil)))))))))))))))))))))))))))))), _ => by kernel_rfl
  | (List.cons _ (List.cons _ (List.cons _ (List.cons _ (List.cons _ (List.cons _ (List.cons _ (List.cons _ (List.cons _ (List.cons _ (List.cons _ (List.cons _ (List.cons _ (List.cons _ (List.cons _ (List.cons _ (List.cons _ (List.cons _ (List.cons _ (List.cons _ (List.cons _ (List.cons _ (List.cons _ (List.cons _ (List.cons _ (List.cons _ (List.cons _ (List.cons _ (List.cons _ (List.cons _ (List.cons _ List.nil))))))))))))))))))))))))))))))), _ => by kernel_rfl
  | (List.cons _ (List.cons _ (List.cons _ (List.cons _ (List.cons _ (List.cons _ (List.cons _ (List.cons _ (List.cons _ (List.cons _ (List.cons _ (List.cons _ (List.cons _ (List.cons _ (List.cons _ (List.cons _ (List.cons _ (List.cons _ (List.cons _ (List.cons _ (List.cons _ (List.cons _ (List.cons _ (List.cons _ (List.cons _ (List.cons _ (List.cons _ (List.cons _ (List.cons _ (List.cons _ (List.cons _ (List.cons _ List.nil)))))))))))))))))))))))))))))))), _ => by kernel_rfl
  | (List.cons _ (List.cons _ (List.cons _ (List.cons _ (List.cons _ (List.cons _ (List.cons _ (List.cons _ (List.cons _ (List.cons _ (List.cons _ (List.cons _ (List.cons _ (List.cons _ (List.cons _ (List.cons _ (List.cons _ (List.cons _ (List.cons _ (List.cons _ (List.cons _ (List.cons _ (List.cons _ (List.cons _ (List.cons _ (List.cons _ (List.cons _ (List.cons _ (List.cons _ (List.cons _ (List.cons _ (List.cons _ (List.cons _ List.nil))))))))))))))))))))))))))))))))), _ => by kernel_rfl
  | (List.cons _ (List.cons _ (List.cons _ (List.cons _ (List.cons _ (List.cons _ (List.cons _ (List.cons _ (List.cons _ (List.cons _ (List.cons _ (List.cons _ (List.cons _ (List.cons _ (List.cons _ (List.cons _ (List.cons _ (List.cons _ (List.cons _ (List.cons _ (List.cons _ (List.cons _ (List.cons _ (List.cons _ (List.cons _ (List.cons _ (List.cons _ (List.cons _ (List.cons _ (List.cons _ (List.cons _ (List.cons _ (List.cons _ (List.cons _ List.nil)))))))))))))))))))))))))))))))))), _ => by kernel_rfl
  | (List.cons _ (List.cons _ (List.cons _ (List.cons _ (List.cons _ (List.cons _ (List.cons _ (List.cons _ (List.cons _ (List.cons _ (List.cons _ (List.cons _ (List.cons _ (List.cons _ (List.cons _ (List.cons _ (List.cons _ (List.cons _ (List.cons _ (List.cons _ (List.cons _ (List.cons _ (List.cons _ (List.cons _ (List.cons _ (List.cons _ (List.cons _ (List.cons _ (List.cons _ (List.cons _ (List.cons _ (List.cons _ (List.cons _ (List.cons _ (List.cons _ List.nil))))))))))))))))))))))))))))))))))), _ => by kernel_rfl
  | (List.cons _ (List.cons _ (List.cons _ (List.cons _ (List.cons _ (List.cons _ (List.cons _ (List.cons _ (List.cons _ (List.cons _ (List.cons _ (List.cons _ (List.cons _ (List.cons _ (List.cons _ (List.cons _ (List.cons _ (List.cons _ (List.cons _ (List.cons _ (List.cons _ (List.cons _ (List.cons _ (List.cons _ (List.cons _ (List.cons _ (List.cons _ (List.cons _ (List.cons _ (List.cons _ (List.cons _ (List.cons _ (List.cons _ (List.cons _ (List.cons _ (List.cons _ List.nil)))))))))))))))))))))))))))))))))))), _ => by kernel_rfl
  | (List.cons _ (List.cons _ (List.cons _ (List.cons _ (List.cons _ (List.cons _ (List.cons _ (List.cons _ (List.cons _ (List.cons _ (List.cons _ (List.cons _ (List.cons _ (List.cons _ (List.cons _ (List.cons _ (List.cons _ (List.cons _ (List.cons _ (List.cons _ (List.cons _ (List.cons _ (List.cons _ (List.cons _ (List.cons _ (List.cons _ (List.cons _ (List.cons _ (List.cons _ (List.cons _ (List.cons _ (List.cons _ (List.cons _ (List.cons _ (List.cons _ (List.cons _ (List.cons _ List.nil))))))))))))))))))))))))))))))))))))), _ => by kernel_rfl
  | (List.cons _ (List.cons _ (List.cons _ (List.cons _ (List.cons _ (List.cons _ (List.cons _ (List.cons _ (List.cons _ (List.cons _ (List.cons _ (List.cons _ (List.cons _ (List.cons _ (List.cons _ (List.cons _ (List.cons _ (List.cons _ (List.cons _ (List.cons _ (List.cons _ (List.cons _ (List.cons _ (List.cons _ (List.cons _ (List.cons _ (List.cons _ (List.cons _ (List.cons _ (List.cons _ (List.cons _ (List.cons _ (List.cons _ (List.cons _ (List.cons _ (List.cons _ (List.cons _ (List.cons _ List.nil)))))))))))))))))))))))))))))))))))))), _ => by kernel_rfl
  | (List.cons _ (List.cons _ (List.cons _ (List.cons _ (List.cons _ (List.cons _ (List.cons _ (List.cons _ (List.cons _ (List.cons _ (List.cons _ (List.cons _ (List.cons _ (List.cons _ (List.cons _ (List.cons _ (List.cons _ (List.cons _ (List.cons _ (List.cons _ (List.cons _ (List.cons _ (List.cons _ (List.cons _ (List.cons _ (List.cons _ (List.cons _ (List.cons _ (List.cons _ (List.cons _ (List.cons _ (List.cons _ (List.cons _ (List.cons _ (List.cons _ (List.cons _ (List.cons _ (List.cons _ (List.cons _ List.nil))))))))))))))))))))))))))))))))))))))), _ => by kernel_rfl
  | (List.cons _ (List.cons _ (List.cons _ (List.cons _ (List.cons _ (List.cons _ (List.cons _ (List.cons _ (List.cons _ (List.cons _ (List.cons _ (List.cons _ (List.cons _ (List.cons _ (List.cons _ (List.cons _ (List.cons _ (List.cons _ (List.cons _ (List.cons _ (List.cons _ (List.cons _ (List.cons _ (List.cons _ (List.cons _ (List.cons _ (List.cons _ (List.cons _ (List.cons _ (List.cons _ (List.cons _ (List.cons _ (List.cons _ (List.cons _ (List.cons _ (List.cons _ (List.cons _ (List.cons _ (List.cons _ (List.cons _ List.nil)))))))))))))))))))))))))))))))))))))))), _ => by kernel_rfl
  | (List.cons _ (List.cons _ (List.cons _ (List.cons _ (List.cons _ (List.cons _ (List.cons _ (List.cons _ (List.cons _ (List.cons _ (List.cons _ (List.cons _ (List.cons _ (List.cons _ (List.cons _ (List.cons _ (List.cons _ (List.cons _ (List.cons _ (List.cons _ (List.cons _ (List.cons _ (List.cons _ (List.cons _ (List.cons _ (List.cons _ (List.cons _ (List.cons _ (List.cons _ (List.cons _ (List.cons _ (List.cons _ (List.cons _ (List.cons _ (List.cons _ (List.cons _ (List.cons _ (List.cons _ (List.cons _ (List.cons _ (List.cons _ r))))))))))))))))))))))))))))))))))))))))), h => absurd h.2 (by simp only [List.length_cons]; omega)
end TZ

set_option Elab.async false
set_option linter.all false
set_option maxRecDepth 100000
set_option autoImplicit false
set_option maxHeartbeats 4000000
namespace TZ
open PySem
open PySem.Sem (wp)
/-- the refs of n objects laid one behind another -/
def refs (B n : Nat) : List Value := (List.range n).map fun j => .ref (B + j)
theorem refs_len (B n : Nat) : (refs B n).length = n := by simp [refs]
theorem refs_at {B n j : Nat} (h : j < n) : (refs B n)[j]? = some (.ref (B + j)) := by simp [refs, h]
theorem refs_drop {B n j : Nat} (h : j < n) : (refs B n).drop j = .ref (B + j) :: (refs B n).drop (j + 1) := by
  rw [List.drop_eq_getElem_cons (by rw [refs_len]; exact h)]
  simp [refs]
/-- a zip over tuples: its cells from B on, its rows below B -/
structure ZAt (h : Heap) (B : Nat) (R : List (Nat × Array Value)) (kk : Nat → Nat) (f0 : Value) (f1 : Bool) : Prop where
  z : h.get? (B + R.length + 2) = some { cls := .type "zip", dict := none, data := .fields #[f0, .bool f1, .bool false, .ref (B + R.length), .ref (B + R.length + 1)], slots := #[] }
  ti : h.get? (B + R.length) = some { cls := .type "tuple", data := .seq (refs B R.length).toArray }
  it : ∀ (j : Nat) (r : Nat × Array Value), R[j]? = some r → h.IsTupleIter (B + j) r.1 (kk j)
  row : ∀ (j : Nat) (r : Nat × Array Value), R[j]? = some r → h.IsTuple r.1 r.2 ∧ r.1 < B
section
variable {h h' : Heap} {B : Nat} {R : List (Nat × Array Value)} {kk kk' : Nat → Nat} {f0 : Value} {f1 : Bool} {a : Nat}
theorem ZAt.kept (x : ZAt h B R kk f0 f1) (k : ∀ c o, h.get? c = some o → h'.get? c = some o) : ZAt h' B R kk f0 f1 where
  z := k _ _ x.z
  ti := k _ _ x.ti
  it := fun j r e => let ⟨o, a, b⟩ := x.it j r e; ⟨o, k _ _ a, b⟩
  row := fun j r e => let ⟨⟨o, a, b⟩, c⟩ := x.row j r e; ⟨⟨o, k _ _ a, b⟩, c⟩
theorem lt_of_at {j : Nat} {r : Nat × Array Value} (e : R[j]? = some r) : j < R.length := by
  by_cases q : j < R.length
  · exact q
  · rw [List.getElem?_eq_none (by omega)] at e; cases e
theorem ZAt.away (x : ZAt h B R kk f0 f1) (k : ∀ (c : Nat) o, c ≠ a → h.get? c = some o → h'.get? c = some o) (ha : a = B + R.length + 1 ∨ B + R.length + 2 < a) : ZAt h' B R kk f0 f1 where
  z := k _ _ (by omega) x.z
  ti := k _ _ (by omega) x.ti
  it := fun j r e => let ⟨o, a, b⟩ := x.it j r e; ⟨o, k _ _ (by have := lt_of_at e; omega) a, b⟩
  row := fun j r e => let ⟨⟨o, a, b⟩, c⟩ := x.row j r e; ⟨⟨o, k _ _ (by omega) a, b⟩, c⟩
theorem ZAt.zed (x : ZAt h B R kk f0 f1) {g0 : Value} {g1 : Bool} (k : ∀ (c : Nat) o, c ≠ B + R.length + 2 → h.get? c = some o → h'.get? c = some o)
    (hz : h'.get? (B + R.length + 2) = some { cls := .type "zip", dict := none, data := .fields #[g0, .bool g1, .bool false, .ref (B + R.length), .ref (B + R.length + 1)], slots := #[] }) : ZAt h' B R kk g0 g1 where
  z := hz
  ti := k _ _ (by omega) x.ti
  it := fun j r e => let ⟨o, a, b⟩ := x.it j r e; ⟨o, k _ _ (by have := lt_of_at e; omega) a, b⟩
  row := fun j r e => let ⟨⟨o, a, b⟩, c⟩ := x.row j r e; ⟨⟨o, k _ _ (by omega) a, b⟩, c⟩
theorem ZAt.turn {i k : Nat} {r0 : Nat × Array Value} (x : ZAt h B R kk f0 f1) (hr : R[i]? = some r0) (k1 : ∀ (c : Nat) o, c ≠ B + i → h.get? c = some o → h'.get? c = some o) (ht : h'.IsTupleIter (B + i) r0.1 k)
    (hk : ∀ j, j < R.length → kk' j = if j = i then k else kk j) : ZAt h' B R kk' f0 f1 where
  z := k1 _ _ (by have := lt_of_at hr; omega) x.z
  ti := k1 _ _ (by have := lt_of_at hr; omega) x.ti
  it := fun j r e => by
    rw [hk j (lt_of_at e)]
    by_cases q : j = i
    · subst q
      rw [if_pos rfl]
      rw [hr] at e; cases e
      exact ht
    · rw [if_neg q]
      obtain ⟨o, a, b⟩ := x.it j r e
      exact ⟨o, k1 _ _ (by omega) a, b⟩
  row := fun j r e => let ⟨⟨o, a, b⟩, c⟩ := x.row j r e; ⟨⟨o, k1 _ _ (by omega) a, b⟩, c⟩
theorem ZAt.ext (x : ZAt h B R kk f0 f1) (hk : ∀ j, j < R.length → kk' j = kk j) : ZAt h B R kk' f0 f1 where
  z := x.z
  ti := x.ti
  it := fun j r e => by rw [hk j (lt_of_at e)]; exact x.it j r e
  row := x.row
end
/-- the values that a zip gives out next -/
structure Col (R : List (Nat × Array Value)) (k : Nat) (vs : List Value) : Prop where
  len : vs.length = R.length
  at_ : ∀ (j : Nat) (r : Nat × Array Value), R[j]? = some r → ∃ x, r.2[k]? = some x ∧ vs[j]? = some x
section
variable {prog : Program} {w : World} {A : Around} {E : Value → Shared → Prop} {s : Shared} {B : Nat} {R : List (Nat × Array Value)}
theorem next_held {T : Addr} {f : Bool} {oT : Obj} {k : Nat} {vs : List Value} {Q : Value → Shared → Prop} (hz : ZAt s.heap B R (fun _ => k) (rawInt T) f) (hT : s.heap.get? T = some oT) (hv : Col R k vs) (hsz : R.length ≤ sizeLine) (hR : R.length ≠ 0)
    (hQ : ∀ h', ZAt h' B R (fun _ => k + 1) (rawInt T) true → h'.get? s.heap.objs.size = some { cls := .type "tuple", data := .seq vs.toArray } → h'.objs.size = s.heap.objs.size + 1 →
      (∀ (c : Nat) o, (c < B ∨ B + R.length + 3 ≤ c) → s.heap.get? c = some o → h'.get? c = some o) → Q (.ref s.heap.objs.size) { s with heap := h' }) :
    wpAny (model prog w) A (Builtin.«zip.__next__» ⟨[.ref (B + R.length + 2)], []⟩) (fun fin s' => ∃ v, fin = .done (.ret v) ∧ Q v s') E s := by
  show wpAny _ _ (field (.ref (B + R.length + 2)) 2 >>= _) _ _ _
  refine wpAny_bind (wpAny_field hz.z rfl (x := .bool false) rfl ?_)
  show wpAny _ _ (field (.ref (B + R.length + 2)) 3 >>= _) _ _ _
  refine wpAny_bind (wpAny_field hz.z rfl (x := .ref (B + R.length)) rfl ?_)
  refine wpAny_bind (wpAny_seqItems hz.ti rfl ?_)
  have hne : ((refs B R.length).toArray.isEmpty = true) = (R.length = 0) := by
    simp [refs]
  dsimp only
  rw [if_neg (by rw [hne]; exact hR)]
  show wpAny _ _ (Builtin.SmallTypes.ownedTupleIsFree (.ref (B + R.length + 2)) >>= _) _ _ _
  refine wpAny_bind (wpAny_tupleHeld_zip hz.z hT fun h₁ hz₁ hs₁ => ?_)
  simp only [Bool.false_eq_true, if_false]
  have z1 : ZAt h₁ B R (fun _ => k) (rawInt T) true := hz.zed (fun c o n e => hs₁.extBut _ _ n e) hz₁
  refine wpAny_bind ?_
  rw [← Array.forIn_toList]
  refine wpAny_forIn_list _ (fun rest b s' => b.1 = none ∧ ∃ i h2, i ≤ R.length ∧ rest = (refs B R.length).drop i ∧ b.2.toList = vs.take i ∧ s' = { s with heap := h2 } ∧ ZAt h2 B R (fun j => if j < i then k + 1 else k) (rawInt T) true ∧ h2.objs.size = s.heap.objs.size ∧
    (∀ (c : Nat) o, (c < B ∨ B + R.length + 3 ≤ c) → s.heap.get? c = some o → h2.get? c = some o)) _ ?_ ?_ _ _ ?_
  · rintro x rest b s' ⟨hb, i, h2, hi, hrest, hb2, rfl, z2, sz2, k2⟩
    have hlt : i < R.length := by
      by_cases q : i < R.length
      · exact q
      · rw [List.drop_eq_nil_of_le (by rw [refs_len]; omega)] at hrest; cases hrest
    rw [refs_drop hlt] at hrest
    obtain ⟨rfl, rfl⟩ := List.cons.inj hrest
    obtain ⟨r, hr⟩ : ∃ r, R[i]? = some r := ⟨R[i], List.getElem?_eq_getElem hlt⟩
    obtain ⟨y, hy, hy2⟩ := hv.at_ i r hr
    have it2 := z2.it i r hr
    rw [if_neg (Nat.lt_irrefl i)] at it2
    refine wpAny_bind (wpAny_holding ?_)
    show wpAny _ _ (Builtin.SmallTypes.nextOf (.ref (B + i)) >>= _) _ _ _
    refine wpAny_bind (RZ.nextOf_tuple_item (s := { s with heap := h2 }) it2 (z2.row i r hr).1 hy fun h3 t3 s3 => wpAny_pure ?_)
    refine wpAny_pure ?_
    refine ⟨rfl, i + 1, h3, hlt, rfl, ?_, rfl, z2.turn hr (fun c o n e => s3.extBut _ _ n e) t3 fun j hj => ?_, by rw [s3.1, sz2], fun c o hc e => s3.extBut _ _ (show c ≠ B + i by omega) (k2 c o hc e)⟩
    · show (b.2.push y).toList = _
      rw [Array.toList_push, hb2, List.take_add_one, hy2]
      rfl
    · by_cases q : j = i
      · subst q; simp
      · rw [if_neg q]
        by_cases q2 : j < i
        · rw [if_pos q2, if_pos (by omega)]
        · rw [if_neg q2, if_neg (by omega)]
  · rintro b s' ⟨hb, i, h2, hi, hrest, hb2, rfl, z2, sz2, k2⟩
    have hie : i = R.length := by
      by_cases q : i < R.length
      · rw [refs_drop q] at hrest; cases hrest
      · omega
    subst hie
    obtain ⟨b1, b2⟩ := b
    simp only at hb hb2
    subst hb
    have ev : b2.toList = vs := by rw [hb2, ← hv.len, List.take_length]
    refine wpAny_bind (wpAny_newTuple ?_ (by rw [ev, hv.len]; exact hsz))
    refine wpAny_pure ⟨_, rfl, ?_⟩
    show Q (.ref h2.objs.size) _
    rw [ev, sz2]
    refine hQ _ ((z2.ext fun j hj => (if_pos hj).symm).kept fun c o e => Heap.get?_push_of_some _ e) ?_ ?_ fun c o hc e => Heap.get?_push_of_some _ (k2 c o hc e)
    · rw [← sz2]; exact Heap.get?_push_size _ rfl
    · rw [← sz2]; exact Heap.size_push ..
  · exact ⟨rfl, 0, h₁, Nat.zero_le _, rfl, rfl, rfl, z1, hs₁.1, fun c o hc e => hs₁.extBut _ _ (show c ≠ B + R.length + 2 by omega) e⟩
end
end TZ

set_option Elab.async false
set_option linter.all false
set_option maxRecDepth 100000
set_option autoImplicit false
set_option maxHeartbeats 4000000
namespace TZ
open PySem
open PySem.Sem (wp)
section
variable {prog : Program} {w : World} {A : Around} {E : Value → Shared → Prop} {s : Shared} {B : Nat} {R : List (Nat × Array Value)}
theorem zipIdx_drop {L : List Value} {i : Nat} (h : i < L.length) : L.zipIdx.drop i = (L[i], i) :: L.zipIdx.drop (i + 1) := by
  rw [List.drop_eq_getElem_cons (by simpa using h)]
  simp
theorem next_first {k : Nat} {vs : List Value} {own : Array Value} {Q : Value → Shared → Prop} (hz : ZAt s.heap B R (fun _ => k) .none false) (ho : s.heap.get? (B + R.length + 1) = some { cls := .type "tuple", data := .seq own }) (hos : own.size = R.length) (hv : Col R k vs) (hsz : R.length ≤ sizeLine) (hR : R.length ≠ 0)
    (hQ : ∀ h', ZAt h' B R (fun _ => k + 1) (rawInt s.heap.objs.size) false → h'.get? s.heap.objs.size = some { cls := .type "tuple", data := .seq vs.toArray } → h'.objs.size = s.heap.objs.size + 1 →
      (∀ (c : Nat) o, (c < B ∨ B + R.length + 3 ≤ c) → s.heap.get? c = some o → h'.get? c = some o) → Q (.ref s.heap.objs.size) { s with heap := h' }) :
    wpAny (model prog w) A (Builtin.«zip.__next__» ⟨[.ref (B + R.length + 2)], []⟩) (fun fin s' => ∃ v, fin = .done (.ret v) ∧ Q v s') E s := by
  show wpAny _ _ (field (.ref (B + R.length + 2)) 2 >>= _) _ _ _
  refine wpAny_bind (wpAny_field hz.z rfl (x := .bool false) rfl ?_)
  show wpAny _ _ (field (.ref (B + R.length + 2)) 3 >>= _) _ _ _
  refine wpAny_bind (wpAny_field hz.z rfl (x := .ref (B + R.length)) rfl ?_)
  refine wpAny_bind (wpAny_seqItems hz.ti rfl ?_)
  have hne : ((refs B R.length).toArray.isEmpty = true) = (R.length = 0) := by
    simp [refs]
  dsimp only
  rw [if_neg (by rw [hne]; exact hR)]
  show wpAny _ _ (Builtin.SmallTypes.ownedTupleIsFree (.ref (B + R.length + 2)) >>= _) _ _ _
  refine wpAny_bind ?_
  unfold Builtin.SmallTypes.ownedTupleIsFree
  refine wpAny_bind (wpAny_field hz.z rfl (x := .none) rfl (wpAny_pure ?_))
  simp only [if_true]
  refine wpAny_bind (wpAny_rule ?_)
  refine wpAny_bind (wpAny_field hz.z rfl (x := .ref (B + R.length + 1)) rfl ?_)
  refine wpAny_bind (wpAny_setField_rec hz.z (by simp) fun h₁ hz₁ hs₁ => ?_)
  have z1 : ZAt h₁ B R (fun _ => k) .ellipsis false := hz.zed (fun c o n e => hs₁.extBut _ _ n e) hz₁
  have o1 : h₁.get? (B + R.length + 1) = some { cls := .type "tuple", data := .seq own } := hs₁.extBut _ _ (show B + R.length + 1 ≠ B + R.length + 2 by omega) ho
  refine wpAny_bind ?_
  refine wpAny_forIn_list _ (fun rest b s' => b.1 = none ∧ ∃ (i : Nat) (h2 : Heap) (ow : Array Value), i ≤ R.length ∧ rest = (refs B R.length).toArray.toList.zipIdx.drop i ∧ s' = { s with heap := h2 } ∧ ZAt h2 B R (fun j => if j < i then k + 1 else k) .ellipsis false ∧ h2.objs.size = s.heap.objs.size ∧
    h2.get? (B + R.length + 1) = some { cls := .type "tuple", data := .seq ow } ∧ ow.size = R.length ∧ (∀ j, j < i → ow[j]? = vs[j]?) ∧
    (∀ (c : Nat) o, (c < B ∨ B + R.length + 3 ≤ c) → s.heap.get? c = some o → h2.get? c = some o)) _ ?_ ?_ _ _ ?_
  · rintro x rest b s' ⟨hb, i, h2, ow, hi, hrest, rfl, z2, sz2, o2, os2, ov2, k2⟩
    have hlt : i < R.length := by
      by_cases q : i < R.length
      · exact q
      · rw [List.drop_eq_nil_of_le (by rw [List.length_zipIdx]; simp [refs_len]; omega)] at hrest; cases hrest
    rw [zipIdx_drop (by simpa [refs_len] using hlt)] at hrest
    obtain ⟨rfl, rfl⟩ := List.cons.inj hrest
    have eref : (refs B R.length).toArray.toList[i]'(by simpa [refs_len] using hlt) = .ref (B + i) := by simp [refs]
    obtain ⟨r, hr⟩ : ∃ r, R[i]? = some r := ⟨R[i], List.getElem?_eq_getElem hlt⟩
    obtain ⟨y, hy, hy2⟩ := hv.at_ i r hr
    have it2 := z2.it i r hr
    rw [if_neg (Nat.lt_irrefl i)] at it2
    rw [eref]
    dsimp only
    refine wpAny_bind (wpAny_onRaise ?_)
    show wpAny _ _ (Builtin.SmallTypes.nextOf (.ref (B + i)) >>= _) _ _ _
    refine wpAny_bind (RZ.nextOf_tuple_item (s := { s with heap := h2 }) it2 (z2.row i r hr).1 hy fun h3 t3 s3 => wpAny_pure ?_)
    have z3 : ZAt h3 B R (fun j => if j < i + 1 then k + 1 else k) .ellipsis false := z2.turn hr (fun c o n e => s3.extBut _ _ n e) t3 fun j hj => by
      by_cases q : j = i
      · subst q; simp
      · rw [if_neg q]
        by_cases q2 : j < i
        · rw [if_pos q2, if_pos (by omega)]
        · rw [if_neg q2, if_neg (by omega)]
    have o3 : h3.get? (B + R.length + 1) = some { cls := .type "tuple", data := .seq ow } := s3.extBut _ _ (show B + R.length + 1 ≠ B + i by omega) o2
    refine wpAny_bind (wpAny_seqItems o3 rfl ?_)
    refine wpAny_bind (wpAny_updateSeq o3 rfl ?_ (by rw [os2]; exact hsz) (by rw [Array.size_setIfInBounds, os2]; omega))
    have o4 : (h3.update (B + R.length + 1) (Obj.mapSeq fun x => x.setIfInBounds i y)).get? (B + R.length + 1) = some { cls := .type "tuple", data := .seq (ow.setIfInBounds i y) } := by
      rw [Heap.get?_update_self (Obj.mapSeq (fun x => x.setIfInBounds i y)) o3 rfl]
      simp [Obj.mapSeq]
    have s4 : ∀ (c : Nat) o, c ≠ B + R.length + 1 → h3.get? c = some o → (h3.update (B + R.length + 1) (Obj.mapSeq fun x => x.setIfInBounds i y)).get? c = some o := fun c o n e => (Heap.get?_update_other _ _ (Ne.symm n)).trans e
    refine wpAny_bind (wpAny_letGo (wpAny_pure ?_))
    refine ⟨rfl, i + 1, _, ow.setIfInBounds i y, hlt, rfl, rfl, z3.away (a := B + R.length + 1) s4 (.inl rfl), ?_, o4, by rw [Array.size_setIfInBounds, os2], fun j hj => ?_, fun c o hc e => s4 c o (by omega) (s3.extBut _ _ (show c ≠ B + i by omega) (k2 c o hc e))⟩
    · rw [← sz2, ← s3.1]; exact Heap.size_update ..
    · rw [Array.getElem?_setIfInBounds]
      by_cases q : i = j
      · subst q
        rw [if_pos rfl, if_pos (by rw [os2]; exact hlt), hy2]
      · rw [if_neg q]
        exact ov2 j (by omega)
  · rintro b s' ⟨hb, i, h2, ow, hi, hrest, rfl, z2, sz2, o2, os2, ov2, k2⟩
    have hie : i = R.length := by
      by_cases q : i < R.length
      · rw [zipIdx_drop (by simpa [refs_len] using q)] at hrest; cases hrest
      · omega
    subst hie
    obtain ⟨b1, b2⟩ := b
    simp only at hb
    subst hb
    have ev : ow.toList = vs := by
      apply List.ext_getElem?
      intro j
      rw [Array.getElem?_toList]
      by_cases q : j < R.length
      · exact ov2 j q
      · rw [Array.getElem?_eq_none (by omega), List.getElem?_eq_none (by rw [hv.len]; omega)]
    refine wpAny_bind (wpAny_seqItems o2 rfl ?_)
    refine wpAny_bind (wpAny_newTuple ?_ (by rw [ev, hv.len]; exact hsz))
    show wpAny _ _ (Builtin.SmallTypes.ownedTupleHandOut (.ref (B + R.length + 2)) (.ref h2.objs.size) >>= _) _ _ _
    refine wpAny_bind ?_
    unfold Builtin.SmallTypes.ownedTupleHandOut
    rw [ev]
    have z3 : ZAt (h2.push { cls := .type "tuple", data := .seq vs.toArray }) B R (fun _ => k + 1) .ellipsis false := (z2.ext fun j hj => (if_pos hj).symm).kept fun c o e => Heap.get?_push_of_some _ e
    refine wpAny_bind (wpAny_setField_rec z3.z (by simp) fun h₇ hz₇ hs₇ => ?_)
    refine wpAny_setField_rec hz₇ (by simp) fun h₈ hz₈ hs₈ => ?_
    have z8 : ZAt h₈ B R (fun _ => k + 1) (rawInt h2.objs.size) false := z3.zed (fun c o n e => hs₈.extBut _ _ n (hs₇.extBut _ _ n e)) hz₈
    refine wpAny_pure ⟨_, rfl, ?_⟩
    show Q (.ref h2.objs.size) _
    rw [sz2] at z8 ⊢
    have zlt : B + R.length + 2 < h2.objs.size := Heap.lt_size z2.z
    refine hQ h₈ z8 ?_ ?_ fun c o hc e => hs₈.extBut _ _ (show c ≠ B + R.length + 2 by omega) (hs₇.extBut _ _ (show c ≠ B + R.length + 2 by omega) (Heap.get?_push_of_some _ (k2 c o hc e)))
    · rw [← sz2]
      exact hs₈.extBut _ _ (Nat.ne_of_gt zlt) (hs₇.extBut _ _ (Nat.ne_of_gt zlt) (Heap.get?_push_size _ rfl))
    · rw [← sz2, hs₈.1, hs₇.1]; exact Heap.size_push ..
  · exact ⟨rfl, 0, h₁, own, Nat.zero_le _, rfl, rfl, z1, hs₁.1, o1, hos, fun j hj => absurd hj (by omega), fun c o hc e => hs₁.extBut _ _ (show c ≠ B + R.length + 2 by omega) e⟩
/-- the first iterator is at its end -/
theorem next_end {T : Addr} {f : Bool} {oT : Obj} {k : Nat} {r0 : Nat × Array Value} {Q : Fin → Shared → Prop} (hh : A.handled = none) (hz : ZAt s.heap B R (fun _ => k) (rawInt T) f) (hT : s.heap.get? T = some oT) (h0 : R[0]? = some r0) (hend : r0.2[k]? = none)
    (hE : ∀ h' e, (∀ (c : Nat) o, (c < B ∨ B + R.length + 3 ≤ c) → s.heap.get? c = some o → h'.get? c = some o) → (∃ o, h'.get? e = some o ∧ o.cls = .type "StopIteration") → E (.ref e) { s with heap := h' }) :
    wpAny (model prog w) A (Builtin.«zip.__next__» ⟨[.ref (B + R.length + 2)], []⟩) Q E s := by
  have hR : R.length ≠ 0 := by have := lt_of_at h0; omega
  show wpAny _ _ (field (.ref (B + R.length + 2)) 2 >>= _) _ _ _
  refine wpAny_bind (wpAny_field hz.z rfl (x := .bool false) rfl ?_)
  show wpAny _ _ (field (.ref (B + R.length + 2)) 3 >>= _) _ _ _
  refine wpAny_bind (wpAny_field hz.z rfl (x := .ref (B + R.length)) rfl ?_)
  refine wpAny_bind (wpAny_seqItems hz.ti rfl ?_)
  have hne : ((refs B R.length).toArray.isEmpty = true) = (R.length = 0) := by
    simp [refs]
  dsimp only
  rw [if_neg (by rw [hne]; exact hR)]
  show wpAny _ _ (Builtin.SmallTypes.ownedTupleIsFree (.ref (B + R.length + 2)) >>= _) _ _ _
  refine wpAny_bind (wpAny_tupleHeld_zip hz.z hT fun h₁ hz₁ hs₁ => ?_)
  simp only [Bool.false_eq_true, if_false]
  have z1 : ZAt h₁ B R (fun _ => k) (rawInt T) true := hz.zed (fun c o n e => hs₁.extBut _ _ n e) hz₁
  refine wpAny_bind ?_
  rw [← Array.forIn_toList]
  have e0 : (refs B R.length).toArray.toList = .ref (B + 0) :: (refs B R.length).drop 1 := by
    have := refs_drop (B := B) (n := R.length) (j := 0) (by omega)
    simpa using this
  rw [e0, List.forIn_cons]
  refine wpAny_bind (wpAny_bind (wpAny_holding ?_))
  show wpAny _ _ (Builtin.SmallTypes.nextOf (.ref (B + 0)) >>= _) _ _ _
  refine wpAny_bind (RZ.nextOf_tuple_end (s := { s with heap := h₁ }) hh (z1.it 0 r0 h0) (z1.row 0 r0 h0).1 hend fun h₂ e hs₂ he => ?_)
  exact hE h₂ e (fun c o hc e => hs₂ _ _ (show c ≠ B + 0 by omega) (hs₁.extBut _ _ (show c ≠ B + R.length + 2 by omega) e)) he
theorem pyNext_first {k : Nat} {vs : List Value} {own : Array Value} {Q : Option Value → Shared → Prop} (hz : ZAt s.heap B R (fun _ => k) .none false) (ho : s.heap.get? (B + R.length + 1) = some { cls := .type "tuple", data := .seq own }) (hos : own.size = R.length) (hv : Col R k vs) (hsz : R.length ≤ sizeLine) (hR : R.length ≠ 0)
    (hQ : ∀ h', ZAt h' B R (fun _ => k + 1) (rawInt s.heap.objs.size) false → h'.get? s.heap.objs.size = some { cls := .type "tuple", data := .seq vs.toArray } → h'.objs.size = s.heap.objs.size + 1 →
      (∀ (c : Nat) o, (c < B ∨ B + R.length + 3 ≤ c) → s.heap.get? c = some o → h'.get? c = some o) → Q (some (.ref s.heap.objs.size)) { s with heap := h' }) :
    wpAny (model prog w) A (pyNext (.ref (B + R.length + 2))) Q E s := by
  have hT : s.TypeIs (.ref (B + R.length + 2)) "zip" := ⟨_, hz.z, rfl⟩
  unfold pyNext
  exact wpAny_bind (wpAny_attempt (wpAny_callSpecial?_slot (name := Str.ofString "__next__") hT F.slot_zip_next
    (wpAny_call_entry F.slot_zip_next hT F.entry_zip_next
      (next_first hz ho hos hv hsz hR fun h' a1 a2 a3 a4 => wpAny_pure (hQ h' a1 a2 a3 a4)) (F.args_zip_next_1 _))))
theorem pyNext_held {T : Addr} {f : Bool} {oT : Obj} {k : Nat} {vs : List Value} {Q : Option Value → Shared → Prop} (hz : ZAt s.heap B R (fun _ => k) (rawInt T) f) (hT : s.heap.get? T = some oT) (hv : Col R k vs) (hsz : R.length ≤ sizeLine) (hR : R.length ≠ 0)
    (hQ : ∀ h', ZAt h' B R (fun _ => k + 1) (rawInt T) true → h'.get? s.heap.objs.size = some { cls := .type "tuple", data := .seq vs.toArray } → h'.objs.size = s.heap.objs.size + 1 →
      (∀ (c : Nat) o, (c < B ∨ B + R.length + 3 ≤ c) → s.heap.get? c = some o → h'.get? c = some o) → Q (some (.ref s.heap.objs.size)) { s with heap := h' }) :
    wpAny (model prog w) A (pyNext (.ref (B + R.length + 2))) Q E s := by
  have hTy : s.TypeIs (.ref (B + R.length + 2)) "zip" := ⟨_, hz.z, rfl⟩
  unfold pyNext
  exact wpAny_bind (wpAny_attempt (wpAny_callSpecial?_slot (name := Str.ofString "__next__") hTy F.slot_zip_next
    (wpAny_call_entry F.slot_zip_next hTy F.entry_zip_next
      (next_held hz hT hv hsz hR fun h' a1 a2 a3 a4 => wpAny_pure (hQ h' a1 a2 a3 a4)) (F.args_zip_next_1 _))))
theorem pyNext_end {T : Addr} {f : Bool} {oT : Obj} {k : Nat} {r0 : Nat × Array Value} {Q : Option Value → Shared → Prop} (hh : A.handled = none) (hz : ZAt s.heap B R (fun _ => k) (rawInt T) f) (hT : s.heap.get? T = some oT) (h0 : R[0]? = some r0) (hend : r0.2[k]? = none)
    (hQ : ∀ h', (∀ (c : Nat) o, (c < B ∨ B + R.length + 3 ≤ c) → s.heap.get? c = some o → h'.get? c = some o) → Q none { s with heap := h' }) :
    wpAny (model prog w) A (pyNext (.ref (B + R.length + 2))) Q E s := by
  have hTy : s.TypeIs (.ref (B + R.length + 2)) "zip" := ⟨_, hz.z, rfl⟩
  unfold pyNext
  refine wpAny_bind (wpAny_attempt (wpAny_callSpecial?_slot (name := Str.ofString "__next__") hTy F.slot_zip_next
    (wpAny_call_entry F.slot_zip_next hTy F.entry_zip_next (next_end hh hz hT h0 hend fun h' e hk he => ?_) (F.args_zip_next_1 _))))
  obtain ⟨o, ho, hc⟩ := he
  refine wpAny_bind (wpAny_isInstance (T := "StopIteration") (b := true) ⟨o, ho, hc⟩ isSubtype_stop ?_)
  exact wpAny_pure (hQ _ hk)
end
end TZ

set_option Elab.async false
set_option linter.all false
set_option maxRecDepth 100000
set_option autoImplicit false
set_option maxHeartbeats 4000000
namespace TZ
open PySem
open PySem.Sem (wp)
theorem refs_push (B n : Nat) : (refs B n).toArray.push (.ref (B + n)) = (refs B (n + 1)).toArray := by
  simp [refs, List.range_succ]
theorem zip_no_len : typeLookup (.type "zip") "__len__" = pure none := by rw [typeLookup_type, builtinLookup_eq_fast]; kernel_rfl
theorem zip_no_hint : typeLookup (.type "zip") "__length_hint__" = pure none := by rw [typeLookup_type, builtinLookup_eq_fast]; kernel_rfl
/-- a zip that has given out i tuples, the first of them at N -/
def ZSt (h : Heap) (B N : Nat) (R : List (Nat × Array Value)) (i : Nat) : Prop :=
  (i = 0 ∧ ZAt h B R (fun _ => 0) .none false ∧ ∃ own : Array Value, own.size = R.length ∧ h.get? (B + R.length + 1) = some { cls := .type "tuple", data := .seq own }) ∨ (0 < i ∧ ∃ f, ZAt h B R (fun _ => i) (rawInt N) f)
theorem ZSt.z {h : Heap} {B N : Nat} {R : List (Nat × Array Value)} {i : Nat} (x : ZSt h B N R i) : ∃ o, h.get? (B + R.length + 2) = some o ∧ o.cls = .type "zip" := by
  rcases x with ⟨_, z, _⟩ | ⟨_, f, z⟩
  · exact ⟨_, z.z, rfl⟩
  · exact ⟨_, z.z, rfl⟩
theorem ZSt.away {h h' : Heap} {B N a : Nat} {R : List (Nat × Array Value)} {i : Nat} (x : ZSt h B N R i) (k : ∀ (c : Nat) o, c ≠ a → h.get? c = some o → h'.get? c = some o) (ha : B + R.length + 2 < a) : ZSt h' B N R i := by
  rcases x with ⟨e, z, own, o1, o2⟩ | ⟨e, f, z⟩
  · exact .inl ⟨e, z.away k (.inr ha), own, o1, k _ _ (by omega) o2⟩
  · exact .inr ⟨e, f, z.away k (.inr ha)⟩
section
variable {prog : Program} {w : World} {A : Around} {Rr : Result → Shared → Prop} {B N S : Nat} {R : List (Nat × Array Value)} {cols : List (List Value)}
theorem loop_zip (hh : A.in1.handled = none) (hsz : R.length ≤ sizeLine) (hcl : cols.length ≤ sizeLine) (hR : R.length ≠ 0) (hS : B + R.length + 3 ≤ S) (hN : S < N) (hc : ∀ (j : Nat) vs, cols[j]? = some vs → Col R j vs) (hend : ∀ r0, R[0]? = some r0 → r0.2[cols.length]? = none) (hpos : 0 < cols.length) (res : Value) :
    ∀ (k i : Nat) (s : Shared) (c : Nat), cols.length - i = k → i ≤ cols.length → ZSt s.heap B N R i → s.heap.get? S = some { cls := .type "list", dict := none, data := .seq (refs N i).toArray c, slots := #[] } → s.heap.objs.size = N + i →
    (∀ (j : Nat) vs, j < i → cols[j]? = some vs → s.heap.get? (N + j) = some { cls := .type "tuple", data := .seq vs.toArray }) →
    (∀ h' c', (∀ (b : Nat) o, b < B → s.heap.get? b = some o → h'.get? b = some o) → h'.get? S = some { cls := .type "list", dict := none, data := .seq (refs N cols.length).toArray c', slots := #[] } →
      (∀ (j : Nat) vs, cols[j]? = some vs → h'.get? (N + j) = some { cls := .type "tuple", data := .seq vs.toArray }) → Rr (.ok (.ret res)) { s with heap := h' }) →
    codeAny (model prog w) A (.builtin "list.extend.loop" ⟨[.ref S, .ref (B + R.length + 2), res], []⟩) Rr s := by
  intro k
  induction k with
  | zero =>
    intro i s c hk hi hst hSl hsize htup hR'
    have hin : i = cols.length := by omega
    subst hin
    refine codeAny_builtin F.entry_extend_loop ?_
    rw [Around.under_plainId F.plain_extend_loop _]
    show wpAny _ A.in1 (pyNext (.ref (B + R.length + 2)) >>= _) _ _ s
    rcases hst with ⟨e, _⟩ | ⟨_, f, z⟩
    · omega
    · obtain ⟨r0, hr0⟩ : ∃ r0, R[0]? = some r0 := ⟨R[0], List.getElem?_eq_getElem (by omega)⟩
      obtain ⟨v0, hv0⟩ : ∃ v0, cols[0]? = some v0 := ⟨cols[0], List.getElem?_eq_getElem hpos⟩
      refine wpAny_bind (pyNext_end hh z (htup 0 v0 hpos hv0) hr0 (hend r0 hr0) fun h' hk' => ?_)
      refine wpAny_pure (hR' h' c (fun b o hb e => hk' b o (.inl hb) e) (hk' S _ (.inr hS) hSl) fun j vs e => hk' _ _ (.inr (by omega)) (htup j vs ?_ e))
      by_cases q : j < cols.length
      · exact q
      · rw [List.getElem?_eq_none (by omega)] at e; cases e
  | succ k ih =>
    intro i s c hk hi hst hSl hsize htup hR'
    have hlt : i < cols.length := by omega
    obtain ⟨vs, hvs⟩ : ∃ vs, cols[i]? = some vs := ⟨cols[i], List.getElem?_eq_getElem hlt⟩
    have hcol := hc i vs hvs
    refine codeAny_builtin F.entry_extend_loop ?_
    rw [Around.under_plainId F.plain_extend_loop _]
    show wpAny _ A.in1 (pyNext (.ref (B + R.length + 2)) >>= _) _ _ s
    have step : ∀ (Q : Option Value → Shared → Prop) (E : Value → Shared → Prop), (∀ h', ZSt h' B N R (i + 1) → h'.get? s.heap.objs.size = some { cls := .type "tuple", data := .seq vs.toArray } → h'.objs.size = s.heap.objs.size + 1 →
        (∀ (c : Nat) o, (c < B ∨ B + R.length + 3 ≤ c) → s.heap.get? c = some o → h'.get? c = some o) → Q (some (.ref s.heap.objs.size)) { s with heap := h' }) → wpAny (model prog w) A.in1 (pyNext (.ref (B + R.length + 2))) Q E s := by
      intro Q E hQ
      rcases hst with ⟨e, z, own, o1, o2⟩ | ⟨e, f, z⟩
      · subst e
        refine pyNext_first z o2 o1 hcol hsz hR fun h' a1 a2 a3 a4 => hQ h' (.inr ⟨by omega, false, ?_⟩) a2 a3 a4
        rw [hsize] at a1
        exact a1
      · obtain ⟨v0, hv0⟩ : ∃ v0, cols[0]? = some v0 := ⟨cols[0], List.getElem?_eq_getElem hpos⟩
        exact pyNext_held z (htup 0 v0 e hv0) hcol hsz hR fun h' a1 a2 a3 a4 => hQ h' (.inr ⟨by omega, true, a1⟩) a2 a3 a4
    refine wpAny_bind (step _ _ fun h' z' t' sz' k' => ?_)
    have hS' := k' S _ (.inr hS) hSl
    show wpAny _ A.in1 (updateSeq S (·.push (.ref s.heap.objs.size)) >>= _) _ _ _
    refine wpAny_bind ?_
    have fr : ∀ (b : Nat) o, b ≠ S → h'.get? b = some o → (h'.update S (Obj.mapSeq (·.push (Value.ref s.heap.objs.size)))).get? b = some o := fun b o n e => (Heap.get?_update_other _ _ (Ne.symm n)).trans e
    refine wpAny_updateSeq hS' rfl (wpAny_pure ⟨plainId_quiet F.plain_extend_loop _, ih (i + 1) _ (if ((refs N i).toArray.push (Value.ref s.heap.objs.size)).size == (refs N i).toArray.size then c else c + 1) (by omega) hlt (z'.away fr (by omega)) ?_ ?_ ?_ fun h'' c'' f1 f2 f3 => hR' h'' c'' (fun b o hb e => f1 b o hb (fr b o (by omega) (k' b o (.inl hb) e))) f2 f3⟩) (by simp [refs]; omega) (by simp [refs]; omega)
    · rw [← refs_push, ← hsize]
      exact Heap.get?_update_self _ hS' rfl
    · show (h'.update S _).objs.size = _
      rw [← Nat.add_assoc, ← hsize, ← sz']
      exact Heap.size_update ..
    · intro j us hj e
      refine fr _ _ (by omega) ?_
      by_cases q : j = i
      · subst q
        rw [hvs] at e; cases e
        rw [← hsize]
        exact t'
      · exact k' _ _ (.inr (by omega)) (htup j us (by omega) e)
end
end TZ

set_option Elab.async false
set_option linter.all false
set_option maxRecDepth 100000
set_option autoImplicit false
set_option maxHeartbeats 4000000
namespace TZ
open PySem
open PySem.Sem (wp)
section
variable {prog : Program} {w : World} {A : Around} {E : Value → Shared → Prop} {s : Shared} {B S : Nat} {R : List (Nat × Array Value)} {cols : List (List Value)}
theorem collect_zip {Q : List Value → Shared → Prop} (hh : A.in1.handled = none) (hsz : R.length ≤ sizeLine) (hcl : cols.length ≤ sizeLine) (hR : R.length ≠ 0) (hS : B + R.length + 3 ≤ S) (hSs : s.heap.objs.size = S) (hc : ∀ (j : Nat) vs, cols[j]? = some vs → Col R j vs) (hend : ∀ r0, R[0]? = some r0 → r0.2[cols.length]? = none) (hpos : 0 < cols.length)
    (hst : ZSt s.heap B (S + 1) R 0)
    (hQ : ∀ h', (∀ (b : Nat) o, b < B → s.heap.get? b = some o → h'.get? b = some o) → (∀ (j : Nat) vs, cols[j]? = some vs → h'.get? (S + 1 + j) = some { cls := .type "tuple", data := .seq vs.toArray }) → Q (refs (S + 1) cols.length) { s with heap := h' }) :
    wpAny (model prog w) A (collect (.ref (B + R.length + 2))) Q E s := by
  have hSI : S ≠ B + R.length + 2 := by omega
  unfold collect
  refine wpAny_bind (wpAny_runValue (codeAny_builtin F.entry_proto_collect ?_))
  rw [Around.under_plainId F.plain_proto_collect _]
  show wpAny _ A.in1 (newList [] >>= fun l => again (.builtin "list.__iadd__" ⟨[l, .ref (B + R.length + 2)], []⟩)) _ _ s
  refine wpAny_bind (wpAny_newObj_type ?_)
  refine wpAny_pure ⟨plainId_quiet F.plain_list_iadd _, codeAny_builtin F.entry_list_iadd ?_⟩
  rw [Around.under_plainId F.plain_list_iadd _]
  have k1 : ∀ (b : Nat) o, s.heap.get? b = some o → (s.heap.push { cls := .type "list", data := .seq ([] : List Value).toArray }).get? b = some o := fun b o e => Heap.get?_push_of_some _ e
  have st1 : ZSt (s.heap.push { cls := .type "list", data := .seq ([] : List Value).toArray }) B (S + 1) R 0 := hst.away (a := S) (fun c o _ e => k1 c o e) (by omega)
  show wpAny _ A.in1 (Builtin.List.listExtendWith (.ref s.heap.objs.size) (.ref (B + R.length + 2)) (.ref s.heap.objs.size)) _ _ _
  rw [hSs]
  have hS₁ : (s.heap.push { cls := .type "list", data := .seq ([] : List Value).toArray }).get? S = some { cls := .type "list", data := .seq ([] : List Value).toArray } := by rw [← hSs]; exact Heap.get?_push_size _ rfl
  have sz1 : (s.heap.push { cls := .type "list", data := .seq ([] : List Value).toArray }).objs.size = S + 1 := by rw [← hSs]; exact Heap.size_push ..
  generalize s.heap.push { cls := .type "list", data := .seq ([] : List Value).toArray } = h1 at *
  have hT : ∀ tk, ({ s with heap := h1, toks := tk } : Shared).TypeIs (.ref (B + R.length + 2)) "zip" := fun tk => by
    obtain ⟨o, e, c⟩ := st1.z
    exact ⟨o, e, c⟩
  unfold Builtin.List.listExtendWith
  refine wpAny_bind (wpAny_typeOf (hT _) ?_)
  have h1' : Builtin.List.listSameRef (.ref S) (.ref (B + R.length + 2)) = false := by simp [Builtin.List.listSameRef, hSI]
  have h2 : (Value.type "zip" == Value.type "list") = false := by decide
  have h3 : (Value.type "zip" == Value.type "tuple") = false := by decide
  simp only [h1', h2, h3, Bool.or_false, Bool.false_eq_true, if_false]
  have hself : ∀ (Q : Value → Shared → Prop) (E : Value → Shared → Prop) (A : Around), Q (.ref (B + R.length + 2)) ({ s with heap := h1 } : Shared) → wpAny (model prog w) A (pyIter (.ref (B + R.length + 2))) Q E ({ s with heap := h1 } : Shared) := by
    intro Q E A q
    rcases st1 with ⟨_, z, _⟩ | ⟨z, _⟩
    · exact wpAny_pyIter_zip z.z q
    · omega
  refine wpAny_bind (hself _ _ _ ?_)
  refine wpAny_bind (wpAny_holding ?_)
  unfold Builtin.List.listLengthHint
  refine wpAny_bind (wpAny_specialOf (hT _) zip_no_len ?_)
  show wpAny _ A.in1 (specialOf (Value.ref (B + R.length + 2)) (Str.ofString "__length_hint__") >>= _) _ _ _
  refine wpAny_bind (wpAny_specialOf (hT _) zip_no_hint ?_)
  refine wpAny_pure ?_
  show wpAny _ A.in1 (rule "list.extend.makes-room" >>= fun _ => Builtin.List.listTouch (.ref S) >>= fun _ =>
    again (.builtin "list.extend.loop" ⟨[.ref S, .ref (B + R.length + 2), .ref S], []⟩)) _ _ _
  refine wpAny_bind (wpAny_rule ?_)
  refine wpAny_bind ?_
  show wpAny _ A.in1 (updateSeq S (·.push .none) >>= fun _ => updateSeq S (·.pop)) _ _ _
  refine wpAny_bind (wpAny_updateSeq hS₁ rfl ?_)
  have hS₂ := Heap.get?_update_self (Obj.mapSeq (·.push Value.none)) hS₁ rfl
  refine wpAny_updateSeq hS₂ rfl ?_
  have hS₃ := Heap.get?_update_self (Obj.mapSeq (·.pop)) hS₂ rfl
  have oth : ∀ (b : Nat) o, b ≠ S → h1.get? b = some o → ((h1.update S (Obj.mapSeq (·.push Value.none))).update S (Obj.mapSeq (·.pop))).get? b = some o :=
    fun b o hb e => (Heap.get?_update_other _ _ (Ne.symm hb)).trans ((Heap.get?_update_other _ _ (Ne.symm hb)).trans e)
  have sz3 : ((h1.update S (Obj.mapSeq (·.push Value.none))).update S (Obj.mapSeq (·.pop))).objs.size = S + 1 := by
    rw [Heap.size_update, Heap.size_update, sz1]
  refine wpAny_pure ⟨plainId_quiet F.plain_extend_loop _, loop_zip hh hsz hcl hR hS (Nat.lt_succ_self S) hc hend hpos (.ref S) cols.length 0 _ _ rfl (Nat.zero_le _) (st1.away oth (by omega)) hS₃ sz3 (fun j vs hj => absurd hj (by omega)) fun h' c' f1 f2 f3 => ?_⟩
  show wpAny _ A (load S >>= _) _ _ _
  refine wpAny_bind (wpAny_load f2 ?_)
  refine wpAny_pure (hQ h' (fun b o hb e => f1 b o hb (oth b o (by omega) (k1 b o e))) f3)
theorem code_tuple_new_zip {Q₁ : Value → Shared → Prop} (hh : A.in1.in1.handled = none) (hsz : R.length ≤ sizeLine) (hcl : cols.length ≤ sizeLine) (hR : R.length ≠ 0) (hS : B + R.length + 3 ≤ S) (hSs : s.heap.objs.size = S) (hc : ∀ (j : Nat) vs, cols[j]? = some vs → Col R j vs) (hend : ∀ r0, R[0]? = some r0 → r0.2[cols.length]? = none) (hpos : 0 < cols.length)
    (hst : ZSt s.heap B (S + 1) R 0)
    (hQ : ∀ h' T, S + 1 + cols.length ≤ T → (∀ (b : Nat) o, b < B → s.heap.get? b = some o → h'.get? b = some o) → (∀ (j : Nat) vs, cols[j]? = some vs → h'.get? (S + 1 + j) = some { cls := .type "tuple", data := .seq vs.toArray }) →
      h'.get? T = some { cls := .type "tuple", data := .seq (refs (S + 1) cols.length).toArray } → Q₁ (.ref T) { s with heap := h' }) :
    codeAny (model prog w) A (.call (.builtin "tuple.__new__") ⟨[.type "tuple", .ref (B + R.length + 2)], []⟩) (wants Q₁ E) s := by
  refine codeAny_of_tree ?_
  show wpAny _ A.in1 (do checkBuiltinCall "tuple.__new__" ⟨[.type "tuple", .ref (B + R.length + 2)], []⟩; again (.builtin "tuple.__new__" ⟨[.type "tuple", .ref (B + R.length + 2)], []⟩)) _ _ s
  refine wpAny_bind (wpAny_of_eq (F.newCall_tuple_1 _) (wpAny_pure ⟨plainId_quiet F.plain_tuple_new _, codeAny_builtin F.entry_tuple_new ?_⟩))
  rw [Around.under_plainId F.plain_tuple_new _]
  have hsub := sub_tuple_self
  have hinit := init_tuple_lookup
  have hmh := madeHere_tuple
  have hTI : s.TypeIs (.ref (B + R.length + 2)) "zip" := hst.z
  wp_walk using wpAny_typeOf hTI, collect_zip hh hsz hcl hR hS hSs hc hend hpos hst
  intro h' f1 f2
  show wpAny _ _ (Builtin.Tuple.tupleExact (refs (S + 1) cols.length).toArray >>= fun v => ret v) _ _ _
  unfold Builtin.Tuple.tupleExact
  refine wpAny_bind (wpAny_newObj_type ?_ (by show (refs (S + 1) cols.length).toArray.size ≤ sizeLine; simp [refs]; exact hcl))
  refine wpAny_pure ?_
  have hT : S + 1 + cols.length ≤ h'.objs.size := by
    obtain ⟨v, hv⟩ : ∃ v, cols[cols.length - 1]? = some v := ⟨cols[cols.length - 1], List.getElem?_eq_getElem (by omega)⟩
    have h9 : S + 1 + (cols.length - 1) < h'.objs.size := Heap.lt_size (f2 _ v hv)
    omega
  exact hQ _ h'.objs.size hT (fun b o hb e => Heap.get?_push_of_some _ (f1 b o hb e)) (fun j vs e => Heap.get?_push_of_some _ (f2 j vs e)) (Heap.get?_push_size _ rfl)
theorem call_tuple_zip {Q : Value → Shared → Prop} (hh : A.in1.in1.in1.handled = none) (hsz : R.length ≤ sizeLine) (hcl : cols.length ≤ sizeLine) (hR : R.length ≠ 0) (hS : B + R.length + 3 ≤ S) (hSs : s.heap.objs.size = S) (hc : ∀ (j : Nat) vs, cols[j]? = some vs → Col R j vs) (hend : ∀ r0, R[0]? = some r0 → r0.2[cols.length]? = none) (hpos : 0 < cols.length)
    (hst : ZSt s.heap B (S + 1) R 0)
    (hQ : ∀ h' T, S + 1 + cols.length ≤ T → (∀ (b : Nat) o, b < B → s.heap.get? b = some o → h'.get? b = some o) → (∀ (j : Nat) vs, cols[j]? = some vs → h'.get? (S + 1 + j) = some { cls := .type "tuple", data := .seq vs.toArray }) →
      h'.get? T = some { cls := .type "tuple", data := .seq (refs (S + 1) cols.length).toArray } → Q (.ref T) { s with heap := h' }) :
    wpAny (model prog w) A (call (.type "tuple") [.ref (B + R.length + 2)]) Q E s := by
  refine callType_codes (Q₁ := fun obj s₁ => s₁.TypeIs obj "tuple" ∧ Q obj s₁) F.called_tuple (F.typeCall_tuple_1 _) F.entry_object_init
    (code_tuple_new_zip hh hsz hcl hR hS hSs hc hend hpos hst fun h' T t0 f1 f2 f3 => ⟨⟨_, f3, rfl⟩, hQ h' T t0 f1 f2 f3⟩) fun obj s₁ h₁ => ?_
  exact ⟨h₁.1, F.args_object_init_2 obj _, object_init_meets F.called_tuple.init.lookup F.called_tuple.made (by decide) prog w A.in1 _ s₁ ⟨h₁.1, rfl, h₁.2⟩⟩
end
end TZ

set_option Elab.async false
set_option linter.all false
set_option maxRecDepth 100000
set_option autoImplicit false
set_option maxHeartbeats 4000000
namespace TZ
open PySem
open PySem.Sem (wp)
section
variable {prog : Program} {w : World} {A : Around} {E : Value → Shared → Prop} {s : Shared}
theorem iterAll_tups {ls : List Nat} {Q : Array Value → Shared → Prop} (ht : ∀ l ∈ ls, ∃ items, s.heap.IsTuple l items)
    (hQ : ∀ h', h'.objs.size = s.heap.objs.size + ls.length → (∀ (b : Nat) o, s.heap.get? b = some o → h'.get? b = some o) → (∀ (j l : Nat), ls[j]? = some l → h'.IsTupleIter (s.heap.objs.size + j) l 0) → Q (refs s.heap.objs.size ls.length).toArray { s with heap := h' }) :
    wpAny (model prog w) A (forIn (ls.map Value.ref) (#[] : Array Value) fun x its => do
      let r ← holding its.toList (pyIter x)
      pure (ForInStep.yield (its.push r))) Q E s := by
  refine wpAny_forIn_list _ (fun rest b s' => ∃ (i : Nat) (h2 : Heap), i ≤ ls.length ∧ rest = (ls.map Value.ref).drop i ∧ b = (refs s.heap.objs.size i).toArray ∧ s' = { s with heap := h2 } ∧ h2.objs.size = s.heap.objs.size + i ∧
    (∀ (b : Nat) o, s.heap.get? b = some o → h2.get? b = some o) ∧ (∀ (j l : Nat), j < i → ls[j]? = some l → h2.IsTupleIter (s.heap.objs.size + j) l 0)) _ ?_ ?_ _ _ ?_
  · rintro x rest b s' ⟨i, h2, hi, hrest, rfl, rfl, sz2, k2, t2⟩
    have hlt : i < ls.length := by
      by_cases q : i < ls.length
      · exact q
      · rw [List.drop_eq_nil_of_le (by rw [List.length_map]; omega)] at hrest; cases hrest
    rw [List.drop_eq_getElem_cons (by rw [List.length_map]; exact hlt)] at hrest
    obtain ⟨rfl, rfl⟩ := List.cons.inj hrest
    rw [List.getElem_map]
    obtain ⟨items, o, ho, r⟩ := ht ls[i] (List.getElem_mem hlt)
    refine wpAny_bind (wpAny_holding (wpAny_pyIter_tuple (s := { s with heap := h2 }) (items := items) ⟨o, k2 _ _ ho, r⟩ ?_))
    refine wpAny_pure ⟨i + 1, _, hlt, rfl, ?_, rfl, ?_, fun b o e => Heap.get?_push_of_some _ (k2 b o e), fun j l hj e => ?_⟩
    · rw [← refs_push]
      show ((refs s.heap.objs.size i).toArray.push (.ref h2.objs.size)) = _
      rw [sz2]
    · show (h2.push _).objs.size = _
      rw [Heap.size_push, sz2]; rfl
    · by_cases q : j = i
      · subst q
        rw [List.getElem?_eq_getElem hlt] at e
        cases e
        rw [← sz2]
        exact ⟨_, Heap.get?_push_size _ rfl, rfl, rfl⟩
      · obtain ⟨o, e1, e2⟩ := t2 j l (by omega) e
        exact ⟨o, Heap.get?_push_of_some _ e1, e2⟩
  · rintro b s' ⟨i, h2, hi, hrest, rfl, rfl, sz2, k2, t2⟩
    have hie : i = ls.length := by
      by_cases q : i < ls.length
      · rw [List.drop_eq_getElem_cons (by rw [List.length_map]; exact q)] at hrest; cases hrest
      · omega
    subst hie
    exact (hQ h2 sz2 k2 fun j l e => t2 j l (by
      by_cases q : j < ls.length
      · exact q
      · rw [List.getElem?_eq_none (by omega)] at e; cases e) e)
  · exact ⟨0, s.heap, Nat.zero_le _, rfl, rfl, rfl, rfl, fun _ _ e => e, fun j l hj => absurd hj (by omega)⟩
end
theorem meets_zipN (R : List (Nat × Array Value)) (hsz : R.length ≤ sizeLine) :
    Meets (Builtin.«zip.__new__» ⟨.type "zip" :: (R.map (·.1)).map Value.ref, []⟩) (fun _ Rr s => (∀ r ∈ R, s.heap.IsTuple r.1 r.2) ∧
      (∀ h', h'.objs.size = s.heap.objs.size + R.length + 3 → (∀ (b : Nat) o, s.heap.get? b = some o → h'.get? b = some o) → ZAt h' s.heap.objs.size R (fun _ => 0) .none false →
        h'.get? (s.heap.objs.size + R.length + 1) = some { cls := .type "tuple", data := .seq (Array.replicate R.length Value.none) } → Rr (.ok (.ret (.ref (s.heap.objs.size + R.length + 2)))) { s with heap := h' })) :=
  .of_wp fun prog w A Rr s h => by
    obtain ⟨hp, g, d, tk, os⟩ := s; obtain ⟨ht, h⟩ := h
    have hsub := sub_zip
    wp_walk
    refine iterAll_tups (s := ⟨hp, g, d, tk, os⟩) (ls := R.map (·.1)) (fun l hl => ?_) fun h' a1 a2 a3 => ?_
    · obtain ⟨r, hr, rfl⟩ := List.mem_map.mp hl
      exact ⟨r.2, ht r hr⟩
    rw [List.length_map] at a1 ⊢
    refine wpAny_pure ?_
    refine wpAny_bind (wpAny_newTuple ?_ (by simp [refs]; exact hsz))
    refine wpAny_bind (wpAny_newTuple ?_ (by simp [refs]; exact hsz))
    show wpAny _ _ (newObj (.type "zip") (.fields #[.none, .bool false, .bool false, _, _]) >>= _) _ _ _
    refine wpAny_bind (wpAny_newObj_type ?_)
    refine wpAny_pure ⟨_, rfl, ?_⟩
    have e1 : (refs hp.objs.size R.length).toArray.toList.toArray = (refs hp.objs.size R.length).toArray := by simp
    have e2 : (List.map (fun _ => Value.none) (refs hp.objs.size R.length).toArray.toList).toArray = Array.replicate R.length Value.none := by
      apply Array.toList_inj.mp
      have q : ∀ l : List Nat, List.map (fun _ => Value.none) l = List.replicate l.length Value.none := fun l => by induction l with | nil => rfl | cons a b ih => rw [List.map_cons, ih]; rfl
      have := q (List.range R.length)
      rw [List.length_range] at this
      simpa [refs, Function.comp_def] using this
    show Rr (.ok (.ret (.ref (((h'.push { cls := .type "tuple", data := .seq (refs hp.objs.size R.length).toArray.toList.toArray }).push { cls := .type "tuple", data := .seq (List.map (fun _ => Value.none) (refs hp.objs.size R.length).toArray.toList).toArray }).objs.size))))
      ⟨((h'.push { cls := .type "tuple", data := .seq (refs hp.objs.size R.length).toArray.toList.toArray }).push { cls := .type "tuple", data := .seq (List.map (fun _ => Value.none) (refs hp.objs.size R.length).toArray.toList).toArray }).push
        { cls := .type "zip", data := .fields #[.none, .bool false, .bool false, .ref h'.objs.size, .ref (h'.push { cls := .type "tuple", data := .seq (refs hp.objs.size R.length).toArray.toList.toArray }).objs.size] }, g, d, tk, os⟩
    rw [e1, e2]
    have s1 : (h'.push { cls := .type "tuple", data := .seq (refs hp.objs.size R.length).toArray }).objs.size = hp.objs.size + R.length + 1 := by rw [Heap.size_push, a1]
    have g1 : (h'.push { cls := .type "tuple", data := .seq (refs hp.objs.size R.length).toArray }).get? (hp.objs.size + R.length) = some { cls := .type "tuple", data := .seq (refs hp.objs.size R.length).toArray } := by
      have := Heap.get?_push_size h' (o := { cls := .type "tuple", data := .seq (refs hp.objs.size R.length).toArray }) rfl
      rwa [a1] at this
    have a1' : h'.objs.size = hp.objs.size + R.length := a1
    rw [a1', s1]
    have k1 : ∀ (b : Nat) o, h'.get? b = some o → (h'.push { cls := .type "tuple", data := .seq (refs hp.objs.size R.length).toArray }).get? b = some o := fun b o e => Heap.get?_push_of_some _ e
    generalize h'.push { cls := .type "tuple", data := .seq (refs hp.objs.size R.length).toArray } = ha at *
    have s2 : (ha.push { cls := .type "tuple", data := .seq (Array.replicate R.length Value.none) }).objs.size = hp.objs.size + R.length + 2 := by rw [Heap.size_push, s1]
    have g2 : (ha.push { cls := .type "tuple", data := .seq (Array.replicate R.length Value.none) }).get? (hp.objs.size + R.length + 1) = some { cls := .type "tuple", data := .seq (Array.replicate R.length Value.none) } := by
      have := Heap.get?_push_size ha (o := { cls := .type "tuple", data := .seq (Array.replicate R.length Value.none) }) rfl
      rwa [s1] at this
    have k2 : ∀ (b : Nat) o, ha.get? b = some o → (ha.push { cls := .type "tuple", data := .seq (Array.replicate R.length Value.none) }).get? b = some o := fun b o e => Heap.get?_push_of_some _ e
    rw [s2]
    generalize ha.push { cls := .type "tuple", data := .seq (Array.replicate R.length Value.none) } = hb at *
    have g3 : (hb.push { cls := .type "zip", data := .fields #[.none, .bool false, .bool false, .ref (hp.objs.size + R.length), .ref (hp.objs.size + R.length + 1)] }).get? (hp.objs.size + R.length + 2) = some { cls := .type "zip", data := .fields #[.none, .bool false, .bool false, .ref (hp.objs.size + R.length), .ref (hp.objs.size + R.length + 1)] } := by
      have := Heap.get?_push_size hb (o := { cls := .type "zip", data := .fields #[.none, .bool false, .bool false, .ref (hp.objs.size + R.length), .ref (hp.objs.size + R.length + 1)] }) rfl
      rwa [s2] at this
    have k3 : ∀ (b : Nat) o, hb.get? b = some o → (hb.push { cls := .type "zip", data := .fields #[.none, .bool false, .bool false, .ref (hp.objs.size + R.length), .ref (hp.objs.size + R.length + 1)] }).get? b = some o := fun b o e => Heap.get?_push_of_some _ e
    refine h _ ?_ (fun b o e => k3 b o (k2 b o (k1 b o (a2 b o e)))) ⟨g3, k3 _ _ (k2 _ _ g1), fun j r e => ?_, fun j r e => ?_⟩ (k3 _ _ g2)
    · rw [Heap.size_push, s2]
    · obtain ⟨o, x, y⟩ := a3 j r.1 (by rw [List.getElem?_map, e]; rfl)
      exact ⟨o, k3 _ _ (k2 _ _ (k1 _ _ x)), y⟩
    · obtain ⟨o, x, y⟩ := ht r (List.mem_of_getElem? e)
      exact ⟨⟨o, k3 _ _ (k2 _ _ (k1 _ _ (a2 _ _ x))), y⟩, Heap.lt_size x⟩
section
variable {prog : Program} {w : World} {A : Around} {E : Value → Shared → Prop} {s : Shared}
theorem call_zipN {R : List (Nat × Array Value)} {Q : Value → Shared → Prop} (hsz : R.length ≤ sizeLine) (h0 : 0 < R.length ∧ R.length ≤ 40) (ht : ∀ r ∈ R, s.heap.IsTuple r.1 r.2)
    (h : ∀ h', h'.objs.size = s.heap.objs.size + R.length + 3 → (∀ (b : Nat) o, s.heap.get? b = some o → h'.get? b = some o) → ZSt h' s.heap.objs.size (s.heap.objs.size + R.length + 4) R 0 → Q (.ref (s.heap.objs.size + R.length + 2)) { s with heap := h' }) :
    wpAny (model prog w) A (call (.type "zip") ((R.map (·.1)).map Value.ref)) Q E s := by
  refine callType_new F.called_zip (by decide) (typeCall_zipN _) (newCall_zipN _ (by simpa using h0)) (fun obj => args_object_init_N obj _) F.entry_zip_new
    (meets_zipN R hsz) ⟨ht, fun h' a1 a2 a3 a4 => ?_⟩
  exact ⟨⟨_, a3.z, rfl⟩, h h' a1 a2 (.inl ⟨rfl, a3, _, by simp, a4⟩)⟩
end
end TZ

set_option Elab.async false
set_option linter.all false
set_option maxRecDepth 100000
set_option autoImplicit false
set_option maxHeartbeats 4000000
namespace HM
open PySem PySem.Spec L2
open PyProof.Rows hiding St
open TZ
/-- many objects laid at once: an abstract heap over one that is kept -/
theorem inv_more {X : Cx} {pins : List (Addr × Obj)} {σ : L2.St} {H H' : Hp} {s : Shared} {h' : Heap} (I : Inv X pins σ H s) (k : ∀ (b : Nat) u, s.heap.get? b = some u → h'.get? b = some u)
    (up : ∀ b o, H b = some o → H' b = some o) (low : ∀ (b : Nat), b < s.heap.objs.size → H' b = H b) (new : ∀ b o, H b = none → H' b = some o → ObjOk X.prog X.w H' h' b o) : Inv X pins σ H' { s with heap := h' } := by
  refine I.un (t' := s.toks) ⟨fun b o q _ _ _ => k b o q, fun b o q _ _ _ => ⟨o.slots, k b o q⟩, fun b o q n _ => ?_, fun b o q _ => ⟨o, k b o q⟩, fun b xs q => up b _ q, fun b o u q => up b _ q, fun b ps q => ⟨#[], by rw [up b _ q]; simp⟩⟩ fun b o e => ?_
  · rw [low b (Heap.lt_size q)]; exact n
  · cases q : H b with
    | none => exact new b o q e
    | some u =>
      have : u = o := by have := up b u q; rw [this] at e; exact Option.some.inj e
      subst this
      exact (I.hok b u q).stay (fun c v _ z => k c v z) (fun c z => up c _ z) fun c xs z => up c _ z
/-- the columns of rows -/
def colsV (rs : List (Addr × List V)) (m : Nat) : List (List V) := (List.range m).map fun j => rs.map fun r => r.2.getD j .non
def tTzip (K : PySem.W.Frag) (te : TE) : TE := fun σ H Q => te σ H fun x H1 => ∃ (a : Addr) (rs : List (Addr × List V)) (m : Nat), x = V.ref a ∧ SqT K H1 a (rs.map fun r => V.ref r.1) ∧ (∀ r ∈ rs, SqT K H1 r.1 r.2 ∧ r.2.length = m) ∧ 0 < m ∧ m ≤ sizeLine ∧ 0 < rs.length ∧ rs.length ≤ 40 ∧
  ∀ (T : Addr) (Ts : List Addr) (H' : Hp), (∀ b o, H1 b = some o → H' b = some o) → H' T = some (.tup (Ts.map V.ref)) → Ts.length = m → (∀ (j : Nat) (t : Addr), Ts[j]? = some t → H' t = some (.tup (rs.map fun r => r.2.getD j .non))) → Q (.ref T) H'
section
variable {X : Cx} {e : Expr} {te : TE} {p p2 sp pos pos2 : Pos}
theorem vals_refs : ∀ {ls : List Addr} {us : List Value}, Vals (ls.map V.ref) us → us = ls.map Value.ref
  | [], us, h => by cases h; rfl
  | l :: ls, us, h => by
    cases h with
    | cons r t =>
      rw [vals_refs t]
      cases r
      rfl
theorem rows_of {pins : List (Addr × Obj)} {σ : L2.St} {H : Hp} {s : Shared} {m : Nat} (I : Inv X pins σ H s) : ∀ {rs : List (Addr × List V)}, (∀ r ∈ rs, SqT X.K H r.1 r.2 ∧ r.2.length = m) →
    ∃ R : List (Nat × Array Value), R.map (·.1) = rs.map (·.1) ∧ (∀ r ∈ R, s.heap.IsTuple r.1 r.2 ∧ r.2.size = m) ∧ ∀ (j : Nat) (r : Addr × List V), rs[j]? = some r → ∃ u, R[j]? = some (r.1, u) ∧ Vals r.2 u.toList
  | [], _ => ⟨[], rfl, fun r h => by simp at h, fun j r h => by simp at h⟩
  | r :: rs, h => by
    obtain ⟨R, e1, e2, e3⟩ := rows_of I (rs := rs) fun x hx => h x (List.mem_cons_of_mem _ hx)
    obtain ⟨q, ql⟩ := h r List.mem_cons_self
    obtain ⟨its, rv, ⟨o, ho, hc, n, hd⟩, _⟩ := I.tuple q
    refine ⟨(r.1, its.toArray) :: R, by simp [e1], fun x hx => ?_, fun j x hx => ?_⟩
    · rcases List.mem_cons.mp hx with rfl | hx
      · exact ⟨⟨o, ho, hc, n, hd⟩, by rw [List.size_toArray, ← rv.length, ql]⟩
      · exact e2 x hx
    · cases j with
      | zero =>
        cases hx
        exact ⟨its.toArray, rfl, by simpa using rv⟩
      | succ j => exact e3 j x hx
theorem vals_get : ∀ {vs : List V} {us : List Value} {i : Nat}, Vals vs us → i < vs.length → ∃ u, us[i]? = some u ∧ RelV (vs.getD i .non) u
  | [], _, i, _, h => absurd h (by simp)
  | v :: vs, _, 0, .cons r t, _ => ⟨_, rfl, r⟩
  | v :: vs, _, i + 1, .cons r t, h => by
    obtain ⟨u, e, q⟩ := vals_get t (i := i) (by simpa using h)
    exact ⟨u, e, by simpa using q⟩
/-- one column of the values -/
theorem col_of {R : List (Nat × Array Value)} {rs : List (Addr × List V)} {m j : Nat} (hl : R.length = rs.length) (h3 : ∀ (j : Nat) (r : Addr × List V), rs[j]? = some r → ∃ u, R[j]? = some (r.1, u) ∧ Vals r.2 u.toList) (hm : ∀ r ∈ rs, r.2.length = m) (hj : j < m) :
    Col R j (R.map fun r => r.2.getD j .none) ∧ Vals (rs.map fun r => r.2.getD j .non) (R.map fun r => r.2.getD j .none) := by
  induction rs generalizing R with
  | nil =>
    cases R with
    | nil => exact ⟨⟨rfl, fun j r e => by simp at e⟩, .nil⟩
    | cons a b => simp at hl
  | cons r rs ih =>
    cases R with
    | nil => simp at hl
    | cons x R =>
      obtain ⟨u, eu, vu⟩ := h3 0 r rfl
      cases eu
      obtain ⟨c, v⟩ := ih (R := R) (by simpa using hl) (fun j x hx => h3 (j + 1) x hx) (fun x hx => hm x (List.mem_cons_of_mem _ hx))
      have hjr : j < r.2.length := by rw [hm r List.mem_cons_self]; exact hj
      obtain ⟨y, ey, ry⟩ := vals_get vu hjr
      have ey' : u[j]? = some y := by simpa using ey
      have eg : u.getD j .none = y := by simp [Array.getD_eq_getD_getElem?, ey']
      refine ⟨⟨by simp, fun i x hx => ?_⟩, .cons (by show L2.RelV (r.2.getD j .non) (u.getD j .none); rw [eg]; exact ry) v⟩
      cases i with
      | zero =>
        cases hx
        exact ⟨y, ey', by show some (u.getD j .none) = some y; rw [eg]⟩
      | succ i =>
        obtain ⟨z, z1, z2⟩ := c.at_ i x hx
        exact ⟨z, z1, by simpa using z2⟩
theorem pe_tzip (hcalm : X.calm = true) (hg1 : Gl X "tuple") (hm1 : X.mg "tuple" = none) (hg2 : Gl X "zip") (hm2 : X.mg "zip" = none) (he : PE X e te)
    (hst : starEach [.Starred e sp] X.env = [(true, eval e X.env)] := by rfl)
    (na : starEach [.Call (.Name "zip" p2) [.Starred e sp] [] pos2] X.env = (false, eval (.Call (.Name "zip" p2) [.Starred e sp] [] pos2) X.env) :: starEach [] X.env := by rfl) :
    PE X (.Call (.Name "tuple" p) [.Call (.Name "zip" p2) [.Starred e sp] [] pos2] [] pos) (tTzip X.K te) := by
  refine ⟨fun pins s σ H Q I h => ?_⟩
  have hh := I.ok.hd hcalm
  refine wpAny_Call_Name_kw (ld_blt I hg1 hm1 PyProof.Rows.boot_tuple ?_)
  refine PyProof.Rows.callWith_type1 ?_ na rfl
  rw [na]
  show wpAny _ _ (spliced ((false, eval (.Call (.Name "zip" p2) [.Starred e sp] [] pos2) X.env) :: [])) _ _ s
  refine Calls.spliced_cons ?_
  refine wpAny_Call_Name_kw (ld_blt I hg2 hm2 PyProof.Rows.boot_zip ?_)
  rw [hst]
  refine PySem.W.ks_call (P := fun _ => True) rfl (fun _ _ => ⟨.machine, .inr (.inl rfl), PySem.W.Looks.of_pure rfl⟩) (PySem.W.ks_lone ?_)
  refine thn (he.run pins s σ H _ I h) fun v s1 ⟨y, H1, I1, ry, a, rs, m, ey, hx, hr, m0, ms, r0, r40, q⟩ => ?_
  subst ey
  obtain rfl : v = Value.ref a := ry
  refine StX.star_any I1 (.inl hx) fun us s2 I2 rv => ⟨trivial, ?_⟩
  obtain ⟨R, e1, e2, e3⟩ := rows_of I2 hr
  have hRl : R.length = rs.length := by have := congrArg List.length e1; simpa using this
  have eus : us = (R.map (·.1)).map Value.ref := by
    have e4 : rs.map (fun r => V.ref r.1) = (rs.map (·.1)).map V.ref := by simp
    rw [e4] at rv
    rw [vals_refs rv, e1]
  show wpAny _ _ (call (.type "zip") us) _ _ s2
  rw [eus]
  have szl : (40 : Nat) ≤ sizeLine := by rw [sizeLine_eq]; decide
  refine call_zipN (by omega) (by omega) (fun r hr => (e2 r hr).1) fun h' sz k st => ?_
  refine Calls.spliced_nil ?_
  obtain ⟨cols, hcols⟩ : ∃ cols : List (List Value), cols = (List.range m).map fun j => R.map fun r => r.2.getD j .none := ⟨_, rfl⟩
  have hcl : cols.length = m := by rw [hcols]; simp
  have hcol : ∀ (j : Nat) vs, cols[j]? = some vs → vs = (R.map fun r => r.2.getD j .none) ∧ j < m := fun j vs hj => by
    by_cases hlt : j < m
    · rw [hcols, List.getElem?_map, List.getElem?_range hlt] at hj
      exact ⟨(Option.some.inj hj).symm, hlt⟩
    · rw [List.getElem?_eq_none (by omega)] at hj; cases hj
  have hmr : ∀ r ∈ rs, r.2.length = m := fun r hr' => (hr r hr').2
  refine call_tuple_zip (B := s2.heap.objs.size) (S := s2.heap.objs.size + R.length + 3) (R := R) (cols := cols) (s := { s2 with heap := h' }) hh (by omega) (by omega) (by omega) (by omega) sz (fun j vs hj => ?_) (fun x hx => ?_) (by omega) ?_ fun h2 T hT k2 tups tT => ?_
  · obtain ⟨rfl, hlt⟩ := hcol j vs hj
    exact (col_of hRl e3 hmr hlt).1
  · have := (e2 x (List.mem_of_getElem? hx)).2
    exact Array.getElem?_eq_none (by omega)
  · exact st
  · obtain ⟨N, hN⟩ : ∃ N, N = s2.heap.objs.size + R.length + 3 + 1 := ⟨_, rfl⟩
    rw [← hN] at hT tups tT
    rw [hcl] at hT tT
    have kk : ∀ (b : Nat) u, s2.heap.get? b = some u → h2.get? b = some u := fun b u e => k2 b u (Heap.lt_size e) (k b u e)
    -- the abstract heap: the columns, the table
    obtain ⟨H', hH'⟩ : ∃ H' : Hp, H' = fun (b : Nat) => if b < N then H1 b else if b < N + m then some (.tup (rs.map fun r => r.2.getD (b - N) .non)) else if b = T then some (.tup ((List.range m).map fun j => V.ref (N + j))) else H1 b := ⟨_, rfl⟩
    have none1 : ∀ b : Nat, s2.heap.objs.size ≤ b → H1 b = none := fun b hb => I2.hok.fresh hb
    have up : ∀ (b : Nat) o, H1 b = some o → H' b = some o := fun b o e => by
      have hlt : (b : Nat) < s2.heap.objs.size := I2.hok.lt e
      rw [hH']
      simp only
      rw [if_pos (by omega)]
      exact e
    have low : ∀ b : Nat, b < s2.heap.objs.size → H' b = H1 b := fun b hb => by rw [hH']; simp only; rw [if_pos (by omega)]
    have tcol : ∀ j, j < m → H' (N + j) = some (.tup (rs.map fun r => r.2.getD j .non)) := fun j hj => by
      rw [hH']
      simp only
      rw [if_neg (by omega), if_pos (by omega), Nat.add_sub_cancel_left]
    have tabT : H' T = some (.tup ((List.range m).map fun j => V.ref (N + j))) := by
      rw [hH']
      simp only
      rw [if_neg (by omega), if_neg (by omega), if_pos trivial]
    have new : ∀ (b : Nat) o, H1 b = none → H' b = some o → ObjOk X.prog X.w H' h2 b o := by
      intro b o n e
      rw [hH'] at e
      simp only at e
      by_cases b1 : b < N
      · rw [if_pos b1, n] at e; cases e
      · rw [if_neg b1] at e
        by_cases b2 : b < N + m
        · rw [if_pos b2] at e
          cases e
          obtain ⟨j, rfl⟩ : ∃ j, b = N + j := ⟨b - N, by omega⟩
          have hj : j < m := by omega
          rw [Nat.add_sub_cancel_left]
          obtain ⟨c1, c2⟩ := col_of (R := R) (rs := rs) hRl e3 hmr hj
          have hjc : cols[j]? = some (R.map fun r => r.2.getD j .none) := by rw [hcols, List.getElem?_map, List.getElem?_range hj]; rfl
          exact ⟨by rw [List.length_map]; omega, _, c2, ⟨_, tups j _ hjc, rfl, 0, rfl⟩⟩
        · rw [if_neg b2] at e
          by_cases b3 : b = T
          · rw [if_pos b3] at e
            cases e
            subst b3
            have vr : Vals ((List.range m).map fun j => V.ref (N + j)) (refs N m) := by
              unfold refs
              generalize List.range m = l
              induction l with
              | nil => exact .nil
              | cons x r ih => exact .cons rfl ih
            exact ⟨by simpa using ms, _, vr, ⟨_, tT, rfl, 0, rfl⟩⟩
          · rw [if_neg b3, n] at e; cases e
    have I3 : Inv X pins σ H' { s2 with heap := h2 } := inv_more I2 kk up low new
    refine ⟨.ref T, H', I3, rfl, ?_⟩
    refine q T ((List.range m).map fun j => N + j) H' up ?_ (by simp) fun j t ht => ?_
    · rw [tabT]; simp [Function.comp_def]
    · by_cases hlt : j < m
      · rw [List.getElem?_map, List.getElem?_range hlt] at ht
        cases ht
        exact tcol j hlt
      · rw [List.getElem?_eq_none (by simp; omega)] at ht; cases ht
end
end HM

set_option Elab.async false
set_option linter.all false
set_option maxRecDepth 100000
set_option autoImplicit false
set_option maxHeartbeats 4000000
namespace HM
open PySem PySem.Spec L2
open PyProof.Rows hiding St
/-! ### tuple(zip(*t)), t a tuple of tuples of one length -/
def rowsD : List D → Option (List (List D))
  | [] => some []
  | .tup ds :: r => match rowsD r with
    | some rs => some (ds :: rs)
    | none => none
  | _ => none
def colsD (m : Nat) (rs : List (List D)) : List D := (List.range m).map fun j => D.tup (rs.map fun r => r.getD j .non)
def mTzip (m : EM) : EM := fun ρ S => match m ρ S with
  | some (.val (.tup ds), S1) => match rowsD ds with
    | some (r0 :: rs) => if decide (0 < r0.length ∧ r0.length ≤ 1000 ∧ rs.length < 40) && rs.all (fun r => decide (r.length = r0.length)) then some (.val (.tup (colsD r0.length (r0 :: rs))), S1) else none
    | _ => none
  | _ => none
theorem rowsD_rep {K : PySem.W.Frag} {H : Hp} {μ : Mu} : ∀ {ds : List D} {rs : List (List D)} {vs : List V}, rowsD ds = some rs → Reps K H μ ds vs →
    ∃ xs : List (Addr × List V), vs = xs.map (fun r => V.ref r.1) ∧ xs.length = rs.length ∧ ∀ (j : Nat) (x : Addr × List V), xs[j]? = some x → ∃ r, rs[j]? = some r ∧ SqT K H x.1 x.2 ∧ Reps K H μ r x.2
  | [], rs, vs, h, q => by
    cases h
    cases q
    exact ⟨[], rfl, rfl, fun j x e => by simp at e⟩
  | d :: ds, rs, vs, h, q => by
    cases q with
    | cons q1 q2 =>
      cases d with
      | tup es =>
        unfold rowsD at h
        split at h
        · rename_i rs' e1
          cases h
          cases q1 with
          | tup t1 t2 =>
            rename_i a us
            obtain ⟨xs, e2, e3, e4⟩ := rowsD_rep e1 q2
            refine ⟨(a, us) :: xs, by rw [e2]; rfl, by simp [e3], fun j x hx => ?_⟩
            cases j with
            | zero => cases hx; exact ⟨es, rfl, t1, t2⟩
            | succ j => exact e4 j x hx
        · cases h
      | _ => cases h
theorem Reps.getD {K : PySem.W.Frag} {H : Hp} {μ : Mu} {r : List D} {vs : List V} {j : Nat} (q : Reps K H μ r vs) (h : j < r.length) : Rep K H μ (r.getD j .non) (vs.getD j .non) := by
  obtain ⟨v, e1, e2⟩ := q.get (List.getElem?_eq_getElem h)
  have a : r.getD j .non = r[j] := by simp [List.getD, h]
  have b : vs.getD j .non = v := by simp [List.getD, e1]
  rw [a, b]
  exact e2
section
variable {X : Cx} {e : Expr} {m : EM} {p p2 sp pos pos2 : Pos}
theorem me_tzip (hcalm : X.calm = true) (hm1 : X.mg "tuple" = none) (hm2 : X.mg "zip" = none) (he : PE X e (tM X.K m)) (hg1 : Gl X "tuple" := by rfl) (hg2 : Gl X "zip" := by rfl)
    (hst : starEach [.Starred e sp] X.env = [(true, eval e X.env)] := by rfl)
    (na : starEach [.Call (.Name "zip" p2) [.Starred e sp] [] pos2] X.env = (false, eval (.Call (.Name "zip" p2) [.Starred e sp] [] pos2) X.env) :: starEach [] X.env := by rfl) :
    PE X (.Call (.Name "tuple" p) [.Call (.Name "zip" p2) [.Starred e sp] [] pos2] [] pos) (tM X.K (mTzip m)) := by
  refine PE.imp (pe_tzip hcalm hg1 hm1 hg2 hm2 he hst na) fun σ H Q q => ?_
  obtain ⟨μ, ρ, S, w, S', ok, e, k⟩ := q
  unfold mTzip at e
  split at e
  · rename_i ds S1 e1
    split at e
    · rename_i r0 rs e2
      split at e
      · rename_i hc
        cases e
        rw [Bool.and_eq_true] at hc
        obtain ⟨c1, c2, c3⟩ := of_decide_eq_true hc.1
        have c4 : ∀ r ∈ r0 :: rs, r.length = r0.length := fun r hr => by
          rcases List.mem_cons.mp hr with rfl | hr
          · rfl
          · exact of_decide_eq_true (List.all_eq_true.mp hc.2 r hr)
        refine ⟨μ, ρ, S, _, S', ok, e1, fun μ1 v1 H1 so1 st1 q1 => ?_⟩
        cases q1 with
        | tup t1 t2 =>
          rename_i a vs
          obtain ⟨xs, ex, exl, exr⟩ := rowsD_rep e2 t2
          have hrow : ∀ x ∈ xs, SqT X.K H1 x.1 x.2 ∧ x.2.length = r0.length := fun x hx => by
            obtain ⟨j, hj, rfl⟩ := List.getElem_of_mem hx
            obtain ⟨r, er, s1, s2⟩ := exr j _ (List.getElem?_eq_getElem hj)
            exact ⟨s1, by rw [← s2.length, c4 r (List.mem_of_getElem? er)]⟩
          have hxl : xs.length = rs.length + 1 := by rw [exl]; rfl
          refine ⟨a, xs, r0.length, rfl, by rw [← ex]; exact t1, hrow, c1, by rw [sizeLine_eq]; omega, by omega, by omega, fun T Ts H' up hT hTl hTs => ?_⟩
          have st2 : Step H1 μ1 H' μ1 := ⟨fun b o h _ => up b o h, fun _ h => .inl h, fun _ _ _ h => h, Nat.le_refl _⟩
          have so2 : StoreOk X.K H' μ1 S' := ⟨so1.len, fun l ds h => by
            obtain ⟨b, us, h1, h2, h3⟩ := so1.cell l ds h
            exact ⟨b, us, h1, up _ _ h2, Reps.step so1 st2 h3⟩, so1.dead, so1.inj⟩
          refine k μ1 (.ref T) H' so2 (st1.trans st2) (show Rep X.K H' μ1 _ _ from .tup (.inl (.inl hT)) ?_)
          have colr : ∀ j, j < r0.length → Reps X.K H' μ1 ((r0 :: rs).map fun r => r.getD j .non) (xs.map fun x => x.2.getD j .non) := by
            intro j hj
            have gen : ∀ (ys : List (List D)) (zs : List (Addr × List V)), zs.length = ys.length → (∀ (i : Nat) (x : Addr × List V), zs[i]? = some x → ∃ r, ys[i]? = some r ∧ Reps X.K H1 μ1 r x.2) → (∀ r ∈ ys, r.length = r0.length) → Reps X.K H' μ1 (ys.map fun r => r.getD j .non) (zs.map fun x => x.2.getD j .non) := by
              intro ys
              induction ys with
              | nil => intro zs hz _ _; cases zs with
                | nil => exact .nil
                | cons a b => simp at hz
              | cons y ys ih => intro zs hz hr hl; cases zs with
                | nil => simp at hz
                | cons z zs =>
                  obtain ⟨r, er, qr⟩ := hr 0 z rfl
                  cases er
                  exact .cons (Rep.step so1 st2 (Reps.getD qr (by rw [hl _ List.mem_cons_self]; exact hj))) (ih zs (by simpa using hz) (fun i x hx => hr (i + 1) x hx) fun r hr' => hl r (List.mem_cons_of_mem _ hr'))
            exact gen _ _ (by rw [exl]) (fun i x hx => let ⟨r, a, _, b⟩ := exr i x hx; ⟨r, a, b⟩) c4
          -- the table's items
          have gen2 : ∀ (n lo : Nat) (Us : List Addr), lo + n = r0.length → Us.length = n → (∀ (j : Nat) (t : Addr), Us[j]? = some t → H' t = some (.tup (xs.map fun x => x.2.getD (lo + j) .non))) →
              Reps X.K H' μ1 ((List.range' lo n).map fun j => D.tup ((r0 :: rs).map fun r => r.getD j .non)) (Us.map V.ref) := by
            intro n
            induction n with
            | zero => intro lo Us _ hU _; cases Us with
              | nil => exact .nil
              | cons a b => simp at hU
            | succ n ih => intro lo Us hl hU hq; cases Us with
              | nil => simp at hU
              | cons u Us =>
                have := hq 0 u rfl
                rw [List.range'_succ]
                exact .cons (.tup (.inl (.inl this)) (colr lo (by omega))) (ih (lo + 1) Us (by omega) (by simpa using hU) fun j t ht => by
                  have := hq (j + 1) t ht
                  rw [show lo + 1 + j = lo + (j + 1) by omega]
                  exact this)
          have := gen2 r0.length 0 Ts (by omega) hTl (fun j t ht => by rw [Nat.zero_add]; exact hTs j t ht)
          unfold colsD
          rw [List.range_eq_range']
          exact this
      · cases e
    · cases e
  · cases e
end
end HM

set_option Elab.async false
set_option linter.all false
set_option maxRecDepth 100000
set_option autoImplicit false
set_option maxHeartbeats 4000000
namespace EN
open PySem
open PySem.Sem (wp)
open AutoSeq1 (wpAny_loadPart')
/-- enumerate over a tuple: what is made -/
theorem meets_enumT (t : Addr) (items : Array Value) : Meets (Builtin.«enumerate.__new__» ⟨[.type "enumerate", .ref t], []⟩) (fun _ Rr s => s.heap.IsTuple t items ∧
    Rr (.ok (.ret (.ref (s.heap.push { cls := .type "tuple_iterator", data := .fields #[.ref t, .int 0 0] }).objs.size)))
      { s with heap := (s.heap.push { cls := .type "tuple_iterator", data := .fields #[.ref t, .int 0 0] }).push { cls := .type "enumerate", data := .fields #[.none, .bool false, .ref s.heap.objs.size, rawInt 0, .none, .none] } }) :=
  .of_wp fun prog w A Rr s h => by
    obtain ⟨hp, g, d, tk, os⟩ := s
    obtain ⟨hl, h⟩ := h
    have hsub := sub_enumerate
    have hL : Heap.IsTuple (Shared.heap ⟨hp, g, d, tk, os⟩) t items := hl
    wp_walk
    refine wpAny_stack_any fun st => wpAny_pure ?_
    split
    · rename_i c _ _ _ _ _
      cases (c == Value.type "enumerate")
      · wp_walk using wpAny_pyIter_tuple hL
        exact ⟨_, rfl, h⟩
      · wp_walk using wpAny_pyIter_tuple hL
        exact ⟨_, rfl, h⟩
    · wp_walk using wpAny_pyIter_tuple hL
      exact ⟨_, rfl, h⟩
section
variable {prog : Program} {w : World} {A : Around} {E : Value → Shared → Prop} {s : Shared}
theorem call_enumT {t : Addr} {items : Array Value} {Q : Value → Shared → Prop} (hL : s.heap.IsTuple t items)
    (h : ∀ h', IsEnum h' (s.heap.objs.size + 1) s.heap.objs.size 0 .none → h'.IsTupleIter s.heap.objs.size t 0 → h'.objs.size = s.heap.objs.size + 2 →
      (∀ b o, s.heap.get? b = some o → h'.get? b = some o) → Q (.ref (s.heap.objs.size + 1)) { s with heap := h' }) :
    wpAny (model prog w) A (call (.type "enumerate") [.ref t]) Q E s := by
  refine callType_new F.called_enumerate (by decide) (F.typeCall_enumerate_1 _) (F.newCall_enumerate_1 _) (fun obj => F.args_object_init_2 obj _) F.entry_enumerate_new (meets_enumT t items) ⟨hL, ?_⟩
  generalize e1 : s.heap.push { cls := .type "tuple_iterator", data := .fields #[.ref t, .int 0 0] } = h1
  have z1 : h1.objs.size = s.heap.objs.size + 1 := by rw [← e1]; exact Heap.size_push ..
  have g1 : h1.get? s.heap.objs.size = some { cls := .type "tuple_iterator", data := .fields #[.ref t, .int 0 0] } := by rw [← e1]; exact Heap.get?_push_size _ rfl
  have k1 : ∀ b o, s.heap.get? b = some o → h1.get? b = some o := fun b o e => by rw [← e1]; exact Heap.get?_push_of_some _ e
  generalize e2 : h1.push { cls := .type "enumerate", data := .fields #[.none, .bool false, .ref s.heap.objs.size, rawInt 0, .none, .none] } = h2
  have z2 : h2.objs.size = s.heap.objs.size + 2 := by rw [← e2, Heap.size_push, z1]
  have g2 : h2.get? h1.objs.size = some { cls := .type "enumerate", data := .fields #[.none, .bool false, .ref s.heap.objs.size, rawInt 0, .none, .none] } := by rw [← e2]; exact Heap.get?_push_size _ rfl
  have k2 : ∀ b o, h1.get? b = some o → h2.get? b = some o := fun b o e => by rw [← e2]; exact Heap.get?_push_of_some _ e
  rw [z1] at g2
  show _ ∧ _
  rw [z1]
  exact ⟨⟨_, g2, rfl⟩, h h2 g2 ⟨_, k2 _ _ g1, rfl, rfl⟩ z2 fun b o e => k2 b o (k1 b o e)⟩
end
end EN
namespace HM
open PySem PySem.Spec L2
open PyProof.Rows hiding St
/-- the tuple at a, each item in a new pair -/
def IteT (K : PySem.W.Frag) (a : Addr) : It :=
  ⟨fun i H => ∃ (xs : List V) (x : V), SqT K H a xs ∧ xs[i]? = some x, fun i H v H' => ∃ T x, v = .ref T ∧ H T = none ∧ H' = upd H T (.tup [.int (i : Nat), x]) ∧ ∀ xs, SqT K H a xs → xs[i]? = some x, fun i H => ∃ xs : List V, SqT K H a xs ∧ xs.length ≤ i⟩
theorem turn_enumT {P : Program} {w : World} {K : PySem.W.Frag} {elts : List Expr} {kk : Nat} {tpos : Pos} (a e it : Addr) (hne : e ≠ it) (hai : a ≠ it) (hae : a ≠ e) :
    Turn P w K (.Tuple elts kk tpos) (IteT K a) [e, it] e (fun i h => (∃ old, IsEnum h e it ((i : Nat) : Int) old) ∧ h.IsTupleIter it a i) where
  mem := by simp
  obj := fun i h st b hb => by
    obtain ⟨⟨old, he⟩, ⟨o, ho, hc, hd⟩⟩ := st
    have e' : b = e ∨ b = it := by simpa using hb
    rcases e' with z | z
    · subst z; exact ⟨_, he, fun v q => nomatch q⟩
    · subst z; exact ⟨o, ho, fun v q => by rw [hd] at q; cases q⟩
  keep := fun i h h' st k => let ⟨⟨old, he⟩, hi⟩ := st; ⟨⟨old, k e (by simp) _ he⟩, hi.at fun o q => k it (by simp) o q⟩
  item := by
    intro X hP hw hK hc i pins s σ H E I hf st hg
    subst hP hw hK
    obtain ⟨⟨old, he⟩, hit⟩ := st
    obtain ⟨xs, x, hq, hx⟩ := hg
    obtain ⟨its, rv, p, hz⟩ := I.tuple hq
    obtain ⟨u, hu, ru⟩ := rv.get hx
    have hel : e < s.heap.objs.size := Heap.lt_size he
    have hil : it < s.heap.objs.size := by obtain ⟨_, q, _⟩ := hit; exact Heap.lt_size q
    have D := Draws.tuple (prog := X.prog) (w := X.w) (A := X.A.in1) (I.ok.hd hc) it a hai its.toArray
    have hlt : i < its.toArray.size := by
      have := (List.getElem?_eq_some_iff.mp hu).1
      simpa using this
    refine wpAny_pyNext_enum_itemC D he ⟨hit, p⟩ hlt hne (by simp [hne, Ne.symm hae]) fun y h' tk hy ho st' hT hsz hk => ?_
    obtain rfl : y = u := by
      have : its.toArray[i]? = some u := by simpa using hu
      rw [this] at hy; exact (Option.some.inj hy).symm
    refine ⟨_, rfl, wpAny_letOwnedTupleGo_enum (s := { s with heap := h', toks := tk + 1 }) ho fun h'' he' sb => ?_⟩
    have hT2 : h''.get? s.heap.objs.size = some { cls := .type "tuple", data := .seq #[.int i tk, y] } := (sb.2 _ (Nat.ne_of_gt hel)).trans hT
    have new : ObjOk X.prog X.w (upd H s.heap.objs.size (.tup [.int (i : Nat), x])) h'' s.heap.objs.size (.tup [.int (i : Nat), x]) :=
      ⟨by show 2 ≤ sizeLine; decide, [.int i tk, y], .cons ⟨_, rfl⟩ (.cons ru .nil), ⟨_, hT2, rfl, _, rfl⟩⟩
    have I1 : Inv X pins σ (upd H s.heap.objs.size (.tup [.int (i : Nat), x])) { s with heap := h'', toks := tk + 1 } :=
      I.turnedNew (ch := [e, it]) (fun b ob hb q => (sb.2 b (fun z => hb (by simp [z]))).trans (hk b ob (fun z => hb (by simp [z])) (fun z => hb (by simp [z])) q)) hf (Nat.le_refl _) new
    refine ⟨.ref s.heap.objs.size, _, I1, rfl, ⟨_, x, rfl, I.hok.fresh (Nat.le_refl _), rfl, fun ys hy' => by rw [I.tuple_inj hy' hq]; exact hx⟩, ⟨⟨y, ?_⟩, st'.1.at fun o q => (sb.2 it (Ne.symm hne)).trans q⟩, fun b hb => ?_⟩
    · have e1 : ((i + 1 : Nat) : Int) = (i : Int) + 1 := by omega
      rw [e1]; exact he'
    · have hb' : b < s.heap.objs.size := by
        have e' : b = e ∨ b = it := by simpa using hb
        rcases e' with z | z
        · rw [z]; exact hel
        · rw [z]; exact hil
      rw [upd_ne (Nat.ne_of_lt hb')]
      exact (hf b hb).1
  done := by
    intro X hP hw hK hc i pins s σ H E I hf st hg
    subst hP hw hK
    obtain ⟨⟨old, he⟩, hit⟩ := st
    obtain ⟨xs, hq, hx⟩ := hg
    obtain ⟨its, rv, p, hz⟩ := I.tuple hq
    obtain ⟨f0, f1, f2, f3, f4, f5⟩ := hf it (by simp)
    have hl := rv.length
    have hT : s.TypeIs (.ref e) "enumerate" := ⟨_, he, rfl⟩
    unfold pyNext
    refine wpAny_bind (wpAny_attempt (wpAny_callSpecial?_slot (name := Str.ofString "__next__") hT F.slot_enumerate_next
      (wpAny_call_entry F.slot_enumerate_next hT F.entry_enumerate_next ?_ (F.args_enumerate_next_1 _))))
    show wpAny _ _ (field (.ref e) 2 >>= _) _ _ _
    refine wpAny_bind (wpAny_field he rfl (x := .ref it) rfl ?_)
    refine wpAny_bind (RZ.nextOf_tuple_end (I.ok.hd hc) hit p (by simp; omega) fun h' x eb hx' => ?_)
    obtain ⟨o, ho, hc'⟩ := hx'
    refine wpAny_bind (wpAny_isInstance (T := "StopIteration") (b := true) ⟨o, ho, hc'⟩ isSubtype_stop ?_)
    exact wpAny_pure ⟨rfl, I.turned (t' := s.toks) (fun b o hb q => eb b o hb q) f0 f1 f3 f4 f5⟩
  self := fun A i s Q E st h => let ⟨⟨_, he⟩, _⟩ := st; wpAny_pyIter_enum he h
def iEnumT (K : PySem.W.Frag) (ta : TA) : TI := fun σ H Rr => ta σ H fun vs H1 => ∃ a xs, vs = [.ref a] ∧ SqT K H1 a xs ∧ Rr (IteT K a) H1
section
variable {X : Cx} {e : Expr} {p pos tpos : Pos} {elts : List Expr} {kk : Nat}
theorem pi_enumT {ta : TA} (hg : Gl X "enumerate") (hm : X.mg "enumerate" = none) (ha : PA X [e] ta) (hs : starEach [e] X.env = [(false, eval e X.env)] := by rfl) :
    PI X (.Tuple elts kk tpos) (.Call (.Name "enumerate" p) [e] [] pos) (iEnumT X.K ta) := by
  refine ⟨fun pins s σ H Rr I h => ?_⟩
  refine Call_ (ld_blt I hg hm boot_enumerate (PyProof.Rows.callWith_type1 (thn (ha.run pos pins s σ H _ I h) fun us s1 ⟨vs, H1, I1, r1, q1⟩ => ?_) hs rfl))
  obtain ⟨a, xs, ex, hq, q⟩ := q1
  subst ex
  cases r1 with
  | cons r rr =>
    cases rr
    cases r
    obtain ⟨its, rv, p', hz⟩ := I1.tuple hq
    obtain ⟨oa, hoa, _⟩ := id p'
    have hal : a < s1.heap.objs.size := Heap.lt_size hoa
    refine EN.call_enumT p' fun h' he hit hsz hk => wpAny_pyIter_enum he ?_
    have I2 : Inv X pins σ H1 { s1 with heap := h' } := I1.kept (t' := s1.toks) hk
    refine ⟨s1.heap.objs.size + 1, [s1.heap.objs.size + 1, s1.heap.objs.size], _, _, H1, rfl, I2, turn_enumT a (s1.heap.objs.size + 1) s1.heap.objs.size (Nat.succ_ne_self _) (Nat.ne_of_lt hal) (Nat.ne_of_lt (Nat.lt_succ_of_lt hal)), ⟨⟨.none, he⟩, hit⟩, fun b hb => ?_, q⟩
    have e' : b = s1.heap.objs.size + 1 ∨ b = s1.heap.objs.size := by simpa using hb
    have hle : s1.heap.objs.size ≤ b := by
      rcases e' with z | z
      · rw [z]; exact Nat.le_add_right _ _
      · rw [z]; exact Nat.le_refl _
    exact I1.fpOk hle (I1.hok.fresh hle)
/-- enumerate of a tuple or of a list -/
def iEnumA (m : EM) : IM := fun ρ S => match m ρ S with
  | some (x, S1) => match tItems x with
    | some ds => some (enumD ds, S1)
    | none => none
  | none => none
theorem mi_enumT {m : EM} (hg : Gl X "enumerate") (hm : X.mg "enumerate" = none) (h : PE X e (tM X.K m)) (hs : starEach [e] X.env = (false, eval e X.env) :: starEach [] X.env := by rfl) (hs1 : starEach [e] X.env = [(false, eval e X.env)] := by rfl) :
    PI X (.Tuple elts kk tpos) (.Call (.Name "enumerate" p) [e] [] pos) (tI X.K (iEnumA m)) := by
  refine PI.imp (pi_enumT hg hm (pa_cons h pa_nil hs) hs1) fun σ H Rr q => ?_
  obtain ⟨μ, ρ, S, ds, S', ok, e, k⟩ := q
  unfold iEnumA at e
  split at e
  · rename_i x S1 e1
    split at e
    · rename_i ds' e2
      cases e
      refine ⟨μ, ρ, S, x, _, ok, e1, fun μ1 v H1 so1 st1 r1 => ?_⟩
      obtain ⟨a, us, rfl, qa, ra⟩ := tItems_ok r1 e2
      refine ⟨a, us, rfl, qa, k μ1 H1 _ so1 st1 ⟨fun H' μ' S' i so' st hi => ?_, fun H' μ' S' so' st => ⟨us, sqT_step so1 st qa, by rw [enumD_length, ← ra.length]; exact Nat.le_refl _⟩, fun H' μ' S' i y H'' so' st hi y' => ?_⟩⟩
      · rw [enumD_length] at hi
        have h1 : i < us.length := by rw [← ra.length]; exact hi
        exact ⟨us, us[i], sqT_step so1 st qa, by simp [h1]⟩
      · obtain ⟨T, u, rfl, hT, rfl, f1⟩ := y'
        obtain ⟨d, h1, h2⟩ := (ra.step so1 st).getV (f1 us (sqT_step so1 st qa))
        obtain ⟨s1, s2, s3⟩ := new_tup so' hT (.cons (.int _) (.cons h2 .nil))
        exact ⟨.tup [.int (i : Nat), d], enumD_get h1, s1, s2, s3⟩
    · cases e
  · cases e
end
end HM

set_option Elab.async false
set_option linter.all false
set_option maxRecDepth 100000
set_option autoImplicit false
set_option maxHeartbeats 4000000
namespace HM
open PySem PySem.Spec L2
open PyProof.Rows hiding St
/-! ### a comprehension over a list that lives on: the items as they stand at each turn -/
def lcV (tg : Tg) (t : TM) (m : EM) (ρ0 : Rho) (l c : Nat) : Nat → Nat → Sto → Option Sto
  | 0, _, _ => none
  | n + 1, i, S => match (S[c]?).getD none with
    | some ds => match ds[i]? with
      | none => some S
      | some d => match bindT tg (.val d) ρ0 with
        | some ρ1 => match t ρ1 S with
          | some (true, S1) => match m ρ1 S1 with
            | some (.val y, S2) => match (S2[l]?).getD none with
              | some acc => if acc.length < sizeLine then lcV tg t m ρ0 l c n (i + 1) (S2.set l (some (acc ++ [y]))) else none
              | none => none
            | _ => none
          | some (false, S1) => lcV tg t m ρ0 l c n (i + 1) S1
          | none => none
        | none => none
    | none => none
def mLcV (m0 : EM) (tg : Tg) (t : TM) (m : EM) (vs : List Nat) : EM := fun ρ S => match m0 ρ S with
  | some (.loc c, S1) => match (S1[c]?).getD none with
    | some ds => match lcV tg t m (wipeR ρ vs) S1.length c (ds.length + 1) 0 (S1 ++ [some []]) with
      | some S2 => match (S2[S1.length]?).getD none with
        | some acc => some (.val (.fl acc), S2.take S1.length)
        | none => none
      | none => none
    | none => none
  | _ => none
theorem lcV_imp {K : PySem.W.Frag} {m0 : EM} {tg : Tg} {t : TM} {m : EM} {vs : List Nat} {c n : Nat} (hv : ∀ i ∈ tg.slots, i ∈ vs) {σ : L2.St} {H : Hp} {Q : VK} {μ : Mu} {ρ : Rho} {S S1 S2 : Sto} (ok : Ok K μ ρ S σ H) (e1 : m0 ρ S = some (.loc c, S1)) (e0 : ∃ ds, S1[c]? = some (some ds)) (e2 : lcV tg t m (wipeR ρ vs) S1.length c n 0 (S1 ++ [some []]) = some S2)
    (k : ∀ μ1 H1, StoreOk K H1 μ1 S1 → Step H μ H1 μ1 → ∀ μ' H' D, StoreOk K H' μ' S2 → Step H1 μ1 H' μ' → RepW K H' μ' (.loc S1.length) (.ref D) → Q (.ref D) H') : tLc (iList K (tM K m0)) (gT K tg) (tT K t) (tM K m) vs σ H Q := by
  refine ⟨μ, ρ, S, .loc c, S1, ok, e1, fun μ1 v H1 so1 st1 r1 => ?_⟩
  obtain ⟨ds0, e0⟩ := e0
  obtain ⟨a, us0, ha, hc0, hr0⟩ := so1.cell c ds0 e0
  obtain rfl := r1.2 a ha
  have hcl : c < μ1.length := r1.1
  refine ⟨a, rfl, ⟨us0, .inl (.inl hc0)⟩, ?_⟩
  intro D hD
  obtain ⟨soN, stN, rN⟩ := new_cell so1 (ds := []) (vs := []) hD .nil
  have lN : S1.length = μ1.length := so1.len.symm
  have atN : (μ1 ++ [some D])[S1.length]? = some (some D) := by rw [lN]; simp
  have envW : EnvOk K H1 μ1 (wipeR ρ vs) (wipe σ vs) := (ok.env.step ok.so st1).wipe vs
  refine ⟨fun i mm H' => ∃ μi Si, StoreOk K H' μi Si ∧ Step (upd H1 D (.lst [])) (μ1 ++ [some D]) H' μi ∧ lcV tg t m (wipeR ρ vs) S1.length c mm i Si = some S2,
    ⟨n, _, _, soN, .refl, e2⟩, ?_⟩
  rintro i mm Hi ⟨μi, Si, soi, sti, ei⟩
  have lI : S1.length < μi.length := by
    have := sti.len
    rw [List.length_append] at this
    simp at this
    omega
  have isD : ∀ {μ' : Mu} {H' : Hp} {b : Addr}, Step (upd H1 D (.lst [])) (μ1 ++ [some D]) H' μ' → μ'[S1.length]? = some (some b) → b = D := fun {μ' H' b} st h => by
    have q := st.old S1.length b (by rw [List.length_append, lN]; simp) h
    rw [atN] at q
    cases q
    rfl
  cases mm with
  | zero => cases ei
  | succ mm =>
    unfold lcV at ei
    split at ei
    · rename_i ds e3
      obtain ⟨b, us, hb, hcb, hrb⟩ := soi.cell c ds (getD_some e3)
      have eab : b = a := by
        have q := (stN.trans sti).old c b hcl hb
        rw [ha] at q
        cases q
        rfl
      subst eab
      have hsq : SqL K Hi b us := .inl (.inl hcb)
      split at ei
      · rename_i e4
        cases ei
        refine .inl ⟨⟨us, hsq, ?_⟩, k μ1 H1 so1 st1 μi Hi D soi (stN.trans sti) ⟨lI, fun a h => by rw [isD sti h]⟩⟩
        rw [← hrb.length]
        exact List.getElem?_eq_none_iff.mp e4
      · rename_i d e4
        obtain ⟨u, hu, ru⟩ := hrb.get e4
        split at ei
        · rename_i ρ1 eb
          refine .inr ⟨⟨us, u, hsq, hu⟩, fun H' => ∃ μj Sj, StoreOk K H' μj Sj ∧ Step (upd H1 D (.lst [])) (μ1 ++ [some D]) H' μj ∧ lcV tg t m (wipeR ρ vs) S1.length c mm (i + 1) Sj = some S2,
            fun H' hN => ⟨mm, Nat.lt_succ_self _, hN⟩, fun x H' y => ?_⟩
          obtain ⟨rfl, y⟩ := y
          obtain rfl : u = x := by
            have := y us hsq
            rw [hu] at this
            exact Option.some.inj this
          refine gT_ok soi tg (.val d) u (wipeR ρ vs) ρ1 (wipe σ vs) _ (envW.step so1 (stN.trans sti)) ru eb fun σ2 env2 hs2 => ⟨?_, ?_⟩
          · rw [hs2.wipe hv, wipe_idem]
          · split at ei
            · rename_i S3 e5
              refine ⟨μi, ρ1, Si, true, S3, ⟨soi, env2⟩, e5, fun μ3 H3 so3 st3 => itT ?_⟩
              split at ei
              · rename_i yd S4 e6
                split at ei
                · rename_i acc e7
                  split at ei
                  · rename_i hz
                    refine ⟨μ3, ρ1, S3, .val yd, S4, ⟨so3, env2.step soi st3⟩, e6, fun μ4 yv H4 so4 st4 r4 => ?_⟩
                    obtain ⟨a', us', h1, h2, h3⟩ := so4.cell _ _ (getD_some e7)
                    have st14 := (sti.trans st3).trans st4
                    have ea := isD st14 h1
                    subst ea
                    obtain ⟨so5, st5⟩ := set_cell so4 (getD_some e7) h1 (h3.append (.cons r4 .nil))
                    exact ⟨us', h2, by rw [← h3.length]; exact hz, μ4, _, so5, st14.trans st5, ei⟩
                  · cases ei
                · cases ei
              · cases ei
            · rename_i S3 e5
              exact ⟨μi, ρ1, Si, false, S3, ⟨soi, env2⟩, e5, fun μ3 H3 so3 st3 => itF ⟨μ3, S3, so3, sti.trans st3, ei⟩⟩
            · cases ei
        · cases ei
    · cases ei
theorem lcVF_imp {K : PySem.W.Frag} {m0 : EM} {tg : Tg} {t : TM} {m : EM} {vs : List Nat} (hv : ∀ i ∈ tg.slots, i ∈ vs) {σ : L2.St} {H : Hp} {Q : VK} (q : tM K (mLcV m0 tg t m vs) σ H Q) : tLc (iList K (tM K m0)) (gT K tg) (tT K t) (tM K m) vs σ H Q := by
  obtain ⟨μ, ρ, S, w, S', ok, e, k⟩ := q
  unfold mLcV at e
  split at e
  · rename_i c S1 e1
    split at e
    · rename_i ds e0
      split at e
      · rename_i S2 e2
        split at e
        · rename_i acc e3
          cases e
          refine lcV_imp hv ok e1 ⟨ds, getD_some e0⟩ e2 fun μ1 H1 so1 st1 μ' H' D so' st' r' => ?_
          obtain ⟨a1, a2, a3⟩ := freeze so' (getD_some e3) r'
          obtain ⟨b1, b2, b3⟩ := trim_ok so1 a1 (st'.trans a2) (show Rep K H' _ (.fl acc) (.ref D) from a3)
          have et : (S2.set S1.length none).take S1.length = S2.take S1.length := by
            rw [List.take_set_of_le (Nat.le_refl _)]
          rw [et] at b1
          exact k _ _ H' b1 (st1.trans b2) b3
        · cases e
      · cases e
    · cases e
  · cases e
section
variable {X : Cx} {target iter elt : Expr} {ifs : List Expr} {scope : Scope} {own : List (Str × Nat)} {tg : Tg} {t : TM} {m m0 : EM} {pos : Pos}
theorem me_lcV (hc : X.calm = true) (hN : X.N.Nodup) (hl : PE X iter (tM X.K m0)) (ok : BlkOk X.N X.env.scope scope own) (hv : ∀ i ∈ tg.slots, i ∈ own.map (·.2))
    (hg : ∀ (s : Shared) (H : Hp) (C : Addr) (cl : List (Str × Addr)) (fp : List Addr), PG (X.blk s H scope (compEnvC scope cl C X.env) fp) target (gT X.K tg)) (ht : ∀ (s : Shared) (H : Hp) (C : Addr) (cl : List (Str × Addr)) (fp : List Addr), PTs (X.blk s H scope (compEnvC scope cl C X.env) fp) ifs (tT X.K t))
    (he : ∀ (s : Shared) (H : Hp) (C : Addr) (cl : List (Str × Addr)) (fp : List Addr), PE (X.blk s H scope (compEnvC scope cl C X.env) fp) elt (tM X.K m)) (hs : ∀ x, foldedSetIterable iter X.env x = pure x := by intro _; rfl) :
    PE X (.ListComp elt [⟨target, iter, ifs, 0⟩] scope pos) (tM X.K (mLcV m0 tg t m (own.map (·.2)))) := PE.imp (pe_lc hc hN (pi_list hl) ok hg ht he hs) fun σ H Q q => lcVF_imp hv q
end
end HM

set_option Elab.async false
set_option linter.all false
set_option maxRecDepth 100000
set_option autoImplicit false
set_option maxHeartbeats 4000000
namespace HM
open PySem PySem.Spec L2
open PyProof.Rows hiding St
/-! ### type(x) == T, x a dict too -/
def W.liveD (w : W) (S : Sto) : Bool := match w with
  | .val (.dct _ _) => true
  | w => w.live S
def mTyD (T : String) (m : EM) : EM := fun ρ S => match m ρ S with
  | some (w, S1) => if w.liveD S1 then some (.val (.bl (decide (w.ty = T))), S1) else none
  | none => none
theorem W.tyD {K : PySem.W.Frag} {H : Hp} {μ : Mu} {S : Sto} (so : StoreOk K H μ S) {w : W} {v : V} (r : RepW K H μ w v) (hl : w.liveD S = true) : TyB K H v w.ty := by
  cases w with
  | loc l => exact W.tyB so r hl
  | val d =>
    cases d with
    | dct ks ds =>
      cases (show Rep K H μ (.dct ks ds) v from r) with
      | dct q _ _ => exact .dK q
    | _ => exact W.tyB so r hl
theorem tyIs_typeD {T : String} (h : T ∈ ["dict", "NoneType", "bool", "int", "str", "tuple", "list"]) (s : Shared) : s.TypeIs (.type T) "type" := by
  rcases List.mem_cons.mp h with rfl | h
  · exact PySem.TypeEq.meta_dict s
  · exact tyIs_type h s
theorem W.tyD_mem (w : W) (S : Sto) (h : w.liveD S = true) : w.ty ∈ ["dict", "NoneType", "bool", "int", "str", "tuple", "list"] := by
  cases w with
  | loc l => exact List.mem_cons_of_mem _ (W.ty_mem (.loc l) S h)
  | val d =>
    cases d with
    | dct ks ds => exact List.mem_cons_self
    | _ => exact List.mem_cons_of_mem _ (W.ty_mem _ S h)
def rTyD : R2 := fun x y H Q => ∃ a b, x = .ty a ∧ y = .ty b ∧ a ∈ ["dict", "NoneType", "bool", "int", "str", "tuple", "list"] ∧ b ∈ ["dict", "NoneType", "bool", "int", "str", "tuple", "list"] ∧ Q (.bl (decide (a = b))) H
theorem op_tyD {X : Cx} : OpR X (compareOp .Eq) rTyD := by
  intro pins s σ H x y v u Q I rx ry h
  obtain ⟨a, b, rfl, rfl, ha, hb, q⟩ := h
  cases rx
  cases ry
  by_cases e : a = b
  · subst e
    rw [decide_eq_true rfl] at q
    exact PySem.TypeEq.eq_type_same (tyIs_typeD ha) ⟨.bl true, H, I, rfl, q⟩
  · rw [decide_eq_false e] at q
    exact PySem.TypeEq.eq_type_other (tyIs_typeD ha) (tyIs_typeD hb) (by simpa using e) ⟨.bl false, H, I, rfl, q⟩
section
variable {X : Cx} {e : Expr} {m : EM} {p p2 pos pos2 : Pos}
theorem me_tyD {T : String} {x : Str} (hT : T ∈ ["dict", "NoneType", "bool", "int", "str", "tuple", "list"]) (hg : Gl X "type") (hm : X.mg "type" = none) (hg2 : Gl X x) (hm2 : X.mg x = none) (hv : bootBuiltins x = some (.type T)) (h : PE X e (tM X.K m))
    (hn : x ≠ "__name__" := by decide) (hd : (x == ("__debug__" : Str)) = false := by decide) (hb : bootBuiltins "type" = some (.type "type") := by first | rfl | decide +kernel)
    (hs : starEach [e] X.env = (false, eval e X.env) :: starEach [] X.env := by rfl) :
    PE X (.Compare (.Call (.Name "type" p) [e] [] pos) [.Eq] [.Name x p2] pos2) (tM X.K (mTyD T m)) := by
  have h1 : PE X (.Call (.Name "type" p) [e] [] pos) (tCB (rTyp X.K) (tCons (tM X.K m) tNil)) := pe_callTy call_type1 hg hm hb (pa_cons h pa_nil hs) (by decide) (by decide) hs (by rfl)
  have h2 : PE X (.Name x p2) (tC (.ty T)) := pe_bltn hg2 hm2 hv rfl hn hd
  refine PE.imp (pe_cmpR op_tyD h1 h2 (nomark _)) fun σ H Q q => ?_
  obtain ⟨μ, ρ, S, w, S', ok, e, k⟩ := q
  unfold mTyD at e
  split at e
  · rename_i w0 S1 e1
    split at e
    · rename_i hl
      cases e
      refine ⟨μ, ρ, S, w0, _, ok, e1, fun μ1 v H1 so1 st1 r1 => ?_⟩
      exact ⟨v, w0.ty, rfl, W.tyD so1 r1 hl, w0.ty, T, rfl, rfl, w0.tyD_mem _ hl, hT, k μ1 _ H1 so1 st1 (.bl _)⟩
    · cases e
  · cases e
end
end HM
namespace HM
open PySem PySem.Spec L2
open PyProof.Rows hiding St
/-! ### a name as a test: truths, lists, tuples -/
def mTruA (m : EM) : TM := fun ρ S => match m ρ S with
  | some (.val (.bl b), S1) => some (b, S1)
  | some (w, S1) => match (match tItems w with | some ds => some ds | none => lItems w S1) with
    | some ds => some (!ds.isEmpty, S1)
    | none => none
  | none => none
theorem mt_truA {X : Cx} {e : Expr} {m : EM} (h : PE X e (tM X.K m)) (he : ∀ whole, isTrue e X.env whole = (do let v ← whole; standAt e.pos; holding [v] (truthy v)) := by intro _; rfl) : PT X e (tT X.K (mTruA m)) := by
  refine PT.imp (pt_truth h he) fun σ H Q q => ?_
  obtain ⟨μ, ρ, S, w, S', ok, e, k⟩ := q
  unfold mTruA at e
  split at e
  · rename_i b S1 e1
    cases e
    refine ⟨μ, ρ, S, _, _, ok, e1, fun μ1 v H1 so1 st1 r1 => ?_⟩
    cases (show Rep X.K H1 μ1 (.bl _) v from r1)
    exact ⟨_, rfl, k μ1 H1 so1 st1⟩
  · rename_i w0 S1 _ e1
    split at e
    · rename_i ds e2
      cases e
      refine ⟨μ, ρ, S, _, _, ok, e1, fun μ1 v H1 so1 st1 r1 => ?_⟩
      split at e2
      · rename_i ds' e3
        cases e2
        obtain ⟨a, us, rfl, q, rr⟩ := tItems_ok r1 e3
        exact ⟨_, .inr (.inl ⟨us, q, by rw [isEmpty_reps rr]⟩), k μ1 H1 so1 st1⟩
      · obtain ⟨a, us, rfl, q, rr⟩ := lItems_ok so1 r1 e2
        exact ⟨_, .inl ⟨us, q, by rw [isEmpty_reps rr]⟩, k μ1 H1 so1 st1⟩
    · cases e
  · cases e
end HM

set_option Elab.async false
set_option linter.all false
set_option maxRecDepth 100000
set_option autoImplicit false
set_option maxHeartbeats 4000000
namespace HM
open PySem PySem.Spec L2
open PyProof.Rows hiding St
/-! ### sums of whole numbers and truths -/
section
variable {X : Cx}
def rBI (g : Int → Int → Int) : R2 := fun x y H Q => ∃ (b : Bool) (j : Int), x = .bl b ∧ y = .int j ∧ Q (.int (g (if b = true then 1 else 0) j)) H
def rIB (g : Int → Int → Int) : R2 := fun x y H Q => ∃ (i : Int) (b : Bool), x = .int i ∧ y = .bl b ∧ Q (.int (g i (if b = true then 1 else 0))) H
theorem op_add_bi : OpR X (binaryOp .Add) (rBI (· + ·)) := by
  intro pins s σ H x y v u Q I rx ry h
  obtain ⟨b, j, rfl, rfl, q⟩ := h
  cases rx
  obtain ⟨t, rfl⟩ := ry
  exact IntBool.add_bool_int ⟨.int ((if b = true then 1 else 0) + j), H, I.tok _, ⟨_, rfl⟩, q⟩
theorem op_sub_bi : OpR X (binaryOp .Sub) (rBI (· - ·)) := by
  intro pins s σ H x y v u Q I rx ry h
  obtain ⟨b, j, rfl, rfl, q⟩ := h
  cases rx
  obtain ⟨t, rfl⟩ := ry
  exact IntBool.sub_bool_int ⟨.int ((if b = true then 1 else 0) - j), H, I.tok _, ⟨_, rfl⟩, q⟩
theorem op_sub_ib : OpR X (binaryOp .Sub) (rIB (· - ·)) := by
  intro pins s σ H x y v u Q I rx ry h
  obtain ⟨i, b, rfl, rfl, q⟩ := h
  obtain ⟨t, rfl⟩ := rx
  cases ry
  exact IntBool.sub_int_bool ⟨.int (i - if b = true then 1 else 0), H, I.tok _, ⟨_, rfl⟩, q⟩
theorem op_mul_ib : OpR X (binaryOp .Mult) (rIB (· * ·)) := by
  intro pins s σ H x y v u Q I rx ry h
  obtain ⟨i, b, rfl, rfl, q⟩ := h
  obtain ⟨t, rfl⟩ := rx
  cases ry
  exact IntBool.mul_int_bool ⟨.int (i * if b = true then 1 else 0), H, I.tok _, ⟨_, rfl⟩, q⟩
def fBI (g : Int → Int → Int) : F2 := fun x y S => match x, y with
  | .val (.bl b), .val (.int j) => some (.val (.int (g (if b = true then 1 else 0) j)), S)
  | _, _ => none
def fIB (g : Int → Int → Int) : F2 := fun x y S => match x, y with
  | .val (.int i), .val (.bl b) => some (.val (.int (g i (if b = true then 1 else 0))), S)
  | _, _ => none
theorem op2_BI {K : PySem.W.Frag} {g : Int → Int → Int} : Op2 K (rBI g) (fBI g) := by
  intro μ S H x y v u w S' Q so rx ry e k
  unfold fBI at e
  split at e
  · cases e
    cases rx
    cases ry
    exact ⟨_, _, rfl, rfl, k μ _ H so .refl (.int _)⟩
  · cases e
theorem op2_IB {K : PySem.W.Frag} {g : Int → Int → Int} : Op2 K (rIB g) (fIB g) := by
  intro μ S H x y v u w S' Q so rx ry e k
  unfold fIB at e
  split at e
  · cases e
    cases rx
    cases ry
    exact ⟨_, _, rfl, rfl, k μ _ H so .refl (.int _)⟩
  · cases e
variable {a b : Expr} {pos : Pos} {ma mb : EM}
def fPlusB : F2 := fun x y S => (fPlus x y S).orElse fun _ => fBI (· + ·) x y S
def fSubB : F2 := fun x y S => (fSub x y S).orElse fun _ => (fBI (· - ·) x y S).orElse fun _ => fIB (· - ·) x y S
def fMulB : F2 := fun x y S => (fMulX x y S).orElse fun _ => fIB (· * ·) x y S
theorem me_addB (ha : PE X a (tM X.K ma)) (hb : PE X b (tM X.K mb)) : PE X (.BinOp a .Add b pos) (tM X.K (mBin fPlusB ma mb)) := me_op (op_plus.or op_add_bi) (op2_plus.or op2_BI) ha hb
theorem me_subB (ha : PE X a (tM X.K ma)) (hb : PE X b (tM X.K mb)) : PE X (.BinOp a .Sub b pos) (tM X.K (mBin fSubB ma mb)) := me_op (op_sub.or (op_sub_bi.or op_sub_ib)) (op2_I0.or (op2_BI.or op2_IB)) ha hb
theorem me_mulB (ha : PE X a (tM X.K ma)) (hb : PE X b (tM X.K mb)) : PE X (.BinOp a .Mult b pos) (tM X.K (mBin fMulB ma mb)) := me_op ((op_mulW.or op_repA).or op_mul_ib) (((op2_I cMul_ok).or op2_repA).or op2_IB) ha hb
end
end HM

set_option Elab.async false
set_option linter.all false
set_option maxRecDepth 100000
set_option autoImplicit false
set_option maxHeartbeats 4000000
namespace K02
open PySem PySem.Spec L2 HM
open PyProof.Rows hiding St
abbrev prg : Program := PySem.Challenge.pw_splitcosts_k02_tables_of_anything
def topS (i : Nat) : Stmt := prg.main.body.getD i (.Pass ⟨0, 0, 0, 0⟩)
end K02

set_option Elab.async false
set_option linter.all false
set_option maxRecDepth 100000
set_option autoImplicit false
set_option maxHeartbeats 4000000
namespace HM
open PySem PySem.Spec L2
open PyProof.Rows hiding St
section
variable {P : Program} {w : World} {K : PySem.W.Frag} {mg mb : Str → Option Value} {k : Nat} {fa a : Addr} {fd : FuncData} {x : Str} {F : FM} {s1 : Shared} {us : List Value} {ns : List Int}
/-- the script that a law is called with, from its list in memory -/
theorem enter_scr (hK : K.In s1.heap) (hG : s1.heap.Ns mainGlobals mg) (hB : s1.heap.Ns builtinsNs mb) (hBb : ∀ (y : Str), y ≠ Str.ofString "__name__" → mb y = bootBuiltins y) (hL : s1.heap.NoLimit) (hg : s1.gens = #[])
    (ha : s1.heap.get? a = some { cls := .type "list", data := .seq us.toArray }) (hi : PyProof.Rows.IntsAre us ns) (hl : ns.length ≤ sizeLine) (hr : Room k callerA) (G : ∀ base : Heap, K.In base → base.Ns mainGlobals mg → FnG P w K mg base k fa fd [x] (spM K 1 F))
    (hb : ∀ (s : Shared) (u : Value), BindsTo s fd { pos := [u] } [(x, u)]) (hF : ∃ S', F [.val (.scr ns)] [] = some (.val (.bl true), S')) :
    codeAny (model P w) callerA (.call (.ref fa) { pos := [.ref a] }) (fun r s' => r = .ok (.ret (.bool true)) ∧ OldK s1.heap s'.heap ∧ s'.os = s1.os ∧ PyProof.Rows.AllBare s'.gens) s1 := by
  have rv := vals_ints hi
  have core : ∀ H : Hp, Only H → ScrAt K H a (ns.map V.int) → HOk P w H s1.heap → (∀ b, H b ≠ none → b = a) → (H a ≠ none → K.lookup a = none) →
      codeAny (model P w) callerA (.call (.ref fa) { pos := [.ref a] }) (fun r s' => r = .ok (.ret (.bool true)) ∧ OldK s1.heap s'.heap ∧ s'.os = s1.os ∧ PyProof.Rows.AllBare s'.gens) s1 := by
    intro H hO hS hok hA hN
    have off : ∀ {b : Addr} {o : Obj} {es : Array DictEntry} {ep : Nat}, s1.heap.get? b = some o → o.data = .dict es ep → H b = none := by
      intro b o es ep e d
      cases q : H b with
      | none => rfl
      | some u =>
        exfalso
        have hba := hA b (by rw [q]; simp)
        subst hba
        rw [ha] at e
        cases e
        cases d
    have nsIn : ∀ {b : Addr} {m : Str → Option Value}, s1.heap.Ns b m → (hidT s1.heap H).Ns b m := fun z => by
      obtain ⟨o, es, ep, e, d, r⟩ := z
      exact ⟨o, es, ep, hidT_get e (off e d), d, r⟩
    have kIn : K.In (hidT s1.heap H) := fun b o e => by
      refine hidT_get (hK b o e) ?_
      cases q : H b with
      | none => rfl
      | some u =>
        exfalso
        have hba := hA b (by rw [q]; simp)
        subst hba
        have := hN (by rw [q]; simp)
        rw [this] at e
        cases e
    have e0 : Env0 P w K mg (hidT s1.heap H) callerA [] s1 H :=
      { frames := rfl
        mod := { kin := kIn, glob := nsIn hG, blt := ⟨mb, nsIn hB, hBb⟩, nolimit := by obtain ⟨mc, h1, h2⟩ := hL; exact ⟨mc, nsIn h1, h2⟩ }
        bs := fun b o e => of_hidT e
        bsz := Nat.le_of_eq (hidT_size s1.heap H)
        funs := trivial
        frf := fun b z => absurd (show b ∈ ([] : List Addr) from z) (by simp)
        hok := hok
        bare := PyProof.Rows.AllBare.of_eq hg }
    have hsp : spM K 1 F [V.ref a] H (fun v _ => v = .bl true) (fun _ _ _ => False) := by
      obtain ⟨S', e⟩ := hF
      refine ⟨rfl, [], [], [.val (.scr ns)], .val (.bl true), S', ⟨rfl, fun l ds z => by simp at z, fun l z => by simp at z, fun l m b z => by simp at z⟩, ?_, e, fun μ' v H' _ _ r => ?_⟩
      · exact .cons (show Rep K H [] (.scr ns) (.ref a) from .scr hS) .nil
      · cases (show Rep K H' μ' (.bl true) v from r)
        rfl
    refine codeAny_mono ((G _ kIn (nsIn hG)).run callerA [] s1 H { pos := [.ref a] } [.ref a] [V.ref a] (fun v _ => v = .bl true) (fun _ _ _ => False) hr rfl e0 (hb s1 (.ref a)) (.cons rfl .nil) hsp) fun r s' h => ?_
    cases r with
    | error e => exact False.elim (show False from h)
    | ok fl =>
      cases fl with
      | next => exact False.elim h
      | brk => exact False.elim h
      | cont => exact False.elim h
      | ret u =>
        obtain ⟨v, H', os, bare, un, hok', r', q⟩ := h
        have q' : v = .bl true := q
        subst q'
        have r2 : u = .bool true := r'
        refine ⟨by rw [r2], .of_keep fun b o e => ?_, os, bare⟩
        cases hq : H b with
        | none => exact un.keep b o e hq (by simp [frs]) (by simp)
        | some y =>
          rcases hO b with z | ⟨ob, xs, z⟩
          · rw [hq] at z; cases z
          · have z2 := un.frzs b ob (.lst xs) z
            have h1 := (hok b _ z).1
            have h2 := (hok' b _ z2).1
            rw [h1] at e
            cases e
            exact h2
  cases hk : K.lookup a with
  | none =>
    refine core (fun b => if b = a then some (.frz { cls := .type "list", data := .seq us.toArray } (.lst (ns.map V.int))) else none) (fun b => ?_) (.inl ⟨_, if_pos rfl⟩) (fun b y z => ?_) (fun b z => ?_) (fun _ => hk)
    · by_cases hba : b = a
      · exact .inr ⟨_, _, if_pos hba⟩
      · exact .inl (if_neg hba)
    · by_cases hba : b = a
      · have z := (if_pos hba).symm.trans z
        cases z
        subst hba
        exact ⟨ha, by rw [List.length_map]; exact hl, us, 0, rv, ha⟩
      · have z := (if_neg hba).symm.trans z
        cases z
    · by_cases hba : b = a
      · exact hba
      · exact absurd (if_neg hba) z
  | some o =>
    have e := hK a o hk
    rw [ha] at e
    cases e
    refine core (fun _ => none) (fun _ => .inl rfl) (.inr ?_) (fun b y z => by cases z) (fun b z => absurd rfl z) (fun z => absurd rfl z)
    exact .inr ⟨_, us.toArray, 0, hk, rfl, rfl, rfl, by simp [← rv.length] at hl ⊢; exact hl, by simpa using rv⟩
theorem walk_scr {l : PySem.W.OpenLaw} {n k : Nat} {q : Program} {loose : List Str} {XP : (Str → Option Value) → Heap → Prop} {YP : World → Heap → Prop} {d : DefRec} {x : Str} (hn : l.most = some n) (hn2 : n ≤ sizeLine) (hdf : d.params.defaults = []) (hr : Room k callerA)
    (G : ∀ (w : World) (mg : Str → Option Value) (fa : Addr) (h : Heap), YP w h → h.Ns mainGlobals mg → mg d.name = some (.ref fa) → ∃ (K : PySem.W.Frag) (fd : FuncData) (F : FM), K.In h ∧ (∀ (s : Shared) (u : Value), BindsTo s fd { pos := [u] } [(x, u)]) ∧
      (∀ ns : List Int, ∃ S', F [.val (.scr ns)] [] = some (.val (.bl true), S')) ∧ ∀ base : Heap, K.In base → base.Ns mainGlobals mg → FnG l.prog w K mg base k fa fd [x] (spM K 1 F)) :
    PySem.W.WalkO q loose XP YP l.row.toRowW d [] fun f vs => call f vs :=
  Att.attach_call hn hdf fun w s0 s1 mg mb fa o pm cd doc a vs ns Gr Y ho hd hcd hmg hobj hints hlen hg => by
    obtain ⟨K, fd, F, KX, hb, hF, hG⟩ := G w mg fa s1.heap Y Gr.T.g hmg
    exact enter_scr KX Gr.T.g Gr.T.b Gr.T.builtins Gr.T.nolimit hg hobj hints (Nat.le_trans hlen hn2) hr hG hb (hF ns)
end
end HM

set_option Elab.async false
set_option linter.all false
set_option maxRecDepth 100000
set_option autoImplicit false
set_option maxHeartbeats 4000000
namespace HM
open PySem PySem.Spec L2
open PyProof.Rows hiding St
section
variable {P : Program} {w : World} {K : PySem.W.Frag} {mg : Str → Option Value} {h : Heap} {fm : Fm} {ups dns : List String} {fs : List Str}
theorem xcls_of (F : Fam K fm ups dns fs) (X : K.In h) (G : h.Ns mainGlobals mg) {c f q : Str} {st : Stmt} {fd : FuncData} (hl : (fm.lookup c).isSome = true) (hf : fs.contains f = true) (hi : initB K c = true) (U : Fun K "__init__" q st (He.fAd K (c, some "__init__")) fd) (S : FnScope ["self", f] ["self", f] (defScope st))
    (hbody : ∀ (base : Heap) (cdv : Value) (A : Around) (outer : List Env) (s : Shared) (H : Hp) (E : XK), PSs (cxOf CX0 P w K mg base ["self", f] q (defScope st) (He.fAd K (c, some "__init__")) cdv A outer s H E).nox (defBody st) (tOst K f (tVar 0) (tVar 1)))
    (b1 : ∀ (kV doc pm : Value) (an : Option Addr) (cdv ct : Value) (a u : Value), bindArgs (PySem.W.fnOf "__init__" q (defArgs st) (defBody st) (defScope st) .none kV doc pm an cdv ct) ⟨[a, u], []⟩ = pure [(("self" : Str), a), ((f : Str), u)])
    (b2 : ∀ (kV doc pm : Value) (an : Option Addr) (cdv ct : Value) (a u : Value), bindArgs (PySem.W.fnOf "__init__" q (defArgs st) (defBody st) (defScope st) .none kV doc pm an cdv ct) ⟨[a], [((f : Str), u)]⟩ = pure [(("self" : Str), a), ((f : Str), u)]) :
    ∃ C, ∀ base : Heap, XCls P w K mg base c f C (He.fAd K (c, some "__init__")) fd := by
  obtain ⟨l, hl'⟩ := Option.isSome_iff_exists.mp hl
  obtain ⟨C, hC⟩ := F.at hl'
  obtain ⟨e1, _, _, _, e5⟩ := F.one hl' hC
  unfold initB at hi
  rw [hC] at hi
  simp only [Bool.and_eq_true, beq_iff_eq] at hi
  obtain ⟨h1, h2, h3⟩ := hi
  exact ⟨C, fun base => xcls_mk hC (PySem.W.mg_of X G (clsAt_ns hC)) (oexB_ok h1) e1 h2 h3 (e5 f (List.contains_iff_mem.mp hf)) U S (hbody base) b1 b2⟩
theorem bare_of (F : Fam K fm ups dns fs) (X : K.In h) (G : h.Ns mainGlobals mg) {c : Str} {bm : List Value} (hl : (fm.lookup c).isSome = true) (hb : bareB K bm c = true) :
    ∃ C, PySem.W.excIn K C bm "ValueError.__new__" = true ∧ PySem.W.nsIn K mainGlobals c = some (some (.ref C)) ∧ mg c = some (.ref C) ∧ PySem.W.keepIn K (.ref C) = true ∧ clsAt K c = some C := by
  obtain ⟨l, hl'⟩ := Option.isSome_iff_exists.mp hl
  obtain ⟨C, hC⟩ := F.at hl'
  unfold bareB at hb
  rw [hC] at hb
  obtain ⟨h1, h2⟩ := Bool.and_eq_true_iff.mp hb
  exact ⟨C, h1, clsAt_ns hC, PySem.W.mg_of X G (clsAt_ns hC), h2, hC⟩
end
end HM

set_option Elab.async false
set_option linter.all false
set_option maxRecDepth 100000
set_option autoImplicit false
set_option maxHeartbeats 4000000
namespace HM
open PySem PySem.Spec L2
open PyProof.Rows hiding St
/-! ### a pair of whole numbers and a built-in function among the globals -/
def pairB (K : PySem.W.Frag) (x : Str) (i j : Int) : Bool := match K.lookup (He.ga K x) with
  | some ⟨.type c, _, .seq its n, _⟩ => decide (c = "tuple") && (match its.toList with
    | [.int a _, .int b _] => decide (a = i) && decide (b = j)
    | _ => false)
  | _ => false
theorem pair_ok {K : PySem.W.Frag} {x : Str} {i j : Int} (h : pairB K x i j = true) : SqT K (fun _ => none) (He.ga K x) [.int i, .int j] := by
  unfold pairB at h
  split at h
  · rename_i c d its n sl e
    obtain ⟨h1, h2⟩ := Bool.and_eq_true_iff.mp h
    split at h2
    · rename_i a t b u e2
      obtain ⟨h3, h4⟩ := Bool.and_eq_true_iff.mp h2
      have h1 := of_decide_eq_true h1
      have h3 := of_decide_eq_true h3
      have h4 := of_decide_eq_true h4
      subst h1 h3 h4
      refine .inr ⟨_, its, n, e, rfl, rfl, ?_, ?_⟩
      · have : its.size = 2 := by rw [← Array.length_toList, e2]; rfl
        rw [this, sizeLine_eq]
        decide
      · rw [e2]
        exact .cons ⟨t, rfl⟩ (.cons ⟨u, rfl⟩ .nil)
    · cases h2
  · cases h
def bltB (K : PySem.W.Frag) (x : Str) (n : String) : Bool := decide (PySem.W.nsIn K mainGlobals x = some (some (.builtin n)))
theorem blt_ok {K : PySem.W.Frag} {h : Heap} {mg : Str → Option Value} {x : Str} {n : String} (X : K.In h) (G : h.Ns mainGlobals mg) (c : bltB K x n = true) : mg x = some (.builtin n) := PySem.W.mg_of X G (of_decide_eq_true c)
end HM

set_option Elab.async false
set_option linter.all false
set_option maxRecDepth 100000
/-! The head's run, told in parts: what is seen of the last state is put together from what smaller looks see. -/
namespace HDY
open PySem PySem.W PyProof.Rows
theorem map_pair {α β γ : Type} {o : Option α} {f : α → β} {g : α → γ} {b : β} {c : γ} (h1 : o.map f = some b) (h2 : o.map g = some c) : (o.map fun x => (f x, g x)) = some (b, c) := by
  cases o with
  | none => cases h1
  | some x =>
    cases h1
    cases h2
    rfl
theorem map_imp {α β γ : Type} {o : Option α} {f : α → β} {g : α → γ} {b : β} {c : γ} (h1 : o.map f = some b) (i : ∀ x, f x = b → g x = c) : o.map g = some c := by
  cases o with
  | none => cases h1
  | some x =>
    have := i x (Option.some.inj h1)
    exact congrArg some this
theorem obs_append {n : Nat} {fa1 fa2 : List He.Fa} {fn1 fn2 : List He.DefD} {ex : PySem.W.Frag → Bool} {g : Addr → Option Obj} {w : World}
    (h1 : He.obsX n fa1 fn1 [] [] ex g = He.valX fn1 [] w) (h2 : He.obsX n fa2 fn2 [] [] (fun _ => true) g = He.valX fn2 [] w) : He.obsX n (fa1 ++ fa2) (fn1 ++ fn2) [] [] ex g = He.valX (fn1 ++ fn2) [] w := by
  unfold He.obsX He.valX He.obsT He.valT He.obsD He.valD at *
  simp only [Prod.mk.injEq, List.map_nil, and_true, Bool.and_eq_true] at h1 h2 ⊢
  obtain ⟨⟨⟨a1, a2⟩, a3⟩, a4⟩ := h1
  obtain ⟨⟨⟨b1, b2⟩, b3⟩, _⟩ := h2
  refine ⟨⟨⟨?_, ?_⟩, ?_⟩, a4⟩
  · rw [List.all_append, a1, b1]; rfl
  · rw [List.all_append, a2, b2]; rfl
  · rw [List.map_append, List.map_append, a3, b3]
end HDY

set_option Elab.async false
set_option linter.all false
set_option maxRecDepth 100000
set_option maxHeartbeats 0
namespace K02
open PySem PySem.Spec PyProof.Rows L2 HM
def chk (K : PySem.W.Frag) : Bool := (bltB K "gcd" "math.gcd" && (pairB K "NIL" (0) (1) && (pairB K "ONE" (1) (1) && true)))
def fa0 : List He.Fa := [.glo "reduced", .glo "plus", .glo "minus", .glo "times", .glo "over", .glo "less_times", .glo "dot", .glo "row_times", .glo "row_plus", .glo "row_less", .glo "unit_row", .glo "applied", .glo "turned_over", .glo "worth_at", .glo "pivot", .glo "pivot_squares", .glo "less_square", .glo "squares_of", .glo "signs_of", .glo "is_positive", .glo "is_tuple", .glo "is_whole_number", .glo "is_pair", .glo "is_fraction", .glo "is_row", .glo "is_table_of", .glo "is_any_table", .glo "is_form", .glo "is_positive_table", .glo "check_form", .glo "check_table", .glo "check_row", .glo "is_table", .glo "worth", .glo "energy_product", .glo "_law_urn", .glo "_law_take", .glo "_law_pick", .glo "_law_frac", .glo "_law_times"]
def fn0 : List He.DefD := [⟨("reduced", none), "reduced", "reduced", defArgs (topS 9), defBody (topS 9), defScope (topS 9), [], []⟩,
  ⟨("plus", none), "plus", "plus", defArgs (topS 10), defBody (topS 10), defScope (topS 10), [], []⟩,
  ⟨("minus", none), "minus", "minus", defArgs (topS 11), defBody (topS 11), defScope (topS 11), [], []⟩,
  ⟨("times", none), "times", "times", defArgs (topS 12), defBody (topS 12), defScope (topS 12), [], []⟩,
  ⟨("over", none), "over", "over", defArgs (topS 13), defBody (topS 13), defScope (topS 13), [], []⟩,
  ⟨("less_times", none), "less_times", "less_times", defArgs (topS 14), defBody (topS 14), defScope (topS 14), [], []⟩,
  ⟨("dot", none), "dot", "dot", defArgs (topS 16), defBody (topS 16), defScope (topS 16), [], []⟩,
  ⟨("row_times", none), "row_times", "row_times", defArgs (topS 17), defBody (topS 17), defScope (topS 17), [], []⟩,
  ⟨("row_plus", none), "row_plus", "row_plus", defArgs (topS 18), defBody (topS 18), defScope (topS 18), [], []⟩,
  ⟨("row_less", none), "row_less", "row_less", defArgs (topS 19), defBody (topS 19), defScope (topS 19), [], []⟩,
  ⟨("unit_row", none), "unit_row", "unit_row", defArgs (topS 20), defBody (topS 20), defScope (topS 20), [], []⟩,
  ⟨("applied", none), "applied", "applied", defArgs (topS 21), defBody (topS 21), defScope (topS 21), [], []⟩,
  ⟨("turned_over", none), "turned_over", "turned_over", defArgs (topS 22), defBody (topS 22), defScope (topS 22), [], []⟩,
  ⟨("worth_at", none), "worth_at", "worth_at", defArgs (topS 24), defBody (topS 24), defScope (topS 24), [], []⟩,
  ⟨("pivot", none), "pivot", "pivot", defArgs (topS 25), defBody (topS 25), defScope (topS 25), [], []⟩,
  ⟨("pivot_squares", none), "pivot_squares", "pivot_squares", defArgs (topS 26), defBody (topS 26), defScope (topS 26), [], []⟩,
  ⟨("less_square", none), "less_square", "less_square", defArgs (topS 27), defBody (topS 27), defScope (topS 27), [], []⟩,
  ⟨("squares_of", none), "squares_of", "squares_of", defArgs (topS 28), defBody (topS 28), defScope (topS 28), [], []⟩,
  ⟨("signs_of", none), "signs_of", "signs_of", defArgs (topS 29), defBody (topS 29), defScope (topS 29), [], []⟩,
  ⟨("is_positive", none), "is_positive", "is_positive", defArgs (topS 30), defBody (topS 30), defScope (topS 30), [], []⟩,
  ⟨("is_tuple", none), "is_tuple", "is_tuple", defArgs (topS 33), defBody (topS 33), defScope (topS 33), [], []⟩,
  ⟨("is_whole_number", none), "is_whole_number", "is_whole_number", defArgs (topS 34), defBody (topS 34), defScope (topS 34), [], []⟩,
  ⟨("is_pair", none), "is_pair", "is_pair", defArgs (topS 35), defBody (topS 35), defScope (topS 35), [], []⟩,
  ⟨("is_fraction", none), "is_fraction", "is_fraction", defArgs (topS 36), defBody (topS 36), defScope (topS 36), [], []⟩,
  ⟨("is_row", none), "is_row", "is_row", defArgs (topS 37), defBody (topS 37), defScope (topS 37), [], []⟩,
  ⟨("is_table_of", none), "is_table_of", "is_table_of", defArgs (topS 38), defBody (topS 38), defScope (topS 38), [], []⟩,
  ⟨("is_any_table", none), "is_any_table", "is_any_table", defArgs (topS 39), defBody (topS 39), defScope (topS 39), [], []⟩,
  ⟨("is_form", none), "is_form", "is_form", defArgs (topS 40), defBody (topS 40), defScope (topS 40), [], []⟩,
  ⟨("is_positive_table", none), "is_positive_table", "is_positive_table", defArgs (topS 41), defBody (topS 41), defScope (topS 41), [], []⟩,
  ⟨("check_form", none), "check_form", "check_form", defArgs (topS 43), defBody (topS 43), defScope (topS 43), [], []⟩,
  ⟨("check_table", none), "check_table", "check_table", defArgs (topS 44), defBody (topS 44), defScope (topS 44), [], []⟩]
def fa1 : List He.Fa := [.glo "_law_dot", .glo "_law_go", .glo "_law_flip", .glo "_law_mul", .glo "_law_by", .glo "_law_at", .glo "_law_is_frac", .glo "_law_is_line", .glo "_law_is_grid", .glo "_law_number", .glo "_law_line", .glo "_law_of_squares", .glo "_law_table", .glo "_law_size", .glo "_law_same", .glo "_law_odd", .glo "_law_bent", .glo "_law_form", .glo "_law_square", .glo "_law_is_any_right", .glo "_law_right", .glo "law", .free "abs", .free "all", .free "bool", .free "divmod", .free "enumerate", .free "int", .free "isinstance", .free "len", .free "list", .free "max", .free "min", .free "range", .free "tuple", .free "type", .free "zip", .int "MOST_ROWS" (5), .glo "NIL", .glo "ONE"]
def fn1 : List He.DefD := [⟨("check_row", none), "check_row", "check_row", defArgs (topS 45), defBody (topS 45), defScope (topS 45), [], []⟩,
  ⟨("is_table", none), "is_table", "is_table", defArgs (topS 47), defBody (topS 47), defScope (topS 47), [], []⟩,
  ⟨("worth", none), "worth", "worth", defArgs (topS 48), defBody (topS 48), defScope (topS 48), [], []⟩,
  ⟨("energy_product", none), "energy_product", "energy_product", defArgs (topS 49), defBody (topS 49), defScope (topS 49), [], []⟩,
  ⟨("_law_urn", none), "_law_urn", "_law_urn", defArgs (topS 51), defBody (topS 51), defScope (topS 51), [], []⟩,
  ⟨("_law_take", none), "_law_take", "_law_take", defArgs (topS 52), defBody (topS 52), defScope (topS 52), [], []⟩,
  ⟨("_law_pick", none), "_law_pick", "_law_pick", defArgs (topS 53), defBody (topS 53), defScope (topS 53), [], []⟩,
  ⟨("_law_frac", none), "_law_frac", "_law_frac", defArgs (topS 54), defBody (topS 54), defScope (topS 54), [], []⟩,
  ⟨("_law_times", none), "_law_times", "_law_times", defArgs (topS 55), defBody (topS 55), defScope (topS 55), [], []⟩,
  ⟨("_law_dot", none), "_law_dot", "_law_dot", defArgs (topS 56), defBody (topS 56), defScope (topS 56), [], []⟩,
  ⟨("_law_go", none), "_law_go", "_law_go", defArgs (topS 57), defBody (topS 57), defScope (topS 57), [], []⟩,
  ⟨("_law_flip", none), "_law_flip", "_law_flip", defArgs (topS 58), defBody (topS 58), defScope (topS 58), [], []⟩,
  ⟨("_law_mul", none), "_law_mul", "_law_mul", defArgs (topS 59), defBody (topS 59), defScope (topS 59), [], []⟩,
  ⟨("_law_by", none), "_law_by", "_law_by", defArgs (topS 60), defBody (topS 60), defScope (topS 60), [], []⟩,
  ⟨("_law_at", none), "_law_at", "_law_at", defArgs (topS 61), defBody (topS 61), defScope (topS 61), [], []⟩,
  ⟨("_law_is_frac", none), "_law_is_frac", "_law_is_frac", defArgs (topS 62), defBody (topS 62), defScope (topS 62), [], []⟩,
  ⟨("_law_is_line", none), "_law_is_line", "_law_is_line", defArgs (topS 63), defBody (topS 63), defScope (topS 63), [], []⟩,
  ⟨("_law_is_grid", none), "_law_is_grid", "_law_is_grid", defArgs (topS 64), defBody (topS 64), defScope (topS 64), [], []⟩,
  ⟨("_law_number", none), "_law_number", "_law_number", defArgs (topS 65), defBody (topS 65), defScope (topS 65), [], []⟩,
  ⟨("_law_line", none), "_law_line", "_law_line", defArgs (topS 66), defBody (topS 66), defScope (topS 66), [], []⟩,
  ⟨("_law_of_squares", none), "_law_of_squares", "_law_of_squares", defArgs (topS 67), defBody (topS 67), defScope (topS 67), [], []⟩,
  ⟨("_law_table", none), "_law_table", "_law_table", defArgs (topS 68), defBody (topS 68), defScope (topS 68), [], []⟩,
  ⟨("_law_size", none), "_law_size", "_law_size", defArgs (topS 69), defBody (topS 69), defScope (topS 69), [], []⟩,
  ⟨("_law_same", none), "_law_same", "_law_same", defArgs (topS 70), defBody (topS 70), defScope (topS 70), [], []⟩,
  ⟨("_law_odd", none), "_law_odd", "_law_odd", defArgs (topS 71), defBody (topS 71), defScope (topS 71), [], []⟩,
  ⟨("_law_bent", none), "_law_bent", "_law_bent", defArgs (topS 72), defBody (topS 72), defScope (topS 72), [], []⟩,
  ⟨("_law_form", none), "_law_form", "_law_form", defArgs (topS 73), defBody (topS 73), defScope (topS 73), [], []⟩,
  ⟨("_law_square", none), "_law_square", "_law_square", defArgs (topS 74), defBody (topS 74), defScope (topS 74), [], []⟩,
  ⟨("_law_is_any_right", none), "_law_is_any_right", "_law_is_any_right", defArgs (topS 75), defBody (topS 75), defScope (topS 75), [], []⟩,
  ⟨("_law_right", none), "_law_right", "_law_right", defArgs (topS 76), defBody (topS 76), defScope (topS 76), [], []⟩,
  ⟨("law", none), "law", "law", defArgs (topS 77), defBody (topS 77), defScope (topS 77), [], []⟩]
def fa : List He.Fa := fa0 ++ (fa1)
def fn : List He.DefD := fn0 ++ (fn1)
abbrev R : PySem.W.OpenRow := PySem.W.OpenLaw.row PySem.Challenge.rw_splitcosts_k02_tables_of_anything
abbrev hk : PySem.W.Hook := He.hookX 5 fa fn [] [] chk
def ob (s : PySem.W.SharedT) : He.AlX := He.obsX 5 fa fn [] [] chk (HandSHeadRun.getT s)
theorem ob_eq (s : PySem.W.SharedT) : ob s = hk.obs s.abs := He.obsX_eq (HandSHeadRun.getT_eq s)
def loose : List PySem.Str := (["CostError", "InvalidForm", "InvalidTable", "InvalidRow", "NIL", "ONE", "reduced", "plus", "minus", "times", "over", "less_times"] : List PySem.Str) ++ (["dot", "row_times", "row_plus", "row_less", "unit_row", "applied", "turned_over", "worth_at", "pivot", "pivot_squares", "less_square", "squares_of"] : List PySem.Str) ++ (["signs_of", "is_positive", "MOST_ROWS", "is_tuple", "is_whole_number", "is_pair", "is_fraction", "is_row", "is_table_of", "is_any_table", "is_form", "is_positive_table"] : List PySem.Str) ++ (["check_form", "check_table", "check_row", "is_table", "worth", "energy_product", "_law_urn", "_law_take", "_law_pick", "_law_frac", "_law_times", "_law_dot"] : List PySem.Str) ++ (["_law_go", "_law_flip", "_law_mul", "_law_by", "_law_at", "_law_is_frac", "_law_is_line", "_law_is_grid", "_law_number", "_law_line", "_law_of_squares", "_law_table"] : List PySem.Str) ++ (["_law_size", "_law_same", "_law_odd", "_law_bent", "_law_form", "_law_square", "_law_is_any_right", "_law_right"] : List PySem.Str)
noncomputable abbrev WH (w : World) := HandSHeadRun.wholeF (fun p => HandSHeadRun.stepQ (HandSHeadRun.denQ HandSHeadRun.tabQ) p w) HandSHeadRun.fenceQ 20000 R.prog
theorem runL (w : World) : ((WH w).map fun x => (HandSHeadRun.looksF R.prog x.1.heap x.2.abs, HandSHeadRun.seenQ (PySem.W.view R.prog [0, 77]) loose (PySem.importedModules R.prog.main.body) (fun s => PySem.W.xlAt (PySem.W.view R.prog [0, 77]) [] s && PySem.W.recOk R.toRowW.records s) x.2.abs)) = some (true, PySem.W.openGood (PySem.W.view R.prog [0, 77]) loose) := by
  kernel_rfl
theorem runP0 (w : World) : ((WH w).map fun x => He.obsX 5 fa0 fn0 [] [] chk (HandSHeadRun.getT x.2)) = some (He.valX fn0 [] w) := by
  kernel_rfl
theorem runP1 (w : World) : ((WH w).map fun x => He.obsX 5 fa1 fn1 [] [] (fun _ => true) (HandSHeadRun.getT x.2)) = some (He.valX fn1 [] w) := by
  kernel_rfl
theorem runO (w : World) : ((WH w).map fun x => ob x.2) = some (hk.val w) := by
  refine HDY.map_imp (HDY.map_pair (runP0 w) (runP1 w)) fun x h => ?_
  obtain ⟨e0, e1⟩ := Prod.mk.inj h
  exact HDY.obs_append (e0) (e1)
theorem run (w : World) : HandSHeadRun.RunEqI R (PySem.W.view R.prog [0, 77]) hk ob 20000 loose w := by
  unfold HandSHeadRun.RunEqI
  refine HDY.map_imp (HDY.map_pair (runL w) (runO w)) fun x h => ?_
  obtain ⟨h12, e3⟩ := Prod.mk.inj h
  obtain ⟨e1, e2⟩ := Prod.mk.inj h12
  exact Prod.ext e1 (Prod.ext e2 e3)
end K02

set_option Elab.async false
set_option linter.all false
set_option maxRecDepth 100000
set_option autoImplicit false
set_option maxHeartbeats 4000000
namespace Lib
open PySem PySem.Spec L2 HM
open PyProof.Rows hiding St
def b_reduced : SM := (sSeq
  (sSet 2 (mCall (fInt2 iGcd) (aCons (mVar 0) (aCons (mVar 1) aNil))))
  (sSeq
  (sIf (mTest (mBin fLt (mVar 1) (mC (.int 0)))) (sSeq
  (sSet 2 (mNeg (mVar 2)))
  sNx) sNx)
  (sSeq
  (sRet (mTup (aCons (mBin fDivF (mVar 0) (mVar 2)) (aCons (mBin fDivF (mVar 1) (mVar 2)) aNil))))
  sNx)))
def F_reduced : FM := trimF (fnM 3 b_reduced)
def b_plus : SM := (sSeq
  (sRet (mCall F_reduced (aCons (mBin fPlus (mBin fMulX (mBin fIx (mVar 0) (mC (.int 0))) (mBin fIx (mVar 1) (mC (.int 1)))) (mBin fMulX (mBin fIx (mVar 1) (mC (.int 0))) (mBin fIx (mVar 0) (mC (.int 1))))) (aCons (mBin fMulX (mBin fIx (mVar 0) (mC (.int 1))) (mBin fIx (mVar 1) (mC (.int 1)))) aNil))))
  sNx)
def F_plus : FM := trimF (fnM 2 b_plus)
def b_minus : SM := (sSeq
  (sRet (mCall F_reduced (aCons (mBin fSub (mBin fMulX (mBin fIx (mVar 0) (mC (.int 0))) (mBin fIx (mVar 1) (mC (.int 1)))) (mBin fMulX (mBin fIx (mVar 1) (mC (.int 0))) (mBin fIx (mVar 0) (mC (.int 1))))) (aCons (mBin fMulX (mBin fIx (mVar 0) (mC (.int 1))) (mBin fIx (mVar 1) (mC (.int 1)))) aNil))))
  sNx)
def F_minus : FM := trimF (fnM 2 b_minus)
def b_times : SM := (sSeq
  (sRet (mCall F_reduced (aCons (mBin fMulX (mBin fIx (mVar 0) (mC (.int 0))) (mBin fIx (mVar 1) (mC (.int 0)))) (aCons (mBin fMulX (mBin fIx (mVar 0) (mC (.int 1))) (mBin fIx (mVar 1) (mC (.int 1)))) aNil))))
  sNx)
def F_times : FM := trimF (fnM 2 b_times)
def b_over : SM := (sSeq
  (sRet (mCall F_reduced (aCons (mBin fMulX (mBin fIx (mVar 0) (mC (.int 0))) (mBin fIx (mVar 1) (mC (.int 1)))) (aCons (mBin fMulX (mBin fIx (mVar 0) (mC (.int 1))) (mBin fIx (mVar 1) (mC (.int 0)))) aNil))))
  sNx)
def F_over : FM := trimF (fnM 2 b_over)
def b_less_times : SM := (sSeq
  (sSet 3 (mBin fMulX (mBin fIx (mVar 1) (mC (.int 1))) (mBin fIx (mVar 2) (mC (.int 1)))))
  (sSeq
  (sRet (mCall F_reduced (aCons (mBin fSub (mBin fMulX (mBin fIx (mVar 0) (mC (.int 0))) (mVar 3)) (mBin fMulX (mBin fMulX (mBin fIx (mVar 1) (mC (.int 0))) (mBin fIx (mVar 2) (mC (.int 0)))) (mBin fIx (mVar 0) (mC (.int 1))))) (aCons (mBin fMulX (mBin fIx (mVar 0) (mC (.int 1))) (mVar 3)) aNil))))
  sNx))
def F_less_times : FM := trimF (fnM 4 b_less_times)
def b_dot : SM := (sSeq
  (sAsg (.tp ((.nm 2) :: ((.nm 3) :: []))) (mTup (aCons (mC (.int 0)) (aCons (mC (.int 1)) aNil))))
  (sSeq
  (sFor (iZipM (aCons (mVar 0) (aCons (mVar 1) aNil))) (.tp ((.tp ((.nm 4) :: ((.nm 5) :: []))) :: ((.tp ((.nm 6) :: ((.nm 7) :: []))) :: []))) (sSeq
  (sSet 8 (mBin fMulX (mVar 5) (mVar 7)))
  (sSeq
  (sPar 2 3 (aCons (mBin fPlus (mBin fMulX (mVar 2) (mVar 8)) (mBin fMulX (mBin fMulX (mVar 4) (mVar 6)) (mVar 3))) (aCons (mBin fMulX (mVar 3) (mVar 8)) aNil)))
  sNx)))
  (sSeq
  (sRet (mCall F_reduced (aCons (mVar 2) (aCons (mVar 3) aNil))))
  sNx)))
def F_dot : FM := trimF (fnM 9 b_dot)
def b_row_times : SM := (sSeq
  (sRet (mCall fTuple (aCons (mLc (iSeq (mVar 1)) (.nm 2) tYesM (mCall F_times (aCons (mVar 0) (aCons (mVar 2) aNil))) [2]) aNil)))
  sNx)
def F_row_times : FM := trimF (fnM 3 b_row_times)
def b_row_plus : SM := (sSeq
  (sRet (mCall fTuple (aCons (mLc (iZipM (aCons (mVar 0) (aCons (mVar 1) aNil))) (.tp ((.nm 2) :: ((.nm 3) :: []))) tYesM (mCall F_plus (aCons (mVar 2) (aCons (mVar 3) aNil))) [2, 3]) aNil)))
  sNx)
def F_row_plus : FM := trimF (fnM 4 b_row_plus)
def b_row_less : SM := (sSeq
  (sRet (mCall fTuple (aCons (mLc (iZipM (aCons (mVar 0) (aCons (mVar 2) aNil))) (.tp ((.nm 3) :: ((.nm 4) :: []))) tYesM (mCall F_less_times (aCons (mVar 3) (aCons (mVar 1) (aCons (mVar 4) aNil)))) [3, 4]) aNil)))
  sNx)
def F_row_less : FM := trimF (fnM 5 b_row_less)
def b_unit_row : SM := (sSeq
  (sRet (mCall fTuple (aCons (mLc (iRange1 (aCons (mVar 0) aNil)) (.nm 2) tYesM (mIf (mTest (mBin fEq (mVar 2) (mVar 1))) (mC (.tup [.int (1), .int (1)])) (mC (.tup [.int (0), .int (1)]))) [2]) aNil)))
  sNx)
def F_unit_row : FM := trimF (fnM 3 b_unit_row)
def b_applied : SM := (sSeq
  (sRet (mCall fTuple (aCons (mLc (iSeq (mVar 0)) (.nm 2) tYesM (mCall F_dot (aCons (mVar 2) (aCons (mVar 1) aNil))) [2]) aNil)))
  sNx)
def F_applied : FM := trimF (fnM 3 b_applied)
def b_turned_over : SM := (sSeq
  (sRet (mTzip (mVar 0)))
  sNx)
def F_turned_over : FM := trimF (fnM 1 b_turned_over)
def b_worth_at : SM := (sSeq
  (sRet (mCall F_dot (aCons (mVar 1) (aCons (mCall F_applied (aCons (mVar 0) (aCons (mVar 1) aNil))) aNil))))
  sNx)
def F_worth_at : FM := trimF (fnM 2 b_worth_at)
def b_pivot : SM := (sSeq
  (sFor (iSeq (mVar 1)) (.nm 2) (sSeq
  (sIf (mTest (mBin fNe (mBin fIx (mBin fIx (mBin fIx (mVar 0) (mVar 2)) (mVar 2)) (mC (.int 0))) (mC (.int 0)))) (sSeq
  (sRet (mTup (aCons (mVar 2) (aCons (mVar 2) aNil))))
  sNx) sNx)
  sNx))
  (sSeq
  (sFor (iSeq (mVar 1)) (.nm 2) (sSeq
  (sFor (iSeq (mVar 1)) (.nm 3) (sSeq
  (sIf (mTest (mBin fNe (mBin fIx (mBin fIx (mBin fIx (mVar 0) (mVar 2)) (mVar 3)) (mC (.int 0))) (mC (.int 0)))) (sSeq
  (sRet (mTup (aCons (mVar 2) (aCons (mVar 3) aNil))))
  sNx) sNx)
  sNx))
  sNx))
  (sSeq
  (sRet (mC .non))
  sNx)))
def F_pivot : FM := trimF (fnM 4 b_pivot)
def b_pivot_squares : SM := (sSeq
  (sSet 3 (mBin fIx (mBin fIx (mVar 0) (mVar 1)) (mVar 2)))
  (sSeq
  (sIf (mTest (mBin fEq (mVar 1) (mVar 2))) (sSeq
  (sRet (mFl (aCons (mTup (aCons (mVar 3) (aCons (mCall F_row_times (aCons (mCall F_over (aCons (mC (.tup [.int (1), .int (1)])) (aCons (mVar 3) aNil))) (aCons (mBin fIx (mVar 0) (mVar 1)) aNil))) aNil))) aNil)))
  sNx) sNx)
  (sSeq
  (sSet 4 (mCall F_over (aCons (mC (.tup [.int (1), .int (1)])) (aCons (mCall F_times (aCons (mTup (aCons (mC (.int 2)) (aCons (mC (.int 1)) aNil))) (aCons (mVar 3) aNil))) aNil))))
  (sSeq
  (sRet (mFl (aCons (mTup (aCons (mVar 4) (aCons (mCall F_row_plus (aCons (mBin fIx (mVar 0) (mVar 1)) (aCons (mBin fIx (mVar 0) (mVar 2)) aNil))) aNil))) (aCons (mTup (aCons (mCall F_minus (aCons (mC (.tup [.int (0), .int (1)])) (aCons (mVar 4) aNil))) (aCons (mCall F_row_less (aCons (mBin fIx (mVar 0) (mVar 1)) (aCons (mC (.tup [.int (1), .int (1)])) (aCons (mBin fIx (mVar 0) (mVar 2)) aNil)))) aNil))) aNil))))
  sNx))))
def F_pivot_squares : FM := trimF (fnM 5 b_pivot_squares)
def b_less_square : SM := (sSeq
  (sAsg (.tp ((.nm 2) :: ((.nm 3) :: []))) (mVar 1))
  (sSeq
  (sRet (mCall fTuple (aCons (mLc (iZipM (aCons (mVar 0) (aCons (mVar 3) aNil))) (.tp ((.nm 4) :: ((.nm 5) :: []))) tYesM (mCall F_row_less (aCons (mVar 4) (aCons (mCall F_times (aCons (mVar 2) (aCons (mVar 5) aNil))) (aCons (mVar 3) aNil)))) [4, 5]) aNil)))
  sNx))
def F_less_square : FM := trimF (fnM 6 b_less_square)
def b_squares_of : SM := (sSeq
  (sPar 1 2 (aCons (mFl aNil) (aCons (mLrange (aCons (mCall fLen (aCons (mVar 0) aNil)) aNil)) aNil)))
  (sSeq
  (sWhile (mTruA (mVar 2)) (sSeq
  (sSet 3 (mCall F_pivot (aCons (mVar 0) (aCons (mVar 2) aNil))))
  (sSeq
  (sIf (mTest (mNone false (mVar 3))) (sSeq
  (sRet (mBin fPlus (mVar 1) (mLc (iSeq (mVar 2)) (.nm 6) tYesM (mTup (aCons (mC (.tup [.int (0), .int (1)])) (aCons (mCall F_unit_row (aCons (mCall fLen (aCons (mVar 0) aNil)) (aCons (mVar 6) aNil))) aNil))) [6])))
  sNx) sNx)
  (sSeq
  (sSet 4 (mCall F_pivot_squares (aCons (mVar 0) (aCons (mBin fIx (mVar 3) (mC (.int 0))) (aCons (mBin fIx (mVar 3) (mC (.int 1))) aNil)))))
  (sSeq
  (sFor (iSeq (mVar 4)) (.nm 5) (sSeq
  (sSet 0 (mCall F_less_square (aCons (mVar 0) (aCons (mVar 5) aNil))))
  sNx))
  (sSeq
  (sSet 1 (mBin fPlus (mVar 1) (mVar 4)))
  (sSeq
  (sSet 2 (mLc (iSeq (mVar 2)) (.nm 6) (mTest (mBin (fIn true) (mVar 6) (mVar 3))) (mVar 6) [6]))
  sNx)))))))
  (sSeq
  (sRet (mVar 1))
  sNx)))
def F_squares_of : FM := trimF (fnM 7 b_squares_of)
def b_signs_of : SM := (sSeq
  (sSet 1 (mLc (iSeq (mCall F_squares_of (aCons (mVar 0) aNil))) (.tp ((.nm 4) :: ((.nm 5) :: []))) tYesM (mBin fIx (mVar 4) (mC (.int 0))) [4, 5]))
  (sSeq
  (sSet 2 (mCall fLen (aCons (mLc (iSeq (mVar 1)) (.nm 6) (mTest (mBin fGt (mVar 6) (mC (.int 0)))) (mVar 6) [6]) aNil)))
  (sSeq
  (sSet 3 (mCall fLen (aCons (mLc (iSeq (mVar 1)) (.nm 6) (mTest (mBin fEq (mVar 6) (mC (.int 0)))) (mVar 6) [6]) aNil)))
  (sSeq
  (sRet (mTup (aCons (mVar 2) (aCons (mVar 3) (aCons (mBin fSub (mBin fSub (mCall fLen (aCons (mVar 1) aNil)) (mVar 2)) (mVar 3)) aNil)))))
  sNx))))
def F_signs_of : FM := trimF (fnM 7 b_signs_of)
def b_is_positive : SM := (sSeq
  (sRet (mBin fEq (mBin fIx (mCall F_signs_of (aCons (mVar 0) aNil)) (mC (.int 0))) (mCall fLen (aCons (mVar 0) aNil))))
  sNx)
def F_is_positive : FM := trimF (fnM 1 b_is_positive)
def b_is_tuple : SM := (sSeq
  (sRet (mTyD "tuple" (mVar 0)))
  sNx)
def F_is_tuple : FM := trimF (fnM 1 b_is_tuple)
def b_is_whole_number : SM := (sSeq
  (sRet (mTyD "int" (mVar 0)))
  sNx)
def F_is_whole_number : FM := trimF (fnM 1 b_is_whole_number)
def b_is_pair : SM := (sSeq
  (sRet (mAnd (mCall F_is_tuple (aCons (mVar 0) aNil)) (mBin fEq (mCall fLen (aCons (mVar 0) aNil)) (mC (.int 2)))))
  sNx)
def F_is_pair : FM := trimF (fnM 1 b_is_pair)
def b_is_fraction : SM := (sSeq
  (sIf (mtNot (mTest (mCall F_is_pair (aCons (mVar 0) aNil)))) (sSeq
  (sRet (mC (.bl false)))
  sNx) sNx)
  (sSeq
  (sAsg (.tp ((.nm 1) :: ((.nm 2) :: []))) (mVar 0))
  (sSeq
  (sRet (mAnd (mCall F_is_whole_number (aCons (mVar 1) aNil)) (mAnd (mCall F_is_whole_number (aCons (mVar 2) aNil)) (mAnd (mBin fGt (mVar 2) (mC (.int 0))) (mBin fEq (mCall (fInt2 iGcd) (aCons (mVar 1) (aCons (mVar 2) aNil))) (mC (.int 1)))))))
  sNx)))
def F_is_fraction : FM := trimF (fnM 3 b_is_fraction)
def b_is_row : SM := (sSeq
  (sRet (mAnd (mCall F_is_tuple (aCons (mVar 0) aNil)) (mAnd (mBin fEq (mCall fLen (aCons (mVar 0) aNil)) (mVar 1)) (mCall fAll (aCons (mLc (iSeq (mVar 0)) (.nm 2) tYesM (mCall F_is_fraction (aCons (mVar 2) aNil)) [2]) aNil)))))
  sNx)
def F_is_row : FM := trimF (fnM 3 b_is_row)
def b_is_table_of : SM := (sSeq
  (sRet (mAnd (mCall F_is_tuple (aCons (mVar 0) aNil)) (mAnd (mBin fEq (mCall fLen (aCons (mVar 0) aNil)) (mVar 1)) (mCall fAll (aCons (mLc (iSeq (mVar 0)) (.nm 2) tYesM (mCall F_is_row (aCons (mVar 2) (aCons (mVar 1) aNil))) [2]) aNil)))))
  sNx)
def F_is_table_of : FM := trimF (fnM 3 b_is_table_of)
def b_is_any_table : SM := (sSeq
  (sRet (mAnd (mCall F_is_tuple (aCons (mVar 0) aNil)) (mAnd (mChain fLe fLe (mC (.int 1)) (mCall fLen (aCons (mVar 0) aNil)) (mC (.int 5))) (mCall F_is_table_of (aCons (mVar 0) (aCons (mCall fLen (aCons (mVar 0) aNil)) aNil))))))
  sNx)
def F_is_any_table : FM := trimF (fnM 1 b_is_any_table)
def b_is_form : SM := (sSeq
  (sRet (mAnd (mCall F_is_any_table (aCons (mVar 0) aNil)) (mBin fEq (mVar 0) (mCall F_turned_over (aCons (mVar 0) aNil)))))
  sNx)
def F_is_form : FM := trimF (fnM 1 b_is_form)
def b_is_positive_table : SM := (sSeq
  (sRet (mAnd (mCall F_is_form (aCons (mVar 0) aNil)) (mCall F_is_positive (aCons (mVar 0) aNil))))
  sNx)
def F_is_positive_table : FM := trimF (fnM 1 b_is_positive_table)
def b_check_form : SM := (sSeq
  (sIf (mtNot (mTest (mCall F_is_form (aCons (mVar 0) aNil)))) (sSeq
  sNo
  sNx) sNx)
  sNx)
def F_check_form : FM := trimF (fnM 1 b_check_form)
def b_check_table : SM := (sSeq
  (sIf (mtNot (mTest (mCall F_is_positive_table (aCons (mVar 0) aNil)))) (sSeq
  sNo
  sNx) sNx)
  sNx)
def F_check_table : FM := trimF (fnM 1 b_check_table)
def b_check_row : SM := (sSeq
  (sIf (mtOr (mtNot (mTest (mCall F_is_tuple (aCons (mVar 0) aNil)))) (mTest (mBin fNe (mCall fLen (aCons (mVar 0) aNil)) (mVar 1)))) (sSeq
  sNo
  sNx) sNx)
  (sSeq
  (sFor (iEnumA (mVar 0)) (.tp ((.nm 2) :: ((.nm 3) :: []))) (sSeq
  (sIf (mtNot (mTest (mCall F_is_fraction (aCons (mVar 3) aNil)))) (sSeq
  sNo
  sNx) sNx)
  sNx))
  sNx))
def F_check_row : FM := trimF (fnM 4 b_check_row)
def b_is_table : SM := (sSeq
  (sRet (mCall F_is_any_table (aCons (mVar 0) aNil)))
  sNx)
def F_is_table : FM := trimF (fnM 1 b_is_table)
def b_worth : SM := (sSeq
  (sExpr (mCall F_check_form (aCons (mVar 0) aNil)))
  (sSeq
  (sExpr (mCall F_check_row (aCons (mVar 1) (aCons (mCall fLen (aCons (mVar 0) aNil)) aNil))))
  (sSeq
  (sRet (mCall F_worth_at (aCons (mVar 0) (aCons (mVar 1) aNil))))
  sNx)))
def F_worth : FM := trimF (fnM 2 b_worth)
def b_energy_product : SM := (sSeq
  (sExpr (mCall F_check_table (aCons (mVar 0) aNil)))
  (sSeq
  (sExpr (mCall F_check_row (aCons (mVar 1) (aCons (mCall fLen (aCons (mVar 0) aNil)) aNil))))
  (sSeq
  (sExpr (mCall F_check_row (aCons (mVar 2) (aCons (mCall fLen (aCons (mVar 0) aNil)) aNil))))
  (sSeq
  (sRet (mCall F_dot (aCons (mVar 1) (aCons (mCall F_applied (aCons (mVar 0) (aCons (mVar 2) aNil))) aNil))))
  sNx))))
def F_energy_product : FM := trimF (fnM 3 b_energy_product)
def b_law_take : SM := (sSeq
  (sIf (mTest (mBin fGt (mBin fIx (mVar 0) (mC (.int 0))) (mC (.int 0)))) (sSeq
  (sPut2 2 (mCall fDivmod (aCons (mBin fIx (mVar 0) (mC (.int 0))) (aCons (mVar 1) aNil))) (mVar 0) (mC (.int 0)))
  (sSeq
  (sRet (mVar 2))
  sNx)) sNx)
  (sSeq
  (sPut (mBin fPlus (mBin fIx (mVar 0) (mC (.int 2))) (mC (.int 1))) (mVar 0) (mC (.int 2)))
  (sSeq
  (sSet 3 (mBin fMod (mCall fInt (aCons (mBin fPlus (mBin fIx (mVar 0) (mC (.int 1))) (mBin fMulX (mC (.int 51787)) (mBin fIx (mVar 0) (mC (.int 2))))) aNil)) (mC (.int 2147483497))))
  (sSeq
  (sPut (mBin fMod (mCall fInt (aCons (mBin fPlus (mBin fMulX (mVar 3) (mBin fPlus (mBin fMod (mCall fInt (aCons (mVar 3) aNil)) (mC (.int 6007))) (mC (.int 41011)))) (mBin fMulX (mC (.int 29)) (mBin fIx (mVar 0) (mC (.int 2))))) aNil)) (mC (.int 2147483497))) (mVar 0) (mC (.int 1)))
  (sSeq
  (sRet (mBin fMod (mCall fInt (aCons (mBin fDivF (mBin fIx (mVar 0) (mC (.int 1))) (mC (.int 769))) aNil)) (mVar 1)))
  sNx)))))
def F_law_take : FM := trimF (fnM 4 b_law_take)
def b_law_pick : SM := (sSeq
  (sRet (mBin fIx (mVar 1) (mCall F_law_take (aCons (mVar 0) (aCons (mCall fLen (aCons (mVar 1) aNil)) aNil)))))
  sNx)
def F_law_pick : FM := trimF (fnM 2 b_law_pick)
def b_law_frac : SM := (sSeq
  (sPar 2 3 (aCons (mCall (fInt1 iAbs) (aCons (mVar 0) aNil)) (aCons (mCall (fInt1 iAbs) (aCons (mVar 1) aNil)) aNil)))
  (sSeq
  (sWhile (mTest (mBin fNe (mVar 3) (mC (.int 0)))) (sSeq
  (sPar 2 3 (aCons (mVar 3) (aCons (mBin fMod (mCall fInt (aCons (mVar 2) aNil)) (mVar 3)) aNil)))
  sNx))
  (sSeq
  (sSet 2 (mIf (mTest (mBin fGt (mVar 1) (mC (.int 0)))) (mVar 2) (mBin fSub (mC (.int 0)) (mVar 2))))
  (sSeq
  (sRet (mTup (aCons (mBin fDivF (mVar 0) (mVar 2)) (aCons (mBin fDivF (mVar 1) (mVar 2)) aNil))))
  sNx))))
def F_law_frac : FM := trimF (fnM 4 b_law_frac)
def b_law_times : SM := (sSeq
  (sRet (mCall F_law_frac (aCons (mBin fMulX (mBin fIx (mVar 0) (mC (.int 0))) (mBin fIx (mVar 1) (mC (.int 0)))) (aCons (mBin fMulX (mBin fIx (mVar 0) (mC (.int 1))) (mBin fIx (mVar 1) (mC (.int 1)))) aNil))))
  sNx)
def F_law_times : FM := trimF (fnM 2 b_law_times)
def b_law_dot : SM := (sSeq
  (sAsg (.tp ((.nm 2) :: ((.nm 3) :: []))) (mTup (aCons (mC (.int 0)) (aCons (mC (.int 1)) aNil))))
  (sSeq
  (sFor (iZipM (aCons (mVar 0) (aCons (mVar 1) aNil))) (.tp ((.nm 4) :: ((.nm 5) :: []))) (sSeq
  (sSet 6 (mBin fMulX (mBin fIx (mVar 4) (mC (.int 1))) (mBin fIx (mVar 5) (mC (.int 1)))))
  (sSeq
  (sPar 2 3 (aCons (mBin fPlus (mBin fMulX (mVar 2) (mVar 6)) (mBin fMulX (mBin fMulX (mBin fIx (mVar 4) (mC (.int 0))) (mBin fIx (mVar 5) (mC (.int 0)))) (mVar 3))) (aCons (mBin fMulX (mVar 3) (mVar 6)) aNil)))
  sNx)))
  (sSeq
  (sRet (mCall F_law_frac (aCons (mVar 2) (aCons (mVar 3) aNil))))
  sNx)))
def F_law_dot : FM := trimF (fnM 7 b_law_dot)
def b_law_go : SM := (sSeq
  (sRet (mCall fTuple (aCons (mLc (iSeq (mVar 0)) (.nm 2) tYesM (mCall F_law_dot (aCons (mVar 2) (aCons (mVar 1) aNil))) [2]) aNil)))
  sNx)
def F_law_go : FM := trimF (fnM 3 b_law_go)
def b_law_flip : SM := (sSeq
  (sRet (mCall fTuple (aCons (mLc (iRange1 (aCons (mCall fLen (aCons (mBin fIx (mVar 0) (mC (.int 0))) aNil)) aNil)) (.nm 1) tYesM (mCall fTuple (aCons (mLc (iSeq (mVar 0)) (.nm 2) tYesM (mBin fIx (mVar 2) (mVar 1)) [2]) aNil)) [1]) aNil)))
  sNx)
def F_law_flip : FM := trimF (fnM 3 b_law_flip)
def b_law_mul : SM := (sSeq
  (sSet 2 (mCall F_law_flip (aCons (mVar 1) aNil)))
  (sSeq
  (sRet (mCall fTuple (aCons (mLc (iSeq (mVar 0)) (.nm 3) tYesM (mCall fTuple (aCons (mLc (iSeq (mVar 2)) (.nm 4) tYesM (mCall F_law_dot (aCons (mVar 3) (aCons (mVar 4) aNil))) [4]) aNil)) [3]) aNil)))
  sNx))
def F_law_mul : FM := trimF (fnM 5 b_law_mul)
def b_law_by : SM := (sSeq
  (sRet (mCall fTuple (aCons (mLc (iSeq (mVar 0)) (.nm 2) tYesM (mCall F_law_times (aCons (mVar 1) (aCons (mVar 2) aNil))) [2]) aNil)))
  sNx)
def F_law_by : FM := trimF (fnM 3 b_law_by)
def b_law_at : SM := (sSeq
  (sRet (mCall F_law_dot (aCons (mVar 1) (aCons (mCall F_law_go (aCons (mVar 0) (aCons (mVar 1) aNil))) aNil))))
  sNx)
def F_law_at : FM := trimF (fnM 2 b_law_at)
def b_law_is_frac : SM := (sSeq
  (sIf (mtOr (mtNot (mTest (mIsE "tuple" (mVar 0)))) (mTest (mBin fNe (mCall fLen (aCons (mVar 0) aNil)) (mC (.int 2))))) (sSeq
  (sRet (mC (.bl false)))
  sNx) sNx)
  (sSeq
  (sAsg (.tp ((.nm 1) :: ((.nm 2) :: []))) (mVar 0))
  (sSeq
  (sIf (mtOr (mTest (mIsE "bool" (mVar 1))) (mtOr (mTest (mIsE "bool" (mVar 2))) (mtOr (mtNot (mTest (mIsE "int" (mVar 1)))) (mtNot (mTest (mIsE "int" (mVar 2))))))) (sSeq
  (sRet (mC (.bl false)))
  sNx) sNx)
  (sSeq
  (sRet (mAnd (mBin fGt (mVar 2) (mC (.int 0))) (mBin fEq (mCall F_law_frac (aCons (mVar 1) (aCons (mVar 2) aNil))) (mVar 0))))
  sNx))))
def F_law_is_frac : FM := trimF (fnM 3 b_law_is_frac)
def b_law_is_line : SM := (sSeq
  (sRet (mAnd (mIsE "tuple" (mVar 0)) (mAnd (mBin fEq (mCall fLen (aCons (mVar 0) aNil)) (mVar 1)) (mCall fAll (aCons (mLc (iSeq (mVar 0)) (.nm 2) tYesM (mCall F_law_is_frac (aCons (mVar 2) aNil)) [2]) aNil)))))
  sNx)
def F_law_is_line : FM := trimF (fnM 3 b_law_is_line)
def b_law_is_grid : SM := (sSeq
  (sRet (mAnd (mIsE "tuple" (mVar 0)) (mAnd (mBin fEq (mCall fLen (aCons (mVar 0) aNil)) (mVar 1)) (mCall fAll (aCons (mLc (iSeq (mVar 0)) (.nm 2) tYesM (mCall F_law_is_line (aCons (mVar 2) (aCons (mVar 1) aNil))) [2]) aNil)))))
  sNx)
def F_law_is_grid : FM := trimF (fnM 3 b_law_is_grid)
def b_law_number : SM := (sSeq
  (sSet 1 (mCall F_law_take (aCons (mVar 0) (aCons (mC (.int 96)) aNil))))
  (sSeq
  (sIf (mtAnd (mTest (mBin fEq (mVar 1) (mC (.int 95)))) (mTest (mBin fGt (mBin fIx (mVar 0) (mC (.int 3))) (mC (.int 0))))) (sSeq
  (sPut (mBin fSub (mBin fIx (mVar 0) (mC (.int 3))) (mC (.int 1))) (mVar 0) (mC (.int 3)))
  (sSeq
  (sRet (mCall F_law_frac (aCons (mBin fSub (mCall F_law_take (aCons (mVar 0) (aCons (mC (.int 2000003)) aNil))) (mC (.int 1000001))) (aCons (mBin fPlus (mC (.int 1)) (mCall F_law_take (aCons (mVar 0) (aCons (mC (.int 97)) aNil)))) aNil))))
  sNx)) sNx)
  (sSeq
  (sIf (mTest (mBin fLt (mVar 1) (mC (.int 62)))) (sSeq
  (sRet (mTup (aCons (mBin fSub (mCall F_law_take (aCons (mVar 0) (aCons (mC (.int 5)) aNil))) (mC (.int 2))) (aCons (mC (.int 1)) aNil))))
  sNx) sNx)
  (sSeq
  (sRet (mCall F_law_frac (aCons (mBin fSub (mCall F_law_take (aCons (mVar 0) (aCons (mC (.int 9)) aNil))) (mC (.int 4))) (aCons (mBin fPlus (mC (.int 2)) (mCall F_law_take (aCons (mVar 0) (aCons (mC (.int 3)) aNil)))) aNil))))
  sNx))))
def F_law_number : FM := trimF (fnM 2 b_law_number)
def b_law_line : SM := (sSeq
  (sSet 2 (mCell aNil))
  (sSeq
  (sFor (iRange1 (aCons (mVar 1) aNil)) (.nm 3) (sSeq
  (sExpr (mMeth mappend (mVar 2) (aCons (mCall F_law_number (aCons (mVar 0) aNil)) aNil)))
  sNx))
  (sSeq
  (sRet (mCall fTuple (aCons (mVar 2) aNil)))
  sNx)))
def F_law_line : FM := trimF (fnM 4 b_law_line)
def b_law_of_squares : SM := (sSeq
  (sRet (mCall F_law_mul (aCons (mCall F_law_flip (aCons (mLc (iZipM (aCons (mVar 1) (aCons (mVar 0) aNil))) (.tp ((.nm 2) :: ((.nm 3) :: []))) tYesM (mCall F_law_by (aCons (mVar 2) (aCons (mVar 3) aNil))) [2, 3]) aNil)) (aCons (mVar 1) aNil))))
  sNx)
def F_law_of_squares : FM := trimF (fnM 4 b_law_of_squares)
def b_law_table : SM := (sSeq
  (sPar 2 3 (aCons (mCell aNil) (aCons (mCell aNil) aNil)))
  (sSeq
  (sFor (iRange1 (aCons (mVar 1) aNil)) (.nm 4) (sSeq
  (sExpr (mMeth mappend (mVar 2) (aCons (mBin fPlus (mBin fPlus (mBin fMulX (mTup (aCons (mTup (aCons (mC (.int 0)) (aCons (mC (.int 1)) aNil))) aNil)) (mVar 4)) (mTup (aCons (mTup (aCons (mC (.int 1)) (aCons (mC (.int 1)) aNil))) aNil))) (mCall F_law_line (aCons (mVar 0) (aCons (mBin fSub (mBin fSub (mVar 1) (mC (.int 1))) (mVar 4)) aNil)))) aNil)))
  (sSeq
  (sExpr (mMeth mappend (mVar 3) (aCons (mCall F_law_frac (aCons (mBin fPlus (mC (.int 1)) (mCall F_law_take (aCons (mVar 0) (aCons (mC (.int 4)) aNil)))) (aCons (mBin fPlus (mC (.int 1)) (mCall F_law_take (aCons (mVar 0) (aCons (mC (.int 2)) aNil)))) aNil))) aNil)))
  sNx)))
  (sSeq
  (sRet (mCall F_law_of_squares (aCons (mFreeze (mVar 3)) (aCons (mFreeze (mVar 2)) aNil))))
  sNx)))
def F_law_table : FM := trimF (fnM 5 b_law_table)
def b_law_size : SM := (sSeq
  (sRet (mBin fIx (mTup (aCons (mC (.int 2)) (aCons (mC (.int 2)) (aCons (mC (.int 3)) (aCons (mC (.int 1)) (aCons (mC (.int 2)) (aCons (mC (.int 3)) (aCons (mC (.int 2)) (aCons (mC (.int 4)) (aCons (mC (.int 2)) (aCons (mC (.int 3)) aNil))))))))))) (mCall F_law_take (aCons (mVar 0) (aCons (mC (.int 10)) aNil)))))
  sNx)
def F_law_size : FM := trimF (fnM 1 b_law_size)
def b_law_same (FX : FM) : SM := (sSeq
  (sIf (mTest (mIsE "tuple" (mVar 1))) (sSeq
  (sRet (mAnd (mIsE "tuple" (mVar 0)) (mAnd (mBin fEq (mCall fLen (aCons (mVar 0) aNil)) (mCall fLen (aCons (mVar 1) aNil))) (mCall fAll (aCons (mLc (iZipM (aCons (mVar 0) (aCons (mVar 1) aNil))) (.tp ((.nm 2) :: ((.nm 3) :: []))) tYesM (mCall FX (aCons (mVar 2) (aCons (mVar 3) aNil))) [2, 3]) aNil)))))
  sNx) sNx)
  (sSeq
  (sIf (mtOr (mTest (mNone false (mVar 1))) (mTest (mIsE "bool" (mVar 1)))) (sSeq
  (sRet (mIf (mTest (mNone false (mVar 1))) (mNone false (mVar 0)) (mAnd (mIsE "bool" (mVar 0)) (mBin fEq (mVar 0) (mVar 1)))))
  sNx) sNx)
  (sSeq
  (sRet (mAnd (mIsE "int" (mVar 0)) (mAnd (mNot (mIsE "bool" (mVar 0))) (mBin fEq (mVar 0) (mVar 1)))))
  sNx)))
def F_law_same : Nat → FM
  | 0 => fun _ _ => none
  | n + 1 => trimF (fnM 4 (b_law_same (F_law_same n)))
def b_law_odd : SM := (sSeq
  (sRet (mCall F_law_pick (aCons (mVar 0) (aCons (mTup (aCons (mC .non) (aCons (mC (.bl true)) (aCons (mC (.bl false)) (aCons (mC (.int 0)) (aCons (mC (.int 1)) (aCons (mNeg (mC (.int 1))) (aCons (mC (.int 2)) (aCons (mBin fPow (mC (.int 10)) (mC (.int 30))) (aCons (mC (.str "")) (aCons (mC (.str "1")) (aCons (mC (.str "(1, 1)")) (aCons (mTup aNil) (aCons (mTup (aCons (mC (.int 1)) aNil)) (aCons (mTup (aCons (mC (.int 1)) (aCons (mC (.int 1)) aNil))) (aCons (mTup (aCons (mC (.int 0)) (aCons (mC (.int 1)) aNil))) (aCons (mTup (aCons (mC (.int 2)) (aCons (mC (.int 2)) aNil))) (aCons (mTup (aCons (mC (.int 0)) (aCons (mC (.int 2)) aNil))) (aCons (mTup (aCons (mC (.int 1)) (aCons (mC (.int 0)) aNil))) (aCons (mTup (aCons (mC (.int 1)) (aCons (mNeg (mC (.int 1))) aNil))) (aCons (mTup (aCons (mC (.bl true)) (aCons (mC (.int 1)) aNil))) (aCons (mTup (aCons (mC (.int 1)) (aCons (mC (.bl true)) aNil))) (aCons (mTup (aCons (mC (.int 1)) (aCons (mC (.int 1)) (aCons (mC (.int 1)) aNil)))) (aCons (mTup (aCons (mTup (aCons (mC (.int 1)) (aCons (mC (.int 1)) aNil))) aNil)) (aCons (mTup (aCons (mTup (aCons (mTup (aCons (mC (.int 1)) (aCons (mC (.int 1)) aNil))) aNil)) aNil)) (aCons (mFl aNil) (aCons (mFl (aCons (mC (.int 1)) (aCons (mC (.int 1)) aNil))) (aCons (mFl (aCons (mTup (aCons (mC (.int 1)) (aCons (mC (.int 1)) aNil))) aNil)) (aCons (mC (.dct [] [])) (aCons (mTup (aCons (mC .non) (aCons (mC (.int 1)) aNil))) (aCons (mTup (aCons (mC (.str "1")) (aCons (mC (.int 1)) aNil))) (aCons (mTup (aCons (mTup (aCons (mC (.int 1)) (aCons (mC (.int 1)) aNil))) (aCons (mC (.int 1)) aNil))) aNil)))))))))))))))))))))))))))))))) aNil))))
  sNx)
def F_law_odd : FM := trimF (fnM 1 b_law_odd)
def b_law_bent (FX : FM) : SM := (sSeq
  (sIf (mtAnd (mTest (mIsE "tuple" (mVar 1))) (mtAnd (mTest (mBin (fNilE true) (mVar 1) (mTup aNil))) (mTest (mBin fGt (mCall F_law_take (aCons (mVar 0) (aCons (mC (.int 4)) aNil))) (mC (.int 0)))))) (sSeq
  (sSet 2 (mCall F_law_take (aCons (mVar 0) (aCons (mCall fLen (aCons (mVar 1) aNil)) aNil))))
  (sSeq
  (sRet (mBin fPlusB (mBin fPlusB (mCut (mVar 1) oNone (oSome (mVar 2))) (mTup (aCons (mCall FX (aCons (mVar 0) (aCons (mBin fIx (mVar 1) (mVar 2)) aNil))) aNil))) (mCut (mVar 1) (oSome (mBin fPlusB (mVar 2) (mC (.int 1)))) oNone)))
  sNx)) sNx)
  (sSeq
  (sSet 3 (mCall F_law_take (aCons (mVar 0) (aCons (mC (.int 8)) aNil))))
  (sSeq
  (sIf (mtAnd (mTest (mIsE "tuple" (mVar 1))) (mTest (mBin fLt (mVar 3) (mC (.int 5))))) (sSeq
  (sRet (mBin fIx (mTup (aCons (mCall fList (aCons (mVar 1) aNil)) (aCons (mCut (mVar 1) oNone (oSome (mNeg (mC (.int 1))))) (aCons (mBin fPlusB (mVar 1) (mCut (mVar 1) oNone (oSome (mC (.int 1))))) (aCons (mBack (mVar 1)) (aCons (mCut (mVar 1) (oSome (mC (.int 1))) oNone) aNil)))))) (mVar 3)))
  sNx) sNx)
  (sSeq
  (sIf (mtAnd (mTest (mIsE "int" (mVar 1))) (mTest (mBin fLt (mVar 3) (mC (.int 4))))) (sSeq
  (sRet (mBin fIx (mTup (aCons (mBin fPlusB (mVar 1) (mC (.int 1))) (aCons (mBin fSubB (mC (.int 0)) (mVar 1)) (aCons (mBin fMulB (mC (.int 2)) (mVar 1)) (aCons (mBin fSubB (mVar 1) (mC (.int 3))) aNil))))) (mVar 3)))
  sNx) sNx)
  (sSeq
  (sRet (mCall F_law_odd (aCons (mVar 0) aNil)))
  sNx)))))
def F_law_bent : Nat → FM
  | 0 => fun _ _ => none
  | n + 1 => trimF (fnM 4 (b_law_bent (F_law_bent n)))
def b_law_form : SM := (sSeq
  (sIf (mTest (mBin fEq (mCall F_law_take (aCons (mVar 0) (aCons (mC (.int 3)) aNil))) (mC (.int 0)))) (sSeq
  (sSet 2 (mCell aNil))
  (sSeq
  (sFor (iRange1 (aCons (mVar 1) aNil)) (.nm 3) (sSeq
  (sExpr (mMeth mappend (mVar 2) (aCons (mBin fPlus (mLcV (mVar 2) (.nm 7) tYesM (mBin fIx (mVar 7) (mVar 3)) [7]) (mCall fList (aCons (mCall F_law_line (aCons (mVar 0) (aCons (mBin fSub (mVar 1) (mVar 3)) aNil))) aNil))) aNil)))
  sNx))
  (sSeq
  (sRet (mCall fTuple (aCons (mLcV (mVar 2) (.nm 7) tYesM (mCall fTuple (aCons (mVar 7) aNil)) [7]) aNil)))
  sNx))) sNx)
  (sSeq
  (sPar 4 5 (aCons (mCell aNil) (aCons (mCell aNil) aNil)))
  (sSeq
  (sFor (iRange1 (aCons (mBin fPlus (mC (.int 1)) (mCall F_law_take (aCons (mVar 0) (aCons (mVar 1) aNil)))) aNil)) (.nm 6) (sSeq
  (sExpr (mMeth mappend (mVar 4) (aCons (mCall F_law_number (aCons (mVar 0) aNil)) aNil)))
  (sSeq
  (sExpr (mMeth mappend (mVar 5) (aCons (mCall F_law_line (aCons (mVar 0) (aCons (mVar 1) aNil))) aNil)))
  sNx)))
  (sSeq
  (sRet (mCall F_law_of_squares (aCons (mFreeze (mVar 4)) (aCons (mFreeze (mVar 5)) aNil))))
  sNx))))
def F_law_form : FM := trimF (fnM 8 b_law_form)
def b_law_square : SM := (sSeq
  (sSet 2 (mCell aNil))
  (sSeq
  (sFor (iRange1 (aCons (mVar 1) aNil)) (.nm 3) (sSeq
  (sExpr (mMeth mappend (mVar 2) (aCons (mCall F_law_line (aCons (mVar 0) (aCons (mVar 1) aNil))) aNil)))
  sNx))
  (sSeq
  (sRet (mCall fTuple (aCons (mVar 2) aNil)))
  sNx)))
def F_law_square : FM := trimF (fnM 4 b_law_square)
def b_law_is_any_right : SM := (sSeq
  (sSet 1 (mIf (mTest (mBin fGt (mCall F_law_take (aCons (mVar 0) (aCons (mC (.int 8)) aNil))) (mC (.int 0)))) (mCall F_law_square (aCons (mVar 0) (aCons (mBin fPlus (mC (.int 1)) (mCall F_law_take (aCons (mVar 0) (aCons (mC (.int 6)) aNil)))) aNil))) (mCall F_law_odd (aCons (mVar 0) aNil))))
  (sSeq
  (sFor (iRange1 (aCons (mCall F_law_take (aCons (mVar 0) (aCons (mC (.int 3)) aNil))) aNil)) (.nm 2) (sSeq
  (sSet 1 (mCall (F_law_bent 20) (aCons (mVar 0) (aCons (mVar 1) aNil))))
  sNx))
  (sSeq
  (sSet 3 (mAnd (mIsE "tuple" (mVar 1)) (mAnd (mChain fLt fLt (mC (.int 0)) (mCall fLen (aCons (mVar 1) aNil)) (mC (.int 6))) (mCall F_law_is_grid (aCons (mVar 1) (aCons (mCall fLen (aCons (mVar 1) aNil)) aNil))))))
  (sSeq
  (sRet (mCall (F_law_same 20) (aCons (mTup (aCons (mCall F_is_table (aCons (mVar 1) aNil)) (aCons (mCallK [0] F_is_table (aCons (mVar 1) aNil)) aNil))) (aCons (mTup (aCons (mVar 3) (aCons (mVar 3) aNil))) aNil))))
  sNx))))
def F_law_is_any_right : FM := trimF (fnM 4 b_law_is_any_right)
end Lib

set_option Elab.async false
set_option linter.all false
set_option maxRecDepth 100000
set_option autoImplicit false
set_option maxHeartbeats 4000000
namespace K02
open PySem PySem.Spec L2 HM Lib
open PyProof.Rows hiding St
def fams : List (Str × List Str) := []
def upsN : List String := []
def dnsN : List String := []
abbrev s_reduced : Stmt := topS 9
theorem sc_reduced : FnScope ["top", "low", "common"] ["top", "low"] (defScope s_reduced) := ⟨rfl, rfl, rfl, by decide +kernel, rfl, by decide +kernel, by decide +kernel⟩
abbrev s_plus : Stmt := topS 10
theorem sc_plus : FnScope ["first", "second"] ["first", "second"] (defScope s_plus) := ⟨rfl, rfl, rfl, by decide +kernel, rfl, by decide +kernel, by decide +kernel⟩
abbrev s_minus : Stmt := topS 11
theorem sc_minus : FnScope ["first", "second"] ["first", "second"] (defScope s_minus) := ⟨rfl, rfl, rfl, by decide +kernel, rfl, by decide +kernel, by decide +kernel⟩
abbrev s_times : Stmt := topS 12
theorem sc_times : FnScope ["first", "second"] ["first", "second"] (defScope s_times) := ⟨rfl, rfl, rfl, by decide +kernel, rfl, by decide +kernel, by decide +kernel⟩
abbrev s_over : Stmt := topS 13
theorem sc_over : FnScope ["first", "second"] ["first", "second"] (defScope s_over) := ⟨rfl, rfl, rfl, by decide +kernel, rfl, by decide +kernel, by decide +kernel⟩
abbrev s_less_times : Stmt := topS 14
theorem sc_less_times : FnScope ["first", "factor", "second", "low"] ["first", "factor", "second"] (defScope s_less_times) := ⟨rfl, rfl, rfl, by decide +kernel, rfl, by decide +kernel, by decide +kernel⟩
abbrev s_dot : Stmt := topS 16
theorem sc_dot : FnScope ["first", "second", "top", "low", "number", "divisor", "other", "beside", "part"] ["first", "second"] (defScope s_dot) := ⟨rfl, rfl, rfl, by decide +kernel, rfl, by decide +kernel, by decide +kernel⟩
abbrev s_row_times : Stmt := topS 17
theorem sc_row_times : FnScope ["factor", "row", "number"] ["factor", "row"] (defScope s_row_times) := ⟨rfl, rfl, rfl, by decide +kernel, rfl, by decide +kernel, by decide +kernel⟩
abbrev s_row_plus : Stmt := topS 18
theorem sc_row_plus : FnScope ["first", "second", "number", "other"] ["first", "second"] (defScope s_row_plus) := ⟨rfl, rfl, rfl, by decide +kernel, rfl, by decide +kernel, by decide +kernel⟩
abbrev s_row_less : Stmt := topS 19
theorem sc_row_less : FnScope ["first", "factor", "second", "number", "other"] ["first", "factor", "second"] (defScope s_row_less) := ⟨rfl, rfl, rfl, by decide +kernel, rfl, by decide +kernel, by decide +kernel⟩
abbrev s_unit_row : Stmt := topS 20
theorem sc_unit_row : FnScope ["many", "place", "at"] ["many", "place"] (defScope s_unit_row) := ⟨rfl, rfl, rfl, by decide +kernel, rfl, by decide +kernel, by decide +kernel⟩
abbrev s_applied : Stmt := topS 21
theorem sc_applied : FnScope ["table", "row", "line"] ["table", "row"] (defScope s_applied) := ⟨rfl, rfl, rfl, by decide +kernel, rfl, by decide +kernel, by decide +kernel⟩
abbrev s_turned_over : Stmt := topS 22
theorem sc_turned_over : FnScope ["table"] ["table"] (defScope s_turned_over) := ⟨rfl, rfl, rfl, by decide +kernel, rfl, by decide +kernel, by decide +kernel⟩
abbrev s_worth_at : Stmt := topS 24
theorem sc_worth_at : FnScope ["form", "row"] ["form", "row"] (defScope s_worth_at) := ⟨rfl, rfl, rfl, by decide +kernel, rfl, by decide +kernel, by decide +kernel⟩
abbrev s_pivot : Stmt := topS 25
theorem sc_pivot : FnScope ["form", "places", "at", "beside"] ["form", "places"] (defScope s_pivot) := ⟨rfl, rfl, rfl, by decide +kernel, rfl, by decide +kernel, by decide +kernel⟩
abbrev s_pivot_squares : Stmt := topS 26
theorem sc_pivot_squares : FnScope ["form", "at", "beside", "part", "half"] ["form", "at", "beside"] (defScope s_pivot_squares) := ⟨rfl, rfl, rfl, by decide +kernel, rfl, by decide +kernel, by decide +kernel⟩
abbrev s_less_square : Stmt := topS 27
theorem sc_less_square : FnScope ["form", "square", "part", "row", "line", "number"] ["form", "square"] (defScope s_less_square) := ⟨rfl, rfl, rfl, by decide +kernel, rfl, by decide +kernel, by decide +kernel⟩
abbrev s_squares_of : Stmt := topS 28
theorem sc_squares_of : FnScope ["form", "found", "places", "pair", "squares", "square", "place"] ["form"] (defScope s_squares_of) := ⟨rfl, rfl, rfl, by decide +kernel, rfl, by decide +kernel, by decide +kernel⟩
abbrev s_signs_of : Stmt := topS 29
theorem sc_signs_of : FnScope ["form", "tops", "above", "nought", "part", "_", "top"] ["form"] (defScope s_signs_of) := ⟨rfl, rfl, rfl, by decide +kernel, rfl, by decide +kernel, by decide +kernel⟩
abbrev s_is_positive : Stmt := topS 30
theorem sc_is_positive : FnScope ["form"] ["form"] (defScope s_is_positive) := ⟨rfl, rfl, rfl, by decide +kernel, rfl, by decide +kernel, by decide +kernel⟩
abbrev s_is_tuple : Stmt := topS 33
theorem sc_is_tuple : FnScope ["value"] ["value"] (defScope s_is_tuple) := ⟨rfl, rfl, rfl, by decide +kernel, rfl, by decide +kernel, by decide +kernel⟩
abbrev s_is_whole_number : Stmt := topS 34
theorem sc_is_whole_number : FnScope ["value"] ["value"] (defScope s_is_whole_number) := ⟨rfl, rfl, rfl, by decide +kernel, rfl, by decide +kernel, by decide +kernel⟩
abbrev s_is_pair : Stmt := topS 35
theorem sc_is_pair : FnScope ["value"] ["value"] (defScope s_is_pair) := ⟨rfl, rfl, rfl, by decide +kernel, rfl, by decide +kernel, by decide +kernel⟩
abbrev s_is_fraction : Stmt := topS 36
theorem sc_is_fraction : FnScope ["value", "top", "low"] ["value"] (defScope s_is_fraction) := ⟨rfl, rfl, rfl, by decide +kernel, rfl, by decide +kernel, by decide +kernel⟩
abbrev s_is_row : Stmt := topS 37
theorem sc_is_row : FnScope ["value", "many", "number"] ["value", "many"] (defScope s_is_row) := ⟨rfl, rfl, rfl, by decide +kernel, rfl, by decide +kernel, by decide +kernel⟩
abbrev s_is_table_of : Stmt := topS 38
theorem sc_is_table_of : FnScope ["value", "many", "row"] ["value", "many"] (defScope s_is_table_of) := ⟨rfl, rfl, rfl, by decide +kernel, rfl, by decide +kernel, by decide +kernel⟩
abbrev s_is_any_table : Stmt := topS 39
theorem sc_is_any_table : FnScope ["value"] ["value"] (defScope s_is_any_table) := ⟨rfl, rfl, rfl, by decide +kernel, rfl, by decide +kernel, by decide +kernel⟩
abbrev s_is_form : Stmt := topS 40
theorem sc_is_form : FnScope ["value"] ["value"] (defScope s_is_form) := ⟨rfl, rfl, rfl, by decide +kernel, rfl, by decide +kernel, by decide +kernel⟩
abbrev s_is_positive_table : Stmt := topS 41
theorem sc_is_positive_table : FnScope ["value"] ["value"] (defScope s_is_positive_table) := ⟨rfl, rfl, rfl, by decide +kernel, rfl, by decide +kernel, by decide +kernel⟩
abbrev s_check_form : Stmt := topS 43
theorem sc_check_form : FnScope ["value"] ["value"] (defScope s_check_form) := ⟨rfl, rfl, rfl, by decide +kernel, rfl, by decide +kernel, by decide +kernel⟩
abbrev s_check_table : Stmt := topS 44
theorem sc_check_table : FnScope ["value"] ["value"] (defScope s_check_table) := ⟨rfl, rfl, rfl, by decide +kernel, rfl, by decide +kernel, by decide +kernel⟩
abbrev s_check_row : Stmt := topS 45
theorem sc_check_row : FnScope ["value", "many", "at", "number"] ["value", "many"] (defScope s_check_row) := ⟨rfl, rfl, rfl, by decide +kernel, rfl, by decide +kernel, by decide +kernel⟩
abbrev s_is_table : Stmt := topS 47
theorem sc_is_table : FnScope ["value"] ["value"] (defScope s_is_table) := ⟨rfl, rfl, rfl, by decide +kernel, rfl, by decide +kernel, by decide +kernel⟩
abbrev s_worth : Stmt := topS 48
theorem sc_worth : FnScope ["form", "row"] ["form", "row"] (defScope s_worth) := ⟨rfl, rfl, rfl, by decide +kernel, rfl, by decide +kernel, by decide +kernel⟩
abbrev s_energy_product : Stmt := topS 49
theorem sc_energy_product : FnScope ["table", "row", "other"] ["table", "row", "other"] (defScope s_energy_product) := ⟨rfl, rfl, rfl, by decide +kernel, rfl, by decide +kernel, by decide +kernel⟩
abbrev s_law_urn : Stmt := topS 51
theorem sc_law_urn : FnScope ["script", "turn", "mixed", "cell", "own"] ["script", "turn"] (defScope s_law_urn) := ⟨rfl, rfl, rfl, by decide +kernel, rfl, by decide +kernel, by decide +kernel⟩
def b_law_urn : SM := (sSeq
  (sSet 2 (mBin fPlus (mC (.int 12307)) (mBin fMulX (mC (.int 6151)) (mVar 1))))
  (sSeq
  (sFor (iSeq (mCut (mVar 0) oNone (oSome (mC (.int 8))))) (.nm 3) (sSeq
  (sSet 2 (mBin fMod (mCall fInt (aCons (mBin fPlus (mBin fPlus (mBin fMulX (mVar 2) (mC (.int 58313))) (mBin fMod (mCall fInt (aCons (mVar 3) aNil)) (mC (.int 2147483549)))) (mC (.int 11))) aNil)) (mC (.int 2147483497))))
  sNx))
  (sSeq
  (sSet 4 (mIf (mTest (mBin fLt (mVar 1) (mCall fLen (aCons (mVar 0) aNil)))) (mCall fInt (aCons (mBin fIx (mVar 0) (mVar 1)) aNil)) (mC (.int 0))))
  (sSeq
  (sSet 2 (mBin fMod (mCall fInt (aCons (mBin fPlus (mBin fPlus (mBin fMulX (mVar 2) (mC (.int 29))) (mBin fMulX (mBin fMod (mCall fInt (aCons (mVar 4) aNil)) (mC (.int 2147483549))) (mC (.int 30011)))) (mC (.int 3))) aNil)) (mC (.int 2147483497))))
  (sSeq
  (sRet (mCell (aCons (mIf (mtOr (mTest (mBin fLt (mVar 4) (mC (.int 0)))) (mTest (mBin fGe (mVar 4) (mBin fPow (mC (.int 10)) (mC (.int 15)))))) (mCall (fInt1 iAbs) (aCons (mVar 4) aNil)) (mC (.int 0))) (aCons (mVar 2) (aCons (mC (.int 0)) (aCons (mC (.int 1)) aNil))))))
  sNx)))))
def F_law_urn : FM := fnM 5 b_law_urn
abbrev s_law_take : Stmt := topS 52
theorem sc_law_take : FnScope ["urn", "limit", "digit", "seed"] ["urn", "limit"] (defScope s_law_take) := ⟨rfl, rfl, rfl, by decide +kernel, rfl, by decide +kernel, by decide +kernel⟩
abbrev s_law_pick : Stmt := topS 53
theorem sc_law_pick : FnScope ["urn", "some"] ["urn", "some"] (defScope s_law_pick) := ⟨rfl, rfl, rfl, by decide +kernel, rfl, by decide +kernel, by decide +kernel⟩
abbrev s_law_frac : Stmt := topS 54
theorem sc_law_frac : FnScope ["top", "low", "one", "two"] ["top", "low"] (defScope s_law_frac) := ⟨rfl, rfl, rfl, by decide +kernel, rfl, by decide +kernel, by decide +kernel⟩
abbrev s_law_times : Stmt := topS 55
theorem sc_law_times : FnScope ["one", "two"] ["one", "two"] (defScope s_law_times) := ⟨rfl, rfl, rfl, by decide +kernel, rfl, by decide +kernel, by decide +kernel⟩
abbrev s_law_dot : Stmt := topS 56
theorem sc_law_dot : FnScope ["one", "two", "top", "low", "here", "there", "by"] ["one", "two"] (defScope s_law_dot) := ⟨rfl, rfl, rfl, by decide +kernel, rfl, by decide +kernel, by decide +kernel⟩
abbrev s_law_go : Stmt := topS 57
theorem sc_law_go : FnScope ["grid", "line", "each"] ["grid", "line"] (defScope s_law_go) := ⟨rfl, rfl, rfl, by decide +kernel, rfl, by decide +kernel, by decide +kernel⟩
abbrev s_law_flip : Stmt := topS 58
theorem sc_law_flip : FnScope ["grid", "spot", "line"] ["grid"] (defScope s_law_flip) := ⟨rfl, rfl, rfl, by decide +kernel, rfl, by decide +kernel, by decide +kernel⟩
abbrev s_law_mul : Stmt := topS 59
theorem sc_law_mul : FnScope ["one", "two", "sides", "line", "side"] ["one", "two"] (defScope s_law_mul) := ⟨rfl, rfl, rfl, by decide +kernel, rfl, by decide +kernel, by decide +kernel⟩
abbrev s_law_by : Stmt := topS 60
theorem sc_law_by : FnScope ["line", "by", "x"] ["line", "by"] (defScope s_law_by) := ⟨rfl, rfl, rfl, by decide +kernel, rfl, by decide +kernel, by decide +kernel⟩
abbrev s_law_at : Stmt := topS 61
theorem sc_law_at : FnScope ["grid", "line"] ["grid", "line"] (defScope s_law_at) := ⟨rfl, rfl, rfl, by decide +kernel, rfl, by decide +kernel, by decide +kernel⟩
abbrev s_law_is_frac : Stmt := topS 62
theorem sc_law_is_frac : FnScope ["thing", "top", "low"] ["thing"] (defScope s_law_is_frac) := ⟨rfl, rfl, rfl, by decide +kernel, rfl, by decide +kernel, by decide +kernel⟩
abbrev s_law_is_line : Stmt := topS 63
theorem sc_law_is_line : FnScope ["thing", "size", "each"] ["thing", "size"] (defScope s_law_is_line) := ⟨rfl, rfl, rfl, by decide +kernel, rfl, by decide +kernel, by decide +kernel⟩
abbrev s_law_is_grid : Stmt := topS 64
theorem sc_law_is_grid : FnScope ["thing", "size", "each"] ["thing", "size"] (defScope s_law_is_grid) := ⟨rfl, rfl, rfl, by decide +kernel, rfl, by decide +kernel, by decide +kernel⟩
abbrev s_law_number : Stmt := topS 65
theorem sc_law_number : FnScope ["urn", "branch"] ["urn"] (defScope s_law_number) := ⟨rfl, rfl, rfl, by decide +kernel, rfl, by decide +kernel, by decide +kernel⟩
abbrev s_law_line : Stmt := topS 66
theorem sc_law_line : FnScope ["urn", "size", "found", "turn"] ["urn", "size"] (defScope s_law_line) := ⟨rfl, rfl, rfl, by decide +kernel, rfl, by decide +kernel, by decide +kernel⟩
abbrev s_law_of_squares : Stmt := topS 67
theorem sc_law_of_squares : FnScope ["heights", "lines", "line", "height"] ["heights", "lines"] (defScope s_law_of_squares) := ⟨rfl, rfl, rfl, by decide +kernel, rfl, by decide +kernel, by decide +kernel⟩
abbrev s_law_table : Stmt := topS 68
theorem sc_law_table : FnScope ["urn", "size", "stairs", "heights", "spot"] ["urn", "size"] (defScope s_law_table) := ⟨rfl, rfl, rfl, by decide +kernel, rfl, by decide +kernel, by decide +kernel⟩
abbrev s_law_size : Stmt := topS 69
theorem sc_law_size : FnScope ["urn"] ["urn"] (defScope s_law_size) := ⟨rfl, rfl, rfl, by decide +kernel, rfl, by decide +kernel, by decide +kernel⟩
abbrev s_law_same : Stmt := topS 70
theorem sc_law_same : FnScope ["told", "due", "x", "y"] ["told", "due"] (defScope s_law_same) := ⟨rfl, rfl, rfl, by decide +kernel, rfl, by decide +kernel, by decide +kernel⟩
abbrev s_law_odd : Stmt := topS 71
theorem sc_law_odd : FnScope ["urn"] ["urn"] (defScope s_law_odd) := ⟨rfl, rfl, rfl, by decide +kernel, rfl, by decide +kernel, by decide +kernel⟩
abbrev s_law_bent : Stmt := topS 72
theorem sc_law_bent : FnScope ["urn", "thing", "spot", "branch"] ["urn", "thing"] (defScope s_law_bent) := ⟨rfl, rfl, rfl, by decide +kernel, rfl, by decide +kernel, by decide +kernel⟩
abbrev s_law_form : Stmt := topS 73
theorem sc_law_form : FnScope ["urn", "size", "found", "spot", "heights", "lines", "turn", "line"] ["urn", "size"] (defScope s_law_form) := ⟨rfl, rfl, rfl, by decide +kernel, rfl, by decide +kernel, by decide +kernel⟩
abbrev s_law_square : Stmt := topS 74
theorem sc_law_square : FnScope ["urn", "size", "found", "turn"] ["urn", "size"] (defScope s_law_square) := ⟨rfl, rfl, rfl, by decide +kernel, rfl, by decide +kernel, by decide +kernel⟩
abbrev s_law_is_any_right : Stmt := topS 75
theorem sc_law_is_any_right : FnScope ["urn", "thing", "turn", "due"] ["urn"] (defScope s_law_is_any_right) := ⟨rfl, rfl, rfl, by decide +kernel, rfl, by decide +kernel, by decide +kernel⟩
abbrev s_law_right : Stmt := topS 76
theorem sc_law_right : FnScope ["urn", "turn", "size", "shape", "line", "more", "due", "grid", "told"] ["urn"] (defScope s_law_right) := ⟨rfl, rfl, rfl, by decide +kernel, rfl, by decide +kernel, by decide +kernel⟩
def b_law_right : SM := (sSeq
  (sFor (iRange1 (aCons (mC (.int 3)) aNil)) (.nm 1) (sSeq
  (sIf (mtNot (mTest (mCall F_law_is_any_right (aCons (mVar 0) aNil)))) (sSeq
  (sRet (mC (.bl false)))
  sNx) sNx)
  sNx))
  (sSeq
  (sSet 2 (mCall F_law_size (aCons (mVar 0) aNil)))
  (sSeq
  (sPar3 3 4 5 (aCons (mCall F_law_form (aCons (mVar 0) (aCons (mVar 2) aNil))) (aCons (mCall F_law_line (aCons (mVar 0) (aCons (mVar 2) aNil))) (aCons (mCall F_law_line (aCons (mVar 0) (aCons (mVar 2) aNil))) aNil))))
  (sSeq
  (sSet 6 (mCall F_law_at (aCons (mVar 3) (aCons (mVar 4) aNil))))
  (sSeq
  (sIf (mtNot (mTest (mCall (F_law_same 20) (aCons (mTup (aCons (mCall F_worth (aCons (mVar 3) (aCons (mVar 4) aNil))) (aCons (mCallK [1, 0] F_worth (aCons (mVar 4) (aCons (mVar 3) aNil))) aNil))) (aCons (mTup (aCons (mVar 6) (aCons (mVar 6) aNil))) aNil))))) (sSeq
  (sRet (mC (.bl false)))
  sNx) sNx)
  (sSeq
  (sSet 7 (mCall F_law_table (aCons (mVar 0) (aCons (mVar 2) aNil))))
  (sSeq
  (sSet 6 (mCall F_law_dot (aCons (mVar 4) (aCons (mCall F_law_go (aCons (mVar 7) (aCons (mVar 5) aNil))) aNil))))
  (sSeq
  (sSet 8 (mTup (aCons (mCall F_energy_product (aCons (mVar 7) (aCons (mVar 4) (aCons (mVar 5) aNil)))) (aCons (mCallK [2, 1, 0] F_energy_product (aCons (mVar 4) (aCons (mVar 5) (aCons (mVar 7) aNil)))) aNil))))
  (sSeq
  (sRet (mAnd (mCall (F_law_same 20) (aCons (mVar 8) (aCons (mTup (aCons (mVar 6) (aCons (mVar 6) aNil))) aNil))) (mCall (F_law_same 20) (aCons (mCall F_worth (aCons (mVar 7) (aCons (mVar 5) aNil))) (aCons (mCall F_law_at (aCons (mVar 7) (aCons (mVar 5) aNil))) aNil)))))
  sNx)))))))))
def F_law_right : FM := trimF (fnM 9 b_law_right)
abbrev s_law : Stmt := topS 77
theorem sc_law : FnScope ["script", "turn"] ["script"] (defScope s_law) := ⟨rfl, rfl, rfl, by decide +kernel, rfl, by decide +kernel, by decide +kernel⟩
def b_law : SM := (sSeq
  (sRet (mCall fAll (aCons (mLc (iRange1 (aCons (mCall (fInt2 iMax) (aCons (mC (.int 1)) (aCons (mCall (fInt2 iMin) (aCons (mCall fLen (aCons (mVar 0) aNil)) (aCons (mC (.int 2)) aNil))) aNil))) aNil)) (.nm 1) tYesM (mCall F_law_right (aCons (mCall F_law_urn (aCons (mVar 0) (aCons (mVar 1) aNil))) aNil)) [1]) aNil)))
  sNx)
def F_law : FM := trimF (fnM 2 b_law)
structure Tx (P : Program) (w : World) (K : PySem.W.Frag) (mg : Str → Option Value) (base : Heap) where
  f_reduced : Addr
  d_reduced : FuncData
  u_reduced : Fun K "reduced" "reduced" s_reduced f_reduced d_reduced
  g_reduced : mg "reduced" = some (.ref f_reduced)
  f_plus : Addr
  d_plus : FuncData
  u_plus : Fun K "plus" "plus" s_plus f_plus d_plus
  g_plus : mg "plus" = some (.ref f_plus)
  f_minus : Addr
  d_minus : FuncData
  u_minus : Fun K "minus" "minus" s_minus f_minus d_minus
  g_minus : mg "minus" = some (.ref f_minus)
  f_times : Addr
  d_times : FuncData
  u_times : Fun K "times" "times" s_times f_times d_times
  g_times : mg "times" = some (.ref f_times)
  f_over : Addr
  d_over : FuncData
  u_over : Fun K "over" "over" s_over f_over d_over
  g_over : mg "over" = some (.ref f_over)
  f_less_times : Addr
  d_less_times : FuncData
  u_less_times : Fun K "less_times" "less_times" s_less_times f_less_times d_less_times
  g_less_times : mg "less_times" = some (.ref f_less_times)
  f_dot : Addr
  d_dot : FuncData
  u_dot : Fun K "dot" "dot" s_dot f_dot d_dot
  g_dot : mg "dot" = some (.ref f_dot)
  f_row_times : Addr
  d_row_times : FuncData
  u_row_times : Fun K "row_times" "row_times" s_row_times f_row_times d_row_times
  g_row_times : mg "row_times" = some (.ref f_row_times)
  f_row_plus : Addr
  d_row_plus : FuncData
  u_row_plus : Fun K "row_plus" "row_plus" s_row_plus f_row_plus d_row_plus
  g_row_plus : mg "row_plus" = some (.ref f_row_plus)
  f_row_less : Addr
  d_row_less : FuncData
  u_row_less : Fun K "row_less" "row_less" s_row_less f_row_less d_row_less
  g_row_less : mg "row_less" = some (.ref f_row_less)
  f_unit_row : Addr
  d_unit_row : FuncData
  u_unit_row : Fun K "unit_row" "unit_row" s_unit_row f_unit_row d_unit_row
  g_unit_row : mg "unit_row" = some (.ref f_unit_row)
  f_applied : Addr
  d_applied : FuncData
  u_applied : Fun K "applied" "applied" s_applied f_applied d_applied
  g_applied : mg "applied" = some (.ref f_applied)
  f_turned_over : Addr
  d_turned_over : FuncData
  u_turned_over : Fun K "turned_over" "turned_over" s_turned_over f_turned_over d_turned_over
  g_turned_over : mg "turned_over" = some (.ref f_turned_over)
  f_worth_at : Addr
  d_worth_at : FuncData
  u_worth_at : Fun K "worth_at" "worth_at" s_worth_at f_worth_at d_worth_at
  g_worth_at : mg "worth_at" = some (.ref f_worth_at)
  f_pivot : Addr
  d_pivot : FuncData
  u_pivot : Fun K "pivot" "pivot" s_pivot f_pivot d_pivot
  g_pivot : mg "pivot" = some (.ref f_pivot)
  f_pivot_squares : Addr
  d_pivot_squares : FuncData
  u_pivot_squares : Fun K "pivot_squares" "pivot_squares" s_pivot_squares f_pivot_squares d_pivot_squares
  g_pivot_squares : mg "pivot_squares" = some (.ref f_pivot_squares)
  f_less_square : Addr
  d_less_square : FuncData
  u_less_square : Fun K "less_square" "less_square" s_less_square f_less_square d_less_square
  g_less_square : mg "less_square" = some (.ref f_less_square)
  f_squares_of : Addr
  d_squares_of : FuncData
  u_squares_of : Fun K "squares_of" "squares_of" s_squares_of f_squares_of d_squares_of
  g_squares_of : mg "squares_of" = some (.ref f_squares_of)
  f_signs_of : Addr
  d_signs_of : FuncData
  u_signs_of : Fun K "signs_of" "signs_of" s_signs_of f_signs_of d_signs_of
  g_signs_of : mg "signs_of" = some (.ref f_signs_of)
  f_is_positive : Addr
  d_is_positive : FuncData
  u_is_positive : Fun K "is_positive" "is_positive" s_is_positive f_is_positive d_is_positive
  g_is_positive : mg "is_positive" = some (.ref f_is_positive)
  f_is_tuple : Addr
  d_is_tuple : FuncData
  u_is_tuple : Fun K "is_tuple" "is_tuple" s_is_tuple f_is_tuple d_is_tuple
  g_is_tuple : mg "is_tuple" = some (.ref f_is_tuple)
  f_is_whole_number : Addr
  d_is_whole_number : FuncData
  u_is_whole_number : Fun K "is_whole_number" "is_whole_number" s_is_whole_number f_is_whole_number d_is_whole_number
  g_is_whole_number : mg "is_whole_number" = some (.ref f_is_whole_number)
  f_is_pair : Addr
  d_is_pair : FuncData
  u_is_pair : Fun K "is_pair" "is_pair" s_is_pair f_is_pair d_is_pair
  g_is_pair : mg "is_pair" = some (.ref f_is_pair)
  f_is_fraction : Addr
  d_is_fraction : FuncData
  u_is_fraction : Fun K "is_fraction" "is_fraction" s_is_fraction f_is_fraction d_is_fraction
  g_is_fraction : mg "is_fraction" = some (.ref f_is_fraction)
  f_is_row : Addr
  d_is_row : FuncData
  u_is_row : Fun K "is_row" "is_row" s_is_row f_is_row d_is_row
  g_is_row : mg "is_row" = some (.ref f_is_row)
  f_is_table_of : Addr
  d_is_table_of : FuncData
  u_is_table_of : Fun K "is_table_of" "is_table_of" s_is_table_of f_is_table_of d_is_table_of
  g_is_table_of : mg "is_table_of" = some (.ref f_is_table_of)
  f_is_any_table : Addr
  d_is_any_table : FuncData
  u_is_any_table : Fun K "is_any_table" "is_any_table" s_is_any_table f_is_any_table d_is_any_table
  g_is_any_table : mg "is_any_table" = some (.ref f_is_any_table)
  f_is_form : Addr
  d_is_form : FuncData
  u_is_form : Fun K "is_form" "is_form" s_is_form f_is_form d_is_form
  g_is_form : mg "is_form" = some (.ref f_is_form)
  f_is_positive_table : Addr
  d_is_positive_table : FuncData
  u_is_positive_table : Fun K "is_positive_table" "is_positive_table" s_is_positive_table f_is_positive_table d_is_positive_table
  g_is_positive_table : mg "is_positive_table" = some (.ref f_is_positive_table)
  f_check_form : Addr
  d_check_form : FuncData
  u_check_form : Fun K "check_form" "check_form" s_check_form f_check_form d_check_form
  g_check_form : mg "check_form" = some (.ref f_check_form)
  f_check_table : Addr
  d_check_table : FuncData
  u_check_table : Fun K "check_table" "check_table" s_check_table f_check_table d_check_table
  g_check_table : mg "check_table" = some (.ref f_check_table)
  f_check_row : Addr
  d_check_row : FuncData
  u_check_row : Fun K "check_row" "check_row" s_check_row f_check_row d_check_row
  g_check_row : mg "check_row" = some (.ref f_check_row)
  f_is_table : Addr
  d_is_table : FuncData
  u_is_table : Fun K "is_table" "is_table" s_is_table f_is_table d_is_table
  g_is_table : mg "is_table" = some (.ref f_is_table)
  f_worth : Addr
  d_worth : FuncData
  u_worth : Fun K "worth" "worth" s_worth f_worth d_worth
  g_worth : mg "worth" = some (.ref f_worth)
  f_energy_product : Addr
  d_energy_product : FuncData
  u_energy_product : Fun K "energy_product" "energy_product" s_energy_product f_energy_product d_energy_product
  g_energy_product : mg "energy_product" = some (.ref f_energy_product)
  f_law_urn : Addr
  d_law_urn : FuncData
  u_law_urn : Fun K "_law_urn" "_law_urn" s_law_urn f_law_urn d_law_urn
  g_law_urn : mg "_law_urn" = some (.ref f_law_urn)
  f_law_take : Addr
  d_law_take : FuncData
  u_law_take : Fun K "_law_take" "_law_take" s_law_take f_law_take d_law_take
  g_law_take : mg "_law_take" = some (.ref f_law_take)
  f_law_pick : Addr
  d_law_pick : FuncData
  u_law_pick : Fun K "_law_pick" "_law_pick" s_law_pick f_law_pick d_law_pick
  g_law_pick : mg "_law_pick" = some (.ref f_law_pick)
  f_law_frac : Addr
  d_law_frac : FuncData
  u_law_frac : Fun K "_law_frac" "_law_frac" s_law_frac f_law_frac d_law_frac
  g_law_frac : mg "_law_frac" = some (.ref f_law_frac)
  f_law_times : Addr
  d_law_times : FuncData
  u_law_times : Fun K "_law_times" "_law_times" s_law_times f_law_times d_law_times
  g_law_times : mg "_law_times" = some (.ref f_law_times)
  f_law_dot : Addr
  d_law_dot : FuncData
  u_law_dot : Fun K "_law_dot" "_law_dot" s_law_dot f_law_dot d_law_dot
  g_law_dot : mg "_law_dot" = some (.ref f_law_dot)
  f_law_go : Addr
  d_law_go : FuncData
  u_law_go : Fun K "_law_go" "_law_go" s_law_go f_law_go d_law_go
  g_law_go : mg "_law_go" = some (.ref f_law_go)
  f_law_flip : Addr
  d_law_flip : FuncData
  u_law_flip : Fun K "_law_flip" "_law_flip" s_law_flip f_law_flip d_law_flip
  g_law_flip : mg "_law_flip" = some (.ref f_law_flip)
  f_law_mul : Addr
  d_law_mul : FuncData
  u_law_mul : Fun K "_law_mul" "_law_mul" s_law_mul f_law_mul d_law_mul
  g_law_mul : mg "_law_mul" = some (.ref f_law_mul)
  f_law_by : Addr
  d_law_by : FuncData
  u_law_by : Fun K "_law_by" "_law_by" s_law_by f_law_by d_law_by
  g_law_by : mg "_law_by" = some (.ref f_law_by)
  f_law_at : Addr
  d_law_at : FuncData
  u_law_at : Fun K "_law_at" "_law_at" s_law_at f_law_at d_law_at
  g_law_at : mg "_law_at" = some (.ref f_law_at)
  f_law_is_frac : Addr
  d_law_is_frac : FuncData
  u_law_is_frac : Fun K "_law_is_frac" "_law_is_frac" s_law_is_frac f_law_is_frac d_law_is_frac
  g_law_is_frac : mg "_law_is_frac" = some (.ref f_law_is_frac)
  f_law_is_line : Addr
  d_law_is_line : FuncData
  u_law_is_line : Fun K "_law_is_line" "_law_is_line" s_law_is_line f_law_is_line d_law_is_line
  g_law_is_line : mg "_law_is_line" = some (.ref f_law_is_line)
  f_law_is_grid : Addr
  d_law_is_grid : FuncData
  u_law_is_grid : Fun K "_law_is_grid" "_law_is_grid" s_law_is_grid f_law_is_grid d_law_is_grid
  g_law_is_grid : mg "_law_is_grid" = some (.ref f_law_is_grid)
  f_law_number : Addr
  d_law_number : FuncData
  u_law_number : Fun K "_law_number" "_law_number" s_law_number f_law_number d_law_number
  g_law_number : mg "_law_number" = some (.ref f_law_number)
  f_law_line : Addr
  d_law_line : FuncData
  u_law_line : Fun K "_law_line" "_law_line" s_law_line f_law_line d_law_line
  g_law_line : mg "_law_line" = some (.ref f_law_line)
  f_law_of_squares : Addr
  d_law_of_squares : FuncData
  u_law_of_squares : Fun K "_law_of_squares" "_law_of_squares" s_law_of_squares f_law_of_squares d_law_of_squares
  g_law_of_squares : mg "_law_of_squares" = some (.ref f_law_of_squares)
  f_law_table : Addr
  d_law_table : FuncData
  u_law_table : Fun K "_law_table" "_law_table" s_law_table f_law_table d_law_table
  g_law_table : mg "_law_table" = some (.ref f_law_table)
  f_law_size : Addr
  d_law_size : FuncData
  u_law_size : Fun K "_law_size" "_law_size" s_law_size f_law_size d_law_size
  g_law_size : mg "_law_size" = some (.ref f_law_size)
  f_law_same : Addr
  d_law_same : FuncData
  u_law_same : Fun K "_law_same" "_law_same" s_law_same f_law_same d_law_same
  g_law_same : mg "_law_same" = some (.ref f_law_same)
  f_law_odd : Addr
  d_law_odd : FuncData
  u_law_odd : Fun K "_law_odd" "_law_odd" s_law_odd f_law_odd d_law_odd
  g_law_odd : mg "_law_odd" = some (.ref f_law_odd)
  f_law_bent : Addr
  d_law_bent : FuncData
  u_law_bent : Fun K "_law_bent" "_law_bent" s_law_bent f_law_bent d_law_bent
  g_law_bent : mg "_law_bent" = some (.ref f_law_bent)
  f_law_form : Addr
  d_law_form : FuncData
  u_law_form : Fun K "_law_form" "_law_form" s_law_form f_law_form d_law_form
  g_law_form : mg "_law_form" = some (.ref f_law_form)
  f_law_square : Addr
  d_law_square : FuncData
  u_law_square : Fun K "_law_square" "_law_square" s_law_square f_law_square d_law_square
  g_law_square : mg "_law_square" = some (.ref f_law_square)
  f_law_is_any_right : Addr
  d_law_is_any_right : FuncData
  u_law_is_any_right : Fun K "_law_is_any_right" "_law_is_any_right" s_law_is_any_right f_law_is_any_right d_law_is_any_right
  g_law_is_any_right : mg "_law_is_any_right" = some (.ref f_law_is_any_right)
  f_law_right : Addr
  d_law_right : FuncData
  u_law_right : Fun K "_law_right" "_law_right" s_law_right f_law_right d_law_right
  g_law_right : mg "_law_right" = some (.ref f_law_right)
  f_law : Addr
  d_law : FuncData
  u_law : Fun K "law" "law" s_law f_law d_law
  g_law : mg "law" = some (.ref f_law)
  n_abs : mg "abs" = none
  n_all : mg "all" = none
  n_bool : mg "bool" = none
  n_divmod : mg "divmod" = none
  n_enumerate : mg "enumerate" = none
  n_int : mg "int" = none
  n_isinstance : mg "isinstance" = none
  n_len : mg "len" = none
  n_list : mg "list" = none
  n_max : mg "max" = none
  n_min : mg "min" = none
  n_range : mg "range" = none
  n_tuple : mg "tuple" = none
  n_type : mg "type" = none
  n_zip : mg "zip" = none
  fam : Fam K fams upsN dnsN ["given", "index"]
  k_MOST_ROWS : Tok
  g_MOST_ROWS : mg "MOST_ROWS" = some (.int 5 k_MOST_ROWS)
  a_NIL : Addr
  g_NIL : mg "NIL" = some (.ref a_NIL)
  w_NIL : SqT K (fun _ => none) a_NIL [.int (0), .int (1)]
  a_ONE : Addr
  g_ONE : mg "ONE" = some (.ref a_ONE)
  w_ONE : SqT K (fun _ => none) a_ONE [.int (1), .int (1)]
  g_gcd : mg "gcd" = some (.builtin "math.gcd")
section
variable {P : Program} {w : World} {K : PySem.W.Frag} {mg : Str → Option Value} {base : Heap}
theorem b_reduced_binds (T : Tx P w K mg base) : Binds K T.d_reduced ["top", "low"] [] := T.u_reduced.binds (ps := ["top", "low"]) fun _ _ _ _ _ _ us hl => match us, hl with | [_, _], _ => rfl
theorem okr_reduced (T : Tx P w K mg base) : FnG P w K mg base 1 T.f_reduced T.d_reduced ["top", "low"] (spM K 2 (fnM 3 b_reduced)) := by
  have h0 := @fnG P w K mg base "reduced" "reduced" s_reduced T.f_reduced T.d_reduced ["top", "low", "common"] ["top", "low"] 0 b_reduced T.u_reduced sc_reduced
  refine h0 fun cdv A outer s H E hr hgd => ?_
  have hu := hr.units
  have hu2 := hu66 hr
  have nd := sc_reduced.nd
  unfold b_reduced
  exact (ms_cons
  (mset 2 nd (me_callG cr_gcd opN_gcd rfl T.g_gcd (ma_cons (mv 0) (ma_cons (mv 1) ma_nil))))
  (ms_cons
  (ms_if (mt_lt (mv 1) me_int) (ms_cons
  (mset 2 nd (me_neg (mv 2)))
  ms_nil) ms_nil)
  (ms_cons
  (ms_ret (me_tup (ma_cons (me_divF (mv 0) (mv 2)) (ma_cons (me_divF (mv 1) (mv 2)) ma_nil))))
  ms_nil)))
theorem ok_reduced (T : Tx P w K mg base) : FnG P w K mg base 1 T.f_reduced T.d_reduced ["top", "low"] (spM K 2 F_reduced) := (okr_reduced T).trim

theorem b_plus_binds (T : Tx P w K mg base) : Binds K T.d_plus ["first", "second"] [] := T.u_plus.binds (ps := ["first", "second"]) fun _ _ _ _ _ _ us hl => match us, hl with | [_, _], _ => rfl
theorem okr_plus (T : Tx P w K mg base) : FnG P w K mg base 2 T.f_plus T.d_plus ["first", "second"] (spM K 2 (fnM 2 b_plus)) := by
  have h0 := @fnG P w K mg base "plus" "plus" s_plus T.f_plus T.d_plus ["first", "second"] ["first", "second"] 1 b_plus T.u_plus sc_plus
  refine h0 fun cdv A outer s H E hr hgd => ?_
  have hu := hr.units
  have hu2 := hu66 hr
  have nd := sc_plus.nd
  unfold b_plus
  exact (ms_cons
  (ms_ret (me_call (ok_reduced T) (hr.mono (by decide)) hgd rfl T.g_reduced T.u_reduced.kp (b_reduced_binds T) rfl (ma_cons (me_add (me_mulX (me_at (mv 0) me_int (fun _ _ => rfl)) (me_at (mv 1) me_int (fun _ _ => rfl))) (me_mulX (me_at (mv 1) me_int (fun _ _ => rfl)) (me_at (mv 0) me_int (fun _ _ => rfl)))) (ma_cons (me_mulX (me_at (mv 0) me_int (fun _ _ => rfl)) (me_at (mv 1) me_int (fun _ _ => rfl))) ma_nil)) (al_cons' (al_cons' al_nil'))))
  ms_nil)
theorem ok_plus (T : Tx P w K mg base) : FnG P w K mg base 2 T.f_plus T.d_plus ["first", "second"] (spM K 2 F_plus) := (okr_plus T).trim

theorem b_minus_binds (T : Tx P w K mg base) : Binds K T.d_minus ["first", "second"] [] := T.u_minus.binds (ps := ["first", "second"]) fun _ _ _ _ _ _ us hl => match us, hl with | [_, _], _ => rfl
theorem okr_minus (T : Tx P w K mg base) : FnG P w K mg base 2 T.f_minus T.d_minus ["first", "second"] (spM K 2 (fnM 2 b_minus)) := by
  have h0 := @fnG P w K mg base "minus" "minus" s_minus T.f_minus T.d_minus ["first", "second"] ["first", "second"] 1 b_minus T.u_minus sc_minus
  refine h0 fun cdv A outer s H E hr hgd => ?_
  have hu := hr.units
  have hu2 := hu66 hr
  have nd := sc_minus.nd
  unfold b_minus
  exact (ms_cons
  (ms_ret (me_call (ok_reduced T) (hr.mono (by decide)) hgd rfl T.g_reduced T.u_reduced.kp (b_reduced_binds T) rfl (ma_cons (me_sub (me_mulX (me_at (mv 0) me_int (fun _ _ => rfl)) (me_at (mv 1) me_int (fun _ _ => rfl))) (me_mulX (me_at (mv 1) me_int (fun _ _ => rfl)) (me_at (mv 0) me_int (fun _ _ => rfl)))) (ma_cons (me_mulX (me_at (mv 0) me_int (fun _ _ => rfl)) (me_at (mv 1) me_int (fun _ _ => rfl))) ma_nil)) (al_cons' (al_cons' al_nil'))))
  ms_nil)
theorem ok_minus (T : Tx P w K mg base) : FnG P w K mg base 2 T.f_minus T.d_minus ["first", "second"] (spM K 2 F_minus) := (okr_minus T).trim

theorem b_times_binds (T : Tx P w K mg base) : Binds K T.d_times ["first", "second"] [] := T.u_times.binds (ps := ["first", "second"]) fun _ _ _ _ _ _ us hl => match us, hl with | [_, _], _ => rfl
theorem okr_times (T : Tx P w K mg base) : FnG P w K mg base 2 T.f_times T.d_times ["first", "second"] (spM K 2 (fnM 2 b_times)) := by
  have h0 := @fnG P w K mg base "times" "times" s_times T.f_times T.d_times ["first", "second"] ["first", "second"] 1 b_times T.u_times sc_times
  refine h0 fun cdv A outer s H E hr hgd => ?_
  have hu := hr.units
  have hu2 := hu66 hr
  have nd := sc_times.nd
  unfold b_times
  exact (ms_cons
  (ms_ret (me_call (ok_reduced T) (hr.mono (by decide)) hgd rfl T.g_reduced T.u_reduced.kp (b_reduced_binds T) rfl (ma_cons (me_mulX (me_at (mv 0) me_int (fun _ _ => rfl)) (me_at (mv 1) me_int (fun _ _ => rfl))) (ma_cons (me_mulX (me_at (mv 0) me_int (fun _ _ => rfl)) (me_at (mv 1) me_int (fun _ _ => rfl))) ma_nil)) (al_cons' (al_cons' al_nil'))))
  ms_nil)
theorem ok_times (T : Tx P w K mg base) : FnG P w K mg base 2 T.f_times T.d_times ["first", "second"] (spM K 2 F_times) := (okr_times T).trim

theorem b_over_binds (T : Tx P w K mg base) : Binds K T.d_over ["first", "second"] [] := T.u_over.binds (ps := ["first", "second"]) fun _ _ _ _ _ _ us hl => match us, hl with | [_, _], _ => rfl
theorem okr_over (T : Tx P w K mg base) : FnG P w K mg base 2 T.f_over T.d_over ["first", "second"] (spM K 2 (fnM 2 b_over)) := by
  have h0 := @fnG P w K mg base "over" "over" s_over T.f_over T.d_over ["first", "second"] ["first", "second"] 1 b_over T.u_over sc_over
  refine h0 fun cdv A outer s H E hr hgd => ?_
  have hu := hr.units
  have hu2 := hu66 hr
  have nd := sc_over.nd
  unfold b_over
  exact (ms_cons
  (ms_ret (me_call (ok_reduced T) (hr.mono (by decide)) hgd rfl T.g_reduced T.u_reduced.kp (b_reduced_binds T) rfl (ma_cons (me_mulX (me_at (mv 0) me_int (fun _ _ => rfl)) (me_at (mv 1) me_int (fun _ _ => rfl))) (ma_cons (me_mulX (me_at (mv 0) me_int (fun _ _ => rfl)) (me_at (mv 1) me_int (fun _ _ => rfl))) ma_nil)) (al_cons' (al_cons' al_nil'))))
  ms_nil)
theorem ok_over (T : Tx P w K mg base) : FnG P w K mg base 2 T.f_over T.d_over ["first", "second"] (spM K 2 F_over) := (okr_over T).trim

theorem b_less_times_binds (T : Tx P w K mg base) : Binds K T.d_less_times ["first", "factor", "second"] [] := T.u_less_times.binds (ps := ["first", "factor", "second"]) fun _ _ _ _ _ _ us hl => match us, hl with | [_, _, _], _ => rfl
theorem okr_less_times (T : Tx P w K mg base) : FnG P w K mg base 2 T.f_less_times T.d_less_times ["first", "factor", "second"] (spM K 3 (fnM 4 b_less_times)) := by
  have h0 := @fnG P w K mg base "less_times" "less_times" s_less_times T.f_less_times T.d_less_times ["first", "factor", "second", "low"] ["first", "factor", "second"] 1 b_less_times T.u_less_times sc_less_times
  refine h0 fun cdv A outer s H E hr hgd => ?_
  have hu := hr.units
  have hu2 := hu66 hr
  have nd := sc_less_times.nd
  unfold b_less_times
  exact (ms_cons
  (mset 3 nd (me_mulX (me_at (mv 1) me_int (fun _ _ => rfl)) (me_at (mv 2) me_int (fun _ _ => rfl))))
  (ms_cons
  (ms_ret (me_call (ok_reduced T) (hr.mono (by decide)) hgd rfl T.g_reduced T.u_reduced.kp (b_reduced_binds T) rfl (ma_cons (me_sub (me_mulX (me_at (mv 0) me_int (fun _ _ => rfl)) (mv 3)) (me_mulX (me_mulX (me_at (mv 1) me_int (fun _ _ => rfl)) (me_at (mv 2) me_int (fun _ _ => rfl))) (me_at (mv 0) me_int (fun _ _ => rfl)))) (ma_cons (me_mulX (me_at (mv 0) me_int (fun _ _ => rfl)) (mv 3)) ma_nil)) (al_cons' (al_cons' al_nil'))))
  ms_nil))
theorem ok_less_times (T : Tx P w K mg base) : FnG P w K mg base 2 T.f_less_times T.d_less_times ["first", "factor", "second"] (spM K 3 F_less_times) := (okr_less_times T).trim

theorem b_dot_binds (T : Tx P w K mg base) : Binds K T.d_dot ["first", "second"] [] := T.u_dot.binds (ps := ["first", "second"]) fun _ _ _ _ _ _ us hl => match us, hl with | [_, _], _ => rfl
theorem okr_dot (T : Tx P w K mg base) : FnG P w K mg base 2 T.f_dot T.d_dot ["first", "second"] (spM K 2 (fnM 9 b_dot)) := by
  have h0 := @fnG P w K mg base "dot" "dot" s_dot T.f_dot T.d_dot ["first", "second", "top", "low", "number", "divisor", "other", "beside", "part"] ["first", "second"] 1 b_dot T.u_dot sc_dot
  refine h0 fun cdv A outer s H E hr hgd => ?_
  have hu := hr.units
  have hu2 := hu66 hr
  have nd := sc_dot.nd
  unfold b_dot
  exact (ms_cons
  (ms_asg (tg := (.tp ((.nm 2) :: ((.nm 3) :: [])))) (me_tup (ma_cons me_int (ma_cons me_int ma_nil))) (mg_tup rfl (mgs_cons (mgn 2 nd) (mgs_cons (mgn 3 nd) mgs_nil))))
  (ms_cons
  (ms_for (tg := (.tp ((.tp ((.nm 4) :: ((.nm 5) :: []))) :: ((.tp ((.nm 6) :: ((.nm 7) :: []))) :: [])))) PassesOwn.never rfl (mi_zip rfl T.n_zip (ma_cons (mv 0) (ma_cons (mv 1) ma_nil))) (mg_tup rfl (mgs_cons (mg_tup rfl (mgs_cons (mgn 4 nd) (mgs_cons (mgn 5 nd) mgs_nil))) (mgs_cons (mg_tup rfl (mgs_cons (mgn 6 nd) (mgs_cons (mgn 7 nd) mgs_nil))) mgs_nil))) (ms_cons
  (mset 8 nd (me_mulX (mv 5) (mv 7)))
  (ms_cons
  (ms_par (i := 2) (j := 3) rfl nd rfl rfl (by decide) rfl rfl (ma_cons (me_add (me_mulX (mv 2) (mv 8)) (me_mulX (me_mulX (mv 4) (mv 6)) (mv 3))) (ma_cons (me_mulX (mv 3) (mv 8)) ma_nil)) rfl)
  ms_nil)))
  (ms_cons
  (ms_ret (me_call (ok_reduced T) (hr.mono (by decide)) hgd rfl T.g_reduced T.u_reduced.kp (b_reduced_binds T) rfl (ma_cons (mv 2) (ma_cons (mv 3) ma_nil)) (al_cons' (al_cons' al_nil'))))
  ms_nil)))
theorem ok_dot (T : Tx P w K mg base) : FnG P w K mg base 2 T.f_dot T.d_dot ["first", "second"] (spM K 2 F_dot) := (okr_dot T).trim

theorem b_row_times_binds (T : Tx P w K mg base) : Binds K T.d_row_times ["factor", "row"] [] := T.u_row_times.binds (ps := ["factor", "row"]) fun _ _ _ _ _ _ us hl => match us, hl with | [_, _], _ => rfl
theorem okr_row_times (T : Tx P w K mg base) : FnG P w K mg base 3 T.f_row_times T.d_row_times ["factor", "row"] (spM K 2 (fnM 3 b_row_times)) := by
  have h0 := @fnG P w K mg base "row_times" "row_times" s_row_times T.f_row_times T.d_row_times ["factor", "row", "number"] ["factor", "row"] 2 b_row_times T.u_row_times sc_row_times
  refine h0 fun cdv A outer s H E hr hgd => ?_
  have hu := hr.units
  have hu2 := hu66 hr
  have nd := sc_row_times.nd
  unfold b_row_times
  exact (ms_cons
  (ms_ret (me_callTy call_tuple_of opN_tuple rfl T.n_tuple (by decide +kernel) (ma_cons (me_lc (own := [("number", 2)]) (tg := (.nm 2)) rfl nd (mi_seq (mv 1)) (blkOk_by (N := ["factor", "row", "number"]) (sc := (defScope s_row_times)) (by decide +kernel)) (by decide) (fun _ _ _ _ _ => (mgn 2 nd)) (fun _ _ _ _ _ => mts_nil) (fun _ _ _ _ _ => (me_call (ok_times T) (hr.mono (by decide)) hgd rfl T.g_times T.u_times.kp (b_times_binds T) rfl (ma_cons (mv 0) (ma_cons (mv 2) ma_nil)) (al_cons' (al_cons' al_nil'))))) ma_nil)))
  ms_nil)
theorem ok_row_times (T : Tx P w K mg base) : FnG P w K mg base 3 T.f_row_times T.d_row_times ["factor", "row"] (spM K 2 F_row_times) := (okr_row_times T).trim

theorem b_row_plus_binds (T : Tx P w K mg base) : Binds K T.d_row_plus ["first", "second"] [] := T.u_row_plus.binds (ps := ["first", "second"]) fun _ _ _ _ _ _ us hl => match us, hl with | [_, _], _ => rfl
theorem okr_row_plus (T : Tx P w K mg base) : FnG P w K mg base 3 T.f_row_plus T.d_row_plus ["first", "second"] (spM K 2 (fnM 4 b_row_plus)) := by
  have h0 := @fnG P w K mg base "row_plus" "row_plus" s_row_plus T.f_row_plus T.d_row_plus ["first", "second", "number", "other"] ["first", "second"] 2 b_row_plus T.u_row_plus sc_row_plus
  refine h0 fun cdv A outer s H E hr hgd => ?_
  have hu := hr.units
  have hu2 := hu66 hr
  have nd := sc_row_plus.nd
  unfold b_row_plus
  exact (ms_cons
  (ms_ret (me_callTy call_tuple_of opN_tuple rfl T.n_tuple (by decide +kernel) (ma_cons (me_lc (own := [("number", 2), ("other", 3)]) (tg := (.tp ((.nm 2) :: ((.nm 3) :: [])))) rfl nd (mi_zip rfl T.n_zip (ma_cons (mv 0) (ma_cons (mv 1) ma_nil))) (blkOk_by (N := ["first", "second", "number", "other"]) (sc := (defScope s_row_plus)) (by decide +kernel)) (by decide) (fun _ _ _ _ _ => (mg_tup rfl (mgs_cons (mgn 2 nd) (mgs_cons (mgn 3 nd) mgs_nil)))) (fun _ _ _ _ _ => mts_nil) (fun _ _ _ _ _ => (me_call (ok_plus T) (hr.mono (by decide)) hgd rfl T.g_plus T.u_plus.kp (b_plus_binds T) rfl (ma_cons (mv 2) (ma_cons (mv 3) ma_nil)) (al_cons' (al_cons' al_nil'))))) ma_nil)))
  ms_nil)
theorem ok_row_plus (T : Tx P w K mg base) : FnG P w K mg base 3 T.f_row_plus T.d_row_plus ["first", "second"] (spM K 2 F_row_plus) := (okr_row_plus T).trim

theorem b_row_less_binds (T : Tx P w K mg base) : Binds K T.d_row_less ["first", "factor", "second"] [] := T.u_row_less.binds (ps := ["first", "factor", "second"]) fun _ _ _ _ _ _ us hl => match us, hl with | [_, _, _], _ => rfl
theorem okr_row_less (T : Tx P w K mg base) : FnG P w K mg base 3 T.f_row_less T.d_row_less ["first", "factor", "second"] (spM K 3 (fnM 5 b_row_less)) := by
  have h0 := @fnG P w K mg base "row_less" "row_less" s_row_less T.f_row_less T.d_row_less ["first", "factor", "second", "number", "other"] ["first", "factor", "second"] 2 b_row_less T.u_row_less sc_row_less
  refine h0 fun cdv A outer s H E hr hgd => ?_
  have hu := hr.units
  have hu2 := hu66 hr
  have nd := sc_row_less.nd
  unfold b_row_less
  exact (ms_cons
  (ms_ret (me_callTy call_tuple_of opN_tuple rfl T.n_tuple (by decide +kernel) (ma_cons (me_lc (own := [("number", 3), ("other", 4)]) (tg := (.tp ((.nm 3) :: ((.nm 4) :: [])))) rfl nd (mi_zip rfl T.n_zip (ma_cons (mv 0) (ma_cons (mv 2) ma_nil))) (blkOk_by (N := ["first", "factor", "second", "number", "other"]) (sc := (defScope s_row_less)) (by decide +kernel)) (by decide) (fun _ _ _ _ _ => (mg_tup rfl (mgs_cons (mgn 3 nd) (mgs_cons (mgn 4 nd) mgs_nil)))) (fun _ _ _ _ _ => mts_nil) (fun _ _ _ _ _ => (me_call (ok_less_times T) (hr.mono (by decide)) hgd rfl T.g_less_times T.u_less_times.kp (b_less_times_binds T) rfl (ma_cons (mv 3) (ma_cons (mv 1) (ma_cons (mv 4) ma_nil))) (al_cons' (al_cons' (al_cons' al_nil')))))) ma_nil)))
  ms_nil)
theorem ok_row_less (T : Tx P w K mg base) : FnG P w K mg base 3 T.f_row_less T.d_row_less ["first", "factor", "second"] (spM K 3 F_row_less) := (okr_row_less T).trim

theorem b_unit_row_binds (T : Tx P w K mg base) : Binds K T.d_unit_row ["many", "place"] [] := T.u_unit_row.binds (ps := ["many", "place"]) fun _ _ _ _ _ _ us hl => match us, hl with | [_, _], _ => rfl
theorem okr_unit_row (T : Tx P w K mg base) : FnG P w K mg base 1 T.f_unit_row T.d_unit_row ["many", "place"] (spM K 2 (fnM 3 b_unit_row)) := by
  have h0 := @fnG P w K mg base "unit_row" "unit_row" s_unit_row T.f_unit_row T.d_unit_row ["many", "place", "at"] ["many", "place"] 0 b_unit_row T.u_unit_row sc_unit_row
  refine h0 fun cdv A outer s H E hr hgd => ?_
  have hu := hr.units
  have hu2 := hu66 hr
  have nd := sc_unit_row.nd
  unfold b_unit_row
  exact (ms_cons
  (ms_ret (me_callTy call_tuple_of opN_tuple rfl T.n_tuple (by decide +kernel) (ma_cons (me_lc (own := [("at", 2)]) (tg := (.nm 2)) rfl nd (mi_range1 rfl T.n_range (ma_cons (mv 0) ma_nil)) (blkOk_by (N := ["many", "place", "at"]) (sc := (defScope s_unit_row)) (by decide +kernel)) (by decide) (fun _ _ _ _ _ => (mgn 2 nd)) (fun _ _ _ _ _ => mts_nil) (fun _ _ _ _ _ => (me_if (mt_eq hu (mv 2) (mv 1)) (me_gpair T.g_ONE T.w_ONE rfl) (me_gpair T.g_NIL T.w_NIL rfl)))) ma_nil)))
  ms_nil)
theorem ok_unit_row (T : Tx P w K mg base) : FnG P w K mg base 1 T.f_unit_row T.d_unit_row ["many", "place"] (spM K 2 F_unit_row) := (okr_unit_row T).trim

theorem b_applied_binds (T : Tx P w K mg base) : Binds K T.d_applied ["table", "row"] [] := T.u_applied.binds (ps := ["table", "row"]) fun _ _ _ _ _ _ us hl => match us, hl with | [_, _], _ => rfl
theorem okr_applied (T : Tx P w K mg base) : FnG P w K mg base 3 T.f_applied T.d_applied ["table", "row"] (spM K 2 (fnM 3 b_applied)) := by
  have h0 := @fnG P w K mg base "applied" "applied" s_applied T.f_applied T.d_applied ["table", "row", "line"] ["table", "row"] 2 b_applied T.u_applied sc_applied
  refine h0 fun cdv A outer s H E hr hgd => ?_
  have hu := hr.units
  have hu2 := hu66 hr
  have nd := sc_applied.nd
  unfold b_applied
  exact (ms_cons
  (ms_ret (me_callTy call_tuple_of opN_tuple rfl T.n_tuple (by decide +kernel) (ma_cons (me_lc (own := [("line", 2)]) (tg := (.nm 2)) rfl nd (mi_seq (mv 0)) (blkOk_by (N := ["table", "row", "line"]) (sc := (defScope s_applied)) (by decide +kernel)) (by decide) (fun _ _ _ _ _ => (mgn 2 nd)) (fun _ _ _ _ _ => mts_nil) (fun _ _ _ _ _ => (me_call (ok_dot T) (hr.mono (by decide)) hgd rfl T.g_dot T.u_dot.kp (b_dot_binds T) rfl (ma_cons (mv 2) (ma_cons (mv 1) ma_nil)) (al_cons' (al_cons' al_nil'))))) ma_nil)))
  ms_nil)
theorem ok_applied (T : Tx P w K mg base) : FnG P w K mg base 3 T.f_applied T.d_applied ["table", "row"] (spM K 2 F_applied) := (okr_applied T).trim

theorem b_turned_over_binds (T : Tx P w K mg base) : Binds K T.d_turned_over ["table"] [] := T.u_turned_over.binds (ps := ["table"]) fun _ _ _ _ _ _ us hl => match us, hl with | [_], _ => rfl
theorem okr_turned_over (T : Tx P w K mg base) : FnG P w K mg base 1 T.f_turned_over T.d_turned_over ["table"] (spM K 1 (fnM 1 b_turned_over)) := by
  have h0 := @fnG P w K mg base "turned_over" "turned_over" s_turned_over T.f_turned_over T.d_turned_over ["table"] ["table"] 0 b_turned_over T.u_turned_over sc_turned_over
  refine h0 fun cdv A outer s H E hr hgd => ?_
  have hu := hr.units
  have hu2 := hu66 hr
  have nd := sc_turned_over.nd
  unfold b_turned_over
  exact (ms_cons
  (ms_ret (me_tzip rfl T.n_tuple T.n_zip (mv 0)))
  ms_nil)
theorem ok_turned_over (T : Tx P w K mg base) : FnG P w K mg base 1 T.f_turned_over T.d_turned_over ["table"] (spM K 1 F_turned_over) := (okr_turned_over T).trim

theorem b_worth_at_binds (T : Tx P w K mg base) : Binds K T.d_worth_at ["form", "row"] [] := T.u_worth_at.binds (ps := ["form", "row"]) fun _ _ _ _ _ _ us hl => match us, hl with | [_, _], _ => rfl
theorem okr_worth_at (T : Tx P w K mg base) : FnG P w K mg base 4 T.f_worth_at T.d_worth_at ["form", "row"] (spM K 2 (fnM 2 b_worth_at)) := by
  have h0 := @fnG P w K mg base "worth_at" "worth_at" s_worth_at T.f_worth_at T.d_worth_at ["form", "row"] ["form", "row"] 3 b_worth_at T.u_worth_at sc_worth_at
  refine h0 fun cdv A outer s H E hr hgd => ?_
  have hu := hr.units
  have hu2 := hu66 hr
  have nd := sc_worth_at.nd
  unfold b_worth_at
  exact (ms_cons
  (ms_ret (me_call (ok_dot T) (hr.mono (by decide)) hgd rfl T.g_dot T.u_dot.kp (b_dot_binds T) rfl (ma_cons (mv 1) (ma_cons (me_call (ok_applied T) (hr.mono (by decide)) hgd rfl T.g_applied T.u_applied.kp (b_applied_binds T) rfl (ma_cons (mv 0) (ma_cons (mv 1) ma_nil)) (al_cons' (al_cons' al_nil'))) ma_nil)) (al_cons' (al_cons' al_nil'))))
  ms_nil)
theorem ok_worth_at (T : Tx P w K mg base) : FnG P w K mg base 4 T.f_worth_at T.d_worth_at ["form", "row"] (spM K 2 F_worth_at) := (okr_worth_at T).trim

theorem b_pivot_binds (T : Tx P w K mg base) : Binds K T.d_pivot ["form", "places"] [] := T.u_pivot.binds (ps := ["form", "places"]) fun _ _ _ _ _ _ us hl => match us, hl with | [_, _], _ => rfl
theorem okr_pivot (T : Tx P w K mg base) : FnG P w K mg base 1 T.f_pivot T.d_pivot ["form", "places"] (spM K 2 (fnM 4 b_pivot)) := by
  have h0 := @fnG P w K mg base "pivot" "pivot" s_pivot T.f_pivot T.d_pivot ["form", "places", "at", "beside"] ["form", "places"] 0 b_pivot T.u_pivot sc_pivot
  refine h0 fun cdv A outer s H E hr hgd => ?_
  have hu := hr.units
  have hu2 := hu66 hr
  have nd := sc_pivot.nd
  unfold b_pivot
  exact (ms_cons
  (ms_for (tg := (.nm 2)) PassesOwn.never rfl (mi_seq (mv 1)) (mgn 2 nd) (ms_cons
  (ms_if (mt_ne hu (me_at (me_at (me_at (mv 0) (mv 2) (fun _ _ => rfl)) (mv 2) (fun _ _ => rfl)) me_int (fun _ _ => rfl)) me_int) (ms_cons
  (ms_ret (me_tup (ma_cons (mv 2) (ma_cons (mv 2) ma_nil))))
  ms_nil) ms_nil)
  ms_nil))
  (ms_cons
  (ms_for (tg := (.nm 2)) PassesOwn.never rfl (mi_seq (mv 1)) (mgn 2 nd) (ms_cons
  (ms_for (tg := (.nm 3)) PassesOwn.never rfl (mi_seq (mv 1)) (mgn 3 nd) (ms_cons
  (ms_if (mt_ne hu (me_at (me_at (me_at (mv 0) (mv 2) (fun _ _ => rfl)) (mv 3) (fun _ _ => rfl)) me_int (fun _ _ => rfl)) me_int) (ms_cons
  (ms_ret (me_tup (ma_cons (mv 2) (ma_cons (mv 3) ma_nil))))
  ms_nil) ms_nil)
  ms_nil))
  ms_nil))
  (ms_cons
  (ms_ret me_non)
  ms_nil)))
theorem ok_pivot (T : Tx P w K mg base) : FnG P w K mg base 1 T.f_pivot T.d_pivot ["form", "places"] (spM K 2 F_pivot) := (okr_pivot T).trim

theorem b_pivot_squares_binds (T : Tx P w K mg base) : Binds K T.d_pivot_squares ["form", "at", "beside"] [] := T.u_pivot_squares.binds (ps := ["form", "at", "beside"]) fun _ _ _ _ _ _ us hl => match us, hl with | [_, _, _], _ => rfl
theorem okr_pivot_squares (T : Tx P w K mg base) : FnG P w K mg base 4 T.f_pivot_squares T.d_pivot_squares ["form", "at", "beside"] (spM K 3 (fnM 5 b_pivot_squares)) := by
  have h0 := @fnG P w K mg base "pivot_squares" "pivot_squares" s_pivot_squares T.f_pivot_squares T.d_pivot_squares ["form", "at", "beside", "part", "half"] ["form", "at", "beside"] 3 b_pivot_squares T.u_pivot_squares sc_pivot_squares
  refine h0 fun cdv A outer s H E hr hgd => ?_
  have hu := hr.units
  have hu2 := hu66 hr
  have nd := sc_pivot_squares.nd
  unfold b_pivot_squares
  exact (ms_cons
  (mset 3 nd (me_at (me_at (mv 0) (mv 1) (fun _ _ => rfl)) (mv 2) (fun _ _ => rfl)))
  (ms_cons
  (ms_if (mt_eq hu (mv 1) (mv 2)) (ms_cons
  (ms_ret (me_fl (ma_cons (me_tup (ma_cons (mv 3) (ma_cons (me_call (ok_row_times T) (hr.mono (by decide)) hgd rfl T.g_row_times T.u_row_times.kp (b_row_times_binds T) rfl (ma_cons (me_call (ok_over T) (hr.mono (by decide)) hgd rfl T.g_over T.u_over.kp (b_over_binds T) rfl (ma_cons (me_gpair T.g_ONE T.w_ONE rfl) (ma_cons (mv 3) ma_nil)) (al_cons' (al_cons' al_nil'))) (ma_cons (me_at (mv 0) (mv 1) (fun _ _ => rfl)) ma_nil)) (al_cons' (al_cons' al_nil'))) ma_nil))) ma_nil)))
  ms_nil) ms_nil)
  (ms_cons
  (mset 4 nd (me_call (ok_over T) (hr.mono (by decide)) hgd rfl T.g_over T.u_over.kp (b_over_binds T) rfl (ma_cons (me_gpair T.g_ONE T.w_ONE rfl) (ma_cons (me_call (ok_times T) (hr.mono (by decide)) hgd rfl T.g_times T.u_times.kp (b_times_binds T) rfl (ma_cons (me_tup (ma_cons me_int (ma_cons me_int ma_nil))) (ma_cons (mv 3) ma_nil)) (al_cons' (al_cons' al_nil'))) ma_nil)) (al_cons' (al_cons' al_nil'))))
  (ms_cons
  (ms_ret (me_fl (ma_cons (me_tup (ma_cons (mv 4) (ma_cons (me_call (ok_row_plus T) (hr.mono (by decide)) hgd rfl T.g_row_plus T.u_row_plus.kp (b_row_plus_binds T) rfl (ma_cons (me_at (mv 0) (mv 1) (fun _ _ => rfl)) (ma_cons (me_at (mv 0) (mv 2) (fun _ _ => rfl)) ma_nil)) (al_cons' (al_cons' al_nil'))) ma_nil))) (ma_cons (me_tup (ma_cons (me_call (ok_minus T) (hr.mono (by decide)) hgd rfl T.g_minus T.u_minus.kp (b_minus_binds T) rfl (ma_cons (me_gpair T.g_NIL T.w_NIL rfl) (ma_cons (mv 4) ma_nil)) (al_cons' (al_cons' al_nil'))) (ma_cons (me_call (ok_row_less T) (hr.mono (by decide)) hgd rfl T.g_row_less T.u_row_less.kp (b_row_less_binds T) rfl (ma_cons (me_at (mv 0) (mv 1) (fun _ _ => rfl)) (ma_cons (me_gpair T.g_ONE T.w_ONE rfl) (ma_cons (me_at (mv 0) (mv 2) (fun _ _ => rfl)) ma_nil))) (al_cons' (al_cons' (al_cons' al_nil')))) ma_nil))) ma_nil))))
  ms_nil))))
theorem ok_pivot_squares (T : Tx P w K mg base) : FnG P w K mg base 4 T.f_pivot_squares T.d_pivot_squares ["form", "at", "beside"] (spM K 3 F_pivot_squares) := (okr_pivot_squares T).trim

theorem b_less_square_binds (T : Tx P w K mg base) : Binds K T.d_less_square ["form", "square"] [] := T.u_less_square.binds (ps := ["form", "square"]) fun _ _ _ _ _ _ us hl => match us, hl with | [_, _], _ => rfl
theorem okr_less_square (T : Tx P w K mg base) : FnG P w K mg base 4 T.f_less_square T.d_less_square ["form", "square"] (spM K 2 (fnM 6 b_less_square)) := by
  have h0 := @fnG P w K mg base "less_square" "less_square" s_less_square T.f_less_square T.d_less_square ["form", "square", "part", "row", "line", "number"] ["form", "square"] 3 b_less_square T.u_less_square sc_less_square
  refine h0 fun cdv A outer s H E hr hgd => ?_
  have hu := hr.units
  have hu2 := hu66 hr
  have nd := sc_less_square.nd
  unfold b_less_square
  exact (ms_cons
  (ms_asg (tg := (.tp ((.nm 2) :: ((.nm 3) :: [])))) (mv 1) (mg_tup rfl (mgs_cons (mgn 2 nd) (mgs_cons (mgn 3 nd) mgs_nil))))
  (ms_cons
  (ms_ret (me_callTy call_tuple_of opN_tuple rfl T.n_tuple (by decide +kernel) (ma_cons (me_lc (own := [("line", 4), ("number", 5)]) (tg := (.tp ((.nm 4) :: ((.nm 5) :: [])))) rfl nd (mi_zip rfl T.n_zip (ma_cons (mv 0) (ma_cons (mv 3) ma_nil))) (blkOk_by (N := ["form", "square", "part", "row", "line", "number"]) (sc := (defScope s_less_square)) (by decide +kernel)) (by decide) (fun _ _ _ _ _ => (mg_tup rfl (mgs_cons (mgn 4 nd) (mgs_cons (mgn 5 nd) mgs_nil)))) (fun _ _ _ _ _ => mts_nil) (fun _ _ _ _ _ => (me_call (ok_row_less T) (hr.mono (by decide)) hgd rfl T.g_row_less T.u_row_less.kp (b_row_less_binds T) rfl (ma_cons (mv 4) (ma_cons (me_call (ok_times T) (hr.mono (by decide)) hgd rfl T.g_times T.u_times.kp (b_times_binds T) rfl (ma_cons (mv 2) (ma_cons (mv 5) ma_nil)) (al_cons' (al_cons' al_nil'))) (ma_cons (mv 3) ma_nil))) (al_cons' (al_cons' (al_cons' al_nil')))))) ma_nil)))
  ms_nil))
theorem ok_less_square (T : Tx P w K mg base) : FnG P w K mg base 4 T.f_less_square T.d_less_square ["form", "square"] (spM K 2 F_less_square) := (okr_less_square T).trim

theorem b_squares_of_binds (T : Tx P w K mg base) : Binds K T.d_squares_of ["form"] [] := T.u_squares_of.binds (ps := ["form"]) fun _ _ _ _ _ _ us hl => match us, hl with | [_], _ => rfl
theorem okr_squares_of (T : Tx P w K mg base) : FnG P w K mg base 5 T.f_squares_of T.d_squares_of ["form"] (spM K 1 (fnM 7 b_squares_of)) := by
  have h0 := @fnG P w K mg base "squares_of" "squares_of" s_squares_of T.f_squares_of T.d_squares_of ["form", "found", "places", "pair", "squares", "square", "place"] ["form"] 4 b_squares_of T.u_squares_of sc_squares_of
  refine h0 fun cdv A outer s H E hr hgd => ?_
  have hu := hr.units
  have hu2 := hu66 hr
  have nd := sc_squares_of.nd
  unfold b_squares_of
  exact (ms_cons
  (ms_par (i := 1) (j := 2) rfl nd rfl rfl (by decide) rfl rfl (ma_cons (me_fl ma_nil) (ma_cons (me_lrange rfl T.n_list T.n_range (me_callB call_len_seq opN_len rfl T.n_len PySem.boot_len (ma_cons (mv 0) ma_nil))) ma_nil)) rfl)
  (ms_cons
  (ms_while PassesOwn.never (mt_truA (mv 2)) (ms_cons
  (mset 3 nd (me_call (ok_pivot T) (hr.mono (by decide)) hgd rfl T.g_pivot T.u_pivot.kp (b_pivot_binds T) rfl (ma_cons (mv 0) (ma_cons (mv 2) ma_nil)) (al_cons' (al_cons' al_nil'))))
  (ms_cons
  (ms_if (mt_isN (mv 3)) (ms_cons
  (ms_ret (me_add (mv 1) (me_lc (own := [("place", 6)]) (tg := (.nm 6)) rfl nd (mi_seq (mv 2)) (blkOk_by (N := ["form", "found", "places", "pair", "squares", "square", "place"]) (sc := (defScope s_squares_of)) (by decide +kernel)) (by decide) (fun _ _ _ _ _ => (mgn 6 nd)) (fun _ _ _ _ _ => mts_nil) (fun _ _ _ _ _ => (me_tup (ma_cons (me_gpair T.g_NIL T.w_NIL rfl) (ma_cons (me_call (ok_unit_row T) (hr.mono (by decide)) hgd rfl T.g_unit_row T.u_unit_row.kp (b_unit_row_binds T) rfl (ma_cons (me_callB call_len_seq opN_len rfl T.n_len PySem.boot_len (ma_cons (mv 0) ma_nil)) (ma_cons (mv 6) ma_nil)) (al_cons' (al_cons' al_nil'))) ma_nil)))))))
  ms_nil) ms_nil)
  (ms_cons
  (mset 4 nd (me_call (ok_pivot_squares T) (hr.mono (by decide)) hgd rfl T.g_pivot_squares T.u_pivot_squares.kp (b_pivot_squares_binds T) rfl (ma_cons (mv 0) (ma_cons (me_at (mv 3) me_int (fun _ _ => rfl)) (ma_cons (me_at (mv 3) me_int (fun _ _ => rfl)) ma_nil))) (al_cons' (al_cons' (al_cons' al_nil')))))
  (ms_cons
  (ms_for (tg := (.nm 5)) PassesOwn.never rfl (mi_seq (mv 4)) (mgn 5 nd) (ms_cons
  (mset 0 nd (me_call (ok_less_square T) (hr.mono (by decide)) hgd rfl T.g_less_square T.u_less_square.kp (b_less_square_binds T) rfl (ma_cons (mv 0) (ma_cons (mv 5) ma_nil)) (al_cons' (al_cons' al_nil'))))
  ms_nil))
  (ms_cons
  (mset 1 nd (me_add (mv 1) (mv 4)))
  (ms_cons
  (ms_setLc (i := 2) (own := [("place", 6)]) (tg := (.nm 6)) rfl nd rfl rfl (sw_true rfl rfl rfl (by decide +kernel)) (mi_seq (mv 2)) (blkOk_by (N := ["form", "found", "places", "pair", "squares", "square", "place"]) (sc := (defScope s_squares_of)) (by decide +kernel)) (by decide) (fun _ _ _ _ _ => (mgn 6 nd)) (fun _ _ _ _ _ => (mts_one (mt_notIn (mv 6) (mv 3)))) (fun _ _ _ _ _ => (mv 6)))
  ms_nil)))))))
  (ms_cons
  (ms_ret (mv 1))
  ms_nil)))
theorem ok_squares_of (T : Tx P w K mg base) : FnG P w K mg base 5 T.f_squares_of T.d_squares_of ["form"] (spM K 1 F_squares_of) := (okr_squares_of T).trim

theorem b_signs_of_binds (T : Tx P w K mg base) : Binds K T.d_signs_of ["form"] [] := T.u_signs_of.binds (ps := ["form"]) fun _ _ _ _ _ _ us hl => match us, hl with | [_], _ => rfl
theorem okr_signs_of (T : Tx P w K mg base) : FnG P w K mg base 6 T.f_signs_of T.d_signs_of ["form"] (spM K 1 (fnM 7 b_signs_of)) := by
  have h0 := @fnG P w K mg base "signs_of" "signs_of" s_signs_of T.f_signs_of T.d_signs_of ["form", "tops", "above", "nought", "part", "_", "top"] ["form"] 5 b_signs_of T.u_signs_of sc_signs_of
  refine h0 fun cdv A outer s H E hr hgd => ?_
  have hu := hr.units
  have hu2 := hu66 hr
  have nd := sc_signs_of.nd
  unfold b_signs_of
  exact (ms_cons
  (ms_setLc (i := 1) (own := [("part", 4), ("_", 5)]) (tg := (.tp ((.nm 4) :: ((.nm 5) :: [])))) rfl nd rfl rfl (sw_true rfl rfl rfl (by decide +kernel)) (mi_seq (me_call (ok_squares_of T) (hr.mono (by decide)) hgd rfl T.g_squares_of T.u_squares_of.kp (b_squares_of_binds T) rfl (ma_cons (mv 0) ma_nil) (al_cons' al_nil'))) (blkOk_by (N := ["form", "tops", "above", "nought", "part", "_", "top"]) (sc := (defScope s_signs_of)) (by decide +kernel)) (by decide) (fun _ _ _ _ _ => (mg_tup rfl (mgs_cons (mgn 4 nd) (mgs_cons (mgn 5 nd) mgs_nil)))) (fun _ _ _ _ _ => mts_nil) (fun _ _ _ _ _ => (me_at (mv 4) me_int (fun _ _ => rfl))))
  (ms_cons
  (mset 2 nd (me_callB call_len_seq opN_len rfl T.n_len PySem.boot_len (ma_cons (me_lc (own := [("top", 6)]) (tg := (.nm 6)) rfl nd (mi_seq (mv 1)) (blkOk_by (N := ["form", "tops", "above", "nought", "part", "_", "top"]) (sc := (defScope s_signs_of)) (by decide +kernel)) (by decide) (fun _ _ _ _ _ => (mgn 6 nd)) (fun _ _ _ _ _ => (mts_one (mt_gt (mv 6) me_int))) (fun _ _ _ _ _ => (mv 6))) ma_nil)))
  (ms_cons
  (mset 3 nd (me_callB call_len_seq opN_len rfl T.n_len PySem.boot_len (ma_cons (me_lc (own := [("top", 6)]) (tg := (.nm 6)) rfl nd (mi_seq (mv 1)) (blkOk_by (N := ["form", "tops", "above", "nought", "part", "_", "top"]) (sc := (defScope s_signs_of)) (by decide +kernel)) (by decide) (fun _ _ _ _ _ => (mgn 6 nd)) (fun _ _ _ _ _ => (mts_one (mt_eq hu (mv 6) me_int))) (fun _ _ _ _ _ => (mv 6))) ma_nil)))
  (ms_cons
  (ms_ret (me_tup (ma_cons (mv 2) (ma_cons (mv 3) (ma_cons (me_sub (me_sub (me_callB call_len_seq opN_len rfl T.n_len PySem.boot_len (ma_cons (mv 1) ma_nil)) (mv 2)) (mv 3)) ma_nil)))))
  ms_nil))))
theorem ok_signs_of (T : Tx P w K mg base) : FnG P w K mg base 6 T.f_signs_of T.d_signs_of ["form"] (spM K 1 F_signs_of) := (okr_signs_of T).trim

theorem b_is_positive_binds (T : Tx P w K mg base) : Binds K T.d_is_positive ["form"] [] := T.u_is_positive.binds (ps := ["form"]) fun _ _ _ _ _ _ us hl => match us, hl with | [_], _ => rfl
theorem okr_is_positive (T : Tx P w K mg base) : FnG P w K mg base 7 T.f_is_positive T.d_is_positive ["form"] (spM K 1 (fnM 1 b_is_positive)) := by
  have h0 := @fnG P w K mg base "is_positive" "is_positive" s_is_positive T.f_is_positive T.d_is_positive ["form"] ["form"] 6 b_is_positive T.u_is_positive sc_is_positive
  refine h0 fun cdv A outer s H E hr hgd => ?_
  have hu := hr.units
  have hu2 := hu66 hr
  have nd := sc_is_positive.nd
  unfold b_is_positive
  exact (ms_cons
  (ms_ret (me_eq hu (me_at (me_call (ok_signs_of T) (hr.mono (by decide)) hgd rfl T.g_signs_of T.u_signs_of.kp (b_signs_of_binds T) rfl (ma_cons (mv 0) ma_nil) (al_cons' al_nil')) me_int (fun _ _ => rfl)) (me_callB call_len_seq opN_len rfl T.n_len PySem.boot_len (ma_cons (mv 0) ma_nil))))
  ms_nil)
theorem ok_is_positive (T : Tx P w K mg base) : FnG P w K mg base 7 T.f_is_positive T.d_is_positive ["form"] (spM K 1 F_is_positive) := (okr_is_positive T).trim

theorem b_is_tuple_binds (T : Tx P w K mg base) : Binds K T.d_is_tuple ["value"] [] := T.u_is_tuple.binds (ps := ["value"]) fun _ _ _ _ _ _ us hl => match us, hl with | [_], _ => rfl
theorem okr_is_tuple (T : Tx P w K mg base) : FnG P w K mg base 1 T.f_is_tuple T.d_is_tuple ["value"] (spM K 1 (fnM 1 b_is_tuple)) := by
  have h0 := @fnG P w K mg base "is_tuple" "is_tuple" s_is_tuple T.f_is_tuple T.d_is_tuple ["value"] ["value"] 0 b_is_tuple T.u_is_tuple sc_is_tuple
  refine h0 fun cdv A outer s H E hr hgd => ?_
  have hu := hr.units
  have hu2 := hu66 hr
  have nd := sc_is_tuple.nd
  unfold b_is_tuple
  exact (ms_cons
  (ms_ret (me_tyD (T := "tuple") (by simp) rfl T.n_type rfl T.n_tuple (by first | rfl | decide +kernel) (mv 0)))
  ms_nil)
theorem ok_is_tuple (T : Tx P w K mg base) : FnG P w K mg base 1 T.f_is_tuple T.d_is_tuple ["value"] (spM K 1 F_is_tuple) := (okr_is_tuple T).trim

theorem b_is_whole_number_binds (T : Tx P w K mg base) : Binds K T.d_is_whole_number ["value"] [] := T.u_is_whole_number.binds (ps := ["value"]) fun _ _ _ _ _ _ us hl => match us, hl with | [_], _ => rfl
theorem okr_is_whole_number (T : Tx P w K mg base) : FnG P w K mg base 1 T.f_is_whole_number T.d_is_whole_number ["value"] (spM K 1 (fnM 1 b_is_whole_number)) := by
  have h0 := @fnG P w K mg base "is_whole_number" "is_whole_number" s_is_whole_number T.f_is_whole_number T.d_is_whole_number ["value"] ["value"] 0 b_is_whole_number T.u_is_whole_number sc_is_whole_number
  refine h0 fun cdv A outer s H E hr hgd => ?_
  have hu := hr.units
  have hu2 := hu66 hr
  have nd := sc_is_whole_number.nd
  unfold b_is_whole_number
  exact (ms_cons
  (ms_ret (me_tyD (T := "int") (by simp) rfl T.n_type rfl T.n_int (by first | rfl | decide +kernel) (mv 0)))
  ms_nil)
theorem ok_is_whole_number (T : Tx P w K mg base) : FnG P w K mg base 1 T.f_is_whole_number T.d_is_whole_number ["value"] (spM K 1 F_is_whole_number) := (okr_is_whole_number T).trim

theorem b_is_pair_binds (T : Tx P w K mg base) : Binds K T.d_is_pair ["value"] [] := T.u_is_pair.binds (ps := ["value"]) fun _ _ _ _ _ _ us hl => match us, hl with | [_], _ => rfl
theorem okr_is_pair (T : Tx P w K mg base) : FnG P w K mg base 2 T.f_is_pair T.d_is_pair ["value"] (spM K 1 (fnM 1 b_is_pair)) := by
  have h0 := @fnG P w K mg base "is_pair" "is_pair" s_is_pair T.f_is_pair T.d_is_pair ["value"] ["value"] 1 b_is_pair T.u_is_pair sc_is_pair
  refine h0 fun cdv A outer s H E hr hgd => ?_
  have hu := hr.units
  have hu2 := hu66 hr
  have nd := sc_is_pair.nd
  unfold b_is_pair
  exact (ms_cons
  (ms_ret (me_and (me_call (ok_is_tuple T) (hr.mono (by decide)) hgd rfl T.g_is_tuple T.u_is_tuple.kp (b_is_tuple_binds T) rfl (ma_cons (mv 0) ma_nil) (al_cons' al_nil')) (me_one (me_eq hu (me_callB call_len_seq opN_len rfl T.n_len PySem.boot_len (ma_cons (mv 0) ma_nil)) me_int))))
  ms_nil)
theorem ok_is_pair (T : Tx P w K mg base) : FnG P w K mg base 2 T.f_is_pair T.d_is_pair ["value"] (spM K 1 F_is_pair) := (okr_is_pair T).trim

theorem b_is_fraction_binds (T : Tx P w K mg base) : Binds K T.d_is_fraction ["value"] [] := T.u_is_fraction.binds (ps := ["value"]) fun _ _ _ _ _ _ us hl => match us, hl with | [_], _ => rfl
theorem okr_is_fraction (T : Tx P w K mg base) : FnG P w K mg base 3 T.f_is_fraction T.d_is_fraction ["value"] (spM K 1 (fnM 3 b_is_fraction)) := by
  have h0 := @fnG P w K mg base "is_fraction" "is_fraction" s_is_fraction T.f_is_fraction T.d_is_fraction ["value", "top", "low"] ["value"] 2 b_is_fraction T.u_is_fraction sc_is_fraction
  refine h0 fun cdv A outer s H E hr hgd => ?_
  have hu := hr.units
  have hu2 := hu66 hr
  have nd := sc_is_fraction.nd
  unfold b_is_fraction
  exact (ms_cons
  (ms_if (mt_not (mt_val (me_call (ok_is_pair T) (hr.mono (by decide)) hgd rfl T.g_is_pair T.u_is_pair.kp (b_is_pair_binds T) rfl (ma_cons (mv 0) ma_nil) (al_cons' al_nil')))) (ms_cons
  (ms_ret me_bl)
  ms_nil) ms_nil)
  (ms_cons
  (ms_asg (tg := (.tp ((.nm 1) :: ((.nm 2) :: [])))) (mv 0) (mg_tup rfl (mgs_cons (mgn 1 nd) (mgs_cons (mgn 2 nd) mgs_nil))))
  (ms_cons
  (ms_ret (me_and (me_call (ok_is_whole_number T) (hr.mono (by decide)) hgd rfl T.g_is_whole_number T.u_is_whole_number.kp (b_is_whole_number_binds T) rfl (ma_cons (mv 1) ma_nil) (al_cons' al_nil')) (me_and (me_call (ok_is_whole_number T) (hr.mono (by decide)) hgd rfl T.g_is_whole_number T.u_is_whole_number.kp (b_is_whole_number_binds T) rfl (ma_cons (mv 2) ma_nil) (al_cons' al_nil')) (me_and (me_gt (mv 2) me_int) (me_one (me_eq hu (me_callG cr_gcd opN_gcd rfl T.g_gcd (ma_cons (mv 1) (ma_cons (mv 2) ma_nil))) me_int))))))
  ms_nil)))
theorem ok_is_fraction (T : Tx P w K mg base) : FnG P w K mg base 3 T.f_is_fraction T.d_is_fraction ["value"] (spM K 1 F_is_fraction) := (okr_is_fraction T).trim

theorem b_is_row_binds (T : Tx P w K mg base) : Binds K T.d_is_row ["value", "many"] [] := T.u_is_row.binds (ps := ["value", "many"]) fun _ _ _ _ _ _ us hl => match us, hl with | [_, _], _ => rfl
theorem okr_is_row (T : Tx P w K mg base) : FnG P w K mg base 4 T.f_is_row T.d_is_row ["value", "many"] (spM K 2 (fnM 3 b_is_row)) := by
  have h0 := @fnG P w K mg base "is_row" "is_row" s_is_row T.f_is_row T.d_is_row ["value", "many", "number"] ["value", "many"] 3 b_is_row T.u_is_row sc_is_row
  refine h0 fun cdv A outer s H E hr hgd => ?_
  have hu := hr.units
  have hu2 := hu66 hr
  have nd := sc_is_row.nd
  unfold b_is_row
  exact (ms_cons
  (ms_ret (me_and (me_call (ok_is_tuple T) (hr.mono (by decide)) hgd rfl T.g_is_tuple T.u_is_tuple.kp (b_is_tuple_binds T) rfl (ma_cons (mv 0) ma_nil) (al_cons' al_nil')) (me_and (me_eq hu (me_callB call_len_seq opN_len rfl T.n_len PySem.boot_len (ma_cons (mv 0) ma_nil)) (mv 1)) (me_one (me_callB (cr_all rfl) opN_all rfl T.n_all (by decide +kernel) (ma_cons (me_lc (own := [("number", 2)]) (tg := (.nm 2)) rfl nd (mi_seq (mv 0)) (blkOk_by (N := ["value", "many", "number"]) (sc := (defScope s_is_row)) (by decide +kernel)) (by decide) (fun _ _ _ _ _ => (mgn 2 nd)) (fun _ _ _ _ _ => mts_nil) (fun _ _ _ _ _ => (me_call (ok_is_fraction T) (hr.mono (by decide)) hgd rfl T.g_is_fraction T.u_is_fraction.kp (b_is_fraction_binds T) rfl (ma_cons (mv 2) ma_nil) (al_cons' al_nil')))) ma_nil))))))
  ms_nil)
theorem ok_is_row (T : Tx P w K mg base) : FnG P w K mg base 4 T.f_is_row T.d_is_row ["value", "many"] (spM K 2 F_is_row) := (okr_is_row T).trim

theorem b_is_table_of_binds (T : Tx P w K mg base) : Binds K T.d_is_table_of ["value", "many"] [] := T.u_is_table_of.binds (ps := ["value", "many"]) fun _ _ _ _ _ _ us hl => match us, hl with | [_, _], _ => rfl
theorem okr_is_table_of (T : Tx P w K mg base) : FnG P w K mg base 5 T.f_is_table_of T.d_is_table_of ["value", "many"] (spM K 2 (fnM 3 b_is_table_of)) := by
  have h0 := @fnG P w K mg base "is_table_of" "is_table_of" s_is_table_of T.f_is_table_of T.d_is_table_of ["value", "many", "row"] ["value", "many"] 4 b_is_table_of T.u_is_table_of sc_is_table_of
  refine h0 fun cdv A outer s H E hr hgd => ?_
  have hu := hr.units
  have hu2 := hu66 hr
  have nd := sc_is_table_of.nd
  unfold b_is_table_of
  exact (ms_cons
  (ms_ret (me_and (me_call (ok_is_tuple T) (hr.mono (by decide)) hgd rfl T.g_is_tuple T.u_is_tuple.kp (b_is_tuple_binds T) rfl (ma_cons (mv 0) ma_nil) (al_cons' al_nil')) (me_and (me_eq hu (me_callB call_len_seq opN_len rfl T.n_len PySem.boot_len (ma_cons (mv 0) ma_nil)) (mv 1)) (me_one (me_callB (cr_all rfl) opN_all rfl T.n_all (by decide +kernel) (ma_cons (me_lc (own := [("row", 2)]) (tg := (.nm 2)) rfl nd (mi_seq (mv 0)) (blkOk_by (N := ["value", "many", "row"]) (sc := (defScope s_is_table_of)) (by decide +kernel)) (by decide) (fun _ _ _ _ _ => (mgn 2 nd)) (fun _ _ _ _ _ => mts_nil) (fun _ _ _ _ _ => (me_call (ok_is_row T) (hr.mono (by decide)) hgd rfl T.g_is_row T.u_is_row.kp (b_is_row_binds T) rfl (ma_cons (mv 2) (ma_cons (mv 1) ma_nil)) (al_cons' (al_cons' al_nil'))))) ma_nil))))))
  ms_nil)
theorem ok_is_table_of (T : Tx P w K mg base) : FnG P w K mg base 5 T.f_is_table_of T.d_is_table_of ["value", "many"] (spM K 2 F_is_table_of) := (okr_is_table_of T).trim

theorem b_is_any_table_binds (T : Tx P w K mg base) : Binds K T.d_is_any_table ["value"] [] := T.u_is_any_table.binds (ps := ["value"]) fun _ _ _ _ _ _ us hl => match us, hl with | [_], _ => rfl
theorem okr_is_any_table (T : Tx P w K mg base) : FnG P w K mg base 6 T.f_is_any_table T.d_is_any_table ["value"] (spM K 1 (fnM 1 b_is_any_table)) := by
  have h0 := @fnG P w K mg base "is_any_table" "is_any_table" s_is_any_table T.f_is_any_table T.d_is_any_table ["value"] ["value"] 5 b_is_any_table T.u_is_any_table sc_is_any_table
  refine h0 fun cdv A outer s H E hr hgd => ?_
  have hu := hr.units
  have hu2 := hu66 hr
  have nd := sc_is_any_table.nd
  unfold b_is_any_table
  exact (ms_cons
  (ms_ret (me_and (me_call (ok_is_tuple T) (hr.mono (by decide)) hgd rfl T.g_is_tuple T.u_is_tuple.kp (b_is_tuple_binds T) rfl (ma_cons (mv 0) ma_nil) (al_cons' al_nil')) (me_and (me_chain op_leI op_leI op2_B op2_B me_int (me_callB call_len_seq opN_len rfl T.n_len PySem.boot_len (ma_cons (mv 0) ma_nil)) (me_gint T.g_MOST_ROWS rfl)) (me_one (me_call (ok_is_table_of T) (hr.mono (by decide)) hgd rfl T.g_is_table_of T.u_is_table_of.kp (b_is_table_of_binds T) rfl (ma_cons (mv 0) (ma_cons (me_callB call_len_seq opN_len rfl T.n_len PySem.boot_len (ma_cons (mv 0) ma_nil)) ma_nil)) (al_cons' (al_cons' al_nil')))))))
  ms_nil)
theorem ok_is_any_table (T : Tx P w K mg base) : FnG P w K mg base 6 T.f_is_any_table T.d_is_any_table ["value"] (spM K 1 F_is_any_table) := (okr_is_any_table T).trim

theorem b_is_form_binds (T : Tx P w K mg base) : Binds K T.d_is_form ["value"] [] := T.u_is_form.binds (ps := ["value"]) fun _ _ _ _ _ _ us hl => match us, hl with | [_], _ => rfl
theorem okr_is_form (T : Tx P w K mg base) : FnG P w K mg base 7 T.f_is_form T.d_is_form ["value"] (spM K 1 (fnM 1 b_is_form)) := by
  have h0 := @fnG P w K mg base "is_form" "is_form" s_is_form T.f_is_form T.d_is_form ["value"] ["value"] 6 b_is_form T.u_is_form sc_is_form
  refine h0 fun cdv A outer s H E hr hgd => ?_
  have hu := hr.units
  have hu2 := hu66 hr
  have nd := sc_is_form.nd
  unfold b_is_form
  exact (ms_cons
  (ms_ret (me_and (me_call (ok_is_any_table T) (hr.mono (by decide)) hgd rfl T.g_is_any_table T.u_is_any_table.kp (b_is_any_table_binds T) rfl (ma_cons (mv 0) ma_nil) (al_cons' al_nil')) (me_one (me_eq hu (mv 0) (me_call (ok_turned_over T) (hr.mono (by decide)) hgd rfl T.g_turned_over T.u_turned_over.kp (b_turned_over_binds T) rfl (ma_cons (mv 0) ma_nil) (al_cons' al_nil'))))))
  ms_nil)
theorem ok_is_form (T : Tx P w K mg base) : FnG P w K mg base 7 T.f_is_form T.d_is_form ["value"] (spM K 1 F_is_form) := (okr_is_form T).trim

theorem b_is_positive_table_binds (T : Tx P w K mg base) : Binds K T.d_is_positive_table ["value"] [] := T.u_is_positive_table.binds (ps := ["value"]) fun _ _ _ _ _ _ us hl => match us, hl with | [_], _ => rfl
theorem okr_is_positive_table (T : Tx P w K mg base) : FnG P w K mg base 8 T.f_is_positive_table T.d_is_positive_table ["value"] (spM K 1 (fnM 1 b_is_positive_table)) := by
  have h0 := @fnG P w K mg base "is_positive_table" "is_positive_table" s_is_positive_table T.f_is_positive_table T.d_is_positive_table ["value"] ["value"] 7 b_is_positive_table T.u_is_positive_table sc_is_positive_table
  refine h0 fun cdv A outer s H E hr hgd => ?_
  have hu := hr.units
  have hu2 := hu66 hr
  have nd := sc_is_positive_table.nd
  unfold b_is_positive_table
  exact (ms_cons
  (ms_ret (me_and (me_call (ok_is_form T) (hr.mono (by decide)) hgd rfl T.g_is_form T.u_is_form.kp (b_is_form_binds T) rfl (ma_cons (mv 0) ma_nil) (al_cons' al_nil')) (me_one (me_call (ok_is_positive T) (hr.mono (by decide)) hgd rfl T.g_is_positive T.u_is_positive.kp (b_is_positive_binds T) rfl (ma_cons (mv 0) ma_nil) (al_cons' al_nil')))))
  ms_nil)
theorem ok_is_positive_table (T : Tx P w K mg base) : FnG P w K mg base 8 T.f_is_positive_table T.d_is_positive_table ["value"] (spM K 1 F_is_positive_table) := (okr_is_positive_table T).trim

theorem b_check_form_binds (T : Tx P w K mg base) : Binds K T.d_check_form ["value"] [] := T.u_check_form.binds (ps := ["value"]) fun _ _ _ _ _ _ us hl => match us, hl with | [_], _ => rfl
theorem okr_check_form (T : Tx P w K mg base) : FnG P w K mg base 8 T.f_check_form T.d_check_form ["value"] (spM K 1 (fnM 1 b_check_form)) := by
  have h0 := @fnG P w K mg base "check_form" "check_form" s_check_form T.f_check_form T.d_check_form ["value"] ["value"] 7 b_check_form T.u_check_form sc_check_form
  refine h0 fun cdv A outer s H E hr hgd => ?_
  have hu := hr.units
  have hu2 := hu66 hr
  have nd := sc_check_form.nd
  unfold b_check_form
  exact (ms_cons
  (ms_if (mt_not (mt_val (me_call (ok_is_form T) (hr.mono (by decide)) hgd rfl T.g_is_form T.u_is_form.kp (b_is_form_binds T) rfl (ma_cons (mv 0) ma_nil) (al_cons' al_nil')))) (ms_cons
  ms_no
  ms_nil) ms_nil)
  ms_nil)
theorem ok_check_form (T : Tx P w K mg base) : FnG P w K mg base 8 T.f_check_form T.d_check_form ["value"] (spM K 1 F_check_form) := (okr_check_form T).trim

theorem b_check_table_binds (T : Tx P w K mg base) : Binds K T.d_check_table ["value"] [] := T.u_check_table.binds (ps := ["value"]) fun _ _ _ _ _ _ us hl => match us, hl with | [_], _ => rfl
theorem okr_check_table (T : Tx P w K mg base) : FnG P w K mg base 9 T.f_check_table T.d_check_table ["value"] (spM K 1 (fnM 1 b_check_table)) := by
  have h0 := @fnG P w K mg base "check_table" "check_table" s_check_table T.f_check_table T.d_check_table ["value"] ["value"] 8 b_check_table T.u_check_table sc_check_table
  refine h0 fun cdv A outer s H E hr hgd => ?_
  have hu := hr.units
  have hu2 := hu66 hr
  have nd := sc_check_table.nd
  unfold b_check_table
  exact (ms_cons
  (ms_if (mt_not (mt_val (me_call (ok_is_positive_table T) (hr.mono (by decide)) hgd rfl T.g_is_positive_table T.u_is_positive_table.kp (b_is_positive_table_binds T) rfl (ma_cons (mv 0) ma_nil) (al_cons' al_nil')))) (ms_cons
  ms_no
  ms_nil) ms_nil)
  ms_nil)
theorem ok_check_table (T : Tx P w K mg base) : FnG P w K mg base 9 T.f_check_table T.d_check_table ["value"] (spM K 1 F_check_table) := (okr_check_table T).trim

theorem b_check_row_binds (T : Tx P w K mg base) : Binds K T.d_check_row ["value", "many"] [] := T.u_check_row.binds (ps := ["value", "many"]) fun _ _ _ _ _ _ us hl => match us, hl with | [_, _], _ => rfl
theorem okr_check_row (T : Tx P w K mg base) : FnG P w K mg base 4 T.f_check_row T.d_check_row ["value", "many"] (spM K 2 (fnM 4 b_check_row)) := by
  have h0 := @fnG P w K mg base "check_row" "check_row" s_check_row T.f_check_row T.d_check_row ["value", "many", "at", "number"] ["value", "many"] 3 b_check_row T.u_check_row sc_check_row
  refine h0 fun cdv A outer s H E hr hgd => ?_
  have hu := hr.units
  have hu2 := hu66 hr
  have nd := sc_check_row.nd
  unfold b_check_row
  exact (ms_cons
  (ms_if (mt_w (mw_or (mt_not (mt_val (me_call (ok_is_tuple T) (hr.mono (by decide)) hgd rfl T.g_is_tuple T.u_is_tuple.kp (b_is_tuple_binds T) rfl (ma_cons (mv 0) ma_nil) (al_cons' al_nil')))) (mw_or1 (mt_ne hu (me_callB call_len_seq opN_len rfl T.n_len PySem.boot_len (ma_cons (mv 0) ma_nil)) (mv 1))))) (ms_cons
  ms_no
  ms_nil) ms_nil)
  (ms_cons
  (ms_for (tg := (.tp ((.nm 2) :: ((.nm 3) :: [])))) PassesOwn.never rfl (mi_enumT rfl T.n_enumerate (mv 0)) (mg_tup rfl (mgs_cons (mgn 2 nd) (mgs_cons (mgn 3 nd) mgs_nil))) (ms_cons
  (ms_if (mt_not (mt_val (me_call (ok_is_fraction T) (hr.mono (by decide)) hgd rfl T.g_is_fraction T.u_is_fraction.kp (b_is_fraction_binds T) rfl (ma_cons (mv 3) ma_nil) (al_cons' al_nil')))) (ms_cons
  ms_no
  ms_nil) ms_nil)
  ms_nil))
  ms_nil))
theorem ok_check_row (T : Tx P w K mg base) : FnG P w K mg base 4 T.f_check_row T.d_check_row ["value", "many"] (spM K 2 F_check_row) := (okr_check_row T).trim

theorem b_is_table_binds (T : Tx P w K mg base) : Binds K T.d_is_table ["value"] [] := T.u_is_table.binds (ps := ["value"]) fun _ _ _ _ _ _ us hl => match us, hl with | [_], _ => rfl
theorem okr_is_table (T : Tx P w K mg base) : FnG P w K mg base 7 T.f_is_table T.d_is_table ["value"] (spM K 1 (fnM 1 b_is_table)) := by
  have h0 := @fnG P w K mg base "is_table" "is_table" s_is_table T.f_is_table T.d_is_table ["value"] ["value"] 6 b_is_table T.u_is_table sc_is_table
  refine h0 fun cdv A outer s H E hr hgd => ?_
  have hu := hr.units
  have hu2 := hu66 hr
  have nd := sc_is_table.nd
  unfold b_is_table
  exact (ms_cons
  (ms_ret (me_call (ok_is_any_table T) (hr.mono (by decide)) hgd rfl T.g_is_any_table T.u_is_any_table.kp (b_is_any_table_binds T) rfl (ma_cons (mv 0) ma_nil) (al_cons' al_nil')))
  ms_nil)
theorem ok_is_table (T : Tx P w K mg base) : FnG P w K mg base 7 T.f_is_table T.d_is_table ["value"] (spM K 1 F_is_table) := (okr_is_table T).trim

theorem b_worth_binds (T : Tx P w K mg base) : Binds K T.d_worth ["form", "row"] [] := T.u_worth.binds (ps := ["form", "row"]) fun _ _ _ _ _ _ us hl => match us, hl with | [_, _], _ => rfl
theorem okr_worth (T : Tx P w K mg base) : FnG P w K mg base 9 T.f_worth T.d_worth ["form", "row"] (spM K 2 (fnM 2 b_worth)) := by
  have h0 := @fnG P w K mg base "worth" "worth" s_worth T.f_worth T.d_worth ["form", "row"] ["form", "row"] 8 b_worth T.u_worth sc_worth
  refine h0 fun cdv A outer s H E hr hgd => ?_
  have hu := hr.units
  have hu2 := hu66 hr
  have nd := sc_worth.nd
  unfold b_worth
  exact (ms_cons
  (ms_expr (me_call (ok_check_form T) (hr.mono (by decide)) hgd rfl T.g_check_form T.u_check_form.kp (b_check_form_binds T) rfl (ma_cons (mv 0) ma_nil) (al_cons' al_nil')))
  (ms_cons
  (ms_expr (me_call (ok_check_row T) (hr.mono (by decide)) hgd rfl T.g_check_row T.u_check_row.kp (b_check_row_binds T) rfl (ma_cons (mv 1) (ma_cons (me_callB call_len_seq opN_len rfl T.n_len PySem.boot_len (ma_cons (mv 0) ma_nil)) ma_nil)) (al_cons' (al_cons' al_nil'))))
  (ms_cons
  (ms_ret (me_call (ok_worth_at T) (hr.mono (by decide)) hgd rfl T.g_worth_at T.u_worth_at.kp (b_worth_at_binds T) rfl (ma_cons (mv 0) (ma_cons (mv 1) ma_nil)) (al_cons' (al_cons' al_nil'))))
  ms_nil)))
theorem ok_worth (T : Tx P w K mg base) : FnG P w K mg base 9 T.f_worth T.d_worth ["form", "row"] (spM K 2 F_worth) := (okr_worth T).trim

theorem b_energy_product_binds (T : Tx P w K mg base) : Binds K T.d_energy_product ["table", "row", "other"] [] := T.u_energy_product.binds (ps := ["table", "row", "other"]) fun _ _ _ _ _ _ us hl => match us, hl with | [_, _, _], _ => rfl
theorem okr_energy_product (T : Tx P w K mg base) : FnG P w K mg base 10 T.f_energy_product T.d_energy_product ["table", "row", "other"] (spM K 3 (fnM 3 b_energy_product)) := by
  have h0 := @fnG P w K mg base "energy_product" "energy_product" s_energy_product T.f_energy_product T.d_energy_product ["table", "row", "other"] ["table", "row", "other"] 9 b_energy_product T.u_energy_product sc_energy_product
  refine h0 fun cdv A outer s H E hr hgd => ?_
  have hu := hr.units
  have hu2 := hu66 hr
  have nd := sc_energy_product.nd
  unfold b_energy_product
  exact (ms_cons
  (ms_expr (me_call (ok_check_table T) (hr.mono (by decide)) hgd rfl T.g_check_table T.u_check_table.kp (b_check_table_binds T) rfl (ma_cons (mv 0) ma_nil) (al_cons' al_nil')))
  (ms_cons
  (ms_expr (me_call (ok_check_row T) (hr.mono (by decide)) hgd rfl T.g_check_row T.u_check_row.kp (b_check_row_binds T) rfl (ma_cons (mv 1) (ma_cons (me_callB call_len_seq opN_len rfl T.n_len PySem.boot_len (ma_cons (mv 0) ma_nil)) ma_nil)) (al_cons' (al_cons' al_nil'))))
  (ms_cons
  (ms_expr (me_call (ok_check_row T) (hr.mono (by decide)) hgd rfl T.g_check_row T.u_check_row.kp (b_check_row_binds T) rfl (ma_cons (mv 2) (ma_cons (me_callB call_len_seq opN_len rfl T.n_len PySem.boot_len (ma_cons (mv 0) ma_nil)) ma_nil)) (al_cons' (al_cons' al_nil'))))
  (ms_cons
  (ms_ret (me_call (ok_dot T) (hr.mono (by decide)) hgd rfl T.g_dot T.u_dot.kp (b_dot_binds T) rfl (ma_cons (mv 1) (ma_cons (me_call (ok_applied T) (hr.mono (by decide)) hgd rfl T.g_applied T.u_applied.kp (b_applied_binds T) rfl (ma_cons (mv 0) (ma_cons (mv 2) ma_nil)) (al_cons' (al_cons' al_nil'))) ma_nil)) (al_cons' (al_cons' al_nil'))))
  ms_nil))))
theorem ok_energy_product (T : Tx P w K mg base) : FnG P w K mg base 10 T.f_energy_product T.d_energy_product ["table", "row", "other"] (spM K 3 F_energy_product) := (okr_energy_product T).trim

theorem b_law_urn_binds (T : Tx P w K mg base) : Binds K T.d_law_urn ["script", "turn"] [] := T.u_law_urn.binds (ps := ["script", "turn"]) fun _ _ _ _ _ _ us hl => match us, hl with | [_, _], _ => rfl
theorem okr_law_urn (T : Tx P w K mg base) : FnG P w K mg base 1 T.f_law_urn T.d_law_urn ["script", "turn"] (spM K 2 (fnM 5 b_law_urn)) := by
  have h0 := @fnG P w K mg base "_law_urn" "_law_urn" s_law_urn T.f_law_urn T.d_law_urn ["script", "turn", "mixed", "cell", "own"] ["script", "turn"] 0 b_law_urn T.u_law_urn sc_law_urn
  refine h0 fun cdv A outer s H E hr hgd => ?_
  have hu := hr.units
  have hu2 := hu66 hr
  have nd := sc_law_urn.nd
  unfold b_law_urn
  exact (ms_cons
  (mset 2 nd (me_add me_int (me_mulX me_int (mv 1))))
  (ms_cons
  (ms_for (tg := (.nm 3)) PassesOwn.never rfl (mi_seq (me_cut (mv 0) mo_none (mo_some me_int))) (mgn 3 nd) (ms_cons
  (mset 2 nd (me_mod (me_callTy call_int1 opN_int rfl T.n_int (by decide +kernel) (ma_cons (me_add (me_add (me_mulX (mv 2) me_int) (me_mod (me_callTy call_int1 opN_int rfl T.n_int (by decide +kernel) (ma_cons (mv 3) ma_nil)) me_int)) me_int) ma_nil)) me_int))
  ms_nil))
  (ms_cons
  (mset 4 nd (me_if (mt_lt (mv 1) (me_callB call_len_seq opN_len rfl T.n_len PySem.boot_len (ma_cons (mv 0) ma_nil))) (me_callTy call_int1 opN_int rfl T.n_int (by decide +kernel) (ma_cons (me_at (mv 0) (mv 1) (fun _ _ => rfl)) ma_nil)) me_int))
  (ms_cons
  (mset 2 nd (me_mod (me_callTy call_int1 opN_int rfl T.n_int (by decide +kernel) (ma_cons (me_add (me_add (me_mulX (mv 2) me_int) (me_mulX (me_mod (me_callTy call_int1 opN_int rfl T.n_int (by decide +kernel) (ma_cons (mv 4) ma_nil)) me_int) me_int)) me_int) ma_nil)) me_int))
  (ms_cons
  (ms_ret (me_cell (ma_cons (me_if (mt_w (mw_or (mt_lt (mv 4) me_int) (mw_or1 (mt_ge (mv 4) (me_pow me_int me_int))))) (me_callB call_abs opN_abs rfl T.n_abs (by decide +kernel) (ma_cons (mv 4) ma_nil)) me_int) (ma_cons (mv 2) (ma_cons me_int (ma_cons me_int ma_nil))))))
  ms_nil)))))
theorem ok_law_urn (T : Tx P w K mg base) : FnG P w K mg base 1 T.f_law_urn T.d_law_urn ["script", "turn"] (spM K 2 F_law_urn) := okr_law_urn T

theorem b_law_take_binds (T : Tx P w K mg base) : Binds K T.d_law_take ["urn", "limit"] [] := T.u_law_take.binds (ps := ["urn", "limit"]) fun _ _ _ _ _ _ us hl => match us, hl with | [_, _], _ => rfl
theorem okr_law_take (T : Tx P w K mg base) : FnG P w K mg base 1 T.f_law_take T.d_law_take ["urn", "limit"] (spM K 2 (fnM 4 b_law_take)) := by
  have h0 := @fnG P w K mg base "_law_take" "_law_take" s_law_take T.f_law_take T.d_law_take ["urn", "limit", "digit", "seed"] ["urn", "limit"] 0 b_law_take T.u_law_take sc_law_take
  refine h0 fun cdv A outer s H E hr hgd => ?_
  have hu := hr.units
  have hu2 := hu66 hr
  have nd := sc_law_take.nd
  unfold b_law_take
  exact (ms_cons
  (ms_if (mt_gt (me_at (mv 0) me_int (fun _ _ => rfl)) me_int) (ms_cons
  (ms_put2 (j := 2) (me_callB call_divmodW opN_divmod rfl T.n_divmod (by decide +kernel) (ma_cons (me_at (mv 0) me_int (fun _ _ => rfl)) (ma_cons (mv 1) ma_nil))) (mv 0) me_int rfl nd rfl (.inl rfl))
  (ms_cons
  (ms_ret (mv 2))
  ms_nil)) ms_nil)
  (ms_cons
  (ms_put (me_add (me_at (mv 0) me_int (fun _ _ => rfl)) me_int) (mv 0) me_int)
  (ms_cons
  (mset 3 nd (me_mod (me_callTy call_int1 opN_int rfl T.n_int (by decide +kernel) (ma_cons (me_add (me_at (mv 0) me_int (fun _ _ => rfl)) (me_mulX me_int (me_at (mv 0) me_int (fun _ _ => rfl)))) ma_nil)) me_int))
  (ms_cons
  (ms_put (me_mod (me_callTy call_int1 opN_int rfl T.n_int (by decide +kernel) (ma_cons (me_add (me_mulX (mv 3) (me_add (me_mod (me_callTy call_int1 opN_int rfl T.n_int (by decide +kernel) (ma_cons (mv 3) ma_nil)) me_int) me_int)) (me_mulX me_int (me_at (mv 0) me_int (fun _ _ => rfl)))) ma_nil)) me_int) (mv 0) me_int)
  (ms_cons
  (ms_ret (me_mod (me_callTy call_int1 opN_int rfl T.n_int (by decide +kernel) (ma_cons (me_divF (me_at (mv 0) me_int (fun _ _ => rfl)) me_int) ma_nil)) (mv 1)))
  ms_nil)))))
theorem ok_law_take (T : Tx P w K mg base) : FnG P w K mg base 1 T.f_law_take T.d_law_take ["urn", "limit"] (spM K 2 F_law_take) := (okr_law_take T).trim

theorem b_law_pick_binds (T : Tx P w K mg base) : Binds K T.d_law_pick ["urn", "some"] [] := T.u_law_pick.binds (ps := ["urn", "some"]) fun _ _ _ _ _ _ us hl => match us, hl with | [_, _], _ => rfl
theorem okr_law_pick (T : Tx P w K mg base) : FnG P w K mg base 2 T.f_law_pick T.d_law_pick ["urn", "some"] (spM K 2 (fnM 2 b_law_pick)) := by
  have h0 := @fnG P w K mg base "_law_pick" "_law_pick" s_law_pick T.f_law_pick T.d_law_pick ["urn", "some"] ["urn", "some"] 1 b_law_pick T.u_law_pick sc_law_pick
  refine h0 fun cdv A outer s H E hr hgd => ?_
  have hu := hr.units
  have hu2 := hu66 hr
  have nd := sc_law_pick.nd
  unfold b_law_pick
  exact (ms_cons
  (ms_ret (me_at (mv 1) (me_call (ok_law_take T) (hr.mono (by decide)) hgd rfl T.g_law_take T.u_law_take.kp (b_law_take_binds T) rfl (ma_cons (mv 0) (ma_cons (me_callB call_len_seq opN_len rfl T.n_len PySem.boot_len (ma_cons (mv 1) ma_nil)) ma_nil)) (al_cons' (al_cons' al_nil'))) (fun _ _ => rfl)))
  ms_nil)
theorem ok_law_pick (T : Tx P w K mg base) : FnG P w K mg base 2 T.f_law_pick T.d_law_pick ["urn", "some"] (spM K 2 F_law_pick) := (okr_law_pick T).trim

theorem b_law_frac_binds (T : Tx P w K mg base) : Binds K T.d_law_frac ["top", "low"] [] := T.u_law_frac.binds (ps := ["top", "low"]) fun _ _ _ _ _ _ us hl => match us, hl with | [_, _], _ => rfl
theorem okr_law_frac (T : Tx P w K mg base) : FnG P w K mg base 1 T.f_law_frac T.d_law_frac ["top", "low"] (spM K 2 (fnM 4 b_law_frac)) := by
  have h0 := @fnG P w K mg base "_law_frac" "_law_frac" s_law_frac T.f_law_frac T.d_law_frac ["top", "low", "one", "two"] ["top", "low"] 0 b_law_frac T.u_law_frac sc_law_frac
  refine h0 fun cdv A outer s H E hr hgd => ?_
  have hu := hr.units
  have hu2 := hu66 hr
  have nd := sc_law_frac.nd
  unfold b_law_frac
  exact (ms_cons
  (ms_par (i := 2) (j := 3) rfl nd rfl rfl (by decide) rfl rfl (ma_cons (me_callB call_abs opN_abs rfl T.n_abs (by decide +kernel) (ma_cons (mv 0) ma_nil)) (ma_cons (me_callB call_abs opN_abs rfl T.n_abs (by decide +kernel) (ma_cons (mv 1) ma_nil)) ma_nil)) rfl)
  (ms_cons
  (ms_while PassesOwn.never (mt_ne hu (mv 3) me_int) (ms_cons
  (ms_par (i := 2) (j := 3) rfl nd rfl rfl (by decide) rfl rfl (ma_cons (mv 3) (ma_cons (me_mod (me_callTy call_int1 opN_int rfl T.n_int (by decide +kernel) (ma_cons (mv 2) ma_nil)) (mv 3)) ma_nil)) rfl)
  ms_nil))
  (ms_cons
  (mset 2 nd (me_if (mt_gt (mv 1) me_int) (mv 2) (me_sub me_int (mv 2))))
  (ms_cons
  (ms_ret (me_tup (ma_cons (me_divF (mv 0) (mv 2)) (ma_cons (me_divF (mv 1) (mv 2)) ma_nil))))
  ms_nil))))
theorem ok_law_frac (T : Tx P w K mg base) : FnG P w K mg base 1 T.f_law_frac T.d_law_frac ["top", "low"] (spM K 2 F_law_frac) := (okr_law_frac T).trim

theorem b_law_times_binds (T : Tx P w K mg base) : Binds K T.d_law_times ["one", "two"] [] := T.u_law_times.binds (ps := ["one", "two"]) fun _ _ _ _ _ _ us hl => match us, hl with | [_, _], _ => rfl
theorem okr_law_times (T : Tx P w K mg base) : FnG P w K mg base 2 T.f_law_times T.d_law_times ["one", "two"] (spM K 2 (fnM 2 b_law_times)) := by
  have h0 := @fnG P w K mg base "_law_times" "_law_times" s_law_times T.f_law_times T.d_law_times ["one", "two"] ["one", "two"] 1 b_law_times T.u_law_times sc_law_times
  refine h0 fun cdv A outer s H E hr hgd => ?_
  have hu := hr.units
  have hu2 := hu66 hr
  have nd := sc_law_times.nd
  unfold b_law_times
  exact (ms_cons
  (ms_ret (me_call (ok_law_frac T) (hr.mono (by decide)) hgd rfl T.g_law_frac T.u_law_frac.kp (b_law_frac_binds T) rfl (ma_cons (me_mulX (me_at (mv 0) me_int (fun _ _ => rfl)) (me_at (mv 1) me_int (fun _ _ => rfl))) (ma_cons (me_mulX (me_at (mv 0) me_int (fun _ _ => rfl)) (me_at (mv 1) me_int (fun _ _ => rfl))) ma_nil)) (al_cons' (al_cons' al_nil'))))
  ms_nil)
theorem ok_law_times (T : Tx P w K mg base) : FnG P w K mg base 2 T.f_law_times T.d_law_times ["one", "two"] (spM K 2 F_law_times) := (okr_law_times T).trim

theorem b_law_dot_binds (T : Tx P w K mg base) : Binds K T.d_law_dot ["one", "two"] [] := T.u_law_dot.binds (ps := ["one", "two"]) fun _ _ _ _ _ _ us hl => match us, hl with | [_, _], _ => rfl
theorem okr_law_dot (T : Tx P w K mg base) : FnG P w K mg base 2 T.f_law_dot T.d_law_dot ["one", "two"] (spM K 2 (fnM 7 b_law_dot)) := by
  have h0 := @fnG P w K mg base "_law_dot" "_law_dot" s_law_dot T.f_law_dot T.d_law_dot ["one", "two", "top", "low", "here", "there", "by"] ["one", "two"] 1 b_law_dot T.u_law_dot sc_law_dot
  refine h0 fun cdv A outer s H E hr hgd => ?_
  have hu := hr.units
  have hu2 := hu66 hr
  have nd := sc_law_dot.nd
  unfold b_law_dot
  exact (ms_cons
  (ms_asg (tg := (.tp ((.nm 2) :: ((.nm 3) :: [])))) (me_tup (ma_cons me_int (ma_cons me_int ma_nil))) (mg_tup rfl (mgs_cons (mgn 2 nd) (mgs_cons (mgn 3 nd) mgs_nil))))
  (ms_cons
  (ms_for (tg := (.tp ((.nm 4) :: ((.nm 5) :: [])))) PassesOwn.never rfl (mi_zip rfl T.n_zip (ma_cons (mv 0) (ma_cons (mv 1) ma_nil))) (mg_tup rfl (mgs_cons (mgn 4 nd) (mgs_cons (mgn 5 nd) mgs_nil))) (ms_cons
  (mset 6 nd (me_mulX (me_at (mv 4) me_int (fun _ _ => rfl)) (me_at (mv 5) me_int (fun _ _ => rfl))))
  (ms_cons
  (ms_par (i := 2) (j := 3) rfl nd rfl rfl (by decide) rfl rfl (ma_cons (me_add (me_mulX (mv 2) (mv 6)) (me_mulX (me_mulX (me_at (mv 4) me_int (fun _ _ => rfl)) (me_at (mv 5) me_int (fun _ _ => rfl))) (mv 3))) (ma_cons (me_mulX (mv 3) (mv 6)) ma_nil)) rfl)
  ms_nil)))
  (ms_cons
  (ms_ret (me_call (ok_law_frac T) (hr.mono (by decide)) hgd rfl T.g_law_frac T.u_law_frac.kp (b_law_frac_binds T) rfl (ma_cons (mv 2) (ma_cons (mv 3) ma_nil)) (al_cons' (al_cons' al_nil'))))
  ms_nil)))
theorem ok_law_dot (T : Tx P w K mg base) : FnG P w K mg base 2 T.f_law_dot T.d_law_dot ["one", "two"] (spM K 2 F_law_dot) := (okr_law_dot T).trim

theorem b_law_go_binds (T : Tx P w K mg base) : Binds K T.d_law_go ["grid", "line"] [] := T.u_law_go.binds (ps := ["grid", "line"]) fun _ _ _ _ _ _ us hl => match us, hl with | [_, _], _ => rfl
theorem okr_law_go (T : Tx P w K mg base) : FnG P w K mg base 3 T.f_law_go T.d_law_go ["grid", "line"] (spM K 2 (fnM 3 b_law_go)) := by
  have h0 := @fnG P w K mg base "_law_go" "_law_go" s_law_go T.f_law_go T.d_law_go ["grid", "line", "each"] ["grid", "line"] 2 b_law_go T.u_law_go sc_law_go
  refine h0 fun cdv A outer s H E hr hgd => ?_
  have hu := hr.units
  have hu2 := hu66 hr
  have nd := sc_law_go.nd
  unfold b_law_go
  exact (ms_cons
  (ms_ret (me_callTy call_tuple_of opN_tuple rfl T.n_tuple (by decide +kernel) (ma_cons (me_lc (own := [("each", 2)]) (tg := (.nm 2)) rfl nd (mi_seq (mv 0)) (blkOk_by (N := ["grid", "line", "each"]) (sc := (defScope s_law_go)) (by decide +kernel)) (by decide) (fun _ _ _ _ _ => (mgn 2 nd)) (fun _ _ _ _ _ => mts_nil) (fun _ _ _ _ _ => (me_call (ok_law_dot T) (hr.mono (by decide)) hgd rfl T.g_law_dot T.u_law_dot.kp (b_law_dot_binds T) rfl (ma_cons (mv 2) (ma_cons (mv 1) ma_nil)) (al_cons' (al_cons' al_nil'))))) ma_nil)))
  ms_nil)
theorem ok_law_go (T : Tx P w K mg base) : FnG P w K mg base 3 T.f_law_go T.d_law_go ["grid", "line"] (spM K 2 F_law_go) := (okr_law_go T).trim

theorem b_law_flip_binds (T : Tx P w K mg base) : Binds K T.d_law_flip ["grid"] [] := T.u_law_flip.binds (ps := ["grid"]) fun _ _ _ _ _ _ us hl => match us, hl with | [_], _ => rfl
theorem okr_law_flip (T : Tx P w K mg base) : FnG P w K mg base 1 T.f_law_flip T.d_law_flip ["grid"] (spM K 1 (fnM 3 b_law_flip)) := by
  have h0 := @fnG P w K mg base "_law_flip" "_law_flip" s_law_flip T.f_law_flip T.d_law_flip ["grid", "spot", "line"] ["grid"] 0 b_law_flip T.u_law_flip sc_law_flip
  refine h0 fun cdv A outer s H E hr hgd => ?_
  have hu := hr.units
  have hu2 := hu66 hr
  have nd := sc_law_flip.nd
  unfold b_law_flip
  exact (ms_cons
  (ms_ret (me_callTy call_tuple_of opN_tuple rfl T.n_tuple (by decide +kernel) (ma_cons (me_lc (own := [("spot", 1)]) (tg := (.nm 1)) rfl nd (mi_range1 rfl T.n_range (ma_cons (me_callB call_len_seq opN_len rfl T.n_len PySem.boot_len (ma_cons (me_at (mv 0) me_int (fun _ _ => rfl)) ma_nil)) ma_nil)) (blkOk_by (N := ["grid", "spot", "line"]) (sc := (defScope s_law_flip)) (by decide +kernel)) (by decide) (fun _ _ _ _ _ => (mgn 1 nd)) (fun _ _ _ _ _ => mts_nil) (fun _ _ _ _ _ => (me_callTy call_tuple_of opN_tuple rfl T.n_tuple (by decide +kernel) (ma_cons (me_lc (own := [("line", 2)]) (tg := (.nm 2)) rfl nd (mi_seq (mv 0)) (blkOk_by (N := ["grid", "spot", "line"]) (sc := (relS _ (defScope s_law_flip))) (by decide +kernel)) (by decide) (fun _ _ _ _ _ => (mgn 2 nd)) (fun _ _ _ _ _ => mts_nil) (fun _ _ _ _ _ => (me_at (mv 2) (mv 1) (fun _ _ => rfl)))) ma_nil)))) ma_nil)))
  ms_nil)
theorem ok_law_flip (T : Tx P w K mg base) : FnG P w K mg base 1 T.f_law_flip T.d_law_flip ["grid"] (spM K 1 F_law_flip) := (okr_law_flip T).trim

theorem b_law_mul_binds (T : Tx P w K mg base) : Binds K T.d_law_mul ["one", "two"] [] := T.u_law_mul.binds (ps := ["one", "two"]) fun _ _ _ _ _ _ us hl => match us, hl with | [_, _], _ => rfl
theorem okr_law_mul (T : Tx P w K mg base) : FnG P w K mg base 3 T.f_law_mul T.d_law_mul ["one", "two"] (spM K 2 (fnM 5 b_law_mul)) := by
  have h0 := @fnG P w K mg base "_law_mul" "_law_mul" s_law_mul T.f_law_mul T.d_law_mul ["one", "two", "sides", "line", "side"] ["one", "two"] 2 b_law_mul T.u_law_mul sc_law_mul
  refine h0 fun cdv A outer s H E hr hgd => ?_
  have hu := hr.units
  have hu2 := hu66 hr
  have nd := sc_law_mul.nd
  unfold b_law_mul
  exact (ms_cons
  (mset 2 nd (me_call (ok_law_flip T) (hr.mono (by decide)) hgd rfl T.g_law_flip T.u_law_flip.kp (b_law_flip_binds T) rfl (ma_cons (mv 1) ma_nil) (al_cons' al_nil')))
  (ms_cons
  (ms_ret (me_callTy call_tuple_of opN_tuple rfl T.n_tuple (by decide +kernel) (ma_cons (me_lc (own := [("line", 3)]) (tg := (.nm 3)) rfl nd (mi_seq (mv 0)) (blkOk_by (N := ["one", "two", "sides", "line", "side"]) (sc := (defScope s_law_mul)) (by decide +kernel)) (by decide) (fun _ _ _ _ _ => (mgn 3 nd)) (fun _ _ _ _ _ => mts_nil) (fun _ _ _ _ _ => (me_callTy call_tuple_of opN_tuple rfl T.n_tuple (by decide +kernel) (ma_cons (me_lc (own := [("side", 4)]) (tg := (.nm 4)) rfl nd (mi_seq (mv 2)) (blkOk_by (N := ["one", "two", "sides", "line", "side"]) (sc := (relS _ (defScope s_law_mul))) (by decide +kernel)) (by decide) (fun _ _ _ _ _ => (mgn 4 nd)) (fun _ _ _ _ _ => mts_nil) (fun _ _ _ _ _ => (me_call (ok_law_dot T) (hr.mono (by decide)) hgd rfl T.g_law_dot T.u_law_dot.kp (b_law_dot_binds T) rfl (ma_cons (mv 3) (ma_cons (mv 4) ma_nil)) (al_cons' (al_cons' al_nil'))))) ma_nil)))) ma_nil)))
  ms_nil))
theorem ok_law_mul (T : Tx P w K mg base) : FnG P w K mg base 3 T.f_law_mul T.d_law_mul ["one", "two"] (spM K 2 F_law_mul) := (okr_law_mul T).trim

theorem b_law_by_binds (T : Tx P w K mg base) : Binds K T.d_law_by ["line", "by"] [] := T.u_law_by.binds (ps := ["line", "by"]) fun _ _ _ _ _ _ us hl => match us, hl with | [_, _], _ => rfl
theorem okr_law_by (T : Tx P w K mg base) : FnG P w K mg base 3 T.f_law_by T.d_law_by ["line", "by"] (spM K 2 (fnM 3 b_law_by)) := by
  have h0 := @fnG P w K mg base "_law_by" "_law_by" s_law_by T.f_law_by T.d_law_by ["line", "by", "x"] ["line", "by"] 2 b_law_by T.u_law_by sc_law_by
  refine h0 fun cdv A outer s H E hr hgd => ?_
  have hu := hr.units
  have hu2 := hu66 hr
  have nd := sc_law_by.nd
  unfold b_law_by
  exact (ms_cons
  (ms_ret (me_callTy call_tuple_of opN_tuple rfl T.n_tuple (by decide +kernel) (ma_cons (me_lc (own := [("x", 2)]) (tg := (.nm 2)) rfl nd (mi_seq (mv 0)) (blkOk_by (N := ["line", "by", "x"]) (sc := (defScope s_law_by)) (by decide +kernel)) (by decide) (fun _ _ _ _ _ => (mgn 2 nd)) (fun _ _ _ _ _ => mts_nil) (fun _ _ _ _ _ => (me_call (ok_law_times T) (hr.mono (by decide)) hgd rfl T.g_law_times T.u_law_times.kp (b_law_times_binds T) rfl (ma_cons (mv 1) (ma_cons (mv 2) ma_nil)) (al_cons' (al_cons' al_nil'))))) ma_nil)))
  ms_nil)
theorem ok_law_by (T : Tx P w K mg base) : FnG P w K mg base 3 T.f_law_by T.d_law_by ["line", "by"] (spM K 2 F_law_by) := (okr_law_by T).trim

theorem b_law_at_binds (T : Tx P w K mg base) : Binds K T.d_law_at ["grid", "line"] [] := T.u_law_at.binds (ps := ["grid", "line"]) fun _ _ _ _ _ _ us hl => match us, hl with | [_, _], _ => rfl
theorem okr_law_at (T : Tx P w K mg base) : FnG P w K mg base 4 T.f_law_at T.d_law_at ["grid", "line"] (spM K 2 (fnM 2 b_law_at)) := by
  have h0 := @fnG P w K mg base "_law_at" "_law_at" s_law_at T.f_law_at T.d_law_at ["grid", "line"] ["grid", "line"] 3 b_law_at T.u_law_at sc_law_at
  refine h0 fun cdv A outer s H E hr hgd => ?_
  have hu := hr.units
  have hu2 := hu66 hr
  have nd := sc_law_at.nd
  unfold b_law_at
  exact (ms_cons
  (ms_ret (me_call (ok_law_dot T) (hr.mono (by decide)) hgd rfl T.g_law_dot T.u_law_dot.kp (b_law_dot_binds T) rfl (ma_cons (mv 1) (ma_cons (me_call (ok_law_go T) (hr.mono (by decide)) hgd rfl T.g_law_go T.u_law_go.kp (b_law_go_binds T) rfl (ma_cons (mv 0) (ma_cons (mv 1) ma_nil)) (al_cons' (al_cons' al_nil'))) ma_nil)) (al_cons' (al_cons' al_nil'))))
  ms_nil)
theorem ok_law_at (T : Tx P w K mg base) : FnG P w K mg base 4 T.f_law_at T.d_law_at ["grid", "line"] (spM K 2 F_law_at) := (okr_law_at T).trim

theorem b_law_is_frac_binds (T : Tx P w K mg base) : Binds K T.d_law_is_frac ["thing"] [] := T.u_law_is_frac.binds (ps := ["thing"]) fun _ _ _ _ _ _ us hl => match us, hl with | [_], _ => rfl
theorem okr_law_is_frac (T : Tx P w K mg base) : FnG P w K mg base 2 T.f_law_is_frac T.d_law_is_frac ["thing"] (spM K 1 (fnM 3 b_law_is_frac)) := by
  have h0 := @fnG P w K mg base "_law_is_frac" "_law_is_frac" s_law_is_frac T.f_law_is_frac T.d_law_is_frac ["thing", "top", "low"] ["thing"] 1 b_law_is_frac T.u_law_is_frac sc_law_is_frac
  refine h0 fun cdv A outer s H E hr hgd => ?_
  have hu := hr.units
  have hu2 := hu66 hr
  have nd := sc_law_is_frac.nd
  unfold b_law_is_frac
  exact (ms_cons
  (ms_if (mt_w (mw_or (mt_not (mt_val (me_isE (T := "tuple") (by decide +kernel) rfl T.n_isinstance rfl T.n_tuple (by first | rfl | decide +kernel) (mv 0)))) (mw_or1 (mt_ne hu (me_callB call_len_seq opN_len rfl T.n_len PySem.boot_len (ma_cons (mv 0) ma_nil)) me_int)))) (ms_cons
  (ms_ret me_bl)
  ms_nil) ms_nil)
  (ms_cons
  (ms_asg (tg := (.tp ((.nm 1) :: ((.nm 2) :: [])))) (mv 0) (mg_tup rfl (mgs_cons (mgn 1 nd) (mgs_cons (mgn 2 nd) mgs_nil))))
  (ms_cons
  (ms_if (mt_w (mw_or (mt_val (me_isE (T := "bool") (by decide +kernel) rfl T.n_isinstance rfl T.n_bool (by first | rfl | decide +kernel) (mv 1))) (mw_or (mt_val (me_isE (T := "bool") (by decide +kernel) rfl T.n_isinstance rfl T.n_bool (by first | rfl | decide +kernel) (mv 2))) (mw_or (mt_not (mt_val (me_isE (T := "int") (by decide +kernel) rfl T.n_isinstance rfl T.n_int (by first | rfl | decide +kernel) (mv 1)))) (mw_or1 (mt_not (mt_val (me_isE (T := "int") (by decide +kernel) rfl T.n_isinstance rfl T.n_int (by first | rfl | decide +kernel) (mv 2))))))))) (ms_cons
  (ms_ret me_bl)
  ms_nil) ms_nil)
  (ms_cons
  (ms_ret (me_and (me_gt (mv 2) me_int) (me_one (me_eq hu (me_call (ok_law_frac T) (hr.mono (by decide)) hgd rfl T.g_law_frac T.u_law_frac.kp (b_law_frac_binds T) rfl (ma_cons (mv 1) (ma_cons (mv 2) ma_nil)) (al_cons' (al_cons' al_nil'))) (mv 0)))))
  ms_nil))))
theorem ok_law_is_frac (T : Tx P w K mg base) : FnG P w K mg base 2 T.f_law_is_frac T.d_law_is_frac ["thing"] (spM K 1 F_law_is_frac) := (okr_law_is_frac T).trim

theorem b_law_is_line_binds (T : Tx P w K mg base) : Binds K T.d_law_is_line ["thing", "size"] [] := T.u_law_is_line.binds (ps := ["thing", "size"]) fun _ _ _ _ _ _ us hl => match us, hl with | [_, _], _ => rfl
theorem okr_law_is_line (T : Tx P w K mg base) : FnG P w K mg base 3 T.f_law_is_line T.d_law_is_line ["thing", "size"] (spM K 2 (fnM 3 b_law_is_line)) := by
  have h0 := @fnG P w K mg base "_law_is_line" "_law_is_line" s_law_is_line T.f_law_is_line T.d_law_is_line ["thing", "size", "each"] ["thing", "size"] 2 b_law_is_line T.u_law_is_line sc_law_is_line
  refine h0 fun cdv A outer s H E hr hgd => ?_
  have hu := hr.units
  have hu2 := hu66 hr
  have nd := sc_law_is_line.nd
  unfold b_law_is_line
  exact (ms_cons
  (ms_ret (me_and (me_isE (T := "tuple") (by decide +kernel) rfl T.n_isinstance rfl T.n_tuple (by first | rfl | decide +kernel) (mv 0)) (me_and (me_eq hu (me_callB call_len_seq opN_len rfl T.n_len PySem.boot_len (ma_cons (mv 0) ma_nil)) (mv 1)) (me_one (me_callB (cr_all rfl) opN_all rfl T.n_all (by decide +kernel) (ma_cons (me_lc (own := [("each", 2)]) (tg := (.nm 2)) rfl nd (mi_seq (mv 0)) (blkOk_by (N := ["thing", "size", "each"]) (sc := (defScope s_law_is_line)) (by decide +kernel)) (by decide) (fun _ _ _ _ _ => (mgn 2 nd)) (fun _ _ _ _ _ => mts_nil) (fun _ _ _ _ _ => (me_call (ok_law_is_frac T) (hr.mono (by decide)) hgd rfl T.g_law_is_frac T.u_law_is_frac.kp (b_law_is_frac_binds T) rfl (ma_cons (mv 2) ma_nil) (al_cons' al_nil')))) ma_nil))))))
  ms_nil)
theorem ok_law_is_line (T : Tx P w K mg base) : FnG P w K mg base 3 T.f_law_is_line T.d_law_is_line ["thing", "size"] (spM K 2 F_law_is_line) := (okr_law_is_line T).trim

theorem b_law_is_grid_binds (T : Tx P w K mg base) : Binds K T.d_law_is_grid ["thing", "size"] [] := T.u_law_is_grid.binds (ps := ["thing", "size"]) fun _ _ _ _ _ _ us hl => match us, hl with | [_, _], _ => rfl
theorem okr_law_is_grid (T : Tx P w K mg base) : FnG P w K mg base 4 T.f_law_is_grid T.d_law_is_grid ["thing", "size"] (spM K 2 (fnM 3 b_law_is_grid)) := by
  have h0 := @fnG P w K mg base "_law_is_grid" "_law_is_grid" s_law_is_grid T.f_law_is_grid T.d_law_is_grid ["thing", "size", "each"] ["thing", "size"] 3 b_law_is_grid T.u_law_is_grid sc_law_is_grid
  refine h0 fun cdv A outer s H E hr hgd => ?_
  have hu := hr.units
  have hu2 := hu66 hr
  have nd := sc_law_is_grid.nd
  unfold b_law_is_grid
  exact (ms_cons
  (ms_ret (me_and (me_isE (T := "tuple") (by decide +kernel) rfl T.n_isinstance rfl T.n_tuple (by first | rfl | decide +kernel) (mv 0)) (me_and (me_eq hu (me_callB call_len_seq opN_len rfl T.n_len PySem.boot_len (ma_cons (mv 0) ma_nil)) (mv 1)) (me_one (me_callB (cr_all rfl) opN_all rfl T.n_all (by decide +kernel) (ma_cons (me_lc (own := [("each", 2)]) (tg := (.nm 2)) rfl nd (mi_seq (mv 0)) (blkOk_by (N := ["thing", "size", "each"]) (sc := (defScope s_law_is_grid)) (by decide +kernel)) (by decide) (fun _ _ _ _ _ => (mgn 2 nd)) (fun _ _ _ _ _ => mts_nil) (fun _ _ _ _ _ => (me_call (ok_law_is_line T) (hr.mono (by decide)) hgd rfl T.g_law_is_line T.u_law_is_line.kp (b_law_is_line_binds T) rfl (ma_cons (mv 2) (ma_cons (mv 1) ma_nil)) (al_cons' (al_cons' al_nil'))))) ma_nil))))))
  ms_nil)
theorem ok_law_is_grid (T : Tx P w K mg base) : FnG P w K mg base 4 T.f_law_is_grid T.d_law_is_grid ["thing", "size"] (spM K 2 F_law_is_grid) := (okr_law_is_grid T).trim

theorem b_law_number_binds (T : Tx P w K mg base) : Binds K T.d_law_number ["urn"] [] := T.u_law_number.binds (ps := ["urn"]) fun _ _ _ _ _ _ us hl => match us, hl with | [_], _ => rfl
theorem okr_law_number (T : Tx P w K mg base) : FnG P w K mg base 2 T.f_law_number T.d_law_number ["urn"] (spM K 1 (fnM 2 b_law_number)) := by
  have h0 := @fnG P w K mg base "_law_number" "_law_number" s_law_number T.f_law_number T.d_law_number ["urn", "branch"] ["urn"] 1 b_law_number T.u_law_number sc_law_number
  refine h0 fun cdv A outer s H E hr hgd => ?_
  have hu := hr.units
  have hu2 := hu66 hr
  have nd := sc_law_number.nd
  unfold b_law_number
  exact (ms_cons
  (mset 1 nd (me_call (ok_law_take T) (hr.mono (by decide)) hgd rfl T.g_law_take T.u_law_take.kp (b_law_take_binds T) rfl (ma_cons (mv 0) (ma_cons me_int ma_nil)) (al_cons' (al_cons' al_nil'))))
  (ms_cons
  (ms_if (mt_w (mw_and (mt_eq hu (mv 1) me_int) (mw_and1 (mt_gt (me_at (mv 0) me_int (fun _ _ => rfl)) me_int)))) (ms_cons
  (ms_put (me_sub (me_at (mv 0) me_int (fun _ _ => rfl)) me_int) (mv 0) me_int)
  (ms_cons
  (ms_ret (me_call (ok_law_frac T) (hr.mono (by decide)) hgd rfl T.g_law_frac T.u_law_frac.kp (b_law_frac_binds T) rfl (ma_cons (me_sub (me_call (ok_law_take T) (hr.mono (by decide)) hgd rfl T.g_law_take T.u_law_take.kp (b_law_take_binds T) rfl (ma_cons (mv 0) (ma_cons me_int ma_nil)) (al_cons' (al_cons' al_nil'))) me_int) (ma_cons (me_add me_int (me_call (ok_law_take T) (hr.mono (by decide)) hgd rfl T.g_law_take T.u_law_take.kp (b_law_take_binds T) rfl (ma_cons (mv 0) (ma_cons me_int ma_nil)) (al_cons' (al_cons' al_nil')))) ma_nil)) (al_cons' (al_cons' al_nil'))))
  ms_nil)) ms_nil)
  (ms_cons
  (ms_if (mt_lt (mv 1) me_int) (ms_cons
  (ms_ret (me_tup (ma_cons (me_sub (me_call (ok_law_take T) (hr.mono (by decide)) hgd rfl T.g_law_take T.u_law_take.kp (b_law_take_binds T) rfl (ma_cons (mv 0) (ma_cons me_int ma_nil)) (al_cons' (al_cons' al_nil'))) me_int) (ma_cons me_int ma_nil))))
  ms_nil) ms_nil)
  (ms_cons
  (ms_ret (me_call (ok_law_frac T) (hr.mono (by decide)) hgd rfl T.g_law_frac T.u_law_frac.kp (b_law_frac_binds T) rfl (ma_cons (me_sub (me_call (ok_law_take T) (hr.mono (by decide)) hgd rfl T.g_law_take T.u_law_take.kp (b_law_take_binds T) rfl (ma_cons (mv 0) (ma_cons me_int ma_nil)) (al_cons' (al_cons' al_nil'))) me_int) (ma_cons (me_add me_int (me_call (ok_law_take T) (hr.mono (by decide)) hgd rfl T.g_law_take T.u_law_take.kp (b_law_take_binds T) rfl (ma_cons (mv 0) (ma_cons me_int ma_nil)) (al_cons' (al_cons' al_nil')))) ma_nil)) (al_cons' (al_cons' al_nil'))))
  ms_nil))))
theorem ok_law_number (T : Tx P w K mg base) : FnG P w K mg base 2 T.f_law_number T.d_law_number ["urn"] (spM K 1 F_law_number) := (okr_law_number T).trim

theorem b_law_line_binds (T : Tx P w K mg base) : Binds K T.d_law_line ["urn", "size"] [] := T.u_law_line.binds (ps := ["urn", "size"]) fun _ _ _ _ _ _ us hl => match us, hl with | [_, _], _ => rfl
theorem okr_law_line (T : Tx P w K mg base) : FnG P w K mg base 3 T.f_law_line T.d_law_line ["urn", "size"] (spM K 2 (fnM 4 b_law_line)) := by
  have h0 := @fnG P w K mg base "_law_line" "_law_line" s_law_line T.f_law_line T.d_law_line ["urn", "size", "found", "turn"] ["urn", "size"] 2 b_law_line T.u_law_line sc_law_line
  refine h0 fun cdv A outer s H E hr hgd => ?_
  have hu := hr.units
  have hu2 := hu66 hr
  have nd := sc_law_line.nd
  unfold b_law_line
  exact (ms_cons
  (mset 2 nd (me_cell ma_nil))
  (ms_cons
  (ms_for (tg := (.nm 3)) PassesOwn.never rfl (mi_range1 rfl T.n_range (ma_cons (mv 1) ma_nil)) (mgn 3 nd) (ms_cons
  (ms_expr (me_append (mv 2) (ma_cons (me_call (ok_law_number T) (hr.mono (by decide)) hgd rfl T.g_law_number T.u_law_number.kp (b_law_number_binds T) rfl (ma_cons (mv 0) ma_nil) (al_cons' al_nil')) ma_nil)))
  ms_nil))
  (ms_cons
  (ms_ret (me_callTy call_tuple_of opN_tuple rfl T.n_tuple (by decide +kernel) (ma_cons (mv 2) ma_nil)))
  ms_nil)))
theorem ok_law_line (T : Tx P w K mg base) : FnG P w K mg base 3 T.f_law_line T.d_law_line ["urn", "size"] (spM K 2 F_law_line) := (okr_law_line T).trim

theorem b_law_of_squares_binds (T : Tx P w K mg base) : Binds K T.d_law_of_squares ["heights", "lines"] [] := T.u_law_of_squares.binds (ps := ["heights", "lines"]) fun _ _ _ _ _ _ us hl => match us, hl with | [_, _], _ => rfl
theorem okr_law_of_squares (T : Tx P w K mg base) : FnG P w K mg base 4 T.f_law_of_squares T.d_law_of_squares ["heights", "lines"] (spM K 2 (fnM 4 b_law_of_squares)) := by
  have h0 := @fnG P w K mg base "_law_of_squares" "_law_of_squares" s_law_of_squares T.f_law_of_squares T.d_law_of_squares ["heights", "lines", "line", "height"] ["heights", "lines"] 3 b_law_of_squares T.u_law_of_squares sc_law_of_squares
  refine h0 fun cdv A outer s H E hr hgd => ?_
  have hu := hr.units
  have hu2 := hu66 hr
  have nd := sc_law_of_squares.nd
  unfold b_law_of_squares
  exact (ms_cons
  (ms_ret (me_call (ok_law_mul T) (hr.mono (by decide)) hgd rfl T.g_law_mul T.u_law_mul.kp (b_law_mul_binds T) rfl (ma_cons (me_call (ok_law_flip T) (hr.mono (by decide)) hgd rfl T.g_law_flip T.u_law_flip.kp (b_law_flip_binds T) rfl (ma_cons (me_lc (own := [("line", 2), ("height", 3)]) (tg := (.tp ((.nm 2) :: ((.nm 3) :: [])))) rfl nd (mi_zip rfl T.n_zip (ma_cons (mv 1) (ma_cons (mv 0) ma_nil))) (blkOk_by (N := ["heights", "lines", "line", "height"]) (sc := (defScope s_law_of_squares)) (by decide +kernel)) (by decide) (fun _ _ _ _ _ => (mg_tup rfl (mgs_cons (mgn 2 nd) (mgs_cons (mgn 3 nd) mgs_nil)))) (fun _ _ _ _ _ => mts_nil) (fun _ _ _ _ _ => (me_call (ok_law_by T) (hr.mono (by decide)) hgd rfl T.g_law_by T.u_law_by.kp (b_law_by_binds T) rfl (ma_cons (mv 2) (ma_cons (mv 3) ma_nil)) (al_cons' (al_cons' al_nil'))))) ma_nil) (al_cons' al_nil')) (ma_cons (mv 1) ma_nil)) (al_cons' (al_cons' al_nil'))))
  ms_nil)
theorem ok_law_of_squares (T : Tx P w K mg base) : FnG P w K mg base 4 T.f_law_of_squares T.d_law_of_squares ["heights", "lines"] (spM K 2 F_law_of_squares) := (okr_law_of_squares T).trim

theorem b_law_table_binds (T : Tx P w K mg base) : Binds K T.d_law_table ["urn", "size"] [] := T.u_law_table.binds (ps := ["urn", "size"]) fun _ _ _ _ _ _ us hl => match us, hl with | [_, _], _ => rfl
theorem okr_law_table (T : Tx P w K mg base) : FnG P w K mg base 5 T.f_law_table T.d_law_table ["urn", "size"] (spM K 2 (fnM 5 b_law_table)) := by
  have h0 := @fnG P w K mg base "_law_table" "_law_table" s_law_table T.f_law_table T.d_law_table ["urn", "size", "stairs", "heights", "spot"] ["urn", "size"] 4 b_law_table T.u_law_table sc_law_table
  refine h0 fun cdv A outer s H E hr hgd => ?_
  have hu := hr.units
  have hu2 := hu66 hr
  have nd := sc_law_table.nd
  unfold b_law_table
  exact (ms_cons
  (ms_par (i := 2) (j := 3) rfl nd rfl rfl (by decide) rfl rfl (ma_cons (me_cell ma_nil) (ma_cons (me_cell ma_nil) ma_nil)) rfl)
  (ms_cons
  (ms_for (tg := (.nm 4)) PassesOwn.never rfl (mi_range1 rfl T.n_range (ma_cons (mv 1) ma_nil)) (mgn 4 nd) (ms_cons
  (ms_expr (me_append (mv 2) (ma_cons (me_add (me_add (me_mulX (me_tup (ma_cons (me_tup (ma_cons me_int (ma_cons me_int ma_nil))) ma_nil)) (mv 4)) (me_tup (ma_cons (me_tup (ma_cons me_int (ma_cons me_int ma_nil))) ma_nil))) (me_call (ok_law_line T) (hr.mono (by decide)) hgd rfl T.g_law_line T.u_law_line.kp (b_law_line_binds T) rfl (ma_cons (mv 0) (ma_cons (me_sub (me_sub (mv 1) me_int) (mv 4)) ma_nil)) (al_cons' (al_cons' al_nil')))) ma_nil)))
  (ms_cons
  (ms_expr (me_append (mv 3) (ma_cons (me_call (ok_law_frac T) (hr.mono (by decide)) hgd rfl T.g_law_frac T.u_law_frac.kp (b_law_frac_binds T) rfl (ma_cons (me_add me_int (me_call (ok_law_take T) (hr.mono (by decide)) hgd rfl T.g_law_take T.u_law_take.kp (b_law_take_binds T) rfl (ma_cons (mv 0) (ma_cons me_int ma_nil)) (al_cons' (al_cons' al_nil')))) (ma_cons (me_add me_int (me_call (ok_law_take T) (hr.mono (by decide)) hgd rfl T.g_law_take T.u_law_take.kp (b_law_take_binds T) rfl (ma_cons (mv 0) (ma_cons me_int ma_nil)) (al_cons' (al_cons' al_nil')))) ma_nil)) (al_cons' (al_cons' al_nil'))) ma_nil)))
  ms_nil)))
  (ms_cons
  (ms_ret (me_call (ok_law_of_squares T) (hr.mono (by decide)) hgd rfl T.g_law_of_squares T.u_law_of_squares.kp (b_law_of_squares_binds T) rfl (ma_cons (me_freeze (mv 3)) (ma_cons (me_freeze (mv 2)) ma_nil)) (al_cons' (al_cons' al_nil'))))
  ms_nil)))
theorem ok_law_table (T : Tx P w K mg base) : FnG P w K mg base 5 T.f_law_table T.d_law_table ["urn", "size"] (spM K 2 F_law_table) := (okr_law_table T).trim

theorem b_law_size_binds (T : Tx P w K mg base) : Binds K T.d_law_size ["urn"] [] := T.u_law_size.binds (ps := ["urn"]) fun _ _ _ _ _ _ us hl => match us, hl with | [_], _ => rfl
theorem okr_law_size (T : Tx P w K mg base) : FnG P w K mg base 2 T.f_law_size T.d_law_size ["urn"] (spM K 1 (fnM 1 b_law_size)) := by
  have h0 := @fnG P w K mg base "_law_size" "_law_size" s_law_size T.f_law_size T.d_law_size ["urn"] ["urn"] 1 b_law_size T.u_law_size sc_law_size
  refine h0 fun cdv A outer s H E hr hgd => ?_
  have hu := hr.units
  have hu2 := hu66 hr
  have nd := sc_law_size.nd
  unfold b_law_size
  exact (ms_cons
  (ms_ret (me_at (me_tup (ma_cons me_int (ma_cons me_int (ma_cons me_int (ma_cons me_int (ma_cons me_int (ma_cons me_int (ma_cons me_int (ma_cons me_int (ma_cons me_int (ma_cons me_int ma_nil))))))))))) (me_call (ok_law_take T) (hr.mono (by decide)) hgd rfl T.g_law_take T.u_law_take.kp (b_law_take_binds T) rfl (ma_cons (mv 0) (ma_cons me_int ma_nil)) (al_cons' (al_cons' al_nil'))) (fun _ _ => rfl)))
  ms_nil)
theorem ok_law_size (T : Tx P w K mg base) : FnG P w K mg base 2 T.f_law_size T.d_law_size ["urn"] (spM K 1 F_law_size) := (okr_law_size T).trim

theorem b_law_same_binds (T : Tx P w K mg base) : Binds K T.d_law_same ["told", "due"] [] := T.u_law_same.binds (ps := ["told", "due"]) fun _ _ _ _ _ _ us hl => match us, hl with | [_, _], _ => rfl
theorem ok_law_same (T : Tx P w K mg base) : ∀ n : Nat, FnG P w K mg base (1 + n) T.f_law_same T.d_law_same ["told", "due"] (spM K 2 (F_law_same n))
  | 0 => fnG_none rfl
  | n + 1 => by
    have ih := ok_law_same T n
    have h0 := @fnG P w K mg base "_law_same" "_law_same" s_law_same T.f_law_same T.d_law_same ["told", "due", "x", "y"] ["told", "due"] (1 + n) (b_law_same (F_law_same n)) T.u_law_same sc_law_same
    refine FnG.trim (h0 fun cdv A outer s H E hr hgd => ?_)
    have hu := hr.units
    have hu2 := hu66 hr
    have nd := sc_law_same.nd
    unfold b_law_same
    exact (ms_cons
  (ms_if (mt_val (me_isE (T := "tuple") (by decide +kernel) rfl T.n_isinstance rfl T.n_tuple (by first | rfl | decide +kernel) (mv 1))) (ms_cons
  (ms_ret (me_and (me_isE (T := "tuple") (by decide +kernel) rfl T.n_isinstance rfl T.n_tuple (by first | rfl | decide +kernel) (mv 0)) (me_and (me_eq hu (me_callB call_len_seq opN_len rfl T.n_len PySem.boot_len (ma_cons (mv 0) ma_nil)) (me_callB call_len_seq opN_len rfl T.n_len PySem.boot_len (ma_cons (mv 1) ma_nil))) (me_one (me_callB (cr_all rfl) opN_all rfl T.n_all (by decide +kernel) (ma_cons (me_lc (own := [("x", 2), ("y", 3)]) (tg := (.tp ((.nm 2) :: ((.nm 3) :: [])))) rfl nd (mi_zip rfl T.n_zip (ma_cons (mv 0) (ma_cons (mv 1) ma_nil))) (blkOk_by (N := ["told", "due", "x", "y"]) (sc := (defScope s_law_same)) (by decide +kernel)) (by decide) (fun _ _ _ _ _ => (mg_tup rfl (mgs_cons (mgn 2 nd) (mgs_cons (mgn 3 nd) mgs_nil)))) (fun _ _ _ _ _ => mts_nil) (fun _ _ _ _ _ => (me_call ih hr hgd rfl T.g_law_same T.u_law_same.kp (b_law_same_binds T) rfl (ma_cons (mv 2) (ma_cons (mv 3) ma_nil)) (al_cons' (al_cons' al_nil'))))) ma_nil))))))
  ms_nil) ms_nil)
  (ms_cons
  (ms_if (mt_w (mw_or (mt_isN (mv 1)) (mw_or1 (mt_val (me_isE (T := "bool") (by decide +kernel) rfl T.n_isinstance rfl T.n_bool (by first | rfl | decide +kernel) (mv 1)))))) (ms_cons
  (ms_ret (me_if (mt_isN (mv 1)) (me_isN (mv 0)) (me_and (me_isE (T := "bool") (by decide +kernel) rfl T.n_isinstance rfl T.n_bool (by first | rfl | decide +kernel) (mv 0)) (me_one (me_eq hu (mv 0) (mv 1))))))
  ms_nil) ms_nil)
  (ms_cons
  (ms_ret (me_and (me_isE (T := "int") (by decide +kernel) rfl T.n_isinstance rfl T.n_int (by first | rfl | decide +kernel) (mv 0)) (me_and (me_not (me_isE (T := "bool") (by decide +kernel) rfl T.n_isinstance rfl T.n_bool (by first | rfl | decide +kernel) (mv 0))) (me_one (me_eq hu (mv 0) (mv 1))))))
  ms_nil)))

theorem b_law_odd_binds (T : Tx P w K mg base) : Binds K T.d_law_odd ["urn"] [] := T.u_law_odd.binds (ps := ["urn"]) fun _ _ _ _ _ _ us hl => match us, hl with | [_], _ => rfl
theorem okr_law_odd (T : Tx P w K mg base) : FnG P w K mg base 3 T.f_law_odd T.d_law_odd ["urn"] (spM K 1 (fnM 1 b_law_odd)) := by
  have h0 := @fnG P w K mg base "_law_odd" "_law_odd" s_law_odd T.f_law_odd T.d_law_odd ["urn"] ["urn"] 2 b_law_odd T.u_law_odd sc_law_odd
  refine h0 fun cdv A outer s H E hr hgd => ?_
  have hu := hr.units
  have hu2 := hu66 hr
  have nd := sc_law_odd.nd
  unfold b_law_odd
  exact (ms_cons
  (ms_ret (me_call (ok_law_pick T) (hr.mono (by decide)) hgd rfl T.g_law_pick T.u_law_pick.kp (b_law_pick_binds T) rfl (ma_cons (mv 0) (ma_cons (me_tup (ma_cons me_non (ma_cons me_bl (ma_cons me_bl (ma_cons me_int (ma_cons me_int (ma_cons (me_neg me_int) (ma_cons me_int (ma_cons (me_pow me_int me_int) (ma_cons me_str (ma_cons me_str (ma_cons me_str (ma_cons (me_tup ma_nil) (ma_cons (me_tup (ma_cons me_int ma_nil)) (ma_cons (me_tup (ma_cons me_int (ma_cons me_int ma_nil))) (ma_cons (me_tup (ma_cons me_int (ma_cons me_int ma_nil))) (ma_cons (me_tup (ma_cons me_int (ma_cons me_int ma_nil))) (ma_cons (me_tup (ma_cons me_int (ma_cons me_int ma_nil))) (ma_cons (me_tup (ma_cons me_int (ma_cons me_int ma_nil))) (ma_cons (me_tup (ma_cons me_int (ma_cons (me_neg me_int) ma_nil))) (ma_cons (me_tup (ma_cons me_bl (ma_cons me_int ma_nil))) (ma_cons (me_tup (ma_cons me_int (ma_cons me_bl ma_nil))) (ma_cons (me_tup (ma_cons me_int (ma_cons me_int (ma_cons me_int ma_nil)))) (ma_cons (me_tup (ma_cons (me_tup (ma_cons me_int (ma_cons me_int ma_nil))) ma_nil)) (ma_cons (me_tup (ma_cons (me_tup (ma_cons (me_tup (ma_cons me_int (ma_cons me_int ma_nil))) ma_nil)) ma_nil)) (ma_cons (me_fl ma_nil) (ma_cons (me_fl (ma_cons me_int (ma_cons me_int ma_nil))) (ma_cons (me_fl (ma_cons (me_tup (ma_cons me_int (ma_cons me_int ma_nil))) ma_nil)) (ma_cons me_dct0 (ma_cons (me_tup (ma_cons me_non (ma_cons me_int ma_nil))) (ma_cons (me_tup (ma_cons me_str (ma_cons me_int ma_nil))) (ma_cons (me_tup (ma_cons (me_tup (ma_cons me_int (ma_cons me_int ma_nil))) (ma_cons me_int ma_nil))) ma_nil)))))))))))))))))))))))))))))))) ma_nil)) (al_cons' (al_cons' al_nil'))))
  ms_nil)
theorem ok_law_odd (T : Tx P w K mg base) : FnG P w K mg base 3 T.f_law_odd T.d_law_odd ["urn"] (spM K 1 F_law_odd) := (okr_law_odd T).trim

theorem b_law_bent_binds (T : Tx P w K mg base) : Binds K T.d_law_bent ["urn", "thing"] [] := T.u_law_bent.binds (ps := ["urn", "thing"]) fun _ _ _ _ _ _ us hl => match us, hl with | [_, _], _ => rfl
theorem ok_law_bent (T : Tx P w K mg base) : ∀ n : Nat, FnG P w K mg base (4 + n) T.f_law_bent T.d_law_bent ["urn", "thing"] (spM K 2 (F_law_bent n))
  | 0 => fnG_none rfl
  | n + 1 => by
    have ih := ok_law_bent T n
    have h0 := @fnG P w K mg base "_law_bent" "_law_bent" s_law_bent T.f_law_bent T.d_law_bent ["urn", "thing", "spot", "branch"] ["urn", "thing"] (4 + n) (b_law_bent (F_law_bent n)) T.u_law_bent sc_law_bent
    refine FnG.trim (h0 fun cdv A outer s H E hr hgd => ?_)
    have hu := hr.units
    have hu2 := hu66 hr
    have nd := sc_law_bent.nd
    unfold b_law_bent
    exact (ms_cons
  (ms_if (mt_w (mw_and (mt_val (me_isE (T := "tuple") (by decide +kernel) rfl T.n_isinstance rfl T.n_tuple (by first | rfl | decide +kernel) (mv 1))) (mw_and (mt_neN hu (mv 1) (me_tup ma_nil)) (mw_and1 (mt_gt (me_call (ok_law_take T) (hr.mono (by omega)) hgd rfl T.g_law_take T.u_law_take.kp (b_law_take_binds T) rfl (ma_cons (mv 0) (ma_cons me_int ma_nil)) (al_cons' (al_cons' al_nil'))) me_int))))) (ms_cons
  (mset 2 nd (me_call (ok_law_take T) (hr.mono (by omega)) hgd rfl T.g_law_take T.u_law_take.kp (b_law_take_binds T) rfl (ma_cons (mv 0) (ma_cons (me_callB call_len_seq opN_len rfl T.n_len PySem.boot_len (ma_cons (mv 1) ma_nil)) ma_nil)) (al_cons' (al_cons' al_nil'))))
  (ms_cons
  (ms_ret (me_addB (me_addB (me_cut (mv 1) mo_none (mo_some (mv 2))) (me_tup (ma_cons (me_call ih hr hgd rfl T.g_law_bent T.u_law_bent.kp (b_law_bent_binds T) rfl (ma_cons (mv 0) (ma_cons (me_at (mv 1) (mv 2) (fun _ _ => rfl)) ma_nil)) (al_cons' (al_cons' al_nil'))) ma_nil))) (me_cut (mv 1) (mo_some (me_addB (mv 2) me_int)) mo_none)))
  ms_nil)) ms_nil)
  (ms_cons
  (mset 3 nd (me_call (ok_law_take T) (hr.mono (by omega)) hgd rfl T.g_law_take T.u_law_take.kp (b_law_take_binds T) rfl (ma_cons (mv 0) (ma_cons me_int ma_nil)) (al_cons' (al_cons' al_nil'))))
  (ms_cons
  (ms_if (mt_w (mw_and (mt_val (me_isE (T := "tuple") (by decide +kernel) rfl T.n_isinstance rfl T.n_tuple (by first | rfl | decide +kernel) (mv 1))) (mw_and1 (mt_lt (mv 3) me_int)))) (ms_cons
  (ms_ret (me_at (me_tup (ma_cons (me_callTy call_list_of opN_list rfl T.n_list (by decide +kernel) (ma_cons (mv 1) ma_nil)) (ma_cons (me_cut (mv 1) mo_none (mo_some (me_neg me_int))) (ma_cons (me_addB (mv 1) (me_cut (mv 1) mo_none (mo_some me_int))) (ma_cons (me_back (mv 1)) (ma_cons (me_cut (mv 1) (mo_some me_int) mo_none) ma_nil)))))) (mv 3) (fun _ _ => rfl)))
  ms_nil) ms_nil)
  (ms_cons
  (ms_if (mt_w (mw_and (mt_val (me_isE (T := "int") (by decide +kernel) rfl T.n_isinstance rfl T.n_int (by first | rfl | decide +kernel) (mv 1))) (mw_and1 (mt_lt (mv 3) me_int)))) (ms_cons
  (ms_ret (me_at (me_tup (ma_cons (me_addB (mv 1) me_int) (ma_cons (me_subB me_int (mv 1)) (ma_cons (me_mulB me_int (mv 1)) (ma_cons (me_subB (mv 1) me_int) ma_nil))))) (mv 3) (fun _ _ => rfl)))
  ms_nil) ms_nil)
  (ms_cons
  (ms_ret (me_call (ok_law_odd T) (hr.mono (by omega)) hgd rfl T.g_law_odd T.u_law_odd.kp (b_law_odd_binds T) rfl (ma_cons (mv 0) ma_nil) (al_cons' al_nil')))
  ms_nil)))))

theorem b_law_form_binds (T : Tx P w K mg base) : Binds K T.d_law_form ["urn", "size"] [] := T.u_law_form.binds (ps := ["urn", "size"]) fun _ _ _ _ _ _ us hl => match us, hl with | [_, _], _ => rfl
theorem okr_law_form (T : Tx P w K mg base) : FnG P w K mg base 5 T.f_law_form T.d_law_form ["urn", "size"] (spM K 2 (fnM 8 b_law_form)) := by
  have h0 := @fnG P w K mg base "_law_form" "_law_form" s_law_form T.f_law_form T.d_law_form ["urn", "size", "found", "spot", "heights", "lines", "turn", "line"] ["urn", "size"] 4 b_law_form T.u_law_form sc_law_form
  refine h0 fun cdv A outer s H E hr hgd => ?_
  have hu := hr.units
  have hu2 := hu66 hr
  have nd := sc_law_form.nd
  unfold b_law_form
  exact (ms_cons
  (ms_if (mt_eq hu (me_call (ok_law_take T) (hr.mono (by decide)) hgd rfl T.g_law_take T.u_law_take.kp (b_law_take_binds T) rfl (ma_cons (mv 0) (ma_cons me_int ma_nil)) (al_cons' (al_cons' al_nil'))) me_int) (ms_cons
  (mset 2 nd (me_cell ma_nil))
  (ms_cons
  (ms_for (tg := (.nm 3)) PassesOwn.never rfl (mi_range1 rfl T.n_range (ma_cons (mv 1) ma_nil)) (mgn 3 nd) (ms_cons
  (ms_expr (me_append (mv 2) (ma_cons (me_add (me_lcV (own := [("line", 7)]) (tg := (.nm 7)) rfl nd (mv 2) (blkOk_by (N := ["urn", "size", "found", "spot", "heights", "lines", "turn", "line"]) (sc := (defScope s_law_form)) (by decide +kernel)) (by decide) (fun _ _ _ _ _ => (mgn 7 nd)) (fun _ _ _ _ _ => mts_nil) (fun _ _ _ _ _ => (me_at (mv 7) (mv 3) (fun _ _ => rfl)))) (me_callTy call_list_of opN_list rfl T.n_list (by decide +kernel) (ma_cons (me_call (ok_law_line T) (hr.mono (by decide)) hgd rfl T.g_law_line T.u_law_line.kp (b_law_line_binds T) rfl (ma_cons (mv 0) (ma_cons (me_sub (mv 1) (mv 3)) ma_nil)) (al_cons' (al_cons' al_nil'))) ma_nil))) ma_nil)))
  ms_nil))
  (ms_cons
  (ms_ret (me_callTy call_tuple_of opN_tuple rfl T.n_tuple (by decide +kernel) (ma_cons (me_lcV (own := [("line", 7)]) (tg := (.nm 7)) rfl nd (mv 2) (blkOk_by (N := ["urn", "size", "found", "spot", "heights", "lines", "turn", "line"]) (sc := (defScope s_law_form)) (by decide +kernel)) (by decide) (fun _ _ _ _ _ => (mgn 7 nd)) (fun _ _ _ _ _ => mts_nil) (fun _ _ _ _ _ => (me_callTy call_tuple_of opN_tuple rfl T.n_tuple (by decide +kernel) (ma_cons (mv 7) ma_nil)))) ma_nil)))
  ms_nil))) ms_nil)
  (ms_cons
  (ms_par (i := 4) (j := 5) rfl nd rfl rfl (by decide) rfl rfl (ma_cons (me_cell ma_nil) (ma_cons (me_cell ma_nil) ma_nil)) rfl)
  (ms_cons
  (ms_for (tg := (.nm 6)) PassesOwn.never rfl (mi_range1 rfl T.n_range (ma_cons (me_add me_int (me_call (ok_law_take T) (hr.mono (by decide)) hgd rfl T.g_law_take T.u_law_take.kp (b_law_take_binds T) rfl (ma_cons (mv 0) (ma_cons (mv 1) ma_nil)) (al_cons' (al_cons' al_nil')))) ma_nil)) (mgn 6 nd) (ms_cons
  (ms_expr (me_append (mv 4) (ma_cons (me_call (ok_law_number T) (hr.mono (by decide)) hgd rfl T.g_law_number T.u_law_number.kp (b_law_number_binds T) rfl (ma_cons (mv 0) ma_nil) (al_cons' al_nil')) ma_nil)))
  (ms_cons
  (ms_expr (me_append (mv 5) (ma_cons (me_call (ok_law_line T) (hr.mono (by decide)) hgd rfl T.g_law_line T.u_law_line.kp (b_law_line_binds T) rfl (ma_cons (mv 0) (ma_cons (mv 1) ma_nil)) (al_cons' (al_cons' al_nil'))) ma_nil)))
  ms_nil)))
  (ms_cons
  (ms_ret (me_call (ok_law_of_squares T) (hr.mono (by decide)) hgd rfl T.g_law_of_squares T.u_law_of_squares.kp (b_law_of_squares_binds T) rfl (ma_cons (me_freeze (mv 4)) (ma_cons (me_freeze (mv 5)) ma_nil)) (al_cons' (al_cons' al_nil'))))
  ms_nil))))
theorem ok_law_form (T : Tx P w K mg base) : FnG P w K mg base 5 T.f_law_form T.d_law_form ["urn", "size"] (spM K 2 F_law_form) := (okr_law_form T).trim

theorem b_law_square_binds (T : Tx P w K mg base) : Binds K T.d_law_square ["urn", "size"] [] := T.u_law_square.binds (ps := ["urn", "size"]) fun _ _ _ _ _ _ us hl => match us, hl with | [_, _], _ => rfl
theorem okr_law_square (T : Tx P w K mg base) : FnG P w K mg base 4 T.f_law_square T.d_law_square ["urn", "size"] (spM K 2 (fnM 4 b_law_square)) := by
  have h0 := @fnG P w K mg base "_law_square" "_law_square" s_law_square T.f_law_square T.d_law_square ["urn", "size", "found", "turn"] ["urn", "size"] 3 b_law_square T.u_law_square sc_law_square
  refine h0 fun cdv A outer s H E hr hgd => ?_
  have hu := hr.units
  have hu2 := hu66 hr
  have nd := sc_law_square.nd
  unfold b_law_square
  exact (ms_cons
  (mset 2 nd (me_cell ma_nil))
  (ms_cons
  (ms_for (tg := (.nm 3)) PassesOwn.never rfl (mi_range1 rfl T.n_range (ma_cons (mv 1) ma_nil)) (mgn 3 nd) (ms_cons
  (ms_expr (me_append (mv 2) (ma_cons (me_call (ok_law_line T) (hr.mono (by decide)) hgd rfl T.g_law_line T.u_law_line.kp (b_law_line_binds T) rfl (ma_cons (mv 0) (ma_cons (mv 1) ma_nil)) (al_cons' (al_cons' al_nil'))) ma_nil)))
  ms_nil))
  (ms_cons
  (ms_ret (me_callTy call_tuple_of opN_tuple rfl T.n_tuple (by decide +kernel) (ma_cons (mv 2) ma_nil)))
  ms_nil)))
theorem ok_law_square (T : Tx P w K mg base) : FnG P w K mg base 4 T.f_law_square T.d_law_square ["urn", "size"] (spM K 2 F_law_square) := (okr_law_square T).trim

theorem b_law_is_any_right_binds (T : Tx P w K mg base) : Binds K T.d_law_is_any_right ["urn"] [] := T.u_law_is_any_right.binds (ps := ["urn"]) fun _ _ _ _ _ _ us hl => match us, hl with | [_], _ => rfl
theorem okr_law_is_any_right (T : Tx P w K mg base) : FnG P w K mg base 25 T.f_law_is_any_right T.d_law_is_any_right ["urn"] (spM K 1 (fnM 4 b_law_is_any_right)) := by
  have h0 := @fnG P w K mg base "_law_is_any_right" "_law_is_any_right" s_law_is_any_right T.f_law_is_any_right T.d_law_is_any_right ["urn", "thing", "turn", "due"] ["urn"] 24 b_law_is_any_right T.u_law_is_any_right sc_law_is_any_right
  refine h0 fun cdv A outer s H E hr hgd => ?_
  have hu := hr.units
  have hu2 := hu66 hr
  have nd := sc_law_is_any_right.nd
  unfold b_law_is_any_right
  exact (ms_cons
  (mset 1 nd (me_if (mt_gt (me_call (ok_law_take T) (hr.mono (by decide)) hgd rfl T.g_law_take T.u_law_take.kp (b_law_take_binds T) rfl (ma_cons (mv 0) (ma_cons me_int ma_nil)) (al_cons' (al_cons' al_nil'))) me_int) (me_call (ok_law_square T) (hr.mono (by decide)) hgd rfl T.g_law_square T.u_law_square.kp (b_law_square_binds T) rfl (ma_cons (mv 0) (ma_cons (me_add me_int (me_call (ok_law_take T) (hr.mono (by decide)) hgd rfl T.g_law_take T.u_law_take.kp (b_law_take_binds T) rfl (ma_cons (mv 0) (ma_cons me_int ma_nil)) (al_cons' (al_cons' al_nil')))) ma_nil)) (al_cons' (al_cons' al_nil'))) (me_call (ok_law_odd T) (hr.mono (by decide)) hgd rfl T.g_law_odd T.u_law_odd.kp (b_law_odd_binds T) rfl (ma_cons (mv 0) ma_nil) (al_cons' al_nil'))))
  (ms_cons
  (ms_for (tg := (.nm 2)) PassesOwn.never rfl (mi_range1 rfl T.n_range (ma_cons (me_call (ok_law_take T) (hr.mono (by decide)) hgd rfl T.g_law_take T.u_law_take.kp (b_law_take_binds T) rfl (ma_cons (mv 0) (ma_cons me_int ma_nil)) (al_cons' (al_cons' al_nil'))) ma_nil)) (mgn 2 nd) (ms_cons
  (mset 1 nd (me_call (ok_law_bent T 20) (hr.mono (by decide)) hgd rfl T.g_law_bent T.u_law_bent.kp (b_law_bent_binds T) rfl (ma_cons (mv 0) (ma_cons (mv 1) ma_nil)) (al_cons' (al_cons' al_nil'))))
  ms_nil))
  (ms_cons
  (mset 3 nd (me_and (me_isE (T := "tuple") (by decide +kernel) rfl T.n_isinstance rfl T.n_tuple (by first | rfl | decide +kernel) (mv 1)) (me_and (me_chain op_ltI op_ltI op2_B op2_B me_int (me_callB call_len_seq opN_len rfl T.n_len PySem.boot_len (ma_cons (mv 1) ma_nil)) me_int) (me_one (me_call (ok_law_is_grid T) (hr.mono (by decide)) hgd rfl T.g_law_is_grid T.u_law_is_grid.kp (b_law_is_grid_binds T) rfl (ma_cons (mv 1) (ma_cons (me_callB call_len_seq opN_len rfl T.n_len PySem.boot_len (ma_cons (mv 1) ma_nil)) ma_nil)) (al_cons' (al_cons' al_nil')))))))
  (ms_cons
  (ms_ret (me_call (ok_law_same T 20) (hr.mono (by decide)) hgd rfl T.g_law_same T.u_law_same.kp (b_law_same_binds T) rfl (ma_cons (me_tup (ma_cons (me_call (ok_is_table T) (hr.mono (by decide)) hgd rfl T.g_is_table T.u_is_table.kp (b_is_table_binds T) rfl (ma_cons (mv 1) ma_nil) (al_cons' al_nil')) (ma_cons (me_callK (names := ["value"]) (π := [0]) (ok_is_table T) (hr.mono (by decide)) hgd rfl T.g_is_table T.u_is_table.kp (fun_bindsK T.u_is_table fun _ _ _ _ _ _ us ys hl hp => match us, hl, hp with | [_], _, hp => by cases hp; rfl) (mk_cons (mv 1) mk_nil) (al_cons' al_nil') rfl) ma_nil))) (ma_cons (me_tup (ma_cons (mv 3) (ma_cons (mv 3) ma_nil))) ma_nil)) (al_cons' (al_cons' al_nil'))))
  ms_nil))))
theorem ok_law_is_any_right (T : Tx P w K mg base) : FnG P w K mg base 25 T.f_law_is_any_right T.d_law_is_any_right ["urn"] (spM K 1 F_law_is_any_right) := (okr_law_is_any_right T).trim

theorem b_law_right_binds (T : Tx P w K mg base) : Binds K T.d_law_right ["urn"] [] := T.u_law_right.binds (ps := ["urn"]) fun _ _ _ _ _ _ us hl => match us, hl with | [_], _ => rfl
theorem okr_law_right (T : Tx P w K mg base) : FnG P w K mg base 26 T.f_law_right T.d_law_right ["urn"] (spM K 1 (fnM 9 b_law_right)) := by
  have h0 := @fnG P w K mg base "_law_right" "_law_right" s_law_right T.f_law_right T.d_law_right ["urn", "turn", "size", "shape", "line", "more", "due", "grid", "told"] ["urn"] 25 b_law_right T.u_law_right sc_law_right
  refine h0 fun cdv A outer s H E hr hgd => ?_
  have hu := hr.units
  have hu2 := hu66 hr
  have nd := sc_law_right.nd
  unfold b_law_right
  exact (ms_cons
  (ms_for (tg := (.nm 1)) PassesOwn.never rfl (mi_range1 rfl T.n_range (ma_cons me_int ma_nil)) (mgn 1 nd) (ms_cons
  (ms_if (mt_not (mt_val (me_call (ok_law_is_any_right T) (hr.mono (by decide)) hgd rfl T.g_law_is_any_right T.u_law_is_any_right.kp (b_law_is_any_right_binds T) rfl (ma_cons (mv 0) ma_nil) (al_cons' al_nil')))) (ms_cons
  (ms_ret me_bl)
  ms_nil) ms_nil)
  ms_nil))
  (ms_cons
  (mset 2 nd (me_call (ok_law_size T) (hr.mono (by decide)) hgd rfl T.g_law_size T.u_law_size.kp (b_law_size_binds T) rfl (ma_cons (mv 0) ma_nil) (al_cons' al_nil')))
  (ms_cons
  (ms_par3 (i := 3) (j := 4) (l := 5) rfl nd rfl rfl rfl (by decide) (by decide) (by decide) rfl rfl rfl (ma_cons (me_call (ok_law_form T) (hr.mono (by decide)) hgd rfl T.g_law_form T.u_law_form.kp (b_law_form_binds T) rfl (ma_cons (mv 0) (ma_cons (mv 2) ma_nil)) (al_cons' (al_cons' al_nil'))) (ma_cons (me_call (ok_law_line T) (hr.mono (by decide)) hgd rfl T.g_law_line T.u_law_line.kp (b_law_line_binds T) rfl (ma_cons (mv 0) (ma_cons (mv 2) ma_nil)) (al_cons' (al_cons' al_nil'))) (ma_cons (me_call (ok_law_line T) (hr.mono (by decide)) hgd rfl T.g_law_line T.u_law_line.kp (b_law_line_binds T) rfl (ma_cons (mv 0) (ma_cons (mv 2) ma_nil)) (al_cons' (al_cons' al_nil'))) ma_nil))) rfl)
  (ms_cons
  (mset 6 nd (me_call (ok_law_at T) (hr.mono (by decide)) hgd rfl T.g_law_at T.u_law_at.kp (b_law_at_binds T) rfl (ma_cons (mv 3) (ma_cons (mv 4) ma_nil)) (al_cons' (al_cons' al_nil'))))
  (ms_cons
  (ms_if (mt_not (mt_val (me_call (ok_law_same T 20) (hr.mono (by decide)) hgd rfl T.g_law_same T.u_law_same.kp (b_law_same_binds T) rfl (ma_cons (me_tup (ma_cons (me_call (ok_worth T) (hr.mono (by decide)) hgd rfl T.g_worth T.u_worth.kp (b_worth_binds T) rfl (ma_cons (mv 3) (ma_cons (mv 4) ma_nil)) (al_cons' (al_cons' al_nil'))) (ma_cons (me_callK (names := ["row", "form"]) (π := [1, 0]) (ok_worth T) (hr.mono (by decide)) hgd rfl T.g_worth T.u_worth.kp (fun_bindsK T.u_worth fun _ _ _ _ _ _ us ys hl hp => match us, hl, hp with | [_, _], _, hp => by cases hp; rfl) (mk_cons (mv 4) (mk_cons (mv 3) mk_nil)) (al_cons' (al_cons' al_nil')) rfl) ma_nil))) (ma_cons (me_tup (ma_cons (mv 6) (ma_cons (mv 6) ma_nil))) ma_nil)) (al_cons' (al_cons' al_nil'))))) (ms_cons
  (ms_ret me_bl)
  ms_nil) ms_nil)
  (ms_cons
  (mset 7 nd (me_call (ok_law_table T) (hr.mono (by decide)) hgd rfl T.g_law_table T.u_law_table.kp (b_law_table_binds T) rfl (ma_cons (mv 0) (ma_cons (mv 2) ma_nil)) (al_cons' (al_cons' al_nil'))))
  (ms_cons
  (mset 6 nd (me_call (ok_law_dot T) (hr.mono (by decide)) hgd rfl T.g_law_dot T.u_law_dot.kp (b_law_dot_binds T) rfl (ma_cons (mv 4) (ma_cons (me_call (ok_law_go T) (hr.mono (by decide)) hgd rfl T.g_law_go T.u_law_go.kp (b_law_go_binds T) rfl (ma_cons (mv 7) (ma_cons (mv 5) ma_nil)) (al_cons' (al_cons' al_nil'))) ma_nil)) (al_cons' (al_cons' al_nil'))))
  (ms_cons
  (mset 8 nd (me_tup (ma_cons (me_call (ok_energy_product T) (hr.mono (by decide)) hgd rfl T.g_energy_product T.u_energy_product.kp (b_energy_product_binds T) rfl (ma_cons (mv 7) (ma_cons (mv 4) (ma_cons (mv 5) ma_nil))) (al_cons' (al_cons' (al_cons' al_nil')))) (ma_cons (me_callK (names := ["other", "row", "table"]) (π := [2, 1, 0]) (ok_energy_product T) (hr.mono (by decide)) hgd rfl T.g_energy_product T.u_energy_product.kp (fun_bindsK T.u_energy_product fun _ _ _ _ _ _ us ys hl hp => match us, hl, hp with | [_, _, _], _, hp => by cases hp; rfl) (mk_cons (mv 4) (mk_cons (mv 5) (mk_cons (mv 7) mk_nil))) (al_cons' (al_cons' (al_cons' al_nil'))) rfl) ma_nil))))
  (ms_cons
  (ms_ret (me_and (me_call (ok_law_same T 20) (hr.mono (by decide)) hgd rfl T.g_law_same T.u_law_same.kp (b_law_same_binds T) rfl (ma_cons (mv 8) (ma_cons (me_tup (ma_cons (mv 6) (ma_cons (mv 6) ma_nil))) ma_nil)) (al_cons' (al_cons' al_nil'))) (me_one (me_call (ok_law_same T 20) (hr.mono (by decide)) hgd rfl T.g_law_same T.u_law_same.kp (b_law_same_binds T) rfl (ma_cons (me_call (ok_worth T) (hr.mono (by decide)) hgd rfl T.g_worth T.u_worth.kp (b_worth_binds T) rfl (ma_cons (mv 7) (ma_cons (mv 5) ma_nil)) (al_cons' (al_cons' al_nil'))) (ma_cons (me_call (ok_law_at T) (hr.mono (by decide)) hgd rfl T.g_law_at T.u_law_at.kp (b_law_at_binds T) rfl (ma_cons (mv 7) (ma_cons (mv 5) ma_nil)) (al_cons' (al_cons' al_nil'))) ma_nil)) (al_cons' (al_cons' al_nil'))))))
  ms_nil)))))))))
theorem ok_law_right (T : Tx P w K mg base) : FnG P w K mg base 26 T.f_law_right T.d_law_right ["urn"] (spM K 1 F_law_right) := (okr_law_right T).trim

theorem b_law_binds (T : Tx P w K mg base) : Binds K T.d_law ["script"] [] := T.u_law.binds (ps := ["script"]) fun _ _ _ _ _ _ us hl => match us, hl with | [_], _ => rfl
theorem okr_law (T : Tx P w K mg base) : FnG P w K mg base 27 T.f_law T.d_law ["script"] (spM K 1 (fnM 2 b_law)) := by
  have h0 := @fnG P w K mg base "law" "law" s_law T.f_law T.d_law ["script", "turn"] ["script"] 26 b_law T.u_law sc_law
  refine h0 fun cdv A outer s H E hr hgd => ?_
  have hu := hr.units
  have hu2 := hu66 hr
  have nd := sc_law.nd
  unfold b_law
  exact (ms_cons
  (ms_ret (me_callB (cr_all rfl) opN_all rfl T.n_all (by decide +kernel) (ma_cons (me_lc (own := [("turn", 1)]) (tg := (.nm 1)) rfl nd (mi_range1 rfl T.n_range (ma_cons (me_callB (call_max2 rfl) opN_max2 rfl T.n_max (by decide +kernel) (ma_cons me_int (ma_cons (me_callB (call_min2 rfl) opN_min2 rfl T.n_min (by decide +kernel) (ma_cons (me_callB call_len_seq opN_len rfl T.n_len PySem.boot_len (ma_cons (mv 0) ma_nil)) (ma_cons me_int ma_nil))) ma_nil))) ma_nil)) (blkOk_by (N := ["script", "turn"]) (sc := (defScope s_law)) (by decide +kernel)) (by decide) (fun _ _ _ _ _ => (mgn 1 nd)) (fun _ _ _ _ _ => mts_nil) (fun _ _ _ _ _ => (me_call (ok_law_right T) (hr.mono (by decide)) hgd rfl T.g_law_right T.u_law_right.kp (b_law_right_binds T) rfl (ma_cons (me_call (ok_law_urn T) (hr.mono (by decide)) hgd rfl T.g_law_urn T.u_law_urn.kp (b_law_urn_binds T) rfl (ma_cons (mv 0) (ma_cons (mv 1) ma_nil)) (al_cons' (al_cons' al_nil'))) ma_nil) (al_cons' al_nil')))) ma_nil)))
  ms_nil)
theorem ok_law (T : Tx P w K mg base) : FnG P w K mg base 27 T.f_law T.d_law ["script"] (spM K 1 F_law) := (okr_law T).trim

end
end K02

set_option Elab.async false
set_option linter.all false
set_option maxRecDepth 100000
set_option autoImplicit false
set_option maxHeartbeats 4000000
namespace Lib
open PySem PySem.Spec L2 HM
open PyProof.Rows hiding St
/-- a gcd by rests: at most 2 k + 1 tests below 2 ^ k -/
def gcdT : TM := mTest (mBin fNe (mVar 3) (mC (.int 0)))
def gcdB : SM := sSeq (sPar 2 3 (aCons (mVar 3) (aCons (mBin fMod (mCall fInt (aCons (mVar 2) aNil)) (mVar 3)) aNil))) sNx
theorem ne_int (i j : Int) (S : Sto) : fNe (.val (.int i)) (.val (.int j)) S = some (.val (.bl (!decide (i = j))), S) := by
  unfold fNe fEqD
  have e2 : ∀ k : Int, SeqAt.shaped (.int k) = true := fun k => by rfl
  simp only [W.py, D.plain, D.py, if_true, e2, Bool.and_self, PyData.eqv]
  by_cases h : i = j <;> simp [h]
theorem gcd_step (w0 w1 : Option W) (S : Sto) (n : Nat) (a b : Nat) (hb : b ≠ 0) : whileF gcdT gcdB (n + 1) [w0, w1, some (.val (.int (a : Int))), some (.val (.int (b : Int)))] S = whileF gcdT gcdB n [w0, w1, some (.val (.int (b : Int))), some (.val (.int ((a % b : Nat) : Int)))] S := by
  have h0 : decide ((b : Int) = 0) = false := decide_eq_false (by omega)
  have h1 : decide ((0 : Int) < (b : Int)) = true := decide_eq_true (by omega)
  have e : ((a : Int) % (b : Int)) = ((a % b : Nat) : Int) := by simp
  have t : gcdT [w0, w1, some (.val (.int (a : Int))), some (.val (.int (b : Int)))] S = some (true, S) := by
    simp only [gcdT, mTest, mBin, mVar, mC, List.getElem?_cons_zero, List.getElem?_cons_succ, ne_int, h0, Bool.not_false]
  have s : gcdB [w0, w1, some (.val (.int (a : Int))), some (.val (.int (b : Int)))] S = some (.nx, [w0, w1, some (.val (.int (b : Int))), some (.val (.int ((a % b : Nat) : Int)))], S) := by
    simp only [gcdB, sSeq, sPar, aCons, aNil, mCall, mBin, mVar, fInt, fMod, fI, List.getElem?_cons_zero, List.getElem?_cons_succ, h1, if_true, List.set_cons_zero, List.set_cons_succ, sNx, e]
  rw [whileF, t]
  simp only [s]
theorem gcd_end (w0 w1 : Option W) (S : Sto) (n : Nat) (a : Nat) : whileF gcdT gcdB (n + 1) [w0, w1, some (.val (.int (a : Int))), some (.val (.int ((0 : Nat) : Int)))] S = some (.nx, [w0, w1, some (.val (.int (a : Int))), some (.val (.int ((0 : Nat) : Int)))], S) := by
  have h0 : decide (((0 : Nat) : Int) = 0) = true := by decide
  have t : gcdT [w0, w1, some (.val (.int (a : Int))), some (.val (.int ((0 : Nat) : Int)))] S = some (false, S) := by
    simp only [gcdT, mTest, mBin, mVar, mC, List.getElem?_cons_zero, List.getElem?_cons_succ, ne_int, h0, Bool.not_true]
  rw [whileF, t]
theorem gcd_loop (w0 w1 : Option W) (S : Sto) : ∀ (k n a b : Nat), b < 2 ^ k → 2 * k + 1 ≤ n → whileF gcdT gcdB n [w0, w1, some (.val (.int (a : Int))), some (.val (.int (b : Int)))] S = some (.nx, [w0, w1, some (.val (.int (Nat.gcd a b : Int))), some (.val (.int ((0 : Nat) : Int)))], S)
  | k, 0, a, b, _, hn => absurd hn (by omega)
  | 0, n + 1, a, b, hb, _ => by
    have : b = 0 := by simpa using hb
    subst this
    rw [gcd_end, Nat.gcd_zero_right]
  | k + 1, n + 1, a, b, hb, hn => by
    by_cases h0 : b = 0
    · subst h0
      rw [gcd_end, Nat.gcd_zero_right]
    · rw [gcd_step _ _ _ _ _ _ h0]
      obtain ⟨m, rfl⟩ : ∃ m, n = m + 1 := ⟨n - 1, by omega⟩
      have g1 : Nat.gcd a b = Nat.gcd b (a % b) := by rw [Nat.gcd_comm, Nat.gcd_rec, Nat.gcd_comm]
      by_cases h1 : a % b = 0
      · rw [h1, gcd_end, g1, h1, Nat.gcd_zero_right]
      · rw [gcd_step _ _ _ _ _ _ h1]
        have hlt : a % b < b := Nat.mod_lt _ (by omega)
        have hlt2 : b % (a % b) < a % b := Nat.mod_lt _ (by omega)
        have hq : b % (a % b) + a % b ≤ b := by
          have d := Nat.div_add_mod b (a % b)
          have q1 : 1 ≤ b / (a % b) := (Nat.one_le_div_iff (by omega)).mpr (by omega)
          have := Nat.mul_le_mul_left (a % b) q1
          omega
        have hp : 2 ^ (k + 1) = 2 * 2 ^ k := by rw [Nat.pow_succ]; omega
        rw [gcd_loop w0 w1 S k m (a % b) (b % (a % b)) (by omega) (by omega), g1]
        rw [Nat.gcd_comm b (a % b), Nat.gcd_rec (a % b) b, Nat.gcd_comm (b % (a % b))]
/-- a pair of whole numbers in lowest terms -/
theorem frac_ok {a b : Int} {k : Nat} (h : b ≠ 0) (hb : Bits b k) (hk : k < 9000) (S : Sto) : F_law_frac [.val (.int a), .val (.int b)] S = some (.val (fr (Rat.divInt a b)), S) := by
  have hg := gcd_loop (some (.val (.int a))) (some (.val (.int b))) S k 100000 a.natAbs b.natAbs hb (by omega)
  have e1 : iAbs a = (a.natAbs : Int) := by unfold iAbs; split <;> omega
  have e2 : iAbs b = (b.natAbs : Int) := by unfold iAbs; split <;> omega
  have hr : (if 0 < b then ((Nat.gcd a.natAbs b.natAbs : Nat) : Int) else 0 - ((Nat.gcd a.natAbs b.natAbs : Nat) : Int)) = redG a b := by
    unfold redG iGcd
    split <;> split <;> omega
  have hd : cDivF a (redG a b) = true := cDivF_bits (redG_ne h) (redG_bits h hb) hk
  have hd2 : cDivF b (redG a b) = true := cDivF_bits (redG_ne h) (redG_bits h hb) hk
  have hf := fr_red (a := a) (b := b) h
  have hw : sWhile gcdT gcdB = whileF gcdT gcdB 100000 := rfl
  have eb : b_law_frac = sSeq (sPar 2 3 (aCons (mCall (fInt1 iAbs) (aCons (mVar 0) aNil)) (aCons (mCall (fInt1 iAbs) (aCons (mVar 1) aNil)) aNil))) (sSeq (sWhile gcdT gcdB) (sSeq
    (sSet 2 (mIf (mTest (mBin fGt (mVar 1) (mC (.int 0)))) (mVar 2) (mBin fSub (mC (.int 0)) (mVar 2)))) (sSeq
    (sRet (mTup (aCons (mBin fDivF (mVar 0) (mVar 2)) (aCons (mBin fDivF (mVar 1) (mVar 2)) aNil)))) sNx))) := rfl
  have sl : (2 : Nat) ≤ sizeLine := by rw [sizeLine_eq]; decide
  have s1 : (sPar 2 3 (aCons (mCall (fInt1 iAbs) (aCons (mVar 0) aNil)) (aCons (mCall (fInt1 iAbs) (aCons (mVar 1) aNil)) aNil))) [some (.val (.int a)), some (.val (.int b)), none, none] S = some (.nx, [some (.val (.int a)), some (.val (.int b)), some (.val (.int (a.natAbs : Int))), some (.val (.int (b.natAbs : Int)))], S) := by
    simp only [sPar, aCons, aNil, mCall, mVar, fInt1, List.getElem?_cons_zero, List.getElem?_cons_succ, e1, e2, List.set_cons_zero, List.set_cons_succ]
  have s2 : (sSet 2 (mIf (mTest (mBin fGt (mVar 1) (mC (.int 0)))) (mVar 2) (mBin fSub (mC (.int 0)) (mVar 2)))) [some (.val (.int a)), some (.val (.int b)), some (.val (.int ((Nat.gcd a.natAbs b.natAbs : Nat) : Int))), some (.val (.int ((0 : Nat) : Int)))] S = some (.nx, [some (.val (.int a)), some (.val (.int b)), some (.val (.int (redG a b))), some (.val (.int ((0 : Nat) : Int)))], S) := by
    rw [← hr]
    by_cases hb0 : 0 < b
    · rw [if_pos hb0]
      simp [sSet, mIf, mTest, mBin, mVar, mC, fGt, fB, hb0]
    · rw [if_neg hb0]
      simp [sSet, mIf, mTest, mBin, mVar, mC, fGt, fB, hb0, fSub, fI]
  unfold F_law_frac trimF fnM
  rw [eb, ← hf]
  simp only [List.map_cons, List.map_nil, List.length_cons, List.length_nil, List.cons_append, List.nil_append, Nat.reduceAdd, Nat.reduceSub, List.replicate, sSeq, s1, hw, hg, s2]
  simp [sRet, mTup, aCons, aNil, mBin, mVar, fDivF, fI, hd, hd2, vals?, sl]
end Lib

set_option Elab.async false
set_option linter.all false
set_option maxRecDepth 100000
set_option autoImplicit false
set_option maxHeartbeats 4000000
namespace Lib
open PySem PySem.Spec L2 HM
open PyProof.Rows hiding St
/-- both numbers of a fraction have fewer than k bits -/
structure HB (q : Rat) (k : Nat) : Prop where
  num : Bits q.num k
  den : Bits (q.den : Int) k
theorem mulX_int {i j : Int} (h : cMul i j = true) (S : Sto) : fMulX (.val (.int i)) (.val (.int j)) S = some (.val (.int (i * j)), S) := by
  simp [fMulX, fMul, fI, h]
theorem ix0 (q : Rat) (S : Sto) : fIx (.val (fr q)) (.val (.int 0)) S = some (.val (.int q.num), S) := by
  simp [fIx, fr, tItems, L2.atI, ixN]
theorem ix1 (q : Rat) (S : Sto) : fIx (.val (fr q)) (.val (.int 1)) S = some (.val (.int (q.den : Int)), S) := by
  simp [fIx, fr, tItems, L2.atI, ixN]
theorem times_ok {p q : Rat} {k j : Nat} (hp : HB p k) (hq : HB q j) (hk : k + j < 9000) (S : Sto) : F_law_times [.val (fr p), .val (fr q)] S = some (.val (fr (p * q)), S) := by
  have c1 : cMul p.num q.num = true := cMul_bits hp.num hq.num (by omega)
  have c2 : cMul (p.den : Int) (q.den : Int) = true := cMul_bits hp.den hq.den (by omega)
  have hne : (p.den : Int) * (q.den : Int) ≠ 0 := Int.mul_ne_zero (den_ne p) (den_ne q)
  have f := frac_ok (a := p.num * q.num) (b := p.den * q.den) (k := k + j) hne (hp.den.mul hq.den) (by omega) S
  rw [mul_fr] at f
  unfold F_law_times trimF fnM b_law_times
  simp only [sSeq, sRet, mCall, aCons, aNil, mBin, mVar, mC, List.map_cons, List.map_nil, List.length_cons, List.length_nil, List.cons_append, List.nil_append, Nat.reduceAdd, Nat.reduceSub, List.replicate, List.append_nil, List.getElem?_cons_zero, List.getElem?_cons_succ, ix0, ix1, mulX_int c1, mulX_int c2, f, List.take_length]
/-- the product of two rows -/
def dotR : List (Rat × Rat) → Rat
  | [] => 0
  | (p, q) :: r => p * q + dotR r
def dotB : SM := sSeq (sSet 6 (mBin fMulX (mBin fIx (mVar 4) (mC (.int 1))) (mBin fIx (mVar 5) (mC (.int 1))))) (sSeq
  (sPar 2 3 (aCons (mBin fPlus (mBin fMulX (mVar 2) (mVar 6)) (mBin fMulX (mBin fMulX (mBin fIx (mVar 4) (mC (.int 0))) (mBin fIx (mVar 5) (mC (.int 0)))) (mVar 3))) (aCons (mBin fMulX (mVar 3) (mVar 6)) aNil))) sNx)
theorem step_fr (p q : Rat) (t l : Int) (hl : l ≠ 0) : Rat.divInt (t * (p.den * q.den) + p.num * q.num * l) (l * (p.den * q.den)) = Rat.divInt t l + p * q := by
  have h1 := cast_ne (den_ne p)
  have h2 := cast_ne (den_ne q)
  have h3 := cast_ne hl
  have e1 : (p.num : Rat) / ((p.den : Int) : Rat) = p := by rw [← Rat.divInt_eq_div]; exact rat_self p
  have e2 : (q.num : Rat) / ((q.den : Int) : Rat) = q := by rw [← Rat.divInt_eq_div]; exact rat_self q
  rw [Rat.divInt_eq_div, Rat.divInt_eq_div]
  simp only [Rat.intCast_add, Rat.intCast_mul]
  generalize ((p.den : Int) : Rat) = pd at *
  generalize ((q.den : Int) : Rat) = qd at *
  generalize (p.num : Rat) = pn at *
  generalize (q.num : Rat) = qn at *
  generalize (l : Rat) = lr at *
  generalize (t : Rat) = tr at *
  grind
theorem dot_loop {k j : Nat} (w0 w1 : Option W) (S : Sto) : ∀ (ps : List (Rat × Rat)) (t l : Int) (B : Nat) (w4 w5 w6 : Option W), (∀ x ∈ ps, HB x.1 k ∧ HB x.2 j) → l ≠ 0 → Bits t B → Bits l B → B + ps.length * (k + j + 1) < 400000 → k + j < 200000 →
    ∃ t' l' v4 v5 v6, forL (.tp [.nm 4, .nm 5]) dotB (ps.map fun x => D.tup [fr x.1, fr x.2]) [w0, w1, some (.val (.int t)), some (.val (.int l)), w4, w5, w6] S = some (.nx, [w0, w1, some (.val (.int t')), some (.val (.int l')), v4, v5, v6], S) ∧ l' ≠ 0 ∧ Rat.divInt t' l' = Rat.divInt t l + dotR ps ∧ Bits t' (B + ps.length * (k + j + 1)) ∧ Bits l' (B + ps.length * (k + j + 1))
  | [], t, l, B, w4, w5, w6, _, hl, ht, hb, _, _ => ⟨t, l, w4, w5, w6, rfl, hl, by simp [dotR, Rat.add_zero], by simpa using ht, by simpa using hb⟩
  | (p, q) :: r, t, l, B, w4, w5, w6, hx, hl, ht, hb, hB, hk2 => by
    obtain ⟨hp, hq⟩ := hx (p, q) List.mem_cons_self
    have hB' : B + (r.length + 1) * (k + j + 1) < 400000 := by simpa using hB
    have hB2 : (r.length + 1) * (k + j + 1) = r.length * (k + j + 1) + (k + j + 1) := by rw [Nat.add_mul, Nat.one_mul]
    have hby := hp.den.mul hq.den
    have hnm := hp.num.mul hq.num
    have c1 : cMul (p.den : Int) (q.den : Int) = true := cMul_bits hp.den hq.den (by omega)
    have c2 : cMul t ((p.den : Int) * q.den) = true := cMul_bits ht hby (by omega)
    have c3 : cMul p.num q.num = true := cMul_bits hp.num hq.num (by omega)
    have c4 : cMul (p.num * q.num) l = true := cMul_bits hnm hb (by omega)
    have c5 : cMul l ((p.den : Int) * q.den) = true := cMul_bits hb hby (by omega)
    have hb1 : Bits (t * ((p.den : Int) * q.den) + p.num * q.num * l) (B + (k + j + 1)) := by
      have u1 := ht.mul hby
      have u2 := hnm.mul hb
      have u3 := Bits.add (u1.mono (show B + (k + j) ≤ B + (k + j) by omega)) (u2.mono (show k + j + B ≤ B + (k + j) by omega))
      exact u3.mono (by omega)
    have hb2 : Bits (l * ((p.den : Int) * q.den)) (B + (k + j + 1)) := (hb.mul hby).mono (by omega)
    have hne : l * ((p.den : Int) * q.den) ≠ 0 := Int.mul_ne_zero hl (Int.mul_ne_zero (den_ne p) (den_ne q))
    have eb : dotB [w0, w1, some (.val (.int t)), some (.val (.int l)), some (.val (fr p)), some (.val (fr q)), w6] S = some (.nx, [w0, w1, some (.val (.int (t * ((p.den : Int) * q.den) + p.num * q.num * l))), some (.val (.int (l * ((p.den : Int) * q.den)))), some (.val (fr p)), some (.val (fr q)), some (.val (.int ((p.den : Int) * q.den)))], S) := by
      simp only [dotB, sSeq, sSet, sPar, aCons, aNil, mBin, mVar, mC, List.getElem?_cons_zero, List.getElem?_cons_succ, ix0, ix1, mulX_int c1, mulX_int c2, mulX_int c3, mulX_int c4, mulX_int c5, List.set_cons_zero, List.set_cons_succ, fPlus, fAdd, fI, if_true, Option.orElse, sNx]
    obtain ⟨t', l', v4, v5, v6, e, z1, z2, z3, z4⟩ := dot_loop w0 w1 S r _ _ (B + (k + j + 1)) (some (.val (fr p))) (some (.val (fr q))) (some (.val (.int ((p.den : Int) * q.den)))) (fun x hx' => hx x (List.mem_cons_of_mem _ hx')) hne hb1 hb2 (by omega) hk2
    refine ⟨t', l', v4, v5, v6, ?_, z1, ?_, z3.mono ?_, z4.mono ?_⟩
    · simp only [List.map_cons, forL]
      have bt : bindT (.tp [.nm 4, .nm 5]) (.val (.tup [fr p, fr q])) [w0, w1, some (.val (.int t)), some (.val (.int l)), w4, w5, w6] = some [w0, w1, some (.val (.int t)), some (.val (.int l)), some (.val (fr p)), some (.val (fr q)), w6] := rfl
      rw [bt]
      simp only [eb, e]
    · rw [z2, step_fr p q t l hl]
      show _ = Rat.divInt t l + (p * q + dotR r)
      rw [Rat.add_assoc]
    · simp only [List.length_cons]; omega
    · simp only [List.length_cons]; omega
/-- a row -/
def rowD (xs : List Rat) : D := .tup (xs.map fr)
theorem zip_fr : ∀ xs ys : List Rat, zipD (xs.map fr) (ys.map fr) = (xs.zip ys).map fun x => D.tup [fr x.1, fr x.2]
  | [], _ => by simp [zipD]
  | _ :: _, [] => by simp [zipD]
  | x :: xs, y :: ys => by
    simp only [List.map_cons, zipD, List.zip_cons_cons]
    rw [zip_fr xs ys]
def dotQ (xs ys : List Rat) : Rat := dotR (xs.zip ys)
theorem dot_ok {xs ys : List Rat} {k j : Nat} (hx : ∀ x ∈ xs, HB x k) (hy : ∀ y ∈ ys, HB y j) (hk : 1 + xs.length * (k + j + 1) < 9000) (S : Sto) : F_law_dot [.val (rowD xs), .val (rowD ys)] S = some (.val (fr (dotQ xs ys)), S) := by
  by_cases hnil : xs = []
  · subst hnil
    have f := frac_ok (a := 0) (b := 1) (k := 2) (by decide) (by unfold Bits; decide) (by decide) S
    have z : Rat.divInt 0 1 = 0 := by rfl
    rw [z] at f
    have ez : zipD ([] : List D) (ys.map fr) = [] := by simp [zipD]
    unfold F_law_dot trimF fnM b_law_dot
    simp [sSeq, sAsg, mTup, aCons, aNil, mC, vals?, sFor, iZipM, mVar, tItems, rowD, ez, forL, bindT, bindTs, sizeLine_eq, sRet, mCall, f, dotQ, dotR]
  · have hlen : (xs.zip ys).length ≤ xs.length := by rw [List.length_zip]; omega
    have hk2 : k + j < 200000 := by
      have : 1 ≤ xs.length := by
        cases xs with
        | nil => exact absurd rfl hnil
        | cons a b => simp
      have : 1 * (k + j + 1) ≤ xs.length * (k + j + 1) := Nat.mul_le_mul_right _ this
      omega
    have hm : (xs.zip ys).length * (k + j + 1) ≤ xs.length * (k + j + 1) := Nat.mul_le_mul_right _ hlen
    have hp : ∀ x ∈ xs.zip ys, HB x.1 k ∧ HB x.2 j := fun x h => ⟨hx _ (List.of_mem_zip h).1, hy _ (List.of_mem_zip h).2⟩
    obtain ⟨t', l', v4, v5, v6, e, z1, z2, z3, z4⟩ := dot_loop (k := k) (j := j) (some (.val (rowD xs))) (some (.val (rowD ys))) S (xs.zip ys) 0 1 1 none none none hp (by decide) (by unfold Bits; decide) (by unfold Bits; decide) (by omega) hk2
    have f := frac_ok (a := t') (b := l') (k := 1 + (xs.zip ys).length * (k + j + 1)) z1 z4 (by omega) S
    have z : Rat.divInt 0 1 = 0 := by rfl
    rw [z2, z, Rat.zero_add] at f
    have eb : b_law_dot = sSeq (sAsg (.tp [.nm 2, .nm 3]) (mTup (aCons (mC (.int 0)) (aCons (mC (.int 1)) aNil)))) (sSeq (sFor (iZipM (aCons (mVar 0) (aCons (mVar 1) aNil))) (.tp [.nm 4, .nm 5]) dotB) (sSeq (sRet (mCall F_law_frac (aCons (mVar 2) (aCons (mVar 3) aNil)))) sNx)) := rfl
    have it : iZipM (aCons (mVar 0) (aCons (mVar 1) aNil)) [some (.val (rowD xs)), some (.val (rowD ys)), some (.val (.int 0)), some (.val (.int 1)), none, none, none] S = some ((xs.zip ys).map (fun x => D.tup [fr x.1, fr x.2]), S) := by
      rw [← zip_fr]
      simp [iZipM, aCons, aNil, mVar, tItems, rowD]
    have a0 : sAsg (.tp [.nm 2, .nm 3]) (mTup (aCons (mC (.int 0)) (aCons (mC (.int 1)) aNil))) [some (.val (rowD xs)), some (.val (rowD ys)), none, none, none, none, none] S = some (.nx, [some (.val (rowD xs)), some (.val (rowD ys)), some (.val (.int 0)), some (.val (.int 1)), none, none, none], S) := by
      have sl : (2 : Nat) ≤ sizeLine := by rw [sizeLine_eq]; decide
      simp [sAsg, mTup, aCons, aNil, mC, vals?, bindT, bindTs, sl]
    unfold F_law_dot trimF fnM
    rw [eb]
    simp only [List.map_cons, List.map_nil, List.length_cons, List.length_nil, List.cons_append, List.nil_append, Nat.reduceAdd, Nat.reduceSub, List.replicate, sSeq, a0, sFor, it, e]
    simp [sRet, mCall, aCons, aNil, mVar, f, dotQ]
theorem hb_div {a b : Int} {k : Nat} (h : b ≠ 0) (ha : Bits a k) (hb : Bits b k) : HB (Rat.divInt a b) k := by
  have g0 := redG_ne (a := a) h
  have cut : ∀ {x c : Int}, x = redG a b * c → Bits x k → Bits c k := by
    intro x c e hx
    unfold Bits at *
    rw [e, Int.natAbs_mul] at hx
    have : 1 ≤ (redG a b).natAbs := by omega
    have := Nat.mul_le_mul_right c.natAbs this
    omega
  have da : redG a b ∣ a := by
    have : iGcd a b ∣ a := by unfold iGcd; exact Int.ofNat_dvd_left.mpr (Nat.gcd_dvd_left _ _)
    unfold redG
    split
    · exact Int.neg_dvd.mpr this
    · exact this
  have db : redG a b ∣ b := by
    have : iGcd a b ∣ b := by unfold iGcd; exact Int.ofNat_dvd_left.mpr (Nat.gcd_dvd_right _ _)
    unfold redG
    split
    · exact Int.neg_dvd.mpr this
    · exact this
  have ea : a = redG a b * (Rat.divInt a b).num := by
    rw [← red_num h]
    obtain ⟨c, hc⟩ := da
    have := (fdiv_of g0 hc).1
    rw [this]; exact hc
  have eb : b = redG a b * ((Rat.divInt a b).den : Int) := by
    rw [← red_den h]
    obtain ⟨c, hc⟩ := db
    have := (fdiv_of g0 hc).1
    rw [this]; exact hc
  exact ⟨cut ea ha, cut eb hb⟩
theorem hb_mul {p q : Rat} {k j : Nat} (hp : HB p k) (hq : HB q j) : HB (p * q) (k + j) := by
  rw [← mul_fr]
  exact hb_div (Int.mul_ne_zero (den_ne p) (den_ne q)) (hp.num.mul hq.num) (hp.den.mul hq.den)
end Lib

set_option Elab.async false
set_option linter.all false
set_option maxRecDepth 100000
set_option autoImplicit false
set_option maxHeartbeats 4000000
namespace HM
open PySem PySem.Spec L2
open PyProof.Rows hiding St
/-- a comprehension whose step leaves the store as it is -/
theorem lc_map {α : Type} {i l : Nat} {m : EM} {ρ0 : Rho} {enc out : α → D} : ∀ (xs : List α), (∀ d ∈ xs, ∀ S, m (ρ0.set i (some (.val (enc d)))) S = some (.val (out d), S)) → ∀ (S : Sto) (acc : List D), S[l]? = some (some acc) → acc.length + xs.length ≤ sizeLine → lcL (.nm i) tYesM m ρ0 l (xs.map enc) S = some (S.set l (some (acc ++ xs.map out)))
  | [], _, S, acc, hS, _ => by
    simp only [lcL, List.map_nil, List.append_nil]
    have : S.set l (some acc) = S := by
      apply List.ext_getElem?
      intro j
      by_cases hj : j = l
      · subst hj
        have hlt : j < S.length := by
          by_cases q : j < S.length
          · exact q
          · rw [List.getElem?_eq_none (by omega)] at hS; cases hS
        rw [List.getElem?_set_self hlt, hS]
      · rw [List.getElem?_set_ne (Ne.symm hj)]
    rw [this]
  | d :: r, h, S, acc, hS, hl => by
    have hlt : l < S.length := by
      by_cases q : l < S.length
      · exact q
      · rw [List.getElem?_eq_none (by omega)] at hS; cases hS
    have hl' : acc.length + (r.length + 1) ≤ sizeLine := by simpa using hl
    have e := h d List.mem_cons_self S
    have ih := lc_map (l := l) r (fun x hx => h x (List.mem_cons_of_mem _ hx)) (S.set l (some (acc ++ [out d]))) (acc ++ [out d]) (by rw [List.getElem?_set_self hlt]) (by simp; omega)
    simp only [List.map_cons, lcL, bindT, tYesM, e, hS, Option.getD_some]
    rw [if_pos (by omega), ih, List.set_set]
    simp
theorem mLc_map {α : Type} {i : Nat} {m : EM} {it : IM} {vs : List Nat} {ρ : Rho} {S : Sto} {xs : List α} {enc out : α → D} (hi : it ρ S = some (xs.map enc, S)) (h : ∀ d ∈ xs, ∀ S, m ((wipeR ρ vs).set i (some (.val (enc d)))) S = some (.val (out d), S)) (hl : xs.length ≤ sizeLine) : mLc it (.nm i) tYesM m vs ρ S = some (.val (.fl (xs.map out)), S) := by
  have e := lc_map (l := S.length) xs h (S ++ [some []]) [] (by simp) (by simpa using hl)
  unfold mLc
  rw [hi]
  simp only [e, List.nil_append]
  rw [List.getElem?_set_self (by simp)]
  simp
end HM
namespace Lib
open PySem PySem.Spec L2 HM
open PyProof.Rows hiding St
def gridD (m : List (List Rat)) : D := .tup (m.map rowD)
theorem hb_dot {xs ys : List Rat} {k j : Nat} (hx : ∀ x ∈ xs, HB x k) (hy : ∀ y ∈ ys, HB y j) (hk : 1 + xs.length * (k + j + 1) < 9000) : HB (dotQ xs ys) (1 + xs.length * (k + j + 1)) := by
  by_cases hnil : xs = []
  · subst hnil
    have : dotQ [] ys = 0 := by simp [dotQ, dotR]
    rw [this]
    exact ⟨by unfold Bits; simp, by unfold Bits; simp⟩
  · have hlen : (xs.zip ys).length ≤ xs.length := by rw [List.length_zip]; omega
    have hm : (xs.zip ys).length * (k + j + 1) ≤ xs.length * (k + j + 1) := Nat.mul_le_mul_right _ hlen
    have h1 : 1 ≤ xs.length := by
      cases xs with
      | nil => exact absurd rfl hnil
      | cons a b => simp
    have hk2 : k + j < 200000 := by
      have : 1 * (k + j + 1) ≤ xs.length * (k + j + 1) := Nat.mul_le_mul_right _ h1
      omega
    have hp : ∀ x ∈ xs.zip ys, HB x.1 k ∧ HB x.2 j := fun x h => ⟨hx _ (List.of_mem_zip h).1, hy _ (List.of_mem_zip h).2⟩
    obtain ⟨t', l', v4, v5, v6, e, z1, z2, z3, z4⟩ := dot_loop (k := k) (j := j) none none [] (xs.zip ys) 0 1 1 none none none hp (by decide) (by unfold Bits; decide) (by unfold Bits; decide) (by omega) hk2
    have z : Rat.divInt 0 1 = 0 := by rfl
    rw [z, Rat.zero_add] at z2
    have hd := hb_div z1 z3 z4
    rw [z2] at hd
    exact ⟨hd.num.mono (by omega), hd.den.mono (by omega)⟩
theorem go_ok {m : List (List Rat)} {x : List Rat} {k j n : Nat} (hm : ∀ r ∈ m, r.length ≤ n ∧ ∀ q ∈ r, HB q k) (hx : ∀ q ∈ x, HB q j) (hk : 1 + n * (k + j + 1) < 9000) (hl : m.length ≤ sizeLine) (S : Sto) :
    F_law_go [.val (gridD m), .val (rowD x)] S = some (.val (rowD (m.map fun r => dotQ r x)), S) := by
  have hs : ∀ r ∈ m, ∀ S, (mCall F_law_dot (aCons (mVar 2) (aCons (mVar 1) aNil))) ((wipeR [some (.val (gridD m)), some (.val (rowD x)), none] [2]).set 2 (some (.val (rowD r)))) S = some (.val (fr (dotQ r x)), S) := by
    intro r hr S
    obtain ⟨hrn, hrq⟩ := hm r hr
    have hkk : 1 + r.length * (k + j + 1) < 9000 := by
      have := Nat.mul_le_mul_right (k + j + 1) hrn
      omega
    have w : ((wipeR [some (.val (gridD m)), some (.val (rowD x)), none] [2]).set 2 (some (.val (rowD r)))) = [some (.val (gridD m)), some (.val (rowD x)), some (.val (rowD r))] := by simp [wipeR]
    rw [w]
    simp only [mCall, aCons, aNil, mVar, List.getElem?_cons_zero, List.getElem?_cons_succ, dot_ok (xs := r) (ys := x) (k := k) (j := j) hrq hx hkk]
  have hc := mLc_map (i := 2) (vs := [2]) (it := iSeq (mVar 0)) (m := mCall F_law_dot (aCons (mVar 2) (aCons (mVar 1) aNil))) (ρ := [some (.val (gridD m)), some (.val (rowD x)), none]) (S := S) (xs := m) (enc := rowD) (out := fun r => fr (dotQ r x)) (by simp [iSeq, mVar, tItems, gridD]) hs hl
  have er : rowD (m.map fun r => dotQ r x) = .tup (m.map fun r => fr (dotQ r x)) := by simp [rowD, List.map_map]
  rw [er]
  unfold F_law_go trimF fnM b_law_go
  simp only [List.map_cons, List.map_nil, List.length_cons, List.length_nil, List.cons_append, List.nil_append, Nat.reduceAdd, Nat.reduceSub, List.replicate, sSeq, sRet, mCall, aCons, aNil]
  rw [hc]
  simp [fTuple, tItems, lItems]
theorem by_ok {line : List Rat} {c : Rat} {k j : Nat} (hl : ∀ q ∈ line, HB q k) (hc : HB c j) (hk : j + k < 9000) (hz : line.length ≤ sizeLine) (S : Sto) :
    F_law_by [.val (rowD line), .val (fr c)] S = some (.val (rowD (line.map fun q => c * q)), S) := by
  have hs : ∀ q ∈ line, ∀ S, (mCall F_law_times (aCons (mVar 1) (aCons (mVar 2) aNil))) ((wipeR [some (.val (rowD line)), some (.val (fr c)), none] [2]).set 2 (some (.val (fr q)))) S = some (.val (fr (c * q)), S) := by
    intro q hq S
    have w : ((wipeR [some (.val (rowD line)), some (.val (fr c)), none] [2]).set 2 (some (.val (fr q)))) = [some (.val (rowD line)), some (.val (fr c)), some (.val (fr q))] := by simp [wipeR]
    rw [w]
    simp only [mCall, aCons, aNil, mVar, List.getElem?_cons_zero, List.getElem?_cons_succ, times_ok hc (hl q hq) hk]
  have hm := mLc_map (i := 2) (vs := [2]) (it := iSeq (mVar 0)) (m := mCall F_law_times (aCons (mVar 1) (aCons (mVar 2) aNil))) (ρ := [some (.val (rowD line)), some (.val (fr c)), none]) (S := S) (xs := line) (enc := fr) (out := fun q => fr (c * q)) (by simp [iSeq, mVar, tItems, rowD]) hs hz
  have er : rowD (line.map fun q => c * q) = .tup (line.map fun q => fr (c * q)) := by simp [rowD, List.map_map]
  rw [er]
  unfold F_law_by trimF fnM b_law_by
  simp only [List.map_cons, List.map_nil, List.length_cons, List.length_nil, List.cons_append, List.nil_append, Nat.reduceAdd, Nat.reduceSub, List.replicate, sSeq, sRet, mCall, aCons, aNil]
  rw [hm]
  simp [fTuple, tItems, lItems]
/-- the worth of a form at a row -/
theorem at_ok {m : List (List Rat)} {x : List Rat} {k j n : Nat} (hm : ∀ r ∈ m, r.length ≤ n ∧ ∀ q ∈ r, HB q k) (hx : ∀ q ∈ x, HB q j) (hn : x.length ≤ n) (hk1 : 1 + n * (k + j + 1) < 9000) (hk : 1 + n * (j + (1 + n * (k + j + 1)) + 1) < 9000) (hl : m.length ≤ sizeLine) (S : Sto) :
    F_law_at [.val (gridD m), .val (rowD x)] S = some (.val (fr (dotQ x (m.map fun r => dotQ r x))), S) := by
  have e1 := go_ok hm hx hk1 hl S
  have hb : ∀ y ∈ m.map (fun r => dotQ r x), HB y (1 + n * (k + j + 1)) := by
    intro y hy
    obtain ⟨r, hr, rfl⟩ := List.mem_map.mp hy
    obtain ⟨hrn, hrq⟩ := hm r hr
    have hkk := Nat.mul_le_mul_right (k + j + 1) hrn
    have hd := hb_dot (xs := r) (ys := x) hrq hx (by omega)
    exact ⟨hd.num.mono (by omega), hd.den.mono (by omega)⟩
  have hnn := Nat.mul_le_mul_right (j + (1 + n * (k + j + 1)) + 1) hn
  have e2 := dot_ok (xs := x) (ys := m.map fun r => dotQ r x) hx hb (by omega) S
  unfold F_law_at trimF fnM b_law_at
  simp only [List.map_cons, List.map_nil, List.length_cons, List.length_nil, List.cons_append, List.nil_append, Nat.reduceAdd, Nat.reduceSub, List.replicate, List.append_nil, sSeq, sRet, mCall, aCons, aNil, mVar, List.getElem?_cons_zero, List.getElem?_cons_succ, e1, e2, List.take_length]
end Lib

set_option Elab.async false
set_option linter.all false
set_option maxRecDepth 100000
set_option autoImplicit false
set_option maxHeartbeats 4000000
namespace Lib
open PySem PySem.Spec L2 HM
open PyProof.Rows hiding St
theorem upFrom_map (n : Nat) (i : Int) : upFrom i n = (List.range n).map fun (j : Nat) => D.int (i + j) := rfl
/-- a table turned over -/
def flipQ (m : List (List Rat)) (w : Nat) : List (List Rat) := (List.range w).map fun j => m.map fun r => r.getD j 0
theorem flip_ok {m : List (List Rat)} {w : Nat} (hm : ∀ r ∈ m, r.length = w) (hne : m ≠ []) (hw : w < 1000) (hl : m.length ≤ sizeLine) (S : Sto) : F_law_flip [.val (gridD m)] S = some (.val (gridD (flipQ m w)), S) := by
  have hin : ∀ j ∈ List.range w, ∀ S, (mCall fTuple (aCons (mLc (iSeq (mVar 0)) (.nm 2) tYesM (mBin fIx (mVar 2) (mVar 1)) [2]) aNil)) ((wipeR [some (.val (gridD m)), none, none] [1]).set 1 (some (.val (D.int ((0 : Int) + (j : Nat)))))) S = some (.val (rowD (m.map fun r => r.getD j 0)), S) := by
    intro j hj S
    have hjw := List.mem_range.mp hj
    have w1 : ((wipeR [some (.val (gridD m)), none, none] [1]).set 1 (some (.val (D.int ((0 : Int) + (j : Nat)))))) = [some (.val (gridD m)), some (.val (.int (j : Int))), none] := by simp [wipeR]
    rw [w1]
    have hs : ∀ r ∈ m, ∀ S, (mBin fIx (mVar 2) (mVar 1)) ((wipeR [some (.val (gridD m)), some (.val (.int (j : Int))), none] [2]).set 2 (some (.val (rowD r)))) S = some (.val (fr (r.getD j 0)), S) := by
      intro r hr S
      have w2 : ((wipeR [some (.val (gridD m)), some (.val (.int (j : Int))), none] [2]).set 2 (some (.val (rowD r)))) = [some (.val (gridD m)), some (.val (.int (j : Int))), some (.val (rowD r))] := by simp [wipeR]
      rw [w2]
      have hlt : j < r.length := by rw [hm r hr]; exact hjw
      have e : L2.atI (r.map fr) (j : Int) = some (fr (r.getD j 0)) := atI_nat (by rw [List.getElem?_map, List.getElem?_eq_getElem hlt]; simp [List.getD, hlt])
      simp only [mBin, mVar, List.getElem?_cons_zero, List.getElem?_cons_succ, fIx, rowD, tItems, e, Option.map_some]
    have hc := mLc_map (i := 2) (vs := [2]) (it := iSeq (mVar 0)) (m := mBin fIx (mVar 2) (mVar 1)) (ρ := [some (.val (gridD m)), some (.val (.int (j : Int))), none]) (S := S) (xs := m) (enc := rowD) (out := fun r => fr (r.getD j 0)) (by simp [iSeq, mVar, tItems, gridD]) hs hl
    have er : rowD (m.map fun r => r.getD j 0) = .tup (m.map fun r => fr (r.getD j 0)) := by simp [rowD, List.map_map]
    rw [er]
    simp only [mCall, aCons, aNil, hc, fTuple, tItems, lItems]
  obtain ⟨r0, ms, rfl⟩ : ∃ r0 ms, m = r0 :: ms := by
    cases m with
    | nil => exact absurd rfl hne
    | cons a b => exact ⟨a, b, rfl⟩
  have hr0 := hm r0 List.mem_cons_self
  have hit : iRange1 (aCons (mCall fLen (aCons (mBin fIx (mVar 0) (mC (.int 0))) aNil)) aNil) [some (.val (gridD (r0 :: ms))), none, none] S = some ((List.range w).map fun (j : Nat) => D.int ((0 : Int) + j), S) := by
    have sm : small62 (w : Int) = true := by
      unfold small62
      rw [decide_eq_true (by omega), decide_eq_true (by omega)]
      rfl
    rw [← upFrom_map]
    simp [iRange1, aCons, aNil, mCall, mBin, mVar, mC, fIx, tItems, gridD, L2.atI, ixN, fLen, rowD, hr0, sm]
    first | done | (split <;> first | rfl | omega)
  have hsz : (List.range w).length ≤ sizeLine := by rw [List.length_range, sizeLine_eq]; omega
  have hc := mLc_map (i := 1) (vs := [1]) (m := mCall fTuple (aCons (mLc (iSeq (mVar 0)) (.nm 2) tYesM (mBin fIx (mVar 2) (mVar 1)) [2]) aNil)) (ρ := [some (.val (gridD (r0 :: ms))), none, none]) (S := S) (xs := List.range w) (enc := fun (j : Nat) => D.int ((0 : Int) + j)) (out := fun j => rowD ((r0 :: ms).map fun r => r.getD j 0)) hit hin hsz
  have er : gridD (flipQ (r0 :: ms) w) = .tup ((List.range w).map fun j => rowD ((r0 :: ms).map fun r => r.getD j 0)) := by simp [gridD, flipQ, List.map_map, Function.comp]
  rw [er]
  unfold F_law_flip trimF fnM b_law_flip
  simp only [List.map_cons, List.map_nil, List.length_cons, List.length_nil, List.cons_append, List.nil_append, Nat.reduceAdd, Nat.reduceSub, List.replicate, sSeq, sRet, mCall, aCons, aNil] at hc ⊢
  rw [hc]
  simp [fTuple, tItems, lItems]
end Lib

set_option Elab.async false
set_option linter.all false
set_option maxRecDepth 100000
set_option autoImplicit false
set_option maxHeartbeats 4000000
namespace Lib
open PySem PySem.Spec L2 HM
open PyProof.Rows hiding St
/-- the product of two tables, the second one w numbers wide -/
def mulQ (a b : List (List Rat)) (w : Nat) : List (List Rat) := a.map fun r => (flipQ b w).map fun c => dotQ r c
theorem flip_mem {b : List (List Rat)} {w j : Nat} (hb : ∀ r ∈ b, r.length = w ∧ ∀ q ∈ r, HB q j) : ∀ c ∈ flipQ b w, ∀ q ∈ c, HB q j := by
  intro c hc q hq
  unfold flipQ at hc
  obtain ⟨i, hi, rfl⟩ := List.mem_map.mp hc
  obtain ⟨r, hr, rfl⟩ := List.mem_map.mp hq
  have hlt : i < r.length := by rw [(hb r hr).1]; exact List.mem_range.mp hi
  have : r.getD i 0 = r[i] := by simp [List.getD, hlt]
  rw [this]
  exact (hb r hr).2 _ (List.getElem_mem hlt)
theorem mul_ok {a b : List (List Rat)} {k j n w : Nat} (ha : ∀ r ∈ a, r.length ≤ n ∧ ∀ q ∈ r, HB q k) (hb : ∀ r ∈ b, r.length = w ∧ ∀ q ∈ r, HB q j) (hne : b ≠ []) (hw : w < 1000) (hk : 1 + n * (k + j + 1) < 9000) (hla : a.length ≤ sizeLine) (hlb : b.length ≤ sizeLine) (S : Sto) :
    F_law_mul [.val (gridD a), .val (gridD b)] S = some (.val (gridD (mulQ a b w)), S) := by
  have ef := flip_ok (m := b) (w := w) (fun r hr => (hb r hr).1) hne hw hlb
  have hfm := flip_mem hb
  have hfl : (flipQ b w).length ≤ sizeLine := by unfold flipQ; rw [List.length_map, List.length_range, sizeLine_eq]; omega
  have hin : ∀ r ∈ a, ∀ S, (mCall fTuple (aCons (mLc (iSeq (mVar 2)) (.nm 4) tYesM (mCall F_law_dot (aCons (mVar 3) (aCons (mVar 4) aNil))) [4]) aNil)) ((wipeR [some (.val (gridD a)), some (.val (gridD b)), some (.val (gridD (flipQ b w))), none, none] [3]).set 3 (some (.val (rowD r)))) S = some (.val (rowD ((flipQ b w).map fun c => dotQ r c)), S) := by
    intro r hr S
    obtain ⟨hrn, hrq⟩ := ha r hr
    have hkk := Nat.mul_le_mul_right (k + j + 1) hrn
    have w1 : ((wipeR [some (.val (gridD a)), some (.val (gridD b)), some (.val (gridD (flipQ b w))), none, none] [3]).set 3 (some (.val (rowD r)))) = [some (.val (gridD a)), some (.val (gridD b)), some (.val (gridD (flipQ b w))), some (.val (rowD r)), none] := by simp [wipeR]
    rw [w1]
    have hs : ∀ c ∈ flipQ b w, ∀ S, (mCall F_law_dot (aCons (mVar 3) (aCons (mVar 4) aNil))) ((wipeR [some (.val (gridD a)), some (.val (gridD b)), some (.val (gridD (flipQ b w))), some (.val (rowD r)), none] [4]).set 4 (some (.val (rowD c)))) S = some (.val (fr (dotQ r c)), S) := by
      intro c hc S
      have w2 : ((wipeR [some (.val (gridD a)), some (.val (gridD b)), some (.val (gridD (flipQ b w))), some (.val (rowD r)), none] [4]).set 4 (some (.val (rowD c)))) = [some (.val (gridD a)), some (.val (gridD b)), some (.val (gridD (flipQ b w))), some (.val (rowD r)), some (.val (rowD c))] := by simp [wipeR]
      rw [w2]
      simp only [mCall, aCons, aNil, mVar, List.getElem?_cons_zero, List.getElem?_cons_succ, dot_ok (xs := r) (ys := c) (k := k) (j := j) hrq (hfm c hc) (by omega)]
    have hc := mLc_map (i := 4) (vs := [4]) (it := iSeq (mVar 2)) (m := mCall F_law_dot (aCons (mVar 3) (aCons (mVar 4) aNil))) (ρ := [some (.val (gridD a)), some (.val (gridD b)), some (.val (gridD (flipQ b w))), some (.val (rowD r)), none]) (S := S) (xs := flipQ b w) (enc := rowD) (out := fun c => fr (dotQ r c)) (by simp [iSeq, mVar, tItems, gridD]) hs hfl
    have er : rowD ((flipQ b w).map fun c => dotQ r c) = .tup ((flipQ b w).map fun c => fr (dotQ r c)) := by simp [rowD, List.map_map]
    rw [er]
    simp only [mCall, aCons, aNil] at hc ⊢
    rw [hc]
    simp only [fTuple, tItems, lItems]
  have hc := mLc_map (i := 3) (vs := [3]) (it := iSeq (mVar 0)) (m := mCall fTuple (aCons (mLc (iSeq (mVar 2)) (.nm 4) tYesM (mCall F_law_dot (aCons (mVar 3) (aCons (mVar 4) aNil))) [4]) aNil)) (ρ := [some (.val (gridD a)), some (.val (gridD b)), some (.val (gridD (flipQ b w))), none, none]) (S := S) (xs := a) (enc := rowD) (out := fun r => rowD ((flipQ b w).map fun c => dotQ r c)) (by simp [iSeq, mVar, tItems, gridD]) hin hla
  have er : gridD (mulQ a b w) = .tup (a.map fun r => rowD ((flipQ b w).map fun c => dotQ r c)) := by simp [gridD, mulQ, List.map_map, Function.comp]
  rw [er]
  unfold F_law_mul trimF fnM b_law_mul
  simp only [List.map_cons, List.map_nil, List.length_cons, List.length_nil, List.cons_append, List.nil_append, Nat.reduceAdd, Nat.reduceSub, List.replicate, sSeq, sSet, sRet, mCall, aCons, aNil, mVar, List.getElem?_cons_zero, List.getElem?_cons_succ, ef, List.set_cons_zero, List.set_cons_succ] at hc ⊢
  rw [hc]
  simp [fTuple, tItems, lItems]
end Lib

set_option Elab.async false
set_option linter.all false
set_option maxRecDepth 100000
set_option autoImplicit false
set_option maxHeartbeats 4000000
namespace Lib
open PySem PySem.Spec L2 HM
open PyProof.Rows hiding St
theorem int_only {d : D} (h : d.isE = true) (hb : isB "bool" d.ty = false) (hi : isB "int" d.ty = true) : ∃ i, d = .int i := by
  cases d with
  | int i => exact ⟨i, rfl⟩
  | bl b => exact absurd (show isB "bool" "bool" = false from hb) (by decide +kernel)
  | non => exact absurd (show isB "int" "NoneType" = true from hi) (by decide +kernel)
  | str x => exact absurd (show isB "int" "str" = true from hi) (by decide +kernel)
  | tup ds => exact absurd (show isB "int" "tuple" = true from hi) (by decide +kernel)
  | fl ds => exact absurd (show isB "int" "list" = true from hi) (by decide +kernel)
  | scr ns => exact absurd (show isB "int" "list" = true from hi) (by decide +kernel)
  | dct ks ds => exact absurd (show isB "int" "dict" = true from hi) (by decide +kernel)
  | exc0 c => cases h
  | exc1 c f e => cases h
theorem tup_only {d : D} (h : d.isE = true) (ht : isB "tuple" d.ty = true) : ∃ ds, d = .tup ds := by
  cases d with
  | tup ds => exact ⟨ds, rfl⟩
  | int i => exact absurd (show isB "tuple" "int" = true from ht) (by decide +kernel)
  | bl b => exact absurd (show isB "tuple" "bool" = true from ht) (by decide +kernel)
  | non => exact absurd (show isB "tuple" "NoneType" = true from ht) (by decide +kernel)
  | str x => exact absurd (show isB "tuple" "str" = true from ht) (by decide +kernel)
  | fl ds => exact absurd (show isB "tuple" "list" = true from ht) (by decide +kernel)
  | scr ns => exact absurd (show isB "tuple" "list" = true from ht) (by decide +kernel)
  | dct ks ds => exact absurd (show isB "tuple" "dict" = true from ht) (by decide +kernel)
  | exc0 c => cases h
  | exc1 c f e => cases h
/-- whether a datum is a fraction -/
def fracB : D → Bool
  | .tup [.int a, .int b] => decide (0 < b) && decide (Rat.divInt a b = Rat.divInt a b ∧ (Rat.divInt a b).num = a ∧ ((Rat.divInt a b).den : Int) = b)
  | _ => false
theorem eq_pair (a b c d : Int) (S : Sto) : fEq (.val (.tup [.int a, .int b])) (.val (.tup [.int c, .int d])) S = some (.val (.bl (decide (a = c ∧ b = d))), S) := by
  unfold fEq fEqD
  have e2 : ∀ k l : Int, SeqAt.shaped (.tuple [.int k, .int l]) = true := fun k l => by rfl
  simp only [W.py, D.plain, plainAll, D.py, pyAll, Bool.and_true, Bool.and_self, if_true, e2, PyData.eqv, PyData.eqvAll]
  by_cases h : a = c <;> by_cases h2 : b = d <;> simp [h, h2]
/-- what is asked of a thing that is_frac is asked of -/
structure Askd (d : D) (k : Nat) : Prop where
  top : d.isE = true
  parts : ∀ ds, d = .tup ds → ∀ x ∈ ds, x.isE = true ∧ ∀ i, x = .int i → Bits i k
theorem is_frac_ok {d : D} {k : Nat} (h : Askd d k) (hk : k < 9000) (S : Sto) : F_law_is_frac [.val d] S = some (.val (.bl (fracB d)), S) := by
  have tt : mIsE "tuple" (mVar 0) [some (.val d), none, none] S = some (.val (.bl (isB "tuple" d.ty)), S) := by
    simp only [mIsE, mVar, List.getElem?_cons_zero, h.top, if_true]
  cases ht : isB "tuple" d.ty with
  | false =>
    have fb : fracB d = false := by
      cases d with
      | tup ds => exact absurd (show isB "tuple" "tuple" = false from ht) (by decide +kernel)
      | _ => rfl
    rw [fb]
    rw [ht] at tt
    unfold F_law_is_frac trimF fnM b_law_is_frac
    simp [sSeq, sIf, mtOr, mtNot, mTest, tt, sRet, mC]
  | true =>
    obtain ⟨ds, rfl⟩ := tup_only h.top ht
    rw [ht] at tt
    have hln : mBin fNe (mCall fLen (aCons (mVar 0) aNil)) (mC (.int 2)) [some (.val (.tup ds)), none, none] S = some (.val (.bl (!decide ((ds.length : Int) = 2))), S) := by
      simp only [mBin, mCall, aCons, aNil, mVar, mC, List.getElem?_cons_zero, fLen, tItems, ne_int]
    by_cases hl : ds.length = 2
    · have hl' : decide ((ds.length : Int) = 2) = true := decide_eq_true (by omega)
      rw [hl'] at hln
      obtain ⟨x, y, rfl⟩ : ∃ x y, ds = [x, y] := by
        match ds, hl with
        | [x, y], _ => exact ⟨x, y, rfl⟩
      obtain ⟨hx, bx⟩ := h.parts _ rfl x (by simp)
      obtain ⟨hy, by'⟩ := h.parts _ rfl y (by simp)
      have tx : ∀ T, mIsE T (mVar 1) [some (.val (.tup [x, y])), some (.val x), some (.val y)] S = some (.val (.bl (isB T x.ty)), S) := fun T => by
        simp only [mIsE, mVar, List.getElem?_cons_zero, List.getElem?_cons_succ, hx, if_true]
      have ty : ∀ T, mIsE T (mVar 2) [some (.val (.tup [x, y])), some (.val x), some (.val y)] S = some (.val (.bl (isB T y.ty)), S) := fun T => by
        simp only [mIsE, mVar, List.getElem?_cons_zero, List.getElem?_cons_succ, hy, if_true]
      have as : sAsg (.tp [.nm 1, .nm 2]) (mVar 0) [some (.val (.tup [x, y])), none, none] S = some (.nx, [some (.val (.tup [x, y])), some (.val x), some (.val y)], S) := by
        simp [sAsg, mVar, bindT, bindTs]
      by_cases hc : isB "bool" x.ty = false ∧ isB "bool" y.ty = false ∧ isB "int" x.ty = true ∧ isB "int" y.ty = true
      · obtain ⟨c1, c2, c3, c4⟩ := hc
        obtain ⟨a, rfl⟩ := int_only hx c1 c3
        obtain ⟨b, rfl⟩ := int_only hy c2 c4
        by_cases hb : 0 < b
        · have hf := frac_ok (a := a) (b := b) (k := k) (by omega) (by' b rfl) hk S
          have he := eq_pair (Rat.divInt a b).num ((Rat.divInt a b).den : Int) a b S
          unfold F_law_is_frac trimF fnM b_law_is_frac
          simp [sSeq, sIf, mtOr, mtNot, mTest, tt, hln, as, tx, ty, c1, c2, c3, c4, sRet, mAnd, mBin, mVar, mC, fGt, fB, hb, mCall, aCons, aNil, hf, fr, he, fracB, sNx, fLen, tItems, ne_int]
        · unfold F_law_is_frac trimF fnM b_law_is_frac
          simp [sSeq, sIf, mtOr, mtNot, mTest, tt, hln, as, tx, ty, c1, c2, c3, c4, sRet, mAnd, mBin, mVar, mC, fGt, fB, hb, fracB, sNx, mCall, aCons, aNil, fLen, tItems, ne_int]
      · have fb : fracB (.tup [x, y]) = false := by
          cases x with
          | int a =>
            cases y with
            | int b => exact absurd ⟨(by decide +kernel : isB "bool" "int" = false), (by decide +kernel : isB "bool" "int" = false), (by decide +kernel : isB "int" "int" = true), (by decide +kernel : isB "int" "int" = true)⟩ hc
            | _ => rfl
          | _ => rfl
        rw [fb]
        unfold F_law_is_frac trimF fnM b_law_is_frac
        cases c1 : isB "bool" x.ty <;> cases c2 : isB "bool" y.ty <;> cases c3 : isB "int" x.ty <;> cases c4 : isB "int" y.ty <;> (simp only [c1, c2, c3, c4] at hc tx ty; first | (simp at hc; done) | simp [sSeq, sIf, mtOr, mtNot, mTest, tt, hln, as, tx, ty, c1, c2, c3, c4, sRet, mC, sNx])
    · have hl' : decide ((ds.length : Int) = 2) = false := decide_eq_false (by omega)
      rw [hl'] at hln
      have fb : fracB (.tup ds) = false := by
        match ds, hl with
        | [], _ => rfl
        | [_], _ => cases ‹D› <;> rfl
        | [_, _], hl => exact absurd rfl hl
        | x :: y :: _ :: _, _ => cases x <;> first | rfl | (cases y <;> rfl)
      rw [fb]
      unfold F_law_is_frac trimF fnM b_law_is_frac
      simp [sSeq, sIf, mtOr, mtNot, mTest, tt, hln, sRet, mC]
end Lib

set_option Elab.async false
set_option linter.all false
set_option maxRecDepth 100000
set_option autoImplicit false
set_option maxHeartbeats 4000000
namespace Lib
open PySem PySem.Spec L2 HM
open PyProof.Rows hiding St
theorem bls_map {α : Type} (f : α → Bool) : ∀ l : List α, bls? (l.map fun x => D.bl (f x)) = some (l.map f)
  | [] => rfl
  | a :: r => by
    rw [List.map_cons, List.map_cons]
    simp [bls?, bls_map f r]
theorem eq_int (i j : Int) (S : Sto) : fEq (.val (.int i)) (.val (.int j)) S = some (.val (.bl (decide (i = j))), S) := by
  unfold fEq fEqD
  have e2 : ∀ k : Int, SeqAt.shaped (.int k) = true := fun k => by rfl
  simp only [W.py, D.plain, D.py, if_true, e2, Bool.and_self, PyData.eqv]
  by_cases h : i = j <;> simp [h]
def lineB (n : Nat) : D → Bool
  | .tup ds => decide (ds.length = n) && ds.all fracB
  | _ => false
structure AskL (d : D) (k : Nat) : Prop where
  top : d.isE = true
  parts : ∀ ds, d = .tup ds → ds.length ≤ 1000 ∧ ∀ x ∈ ds, Askd x k
theorem is_line_ok {d : D} {k n : Nat} (h : AskL d k) (hk : k < 9000) (S : Sto) : F_law_is_line [.val d, .val (.int (n : Int))] S = some (.val (.bl (lineB n d)), S) := by
  have tt : mIsE "tuple" (mVar 0) [some (.val d), some (.val (.int (n : Int))), none] S = some (.val (.bl (isB "tuple" d.ty)), S) := by
    simp only [mIsE, mVar, List.getElem?_cons_zero, h.top, if_true]
  cases ht : isB "tuple" d.ty with
  | false =>
    have fb : lineB n d = false := by
      cases d with
      | tup ds => exact absurd (show isB "tuple" "tuple" = false from ht) (by decide +kernel)
      | _ => rfl
    rw [fb]
    rw [ht] at tt
    unfold F_law_is_line trimF fnM b_law_is_line
    simp [sSeq, sRet, mAnd, tt]
  | true =>
    obtain ⟨ds, rfl⟩ := tup_only h.top ht
    rw [ht] at tt
    obtain ⟨hlen, hparts⟩ := h.parts ds rfl
    have hln : mBin fEq (mCall fLen (aCons (mVar 0) aNil)) (mVar 1) [some (.val (.tup ds)), some (.val (.int (n : Int))), none] S = some (.val (.bl (decide ((ds.length : Int) = (n : Int)))), S) := by
      simp only [mBin, mCall, aCons, aNil, mVar, mC, List.getElem?_cons_zero, List.getElem?_cons_succ, fLen, tItems, eq_int]
    have hs : ∀ x ∈ ds, ∀ S, (mCall F_law_is_frac (aCons (mVar 2) aNil)) ((wipeR [some (.val (.tup ds)), some (.val (.int (n : Int))), none] [2]).set 2 (some (.val (id x)))) S = some (.val (.bl (fracB x)), S) := by
      intro x hx S
      have w : ((wipeR [some (.val (.tup ds)), some (.val (.int (n : Int))), none] [2]).set 2 (some (.val (id x)))) = [some (.val (.tup ds)), some (.val (.int (n : Int))), some (.val x)] := by simp [wipeR]
      rw [w]
      simp only [mCall, aCons, aNil, mVar, List.getElem?_cons_zero, List.getElem?_cons_succ, is_frac_ok (hparts x hx) hk]
    have hc := mLc_map (i := 2) (vs := [2]) (it := iSeq (mVar 0)) (m := mCall F_law_is_frac (aCons (mVar 2) aNil)) (ρ := [some (.val (.tup ds)), some (.val (.int (n : Int))), none]) (S := S) (xs := ds) (enc := id) (out := fun x => D.bl (fracB x)) (by simp [iSeq, mVar, tItems]) hs (by rw [sizeLine_eq]; omega)
    have hall : mCall fAll (aCons (mLc (iSeq (mVar 0)) (.nm 2) tYesM (mCall F_law_is_frac (aCons (mVar 2) aNil)) [2]) aNil) [some (.val (.tup ds)), some (.val (.int (n : Int))), none] S = some (.val (.bl (ds.all fracB)), S) := by
      have ea : (ds.map fracB).all id = ds.all fracB := by rw [List.all_map]; rfl
      rw [mCall]
      simp only [aCons, aNil]
      rw [hc]
      simp only [fAll, lItems, bls_map, ea]
    by_cases hl : ds.length = n
    · have hl' : decide ((ds.length : Int) = (n : Int)) = true := decide_eq_true (by omega)
      rw [hl'] at hln
      have fb : lineB n (.tup ds) = ds.all fracB := by simp [lineB, hl]
      rw [fb]
      unfold F_law_is_line trimF fnM b_law_is_line
      simp [sSeq, sRet, mAnd, tt, hln, hall]
    · have hl' : decide ((ds.length : Int) = (n : Int)) = false := decide_eq_false (by omega)
      rw [hl'] at hln
      have fb : lineB n (.tup ds) = false := by simp [lineB, hl]
      rw [fb]
      unfold F_law_is_line trimF fnM b_law_is_line
      simp [sSeq, sRet, mAnd, tt, hln]
def gridB (n : Nat) : D → Bool
  | .tup ds => decide (ds.length = n) && ds.all (lineB n)
  | _ => false
structure AskG (d : D) (k : Nat) : Prop where
  top : d.isE = true
  parts : ∀ ds, d = .tup ds → ds.length ≤ 1000 ∧ ∀ x ∈ ds, AskL x k
theorem is_grid_ok {d : D} {k n : Nat} (h : AskG d k) (hk : k < 9000) (S : Sto) : F_law_is_grid [.val d, .val (.int (n : Int))] S = some (.val (.bl (gridB n d)), S) := by
  have tt : mIsE "tuple" (mVar 0) [some (.val d), some (.val (.int (n : Int))), none] S = some (.val (.bl (isB "tuple" d.ty)), S) := by
    simp only [mIsE, mVar, List.getElem?_cons_zero, h.top, if_true]
  cases ht : isB "tuple" d.ty with
  | false =>
    have fb : gridB n d = false := by
      cases d with
      | tup ds => exact absurd (show isB "tuple" "tuple" = false from ht) (by decide +kernel)
      | _ => rfl
    rw [fb]
    rw [ht] at tt
    unfold F_law_is_grid trimF fnM b_law_is_grid
    simp [sSeq, sRet, mAnd, tt]
  | true =>
    obtain ⟨ds, rfl⟩ := tup_only h.top ht
    rw [ht] at tt
    obtain ⟨hlen, hparts⟩ := h.parts ds rfl
    have hln : mBin fEq (mCall fLen (aCons (mVar 0) aNil)) (mVar 1) [some (.val (.tup ds)), some (.val (.int (n : Int))), none] S = some (.val (.bl (decide ((ds.length : Int) = (n : Int)))), S) := by
      simp only [mBin, mCall, aCons, aNil, mVar, mC, List.getElem?_cons_zero, List.getElem?_cons_succ, fLen, tItems, eq_int]
    have hs : ∀ x ∈ ds, ∀ S, (mCall F_law_is_line (aCons (mVar 2) (aCons (mVar 1) aNil))) ((wipeR [some (.val (.tup ds)), some (.val (.int (n : Int))), none] [2]).set 2 (some (.val (id x)))) S = some (.val (.bl (lineB n x)), S) := by
      intro x hx S
      have w : ((wipeR [some (.val (.tup ds)), some (.val (.int (n : Int))), none] [2]).set 2 (some (.val (id x)))) = [some (.val (.tup ds)), some (.val (.int (n : Int))), some (.val x)] := by simp [wipeR]
      rw [w]
      simp only [mCall, aCons, aNil, mVar, List.getElem?_cons_zero, List.getElem?_cons_succ, is_line_ok (hparts x hx) hk]
    have hc := mLc_map (i := 2) (vs := [2]) (it := iSeq (mVar 0)) (m := mCall F_law_is_line (aCons (mVar 2) (aCons (mVar 1) aNil))) (ρ := [some (.val (.tup ds)), some (.val (.int (n : Int))), none]) (S := S) (xs := ds) (enc := id) (out := fun x => D.bl (lineB n x)) (by simp [iSeq, mVar, tItems]) hs (by rw [sizeLine_eq]; omega)
    have hall : mCall fAll (aCons (mLc (iSeq (mVar 0)) (.nm 2) tYesM (mCall F_law_is_line (aCons (mVar 2) (aCons (mVar 1) aNil))) [2]) aNil) [some (.val (.tup ds)), some (.val (.int (n : Int))), none] S = some (.val (.bl (ds.all (lineB n))), S) := by
      have ea : (ds.map (lineB n)).all id = ds.all (lineB n) := by rw [List.all_map]; rfl
      rw [mCall]
      simp only [aCons, aNil]
      rw [hc]
      simp only [fAll, lItems, bls_map, ea]
    by_cases hl : ds.length = n
    · have hl' : decide ((ds.length : Int) = (n : Int)) = true := decide_eq_true (by omega)
      rw [hl'] at hln
      have fb : gridB n (.tup ds) = ds.all (lineB n) := by simp [gridB, hl]
      rw [fb]
      unfold F_law_is_grid trimF fnM b_law_is_grid
      simp [sSeq, sRet, mAnd, tt, hln, hall]
    · have hl' : decide ((ds.length : Int) = (n : Int)) = false := decide_eq_false (by omega)
      rw [hl'] at hln
      have fb : gridB n (.tup ds) = false := by simp [gridB, hl]
      rw [fb]
      unfold F_law_is_grid trimF fnM b_law_is_grid
      simp [sSeq, sRet, mAnd, tt, hln]
end Lib

set_option Elab.async false
set_option linter.all false
set_option maxRecDepth 100000
set_option autoImplicit false
set_option maxHeartbeats 4000000
namespace Lib
open PySem PySem.Spec L2 HM
open PyProof.Rows hiding St
/-- the urn: a great number yet, the mixed one, how often mixed, how many great ones may come -/
abbrev Urn (u m c g : Int) : List D := [.int u, .int m, .int c, .int g]
structure UrnOk (n : Int) (U : List D) : Prop where
  ex : ∃ u m c g, U = Urn u m c g ∧ 0 ≤ u ∧ (0 ≤ m ∧ m < 2147483497) ∧ (0 ≤ c ∧ c ≤ n) ∧ (0 ≤ g ∧ g ≤ 1)
theorem bits_of {i : Int} {k : Nat} (h0 : 0 ≤ i) (h : i < (2 : Int) ^ k) : Bits i k := by
  unfold Bits
  have e : ((2 ^ k : Nat) : Int) = (2 : Int) ^ k := by simp
  omega
theorem take_ok {l : Nat} {S : Sto} {U : List D} {n lim : Int} (hS : S[l]? = some (some U)) (h : UrnOk n U) (hn : n ≤ 1000000) (hl : 0 < lim) (hl2 : lim ≤ 4294967296) :
    ∃ d U', F_law_take [.loc l, .val (.int lim)] S = some (.val (.int d), S.set l (some U')) ∧ (0 ≤ d ∧ d < lim) ∧ UrnOk (n + 1) U' := by
  obtain ⟨u, m, c, g, rfl, hu, ⟨hm, hm2⟩, ⟨hc, hc2⟩, hg⟩ := h
  have hlt : l < S.length := by
    by_cases q : l < S.length
    · exact q
    · rw [List.getElem?_eq_none (by omega)] at hS; cases hS
  have tk : ∀ x, List.take S.length (S.set l x) = S.set l x := fun x => List.take_of_length_le (by simp)
  have gs : ∀ x, (S.set l x)[l]? = some x := fun x => List.getElem?_set_self hlt
  have blim : Bits lim 33 := bits_of (by omega) (by omega)
  by_cases h : 0 < u
  · have e1 : cDivP u lim = true := by
      unfold cDivP
      rw [pylong_bits blim (by decide), decide_eq_true hl]; rfl
    refine ⟨u % lim, Urn (u / lim) m c g, ?_, ⟨Int.emod_nonneg _ (by omega), Int.emod_lt_of_pos _ hl⟩, ⟨u / lim, m, c, g, rfl, Int.ediv_nonneg hu (by omega), ⟨hm, hm2⟩, by omega, hg⟩⟩
    unfold F_law_take trimF fnM b_law_take
    simp [sSeq, sIf, mTest, mBin, fGt, fB, mVar, mC, fIx, tItems, lItems, L2.atI, ixN, sPut2, mCall, aCons, aNil, fDivmod, e1, HM.putAt, cellOf?, sRet, h, hS, tk]
  · have h0 : u = 0 := by omega
    subst h0
    have e1 : cMul 51787 (c + 1) = true := cMul_bits (k := 16) (l := 20) (bits_of (by decide) (by decide)) (bits_of (by omega) (by omega)) (by decide)
    have e2 : cMul 29 (c + 1) = true := cMul_bits (k := 16) (l := 20) (bits_of (by decide) (by decide)) (bits_of (by omega) (by omega)) (by decide)
    obtain ⟨sd, hsd⟩ : ∃ sd, sd = (m + 51787 * (c + 1)) % 2147483497 := ⟨_, rfl⟩
    have sd0 : 0 ≤ sd := by omega
    have sd1 : sd < 2147483497 := by omega
    have e3 : cMul sd (sd % 6007 + 41011) = true := cMul_bits (k := 32) (l := 32) (bits_of (by omega) (by omega)) (bits_of (by omega) (by omega)) (by decide)
    obtain ⟨z, hz⟩ : ∃ z, z = (sd * (sd % 6007 + 41011) + 29 * (c + 1)) % 2147483497 := ⟨_, rfl⟩
    have z0 : 0 ≤ z := by rw [hz]; exact Int.emod_nonneg _ (by decide)
    have z1 : z < 2147483497 := by rw [hz]; exact Int.emod_lt_of_pos _ (by decide)
    have e4 : cDivF z 769 = true := cDivF_bits (k := 16) (by decide) (bits_of (by decide) (by decide)) (by decide)
    have e5 : Int.fdiv z 769 = z / 769 := Int.fdiv_eq_ediv_of_nonneg z (by decide)
    refine ⟨z / 769 % lim, Urn 0 z (c + 1) g, ?_, ⟨Int.emod_nonneg _ (by omega), Int.emod_lt_of_pos _ hl⟩, ⟨0, z, c + 1, g, rfl, by omega, ⟨z0, z1⟩, by omega, hg⟩⟩
    unfold F_law_take trimF fnM b_law_take
    simp [sSeq, sIf, mTest, mBin, fGt, fB, mVar, mC, fIx, tItems, lItems, L2.atI, ixN, sPut, mCall, aCons, aNil, HM.putAt, cellOf?, sRet, hS, fPlus, fAdd, fMulX, fMul, fMod, fI, fInt, sSet, sNx, e1, e2, ← hsd, e3, ← hz, fDivF, e4, e5, hl, gs, tk, List.set_set]
end Lib

set_option Elab.async false
set_option linter.all false
set_option maxRecDepth 100000
set_option autoImplicit false
set_option maxHeartbeats 4000000
namespace Lib
open PySem PySem.Spec L2 HM
open PyProof.Rows hiding St
theorem set_at {S : Sto} {l : Nat} {x y : Option (List D)} (h : S[l]? = some y) : (S.set l x)[l]? = some x := by
  have hlt : l < S.length := by
    by_cases q : l < S.length
    · exact q
    · rw [List.getElem?_eq_none (by omega)] at h; cases h
  exact List.getElem?_set_self hlt
theorem set_take {S : Sto} {l : Nat} {x : Option (List D)} : List.take S.length (S.set l x) = S.set l x := List.take_of_length_le (by simp)
/-- one of some things: in a list or a tuple -/
theorem pick_ok {l : Nat} {S : Sto} {U : List D} {n : Int} {w : W} {ds : List D} (hw : w = .val (.fl ds) ∨ w = .val (.tup ds)) (hS : S[l]? = some (some U)) (h : UrnOk n U) (hn : n ≤ 1000000) (h0 : 0 < ds.length) (h1 : ds.length ≤ 1000) :
    ∃ (i : Nat) (d : D) (U' : List D), ds[i]? = some d ∧ F_law_pick [.loc l, w] S = some (.val d, S.set l (some U')) ∧ UrnOk (n + 1) U' := by
  obtain ⟨j, U', e, ⟨j0, j1⟩, hU⟩ := take_ok (lim := (ds.length : Int)) hS h hn (by omega) (by omega)
  obtain ⟨i, rfl⟩ : ∃ i : Nat, j = (i : Int) := ⟨j.toNat, by omega⟩
  have hi : i < ds.length := by omega
  refine ⟨i, ds[i], U', List.getElem?_eq_getElem hi, ?_, hU⟩
  have e2 : L2.atI ds (i : Int) = some ds[i] := atI_nat (List.getElem?_eq_getElem hi)
  unfold F_law_pick trimF fnM b_law_pick
  rcases hw with rfl | rfl
  · simp only [sSeq, sRet, mBin, mVar, mCall, aCons, aNil, fLen, tItems, lItems, List.map_cons, List.map_nil, List.length_cons, List.length_nil, Nat.reduceAdd, Nat.reduceSub, List.replicate, List.append_nil, List.getElem?_cons_zero, List.getElem?_cons_succ, e, fIx, e2, Option.map_some, set_take]
  · simp only [sSeq, sRet, mBin, mVar, mCall, aCons, aNil, fLen, tItems, lItems, List.map_cons, List.map_nil, List.length_cons, List.length_nil, Nat.reduceAdd, Nat.reduceSub, List.replicate, List.append_nil, List.getElem?_cons_zero, List.getElem?_cons_succ, e, fIx, e2, Option.map_some, set_take]
end Lib

set_option Elab.async false
set_option linter.all false
set_option maxRecDepth 100000
set_option autoImplicit false
set_option maxHeartbeats 4000000
namespace Lib
open PySem PySem.Spec L2 HM
open PyProof.Rows hiding St
/-- a drawn fraction: fewer than 20 bits above and below -/
theorem UrnOk.mono {n m : Int} {U : List D} (h : UrnOk n U) (hm : n ≤ m) : UrnOk m U := by
  obtain ⟨u', m', c', g', rfl, x1, x2, x3, x4⟩ := h
  exact ⟨u', m', c', g', rfl, x1, x2, by omega, x4⟩
theorem number_ok {l : Nat} {S : Sto} {U : List D} {n : Int} (hS : S[l]? = some (some U)) (h : UrnOk n U) (hn : n ≤ 900000) :
    ∃ q U', F_law_number [.loc l] S = some (.val (fr q), S.set l (some U')) ∧ HB q 20 ∧ UrnOk (n + 3) U' := by
  obtain ⟨b, U1, e1, ⟨b0, b1⟩, hU1⟩ := take_ok (lim := 96) hS h (by omega) (by decide) (by decide)
  obtain ⟨u, m, c, g, rfl, hu, hm, hc, hg⟩ := hU1
  have hS1 : (S.set l (some (Urn u m c g)))[l]? = some (some (Urn u m c g)) := set_at hS
  by_cases hgr : b = 95 ∧ 0 < g
  · obtain ⟨rfl, hg0⟩ := hgr
    have hU2 : UrnOk (n + 1) (Urn u m c (g - 1)) := ⟨u, m, c, g - 1, rfl, hu, hm, hc, by omega⟩
    obtain ⟨a, U3, e3, ⟨a0, a1⟩, hU3⟩ := take_ok (lim := 2000003) (S := S.set l (some (Urn u m c (g - 1)))) (set_at hS) hU2 (by omega) (by decide) (by decide)
    obtain ⟨d, U4, e4, ⟨d0, d1⟩, hU4⟩ := take_ok (lim := 97) (S := S.set l (some U3)) (set_at hS) hU3 (by omega) (by decide) (by decide)
    have bb : Bits (1 + d) 20 := bits_of (by omega) (by omega)
    have ba : Bits (a - 1000001) 20 := by unfold Bits; omega
    have ef := frac_ok (a := a - 1000001) (b := 1 + d) (k := 20) (by omega) bb (by decide) (S.set l (some U4))
    refine ⟨Rat.divInt (a - 1000001) (1 + d), U4, ?_, hb_div (by omega) ba bb, hU4.mono (by omega)⟩
    rw [List.set_set] at e3 e4
    unfold F_law_number trimF fnM b_law_number
    simp [sSeq, sSet, mCall, aCons, aNil, mVar, mC, e1, sIf, mtAnd, mTest, mBin, eq_int, fGt, fB, fIx, tItems, lItems, set_at hS, L2.atI, ixN, hg0, sPut, fSub, fI, HM.putAt, cellOf?, List.set_set, e3, e4, fPlus, fAdd, ef, sRet, set_take]
  · have hnb : (mtAnd (mTest (mBin fEq (mVar 1) (mC (.int 95)))) (mTest (mBin fGt (mBin fIx (mVar 0) (mC (.int 3))) (mC (.int 0))))) [some (.loc l), some (.val (.int b))] (S.set l (some (Urn u m c g))) = some (false, S.set l (some (Urn u m c g))) := by
      by_cases hb : b = 95
      · have hg0 : ¬ 0 < g := fun z => hgr ⟨hb, z⟩
        simp [mtAnd, mTest, mBin, mVar, mC, eq_int, hb, fGt, fB, fIx, tItems, lItems, set_at hS, L2.atI, ixN, hg0]
      · simp [mtAnd, mTest, mBin, mVar, mC, eq_int, hb]
    have hU1 : UrnOk (n + 1) (Urn u m c g) := ⟨u, m, c, g, rfl, hu, hm, hc, hg⟩
    by_cases hb : b < 62
    · obtain ⟨a, U3, e3, ⟨a0, a1⟩, hU3⟩ := take_ok (lim := 5) (S := S.set l (some (Urn u m c g))) hS1 hU1 (by omega) (by decide) (by decide)
      obtain ⟨i, hi⟩ : ∃ i, i = a - 2 := ⟨_, rfl⟩
      have hq : D.tup [.int (a - 2), .int 1] = fr (i : Rat) := by
        unfold fr
        rw [← hi, Rat.num_intCast, Rat.den_intCast]
        rfl
      have sl : (2 : Nat) ≤ sizeLine := by rw [sizeLine_eq]; decide
      refine ⟨(i : Rat), U3, ?_, ⟨?_, ?_⟩, hU3.mono (by omega)⟩
      · rw [← hq]
        rw [List.set_set] at e3
        unfold F_law_number trimF fnM b_law_number
        simp only [List.map_cons, List.map_nil, List.length_cons, List.length_nil, List.cons_append, List.nil_append, Nat.reduceAdd, Nat.reduceSub, List.replicate, sSeq, sSet, mCall, aCons, aNil, mVar, mC, e1, List.getElem?_cons_zero, List.getElem?_cons_succ, List.set_cons_zero, List.set_cons_succ, sIf] at hnb ⊢
        rw [hnb]
        simp [sNx, mTest, mBin, mVar, mC, fLt, fB, hb, sRet, mTup, aCons, aNil, mCall, e3, fSub, fI, vals?, sl, set_take]
      · rw [Rat.num_intCast]
        unfold Bits; omega
      · rw [Rat.den_intCast]
        exact (show Bits (1 : Int) 20 by unfold Bits; decide)
    · obtain ⟨a, U3, e3, ⟨a0, a1⟩, hU3⟩ := take_ok (lim := 9) (S := S.set l (some (Urn u m c g))) hS1 hU1 (by omega) (by decide) (by decide)
      obtain ⟨d, U4, e4, ⟨d0, d1⟩, hU4⟩ := take_ok (lim := 3) (S := S.set l (some U3)) (set_at hS) hU3 (by omega) (by decide) (by decide)
      have bb : Bits (2 + d) 20 := bits_of (by omega) (by omega)
      have ba : Bits (a - 4) 20 := by unfold Bits; omega
      have ef := frac_ok (a := a - 4) (b := 2 + d) (k := 20) (by omega) bb (by decide) (S.set l (some U4))
      refine ⟨Rat.divInt (a - 4) (2 + d), U4, ?_, hb_div (by omega) ba bb, hU4.mono (by omega)⟩
      rw [List.set_set] at e3 e4
      unfold F_law_number trimF fnM b_law_number
      simp only [List.map_cons, List.map_nil, List.length_cons, List.length_nil, List.cons_append, List.nil_append, Nat.reduceAdd, Nat.reduceSub, List.replicate, sSeq, sSet, mCall, aCons, aNil, mVar, mC, e1, List.getElem?_cons_zero, List.getElem?_cons_succ, List.set_cons_zero, List.set_cons_succ, sIf] at hnb ⊢
      rw [hnb]
      simp [sNx, mTest, mBin, mVar, mC, fLt, fB, hb, sRet, aCons, aNil, mCall, e3, e4, fSub, fI, fPlus, fAdd, ef, set_take]
end Lib

set_option Elab.async false
set_option linter.all false
set_option maxRecDepth 100000
set_option autoImplicit false
set_option maxHeartbeats 4000000
namespace Lib
open PySem PySem.Spec L2 HM
open PyProof.Rows hiding St
/-! ### the program's fractions: all that is asked is that what comes out is no giant -/
theorem dig_mul {g c : Int} (h : Bits c 4400) : Builtin.divisionGoesByPylong (g * c) g = false := by
  unfold Builtin.divisionGoesByPylong
  simp only [Bool.and_eq_false_iff, decide_eq_false_iff_not]
  by_cases hg : g = 0
  · subst hg; left; decide
  by_cases hc : c = 0
  · subst hc; right; rw [Int.mul_zero]; simp
  right
  have h1 : (g == 0) = false := by simpa using hg
  have h2 : (g * c == 0) = false := by simpa using ⟨hg, hc⟩
  simp only [h1, h2, Bool.false_eq_true, if_false]
  have gp : g.natAbs ≠ 0 := by omega
  have cp : c.natAbs ≠ 0 := by omega
  have m : (g * c).natAbs.log2 < g.natAbs.log2 + 1 + 4400 := by
    rw [Int.natAbs_mul]
    refine (Nat.log2_lt (Nat.mul_ne_zero gp cp)).mpr ?_
    rw [Nat.pow_add]
    exact Nat.mul_lt_mul'' Nat.lt_log2_self h
  omega
theorem cDivF_mul {g c : Int} (hg : g ≠ 0) (h : Bits c 4400) : cDivF (g * c) g = true := by
  unfold cDivF
  rw [dig_mul h, decide_eq_true hg]
  rfl
theorem red_fac {a b : Int} (h : b ≠ 0) : a = redG a b * (Rat.divInt a b).num ∧ b = redG a b * ((Rat.divInt a b).den : Int) := by
  have g0 := redG_ne (a := a) h
  have da : redG a b ∣ a := by
    have : iGcd a b ∣ a := by unfold iGcd; exact Int.ofNat_dvd_left.mpr (Nat.gcd_dvd_left _ _)
    unfold redG
    split
    · exact Int.neg_dvd.mpr this
    · exact this
  have db : redG a b ∣ b := by
    have : iGcd a b ∣ b := by unfold iGcd; exact Int.ofNat_dvd_left.mpr (Nat.gcd_dvd_right _ _)
    unfold redG
    split
    · exact Int.neg_dvd.mpr this
    · exact this
  constructor
  · rw [← red_num h]
    obtain ⟨c, hc⟩ := da
    rw [(fdiv_of g0 hc).1]; exact hc
  · rw [← red_den h]
    obtain ⟨c, hc⟩ := db
    rw [(fdiv_of g0 hc).1]; exact hc
/-- no giant -/
abbrev Sm (q : Rat) : Prop := HB q 4400
theorem hb_mono {q : Rat} {k l : Nat} (h : HB q k) (hl : k ≤ l) : HB q l := ⟨h.num.mono hl, h.den.mono hl⟩
theorem lt_int (i j : Int) (S : Sto) : fLt (.val (.int i)) (.val (.int j)) S = some (.val (.bl (decide (i < j))), S) := by
  simp [fLt, fB]
theorem gt_int (i j : Int) (S : Sto) : fGt (.val (.int i)) (.val (.int j)) S = some (.val (.bl (decide (j < i))), S) := by
  simp [fGt, fB]
theorem reduced_ok {a b : Int} (h : b ≠ 0) (hs : Sm (Rat.divInt a b)) (S : Sto) : F_reduced [.val (.int a), .val (.int b)] S = some (.val (fr (Rat.divInt a b)), S) := by
  obtain ⟨fa, fb⟩ := red_fac (a := a) h
  have d1 : cDivF a (redG a b) = true := by
    have := cDivF_mul (redG_ne (a := a) h) hs.num
    rwa [← fa] at this
  have d2 : cDivF b (redG a b) = true := by
    have := cDivF_mul (redG_ne (a := a) h) hs.den
    rwa [← fb] at this
  have hf := fr_red (a := a) (b := b) h
  have sl : (2 : Nat) ≤ sizeLine := by rw [sizeLine_eq]; decide
  unfold F_reduced trimF fnM b_reduced
  rw [← hf]
  by_cases hb : b < 0
  · have hg : redG a b = -iGcd a b := by unfold redG; rw [if_pos hb]
    rw [hg] at d1 d2 ⊢
    simp [sSeq, sSet, sIf, mTest, mCall, fInt2, aCons, aNil, mBin, mVar, mC, lt_int, hb, mNeg, sNx, sRet, mTup, fDivF, fI, d1, d2, vals?, sl]
  · have hg : redG a b = iGcd a b := by unfold redG; rw [if_neg hb]
    rw [hg] at d1 d2 ⊢
    simp [sSeq, sSet, sIf, mTest, mCall, fInt2, aCons, aNil, mBin, mVar, mC, lt_int, hb, mNeg, sNx, sRet, mTup, fDivF, fI, d1, d2, vals?, sl]
theorem div_fr {p q : Rat} (h : q ≠ 0) : Rat.divInt (p.num * q.den) (p.den * q.num) = p / q := by
  have h1 := cast_ne (den_ne p)
  have h2 := cast_ne (den_ne q)
  have h3 : q.num ≠ 0 := fun z => h (Rat.num_eq_zero.mp z)
  have h4 := cast_ne h3
  have e1 : (p.num : Rat) / ((p.den : Int) : Rat) = p := by rw [← Rat.divInt_eq_div]; exact rat_self p
  have e2 : (q.num : Rat) / ((q.den : Int) : Rat) = q := by rw [← Rat.divInt_eq_div]; exact rat_self q
  rw [Rat.divInt_eq_div]
  simp only [Rat.intCast_mul]
  generalize ((p.den : Int) : Rat) = pd at *
  generalize ((q.den : Int) : Rat) = qd at *
  generalize (p.num : Rat) = pn at *
  generalize (q.num : Rat) = qn at *
  grind
theorem sub_fr (p q : Rat) : Rat.divInt (p.num * q.den - q.num * p.den) (p.den * q.den) = p - q := by
  have h1 := cast_ne (den_ne p)
  have h2 := cast_ne (den_ne q)
  have e1 : (p.num : Rat) / ((p.den : Int) : Rat) = p := by rw [← Rat.divInt_eq_div]; exact rat_self p
  have e2 : (q.num : Rat) / ((q.den : Int) : Rat) = q := by rw [← Rat.divInt_eq_div]; exact rat_self q
  rw [Rat.divInt_eq_div]
  simp only [Rat.intCast_sub, Rat.intCast_mul]
  generalize ((p.den : Int) : Rat) = pd at *
  generalize ((q.den : Int) : Rat) = qd at *
  generalize (p.num : Rat) = pn at *
  generalize (q.num : Rat) = qn at *
  grind
theorem less_fr (p f q : Rat) : Rat.divInt (p.num * (f.den * q.den) - f.num * q.num * p.den) (p.den * (f.den * q.den)) = p - f * q := by
  have h1 := cast_ne (den_ne p)
  have h2 := cast_ne (den_ne q)
  have h3 := cast_ne (den_ne f)
  have e1 : (p.num : Rat) / ((p.den : Int) : Rat) = p := by rw [← Rat.divInt_eq_div]; exact rat_self p
  have e2 : (q.num : Rat) / ((q.den : Int) : Rat) = q := by rw [← Rat.divInt_eq_div]; exact rat_self q
  have e3 : (f.num : Rat) / ((f.den : Int) : Rat) = f := by rw [← Rat.divInt_eq_div]; exact rat_self f
  rw [Rat.divInt_eq_div]
  simp only [Rat.intCast_sub, Rat.intCast_mul]
  generalize ((p.den : Int) : Rat) = pd at *
  generalize ((q.den : Int) : Rat) = qd at *
  generalize ((f.den : Int) : Rat) = fd at *
  generalize (p.num : Rat) = pn at *
  generalize (q.num : Rat) = qn at *
  generalize (f.num : Rat) = fn at *
  grind
section
variable {p q f : Rat}
theorem ptimes_ok (hp : Sm p) (hq : Sm q) (h : Sm (p * q)) (S : Sto) : F_times [.val (fr p), .val (fr q)] S = some (.val (fr (p * q)), S) := by
  have c1 : cMul p.num q.num = true := cMul_bits hp.num hq.num (by decide)
  have c2 : cMul (p.den : Int) (q.den : Int) = true := cMul_bits hp.den hq.den (by decide)
  have f := reduced_ok (a := p.num * q.num) (b := p.den * q.den) (Int.mul_ne_zero (den_ne p) (den_ne q)) (by rw [mul_fr]; exact h) S
  rw [mul_fr] at f
  unfold F_times trimF fnM b_times
  simp [sSeq, sRet, mCall, aCons, aNil, mBin, mVar, mC, ix0, ix1, mulX_int c1, mulX_int c2, f]
theorem pover_ok (hp : Sm p) (hq : Sm q) (h0 : q ≠ 0) (h : Sm (p / q)) (S : Sto) : F_over [.val (fr p), .val (fr q)] S = some (.val (fr (p / q)), S) := by
  have c1 : cMul p.num (q.den : Int) = true := cMul_bits hp.num hq.den (by decide)
  have c2 : cMul (p.den : Int) q.num = true := cMul_bits hp.den hq.num (by decide)
  have h3 : q.num ≠ 0 := fun z => h0 (Rat.num_eq_zero.mp z)
  have f := reduced_ok (a := p.num * q.den) (b := p.den * q.num) (Int.mul_ne_zero (den_ne p) h3) (by rw [div_fr h0]; exact h) S
  rw [div_fr h0] at f
  unfold F_over trimF fnM b_over
  simp [sSeq, sRet, mCall, aCons, aNil, mBin, mVar, mC, ix0, ix1, mulX_int c1, mulX_int c2, f]
theorem pminus_ok (hp : Sm p) (hq : Sm q) (h : Sm (p - q)) (S : Sto) : F_minus [.val (fr p), .val (fr q)] S = some (.val (fr (p - q)), S) := by
  have c1 : cMul p.num (q.den : Int) = true := cMul_bits hp.num hq.den (by decide)
  have c2 : cMul q.num (p.den : Int) = true := cMul_bits hq.num hp.den (by decide)
  have c3 : cMul (p.den : Int) (q.den : Int) = true := cMul_bits hp.den hq.den (by decide)
  have f := reduced_ok (a := p.num * q.den - q.num * p.den) (b := p.den * q.den) (Int.mul_ne_zero (den_ne p) (den_ne q)) (by rw [sub_fr]; exact h) S
  rw [sub_fr] at f
  unfold F_minus trimF fnM b_minus
  simp [sSeq, sRet, mCall, aCons, aNil, mBin, mVar, mC, ix0, ix1, mulX_int c1, mulX_int c2, mulX_int c3, fSub, fI, f]
theorem pplus_ok (hp : Sm p) (hq : Sm q) (h : Sm (p + q)) (S : Sto) : F_plus [.val (fr p), .val (fr q)] S = some (.val (fr (p + q)), S) := by
  have c1 : cMul p.num (q.den : Int) = true := cMul_bits hp.num hq.den (by decide)
  have c2 : cMul q.num (p.den : Int) = true := cMul_bits hq.num hp.den (by decide)
  have c3 : cMul (p.den : Int) (q.den : Int) = true := cMul_bits hp.den hq.den (by decide)
  have f := reduced_ok (a := p.num * q.den + q.num * p.den) (b := p.den * q.den) (Int.mul_ne_zero (den_ne p) (den_ne q)) (by rw [add_fr]; exact h) S
  rw [add_fr] at f
  unfold F_plus trimF fnM b_plus
  simp [sSeq, sRet, mCall, aCons, aNil, mBin, mVar, mC, ix0, ix1, mulX_int c1, mulX_int c2, mulX_int c3, fPlus, fAdd, fI, f]
theorem pless_ok (hp : Sm p) (hf : Sm f) (hq : Sm q) (h : Sm (p - f * q)) (S : Sto) : F_less_times [.val (fr p), .val (fr f), .val (fr q)] S = some (.val (fr (p - f * q)), S) := by
  have bl := hf.den.mul hq.den
  have bn := hf.num.mul hq.num
  have c0 : cMul (f.den : Int) (q.den : Int) = true := cMul_bits hf.den hq.den (by decide)
  have c1 : cMul p.num ((f.den : Int) * q.den) = true := cMul_bits hp.num bl (by decide)
  have c2 : cMul f.num q.num = true := cMul_bits hf.num hq.num (by decide)
  have c3 : cMul (f.num * q.num) (p.den : Int) = true := cMul_bits bn hp.den (by decide)
  have c4 : cMul (p.den : Int) ((f.den : Int) * q.den) = true := cMul_bits hp.den bl (by decide)
  have g := reduced_ok (a := p.num * (f.den * q.den) - f.num * q.num * p.den) (b := p.den * (f.den * q.den)) (Int.mul_ne_zero (den_ne p) (Int.mul_ne_zero (den_ne f) (den_ne q))) (by rw [less_fr]; exact h) S
  rw [less_fr] at g
  unfold F_less_times trimF fnM b_less_times
  simp [sSeq, sSet, sRet, mCall, aCons, aNil, mBin, mVar, mC, ix0, ix1, mulX_int c0, mulX_int c1, mulX_int c2, mulX_int c3, mulX_int c4, fSub, fI, g]
end
end Lib

set_option Elab.async false
set_option linter.all false
set_option maxRecDepth 100000
set_option autoImplicit false
set_option maxHeartbeats 4000000
namespace HM
open PySem PySem.Spec L2
open PyProof.Rows hiding St
/-! ### comprehensions and loops with steps that leave the store -/
theorem set_same {S : Sto} {l : Nat} {x : Option (List D)} (h : S[l]? = some x) : S.set l x = S := by
  apply List.ext_getElem?
  intro j
  by_cases hj : j = l
  · subst hj
    rw [List.getElem?_set_self (List.getElem?_eq_some_iff.mp h).1, h]
  · rw [List.getElem?_set_ne (Ne.symm hj)]
theorem lc_mapT {α : Type} {l : Nat} {tg : Tg} {m : EM} {ρ0 : Rho} {enc out : α → D} : ∀ (xs : List α), (∀ d ∈ xs, ∃ ρ1, bindT tg (.val (enc d)) ρ0 = some ρ1 ∧ ∀ S, m ρ1 S = some (.val (out d), S)) → ∀ (S : Sto) (acc : List D), S[l]? = some (some acc) → acc.length + xs.length ≤ sizeLine → lcL tg tYesM m ρ0 l (xs.map enc) S = some (S.set l (some (acc ++ xs.map out)))
  | [], _, S, acc, hS, _ => by
    simp only [lcL, List.map_nil, List.append_nil]
    rw [set_same hS]
  | d :: r, h, S, acc, hS, hl => by
    have hlt : l < S.length := (List.getElem?_eq_some_iff.mp hS).1
    have hl' : acc.length + (r.length + 1) ≤ sizeLine := by simpa using hl
    obtain ⟨ρ1, b1, e⟩ := h d List.mem_cons_self
    have e := e S
    have ih := lc_mapT (l := l) r (fun x hx => h x (List.mem_cons_of_mem _ hx)) (S.set l (some (acc ++ [out d]))) (acc ++ [out d]) (by rw [List.getElem?_set_self hlt]) (by simp; omega)
    simp only [List.map_cons, lcL, b1, tYesM, e, hS, Option.getD_some]
    rw [if_pos (by omega), ih, List.set_set]
    simp
theorem mLc_mapT {α : Type} {tg : Tg} {m : EM} {it : IM} {vs : List Nat} {ρ : Rho} {S : Sto} {xs : List α} {enc out : α → D} (hi : it ρ S = some (xs.map enc, S)) (h : ∀ d ∈ xs, ∃ ρ1, bindT tg (.val (enc d)) (wipeR ρ vs) = some ρ1 ∧ ∀ S, m ρ1 S = some (.val (out d), S)) (hl : xs.length ≤ sizeLine) : mLc it tg tYesM m vs ρ S = some (.val (.fl (xs.map out)), S) := by
  have e := lc_mapT (l := S.length) xs h (S ++ [some []]) [] (by simp) (by simpa using hl)
  unfold mLc
  rw [hi]
  simp only [e, List.nil_append]
  rw [List.getElem?_set_self (by simp)]
  simp
/-- .. with a test -/
theorem lc_filT {α : Type} {l : Nat} {tg : Tg} {t : TM} {m : EM} {ρ0 : Rho} {enc out : α → D} {pr : α → Bool} : ∀ (xs : List α), (∀ d ∈ xs, ∃ ρ1, bindT tg (.val (enc d)) ρ0 = some ρ1 ∧ (∀ S, t ρ1 S = some (pr d, S)) ∧ ∀ S, m ρ1 S = some (.val (out d), S)) → ∀ (S : Sto) (acc : List D), S[l]? = some (some acc) → acc.length + xs.length ≤ sizeLine → lcL tg t m ρ0 l (xs.map enc) S = some (S.set l (some (acc ++ (xs.filter pr).map out)))
  | [], _, S, acc, hS, _ => by
    simp only [lcL, List.map_nil, List.filter_nil, List.append_nil]
    rw [set_same hS]
  | d :: r, h, S, acc, hS, hl => by
    have hlt : l < S.length := (List.getElem?_eq_some_iff.mp hS).1
    have hl' : acc.length + (r.length + 1) ≤ sizeLine := by simpa using hl
    obtain ⟨ρ1, b1, et, e⟩ := h d List.mem_cons_self
    have e := e S
    have et := et S
    have hr := fun x (hx : x ∈ r) => h x (List.mem_cons_of_mem _ hx)
    cases hp : pr d with
    | true =>
      rw [hp] at et
      have ih := lc_filT (l := l) r hr (S.set l (some (acc ++ [out d]))) (acc ++ [out d]) (by rw [List.getElem?_set_self hlt]) (by simp; omega)
      simp only [List.map_cons, lcL, b1, et, e, hS, Option.getD_some]
      rw [if_pos (by omega), ih, List.set_set, List.filter_cons_of_pos hp]
      simp
    | false =>
      rw [hp] at et
      have ih := lc_filT (l := l) r hr S acc hS (by omega)
      simp only [List.map_cons, lcL, b1, et]
      rw [ih, List.filter_cons_of_neg (by simp [hp])]
theorem mLc_filT {α : Type} {tg : Tg} {t : TM} {m : EM} {it : IM} {vs : List Nat} {ρ : Rho} {S : Sto} {xs : List α} {enc out : α → D} {pr : α → Bool} (hi : it ρ S = some (xs.map enc, S)) (h : ∀ d ∈ xs, ∃ ρ1, bindT tg (.val (enc d)) (wipeR ρ vs) = some ρ1 ∧ (∀ S, t ρ1 S = some (pr d, S)) ∧ ∀ S, m ρ1 S = some (.val (out d), S)) (hl : xs.length ≤ sizeLine) : mLc it tg t m vs ρ S = some (.val (.fl ((xs.filter pr).map out)), S) := by
  have e := lc_filT (l := S.length) xs h (S ++ [some []]) [] (by simp) (by simpa using hl)
  unfold mLc
  rw [hi]
  simp only [e, List.nil_append]
  rw [List.getElem?_set_self (by simp)]
  simp
theorem zipD_map {α β : Type} (f : α → D) (g : β → D) : ∀ (xs : List α) (ys : List β), zipD (xs.map f) (ys.map g) = (xs.zip ys).map fun p => D.tup [f p.1, g p.2]
  | [], _ => by simp [zipD]
  | _ :: _, [] => by simp [zipD]
  | x :: xs, y :: ys => by
    simp only [List.map_cons, zipD, List.zip_cons_cons]
    rw [zipD_map f g xs ys]
/-- a loop by an invariant -/
theorem forL_inv {tg : Tg} {b : SM} (Inv : Nat → Rho → Sto → Prop) : ∀ (js : List D) (i : Nat) (ρ : Rho) (S : Sto), Inv i ρ S →
    (∀ (k : Nat) (d : D) (ρ : Rho) (S : Sto), js[k]? = some d → Inv (i + k) ρ S → ∃ ρ1 ρ2 S2, bindT tg (.val d) ρ = some ρ1 ∧ b ρ1 S = some (.nx, ρ2, S2) ∧ Inv (i + k + 1) ρ2 S2) →
    ∃ ρ' S', forL tg b js ρ S = some (.nx, ρ', S') ∧ Inv (i + js.length) ρ' S'
  | [], i, ρ, S, h, _ => ⟨ρ, S, rfl, h⟩
  | j :: r, i, ρ, S, h, st => by
    obtain ⟨ρ1, ρ2, S2, e1, e2, h2⟩ := st 0 j ρ S rfl h
    obtain ⟨ρ', S', e3, h3⟩ := forL_inv Inv r (i + 1) ρ2 S2 (by simpa using h2) (fun k d ρ S hk hi => by
      have := st (k + 1) d ρ S hk (by rw [show i + (k + 1) = i + 1 + k by omega]; exact hi)
      rw [show i + (k + 1) + 1 = i + 1 + k + 1 by omega] at this
      exact this)
    refine ⟨ρ', S', ?_, by rw [List.length_cons, show i + (r.length + 1) = i + 1 + r.length by omega]; exact h3⟩
    simp only [forL, e1, e2, e3]
end HM
namespace Lib
open PySem PySem.Spec L2 HM
open PyProof.Rows hiding St
/-! ### the program's rows and tables -/
def pdotB : SM := (sSeq
  (sSet 8 (mBin fMulX (mVar 5) (mVar 7)))
  (sSeq
  (sPar 2 3 (aCons (mBin fPlus (mBin fMulX (mVar 2) (mVar 8)) (mBin fMulX (mBin fMulX (mVar 4) (mVar 6)) (mVar 3))) (aCons (mBin fMulX (mVar 3) (mVar 8)) aNil)))
  sNx))
theorem pdot_loop {k : Nat} (w0 w1 : Option W) (S : Sto) : ∀ (ps : List (Rat × Rat)) (t l : Int) (B : Nat) (w4 w5 w6 w7 w8 : Option W), (∀ x ∈ ps, HB x.1 k ∧ HB x.2 k) → l ≠ 0 → Bits t B → Bits l B → B + ps.length * (k + k + 1) < 400000 → k + k < 200000 →
    ∃ t' l' v4 v5 v6 v7 v8, forL (.tp [.tp [.nm 4, .nm 5], .tp [.nm 6, .nm 7]]) pdotB (ps.map fun x => D.tup [fr x.1, fr x.2]) [w0, w1, some (.val (.int t)), some (.val (.int l)), w4, w5, w6, w7, w8] S = some (.nx, [w0, w1, some (.val (.int t')), some (.val (.int l')), v4, v5, v6, v7, v8], S) ∧ l' ≠ 0 ∧ Rat.divInt t' l' = Rat.divInt t l + dotR ps
  | [], t, l, B, w4, w5, w6, w7, w8, _, hl, ht, hb, _, _ => ⟨t, l, w4, w5, w6, w7, w8, rfl, hl, by simp [dotR, Rat.add_zero]⟩
  | (p, q) :: r, t, l, B, w4, w5, w6, w7, w8, hx, hl, ht, hb, hB, hk2 => by
    obtain ⟨hp, hq⟩ := hx (p, q) List.mem_cons_self
    have hB' : B + (r.length + 1) * (k + k + 1) < 400000 := by simpa using hB
    have hB2 : (r.length + 1) * (k + k + 1) = r.length * (k + k + 1) + (k + k + 1) := by rw [Nat.add_mul, Nat.one_mul]
    have hby := hp.den.mul hq.den
    have hnm := hp.num.mul hq.num
    have c1 : cMul (p.den : Int) (q.den : Int) = true := cMul_bits hp.den hq.den (by omega)
    have c2 : cMul t ((p.den : Int) * q.den) = true := cMul_bits ht hby (by omega)
    have c3 : cMul p.num q.num = true := cMul_bits hp.num hq.num (by omega)
    have c4 : cMul (p.num * q.num) l = true := cMul_bits hnm hb (by omega)
    have c5 : cMul l ((p.den : Int) * q.den) = true := cMul_bits hb hby (by omega)
    have hb1 : Bits (t * ((p.den : Int) * q.den) + p.num * q.num * l) (B + (k + k + 1)) := by
      have u1 := ht.mul hby
      have u2 := hnm.mul hb
      have u3 := Bits.add (u1.mono (show B + (k + k) ≤ B + (k + k) by omega)) (u2.mono (show k + k + B ≤ B + (k + k) by omega))
      exact u3.mono (by omega)
    have hb2 : Bits (l * ((p.den : Int) * q.den)) (B + (k + k + 1)) := (hb.mul hby).mono (by omega)
    have hne : l * ((p.den : Int) * q.den) ≠ 0 := Int.mul_ne_zero hl (Int.mul_ne_zero (den_ne p) (den_ne q))
    have eb : pdotB [w0, w1, some (.val (.int t)), some (.val (.int l)), some (.val (.int p.num)), some (.val (.int (p.den : Int))), some (.val (.int q.num)), some (.val (.int (q.den : Int))), w8] S = some (.nx, [w0, w1, some (.val (.int (t * ((p.den : Int) * q.den) + p.num * q.num * l))), some (.val (.int (l * ((p.den : Int) * q.den)))), some (.val (.int p.num)), some (.val (.int (p.den : Int))), some (.val (.int q.num)), some (.val (.int (q.den : Int))), some (.val (.int ((p.den : Int) * q.den)))], S) := by
      simp only [pdotB, sSeq, sSet, sPar, aCons, aNil, mBin, mVar, mC, List.getElem?_cons_zero, List.getElem?_cons_succ, mulX_int c1, mulX_int c2, mulX_int c3, mulX_int c4, mulX_int c5, List.set_cons_zero, List.set_cons_succ, fPlus, fAdd, fI, if_true, Option.orElse, sNx]
    obtain ⟨t', l', v4, v5, v6, v7, v8, e, z1, z2⟩ := pdot_loop w0 w1 S r _ _ (B + (k + k + 1)) (some (.val (.int p.num))) (some (.val (.int (p.den : Int)))) (some (.val (.int q.num))) (some (.val (.int (q.den : Int)))) (some (.val (.int ((p.den : Int) * q.den)))) (fun x hx' => hx x (List.mem_cons_of_mem _ hx')) hne hb1 hb2 (by omega) hk2
    refine ⟨t', l', v4, v5, v6, v7, v8, ?_, z1, ?_⟩
    · simp only [List.map_cons, forL]
      have bt : bindT (.tp [.tp [.nm 4, .nm 5], .tp [.nm 6, .nm 7]]) (.val (.tup [fr p, fr q])) [w0, w1, some (.val (.int t)), some (.val (.int l)), w4, w5, w6, w7, w8] = some [w0, w1, some (.val (.int t)), some (.val (.int l)), some (.val (.int p.num)), some (.val (.int (p.den : Int))), some (.val (.int q.num)), some (.val (.int (q.den : Int))), w8] := rfl
      rw [bt]
      simp only [eb, e]
    · rw [z2, step_fr p q t l hl]
      show _ = Rat.divInt t l + (p * q + dotR r)
      rw [Rat.add_assoc]
theorem pdot_ok {xs ys : List Rat} (hx : ∀ x ∈ xs, Sm x) (hy : ∀ y ∈ ys, Sm y) (hl : xs.length ≤ 40) (hs : Sm (dotQ xs ys)) (S : Sto) : F_dot [.val (rowD xs), .val (rowD ys)] S = some (.val (fr (dotQ xs ys)), S) := by
  have hlen : (xs.zip ys).length ≤ 40 := by rw [List.length_zip]; omega
  have hp : ∀ x ∈ xs.zip ys, HB x.1 4400 ∧ HB x.2 4400 := fun x h => ⟨hx _ (List.of_mem_zip h).1, hy _ (List.of_mem_zip h).2⟩
  obtain ⟨t', l', v4, v5, v6, v7, v8, e, z1, z2⟩ := pdot_loop (k := 4400) (some (.val (rowD xs))) (some (.val (rowD ys))) S (xs.zip ys) 0 1 1 none none none none none hp (by decide) (by unfold Bits; decide) (by unfold Bits; decide) (by omega) (by decide)
  have z : Rat.divInt 0 1 = 0 := by rfl
  rw [z, Rat.zero_add] at z2
  have f := reduced_ok (a := t') (b := l') z1 (by rw [z2]; exact hs) S
  rw [z2] at f
  have eb : b_dot = sSeq (sAsg (.tp [.nm 2, .nm 3]) (mTup (aCons (mC (.int 0)) (aCons (mC (.int 1)) aNil)))) (sSeq (sFor (iZipM (aCons (mVar 0) (aCons (mVar 1) aNil))) (.tp [.tp [.nm 4, .nm 5], .tp [.nm 6, .nm 7]]) pdotB) (sSeq (sRet (mCall F_reduced (aCons (mVar 2) (aCons (mVar 3) aNil)))) sNx)) := rfl
  have it : iZipM (aCons (mVar 0) (aCons (mVar 1) aNil)) [some (.val (rowD xs)), some (.val (rowD ys)), some (.val (.int 0)), some (.val (.int 1)), none, none, none, none, none] S = some ((xs.zip ys).map (fun x => D.tup [fr x.1, fr x.2]), S) := by
    rw [← zip_fr]
    simp [iZipM, aCons, aNil, mVar, tItems, rowD]
  have a0 : sAsg (.tp [.nm 2, .nm 3]) (mTup (aCons (mC (.int 0)) (aCons (mC (.int 1)) aNil))) [some (.val (rowD xs)), some (.val (rowD ys)), none, none, none, none, none, none, none] S = some (.nx, [some (.val (rowD xs)), some (.val (rowD ys)), some (.val (.int 0)), some (.val (.int 1)), none, none, none, none, none], S) := by
    have sl : (2 : Nat) ≤ sizeLine := by rw [sizeLine_eq]; decide
    simp [sAsg, mTup, aCons, aNil, mC, vals?, bindT, bindTs, sl]
  unfold F_dot trimF fnM
  rw [eb]
  simp only [List.map_cons, List.map_nil, List.length_cons, List.length_nil, List.cons_append, List.nil_append, Nat.reduceAdd, Nat.reduceSub, List.replicate, sSeq, a0, sFor, it, e]
  simp [sRet, mCall, aCons, aNil, mVar, f, dotQ]
theorem sz40 {n : Nat} (h : n ≤ 1000) : n ≤ sizeLine := by rw [sizeLine_eq]; omega
theorem papplied_ok {t : List (List Rat)} {x : List Rat} (ht : ∀ r ∈ t, (∀ q ∈ r, Sm q) ∧ r.length ≤ 40 ∧ Sm (dotQ r x)) (hx : ∀ q ∈ x, Sm q) (hl : t.length ≤ 1000) (S : Sto) : F_applied [.val (gridD t), .val (rowD x)] S = some (.val (rowD (t.map fun r => dotQ r x)), S) := by
  have hc := mLc_mapT (tg := .nm 2) (vs := [2]) (it := iSeq (mVar 0)) (m := mCall F_dot (aCons (mVar 2) (aCons (mVar 1) aNil))) (ρ := [some (.val (gridD t)), some (.val (rowD x)), none]) (S := S) (xs := t) (enc := rowD) (out := fun r => fr (dotQ r x)) (by simp [iSeq, mVar, tItems, gridD]) (fun r hr => ⟨_, rfl, fun S => by
    obtain ⟨h1, h2, h3⟩ := ht r hr
    simp [wipeR, mCall, aCons, aNil, mVar, pdot_ok h1 hx h2 h3]⟩) (sz40 hl)
  unfold F_applied trimF fnM b_applied
  simp only [List.map_cons, List.map_nil, List.length_cons, List.length_nil, List.cons_append, List.nil_append, Nat.reduceAdd, Nat.reduceSub, List.replicate, sSeq, sRet, mCall, aCons, aNil] at hc ⊢
  rw [hc]
  simp [fTuple, tItems, lItems, rowD, Function.comp_def]
theorem prow_times_ok {f : Rat} {x : List Rat} (hf : Sm f) (hx : ∀ q ∈ x, Sm q ∧ Sm (f * q)) (hl : x.length ≤ 1000) (S : Sto) : F_row_times [.val (fr f), .val (rowD x)] S = some (.val (rowD (x.map fun q => f * q)), S) := by
  have hc := mLc_mapT (tg := .nm 2) (vs := [2]) (it := iSeq (mVar 1)) (m := mCall F_times (aCons (mVar 0) (aCons (mVar 2) aNil))) (ρ := [some (.val (fr f)), some (.val (rowD x)), none]) (S := S) (xs := x) (enc := fr) (out := fun q => fr (f * q)) (by simp [iSeq, mVar, tItems, rowD]) (fun q hq => ⟨_, rfl, fun S => by
    obtain ⟨h1, h2⟩ := hx q hq
    simp [wipeR, mCall, aCons, aNil, mVar, ptimes_ok hf h1 h2]⟩) (sz40 hl)
  unfold F_row_times trimF fnM b_row_times
  simp only [List.map_cons, List.map_nil, List.length_cons, List.length_nil, List.cons_append, List.nil_append, Nat.reduceAdd, Nat.reduceSub, List.replicate, sSeq, sRet, mCall, aCons, aNil] at hc ⊢
  rw [hc]
  simp [fTuple, tItems, lItems, rowD, Function.comp_def]
theorem prow_less_ok {f : Rat} {x y : List Rat} (hf : Sm f) (hx : ∀ p ∈ x.zip y, Sm p.1 ∧ Sm p.2 ∧ Sm (p.1 - f * p.2)) (hl : x.length ≤ 1000) (S : Sto) : F_row_less [.val (rowD x), .val (fr f), .val (rowD y)] S = some (.val (rowD ((x.zip y).map fun p => p.1 - f * p.2)), S) := by
  have hc := mLc_mapT (tg := .tp [.nm 3, .nm 4]) (vs := [3, 4]) (it := iZipM (aCons (mVar 0) (aCons (mVar 2) aNil))) (m := mCall F_less_times (aCons (mVar 3) (aCons (mVar 1) (aCons (mVar 4) aNil)))) (ρ := [some (.val (rowD x)), some (.val (fr f)), some (.val (rowD y)), none, none]) (S := S) (xs := x.zip y) (enc := fun p => D.tup [fr p.1, fr p.2]) (out := fun p => fr (p.1 - f * p.2)) (by rw [← zipD_map]; simp [iZipM, aCons, aNil, mVar, tItems, rowD]) (fun p hp => ⟨_, rfl, fun S => by
    obtain ⟨h1, h2, h3⟩ := hx p hp
    simp [wipeR, mCall, aCons, aNil, mVar, pless_ok h1 hf h2 h3]⟩) (sz40 (by rw [List.length_zip]; omega))
  unfold F_row_less trimF fnM b_row_less
  simp only [List.map_cons, List.map_nil, List.length_cons, List.length_nil, List.cons_append, List.nil_append, Nat.reduceAdd, Nat.reduceSub, List.replicate, sSeq, sRet, mCall, aCons, aNil] at hc ⊢
  rw [hc]
  simp [fTuple, tItems, lItems, rowD, Function.comp_def]
/-- a table of n rows and columns by its numbers -/
def tab (n m : Nat) (f : Nat → Nat → Rat) : List (List Rat) := (List.range n).map fun i => (List.range m).map fun j => f i j
theorem rowsD_grid : ∀ t : List (List Rat), rowsD (t.map rowD) = some (t.map fun r => r.map fr)
  | [] => rfl
  | r :: t => by
    rw [List.map_cons, List.map_cons]
    show (match rowsD (t.map rowD) with | some rs => some (r.map fr :: rs) | none => none) = _
    rw [rowsD_grid t]
theorem pturned_ok {n m : Nat} {f : Nat → Nat → Rat} (hn : 0 < n ∧ n ≤ 40) (hm : 0 < m ∧ m ≤ 1000) (S : Sto) : F_turned_over [.val (gridD (tab n m f))] S = some (.val (gridD (tab m n fun i j => f j i)), S) := by
  obtain ⟨n', rfl⟩ : ∃ n', n = n' + 1 := ⟨n - 1, by omega⟩
  have e1 : tab (n' + 1) m f = ((List.range m).map fun j => f 0 j) :: ((List.range n').map fun i => (List.range m).map fun j => f (i + 1) j) := by
    unfold tab
    rw [List.range_succ_eq_map, List.map_cons, List.map_map]
    rfl
  have e2 : mTzip (mVar 0) [some (.val (gridD (tab (n' + 1) m f)))] S = some (.val (gridD (tab m (n' + 1) fun i j => f j i)), S) := by
    have hr := rowsD_grid (tab (n' + 1) m f)
    unfold mTzip
    simp only [mVar, List.getElem?_cons_zero, gridD]
    rw [hr]
    rw [e1]
    simp only [List.map_cons]
    have hc : (decide (0 < (((List.range m).map fun j => f 0 j).map fr).length ∧ (((List.range m).map fun j => f 0 j).map fr).length ≤ 1000 ∧ (((List.range n').map fun i => (List.range m).map fun j => f (i + 1) j).map fun r => r.map fr).length < 40) &&
        (((List.range n').map fun i => (List.range m).map fun j => f (i + 1) j).map fun r => r.map fr).all (fun r => decide (r.length = (((List.range m).map fun j => f 0 j).map fr).length))) = true := by
      rw [Bool.and_eq_true]
      constructor
      · apply decide_eq_true
        simp
        omega
      · apply List.all_eq_true.mpr
        intro r hr
        simp at hr
        obtain ⟨a, _, rfl⟩ := hr
        simp
    rw [if_pos hc]
    simp only [Option.some.injEq, Prod.mk.injEq, and_true, W.val.injEq, D.tup.injEq]
    have e3 : (((List.range m).map fun j => f 0 j).map fr) :: (((List.range n').map fun i => (List.range m).map fun j => f (i + 1) j).map fun r => r.map fr) = (tab (n' + 1) m f).map fun r => r.map fr := by rw [e1]; rfl
    rw [e3]
    unfold colsD tab
    simp only [List.length_map, List.length_range, List.map_map]
    apply List.map_congr_left
    intro j hj
    have hj' := List.mem_range.mp hj
    simp only [Function.comp_def, rowD, List.map_map]
    congr 1
    apply List.map_congr_left
    intro i _
    simp [List.getD, hj']
  unfold F_turned_over trimF fnM b_turned_over
  simp [sSeq, sRet, e2]
end Lib

set_option Elab.async false
set_option linter.all false
set_option maxRecDepth 100000
set_option autoImplicit false
set_option maxHeartbeats 4000000
namespace Lib
open PySem PySem.Spec L2 HM
open PyProof.Rows hiding St
/-! ### what things are, by the program's own look -/
theorem liveD_of {d : D} (h : d.isE = true) (S : Sto) : W.liveD (.val d) S = true := by
  cases d <;> first | rfl | cases h
def tupB : D → Bool
  | .tup _ => true
  | _ => false
theorem ty_tup (d : D) (h : d.isE = true) : decide (d.ty = "tuple") = tupB d := by
  cases d <;> first | rfl | cases h | decide
def intB : D → Bool
  | .int _ => true
  | _ => false
theorem ty_int (d : D) (h : d.isE = true) : decide (d.ty = "int") = intB d := by
  cases d <;> first | rfl | cases h | decide
theorem is_tuple_ok {d : D} (h : d.isE = true) (S : Sto) : F_is_tuple [.val d] S = some (.val (.bl (tupB d)), S) := by
  unfold F_is_tuple trimF fnM b_is_tuple
  simp [sSeq, sRet, mTyD, mVar, liveD_of h, W.ty]
  exact ty_tup d h
theorem is_whole_ok {d : D} (h : d.isE = true) (S : Sto) : F_is_whole_number [.val d] S = some (.val (.bl (intB d)), S) := by
  unfold F_is_whole_number trimF fnM b_is_whole_number
  simp [sSeq, sRet, mTyD, mVar, liveD_of h, W.ty]
  exact ty_int d h
theorem frac_iff {a b : Int} (hb : 0 < b) : decide (iGcd a b = 1) = decide (Rat.divInt a b = Rat.divInt a b ∧ (Rat.divInt a b).num = a ∧ ((Rat.divInt a b).den : Int) = b) := by
  obtain ⟨fa, fb⟩ := red_fac (a := a) (b := b) (by omega)
  have hg : redG a b = iGcd a b := by unfold redG; rw [if_neg (by omega)]
  rw [hg] at fa fb
  by_cases h : iGcd a b = 1
  · rw [h, Int.one_mul] at fa fb
    rw [decide_eq_true h]
    exact (decide_eq_true ⟨rfl, fa.symm, fb.symm⟩).symm
  · rw [decide_eq_false h]
    refine (decide_eq_false fun z => h ?_).symm
    rw [z.2.2] at fb
    have : iGcd a b * b = 1 * b := by omega
    exact Int.eq_of_mul_eq_mul_right (by omega) this
def pairDB : D → Bool
  | .tup ds => decide (ds.length = 2)
  | _ => false
theorem is_pair_ok {d : D} (h : d.isE = true) (S : Sto) : F_is_pair [.val d] S = some (.val (.bl (pairDB d)), S) := by
  have e1 : mCall F_is_tuple (aCons (mVar 0) aNil) [some (.val d)] S = some (.val (.bl (tupB d)), S) := by
    simp [mCall, aCons, aNil, mVar, is_tuple_ok h]
  unfold F_is_pair trimF fnM b_is_pair
  by_cases ht : ∃ ds, d = .tup ds
  · obtain ⟨ds, rfl⟩ := ht
    have ln : mBin fEq (mCall fLen (aCons (mVar 0) aNil)) (mC (.int 2)) [some (.val (.tup ds))] S = some (.val (.bl (decide (ds.length = 2))), S) := by
      have : decide ((ds.length : Int) = 2) = decide (ds.length = 2) := by
        by_cases h : ds.length = 2
        · rw [h]; rfl
        · rw [decide_eq_false h]; exact decide_eq_false (by omega)
      simp [mBin, mCall, aCons, aNil, mVar, mC, fLen, tItems, eq_int, this]
    have e1 : mCall F_is_tuple (aCons (mVar 0) aNil) [some (.val (.tup ds))] S = some (.val (.bl true), S) := e1
    simp [sSeq, sRet, mAnd, e1, ln, pairDB]
  · have ft : tupB d = false := by cases d <;> first | rfl | exact absurd ⟨_, rfl⟩ ht
    have ff : pairDB d = false := by cases d <;> first | rfl | exact absurd ⟨_, rfl⟩ ht
    rw [ft] at e1
    simp [sSeq, sRet, mAnd, e1, ff]
theorem is_fraction_ok {d : D} {k : Nat} (h : Askd d k) (S : Sto) : F_is_fraction [.val d] S = some (.val (.bl (fracB d)), S) := by
  have e1 : mCall F_is_pair (aCons (mVar 0) aNil) [some (.val d), none, none] S = some (.val (.bl (pairDB d)), S) := by
    simp [mCall, aCons, aNil, mVar, is_pair_ok h.top]
  by_cases ht : ∃ ds, d = .tup ds
  · obtain ⟨ds, rfl⟩ := ht
    by_cases hl : ds.length = 2
    · obtain ⟨x, y, rfl⟩ : ∃ x y, ds = [x, y] := by
        match ds, hl with
        | [x, y], _ => exact ⟨x, y, rfl⟩
      obtain ⟨hx, _⟩ := h.parts _ rfl x (by simp)
      obtain ⟨hy, _⟩ := h.parts _ rfl y (by simp)
      have as : sAsg (.tp [.nm 1, .nm 2]) (mVar 0) [some (.val (.tup [x, y])), none, none] S = some (.nx, [some (.val (.tup [x, y])), some (.val x), some (.val y)], S) := by
        simp [sAsg, mVar, bindT, bindTs]
      have e1 : mCall F_is_pair (aCons (mVar 0) aNil) [some (.val (.tup [x, y])), none, none] S = some (.val (.bl true), S) := e1
      have w1 : mCall F_is_whole_number (aCons (mVar 1) aNil) [some (.val (.tup [x, y])), some (.val x), some (.val y)] S = some (.val (.bl (intB x)), S) := by
        simp [mCall, aCons, aNil, mVar, is_whole_ok hx]
      have w2 : mCall F_is_whole_number (aCons (mVar 2) aNil) [some (.val (.tup [x, y])), some (.val x), some (.val y)] S = some (.val (.bl (intB y)), S) := by
        simp [mCall, aCons, aNil, mVar, is_whole_ok hy]
      unfold F_is_fraction trimF fnM b_is_fraction
      by_cases hi : ∃ a, x = .int a
      · obtain ⟨a, rfl⟩ := hi
        by_cases hj : ∃ b, y = .int b
        · obtain ⟨b, rfl⟩ := hj
          by_cases hb : 0 < b
          · have := frac_iff (a := a) hb
            have gc : mBin fEq (mCall (fInt2 iGcd) (aCons (mVar 1) (aCons (mVar 2) aNil))) (mC (.int 1)) [some (.val (.tup [.int a, .int b])), some (.val (.int a)), some (.val (.int b))] S = some (.val (.bl (decide (iGcd a b = 1))), S) := by
              simp [mBin, mCall, fInt2, aCons, aNil, mVar, mC, eq_int]
            have gb : mBin fGt (mVar 2) (mC (.int 0)) [some (.val (.tup [.int a, .int b])), some (.val (.int a)), some (.val (.int b))] S = some (.val (.bl true), S) := by
              simp [mBin, mVar, mC, gt_int, hb]
            have hb' : decide (0 < b) = true := decide_eq_true hb
            simp only [List.map_cons, List.map_nil, List.length_cons, List.length_nil, List.cons_append, List.nil_append, Nat.reduceAdd, Nat.reduceSub, List.replicate, sSeq, sIf, mtOr, mtNot, mTest, e1, as, sRet, mAnd, w1, w2, intB, gb, gc, fracB, sNx, this, hb', Bool.true_and, Bool.not_true, List.take_length]
          · have gb : mBin fGt (mVar 2) (mC (.int 0)) [some (.val (.tup [.int a, .int b])), some (.val (.int a)), some (.val (.int b))] S = some (.val (.bl false), S) := by
              simp [mBin, mVar, mC, gt_int, hb]
            simp [sSeq, sIf, mtOr, mtNot, mTest, e1, as, sRet, mAnd, w1, w2, intB, gb, hb, fracB, sNx]
        · have fy : intB y = false := by cases y <;> first | rfl | exact absurd ⟨_, rfl⟩ hj
          have ff : fracB (.tup [.int a, y]) = false := by cases y <;> first | rfl | exact absurd ⟨_, rfl⟩ hj
          rw [fy] at w2
          have ia : intB (.int a) = true := rfl
          rw [ia] at w1
          simp [sSeq, sIf, mtOr, mtNot, mTest, e1, as, sRet, mAnd, w1, w2, ff, sNx]
      · have fx : intB x = false := by cases x <;> first | rfl | exact absurd ⟨_, rfl⟩ hi
        have ff : fracB (.tup [x, y]) = false := by cases x <;> first | rfl | exact absurd ⟨_, rfl⟩ hi
        rw [fx] at w1
        simp [sSeq, sIf, mtOr, mtNot, mTest, e1, as, sRet, mAnd, w1, ff, sNx]
    · have ff : fracB (.tup ds) = false := by
        match ds, hl with
        | [], _ => rfl
        | [_], _ => cases ‹D› <;> rfl
        | [_, _], hl => exact absurd rfl hl
        | x :: y :: _ :: _, _ => cases x <;> first | rfl | (cases y <;> rfl)
      have hl' : decide ((ds.length : Int) = 2) = false := decide_eq_false (by omega)
      have e1 : mCall F_is_pair (aCons (mVar 0) aNil) [some (.val (.tup ds)), none, none] S = some (.val (.bl false), S) := by
        rw [e1]
        simp [pairDB, hl]
      unfold F_is_fraction trimF fnM b_is_fraction
      simp [sSeq, sIf, mtOr, mtNot, mTest, e1, sRet, mC, ff]
  · have ft : pairDB d = false := by cases d <;> first | rfl | exact absurd ⟨_, rfl⟩ ht
    have ff : fracB d = false := by cases d <;> first | rfl | exact absurd ⟨_, rfl⟩ ht
    unfold F_is_fraction trimF fnM b_is_fraction
    simp [sSeq, sIf, mtOr, mtNot, mTest, e1, ft, sRet, mC, ff]
theorem lineB_not {n : Nat} {d : D} (h : ¬ ∃ ds, d = .tup ds) : lineB n d = false ∧ gridB n d = false := by
  cases d <;> first | exact ⟨rfl, rfl⟩ | exact absurd ⟨_, rfl⟩ h
theorem tupB_not {d : D} (h : ¬ ∃ ds, d = .tup ds) : tupB d = false := by
  cases d <;> first | rfl | exact absurd ⟨_, rfl⟩ h
theorem is_row_ok {d : D} {k n : Nat} (h : AskL d k) (S : Sto) : F_is_row [.val d, .val (.int (n : Int))] S = some (.val (.bl (lineB n d)), S) := by
  have e1 : mCall F_is_tuple (aCons (mVar 0) aNil) [some (.val d), some (.val (.int (n : Int))), none] S = some (.val (.bl (tupB d)), S) := by
    simp [mCall, aCons, aNil, mVar, is_tuple_ok h.top]
  by_cases ht : ∃ ds, d = .tup ds
  · obtain ⟨ds, rfl⟩ := ht
    obtain ⟨hlen, hparts⟩ := h.parts ds rfl
    have ln : mBin fEq (mCall fLen (aCons (mVar 0) aNil)) (mVar 1) [some (.val (.tup ds)), some (.val (.int (n : Int))), none] S = some (.val (.bl (decide (ds.length = n))), S) := by
      simp [mBin, mCall, aCons, aNil, mVar, mC, fLen, tItems, eq_int, Int.natCast_inj]
    have hc := mLc_mapT (tg := .nm 2) (vs := [2]) (it := iSeq (mVar 0)) (m := mCall F_is_fraction (aCons (mVar 2) aNil)) (ρ := [some (.val (.tup ds)), some (.val (.int (n : Int))), none]) (S := S) (xs := ds) (enc := id) (out := fun x => D.bl (fracB x)) (by simp [iSeq, mVar, tItems]) (fun x hx => ⟨_, rfl, fun S => by
      simp [wipeR, mCall, aCons, aNil, mVar, is_fraction_ok (hparts x hx)]⟩) (sz40 hlen)
    have hall : mCall fAll (aCons (mLc (iSeq (mVar 0)) (.nm 2) tYesM (mCall F_is_fraction (aCons (mVar 2) aNil)) [2]) aNil) [some (.val (.tup ds)), some (.val (.int (n : Int))), none] S = some (.val (.bl (ds.all fracB)), S) := by
      have ea : (ds.map fracB).all id = ds.all fracB := by rw [List.all_map]; rfl
      rw [mCall]
      simp only [aCons, aNil]
      rw [hc]
      simp only [fAll, lItems, bls_map, ea]
    unfold F_is_row trimF fnM b_is_row
    by_cases hl : ds.length = n
    · simp [sSeq, sRet, mAnd, e1, tupB, ln, hl, hall, lineB]
    · simp [sSeq, sRet, mAnd, e1, tupB, ln, hl, lineB]
  · unfold F_is_row trimF fnM b_is_row
    simp [sSeq, sRet, mAnd, e1, tupB_not ht, (lineB_not (n := n) ht).1]
theorem is_table_of_ok {d : D} {k n : Nat} (h : AskG d k) (S : Sto) : F_is_table_of [.val d, .val (.int (n : Int))] S = some (.val (.bl (gridB n d)), S) := by
  have e1 : mCall F_is_tuple (aCons (mVar 0) aNil) [some (.val d), some (.val (.int (n : Int))), none] S = some (.val (.bl (tupB d)), S) := by
    simp [mCall, aCons, aNil, mVar, is_tuple_ok h.top]
  by_cases ht : ∃ ds, d = .tup ds
  · obtain ⟨ds, rfl⟩ := ht
    obtain ⟨hlen, hparts⟩ := h.parts ds rfl
    have ln : mBin fEq (mCall fLen (aCons (mVar 0) aNil)) (mVar 1) [some (.val (.tup ds)), some (.val (.int (n : Int))), none] S = some (.val (.bl (decide (ds.length = n))), S) := by
      simp [mBin, mCall, aCons, aNil, mVar, mC, fLen, tItems, eq_int, Int.natCast_inj]
    have hc := mLc_mapT (tg := .nm 2) (vs := [2]) (it := iSeq (mVar 0)) (m := mCall F_is_row (aCons (mVar 2) (aCons (mVar 1) aNil))) (ρ := [some (.val (.tup ds)), some (.val (.int (n : Int))), none]) (S := S) (xs := ds) (enc := id) (out := fun x => D.bl (lineB n x)) (by simp [iSeq, mVar, tItems]) (fun x hx => ⟨_, rfl, fun S => by
      simp [wipeR, mCall, aCons, aNil, mVar, is_row_ok (hparts x hx)]⟩) (sz40 hlen)
    have hall : mCall fAll (aCons (mLc (iSeq (mVar 0)) (.nm 2) tYesM (mCall F_is_row (aCons (mVar 2) (aCons (mVar 1) aNil))) [2]) aNil) [some (.val (.tup ds)), some (.val (.int (n : Int))), none] S = some (.val (.bl (ds.all (lineB n))), S) := by
      have ea : (ds.map (lineB n)).all id = ds.all (lineB n) := by rw [List.all_map]; rfl
      rw [mCall]
      simp only [aCons, aNil]
      rw [hc]
      simp only [fAll, lItems, bls_map, ea]
    unfold F_is_table_of trimF fnM b_is_table_of
    by_cases hl : ds.length = n
    · simp [sSeq, sRet, mAnd, e1, tupB, ln, hl, hall, gridB]
    · simp [sSeq, sRet, mAnd, e1, tupB, ln, hl, gridB]
  · unfold F_is_table_of trimF fnM b_is_table_of
    simp [sSeq, sRet, mAnd, e1, tupB_not ht, (lineB_not (n := n) ht).2]
def anyB (d : D) : Bool := match d with
  | .tup ds => decide (1 ≤ ds.length ∧ ds.length ≤ 5) && gridB ds.length d
  | _ => false
theorem le_int (i j : Int) (S : Sto) : fLe (.val (.int i)) (.val (.int j)) S = some (.val (.bl (decide (i ≤ j))), S) := by
  simp [fLe, fB]
theorem is_any_table_ok {d : D} {k : Nat} (h : AskG d k) (S : Sto) : F_is_any_table [.val d] S = some (.val (.bl (anyB d)), S) := by
  have e1 : mCall F_is_tuple (aCons (mVar 0) aNil) [some (.val d)] S = some (.val (.bl (tupB d)), S) := by
    simp [mCall, aCons, aNil, mVar, is_tuple_ok h.top]
  by_cases ht : ∃ ds, d = .tup ds
  · obtain ⟨ds, rfl⟩ := ht
    have ln : mCall fLen (aCons (mVar 0) aNil) [some (.val (.tup ds))] S = some (.val (.int (ds.length : Int)), S) := by
      simp [mCall, aCons, aNil, mVar, fLen, tItems]
    have ch : mChain fLe fLe (mC (.int 1)) (mCall fLen (aCons (mVar 0) aNil)) (mC (.int 5)) [some (.val (.tup ds))] S = some (.val (.bl (decide (1 ≤ ds.length ∧ ds.length ≤ 5))), S) := by
      unfold mChain
      simp only [mC, ln, le_int]
      by_cases h1 : 1 ≤ ds.length
      · have h1' : decide ((1 : Int) ≤ (ds.length : Int)) = true := decide_eq_true (by omega)
        simp only [h1', h1, true_and]
        by_cases h2 : ds.length ≤ 5
        · have h2' : decide ((ds.length : Int) ≤ 5) = true := decide_eq_true (by omega)
          simp [h2', h2]
        · have h2' : decide ((ds.length : Int) ≤ 5) = false := decide_eq_false (by omega)
          simp [h2', h2]
      · have h1' : decide ((1 : Int) ≤ (ds.length : Int)) = false := decide_eq_false (by omega)
        simp only [h1', h1, false_and, decide_false]
    have tb : mCall F_is_table_of (aCons (mVar 0) (aCons (mCall fLen (aCons (mVar 0) aNil)) aNil)) [some (.val (.tup ds))] S = some (.val (.bl (gridB ds.length (.tup ds))), S) := by
      have := is_table_of_ok (n := ds.length) h S
      simp only [mCall, aCons, aNil, mVar, fLen, tItems, List.getElem?_cons_zero, this]
    unfold F_is_any_table trimF fnM b_is_any_table
    by_cases hc : 1 ≤ ds.length ∧ ds.length ≤ 5
    · simp [sSeq, sRet, mAnd, e1, tupB, ch, hc, tb, anyB]
    · simp [sSeq, sRet, mAnd, e1, tupB, ch, hc, anyB]
  · have fa : anyB d = false := by cases d <;> first | rfl | exact absurd ⟨_, rfl⟩ ht
    unfold F_is_any_table trimF fnM b_is_any_table
    simp [sSeq, sRet, mAnd, e1, tupB_not ht, fa]
theorem is_table_ok {d : D} {k : Nat} (h : AskG d k) (S : Sto) : F_is_table [.val d] S = some (.val (.bl (anyB d)), S) := by
  unfold F_is_table trimF fnM b_is_table
  simp [sSeq, sRet, mCall, aCons, aNil, mVar, is_any_table_ok h]
end Lib

set_option Elab.async false
set_option linter.all false
set_option maxRecDepth 100000
set_option autoImplicit false
set_option maxHeartbeats 4000000
namespace Lib
open PySem PySem.Spec L2 HM
open PyProof.Rows hiding St
/-! ### squares of a sum of squares in stairs -/
/-- the sum of numbers times the squares of rows -/
def sqs : List (Rat × List Rat) → Nat → Nat → Rat
  | [], _, _ => 0
  | (h, l) :: r, i, j => (h * l.getD i 0) * l.getD j 0 + sqs r i j
/-- each row has 1 at its place, 0 ahead; the numbers are above 0 -/
def Stair : Nat → List (Rat × List Rat) → Prop
  | _, [] => True
  | k, (h, l) :: r => 0 < h ∧ l.getD k 0 = 1 ∧ (∀ p ∈ r, p.2.getD k 0 = 0) ∧ Stair (k + 1) r
theorem sqs_zero {k : Nat} : ∀ {r : List (Rat × List Rat)}, (∀ p ∈ r, p.2.getD k 0 = 0) → ∀ i, sqs r k i = 0 ∧ sqs r i k = 0
  | [], _, i => ⟨rfl, rfl⟩
  | (h, l) :: r, hz, i => by
    obtain ⟨a, b⟩ := sqs_zero (fun p hp => hz p (List.mem_cons_of_mem _ hp)) i
    have e : l.getD k 0 = 0 := hz (h, l) List.mem_cons_self
    simp only [sqs, a, b, e]
    constructor <;> grind
theorem sqs_sym : ∀ (r : List (Rat × List Rat)) (i j : Nat), sqs r i j = sqs r j i
  | [], _, _ => rfl
  | (h, l) :: r, i, j => by
    simp only [sqs, sqs_sym r i j]
    grind
theorem stair_at {k : Nat} {h : Rat} {l : List Rat} {r : List (Rat × List Rat)} (s : Stair k ((h, l) :: r)) : sqs ((h, l) :: r) k k = h ∧ (∀ j, sqs ((h, l) :: r) k j = h * l.getD j 0) ∧ ∀ i j, sqs ((h, l) :: r) i j - (h * l.getD i 0) * l.getD j 0 = sqs r i j := by
  obtain ⟨h0, l1, hz, _⟩ := s
  have z := sqs_zero hz
  refine ⟨?_, fun j => ?_, fun i j => ?_⟩
  · simp only [sqs, l1, (z k).1]; grind
  · simp only [sqs, l1, (z j).1]; grind
  · simp only [sqs]; grind
theorem grid_at {n m : Nat} {f : Nat → Nat → Rat} {k : Nat} (hk : k < n) (S : Sto) : fIx (.val (gridD (tab n m f))) (.val (.int (k : Int))) S = some (.val (rowD ((List.range m).map fun j => f k j)), S) := by
  have e : L2.atI ((tab n m f).map rowD) (k : Int) = some (rowD ((List.range m).map fun j => f k j)) := atI_nat (by
    unfold tab
    rw [List.map_map, List.getElem?_map, List.getElem?_range hk]
    rfl)
  simp only [fIx, gridD, tItems, e, Option.map_some]
theorem row_at {m : Nat} {g : Nat → Rat} {k : Nat} (hk : k < m) (S : Sto) : fIx (.val (rowD ((List.range m).map g))) (.val (.int (k : Int))) S = some (.val (fr (g k)), S) := by
  have e : L2.atI (((List.range m).map g).map fr) (k : Int) = some (fr (g k)) := atI_nat (by
    rw [List.map_map, List.getElem?_map, List.getElem?_range hk]
    rfl)
  simp only [fIx, rowD, tItems, e, Option.map_some]
def intsD (lo n : Nat) : List D := (List.range' lo n).map fun (j : Nat) => D.int (j : Int)
theorem intsD_cons (lo n : Nat) : intsD lo (n + 1) = D.int (lo : Int) :: intsD (lo + 1) n := by
  unfold intsD
  rw [List.range'_succ]
  rfl
theorem pivot_ok {n k : Nat} {f : Nat → Nat → Rat} {rest : List D} (hk : k < n) (hf : f k k ≠ 0) (S : Sto) : F_pivot [.val (gridD (tab n n f)), .val (.fl (D.int (k : Int) :: rest))] S = some (.val (.tup [.int (k : Int), .int (k : Int)]), S) := by
  have h3 : (f k k).num ≠ 0 := fun z => hf (Rat.num_eq_zero.mp z)
  have sl : (2 : Nat) ≤ sizeLine := by rw [sizeLine_eq]; decide
  unfold F_pivot trimF fnM b_pivot
  simp [sSeq, sFor, iSeq, mVar, tItems, dItems, forL, bindT, sIf, mTest, mBin, grid_at hk, row_at hk, ix0, mC, ne_int, h3, sRet, mTup, aCons, aNil, vals?, sl]
/-- a square told -/
def sqD (n : Nat) (p : Rat × List Rat) : D := .tup [fr p.1, rowD ((List.range n).map fun j => p.2.getD j 0)]
theorem hb_one : Sm 1 := ⟨Bits.mono (k := 1) (by unfold Bits; decide) (by decide), Bits.mono (k := 1) (by unfold Bits; decide) (by decide)⟩
/-- a positive number turned over -/
theorem hb_inv {h : Rat} {k : Nat} (h0 : 0 < h) (hh : HB h k) : HB (1 / h) k := by
  have hne : h ≠ 0 := by grind
  have e : Rat.divInt (1 * (h.den : Int)) (((1 : Rat).den : Int) * h.num) = 1 / h := by
    have := div_fr (p := 1) (q := h) hne
    simpa using this
  have h3 : h.num ≠ 0 := fun z => hne (Rat.num_eq_zero.mp z)
  have e2 : Rat.divInt (h.den : Int) h.num = 1 / h := by simpa using e
  rw [← e2]
  exact hb_div h3 hh.den hh.num
structure StepSm (n k : Nat) (h : Rat) (l : List Rat) (r : List (Rat × List Rat)) : Prop where
  sh : Sm h
  sl : ∀ j, j < n → Sm (l.getD j 0)
  shl : ∀ j, j < n → Sm (h * l.getD j 0)
  all : ∀ i j, i < n → j < n → Sm (sqs ((h, l) :: r) i j)
  next : ∀ i j, i < n → j < n → Sm (sqs r i j)
section
variable {n k : Nat} {h : Rat} {l : List Rat} {r : List (Rat × List Rat)}
theorem pivot_squares_ok (hk : k < n) (hn : n ≤ 40) (s : Stair k ((h, l) :: r)) (z : StepSm n k h l r) (S : Sto) : F_pivot_squares [.val (gridD (tab n n (sqs ((h, l) :: r)))), .val (.int (k : Int)), .val (.int (k : Int))] S = some (.val (.fl [sqD n (h, l)]), S) := by
  obtain ⟨e1, e2, e3⟩ := stair_at s
  have h0 : 0 < h := s.1
  have hne : h ≠ 0 := by grind
  have sl : (2 : Nat) ≤ sizeLine := by rw [sizeLine_eq]; decide
  have sl1 : (1 : Nat) ≤ sizeLine := by rw [sizeLine_eq]; decide
  have ov := pover_ok (p := 1) (q := h) hb_one z.sh hne (hb_inv h0 z.sh)
  have one : fr 1 = D.tup [.int 1, .int 1] := rfl
  rw [one] at ov
  have rt := prow_times_ok (f := 1 / h) (x := (List.range n).map fun j => sqs ((h, l) :: r) k j) (hb_inv h0 z.sh) (fun q hq => by
    obtain ⟨j, hj, rfl⟩ := List.mem_map.mp hq
    have hj' := List.mem_range.mp hj
    refine ⟨z.all k j hk hj', ?_⟩
    rw [e2]
    have : 1 / h * (h * l.getD j 0) = l.getD j 0 := by grind
    rw [this]
    exact z.sl j hj') (by simp; omega)
  have er : ((List.range n).map fun j => sqs ((h, l) :: r) k j).map (fun q => 1 / h * q) = (List.range n).map fun j => l.getD j 0 := by
    rw [List.map_map]
    apply List.map_congr_left
    intro j _
    show 1 / h * sqs ((h, l) :: r) k j = _
    rw [e2]
    grind
  rw [er] at rt
  unfold F_pivot_squares trimF fnM b_pivot_squares
  simp [-List.getD_eq_getElem?_getD, sSeq, sSet, sIf, mTest, mBin, mVar, mC, grid_at hk, row_at hk, e1, eq_int, sRet, mFl, mTup, aCons, aNil, mCall, ov, rt, vals?, sl, sl1, sqD]
theorem less_square_ok (hk : k < n) (hn : n ≤ 40) (s : Stair k ((h, l) :: r)) (z : StepSm n k h l r) (S : Sto) : F_less_square [.val (gridD (tab n n (sqs ((h, l) :: r)))), .val (sqD n (h, l))] S = some (.val (gridD (tab n n (sqs r))), S) := by
  obtain ⟨e1, e2, e3⟩ := stair_at s
  have as : sAsg (.tp [.nm 2, .nm 3]) (mVar 1) [some (.val (gridD (tab n n (sqs ((h, l) :: r))))), some (.val (sqD n (h, l))), none, none, none, none] S = some (.nx, [some (.val (gridD (tab n n (sqs ((h, l) :: r))))), some (.val (sqD n (h, l))), some (.val (fr h)), some (.val (rowD ((List.range n).map fun j => l.getD j 0))), none, none], S) := by
    simp [sAsg, mVar, sqD, bindT, bindTs]
  have hc := mLc_mapT (tg := .tp [.nm 4, .nm 5]) (vs := [4, 5]) (it := iZipM (aCons (mVar 0) (aCons (mVar 3) aNil))) (m := mCall F_row_less (aCons (mVar 4) (aCons (mCall F_times (aCons (mVar 2) (aCons (mVar 5) aNil))) (aCons (mVar 3) aNil)))) (ρ := [some (.val (gridD (tab n n (sqs ((h, l) :: r))))), some (.val (sqD n (h, l))), some (.val (fr h)), some (.val (rowD ((List.range n).map fun j => l.getD j 0))), none, none]) (S := S)
    (xs := List.range n) (enc := fun i => D.tup [rowD ((List.range n).map fun j => sqs ((h, l) :: r) i j), fr (l.getD i 0)]) (out := fun i => rowD ((List.range n).map fun j => sqs r i j)) (by
      have := zipD_map (fun i => rowD ((List.range n).map fun j => sqs ((h, l) :: r) i j)) (fun i => fr (l.getD i 0)) (List.range n) (List.range n)
      have zz : (List.range n).zip (List.range n) = (List.range n).map fun i => (i, i) := by
        rw [List.zip_eq_zipWith, List.zipWith_self]
      rw [zz, List.map_map] at this
      simp [iZipM, aCons, aNil, mVar, tItems, gridD, rowD, tab, List.map_map, Function.comp_def]
      simpa [Function.comp_def, rowD] using this) (fun i hi => ⟨_, rfl, fun S => by
      have hi' := List.mem_range.mp hi
      have tm := ptimes_ok z.sh (z.sl i hi') (z.shl i hi')
      have rl := prow_less_ok (f := h * l.getD i 0) (x := (List.range n).map fun j => sqs ((h, l) :: r) i j) (y := (List.range n).map fun j => l.getD j 0) (z.shl i hi') (fun p hp => by
        rw [List.zip_map', List.mem_map] at hp
        obtain ⟨j, hj, rfl⟩ := hp
        have hj' := List.mem_range.mp hj
        refine ⟨z.all i j hi' hj', z.sl j hj', ?_⟩
        show Sm (sqs ((h, l) :: r) i j - h * l.getD i 0 * l.getD j 0)
        rw [e3]
        exact z.next i j hi' hj') (by simp; omega)
      have er : (((List.range n).map fun j => sqs ((h, l) :: r) i j).zip ((List.range n).map fun j => l.getD j 0)).map (fun p => p.1 - h * l.getD i 0 * p.2) = (List.range n).map fun j => sqs r i j := by
        rw [List.zip_map', List.map_map]
        apply List.map_congr_left
        intro j _
        exact e3 i j
      rw [er] at rl
      simp [-List.getD_eq_getElem?_getD, wipeR, mCall, aCons, aNil, mVar, tm, rl]⟩) (by rw [List.length_range, sizeLine_eq]; omega)
  unfold F_less_square trimF fnM b_less_square
  simp only [List.map_cons, List.map_nil, List.length_cons, List.length_nil, List.cons_append, List.nil_append, Nat.reduceAdd, Nat.reduceSub, List.replicate, sSeq, as, sRet, mCall, aCons, aNil] at hc ⊢
  rw [hc]
  simp [fTuple, tItems, lItems, gridD, tab, rowD, List.map_map, Function.comp_def]
end
end Lib

set_option Elab.async false
set_option linter.all false
set_option maxRecDepth 100000
set_option autoImplicit false
set_option maxHeartbeats 4000000
namespace Lib
open PySem PySem.Spec L2 HM
open PyProof.Rows hiding St
def AllSm (n : Nat) : Nat → List (Rat × List Rat) → Prop
  | _, [] => True
  | k, (h, l) :: r => StepSm n k h l r ∧ AllSm n (k + 1) r
def sqT : TM := mTruA (mVar 2)
def sqB : SM := (sSeq
  (sSet 3 (mCall F_pivot (aCons (mVar 0) (aCons (mVar 2) aNil))))
  (sSeq
  (sIf (mTest (mNone false (mVar 3))) (sSeq
  (sRet (mBin fPlus (mVar 1) (mLc (iSeq (mVar 2)) (.nm 6) tYesM (mTup (aCons (mC (.tup [.int (0), .int (1)])) (aCons (mCall F_unit_row (aCons (mCall fLen (aCons (mVar 0) aNil)) (aCons (mVar 6) aNil))) aNil))) [6])))
  sNx) sNx)
  (sSeq
  (sSet 4 (mCall F_pivot_squares (aCons (mVar 0) (aCons (mBin fIx (mVar 3) (mC (.int 0))) (aCons (mBin fIx (mVar 3) (mC (.int 1))) aNil)))))
  (sSeq
  (sFor (iSeq (mVar 4)) (.nm 5) (sSeq
  (sSet 0 (mCall F_less_square (aCons (mVar 0) (aCons (mVar 5) aNil))))
  sNx))
  (sSeq
  (sSet 1 (mBin fPlus (mVar 1) (mVar 4)))
  (sSeq
  (sSet 2 (mLc (iSeq (mVar 2)) (.nm 6) (mTest (mBin (fIn true) (mVar 6) (mVar 3))) (mVar 6) [6]))
  sNx))))))
theorem sq_body {n k : Nat} {h : Rat} {l : List Rat} {r : List (Rat × List Rat)} {done : List D} (w3 w4 w5 w6 : Option W) (hk : k + (r.length + 1) = n) (hn : n ≤ 40) (s : Stair k ((h, l) :: r)) (z : StepSm n k h l r) (hd : done.length ≤ 1000) (S : Sto) :
    ∃ v6, sqB [some (.val (gridD (tab n n (sqs ((h, l) :: r))))), some (.val (.fl done)), some (.val (.fl (intsD k (r.length + 1)))), w3, w4, w5, w6] S =
      some (.nx, [some (.val (gridD (tab n n (sqs r)))), some (.val (.fl (done ++ [sqD n (h, l)]))), some (.val (.fl (intsD (k + 1) r.length))), some (.val (.tup [.int (k : Int), .int (k : Int)])), some (.val (.fl [sqD n (h, l)])), some (.val (sqD n (h, l))), v6], S) := by
  have hkn : k < n := by omega
  obtain ⟨e1, e2, e3⟩ := stair_at s
  have h0 : 0 < h := s.1
  have hne : h ≠ 0 := by grind
  have pv := pivot_ok (n := n) (k := k) (f := sqs ((h, l) :: r)) (rest := intsD (k + 1) r.length) hkn (by rw [e1]; exact hne)
  rw [← intsD_cons] at pv
  have ps := pivot_squares_ok hkn hn s z
  have ls := less_square_ok hkn hn s z
  have sz : done.length + 1 ≤ sizeLine := by rw [sizeLine_eq]; omega
  have fl := mLc_filT (tg := .nm 6) (vs := [6]) (it := iSeq (mVar 2)) (t := mTest (mBin (fIn true) (mVar 6) (mVar 3))) (m := mVar 6)
    (ρ := [some (.val (gridD (tab n n (sqs r)))), some (.val (.fl (done ++ [sqD n (h, l)]))), some (.val (.fl (intsD k (r.length + 1)))), some (.val (.tup [.int (k : Int), .int (k : Int)])), some (.val (.fl [sqD n (h, l)])), some (.val (sqD n (h, l))), w6]) (S := S)
    (xs := List.range' k (r.length + 1)) (enc := fun (j : Nat) => D.int (j : Int)) (out := fun (j : Nat) => D.int (j : Int)) (pr := fun j => !decide (j = k)) (by simp [iSeq, mVar, tItems, dItems, intsD]) (fun j hj => ⟨_, rfl, fun S => by
      by_cases hjk : j = k
      · subst hjk
        simp [wipeR, mTest, mBin, mVar, fIn, tItems, ints?]
      · have hjk' : ¬ ((j : Int) = (k : Int)) := by omega
        simp [wipeR, mTest, mBin, mVar, fIn, tItems, ints?, hjk, hjk'], fun S => by simp [wipeR, mVar]⟩) (by rw [List.length_range', sizeLine_eq]; omega)
  have ef : (List.range' k (r.length + 1)).filter (fun j => !decide (j = k)) = List.range' (k + 1) r.length := by
    rw [List.range'_succ, List.filter_cons_of_neg (by simp)]
    apply List.filter_eq_self.mpr
    intro j hj
    have := List.mem_range'_1.mp hj
    simp
    omega
  rw [ef] at fl
  refine ⟨w6, ?_⟩
  unfold sqB
  simp only [sSeq, sSet, mCall, aCons, aNil, mVar, List.getElem?_cons_zero, List.getElem?_cons_succ, pv, List.set_cons_zero, List.set_cons_succ, sIf, mTest, mNone, mBin, mC, fIx, tItems, L2.atI, ixN]
  simp [ps, sFor, iSeq, mVar, tItems, dItems, forL, bindT, sSeq, sSet, mCall, aCons, aNil, ls, sNx, mBin, fPlus, fAdd, fI, fCatT, fCatL, fCatL.lOwn, Option.orElse, sz]
  rw [fl]
  simp [intsD]
theorem sq_loop {n : Nat} (hn : n ≤ 40) (S : Sto) : ∀ (ls : List (Rat × List Rat)) (k fuel : Nat) (done : List D) (w3 w4 w5 w6 : Option W), k + ls.length = n → Stair k ls → AllSm n k ls → ls.length < fuel → done.length + ls.length ≤ 1000 →
    ∃ v0 v2 v3 v4 v5 v6, whileF sqT sqB fuel [some (.val (gridD (tab n n (sqs ls)))), some (.val (.fl done)), some (.val (.fl (intsD k ls.length))), w3, w4, w5, w6] S = some (.nx, [v0, some (.val (.fl (done ++ ls.map (sqD n)))), v2, v3, v4, v5, v6], S)
  | [], k, 0, _, _, _, _, _, _, _, _, hf, _ => absurd hf (by simp)
  | [], k, fuel + 1, done, w3, w4, w5, w6, _, _, _, _, _ => by
    refine ⟨some (.val (gridD (tab n n (sqs [])))), some (.val (.fl (intsD k 0))), w3, w4, w5, w6, ?_⟩
    rw [whileF]
    simp [sqT, mTruA, mVar, tItems, lItems, intsD]
  | (h, l) :: r, k, 0, _, _, _, _, _, _, _, _, hf, _ => absurd hf (by simp)
  | (h, l) :: r, k, fuel + 1, done, w3, w4, w5, w6, hk, hs, ha, hf, hd => by
    have hd' : done.length + (r.length + 1) ≤ 1000 := by simpa using hd
    obtain ⟨b6, eb⟩ := sq_body (done := done) w3 w4 w5 w6 (by simpa using hk) hn hs ha.1 (by omega) S
    obtain ⟨v0, v2, v3, v4, v5, v6, e⟩ := sq_loop hn S r (k + 1) fuel (done ++ [sqD n (h, l)]) (some (.val (.tup [.int (k : Int), .int (k : Int)]))) (some (.val (.fl [sqD n (h, l)]))) (some (.val (sqD n (h, l)))) b6 (by simp at hk; omega) hs.2.2.2 ha.2 (by simpa using hf) (by simp; omega)
    refine ⟨v0, v2, v3, v4, v5, v6, ?_⟩
    rw [whileF]
    have t : sqT [some (.val (gridD (tab n n (sqs ((h, l) :: r))))), some (.val (.fl done)), some (.val (.fl (intsD k (r.length + 1)))), w3, w4, w5, w6] S = some (true, S) := by
      simp [sqT, mTruA, mVar, tItems, lItems, intsD_cons]
    simp only [List.length_cons, t, eb]
    rw [e]
    simp
theorem squares_of_ok {n : Nat} (hn : 0 < n ∧ n ≤ 40) {ls : List (Rat × List Rat)} (hl : ls.length = n) (hs : Stair 0 ls) (ha : AllSm n 0 ls) (S : Sto) : F_squares_of [.val (gridD (tab n n (sqs ls)))] S = some (.val (.fl (ls.map (sqD n))), S) := by
  obtain ⟨v0, v2, v3, v4, v5, v6, e⟩ := sq_loop hn.2 S ls 0 100000 [] none none none none (by omega) hs ha (by omega) (by simp; omega)
  have ew : sWhile sqT sqB = whileF sqT sqB 100000 := rfl
  have eb : b_squares_of = sSeq (sPar 1 2 (aCons (mFl aNil) (aCons (mLrange (aCons (mCall fLen (aCons (mVar 0) aNil)) aNil)) aNil))) (sSeq (sWhile sqT sqB) (sSeq (sRet (mVar 1)) sNx)) := rfl
  have gl : (tab n n (sqs ls)).length = n := by simp [tab]
  have e0 : sPar 1 2 (aCons (mFl aNil) (aCons (mLrange (aCons (mCall fLen (aCons (mVar 0) aNil)) aNil)) aNil)) [some (.val (gridD (tab n n (sqs ls)))), none, none, none, none, none, none] S = some (.nx, [some (.val (gridD (tab n n (sqs ls)))), some (.val (.fl [])), some (.val (.fl (intsD 0 ls.length))), none, none, none, none], S) := by
    have c1 : decide (-(2 ^ 62) ≤ (n : Int)) = true := decide_eq_true (by omega)
    have c2 : decide ((n : Int) ≤ 2 ^ 24) = true := decide_eq_true (by omega)
    have eu : upFrom 0 ((n : Int) - 0).toNat = intsD 0 ls.length := by
      unfold upFrom intsD
      rw [hl, List.range_eq_range']
      simp
    have z : (0 : Nat) ≤ sizeLine := Nat.zero_le _
    simp only [sPar, aCons, aNil, mFl, vals?, List.length_nil, z, if_true, mLrange, mCall, mVar, List.getElem?_cons_zero, fLen, gridD, tItems, List.length_map, gl, c1, c2, Bool.and_self, eu, List.set_cons_zero, List.set_cons_succ]
  unfold F_squares_of trimF fnM
  rw [eb]
  simp only [List.map_cons, List.map_nil, List.length_cons, List.length_nil, List.cons_append, List.nil_append, Nat.reduceAdd, Nat.reduceSub, List.replicate, sSeq, e0, ew, e]
  simp [sRet, mVar]
end Lib

set_option Elab.async false
set_option linter.all false
set_option maxRecDepth 100000
set_option autoImplicit false
set_option maxHeartbeats 4000000
namespace Lib
open PySem PySem.Spec L2 HM
open PyProof.Rows hiding St
/-! ### equality of plain data with itself -/
structure Easy (k : Nat) (d : D) : Prop where
  plain : d.plain = true
  lay : PyData.canLay0 d.py = true
  dep : PyData.depth d.py ≤ k
theorem easy_int (i : Int) : Easy 0 (.int i) := ⟨rfl, by simp [D.py, PyData.canLay0], by simp [D.py, PyData.depth]⟩
theorem easy_list {k : Nat} : ∀ {ds : List D}, (∀ d ∈ ds, Easy k d) → plainAll ds = true ∧ PyData.canLayAll0 (pyAll ds) = true ∧ PyData.depthAll (pyAll ds) ≤ k
  | [], _ => ⟨rfl, by simp [pyAll, PyData.canLayAll0], by simp [pyAll, PyData.depthAll]⟩
  | d :: r, h => by
    obtain ⟨a, b, c⟩ := easy_list (fun x hx => h x (List.mem_cons_of_mem _ hx))
    have z := h d List.mem_cons_self
    refine ⟨by simp [plainAll, z.plain, a], by simp [pyAll, PyData.canLayAll0, z.lay, b], ?_⟩
    have := z.dep
    simp only [pyAll, PyData.depthAll]
    omega
theorem easy_tup {k : Nat} {ds : List D} (h : ∀ d ∈ ds, Easy k d) : Easy (k + 1) (.tup ds) := by
  obtain ⟨a, b, c⟩ := easy_list h
  exact ⟨by simp [D.plain, a], by simp [D.py, PyData.canLay0, b], by simp only [D.py, PyData.depth]; omega⟩
theorem easy_fr (q : Rat) : Easy 1 (fr q) := easy_tup fun d hd => by
  simp at hd
  rcases hd with rfl | rfl <;> exact easy_int _
theorem easy_row (x : List Rat) : Easy 2 (rowD x) := easy_tup fun d hd => by
  obtain ⟨q, _, rfl⟩ := List.mem_map.mp hd
  exact easy_fr q
theorem easy_grid (t : List (List Rat)) : Easy 3 (gridD t) := easy_tup fun d hd => by
  obtain ⟨q, _, rfl⟩ := List.mem_map.mp hd
  exact easy_row q
theorem eq_self {k : Nat} {d : D} (h : Easy k d) (hk : k ≤ 64) (S : Sto) : fEq (.val d) (.val d) S = some (.val (.bl true), S) := by
  have sh : SeqAt.shaped d.py = true := by
    unfold SeqAt.shaped
    rw [h.lay, decide_eq_true (by have := h.dep; omega)]
    rfl
  unfold fEq fEqD
  simp [W.py, h.plain, sh, SeqAt.eqv_refl d.py h.lay]
/-! ### signs, forms, tables, rows -/
theorem num_pos_of {q : Rat} (h : 0 < q) : 0 < q.num := by
  have h1 := Rat.num_nonneg.mpr (show 0 ≤ q by grind)
  have h2 : q.num ≠ 0 := fun z => by have := Rat.num_eq_zero.mp z; grind
  omega
theorem signs_ok {n : Nat} (hn : 0 < n ∧ n ≤ 40) {ls : List (Rat × List Rat)} (hl : ls.length = n) (hs : Stair 0 ls) (ha : AllSm n 0 ls) (hp : ∀ p ∈ ls, 0 < p.1) (S : Sto) : F_signs_of [.val (gridD (tab n n (sqs ls)))] S = some (.val (.tup [.int (n : Int), .int 0, .int 0]), S) := by
  have sq := squares_of_ok hn hl hs ha
  have sl3 : (3 : Nat) ≤ sizeLine := by rw [sizeLine_eq]; decide
  have c1 := mLc_mapT (tg := .tp [.nm 4, .nm 5]) (vs := [4, 5]) (it := iSeq (mCall F_squares_of (aCons (mVar 0) aNil))) (m := mBin fIx (mVar 4) (mC (.int 0))) (ρ := [some (.val (gridD (tab n n (sqs ls)))), none, none, none, none, none, none]) (S := S) (xs := ls) (enc := sqD n) (out := fun p => D.int p.1.num)
    (by simp [iSeq, mCall, aCons, aNil, mVar, sq, tItems, dItems]) (fun p hp => ⟨_, rfl, fun S => by simp [wipeR, mBin, mVar, mC, ix0]⟩) (sz40 (by omega))
  have pos : ∀ p ∈ ls, 0 < p.1.num := fun p h => num_pos_of (hp p h)
  have c2 := mLc_filT (tg := .nm 6) (vs := [6]) (it := iSeq (mVar 1)) (t := mTest (mBin fGt (mVar 6) (mC (.int 0)))) (m := mVar 6) (ρ := [some (.val (gridD (tab n n (sqs ls)))), some (.val (.fl (ls.map fun p => D.int p.1.num))), none, none, none, none, none]) (S := S) (xs := ls) (enc := fun p => D.int p.1.num) (out := fun p => D.int p.1.num) (pr := fun _ => true)
    (by simp [iSeq, mVar, tItems, dItems]) (fun p hp => ⟨_, rfl, fun S => by simp [wipeR, mTest, mBin, mVar, mC, gt_int, pos p hp], fun S => by simp [wipeR, mVar]⟩) (sz40 (by omega))
  have c3 := mLc_filT (tg := .nm 6) (vs := [6]) (it := iSeq (mVar 1)) (t := mTest (mBin fEq (mVar 6) (mC (.int 0)))) (m := mVar 6) (ρ := [some (.val (gridD (tab n n (sqs ls)))), some (.val (.fl (ls.map fun p => D.int p.1.num))), some (.val (.int (n : Int))), none, none, none, none]) (S := S) (xs := ls) (enc := fun p => D.int p.1.num) (out := fun p => D.int p.1.num) (pr := fun _ => false)
    (by simp [iSeq, mVar, tItems, dItems]) (fun p hp => ⟨_, rfl, fun S => by
      have := pos p hp
      have h : ¬ p.1.num = 0 := by omega
      simp [wipeR, mTest, mBin, mVar, mC, eq_int, h], fun S => by simp [wipeR, mVar]⟩) (sz40 (by omega))
  have f1 : ls.filter (fun _ => true) = ls := List.filter_eq_self.mpr fun _ _ => rfl
  have f2 : ls.filter (fun _ => false) = [] := List.filter_eq_nil_iff.mpr fun _ _ => by simp
  rw [f1] at c2
  rw [f2] at c3
  have e1 : sSet 1 (mLc (iSeq (mCall F_squares_of (aCons (mVar 0) aNil))) (.tp [.nm 4, .nm 5]) tYesM (mBin fIx (mVar 4) (mC (.int 0))) [4, 5]) [some (.val (gridD (tab n n (sqs ls)))), none, none, none, none, none, none] S = some (.nx, [some (.val (gridD (tab n n (sqs ls)))), some (.val (.fl (ls.map fun p => D.int p.1.num))), none, none, none, none, none], S) := by
    unfold sSet
    rw [c1]
    rfl
  have e2 : sSet 2 (mCall fLen (aCons (mLc (iSeq (mVar 1)) (.nm 6) (mTest (mBin fGt (mVar 6) (mC (.int 0)))) (mVar 6) [6]) aNil)) [some (.val (gridD (tab n n (sqs ls)))), some (.val (.fl (ls.map fun p => D.int p.1.num))), none, none, none, none, none] S = some (.nx, [some (.val (gridD (tab n n (sqs ls)))), some (.val (.fl (ls.map fun p => D.int p.1.num))), some (.val (.int (n : Int))), none, none, none, none], S) := by
    simp only [sSet, mCall, aCons, aNil]
    rw [c2]
    simp [fLen, tItems, lItems, hl]
  have e3 : sSet 3 (mCall fLen (aCons (mLc (iSeq (mVar 1)) (.nm 6) (mTest (mBin fEq (mVar 6) (mC (.int 0)))) (mVar 6) [6]) aNil)) [some (.val (gridD (tab n n (sqs ls)))), some (.val (.fl (ls.map fun p => D.int p.1.num))), some (.val (.int (n : Int))), none, none, none, none] S = some (.nx, [some (.val (gridD (tab n n (sqs ls)))), some (.val (.fl (ls.map fun p => D.int p.1.num))), some (.val (.int (n : Int))), some (.val (.int 0)), none, none, none], S) := by
    simp only [sSet, mCall, aCons, aNil]
    rw [c3]
    simp [fLen, tItems, lItems]
  unfold F_signs_of trimF fnM b_signs_of
  simp only [List.map_cons, List.map_nil, List.length_cons, List.length_nil, List.cons_append, List.nil_append, Nat.reduceAdd, Nat.reduceSub, List.replicate, sSeq, e1, e2, e3]
  simp [sRet, mTup, aCons, aNil, mVar, mBin, fSub, fI, mCall, fLen, tItems, lItems, vals?, sl3, hl]
theorem grid_len (t : List (List Rat)) (S : Sto) : fLen [.val (gridD t)] S = some (.val (.int (t.length : Int)), S) := by
  simp [fLen, gridD, tItems]
theorem row_len (t : List Rat) (S : Sto) : fLen [.val (rowD t)] S = some (.val (.int (t.length : Int)), S) := by
  simp [fLen, rowD, tItems]
theorem is_positive_ok {n : Nat} (hn : 0 < n ∧ n ≤ 40) {ls : List (Rat × List Rat)} (hl : ls.length = n) (hs : Stair 0 ls) (ha : AllSm n 0 ls) (hp : ∀ p ∈ ls, 0 < p.1) (S : Sto) : F_is_positive [.val (gridD (tab n n (sqs ls)))] S = some (.val (.bl true), S) := by
  have sg := signs_ok hn hl hs ha hp
  have gl : (tab n n (sqs ls)).length = n := by simp [tab]
  unfold F_is_positive trimF fnM b_is_positive
  simp [sSeq, sRet, mBin, mCall, aCons, aNil, mVar, mC, sg, fIx, tItems, L2.atI, ixN, grid_len, gl, eq_int]
theorem fracB_fr (q : Rat) : fracB (fr q) = true := by
  unfold fr fracB
  have h : (0 : Int) < (q.den : Int) := by have := q.den_pos; omega
  simp only [decide_eq_true h, rat_self, Bool.true_and]
  simp
theorem lineB_row {x : List Rat} {n : Nat} (h : x.length = n) : lineB n (rowD x) = true := by
  unfold rowD lineB
  simp [h, fracB_fr]
theorem gridB_tab {n m : Nat} (f : Nat → Nat → Rat) (h : n = m) : gridB n (gridD (tab n m f)) = true := by
  subst h
  unfold gridD gridB tab
  simp only [List.length_map, List.length_range, decide_true, Bool.true_and, List.all_map, List.all_eq_true, Function.comp_def]
  intro i _
  exact lineB_row (by simp)
theorem askd_fr {q : Rat} {k : Nat} (h : HB q k) : Askd (fr q) k := ⟨rfl, fun ds e x hx => by
  have : ds = [.int q.num, .int (q.den : Int)] := by unfold fr at e; injection e with e; exact e.symm
  subst this
  simp at hx
  rcases hx with rfl | rfl
  · exact ⟨rfl, fun i e => by cases e; exact h.num⟩
  · exact ⟨rfl, fun i e => by cases e; exact h.den⟩⟩
theorem askL_row {x : List Rat} {k : Nat} (h : ∀ q ∈ x, HB q k) (hl : x.length ≤ 1000) : AskL (rowD x) k := ⟨rfl, fun ds e => by
  have : ds = x.map fr := by unfold rowD at e; injection e with e; exact e.symm
  subst this
  refine ⟨by simpa using hl, fun d hd => ?_⟩
  obtain ⟨q, hq, rfl⟩ := List.mem_map.mp hd
  exact askd_fr (h q hq)⟩
theorem askG_grid {t : List (List Rat)} {k : Nat} (h : ∀ x ∈ t, (∀ q ∈ x, HB q k) ∧ x.length ≤ 1000) (hl : t.length ≤ 1000) : AskG (gridD t) k := ⟨rfl, fun ds e => by
  have : ds = t.map rowD := by unfold gridD at e; injection e with e; exact e.symm
  subst this
  refine ⟨by simpa using hl, fun d hd => ?_⟩
  obtain ⟨q, hq, rfl⟩ := List.mem_map.mp hd
  exact askL_row (h q hq).1 (h q hq).2⟩
theorem mem_tab {n m : Nat} {f : Nat → Nat → Rat} {x : List Rat} (h : x ∈ tab n m f) : ∃ i, i < n ∧ x = (List.range m).map fun j => f i j := by
  obtain ⟨i, hi, rfl⟩ := List.mem_map.mp h
  exact ⟨i, List.mem_range.mp hi, rfl⟩
theorem askG_tab {n m k : Nat} {f : Nat → Nat → Rat} (h : ∀ i j, i < n → j < m → HB (f i j) k) (hn : n ≤ 1000) (hm : m ≤ 1000) : AskG (gridD (tab n m f)) k :=
  askG_grid (fun x hx => by
    obtain ⟨i, hi, rfl⟩ := mem_tab hx
    refine ⟨fun q hq => ?_, by simpa using hm⟩
    obtain ⟨j, hj, rfl⟩ := List.mem_map.mp hq
    exact h i j hi (List.mem_range.mp hj)) (by simpa [tab] using hn)
section
variable {n : Nat} {f : Nat → Nat → Rat}
theorem anyB_tab (hn : 0 < n ∧ n ≤ 5) : anyB (gridD (tab n n f)) = true := by
  have g := gridB_tab (n := n) f rfl
  have hl : (tab n n f).length = n := by simp [tab]
  unfold anyB
  unfold gridD at g ⊢
  simp only [List.length_map, hl, g, Bool.and_true]
  exact decide_eq_true (by omega)
theorem is_form_ok (hn : 0 < n ∧ n ≤ 5) (h : ∀ i j, i < n → j < n → Sm (f i j)) (sym : ∀ i j, i < n → j < n → f i j = f j i) (S : Sto) : F_is_form [.val (gridD (tab n n f))] S = some (.val (.bl true), S) := by
  have a := is_any_table_ok (askG_tab h (by omega) (by omega)) S
  rw [anyB_tab hn] at a
  have tu := pturned_ok (n := n) (m := n) (f := f) (by omega) (by omega) S
  have et : tab n n (fun i j => f j i) = tab n n f := by
    unfold tab
    apply List.map_congr_left
    intro i hi
    apply List.map_congr_left
    intro j hj
    exact sym j i (List.mem_range.mp hj) (List.mem_range.mp hi)
  rw [et] at tu
  have eq := eq_self (easy_grid (tab n n f)) (by decide) S
  unfold F_is_form trimF fnM b_is_form
  simp [sSeq, sRet, mAnd, mCall, aCons, aNil, mVar, a, mBin, tu, eq]
theorem check_form_ok (hn : 0 < n ∧ n ≤ 5) (h : ∀ i j, i < n → j < n → Sm (f i j)) (sym : ∀ i j, i < n → j < n → f i j = f j i) (S : Sto) : F_check_form [.val (gridD (tab n n f))] S = some (.val .non, S) := by
  have a := is_form_ok hn h sym S
  unfold F_check_form trimF fnM b_check_form
  simp [sSeq, sIf, mtNot, mTest, mCall, aCons, aNil, mVar, a, sNx]
end
theorem allSm_head {n : Nat} {ls : List (Rat × List Rat)} (ha : AllSm n 0 ls) (h0 : ls ≠ []) : ∀ i j, i < n → j < n → Sm (sqs ls i j) := by
  cases ls with
  | nil => exact absurd rfl h0
  | cons p r =>
    obtain ⟨h, l⟩ := p
    exact ha.1.all
theorem check_table_ok {n : Nat} (hn : 0 < n ∧ n ≤ 5) {ls : List (Rat × List Rat)} (hl : ls.length = n) (hs : Stair 0 ls) (ha : AllSm n 0 ls) (hp : ∀ p ∈ ls, 0 < p.1) (S : Sto) : F_check_table [.val (gridD (tab n n (sqs ls)))] S = some (.val .non, S) := by
  have sm := allSm_head ha (by intro z; subst z; simp at hl; omega)
  have a := is_form_ok hn sm (fun i j _ _ => sqs_sym ls i j) S
  have b := is_positive_ok (by omega) hl hs ha hp S
  have c : F_is_positive_table [.val (gridD (tab n n (sqs ls)))] S = some (.val (.bl true), S) := by
    unfold F_is_positive_table trimF fnM b_is_positive_table
    simp [sSeq, sRet, mAnd, mCall, aCons, aNil, mVar, a, b]
  unfold F_check_table trimF fnM b_check_table
  simp [sSeq, sIf, mtNot, mTest, mCall, aCons, aNil, mVar, c, sNx]
def ckB : SM := (sSeq
  (sIf (mtNot (mTest (mCall F_is_fraction (aCons (mVar 3) aNil)))) (sSeq
  sNo
  sNx) sNx)
  sNx)
theorem check_row_ok {x : List Rat} {n k : Nat} (hx : ∀ q ∈ x, HB q k) (hl : x.length = n) (hn : n ≤ 1000) (S : Sto) : F_check_row [.val (rowD x), .val (.int (n : Int))] S = some (.val .non, S) := by
  have t := is_tuple_ok (d := rowD x) rfl S
  have tb : tupB (rowD x) = true := rfl
  rw [tb] at t
  have ir : iEnumA (mVar 0) [some (.val (rowD x)), some (.val (.int (n : Int))), none, none] S = some (enumD (x.map fr), S) := by
    simp [iEnumA, mVar, rowD, tItems]
  obtain ⟨ρ', S', el, ⟨_, rfl⟩⟩ := forL_inv (tg := .tp [.nm 2, .nm 3]) (b := ckB) (fun _ ρ S' => (∃ w2 w3, ρ = [some (.val (rowD x)), some (.val (.int (n : Int))), w2, w3]) ∧ S' = S) (enumD (x.map fr)) 0 [some (.val (rowD x)), some (.val (.int (n : Int))), none, none] S ⟨⟨_, _, rfl⟩, rfl⟩ (fun i d ρ S1 hd hi => by
    obtain ⟨⟨w2, w3, rfl⟩, rfl⟩ := hi
    have hil : i < x.length := by
      have := (List.getElem?_eq_some_iff.mp hd).1
      rw [enumD_length] at this
      simpa using this
    have e := enumD_get (ds := x.map fr) (i := i) (d := fr x[i]) (by simp [hil])
    rw [e] at hd
    cases hd
    have q := is_fraction_ok (askd_fr (hx x[i] (List.getElem_mem hil))) S1
    rw [fracB_fr] at q
    refine ⟨_, [some (.val (rowD x)), some (.val (.int (n : Int))), some (.val (.int (i : Nat))), some (.val (fr x[i]))], S1, rfl, ?_, ⟨_, _, rfl⟩, rfl⟩
    simp [ckB, sSeq, sIf, mtNot, mTest, mCall, aCons, aNil, mVar, q, sNx])
  have eb : b_check_row = sSeq (sIf (mtOr (mtNot (mTest (mCall F_is_tuple (aCons (mVar 0) aNil)))) (mTest (mBin fNe (mCall fLen (aCons (mVar 0) aNil)) (mVar 1)))) (sSeq sNo sNx) sNx) (sSeq (sFor (iEnumA (mVar 0)) (.tp [.nm 2, .nm 3]) ckB) sNx) := rfl
  unfold F_check_row trimF fnM
  rw [eb]
  simp only [List.map_cons, List.map_nil, List.length_cons, List.length_nil, List.cons_append, List.nil_append, Nat.reduceAdd, Nat.reduceSub, List.replicate, sSeq, sFor, ir, el]
  simp [sIf, mtOr, mtNot, mTest, mCall, aCons, aNil, mVar, t, mBin, row_len, hl, ne_int, sNx, ir, el]
end Lib

set_option Elab.async false
set_option linter.all false
set_option maxRecDepth 100000
set_option autoImplicit false
set_option maxHeartbeats 4000000
namespace Lib
open PySem PySem.Spec L2 HM
open PyProof.Rows hiding St
/-! ### loops that fill a list with draws -/
def appB (c : Nat) (m : EM) : SM := sSeq (sExpr (mMeth mappend (mVar c) (aCons m aNil))) sNx
theorem app_step {c : Nat} {m : EM} {ρ : Rho} {S S1 : Sto} {acc : List D} {d : D} {L : Nat} (hc : ρ[c]? = some (some (.loc L))) (hS : S[L]? = some (some acc)) (hm : m ρ S = some (.val d, S1)) (hS1 : S1[L]? = some (some acc)) (hl : acc.length < 5000) :
    appB c m ρ S = some (.nx, ρ, S1.set L (some (acc ++ [d]))) := by
  have sl : acc.length < sizeLine := by rw [sizeLine_eq]; omega
  simp [appB, sSeq, sExpr, mMeth, mVar, hc, cellOf?, hS, aCons, aNil, hm, mappend, hS1, sl, sNx]
theorem app_loop {α : Type} {enc : α → D} {P : Nat → α → Prop} {m : EM} {c t l : Nat} {k n : Int} {ρ0 : Rho} {S : Sto} {U : List D} (js : List D) (hc : ρ0[c]? = some (some (.loc S.length))) (htc : t ≠ c) (hU : S[l]? = some (some U)) (hUn : UrnOk n U) (hjs : js.length ≤ 1000)
    (hm : ∀ (i : Nat) (d : D) (S : Sto) (U : List D), js[i]? = some d → S[l]? = some (some U) → UrnOk (n + (i : Int) * k) U → ∃ x U', m (ρ0.set t (some (.val d))) S = some (.val (enc x), S.set l (some U')) ∧ P i x ∧ UrnOk (n + ((i : Int) + 1) * k) U') :
    ∃ (xs : List α) (U' : List D) (ρ' : Rho), forL (.nm t) (appB c m) js ρ0 (S ++ [some []]) = some (.nx, ρ', S.set l (some U') ++ [some (xs.map enc)]) ∧ xs.length = js.length ∧ (∀ i x, xs[i]? = some x → P i x) ∧ UrnOk (n + (js.length : Int) * k) U' ∧ (ρ' = ρ0 ∨ ∃ w, ρ' = ρ0.set t w) := by
  have hlt : l < S.length := (List.getElem?_eq_some_iff.mp hU).1
  obtain ⟨ρ', S', e, hρ, xs, U', rfl, h1, h2, h3⟩ := forL_inv (tg := .nm t) (b := appB c m) (fun i ρ S' => (ρ = ρ0 ∨ ∃ w, ρ = ρ0.set t w) ∧ ∃ (xs : List α) (U' : List D), S' = S.set l (some U') ++ [some (xs.map enc)] ∧ xs.length = i ∧ (∀ i x, xs[i]? = some x → P i x) ∧ UrnOk (n + (i : Int) * k) U')
    js 0 ρ0 (S ++ [some []]) ⟨.inl rfl, [], U, by rw [set_same hU]; rfl, rfl, fun i x h => by simp at h, by simpa using hUn⟩ (fun i d ρ S' hd hi => by
      obtain ⟨hρ, xs, U', rfl, h1, h2, h3⟩ := hi
      rw [Nat.zero_add] at h1 h3
      have er : ρ.set t (some (.val d)) = ρ0.set t (some (.val d)) := by
        rcases hρ with rfl | ⟨w, rfl⟩
        · rfl
        · rw [List.set_set]
      have hil : i < js.length := (List.getElem?_eq_some_iff.mp hd).1
      have g1 : (S.set l (some U') ++ [some (xs.map enc)])[l]? = some (some U') := by
        rw [List.getElem?_append_left (by rw [List.length_set]; exact hlt)]
        exact List.getElem?_set_self hlt
      obtain ⟨x, U2, em, px, hU2⟩ := hm i d _ U' hd g1 h3
      have e2 : (S.set l (some U') ++ [some (xs.map enc)]).set l (some U2) = S.set l (some U2) ++ [some (xs.map enc)] := by
        rw [List.set_append_left _ _ (by rw [List.length_set]; exact hlt), List.set_set]
      rw [e2] at em
      have gL : ∀ V : Option (List D), (S.set l V ++ [some (xs.map enc)])[S.length]? = some (some (xs.map enc)) := fun V => by
        rw [List.getElem?_append_right (by simp)]
        simp
      have hc' : (ρ0.set t (some (.val d)))[c]? = some (some (.loc S.length)) := by rw [List.getElem?_set_ne htc]; exact hc
      have ap := app_step hc' (gL _) em (gL _) (by rw [List.length_map, h1]; omega)
      have e3 : (S.set l (some U2) ++ [some (xs.map enc)]).set S.length (some (xs.map enc ++ [enc x])) = S.set l (some U2) ++ [some ((xs ++ [x]).map enc)] := by
        rw [List.set_append_right _ _ (by simp)]
        simp
      rw [e3] at ap
      refine ⟨_, _, _, rfl, by rw [er]; exact ap, .inr ⟨_, rfl⟩, xs ++ [x], U2, rfl, by simp [h1], fun j y hy => ?_, ?_⟩
      · by_cases hj : j < xs.length
        · rw [List.getElem?_append_left hj] at hy; exact h2 j y hy
        · rw [List.getElem?_append_right (by omega)] at hy
          have hj0 : j - xs.length = 0 := by
            cases q : j - xs.length with
            | zero => rfl
            | succ z => rw [q] at hy; simp at hy
          rw [hj0] at hy
          simp at hy
          subst hy
          have : j = i := by omega
          subst this
          exact px
      · have : ((0 + i + 1 : Nat) : Int) = (i : Int) + 1 := by omega
        rw [this]
        exact hU2)
  rw [Nat.zero_add] at h1 h3
  exact ⟨xs, U', ρ', e, h1, h2, h3, hρ⟩
/-! ### a body's run, step by step -/
theorem trim_ret {n : Nat} {b : SM} {ws : List W} {S S' : Sto} {ρ' : Rho} {d : D} (h : b (ws.map some ++ List.replicate (n - ws.length) none) S = some (.ret (.val d), ρ', S')) : trimF (fnM n b) ws S = some (.val d, S'.take S.length) := by
  unfold trimF fnM
  rw [h]
theorem raw_ret {n : Nat} {b : SM} {ws : List W} {S S' : Sto} {ρ' : Rho} {w : W} (h : b (ws.map some ++ List.replicate (n - ws.length) none) S = some (.ret w, ρ', S')) : fnM n b ws S = some (w, S') := by
  unfold fnM
  rw [h]
theorem seq_nx {a b : SM} {ρ ρ1 : Rho} {S S1 : Sto} (h : a ρ S = some (.nx, ρ1, S1)) : sSeq a b ρ S = b ρ1 S1 := by
  unfold sSeq
  rw [h]
theorem seq_ret {a b : SM} {ρ ρ1 : Rho} {S S1 : Sto} {w : W} (h : a ρ S = some (.ret w, ρ1, S1)) : sSeq a b ρ S = some (.ret w, ρ1, S1) := by
  unfold sSeq
  rw [h]
theorem ret_ok {m : EM} {ρ : Rho} {S S1 : Sto} {w : W} (h : m ρ S = some (w, S1)) : sRet m ρ S = some (.ret w, ρ, S1) := by
  unfold sRet
  rw [h]
theorem set_ok {i : Nat} {m : EM} {ρ : Rho} {S S1 : Sto} {w : W} (h : m ρ S = some (w, S1)) : sSet i m ρ S = some (.nx, ρ.set i (some w), S1) := by
  unfold sSet
  rw [h]
theorem for_ok {it : IM} {tg : Tg} {b : SM} {ρ ρ' : Rho} {S S1 S2 : Sto} {js : List D} (h : it ρ S = some (js, S1)) (h2 : forL tg b js ρ S1 = some (.nx, ρ', S2)) : sFor it tg b ρ S = some (.nx, ρ', S2) := by
  unfold sFor
  rw [h]
  exact h2
theorem var_ok {i : Nat} {ρ : Rho} {S : Sto} {w : W} (h : ρ[i]? = some (some w)) : mVar i ρ S = some (w, S) := by
  unfold mVar
  rw [h]
theorem acons_ok {m : EM} {a : AM} {ρ : Rho} {S S1 S2 : Sto} {w : W} {ws : List W} (h : m ρ S = some (w, S1)) (h2 : a ρ S1 = some (ws, S2)) : aCons m a ρ S = some (w :: ws, S2) := by
  unfold aCons
  rw [h]
  simp only [h2]
theorem call_ok {F : FM} {a : AM} {ρ : Rho} {S S1 : Sto} {ws : List W} (h : a ρ S = some (ws, S1)) : mCall F a ρ S = F ws S1 := by
  unfold mCall
  rw [h]
theorem call1 {F : FM} {i : Nat} {ρ : Rho} {S : Sto} {w : W} (h : ρ[i]? = some (some w)) : mCall F (aCons (mVar i) aNil) ρ S = F [w] S := call_ok (acons_ok (var_ok h) rfl)
theorem call2 {F : FM} {i j : Nat} {ρ : Rho} {S : Sto} {w v : W} (h : ρ[i]? = some (some w)) (h2 : ρ[j]? = some (some v)) : mCall F (aCons (mVar i) (aCons (mVar j) aNil)) ρ S = F [w, v] S := call_ok (acons_ok (var_ok h) (acons_ok (var_ok h2) rfl))
theorem call3 {F : FM} {i j k : Nat} {ρ : Rho} {S : Sto} {w v u : W} (h : ρ[i]? = some (some w)) (h2 : ρ[j]? = some (some v)) (h3 : ρ[k]? = some (some u)) : mCall F (aCons (mVar i) (aCons (mVar j) (aCons (mVar k) aNil))) ρ S = F [w, v, u] S := call_ok (acons_ok (var_ok h) (acons_ok (var_ok h2) (acons_ok (var_ok h3) rfl)))
theorem call_vc {F : FM} {i : Nat} {ρ : Rho} {S : Sto} {w : W} {d : D} (h : ρ[i]? = some (some w)) : mCall F (aCons (mVar i) (aCons (mC d) aNil)) ρ S = F [w, .val d] S := call_ok (acons_ok (var_ok h) (acons_ok rfl rfl))
theorem bin_ok {f : F2} {a b : EM} {ρ : Rho} {S S1 S2 : Sto} {x y : W} (h : a ρ S = some (x, S1)) (h2 : b ρ S1 = some (y, S2)) : mBin f a b ρ S = f x y S2 := by
  unfold mBin
  rw [h]
  simp only [h2]
theorem test_ok {m : EM} {ρ : Rho} {S S1 : Sto} {b : Bool} (h : m ρ S = some (.val (.bl b), S1)) : mTest m ρ S = some (b, S1) := by
  unfold mTest
  rw [h]
/-! ### a drawn row -/
theorem up_get {k i : Nat} {d : D} (h : (upFrom 0 k)[i]? = some d) : i < k ∧ d = .int (i : Int) := by
  have hi : i < k := by
    have := (List.getElem?_eq_some_iff.mp h).1
    rwa [upFrom_length] at this
  unfold upFrom at h
  rw [List.getElem?_map, List.getElem?_range hi] at h
  cases h
  exact ⟨hi, by simp⟩
theorem range_ok {k : Nat} {e : EM} {ρ : Rho} {S S1 : Sto} (he : e ρ S = some (.val (.int (k : Int)), S1)) (hk : k ≤ 1000) : iRange1 (aCons e aNil) ρ S = some (upFrom 0 k, S1) := by
  have sm : small62 (k : Int) = true := by
    unfold small62
    have a1 : -(2 ^ 62) ≤ (k : Int) := by omega
    have a2 : (k : Int) < 2 ^ 62 := by omega
    simp only [decide_eq_true a1, decide_eq_true a2, Bool.and_self]
  simp [iRange1, aCons, aNil, he, sm]
theorem line_ok {l : Nat} {S : Sto} {U : List D} {n : Int} {k : Nat} (hS : S[l]? = some (some U)) (h : UrnOk n U) (hk : k ≤ 100) (hn : n + 3 * (k : Int) ≤ 900000) :
    ∃ (qs : List Rat) (U' : List D), F_law_line [.loc l, .val (.int (k : Int))] S = some (.val (rowD qs), S.set l (some U')) ∧ qs.length = k ∧ (∀ q ∈ qs, HB q 20) ∧ UrnOk (n + 3 * (k : Int)) U' := by
  have hlt : l < S.length := (List.getElem?_eq_some_iff.mp hS).1
  obtain ⟨qs, U', ρ', e, c1, c2, c3, hρ⟩ := app_loop (enc := fr) (P := fun _ q => HB q 20) (m := mCall F_law_number (aCons (mVar 0) aNil)) (c := 2) (t := 3) (l := l) (k := 3) (n := n) (ρ0 := [some (.loc l), some (.val (.int (k : Int))), some (.loc S.length), none]) (S := S) (U := U) (upFrom 0 k) rfl (by decide) hS h (by rw [upFrom_length]; omega) (fun i d S U hd hS hU => by
    obtain ⟨hi, rfl⟩ := up_get hd
    obtain ⟨q, U', e1, e2, e3⟩ := number_ok hS hU (by omega)
    exact ⟨q, U', (call1 rfl).trans e1, e2, e3.mono (by omega)⟩)
  rw [upFrom_length] at c1 c3
  refine ⟨qs, U', ?_, c1, fun q hq => ?_, c3.mono (by omega)⟩
  · have s1 : mCell aNil [some (.loc l), some (.val (.int (k : Int))), none, none] S = some (.loc S.length, S ++ [some []]) := by
      have z : (0 : Nat) ≤ sizeLine := Nat.zero_le _
      simp [mCell, aNil, vals?, z]
    have s2 := range_ok (k := k) (e := mVar 1) (ρ := [some (.loc l), some (.val (.int (k : Int))), some (.loc S.length), none]) (S := S ++ [some []]) (S1 := S ++ [some []]) rfl (by omega)
    have g : (S.set l (some U') ++ [some (qs.map fr)])[S.length]? = some (some (qs.map fr)) := by
      rw [List.getElem?_append_right (by simp)]
      simp
    have tk : List.take S.length (S.set l (some U') ++ [some (qs.map fr)]) = S.set l (some U') := by
      rw [List.take_append_of_le_length (by simp)]
      exact set_take
    have r2 : ρ'[2]? = some (some (.loc S.length)) := by
      rcases hρ with rfl | ⟨w, rfl⟩ <;> rfl
    have s3 : mCall fTuple (aCons (mVar 2) aNil) ρ' (S.set l (some U') ++ [some (qs.map fr)]) = some (.val (rowD qs), S.set l (some U') ++ [some (qs.map fr)]) := by
      simp [mCall, aCons, aNil, mVar, r2, fTuple, tItems, lItems, g, rowD]
    have run : sSeq (sSet 2 (mCell aNil)) (sSeq (sFor (iRange1 (aCons (mVar 1) aNil)) (.nm 3) (appB 2 (mCall F_law_number (aCons (mVar 0) aNil)))) (sSeq (sRet (mCall fTuple (aCons (mVar 2) aNil))) sNx)) [some (.loc l), some (.val (.int (k : Int))), none, none] S = some (.ret (.val (rowD qs)), ρ', S.set l (some U') ++ [some (qs.map fr)]) :=
      (seq_nx (set_ok s1)).trans ((seq_nx (for_ok s2 e)).trans (seq_ret (ret_ok s3)))
    have := trim_ret (n := 4) (b := b_law_line) (ws := [.loc l, .val (.int (k : Int))]) run
    rw [tk] at this
    exact this
  · obtain ⟨i, hi⟩ := List.getElem?_of_mem hq
    exact c2 i q hi
end Lib

set_option Elab.async false
set_option linter.all false
set_option maxRecDepth 100000
set_option autoImplicit false
set_option maxHeartbeats 4000000
namespace Lib
open PySem PySem.Spec L2 HM
open PyProof.Rows hiding St
/-! ### a tuple or a closed list -/
def Sq (w : W) (ds : List D) : Prop := w = .val (.tup ds) ∨ w = .val (.fl ds)
theorem Sq.it {w : W} {ds : List D} (h : Sq w ds) {i : Nat} {ρ : Rho} (S : Sto) (hi : ρ[i]? = some (some w)) : iSeq (mVar i) ρ S = some (ds, S) := by
  rcases h with rfl | rfl <;> simp [iSeq, mVar, hi, tItems, dItems]
theorem Sq.ix {w : W} {ds : List D} (h : Sq w ds) {i : Nat} {d : D} (S : Sto) (hd : ds[i]? = some d) : fIx w (.val (.int (i : Int))) S = some (.val d, S) := by
  have e : L2.atI ds (i : Int) = some d := atI_nat hd
  rcases h with rfl | rfl <;> simp [fIx, tItems, lItems, e]
theorem Sq.len {w : W} {ds : List D} (h : Sq w ds) (S : Sto) : fLen [w] S = some (.val (.int (ds.length : Int)), S) := by
  rcases h with rfl | rfl <;> simp [fLen, tItems, lItems]
theorem upFrom_enc (k : Nat) : upFrom 0 k = (List.range k).map fun (j : Nat) => D.int (j : Int) := by
  unfold upFrom
  simp
theorem flip_gen {w : W} {m : List (List Rat)} {n : Nat} (h : Sq w (m.map rowD)) (hm : ∀ r ∈ m, r.length = n) (hne : m ≠ []) (hn : n ≤ 1000) (hl : m.length ≤ 1000) (S : Sto) : F_law_flip [w] S = some (.val (gridD (flipQ m n)), S) := by
  obtain ⟨r0, ms, rfl⟩ : ∃ r0 ms, m = r0 :: ms := by
    cases m with
    | nil => exact absurd rfl hne
    | cons a b => exact ⟨a, b, rfl⟩
  have e0 : mCall fLen (aCons (mBin fIx (mVar 0) (mC (.int 0))) aNil) [some w, none, none] S = some (.val (.int (n : Int)), S) := by
    have := h.ix (i := 0) (d := rowD r0) S rfl
    have q : ((0 : Nat) : Int) = 0 := rfl
    rw [q] at this
    simp [mCall, aCons, aNil, mBin, mVar, mC, this, row_len, hm r0 List.mem_cons_self]
  have e1 : iRange1 (aCons (mCall fLen (aCons (mBin fIx (mVar 0) (mC (.int 0))) aNil)) aNil) [some w, none, none] S = some ((List.range n).map fun (j : Nat) => D.int (j : Int), S) := by
    rw [← upFrom_enc]
    exact range_ok e0 hn
  have hc := mLc_mapT (tg := .nm 1) (vs := [1]) (it := iRange1 (aCons (mCall fLen (aCons (mBin fIx (mVar 0) (mC (.int 0))) aNil)) aNil)) (m := mCall fTuple (aCons (mLc (iSeq (mVar 0)) (.nm 2) tYesM (mBin fIx (mVar 2) (mVar 1)) [2]) aNil)) (ρ := [some w, none, none]) (S := S)
    (xs := List.range n) (enc := fun (j : Nat) => D.int (j : Int)) (out := fun j => rowD ((r0 :: ms).map fun r => r.getD j 0)) e1 (fun j hj => ⟨_, rfl, fun S => by
      have hjn := List.mem_range.mp hj
      have hi := mLc_mapT (tg := .nm 2) (vs := [2]) (it := iSeq (mVar 0)) (m := mBin fIx (mVar 2) (mVar 1)) (ρ := [some w, some (.val (.int (j : Int))), none]) (S := S) (xs := r0 :: ms) (enc := rowD) (out := fun r => fr (r.getD j 0)) (h.it S rfl) (fun r hr => ⟨_, rfl, fun S => by
        have hlt : j < r.length := by rw [hm r hr]; exact hjn
        have e : L2.atI (r.map fr) (j : Int) = some (fr (r.getD j 0)) := atI_nat (by rw [List.getElem?_map, List.getElem?_eq_getElem hlt]; simp [List.getD, hlt])
        simp [-List.getD_eq_getElem?_getD, wipeR, mBin, mVar, fIx, rowD, tItems, e]⟩) (sz40 hl)
      have er : rowD ((r0 :: ms).map fun r => r.getD j 0) = .tup ((r0 :: ms).map fun r => fr (r.getD j 0)) := by simp [rowD, List.map_map]
      have ew : ((wipeR [some w, none, none] [1]).set 1 (some (.val (D.int (j : Int))))) = [some w, some (.val (.int (j : Int))), none] := by simp [wipeR]
      rw [ew, er]
      simp only [mCall, aCons, aNil]
      rw [hi]
      simp only [fTuple, tItems, lItems]⟩) (by rw [List.length_range, sizeLine_eq]; omega)
  have er : gridD (flipQ (r0 :: ms) n) = .tup ((List.range n).map fun j => rowD ((r0 :: ms).map fun r => r.getD j 0)) := by simp [gridD, flipQ, List.map_map, Function.comp]
  have s3 : mCall fTuple (aCons (mLc (iRange1 (aCons (mCall fLen (aCons (mBin fIx (mVar 0) (mC (.int 0))) aNil)) aNil)) (.nm 1) tYesM (mCall fTuple (aCons (mLc (iSeq (mVar 0)) (.nm 2) tYesM (mBin fIx (mVar 2) (mVar 1)) [2]) aNil)) [1]) aNil) [some w, none, none] S = some (.val (gridD (flipQ (r0 :: ms) n)), S) := by
    rw [er]
    rw [mCall]
    simp only [aCons, aNil]
    rw [hc]
    simp only [fTuple, tItems, lItems]
  have := trim_ret (n := 3) (b := b_law_flip) (ws := [w]) (seq_ret (ret_ok s3))
  rw [List.take_length] at this
  exact this
theorem mul_gen {w : W} {a b : List (List Rat)} {k j n p : Nat} (h : Sq w (b.map rowD)) (ha : ∀ r ∈ a, r.length ≤ p ∧ ∀ q ∈ r, HB q k) (hb : ∀ r ∈ b, r.length = n ∧ ∀ q ∈ r, HB q j) (hne : b ≠ []) (hn : n ≤ 1000) (hk : 1 + p * (k + j + 1) < 9000) (hla : a.length ≤ 1000) (hlb : b.length ≤ 1000) (S : Sto) :
    F_law_mul [.val (gridD a), w] S = some (.val (gridD (mulQ a b n)), S) := by
  have ef := flip_gen h (fun r hr => (hb r hr).1) hne hn hlb S
  have hfm := flip_mem hb
  have hfl : (flipQ b n).length ≤ sizeLine := by unfold flipQ; rw [List.length_map, List.length_range, sizeLine_eq]; omega
  have s1 : mCall F_law_flip (aCons (mVar 1) aNil) [some (.val (gridD a)), some w, none, none, none] S = some (.val (gridD (flipQ b n)), S) := by
    simp [mCall, aCons, aNil, mVar, ef]
  have hc := mLc_mapT (tg := .nm 3) (vs := [3]) (it := iSeq (mVar 0)) (m := mCall fTuple (aCons (mLc (iSeq (mVar 2)) (.nm 4) tYesM (mCall F_law_dot (aCons (mVar 3) (aCons (mVar 4) aNil))) [4]) aNil)) (ρ := [some (.val (gridD a)), some w, some (.val (gridD (flipQ b n))), none, none]) (S := S) (xs := a) (enc := rowD) (out := fun r => rowD ((flipQ b n).map fun c => dotQ r c))
    (by simp [iSeq, mVar, tItems, gridD]) (fun r hr => ⟨_, rfl, fun S => by
      obtain ⟨hrn, hrq⟩ := ha r hr
      have hkk := Nat.mul_le_mul_right (k + j + 1) hrn
      have hi := mLc_mapT (tg := .nm 4) (vs := [4]) (it := iSeq (mVar 2)) (m := mCall F_law_dot (aCons (mVar 3) (aCons (mVar 4) aNil))) (ρ := [some (.val (gridD a)), some w, some (.val (gridD (flipQ b n))), some (.val (rowD r)), none]) (S := S) (xs := flipQ b n) (enc := rowD) (out := fun c => fr (dotQ r c))
        (by simp [iSeq, mVar, tItems, gridD]) (fun c hc => ⟨_, rfl, fun S => by
          simp [wipeR, mCall, aCons, aNil, mVar, dot_ok (xs := r) (ys := c) (k := k) (j := j) hrq (hfm c hc) (by omega)]⟩) hfl
      have er : rowD ((flipQ b n).map fun c => dotQ r c) = .tup ((flipQ b n).map fun c => fr (dotQ r c)) := by simp [rowD, List.map_map]
      have ew : ((wipeR [some (.val (gridD a)), some w, some (.val (gridD (flipQ b n))), none, none] [3]).set 3 (some (.val (rowD r)))) = [some (.val (gridD a)), some w, some (.val (gridD (flipQ b n))), some (.val (rowD r)), none] := by simp [wipeR]
      rw [ew, er]
      rw [mCall]
      simp only [aCons, aNil]
      rw [hi]
      simp only [fTuple, tItems, lItems]⟩) (sz40 hla)
  have er : gridD (mulQ a b n) = .tup (a.map fun r => rowD ((flipQ b n).map fun c => dotQ r c)) := by simp [gridD, mulQ, List.map_map, Function.comp]
  have s2 : mCall fTuple (aCons (mLc (iSeq (mVar 0)) (.nm 3) tYesM (mCall fTuple (aCons (mLc (iSeq (mVar 2)) (.nm 4) tYesM (mCall F_law_dot (aCons (mVar 3) (aCons (mVar 4) aNil))) [4]) aNil)) [3]) aNil) [some (.val (gridD a)), some w, some (.val (gridD (flipQ b n))), none, none] S = some (.val (gridD (mulQ a b n)), S) := by
    rw [er, mCall]
    simp only [aCons, aNil]
    rw [hc]
    simp only [fTuple, tItems, lItems]
  have := trim_ret (n := 5) (b := b_law_mul) (ws := [.val (gridD a), w]) ((seq_nx (set_ok s1)).trans (seq_ret (ret_ok s2)))
  rw [List.take_length] at this
  exact this
theorem by_gen {x : List Rat} {f : Rat} {k j : Nat} (hx : ∀ q ∈ x, HB q k) (hf : HB f j) (hk : k + j < 9000) (hl : x.length ≤ 1000) (S : Sto) : F_law_by [.val (rowD x), .val (fr f)] S = some (.val (rowD (x.map fun q => f * q)), S) := by
  have hc := mLc_mapT (tg := .nm 2) (vs := [2]) (it := iSeq (mVar 0)) (m := mCall F_law_times (aCons (mVar 1) (aCons (mVar 2) aNil))) (ρ := [some (.val (rowD x)), some (.val (fr f)), none]) (S := S) (xs := x) (enc := fr) (out := fun q => fr (f * q)) (by simp [iSeq, mVar, tItems, rowD]) (fun q hq => ⟨_, rfl, fun S => by
    simp [wipeR, mCall, aCons, aNil, mVar, times_ok hf (hx q hq) (by omega)]⟩) (sz40 hl)
  have s2 : mCall fTuple (aCons (mLc (iSeq (mVar 0)) (.nm 2) tYesM (mCall F_law_times (aCons (mVar 1) (aCons (mVar 2) aNil))) [2]) aNil) [some (.val (rowD x)), some (.val (fr f)), none] S = some (.val (rowD (x.map fun q => f * q)), S) := by
    rw [mCall]
    simp only [aCons, aNil]
    rw [hc]
    simp [fTuple, tItems, lItems, rowD, Function.comp_def]
  have := trim_ret (n := 3) (b := b_law_by) (ws := [.val (rowD x), .val (fr f)]) (seq_ret (ret_ok s2))
  rw [List.take_length] at this
  exact this
/-- sums of squares as the law makes them -/
theorem dot_sqs : ∀ (hs : List Rat) (ls : List (List Rat)) (i j : Nat), hs.length = ls.length → dotQ ((ls.zip hs).map fun p => (p.1.map fun q => p.2 * q).getD i 0) (ls.map fun r => r.getD j 0) = sqs (hs.zip ls) i j
  | [], [], _, _, _ => rfl
  | [], _ :: _, _, _, h => by simp at h
  | _ :: _, [], _, _, h => by simp at h
  | h :: hs, l :: ls, i, j, he => by
    have ih := dot_sqs hs ls i j (by simpa using he)
    unfold dotQ at ih ⊢
    simp only [List.zip_cons_cons, List.map_cons, dotR, sqs, ih]
    have e : (l.map fun q => h * q).getD i 0 = h * l.getD i 0 := by
      by_cases hi : i < l.length
      · simp [List.getD, hi]
      · simp [List.getD, List.getElem?_eq_none (Nat.le_of_not_lt hi)]
    rw [e]
theorem of_squares_ok {w1 w2 : W} {hs : List Rat} {ls : List (List Rat)} {n : Nat} (h1 : w1 = .val (.fl (hs.map fr))) (h2 : w2 = .val (.fl (ls.map rowD))) (he : hs.length = ls.length) (hne : ls ≠ []) (hl : ls.length ≤ 5) (hn : n ≤ 5) (hr : ∀ r ∈ ls, r.length = n ∧ ∀ q ∈ r, HB q 20) (hh : ∀ q ∈ hs, HB q 20) (S : Sto) :
    F_law_of_squares [w1, w2] S = some (.val (gridD (tab n n (sqs (hs.zip ls)))), S) := by
  subst h1 h2
  have hc := mLc_mapT (tg := .tp [.nm 2, .nm 3]) (vs := [2, 3]) (it := iZipM (aCons (mVar 1) (aCons (mVar 0) aNil))) (m := mCall F_law_by (aCons (mVar 2) (aCons (mVar 3) aNil))) (ρ := [some (.val (.fl (hs.map fr))), some (.val (.fl (ls.map rowD))), none, none]) (S := S) (xs := ls.zip hs) (enc := fun p => D.tup [rowD p.1, fr p.2]) (out := fun p => rowD (p.1.map fun q => p.2 * q))
    (by rw [← zipD_map]; simp [iZipM, aCons, aNil, mVar, tItems, dItems]) (fun p hp => ⟨_, rfl, fun S => by
      have hm := List.of_mem_zip (show (p.1, p.2) ∈ ls.zip hs from hp)
      have := by_gen (x := p.1) (f := p.2) (k := 20) (j := 20) (hr p.1 hm.1).2 (hh p.2 hm.2) (by decide) (by rw [(hr p.1 hm.1).1]; omega) S
      simp [wipeR, mCall, aCons, aNil, mVar, this]⟩) (sz40 (by rw [List.length_zip]; omega))
  obtain ⟨bs, hbs⟩ : ∃ bs : List (List Rat), bs = (ls.zip hs).map fun p => p.1.map fun q => p.2 * q := ⟨_, rfl⟩
  have hbl : bs.length = ls.length := by rw [hbs, List.length_map, List.length_zip]; omega
  have hbr : ∀ r ∈ bs, r.length = n ∧ ∀ q ∈ r, HB q 40 := fun r hr' => by
    rw [hbs] at hr'
    obtain ⟨p, hp, rfl⟩ := List.mem_map.mp hr'
    have hm := List.of_mem_zip (show (p.1, p.2) ∈ ls.zip hs from hp)
    refine ⟨by rw [List.length_map]; exact (hr p.1 hm.1).1, fun q hq => ?_⟩
    obtain ⟨z, hz, rfl⟩ := List.mem_map.mp hq
    exact hb_mul (hh p.2 hm.2) ((hr p.1 hm.1).2 z hz)
  have hbm : (ls.zip hs).map (fun p => rowD (p.1.map fun q => p.2 * q)) = bs.map rowD := by rw [hbs, List.map_map]; rfl
  rw [hbm] at hc
  have hbne : bs ≠ [] := fun z => hne (by rw [z] at hbl; exact List.eq_nil_of_length_eq_zero hbl.symm)
  have ef := flip_gen (w := .val (.fl (bs.map rowD))) (.inr rfl) (fun r hr' => (hbr r hr').1) hbne (by omega) (by omega) S
  have em := mul_gen (w := .val (.fl (ls.map rowD))) (a := flipQ bs n) (b := ls) (k := 40) (j := 20) (n := n) (p := 5) (.inr rfl) (fun r hr' => ⟨by
      unfold flipQ at hr'
      obtain ⟨i, _, rfl⟩ := List.mem_map.mp hr'
      rw [List.length_map]; omega, flip_mem hbr r hr'⟩) hr hne (by omega) (by decide) (by unfold flipQ; simp; omega) (by omega) S
  have eq : mulQ (flipQ bs n) ls n = tab n n (sqs (hs.zip ls)) := by
    unfold mulQ flipQ tab
    rw [List.map_map]
    apply List.map_congr_left
    intro i _
    show (((List.range n).map fun j => ls.map fun r => r.getD j 0).map fun c => dotQ (bs.map fun r => r.getD i 0) c) = _
    rw [List.map_map]
    apply List.map_congr_left
    intro j _
    show dotQ (bs.map fun r => r.getD i 0) (ls.map fun r => r.getD j 0) = _
    rw [← dot_sqs hs ls i j he, hbs, List.map_map]
    rfl
  rw [eq] at em
  have s2 : mCall F_law_mul (aCons (mCall F_law_flip (aCons (mLc (iZipM (aCons (mVar 1) (aCons (mVar 0) aNil))) (.tp [.nm 2, .nm 3]) tYesM (mCall F_law_by (aCons (mVar 2) (aCons (mVar 3) aNil))) [2, 3]) aNil)) (aCons (mVar 1) aNil)) [some (.val (.fl (hs.map fr))), some (.val (.fl (ls.map rowD))), none, none] S = some (.val (gridD (tab n n (sqs (hs.zip ls)))), S) := by
    simp only [mCall, aCons, aNil] at hc ⊢
    rw [hc]
    simp only [ef, mVar, List.getElem?_cons_zero, List.getElem?_cons_succ, em]
  have := trim_ret (n := 4) (b := b_law_of_squares) (ws := [.val (.fl (hs.map fr)), .val (.fl (ls.map rowD))]) (seq_ret (ret_ok s2))
  rw [List.take_length] at this
  exact this
end Lib

set_option Elab.async false
set_option linter.all false
set_option maxRecDepth 100000
set_option autoImplicit false
set_option maxHeartbeats 4000000
namespace Lib
open PySem PySem.Spec L2 HM
open PyProof.Rows hiding St
/-! ### heights of sums of squares -/
theorem hb_add {p q : Rat} {k j : Nat} (hp : HB p k) (hq : HB q j) : HB (p + q) (k + j + 1) := by
  rw [← add_fr]
  have a := hp.num.mul hq.den
  have b := hq.num.mul hp.den
  exact hb_div (Int.mul_ne_zero (den_ne p) (den_ne q)) (Bits.add a (b.mono (by omega))) ((hp.den.mul hq.den).mono (by omega))
theorem hb_zero : HB 0 1 := ⟨by unfold Bits; decide, by unfold Bits; decide⟩
theorem hb_one1 : HB 1 1 := ⟨by unfold Bits; decide, by unfold Bits; decide⟩
theorem hb_get {r : List Rat} {k : Nat} (h : ∀ q ∈ r, HB q k) (hk : 1 ≤ k) (j : Nat) : HB (r.getD j 0) k := by
  by_cases hj : j < r.length
  · have : r.getD j 0 = r[j] := by simp [List.getD, hj]
    rw [this]
    exact h _ (List.getElem_mem hj)
  · have : r.getD j 0 = 0 := by simp [List.getD, List.getElem?_eq_none (Nat.le_of_not_lt hj)]
    rw [this]
    exact hb_mono hb_zero hk
theorem hb_sqs {k : Nat} (hk : 1 ≤ k) : ∀ {ls : List (Rat × List Rat)}, (∀ p ∈ ls, HB p.1 k ∧ ∀ q ∈ p.2, HB q k) → ∀ i j, HB (sqs ls i j) (ls.length * (3 * k + 1) + 1)
  | [], _, i, j => by
    show HB 0 _
    exact hb_mono hb_zero (by simp)
  | (h, l) :: r, hz, i, j => by
    obtain ⟨a, b⟩ := hz (h, l) List.mem_cons_self
    have ih := hb_sqs hk (fun p hp => hz p (List.mem_cons_of_mem _ hp)) i j
    have t := hb_mul (hb_mul a (hb_get b hk i)) (hb_get b hk j)
    have u := hb_add t ih
    refine hb_mono u ?_
    simp only [List.length_cons, Nat.add_mul, Nat.one_mul]
    omega
/-- a stair's row: 0 ahead of its place, 1 at it -/
structure StairRow (n i : Nat) (p : Rat × List Rat) : Prop where
  pos : 0 < p.1
  hb : HB p.1 20
  len : p.2.length = n
  all : ∀ q ∈ p.2, HB q 20
  one : p.2.getD i 0 = 1
  ahead : ∀ j, j < i → p.2.getD j 0 = 0
theorem stair_of {n : Nat} : ∀ {ls : List (Rat × List Rat)} {k : Nat}, (∀ (i : Nat) p, ls[i]? = some p → StairRow n (k + i) p) → Stair k ls
  | [], _, _ => trivial
  | (h, l) :: r, k, z => by
    have z0 := z 0 (h, l) rfl
    refine ⟨z0.pos, z0.one, fun p hp => ?_, stair_of fun i p e => by
      have := z (i + 1) p e
      rwa [show k + (i + 1) = k + 1 + i by omega] at this⟩
    obtain ⟨i, hi⟩ := List.getElem?_of_mem hp
    exact (z (i + 1) p hi).ahead k (by omega)
theorem allSm_of {n : Nat} : ∀ {ls : List (Rat × List Rat)} {k : Nat}, ls.length ≤ 50 → (∀ p ∈ ls, HB p.1 20 ∧ ∀ q ∈ p.2, HB q 20) → AllSm n k ls
  | [], _, _, _ => trivial
  | (h, l) :: r, k, hl, z => by
    obtain ⟨a, b⟩ := z (h, l) List.mem_cons_self
    have hl' : r.length + 1 ≤ 50 := by simpa using hl
    refine ⟨⟨hb_mono a (by decide), fun j _ => hb_mono (hb_get b (by decide) j) (by decide), fun j _ => hb_mono (hb_mul a (hb_get b (by decide) j)) (by decide), fun i j _ _ => hb_mono (hb_sqs (by decide) z i j) ?_, fun i j _ _ => hb_mono (hb_sqs (by decide) (fun p hp => z p (List.mem_cons_of_mem _ hp)) i j) ?_⟩, allSm_of (by omega) fun p hp => z p (List.mem_cons_of_mem _ hp)⟩
    · simp only [List.length_cons]; omega
    · omega
/-! ### a drawn positive table -/
def stairM : EM := mBin fPlus (mBin fPlus (mBin fMulX (mTup (aCons (mTup (aCons (mC (.int 0)) (aCons (mC (.int 1)) aNil))) aNil)) (mVar 4)) (mTup (aCons (mTup (aCons (mC (.int 1)) (aCons (mC (.int 1)) aNil))) aNil))) (mCall F_law_line (aCons (mVar 0) (aCons (mBin fSub (mBin fSub (mVar 1) (mC (.int 1))) (mVar 4)) aNil)))
def heightM : EM := mCall F_law_frac (aCons (mBin fPlus (mC (.int 1)) (mCall F_law_take (aCons (mVar 0) (aCons (mC (.int 4)) aNil)))) (aCons (mBin fPlus (mC (.int 1)) (mCall F_law_take (aCons (mVar 0) (aCons (mC (.int 2)) aNil)))) aNil))
theorem repl_one : ∀ i : Nat, (List.replicate i [D.tup [.int 0, .int 1]]).flatten = (List.replicate i (0 : Rat)).map fr
  | 0 => rfl
  | i + 1 => by
    rw [List.replicate_succ, List.replicate_succ, List.flatten_cons, repl_one i]
    rfl
theorem stair_draw {l n i : Nat} {S : Sto} {U : List D} {N : Int} {w2 w3 : Option W} (hi : i < n) (hn : n ≤ 5) (hU : S[l]? = some (some U)) (h : UrnOk N U) (hN : N ≤ 800000) :
    ∃ (row : List Rat) (U' : List D), stairM [some (.loc l), some (.val (.int (n : Int))), w2, w3, some (.val (.int (i : Int)))] S = some (.val (rowD row), S.set l (some U')) ∧ row.length = n ∧ (∀ q ∈ row, HB q 20) ∧ row.getD i 0 = 1 ∧ (∀ j, j < i → row.getD j 0 = 0) ∧ UrnOk (N + 15) U' := by
  obtain ⟨qs, U', e, c1, c2, c3⟩ := line_ok (k := n - 1 - i) hU h (by omega) (by omega)
  have ek : ((n : Int) - 1 - (i : Int)) = ((n - 1 - i : Nat) : Int) := by omega
  refine ⟨List.replicate i 0 ++ ([1] ++ qs), U', ?_, by simp [c1]; omega, fun q hq => ?_, ?_, fun j hj => ?_, c3.mono (by omega)⟩
  · have sl : (1 : Nat) ≤ sizeLine := by rw [sizeLine_eq]; decide
    have sl2 : (2 : Nat) ≤ sizeLine := by rw [sizeLine_eq]; decide
    have ez : mTup (aCons (mTup (aCons (mC (.int 0)) (aCons (mC (.int 1)) aNil))) aNil) [some (.loc l), some (.val (.int (n : Int))), w2, w3, some (.val (.int (i : Int)))] S = some (.val (.tup [.tup [.int 0, .int 1]]), S) := by
      simp [mTup, aCons, aNil, mC, vals?, sl, sl2]
    have eo : mTup (aCons (mTup (aCons (mC (.int 1)) (aCons (mC (.int 1)) aNil))) aNil) [some (.loc l), some (.val (.int (n : Int))), w2, w3, some (.val (.int (i : Int)))] S = some (.val (.tup [.tup [.int 1, .int 1]]), S) := by
      simp [mTup, aCons, aNil, mC, vals?, sl, sl2]
    have em : fMulX (.val (.tup [.tup [.int 0, .int 1]])) (.val (.int (i : Int))) S = some (.val (.tup ((List.replicate i (0 : Rat)).map fr)), S) := by
      have d1 : decide (-1000 ≤ (i : Int)) = true := decide_eq_true (by omega)
      have d2 : decide ((i : Int) ≤ 1000) = true := decide_eq_true (by omega)
      by_cases h1 : i = 1
      · subst h1
        simp [fMulX, fMul, fI, fRepA]
        rfl
      · have h1' : ((i : Int) == 1) = false := by simpa using (show ¬ ((i : Int) = 1) by omega)
        have er : repL [D.tup [.int 0, .int 1]] (i : Int) = (List.replicate i (0 : Rat)).map fr := by
          rw [← repl_one]
          unfold repL
          simp
        simp [fMulX, fMul, fI, fRepA, d1, d2, h1', er]
    have ln : ((List.replicate i (0 : Rat)).map fr).length = i := by simp
    have sz1 : i + 1 ≤ sizeLine := by rw [sizeLine_eq]; omega
    have sz2 : i + 1 + qs.length ≤ sizeLine := by rw [sizeLine_eq, c1]; omega
    have p1 : fPlus (.val (.tup ((List.replicate i (0 : Rat)).map fr))) (.val (.tup [.tup [.int 1, .int 1]])) S = some (.val (.tup ((List.replicate i (0 : Rat)).map fr ++ [.tup [.int 1, .int 1]])), S) := by
      simp [fPlus, fAdd, fI, fCatT, tItems, sz1]
    have p2 : ∀ S, fPlus (.val (.tup ((List.replicate i (0 : Rat)).map fr ++ [.tup [.int 1, .int 1]]))) (.val (rowD qs)) S = some (.val (rowD (List.replicate i 0 ++ ([1] ++ qs))), S) := fun S => by
      have o : fr 1 = D.tup [.int 1, .int 1] := rfl
      simp [fPlus, fAdd, fI, fCatT, tItems, rowD, sz2, o]
    have el : mCall F_law_line (aCons (mVar 0) (aCons (mBin fSub (mBin fSub (mVar 1) (mC (.int 1))) (mVar 4)) aNil)) [some (.loc l), some (.val (.int (n : Int))), w2, w3, some (.val (.int (i : Int)))] S = some (.val (rowD qs), S.set l (some U')) := by
      simp only [mCall, aCons, aNil, mBin, mVar, mC, List.getElem?_cons_zero, List.getElem?_cons_succ, fSub, fI, if_true, ek, e]
    unfold stairM
    rw [mBin, mBin, mBin]
    simp only [ez, eo, mVar, List.getElem?_cons_zero, List.getElem?_cons_succ, em, p1, el, p2]
  · rcases List.mem_append.mp hq with z | z
    · rw [List.eq_of_mem_replicate z]; exact hb_mono hb_zero (by decide)
    · rcases List.mem_append.mp z with z | z
      · simp at z; subst z; exact hb_mono hb_one1 (by decide)
      · exact c2 q z
  · simp [List.getD]
  · simp [List.getD, List.getElem?_append_left, hj]
theorem height_draw {l : Nat} {S : Sto} {U : List D} {N : Int} {w1 w2 w3 w4 : Option W} (hU : S[l]? = some (some U)) (h : UrnOk N U) (hN : N ≤ 800000) :
    ∃ (q : Rat) (U' : List D), heightM [some (.loc l), w1, w2, w3, w4] S = some (.val (fr q), S.set l (some U')) ∧ 0 < q ∧ HB q 20 ∧ UrnOk (N + 2) U' := by
  obtain ⟨a, U1, e1, ⟨a0, a1⟩, hU1⟩ := take_ok (lim := 4) hU h (by omega) (by decide) (by decide)
  obtain ⟨b, U2, e2, ⟨b0, b1⟩, hU2⟩ := take_ok (lim := 2) (S := S.set l (some U1)) (set_at hU) hU1 (by omega) (by decide) (by decide)
  have bb : Bits (1 + b) 20 := by unfold Bits; omega
  have ba : Bits (1 + a) 20 := by unfold Bits; omega
  have ef := frac_ok (a := 1 + a) (b := 1 + b) (k := 20) (by omega) bb (by decide) ((S.set l (some U1)).set l (some U2))
  refine ⟨Rat.divInt (1 + a) (1 + b), U2, ?_, ?_, hb_div (by omega) ba bb, hU2.mono (by omega)⟩
  · unfold heightM
    simp only [mCall, aCons, aNil, mBin, mVar, mC, List.getElem?_cons_zero, e1, e2, fPlus, fAdd, fI, if_true, Option.orElse, ef]
    rw [List.set_set]
  · rw [Rat.divInt_eq_div]
    have h1 : (0 : Rat) < ((1 + a : Int) : Rat) := Rat.intCast_pos.mpr (by omega)
    have h2 : (0 : Rat) < ((1 + b : Int) : Rat) := Rat.intCast_pos.mpr (by omega)
    rw [Rat.div_def]
    exact Rat.mul_pos h1 (Rat.inv_pos.mpr h2)
end Lib

set_option Elab.async false
set_option linter.all false
set_option maxRecDepth 100000
set_option autoImplicit false
set_option maxHeartbeats 4000000
namespace Lib
open PySem PySem.Spec L2 HM
open PyProof.Rows hiding St
theorem app_expr {c : Nat} {m : EM} {ρ : Rho} {S S1 : Sto} {acc : List D} {d : D} {L : Nat} (hc : ρ[c]? = some (some (.loc L))) (hS : S[L]? = some (some acc)) (hm : m ρ S = some (.val d, S1)) (hS1 : S1[L]? = some (some acc)) (hl : acc.length < 5000) :
    sExpr (mMeth mappend (mVar c) (aCons m aNil)) ρ S = some (.nx, ρ, S1.set L (some (acc ++ [d]))) := by
  have sl : acc.length < sizeLine := by rw [sizeLine_eq]; omega
  simp [sExpr, mMeth, mVar, hc, cellOf?, hS, aCons, aNil, hm, mappend, hS1, sl]
def app2B (c1 c2 : Nat) (m1 m2 : EM) : SM := sSeq (sExpr (mMeth mappend (mVar c1) (aCons m1 aNil))) (sSeq (sExpr (mMeth mappend (mVar c2) (aCons m2 aNil))) sNx)
theorem app2_loop {α β : Type} {enc : α → D} {enc2 : β → D} {P : Nat → α → β → Prop} {m1 m2 : EM} {c1 c2 t l : Nat} {k n : Int} {ρ0 : Rho} {S : Sto} {U : List D} (js : List D) (hc1 : ρ0[c1]? = some (some (.loc S.length))) (hc2 : ρ0[c2]? = some (some (.loc (S.length + 1)))) (ht1 : t ≠ c1) (ht2 : t ≠ c2) (hU : S[l]? = some (some U)) (hUn : UrnOk n U) (hjs : js.length ≤ 1000)
    (hm : ∀ (i : Nat) (d : D) (S : Sto) (U : List D), js[i]? = some d → S[l]? = some (some U) → UrnOk (n + (i : Int) * k) U → ∃ x U1, m1 (ρ0.set t (some (.val d))) S = some (.val (enc x), S.set l (some U1)) ∧
      ∀ S, S[l]? = some (some U1) → ∃ y U2, m2 (ρ0.set t (some (.val d))) S = some (.val (enc2 y), S.set l (some U2)) ∧ P i x y ∧ UrnOk (n + ((i : Int) + 1) * k) U2) :
    ∃ (xs : List α) (ys : List β) (U' : List D) (ρ' : Rho), forL (.nm t) (app2B c1 c2 m1 m2) js ρ0 (S ++ [some [], some []]) = some (.nx, ρ', S.set l (some U') ++ [some (xs.map enc), some (ys.map enc2)]) ∧ xs.length = js.length ∧ ys.length = js.length ∧ (∀ i x y, xs[i]? = some x → ys[i]? = some y → P i x y) ∧ UrnOk (n + (js.length : Int) * k) U' ∧ (ρ' = ρ0 ∨ ∃ w, ρ' = ρ0.set t w) := by
  have hlt : l < S.length := (List.getElem?_eq_some_iff.mp hU).1
  obtain ⟨ρ', S', e, hρ, xs, ys, U', rfl, h1, h1', h2, h3⟩ := forL_inv (tg := .nm t) (b := app2B c1 c2 m1 m2) (fun i ρ S' => (ρ = ρ0 ∨ ∃ w, ρ = ρ0.set t w) ∧ ∃ (xs : List α) (ys : List β) (U' : List D), S' = S.set l (some U') ++ [some (xs.map enc), some (ys.map enc2)] ∧ xs.length = i ∧ ys.length = i ∧ (∀ i x y, xs[i]? = some x → ys[i]? = some y → P i x y) ∧ UrnOk (n + (i : Int) * k) U')
    js 0 ρ0 (S ++ [some [], some []]) ⟨.inl rfl, [], [], U, by rw [set_same hU]; rfl, rfl, rfl, fun i x y h => by simp at h, by simpa using hUn⟩ (fun i d ρ S' hd hi => by
      obtain ⟨hρ, xs, ys, U', rfl, h1, h1', h2, h3⟩ := hi
      rw [Nat.zero_add] at h1 h1' h3
      have er : ρ.set t (some (.val d)) = ρ0.set t (some (.val d)) := by
        rcases hρ with rfl | ⟨w, rfl⟩
        · rfl
        · rw [List.set_set]
      have hil : i < js.length := (List.getElem?_eq_some_iff.mp hd).1
      have gl : ∀ (V : Option (List D)) (A B : Option (List D)), (S.set l V ++ [A, B])[l]? = some V := fun V A B => by
        rw [List.getElem?_append_left (by rw [List.length_set]; exact hlt)]
        exact List.getElem?_set_self hlt
      have sl : ∀ (V W' A B : Option (List D)), (S.set l V ++ [A, B]).set l W' = S.set l W' ++ [A, B] := fun V W' A B => by
        rw [List.set_append_left _ _ (by rw [List.length_set]; exact hlt), List.set_set]
      have gA : ∀ (V A B : Option (List D)), (S.set l V ++ [A, B])[S.length]? = some A := fun V A B => by
        rw [List.getElem?_append_right (by simp)]
        simp
      have gB : ∀ (V A B : Option (List D)), (S.set l V ++ [A, B])[S.length + 1]? = some B := fun V A B => by
        rw [List.getElem?_append_right (by simp)]
        simp
      have sA : ∀ (V A B A' : Option (List D)), (S.set l V ++ [A, B]).set S.length A' = S.set l V ++ [A', B] := fun V A B A' => by
        rw [List.set_append_right _ _ (by simp)]
        simp
      have sB : ∀ (V A B B' : Option (List D)), (S.set l V ++ [A, B]).set (S.length + 1) B' = S.set l V ++ [A, B'] := fun V A B B' => by
        rw [List.set_append_right _ _ (by simp)]
        simp
      obtain ⟨x, U1, em1, hU1⟩ := hm i d (S.set l (some U') ++ [some (xs.map enc), some (ys.map enc2)]) U' hd (gl _ _ _) h3
      rw [sl] at em1
      have hc1' : (ρ0.set t (some (.val d)))[c1]? = some (some (.loc S.length)) := by rw [List.getElem?_set_ne ht1]; exact hc1
      have hc2' : (ρ0.set t (some (.val d)))[c2]? = some (some (.loc (S.length + 1))) := by rw [List.getElem?_set_ne ht2]; exact hc2
      have a1 := app_expr (acc := xs.map enc) hc1' (gA _ _ _) em1 (gA _ _ _) (by rw [List.length_map, h1]; omega)
      rw [sA] at a1
      obtain ⟨y, U2, em2, px, hU2⟩ := hU1 (S.set l (some U1) ++ [some (xs.map enc ++ [enc x]), some (ys.map enc2)]) (gl _ _ _)
      rw [sl] at em2
      have a2 := app_expr (acc := ys.map enc2) hc2' (gB _ _ _) em2 (gB _ _ _) (by rw [List.length_map, h1']; omega)
      rw [sB] at a2
      have run : app2B c1 c2 m1 m2 (ρ0.set t (some (.val d))) (S.set l (some U') ++ [some (xs.map enc), some (ys.map enc2)]) = some (.nx, ρ0.set t (some (.val d)), S.set l (some U2) ++ [some (xs.map enc ++ [enc x]), some (ys.map enc2 ++ [enc2 y])]) :=
        (seq_nx a1).trans ((seq_nx a2).trans rfl)
      have e3 : S.set l (some U2) ++ [some (xs.map enc ++ [enc x]), some (ys.map enc2 ++ [enc2 y])] = S.set l (some U2) ++ [some ((xs ++ [x]).map enc), some ((ys ++ [y]).map enc2)] := by simp
      rw [e3] at run
      refine ⟨_, _, _, rfl, by rw [er]; exact run, .inr ⟨_, rfl⟩, xs ++ [x], ys ++ [y], U2, rfl, by simp [h1], by simp [h1'], fun j x' y' hx hy => ?_, ?_⟩
      · by_cases hj : j < i
        · rw [List.getElem?_append_left (by omega)] at hx hy; exact h2 j x' y' hx hy
        · have hji : j = i := by
            have := (List.getElem?_eq_some_iff.mp hx).1
            simp at this
            omega
          subst hji
          rw [List.getElem?_append_right (by omega), h1] at hx
          rw [List.getElem?_append_right (by omega), h1'] at hy
          simp at hx hy
          subst hx hy
          exact px
      · have : ((0 + i + 1 : Nat) : Int) = (i : Int) + 1 := by omega
        rw [this]
        exact hU2)
  rw [Nat.zero_add] at h1 h1' h3
  exact ⟨xs, ys, U', ρ', e, h1, h1', h2, h3, hρ⟩
theorem two_cells {i j : Nat} {ρ : Rho} (S : Sto) : sPar i j (aCons (mCell aNil) (aCons (mCell aNil) aNil)) ρ S = some (.nx, (ρ.set i (some (.loc S.length))).set j (some (.loc (S.length + 1))), S ++ [some [], some []]) := by
  have z : (0 : Nat) ≤ sizeLine := Nat.zero_le _
  simp [sPar, aCons, aNil, mCell, vals?, z]
theorem freeze_ok {i L : Nat} {ρ : Rho} {S : Sto} {ds : List D} (hi : ρ[i]? = some (some (.loc L))) (hS : S[L]? = some (some ds)) : mFreeze (mVar i) ρ S = some (.val (.fl ds), S.set L none) := by
  simp [mFreeze, mVar, hi, hS]
theorem table_ok {l n : Nat} {S : Sto} {U : List D} {N : Int} (hS : S[l]? = some (some U)) (h : UrnOk N U) (hn : 0 < n ∧ n ≤ 5) (hN : N ≤ 700000) :
    ∃ (ls : List (Rat × List Rat)) (U' : List D), F_law_table [.loc l, .val (.int (n : Int))] S = some (.val (gridD (tab n n (sqs ls))), S.set l (some U')) ∧ ls.length = n ∧ (∀ (i : Nat) p, ls[i]? = some p → StairRow n i p) ∧ UrnOk (N + 100) U' := by
  obtain ⟨rows, hs, U', ρ', e, r1, r2, r3, r4, hρ⟩ := app2_loop (enc := rowD) (enc2 := fr) (P := fun i row q => StairRow n i (q, row)) (m1 := stairM) (m2 := heightM) (c1 := 2) (c2 := 3) (t := 4) (l := l) (k := 20) (n := N) (ρ0 := [some (.loc l), some (.val (.int (n : Int))), some (.loc S.length), some (.loc (S.length + 1)), none]) (S := S) (U := U) (upFrom 0 n) rfl rfl (by decide) (by decide) hS h (by rw [upFrom_length]; omega) (fun i d S U hd hS hU => by
    obtain ⟨hi, rfl⟩ := up_get hd
    obtain ⟨row, U1, e1, a1, a2, a3, a4, a5⟩ := stair_draw (l := l) (n := n) (i := i) (w2 := _) (w3 := _) hi hn.2 hS hU (by omega)
    refine ⟨row, U1, e1, fun S hS => ?_⟩
    obtain ⟨q, U2, e2, b1, b2, b3⟩ := height_draw (l := l) (w1 := _) (w2 := _) (w3 := _) (w4 := _) hS a5 (by omega)
    exact ⟨q, U2, e2, ⟨b1, b2, a1, a2, a3, a4⟩, b3.mono (by omega)⟩)
  rw [upFrom_length] at r1 r2 r4
  have hz : (hs.zip rows).length = n := by rw [List.length_zip, r1, r2]; omega
  have hst : ∀ (i : Nat) p, (hs.zip rows)[i]? = some p → StairRow n i p := fun i p hp => by
    rw [List.getElem?_zip_eq_some] at hp
    exact r3 i p.2 p.1 hp.2 hp.1
  have hmem : ∀ r ∈ rows, r.length = n ∧ ∀ q ∈ r, HB q 20 := fun r hr => by
    obtain ⟨i, hi⟩ := List.getElem?_of_mem hr
    have hil : i < rows.length := (List.getElem?_eq_some_iff.mp hi).1
    have s := r3 i r hs[i] hi (List.getElem?_eq_getElem (by omega))
    exact ⟨s.len, s.all⟩
  have hmem2 : ∀ q ∈ hs, HB q 20 := fun q hq => by
    obtain ⟨i, hi⟩ := List.getElem?_of_mem hq
    have hil : i < hs.length := (List.getElem?_eq_some_iff.mp hi).1
    exact (r3 i rows[i] q (List.getElem?_eq_getElem (by omega)) hi).hb
  refine ⟨hs.zip rows, U', ?_, hz, hst, r4.mono (by omega)⟩
  have hlt : l < S.length := (List.getElem?_eq_some_iff.mp hS).1
  have c2 : ρ'[2]? = some (some (.loc S.length)) := by rcases hρ with rfl | ⟨w, rfl⟩ <;> rfl
  have c3 : ρ'[3]? = some (some (.loc (S.length + 1))) := by rcases hρ with rfl | ⟨w, rfl⟩ <;> rfl
  have z1 := freeze_ok (i := 3) (ρ := ρ') (S := S.set l (some U') ++ [some (rows.map rowD), some (hs.map fr)]) (ds := hs.map fr) c3 (by rw [List.getElem?_append_right (by simp)]; simp)
  have e2 : (S.set l (some U') ++ [some (rows.map rowD), some (hs.map fr)]).set (S.length + 1) none = S.set l (some U') ++ [some (rows.map rowD), none] := by
    rw [List.set_append_right _ _ (by simp)]; simp
  rw [e2] at z1
  have z2 := freeze_ok (i := 2) (ρ := ρ') (S := S.set l (some U') ++ [some (rows.map rowD), none]) (ds := rows.map rowD) c2 (by rw [List.getElem?_append_right (by simp)]; simp)
  have e3 : (S.set l (some U') ++ [some (rows.map rowD), none]).set S.length none = S.set l (some U') ++ [none, none] := by
    rw [List.set_append_right _ _ (by simp)]; simp
  rw [e3] at z2
  have hne : rows ≠ [] := fun z => by rw [z] at r1; simp at r1; omega
  have os := of_squares_ok (n := n) (hs := hs) (ls := rows) rfl rfl (by omega) hne (by omega) hn.2 hmem hmem2 (S.set l (some U') ++ [none, none])
  have s3 : mCall F_law_of_squares (aCons (mFreeze (mVar 3)) (aCons (mFreeze (mVar 2)) aNil)) ρ' (S.set l (some U') ++ [some (rows.map rowD), some (hs.map fr)]) = some (.val (gridD (tab n n (sqs (hs.zip rows)))), S.set l (some U') ++ [none, none]) := by
    simp only [mCall, aCons, aNil, z1, z2, os]
  have s2 := range_ok (k := n) (e := mVar 1) (ρ := [some (.loc l), some (.val (.int (n : Int))), some (.loc S.length), some (.loc (S.length + 1)), none]) (S := S ++ [some [], some []]) (S1 := S ++ [some [], some []]) rfl (by omega)
  have s1 := two_cells (i := 2) (j := 3) (ρ := [some (.loc l), some (.val (.int (n : Int))), none, none, none]) S
  have run := (seq_nx (b := sSeq (sFor (iRange1 (aCons (mVar 1) aNil)) (.nm 4) (app2B 2 3 stairM heightM)) (sSeq (sRet (mCall F_law_of_squares (aCons (mFreeze (mVar 3)) (aCons (mFreeze (mVar 2)) aNil)))) sNx)) s1).trans ((seq_nx (for_ok s2 e)).trans (seq_ret (ret_ok s3)))
  have := trim_ret (n := 5) (b := b_law_table) (ws := [.loc l, .val (.int (n : Int))]) run
  have tk : List.take S.length (S.set l (some U') ++ [none, none]) = S.set l (some U') := by
    rw [List.take_append_of_le_length (by simp)]
    exact set_take
  rw [tk] at this
  exact this
end Lib

set_option Elab.async false
set_option linter.all false
set_option maxRecDepth 100000
set_option autoImplicit false
set_option maxHeartbeats 4000000
namespace HM
open PySem PySem.Spec L2
open PyProof.Rows hiding St
theorem lcV_map {α : Type} {c l : Nat} {tg : Tg} {m : EM} {ρ0 : Rho} {enc out : α → D} (xs : List α) (h : ∀ d ∈ xs, ∃ ρ1, bindT tg (.val (enc d)) ρ0 = some ρ1 ∧ ∀ S, m ρ1 S = some (.val (out d), S)) (hcl : c ≠ l) :
    ∀ (fuel i : Nat) (S : Sto) (acc : List D), S[c]? = some (some (xs.map enc)) → S[l]? = some (some acc) → i ≤ xs.length → xs.length - i < fuel → acc.length + (xs.length - i) ≤ sizeLine → lcV tg tYesM m ρ0 l c fuel i S = some (S.set l (some (acc ++ (xs.drop i).map out)))
  | 0, i, S, acc, _, _, _, hf, _ => absurd hf (by omega)
  | fuel + 1, i, S, acc, hS, hl, hi, hf, hz => by
    by_cases hlt : i < xs.length
    · obtain ⟨ρ1, b1, e⟩ := h xs[i] (List.getElem_mem hlt)
      have g : (xs.map enc)[i]? = some (enc xs[i]) := by simp [hlt]
      have hll : l < S.length := (List.getElem?_eq_some_iff.mp hl).1
      have ih := lcV_map xs h hcl fuel (i + 1) (S.set l (some (acc ++ [out xs[i]]))) (acc ++ [out xs[i]]) (by rw [List.getElem?_set_ne (Ne.symm hcl)]; exact hS) (List.getElem?_set_self hll) hlt (by omega) (by simp; omega)
      simp only [lcV, hS, Option.getD_some, g, b1, tYesM, e, hl]
      rw [if_pos (by omega), ih, List.set_set, List.drop_eq_getElem_cons hlt, List.map_cons, List.append_assoc]
      rfl
    · have hie : i = xs.length := by omega
      subst hie
      have g : (xs.map enc)[xs.length]? = none := by simp
      simp only [lcV, hS, Option.getD_some, g, List.drop_length, List.map_nil, List.append_nil]
      rw [set_same hl]
theorem mLcV_map {α : Type} {c i : Nat} {tg : Tg} {m : EM} {vs : List Nat} {ρ : Rho} {S : Sto} {xs : List α} {enc out : α → D} (hi : ρ[i]? = some (some (.loc c))) (hS : S[c]? = some (some (xs.map enc))) (h : ∀ d ∈ xs, ∃ ρ1, bindT tg (.val (enc d)) (wipeR ρ vs) = some ρ1 ∧ ∀ S, m ρ1 S = some (.val (out d), S)) (hl : xs.length ≤ sizeLine) : mLcV (mVar i) tg tYesM m vs ρ S = some (.val (.fl (xs.map out)), S) := by
  have hcl : c < S.length := (List.getElem?_eq_some_iff.mp hS).1
  have e := lcV_map (c := c) (l := S.length) xs h (by omega) ((xs.map enc).length + 1) 0 (S ++ [some []]) [] (by rw [List.getElem?_append_left hcl]; exact hS) (by simp) (Nat.zero_le _) (by simp) (by simpa using hl)
  unfold mLcV
  simp only [mVar, hi, hS, Option.getD_some, e, List.drop_zero, List.nil_append]
  rw [List.getElem?_set_self (by simp)]
  simp
end HM
namespace Lib
open PySem PySem.Spec L2 HM
open PyProof.Rows hiding St
/-! ### a drawn form -/
def flR (x : List Rat) : D := .fl (x.map fr)
theorem flR_at {x : List Rat} {k : Nat} (hk : k < x.length) (S : Sto) : fIx (.val (flR x)) (.val (.int (k : Int))) S = some (.val (fr (x.getD k 0)), S) := by
  have e : L2.atI (x.map fr) (k : Int) = some (fr (x.getD k 0)) := atI_nat (by rw [List.getElem?_map, List.getElem?_eq_getElem hk]; simp [List.getD, hk])
  simp [-List.getD_eq_getElem?_getD, fIx, flR, tItems, lItems, e]
theorem tab_of {xs : List (List Rat)} {n : Nat} (h : xs.length = n) (hr : ∀ r ∈ xs, r.length = n) : xs = tab n n fun i j => (xs.getD i []).getD j 0 := by
  apply List.ext_getElem?
  intro i
  unfold tab
  by_cases hi : i < n
  · have hi' : i < xs.length := by omega
    rw [List.getElem?_eq_getElem hi', List.getElem?_map, List.getElem?_range hi]
    simp only [Option.map_some, Option.some.injEq]
    apply List.ext_getElem?
    intro j
    have hl := hr xs[i] (List.getElem_mem hi')
    have eg : xs.getD i [] = xs[i] := by simp [List.getD, hi']
    rw [eg]
    by_cases hj : j < n
    · have hj' : j < xs[i].length := by omega
      rw [List.getElem?_eq_getElem hj', List.getElem?_map, List.getElem?_range hj]
      simp [List.getD, hj']
    · rw [List.getElem?_eq_none (by omega), List.getElem?_eq_none (by simp; omega)]
  · rw [List.getElem?_eq_none (by omega), List.getElem?_eq_none (by simp; omega)]
def symB : SM := sSeq (sExpr (mMeth mappend (mVar 2) (aCons (mBin fPlus (mLcV (mVar 2) (.nm 7) tYesM (mBin fIx (mVar 7) (mVar 3)) [7]) (mCall fList (aCons (mCall F_law_line (aCons (mVar 0) (aCons (mBin fSub (mVar 1) (mVar 3)) aNil))) aNil))) aNil))) sNx
structure SymRows (n i : Nat) (xs : List (List Rat)) : Prop where
  len : xs.length = i
  row : ∀ r ∈ xs, r.length = n ∧ ∀ q ∈ r, HB q 20
  sym : ∀ a b, b < a → a < i → (xs.getD a []).getD b 0 = (xs.getD b []).getD a 0
theorem sym_draw {l n : Nat} {S : Sto} {U : List D} {N : Int} (hU : S[l]? = some (some U)) (h : UrnOk N U) (hn : 0 < n ∧ n ≤ 4) (hN : N ≤ 600000) :
    ∃ (xs : List (List Rat)) (U' : List D) (ρ' : Rho), forL (.nm 3) symB (upFrom 0 n) [some (.loc l), some (.val (.int (n : Int))), some (.loc S.length), none, none, none, none, none] (S ++ [some []]) = some (.nx, ρ', S.set l (some U') ++ [some (xs.map flR)]) ∧ SymRows n n xs ∧ UrnOk (N + (n : Int) * 12) U' ∧ (ρ' = [some (.loc l), some (.val (.int (n : Int))), some (.loc S.length), none, none, none, none, none] ∨ ∃ w, ρ' = [some (.loc l), some (.val (.int (n : Int))), some (.loc S.length), w, none, none, none, none]) := by
  have hlt : l < S.length := (List.getElem?_eq_some_iff.mp hU).1
  obtain ⟨ρ', S', e, hρ, xs, U', rfl, h1, h3⟩ := forL_inv (tg := .nm 3) (b := symB) (fun i ρ S' => (∃ w, ρ = [some (.loc l), some (.val (.int (n : Int))), some (.loc S.length), w, none, none, none, none]) ∧ ∃ (xs : List (List Rat)) (U' : List D), S' = S.set l (some U') ++ [some (xs.map flR)] ∧ SymRows n i xs ∧ UrnOk (N + (i : Int) * 12) U')
    (upFrom 0 n) 0 [some (.loc l), some (.val (.int (n : Int))), some (.loc S.length), none, none, none, none, none] (S ++ [some []]) ⟨⟨_, rfl⟩, [], U, by rw [set_same hU]; rfl, ⟨rfl, fun r h => by simp at h, fun a b _ h => by omega⟩, by simpa using h⟩ (fun i d ρ S' hd hi => by
      obtain ⟨⟨w3, rfl⟩, xs, U', rfl, sr, h3⟩ := hi
      rw [Nat.zero_add] at sr h3
      obtain ⟨hin, rfl⟩ := up_get hd
      have gl : ∀ (V A : Option (List D)), (S.set l V ++ [A])[l]? = some V := fun V A => by
        rw [List.getElem?_append_left (by rw [List.length_set]; exact hlt)]
        exact List.getElem?_set_self hlt
      have sl : ∀ (V W' A : Option (List D)), (S.set l V ++ [A]).set l W' = S.set l W' ++ [A] := fun V W' A => by
        rw [List.set_append_left _ _ (by rw [List.length_set]; exact hlt), List.set_set]
      have gA : ∀ (V A : Option (List D)), (S.set l V ++ [A])[S.length]? = some A := fun V A => by
        rw [List.getElem?_append_right (by simp)]
        simp
      have sA : ∀ (V A A' : Option (List D)), (S.set l V ++ [A]).set S.length A' = S.set l V ++ [A'] := fun V A A' => by
        rw [List.set_append_right _ _ (by simp)]
        simp
      have hx : xs.length = i := sr.len
      have lc := mLcV_map (c := S.length) (i := 2) (tg := .nm 7) (m := mBin fIx (mVar 7) (mVar 3)) (vs := [7]) (ρ := [some (.loc l), some (.val (.int (n : Int))), some (.loc S.length), some (.val (.int (i : Int))), none, none, none, none]) (S := S.set l (some U') ++ [some (xs.map flR)]) (xs := xs) (enc := flR) (out := fun r => fr (r.getD i 0)) rfl (gA _ _) (fun r hr => ⟨_, rfl, fun S => by
        have := flR_at (x := r) (k := i) (by rw [(sr.row r hr).1]; exact hin) S
        simp [-List.getD_eq_getElem?_getD, wipeR, mBin, mVar, this]⟩) (sz40 (by omega))
      obtain ⟨qs, U2, el, c1, c2, c3⟩ := line_ok (k := n - i) (gl (some U') (some (xs.map flR))) h3 (by omega) (by omega)
      rw [sl] at el
      have ek : ((n : Int) - (i : Int)) = ((n - i : Nat) : Int) := by omega
      obtain ⟨row, hrow⟩ : ∃ row : List Rat, row = xs.map (fun r => r.getD i 0) ++ qs := ⟨_, rfl⟩
      have em : mBin fPlus (mLcV (mVar 2) (.nm 7) tYesM (mBin fIx (mVar 7) (mVar 3)) [7]) (mCall fList (aCons (mCall F_law_line (aCons (mVar 0) (aCons (mBin fSub (mVar 1) (mVar 3)) aNil))) aNil)) [some (.loc l), some (.val (.int (n : Int))), some (.loc S.length), some (.val (.int (i : Int))), none, none, none, none] (S.set l (some U') ++ [some (xs.map flR)]) = some (.val (flR row), S.set l (some U2) ++ [some (xs.map flR)]) := by
        have e2 : mCall fList (aCons (mCall F_law_line (aCons (mVar 0) (aCons (mBin fSub (mVar 1) (mVar 3)) aNil))) aNil) [some (.loc l), some (.val (.int (n : Int))), some (.loc S.length), some (.val (.int (i : Int))), none, none, none, none] (S.set l (some U') ++ [some (xs.map flR)]) = some (.val (flR qs), S.set l (some U2) ++ [some (xs.map flR)]) := by
          simp only [mCall, aCons, aNil, mBin, mVar, List.getElem?_cons_zero, List.getElem?_cons_succ, fSub, fI, if_true, ek, el]
          simp [fList, tItems, rowD, flR]
        have sz : i + (n - i) ≤ sizeLine := by rw [sizeLine_eq]; omega
        rw [mBin, lc]
        simp only [e2]
        simp [fPlus, fAdd, fI, fCatT, tItems, fCatL, fCatL.lOwn, flR, hx, c1, sz, hrow, Function.comp_def]
      have ap := app_expr (c := 2) (acc := xs.map flR) (L := S.length) (by rfl) (gA _ _) em (gA _ _) (by rw [List.length_map, hx]; omega)
      rw [sA] at ap
      have run : symB [some (.loc l), some (.val (.int (n : Int))), some (.loc S.length), some (.val (.int (i : Int))), none, none, none, none] (S.set l (some U') ++ [some (xs.map flR)]) = some (.nx, [some (.loc l), some (.val (.int (n : Int))), some (.loc S.length), some (.val (.int (i : Int))), none, none, none, none], S.set l (some U2) ++ [some ((xs ++ [row]).map flR)]) := by
        refine (seq_nx ap).trans ?_
        simp [sNx]
      have rl : row.length = n := by rw [hrow, List.length_append, List.length_map, hx, c1]; omega
      refine ⟨_, _, _, rfl, run, ⟨_, rfl⟩, xs ++ [row], U2, rfl, ⟨by simp [hx], fun r hr => ?_, fun a b hba hai => ?_⟩, c3.mono (by omega)⟩
      · rcases List.mem_append.mp hr with z | z
        · exact sr.row r z
        · simp at z
          subst z
          refine ⟨rl, fun q hq => ?_⟩
          rw [hrow] at hq
          rcases List.mem_append.mp hq with z | z
          · obtain ⟨r, hr2, rfl⟩ := List.mem_map.mp z
            exact hb_get (sr.row r hr2).2 (by decide) i
          · exact c2 q z
      · by_cases ha : a < i
        · have g1 : (xs ++ [row]).getD a [] = xs.getD a [] := by simp [List.getD, List.getElem?_append_left (show a < xs.length by omega)]
          have g2 : (xs ++ [row]).getD b [] = xs.getD b [] := by simp [List.getD, List.getElem?_append_left (show b < xs.length by omega)]
          rw [g1, g2]
          exact sr.sym a b hba ha
        · have hae : a = i := by omega
          subst hae
          have g1 : (xs ++ [row]).getD a [] = row := by simp [List.getD, List.getElem?_append_right (show xs.length ≤ a by omega), hx]
          have g2 : (xs ++ [row]).getD b [] = xs.getD b [] := by simp [List.getD, List.getElem?_append_left (show b < xs.length by omega)]
          rw [g1, g2, hrow]
          have hb : b < (xs.map fun r => r.getD a 0).length := by simp; omega
          have hb2 : b < xs.length := by omega
          have g3 : xs.getD b [] = xs[b] := by simp [List.getD, hb2]
          rw [g3, List.getD_eq_getElem?_getD, List.getElem?_append_left hb, List.getElem?_map, List.getElem?_eq_getElem hb2]
          rfl)
  rw [Nat.zero_add, upFrom_length] at h1 h3
  obtain ⟨w, rfl⟩ := hρ
  exact ⟨xs, U', _, e, h1, h3, .inr ⟨w, rfl⟩⟩
end Lib

set_option Elab.async false
set_option linter.all false
set_option maxRecDepth 100000
set_option autoImplicit false
set_option maxHeartbeats 4000000
namespace Lib
open PySem PySem.Spec L2 HM
open PyProof.Rows hiding St
theorem if_true_ok {t : TM} {a b : SM} {ρ : Rho} {S S1 : Sto} (h : t ρ S = some (true, S1)) : sIf t a b ρ S = a ρ S1 := by
  unfold sIf
  rw [h]
theorem if_false_ok {t : TM} {a b : SM} {ρ : Rho} {S S1 : Sto} (h : t ρ S = some (false, S1)) : sIf t a b ρ S = b ρ S1 := by
  unfold sIf
  rw [h]
theorem dot_hb {n : Nat} {xs ys : List Rat} {k j : Nat} (hl : xs.length ≤ n) (hx : ∀ x ∈ xs, HB x k) (hy : ∀ y ∈ ys, HB y j) (hk : 1 + n * (k + j + 1) < 9000) : HB (dotQ xs ys) (1 + n * (k + j + 1)) := by
  have h := Nat.mul_le_mul_right (k + j + 1) hl
  exact hb_mono (hb_dot hx hy (by omega)) (by omega)
def symW : SM := (sSeq
  (sSet 2 (mCell aNil))
  (sSeq
  (sFor (iRange1 (aCons (mVar 1) aNil)) (.nm 3) symB)
  (sSeq
  (sRet (mCall fTuple (aCons (mLcV (mVar 2) (.nm 7) tYesM (mCall fTuple (aCons (mVar 7) aNil)) [7]) aNil)))
  sNx)))
def sqW : SM := (sSeq
  (sPar 4 5 (aCons (mCell aNil) (aCons (mCell aNil) aNil)))
  (sSeq
  (sFor (iRange1 (aCons (mBin fPlus (mC (.int 1)) (mCall F_law_take (aCons (mVar 0) (aCons (mVar 1) aNil)))) aNil)) (.nm 6) (app2B 4 5 (mCall F_law_number (aCons (mVar 0) aNil)) (mCall F_law_line (aCons (mVar 0) (aCons (mVar 1) aNil)))))
  (sSeq
  (sRet (mCall F_law_of_squares (aCons (mFreeze (mVar 4)) (aCons (mFreeze (mVar 5)) aNil))))
  sNx)))
theorem symW_ok {l n : Nat} {S : Sto} {U : List D} {N : Int} (hU : S[l]? = some (some U)) (h : UrnOk N U) (hn : 0 < n ∧ n ≤ 4) (hN : N ≤ 600000) :
    ∃ (f : Nat → Nat → Rat) (U' : List D) (ρ' : Rho) (S2 : Sto), symW [some (.loc l), some (.val (.int (n : Int))), none, none, none, none, none, none] S = some (.ret (.val (gridD (tab n n f))), ρ', S2) ∧ S2.take S.length = S.set l (some U') ∧ (∀ i j, i < n → j < n → f i j = f j i) ∧ (∀ i j, i < n → j < n → HB (f i j) 245) ∧ UrnOk (N + 60) U' := by
  obtain ⟨xs, U', ρ', e, sr, c3, hρ⟩ := sym_draw hU h hn hN
  have c2 : ρ'[2]? = some (some (.loc S.length)) := by rcases hρ with rfl | ⟨w, rfl⟩ <;> rfl
  have s1 : mCell aNil [some (.loc l), some (.val (.int (n : Int))), none, none, none, none, none, none] S = some (.loc S.length, S ++ [some []]) := by
    have z : (0 : Nat) ≤ sizeLine := Nat.zero_le _
    simp [mCell, aNil, vals?, z]
  have s2 := range_ok (k := n) (e := mVar 1) (ρ := [some (.loc l), some (.val (.int (n : Int))), some (.loc S.length), none, none, none, none, none]) (S := S ++ [some []]) (S1 := S ++ [some []]) rfl (by omega)
  have lc := mLcV_map (c := S.length) (i := 2) (tg := .nm 7) (m := mCall fTuple (aCons (mVar 7) aNil)) (vs := [7]) (ρ := ρ') (S := S.set l (some U') ++ [some (xs.map flR)]) (xs := xs) (enc := flR) (out := rowD) c2 (by rw [List.getElem?_append_right (by simp)]; simp) (fun r hr => ⟨_, rfl, fun S => by
    have g : ((wipeR ρ' [7]).set 7 (some (.val (flR r))))[7]? = some (some (.val (flR r))) := by
      rcases hρ with rfl | ⟨w, rfl⟩ <;> rfl
    have q : fTuple [.val (flR r)] S = some (.val (rowD r), S) := by simp [fTuple, tItems, lItems, flR, rowD]
    exact (call1 g).trans q⟩) (sz40 (by rw [sr.len]; omega))
  have s3 : mCall fTuple (aCons (mLcV (mVar 2) (.nm 7) tYesM (mCall fTuple (aCons (mVar 7) aNil)) [7]) aNil) ρ' (S.set l (some U') ++ [some (xs.map flR)]) = some (.val (gridD xs), S.set l (some U') ++ [some (xs.map flR)]) := by
    rw [mCall]
    simp only [aCons, aNil] at lc ⊢
    rw [lc]
    simp [fTuple, tItems, lItems, gridD]
  have et := tab_of sr.len fun r hr => (sr.row r hr).1
  have run := (seq_nx (b := sSeq (sFor (iRange1 (aCons (mVar 1) aNil)) (.nm 3) symB) (sSeq (sRet (mCall fTuple (aCons (mLcV (mVar 2) (.nm 7) tYesM (mCall fTuple (aCons (mVar 7) aNil)) [7]) aNil))) sNx)) (set_ok (i := 2) s1)).trans ((seq_nx (for_ok s2 e)).trans (seq_ret (ret_ok s3)))
  refine ⟨fun i j => (xs.getD i []).getD j 0, U', ρ', S.set l (some U') ++ [some (xs.map flR)], ?_, ?_, fun i j hi hj => ?_, fun i j hi hj => ?_, c3.mono (by omega)⟩
  · rw [← et]
    exact run
  · rw [List.take_append_of_le_length (by simp)]
    exact set_take
  · rcases Nat.lt_trichotomy i j with z | z | z
    · exact (sr.sym j i z hj).symm
    · subst z; rfl
    · exact sr.sym i j z hi
  · have hil : i < xs.length := by rw [sr.len]; exact hi
    have g : xs.getD i [] = xs[i] := by simp [List.getD, hil]
    show HB ((xs.getD i []).getD j 0) 245
    rw [g]
    exact hb_mono (hb_get (sr.row _ (List.getElem_mem hil)).2 (by decide) j) (by decide)
theorem sqW_ok {l n : Nat} {S : Sto} {U : List D} {N : Int} (hU : S[l]? = some (some U)) (h : UrnOk N U) (hn : 0 < n ∧ n ≤ 4) (hN : N ≤ 600000) :
    ∃ (f : Nat → Nat → Rat) (U' : List D) (ρ' : Rho) (S2 : Sto), sqW [some (.loc l), some (.val (.int (n : Int))), none, none, none, none, none, none] S = some (.ret (.val (gridD (tab n n f))), ρ', S2) ∧ S2.take S.length = S.set l (some U') ∧ (∀ i j, i < n → j < n → f i j = f j i) ∧ (∀ i j, i < n → j < n → HB (f i j) 245) ∧ UrnOk (N + 100) U' := by
  have hlt : l < S.length := (List.getElem?_eq_some_iff.mp hU).1
  have g0 : (S ++ [some [], some []])[l]? = some (some U) := by rw [List.getElem?_append_left hlt]; exact hU
  obtain ⟨d, U1, e1, ⟨d0, d1⟩, hU1⟩ := take_ok (lim := (n : Int)) g0 h (by omega) (by omega) (by omega)
  obtain ⟨k, hk⟩ : ∃ k : Nat, 1 + d = (k : Int) := ⟨(1 + d).toNat, by omega⟩
  have hk4 : 0 < k ∧ k ≤ n := by omega
  have es : (S ++ [some [], some []]).set l (some U1) = S.set l (some U1) ++ [some [], some []] := by rw [List.set_append_left _ _ hlt]
  rw [es] at e1
  have s2 := range_ok (k := k) (e := mBin fPlus (mC (.int 1)) (mCall F_law_take (aCons (mVar 0) (aCons (mVar 1) aNil)))) (ρ := [some (.loc l), some (.val (.int (n : Int))), none, none, some (.loc S.length), some (.loc (S.length + 1)), none, none]) (S := S ++ [some [], some []]) (S1 := S.set l (some U1) ++ [some [], some []]) (by
    simp only [mBin, mC, mCall, aCons, aNil, mVar, List.getElem?_cons_zero, List.getElem?_cons_succ, e1, fPlus, fAdd, fI, if_true, Option.orElse, hk]) (by omega)
  obtain ⟨hs, rows, U', ρ', e, r1, r2, r3, r4, hρ⟩ := app2_loop (enc := fr) (enc2 := rowD) (P := fun _ q row => HB q 20 ∧ row.length = n ∧ ∀ q ∈ row, HB q 20) (m1 := mCall F_law_number (aCons (mVar 0) aNil)) (m2 := mCall F_law_line (aCons (mVar 0) (aCons (mVar 1) aNil))) (c1 := 4) (c2 := 5) (t := 6) (l := l) (k := 20) (n := N + 1) (ρ0 := [some (.loc l), some (.val (.int (n : Int))), none, none, some (.loc S.length), some (.loc (S.length + 1)), none, none]) (S := S.set l (some U1)) (U := U1) (upFrom 0 k) (by rw [List.length_set]; rfl) (by rw [List.length_set]; rfl) (by decide) (by decide) (set_at hU) hU1 (by rw [upFrom_length]; omega) (fun i d S U hd hS hU => by
    obtain ⟨hi, rfl⟩ := up_get hd
    obtain ⟨q, U1, e1, a1, a2⟩ := number_ok hS hU (by omega)
    refine ⟨q, U1, (call1 rfl).trans e1, fun S hS => ?_⟩
    obtain ⟨row, U2, e2, b1, b2, b3⟩ := line_ok (k := n) hS a2 (by omega) (by omega)
    exact ⟨row, U2, (call2 rfl rfl).trans e2, ⟨a1, b1, b2⟩, b3.mono (by omega)⟩)
  rw [upFrom_length] at r1 r2 r4
  rw [List.set_set] at e
  have hmem : ∀ r ∈ rows, r.length = n ∧ ∀ q ∈ r, HB q 20 := fun r hr => by
    obtain ⟨i, hi⟩ := List.getElem?_of_mem hr
    have hil : i < rows.length := (List.getElem?_eq_some_iff.mp hi).1
    have s := r3 i hs[i] r (List.getElem?_eq_getElem (by omega)) hi
    exact ⟨s.2.1, s.2.2⟩
  have hmem2 : ∀ q ∈ hs, HB q 20 := fun q hq => by
    obtain ⟨i, hi⟩ := List.getElem?_of_mem hq
    have hil : i < hs.length := (List.getElem?_eq_some_iff.mp hi).1
    exact (r3 i q rows[i] hi (List.getElem?_eq_getElem (by omega))).1
  have c2 : ρ'[4]? = some (some (.loc S.length)) := by rcases hρ with rfl | ⟨w, rfl⟩ <;> rfl
  have c3 : ρ'[5]? = some (some (.loc (S.length + 1))) := by rcases hρ with rfl | ⟨w, rfl⟩ <;> rfl
  have z1 := freeze_ok (i := 4) (ρ := ρ') (S := S.set l (some U') ++ [some (hs.map fr), some (rows.map rowD)]) (ds := hs.map fr) c2 (by rw [List.getElem?_append_right (by simp)]; simp)
  have e2 : (S.set l (some U') ++ [some (hs.map fr), some (rows.map rowD)]).set S.length none = S.set l (some U') ++ [none, some (rows.map rowD)] := by
    rw [List.set_append_right _ _ (by simp)]; simp
  rw [e2] at z1
  have z2 := freeze_ok (i := 5) (ρ := ρ') (S := S.set l (some U') ++ [none, some (rows.map rowD)]) (ds := rows.map rowD) c3 (by rw [List.getElem?_append_right (by simp)]; simp)
  have e3 : (S.set l (some U') ++ [none, some (rows.map rowD)]).set (S.length + 1) none = S.set l (some U') ++ [none, none] := by
    rw [List.set_append_right _ _ (by simp)]; simp
  rw [e3] at z2
  have hne : rows ≠ [] := fun z => by rw [z] at r2; simp at r2; omega
  have os := of_squares_ok (n := n) (hs := hs) (ls := rows) rfl rfl (by omega) hne (by omega) (by omega) hmem hmem2 (S.set l (some U') ++ [none, none])
  have s3 : mCall F_law_of_squares (aCons (mFreeze (mVar 4)) (aCons (mFreeze (mVar 5)) aNil)) ρ' (S.set l (some U') ++ [some (hs.map fr), some (rows.map rowD)]) = some (.val (gridD (tab n n (sqs (hs.zip rows)))), S.set l (some U') ++ [none, none]) := by
    simp only [mCall, aCons, aNil, z1, z2, os]
  have s1 := two_cells (i := 4) (j := 5) (ρ := [some (.loc l), some (.val (.int (n : Int))), none, none, none, none, none, none]) S
  have run := (seq_nx (b := sSeq (sFor (iRange1 (aCons (mBin fPlus (mC (.int 1)) (mCall F_law_take (aCons (mVar 0) (aCons (mVar 1) aNil)))) aNil)) (.nm 6) (app2B 4 5 (mCall F_law_number (aCons (mVar 0) aNil)) (mCall F_law_line (aCons (mVar 0) (aCons (mVar 1) aNil))))) (sSeq (sRet (mCall F_law_of_squares (aCons (mFreeze (mVar 4)) (aCons (mFreeze (mVar 5)) aNil)))) sNx)) s1).trans ((seq_nx (for_ok s2 e)).trans (seq_ret (ret_ok s3)))
  refine ⟨sqs (hs.zip rows), U', ρ', _, run, ?_, fun i j _ _ => sqs_sym _ i j, fun i j _ _ => ?_, r4.mono (by omega)⟩
  · rw [List.take_append_of_le_length (by simp)]
    exact set_take
  · refine hb_mono (hb_sqs (k := 20) (by decide) (fun p hp => ?_) i j) ?_
    · have := List.of_mem_zip (show (p.1, p.2) ∈ hs.zip rows from hp)
      exact ⟨hmem2 _ this.1, (hmem _ this.2).2⟩
    · rw [List.length_zip]; omega
theorem form_ok {l n : Nat} {S : Sto} {U : List D} {N : Int} (hU : S[l]? = some (some U)) (h : UrnOk N U) (hn : 0 < n ∧ n ≤ 4) (hN : N ≤ 500000) :
    ∃ (f : Nat → Nat → Rat) (U' : List D), F_law_form [.loc l, .val (.int (n : Int))] S = some (.val (gridD (tab n n f)), S.set l (some U')) ∧ (∀ i j, i < n → j < n → f i j = f j i) ∧ (∀ i j, i < n → j < n → HB (f i j) 245) ∧ UrnOk (N + 200) U' := by
  obtain ⟨d, U1, e1, ⟨d0, d1⟩, hU1⟩ := take_ok (lim := 3) hU h (by omega) (by decide) (by decide)
  have t1 : mTest (mBin fEq (mCall F_law_take (aCons (mVar 0) (aCons (mC (.int 3)) aNil))) (mC (.int 0))) [some (.loc l), some (.val (.int (n : Int))), none, none, none, none, none, none] S = some (decide (d = 0), S.set l (some U1)) := by
    simp only [mTest, mBin, mCall, aCons, aNil, mVar, mC, List.getElem?_cons_zero, e1, eq_int]
  by_cases hd : d = 0
  · rw [decide_eq_true hd] at t1
    obtain ⟨f, U', ρ', S2, e, tk, sy, hb, hu⟩ := symW_ok (n := n) (set_at hU) hU1 hn (by omega)
    rw [List.length_set, List.set_set] at tk
    have run := (seq_ret (b := sqW) ((if_true_ok (a := symW) (b := sNx) t1).trans e))
    have := trim_ret (n := 8) (b := b_law_form) (ws := [.loc l, .val (.int (n : Int))]) run
    rw [tk] at this
    exact ⟨f, U', this, sy, hb, hu.mono (by omega)⟩
  · rw [decide_eq_false hd] at t1
    obtain ⟨f, U', ρ', S2, e, tk, sy, hb, hu⟩ := sqW_ok (n := n) (set_at hU) hU1 hn (by omega)
    rw [List.length_set, List.set_set] at tk
    have t2 : sIf (mTest (mBin fEq (mCall F_law_take (aCons (mVar 0) (aCons (mC (.int 3)) aNil))) (mC (.int 0)))) symW sNx [some (.loc l), some (.val (.int (n : Int))), none, none, none, none, none, none] S = some (.nx, [some (.loc l), some (.val (.int (n : Int))), none, none, none, none, none, none], S.set l (some U1)) := by
      rw [if_false_ok t1]
      rfl
    have run := (seq_nx (b := sqW) t2).trans e
    have := trim_ret (n := 8) (b := b_law_form) (ws := [.loc l, .val (.int (n : Int))]) run
    rw [tk] at this
    exact ⟨f, U', this, sy, hb, hu.mono (by omega)⟩
theorem size_ok {l : Nat} {S : Sto} {U : List D} {N : Int} (hU : S[l]? = some (some U)) (h : UrnOk N U) (hN : N ≤ 500000) :
    ∃ (n : Nat) (U' : List D), F_law_size [.loc l] S = some (.val (.int (n : Int)), S.set l (some U')) ∧ (0 < n ∧ n ≤ 4) ∧ UrnOk (N + 1) U' := by
  obtain ⟨d, U1, e1, ⟨d0, d1⟩, hU1⟩ := take_ok (lim := 10) hU h (by omega) (by decide) (by decide)
  have sl : (10 : Nat) ≤ sizeLine := by rw [sizeLine_eq]; decide
  have run : ∀ (k : Nat) (v : Nat), d = (k : Int) → ([2, 2, 3, 1, 2, 3, 2, 4, 2, 3] : List Nat)[k]? = some v → F_law_size [.loc l] S = some (.val (.int (v : Int)), S.set l (some U1)) := by
    intro k v hk hv
    have e : L2.atI ([D.int 2, D.int 2, D.int 3, D.int 1, D.int 2, D.int 3, D.int 2, D.int 4, D.int 2, D.int 3]) d = some (D.int (v : Int)) := by
      rw [hk]
      refine atI_nat ?_
      have : [D.int 2, D.int 2, D.int 3, D.int 1, D.int 2, D.int 3, D.int 2, D.int 4, D.int 2, D.int 3] = ([2, 2, 3, 1, 2, 3, 2, 4, 2, 3] : List Nat).map fun (x : Nat) => D.int (x : Int) := rfl
      rw [this, List.getElem?_map, hv]
      rfl
    have s : (mBin fIx (mTup (aCons (mC (.int 2)) (aCons (mC (.int 2)) (aCons (mC (.int 3)) (aCons (mC (.int 1)) (aCons (mC (.int 2)) (aCons (mC (.int 3)) (aCons (mC (.int 2)) (aCons (mC (.int 4)) (aCons (mC (.int 2)) (aCons (mC (.int 3)) aNil))))))))))) (mCall F_law_take (aCons (mVar 0) (aCons (mC (.int 10)) aNil)))) [some (.loc l)] S = some (.val (.int (v : Int)), S.set l (some U1)) := by
      have st : mTup (aCons (mC (.int 2)) (aCons (mC (.int 2)) (aCons (mC (.int 3)) (aCons (mC (.int 1)) (aCons (mC (.int 2)) (aCons (mC (.int 3)) (aCons (mC (.int 2)) (aCons (mC (.int 4)) (aCons (mC (.int 2)) (aCons (mC (.int 3)) aNil)))))))))) [some (.loc l)] S = some (.val (.tup [D.int 2, D.int 2, D.int 3, D.int 1, D.int 2, D.int 3, D.int 2, D.int 4, D.int 2, D.int 3]), S) := by
        simp [mTup, aCons, aNil, mC, vals?, sl]
      rw [mBin, st]
      simp only [mCall, aCons, aNil, mVar, mC, List.getElem?_cons_zero, e1, fIx, tItems, e, Option.map_some]
    have := trim_ret (n := 1) (b := b_law_size) (ws := [.loc l]) (seq_ret (ret_ok s))
    rw [set_take] at this
    exact this
  obtain ⟨k, hk⟩ : ∃ k : Nat, d = (k : Int) := ⟨d.toNat, by omega⟩
  have hk10 : k < 10 := by omega
  obtain ⟨v, hv, hv2⟩ : ∃ v, ([2, 2, 3, 1, 2, 3, 2, 4, 2, 3] : List Nat)[k]? = some v ∧ (0 < v ∧ v ≤ 4) := by
    have : k = 0 ∨ k = 1 ∨ k = 2 ∨ k = 3 ∨ k = 4 ∨ k = 5 ∨ k = 6 ∨ k = 7 ∨ k = 8 ∨ k = 9 := by omega
    rcases this with rfl | rfl | rfl | rfl | rfl | rfl | rfl | rfl | rfl | rfl <;> exact ⟨_, rfl, by decide⟩
  exact ⟨v, U1, run k v hk hv, hv2, hU1⟩
theorem square_ok {l n : Nat} {S : Sto} {U : List D} {N : Int} (hS : S[l]? = some (some U)) (h : UrnOk N U) (hn : 0 < n ∧ n ≤ 10) (hN : N ≤ 500000) :
    ∃ (t : List (List Rat)) (U' : List D), F_law_square [.loc l, .val (.int (n : Int))] S = some (.val (gridD t), S.set l (some U')) ∧ t.length = n ∧ (∀ r ∈ t, r.length = n ∧ ∀ q ∈ r, HB q 20) ∧ UrnOk (N + 300) U' := by
  have hlt : l < S.length := (List.getElem?_eq_some_iff.mp hS).1
  obtain ⟨t, U', ρ', e, c1, c2, c3, hρ⟩ := app_loop (enc := rowD) (P := fun _ r => r.length = n ∧ ∀ q ∈ r, HB q 20) (m := mCall F_law_line (aCons (mVar 0) (aCons (mVar 1) aNil))) (c := 2) (t := 3) (l := l) (k := 30) (n := N) (ρ0 := [some (.loc l), some (.val (.int (n : Int))), some (.loc S.length), none]) (S := S) (U := U) (upFrom 0 n) rfl (by decide) hS h (by rw [upFrom_length]; omega) (fun i d S U hd hS hU => by
    obtain ⟨hi, rfl⟩ := up_get hd
    obtain ⟨r, U', e1, e2, e3, e4⟩ := line_ok (k := n) hS hU (by omega) (by omega)
    exact ⟨r, U', (call2 rfl rfl).trans e1, ⟨e2, e3⟩, e4.mono (by omega)⟩)
  rw [upFrom_length] at c1 c3
  refine ⟨t, U', ?_, c1, fun r hr => ?_, c3.mono (by omega)⟩
  · have s1 : mCell aNil [some (.loc l), some (.val (.int (n : Int))), none, none] S = some (.loc S.length, S ++ [some []]) := by
      have z : (0 : Nat) ≤ sizeLine := Nat.zero_le _
      simp [mCell, aNil, vals?, z]
    have s2 := range_ok (k := n) (e := mVar 1) (ρ := [some (.loc l), some (.val (.int (n : Int))), some (.loc S.length), none]) (S := S ++ [some []]) (S1 := S ++ [some []]) rfl (by omega)
    have g : (S.set l (some U') ++ [some (t.map rowD)])[S.length]? = some (some (t.map rowD)) := by
      rw [List.getElem?_append_right (by simp)]
      simp
    have tk : List.take S.length (S.set l (some U') ++ [some (t.map rowD)]) = S.set l (some U') := by
      rw [List.take_append_of_le_length (by simp)]
      exact set_take
    have r2 : ρ'[2]? = some (some (.loc S.length)) := by
      rcases hρ with rfl | ⟨w, rfl⟩ <;> rfl
    have s3 : mCall fTuple (aCons (mVar 2) aNil) ρ' (S.set l (some U') ++ [some (t.map rowD)]) = some (.val (gridD t), S.set l (some U') ++ [some (t.map rowD)]) := by
      simp [mCall, aCons, aNil, mVar, r2, fTuple, tItems, lItems, g, gridD]
    have run := (seq_nx (b := sSeq (sFor (iRange1 (aCons (mVar 1) aNil)) (.nm 3) (appB 2 (mCall F_law_line (aCons (mVar 0) (aCons (mVar 1) aNil))))) (sSeq (sRet (mCall fTuple (aCons (mVar 2) aNil))) sNx)) (set_ok (i := 2) s1)).trans ((seq_nx (for_ok s2 e)).trans (seq_ret (ret_ok s3)))
    have := trim_ret (n := 4) (b := b_law_square) (ws := [.loc l, .val (.int (n : Int))]) run
    rw [tk] at this
    exact this
  · obtain ⟨i, hi⟩ := List.getElem?_of_mem hr
    exact c2 i r hi
end Lib

set_option Elab.async false
set_option linter.all false
set_option maxRecDepth 100000
set_option autoImplicit false
set_option maxHeartbeats 4000000
namespace Lib
open PySem PySem.Spec L2 HM
open PyProof.Rows hiding St
/-! ### data of a known depth -/
inductive Nc (k L : Nat) : Nat → D → Prop
  | non (h : Nat) : Nc k L h .non
  | bl (h : Nat) (b : Bool) : Nc k L h (.bl b)
  | int (h : Nat) {i : Int} (q : Bits i k) : Nc k L h (.int i)
  | str (h : Nat) (x : Str) : Nc k L h (.str x)
  | dct (h : Nat) : Nc k L h (.dct [] [])
  | tup {h : Nat} {ds : List D} (hl : ds.length ≤ L) (q : ∀ d ∈ ds, Nc k L h d) : Nc k L (h + 1) (.tup ds)
  | fl {h : Nat} {ds : List D} (hl : ds.length ≤ L) (q : ∀ d ∈ ds, Nc k L h d) : Nc k L (h + 1) (.fl ds)
theorem Nc.isE {k L h : Nat} {d : D} (z : Nc k L h d) : d.isE = true := by cases z <;> rfl
theorem Nc.mono {k L h : Nat} {d : D} (z : Nc k L h d) : ∀ {k' L' h' : Nat}, k ≤ k' → L ≤ L' → h ≤ h' → Nc k' L' h' d := by
  induction z with
  | non h => intro k' L' h' _ _ _; exact .non _
  | bl h b => intro k' L' h' _ _ _; exact .bl _ _
  | int h q => intro k' L' h' a _ _; exact .int _ (q.mono a)
  | str h x => intro k' L' h' _ _ _; exact .str _ _
  | dct h => intro k' L' h' _ _ _; exact .dct _
  | tup hl q ih => intro k' L' h' a b c; cases h' with
    | zero => omega
    | succ h' => exact .tup (by omega) fun d hd => ih d hd a b (by omega)
  | fl hl q ih => intro k' L' h' a b c; cases h' with
    | zero => omega
    | succ h' => exact .fl (by omega) fun d hd => ih d hd a b (by omega)
theorem Nc.items {k L h : Nat} {ds : List D} (z : Nc k L h (.tup ds)) : ds.length ≤ L ∧ ∃ h', h = h' + 1 ∧ ∀ d ∈ ds, Nc k L h' d := by
  cases z with
  | tup hl q => exact ⟨hl, _, rfl, q⟩
theorem nc_fr {q : Rat} {k L : Nat} (h : HB q k) (hL : 2 ≤ L) : Nc k L 1 (fr q) := .tup (by simpa using hL) fun d hd => by
  simp at hd
  rcases hd with rfl | rfl
  · exact .int _ h.num
  · exact .int _ h.den
theorem nc_row {x : List Rat} {k L : Nat} (h : ∀ q ∈ x, HB q k) (hl : x.length ≤ L) (hL : 2 ≤ L) : Nc k L 2 (rowD x) := .tup (by simpa using hl) fun d hd => by
  obtain ⟨q, hq, rfl⟩ := List.mem_map.mp hd
  exact nc_fr (h q hq) hL
theorem nc_grid {t : List (List Rat)} {k L : Nat} (h : ∀ x ∈ t, (∀ q ∈ x, HB q k) ∧ x.length ≤ L) (hl : t.length ≤ L) (hL : 2 ≤ L) : Nc k L 3 (gridD t) := .tup (by simpa using hl) fun d hd => by
  obtain ⟨q, hq, rfl⟩ := List.mem_map.mp hd
  exact nc_row (h q hq).1 (h q hq).2 hL
theorem Nc.askd {k L h : Nat} {d : D} (z : Nc k L h d) : Askd d k := ⟨z.isE, fun ds e x hx => by
  subst e
  obtain ⟨_, h', _, q⟩ := z.items
  have q := q x hx
  exact ⟨q.isE, fun i e => by subst e; cases q with | int _ q => exact q⟩⟩
theorem Nc.askL {k L h : Nat} {d : D} (z : Nc k L h d) (hL : L ≤ 1000) : AskL d k := ⟨z.isE, fun ds e => by
  subst e
  obtain ⟨hl, h', _, q⟩ := z.items
  exact ⟨by omega, fun x hx => (q x hx).askd⟩⟩
theorem Nc.askG {k L h : Nat} {d : D} (z : Nc k L h d) (hL : L ≤ 1000) : AskG d k := ⟨z.isE, fun ds e => by
  subst e
  obtain ⟨hl, h', _, q⟩ := z.items
  exact ⟨by omega, fun x hx => (q x hx).askL hL⟩⟩
theorem isB_tup {d : D} (h : d.isE = true) : isB "tuple" d.ty = tupB d := by
  cases d with
  | non => exact (by decide +kernel : isB "tuple" "NoneType" = false)
  | bl b => exact (by decide +kernel : isB "tuple" "bool" = false)
  | int i => exact (by decide +kernel : isB "tuple" "int" = false)
  | str x => exact (by decide +kernel : isB "tuple" "str" = false)
  | tup x => exact (by decide +kernel : isB "tuple" "tuple" = true)
  | fl x => exact (by decide +kernel : isB "tuple" "list" = false)
  | dct x y => exact (by decide +kernel : isB "tuple" "dict" = false)
  | scr x => exact (by decide +kernel : isB "tuple" "list" = false)
  | _ => cases h
def numB : D → Bool
  | .int _ => true
  | .bl _ => true
  | _ => false
theorem isB_num {d : D} (h : d.isE = true) : isB "int" d.ty = numB d := by
  cases d with
  | non => exact (by decide +kernel : isB "int" "NoneType" = false)
  | bl b => exact (by decide +kernel : isB "int" "bool" = true)
  | int i => exact (by decide +kernel : isB "int" "int" = true)
  | str x => exact (by decide +kernel : isB "int" "str" = false)
  | tup x => exact (by decide +kernel : isB "int" "tuple" = false)
  | fl x => exact (by decide +kernel : isB "int" "list" = false)
  | dct x y => exact (by decide +kernel : isB "int" "dict" = false)
  | scr x => exact (by decide +kernel : isB "int" "list" = false)
  | _ => cases h
theorem isE_ok {T : String} {i : Nat} {ρ : Rho} {S : Sto} {d : D} (hi : ρ[i]? = some (some (.val d))) (h : d.isE = true) : mIsE T (mVar i) ρ S = some (.val (.bl (isB T d.ty)), S) := by
  simp [mIsE, mVar, hi, h]
theorem cutD_len (xs : List D) (lo hi : Option Int) : (HM.cutD xs lo hi).length ≤ xs.length := by
  unfold HM.cutD
  rw [List.length_take, List.length_drop]
  omega
theorem cutD_mem {xs : List D} {lo hi : Option Int} {d : D} (h : d ∈ HM.cutD xs lo hi) : d ∈ xs := by
  unfold HM.cutD at h
  exact List.mem_of_mem_drop (List.mem_of_mem_take h)
theorem cut_one (xs : List D) : (HM.cutD xs none (some 1)).length ≤ 1 := by
  unfold HM.cutD
  rw [List.length_take]
  have : HT.sIx xs.length xs.length (some 1) ≤ 1 := by
    unfold HT.sIx
    simp
    omega
  omega
theorem and_ok {t u : TM} {ρ : Rho} {S S1 : Sto} {b : Bool} (h : t ρ S = some (b, S1)) : mtAnd t u ρ S = if b then u ρ S1 else some (false, S1) := by
  unfold mtAnd
  rw [h]
  cases b <;> rfl
/-! ### an odd thing -/
def oddL : List D := [.non, .bl true, .bl false, .int 0, .int 1, .int (-1), .int 2, .int (10 ^ 30), .str "", .str "1", .str "(1, 1)", .tup [], .tup [.int 1], .tup [.int 1, .int 1], .tup [.int 0, .int 1], .tup [.int 2, .int 2], .tup [.int 0, .int 2], .tup [.int 1, .int 0], .tup [.int 1, .int (-1)], .tup [.bl true, .int 1], .tup [.int 1, .bl true], .tup [.int 1, .int 1, .int 1], .tup [.tup [.int 1, .int 1]], .tup [.tup [.tup [.int 1, .int 1]]], .fl [], .fl [.int 1, .int 1], .fl [.tup [.int 1, .int 1]], .dct [] [], .tup [.non, .int 1], .tup [.str "1", .int 1], .tup [.tup [.int 1, .int 1], .int 1]]
theorem nc_odd : ∀ d ∈ oddL, Nc 101 3 3 d := by
  have b : ∀ (i : Int), i.natAbs < 2 ^ 101 → Bits i 101 := fun _ h => h
  intro d hd
  unfold oddL at hd
  simp only [List.mem_cons, List.not_mem_nil, or_false] at hd
  have ii : ∀ (h : Nat) (i : Int), i.natAbs < 2 ^ 101 → Nc 101 3 h (.int i) := fun h i q => .int h q
  have p2 : ∀ (h : Nat) (x y : D), Nc 101 3 h x → Nc 101 3 h y → Nc 101 3 (h + 1) (.tup [x, y]) := fun h x y a b => .tup (by simp) fun d hd => by
    simp at hd
    rcases hd with rfl | rfl
    · exact a
    · exact b
  have p1 : ∀ (h : Nat) (x : D), Nc 101 3 h x → Nc 101 3 (h + 1) (.tup [x]) := fun h x a => .tup (by simp) fun d hd => by
    simp at hd
    subst hd
    exact a
  rcases hd with rfl | rfl | rfl | rfl | rfl | rfl | rfl | rfl | rfl | rfl | rfl | rfl | rfl | rfl | rfl | rfl | rfl | rfl | rfl | rfl | rfl | rfl | rfl | rfl | rfl | rfl | rfl | rfl | rfl | rfl | rfl
  · exact .non _
  · exact .bl _ _
  · exact .bl _ _
  · exact ii _ _ (by decide)
  · exact ii _ _ (by decide)
  · exact ii _ _ (by decide)
  · exact ii _ _ (by decide)
  · exact ii _ _ (by decide)
  · exact .str _ _
  · exact .str _ _
  · exact .str _ _
  · exact .tup (by decide) fun d hd => by simp at hd
  · exact p1 2 _ (ii _ _ (by decide))
  · exact p2 2 _ _ (ii _ _ (by decide)) (ii _ _ (by decide))
  · exact p2 2 _ _ (ii _ _ (by decide)) (ii _ _ (by decide))
  · exact p2 2 _ _ (ii _ _ (by decide)) (ii _ _ (by decide))
  · exact p2 2 _ _ (ii _ _ (by decide)) (ii _ _ (by decide))
  · exact p2 2 _ _ (ii _ _ (by decide)) (ii _ _ (by decide))
  · exact p2 2 _ _ (ii _ _ (by decide)) (ii _ _ (by decide))
  · exact p2 2 _ _ (.bl _ _) (ii _ _ (by decide))
  · exact p2 2 _ _ (ii _ _ (by decide)) (.bl _ _)
  · exact .tup (by decide) fun d hd => by
      simp at hd
      subst hd
      exact ii _ _ (by decide)
  · exact p1 2 _ (p2 1 _ _ (ii _ _ (by decide)) (ii _ _ (by decide)))
  · exact p1 2 _ (p1 1 _ (p2 0 _ _ (ii _ _ (by decide)) (ii _ _ (by decide))))
  · exact .fl (by decide) fun d hd => by simp at hd
  · exact .fl (by decide) fun d hd => by
      simp at hd
      subst hd
      exact ii _ _ (by decide)
  · exact .fl (by decide) fun d hd => by
      simp at hd
      subst hd
      exact p2 1 _ _ (ii _ _ (by decide)) (ii _ _ (by decide))
  · exact .dct _
  · exact p2 2 _ _ (.non _) (ii _ _ (by decide))
  · exact p2 2 _ _ (.str _ _) (ii _ _ (by decide))
  · exact p2 2 _ _ (p2 1 _ _ (ii _ _ (by decide)) (ii _ _ (by decide))) (ii _ _ (by decide))
end Lib

set_option Elab.async false
set_option linter.all false
set_option maxRecDepth 100000
set_option autoImplicit false
set_option maxHeartbeats 4000000
namespace Lib
open PySem PySem.Spec L2 HM
open PyProof.Rows hiding St
theorem sz1 : 1 ≤ sizeLine := sz40 (by decide)
theorem sz2 : 2 ≤ sizeLine := sz40 (by decide)
theorem sz3 : 3 ≤ sizeLine := sz40 (by decide)
theorem sz4 : 4 ≤ sizeLine := sz40 (by decide)
theorem sz5 : 5 ≤ sizeLine := sz40 (by decide)
theorem sz31 : 31 ≤ sizeLine := sz40 (by decide)
theorem odd_ok {l : Nat} {S : Sto} {U : List D} {N : Int} (hU : S[l]? = some (some U)) (h : UrnOk N U) (hN : N ≤ 900000) :
    ∃ (d : D) (U' : List D), F_law_odd [.loc l] S = some (.val d, S.set l (some U')) ∧ Nc 101 3 3 d ∧ UrnOk (N + 1) U' := by
  obtain ⟨i, d, U', hi, e, hu⟩ := pick_ok (w := .val (.tup oddL)) (.inr rfl) hU h (by omega) (by decide) (by decide)
  refine ⟨d, U', ?_, nc_odd d (List.mem_of_getElem? hi), hu⟩
  have pw : fPow (.val (.int 10)) (.val (.int 30)) S = some (.val (.int (10 ^ 30)), S) := rfl
  have z0 : (0 : Nat) ≤ sizeLine := Nat.zero_le _
  have run : b_law_odd [some (.loc l)] S = some (.ret (.val d), [some (.loc l)], S.set l (some U')) := by
    refine seq_ret (ret_ok ((call_ok (acons_ok rfl (acons_ok (S1 := S) (w := .val (.tup oddL)) ?_ rfl))).trans e))
    simp only [mTup, mFl, aCons, aNil, mC, vals?, mNeg, mBin, pw, Option.map_some, List.length_cons, List.length_nil, Nat.reduceAdd, sz1, sz2, sz3, sz31, z0, if_true, oddL]
  have := trim_ret (n := 1) (b := b_law_odd) (ws := [.loc l]) run
  rw [set_take] at this
  exact this
/-! ### a thing bent -/
theorem and_test {t u : TM} {ρ : Rho} {S : Sto} {a b : Bool} (h : t ρ S = some (a, S)) (h2 : u ρ S = some (b, S)) : mtAnd t u ρ S = some (a && b, S) := by
  rw [and_ok h]
  cases a
  · rfl
  · exact h2
def bentB : SM := (sSeq
  (sRet (mBin fIx (mTup (aCons (mCall fList (aCons (mVar 1) aNil)) (aCons (mCut (mVar 1) oNone (oSome (mNeg (mC (.int 1))))) (aCons (mBin fPlusB (mVar 1) (mCut (mVar 1) oNone (oSome (mC (.int 1))))) (aCons (mBack (mVar 1)) (aCons (mCut (mVar 1) (oSome (mC (.int 1))) oNone) aNil)))))) (mVar 3)))
  sNx)
def bentC : SM := (sSeq
  (sRet (mBin fIx (mTup (aCons (mBin fPlusB (mVar 1) (mC (.int 1))) (aCons (mBin fSubB (mC (.int 0)) (mVar 1)) (aCons (mBin fMulB (mC (.int 2)) (mVar 1)) (aCons (mBin fSubB (mVar 1) (mC (.int 3))) aNil))))) (mVar 3)))
  sNx)
def bentT : SM := (sSeq
  (sSet 3 (mCall F_law_take (aCons (mVar 0) (aCons (mC (.int 8)) aNil))))
  (sSeq
  (sIf (mtAnd (mTest (mIsE "tuple" (mVar 1))) (mTest (mBin fLt (mVar 3) (mC (.int 5))))) bentB sNx)
  (sSeq
  (sIf (mtAnd (mTest (mIsE "int" (mVar 1))) (mTest (mBin fLt (mVar 3) (mC (.int 4))))) bentC sNx)
  (sSeq
  (sRet (mCall F_law_odd (aCons (mVar 0) aNil)))
  sNx))))
theorem plusT {ds es : List D} (S : Sto) (h : ds.length + es.length ≤ 10000) : fPlusB (.val (.tup ds)) (.val (.tup es)) S = some (.val (.tup (ds ++ es)), S) := by
  have z : ds.length + es.length ≤ sizeLine := by rw [sizeLine_eq]; omega
  simp [fPlusB, fPlus, fAdd, fI, fCatT, tItems, z]
theorem ixT {ds : List D} {t : Int} (S : Sto) (h0 : 0 ≤ t) (h : t < ds.length) : ∃ d ∈ ds, fIx (.val (.tup ds)) (.val (.int t)) S = some (.val d, S) := by
  obtain ⟨i, rfl⟩ : ∃ i : Nat, t = (i : Int) := ⟨t.toNat, by omega⟩
  have hi : i < ds.length := by omega
  refine ⟨ds[i], List.getElem_mem hi, ?_⟩
  have e2 : L2.atI ds (i : Int) = some ds[i] := atI_nat (List.getElem?_eq_getElem hi)
  simp [fIx, tItems, e2]
theorem bentB_ok {k L h : Nat} {w0 w2 : Option W} {ds : List D} {t : Int} (z : Nc k L h (.tup ds)) (hL : L ≤ 400) (h0 : 0 ≤ t) (h5 : t < 5) (S : Sto) : ∃ r, bentB [w0, some (.val (.tup ds)), w2, some (.val (.int t))] S = some (.ret (.val r), [w0, some (.val (.tup ds)), w2, some (.val (.int t))], S) ∧ Nc k (2 * L + 1) h r := by
  obtain ⟨hl, h', rfl, q⟩ := z.items
  have c1 := cutD_len ds none (some 1)
  have mk : mTup (aCons (mCall fList (aCons (mVar 1) aNil)) (aCons (mCut (mVar 1) oNone (oSome (mNeg (mC (.int 1))))) (aCons (mBin fPlusB (mVar 1) (mCut (mVar 1) oNone (oSome (mC (.int 1))))) (aCons (mBack (mVar 1)) (aCons (mCut (mVar 1) (oSome (mC (.int 1))) oNone) aNil))))) [w0, some (.val (.tup ds)), w2, some (.val (.int t))] S = some (.val (.tup [.fl ds, .tup (HM.cutD ds none (some (-1))), .tup (ds ++ HM.cutD ds none (some 1)), .tup ds.reverse, .tup (HM.cutD ds (some 1) none)]), S) := by
    have p := plusT (ds := ds) (es := HM.cutD ds none (some 1)) S (by omega)
    simp only [mTup, aCons, aNil, mCall, fList, mCut, mVar, oNone, oSome, mNeg, mC, mBin, tItems, mBack, vals?, List.getElem?_cons_zero, List.getElem?_cons_succ, p, Option.map_some, List.length_cons, List.length_nil, Nat.reduceAdd, sz5, if_true]
  obtain ⟨r, hr, e⟩ := ixT (ds := [.fl ds, .tup (HM.cutD ds none (some (-1))), .tup (ds ++ HM.cutD ds none (some 1)), .tup ds.reverse, .tup (HM.cutD ds (some 1) none)]) (t := t) S h0 (by simpa using h5)
  refine ⟨r, seq_ret (ret_ok ((bin_ok mk rfl).trans e)), ?_⟩
  have qm : ∀ d ∈ ds, Nc k (2 * L + 1) h' d := fun d hd => (q d hd).mono (Nat.le_refl _) (by omega) (Nat.le_refl _)
  simp only [List.mem_cons, List.not_mem_nil, or_false] at hr
  rcases hr with rfl | rfl | rfl | rfl | rfl
  · exact .fl (by omega) qm
  · exact .tup (by have := cutD_len ds none (some (-1)); omega) fun d hd => qm d (cutD_mem hd)
  · exact .tup (by rw [List.length_append]; omega) fun d hd => by
      rcases List.mem_append.mp hd with hd | hd
      · exact qm d hd
      · exact qm d (cutD_mem hd)
  · exact .tup (by rw [List.length_reverse]; omega) fun d hd => qm d (List.mem_reverse.mp hd)
  · exact .tup (by have := cutD_len ds (some 1) none; omega) fun d hd => qm d (cutD_mem hd)
theorem bits4 {v : Int} {k : Nat} (h : Bits v k) : Bits (v + 1) (k + 3) ∧ Bits (0 - v) (k + 3) ∧ Bits (2 * v) (k + 3) ∧ Bits (v - 3) (k + 3) := by
  unfold Bits at *
  have p : 2 ^ (k + 3) = 8 * 2 ^ k := by rw [Nat.pow_add]; omega
  have p0 : 0 < 2 ^ k := Nat.pow_pos (by decide)
  rw [p]
  generalize 2 ^ k = m at *
  omega
theorem bentC_ok {k L h : Nat} {w0 w2 : Option W} {d : D} {t : Int} (z : Nc k L h d) (hn : numB d = true) (hk : k ≤ 2000) (h0 : 0 ≤ t) (h4 : t < 4) (S : Sto) : ∃ r, bentC [w0, some (.val d), w2, some (.val (.int t))] S = some (.ret (.val r), [w0, some (.val d), w2, some (.val (.int t))], S) ∧ Nc (k + 3) (2 * L + 1) h r := by
  have main : ∀ v : Int, Bits v (k + 1) ∧ (Bits (v + 1) (k + 3) ∧ Bits (0 - v) (k + 3) ∧ Bits (2 * v) (k + 3) ∧ Bits (v - 3) (k + 3)) → mTup (aCons (mBin fPlusB (mVar 1) (mC (.int 1))) (aCons (mBin fSubB (mC (.int 0)) (mVar 1)) (aCons (mBin fMulB (mC (.int 2)) (mVar 1)) (aCons (mBin fSubB (mVar 1) (mC (.int 3))) aNil)))) [w0, some (.val d), w2, some (.val (.int t))] S = some (.val (.tup [.int (v + 1), .int (0 - v), .int (2 * v), .int (v - 3)]), S) → ∃ r, bentC [w0, some (.val d), w2, some (.val (.int t))] S = some (.ret (.val r), [w0, some (.val d), w2, some (.val (.int t))], S) ∧ Nc (k + 3) (2 * L + 1) h r := by
    intro v ⟨_, b1, b2, b3, b4⟩ mk
    obtain ⟨r, hr, e⟩ := ixT (ds := [.int (v + 1), .int (0 - v), .int (2 * v), .int (v - 3)]) (t := t) S h0 (by simpa using h4)
    refine ⟨r, seq_ret (ret_ok ((bin_ok mk rfl).trans e)), ?_⟩
    simp only [List.mem_cons, List.not_mem_nil, or_false] at hr
    rcases hr with rfl | rfl | rfl | rfl
    · exact .int _ b1
    · exact .int _ b2
    · exact .int _ b3
    · exact .int _ b4
  cases z with
  | int _ q =>
    rename_i i
    refine main i ⟨q.mono (by omega), bits4 q⟩ ?_
    have cm : cMul 2 i = true := cMul_bits (k := 2) (l := k) (by unfold Bits; decide) q (by omega)
    simp only [mTup, aCons, aNil, mVar, mC, mBin, vals?, fPlusB, fPlus, fAdd, fSubB, fSub, fMulB, fMulX, fMul, fI, cm, if_true, Option.orElse, List.getElem?_cons_zero, List.getElem?_cons_succ, Option.map_some, List.length_cons, List.length_nil, Nat.reduceAdd, sz4]
  | bl _ b =>
    have q : Bits (if b = true then 1 else 0) k ∨ True := .inr trivial
    have q1 : ∀ j : Int, j.natAbs < 8 → Bits j (k + 3) := fun j hj => by
      unfold Bits
      have p : 2 ^ (k + 3) = 8 * 2 ^ k := by rw [Nat.pow_add]; omega
      have p0 : 0 < 2 ^ k := Nat.pow_pos (by decide)
      omega
    cases b
    · refine main 0 ⟨by unfold Bits; exact Nat.pow_pos (by decide), q1 _ (by decide), q1 _ (by decide), q1 _ (by decide), q1 _ (by decide)⟩ ?_
      simp [mTup, aCons, aNil, mVar, mC, mBin, vals?, fPlusB, fPlus, fAdd, fSubB, fSub, fMulB, fMulX, fMul, fRepA, fCatT, fCatL, tItems, fCatL.lOwn, fBI, fIB, fI, sz4, lItems]
    · refine main 1 ⟨by unfold Bits; exact Nat.one_lt_two_pow (by omega), q1 _ (by decide), q1 _ (by decide), q1 _ (by decide), q1 _ (by decide)⟩ ?_
      simp [mTup, aCons, aNil, mVar, mC, mBin, vals?, fPlusB, fPlus, fAdd, fSubB, fSub, fMulB, fMulX, fMul, fRepA, fCatT, fCatL, tItems, fCatL.lOwn, fBI, fIB, fI, sz4, lItems]
  | _ => cases hn
end Lib

set_option Elab.async false
set_option linter.all false
set_option maxRecDepth 100000
set_option autoImplicit false
set_option maxHeartbeats 4000000
namespace Lib
open PySem PySem.Spec L2 HM
open PyProof.Rows hiding St
theorem lt_test {i : Nat} {c t : Int} {ρ : Rho} {S : Sto} (h : ρ[i]? = some (some (.val (.int t)))) : mTest (mBin fLt (mVar i) (mC (.int c))) ρ S = some (decide (t < c), S) := test_ok ((bin_ok (var_ok h) rfl).trans (lt_int _ _ _))
theorem isT_test {i : Nat} {d : D} {ρ : Rho} {S : Sto} (h : ρ[i]? = some (some (.val d))) (he : d.isE = true) : mTest (mIsE "tuple" (mVar i)) ρ S = some (tupB d, S) := test_ok (by rw [isE_ok h he, isB_tup he])
theorem isI_test {i : Nat} {d : D} {ρ : Rho} {S : Sto} (h : ρ[i]? = some (some (.val d))) (he : d.isE = true) : mTest (mIsE "int" (mVar i)) ρ S = some (numB d, S) := test_ok (by rw [isE_ok h he, isB_num he])
theorem tup_of {d : D} (h : tupB d = true) : ∃ ds, d = .tup ds := by
  cases d <;> first | exact ⟨_, rfl⟩ | cases h
theorem bentT_ok {k L h l : Nat} {S : Sto} {U : List D} {N : Int} {w2 : Option W} {d : D} (z : Nc k L h d) (hk : 98 ≤ k ∧ k ≤ 2000) (hL : 1 ≤ L ∧ L ≤ 400) (hU : S[l]? = some (some U)) (hu : UrnOk N U) (hN : N ≤ 800000) :
    ∃ (r : D) (ρ' : Rho) (U' : List D), bentT [some (.loc l), some (.val d), w2, none] S = some (.ret (.val r), ρ', S.set l (some U')) ∧ Nc (k + 3) (2 * L + 1) (h + 3) r ∧ UrnOk (N + 2) U' := by
  obtain ⟨t, U1, e1, ⟨t0, t1⟩, hU1⟩ := take_ok (lim := 8) hU hu (by omega) (by decide) (by decide)
  have s1 := set_ok (i := 3) (ρ := [some (.loc l), some (.val d), w2, none]) (m := mCall F_law_take (aCons (mVar 0) (aCons (mC (.int 8)) aNil))) ((call_vc rfl).trans e1)
  have tB : mtAnd (mTest (mIsE "tuple" (mVar 1))) (mTest (mBin fLt (mVar 3) (mC (.int 5)))) [some (.loc l), some (.val d), w2, some (.val (.int t))] (S.set l (some U1)) = some (tupB d && decide (t < 5), S.set l (some U1)) := and_test (isT_test rfl z.isE) (lt_test rfl)
  have tC : mtAnd (mTest (mIsE "int" (mVar 1))) (mTest (mBin fLt (mVar 3) (mC (.int 4)))) [some (.loc l), some (.val d), w2, some (.val (.int t))] (S.set l (some U1)) = some (numB d && decide (t < 4), S.set l (some U1)) := and_test (isI_test rfl z.isE) (lt_test rfl)
  cases hB : tupB d && decide (t < 5) with
  | true =>
    rw [hB] at tB
    rw [Bool.and_eq_true, decide_eq_true_eq] at hB
    obtain ⟨ds, rfl⟩ := tup_of hB.1
    obtain ⟨r, e, q⟩ := bentB_ok (w0 := some (.loc l)) (w2 := w2) z hL.2 t0 hB.2 (S.set l (some U1))
    exact ⟨r, _, U1, (seq_nx s1).trans (seq_ret ((if_true_ok tB).trans e)), q.mono (by omega) (Nat.le_refl _) (by omega), hU1.mono (by omega)⟩
  | false =>
    rw [hB] at tB
    have n1 : sIf (mtAnd (mTest (mIsE "tuple" (mVar 1))) (mTest (mBin fLt (mVar 3) (mC (.int 5))))) bentB sNx [some (.loc l), some (.val d), w2, some (.val (.int t))] (S.set l (some U1)) = some (.nx, [some (.loc l), some (.val d), w2, some (.val (.int t))], S.set l (some U1)) := if_false_ok tB
    cases hC : numB d && decide (t < 4) with
    | true =>
      rw [hC] at tC
      rw [Bool.and_eq_true, decide_eq_true_eq] at hC
      obtain ⟨r, e, q⟩ := bentC_ok (w0 := some (.loc l)) (w2 := w2) z hC.1 hk.2 t0 hC.2 (S.set l (some U1))
      exact ⟨r, _, U1, (seq_nx s1).trans ((seq_nx n1).trans (seq_ret ((if_true_ok tC).trans e))), q.mono (Nat.le_refl _) (Nat.le_refl _) (by omega), hU1.mono (by omega)⟩
    | false =>
      rw [hC] at tC
      have n2 : sIf (mtAnd (mTest (mIsE "int" (mVar 1))) (mTest (mBin fLt (mVar 3) (mC (.int 4))))) bentC sNx [some (.loc l), some (.val d), w2, some (.val (.int t))] (S.set l (some U1)) = some (.nx, [some (.loc l), some (.val d), w2, some (.val (.int t))], S.set l (some U1)) := if_false_ok tC
      obtain ⟨r, U2, e2, q, hU2⟩ := odd_ok (set_at hU) hU1 (by omega)
      rw [List.set_set] at e2
      exact ⟨r, _, U2, (seq_nx s1).trans ((seq_nx n1).trans ((seq_nx n2).trans (seq_ret (ret_ok ((call1 rfl).trans e2))))), q.mono (by omega) (by omega) (by omega), hU2.mono (by omega)⟩
def bentA (FX : FM) : SM := (sSeq
  (sSet 2 (mCall F_law_take (aCons (mVar 0) (aCons (mCall fLen (aCons (mVar 1) aNil)) aNil))))
  (sSeq
  (sRet (mBin fPlusB (mBin fPlusB (mCut (mVar 1) oNone (oSome (mVar 2))) (mTup (aCons (mCall FX (aCons (mVar 0) (aCons (mBin fIx (mVar 1) (mVar 2)) aNil))) aNil))) (mCut (mVar 1) (oSome (mBin fPlusB (mVar 2) (mC (.int 1)))) oNone)))
  sNx))
theorem bent_step {FX : FM} {k L h l : Nat} {S : Sto} {U : List D} {N : Int} {d : D} (z : Nc k L h d) (hk : 98 ≤ k ∧ k ≤ 2000) (hL : 1 ≤ L ∧ L ≤ 400) (hU : S[l]? = some (some U)) (hu : UrnOk N U) (hN : N + 4 * (h : Int) ≤ 700000)
    (ih : ∀ h', h = h' + 1 → ∀ {S : Sto} {U : List D} {N : Int} {d : D}, Nc k L h' d → S[l]? = some (some U) → UrnOk N U → N + 4 * (h' : Int) ≤ 700000 → ∃ (r : D) (U' : List D), FX [.loc l, .val d] S = some (.val r, S.set l (some U')) ∧ Nc (k + 3) (2 * L + 1) (h' + 3) r ∧ UrnOk (N + 4 * (h' : Int) + 4) U') :
    ∃ (r : D) (U' : List D), trimF (fnM 4 (b_law_bent FX)) [.loc l, .val d] S = some (.val r, S.set l (some U')) ∧ Nc (k + 3) (2 * L + 1) (h + 3) r ∧ UrnOk (N + 4 * (h : Int) + 4) U' := by
  have fin : ∀ {r : D} {ρ' : Rho} {U' : List D}, b_law_bent FX [some (.loc l), some (.val d), none, none] S = some (.ret (.val r), ρ', S.set l (some U')) → trimF (fnM 4 (b_law_bent FX)) [.loc l, .val d] S = some (.val r, S.set l (some U')) := by
    intro r ρ' U' run
    have := trim_ret (n := 4) (b := b_law_bent FX) (ws := [.loc l, .val d]) run
    rw [set_take] at this
    exact this
  have tail : ∀ {U1 : List D} {t : TM}, t [some (.loc l), some (.val d), none, none] S = some (false, S.set l (some U1)) → UrnOk (N + 1) U1 → ∃ (r : D) (ρ' : Rho) (U' : List D), sSeq (sIf t (bentA FX) sNx) bentT [some (.loc l), some (.val d), none, none] S = some (.ret (.val r), ρ', S.set l (some U')) ∧ Nc (k + 3) (2 * L + 1) (h + 3) r ∧ UrnOk (N + 4 * (h : Int) + 4) U' := by
    intro U1 t ht h1
    obtain ⟨r, ρ', U', e, q, hu'⟩ := bentT_ok (w2 := none) z hk hL (set_at hU) h1 (by omega)
    rw [List.set_set] at e
    exact ⟨r, ρ', U', (seq_nx (if_false_ok (a := bentA FX) (b := sNx) ht)).trans e, q, hu'.mono (by omega)⟩
  suffices q : ∃ (r : D) (ρ' : Rho) (U' : List D), b_law_bent FX [some (.loc l), some (.val d), none, none] S = some (.ret (.val r), ρ', S.set l (some U')) ∧ Nc (k + 3) (2 * L + 1) (h + 3) r ∧ UrnOk (N + 4 * (h : Int) + 4) U' by
    obtain ⟨r, ρ', U', e, a, b⟩ := q
    exact ⟨r, U', fin e, a, b⟩
  have tT := isT_test (i := 1) (ρ := [some (.loc l), some (.val d), none, none]) (S := S) (d := d) rfl z.isE
  have same : S.set l (some U) = S := set_same hU
  cases hB : tupB d with
  | false =>
    rw [hB] at tT
    refine tail (U1 := U) ?_ (hu.mono (by omega))
    rw [and_ok tT, same]
    rfl
  | true =>
    rw [hB] at tT
    obtain ⟨ds, rfl⟩ := tup_of hB
    obtain ⟨hl, h', rfl, qd⟩ := z.items
    cases ds with
    | nil =>
      refine tail (U1 := U) ?_ (hu.mono (by omega))
      rw [and_ok tT, same]
      rfl
    | cons d0 dr =>
      obtain ⟨t, U1, e1, ⟨t0, t1⟩, hU1⟩ := take_ok (lim := 4) hU hu (by omega) (by decide) (by decide)
      have g : mTest (mBin fGt (mCall F_law_take (aCons (mVar 0) (aCons (mC (.int 4)) aNil))) (mC (.int 0))) [some (.loc l), some (.val (.tup (d0 :: dr))), none, none] S = some (decide (0 < t), S.set l (some U1)) := test_ok ((bin_ok ((call_vc rfl).trans e1) rfl).trans (gt_int _ _ _))
      have nn : mTest (mBin (fNilE true) (mVar 1) (mTup aNil)) [some (.loc l), some (.val (.tup (d0 :: dr))), none, none] S = some (true, S) := rfl
      have tt : mtAnd (mTest (mIsE "tuple" (mVar 1))) (mtAnd (mTest (mBin (fNilE true) (mVar 1) (mTup aNil))) (mTest (mBin fGt (mCall F_law_take (aCons (mVar 0) (aCons (mC (.int 4)) aNil))) (mC (.int 0))))) [some (.loc l), some (.val (.tup (d0 :: dr))), none, none] S = some (decide (0 < t), S.set l (some U1)) := by
        rw [and_ok tT, if_pos rfl, and_ok nn, if_pos rfl, g]
      by_cases ht : 0 < t
      · rw [decide_eq_true ht] at tt
        obtain ⟨j, U2, e2, ⟨j0, j1⟩, hU2⟩ := take_ok (lim := ((d0 :: dr).length : Int)) (set_at hU) hU1 (by omega) (by simp only [List.length_cons]; omega) (by omega)
        rw [List.set_set] at e2
        generalize d0 :: dr = ds at *
        obtain ⟨x, hx, ex⟩ := ixT (S := S.set l (some U2)) j0 j1
        obtain ⟨r, U3, e3, qr, hU3⟩ := ih h' rfl (S := S.set l (some U2)) (qd x hx) (set_at hU) hU2 (by omega)
        rw [List.set_set] at e3
        have eset := set_ok (i := 2) (ρ := [some (.loc l), some (.val (.tup ds)), none, none]) (m := mCall F_law_take (aCons (mVar 0) (aCons (mCall fLen (aCons (mVar 1) aNil)) aNil))) ((call_ok (acons_ok rfl (acons_ok (S1 := S.set l (some U1)) (w := .val (.int (ds.length : Int))) rfl rfl))).trans e2)
        have ct1 : mCut (mVar 1) oNone (oSome (mVar 2)) [some (.loc l), some (.val (.tup ds)), some (.val (.int j)), none] (S.set l (some U2)) = some (.val (.tup (HM.cutD ds none (some j))), S.set l (some U2)) := rfl
        have ct2 : mCut (mVar 1) (oSome (mBin fPlusB (mVar 2) (mC (.int 1)))) oNone [some (.loc l), some (.val (.tup ds)), some (.val (.int j)), none] (S.set l (some U3)) = some (.val (.tup (HM.cutD ds (some (j + 1)) none)), S.set l (some U3)) := rfl
        have ecall : mCall FX (aCons (mVar 0) (aCons (mBin fIx (mVar 1) (mVar 2)) aNil)) [some (.loc l), some (.val (.tup ds)), some (.val (.int j)), none] (S.set l (some U2)) = some (.val r, S.set l (some U3)) := (call_ok (acons_ok rfl (acons_ok ((bin_ok rfl rfl).trans ex) rfl))).trans e3
        have etup : mTup (aCons (mCall FX (aCons (mVar 0) (aCons (mBin fIx (mVar 1) (mVar 2)) aNil))) aNil) [some (.loc l), some (.val (.tup ds)), some (.val (.int j)), none] (S.set l (some U2)) = some (.val (.tup [r]), S.set l (some U3)) := by
          unfold mTup
          rw [acons_ok ecall rfl]
          simp [vals?, sz1]
        have l1 := cutD_len ds none (some j)
        have l2 := cutD_len ds (some (j + 1)) none
        have ef := (bin_ok (f := fPlusB) ((bin_ok (f := fPlusB) ct1 etup).trans (plusT _ (by simp; omega))) ct2).trans (plusT _ (by simp; omega))
        have qm : ∀ d ∈ ds, Nc (k + 3) (2 * L + 1) (h' + 3) d := fun d hd => (qd d hd).mono (by omega) (by omega) (by omega)
        refine ⟨_, _, U3, seq_ret ((if_true_ok tt).trans ((seq_nx eset).trans (seq_ret (ret_ok ef)))), ?_, hU3.mono (by push_cast; omega)⟩
        refine .tup ?_ fun d hd => ?_
        · simp; omega
        · rcases List.mem_append.mp hd with hd | hd
          · rcases List.mem_append.mp hd with hd | hd
            · exact qm d (cutD_mem hd)
            · simp at hd
              subst hd
              exact qr
          · exact qm d (cutD_mem hd)
      · rw [decide_eq_false ht] at tt
        exact tail tt hU1
theorem bent_ok {k L l : Nat} (hk : 98 ≤ k ∧ k ≤ 2000) (hL : 1 ≤ L ∧ L ≤ 400) : ∀ (n h : Nat) {S : Sto} {U : List D} {N : Int} {d : D}, h < n → Nc k L h d → S[l]? = some (some U) → UrnOk N U → N + 4 * (h : Int) ≤ 700000 →
    ∃ (r : D) (U' : List D), F_law_bent n [.loc l, .val d] S = some (.val r, S.set l (some U')) ∧ Nc (k + 3) (2 * L + 1) (h + 3) r ∧ UrnOk (N + 4 * (h : Int) + 4) U'
  | 0, _, _, _, _, _, hn, _, _, _, _ => by omega
  | n + 1, h, S, U, N, d, hn, z, hU, hu, hN => by
    show ∃ (r : D) (U' : List D), trimF (fnM 4 (b_law_bent (F_law_bent n))) [.loc l, .val d] S = _ ∧ _ ∧ _
    exact bent_step z hk hL hU hu hN fun h' e {S U N d} z' hU' hu' hN' => bent_ok hk hL n h' (by omega) z' hU' hu' hN'
end Lib

set_option Elab.async false
set_option linter.all false
set_option maxRecDepth 100000
set_option autoImplicit false
set_option maxHeartbeats 4000000
namespace Lib
open PySem PySem.Spec L2 HM
open PyProof.Rows hiding St
/-! ### told alike -/
inductive Sf : Nat → D → Prop
  | bl (h : Nat) (b : Bool) : Sf h (.bl b)
  | int (h : Nat) (i : Int) : Sf h (.int i)
  | tup {h : Nat} {ds : List D} (hl : ds.length ≤ 1000) (q : ∀ d ∈ ds, Sf h d) : Sf (h + 1) (.tup ds)
theorem Sf.isE {h : Nat} {d : D} (z : Sf h d) : d.isE = true := by cases z <;> rfl
theorem Sf.mono {h : Nat} {d : D} (z : Sf h d) : ∀ {h' : Nat}, h ≤ h' → Sf h' d := by
  induction z with
  | bl h b => intro h' _; exact .bl _ _
  | int h b => intro h' _; exact .int _ _
  | tup hl q ih => intro h' c; cases h' with
    | zero => omega
    | succ h' => exact .tup hl fun d hd => ih d hd (by omega)
theorem sf_pair {h : Nat} {a b : D} (ha : Sf h a) (hb : Sf h b) : Sf (h + 1) (.tup [a, b]) := .tup (by simp) fun d hd => by
  simp at hd
  rcases hd with rfl | rfl
  · exact ha
  · exact hb
theorem sf_fr (q : Rat) : Sf 1 (fr q) := sf_pair (.int _ _) (.int _ _)
theorem zipD_self : ∀ ds : List D, zipD ds ds = ds.map fun d => D.tup [d, d]
  | [] => rfl
  | d :: r => by
    show D.tup [d, d] :: zipD r r = _
    rw [zipD_self r]
    rfl
theorem mand_ok {m n : EM} {ρ : Rho} {S : Sto} (h : m ρ S = some (.val (.bl true), S)) : mAnd m n ρ S = n ρ S := by
  unfold mAnd
  rw [h]
theorem mand_no {m n : EM} {ρ : Rho} {S : Sto} (h : m ρ S = some (.val (.bl false), S)) : mAnd m n ρ S = some (.val (.bl false), S) := by
  unfold mAnd
  rw [h]
theorem or_f {t u : TM} {ρ : Rho} {S : Sto} (h : t ρ S = some (false, S)) : mtOr t u ρ S = u ρ S := by
  unfold mtOr
  rw [h]
theorem isB_bool_bl : isB "bool" "bool" = true := by decide +kernel
theorem isB_bool_int : isB "bool" "int" = false := by decide +kernel
theorem isB_int_int : isB "int" "int" = true := by decide +kernel
theorem isB_tt : isB "tuple" "tuple" = true := by decide +kernel
theorem eq_bl (b : Bool) (S : Sto) : fEq (.val (.bl b)) (.val (.bl b)) S = some (.val (.bl true), S) := by
  cases b <;> rfl
theorem same_self : ∀ (n h : Nat) {d : D} (S : Sto), h < n → Sf h d → F_law_same n [.val d, .val d] S = some (.val (.bl true), S)
  | 0, _, _, _, hn, _ => by omega
  | n + 1, h, d, S, hn, z => by
    show trimF (fnM 4 (b_law_same (F_law_same n))) [.val d, .val d] S = _
    have ih := fun h' {d : D} (S : Sto) (q : h' < n) (z : Sf h' d) => same_self n h' S q z
    generalize F_law_same n = FX at *
    suffices q : ∃ ρ', b_law_same FX [some (.val d), some (.val d), none, none] S = some (.ret (.val (.bl true)), ρ', S) by
      obtain ⟨ρ', q⟩ := q
      have := trim_ret (n := 4) (b := b_law_same FX) (ws := [.val d, .val d]) q
      rw [List.take_length] at this
      exact this
    have tT := isT_test (i := 1) (ρ := [some (.val d), some (.val d), none, none]) (S := S) (d := d) rfl z.isE
    have tB := isE_ok (T := "bool") (i := 1) (ρ := [some (.val d), some (.val d), none, none]) (S := S) (d := d) rfl z.isE
    have tB0 := isE_ok (T := "bool") (i := 0) (ρ := [some (.val d), some (.val d), none, none]) (S := S) (d := d) rfl z.isE
    have tI0 := isE_ok (T := "int") (i := 0) (ρ := [some (.val d), some (.val d), none, none]) (S := S) (d := d) rfl z.isE
    have tT0 := isE_ok (T := "tuple") (i := 0) (ρ := [some (.val d), some (.val d), none, none]) (S := S) (d := d) rfl z.isE
    cases z with
    | bl _ b =>
      rw [show (D.bl b).ty = "bool" from rfl, isB_bool_bl] at tB tB0
      have n0 : mTest (mNone false (mVar 1)) [some (.val (.bl b)), some (.val (.bl b)), none, none] S = some (false, S) := rfl
      have e := (bin_ok (f := fEq) (a := mVar 0) (b := mVar 1) (ρ := [some (.val (.bl b)), some (.val (.bl b)), none, none]) (S := S) (S1 := S) (S2 := S) rfl rfl).trans (eq_bl b S)
      refine ⟨_, (seq_nx (if_false_ok tT)).trans (seq_ret ((if_true_ok ((or_f n0).trans (test_ok tB))).trans (seq_ret (ret_ok ?_))))⟩
      unfold mIf
      rw [n0]
      exact (mand_ok tB0).trans e
    | int _ i =>
      rw [show (D.int i).ty = "int" from rfl, isB_bool_int] at tB tB0
      rw [show (D.int i).ty = "int" from rfl, isB_int_int] at tI0
      have n0 : mTest (mNone false (mVar 1)) [some (.val (.int i)), some (.val (.int i)), none, none] S = some (false, S) := rfl
      have e := (bin_ok (f := fEq) (a := mVar 0) (b := mVar 1) (ρ := [some (.val (.int i)), some (.val (.int i)), none, none]) (S := S) (S1 := S) (S2 := S) rfl rfl).trans (eq_int i i S)
      rw [decide_eq_true rfl] at e
      have nb : mNot (mIsE "bool" (mVar 0)) [some (.val (.int i)), some (.val (.int i)), none, none] S = some (.val (.bl true), S) := by
        unfold mNot
        rw [tB0]
        rfl
      exact ⟨_, (seq_nx (if_false_ok tT)).trans ((seq_nx (if_false_ok ((or_f n0).trans (test_ok tB)))).trans (seq_ret (ret_ok ((mand_ok tI0).trans ((mand_ok nb).trans e)))))⟩
    | tup hl q =>
      rename_i h' ds
      rw [show (D.tup ds).ty = "tuple" from rfl, isB_tt] at tT0
      have el := (bin_ok (f := fEq) (a := mCall fLen (aCons (mVar 0) aNil)) (b := mCall fLen (aCons (mVar 1) aNil)) (ρ := [some (.val (.tup ds)), some (.val (.tup ds)), none, none]) (S := S) (S1 := S) (S2 := S) rfl rfl).trans (eq_int _ _ S)
      rw [decide_eq_true rfl] at el
      have hc := mLc_mapT (tg := .tp ((.nm 2) :: ((.nm 3) :: []))) (vs := [2, 3]) (it := iZipM (aCons (mVar 0) (aCons (mVar 1) aNil))) (m := mCall FX (aCons (mVar 2) (aCons (mVar 3) aNil))) (ρ := [some (.val (.tup ds)), some (.val (.tup ds)), none, none]) (S := S) (xs := ds) (enc := fun d => D.tup [d, d]) (out := fun _ => .bl true) (by rw [← zipD_self]; simp [iZipM, aCons, aNil, mVar, tItems]) (fun d hd => ⟨_, rfl, fun S => (call2 rfl rfl).trans (ih h' S (by omega) (q d hd))⟩) (sz40 hl)
      have ea : mCall fAll (aCons (mLc (iZipM (aCons (mVar 0) (aCons (mVar 1) aNil))) (.tp ((.nm 2) :: ((.nm 3) :: []))) tYesM (mCall FX (aCons (mVar 2) (aCons (mVar 3) aNil))) [2, 3]) aNil) [some (.val (.tup ds)), some (.val (.tup ds)), none, none] S = some (.val (.bl true), S) := by
        refine (call_ok (acons_ok hc rfl)).trans ?_
        have : bls? (ds.map fun _ => D.bl true) = some (ds.map fun _ => true) := bls_map (fun _ => true) ds
        simp [fAll, lItems, this]
      exact ⟨_, seq_ret ((if_true_ok tT).trans (seq_ret (ret_ok ((mand_ok tT0).trans ((mand_ok el).trans ea)))))⟩
end Lib

set_option Elab.async false
set_option linter.all false
set_option maxRecDepth 100000
set_option autoImplicit false
set_option maxHeartbeats 4000000
namespace Lib
open PySem PySem.Spec L2 HM
open PyProof.Rows hiding St
theorem expr_ok {m : EM} {ρ : Rho} {S S1 : Sto} {w : W} (h : m ρ S = some (w, S1)) : sExpr m ρ S = some (.nx, ρ, S1) := by
  unfold sExpr
  rw [h]
/-! ### worths and energy products -/
theorem tab_rows {n m k : Nat} {f : Nat → Nat → Rat} (h : ∀ i j, i < n → j < m → HB (f i j) k) : ∀ r ∈ tab n m f, r.length ≤ m ∧ ∀ q ∈ r, HB q k := fun r hr => by
  obtain ⟨i, hi, rfl⟩ := mem_tab hr
  refine ⟨by simp, fun q hq => ?_⟩
  obtain ⟨j, hj, rfl⟩ := List.mem_map.mp hq
  exact h i j hi (List.mem_range.mp hj)
/-- the product of a row and a table's numbers at another row -/
def enQ (t : List (List Rat)) (x y : List Rat) : Rat := dotQ x (t.map fun r => dotQ r y)
section
variable {n : Nat} {t : List (List Rat)} {x y : List Rat}
theorem map_hb (hn : n ≤ 4) (ht : ∀ r ∈ t, r.length ≤ n ∧ ∀ q ∈ r, HB q 245) (hy : ∀ q ∈ y, HB q 20) : ∀ z ∈ t.map (fun r => dotQ r y), HB z 1065 := fun z hz => by
  obtain ⟨r, hr, rfl⟩ := List.mem_map.mp hz
  obtain ⟨h1, h2⟩ := ht r hr
  exact dot_hb (n := 4) (by omega) h2 hy (by decide)
theorem en_hb (hn : n ≤ 4) (ht : ∀ r ∈ t, r.length ≤ n ∧ ∀ q ∈ r, HB q 245) (hx : ∀ q ∈ x, HB q 20) (hxl : x.length ≤ n) (hy : ∀ q ∈ y, HB q 20) : HB (enQ t x y) 4345 := dot_hb (n := 4) (by omega) hx (map_hb hn ht hy) (by decide)
theorem pen_ok (hn : n ≤ 4) (htl : t.length ≤ n) (ht : ∀ r ∈ t, r.length ≤ n ∧ ∀ q ∈ r, HB q 245) (hx : ∀ q ∈ x, HB q 20) (hxl : x.length ≤ n) (hy : ∀ q ∈ y, HB q 20) (S : Sto) :
    F_applied [.val (gridD t), .val (rowD y)] S = some (.val (rowD (t.map fun r => dotQ r y)), S) ∧ F_dot [.val (rowD x), .val (rowD (t.map fun r => dotQ r y))] S = some (.val (fr (enQ t x y)), S) := by
  have m1 := map_hb hn ht hy
  have sm : ∀ {q : Rat} {k : Nat}, HB q k → k ≤ 4400 → Sm q := fun h hk => hb_mono h hk
  refine ⟨papplied_ok (fun r hr => ⟨fun q hq => sm ((ht r hr).2 q hq) (by decide), ?_, sm (m1 _ (List.mem_map.mpr ⟨r, hr, rfl⟩)) (by decide)⟩) (fun q hq => sm (hy q hq) (by decide)) (by omega) S, pdot_ok (fun q hq => sm (hx q hq) (by decide)) (fun q hq => sm (m1 q hq) (by decide)) (by omega) (sm (en_hb hn ht hx hxl hy) (by decide)) S⟩
  have := (ht r hr).1
  omega
theorem law_en_ok (hn : n ≤ 4) (htl : t.length ≤ n) (ht : ∀ r ∈ t, r.length ≤ n ∧ ∀ q ∈ r, HB q 245) (hx : ∀ q ∈ x, HB q 20) (hxl : x.length ≤ n) (hy : ∀ q ∈ y, HB q 20) (S : Sto) :
    F_law_go [.val (gridD t), .val (rowD y)] S = some (.val (rowD (t.map fun r => dotQ r y)), S) ∧ F_law_dot [.val (rowD x), .val (rowD (t.map fun r => dotQ r y))] S = some (.val (fr (enQ t x y)), S) := by
  have hl : x.length * (20 + 1065 + 1) ≤ 4 * (20 + 1065 + 1) := Nat.mul_le_mul_right _ (by omega)
  exact ⟨go_ok (k := 245) (j := 20) (n := 4) (fun r hr => ⟨by have := (ht r hr).1; omega, (ht r hr).2⟩) hy (by decide) (sz40 (by omega)) S, dot_ok (k := 20) (j := 1065) hx (map_hb hn ht hy) (by omega) S⟩
end
theorem law_at_ok {n : Nat} {t : List (List Rat)} {y : List Rat} (hn : n ≤ 4) (htl : t.length ≤ n) (ht : ∀ r ∈ t, r.length ≤ n ∧ ∀ q ∈ r, HB q 245) (hy : ∀ q ∈ y, HB q 20) (hyl : y.length ≤ n) (S : Sto) : F_law_at [.val (gridD t), .val (rowD y)] S = some (.val (fr (enQ t y y)), S) := by
  obtain ⟨a, b⟩ := law_en_ok hn htl ht hy hyl hy S
  have run : b_law_at [some (.val (gridD t)), some (.val (rowD y))] S = some (.ret (.val (fr (enQ t y y))), [some (.val (gridD t)), some (.val (rowD y))], S) :=
    seq_ret (ret_ok ((call_ok (acons_ok rfl (acons_ok ((call2 rfl rfl).trans a) rfl))).trans b))
  have := trim_ret (n := 2) (b := b_law_at) (ws := [.val (gridD t), .val (rowD y)]) run
  rw [List.take_length] at this
  exact this
theorem worth_at_ok {n : Nat} {t : List (List Rat)} {y : List Rat} (hn : n ≤ 4) (htl : t.length ≤ n) (ht : ∀ r ∈ t, r.length ≤ n ∧ ∀ q ∈ r, HB q 245) (hy : ∀ q ∈ y, HB q 20) (hyl : y.length ≤ n) (S : Sto) : F_worth_at [.val (gridD t), .val (rowD y)] S = some (.val (fr (enQ t y y)), S) := by
  obtain ⟨a, b⟩ := pen_ok hn htl ht hy hyl hy S
  have run : b_worth_at [some (.val (gridD t)), some (.val (rowD y))] S = some (.ret (.val (fr (enQ t y y))), [some (.val (gridD t)), some (.val (rowD y))], S) :=
    seq_ret (ret_ok ((call_ok (acons_ok rfl (acons_ok ((call2 rfl rfl).trans a) rfl))).trans b))
  have := trim_ret (n := 2) (b := b_worth_at) (ws := [.val (gridD t), .val (rowD y)]) run
  rw [List.take_length] at this
  exact this
theorem tab_len {n m : Nat} (f : Nat → Nat → Rat) : (tab n m f).length = n := by
  unfold tab
  simp
theorem glen (t : List (List Rat)) {n : Nat} (h : t.length = n) (S : Sto) : fLen [.val (gridD t)] S = some (.val (.int (n : Int)), S) := by
  rw [grid_len, h]
theorem check_arg {n : Nat} {t : List (List Rat)} {x : List Rat} {i j : Nat} {ρ : Rho} {S : Sto} (hi : ρ[i]? = some (some (.val (rowD x)))) (hj : ρ[j]? = some (some (.val (gridD t)))) (ht : t.length = n) (hx : ∀ q ∈ x, HB q 20) (hl : x.length = n) (hn : n ≤ 1000) :
    sExpr (mCall F_check_row (aCons (mVar i) (aCons (mCall fLen (aCons (mVar j) aNil)) aNil))) ρ S = some (.nx, ρ, S) :=
  expr_ok ((call_ok (acons_ok (var_ok hi) (acons_ok ((call1 hj).trans (glen t ht S)) rfl))).trans (check_row_ok hx hl hn S))
theorem worth_ok {n : Nat} {f : Nat → Nat → Rat} {y : List Rat} (hn : 0 < n ∧ n ≤ 4) (h : ∀ i j, i < n → j < n → HB (f i j) 245) (sym : ∀ i j, i < n → j < n → f i j = f j i) (hy : ∀ q ∈ y, HB q 20) (hyl : y.length = n) (S : Sto) : F_worth [.val (gridD (tab n n f)), .val (rowD y)] S = some (.val (fr (enQ (tab n n f) y y)), S) := by
  have a := check_form_ok (n := n) (f := f) (by omega) (fun i j hi hj => hb_mono (h i j hi hj) (by decide)) sym S
  have b := worth_at_ok (y := y) hn.2 (by rw [tab_len]; exact Nat.le_refl _) (tab_rows h) hy (by omega) S
  have run : b_worth [some (.val (gridD (tab n n f))), some (.val (rowD y))] S = some (.ret (.val (fr (enQ (tab n n f) y y))), [some (.val (gridD (tab n n f))), some (.val (rowD y))], S) :=
    (seq_nx (expr_ok ((call1 rfl).trans a))).trans ((seq_nx (check_arg rfl rfl (tab_len f) hy hyl (by omega))).trans (seq_ret (ret_ok ((call2 rfl rfl).trans b))))
  have := trim_ret (n := 2) (b := b_worth) (ws := [.val (gridD (tab n n f)), .val (rowD y)]) run
  rw [List.take_length] at this
  exact this
/-- a drawn table -/
structure TabOk (n : Nat) (ls : List (Rat × List Rat)) : Prop where
  len : ls.length = n
  row : ∀ (i : Nat) p, ls[i]? = some p → StairRow n i p
theorem TabOk.hb {n : Nat} {ls : List (Rat × List Rat)} (z : TabOk n ls) : ∀ p ∈ ls, HB p.1 20 ∧ ∀ q ∈ p.2, HB q 20 := fun p hp => by
  obtain ⟨i, hi⟩ := List.getElem?_of_mem hp
  have := z.row i p hi
  exact ⟨this.hb, this.all⟩
theorem TabOk.ent {n : Nat} {ls : List (Rat × List Rat)} (z : TabOk n ls) (hn : n ≤ 4) : ∀ i j, i < n → j < n → HB (sqs ls i j) 245 := fun i j _ _ => hb_mono (hb_sqs (by decide) z.hb i j) (by rw [z.len]; omega)
theorem energy_ok {n : Nat} {ls : List (Rat × List Rat)} {x y : List Rat} (hn : 0 < n ∧ n ≤ 4) (z : TabOk n ls) (hx : ∀ q ∈ x, HB q 20) (hxl : x.length = n) (hy : ∀ q ∈ y, HB q 20) (hyl : y.length = n) (S : Sto) : F_energy_product [.val (gridD (tab n n (sqs ls))), .val (rowD x), .val (rowD y)] S = some (.val (fr (enQ (tab n n (sqs ls)) x y)), S) := by
  have a := check_table_ok (n := n) (by omega) z.len (stair_of (n := n) (fun i p hi => by rw [Nat.zero_add]; exact z.row i p hi)) (allSm_of (by rw [z.len]; omega) z.hb) (fun p hp => by
    obtain ⟨i, hi⟩ := List.getElem?_of_mem hp
    exact (z.row i p hi).pos) S
  obtain ⟨b, c⟩ := pen_ok (n := n) hn.2 (by rw [tab_len]; exact Nat.le_refl _) (tab_rows (z.ent hn.2)) hx (by omega) hy S
  have tl := tab_len (n := n) (m := n) (sqs ls)
  generalize tab n n (sqs ls) = t at *
  have run : b_energy_product [some (.val (gridD t)), some (.val (rowD x)), some (.val (rowD y))] S = some (.ret (.val (fr (enQ t x y))), [some (.val (gridD t)), some (.val (rowD x)), some (.val (rowD y))], S) :=
    (seq_nx (expr_ok ((call1 rfl).trans a))).trans ((seq_nx (check_arg rfl rfl tl hx hxl (by omega))).trans ((seq_nx (check_arg rfl rfl tl hy hyl (by omega))).trans (seq_ret (ret_ok ((call_ok (acons_ok rfl (acons_ok ((call2 rfl rfl).trans b) rfl))).trans c)))))
  have := trim_ret (n := 3) (b := b_energy_product) (ws := [.val (gridD t), .val (rowD x), .val (rowD y)]) run
  rw [List.take_length] at this
  exact this
end Lib

set_option Elab.async false
set_option linter.all false
set_option maxRecDepth 100000
set_option autoImplicit false
set_option maxHeartbeats 4000000
namespace Lib
open PySem PySem.Spec L2 HM
open PyProof.Rows hiding St
/-! ### a value of any kind is told as the law finds it -/
theorem anyB_eq (d : D) : anyB d = match d with
    | .tup ds => decide (0 < ds.length) && decide (ds.length < 6) && gridB ds.length d
    | _ => false := by
  cases d with
  | tup ds =>
    show (decide (1 ≤ ds.length ∧ ds.length ≤ 5) && gridB ds.length (.tup ds)) = (decide (0 < ds.length) && decide (ds.length < 6) && gridB ds.length (.tup ds))
    congr 1
    by_cases h0 : 0 < ds.length <;> by_cases h1 : ds.length < 6
    · rw [decide_eq_true h0, decide_eq_true h1]; exact decide_eq_true (by omega)
    · rw [decide_eq_false h1, Bool.and_false]; exact decide_eq_false (by omega)
    · rw [decide_eq_false h0, Bool.false_and]; exact decide_eq_false (by omega)
    · rw [decide_eq_false h0, Bool.false_and]; exact decide_eq_false (by omega)
  | _ => rfl
def dueM : EM := (mAnd (mIsE "tuple" (mVar 1)) (mAnd (mChain fLt fLt (mC (.int 0)) (mCall fLen (aCons (mVar 1) aNil)) (mC (.int 6))) (mCall F_law_is_grid (aCons (mVar 1) (aCons (mCall fLen (aCons (mVar 1) aNil)) aNil)))))
theorem due_ok {d : D} {k : Nat} (h : AskG d k) (hk : k < 9000) {ρ : Rho} {S : Sto} (hi : ρ[1]? = some (some (.val d))) : dueM ρ S = some (.val (.bl (anyB d)), S) := by
  have tT := isE_ok (T := "tuple") (S := S) hi h.top
  rw [isB_tup h.top] at tT
  cases hB : tupB d with
  | false =>
    rw [hB] at tT
    have : anyB d = false := by
      cases d <;> first | rfl | cases hB
    rw [this]
    exact mand_no tT
  | true =>
    rw [hB] at tT
    obtain ⟨ds, rfl⟩ := tup_of hB
    have g := is_grid_ok (n := ds.length) h hk S
    have el : mCall fLen (aCons (mVar 1) aNil) ρ S = some (.val (.int (ds.length : Int)), S) := (call1 hi).trans rfl
    have ec : mCall F_law_is_grid (aCons (mVar 1) (aCons (mCall fLen (aCons (mVar 1) aNil)) aNil)) ρ S = some (.val (.bl (gridB ds.length (.tup ds))), S) := (call_ok (acons_ok (var_ok hi) (acons_ok el rfl))).trans g
    have ch : mChain fLt fLt (mC (.int 0)) (mCall fLen (aCons (mVar 1) aNil)) (mC (.int 6)) ρ S = some (.val (.bl (decide (0 < ds.length) && decide (ds.length < 6))), S) := by
      unfold mChain
      rw [show mC (.int 0) ρ S = some (.val (.int 0), S) from rfl]
      simp only []
      rw [el]
      simp only [lt_int]
      by_cases h0 : 0 < ds.length
      · have h0' : (0 : Int) < (ds.length : Int) := by omega
        rw [decide_eq_true h0, decide_eq_true h0']
        show fLt (.val (.int (ds.length : Int))) (.val (.int 6)) S = _
        rw [lt_int, Bool.true_and]
        by_cases h6 : ds.length < 6
        · rw [decide_eq_true h6, decide_eq_true (show (ds.length : Int) < 6 by omega)]
        · rw [decide_eq_false h6, decide_eq_false (show ¬ (ds.length : Int) < 6 by omega)]
      · have h0' : ¬ (0 : Int) < (ds.length : Int) := by omega
        rw [decide_eq_false h0, decide_eq_false h0']
        rfl
    rw [anyB_eq]
    refine (mand_ok tT).trans ?_
    show mAnd _ _ ρ S = some (.val (.bl (decide (0 < ds.length) && decide (ds.length < 6) && gridB ds.length (.tup ds))), S)
    cases hc : decide (0 < ds.length) && decide (ds.length < 6) with
    | true =>
      rw [hc] at ch
      exact (mand_ok ch).trans ec
    | false =>
      rw [hc] at ch
      exact mand_no ch
def askE : SM := (sSeq
  (sSet 3 dueM)
  (sSeq
  (sRet (mCall (F_law_same 20) (aCons (mTup (aCons (mCall F_is_table (aCons (mVar 1) aNil)) (aCons (mCallK [0] F_is_table (aCons (mVar 1) aNil)) aNil))) (aCons (mTup (aCons (mVar 3) (aCons (mVar 3) aNil))) aNil))))
  sNx))
theorem tup2 {m n : EM} {ρ : Rho} {S S1 S2 : Sto} {a b : D} (h : m ρ S = some (.val a, S1)) (h2 : n ρ S1 = some (.val b, S2)) : mTup (aCons m (aCons n aNil)) ρ S = some (.val (.tup [a, b]), S2) := by
  unfold mTup
  rw [acons_ok h (acons_ok h2 rfl)]
  simp [vals?, sz2]
theorem callK1 {F : FM} {i : Nat} {ρ : Rho} {S : Sto} {w : W} (h : ρ[i]? = some (some w)) : mCallK [0] F (aCons (mVar i) aNil) ρ S = F [w] S := by
  unfold mCallK
  rw [acons_ok (var_ok h) rfl]
  rfl
theorem askE_ok {d : D} {k : Nat} (h : AskG d k) (hk : k < 9000) {w0 w2 w3 : Option W} (S : Sto) : ∃ ρ', askE [w0, some (.val d), w2, w3] S = some (.ret (.val (.bl true)), ρ', S) := by
  have a := is_table_ok h S
  have du := due_ok h hk (ρ := [w0, some (.val d), w2, w3]) (S := S) rfl
  have sm := same_self 20 1 S (by decide) (sf_pair (.bl 0 (anyB d)) (.bl 0 (anyB d)))
  generalize anyB d = b at *
  have e1 := tup2 ((call1 (F := F_is_table) (i := 1) (ρ := [w0, some (.val d), w2, some (.val (.bl b))]) rfl).trans a) ((callK1 (F := F_is_table) (i := 1) (ρ := [w0, some (.val d), w2, some (.val (.bl b))]) rfl).trans a)
  have e2 := tup2 (m := mVar 3) (n := mVar 3) (ρ := [w0, some (.val d), w2, some (.val (.bl b))]) (S := S) (S1 := S) (S2 := S) (a := .bl b) (b := .bl b) rfl rfl
  exact ⟨_, (seq_nx (set_ok du)).trans (seq_ret (ret_ok ((call_ok (acons_ok e1 (acons_ok e2 rfl))).trans sm)))⟩
end Lib

set_option Elab.async false
set_option linter.all false
set_option maxRecDepth 100000
set_option autoImplicit false
set_option maxHeartbeats 4000000
namespace Lib
open PySem PySem.Spec L2 HM
open PyProof.Rows hiding St
theorem forL_nx {tg : Tg} {b : SM} {d : D} {r : List D} {ρ ρ1 ρ2 : Rho} {S S2 : Sto} (h : bindT tg (.val d) ρ = some ρ1) (h2 : b ρ1 S = some (.nx, ρ2, S2)) : forL tg b (d :: r) ρ S = forL tg b r ρ2 S2 := by
  rw [forL, h]
  simp only []
  rw [h2]
def bendB : SM := (sSeq
  (sSet 1 (mCall (F_law_bent 20) (aCons (mVar 0) (aCons (mVar 1) aNil))))
  sNx)
theorem bend_loop {l : Nat} : ∀ (js : List D) {k L h : Nat} {d : D} {S : Sto} {U : List D} {N : Int} {w2 w3 : Option W}, 98 ≤ k → k + 3 * js.length ≤ 2000 → 1 ≤ L → (L + 1) * 2 ^ js.length ≤ 400 → h + 3 * js.length ≤ 19 → Nc k L h d → S[l]? = some (some U) → UrnOk N U → N + 100 * (js.length : Int) ≤ 600000 →
    ∃ (d' : D) (k' L' : Nat) (U' : List D) (w2' : Option W), forL (.nm 2) bendB js [some (.loc l), some (.val d), w2, w3] S = some (.nx, [some (.loc l), some (.val d'), w2', w3], S.set l (some U')) ∧ Nc k' L' 19 d' ∧ k' ≤ 2000 ∧ L' ≤ 400 ∧ UrnOk (N + 100 * (js.length : Int)) U'
  | [], k, L, h, d, S, U, N, w2, w3, h1, h2, h3, h4, h5, z, hU, hu, hN => by
    refine ⟨d, k, L, U, w2, ?_, z.mono (Nat.le_refl _) (Nat.le_refl _) (by simpa using h5), by simpa using h2, by simp at h4; omega, hu.mono (by simp)⟩
    rw [set_same hU]
    rfl
  | j :: r, k, L, h, d, S, U, N, w2, w3, h1, h2, h3, h4, h5, z, hU, hu, hN => by
    rw [List.length_cons] at *
    have p1 : 1 ≤ 2 ^ r.length := Nat.one_le_two_pow
    have p2 : (L + 1) * 2 ^ (r.length + 1) = (2 * L + 1 + 1) * 2 ^ r.length := by
      rw [Nat.pow_succ, Nat.mul_comm (2 ^ r.length) 2, ← Nat.mul_assoc]
      congr 1
      omega
    have p3 := Nat.mul_le_mul_left (2 * L + 1 + 1) p1
    rw [p2] at h4
    obtain ⟨d1, U1, e1, z1, hU1⟩ := bent_ok (k := k) (L := L) ⟨h1, by omega⟩ ⟨h3, by omega⟩ 20 h (by omega) z hU hu (by omega)
    have hs : bendB [some (.loc l), some (.val d), some (.val j), w3] S = some (.nx, [some (.loc l), some (.val d1), some (.val j), w3], S.set l (some U1)) := (seq_nx (set_ok (i := 1) ((call2 rfl rfl).trans e1))).trans rfl
    obtain ⟨d', k', L', U', w2', e, z', a, b, hu'⟩ := bend_loop r (w2 := some (.val j)) (w3 := w3) (by omega) (by omega) (by omega) h4 (by omega) z1 (set_at hU) hU1 (N := N + 4 * (h : Int) + 4) (by omega)
    rw [List.set_set] at e
    exact ⟨d', k', L', U', w2', (forL_nx rfl hs).trans e, z', a, b, hu'.mono (by omega)⟩
def drawM : EM := (mIf (mTest (mBin fGt (mCall F_law_take (aCons (mVar 0) (aCons (mC (.int 8)) aNil))) (mC (.int 0)))) (mCall F_law_square (aCons (mVar 0) (aCons (mBin fPlus (mC (.int 1)) (mCall F_law_take (aCons (mVar 0) (aCons (mC (.int 6)) aNil)))) aNil))) (mCall F_law_odd (aCons (mVar 0) aNil)))
theorem draw_ok {l : Nat} {S : Sto} {U : List D} {N : Int} {w1 w2 w3 : Option W} (hU : S[l]? = some (some U)) (hu : UrnOk N U) (hN : N ≤ 400000) :
    ∃ (d : D) (U' : List D), drawM [some (.loc l), w1, w2, w3] S = some (.val d, S.set l (some U')) ∧ Nc 101 6 3 d ∧ UrnOk (N + 400) U' := by
  obtain ⟨t, U1, e1, ⟨t0, t1⟩, hU1⟩ := take_ok (lim := 8) hU hu (by omega) (by decide) (by decide)
  have g : mTest (mBin fGt (mCall F_law_take (aCons (mVar 0) (aCons (mC (.int 8)) aNil))) (mC (.int 0))) [some (.loc l), w1, w2, w3] S = some (decide (0 < t), S.set l (some U1)) := test_ok ((bin_ok ((call_vc rfl).trans e1) rfl).trans (gt_int _ _ _))
  unfold drawM mIf
  rw [g]
  by_cases ht : 0 < t
  · rw [decide_eq_true ht]
    obtain ⟨j, U2, e2, ⟨j0, j1⟩, hU2⟩ := take_ok (lim := 6) (set_at hU) hU1 (by omega) (by decide) (by decide)
    rw [List.set_set] at e2
    obtain ⟨m, hm⟩ : ∃ m : Nat, 1 + j = (m : Int) := ⟨(1 + j).toNat, by omega⟩
    obtain ⟨q, U3, e3, c1, c2, hU3⟩ := square_ok (n := m) (set_at hU) hU2 (by omega) (by omega)
    rw [List.set_set] at e3
    have ep : mBin fPlus (mC (.int 1)) (mCall F_law_take (aCons (mVar 0) (aCons (mC (.int 6)) aNil))) [some (.loc l), w1, w2, w3] (S.set l (some U1)) = some (.val (.int (m : Int)), S.set l (some U2)) := by
      refine (bin_ok rfl ((call_vc rfl).trans e2)).trans ?_
      rw [← hm]
      rfl
    refine ⟨gridD q, U3, (call_ok (acons_ok rfl (acons_ok ep rfl))).trans e3, ?_, hU3.mono (by omega)⟩
    exact nc_grid (fun x hx => ⟨fun y hy => hb_mono ((c2 x hx).2 y hy) (by decide), by rw [(c2 x hx).1]; omega⟩) (by rw [c1]; omega) (by decide)
  · rw [decide_eq_false ht]
    obtain ⟨d, U2, e2, z, hU2⟩ := odd_ok (set_at hU) hU1 (by omega)
    rw [List.set_set] at e2
    exact ⟨d, U2, (call1 rfl).trans e2, z.mono (Nat.le_refl _) (by decide) (Nat.le_refl _), hU2.mono (by omega)⟩
theorem is_any_right_ok {l : Nat} {S : Sto} {U : List D} {N : Int} (hU : S[l]? = some (some U)) (hu : UrnOk N U) (hN : N ≤ 300000) :
    ∃ U' : List D, F_law_is_any_right [.loc l] S = some (.val (.bl true), S.set l (some U')) ∧ UrnOk (N + 1000) U' := by
  obtain ⟨d, U1, e1, z1, hU1⟩ := draw_ok (w1 := none) (w2 := none) (w3 := none) hU hu (by omega)
  obtain ⟨t, U2, e2, ⟨t0, t1⟩, hU2⟩ := take_ok (lim := 3) (set_at hU) hU1 (by omega) (by decide) (by decide)
  rw [List.set_set] at e2
  obtain ⟨m, rfl⟩ : ∃ m : Nat, t = (m : Int) := ⟨t.toNat, by omega⟩
  have hm : m ≤ 2 := by omega
  have hp : (6 + 1) * 2 ^ m ≤ 400 := by
    have : 2 ^ m ≤ 2 ^ 2 := Nat.pow_le_pow_right (by decide) hm
    omega
  have er := range_ok (k := m) (ρ := [some (.loc l), some (.val d), none, none]) (e := mCall F_law_take (aCons (mVar 0) (aCons (mC (.int 3)) aNil))) ((call_vc rfl).trans e2) (by omega)
  obtain ⟨d', k', L', U3, w2', e3, z3, hk', hL', hU3⟩ := bend_loop (l := l) (upFrom 0 m) (k := 101) (L := 6) (h := 3) (d := d) (w2 := none) (w3 := none) (by decide) (by rw [upFrom_length]; omega) (by decide) (by rw [upFrom_length]; exact hp) (by rw [upFrom_length]; omega) z1 (set_at hU) hU2 (by rw [upFrom_length]; omega)
  rw [List.set_set] at e3
  rw [upFrom_length] at hU3
  obtain ⟨ρ', e4⟩ := askE_ok (z3.askG (by omega)) (by omega) (w0 := some (.loc l)) (w2 := w2') (w3 := none) (S.set l (some U3))
  have run : b_law_is_any_right [some (.loc l), none, none, none] S = some (.ret (.val (.bl true)), ρ', S.set l (some U3)) := (seq_nx (set_ok e1)).trans ((seq_nx (for_ok er e3)).trans e4)
  have := trim_ret (n := 4) (b := b_law_is_any_right) (ws := [.loc l]) run
  rw [set_take] at this
  exact ⟨U3, this, hU3.mono (by omega)⟩
end Lib

set_option Elab.async false
set_option linter.all false
set_option maxRecDepth 100000
set_option autoImplicit false
set_option maxHeartbeats 4000000
namespace Lib
open PySem PySem.Spec L2 HM
open PyProof.Rows hiding St
/-! ### the urn, whatever its number -/
def urnL : SM := (sSeq
  (sSet 2 (mBin fMod (mCall fInt (aCons (mBin fPlus (mBin fPlus (mBin fMulX (mVar 2) (mC (.int 58313))) (mBin fMod (mCall fInt (aCons (mVar 3) aNil)) (mC (.int 2147483549)))) (mC (.int 11))) aNil)) (mC (.int 2147483497))))
  sNx)
def urnB (c : Int) : SM := (sSeq
  (sSet 2 (mBin fPlus (mC (.int c)) (mBin fMulX (mC (.int 6151)) (mVar 1))))
  (sSeq
  (sFor (iSeq (mCut (mVar 0) oNone (oSome (mC (.int 8))))) (.nm 3) urnL)
  (sSeq
  (sSet 4 (mIf (mTest (mBin fLt (mVar 1) (mCall fLen (aCons (mVar 0) aNil)))) (mCall fInt (aCons (mBin fIx (mVar 0) (mVar 1)) aNil)) (mC (.int 0))))
  (sSeq
  (sSet 2 (mBin fMod (mCall fInt (aCons (mBin fPlus (mBin fPlus (mBin fMulX (mVar 2) (mC (.int 29))) (mBin fMulX (mBin fMod (mCall fInt (aCons (mVar 4) aNil)) (mC (.int 2147483549))) (mC (.int 30011)))) (mC (.int 3))) aNil)) (mC (.int 2147483497))))
  (sSeq
  (sRet (mCell (aCons (mIf (mtOr (mTest (mBin fLt (mVar 4) (mC (.int 0)))) (mTest (mBin fGe (mVar 4) (mBin fPow (mC (.int 10)) (mC (.int 15)))))) (mCall (fInt1 iAbs) (aCons (mVar 4) aNil)) (mC (.int 0))) (aCons (mVar 2) (aCons (mC (.int 0)) (aCons (mC (.int 1)) aNil))))))
  sNx)))))
theorem cut_ints (ns : List Int) : ∃ l : List Int, HM.cutD (ns.map D.int) none (some 8) = l.map D.int := by
  unfold HM.cutD
  exact ⟨_, by rw [← List.map_drop, ← List.map_take]⟩
theorem cMul_of {i j : Int} (hi : i.natAbs < 2 ^ 64) (hj : j.natAbs < 2 ^ 64) : cMul i j = true := cMul_bits (k := 64) (l := 64) hi hj (by decide)
theorem urnL_ok (S : Sto) (w0 w1 w4 : Option W) : ∀ (l : List Int) (m : Int) (w3 : Option W), (0 ≤ m ∧ m < 2 ^ 40) → ∃ m' w3', forL (.nm 3) urnL (l.map D.int) [w0, w1, some (.val (.int m)), w3, w4] S = some (.nx, [w0, w1, some (.val (.int m')), w3', w4], S) ∧ 0 ≤ m' ∧ m' < 2 ^ 40
  | [], m, w3, h => ⟨m, w3, rfl, h⟩
  | i :: r, m, w3, h => by
    have e1 := fun S => mulX_int (i := m) (j := 58313) (cMul_of (by omega) (by decide)) S
    obtain ⟨z, hz⟩ : ∃ z, z = (m * 58313 + i % 2147483549 + 11) % 2147483497 := ⟨_, rfl⟩
    have z0 : 0 ≤ z := by rw [hz]; exact Int.emod_nonneg _ (by decide)
    have z1 : z < 2147483497 := by rw [hz]; exact Int.emod_lt_of_pos _ (by decide)
    obtain ⟨m', w3', e2, hm⟩ := urnL_ok S w0 w1 w4 r z (some (.val (.int i))) ⟨z0, by omega⟩
    refine ⟨m', w3', ?_, hm⟩
    have eb : urnL [w0, w1, some (.val (.int m)), some (.val (.int i)), w4] S = some (.nx, [w0, w1, some (.val (.int z)), some (.val (.int i)), w4], S) := by
      unfold urnL
      simp [sSeq, sSet, mBin, mVar, mC, mCall, aCons, aNil, fPlus, fAdd, fMod, fI, fInt, e1, ← hz, sNx]
    simp only [List.map_cons, forL, bindT, List.set_cons_zero, List.set_cons_succ, eb, e2]
theorem urnB_ok {c : Int} (hc : 0 ≤ c ∧ c < 2 ^ 38) (ns : List Int) (t : Nat) (ht : t ≤ 1000) (S : Sto) : ∃ U, fnM 5 (urnB c) [.val (.scr ns), .val (.int (t : Int))] S = some (.loc S.length, S ++ [some U]) ∧ UrnOk 0 U := by
  obtain ⟨l, hl⟩ := cut_ints ns
  have e0 := mulX_int (i := 6151) (j := (t : Int)) (cMul_of (by decide) (by omega)) S
  obtain ⟨m0, hm0⟩ : ∃ m0, m0 = c + 6151 * (t : Int) := ⟨_, rfl⟩
  obtain ⟨m, w3, e1, hm1, hm2⟩ := urnL_ok S (some (.val (.scr ns))) (some (.val (.int (t : Int)))) none l m0 none (by omega)
  obtain ⟨own, ho⟩ : ∃ own : Int, (if (t : Int) < ((ns.map D.int).length : Int) then L2.atI (ns.map D.int) (t : Int) else some (.int 0)) = some (.int own) := by
    by_cases h : (t : Int) < ((ns.map D.int).length : Int)
    · rw [if_pos h]
      have h2 : t < ns.length := by rw [List.length_map] at h; omega
      exact ⟨ns[t], atI_nat (by rw [List.getElem?_map, List.getElem?_eq_getElem h2]; rfl)⟩
    · rw [if_neg h]; exact ⟨0, rfl⟩
  have e2 := mulX_int (i := m) (j := 29) (cMul_of (by omega) (by decide)) S
  have r0 : 0 ≤ own % 2147483549 := Int.emod_nonneg _ (by decide)
  have r1 : own % 2147483549 < 2147483549 := Int.emod_lt_of_pos _ (by decide)
  have e3 := mulX_int (i := own % 2147483549) (j := 30011) (cMul_of (by omega) (by decide)) S
  obtain ⟨z, hz⟩ : ∃ z, z = (m * 29 + own % 2147483549 * 30011 + 3) % 2147483497 := ⟨_, rfl⟩
  have z0 : 0 ≤ z := by rw [hz]; exact Int.emod_nonneg _ (by decide)
  have z1 : z < 2147483497 := by rw [hz]; exact Int.emod_lt_of_pos _ (by decide)
  have pw : cPow 10 15 = true := by decide
  have p15 : (10 : Int) ^ (15 : Int).toNat = 1000000000000000 := by decide
  have sl : (4 : Nat) ≤ sizeLine := by rw [sizeLine_eq]; decide
  have p15' : (10 : Int) ^ 15 = 1000000000000000 := by decide
  obtain ⟨u0, hu0⟩ : ∃ u0 : Int, u0 = if own < 0 ∨ 1000000000000000 ≤ own then iAbs own else 0 := ⟨_, rfl⟩
  have u00 : 0 ≤ u0 := by
    rw [hu0]
    split
    · unfold iAbs; split <;> omega
    · exact Int.le_refl 0
  refine ⟨Urn u0 z 0 1, ?_, ⟨u0, z, 0, 1, rfl, u00, ⟨z0, z1⟩, by decide, by decide⟩⟩
  unfold fnM
  have hif : (mIf (mTest (mBin fLt (mVar 1) (mCall fLen (aCons (mVar 0) aNil)))) (mCall fInt (aCons (mBin fIx (mVar 0) (mVar 1)) aNil)) (mC (.int 0))) [some (.val (.scr ns)), some (.val (.int (t : Int))), some (.val (.int m)), w3, none] S = some (.val (.int own), S) := by
    by_cases h : (t : Int) < ((ns.map D.int).length : Int)
    · rw [if_pos h] at ho
      have h' : (t : Int) < (ns.length : Int) := by rw [List.length_map] at h; exact h
      simp [mIf, mTest, mBin, mVar, mCall, aCons, aNil, fLen, tItems, lItems, fLt, fB, fIx, fInt, ho, h']
    · rw [if_neg h] at ho
      have h' : ¬ (t : Int) < (ns.length : Int) := by rw [List.length_map] at h; exact h
      have : own = 0 := by cases ho; rfl
      subst this
      simp [mIf, mTest, mBin, mVar, mCall, aCons, aNil, fLen, tItems, lItems, fLt, fB, mC, h']
  have hcell : ∀ (ρ : Rho), ρ[4]? = some (some (.val (.int own))) → (mIf (mtOr (mTest (mBin fLt (mVar 4) (mC (.int 0)))) (mTest (mBin fGe (mVar 4) (mBin fPow (mC (.int 10)) (mC (.int 15)))))) (mCall (fInt1 iAbs) (aCons (mVar 4) aNil)) (mC (.int 0))) ρ S = some (.val (.int u0), S) := by
    intro ρ hρ
    by_cases h : own < 0
    · rw [if_pos (.inl h)] at hu0
      simp [mIf, mtOr, mTest, mBin, mVar, mC, fLt, fB, hρ, h, mCall, aCons, aNil, fInt1, hu0]
    · by_cases h2 : 1000000000000000 ≤ own
      · rw [if_pos (.inr h2)] at hu0
        simp [mIf, mtOr, mTest, mBin, mVar, mC, fLt, fGe, fB, fPow, fI, pw, hρ, h, h2, mCall, aCons, aNil, fInt1, hu0]
      · rw [if_neg (fun z => z.elim h h2)] at hu0
        simp [mIf, mtOr, mTest, mBin, mVar, mC, fLt, fGe, fB, fPow, fI, pw, hρ, h, h2, hu0]
  have hcut : (iSeq (mCut (mVar 0) oNone (oSome (mC (.int 8))))) [some (.val (.scr ns)), some (.val (.int (t : Int))), some (.val (.int m0)), none, none] S = some (l.map D.int, S) := by
    simp [iSeq, mCut, mVar, oNone, oSome, mC, tItems, lItems, dItems, hl]
  simp only [List.map_cons, List.map_nil, List.length_cons, List.length_nil, List.cons_append, List.nil_append, Nat.reduceAdd, Nat.reduceSub, List.replicate, urnB]
  have s1 : (sSet 2 (mBin fPlus (mC (.int c)) (mBin fMulX (mC (.int 6151)) (mVar 1)))) [some (.val (.scr ns)), some (.val (.int (t : Int))), none, none, none] S = some (.nx, [some (.val (.scr ns)), some (.val (.int (t : Int))), some (.val (.int m0)), none, none], S) := by
    simp [sSet, mBin, mC, mVar, e0, fPlus, fAdd, fI, hm0]
  simp only [sSeq, s1, sFor, hcut, e1]
  simp only [sSet, hif, List.set_cons_zero, List.set_cons_succ]
  simp [mBin, mVar, mC, fI, e2, fMod, mCall, aCons, aNil, fInt, e3, fPlus, fAdd, ← hz, sRet, mCell, hcell, vals?, sl, Urn]
/-! ### the law over its turns -/
def lawB (R Un : FM) : SM := (sSeq
  (sRet (mCall fAll (aCons (mLc (iRange1 (aCons (mCall (fInt2 iMax) (aCons (mC (.int 1)) (aCons (mCall (fInt2 iMin) (aCons (mCall fLen (aCons (mVar 0) aNil)) (aCons (mC (.int 2)) aNil))) aNil))) aNil)) (.nm 1) tYesM (mCall R (aCons (mCall Un (aCons (mVar 0) (aCons (mVar 1) aNil))) aNil)) [1]) aNil)))
  sNx)
theorem turns_ok (ns : List Int) : (iRange1 (aCons (mCall (fInt2 iMax) (aCons (mC (.int 1)) (aCons (mCall (fInt2 iMin) (aCons (mCall fLen (aCons (mVar 0) aNil)) (aCons (mC (.int 2)) aNil))) aNil))) aNil)) [some (.val (.scr ns)), none] [] = some (if ns.length ≤ 1 then [D.int 0] else [D.int 0, D.int 1], []) := by
  have z1 : small62 1 = true := by decide
  have z2 : small62 2 = true := by decide
  have u1 : upFrom 0 1 = [D.int 0] := rfl
  have u2 : upFrom 0 2 = [D.int 0, D.int 1] := rfl
  by_cases h : ns.length ≤ 1
  · rw [if_pos h]
    have e : iMax 1 (iMin (ns.length : Int) 2) = 1 := by unfold iMax iMin; split <;> split <;> omega
    simp [iRange1, aCons, aNil, mCall, mC, mVar, fLen, tItems, lItems, fInt2, e, z1, u1]
  · rw [if_neg h]
    have e : iMax 1 (iMin (ns.length : Int) 2) = 2 := by unfold iMax iMin; split <;> split <;> omega
    simp [iRange1, aCons, aNil, mCall, mC, mVar, fLen, tItems, lItems, fInt2, e, z2, u2]
theorem lawB_ok {R Un : FM} (hu : ∀ (ns : List Int) (t : Nat), t ≤ 1000 → ∀ S : Sto, ∃ U, Un [.val (.scr ns), .val (.int (t : Int))] S = some (.loc S.length, S ++ [some U]) ∧ UrnOk 0 U)
    (hr : ∀ {l : Nat} {S : Sto} {U : List D}, S[l]? = some (some U) → UrnOk 0 U → ∃ U', R [.loc l] S = some (.val (.bl true), S.set l (some U'))) (ns : List Int) : ∃ S', trimF (fnM 2 (lawB R Un)) [.val (.scr ns)] [] = some (.val (.bl true), S') := by
  obtain ⟨U, e1, hU⟩ := hu ns 0 (by decide) [some []]
  obtain ⟨U', e2⟩ := hr (l := 1) (S := [some [], some U]) rfl hU
  obtain ⟨W, e3, hW⟩ := hu ns 1 (by decide) [some [.bl true], some U']
  obtain ⟨W', e4⟩ := hr (l := 2) (S := [some [.bl true], some U', some W]) rfl hW
  have sl : (1 : Nat) < sizeLine := by rw [sizeLine_eq]; decide
  have sl0 : (0 : Nat) < sizeLine := by rw [sizeLine_eq]; decide
  simp at e1 e2 e3 e4
  have t1 := turns_ok ns
  by_cases h : ns.length ≤ 1
  · rw [if_pos h] at t1
    refine ⟨[], ?_⟩
    · unfold trimF fnM lawB
      simp [sSeq, sRet, mCall, aCons, aNil, mLc, t1, lcL, bindT, wipeR, tYesM, mVar, e1, e2, sl0, fAll, lItems, bls?]
  · rw [if_neg h] at t1
    refine ⟨[], ?_⟩
    · unfold trimF fnM lawB
      simp [sSeq, sRet, mCall, aCons, aNil, mLc, t1, lcL, bindT, wipeR, tYesM, mVar, e1, e2, e3, e4, sl0, sl, fAll, lItems, bls?]
end Lib

set_option Elab.async false
set_option linter.all false
set_option maxRecDepth 100000
set_option autoImplicit false
set_option maxHeartbeats 4000000
namespace Lib
open PySem PySem.Spec L2 HM
open PyProof.Rows hiding St
/-! ### sums -/
def sumN : Nat → (Nat → Rat) → Rat
  | 0, _ => 0
  | n + 1, g => g 0 + sumN n fun i => g (i + 1)
theorem sumN_congr : ∀ {n : Nat} {g h : Nat → Rat}, (∀ i, i < n → g i = h i) → sumN n g = sumN n h
  | 0, _, _, _ => rfl
  | n + 1, g, h, e => by
    show g 0 + _ = h 0 + _
    rw [e 0 (by omega), sumN_congr fun i hi => e (i + 1) (by omega)]
theorem sumN_zero : ∀ {n : Nat}, sumN n (fun _ => 0) = 0
  | 0 => rfl
  | n + 1 => by
    show (0 : Rat) + sumN n (fun _ => 0) = 0
    rw [sumN_zero]
    exact Rat.add_zero 0
theorem sumN_add : ∀ {n : Nat} {g h : Nat → Rat}, sumN n (fun i => g i + h i) = sumN n g + sumN n h
  | 0, _, _ => (Rat.add_zero 0).symm
  | n + 1, g, h => by
    show g 0 + h 0 + sumN n (fun i => g (i + 1) + h (i + 1)) = (g 0 + sumN n fun i => g (i + 1)) + (h 0 + sumN n fun i => h (i + 1))
    rw [sumN_add]
    generalize (sumN n fun i => g (i + 1)) = a
    generalize (sumN n fun i => h (i + 1)) = b
    grind
theorem sumN_mul {c : Rat} : ∀ {n : Nat} {g : Nat → Rat}, c * sumN n g = sumN n fun i => c * g i
  | 0, _ => Rat.mul_zero c
  | n + 1, g => by
    show c * (g 0 + sumN n fun i => g (i + 1)) = c * g 0 + sumN n fun i => c * g (i + 1)
    rw [← sumN_mul]
    generalize (sumN n fun i => g (i + 1)) = a
    grind
theorem sumN_swap {m : Nat} : ∀ {n : Nat} {g : Nat → Nat → Rat}, (sumN n fun i => sumN m fun j => g i j) = sumN m fun j => sumN n fun i => g i j
  | 0, g => by
    show (0 : Rat) = sumN m fun _ => 0
    rw [sumN_zero]
  | n + 1, g => by
    show (sumN m fun j => g 0 j) + (sumN n fun i => sumN m fun j => g (i + 1) j) = sumN m fun j => g 0 j + sumN n fun i => g (i + 1) j
    rw [sumN_swap, ← sumN_add]
theorem dot_sum : ∀ {xs ys : List Rat} {n : Nat}, xs.length = n → ys.length = n → dotQ xs ys = sumN n fun i => xs.getD i 0 * ys.getD i 0
  | [], [], 0, _, _ => rfl
  | x :: xs, y :: ys, n + 1, h, h' => by
    show x * y + dotQ xs ys = x * y + sumN n fun i => xs.getD i 0 * ys.getD i 0
    rw [dot_sum (n := n) (by simpa using h) (by simpa using h')]
  | [], _ :: _, 0, _, h' => by simp at h'
  | _ :: _, _, 0, h, _ => by simp at h
  | [], _, n + 1, h, _ => by simp at h
  | _ :: _, [], n + 1, _, h' => by simp at h'
theorem tabrow_get {n : Nat} {g : Nat → Rat} {i : Nat} (h : i < n) : ((List.range n).map g).getD i 0 = g i := by
  simp [List.getD, h]
theorem en_sum {n : Nat} {f : Nat → Nat → Rat} {x y : List Rat} (hx : x.length = n) (hy : y.length = n) : enQ (tab n n f) x y = sumN n fun i => sumN n fun j => x.getD i 0 * (f i j * y.getD j 0) := by
  unfold enQ
  rw [dot_sum (n := n) hx (by rw [List.length_map, tab_len])]
  refine sumN_congr fun i hi => ?_
  rw [← sumN_mul]
  congr 1
  have e : ((tab n n f).map fun r => dotQ r y) = (List.range n).map fun i => dotQ ((List.range n).map fun j => f i j) y := by
    unfold tab
    rw [List.map_map]
    rfl
  rw [e, tabrow_get hi, dot_sum (n := n) (by simp) hy]
  exact sumN_congr fun j hj => by rw [tabrow_get hj]
theorem en_symm {n : Nat} {f : Nat → Nat → Rat} {x y : List Rat} (hx : x.length = n) (hy : y.length = n) (sym : ∀ i j, i < n → j < n → f i j = f j i) : enQ (tab n n f) x y = enQ (tab n n f) y x := by
  rw [en_sum hx hy, en_sum hy hx, sumN_swap]
  refine sumN_congr fun i hi => sumN_congr fun j hj => ?_
  rw [sym i j hi hj]
  generalize x.getD j 0 = a
  generalize y.getD i 0 = b
  generalize f j i = c
  grind
end Lib

set_option Elab.async false
set_option linter.all false
set_option maxRecDepth 100000
set_option autoImplicit false
set_option maxHeartbeats 4000000
namespace K02
open PySem PySem.Spec L2 HM Lib
open PyProof.Rows hiding St
theorem urn_eq : F_law_urn = fnM 5 (urnB 12307) := rfl
theorem law_eq : F_law = trimF (fnM 2 (lawB F_law_right F_law_urn)) := rfl
theorem urn_ok (ns : List Int) (t : Nat) (ht : t ≤ 1000) (S : Sto) : ∃ U, F_law_urn [.val (.scr ns), .val (.int (t : Int))] S = some (.loc S.length, S ++ [some U]) ∧ UrnOk 0 U := by
  rw [urn_eq]
  exact urnB_ok (by decide) ns t ht S
def askB : SM := (sSeq
  (sIf (mtNot (mTest (mCall F_law_is_any_right (aCons (mVar 0) aNil)))) (sSeq
  (sRet (mC (.bl false)))
  sNx) sNx)
  sNx)
def wsM : EM := (mCall (F_law_same 20) (aCons (mTup (aCons (mCall F_worth (aCons (mVar 3) (aCons (mVar 4) aNil))) (aCons (mCallK [1, 0] F_worth (aCons (mVar 4) (aCons (mVar 3) aNil))) aNil))) (aCons (mTup (aCons (mVar 6) (aCons (mVar 6) aNil))) aNil)))
def prM : EM := (mTup (aCons (mCall F_energy_product (aCons (mVar 7) (aCons (mVar 4) (aCons (mVar 5) aNil)))) (aCons (mCallK [2, 1, 0] F_energy_product (aCons (mVar 4) (aCons (mVar 5) (aCons (mVar 7) aNil)))) aNil)))
def endM : EM := (mAnd (mCall (F_law_same 20) (aCons (mVar 8) (aCons (mTup (aCons (mVar 6) (aCons (mVar 6) aNil))) aNil))) (mCall (F_law_same 20) (aCons (mCall F_worth (aCons (mVar 7) (aCons (mVar 5) aNil))) (aCons (mCall F_law_at (aCons (mVar 7) (aCons (mVar 5) aNil))) aNil))))
theorem right_eq : b_law_right = (sSeq
  (sFor (iRange1 (aCons (mC (.int 3)) aNil)) (.nm 1) askB)
  (sSeq
  (sSet 2 (mCall F_law_size (aCons (mVar 0) aNil)))
  (sSeq
  (sPar3 3 4 5 (aCons (mCall F_law_form (aCons (mVar 0) (aCons (mVar 2) aNil))) (aCons (mCall F_law_line (aCons (mVar 0) (aCons (mVar 2) aNil))) (aCons (mCall F_law_line (aCons (mVar 0) (aCons (mVar 2) aNil))) aNil))))
  (sSeq
  (sSet 6 (mCall F_law_at (aCons (mVar 3) (aCons (mVar 4) aNil))))
  (sSeq
  (sIf (mtNot (mTest wsM)) (sSeq
  (sRet (mC (.bl false)))
  sNx) sNx)
  (sSeq
  (sSet 7 (mCall F_law_table (aCons (mVar 0) (aCons (mVar 2) aNil))))
  (sSeq
  (sSet 6 (mCall F_law_dot (aCons (mVar 4) (aCons (mCall F_law_go (aCons (mVar 7) (aCons (mVar 5) aNil))) aNil))))
  (sSeq
  (sSet 8 prM)
  (sSeq
  (sRet endM)
  sNx))))))))) := rfl
theorem not_true {m : EM} {a b : SM} {ρ : Rho} {S S1 : Sto} (h : m ρ S = some (.val (.bl true), S1)) : sIf (mtNot (mTest m)) a b ρ S = b ρ S1 := by
  refine if_false_ok ?_
  unfold mtNot
  rw [test_ok h]
  rfl
theorem ask_step {l : Nat} {S : Sto} {U : List D} {N : Int} {r : Rho} (hU : S[l]? = some (some U)) (hu : UrnOk N U) (hN : N ≤ 300000) : ∃ U', askB (some (.loc l) :: r) S = some (.nx, some (.loc l) :: r, S.set l (some U')) ∧ UrnOk (N + 1000) U' := by
  obtain ⟨U', e, hu'⟩ := is_any_right_ok hU hu hN
  exact ⟨U', (seq_nx ((not_true ((call1 rfl).trans e)).trans rfl)).trans rfl, hu'⟩
theorem ask_loop {l : Nat} : ∀ (js : List D) {r : Rho} {w : Option W} {S : Sto} {U : List D} {N : Int}, S[l]? = some (some U) → UrnOk N U → N + 1000 * (js.length : Int) ≤ 300000 → ∃ w' U', forL (.nm 1) askB js (some (.loc l) :: w :: r) S = some (.nx, some (.loc l) :: w' :: r, S.set l (some U')) ∧ UrnOk (N + 1000 * (js.length : Int)) U'
  | [], r, w, S, U, N, hU, hu, hN => ⟨w, U, by rw [set_same hU]; rfl, hu.mono (by simp)⟩
  | j :: js, r, w, S, U, N, hU, hu, hN => by
    rw [List.length_cons] at *
    obtain ⟨U1, e1, hU1⟩ := ask_step (r := some (.val j) :: r) hU hu (by omega)
    obtain ⟨w', U', e2, hU2⟩ := ask_loop js (r := r) (w := some (.val j)) (set_at hU) hU1 (by omega)
    rw [List.set_set] at e2
    exact ⟨w', U', (forL_nx rfl e1).trans e2, hU2.mono (by omega)⟩
theorem par3 {i j k : Nat} {m n p : EM} {ρ : Rho} {S S1 S2 S3 : Sto} {a b c : W} (h : m ρ S = some (a, S1)) (h2 : n ρ S1 = some (b, S2)) (h3 : p ρ S2 = some (c, S3)) : sPar3 i j k (aCons m (aCons n (aCons p aNil))) ρ S = some (.nx, ((ρ.set i (some a)).set j (some b)).set k (some c), S3) := by
  unfold sPar3
  rw [acons_ok h (acons_ok h2 (acons_ok h3 rfl))]
theorem callK2 {F : FM} {i j : Nat} {ρ : Rho} {S : Sto} {w v : W} (h : ρ[i]? = some (some w)) (h2 : ρ[j]? = some (some v)) : mCallK [1, 0] F (aCons (mVar i) (aCons (mVar j) aNil)) ρ S = F [v, w] S := by
  unfold mCallK
  rw [acons_ok (var_ok h) (acons_ok (var_ok h2) rfl)]
  rfl
theorem callK3 {F : FM} {i j k : Nat} {ρ : Rho} {S : Sto} {w v u : W} (h : ρ[i]? = some (some w)) (h2 : ρ[j]? = some (some v)) (h3 : ρ[k]? = some (some u)) : mCallK [2, 1, 0] F (aCons (mVar i) (aCons (mVar j) (aCons (mVar k) aNil))) ρ S = F [u, v, w] S := by
  unfold mCallK
  rw [acons_ok (var_ok h) (acons_ok (var_ok h2) (acons_ok (var_ok h3) rfl))]
  rfl
theorem same_pair (q : Rat) (S : Sto) : F_law_same 20 [.val (.tup [fr q, fr q]), .val (.tup [fr q, fr q])] S = some (.val (.bl true), S) := same_self 20 2 S (by decide) (sf_pair (sf_fr q) (sf_fr q))
theorem ws_ok {w0 w1 w2 w5 w7 w8 : Option W} {f : List (List Rat)} {x : List Rat} {q : Rat} {S : Sto} (e : F_worth [.val (gridD f), .val (rowD x)] S = some (.val (fr q), S)) : wsM [w0, w1, w2, some (.val (gridD f)), some (.val (rowD x)), w5, some (.val (fr q)), w7, w8] S = some (.val (.bl true), S) := by
  have e1 := tup2 ((call2 (F := F_worth) (i := 3) (j := 4) (ρ := [w0, w1, w2, some (.val (gridD f)), some (.val (rowD x)), w5, some (.val (fr q)), w7, w8]) rfl rfl).trans e) ((callK2 (F := F_worth) (i := 4) (j := 3) (ρ := [w0, w1, w2, some (.val (gridD f)), some (.val (rowD x)), w5, some (.val (fr q)), w7, w8]) rfl rfl).trans e)
  have e2 := tup2 (m := mVar 6) (n := mVar 6) (ρ := [w0, w1, w2, some (.val (gridD f)), some (.val (rowD x)), w5, some (.val (fr q)), w7, w8]) (S := S) (S1 := S) (S2 := S) (a := fr q) (b := fr q) rfl rfl
  exact (call_ok (acons_ok e1 (acons_ok e2 rfl))).trans (same_pair q S)
theorem pr_ok {w0 w1 w2 w3 w6 w8 : Option W} {t : List (List Rat)} {x y : List Rat} {q : Rat} {S : Sto} (e : F_energy_product [.val (gridD t), .val (rowD x), .val (rowD y)] S = some (.val (fr q), S)) (e' : F_energy_product [.val (gridD t), .val (rowD y), .val (rowD x)] S = some (.val (fr q), S)) : prM [w0, w1, w2, w3, some (.val (rowD x)), some (.val (rowD y)), w6, some (.val (gridD t)), w8] S = some (.val (.tup [fr q, fr q]), S) :=
  tup2 ((call3 (F := F_energy_product) (i := 7) (j := 4) (k := 5) (ρ := [w0, w1, w2, w3, some (.val (rowD x)), some (.val (rowD y)), w6, some (.val (gridD t)), w8]) rfl rfl rfl).trans e) ((callK3 (F := F_energy_product) (i := 4) (j := 5) (k := 7) (ρ := [w0, w1, w2, w3, some (.val (rowD x)), some (.val (rowD y)), w6, some (.val (gridD t)), w8]) rfl rfl rfl).trans e')
theorem end_ok {w0 w1 w2 w3 w4 : Option W} {t : List (List Rat)} {y : List Rat} {q p : Rat} {S : Sto} (e : F_worth [.val (gridD t), .val (rowD y)] S = some (.val (fr p), S)) (e' : F_law_at [.val (gridD t), .val (rowD y)] S = some (.val (fr p), S)) : endM [w0, w1, w2, w3, w4, some (.val (rowD y)), some (.val (fr q)), some (.val (gridD t)), some (.val (.tup [fr q, fr q]))] S = some (.val (.bl true), S) := by
  have e2 := tup2 (m := mVar 6) (n := mVar 6) (ρ := [w0, w1, w2, w3, w4, some (.val (rowD y)), some (.val (fr q)), some (.val (gridD t)), some (.val (.tup [fr q, fr q]))]) (S := S) (S1 := S) (S2 := S) (a := fr q) (b := fr q) rfl rfl
  have a := (call_ok (F := F_law_same 20) (acons_ok (m := mVar 8) (w := .val (.tup [fr q, fr q])) (ρ := [w0, w1, w2, w3, w4, some (.val (rowD y)), some (.val (fr q)), some (.val (gridD t)), some (.val (.tup [fr q, fr q]))]) (S := S) (S1 := S) rfl (acons_ok e2 (a := aNil) (ws := []) (S2 := S) rfl))).trans (same_pair q S)
  refine (mand_ok a).trans ?_
  exact (call_ok (acons_ok ((call2 rfl rfl).trans e) (acons_ok ((call2 rfl rfl).trans e') rfl))).trans (same_self 20 1 S (by decide) (sf_fr p))
end K02

set_option Elab.async false
set_option linter.all false
set_option maxRecDepth 100000
set_option autoImplicit false
set_option maxHeartbeats 4000000
namespace K02
open PySem PySem.Spec L2 HM Lib
open PyProof.Rows hiding St
theorem right_ok {l : Nat} {S : Sto} {U : List D} (hU : S[l]? = some (some U)) (hu : UrnOk 0 U) : ∃ U', F_law_right [.loc l] S = some (.val (.bl true), S.set l (some U')) := by
  obtain ⟨w1, U1, e1, hU1⟩ := ask_loop (l := l) (upFrom 0 3) (r := List.replicate 7 none) (w := none) hU hu (by rw [upFrom_length]; decide)
  rw [upFrom_length] at hU1
  have er := range_ok (k := 3) (ρ := [some (.loc l), none, none, none, none, none, none, none, none]) (S := S) (S1 := S) (e := mC (.int 3)) rfl (by decide)
  obtain ⟨n, U2, e2, hn, hU2⟩ := size_ok (set_at hU) hU1 (by decide)
  rw [List.set_set] at e2
  obtain ⟨f, U3, e3, sym, hf, hU3⟩ := form_ok (n := n) (set_at hU) hU2 hn (by decide)
  rw [List.set_set] at e3
  obtain ⟨x, U4, e4, xl, hx, hU4⟩ := line_ok (k := n) (set_at hU) hU3 (by omega) (by omega)
  rw [List.set_set] at e4
  obtain ⟨y, U5, e5, yl, hy, hU5⟩ := line_ok (k := n) (set_at hU) hU4 (by omega) (by omega)
  rw [List.set_set] at e5
  obtain ⟨ls, U6, e6, lsl, hls, hU6⟩ := table_ok (n := n) (set_at hU) hU5 (by omega) (by omega)
  rw [List.set_set] at e6
  have tk : TabOk n ls := ⟨lsl, hls⟩
  have ent := tk.ent hn.2
  have ssym : ∀ i j, i < n → j < n → sqs ls i j = sqs ls j i := fun i j _ _ => sqs_sym ls i j
  have a1 := law_at_ok (y := x) hn.2 (by rw [tab_len]; exact Nat.le_refl _) (tab_rows hf) hx (by omega) (S.set l (some U5))
  have b1 := worth_ok hn hf sym hx xl (S.set l (some U5))
  have a2 := law_en_ok (x := x) (y := y) hn.2 (by rw [tab_len]; exact Nat.le_refl _) (tab_rows ent) hx (by omega) hy (S.set l (some U6))
  have b2 := energy_ok hn tk hx xl hy yl (S.set l (some U6))
  have b3 := energy_ok hn tk hy yl hx xl (S.set l (some U6))
  rw [← en_symm xl yl ssym] at b3
  have a4 := law_at_ok (y := y) hn.2 (by rw [tab_len]; exact Nat.le_refl _) (tab_rows ent) hy (by omega) (S.set l (some U6))
  have b4 := worth_ok hn ent ssym hy yl (S.set l (some U6))
  obtain ⟨a2, a3⟩ := a2
  generalize tab n n f = F at *
  generalize tab n n (sqs ls) = T at *
  generalize enQ F x x = q1 at *
  generalize enQ T x y = q2 at *
  generalize enQ T y y = q3 at *
  generalize (T.map fun r => dotQ r y) = ty at *
  have s1 := for_ok (tg := .nm 1) er e1
  have s2 := set_ok (i := 2) (ρ := [some (.loc l), w1, none, none, none, none, none, none, none]) (m := mCall F_law_size (aCons (mVar 0) aNil)) ((call1 rfl).trans e2)
  have s3 := par3 (i := 3) (j := 4) (k := 5) (ρ := [some (.loc l), w1, some (.val (.int (n : Int))), none, none, none, none, none, none]) (m := mCall F_law_form (aCons (mVar 0) (aCons (mVar 2) aNil))) (n := mCall F_law_line (aCons (mVar 0) (aCons (mVar 2) aNil))) (p := mCall F_law_line (aCons (mVar 0) (aCons (mVar 2) aNil))) ((call2 rfl rfl).trans e3) ((call2 rfl rfl).trans e4) ((call2 rfl rfl).trans e5)
  have s4 := set_ok (i := 6) (ρ := [some (.loc l), w1, some (.val (.int (n : Int))), some (.val (gridD F)), some (.val (rowD x)), some (.val (rowD y)), none, none, none]) (m := mCall F_law_at (aCons (mVar 3) (aCons (mVar 4) aNil))) ((call2 rfl rfl).trans a1)
  have s5 := ws_ok (w0 := some (.loc l)) (w1 := w1) (w2 := some (.val (.int (n : Int)))) (w5 := some (.val (rowD y))) (w7 := none) (w8 := none) b1
  have s6 := set_ok (i := 7) (ρ := [some (.loc l), w1, some (.val (.int (n : Int))), some (.val (gridD F)), some (.val (rowD x)), some (.val (rowD y)), some (.val (fr q1)), none, none]) (m := mCall F_law_table (aCons (mVar 0) (aCons (mVar 2) aNil))) ((call2 rfl rfl).trans e6)
  have s7 := set_ok (i := 6) (ρ := [some (.loc l), w1, some (.val (.int (n : Int))), some (.val (gridD F)), some (.val (rowD x)), some (.val (rowD y)), some (.val (fr q1)), some (.val (gridD T)), none]) (m := mCall F_law_dot (aCons (mVar 4) (aCons (mCall F_law_go (aCons (mVar 7) (aCons (mVar 5) aNil))) aNil))) ((call_ok (acons_ok rfl (acons_ok ((call2 rfl rfl).trans a2) rfl))).trans a3)
  have s8 := set_ok (i := 8) (ρ := [some (.loc l), w1, some (.val (.int (n : Int))), some (.val (gridD F)), some (.val (rowD x)), some (.val (rowD y)), some (.val (fr q2)), some (.val (gridD T)), none]) (pr_ok b2 b3)
  have s9 := end_ok (w0 := some (.loc l)) (w1 := w1) (w2 := some (.val (.int (n : Int)))) (w3 := some (.val (gridD F))) (w4 := some (.val (rowD x))) (q := q2) b4 a4
  have run := (seq_nx s1).trans ((seq_nx s2).trans ((seq_nx s3).trans ((seq_nx s4).trans ((seq_nx ((not_true (a := (sSeq (sRet (mC (.bl false))) sNx)) (b := sNx) s5).trans rfl)).trans ((seq_nx s6).trans ((seq_nx s7).trans ((seq_nx s8).trans (seq_ret (b := sNx) (ret_ok s9)))))))))
  have := trim_ret (n := 9) (b := b_law_right) (ws := [.loc l]) (right_eq ▸ run)
  rw [set_take] at this
  exact ⟨U6, this⟩
theorem law_ok (ns : List Int) : ∃ S', F_law [.val (.scr ns)] [] = some (.val (.bl true), S') := by
  rw [law_eq]
  exact lawB_ok urn_ok right_ok ns
end K02

set_option Elab.async false
set_option linter.all false
set_option maxRecDepth 100000
set_option maxHeartbeats 0
namespace K02
open PySem PySem.Spec PyProof.Rows L2 HM
theorem told {P : Program} {w : World} {K : PySem.W.Frag} {h : Heap} {mg : Str → Option Value} {f : Addr} (X : K.In h) (G : h.Ns mainGlobals mg) (hfa : mg ("law" : Str) = some (.ref f)) (c : He.SaysX fa fn [] [] chk w h K) :
    ∃ fd : FuncData, (∀ (s : Shared) (v : Value), BindsTo s fd { pos := [v] } [("script", v)]) ∧ ∀ base : Heap, K.In base → base.Ns mainGlobals mg → FnG P w K mg base 27 f fd ["script"] (spM K 1 F_law) := by
  have cd := c.t.d
  have hc := c.more
  unfold chk at hc
  obtain ⟨e_gcd, hc⟩ := Bool.and_eq_true_iff.mp hc
  obtain ⟨e_NIL, hc⟩ := Bool.and_eq_true_iff.mp hc
  obtain ⟨e_ONE, hc⟩ := Bool.and_eq_true_iff.mp hc
  cases hfa.symm.trans (He.glo_ok X G (cd.fact 61 (f := .glo "law") rfl))
  obtain ⟨d_reduced, U_reduced⟩ := cd.def_ 0 rfl
  obtain ⟨d_plus, U_plus⟩ := cd.def_ 1 rfl
  obtain ⟨d_minus, U_minus⟩ := cd.def_ 2 rfl
  obtain ⟨d_times, U_times⟩ := cd.def_ 3 rfl
  obtain ⟨d_over, U_over⟩ := cd.def_ 4 rfl
  obtain ⟨d_less_times, U_less_times⟩ := cd.def_ 5 rfl
  obtain ⟨d_dot, U_dot⟩ := cd.def_ 6 rfl
  obtain ⟨d_row_times, U_row_times⟩ := cd.def_ 7 rfl
  obtain ⟨d_row_plus, U_row_plus⟩ := cd.def_ 8 rfl
  obtain ⟨d_row_less, U_row_less⟩ := cd.def_ 9 rfl
  obtain ⟨d_unit_row, U_unit_row⟩ := cd.def_ 10 rfl
  obtain ⟨d_applied, U_applied⟩ := cd.def_ 11 rfl
  obtain ⟨d_turned_over, U_turned_over⟩ := cd.def_ 12 rfl
  obtain ⟨d_worth_at, U_worth_at⟩ := cd.def_ 13 rfl
  obtain ⟨d_pivot, U_pivot⟩ := cd.def_ 14 rfl
  obtain ⟨d_pivot_squares, U_pivot_squares⟩ := cd.def_ 15 rfl
  obtain ⟨d_less_square, U_less_square⟩ := cd.def_ 16 rfl
  obtain ⟨d_squares_of, U_squares_of⟩ := cd.def_ 17 rfl
  obtain ⟨d_signs_of, U_signs_of⟩ := cd.def_ 18 rfl
  obtain ⟨d_is_positive, U_is_positive⟩ := cd.def_ 19 rfl
  obtain ⟨d_is_tuple, U_is_tuple⟩ := cd.def_ 20 rfl
  obtain ⟨d_is_whole_number, U_is_whole_number⟩ := cd.def_ 21 rfl
  obtain ⟨d_is_pair, U_is_pair⟩ := cd.def_ 22 rfl
  obtain ⟨d_is_fraction, U_is_fraction⟩ := cd.def_ 23 rfl
  obtain ⟨d_is_row, U_is_row⟩ := cd.def_ 24 rfl
  obtain ⟨d_is_table_of, U_is_table_of⟩ := cd.def_ 25 rfl
  obtain ⟨d_is_any_table, U_is_any_table⟩ := cd.def_ 26 rfl
  obtain ⟨d_is_form, U_is_form⟩ := cd.def_ 27 rfl
  obtain ⟨d_is_positive_table, U_is_positive_table⟩ := cd.def_ 28 rfl
  obtain ⟨d_check_form, U_check_form⟩ := cd.def_ 29 rfl
  obtain ⟨d_check_table, U_check_table⟩ := cd.def_ 30 rfl
  obtain ⟨d_check_row, U_check_row⟩ := cd.def_ 31 rfl
  obtain ⟨d_is_table, U_is_table⟩ := cd.def_ 32 rfl
  obtain ⟨d_worth, U_worth⟩ := cd.def_ 33 rfl
  obtain ⟨d_energy_product, U_energy_product⟩ := cd.def_ 34 rfl
  obtain ⟨d_law_urn, U_law_urn⟩ := cd.def_ 35 rfl
  obtain ⟨d_law_take, U_law_take⟩ := cd.def_ 36 rfl
  obtain ⟨d_law_pick, U_law_pick⟩ := cd.def_ 37 rfl
  obtain ⟨d_law_frac, U_law_frac⟩ := cd.def_ 38 rfl
  obtain ⟨d_law_times, U_law_times⟩ := cd.def_ 39 rfl
  obtain ⟨d_law_dot, U_law_dot⟩ := cd.def_ 40 rfl
  obtain ⟨d_law_go, U_law_go⟩ := cd.def_ 41 rfl
  obtain ⟨d_law_flip, U_law_flip⟩ := cd.def_ 42 rfl
  obtain ⟨d_law_mul, U_law_mul⟩ := cd.def_ 43 rfl
  obtain ⟨d_law_by, U_law_by⟩ := cd.def_ 44 rfl
  obtain ⟨d_law_at, U_law_at⟩ := cd.def_ 45 rfl
  obtain ⟨d_law_is_frac, U_law_is_frac⟩ := cd.def_ 46 rfl
  obtain ⟨d_law_is_line, U_law_is_line⟩ := cd.def_ 47 rfl
  obtain ⟨d_law_is_grid, U_law_is_grid⟩ := cd.def_ 48 rfl
  obtain ⟨d_law_number, U_law_number⟩ := cd.def_ 49 rfl
  obtain ⟨d_law_line, U_law_line⟩ := cd.def_ 50 rfl
  obtain ⟨d_law_of_squares, U_law_of_squares⟩ := cd.def_ 51 rfl
  obtain ⟨d_law_table, U_law_table⟩ := cd.def_ 52 rfl
  obtain ⟨d_law_size, U_law_size⟩ := cd.def_ 53 rfl
  obtain ⟨d_law_same, U_law_same⟩ := cd.def_ 54 rfl
  obtain ⟨d_law_odd, U_law_odd⟩ := cd.def_ 55 rfl
  obtain ⟨d_law_bent, U_law_bent⟩ := cd.def_ 56 rfl
  obtain ⟨d_law_form, U_law_form⟩ := cd.def_ 57 rfl
  obtain ⟨d_law_square, U_law_square⟩ := cd.def_ 58 rfl
  obtain ⟨d_law_is_any_right, U_law_is_any_right⟩ := cd.def_ 59 rfl
  obtain ⟨d_law_right, U_law_right⟩ := cd.def_ 60 rfl
  obtain ⟨d_law, U_law⟩ := cd.def_ 61 rfl
  obtain ⟨k_MOST_ROWS, g_MOST_ROWS⟩ := He.int_ok X G (cd.fact 77 (f := .int "MOST_ROWS" (5)) rfl)
  refine ⟨d_law, fun s v => ?_, fun base KB GB => ?_⟩
  · have := FunD.bindsA (ps := ["script"]) U_law fun _ _ _ _ _ _ us hl => match us, hl with | [_], _ => rfl
    exact this s [v] rfl
  · exact ok_law (T := {
      f_reduced := _, d_reduced := d_reduced, u_reduced := fun_of_D (st := s_reduced) U_reduced, g_reduced := He.glo_ok X G (cd.fact 0 (f := .glo "reduced") rfl),
      f_plus := _, d_plus := d_plus, u_plus := fun_of_D (st := s_plus) U_plus, g_plus := He.glo_ok X G (cd.fact 1 (f := .glo "plus") rfl),
      f_minus := _, d_minus := d_minus, u_minus := fun_of_D (st := s_minus) U_minus, g_minus := He.glo_ok X G (cd.fact 2 (f := .glo "minus") rfl),
      f_times := _, d_times := d_times, u_times := fun_of_D (st := s_times) U_times, g_times := He.glo_ok X G (cd.fact 3 (f := .glo "times") rfl),
      f_over := _, d_over := d_over, u_over := fun_of_D (st := s_over) U_over, g_over := He.glo_ok X G (cd.fact 4 (f := .glo "over") rfl),
      f_less_times := _, d_less_times := d_less_times, u_less_times := fun_of_D (st := s_less_times) U_less_times, g_less_times := He.glo_ok X G (cd.fact 5 (f := .glo "less_times") rfl),
      f_dot := _, d_dot := d_dot, u_dot := fun_of_D (st := s_dot) U_dot, g_dot := He.glo_ok X G (cd.fact 6 (f := .glo "dot") rfl),
      f_row_times := _, d_row_times := d_row_times, u_row_times := fun_of_D (st := s_row_times) U_row_times, g_row_times := He.glo_ok X G (cd.fact 7 (f := .glo "row_times") rfl),
      f_row_plus := _, d_row_plus := d_row_plus, u_row_plus := fun_of_D (st := s_row_plus) U_row_plus, g_row_plus := He.glo_ok X G (cd.fact 8 (f := .glo "row_plus") rfl),
      f_row_less := _, d_row_less := d_row_less, u_row_less := fun_of_D (st := s_row_less) U_row_less, g_row_less := He.glo_ok X G (cd.fact 9 (f := .glo "row_less") rfl),
      f_unit_row := _, d_unit_row := d_unit_row, u_unit_row := fun_of_D (st := s_unit_row) U_unit_row, g_unit_row := He.glo_ok X G (cd.fact 10 (f := .glo "unit_row") rfl),
      f_applied := _, d_applied := d_applied, u_applied := fun_of_D (st := s_applied) U_applied, g_applied := He.glo_ok X G (cd.fact 11 (f := .glo "applied") rfl),
      f_turned_over := _, d_turned_over := d_turned_over, u_turned_over := fun_of_D (st := s_turned_over) U_turned_over, g_turned_over := He.glo_ok X G (cd.fact 12 (f := .glo "turned_over") rfl),
      f_worth_at := _, d_worth_at := d_worth_at, u_worth_at := fun_of_D (st := s_worth_at) U_worth_at, g_worth_at := He.glo_ok X G (cd.fact 13 (f := .glo "worth_at") rfl),
      f_pivot := _, d_pivot := d_pivot, u_pivot := fun_of_D (st := s_pivot) U_pivot, g_pivot := He.glo_ok X G (cd.fact 14 (f := .glo "pivot") rfl),
      f_pivot_squares := _, d_pivot_squares := d_pivot_squares, u_pivot_squares := fun_of_D (st := s_pivot_squares) U_pivot_squares, g_pivot_squares := He.glo_ok X G (cd.fact 15 (f := .glo "pivot_squares") rfl),
      f_less_square := _, d_less_square := d_less_square, u_less_square := fun_of_D (st := s_less_square) U_less_square, g_less_square := He.glo_ok X G (cd.fact 16 (f := .glo "less_square") rfl),
      f_squares_of := _, d_squares_of := d_squares_of, u_squares_of := fun_of_D (st := s_squares_of) U_squares_of, g_squares_of := He.glo_ok X G (cd.fact 17 (f := .glo "squares_of") rfl),
      f_signs_of := _, d_signs_of := d_signs_of, u_signs_of := fun_of_D (st := s_signs_of) U_signs_of, g_signs_of := He.glo_ok X G (cd.fact 18 (f := .glo "signs_of") rfl),
      f_is_positive := _, d_is_positive := d_is_positive, u_is_positive := fun_of_D (st := s_is_positive) U_is_positive, g_is_positive := He.glo_ok X G (cd.fact 19 (f := .glo "is_positive") rfl),
      f_is_tuple := _, d_is_tuple := d_is_tuple, u_is_tuple := fun_of_D (st := s_is_tuple) U_is_tuple, g_is_tuple := He.glo_ok X G (cd.fact 20 (f := .glo "is_tuple") rfl),
      f_is_whole_number := _, d_is_whole_number := d_is_whole_number, u_is_whole_number := fun_of_D (st := s_is_whole_number) U_is_whole_number, g_is_whole_number := He.glo_ok X G (cd.fact 21 (f := .glo "is_whole_number") rfl),
      f_is_pair := _, d_is_pair := d_is_pair, u_is_pair := fun_of_D (st := s_is_pair) U_is_pair, g_is_pair := He.glo_ok X G (cd.fact 22 (f := .glo "is_pair") rfl),
      f_is_fraction := _, d_is_fraction := d_is_fraction, u_is_fraction := fun_of_D (st := s_is_fraction) U_is_fraction, g_is_fraction := He.glo_ok X G (cd.fact 23 (f := .glo "is_fraction") rfl),
      f_is_row := _, d_is_row := d_is_row, u_is_row := fun_of_D (st := s_is_row) U_is_row, g_is_row := He.glo_ok X G (cd.fact 24 (f := .glo "is_row") rfl),
      f_is_table_of := _, d_is_table_of := d_is_table_of, u_is_table_of := fun_of_D (st := s_is_table_of) U_is_table_of, g_is_table_of := He.glo_ok X G (cd.fact 25 (f := .glo "is_table_of") rfl),
      f_is_any_table := _, d_is_any_table := d_is_any_table, u_is_any_table := fun_of_D (st := s_is_any_table) U_is_any_table, g_is_any_table := He.glo_ok X G (cd.fact 26 (f := .glo "is_any_table") rfl),
      f_is_form := _, d_is_form := d_is_form, u_is_form := fun_of_D (st := s_is_form) U_is_form, g_is_form := He.glo_ok X G (cd.fact 27 (f := .glo "is_form") rfl),
      f_is_positive_table := _, d_is_positive_table := d_is_positive_table, u_is_positive_table := fun_of_D (st := s_is_positive_table) U_is_positive_table, g_is_positive_table := He.glo_ok X G (cd.fact 28 (f := .glo "is_positive_table") rfl),
      f_check_form := _, d_check_form := d_check_form, u_check_form := fun_of_D (st := s_check_form) U_check_form, g_check_form := He.glo_ok X G (cd.fact 29 (f := .glo "check_form") rfl),
      f_check_table := _, d_check_table := d_check_table, u_check_table := fun_of_D (st := s_check_table) U_check_table, g_check_table := He.glo_ok X G (cd.fact 30 (f := .glo "check_table") rfl),
      f_check_row := _, d_check_row := d_check_row, u_check_row := fun_of_D (st := s_check_row) U_check_row, g_check_row := He.glo_ok X G (cd.fact 31 (f := .glo "check_row") rfl),
      f_is_table := _, d_is_table := d_is_table, u_is_table := fun_of_D (st := s_is_table) U_is_table, g_is_table := He.glo_ok X G (cd.fact 32 (f := .glo "is_table") rfl),
      f_worth := _, d_worth := d_worth, u_worth := fun_of_D (st := s_worth) U_worth, g_worth := He.glo_ok X G (cd.fact 33 (f := .glo "worth") rfl),
      f_energy_product := _, d_energy_product := d_energy_product, u_energy_product := fun_of_D (st := s_energy_product) U_energy_product, g_energy_product := He.glo_ok X G (cd.fact 34 (f := .glo "energy_product") rfl),
      f_law_urn := _, d_law_urn := d_law_urn, u_law_urn := fun_of_D (st := s_law_urn) U_law_urn, g_law_urn := He.glo_ok X G (cd.fact 35 (f := .glo "_law_urn") rfl),
      f_law_take := _, d_law_take := d_law_take, u_law_take := fun_of_D (st := s_law_take) U_law_take, g_law_take := He.glo_ok X G (cd.fact 36 (f := .glo "_law_take") rfl),
      f_law_pick := _, d_law_pick := d_law_pick, u_law_pick := fun_of_D (st := s_law_pick) U_law_pick, g_law_pick := He.glo_ok X G (cd.fact 37 (f := .glo "_law_pick") rfl),
      f_law_frac := _, d_law_frac := d_law_frac, u_law_frac := fun_of_D (st := s_law_frac) U_law_frac, g_law_frac := He.glo_ok X G (cd.fact 38 (f := .glo "_law_frac") rfl),
      f_law_times := _, d_law_times := d_law_times, u_law_times := fun_of_D (st := s_law_times) U_law_times, g_law_times := He.glo_ok X G (cd.fact 39 (f := .glo "_law_times") rfl),
      f_law_dot := _, d_law_dot := d_law_dot, u_law_dot := fun_of_D (st := s_law_dot) U_law_dot, g_law_dot := He.glo_ok X G (cd.fact 40 (f := .glo "_law_dot") rfl),
      f_law_go := _, d_law_go := d_law_go, u_law_go := fun_of_D (st := s_law_go) U_law_go, g_law_go := He.glo_ok X G (cd.fact 41 (f := .glo "_law_go") rfl),
      f_law_flip := _, d_law_flip := d_law_flip, u_law_flip := fun_of_D (st := s_law_flip) U_law_flip, g_law_flip := He.glo_ok X G (cd.fact 42 (f := .glo "_law_flip") rfl),
      f_law_mul := _, d_law_mul := d_law_mul, u_law_mul := fun_of_D (st := s_law_mul) U_law_mul, g_law_mul := He.glo_ok X G (cd.fact 43 (f := .glo "_law_mul") rfl),
      f_law_by := _, d_law_by := d_law_by, u_law_by := fun_of_D (st := s_law_by) U_law_by, g_law_by := He.glo_ok X G (cd.fact 44 (f := .glo "_law_by") rfl),
      f_law_at := _, d_law_at := d_law_at, u_law_at := fun_of_D (st := s_law_at) U_law_at, g_law_at := He.glo_ok X G (cd.fact 45 (f := .glo "_law_at") rfl),
      f_law_is_frac := _, d_law_is_frac := d_law_is_frac, u_law_is_frac := fun_of_D (st := s_law_is_frac) U_law_is_frac, g_law_is_frac := He.glo_ok X G (cd.fact 46 (f := .glo "_law_is_frac") rfl),
      f_law_is_line := _, d_law_is_line := d_law_is_line, u_law_is_line := fun_of_D (st := s_law_is_line) U_law_is_line, g_law_is_line := He.glo_ok X G (cd.fact 47 (f := .glo "_law_is_line") rfl),
      f_law_is_grid := _, d_law_is_grid := d_law_is_grid, u_law_is_grid := fun_of_D (st := s_law_is_grid) U_law_is_grid, g_law_is_grid := He.glo_ok X G (cd.fact 48 (f := .glo "_law_is_grid") rfl),
      f_law_number := _, d_law_number := d_law_number, u_law_number := fun_of_D (st := s_law_number) U_law_number, g_law_number := He.glo_ok X G (cd.fact 49 (f := .glo "_law_number") rfl),
      f_law_line := _, d_law_line := d_law_line, u_law_line := fun_of_D (st := s_law_line) U_law_line, g_law_line := He.glo_ok X G (cd.fact 50 (f := .glo "_law_line") rfl),
      f_law_of_squares := _, d_law_of_squares := d_law_of_squares, u_law_of_squares := fun_of_D (st := s_law_of_squares) U_law_of_squares, g_law_of_squares := He.glo_ok X G (cd.fact 51 (f := .glo "_law_of_squares") rfl),
      f_law_table := _, d_law_table := d_law_table, u_law_table := fun_of_D (st := s_law_table) U_law_table, g_law_table := He.glo_ok X G (cd.fact 52 (f := .glo "_law_table") rfl),
      f_law_size := _, d_law_size := d_law_size, u_law_size := fun_of_D (st := s_law_size) U_law_size, g_law_size := He.glo_ok X G (cd.fact 53 (f := .glo "_law_size") rfl),
      f_law_same := _, d_law_same := d_law_same, u_law_same := fun_of_D (st := s_law_same) U_law_same, g_law_same := He.glo_ok X G (cd.fact 54 (f := .glo "_law_same") rfl),
      f_law_odd := _, d_law_odd := d_law_odd, u_law_odd := fun_of_D (st := s_law_odd) U_law_odd, g_law_odd := He.glo_ok X G (cd.fact 55 (f := .glo "_law_odd") rfl),
      f_law_bent := _, d_law_bent := d_law_bent, u_law_bent := fun_of_D (st := s_law_bent) U_law_bent, g_law_bent := He.glo_ok X G (cd.fact 56 (f := .glo "_law_bent") rfl),
      f_law_form := _, d_law_form := d_law_form, u_law_form := fun_of_D (st := s_law_form) U_law_form, g_law_form := He.glo_ok X G (cd.fact 57 (f := .glo "_law_form") rfl),
      f_law_square := _, d_law_square := d_law_square, u_law_square := fun_of_D (st := s_law_square) U_law_square, g_law_square := He.glo_ok X G (cd.fact 58 (f := .glo "_law_square") rfl),
      f_law_is_any_right := _, d_law_is_any_right := d_law_is_any_right, u_law_is_any_right := fun_of_D (st := s_law_is_any_right) U_law_is_any_right, g_law_is_any_right := He.glo_ok X G (cd.fact 59 (f := .glo "_law_is_any_right") rfl),
      f_law_right := _, d_law_right := d_law_right, u_law_right := fun_of_D (st := s_law_right) U_law_right, g_law_right := He.glo_ok X G (cd.fact 60 (f := .glo "_law_right") rfl),
      f_law := _, d_law := d_law, u_law := fun_of_D (st := s_law) U_law, g_law := He.glo_ok X G (cd.fact 61 (f := .glo "law") rfl),
      n_abs := He.free_ok X G (cd.fact 62 (f := .free "abs") rfl),
      n_all := He.free_ok X G (cd.fact 63 (f := .free "all") rfl),
      n_bool := He.free_ok X G (cd.fact 64 (f := .free "bool") rfl),
      n_divmod := He.free_ok X G (cd.fact 65 (f := .free "divmod") rfl),
      n_enumerate := He.free_ok X G (cd.fact 66 (f := .free "enumerate") rfl),
      n_int := He.free_ok X G (cd.fact 67 (f := .free "int") rfl),
      n_isinstance := He.free_ok X G (cd.fact 68 (f := .free "isinstance") rfl),
      n_len := He.free_ok X G (cd.fact 69 (f := .free "len") rfl),
      n_list := He.free_ok X G (cd.fact 70 (f := .free "list") rfl),
      n_max := He.free_ok X G (cd.fact 71 (f := .free "max") rfl),
      n_min := He.free_ok X G (cd.fact 72 (f := .free "min") rfl),
      n_range := He.free_ok X G (cd.fact 73 (f := .free "range") rfl),
      n_tuple := He.free_ok X G (cd.fact 74 (f := .free "tuple") rfl),
      n_type := He.free_ok X G (cd.fact 75 (f := .free "type") rfl),
      n_zip := He.free_ok X G (cd.fact 76 (f := .free "zip") rfl),
      fam := ⟨rfl⟩,
      k_MOST_ROWS := k_MOST_ROWS, g_MOST_ROWS := g_MOST_ROWS,
      a_NIL := _, g_NIL := He.glo_ok X G (cd.fact 78 (f := .glo "NIL") rfl), w_NIL := pair_ok e_NIL,
      a_ONE := _, g_ONE := He.glo_ok X G (cd.fact 79 (f := .glo "ONE") rfl), w_ONE := pair_ok e_ONE,
      g_gcd := blt_ok X G e_gcd })
end K02
open PySem PySem.W PySem.Calls PyProof.Rows
theorem PySem.Challenge.cw_splitcosts_k02_tables_of_anything_holds : PySem.Challenge.rw_splitcosts_k02_tables_of_anything.Holds := by
  w_on; o_law
  refine HandSHeadRun.head_imp (r := OpenLaw.row PySem.Challenge.rw_splitcosts_k02_tables_of_anything) (q := view (OpenLaw.row PySem.Challenge.rw_splitcosts_k02_tables_of_anything).prog [0, 77]) (H := K02.hk) (ob := K02.ob) (M := 20000) (loose := K02.loose) (d := HandSHeadRun.topDef (OpenLaw.row PySem.Challenge.rw_splitcosts_k02_tables_of_anything).prog 77) (kwd := []) K02.ob_eq K02.run
    (by kernel_rfl) (by kernel_rfl) (by kernel_rfl) (by rfl) (by first | assumption | decide +kernel) (by decide +kernel) ⟨rfl, rfl, rfl, rfl, rfl, by decide +kernel⟩ ?hw ?hc
  case hw => w_witness2
  case hc =>
    refine HM.walk_scr (l := PySem.Challenge.rw_splitcosts_k02_tables_of_anything) (n := 63) (k := 27) (x := "script") rfl (by decide) (by kernel_rfl) ⟨rfl, by decide, by decide⟩ ?F
    intro w mg fa h Y G hmg0
    obtain ⟨K, KX, c⟩ := Y
    have hmg : mg ("law" : PySem.Str) = some (.ref fa) := by
      have e : (HandSHeadRun.topDef (OpenLaw.row PySem.Challenge.rw_splitcosts_k02_tables_of_anything).prog 77).name = ("law" : PySem.Str) := by kernel_rfl
      rw [← e]
      exact hmg0
    obtain ⟨fd, hb, hF⟩ := K02.told (P := (PySem.Challenge.rw_splitcosts_k02_tables_of_anything).prog) (w := w) KX G hmg c
    exact ⟨K, fd, K02.F_law, KX, hb, K02.law_ok, hF⟩
