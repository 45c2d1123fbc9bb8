import PyProof.Rows.All
import Wide.All
import OpenK.AllK
import Wide.FinOn
import HandS.ForMost
import HandS.Nested
import HandS.NestedK
import HandS.Rev
import HandS.RevTup
import HandS.TupAny
import HandS.TupMul
import HandS.Wide
import HandS.IsInst
import HandS.Style
import HandS.Walk
import HandS.Zip
import HandS.More
import HandS.Conv
import HandS.DictComp
import HandS.Defaults
import HandS.CallLocal
import KE.GoesMore
import PyProof.EnumMake
import KE.KLam
import HandS.DeepEq
import HandS.Deep
import HandS.Exc
import HandS.TryOnly
import HandS.ExcOwn
import HandS.WordsExc
import HandS.Flow
import HandS.ExcIs
import HandS.EndTab
import KE.KDictZip
import HandS.GenBody
import HandS.SortInts
import HandS.Iter
import HandS.SetFor
import HandS.Strs
import KE.KNestM
import PySem.Challenge.RW_kindscarried_k63_what_registers_lead_to
set_option Elab.async false
set_option linter.all false
set_option maxRecDepth 100000
/-! DL: a level of plain data over the hand layer: tuples by value, lists that change in a store of their own. -/
namespace DL
open PySem PySem.Spec PyProof.Rows L2

/-- a text's codes -/
def enc (s : String) : Str := ⟨(s.toList.map Char.toNat).toArray⟩
theorem enc_inj {a b : String} (h : enc a = enc b) : a = b := by
  have h1 : (a.toList.map Char.toNat) = (b.toList.map Char.toNat) := by
    have := congrArg (fun z : Str => z.cps.toList) h
    simpa [enc] using this
  have h2 : a.toList = b.toList := by
    have inj : ∀ {x y : List Char}, x.map Char.toNat = y.map Char.toNat → x = y := by
      intro x
      induction x with
      | nil => intro y hy; cases y with
        | nil => rfl
        | cons c r => simp at hy
      | cons c r ih => intro y hy; cases y with
        | nil => simp at hy
        | cons d q =>
          simp only [List.map_cons, List.cons.injEq] at hy
          obtain ⟨e1, e2⟩ := hy
          have : c = d := by
            apply Char.ext
            exact UInt32.toNat_inj.mp e1
          rw [this, ih e2]
    exact inj h1
  exact String.toList_inj.mp h2

/-- plain data; ob: a thing of the store; dcl: a dict that is locked for good; fn: a thing that is known by its word o -/
inductive D where
  | non | bl (b : Bool) | int (i : Int) | str (s : String) | ty (n : String) | ob (a : Addr) | fn (a : Addr) (os : List (Addr × HO)) (vs : List V) (ds : List D) | tup (ds : List D) | lst (ds : List D)
  | dct (ks : List Key) (ds : List D)
  | dcl (ks : List Key) (ds : List D)

mutual
inductive Rep (K : PySem.W.Frag) (G : Hp) : V → D → Prop
  | non : Rep K G .non .non
  | bl (b : Bool) : Rep K G (.bl b) (.bl b)
  | int (i : Int) : Rep K G (.int i) (.int i)
  | str (s : String) : Rep K G (.str (enc s)) (.str s)
  | ty (n : String) : Rep K G (.ty n) (.ty n)
  | ob (a : Addr) : Rep K G (.ref a) (.ob a)
  | fn {a : Addr} {os : List (Addr × HO)} {vs : List V} {ds : List D} : (∀ p ∈ os, G p.1 = some p.2) → Reps K G vs ds → Rep K G (.ref a) (.fn a os vs ds)
  | tup {a : Addr} {vs : List V} {ds : List D} : SqT K G a vs → Reps K G vs ds → Rep K G (.ref a) (.tup ds)
  | lst {a : Addr} {vs : List V} {ds : List D} : SqL K G a vs → Reps K G vs ds → Rep K G (.ref a) (.lst ds)
  | dct {a : Addr} {ks : List Key} {vs : List V} {ds : List D} : G a = some (.dK (ks.zip vs)) → ks.length = vs.length → Reps K G vs ds → Rep K G (.ref a) (.dct ks ds)
  | dcl {a : Addr} {o : Obj} {ks : List Key} {vs : List V} {ds : List D} : G a = some (.frz o (.dK (ks.zip vs))) → ks.length = vs.length → Reps K G vs ds → Rep K G (.ref a) (.dcl ks ds)
inductive Reps (K : PySem.W.Frag) (G : Hp) : List V → List D → Prop
  | nil : Reps K G [] []
  | cons {v : V} {vs : List V} {d : D} {ds : List D} : Rep K G v d → Reps K G vs ds → Reps K G (v :: vs) (d :: ds)
end

theorem sqT_mono {K : PySem.W.Frag} {G G' : Hp} {a : Addr} {xs : List V} (e : Same G G') (h : SqT K G a xs) : SqT K G' a xs := by
  rcases h with (h | ⟨o, h⟩) | h
  · exact .inl (.inl (e _ _ h))
  · exact .inl (.inr ⟨o, e _ _ h⟩)
  · exact .inr h
section
variable {K : PySem.W.Frag} {G G' : Hp}
mutual
theorem Rep.mono (e : Same G G') : ∀ {v : V} {d : D}, Rep K G v d → Rep K G' v d
  | _, _, .non => .non
  | _, _, .bl b => .bl b
  | _, _, .int i => .int i
  | _, _, .str s => .str s
  | _, _, .ty n => .ty n
  | _, _, .ob a => .ob a
  | _, _, .fn h r => .fn (fun p hp => e _ _ (h p hp)) (Reps.mono e r)
  | _, _, .tup h r => .tup (sqT_mono e h) (Reps.mono e r)
  | _, _, .lst h r => .lst (e.seq h) (Reps.mono e r)
  | _, _, .dct h l r => .dct (e _ _ h) l (Reps.mono e r)
  | _, _, .dcl h l r => .dcl (e _ _ h) l (Reps.mono e r)
theorem Reps.mono (e : Same G G') : ∀ {vs : List V} {ds : List D}, Reps K G vs ds → Reps K G' vs ds
  | _, _, .nil => .nil
  | _, _, .cons h r => .cons (Rep.mono e h) (Reps.mono e r)
end
theorem Reps.length : ∀ {vs : List V} {ds : List D}, Reps K G vs ds → vs.length = ds.length
  | _, _, .nil => rfl
  | _, _, .cons _ r => by simp [r.length]
theorem Reps.get : ∀ {vs : List V} {ds : List D} {i : Nat} {d : D}, Reps K G vs ds → ds[i]? = some d → ∃ v, vs[i]? = some v ∧ Rep K G v d
  | _, _, _, _, .nil, e => by simp at e
  | _, _, 0, _, .cons h r, e => by simp at e; subst e; exact ⟨_, rfl, h⟩
  | _, _, i + 1, d, .cons h r, e => by
    obtain ⟨v, h1, h2⟩ := r.get (i := i) (d := d) (by simpa using e)
    exact ⟨v, by simpa using h1, h2⟩
theorem Reps.getV : ∀ {vs : List V} {ds : List D} {i : Nat} {v : V}, Reps K G vs ds → vs[i]? = some v → ∃ d, ds[i]? = some d ∧ Rep K G v d
  | _, _, _, _, .nil, e => by simp at e
  | _, _, 0, _, .cons h r, e => by simp at e; subst e; exact ⟨_, rfl, h⟩
  | _, _, i + 1, v, .cons h r, e => by
    obtain ⟨d, h1, h2⟩ := r.getV (i := i) (v := v) (by simpa using e)
    exact ⟨d, by simpa using h1, h2⟩
theorem Reps.append : ∀ {vs ws : List V} {ds es : List D}, Reps K G vs ds → Reps K G ws es → Reps K G (vs ++ ws) (ds ++ es)
  | _, _, _, _, .nil, s => s
  | _, _, _, _, .cons h r, s => .cons h (r.append s)
theorem Reps.take : ∀ {vs : List V} {ds : List D} (n : Nat), Reps K G vs ds → Reps K G (vs.take n) (ds.take n)
  | _, _, 0, _ => .nil
  | _, _, _ + 1, .nil => .nil
  | _, _, n + 1, .cons h r => .cons h (r.take n)
theorem Reps.drop : ∀ {vs : List V} {ds : List D} (n : Nat), Reps K G vs ds → Reps K G (vs.drop n) (ds.drop n)
  | _, _, 0, r => r
  | _, _, _ + 1, .nil => .nil
  | _, _, n + 1, .cons _ r => r.drop n
theorem Reps.reverse : ∀ {vs : List V} {ds : List D}, Reps K G vs ds → Reps K G vs.reverse ds.reverse
  | _, _, .nil => .nil
  | _, _, .cons h r => by
    rw [List.reverse_cons, List.reverse_cons]
    exact r.reverse.append (.cons h .nil)
theorem Reps.set : ∀ {vs : List V} {ds : List D} {v : V} {d : D} (i : Nat), Reps K G vs ds → Rep K G v d → Reps K G (vs.set i v) (ds.set i d)
  | _, _, _, _, _, .nil, _ => .nil
  | _, _, _, _, 0, .cons _ r, q => .cons q r
  | _, _, _, _, i + 1, .cons h r, q => .cons h (r.set i q)
end

/-! ### the store -/
inductive MO where
  | lst (ds : List D)
  | dct (ks : List Key) (ds : List D)
  | tab (nm : Nat → Nat → Str)
abbrev Mu := Addr → Option MO
def mset (μ : Mu) (a : Addr) (o : MO) : Mu := fun b => if b = a then some o else μ b
theorem mset_same {μ : Mu} {a : Addr} {o : MO} : mset μ a o a = some o := by unfold mset; rw [if_pos rfl]
theorem mset_ne {μ : Mu} {a b : Addr} {o : MO} (h : b ≠ a) : mset μ a o b = μ b := by unfold mset; rw [if_neg h]
theorem mset_mset {μ : Mu} {a : Addr} {o u : MO} : mset (mset μ a o) a u = mset μ a u := by
  funext b; unfold mset; split <;> rfl
theorem mset_id {μ : Mu} {a : Addr} {o : MO} (h : μ a = some o) : mset μ a o = μ := by
  funext b; unfold mset; split
  · rename_i e; rw [e, h]
  · rfl
/-- the heap without what may change -/
def cut (H : Hp) (μ : Mu) : Hp := fun b => if (μ b).isSome then none else H b
theorem cut_sub {H : Hp} {μ : Mu} : Same (cut H μ) H := fun b o h => by
  unfold cut at h
  split at h
  · cases h
  · exact h
def MOk (K : PySem.W.Frag) (H G : Hp) (a : Addr) : MO → Prop
  | .lst ds => ∃ vs, H a = some (.lst vs) ∧ Reps K G vs ds
  | .dct ks ds => ∃ vs, H a = some (.dK (ks.zip vs)) ∧ ks.length = vs.length ∧ Reps K G vs ds
  | .tab nm => ∃ ps : Array Value, H a = some (.tbl ps) ∧ TriplesOk ps.toList ∧ ∀ (pos : Pos) (cv : Value), codeAmong pos ps.toList = some cv → ∃ c, cv = .ref c ∧ G c = some (LamX.CodeO c (nm pos.line pos.col))
def RM (K : PySem.W.Frag) (H : Hp) (μ : Mu) : Prop := ∀ a o, μ a = some o → MOk K H (cut H μ) a o
abbrev Rho := List (Option D)
structure RS (K : PySem.W.Frag) (H : Hp) (σ : L2.St) (ρ : Rho) (μ : Mu) : Prop where
  len : ρ.length = σ.length
  slot : ∀ (i : Nat) (d : D), ρ[i]? = some (some d) → ∃ v, σ[i]? = some (some v) ∧ Rep K (cut H μ) v d
  mem : RM K H μ
abbrev Stp (H : Hp) (μ : Mu) (H' : Hp) (μ' : Mu) : Prop := Same (cut H μ) (cut H' μ')
theorem RS.step {K : PySem.W.Frag} {H H' : Hp} {σ : L2.St} {ρ : Rho} {μ μ' : Mu} (R : RS K H σ ρ μ) (s : Stp H μ H' μ') (m : RM K H' μ') : RS K H' σ ρ μ' :=
  ⟨R.len, fun i d e => let ⟨v, h1, h2⟩ := R.slot i d e; ⟨v, h1, h2.mono s⟩, m⟩
theorem RS.set {K : PySem.W.Frag} {H : Hp} {σ : L2.St} {ρ : Rho} {μ : Mu} {v : V} {d : D} (R : RS K H σ ρ μ) (i : Nat) (r : Rep K (cut H μ) v d) : RS K H (σ.set i (some v)) (ρ.set i (some d)) μ := by
  refine ⟨by simpa using R.len, fun j e hj => ?_, R.mem⟩
  by_cases h : i = j
  · subst h
    by_cases hl : i < ρ.length
    · rw [List.getElem?_set_self hl] at hj
      cases hj
      exact ⟨v, by rw [List.getElem?_set_self (by rw [← R.len]; exact hl)], r⟩
    · rw [List.getElem?_eq_none (by simpa using hl)] at hj
      cases hj
  · rw [List.getElem?_set_ne h] at hj ⊢
    exact R.slot j e hj
/-- a thing laid outside of the store -/
theorem lay_stp {H : Hp} {μ : Mu} {p : Addr} (hp : H p = none) (hm : μ p = none) (o : HO) : Stp H μ (upd H p o) μ := fun b u e => by
  unfold cut at e ⊢
  split at e
  · cases e
  · rename_i h
    rw [if_neg h, upd_ne (ne_of_none e hp)]
    exact e
theorem RM.free {K : PySem.W.Frag} {H : Hp} {μ : Mu} (m : RM K H μ) {p : Addr} (hp : H p = none) : μ p = none := by
  cases e : μ p with
  | none => rfl
  | some o =>
    have := m p o e
    cases o with
    | lst ds =>
      obtain ⟨vs, h, _⟩ := this
      rw [hp] at h
      cases h
    | dct ks ds =>
      obtain ⟨vs, h, _⟩ := this
      rw [hp] at h
      cases h
    | tab nm =>
      obtain ⟨vs, h, _⟩ := this
      rw [hp] at h
      cases h
theorem MOk.mono {K : PySem.W.Frag} {H H' G G' : Hp} {a : Addr} {o : MO} (h : MOk K H G a o) (e : Same G G') (q : H' a = H a) : MOk K H' G' a o := by
  cases o with
  | lst ds =>
    obtain ⟨vs, h1, h2⟩ := h
    exact ⟨vs, q.trans h1, h2.mono e⟩
  | dct ks ds =>
    obtain ⟨vs, h1, hl, h2⟩ := h
    exact ⟨vs, q.trans h1, hl, h2.mono e⟩
  | tab nm =>
    obtain ⟨ps, h1, h2, h3⟩ := h
    refine ⟨ps, q.trans h1, h2, fun pos cv hc => ?_⟩
    obtain ⟨c, e1, e2⟩ := h3 pos cv hc
    exact ⟨c, e1, e _ _ e2⟩
theorem RM.lay {K : PySem.W.Frag} {H : Hp} {μ : Mu} (m : RM K H μ) {p : Addr} (hp : H p = none) (o : HO) : RM K (upd H p o) μ := fun a u e =>
  (m a u e).mono (lay_stp hp (m.free hp) o) (upd_ne fun z => by rw [z, m.free hp] at e; cases e)
theorem cut_lay {H : Hp} {μ : Mu} {p : Addr} (hm : μ p = none) (o : HO) : cut (upd H p o) μ p = some o := by
  unfold cut
  rw [hm]
  exact upd_same
/-- a thing of the store laid anew, or changed -/
theorem put_stp {H : Hp} {μ : Mu} {p : Addr} (hp : H p = none ∨ (μ p).isSome = true) (o : HO) (u : MO) : Stp H μ (upd H p o) (mset μ p u) := fun b w e => by
  unfold cut at e ⊢
  split at e
  · cases e
  · rename_i h
    have hb : b ≠ p := by
      intro z
      subst z
      rcases hp with q | q
      · rw [q] at e; cases e
      · exact h q
    rw [mset_ne hb, if_neg h, upd_ne hb]
    exact e
theorem RM.put {K : PySem.W.Frag} {H : Hp} {μ : Mu} (m : RM K H μ) {p : Addr} (hp : H p = none ∨ (μ p).isSome = true) {vs : List V} {ds : List D} (r : Reps K (cut H μ) vs ds) : RM K (upd H p (.lst vs)) (mset μ p (.lst ds)) := fun a u e => by
  have s := put_stp hp (.lst vs) (.lst ds) (H := H) (μ := μ)
  by_cases ha : a = p
  · subst ha
    rw [mset_same] at e
    cases e
    exact ⟨vs, upd_same, r.mono s⟩
  · rw [mset_ne ha] at e
    exact (m a u e).mono s (upd_ne ha)
theorem RM.putD {K : PySem.W.Frag} {H : Hp} {μ : Mu} (m : RM K H μ) {p : Addr} (hp : H p = none ∨ (μ p).isSome = true) {ks : List Key} {vs : List V} {ds : List D} (hl : ks.length = vs.length) (r : Reps K (cut H μ) vs ds) : RM K (upd H p (.dK (ks.zip vs))) (mset μ p (.dct ks ds)) := fun a u e => by
  have s := put_stp hp (.dK (ks.zip vs)) (.dct ks ds) (H := H) (μ := μ)
  by_cases ha : a = p
  · subst ha
    rw [mset_same] at e
    cases e
    exact ⟨vs, upd_same, hl, r.mono s⟩
  · rw [mset_ne ha] at e
    exact (m a u e).mono s (upd_ne ha)
/-- things of the store may be forgotten -/
def Sub (μ μ' : Mu) : Prop := ∀ a o, μ a = some o → μ' a = some o
theorem Sub.refl {μ : Mu} : Sub μ μ := fun _ _ h => h
theorem Sub.cut {H : Hp} {μ μ' : Mu} (s : Sub μ μ') : Same (cut H μ') (cut H μ) := fun b o e => by
  unfold DL.cut at e ⊢
  split at e
  · cases e
  · rename_i h
    rw [if_neg]
    · exact e
    · intro z
      obtain ⟨u, hu⟩ := Option.isSome_iff_exists.mp z
      exact h (by rw [s b u hu]; rfl)
theorem RM.sub {K : PySem.W.Frag} {H : Hp} {μ μ' : Mu} (m : RM K H μ') (s : Sub μ μ') : RM K H μ := fun a o e => (m a o (s a o e)).mono s.cut rfl

/-! ### expressions -/
abbrev DK := D → Mu → Prop
abbrev ED := Rho → Mu → DK → Prop
def Mono (t : ED) : Prop := ∀ ρ μ (Q Q' : DK), (∀ d μ', Q d μ' → Q' d μ') → t ρ μ Q → t ρ μ Q'
/-- a wish about data as a wish about values -/
def lift (K : PySem.W.Frag) (H : Hp) (μ : Mu) (Q : VK) : DK := fun d μ' => ∀ v H', Stp H μ H' μ' → RM K H' μ' → Rep K (cut H' μ') v d → Q v H'
def up (K : PySem.W.Frag) (t : ED) : TE := fun σ H Q => ∃ ρ μ, RS K H σ ρ μ ∧ t ρ μ (lift K H μ Q)
structure PD (X : Cx) (e : Expr) (t : ED) : Prop where
  pe : PE X e (up X.K t)
  mono : Mono t
theorem PE.imp {X : Cx} {e : Expr} {t t' : TE} (h : PE X e t) (i : ∀ σ H Q, t' σ H Q → t σ H Q) : PE X e t' := ⟨fun pins s σ H Q I q => h.run pins s σ H Q I (i _ _ _ q)⟩
theorem PT.imp {X : Cx} {e : Expr} {t t' : TT} (h : PT X e t) (i : ∀ σ H Q, t' σ H Q → t σ H Q) : PT X e t' := ⟨fun pins s σ H Q I q => h.run pins s σ H Q I (i _ _ _ q)⟩
theorem PS.imp {X : Cx} {e : Stmt} {t t' : TS} (h : PS X e t) (i : ∀ D σ H, t' D σ H → t D σ H) : PS X e t' := ⟨fun pins s σ H D I q => h.run pins s σ H D I (i _ _ _ q)⟩
theorem PSs.imp {X : Cx} {e : List Stmt} {t t' : TS} (h : PSs X e t) (i : ∀ D σ H, t' D σ H → t D σ H) : PSs X e t' := ⟨fun pins s σ H D I q => h.run pins s σ H D I (i _ _ _ q)⟩
theorem PA.imp {X : Cx} {e : List Expr} {t t' : TA} (h : PA X e t) (i : ∀ σ H Q, t' σ H Q → t σ H Q) : PA X e t' := ⟨fun pos pins s σ H Q I q => h.run pos pins s σ H Q I (i _ _ _ q)⟩
section
variable {K : PySem.W.Frag} {H : Hp} {σ : L2.St} {ρ : Rho} {μ : Mu} {t : ED} {k : DK} {Q : VK}
theorem up_bind (R : RS K H σ ρ μ) (m : Mono t) (h : t ρ μ k) (i : ∀ d μ' v H', k d μ' → Stp H μ H' μ' → RS K H' σ ρ μ' → Rep K (cut H' μ') v d → Q v H') : up K t σ H Q :=
  ⟨ρ, μ, R, m ρ μ _ _ (fun d μ' q v H' s rm r => i d μ' v H' q s (R.step s rm) r) h⟩
theorem lift_stp {H' : Hp} {μ' : Mu} (s : Stp H μ H' μ') {d : D} {μ2 : Mu} (h : lift K H μ Q d μ2) : lift K H' μ' Q d μ2 := fun v H2 s2 rm r => h v H2 (s.trans s2) rm r
end

def dVar (i : Nat) : ED := fun ρ μ Q => match ρ[i]? with
  | some (some d) => Q d μ
  | _ => False
def dC (d : D) : ED := fun _ μ Q => Q d μ
theorem dC_mono {d : D} : Mono (dC d) := fun _ _ _ _ h q => h _ _ q
theorem dVar_mono {i : Nat} : Mono (dVar i) := fun ρ μ Q Q' h q => by
  unfold dVar at q ⊢
  split at q
  · exact h _ _ q
  · exact q.elim
theorem scalar {K : PySem.W.Frag} {v : V} {d : D} (r : ∀ G, Rep K G v d) : ∀ σ H Q, up K (dC d) σ H Q → tC v σ H Q := fun σ H Q ⟨ρ, μ, R, h⟩ => h v H (Same.refl _) R.mem (r _)
section
variable {X : Cx}
theorem d_var (i : Nat) {x : Str} {pos : Pos} (hN : X.N[i]? = some x := by rfl) (hv : Vis X.env.scope x := by first | exact Or.inl rfl | exact Or.inr (Or.inl rfl) | exact Or.inr (Or.inr rfl)) (hd : (x == ("__debug__" : Str)) = false := by decide)
    (hcd : (x == ("__classdict__" : Str)) = false := by decide) : PD X (.Name x pos) (dVar i) := by
  refine ⟨PE.imp (pe_var (i := i) hN hv hd hcd) fun σ H Q ⟨ρ, μ, R, h⟩ => ?_, dVar_mono⟩
  unfold dVar at h
  split at h
  · rename_i d e
    obtain ⟨v, h1, h2⟩ := R.slot i d e
    exact ⟨v, h1, h v H (Same.refl _) R.mem h2⟩
  · exact h.elim
theorem d_int {i j pos} : PD X (.Constant (.int i) j pos) (dC (.int i)) := ⟨PE.imp pe_int (scalar fun _ => .int i), dC_mono⟩
theorem d_bl {b j pos} : PD X (.Constant (.bool b) j pos) (dC (.bl b)) := ⟨PE.imp pe_bl (scalar fun _ => .bl b), dC_mono⟩
theorem d_non {j pos} : PD X (.Constant .none j pos) (dC .non) := ⟨PE.imp pe_non (scalar fun _ => .non), dC_mono⟩
theorem d_str (s : String) {x : Str} {j pos} (h : x = enc s) : PD X (.Constant (.str x) j pos) (dC (.str s)) := ⟨PE.imp pe_str (scalar fun _ => h ▸ Rep.str s), dC_mono⟩
end
end DL

set_option Elab.async false
set_option linter.all false
set_option maxRecDepth 100000
namespace DL
open PySem PySem.Spec PyProof.Rows L2

/-! ### two-place operations -/
abbrev R2D := D → D → Mu → DK → Prop
def Mono2 (r : R2D) : Prop := ∀ a b μ (Q Q' : DK), (∀ d μ', Q d μ' → Q' d μ') → r a b μ Q → r a b μ Q'
def Raw2 (K : PySem.W.Frag) (r : R2D) : R2 := fun x y H Q => ∃ a b μ, RM K H μ ∧ Rep K (cut H μ) x a ∧ Rep K (cut H μ) y b ∧ r a b μ (lift K H μ Q)
structure OpD (X : Cx) (f : Value → Value → Sem Value) (r : R2D) : Prop where
  run : OpR X f (Raw2 X.K r)
  mono : Mono2 r
theorem OpR.imp {X : Cx} {f : Value → Value → Sem Value} {r r' : R2} (h : OpR X f r) (i : ∀ x y H Q, r' x y H Q → r x y H Q) : OpR X f r' := fun pins s σ H x y v u Q I rx ry q => h pins s σ H x y v u Q I rx ry (i _ _ _ _ q)
theorem OpR.two {X : Cx} {f : Value → Value → Sem Value} {r r' : R2} (h : OpR X f r) (h' : OpR X f r') : OpR X f (fun x y H Q => r x y H Q ∨ r' x y H Q) := fun pins s σ H x y v u Q I rx ry q =>
  q.elim (h pins s σ H x y v u Q I rx ry) (h' pins s σ H x y v u Q I rx ry)
def dOp (r : R2D) (ta tb : ED) : ED := fun ρ μ Q => ta ρ μ fun a μ1 => tb ρ μ1 fun b μ2 => r a b μ2 Q
theorem dOp_mono {r : R2D} {ta tb : ED} (h : Mono2 r) (ha : Mono ta) (hb : Mono tb) : Mono (dOp r ta tb) := fun ρ μ Q Q' i q => ha ρ μ _ _ (fun a μ1 q1 => hb ρ μ1 _ _ (fun b μ2 q2 => h a b μ2 Q Q' i q2) q1) q
theorem up_op {K : PySem.W.Frag} {r : R2D} {ta tb : ED} (h : Mono2 r) (ha : Mono ta) (hb : Mono tb) : ∀ σ H Q, up K (dOp r ta tb) σ H Q → tOp (Raw2 K r) (up K ta) (up K tb) σ H Q := fun σ H Q ⟨ρ, μ, R, q⟩ => by
  refine up_bind R ha q fun a μ1 v1 H1 q1 s1 R1 r1 => up_bind R1 hb q1 fun b μ2 v2 H2 q2 s2 R2 r2 => ?_
  exact ⟨a, b, μ2, R2.mem, r1.mono s2, r2, h a b μ2 _ _ (fun d μ' => lift_stp (s1.trans s2)) q2⟩
section
variable {X : Cx} {a b : Expr} {ta tb : ED} {pos : Pos} {r : R2D}
theorem d_op {op : Operator} (ho : OpD X (binaryOp op) r) (ha : PD X a ta) (hb : PD X b tb) : PD X (.BinOp a op b pos) (dOp r ta tb) :=
  ⟨PE.imp (pe_op ho.run ha.pe hb.pe) (up_op ho.mono ha.mono hb.mono), dOp_mono ho.mono ha.mono hb.mono⟩
theorem d_cmp {op : CmpOp} (ho : OpD X (compareOp op) r) (ha : PD X a ta) (hb : PD X b tb) (hm : behindInMarks op b = false) : PD X (.Compare a [op] [b] pos) (dOp r ta tb) :=
  ⟨PE.imp (pe_cmpR ho.run ha.pe hb.pe hm) (up_op ho.mono ha.mono hb.mono), dOp_mono ho.mono ha.mono hb.mono⟩
end

/-! ### tests -/
abbrev BK := Bool → Mu → Prop
abbrev TD := Rho → Mu → BK → Prop
def MonoT (t : TD) : Prop := ∀ ρ μ (Q Q' : BK), (∀ d μ', Q d μ' → Q' d μ') → t ρ μ Q → t ρ μ Q'
def liftB (K : PySem.W.Frag) (H : Hp) (μ : Mu) (Q : Bool → Hp → Prop) : BK := fun b μ' => ∀ H', Stp H μ H' μ' → RM K H' μ' → Q b H'
def upT (K : PySem.W.Frag) (t : TD) : TT := fun σ H Q => ∃ ρ μ, RS K H σ ρ μ ∧ t ρ μ (liftB K H μ Q)
structure PTD (X : Cx) (e : Expr) (t : TD) : Prop where
  pt : PT X e (upT X.K t)
  mono : MonoT t
structure PWD (X : Cx) (e : Expr) (t : TD) : Prop where
  pw : PW X e (upT X.K t)
  mono : MonoT t
theorem PW.imp {X : Cx} {e : Expr} {t t' : TT} (h : PW X e t) (i : ∀ σ H Q, t' σ H Q → t σ H Q) : PW X e t' := ⟨fun w pins s σ H Q I q => h.run w pins s σ H Q I (i _ _ _ q)⟩
theorem PWD.ptd {X : Cx} {e : Expr} {t : TD} (h : PWD X e t) : PTD X e t := ⟨h.pw.pt, h.mono⟩
section
variable {K : PySem.W.Frag} {H : Hp} {σ : L2.St} {ρ : Rho} {μ : Mu} {t : TD} {k : BK} {Q : Bool → Hp → Prop}
theorem upT_bind (R : RS K H σ ρ μ) (m : MonoT t) (h : t ρ μ k) (i : ∀ b μ' H', k b μ' → Stp H μ H' μ' → RS K H' σ ρ μ' → Q b H') : upT K t σ H Q :=
  ⟨ρ, μ, R, m ρ μ _ _ (fun b μ' q H' s rm => i b μ' H' q s (R.step s rm)) h⟩
theorem liftB_stp {H' : Hp} {μ' : Mu} (s : Stp H μ H' μ') {d : Bool} {μ2 : Mu} (h : liftB K H μ Q d μ2) : liftB K H' μ' Q d μ2 := fun H2 s2 rm => h H2 (s.trans s2) rm
end
/-- the truth of a datum -/
def truD (μ : Mu) : D → Option Bool
  | .non => some false
  | .bl b => some b
  | .int i => some (i != 0)
  | .tup ds => some (!ds.isEmpty)
  | .lst ds => some (!ds.isEmpty)
  | .ob a => match μ a with
    | some (.lst ds) => some (!ds.isEmpty)
    | _ => none
  | _ => none
def dTru (t : ED) : TD := fun ρ μ Q => t ρ μ fun d μ' => match truD μ' d with
  | some b => Q b μ'
  | none => False
theorem dTru_mono {t : ED} (h : Mono t) : MonoT (dTru t) := fun ρ μ Q Q' i q => h ρ μ _ _ (fun d μ' z => by
  split at z <;> rename_i e
  · exact i _ _ z
  · exact z.elim) q
theorem isE {K : PySem.W.Frag} {G : Hp} {vs : List V} {ds : List D} (r : Reps K G vs ds) : (!vs.isEmpty) = !ds.isEmpty := by
  cases r <;> rfl
theorem tru_of {K : PySem.W.Frag} {H : Hp} {μ : Mu} (m : RM K H μ) {v : V} {d : D} {b : Bool} (r : Rep K (cut H μ) v d) (h : truD μ d = some b) : TruV K v H b := by
  cases r with
  | non => exact (Option.some.inj h).symm
  | bl c => exact (Option.some.inj h).symm
  | int i => exact (Option.some.inj h).symm
  | str s => cases h
  | ty n => cases h
  | fn _ _ => cases h
  | dct _ _ _ => cases h
  | dcl _ _ _ => cases h
  | ob a =>
    unfold truD at h
    cases e : μ a with
    | none => simp only [e] at h; cases h
    | some o =>
      cases o with
      | lst ds =>
        simp only [e] at h
        obtain ⟨vs, h1, h2⟩ := m a _ e
        exact .inl ⟨vs, SqL.of h1, by rw [isE h2]; exact (Option.some.inj h).symm⟩
      | dct ks ds => simp only [e] at h; cases h
      | tab nm => simp only [e] at h; cases h
  | tup hs hr => exact .inr (.inl ⟨_, sqT_mono cut_sub hs, by rw [isE hr]; exact (Option.some.inj h).symm⟩)
  | lst hs hr => exact .inl ⟨_, Same.seq cut_sub hs, by rw [isE hr]; exact (Option.some.inj h).symm⟩
section
variable {X : Cx} {a b c : Expr} {ta tb : ED} {pos : Pos} {r : R2D} {t u : TD} {rest : List Expr}
/-- a test that is the truth of a value -/
theorem dt_tru (h : PD X a ta) (he : ∀ whole, isTrue a X.env whole = (do let v ← whole; standAt a.pos; holding [v] (truthy v)) := by intro _; rfl) : PTD X a (dTru ta) := by
  refine ⟨PT.imp (pt_truth h.pe he) fun σ H Q ⟨ρ, μ, R, q⟩ => ?_, dTru_mono h.mono⟩
  refine up_bind R h.mono q fun d μ' v H' q1 s R1 r1 => ?_
  split at q1 <;> rename_i e
  · exact ⟨_, tru_of R1.mem r1 e, q1 H' s R1.mem⟩
  · exact q1.elim
/-- .. of a comparison that gives a truth value -/
def dBool (t : ED) : TD := fun ρ μ Q => t ρ μ fun d μ' => match d with
  | .bl b => Q b μ'
  | _ => False
theorem dBool_mono {t : ED} (h : Mono t) : MonoT (dBool t) := fun ρ μ Q Q' i q => h ρ μ _ _ (fun d μ' z => by
  cases d <;> first | exact i _ _ z | exact z.elim) q
theorem dt_cmp {op : CmpOp} (ho : OpD X (compareOp op) r) (ha : PD X a ta) (hb : PD X b tb) (hm : behindInMarks op b = false) : PTD X (.Compare a [op] [b] pos) (dBool (dOp r ta tb)) := by
  have mm := dOp_mono ho.mono ha.mono hb.mono
  refine ⟨PT.imp (pt_cmpR ho.run ha.pe hb.pe hm) fun σ H Q ⟨ρ, μ, R, q⟩ => ?_, dBool_mono mm⟩
  refine up_op ho.mono ha.mono hb.mono σ H _ (up_bind R mm q fun d μ' v H' q1 s R1 r1 => ?_)
  cases r1 <;> first | exact ⟨_, rfl, q1 H' s R1.mem⟩ | exact q1.elim
theorem dt_val {e : Expr} (h : PD X e ta) (he : ∀ whole, isTrue e X.env whole = (do let v ← whole; standAt e.pos; holding [v] (truthy v)) := by intro _; rfl) : PTD X e (dBool ta) := by
  refine ⟨PT.imp (pt_val h.pe he) fun σ H Q ⟨ρ, μ, R, q⟩ => ?_, dBool_mono h.mono⟩
  refine up_bind R h.mono q fun d μ' v H' q1 s R1 r1 => ?_
  cases r1 <;> first | exact ⟨_, rfl, q1 H' s R1.mem⟩ | exact q1.elim
def dAnd (t u : TD) : TD := fun ρ μ Q => t ρ μ fun c μ1 => if c = true then u ρ μ1 Q else Q false μ1
def dOr (t u : TD) : TD := fun ρ μ Q => t ρ μ fun c μ1 => if c = true then Q true μ1 else u ρ μ1 Q
def dNot (t : TD) : TD := fun ρ μ Q => t ρ μ fun c μ1 => Q (!c) μ1
theorem dAnd_mono (h : MonoT t) (h' : MonoT u) : MonoT (dAnd t u) := fun ρ μ Q Q' i q => h ρ μ _ _ (fun c μ1 z => by
  cases c with
  | true => exact h' ρ μ1 Q Q' i z
  | false => exact i _ _ z) q
theorem dOr_mono (h : MonoT t) (h' : MonoT u) : MonoT (dOr t u) := fun ρ μ Q Q' i q => h ρ μ _ _ (fun c μ1 z => by
  cases c with
  | true => exact i _ _ z
  | false => exact h' ρ μ1 Q Q' i z) q
theorem dNot_mono (h : MonoT t) : MonoT (dNot t) := fun ρ μ Q Q' i q => h ρ μ _ _ (fun c μ1 z => i _ _ z) q
theorem dw_and1 (h : PTD X a t) : PWD X (.BoolOp .And [a] pos) t := ⟨pw_and1 h.pt, h.mono⟩
theorem dw_or1 (h : PTD X a t) : PWD X (.BoolOp .Or [a] pos) t := ⟨pw_or1 h.pt, h.mono⟩
theorem dw_and (h : PTD X a t) (h' : PWD X (.BoolOp .And (b :: rest) pos) u) : PWD X (.BoolOp .And (a :: b :: rest) pos) (dAnd t u) := by
  refine ⟨PW.imp (pw_and h.pt h'.pw) fun σ H Q ⟨ρ, μ, R, q⟩ => ?_, dAnd_mono h.mono h'.mono⟩
  refine upT_bind R h.mono q fun c μ' H' q1 s R1 => ?_
  cases c with
  | true => exact ⟨ρ, μ', R1, h'.mono ρ μ' _ _ (fun d μ2 => liftB_stp s) q1⟩
  | false => exact q1 H' s R1.mem
theorem dw_or (h : PTD X a t) (h' : PWD X (.BoolOp .Or (b :: rest) pos) u) : PWD X (.BoolOp .Or (a :: b :: rest) pos) (dOr t u) := by
  refine ⟨PW.imp (pw_or h.pt h'.pw) fun σ H Q ⟨ρ, μ, R, q⟩ => ?_, dOr_mono h.mono h'.mono⟩
  refine upT_bind R h.mono q fun c μ' H' q1 s R1 => ?_
  cases c with
  | true => exact q1 H' s R1.mem
  | false => exact ⟨ρ, μ', R1, h'.mono ρ μ' _ _ (fun d μ2 => liftB_stp s) q1⟩
theorem dt_not (h : PTD X a t) : PTD X (.UnaryOp .Not a pos) (dNot t) := by
  refine ⟨PT.imp (pt_not h.pt) fun σ H Q ⟨ρ, μ, R, q⟩ => ?_, dNot_mono h.mono⟩
  exact upT_bind R h.mono q fun c μ' H' q1 s R1 => q1 H' s R1.mem
/-- .. as values -/
def dAndV (ta tb : ED) : ED := fun ρ μ Q => ta ρ μ fun x μ1 => match x with
  | .bl true => tb ρ μ1 Q
  | .bl false => Q (.bl false) μ1
  | _ => False
def dOrV (ta tb : ED) : ED := fun ρ μ Q => ta ρ μ fun x μ1 => match x with
  | .bl true => Q (.bl true) μ1
  | .bl false => tb ρ μ1 Q
  | _ => False
def dNotV (ta : ED) : ED := fun ρ μ Q => ta ρ μ fun x μ1 => match x with
  | .bl b => Q (.bl (!b)) μ1
  | _ => False
theorem dAndV_mono (h : Mono ta) (h' : Mono tb) : Mono (dAndV ta tb) := fun ρ μ Q Q' i q => h ρ μ _ _ (fun x μ1 z => by
  cases x with
  | bl c => cases c <;> first | exact i _ _ z | exact h' ρ μ1 Q Q' i z
  | _ => exact z.elim) q
theorem dOrV_mono (h : Mono ta) (h' : Mono tb) : Mono (dOrV ta tb) := fun ρ μ Q Q' i q => h ρ μ _ _ (fun x μ1 z => by
  cases x with
  | bl c => cases c <;> first | exact i _ _ z | exact h' ρ μ1 Q Q' i z
  | _ => exact z.elim) q
theorem dNotV_mono (h : Mono ta) : Mono (dNotV ta) := fun ρ μ Q Q' i q => h ρ μ _ _ (fun x μ1 z => by
  cases x with
  | bl c => exact i _ _ z
  | _ => exact z.elim) q
theorem d_one {op} (h : PD X a ta) : PD X (.BoolOp op [a] pos) ta := ⟨pe_one h.pe, h.mono⟩
theorem d_and (h : PD X a ta) (h' : PD X (.BoolOp .And (b :: rest) pos) tb) : PD X (.BoolOp .And (a :: b :: rest) pos) (dAndV ta tb) := by
  refine ⟨PE.imp (pe_and h.pe h'.pe) fun σ H Q ⟨ρ, μ, R, q⟩ => ?_, dAndV_mono h.mono h'.mono⟩
  refine up_bind R h.mono q fun d μ' v H' q1 s R1 r1 => ?_
  cases r1 with
  | bl c =>
    refine ⟨c, rfl, ?_⟩
    cases c with
    | true => exact iteT ⟨ρ, μ', R1, h'.mono ρ μ' _ _ (fun d μ2 => lift_stp s) q1⟩
    | false => exact iteF (q1 _ H' s R1.mem (.bl false))
  | _ => exact q1.elim
theorem d_or (h : PD X a ta) (h' : PD X (.BoolOp .Or (b :: rest) pos) tb) : PD X (.BoolOp .Or (a :: b :: rest) pos) (dOrV ta tb) := by
  refine ⟨PE.imp (pe_or h.pe h'.pe) fun σ H Q ⟨ρ, μ, R, q⟩ => ?_, dOrV_mono h.mono h'.mono⟩
  refine up_bind R h.mono q fun d μ' v H' q1 s R1 r1 => ?_
  cases r1 with
  | bl c =>
    refine ⟨c, rfl, ?_⟩
    cases c with
    | false => exact iteF ⟨ρ, μ', R1, h'.mono ρ μ' _ _ (fun d μ2 => lift_stp s) q1⟩
    | true => exact iteT (q1 _ H' s R1.mem (.bl true))
  | _ => exact q1.elim
theorem d_not (h : PD X a ta) : PD X (.UnaryOp .Not a pos) (dNotV ta) := by
  refine ⟨PE.imp (pe_not h.pe) fun σ H Q ⟨ρ, μ, R, q⟩ => ?_, dNotV_mono h.mono⟩
  refine up_bind R h.mono q fun d μ' v H' q1 s R1 r1 => ?_
  cases r1 with
  | bl c => exact ⟨c, rfl, q1 _ H' s R1.mem (.bl _)⟩
  | _ => exact q1.elim
def dIf (t : TD) (ta tb : ED) : ED := fun ρ μ Q => t ρ μ fun c μ1 => if c = true then ta ρ μ1 Q else tb ρ μ1 Q
theorem dIf_mono (h : MonoT t) (h1 : Mono ta) (h2 : Mono tb) : Mono (dIf t ta tb) := fun ρ μ Q Q' i q => h ρ μ _ _ (fun c μ1 z => by
  cases c with
  | true => exact h1 ρ μ1 Q Q' i z
  | false => exact h2 ρ μ1 Q Q' i z) q
theorem d_if (h : PTD X c t) (h1 : PD X a ta) (h2 : PD X b tb) : PD X (.IfExp c a b pos) (dIf t ta tb) := by
  refine ⟨PE.imp (pe_ifExp h.pt h1.pe h2.pe) fun σ H Q ⟨ρ, μ, R, q⟩ => ?_, dIf_mono h.mono h1.mono h2.mono⟩
  refine upT_bind R h.mono q fun c μ' H' q1 s R1 => ?_
  cases c with
  | true => exact iteT ⟨ρ, μ', R1, h1.mono ρ μ' _ _ (fun d μ2 => lift_stp s) q1⟩
  | false => exact iteF ⟨ρ, μ', R1, h2.mono ρ μ' _ _ (fun d μ2 => lift_stp s) q1⟩
end

/-! ### argument lists, displays -/
abbrev AK := List D → Mu → Prop
abbrev AD := Rho → Mu → AK → Prop
def MonoA (t : AD) : Prop := ∀ ρ μ (Q Q' : AK), (∀ d μ', Q d μ' → Q' d μ') → t ρ μ Q → t ρ μ Q'
def liftA (K : PySem.W.Frag) (H : Hp) (μ : Mu) (Q : List V → Hp → Prop) : AK := fun ds μ' => ∀ vs H', Stp H μ H' μ' → RM K H' μ' → Reps K (cut H' μ') vs ds → Q vs H'
def upA (K : PySem.W.Frag) (t : AD) : TA := fun σ H Q => ∃ ρ μ, RS K H σ ρ μ ∧ t ρ μ (liftA K H μ Q)
structure PAD (X : Cx) (es : List Expr) (t : AD) : Prop where
  pa : PA X es (upA X.K t)
  mono : MonoA t
theorem upA_bind {K : PySem.W.Frag} {H : Hp} {σ : L2.St} {ρ : Rho} {μ : Mu} {t : AD} {k : AK} {Q : List V → Hp → Prop} (R : RS K H σ ρ μ) (m : MonoA t) (h : t ρ μ k) (i : ∀ ds μ' vs H', k ds μ' → Stp H μ H' μ' → RS K H' σ ρ μ' → Reps K (cut H' μ') vs ds → Q vs H') : upA K t σ H Q :=
  ⟨ρ, μ, R, m ρ μ _ _ (fun d μ' q v H' s rm r => i d μ' v H' q s (R.step s rm) r) h⟩
theorem liftA_stp {K : PySem.W.Frag} {H : Hp} {μ : Mu} {Q : List V → Hp → Prop} {H' : Hp} {μ' : Mu} (s : Stp H μ H' μ') {d : List D} {μ2 : Mu} (h : liftA K H μ Q d μ2) : liftA K H' μ' Q d μ2 := fun v H2 s2 rm r => h v H2 (s.trans s2) rm r
def dNil : AD := fun _ μ Q => Q [] μ
def dCons (t : ED) (u : AD) : AD := fun ρ μ Q => t ρ μ fun d μ1 => u ρ μ1 fun ds μ2 => Q (d :: ds) μ2
theorem dCons_mono {t : ED} {u : AD} (h : Mono t) (h' : MonoA u) : MonoA (dCons t u) := fun ρ μ Q Q' i q => h ρ μ _ _ (fun d μ1 z => h' ρ μ1 _ _ (fun ds μ2 z' => i _ _ z') z) q
def dTup (u : AD) : ED := fun ρ μ Q => u ρ μ fun ds μ1 => ds.length ≤ sizeLine ∧ Q (.tup ds) μ1
def dLst (u : AD) : ED := fun ρ μ Q => u ρ μ fun ds μ1 => ds.length ≤ sizeLine ∧ ∀ p, μ1 p = none → Q (.ob p) (mset μ1 p (.lst ds))
theorem dTup_mono {u : AD} (h : MonoA u) : Mono (dTup u) := fun ρ μ Q Q' i q => h ρ μ _ _ (fun d μ1 z => ⟨z.1, i _ _ z.2⟩) q
theorem dLst_mono {u : AD} (h : MonoA u) : Mono (dLst u) := fun ρ μ Q Q' i q => h ρ μ _ _ (fun d μ1 z => ⟨z.1, fun p hp => i _ _ (z.2 p hp)⟩) q
section
variable {X : Cx} {e : Expr} {es : List Expr} {te : ED} {t : AD} {pos : Pos}
theorem da_nil : PAD X [] dNil := ⟨PA.imp pa_nil fun σ H Q ⟨ρ, μ, R, q⟩ => q [] H (Same.refl _) R.mem .nil, fun _ _ _ _ i q => i _ _ q⟩
theorem da_cons (h : PD X e te) (h' : PAD X es t) (hs : starEach (e :: es) X.env = (false, eval e X.env) :: starEach es X.env := by rfl) : PAD X (e :: es) (dCons te t) := by
  refine ⟨PA.imp (pa_cons h.pe h'.pa hs) fun σ H Q ⟨ρ, μ, R, q⟩ => ?_, dCons_mono h.mono h'.mono⟩
  refine up_bind R h.mono q fun d μ1 v H1 q1 s1 R1 r1 => upA_bind R1 h'.mono q1 fun ds μ2 vs H2 q2 s2 R2 r2 => ?_
  exact q2 (v :: vs) H2 (s1.trans s2) R2.mem (.cons (r1.mono s2) r2)
theorem d_tup {k} (h : PAD X es t) : PD X (.Tuple es k pos) (dTup t) := by
  refine ⟨PE.imp (pe_tup h.pa) fun σ H Q ⟨ρ, μ, R, q⟩ => ?_, dTup_mono h.mono⟩
  refine upA_bind R h.mono q fun ds μ1 vs H1 q1 s1 R1 r1 => ⟨by rw [r1.length]; exact q1.1, fun p hp => ?_⟩
  have hm := R1.mem.free hp
  have s2 := lay_stp hp hm (.tup vs)
  exact q1.2 _ _ (s1.trans s2) (R1.mem.lay hp _) (.tup (SqT.of (cut_lay hm _)) (r1.mono s2))
theorem d_lst (h : PAD X es t) : PD X (.List es pos) (dLst t) := by
  refine ⟨PE.imp (pe_lst h.pa) fun σ H Q ⟨ρ, μ, R, q⟩ => ?_, dLst_mono h.mono⟩
  refine upA_bind R h.mono q fun ds μ1 vs H1 q1 s1 R1 r1 => ⟨by rw [r1.length]; exact q1.1, fun p hp => ?_⟩
  exact q1.2 p (R1.mem.free hp) _ _ (s1.trans (put_stp (.inl hp) _ _)) (R1.mem.put (.inl hp) r1) (.ob p)
end
/-- a list of the store becomes one that stands for good -/
def mdel (μ : Mu) (a : Addr) : Mu := fun b => if b = a then none else μ b
theorem mdel_sub {μ : Mu} {a : Addr} : Sub (mdel μ a) μ := fun b o h => by
  unfold mdel at h
  split at h
  · cases h
  · exact h
theorem mdel_same {μ : Mu} {a : Addr} : mdel μ a a = none := by unfold mdel; rw [if_pos rfl]
theorem mdel_mset {μ : Mu} {a : Addr} {o : MO} (h : μ a = none) : mdel (mset μ a o) a = μ := by
  funext b
  unfold mdel mset
  split
  · rename_i e
    rw [e, h]
  · rfl
def frzD (d : D) (μ : Mu) (Q : DK) : Prop := match d with
  | .ob a => match μ a with
    | some (.lst ds) => Q (.lst ds) (mdel μ a)
    | some (.dct ks ds) => Q (.dct ks ds) (mdel μ a)
    | _ => False
  | d => Q d μ
def dFrz (t : ED) : ED := fun ρ μ Q => t ρ μ fun d μ' => frzD d μ' Q
theorem frzD_mono {d : D} {μ : Mu} {Q Q' : DK} (i : ∀ d μ', Q d μ' → Q' d μ') (z : frzD d μ Q) : frzD d μ Q' := by
  unfold frzD at z ⊢
  split at z
  · split at z
    · exact i _ _ z
    · exact i _ _ z
    · exact z.elim
  · exact i _ _ z
theorem dFrz_mono {t : ED} (h : Mono t) : Mono (dFrz t) := fun ρ μ Q Q' i q => h ρ μ _ _ (fun d μ' z => frzD_mono i z) q
theorem d_frz {X : Cx} {e : Expr} {t : ED} (h : PD X e t) : PD X e (dFrz t) := by
  refine ⟨PE.imp h.pe fun σ H Q ⟨ρ, μ, R, q⟩ => ?_, dFrz_mono h.mono⟩
  refine up_bind R h.mono q fun d μ' v H' q1 s R1 r1 => ?_
  unfold frzD at q1
  have sb : ∀ a, Sub (mdel μ' a) μ' := fun a => mdel_sub
  have ct : ∀ a, cut H' (mdel μ' a) a = H' a := fun a => by
    unfold cut
    rw [mdel_same]
    rfl
  split at q1
  · rename_i a
    cases r1
    split at q1
    · rename_i ds e
      obtain ⟨vs, h1, h2⟩ := R1.mem a _ e
      exact q1 _ H' (s.trans (sb a).cut) (R1.mem.sub (sb a)) (.lst (SqL.of ((ct a).trans h1)) (h2.mono (sb a).cut))
    · rename_i ks ds e
      obtain ⟨vs, h1, hl, h2⟩ := R1.mem a _ e
      exact q1 _ H' (s.trans (sb a).cut) (R1.mem.sub (sb a)) (.dct ((ct a).trans h1) hl (h2.mono (sb a).cut))
    · exact q1.elim
  · exact q1 _ H' s R1.mem r1
end DL

set_option Elab.async false
set_option linter.all false
set_option maxRecDepth 100000
namespace DL
open PySem PySem.Spec PyProof.Rows L2

/-! ### operators on ints, texts, tuples, lists -/
def rIntD (C : Int → Int → Prop) (g : Int → Int → D) : R2D := fun a b μ Q => match a, b with
  | .int i, .int j => C i j ∧ Q (g i j) μ
  | _, _ => False
theorem rIntD_mono {C : Int → Int → Prop} {g : Int → Int → D} : Mono2 (rIntD C g) := fun a b μ Q Q' h q => by
  unfold rIntD at q ⊢
  split at q
  · exact ⟨q.1, h _ _ q.2⟩
  · exact q.elim
section
variable {X : Cx}
theorem oInt {f : Value → Value → Sem Value} {C : Int → Int → Prop} {g : Int → Int → V} {g' : Int → Int → D} (o : OpR X f (rI C g)) (e : ∀ i j G, Rep X.K G (g i j) (g' i j)) : OpD X f (rIntD C g') := by
  refine ⟨OpR.imp o fun x y H Q ⟨a, b, μ, m, ra, rb, q⟩ => ?_, rIntD_mono⟩
  unfold rIntD at q
  split at q
  · cases ra
    cases rb
    exact ⟨_, _, rfl, rfl, q.1, q.2 _ H (Same.refl _) m (e _ _ _)⟩
  · exact q.elim
theorem oInt0 {f : Value → Value → Sem Value} {g : Int → Int → V} {g' : Int → Int → D} (o : OpR X f (rI0 g)) (e : ∀ i j G, Rep X.K G (g i j) (g' i j)) : OpD X f (rIntD (fun _ _ => True) g') := by
  refine ⟨OpR.imp o fun x y H Q ⟨a, b, μ, m, ra, rb, q⟩ => ?_, rIntD_mono⟩
  unfold rIntD at q
  split at q
  · cases ra
    cases rb
    exact ⟨_, _, rfl, rfl, q.2 _ H (Same.refl _) m (e _ _ _)⟩
  · exact q.elim
abbrev rSubD := rIntD (fun _ _ => True) fun i j => .int (i - j)
theorem o_sub : OpD X (binaryOp .Sub) rSubD := oInt0 op_sub fun _ _ _ => .int _
abbrev rFdivD := rIntD (fun _ j => 0 < j ∧ j < 1073741824) fun i j => .int (i / j)
theorem o_fdiv : OpD X (binaryOp .FloorDiv) rFdivD := oInt (C := CDiv) op_fdiv fun _ _ _ => .int _
abbrev rModD := rIntD (fun _ j => 0 < j) fun i j => .int (i % j)
theorem o_mod : OpD X (binaryOp .Mod) rModD := oInt op_mod fun _ _ _ => .int _
abbrev rPowD := rIntD CPow fun i j => .int (i ^ j.toNat)
theorem o_pow : OpD X (binaryOp .Pow) rPowD := oInt op_pow fun _ _ _ => .int _
abbrev rLtD := rIntD (fun _ _ => True) fun i j => .bl (decide (i < j))
theorem o_lt : OpD X (compareOp .Lt) rLtD := oInt0 op_lt fun _ _ _ => .bl _
abbrev rLeD := rIntD (fun _ _ => True) fun i j => .bl (decide (i ≤ j))
theorem o_le : OpD X (compareOp .LtE) rLeD := oInt0 op_le fun _ _ _ => .bl _
abbrev rGtD := rIntD (fun _ _ => True) fun i j => .bl (decide (j < i))
theorem o_gt : OpD X (compareOp .Gt) rGtD := oInt0 op_gt fun _ _ _ => .bl _
abbrev rGeD := rIntD (fun _ _ => True) fun i j => .bl (decide (j ≤ i))
theorem o_ge : OpD X (compareOp .GtE) rGeD := oInt0 op_ge fun _ _ _ => .bl _
theorem enc_app (a b : String) : enc (a ++ b) = enc a ++ enc b := by
  show enc (a ++ b) = (⟨(enc a).cps ++ (enc b).cps⟩ : Str)
  unfold enc
  simp
theorem enc_len (a : String) : (enc a).length = a.length := by
  show (enc a).cps.size = a.length
  unfold enc
  rw [List.size_toArray, List.length_map]
  exact String.length_toList
/-- + of ints, texts, tuples, lists of the store -/
def rAddD : R2D := fun a b μ Q => match a, b with
  | .int i, .int j => Q (.int (i + j)) μ
  | .str x, .str y => x.length + y.length ≤ sizeLine ∧ Q (.str (x ++ y)) μ
  | .tup xs, .tup ys => xs.length + ys.length ≤ sizeLine ∧ Q (.tup (xs ++ ys)) μ
  | .ob p, .ob q => match μ p, μ q with
    | some (.lst xs), some (.lst ys) => xs.length + ys.length ≤ sizeLine ∧ ∀ r, μ r = none → Q (.ob r) (mset μ r (.lst (xs ++ ys)))
    | _, _ => False
  | _, _ => False
theorem rAddD_mono : Mono2 rAddD := fun a b μ Q Q' h q => by
  unfold rAddD at q ⊢
  split at q
  · exact h _ _ q
  · exact ⟨q.1, h _ _ q.2⟩
  · exact ⟨q.1, h _ _ q.2⟩
  · split at q
    · exact ⟨q.1, fun r hr => h _ _ (q.2 r hr)⟩
    · exact q.elim
  · exact q.elim
theorem o_add : OpD X (binaryOp .Add) rAddD := by
  refine ⟨OpR.imp (OpR.two op_add (OpR.two op_add_str (OpR.two op_catA op_cat))) fun x y H Q ⟨a, b, μ, m, ra, rb, q⟩ => ?_, rAddD_mono⟩
  unfold rAddD at q
  split at q
  · cases ra
    cases rb
    exact .inl ⟨_, _, rfl, rfl, q _ H (Same.refl _) m (.int _)⟩
  · cases ra
    cases rb
    refine .inr (.inl ⟨_, _, rfl, rfl, by rw [enc_len, enc_len]; exact q.1, ?_⟩)
    rw [← enc_app]
    exact q.2 _ H (Same.refl _) m (.str _)
  · cases ra with
    | tup h1 r1 =>
      cases rb with
      | tup h2 r2 =>
        refine .inr (.inr (.inl ⟨_, _, _, _, rfl, rfl, sqT_mono cut_sub h1, sqT_mono cut_sub h2, by rw [r1.length, r2.length]; exact q.1, fun e => ?_, fun _ e => ?_, fun _ _ p hp => ?_⟩))
        · subst e
          cases r1
          exact q.2 _ H (Same.refl _) m (.tup h2 r2)
        · subst e
          cases r2
          refine q.2 _ H (Same.refl _) m ?_
          rw [List.append_nil]
          exact .tup h1 r1
        · have hm := m.free hp
          exact q.2 _ _ (lay_stp hp hm _) (m.lay hp _) (.tup (SqT.of (cut_lay hm _)) ((r1.append r2).mono (lay_stp hp hm _)))
  · split at q
    · rename_i e1 e2
      cases ra
      cases rb
      obtain ⟨vs, h1, r1⟩ := m _ _ e1
      obtain ⟨ws, h2, r2⟩ := m _ _ e2
      refine .inr (.inr (.inr ⟨_, _, _, _, rfl, rfl, h1, h2, by rw [r1.length, r2.length]; exact q.1, fun p hp => ?_⟩))
      exact q.2 p (m.free hp) _ _ (put_stp (.inl hp) _ _) (m.put (.inl hp) (r1.append r2)) (.ob p)
    · exact q.elim
  · exact q.elim
/-- * of ints, of a tuple and an int -/
def rMulD : R2D := fun a b μ Q => match a, b with
  | .int i, .int j => CMul i j ∧ Q (.int (i * j)) μ
  | .tup xs, .int k => xs ≠ [] ∧ 2 ≤ k ∧ k ≤ 1000 ∧ xs.length ≤ 1000 ∧ Q (.tup (List.replicate k.toNat xs).flatten) μ
  | .ob p, .int k => match μ p with
    | some (.lst xs) => (-(2 ^ 63) ≤ k ∧ k < 2 ^ 63 ∧ xs.length * k.toNat ≤ sizeLine) ∧ ∀ r, μ r = none → Q (.ob r) (mset μ r (.lst (List.replicate k.toNat xs).flatten))
    | _ => False
  | _, _ => False
theorem rMulD_mono : Mono2 rMulD := fun a b μ Q Q' h q => by
  unfold rMulD at q ⊢
  split at q
  · exact ⟨q.1, h _ _ q.2⟩
  · obtain ⟨a1, a2, a3, a4, q⟩ := q
    exact ⟨a1, a2, a3, a4, h _ _ q⟩
  · split at q
    · exact ⟨q.1, fun r hr => h _ _ (q.2 r hr)⟩
    · exact q.elim
  · exact q.elim
theorem Reps.rep {K : PySem.W.Frag} {G : Hp} {vs : List V} {ds : List D} (r : Reps K G vs ds) : ∀ n : Nat, Reps K G (List.replicate n vs).flatten (List.replicate n ds).flatten
  | 0 => .nil
  | n + 1 => by
    rw [List.replicate_succ, List.replicate_succ, List.flatten_cons, List.flatten_cons]
    exact r.append (Reps.rep r n)
theorem o_mul : OpD X (binaryOp .Mult) rMulD := by
  refine ⟨OpR.imp (OpR.two op_mul (OpR.two op_repT op_rep)) fun x y H Q ⟨a, b, μ, m, ra, rb, q⟩ => ?_, rMulD_mono⟩
  unfold rMulD at q
  split at q
  · cases ra
    cases rb
    exact .inl ⟨_, _, rfl, rfl, q.1, q.2 _ H (Same.refl _) m (.int _)⟩
  · cases rb
    cases ra with
    | tup h1 r1 =>
      obtain ⟨a1, a2, a3, a4, q⟩ := q
      refine .inr (.inl ⟨_, _, _, rfl, rfl, sqT_mono cut_sub h1, fun e => ?_, a2, a3, by rw [r1.length]; exact a4, fun p hp => ?_⟩)
      · subst e
        cases r1
        exact a1 rfl
      · have hm := m.free hp
        exact q _ _ (lay_stp hp hm _) (m.lay hp _) (.tup (SqT.of (cut_lay hm _)) ((r1.rep _).mono (lay_stp hp hm _)))
  · split at q
    · rename_i e1
      cases ra
      cases rb
      obtain ⟨vs, h1, r1⟩ := m _ _ e1
      obtain ⟨⟨a1, a2, a3⟩, q⟩ := q
      refine .inr (.inr ⟨_, _, _, rfl, rfl, h1, a1, a2, by rw [r1.length]; exact a3, fun p hp => ?_⟩)
      exact q p (m.free hp) _ _ (put_stp (.inl hp) _ _) (m.put (.inl hp) (r1.rep _)) (.ob p)
    · exact q.elim
  · exact q.elim

/-! ### is, ==, in -/
/-- x is None, True, False; x is a type -/
def isNon : D → Bool
  | .non => true
  | _ => false
def isBl (b : Bool) : D → Bool
  | .bl c => b == c
  | _ => false
def isD (a b : D) : Option Bool := match b with
  | .non => some (isNon a)
  | .bl b => some (isBl b a)
  | .ty n => match a with
    | .ty m => some (m == n)
    | _ => none
  | _ => none
def rIsD (neg : Bool) : R2D := fun a b μ Q => match isD a b with
  | some r => Q (.bl (if neg then !r else r)) μ
  | none => False
theorem rIsD_mono {neg : Bool} : Mono2 (rIsD neg) := fun a b μ Q Q' h q => by
  unfold rIsD at q ⊢
  split at q
  · exact h _ _ q
  · exact q.elim
theorem op_isBool {neg : Bool} : OpR X (compareOp (if neg then .IsNot else .Is)) (fun x y H Q => ∃ b, y = .bl b ∧ Q (.bl (if neg then !decide (x = .bl b) else decide (x = .bl b))) H) := by
  intro pins s σ H x y v u Q I rx ry h
  obtain ⟨b, rfl, q⟩ := h
  cases (show u = Value.bool b from ry)
  have key : (v == Value.bool b) = decide (x = .bl b) := by
    cases x with
    | non => cases rx; rfl
    | bl c => cases rx; cases b <;> cases c <;> rfl
    | int _ => obtain ⟨t, rfl⟩ := rx; rfl
    | str _ => obtain ⟨t, rfl⟩ := rx; rfl
    | byt _ => obtain ⟨t, rfl⟩ := rx; rfl
    | flt _ => obtain ⟨t, rfl⟩ := rx; rfl
    | ref _ => cases rx; rfl
    | ty _ => cases rx; rfl
  have pl : plainIs v (Value.bool b) = true := by
    cases x with
    | non => cases rx; rfl
    | bl c => cases rx; rfl
    | int _ => obtain ⟨t, rfl⟩ := rx; rfl
    | str _ => obtain ⟨t, rfl⟩ := rx; rfl
    | byt _ => obtain ⟨t, rfl⟩ := rx; rfl
    | flt _ => obtain ⟨t, rfl⟩ := rx; rfl
    | ref _ => cases rx; rfl
    | ty _ => cases rx; rfl
  cases neg with
  | true =>
    refine wpAny_isNot_plain pl ?_
    rw [key]
    exact ⟨.bl _, H, I, rfl, q⟩
  | false =>
    refine wpAny_is_plain pl ?_
    rw [key]
    exact ⟨.bl _, H, I, rfl, q⟩
theorem isD_non {K : PySem.W.Frag} {G : Hp} {x : V} {a : D} (r : Rep K G x a) : decide (x = .non) = isNon a := by
  cases r <;> simp [isNon]
theorem isD_bl {K : PySem.W.Frag} {G : Hp} {x : V} {a : D} (r : Rep K G x a) (b : Bool) : decide (x = .bl b) = isBl b a := by
  cases r <;> first | (rename_i c; cases b <;> cases c <;> rfl) | simp [isBl]
theorem o_is : OpD X (compareOp .Is) (rIsD false) := by
  refine ⟨OpR.imp (OpR.two op_isN (OpR.two (op_isBool (neg := false)) op_isTyB)) fun x y H Q ⟨a, b, μ, m, ra, rb, q⟩ => ?_, rIsD_mono⟩
  unfold rIsD isD at q
  cases rb with
  | non => exact .inl ⟨rfl, by rw [isD_non ra]; exact q _ H (Same.refl _) m (.bl _)⟩
  | bl b => exact .inr (.inl ⟨b, rfl, by rw [isD_bl ra]; exact q _ H (Same.refl _) m (.bl _)⟩)
  | ty n =>
    cases ra with
    | ty k => exact .inr (.inr ⟨k, n, rfl, rfl, by
        have e : decide (k = n) = (k == n) := by rw [Bool.eq_iff_iff]; simp
        rw [e]
        exact q _ H (Same.refl _) m (.bl _)⟩)
    | _ => exact q.elim
  | _ => exact q.elim
theorem o_isNot : OpD X (compareOp .IsNot) (rIsD true) := by
  refine ⟨OpR.imp (OpR.two op_notN (OpR.two (op_isBool (neg := true)) op_notTyB)) fun x y H Q ⟨a, b, μ, m, ra, rb, q⟩ => ?_, rIsD_mono⟩
  unfold rIsD isD at q
  cases rb with
  | non => exact .inl ⟨rfl, by rw [isD_non ra]; exact q _ H (Same.refl _) m (.bl _)⟩
  | bl b => exact .inr (.inl ⟨b, rfl, by rw [isD_bl ra]; exact q _ H (Same.refl _) m (.bl _)⟩)
  | ty n =>
    cases ra with
    | ty k => exact .inr (.inr ⟨k, n, rfl, rfl, by
        have e : decide (k = n) = (k == n) := by rw [Bool.eq_iff_iff]; simp
        rw [e]
        exact q _ H (Same.refl _) m (.bl _)⟩)
    | _ => exact q.elim
  | _ => exact q.elim
/-- flat data: their == -/
def flatD : D → Bool
  | .non => true
  | .bl _ => true
  | .int _ => true
  | .str _ => true
  | _ => false
def eqF : D → D → Bool
  | .non, .non => true
  | .bl a, .bl b => a == b
  | .bl a, .int b => (if a then 1 else 0) == b
  | .int a, .bl b => a == (if b then 1 else 0)
  | .int a, .int b => a == b
  | .str a, .str b => a == b
  | _, _ => false
theorem flat_of {K : PySem.W.Frag} {G : Hp} {x : V} {a : D} (r : Rep K G x a) : flatV x = flatD a := by
  cases r <;> rfl
theorem eqF_of {K : PySem.W.Frag} {G : Hp} {x y : V} {a b : D} (r : Rep K G x a) (q : Rep K G y b) : eqV x y = eqF a b := by
  cases r <;> cases q <;> first
    | rfl
    | (rename_i s t
       show (enc s == enc t) = (s == t)
       rw [Bool.eq_iff_iff, beq_iff_eq, beq_iff_eq]
       exact ⟨fun e => enc_inj e, fun e => by rw [e]⟩)
theorem flats_of {K : PySem.W.Frag} {G : Hp} : ∀ {xs : List V} {ds : List D}, Reps K G xs ds → xs.all flatV = ds.all flatD
  | _, _, .nil => rfl
  | _, _, .cons h r => by rw [List.all_cons, List.all_cons, flat_of h, flats_of r]
theorem in_of {K : PySem.W.Frag} {G : Hp} {x : V} {a : D} (q : Rep K G x a) : ∀ {xs : List V} {ds : List D}, Reps K G xs ds → inV x xs = ds.any fun d => eqF d a
  | _, _, .nil => rfl
  | _, _, .cons h r => by
    have ih := in_of q r
    unfold inV at ih ⊢
    rw [List.any_cons, List.any_cons, eqF_of h q, ih]
def inD (a : D) (ds : List D) : Bool := ds.any fun d => eqF d a
def rInD (neg : Bool) : R2D := fun a b μ Q => match b with
  | .tup ds => (flatD a = true ∧ ds.all flatD = true) ∧ Q (.bl (if neg then !inD a ds else inD a ds)) μ
  | .lst ds => (flatD a = true ∧ ds.all flatD = true) ∧ Q (.bl (if neg then !inD a ds else inD a ds)) μ
  | .ob p => match μ p with
    | some (.lst ds) => (flatD a = true ∧ ds.all flatD = true) ∧ Q (.bl (if neg then !inD a ds else inD a ds)) μ
    | _ => False
  | _ => False
theorem rInD_mono {neg : Bool} : Mono2 (rInD neg) := fun a b μ Q Q' h q => by
  unfold rInD at q ⊢
  split at q
  · exact ⟨q.1, h _ _ q.2⟩
  · exact ⟨q.1, h _ _ q.2⟩
  · split at q
    · exact ⟨q.1, h _ _ q.2⟩
    · exact q.elim
  · exact q.elim
theorem inRaw {neg : Bool} {x y : V} {H : Hp} {Q : VK} {a b : D} {μ : Mu} (m : RM X.K H μ) (ra : Rep X.K (cut H μ) x a) (rb : Rep X.K (cut H μ) y b) (q : rInD neg a b μ (lift X.K H μ Q)) : rIn X.K neg x y H Q := by
  unfold rInD at q
  cases rb with
  | tup h r =>
    exact ⟨_, _, rfl, .inr (sqT_mono cut_sub h), by rw [flat_of ra]; exact q.1.1, by rw [flats_of r]; exact q.1.2, by rw [in_of ra r]; exact q.2 _ H (Same.refl _) m (.bl _)⟩
  | lst h r =>
    exact ⟨_, _, rfl, .inl (Same.seq cut_sub h), by rw [flat_of ra]; exact q.1.1, by rw [flats_of r]; exact q.1.2, by rw [in_of ra r]; exact q.2 _ H (Same.refl _) m (.bl _)⟩
  | ob p =>
    simp only at q
    split at q
    · rename_i e
      obtain ⟨vs, h, r⟩ := m _ _ e
      exact ⟨_, _, rfl, .inl (SqL.of h), by rw [flat_of ra]; exact q.1.1, by rw [flats_of r]; exact q.1.2, by rw [in_of ra r]; exact q.2 _ H (Same.refl _) m (.bl _)⟩
    · exact q.elim
  | _ => exact q.elim
theorem o_in : OpD X (compareOp .In) (rInD false) := ⟨OpR.imp op_in_seq fun x y H Q ⟨a, b, μ, m, ra, rb, q⟩ => inRaw m ra rb q, rInD_mono⟩
theorem o_notIn : OpD X (compareOp .NotIn) (rInD true) := ⟨OpR.imp op_notIn_seq fun x y H Q ⟨a, b, μ, m, ra, rb, q⟩ => inRaw m ra rb q, rInD_mono⟩
end
end DL

set_option Elab.async false
set_option linter.all false
set_option maxRecDepth 100000
namespace DL
open PySem PySem.Spec PyProof.Rows L2

/-! ### subscripts -/
structure IxDD (X : Cx) (r : R2D) : Prop where
  run : IxR X (Raw2 X.K r)
  mono : Mono2 r
theorem IxR.imp {X : Cx} {r r' : R2} (h : IxR X r) (i : ∀ x y H Q, r' x y H Q → r x y H Q) : IxR X r' := fun value slice pins s σ H x y v u Q I rx ry q hs => h value slice pins s σ H x y v u Q I rx ry (i _ _ _ _ q) hs
def rIxD : R2D := fun a b μ Q => match b with
  | .int i => match a with
    | .tup ds => match atI ds i with
      | some d => Q d μ
      | none => False
    | .lst ds => match atI ds i with
      | some d => Q d μ
      | none => False
    | .ob p => match μ p with
      | some (.lst ds) => match atI ds i with
        | some d => Q d μ
        | none => False
      | _ => False
    | _ => False
  | _ => False
theorem rIxD_mono : Mono2 rIxD := fun a b μ Q Q' h q => by
  unfold rIxD at q ⊢
  split at q
  · split at q
    · split at q
      · exact h _ _ q
      · exact q.elim
    · split at q
      · exact h _ _ q
      · exact q.elim
    · split at q
      · split at q
        · exact h _ _ q
        · exact q.elim
      · exact q.elim
    · exact q.elim
  · exact q.elim
theorem at_rep {K : PySem.W.Frag} {G : Hp} {vs : List V} {ds : List D} (r : Reps K G vs ds) {i : Int} {d : D} (h : atI ds i = some d) : ∃ v, atI vs i = some v ∧ Rep K G v d := by
  unfold atI at h ⊢
  rw [r.length]
  cases e : ixN ds.length i with
  | none => rw [e] at h; cases h
  | some j => rw [e] at h; exact r.get h
section
variable {X : Cx}
theorem ix_ok : IxDD X rIxD := by
  refine ⟨IxR.imp (IxR.or ix_tup ix_list) fun x y H Q ⟨a, b, μ, m, ra, rb, q⟩ => ?_, rIxD_mono⟩
  unfold rIxD at q
  split at q
  · cases rb
    split at q
    · split at q
      · rename_i e
        cases ra with
        | tup h r =>
          obtain ⟨v, h1, h2⟩ := at_rep r e
          exact .inl ⟨_, _, _, v, rfl, rfl, sqT_mono cut_sub h, h1, q v H (Same.refl _) m h2⟩
      · exact q.elim
    · split at q
      · rename_i e
        cases ra with
        | lst h r =>
          obtain ⟨v, h1, h2⟩ := at_rep r e
          exact .inr ⟨_, _, _, v, rfl, rfl, Same.seq cut_sub h, h1, q v H (Same.refl _) m h2⟩
      · exact q.elim
    · split at q
      · rename_i e0
        split at q
        · rename_i e
          cases ra
          obtain ⟨vs, h, r⟩ := m _ _ e0
          obtain ⟨v, h1, h2⟩ := at_rep r e
          exact .inr ⟨_, _, _, v, rfl, rfl, SqL.of h, h1, q v H (Same.refl _) m h2⟩
        · exact q.elim
      · exact q.elim
    · exact q.elim
  · exact q.elim
variable {a b : Expr} {ta tb : ED} {pos p2 : Pos} {r : R2D}
theorem d_ix (ho : IxDD X r) (ha : PD X a ta) (hb : PD X b tb) (hs : PlainIx b := by intro _ _; rfl) : PD X (.Subscript a b pos) (dOp r ta tb) :=
  ⟨PE.imp (pe_ix ho.run ha.pe hb.pe hs) (up_op ho.mono ha.mono hb.mono), dOp_mono ho.mono ha.mono hb.mono⟩

/-! ### slices -/
abbrev OK := Option Int → Mu → Prop
abbrev OD := Rho → Mu → OK → Prop
def MonoO (t : OD) : Prop := ∀ ρ μ (Q Q' : OK), (∀ d μ', Q d μ' → Q' d μ') → t ρ μ Q → t ρ μ Q'
def liftO (K : PySem.W.Frag) (H : Hp) (μ : Mu) (Q : Option Int → Hp → Prop) : OK := fun o μ' => ∀ H', Stp H μ H' μ' → RM K H' μ' → Q o H'
def upO (K : PySem.W.Frag) (t : OD) : TO := fun σ H Q => ∃ ρ μ, RS K H σ ρ μ ∧ t ρ μ (liftO K H μ Q)
structure POD (X : Cx) (e : Option Expr) (t : OD) : Prop where
  po : PO X e (upO X.K t)
  mono : MonoO t
theorem PO.imp {e : Option Expr} {t t' : TO} (h : PO X e t) (i : ∀ σ H Q, t' σ H Q → t σ H Q) : PO X e t' := ⟨fun pins s σ H Q I q => h.run pins s σ H Q I (i _ _ _ q)⟩
theorem upO_bind {K : PySem.W.Frag} {H : Hp} {σ : L2.St} {ρ : Rho} {μ : Mu} {t : OD} {k : OK} {Q : Option Int → Hp → Prop} (R : RS K H σ ρ μ) (m : MonoO t) (h : t ρ μ k) (i : ∀ o μ' H', k o μ' → Stp H μ H' μ' → RS K H' σ ρ μ' → Q o H') : upO K t σ H Q :=
  ⟨ρ, μ, R, m ρ μ _ _ (fun d μ' q H' s rm => i d μ' H' q s (R.step s rm)) h⟩
def dNo : OD := fun _ μ Q => Q none μ
def dPart (t : ED) : OD := fun ρ μ Q => t ρ μ fun d μ' => match d with
  | .int i => Q (some i) μ'
  | _ => False
theorem dno : POD X none dNo := ⟨PO.imp po_none fun σ H Q ⟨ρ, μ, R, q⟩ => q H (Same.refl _) R.mem, fun _ _ _ _ i q => i _ _ q⟩
theorem dpart {e : Expr} {t : ED} (h : PD X e t) : POD X (some e) (dPart t) := by
  refine ⟨PO.imp (po_some h.pe) fun σ H Q ⟨ρ, μ, R, q⟩ => ?_, fun ρ μ Q Q' i q => h.mono ρ μ _ _ (fun d μ' z => by
    cases d <;> first | exact i _ _ z | exact z.elim) q⟩
  refine up_bind R h.mono q fun d μ' v H' q1 s R1 r1 => ?_
  cases r1 <;> first | exact ⟨_, rfl, q1 H' s R1.mem⟩ | exact q1.elim
def cutD (xs : List D) (lo hi : Option Int) : List D := (xs.drop (HT.sIx xs.length 0 lo)).take (HT.sIx xs.length xs.length hi - HT.sIx xs.length 0 lo)
theorem cut_rep {K : PySem.W.Frag} {G : Hp} {vs : List V} {ds : List D} (r : Reps K G vs ds) (lo hi : Option Int) : Reps K G (cutV vs lo hi) (cutD ds lo hi) := by
  unfold cutV cutD
  rw [r.length]
  exact (r.drop _).take _
def slD (d : D) (lo hi : Option Int) (μ : Mu) (Q : DK) : Prop := match d with
  | .tup ds => Q (.tup (cutD ds lo hi)) μ
  | .lst ds => ∀ p, μ p = none → Q (.ob p) (mset μ p (.lst (cutD ds lo hi)))
  | .ob a => match μ a with
    | some (.lst ds) => ∀ p, μ p = none → Q (.ob p) (mset μ p (.lst (cutD ds lo hi)))
    | _ => False
  | _ => False
theorem slD_mono {d : D} {lo hi : Option Int} {μ : Mu} {Q Q' : DK} (h : ∀ d μ', Q d μ' → Q' d μ') (q : slD d lo hi μ Q) : slD d lo hi μ Q' := by
  unfold slD at q ⊢
  split at q
  · exact h _ _ q
  · exact fun p hp => h _ _ (q p hp)
  · split at q
    · exact fun p hp => h _ _ (q p hp)
    · exact q.elim
  · exact q.elim
def dSl (t : ED) (tl th : OD) : ED := fun ρ μ Q => t ρ μ fun d μ1 => tl ρ μ1 fun l μ2 => th ρ μ2 fun u μ3 => slD d l u μ3 Q
theorem cutV_all {xs : List V} {lo hi : Option Int} (h : HT.sIx xs.length 0 lo = 0 ∧ HT.sIx xs.length xs.length hi = xs.length) : cutV xs lo hi = xs := by
  unfold cutV
  rw [h.1, h.2]
  simp
theorem d_slice {lo hi : Option Expr} {tl th : OD} (ha : PD X a ta) (hl : POD X lo tl) (hh : POD X hi th) : PD X (.Subscript a (.Slice lo hi none p2) pos) (dSl ta tl th) := by
  refine ⟨PE.imp (pe_slice (SlR.or sl_tupA sl_list) ha.pe hl.po hh.po) fun σ H Q ⟨ρ, μ, R, q⟩ => ?_, fun ρ μ Q Q' i q => ha.mono ρ μ _ _ (fun d μ1 z => hl.mono ρ μ1 _ _ (fun l μ2 z' => hh.mono ρ μ2 _ _ (fun u μ3 z2 => slD_mono i z2) z') z) q⟩
  refine up_bind R ha.mono q fun d μ1 v H1 q1 s1 R1 r1 => upO_bind R1 hl.mono q1 fun l μ2 H2 q2 s2 R2 => upO_bind R2 hh.mono q2 fun u μ3 H3 q3 s3 R3 => ?_
  have r3 := r1.mono (s2.trans s3)
  have st := (s1.trans s2).trans s3
  have m3 := R3.mem
  unfold slD at q3
  cases r3 with
  | tup h r =>
    refine .inl ⟨_, _, rfl, sqT_mono cut_sub h, fun w => ?_, fun _ p hp => ?_⟩
    · have r' := cut_rep r l u
      rw [cutV_all w] at r'
      exact q3 _ H3 st m3 (.tup h r')
    · have hm := m3.free hp
      exact q3 _ _ (st.trans (lay_stp hp hm _)) (m3.lay hp _) (.tup (SqT.of (cut_lay hm _)) ((cut_rep r l u).mono (lay_stp hp hm _)))
  | lst h r =>
    exact .inr ⟨_, _, rfl, Same.seq cut_sub h, fun p hp => q3 p (m3.free hp) _ _ (st.trans (put_stp (.inl hp) _ _)) (m3.put (.inl hp) (cut_rep r l u)) (.ob p)⟩
  | ob z =>
    simp only at q3
    split at q3
    · rename_i e
      obtain ⟨vs, h, r⟩ := m3 _ _ e
      exact .inr ⟨_, _, rfl, SqL.of h, fun p hp => q3 p (m3.free hp) _ _ (st.trans (put_stp (.inl hp) _ _)) (m3.put (.inl hp) (cut_rep r l u)) (.ob p)⟩
    · exact q3.elim
  | _ => exact q3.elim

/-! ### calls of built-ins -/
abbrev RLD := List D → Mu → DK → Prop
def MonoL (r : RLD) : Prop := ∀ ds μ (Q Q' : DK), (∀ d μ', Q d μ' → Q' d μ') → r ds μ Q → r ds μ Q'
def RawL (K : PySem.W.Frag) (r : RLD) : List V → Hp → VK → Prop := fun vs H Q => ∃ ds μ, RM K H μ ∧ Reps K (cut H μ) vs ds ∧ r ds μ (lift K H μ Q)
structure CaD (X : Cx) (f : Value) (r : RLD) : Prop where
  run : CallR X f (RawL X.K r)
  mono : MonoL r
theorem CallR.imp {f : Value} {r r' : List V → Hp → VK → Prop} (h : CallR X f r) (i : ∀ xs H Q, r' xs H Q → r xs H Q) : CallR X f r' := fun pins s σ H xs us Q I rs q => h pins s σ H xs us Q I rs (i _ _ _ q)
theorem CallR.two {f : Value} {r r' : List V → Hp → VK → Prop} (h : CallR X f r) (h' : CallR X f r') : CallR X f (fun xs H Q => r xs H Q ∨ r' xs H Q) := fun pins s σ H xs us Q I rs q =>
  q.elim (h pins s σ H xs us Q I rs) (h' pins s σ H xs us Q I rs)
def dCa (r : RLD) (t : AD) : ED := fun ρ μ Q => t ρ μ fun ds μ1 => r ds μ1 Q
theorem dCa_mono {r : RLD} {t : AD} (h : MonoL r) (h' : MonoA t) : Mono (dCa r t) := fun ρ μ Q Q' i q => h' ρ μ _ _ (fun ds μ1 z => h ds μ1 Q Q' i z) q
theorem up_ca {K : PySem.W.Frag} {r : RLD} {t : AD} (h : MonoL r) (h' : MonoA t) : ∀ σ H Q, up K (dCa r t) σ H Q → tCB (RawL K r) (upA K t) σ H Q := fun σ H Q ⟨ρ, μ, R, q⟩ => by
  refine upA_bind R h' q fun ds μ1 vs H1 q1 s1 R1 r1 => ?_
  exact ⟨ds, μ1, R1.mem, r1, h ds μ1 _ _ (fun d μ' => lift_stp s1) q1⟩
variable {x : Str} {p : Pos} {e : Expr} {es : List Expr} {t : AD} {id T : String} {rl : RLD}
theorem d_callB (hc : CaD X (.builtin id) rl) (hg : Gl X x) (hm : X.mg x = none) (hv : bootBuiltins x = some (.builtin id)) (ha : PAD X (e :: es) t) (hn : x ≠ "__name__" := by decide) (hdb : (x == ("__debug__" : Str)) = false := by decide)
    (he : starEach (e :: es) X.env = (false, eval e X.env) :: starEach es X.env := by rfl) (hpl : (backTo pos (starEach es X.env)).any (·.1) = false := by rfl) : PD X (.Call (.Name x p) (e :: es) [] pos) (dCa rl t) :=
  ⟨PE.imp (pe_callB hc.run hg hm hv ha.pa hn hdb he hpl) (up_ca hc.mono ha.mono), dCa_mono hc.mono ha.mono⟩
theorem d_callTy (hc : CaD X (.type T) rl) (hg : Gl X x) (hm : X.mg x = none) (hv : bootBuiltins x = some (.type T)) (ha : PAD X (e :: es) t) (hn : x ≠ "__name__" := by decide) (hdb : (x == ("__debug__" : Str)) = false := by decide)
    (he : starEach (e :: es) X.env = (false, eval e X.env) :: starEach es X.env := by rfl) (hpl : (backTo pos (starEach es X.env)).any (·.1) = false := by rfl) : PD X (.Call (.Name x p) (e :: es) [] pos) (dCa rl t) :=
  ⟨PE.imp (pe_callTy hc.run hg hm hv ha.pa hn hdb he hpl) (up_ca hc.mono ha.mono), dCa_mono hc.mono ha.mono⟩
theorem d_bltn (n : String) (hg : Gl X x) (hm : X.mg x = none) (hv : bootBuiltins x = some (.type n)) (hn : x ≠ "__name__" := by decide) (hd : (x == ("__debug__" : Str)) = false := by decide) : PD X (.Name x pos) (dC (.ty n)) :=
  ⟨PE.imp (pe_bltn (v := .ty n) hg hm hv rfl hn hd) (scalar fun _ => .ty n), dC_mono⟩
theorem d_glob {v : V} {d : D} {u : Value} (hg : Gl X x) (hm : X.mg x = some u) (r : RelV v u) (rd : ∀ G, Rep X.K G v d) (hd : (x == ("__debug__" : Str)) = false := by decide) : PD X (.Name x pos) (dC d) :=
  ⟨PE.imp (pe_glob hg hm r hd) (scalar rd), dC_mono⟩
/-- len -/
def lenD (μ : Mu) : D → Option Nat
  | .tup ds => some ds.length
  | .lst ds => some ds.length
  | .ob a => match μ a with
    | some (.lst ds) => some ds.length
    | _ => none
  | _ => none
def rLenD : RLD := fun ds μ Q => match ds with
  | [d] => match lenD μ d with
    | some n => Q (.int (n : Nat)) μ
    | none => False
  | _ => False
theorem c_len : CaD X (.builtin "len") rLenD := by
  refine ⟨CallR.imp call_len fun vs H Q ⟨ds, μ, m, r, q⟩ => ?_, fun ds μ Q Q' i q => by
    unfold rLenD at q ⊢
    split at q
    · split at q
      · exact i _ _ q
      · exact q.elim
    · exact q.elim⟩
  unfold rLenD at q
  split at q
  · split at q
    · rename_i e
      cases r with
      | cons h t =>
        cases t
        refine ⟨_, _, rfl, ?_, q _ H (Same.refl _) m (.int _)⟩
        cases h with
        | tup h1 r1 =>
          cases e
          exact .inr ⟨_, sqT_mono cut_sub h1, r1.length.symm⟩
        | lst h1 r1 =>
          cases e
          exact .inl ⟨_, Same.seq cut_sub h1, r1.length.symm⟩
        | ob a =>
          unfold lenD at e
          cases e0 : μ a with
          | none => simp only [e0] at e; cases e
          | some o => cases o with
            | lst zs =>
              simp only [e0] at e
              cases e
              obtain ⟨ws, h1, r1⟩ := m _ _ e0
              exact .inl ⟨ws, SqL.of h1, r1.length.symm⟩
            | dct ks zs => simp only [e0] at e; cases e
            | tab nm => simp only [e0] at e; cases e
        | _ => cases e
    · exact q.elim
  · exact q.elim
/-- int(x) of an int, a truth -/
def rToInt : RLD := fun ds μ Q => match ds with
  | [.int i] => Q (.int i) μ
  | [.bl k] => Q (.int (if k then 1 else 0)) μ
  | _ => False
theorem c_int : CaD X (.type "int") rToInt := by
  refine ⟨CallR.imp call_int1 fun vs H Q ⟨ds, μ, m, r, q⟩ => ?_, fun ds μ Q Q' i q => by
    unfold rToInt at q ⊢
    split at q
    · exact i _ _ q
    · exact i _ _ q
    · exact q.elim⟩
  unfold rToInt at q
  split at q
  · cases r with
    | cons h t =>
      cases t
      cases h
      exact .inl ⟨_, rfl, q _ H (Same.refl _) m (.int _)⟩
  · cases r with
    | cons h t =>
      cases t
      cases h
      exact .inr ⟨_, rfl, q _ H (Same.refl _) m (.int _)⟩
  · exact q.elim
/-- the items of a list or tuple -/
def itemsD (μ : Mu) : D → Option (List D)
  | .tup ds => some ds
  | .lst ds => some ds
  | .ob a => match μ a with
    | some (.lst ds) => some ds
    | _ => none
  | _ => none
def rTupleD : RLD := fun ds μ Q => match ds with
  | [d] => match itemsD μ d with
    | some zs => Q (.tup zs) μ
    | none => False
  | _ => False
def rListD : RLD := fun ds μ Q => match ds with
  | [d] => match itemsD μ d with
    | some zs => ∀ p, μ p = none → Q (.ob p) (mset μ p (.lst zs))
    | none => False
  | _ => False
theorem items_of {K : PySem.W.Frag} {H : Hp} {μ : Mu} (m : RM K H μ) {v : V} {d : D} {zs : List D} (r : Rep K (cut H μ) v d) (e : itemsD μ d = some zs) :
    (∃ a ys, v = .ref a ∧ SqL K H a ys ∧ Reps K (cut H μ) ys zs) ∨ ∃ a ys, v = .ref a ∧ SqT K H a ys ∧ SqT K (cut H μ) a ys ∧ Reps K (cut H μ) ys zs := by
  cases r with
  | tup h1 r1 =>
    cases e
    exact .inr ⟨_, _, rfl, sqT_mono cut_sub h1, h1, r1⟩
  | lst h1 r1 =>
    cases e
    exact .inl ⟨_, _, rfl, Same.seq cut_sub h1, r1⟩
  | ob a =>
    unfold itemsD at e
    cases e0 : μ a with
    | none => simp only [e0] at e; cases e
    | some o => cases o with
      | lst ws =>
        simp only [e0] at e
        cases e
        obtain ⟨ws, h1, r1⟩ := m _ _ e0
        exact .inl ⟨_, ws, rfl, SqL.of h1, r1⟩
      | dct ks zs => simp only [e0] at e; cases e
      | tab nm => simp only [e0] at e; cases e
  | _ => cases e
theorem c_tuple : CaD X (.type "tuple") rTupleD := by
  refine ⟨CallR.imp call_tuple_of fun vs H Q ⟨ds, μ, m, r, q⟩ => ?_, fun ds μ Q Q' i q => by
    unfold rTupleD at q ⊢
    split at q
    · split at q
      · exact i _ _ q
      · exact q.elim
    · exact q.elim⟩
  unfold rTupleD at q
  split at q
  · split at q
    · rename_i e
      cases r with
      | cons h t =>
        cases t
        rcases items_of m h e with ⟨a, ys, rfl, hs, hr⟩ | ⟨a, ys, rfl, hs, hc, hr⟩
        · refine ⟨a, ys, rfl, .inl ⟨hs, fun p hp => ?_⟩⟩
          have hm := m.free hp
          exact q _ _ (lay_stp hp hm _) (m.lay hp _) (.tup (SqT.of (cut_lay hm _)) (hr.mono (lay_stp hp hm _)))
        · exact ⟨a, ys, rfl, .inr ⟨hs, q _ H (Same.refl _) m (.tup hc hr)⟩⟩
    · exact q.elim
  · exact q.elim
theorem c_list : CaD X (.type "list") rListD := by
  refine ⟨CallR.imp call_list_of fun vs H Q ⟨ds, μ, m, r, q⟩ => ?_, fun ds μ Q Q' i q => by
    unfold rListD at q ⊢
    split at q
    · split at q
      · exact fun p hp => i _ _ (q p hp)
      · exact q.elim
    · exact q.elim⟩
  unfold rListD at q
  split at q
  · split at q
    · rename_i e
      cases r with
      | cons h t =>
        cases t
        rcases items_of m h e with ⟨a, ys, rfl, hs, hr⟩ | ⟨a, ys, rfl, hs, hc, hr⟩
        · exact ⟨a, ys, rfl, .inl hs, fun p hp => q p (m.free hp) _ _ (put_stp (.inl hp) _ _) (m.put (.inl hp) hr) (.ob p)⟩
        · exact ⟨a, ys, rfl, .inr hs, fun p hp => q p (m.free hp) _ _ (put_stp (.inl hp) _ _) (m.put (.inl hp) hr) (.ob p)⟩
    · exact q.elim
  · exact q.elim
/-- all, of truths -/
def boolsD : List D → Option (List Bool)
  | [] => some []
  | .bl b :: r => (boolsD r).map (b :: ·)
  | _ => none
def itemsL (μ : Mu) : D → Option (List D)
  | .lst ds => some ds
  | .ob a => match μ a with
    | some (.lst ds) => some ds
    | _ => none
  | _ => none
theorem itemsL_of {K : PySem.W.Frag} {H : Hp} {μ : Mu} (m : RM K H μ) {v : V} {d : D} {zs : List D} (r : Rep K (cut H μ) v d) (e : itemsL μ d = some zs) :
    ∃ a ys, v = .ref a ∧ SqL K H a ys ∧ Reps K (cut H μ) ys zs := by
  cases r with
  | lst h1 r1 =>
    cases e
    exact ⟨_, _, rfl, Same.seq cut_sub h1, r1⟩
  | ob a =>
    unfold itemsL at e
    cases e0 : μ a with
    | none => simp only [e0] at e; cases e
    | some o => cases o with
      | lst ws =>
        simp only [e0] at e
        cases e
        obtain ⟨ws, h1, r1⟩ := m _ _ e0
        exact ⟨_, ws, rfl, SqL.of h1, r1⟩
      | dct ks zs => simp only [e0] at e; cases e
      | tab nm => simp only [e0] at e; cases e
  | _ => cases e
def rAllD : RLD := fun ds μ Q => match ds with
  | [d] => match itemsL μ d with
    | some zs => match boolsD zs with
      | some bs => Q (.bl (bs.all fun b => b)) μ
      | none => False
    | none => False
  | _ => False
theorem bools_of {K : PySem.W.Frag} {G : Hp} : ∀ {ys : List V} {zs : List D} {bs : List Bool}, Reps K G ys zs → boolsD zs = some bs → ys = bs.map V.bl
  | _, _, _, .nil, e => by cases e; rfl
  | _, _, bs, .cons (ds := ds) h r, e => by
    cases h with
    | bl b =>
      unfold boolsD at e
      cases e1 : boolsD ds with
      | none => rw [e1] at e; cases e
      | some cs =>
        rw [e1] at e
        cases e
        rw [bools_of r e1]
        rfl
    | _ => cases e
theorem c_all (hc : X.calm = true) : CaD X (.builtin "all") rAllD := by
  refine ⟨CallR.imp (cr_all hc) fun vs H Q ⟨ds, μ, m, r, q⟩ => ?_, fun ds μ Q Q' i q => by
    unfold rAllD at q ⊢
    split at q
    · split at q
      · split at q
        · exact i _ _ q
        · exact q.elim
      · exact q.elim
    · exact q.elim⟩
  unfold rAllD at q
  split at q
  · split at q
    · rename_i e
      split at q
      · rename_i bs e2
        cases r with
        | cons h t =>
          cases t
          obtain ⟨a, ys, rfl, hs, hr⟩ := itemsL_of m h e
          exact ⟨a, bs, rfl, by rw [← bools_of hr e2]; exact hs, q _ H (Same.refl _) m (.bl _)⟩
      · exact q.elim
    · exact q.elim
  · exact q.elim
end
end DL

set_option Elab.async false
set_option linter.all false
set_option maxRecDepth 100000
namespace DL
open PySem PySem.Spec PyProof.Rows L2

/-! ### statements -/
structure EndsD where
  nx : Rho → Mu → Prop
  rt : DK
  bk : Rho → Mu → Prop := fun _ _ => False
  ct : Rho → Mu → Prop := fun _ _ => False
structure EndsD.le (E E' : EndsD) : Prop where
  nx : ∀ ρ μ, E.nx ρ μ → E'.nx ρ μ
  rt : ∀ d μ, E.rt d μ → E'.rt d μ
  bk : ∀ ρ μ, E.bk ρ μ → E'.bk ρ μ
  ct : ∀ ρ μ, E.ct ρ μ → E'.ct ρ μ
abbrev SD := EndsD → Rho → Mu → Prop
def MonoS (t : SD) : Prop := ∀ E E' ρ μ, E.le E' → t E ρ μ → t E' ρ μ
def liftN (K : PySem.W.Frag) (H : Hp) (μ : Mu) (Q : L2.St → Hp → Prop) : Rho → Mu → Prop := fun ρ' μ' => ∀ σ' H', Stp H μ H' μ' → RS K H' σ' ρ' μ' → Q σ' H'
def liftS (K : PySem.W.Frag) (H : Hp) (μ : Mu) (E : Ends) : EndsD := ⟨liftN K H μ E.nx, lift K H μ E.rt, liftN K H μ E.bk, liftN K H μ E.ct⟩
def upS (K : PySem.W.Frag) (t : SD) : TS := fun E σ H => ∃ ρ μ, RS K H σ ρ μ ∧ t (liftS K H μ E) ρ μ
structure PSD (X : Cx) (st : Stmt) (t : SD) : Prop where
  ps : PS X st (upS X.K t)
  mono : MonoS t
structure PSsD (X : Cx) (st : List Stmt) (t : SD) : Prop where
  ps : PSs X st (upS X.K t)
  mono : MonoS t
theorem liftN_stp {K : PySem.W.Frag} {H H' : Hp} {μ μ' : Mu} {Q : L2.St → Hp → Prop} (s : Stp H μ H' μ') {ρ : Rho} {μ2 : Mu} (h : liftN K H μ Q ρ μ2) : liftN K H' μ' Q ρ μ2 := fun σ2 H2 s2 r => h σ2 H2 (s.trans s2) r
theorem liftS_le {K : PySem.W.Frag} {H H' : Hp} {μ μ' : Mu} {E : Ends} (s : Stp H μ H' μ') : (liftS K H μ E).le (liftS K H' μ' E) := ⟨fun _ _ => liftN_stp s, fun _ _ => lift_stp s, fun _ _ => liftN_stp s, fun _ _ => liftN_stp s⟩
theorem EndsD.le.refl (E : EndsD) : E.le E := ⟨fun _ _ h => h, fun _ _ h => h, fun _ _ h => h, fun _ _ h => h⟩
def dNext : SD := fun E ρ μ => E.nx ρ μ
def dBrk : SD := fun E ρ μ => E.bk ρ μ
def dCont : SD := fun E ρ μ => E.ct ρ μ
def dSeq (t u : SD) : SD := fun E ρ μ => t { E with nx := u E } ρ μ
def dRet (t : ED) : SD := fun E ρ μ => t ρ μ E.rt
def dRetN : SD := fun E ρ μ => E.rt .non μ
def dDrop (t : ED) : SD := fun E ρ μ => t ρ μ fun _ μ' => E.nx ρ μ'
def dIfS (c : TD) (t u : SD) : SD := fun E ρ μ => c ρ μ fun b μ' => if b = true then t E ρ μ' else u E ρ μ'
theorem dSeq_mono {t u : SD} (h : MonoS t) (h' : MonoS u) : MonoS (dSeq t u) := fun E E' ρ μ l q => h { E with nx := u E } { E' with nx := u E' } ρ μ ⟨fun ρ' μ' z => h' E E' ρ' μ' l z, l.rt, l.bk, l.ct⟩ q
theorem dRet_mono {t : ED} (h : Mono t) : MonoS (dRet t) := fun E E' ρ μ l q => h ρ μ _ _ l.rt q
theorem dDrop_mono {t : ED} (h : Mono t) : MonoS (dDrop t) := fun E E' ρ μ l q => h ρ μ _ _ (fun _ _ z => l.nx _ _ z) q
theorem dIfS_mono {c : TD} {t u : SD} (h : MonoT c) (h1 : MonoS t) (h2 : MonoS u) : MonoS (dIfS c t u) := fun E E' ρ μ l q => h ρ μ _ _ (fun b μ' z => by
  cases b with
  | true => exact h1 E E' ρ μ' l z
  | false => exact h2 E E' ρ μ' l z) q
theorem up_seq {K : PySem.W.Frag} {t u : SD} (h : MonoS t) (h' : MonoS u) : ∀ E σ H, upS K (dSeq t u) E σ H → tSeq (upS K t) (upS K u) E σ H := fun E σ H ⟨ρ, μ, R, q⟩ =>
  ⟨ρ, μ, R, h { liftS K H μ E with nx := u (liftS K H μ E) } _ ρ μ ⟨fun ρ' μ' z σ' H' s R' => ⟨ρ', μ', R', h' _ _ _ _ (liftS_le s) z⟩, fun _ _ z => z, fun _ _ z => z, fun _ _ z => z⟩ q⟩
section
variable {X : Cx} {st : Stmt} {rest : List Stmt} {t u : SD} {e : Expr} {te : ED} {pos : Pos}
theorem ds_nil : PSsD X [] dNext := ⟨PSs.imp pss_nil fun E σ H ⟨ρ, μ, R, q⟩ => q σ H (Same.refl _) R, fun _ _ _ _ l q => l.nx _ _ q⟩
theorem ds_cons (h1 : PSD X st t) (h2 : PSsD X rest u) : PSsD X (st :: rest) (dSeq t u) := ⟨PSs.imp (pss_cons h1.ps h2.ps) (up_seq h1.mono h2.mono), dSeq_mono h1.mono h2.mono⟩
theorem ds_one (h : PSD X st t) : PSsD X [st] t := ⟨pss_one h.ps, h.mono⟩
theorem d_pass : PSD X (.Pass pos) dNext := ⟨PS.imp ps_pass fun E σ H ⟨ρ, μ, R, q⟩ => q σ H (Same.refl _) R, fun _ _ _ _ l q => l.nx _ _ q⟩
theorem d_break : PSD X (.Break pos) dBrk := ⟨PS.imp ps_break fun E σ H ⟨ρ, μ, R, q⟩ => q σ H (Same.refl _) R, fun _ _ _ _ l q => l.bk _ _ q⟩
theorem d_continue : PSD X (.Continue pos) dCont := ⟨PS.imp ps_continue fun E σ H ⟨ρ, μ, R, q⟩ => q σ H (Same.refl _) R, fun _ _ _ _ l q => l.ct _ _ q⟩
theorem d_expr (h : PD X e te) (hs : swapsWith e none pos.line X.env = pure false := by rfl) : PSD X (.Expr e pos) (dDrop te) :=
  ⟨PS.imp (ps_expr h.pe hs) fun E σ H ⟨ρ, μ, R, q⟩ => up_bind R h.mono q fun d μ' v H' q1 s R1 r1 => q1 σ H' s R1, dDrop_mono h.mono⟩
theorem d_ret (h : PD X e te) : PSD X (.Return (some e) pos) (dRet te) :=
  ⟨PS.imp (ps_ret h.pe) fun E σ H ⟨ρ, μ, R, q⟩ => ⟨ρ, μ, R, q⟩, dRet_mono h.mono⟩
theorem d_retN : PSD X (.Return none pos) dRetN := ⟨PS.imp ps_retN fun E σ H ⟨ρ, μ, R, q⟩ => q _ H (Same.refl _) R.mem .non, fun _ _ _ _ l q => l.rt _ _ q⟩
theorem d_ifS {c : Expr} {a b : List Stmt} {tc : TD} (hc : PTD X c tc) (ha : PSsD X a t) (hb : PSsD X b u) : PSD X (.If c a b pos) (dIfS tc t u) := by
  refine ⟨PS.imp (ps_if hc.pt ha.ps hb.ps) fun E σ H ⟨ρ, μ, R, q⟩ => ?_, dIfS_mono hc.mono ha.mono hb.mono⟩
  refine upT_bind R hc.mono q fun b μ' H' q1 s R1 => ?_
  cases b with
  | true => exact iteT ⟨ρ, μ', R1, ha.mono _ _ _ _ (liftS_le s) q1⟩
  | false => exact iteF ⟨ρ, μ', R1, hb.mono _ _ _ _ (liftS_le s) q1⟩
end

/-! ### targets -/
abbrev NK := Rho → Mu → Prop
abbrev GD := D → Rho → Mu → NK → Prop
abbrev GsD := List D → Rho → Mu → NK → Prop
def MonoG (g : GD) : Prop := ∀ d ρ μ (Q Q' : NK), (∀ ρ μ, Q ρ μ → Q' ρ μ) → g d ρ μ Q → g d ρ μ Q'
def MonoGs (g : GsD) : Prop := ∀ d ρ μ (Q Q' : NK), (∀ ρ μ, Q ρ μ → Q' ρ μ) → g d ρ μ Q → g d ρ μ Q'
def liftG (K : PySem.W.Frag) (H : Hp) (μ : Mu) (σ : L2.St) (ws : List Nat) (Q : L2.St → Hp → Prop) : NK := fun ρ' μ' => ∀ σ' H', Stp H μ H' μ' → RS K H' σ' ρ' μ' → wipe σ' ws = wipe σ ws → Q σ' H'
def upG (K : PySem.W.Frag) (g : GD) (ws : List Nat) : TG := fun v σ H Q => ∃ d ρ μ, RS K H σ ρ μ ∧ Rep K (cut H μ) v d ∧ g d ρ μ (liftG K H μ σ ws Q)
def upGs (K : PySem.W.Frag) (g : GsD) (ws : List Nat) : TGs := fun vs σ H Q => ∃ ds ρ μ, RS K H σ ρ μ ∧ Reps K (cut H μ) vs ds ∧ g ds ρ μ (liftG K H μ σ ws Q)
structure PGD (X : Cx) (tg : Expr) (g : GD) (ws : List Nat) : Prop where
  pg : PG X tg (upG X.K g ws)
  mono : MonoG g
structure PGsD (X : Cx) (tgs : List Expr) (g : GsD) (ws : List Nat) : Prop where
  pg : PGs X tgs (upGs X.K g ws)
  mono : MonoGs g
theorem PG.imp {X : Cx} {tg : Expr} {g g' : TG} (h : PG X tg g) (i : ∀ v σ H Q, g' v σ H Q → g v σ H Q) : PG X tg g' := ⟨fun pins s σ H v u Q I r q => h.run pins s σ H v u Q I r (i _ _ _ _ q)⟩
theorem PGs.imp {X : Cx} {tg : List Expr} {g g' : TGs} (h : PGs X tg g) (i : ∀ v σ H Q, g' v σ H Q → g v σ H Q) : PGs X tg g' := ⟨fun pins s σ H v u Q I r q => h.run pins s σ H v u Q I r (i _ _ _ _ q)⟩
theorem wipe_set : ∀ {ws : List Nat} {i : Nat} (σ : L2.St) (o : Option V), i ∈ ws → wipe (σ.set i o) ws = wipe σ ws
  | [], _, _, _, h => by cases h
  | w :: ws, i, σ, o, h => by
    unfold wipe
    by_cases hi : i ∈ ws
    · rw [wipe_set σ o hi]
    · have e : i = w := by
        rcases List.mem_cons.mp h with z | z
        · exact z
        · exact absurd z hi
      subst e
      have com : ∀ (vs : List Nat) (σ : L2.St), i ∉ vs → wipe (σ.set i o) vs = (wipe σ vs).set i o := by
        intro vs
        induction vs with
        | nil => intro σ _; rfl
        | cons v vs ih =>
          intro σ hv
          unfold wipe
          rw [ih σ (fun z => hv (List.mem_cons_of_mem _ z)), List.set_comm]
          intro z
          exact hv (by rw [z]; exact List.mem_cons_self)
      rw [com ws σ hi, List.set_set]
def gNm (i : Nat) : GD := fun d ρ μ Q => Q (ρ.set i (some d)) μ
def gsNil : GsD := fun ds ρ μ Q => match ds with
  | [] => Q ρ μ
  | _ :: _ => False
def gsCons (g : GD) (gs : GsD) : GsD := fun ds ρ μ Q => match ds with
  | d :: r => g d ρ μ fun ρ' μ' => gs r ρ' μ' Q
  | [] => False
def gTp (n : Nat) (gs : GsD) : GD := fun d ρ μ Q => match d with
  | .tup ds => ds.length = n ∧ gs ds ρ μ Q
  | _ => False
section
variable {X : Cx} {pos : Pos}
theorem dg_name (i : Nat) {ws : List Nat} {x : Str} (hN : X.N.Nodup) (hw : i ∈ ws := by decide) (hi : X.N[i]? = some x := by rfl) (hx : Loc X.env.scope x := by first | exact Or.inl rfl | exact Or.inr rfl) (hf : X.fn x = true ∨ X.env.scope.names.lookup x = some .local := by first | exact .inl rfl | exact .inr rfl | assumption) : PGD X (.Name x pos) (gNm i) ws :=
  ⟨PG.imp (pg_name (i := i) hN hi hx hf) fun v σ H Q ⟨d, ρ, μ, R, r, q⟩ => q _ H (Same.refl _) (R.set i r) (wipe_set σ _ hw), fun _ _ _ _ _ h q => h _ _ q⟩
theorem dgs_nil {ws : List Nat} : PGsD X [] gsNil ws := ⟨PGs.imp pgs_nil fun v σ H Q ⟨ds, ρ, μ, R, r, q⟩ => by
  cases r with
  | nil => exact ⟨rfl, q σ H (Same.refl _) R rfl⟩
  | cons _ _ => exact q.elim, fun ds _ _ _ _ h q => by
  cases ds with
  | nil => exact h _ _ q
  | cons _ _ => exact q.elim⟩
theorem dgs_cons {e : Expr} {es : List Expr} {g : GD} {gs : GsD} {ws : List Nat} (h1 : PGD X e g ws) (h2 : PGsD X es gs ws)
    (hs : (assignEach (e :: es) X.env).map (·.2) = assign e X.env :: (assignEach es X.env).map (·.2) := by rfl) : PGsD X (e :: es) (gsCons g gs) ws := by
  refine ⟨PGs.imp (pgs_cons h1.pg h2.pg hs) fun vs σ H Q ⟨ds, ρ, μ, R, r, q⟩ => ?_, fun ds ρ μ Q Q' i q => ?_⟩
  · cases r with
    | nil => exact q.elim
    | cons h t =>
      refine ⟨_, _, rfl, _, ρ, μ, R, h, h1.mono _ _ _ _ _ (fun ρ' μ' z σ' H' s R' w => ?_) q⟩
      exact ⟨_, ρ', μ', R', t.mono s, h2.mono _ _ _ _ _ (fun ρ2 μ2 z2 σ2 H2 s2 R2 w2 => z2 σ2 H2 (s.trans s2) R2 (w2.trans w)) z⟩
  · cases ds with
    | nil => exact q.elim
    | cons d r => exact h1.mono _ _ _ _ _ (fun ρ' μ' z => h2.mono _ _ _ _ _ i z) q
theorem dg_tup {es : List Expr} {k : Nat} {gs : GsD} {n : Nat} {ws : List Nat} (hc : X.calm = true) (h : PGsD X es gs ws)
    (hn : (assignEach es X.env).length = n := by rfl) (hst : (assignEach es X.env).findIdx? (·.1) = none := by rfl) : PGD X (.Tuple es k pos) (gTp n gs) ws := by
  refine ⟨PG.imp (pg_tup hc h.pg hn hst) fun v σ H Q ⟨d, ρ, μ, R, r, q⟩ => ?_, fun d ρ μ Q Q' i q => ?_⟩
  · cases r with
    | tup h1 r1 => exact ⟨_, _, rfl, sqT_mono cut_sub h1, by rw [r1.length]; exact q.1, _, ρ, μ, R, r1, q.2⟩
    | _ => exact q.elim
  · cases d with
    | tup ds => exact ⟨q.1, h.mono _ _ _ _ _ i q.2⟩
    | _ => exact q.elim
def dSet (t : ED) (g : GD) : SD := fun E ρ μ => t ρ μ fun d μ' => g d ρ μ' E.nx
theorem dSet_mono {t : ED} {g : GD} (h : Mono t) (h' : MonoG g) : MonoS (dSet t g) := fun E E' ρ μ l q => h ρ μ _ _ (fun d μ' z => h' d ρ μ' _ _ l.nx z) q
theorem up_set {K : PySem.W.Frag} {t : ED} {g : GD} {ws : List Nat} (h : Mono t) (h' : MonoG g) : ∀ E σ H, upS K (dSet t g) E σ H → tAsg (up K t) (upG K g ws) E σ H := fun E σ H ⟨ρ, μ, R, q⟩ => by
  refine up_bind R h q fun d μ' v H' q1 s R1 r1 => ⟨d, ρ, μ', R1, r1, h' _ _ _ _ _ (fun ρ2 μ2 z σ2 H2 s2 R2 _ => z σ2 H2 (s.trans s2) R2) q1⟩
theorem d_set (i : Nat) {x : Str} {e : Expr} {te : ED} {pos' : Pos} (hN : X.N.Nodup) (he : PD X e te) (hi : X.N[i]? = some x := by rfl) (hx : Loc X.env.scope x := by first | exact Or.inl rfl | exact Or.inr rfl) (hs : swapsWith e (some (.Name x pos')) pos.line X.env = pure false := by rfl) (hf : X.fn x = true ∨ X.env.scope.names.lookup x = some .local := by first | exact .inl rfl | exact .inr rfl | assumption) :
    PSD X (.Assign [.Name x pos'] e pos) (dSet te (gNm i)) := by
  refine ⟨PS.imp (ps_set hN hi hx he.pe hs hf) fun E σ H ⟨ρ, μ, R, q⟩ => ?_, dSet_mono he.mono fun _ _ _ _ _ h q => h _ _ q⟩
  exact up_bind R he.mono q fun d μ' v H' q1 s R1 r1 => q1 _ H' s (R1.set i r1)
theorem d_asg {tg e : Expr} {te : ED} {g : GD} {ws : List Nat} (he : PD X e te) (hg : PGD X tg g ws) (hs : swapsWithSole [tg] e pos.line X.env = pure false := by rfl) (hw : swappedStores [tg] e X.env = pure none := by rfl)
    (h1 : (assignEach [tg] X.env).map (·.2) = [assign tg X.env] := by rfl) : PSD X (.Assign [tg] e pos) (dSet te g) :=
  ⟨PS.imp (ps_asg he.pe hg.pg hs hw h1) (up_set he.mono hg.mono), dSet_mono he.mono hg.mono⟩
/-- a, b = x, y with plain names -/
def dPar (i j : Nat) (ta : AD) : SD := fun E ρ μ => ta ρ μ fun ds μ' => match ds with
  | [a, b] => E.nx ((ρ.set i (some a)).set j (some b)) μ'
  | _ => False
theorem d_par {i j : Nat} {x y : Str} {a b : Expr} {ta : AD} {px py pt : Pos} {kt k2 pt2} (hc : X.calm = true) (hN : X.N.Nodup) (ha : PAD X [a, b] ta) (hi : X.N[i]? = some x := by rfl) (hj : X.N[j]? = some y := by rfl) (hij : i ≠ j := by decide)
    (hx : X.env.scope.names.lookup x = some .local := by rfl) (hy : X.env.scope.names.lookup y = some .local := by rfl)
    (hw : swappedStores [.Tuple [.Name x px, .Name y py] kt pt] (.Tuple [a, b] k2 pt2) X.env = pure (some [x, y]) := by rfl)
    (hs : swapsWithSole [.Tuple [.Name x px, .Name y py] kt pt] (.Tuple [a, b] k2 pt2) pos.line X.env = pure false := by rfl) :
    PSD X (.Assign [.Tuple [.Name x px, .Name y py] kt pt] (.Tuple [a, b] k2 pt2) pos) (dPar i j ta) := by
  refine ⟨PS.imp (ps_par hc hN hi hj hij hx hy ha.pa hw hs) fun E σ H ⟨ρ, μ, R, q⟩ => ?_, fun E E' ρ μ l q => ha.mono ρ μ _ _ (fun ds μ' z => by
    unfold dPar at *
    split at z
    · exact l.nx _ _ z
    · exact z.elim) q⟩
  refine upA_bind R ha.mono q fun ds μ' vs H' q1 s R1 r1 => ?_
  split at q1
  · cases r1 with
    | cons h1 t =>
      cases t with
      | cons h2 t =>
        cases t
        exact ⟨_, _, rfl, q1 _ H' s ((R1.set i h1).set j h2)⟩
  · exact q1.elim
end
end DL

set_option Elab.async false
set_option linter.all false
set_option maxRecDepth 100000
namespace DL
open PySem PySem.Spec PyProof.Rows L2

/-! ### what is walked -/
/-- J gives the data ds one by one, while what stood at its start stands -/
def WalkD (K : PySem.W.Frag) (J : It) (G : Hp) (ds : List D) : Prop :=
  Walk J ds.length (fun H => Same G H) (fun i H x H' => ∃ d, ds[i]? = some d ∧ ∀ μ, RM K H μ → Same G (cut H μ) → Stp H μ H' μ ∧ RM K H' μ ∧ Rep K (cut H' μ) x d)
abbrev ITK := List D → Mu → Prop
abbrev ITD := Rho → Mu → ITK → Prop
def MonoI (t : ITD) : Prop := ∀ ρ μ (Q Q' : ITK), (∀ d μ', Q d μ' → Q' d μ') → t ρ μ Q → t ρ μ Q'
def liftI (K : PySem.W.Frag) (H : Hp) (μ : Mu) (R : It → Hp → Prop) : ITK := fun ds μ' => ∀ J H', Stp H μ H' μ' → RM K H' μ' → WalkD K J (cut H' μ') ds → R J H'
def upI (K : PySem.W.Frag) (t : ITD) : TI := fun σ H R => ∃ ρ μ, RS K H σ ρ μ ∧ t ρ μ (liftI K H μ R)
structure PID (X : Cx) (tg iter : Expr) (t : ITD) : Prop where
  pi : PI X tg iter (upI X.K t)
  mono : MonoI t
theorem PI.imp {X : Cx} {tg e : Expr} {t t' : TI} (h : PI X tg e t) (i : ∀ σ H R, t' σ H R → t σ H R) : PI X tg e t' := ⟨fun pins s σ H R I q => h.run pins s σ H R I (i _ _ _ q)⟩
theorem walk_at {K : PySem.W.Frag} {J : It} {G : Hp} {ds : List D} {vs : List V} {P : Hp → Prop} (w : Walk J ds.length P (fun i H x H' => H' = H ∧ vs[i]? = some x)) (hp : ∀ H, Same G H → P H) (r : Reps K G vs ds) : WalkD K J G ds :=
  w.mono (fun H h => hp H h) fun i H x H' hi h ⟨e, hx⟩ => by
    subst e
    obtain ⟨d, h1, h2⟩ := r.getV hx
    exact ⟨d, h1, fun μ m s => ⟨Same.refl _, m, h2.mono s⟩⟩
def dSeqL (t : ED) : ITD := fun ρ μ Q => t ρ μ fun d μ' => match d with
  | .lst ds => Q ds μ'
  | _ => False
def dSeqT (t : ED) : ITD := fun ρ μ Q => t ρ μ fun d μ' => match d with
  | .tup ds => Q ds μ'
  | _ => False
section
variable {X : Cx} {tg e : Expr} {t : ED}
theorem di_list (h : PD X e t) : PID X tg e (dSeqL t) := by
  refine ⟨PI.imp (pi_list h.pe) fun σ H R ⟨ρ, μ, S, q⟩ => ?_, fun ρ μ Q Q' i q => h.mono ρ μ _ _ (fun d μ' z => by
    cases d <;> first | exact i _ _ z | exact z.elim) q⟩
  refine up_bind S h.mono q fun d μ' v H' q1 s R1 r1 => ?_
  cases r1 with
  | lst h1 r =>
    refine ⟨_, rfl, ⟨_, Same.seq cut_sub h1⟩, q1 _ H' s R1.mem ?_⟩
    refine walk_at ?_ (fun H2 st => Same.seq st h1) r
    rw [← r.length]
    exact walk_list
  | _ => exact q1.elim
theorem di_tup (h : PD X e t) : PID X tg e (dSeqT t) := by
  refine ⟨PI.imp (pi_tup h.pe) fun σ H R ⟨ρ, μ, S, q⟩ => ?_, fun ρ μ Q Q' i q => h.mono ρ μ _ _ (fun d μ' z => by
    cases d <;> first | exact i _ _ z | exact z.elim) q⟩
  refine up_bind S h.mono q fun d μ' v H' q1 s R1 r1 => ?_
  cases r1 with
  | tup h1 r =>
    refine ⟨_, rfl, ⟨_, sqT_mono cut_sub h1⟩, q1 _ H' s R1.mem ?_⟩
    refine walk_at ?_ (fun H2 st => sqT_mono st h1) r
    rw [← r.length]
    exact walk_tup
  | _ => exact q1.elim
def rngD (lo : Int) (n : Nat) : List D := (List.range n).map fun (i : Nat) => D.int (lo + i)
theorem rng_get {lo : Int} {n i : Nat} (h : i < n) : (rngD lo n)[i]? = some (.int (lo + i)) := by
  unfold rngD
  rw [List.getElem?_map, List.getElem?_range h]
  rfl
theorem walk_rngD {K : PySem.W.Frag} {G : Hp} {lo : Int} {n : Nat} : WalkD K (Itr lo n) G (rngD lo n) := by
  have hl : (rngD lo n).length = n := by unfold rngD; simp
  unfold WalkD
  rw [hl]
  refine walk_range.mono (fun _ _ => True.intro) fun i H x H' hi _ y => ?_
  obtain ⟨e, ex⟩ := y
  subst e ex
  exact ⟨_, rng_get hi, fun μ m s => ⟨Same.refl _, m, .int _⟩⟩
def dRng1 (t : AD) : ITD := fun ρ μ Q => t ρ μ fun ds μ' => match ds with
  | [.int j] => (-(2 ^ 62) ≤ j ∧ j < 2 ^ 62) ∧ Q (rngD 0 j.toNat) μ'
  | _ => False
theorem di_range1 {a : Expr} {ta : AD} {p pos : Pos} (hg : Gl X "range") (hm : X.mg "range" = none) (ha : PAD X [a] ta) (hs : starEach [a] X.env = [(false, eval a X.env)] := by rfl) : PID X tg (.Call (.Name "range" p) [a] [] pos) (dRng1 ta) := by
  refine ⟨PI.imp (pi_range1 hg hm ha.pa hs) fun σ H R ⟨ρ, μ, S, q⟩ => ?_, fun ρ μ Q Q' i q => ha.mono ρ μ _ _ (fun ds μ' z => by
    unfold dRng1 at *
    split at z
    · exact ⟨z.1, i _ _ z.2⟩
    · exact z.elim) q⟩
  refine upA_bind S ha.mono q fun ds μ' vs H' q1 s R1 r1 => ?_
  split at q1
  · cases r1 with
    | cons h1 t =>
      cases t
      cases h1
      exact ⟨_, rfl, q1.1.1, q1.1.2, q1.2 _ H' s R1.mem walk_rngD⟩
  · exact q1.elim
/-- reversed(x), x a list or a tuple -/
def dRev (t : ED) : ITD := fun ρ μ Q => t ρ μ fun d μ' => match d with
  | .lst ds => Q ds.reverse μ'
  | .tup ds => Q ds.reverse μ'
  | _ => False
theorem rev_get {α : Type} {xs : List α} {i : Nat} {x : α} (h : xs[xs.length - 1 - i]? = some x) (hi : i < xs.length) : xs.reverse[i]? = some x := by
  rw [List.getElem?_reverse hi]
  exact h
theorem walk_revT {K : PySem.W.Frag} {a : Addr} {xs : List V} : Walk (RT.ItvT K a xs.length) xs.length (fun H => SqT K H a xs) (fun i H x H' => H' = H ∧ xs[xs.length - 1 - i]? = some x) :=
  ⟨fun i _ hi q => ⟨hi, xs, xs[xs.length - 1 - i]'(by omega), q, by simp [show xs.length - 1 - i < xs.length by omega]⟩, fun _ _ => Nat.le_refl _, fun _ _ _ _ _ q y => ⟨y.1, y.2 xs q⟩⟩
theorem di_rev {p pos : Pos} (hg : Gl X "reversed") (hm : X.mg "reversed" = none) (h : PD X e t) (hs : starEach [e] X.env = (false, eval e X.env) :: starEach [] X.env := by rfl) : PID X tg (.Call (.Name "reversed" p) [e] [] pos) (dRev t) := by
  refine ⟨PI.imp (RT.pi_revA hg hm h.pe hs) fun σ H R ⟨ρ, μ, S, q⟩ => ?_, fun ρ μ Q Q' i q => h.mono ρ μ _ _ (fun d μ' z => by
    cases d <;> first | exact i _ _ z | exact z.elim) q⟩
  refine up_bind S h.mono q fun d μ' v H' q1 s R1 r1 => ?_
  cases r1 with
  | @lst a vs ds h1 r =>
    refine ⟨_, _, rfl, .inl ⟨Same.seq cut_sub h1, q1 _ H' s R1.mem ?_⟩⟩
    have w := walk_rev (K := X.K) (a := a) (xs := vs)
    have w2 : Walk (Itv X.K a vs.length) ds.reverse.length (fun H => SqL X.K H a vs) (fun i H x H' => H' = H ∧ vs.reverse[i]? = some x) := by
      rw [List.length_reverse, ← r.length]
      exact w.mono (fun _ z => z) fun i H x H' hi _ ⟨e1, e2⟩ => ⟨e1, rev_get e2 hi⟩
    exact walk_at w2 (fun H2 st => Same.seq st h1) r.reverse
  | @tup a vs ds h1 r =>
    refine ⟨_, _, rfl, .inr ⟨sqT_mono cut_sub h1, q1 _ H' s R1.mem ?_⟩⟩
    have w := walk_revT (K := X.K) (a := a) (xs := vs)
    have w2 : Walk (RT.ItvT X.K a vs.length) ds.reverse.length (fun H => SqT X.K H a vs) (fun i H x H' => H' = H ∧ vs.reverse[i]? = some x) := by
      rw [List.length_reverse, ← r.length]
      exact w.mono (fun _ z => z) fun i H x H' hi _ ⟨e1, e2⟩ => ⟨e1, rev_get e2 hi⟩
    exact walk_at w2 (fun H2 st => sqT_mono st h1) r.reverse
  | _ => exact q1.elim
/-- zip of two lists, of two tuples (the target a written tuple) -/
def pairsD (xs ys : List D) : List D := (xs.zip ys).map fun p => D.tup [p.1, p.2]
def dZip (t : AD) : ITD := fun ρ μ Q => t ρ μ fun ds μ' => match ds with
  | [.lst xs, .lst ys] => Q (pairsD xs ys) μ'
  | [.tup xs, .tup ys] => Q (pairsD xs ys) μ'
  | _ => False
theorem pairs_get {xs ys : List D} {i : Nat} {a b : D} (h1 : xs[i]? = some a) (h2 : ys[i]? = some b) : (pairsD xs ys)[i]? = some (.tup [a, b]) := by
  unfold pairsD
  rw [List.getElem?_map, (List.getElem?_zip_eq_some (z := (a, b))).mpr ⟨h1, h2⟩]
  rfl
theorem walk_pair {K : PySem.W.Frag} {J : It} {G : Hp} {xs ys : List D} {vs ws : List V} {P : Hp → Prop} (w : Walk J (min vs.length ws.length) P (YPair (fun i => vs[i]?) (fun i => ws[i]?))) (hp : ∀ H, Same G H → P H) (r : Reps K G vs xs) (r' : Reps K G ws ys) : WalkD K J G (pairsD xs ys) := by
  have hl : (pairsD xs ys).length = min vs.length ws.length := by
    unfold pairsD
    rw [List.length_map, List.length_zip, r.length, r'.length]
  unfold WalkD
  rw [hl]
  refine w.mono (fun H h => hp H h) fun i H x H' hi h ⟨T, x1, x2, e1, e2, e3, e4, e5⟩ => ?_
  subst e1 e3
  obtain ⟨d1, g1, k1⟩ := r.getV e4
  obtain ⟨d2, g2, k2⟩ := r'.getV e5
  refine ⟨_, pairs_get g1 g2, fun μ m s => ?_⟩
  have hm := m.free e2
  have st := lay_stp (μ := μ) e2 hm (.tup [x1, x2])
  exact ⟨st, m.lay e2 _, .tup (SqT.of (cut_lay hm _)) (.cons (k1.mono (s.trans st)) (.cons (k2.mono (s.trans st)) .nil))⟩
theorem walk_zipT {K : PySem.W.Frag} {a b : Addr} {xs ys : List V} : Walk (RZ.ItzT K a b) (min xs.length ys.length) (fun H => SqT K H a xs ∧ SqT K H b ys) (YPair (fun i => xs[i]?) (fun i => ys[i]?)) := by
  refine ⟨fun i H hi q => ?_, fun H q => ⟨xs, ys, q.1, q.2, by omega⟩, fun i H x H' hi q y => ?_⟩
  · exact ⟨xs, ys, xs[i]'(by omega), ys[i]'(by omega), q.1, q.2, by simp [show i < xs.length by omega], by simp [show i < ys.length by omega]⟩
  · obtain ⟨T, x1, x2, e1, e2, e3, e4, e5⟩ := y
    exact ⟨T, x1, x2, e1, e2, e3, e4 xs q.1, e5 ys q.2⟩
theorem di_zip {e2 : Expr} {ta : AD} {p pos tpos : Pos} {elts : List Expr} {kk : Nat} (hg : Gl X "zip") (hm : X.mg "zip" = none) (ha : PAD X [e, e2] ta)
    (hs : starEach [e, e2] X.env = (false, eval e X.env) :: starEach [e2] X.env := by rfl) (hpl : (backTo pos (starEach [e2] X.env)).any (·.1) = false := by rfl) : PID X (.Tuple elts kk tpos) (.Call (.Name "zip" p) [e, e2] [] pos) (dZip ta) := by
  refine ⟨PI.imp (RZ.pi_zipA hg hm ha.pa hs hpl) fun σ H R ⟨ρ, μ, S, q⟩ => ?_, fun ρ μ Q Q' i q => ha.mono ρ μ _ _ (fun ds μ' z => by
    unfold dZip at *
    split at z
    · exact i _ _ z
    · exact i _ _ z
    · exact z.elim) q⟩
  refine upA_bind S ha.mono q fun ds μ' vs H' q1 s R1 r1 => ?_
  split at q1
  · cases r1 with
    | cons h1 t =>
      cases t with
      | cons h2 t =>
        cases t
        cases h1 with
        | lst a1 b1 =>
          cases h2 with
          | lst a2 b2 => exact ⟨_, _, _, _, rfl, .inl ⟨Same.seq cut_sub a1, Same.seq cut_sub a2, q1 _ H' s R1.mem (walk_pair (walk_zip rfl) (fun H2 st => ⟨Same.seq st a1, Same.seq st a2⟩) b1 b2)⟩⟩
  · cases r1 with
    | cons h1 t =>
      cases t with
      | cons h2 t =>
        cases t
        cases h1 with
        | tup a1 b1 =>
          cases h2 with
          | tup a2 b2 => exact ⟨_, _, _, _, rfl, .inr ⟨sqT_mono cut_sub a1, sqT_mono cut_sub a2, q1 _ H' s R1.mem (walk_pair walk_zipT (fun H2 st => ⟨sqT_mono st a1, sqT_mono st a2⟩) b1 b2)⟩⟩
  · exact q1.elim
end

/-! ### for -/
def loopD (g : GD) (tb : SD) (E : EndsD) : List D → NK
  | [] => E.nx
  | d :: ds => fun ρ μ => g d ρ μ fun ρ' μ' => tb { E with nx := loopD g tb E ds, ct := loopD g tb E ds, bk := E.nx } ρ' μ'
def dFor (it : ITD) (g : GD) (tb : SD) : SD := fun E ρ μ => it ρ μ fun ds μ' => loopD g tb E ds ρ μ'
theorem loop_mono {g : GD} {tb : SD} (hg : MonoG g) (hb : MonoS tb) {E E' : EndsD} (l : E.le E') : ∀ (ds : List D) ρ μ, loopD g tb E ds ρ μ → loopD g tb E' ds ρ μ
  | [], ρ, μ, q => l.nx _ _ q
  | d :: ds, ρ, μ, q => hg d ρ μ _ _ (fun ρ' μ' z => hb { E with nx := loopD g tb E ds, ct := loopD g tb E ds, bk := E.nx } { E' with nx := loopD g tb E' ds, ct := loopD g tb E' ds, bk := E'.nx } ρ' μ' ⟨loop_mono hg hb l ds, l.rt, l.nx, loop_mono hg hb l ds⟩ z) q
theorem dFor_mono {it : ITD} {g : GD} {tb : SD} (hi : MonoI it) (hg : MonoG g) (hb : MonoS tb) : MonoS (dFor it g tb) := fun E E' ρ μ l q => hi ρ μ _ _ (fun ds μ' z => loop_mono hg hb l ds ρ μ' z) q
section
variable {X : Cx} {pos : Pos}
theorem d_for {tg iter : Expr} {body : List Stmt} {it : ITD} {g : GD} {tb : SD} {ws : List Nat} (hp : PassesOwn (model X.prog X.w) X.A X.env X.xe) (hc : X.calm = true) (hi : PID X tg iter it) (hg : PGD X tg g ws) (hb : PSsD X body tb)
    (hs : ∀ x, foldedSetIterable iter X.env x = pure x := by intro _; rfl) : PSD X (.For tg iter body [] pos) (dFor it g tb) := by
  refine ⟨PS.imp (ps_for hp hc hi.pi hg.pg hb.ps hs) fun E σ H ⟨ρ, μ, R, q⟩ => ?_, dFor_mono hi.mono hg.mono hb.mono⟩
  refine ⟨ρ, μ, R, hi.mono ρ μ _ _ (fun ds μ1 q1 J H1 s1 m1 w => ?_) q⟩
  refine for_it w (fun i σ' H' => ∃ ρ' μ', Stp H1 μ1 H' μ' ∧ RS X.K H' σ' ρ' μ' ∧ loopD g tb (liftS X.K H μ E) (ds.drop i) ρ' μ') ⟨ρ, μ1, Same.refl _, R.step s1 m1, by simpa using q1⟩ (fun i σ' H' _ ⟨ρ', μ', s, _, _⟩ => s.trans cut_sub) ?_ ?_
  · rintro i x σ' H' H2 hi' ⟨ρ', μ', s, R', q'⟩ ⟨d, hd, y⟩
    obtain ⟨y1, y2, y3⟩ := y μ' R'.mem s
    have e : ds.drop i = d :: ds.drop (i + 1) := by
      rw [List.drop_eq_getElem_cons hi']
      rw [List.getElem?_eq_getElem hi'] at hd
      rw [Option.some.inj hd]
    rw [e] at q'
    refine ⟨d, ρ', μ', R'.step y1 y2, y3, hg.mono d ρ' μ' _ _ (fun ρ3 μ3 z σ3 H3 s3 R3 _ => ?_) q'⟩
    have st3 : Stp H1 μ1 H3 μ3 := (s.trans y1).trans s3
    refine ⟨ρ3, μ3, R3, hb.mono { liftS X.K H μ E with nx := loopD g tb (liftS X.K H μ E) (ds.drop (i + 1)), ct := loopD g tb (liftS X.K H μ E) (ds.drop (i + 1)), bk := (liftS X.K H μ E).nx } _ _ _ ⟨fun ρ4 μ4 z4 σ4 H4 s4 R4 => ?_, fun d4 μ4 z4 => ?_, fun ρ4 μ4 z4 => ?_, fun ρ4 μ4 z4 σ4 H4 s4 R4 => ?_⟩ z⟩
    · exact ⟨ρ4, μ4, st3.trans s4, R4, z4⟩
    · exact lift_stp (s1.trans st3) z4
    · exact liftN_stp (s1.trans st3) z4
    · exact ⟨ρ4, μ4, st3.trans s4, R4, z4⟩
  · rintro σ' H' ⟨ρ', μ', s, R', q'⟩
    rw [List.drop_length] at q'
    exact q' σ' H' (s1.trans s) R'
end

/-! ### list comprehensions -/
def wipeD (ρ : Rho) : List Nat → Rho
  | [] => ρ
  | v :: vs => (wipeD ρ vs).set v none
theorem wipe_get : ∀ {σ : L2.St} {i : Nat} (vs : List Nat), (wipe σ vs)[i]? = if i ∈ vs then (σ[i]?).map (fun _ => none) else σ[i]?
  | σ, i, [] => by simp [wipe]
  | σ, i, v :: vs => by
    have ih := wipe_get (σ := σ) (i := i) vs
    unfold wipe
    by_cases h : v = i
    · subst h
      rw [if_pos List.mem_cons_self]
      by_cases hl : v < σ.length
      · rw [List.getElem?_set_self (by rw [wipe_length]; exact hl), List.getElem?_eq_getElem hl]
        rfl
      · rw [List.getElem?_eq_none (by rw [List.length_set, wipe_length]; omega), List.getElem?_eq_none (by omega)]
        rfl
    · rw [List.getElem?_set_ne h, ih]
      by_cases h2 : i ∈ vs
      · rw [if_pos h2, if_pos (List.mem_cons_of_mem _ h2)]
      · rw [if_neg h2, if_neg]
        intro z
        rcases List.mem_cons.mp z with z | z
        · exact h z.symm
        · exact h2 z
theorem wipe_idem (σ : L2.St) (vs : List Nat) : wipe (wipe σ vs) vs = wipe σ vs := by
  apply List.ext_getElem?
  intro i
  rw [wipe_get, wipe_get]
  by_cases h : i ∈ vs
  · rw [if_pos h, if_pos h]
    cases σ[i]? <;> rfl
  · rw [if_neg h, if_neg h]
theorem wipe_RS {K : PySem.W.Frag} {H : Hp} {σ : L2.St} {ρ : Rho} {μ : Mu} (R : RS K H σ ρ μ) : ∀ vs, RS K H (wipe σ vs) (wipeD ρ vs) μ
  | [] => R
  | v :: vs => by
    have ih := wipe_RS R vs
    show RS K H ((wipe σ vs).set v none) ((wipeD ρ vs).set v none) μ
    refine ⟨by simpa using ih.len, fun i d e => ?_, R.mem⟩
    by_cases h : v = i
    · subst h
      by_cases hl : v < (wipeD ρ vs).length
      · rw [List.getElem?_set_self hl] at e; cases e
      · rw [List.getElem?_eq_none (by simpa using hl)] at e; cases e
    · rw [List.getElem?_set_ne h] at e ⊢
      exact ih.slot i d e
def pushD (p : Addr) (y : D) (μ : Mu) (Q : Mu → Prop) : Prop := match μ p with
  | some (.lst acc) => acc.length < sizeLine ∧ Q (mset μ p (.lst (acc ++ [y])))
  | _ => False
theorem pushD_mono {p : Addr} {y : D} {μ : Mu} {Q Q' : Mu → Prop} (h : ∀ μ, Q μ → Q' μ) (q : pushD p y μ Q) : pushD p y μ Q' := by
  unfold pushD at q ⊢
  split at q
  · exact ⟨q.1, h _ q.2⟩
  · exact q.elim
def lcD (g : GD) (tt : TD) (te : ED) (ρ0 : Rho) (p : Addr) (Q : Mu → Prop) : List D → Mu → Prop
  | [] => Q
  | d :: ds => fun μ => g d ρ0 μ fun ρ' μ' => tt ρ' μ' fun b μ2 => if b = true then te ρ' μ2 fun y μ3 => pushD p y μ3 (lcD g tt te ρ0 p Q ds) else lcD g tt te ρ0 p Q ds μ2
theorem lc_mono {g : GD} {tt : TD} {te : ED} {ρ0 : Rho} {p : Addr} (hg : MonoG g) (ht : MonoT tt) (he : Mono te) {Q Q' : Mu → Prop} (h : ∀ μ, Q μ → Q' μ) : ∀ ds μ, lcD g tt te ρ0 p Q ds μ → lcD g tt te ρ0 p Q' ds μ
  | [], μ, q => h _ q
  | d :: ds, μ, q => hg _ _ _ _ _ (fun ρ' μ' z => ht _ _ _ _ (fun b μ2 z2 => by
      cases b with
      | true => exact iteT (he _ _ _ _ (fun y μ3 z3 => pushD_mono (lc_mono hg ht he h ds) z3) z2)
      | false => exact iteF (lc_mono hg ht he h ds μ2 z2)) z) q
def dLc (it : ITD) (g : GD) (tt : TD) (te : ED) (vs : List Nat) : ED := fun ρ μ Q => it ρ μ fun ds μ1 => ∀ p, μ1 p = none → lcD g tt te (wipeD ρ vs) p (Q (.ob p)) ds (mset μ1 p (.lst []))
theorem dLc_mono {it : ITD} {g : GD} {tt : TD} {te : ED} {vs : List Nat} (hi : MonoI it) (hg : MonoG g) (ht : MonoT tt) (he : Mono te) : Mono (dLc it g tt te vs) := fun ρ μ Q Q' h q => hi _ _ _ _ (fun ds μ1 z p hp => lc_mono hg ht he (fun μ => h _ μ) ds _ (z p hp)) q
structure PTsD (X : Cx) (ifs : List Expr) (t : TD) : Prop where
  pt : PTs X ifs (upT X.K t)
  mono : MonoT t
theorem PTs.imp {X : Cx} {e : List Expr} {t t' : TT} (h : PTs X e t) (i : ∀ σ H Q, t' σ H Q → t σ H Q) : PTs X e t' := ⟨fun pins s σ H Q I q => h.run pins s σ H Q I (i _ _ _ q)⟩
def dYes : TD := fun _ μ Q => Q true μ
section
variable {X : Cx} {pos : Pos}
theorem dts_nil : PTsD X [] dYes := ⟨PTs.imp pts_nil fun σ H Q ⟨ρ, μ, R, q⟩ => q H (Same.refl _) R.mem, fun _ _ _ _ i q => i _ _ q⟩
theorem dts_one {c : Expr} {t : TD} (h : PTD X c t) : PTsD X [c] t := ⟨pts_one h.pt, h.mono⟩
theorem lc_up {K : PySem.W.Frag} {it : ITD} {g : GD} {tt : TD} {te : ED} {ws : List Nat} (hi : MonoI it) (hg : MonoG g) (ht : MonoT tt) (he : Mono te) : ∀ σ H Q, up K (dLc it g tt te ws) σ H Q → tLc (upI K it) (upG K g ws) (upT K tt) (up K te) ws σ H Q := fun σ H Q ⟨ρ, μ, R, q⟩ => by
  refine ⟨ρ, μ, R, hi ρ μ _ _ (fun ds μ1 q1 J H1 s1 m1 w p hp => ?_) q⟩
  have R1 := R.step s1 m1
  have hm1 := m1.free hp
  have start : Stp H1 μ1 (upd H1 p (.lst [])) (mset μ1 p (.lst [])) := put_stp (.inl hp) _ _
  refine lc_it w (fun i H' => ∃ μ', Stp H1 μ1 H' μ' ∧ RM K H' μ' ∧ lcD g tt te (wipeD ρ ws) p (lift K H μ Q (.ob p)) (ds.drop i) μ') ⟨_, start, m1.put (.inl hp) .nil, by simpa using q1 p hm1⟩ (fun i H' _ ⟨μ', s, _⟩ => s.trans cut_sub) ?_ ?_
  · rintro i x H' H2 hi' ⟨μ', s, m', q'⟩ ⟨d, hd, y⟩
    obtain ⟨y1, y2, y3⟩ := y μ' m' s
    have e : ds.drop i = d :: ds.drop (i + 1) := by
      rw [List.drop_eq_getElem_cons hi']
      rw [List.getElem?_eq_getElem hi'] at hd
      rw [Option.some.inj hd]
    rw [e] at q'
    have sH2 : Stp H1 μ1 H2 μ' := s.trans y1
    have Rw : RS K H2 (wipe σ ws) (wipeD ρ ws) μ' := (wipe_RS R1 ws).step sH2 y2
    refine ⟨d, _, μ', Rw, y3, hg _ _ _ _ _ (fun ρ3 μ3 z σ3 H3 s3 R3 hw => ⟨hw.trans (wipe_idem σ ws), ?_⟩) q'⟩
    refine ⟨ρ3, μ3, R3, ht _ _ _ _ (fun b μ4 z4 H4 s4 m4 => ?_) z⟩
    have st4 : Stp H1 μ1 H4 μ4 := (sH2.trans s3).trans s4
    cases b with
    | false => exact iteF ⟨μ4, st4, m4, z4⟩
    | true =>
      refine iteT ⟨ρ3, μ4, R3.step s4 m4, he _ _ _ _ (fun yd μ5 z5 yv H5 s5 m5 r5 => ?_) z4⟩
      unfold pushD at z5
      split at z5
      · rename_i acc e5
        obtain ⟨vs, h5, rv⟩ := m5 _ _ e5
        have some5 : (μ5 p).isSome = true := by rw [e5]; rfl
        refine ⟨vs, h5, by rw [rv.length]; exact z5.1, _, (st4.trans s5).trans (put_stp (.inr some5) _ _), m5.put (.inr some5) (rv.append (.cons r5 .nil)), z5.2⟩
      · exact z5.elim
  · rintro H' ⟨μ', s, m', q'⟩
    rw [List.drop_length] at q'
    exact q' _ H' (s1.trans s) m' (.ob p)
theorem d_lc {elt tg iter : Expr} {ifs : List Expr} {scope : Scope} {own : List (Str × Nat)} {it : ITD} {g : GD} {tt : TD} {te : ED} (hc : X.calm = true) (hN : X.N.Nodup) (hi : PID X tg iter it) (ok : BlkOk X.N X.env.scope scope own)
    (hg : ∀ (s : Shared) (H : Hp) (C : Addr) (cl : List (Str × Addr)) (fp : List Addr), PGD (X.blk s H scope (compEnvC scope cl C X.env) fp) tg g (own.map (·.2))) (ht : ∀ (s : Shared) (H : Hp) (C : Addr) (cl : List (Str × Addr)) (fp : List Addr), PTsD (X.blk s H scope (compEnvC scope cl C X.env) fp) ifs tt)
    (he : ∀ (s : Shared) (H : Hp) (C : Addr) (cl : List (Str × Addr)) (fp : List Addr), PD (X.blk s H scope (compEnvC scope cl C X.env) fp) elt te) (hs : ∀ x, foldedSetIterable iter X.env x = pure x := by intro _; rfl) :
    PD X (.ListComp elt [⟨tg, iter, ifs, 0⟩] scope pos) (dLc it g tt te (own.map (·.2))) := by
  have mg := (hg X.s_0 X.H_0 0 [] []).mono
  have mt := (ht X.s_0 X.H_0 0 [] []).mono
  have me := (he X.s_0 X.H_0 0 [] []).mono
  exact ⟨PE.imp (pe_lc (wi := upI X.K it) (g := upG X.K g (own.map (·.2))) (tt := upT X.K tt) hc hN hi.pi ok (fun s H C cl fp => (hg s H C cl fp).pg) (fun s H C cl fp => (ht s H C cl fp).pt) (te := up X.K te) (fun s H C cl fp => (he s H C cl fp).pe) hs) (lc_up hi.mono mg mt me), dLc_mono hi.mono mg mt me⟩
/-- y = [..] on one line, y a local -/
theorem d_setLc (i : Nat) {y : Str} {py : Pos} {elt tg iter : Expr} {ifs : List Expr} {scope : Scope} {own : List (Str × Nat)} {spos : Pos} {it : ITD} {g : GD} {tt : TD} {te : ED} (hc : X.calm = true) (hN : X.N.Nodup) (hsw : swapsWith (.ListComp elt [⟨tg, iter, ifs, 0⟩] scope pos) (some (.Name y py)) spos.line X.env = pure true)
    (hi : PID X tg iter it) (ok : BlkOk X.N X.env.scope scope own)
    (hg : ∀ (s : Shared) (H : Hp) (C : Addr) (cl : List (Str × Addr)) (fp : List Addr), PGD (X.blk s H scope (compEnvC scope cl C X.env) fp) tg g (own.map (·.2))) (ht : ∀ (s : Shared) (H : Hp) (C : Addr) (cl : List (Str × Addr)) (fp : List Addr), PTsD (X.blk s H scope (compEnvC scope cl C X.env) fp) ifs tt)
    (he : ∀ (s : Shared) (H : Hp) (C : Addr) (cl : List (Str × Addr)) (fp : List Addr), PD (X.blk s H scope (compEnvC scope cl C X.env) fp) elt te) (hy : X.N[i]? = some y := by rfl) (hyl : X.env.scope.names.lookup y = some .local := by rfl) (hs : ∀ x, foldedSetIterable iter X.env x = pure x := by intro _; rfl) :
    PSD X (.Assign [.Name y py] (.ListComp elt [⟨tg, iter, ifs, 0⟩] scope pos) spos) (dSet (dLc it g tt te (own.map (·.2))) (gNm i)) := by
  have mg := (hg X.s_0 X.H_0 0 [] []).mono
  have mt := (ht X.s_0 X.H_0 0 [] []).mono
  have me := (he X.s_0 X.H_0 0 [] []).mono
  have ml := dLc_mono (vs := own.map (·.2)) hi.mono mg mt me
  refine ⟨PS.imp (ps_setLc (wi := upI X.K it) (g := upG X.K g (own.map (·.2))) (tt := upT X.K tt) hc hN hy hyl hsw hi.pi ok (fun s H C cl fp => (hg s H C cl fp).pg) (fun s H C cl fp => (ht s H C cl fp).pt) (te := up X.K te) (fun s H C cl fp => (he s H C cl fp).pe) hs) fun E σ H ⟨ρ, μ, R, q⟩ => ?_, dSet_mono ml fun _ _ _ _ _ h q => h _ _ q⟩
  exact lc_up hi.mono mg mt me σ H _ (up_bind R ml q fun d μ' v H' q1 s R1 r1 => q1 _ H' s (R1.set i r1))
end
end DL

set_option Elab.async false
set_option linter.all false
set_option maxRecDepth 100000
namespace DL
open PySem PySem.Spec PyProof.Rows L2

/-! ### defs -/
def spUp (K : PySem.W.Frag) (p : RLD) : Sp := fun vs H Q _ => ∃ ds μ, RM K H μ ∧ Reps K (cut H μ) vs ds ∧ p ds μ (lift K H μ Q)
/-- at a def's end what it made itself may be forgotten -/
def retD (Q : DK) : DK := fun d μ' => ∃ μ2, Sub μ2 μ' ∧ Q d μ2
def endsOf (Q : DK) : EndsD := ⟨fun _ μ' => retD Q .non μ', retD Q, fun _ _ => False, fun _ _ => False⟩
def startD (N : List Str) (ds : List D) : Rho := ds.map some ++ List.replicate (N.length - ds.length) none
theorem start_slot {K : PySem.W.Frag} {G : Hp} : ∀ {vs : List V} {ds : List D} (n : Nat), Reps K G vs ds → ∀ (i : Nat) (d : D), (ds.map some ++ List.replicate n (none : Option D))[i]? = some (some d) → ∃ v, (vs.map some ++ List.replicate n (none : Option V))[i]? = some (some v) ∧ Rep K G v d := fun {vs ds} n r i d e => by
  by_cases h : i < ds.length
  · rw [List.getElem?_append_left (by simpa using h), List.getElem?_map] at e
    cases e1 : ds[i]? with
    | none => rw [e1] at e; cases e
    | some d' =>
      rw [e1] at e
      cases e
      obtain ⟨v, h1, h2⟩ := r.get e1
      exact ⟨v, by rw [List.getElem?_append_left (by simpa [r.length] using h), List.getElem?_map, h1]; rfl, h2⟩
  · rw [List.getElem?_append_right (by simpa using h), List.getElem?_replicate] at e
    split at e <;> cases e
theorem start_RS {K : PySem.W.Frag} {H : Hp} {μ : Mu} {N : List Str} {vs : List V} {ds : List D} (m : RM K H μ) (r : Reps K (cut H μ) vs ds) : RS K H (L2.start N vs) (startD N ds) μ := by
  refine ⟨?_, fun i d e => ?_, m⟩
  · unfold L2.start startD
    simp [r.length]
  · unfold startD at e
    unfold L2.start
    rw [r.length]
    exact start_slot _ r i d e
section
variable {P : Program} {w : World} {K : PySem.W.Frag} {mg : Str → Option Value} {base : Heap}
theorem okD {x qual : Str} {st : Stmt} {f : Addr} {fd : FuncData} {N ps : List Str} {k : Nat} {p : RLD} (F : Fun K x qual st f fd) (S : FnScope N ps (defScope st)) (len : ∀ ds μ Q, p ds μ Q → ds.length = ps.length)
    (hbody : ∀ (cdv : Value) (A : Around) (outer : List Env) (s : Shared) (H : Hp) (E : XK), Room k (A.deeper (envOfC qual (defScope st) s.heap.objs.size f cdv)) →
      ∃ t, PSsD (cxOf CX0 P w K mg base N qual (defScope st) f cdv A outer s H E).nox (defBody st) t ∧ ∀ ds μ Q, p ds μ Q → t (endsOf Q) (startD N ds) μ) : FnOk P w K mg base CX0 (k + 1) f fd ps (spUp K p) := by
  refine F.ok S (fun vs H Q E ⟨ds, μ, m, r, q⟩ => r.length.trans (len ds μ _ q)) fun cdv A outer s H vs Q E hr ⟨ds, μ, m, r, q⟩ => ?_
  obtain ⟨t, ht, hq⟩ := hbody cdv A outer s H E hr
  refine ⟨_, ht.ps, startD N ds, μ, start_RS m r, ht.mono _ _ _ _ ⟨fun ρ' μ' z σ' H' s' R' => ?_, fun d μ' z v H' s' m' r' => ?_, fun _ _ z => False.elim z, fun _ _ z => False.elim z⟩ (hq ds μ _ q)⟩
  · obtain ⟨μ2, sb, z⟩ := z
    exact z _ H' (s'.trans sb.cut) (R'.mem.sub sb) .non
  · obtain ⟨μ2, sb, z⟩ := z
    exact z v H' (s'.trans sb.cut) (m'.sub sb) (r'.mono sb.cut)
end
section
variable {X : Cx} {k : Nat} {f : Addr} {fd : FuncData} {ps : List Str} {pr : RLD} {x : Str} {p pos : Pos} {e : Expr} {es : List Expr} {t : AD}
theorem d_call (F : FnOk X.prog X.w X.K X.mg X.base CX0 k f fd ps (spUp X.K pr)) (mono : MonoL pr) (hr : Room k X.A) (hm : X.mg x = some (.ref f)) (hk : PySem.W.keepIn X.K (.ref f) = true) (hb : Binds X.K fd ps []) (ha : PAD X (e :: es) t) (hg : Gl X x := by rfl)
    (hdb : (x == ("__debug__" : Str)) = false := by decide) (he : starEach (e :: es) X.env = (false, eval e X.env) :: starEach es X.env := by rfl) (hpl : (backTo pos (starEach es X.env)).any (·.1) = false := by rfl) : PD X (.Call (.Name x p) (e :: es) [] pos) (dCa pr t) := by
  refine ⟨PE.imp (pe_call F hr hg hm hk hb .nil pass0 ha.pa hdb he hpl) fun σ H Q ⟨ρ, μ, R, q⟩ => ?_, dCa_mono mono ha.mono⟩
  refine upA_bind R ha.mono q fun ds μ1 vs H1 q1 s1 R1 r1 => ?_
  rw [List.append_nil]
  exact ⟨ds, μ1, R1.mem, r1, mono ds μ1 _ _ (fun d μ' => lift_stp s1) q1⟩
/-- f(k = v, ..), keywords alone -/
structure PKD (X : Cx) (kws : List Keyword) (t : AD) : Prop where
  pk : PK X kws (upA X.K t)
  mono : MonoA t
theorem PK.imp {kws : List Keyword} {t t' : TA} (h : PK X kws t) (i : ∀ σ H Q, t' σ H Q → t σ H Q) : PK X kws t' := ⟨fun pos pins s σ H Q I q => h.run pos pins s σ H Q I (i _ _ _ q)⟩
theorem dk_nil : PKD X [] dNil := ⟨PK.imp pk_nil fun σ H Q ⟨ρ, μ, R, q⟩ => q [] H (Same.refl _) R.mem .nil, fun _ _ _ _ i q => i _ _ q⟩
theorem dk_cons {nm : Option Str} {kpos : Pos} {te : ED} {kws : List Keyword} (h : PD X e te) (h' : PKD X kws t) : PKD X (⟨nm, e, kpos⟩ :: kws) (dCons te t) := by
  refine ⟨PK.imp (pk_cons h.pe h'.pk) fun σ H Q ⟨ρ, μ, R, q⟩ => ?_, dCons_mono h.mono h'.mono⟩
  refine up_bind R h.mono q fun d μ1 v H1 q1 s1 R1 r1 => upA_bind R1 h'.mono q1 fun ds μ2 vs H2 q2 s2 R2 r2 => ?_
  exact q2 (v :: vs) H2 (s1.trans s2) R2.mem (.cons (r1.mono s2) r2)
/-- how the keywords' values stand in the parameters' order -/
structure KwBinds (K : PySem.W.Frag) (fd : FuncData) (ps ks : List Str) (ix : List Nat) : Prop where
  to : ∀ (s : Shared) (ws : List Value), K.In s.heap → ws.length = ps.length → BindsTo s fd ⟨[], ks.zip ws⟩ (ps.zip (ix.filterMap fun i => ws[i]?))
  len : ∀ {α : Type} (l : List α), l.length = ps.length → (ix.filterMap fun i => l[i]?).length = ps.length
def permD (pr : RLD) (n : Nat) (ix : List Nat) : RLD := fun ds μ Q => ds.length = n ∧ pr (ix.filterMap fun i => ds[i]?) μ Q
theorem reps_perm {K : PySem.W.Frag} {G : Hp} {vs : List V} {ds : List D} (r : Reps K G vs ds) : ∀ ix : List Nat, Reps K G (ix.filterMap fun i => vs[i]?) (ix.filterMap fun i => ds[i]?)
  | [] => .nil
  | i :: ix => by
    have ih := reps_perm r ix
    rw [List.filterMap_cons, List.filterMap_cons]
    cases e : ds[i]? with
    | none =>
      have e2 : vs[i]? = none := List.getElem?_eq_none (by rw [r.length]; exact List.getElem?_eq_none_iff.mp e)
      rw [e2]
      exact ih
    | some d =>
      obtain ⟨v, h1, h2⟩ := r.get e
      rw [h1]
      exact .cons h2 ih
theorem vals_perm {vs : List V} {us : List Value} (r : Vals vs us) : ∀ ix : List Nat, Vals (ix.filterMap fun i => vs[i]?) (ix.filterMap fun i => us[i]?)
  | [] => .nil
  | i :: ix => by
    have ih := vals_perm r ix
    rw [List.filterMap_cons, List.filterMap_cons]
    cases e : vs[i]? with
    | none =>
      rw [r.none_of e]
      exact ih
    | some v =>
      obtain ⟨u, h1, h2⟩ := r.get e
      rw [h1]
      exact .cons h2 ih
theorem d_callKw {ks : List Str} {ix : List Nat} {kws : List Keyword} (F : FnOk X.prog X.w X.K X.mg X.base CX0 k f fd ps (spUp X.K pr)) (mono : MonoL pr) (hr : Room k X.A) (hm : X.mg x = some (.ref f)) (hk : PySem.W.keepIn X.K (.ref f) = true) (hb : KwBinds X.K fd ps ks ix) (hkw : PKD X kws t) (hg : Gl X x := by rfl)
    (hall : (backToKw pos (keywordEach kws X.env)).all (·.1.isSome) = true := by rfl) (hks : (backToKw pos (keywordEach kws X.env)).filterMap (·.1) = ks := by rfl)
    (hdb : (x == ("__debug__" : Str)) = false := by decide) (hpl : ((backTo pos (starEach [] X.env)).any (·.1) || (backToKw pos (keywordEach kws X.env)).any (·.1.isNone)) = false := by rfl) : PD X (.Call (.Name x p) [] kws pos) (dCa (permD pr ps.length ix) t) := by
  have pm : MonoL (permD pr ps.length ix) := fun ds μ Q Q' i q => ⟨q.1, mono _ _ _ _ i q.2⟩
  refine ⟨⟨fun pins s σ H Q I ⟨ρ, μ, R, q⟩ => ?_⟩, dCa_mono pm hkw.mono⟩
  have h0 : upA X.K t σ H (fun zs H1 => zs.length = ps.length ∧ spUp X.K pr (ix.filterMap fun i => zs[i]?) H1 Q E0) := upA_bind R hkw.mono q fun ds μ1 vs H1 q1 s1 R1 r1 =>
    ⟨by rw [r1.length]; exact q1.1, _, μ1, R1.mem, reps_perm r1 ix, mono _ μ1 _ _ (fun d μ' => lift_stp s1) q1.2⟩
  refine wpAny_Call_Name_kw (ld_glob I hg hm ?_ hdb)
  refine PySem.W.callWith_KW0 (h₀ := X.base) I.ok.mod.kin hk hall ?_ hpl
  refine thn (hkw.pk.run pos pins s σ H _ I h0) fun ws s2 ⟨zs, H2, I2, rz, hl, q2⟩ => ⟨I2.kIn, ?_⟩
  rw [hks]
  have hw : ws.length = ps.length := rz.length.symm.trans hl
  refine wpAny_call (codeAny_mono (F.run X.A X.stack s2 H2 ⟨[], ks.zip ws⟩ _ _ Q E0 hr I2.env0 (hb.to s2 ws I2.kIn hw) (vals_perm rz ix) q2) fun r s' hq => ?_)
  cases r with
  | error e => exact False.elim hq
  | ok fl =>
    cases fl with
    | ret u => exact I2.after hq
    | _ => exact False.elim hq
end
end DL

set_option Elab.async false
set_option linter.all false
set_option maxRecDepth 100000
namespace DL
open PySem PySem.Spec PyProof.Rows L2

/-! ### kinds of data: type(x), isinstance(x, T) -/
def tyD (μ : Mu) : D → Option String
  | .non => some "NoneType"
  | .bl _ => some "bool"
  | .int _ => some "int"
  | .str _ => some "str"
  | .tup _ => some "tuple"
  | .lst _ => some "list"
  | .dct _ _ => some "dict"
  | .ob a => match μ a with
    | some (.lst _) => some "list"
    | some (.dct _ _) => some "dict"
    | _ => none
  | _ => none
def rTypeD : RLD := fun ds μ Q => match ds with
  | [d] => match tyD μ d with
    | some n => Q (.ty n) μ
    | none => False
  | _ => False
section
variable {X : Cx}
theorem tyB_of {K : PySem.W.Frag} {H : Hp} {μ : Mu} (m : RM K H μ) {v : V} {d : D} {n : String} (r : Rep K (cut H μ) v d) (e : tyD μ d = some n) : TyB K H v n := by
  cases r with
  | non => cases e; exact .non
  | bl b => cases e; exact .bl b
  | int i => cases e; exact .int i
  | str s => cases e; exact .str _
  | ty n => cases e
  | fn _ _ => cases e
  | ob a =>
    unfold tyD at e
    cases e0 : μ a with
    | none => simp only [e0] at e; cases e
    | some o => cases o with
      | lst ws =>
        simp only [e0] at e
        cases e
        obtain ⟨ws, h1, r1⟩ := m _ _ e0
        exact .lst (SqL.of h1)
      | dct ks zs =>
        simp only [e0] at e
        cases e
        obtain ⟨ws, h1, _⟩ := m _ _ e0
        exact .dK h1
      | tab nm => simp only [e0] at e; cases e
  | tup h1 r1 => cases e; exact .tup (sqT_mono cut_sub h1)
  | lst h1 r1 => cases e; exact .lst (Same.seq cut_sub h1)
  | dct h1 l r1 => cases e; exact .dK (cut_sub _ _ h1)
  | dcl h1 l r1 => cases e
theorem c_type : CaD X (.type "type") rTypeD := by
  refine ⟨CallR.imp call_type1 fun vs H Q ⟨ds, μ, m, r, q⟩ => ?_, fun ds μ Q Q' i q => by
    unfold rTypeD at q ⊢
    split at q
    · split at q
      · exact i _ _ q
      · exact q.elim
    · exact q.elim⟩
  unfold rTypeD at q
  split at q
  · split at q
    · rename_i e
      cases r with
      | cons h t =>
        cases t
        exact ⟨_, _, rfl, tyB_of m h e, q _ H (Same.refl _) m (.ty _)⟩
    · exact q.elim
  · exact q.elim
theorem tyX_of {K : PySem.W.Frag} {H : Hp} {μ : Mu} (m : RM K H μ) {v : V} {d : D} {n : String} (r : Rep K (cut H μ) v d) (e : tyD μ d = some n) : TyX K H v (.type n) := by
  cases r with
  | non => cases e; exact .base .non
  | bl b => cases e; exact .base (.bl b)
  | int i => cases e; exact .base (.int i)
  | str s => cases e; exact .base (.str _)
  | ty n => cases e
  | fn _ _ => cases e
  | ob a =>
    unfold tyD at e
    cases e0 : μ a with
    | none => simp only [e0] at e; cases e
    | some o => cases o with
      | lst ws =>
        simp only [e0] at e
        cases e
        obtain ⟨ws, h1, r1⟩ := m _ _ e0
        exact .base (.lst h1)
      | dct ks zs =>
        simp only [e0] at e
        cases e
        obtain ⟨ws, h1, _⟩ := m _ _ e0
        exact .base (.dK h1)
      | tab nm => simp only [e0] at e; cases e
  | tup h1 r1 =>
    cases e
    rcases sqT_mono cut_sub h1 with (h | ⟨o, h⟩) | ⟨o, its, n, h, hc, _⟩
    · exact .base (.tup h)
    · exact .fTuple h
    · exact .kTuple h hc
  | lst h1 r1 =>
    cases e
    rcases Same.seq (cut_sub (H := H) (μ := μ)) h1 with (h | ⟨o, h⟩) | ⟨o, its, n, h, hc, _⟩
    · exact .base (.lst h)
    · exact .base (.frz h)
    · exact .kList h hc
  | dct h1 l r1 => cases e; exact .base (.dK (cut_sub _ _ h1))
  | dcl h1 l r1 => cases e
/-- isinstance with one class -/
def isiS (a b : String) : Option Bool := if a ∈ ["NoneType", "bool", "int", "str", "tuple", "list", "dict"] ∧ b ∈ ["bool", "int", "str", "tuple", "list", "dict"] then some (a == b || (a == "bool" && b == "int")) else none
theorem isiS_ok {a b : String} {r : Bool} (h : isiS a b = some r) : kitB a b = some r := by
  unfold isiS at h
  split at h
  · rename_i hc
    obtain ⟨ha, hb⟩ := hc
    have e := Option.some.inj h
    subst e
    simp only [List.mem_cons, List.mem_nil_iff, or_false] at ha hb
    rcases ha with rfl | rfl | rfl | rfl | rfl | rfl | rfl <;> rcases hb with rfl | rfl | rfl | rfl | rfl | rfl <;> decide +kernel
  · cases h
def rIsiD : RLD := fun ds μ Q => match ds with
  | [d, .ty b] => match tyD μ d with
    | some a => match isiS a b with
      | some r => Q (.bl r) μ
      | none => False
    | none => False
  | _ => False
theorem c_isi : CaD X (.builtin "isinstance") rIsiD := by
  refine ⟨CallR.imp call_isi fun vs H Q ⟨ds, μ, m, r, q⟩ => ?_, fun ds μ Q Q' i q => by
    unfold rIsiD at q ⊢
    split at q
    · split at q
      · split at q
        · exact i _ _ q
        · exact q.elim
      · exact q.elim
    · exact q.elim⟩
  unfold rIsiD at q
  split at q
  · split at q
    · rename_i e
      split at q
      · rename_i e2
        cases r with
        | cons h t =>
          cases t with
          | cons h2 t =>
            cases t
            cases h2
            exact ⟨_, _, _, _, _, rfl, .ty _, tyX_of m h e, kit_ty (isiS_ok e2), q _ H (Same.refl _) m (.bl _)⟩
      · exact q.elim
    · exact q.elim
  · exact q.elim

/-! ### methods of lists of the store -/
variable {o e : Expr} {es : List Expr} {to te : ED} {t : AD} {name : Str} {apos cpos : Pos}
def dAppend (to : ED) (t : AD) : ED := fun ρ μ Q => to ρ μ fun d μ1 => match d with
  | .ob a => match μ1 a with
    | some (.lst _) => t ρ μ1 fun ds μ2 => match ds with
      | [y] => pushD a y μ2 fun μ3 => Q .non μ3
      | _ => False
    | _ => False
  | _ => False
theorem d_append (ho : PD X o to) (ha : PAD X (e :: es) t) (hbase : attributeBase o "append" X.env (eval o X.env) = eval o X.env := by rfl)
    (hfew : ((backTo cpos (starEach (e :: es) X.env)).all (fun x => !x.1) && (backToKw cpos (keywordEach [] X.env)).all (fun x => x.1.isSome)
      && decide ((e :: es).length + ([] : List Keyword).length + (if ([] : List Keyword).isEmpty then 0 else 1) < 30)) = true := by rfl)
    (hline : (apos.endLine == cpos.line) = true := by rfl) (hs : starEach (e :: es) X.env = (false, eval e X.env) :: starEach es X.env := by rfl) (hplain : (backTo cpos (starEach es X.env)).any (·.1) = false := by rfl) :
    PD X (.Call (.Attribute o "append" apos) (e :: es) [] cpos) (dAppend to t) := by
  refine ⟨PE.imp (pe_bm PySem.F.plainAttrs_list PySem.F.slot_list_append PySem.F.type_list_append mt_append ho.pe ha.pa hbase hfew hline hs hplain) fun σ H Q ⟨ρ, μ, R, q⟩ => ?_, fun ρ μ Q Q' i q => ?_⟩
  · refine up_bind R ho.mono q fun d μ1 v H1 q1 s1 R1 r1 => ?_
    cases r1 with
    | ob a =>
      simp only at q1
      split at q1
      · rename_i zs e1
        obtain ⟨vs, h1, _⟩ := R1.mem _ _ e1
        refine ⟨.inl ⟨rfl, _, SqL.of h1⟩, upA_bind R1 ha.mono q1 fun ds μ2 ws H2 q2 s2 R2 r2 => ?_⟩
        split at q2
        · cases r2 with
          | cons k t =>
            cases t
            unfold pushD at q2
            split at q2
            · rename_i acc e2
              obtain ⟨us, h2, ru⟩ := R2.mem _ _ e2
              have so : (μ2 a).isSome = true := by rw [e2]; rfl
              exact ⟨a, us, _, rfl, rfl, h2, by rw [ru.length]; exact q2.1, q2.2 _ _ ((s1.trans s2).trans (put_stp (.inr so) _ _)) (R2.mem.put (.inr so) (ru.append (.cons k .nil))) .non⟩
            · exact q2.elim
        · exact q2.elim
      · exact q1.elim
    | _ => exact q1.elim
  · refine ho.mono ρ μ _ _ (fun d μ1 z => ?_) q
    cases d with
    | ob a =>
      simp only at z ⊢
      split at z
      · refine ha.mono ρ μ1 _ _ (fun ds μ2 z2 => ?_) z
        split at z2
        · exact pushD_mono (fun μ3 z3 => i _ _ z3) z2
        · exact z2.elim
      · exact z.elim
    | _ => exact z.elim
def dPop (to : ED) : ED := fun ρ μ Q => to ρ μ fun d μ1 => match d with
  | .ob a => match μ1 a with
    | some (.lst ds) => match ds.getLast? with
      | some y => Q y (mset μ1 a (.lst ds.dropLast))
      | none => False
    | _ => False
  | _ => False
theorem Reps.dropLast {K : PySem.W.Frag} {G : Hp} {vs : List V} {ds : List D} (r : Reps K G vs ds) : Reps K G vs.dropLast ds.dropLast := by
  rw [List.dropLast_eq_take, List.dropLast_eq_take, r.length]
  exact r.take _
theorem d_pop (ho : PD X o to) (hbase : attributeBase o "pop" X.env (eval o X.env) = eval o X.env := by rfl) (hline : (apos.endLine == cpos.line) = true := by rfl) : PD X (.Call (.Attribute o "pop" apos) [] [] cpos) (dPop to) := by
  refine ⟨PE.imp (pe_bm0 PySem.F.plainAttrs_list PySem.F.slot_list_pop PySem.F.type_list_pop mt_pop ho.pe hbase hline) fun σ H Q ⟨ρ, μ, R, q⟩ => ?_, fun ρ μ Q Q' i q => ?_⟩
  · refine up_bind R ho.mono q fun d μ1 v H1 q1 s1 R1 r1 => ?_
    cases r1 with
    | ob a =>
      simp only at q1
      split at q1
      · rename_i zs e1
        obtain ⟨vs, h1, rv⟩ := R1.mem _ _ e1
        split at q1
        · rename_i y e2
          rw [List.getLast?_eq_getElem?] at e2
          obtain ⟨v, g1, g2⟩ := rv.get e2
          have so : (μ1 a).isSome = true := by rw [e1]; rfl
          have st := put_stp (H := H1) (μ := μ1) (.inr so) (.lst vs.dropLast) (.lst zs.dropLast)
          exact ⟨.inl ⟨rfl, _, SqL.of h1⟩, a, vs, v, rfl, rfl, h1, by rw [rv.length]; exact g1, q1 _ _ (s1.trans st) (R1.mem.put (.inr so) rv.dropLast) (g2.mono st)⟩
        · exact q1.elim
      · exact q1.elim
    | _ => exact q1.elim
  · refine ho.mono ρ μ _ _ (fun d μ1 z => ?_) q
    cases d with
    | ob a =>
      simp only at z ⊢
      split at z
      · split at z
        · exact i _ _ z
        · exact z.elim
      · exact z.elim
    | _ => exact z.elim
/-- xs[i] = e of a list of the store -/
def gIx (to ti : ED) : GD := fun d ρ μ Q => to ρ μ fun x μ1 => ti ρ μ1 fun i μ2 => match x, i with
  | .ob a, .int k => match μ2 a with
    | some (.lst ds) => match ixN ds.length k with
      | some j => Q ρ (mset μ2 a (.lst (ds.set j d)))
      | none => False
    | _ => False
  | _, _ => False
theorem dg_ix {i : Expr} {ti : ED} {pos : Pos} {ws : List Nat} (ho : PD X o to) (hi : PD X i ti)
    (ha : ∀ v, assign (.Subscript o i pos) X.env v = (do
      let ov ← holding [v] (eval o X.env)
      let iv ← holding [v, ov] (eval i X.env)
      standAt pos
      holding [v, ov, iv] (setItem ov iv v)
      release [v, ov, iv] []) := by intro _; rfl) : PGD X (.Subscript o i pos) (gIx to ti) ws := by
  refine ⟨PG.imp (pg_sub ho.pe hi.pe set_list ha) fun v σ H Q ⟨d, ρ, μ, R, r, q⟩ => ?_, fun d ρ μ Q Q' h q => ?_⟩
  · refine up_bind R ho.mono q fun x μ1 v1 H1 q1 s1 R1 r1 => up_bind R1 hi.mono q1 fun y μ2 v2 H2 q2 s2 R2 r2 => ?_
    have r1' := r1.mono s2
    have r' := r.mono (s1.trans s2)
    split at q2
    · rename_i a k
      cases r1'
      cases r2
      split at q2
      · rename_i zs e1
        obtain ⟨vs, h1, rv⟩ := R2.mem _ _ e1
        split at q2
        · rename_i j e2
          have so : (μ2 a).isSome = true := by rw [e1]; rfl
          have st := put_stp (H := H2) (μ := μ2) (.inr so) (.lst (vs.set j v)) (.lst (zs.set j d))
          exact ⟨_, _, _, j, rfl, rfl, h1, by rw [rv.length]; exact e2, q2 σ _ ((s1.trans s2).trans st) (R2.step st (R2.mem.put (.inr so) (rv.set j r'))) rfl⟩
        · exact q2.elim
      · exact q2.elim
    · exact q2.elim
  · refine ho.mono ρ μ _ _ (fun x μ1 z => hi.mono ρ μ1 _ _ (fun y μ2 z2 => ?_) z) q
    split at z2
    · split at z2
      · split at z2
        · exact h _ _ z2
        · exact z2.elim
      · exact z2.elim
    · exact z2.elim
end
end DL

set_option Elab.async false
set_option linter.all false
set_option maxRecDepth 100000
namespace DL
open PySem PySem.Spec PyProof.Rows L2

/-! ### del xs[a:] -/
def selK (a c : Int) (k : Nat) : Bool := if (1 : Int) > 0 then decide (a ≤ (k : Int)) && decide ((k : Int) < c) && (((k : Int) - a) % 1 == 0) else decide (c < (k : Int)) && decide ((k : Int) ≤ a) && ((a - (k : Int)) % (-1) == 0)
def keptOf (a c : Int) (xs : Array Value) : Array Value := (xs.toList.zipIdx.filterMap fun p => if selK a c p.2 = true then none else some p.1).toArray
theorem selK_iff {a c : Int} {k : Nat} : selK a c k = true ↔ a ≤ (k : Int) ∧ (k : Int) < c := by
  unfold selK
  rw [if_pos (by decide)]
  simp
theorem kept_take {a : Nat} : ∀ (l : List Value) (o : Nat) (c : Int), (o + l.length : Nat) ≤ c → (l.zipIdx o).filterMap (fun p => if selK (a : Int) c p.2 = true then none else some p.1) = l.take (a - o)
  | [], o, c, _ => by simp
  | x :: r, o, c, h => by
    have hl : (o + (r.length + 1) : Nat) ≤ c := by simpa using h
    rw [List.zipIdx_cons, List.filterMap_cons]
    by_cases ha : a ≤ o
    · have e : selK (a : Int) c o = true := selK_iff.mpr ⟨by omega, by omega⟩
      rw [if_pos e]
      have ih := kept_take (a := a) r (o + 1) c (by omega)
      have z1 : a - o = 0 := by omega
      have z2 : a - (o + 1) = 0 := by omega
      rw [z1]
      rw [z2] at ih
      simpa using ih
    · have e : ¬ selK (a : Int) c o = true := fun z => ha (by have := (selK_iff.mp z).1; omega)
      rw [if_neg e]
      have ih := kept_take (a := a) r (o + 1) c (by omega)
      have z1 : a - o = (a - (o + 1)) + 1 := by omega
      rw [z1, List.take_succ_cons]
      show x :: _ = _
      rw [ih]
section
variable {prog : Program} {w : World} {A : Around} {E : Value → Shared → Prop} {s : Shared}
set_option maxRecDepth 100000 in
theorem delItem_tail {l sl : Addr} {items : Array Value} {n : Nat} {vl vu : Value} {a : Nat} {Q : Unit → Shared → Prop} (e : s.heap.get? l = some { cls := .type "list", data := .seq items n })
    (hs : s.heap.IsSliceOf sl vl vu .none) (pl : IsPart vl (some (a : Int))) (pu : IsPart vu none) (ha : a ≤ items.size) (hsz : items.size ≤ sizeLine)
    (hf : keptOf (a : Int) (items.size : Int) items = items.extract 0 a)
    (h : Q () { s with heap := s.heap.update l (Obj.mapSeq (keptOf (a : Int) (items.size : Int))) }) : wpAny (model prog w) A (delItem (.ref l) (.ref sl)) Q E s := by
  have isl : s.heap.IsList l items := PySem.IsL.isList e
  obtain ⟨ob, g1, g2, g3⟩ := id hs
  have tsl : s.TypeIs (.ref sl) "slice" := ⟨ob, g1, g2⟩
  have fit : (keptOf (a : Int) (items.size : Int) items).size ≤ sizeLine + 1 := by
    rw [hf, Array.size_extract]
    omega
  have bounds : sliceBounds (some (a : Int)) none none items.size = ((a : Int), (items.size : Int), 1) := by
    simp only [sliceBounds, Option.getD_none]
    have n1 : ¬ ((a : Int) < 0) := by omega
    simp only [n1, if_false, show (1 : Int) > 0 by decide, if_true]
    congr 1
    omega
  refine wpAny_delItem_slot isl.typeIs (by decide) PySem.F.slot_list_delitem (wpAny_call_entry PySem.F.slot_list_delitem isl.typeIs PySem.F.entry_list_delitem ?_ (PySem.F.args_list_delitem_2 _ _))
  show wpAny _ _ (Builtin.List.listSubscript? (.ref sl) >>= _) _ _ s
  refine wpAny_bind ?_
  unfold Builtin.List.listSubscript?
  refine wpAny_bind (wpAny_specialOf tsl slice_no_index ?_)
  simp only [Option.isNone_none, if_true]
  refine wpAny_pure ?_
  show wpAny _ _ (typeOf (.ref sl) >>= _) _ _ s
  refine wpAny_bind (wpAny_typeOf tsl ?_)
  first
    | rw [if_neg (by decide)]
    | refine PySem.W.KFB.if_not (by decide) ?_
  rw [listSliceParts_eq]
  refine wpAny_bind (wpAny_bind (wpAny_field g1 g3 (x := .none) rfl (wpAny_bind (wpAny_listPart .none ?_))))
  rw [if_neg (show ¬ ((rawPart none == rawInt 0) = true) from Bool.false_ne_true)]
  refine wpAny_bind (wpAny_field g1 g3 (x := vl) rfl (wpAny_bind (wpAny_listPart pl ?_)))
  refine wpAny_bind (wpAny_field g1 g3 (x := vu) rfl (wpAny_bind (wpAny_listPart pu (wpAny_pure ?_))))
  unfold Builtin.List.listItems
  refine wpAny_bind (wpAny_bind (wpAny_seqItems e rfl (wpAny_pure ?_)))
  refine wpAny_bind (wpAny_of_eq ((sliceIndices_raw (some (a : Int)) none none items.size (by simp)).trans (congrArg (pure : Int × Int × Int → Sem (Int × Int × Int)) bounds)) ?_)
  refine wpAny_bind (wpAny_rule ?_)
  show wpAny _ _ (updateSeq l (keptOf (a : Int) (items.size : Int)) >>= _) _ _ s
  refine wpAny_bind (wpAny_updateSeq (hz := hsz) (_hz' := fit) e rfl ?_)
  refine wpAny_bind (wpAny_letGo ?_)
  first
    | exact wpAny_bind (wpAny_pure (wpAny_pure ⟨.none, rfl, h⟩))
    | exact wpAny_pure ⟨.none, rfl, h⟩
end
/-- the statement -/
def dDelTail (to tl : ED) : SD := fun E ρ μ => to ρ μ fun d μ1 => tl ρ μ1 fun l μ2 => match d, l with
  | .ob a, .int i => match μ2 a with
    | some (.lst ds) => (0 ≤ i ∧ i ≤ ds.length) ∧ E.nx ρ (mset μ2 a (.lst (ds.take i.toNat)))
    | _ => False
  | _, _ => False
section
variable {X : Cx} {o lo : Expr} {to tl : ED} {pos p2 tpos : Pos}
theorem d_delTail (ho : PD X o to) (hl : PD X lo tl) : PSD X (.Delete [.Subscript o (.Slice (some lo) none none p2) tpos] pos) (dDelTail to tl) := by
  refine ⟨⟨fun pins s σ H D I ⟨ρ, μ, R, q⟩ => ?_⟩, fun E E' ρ μ l q => ?_⟩
  · have h0 : up X.K to σ H fun v1 H1 => up X.K tl σ H1 fun v2 H2 => ∃ (a : Addr) (i : Nat) (vs : List V), v1 = .ref a ∧ v2 = .int i ∧ H2 a = some (.lst vs) ∧ i ≤ vs.length ∧ D.nx σ (upd H2 a (.lst (vs.take i))) := by
      refine up_bind R ho.mono q fun d μ1 v1 H1 q1 s1 R1 r1 => up_bind R1 hl.mono q1 fun l μ2 v2 H2 q2 s2 R2 r2 => ?_
      split at q2
      · rename_i a i
        cases r1
        cases r2
        split at q2
        · rename_i ds e1
          obtain ⟨vs, h1, rv⟩ := R2.mem _ _ e1
          obtain ⟨⟨b1, b2⟩, q2⟩ := q2
          obtain ⟨j, rfl⟩ := Int.eq_ofNat_of_zero_le b1
          have so : (μ2 a).isSome = true := by rw [e1]; rfl
          have st := put_stp (H := H2) (μ := μ2) (.inr so) (.lst (vs.take j)) (.lst (ds.take j))
          exact ⟨a, j, vs, rfl, rfl, h1, by rw [rv.length]; omega, q2 σ _ ((s1.trans s2).trans st) (R2.step st (R2.mem.put (.inr so) (rv.take j)))⟩
        · exact q2.elim
      · exact q2.elim
    refine wpAny_Delete (wpAny_deleteEach_cons (wpAny_delete_Subscript (thn (ho.pe.run pins s σ H _ I h0) fun u s1 ⟨v1, H1, I1, ru, q1⟩ => wpAny_Slice ?_)))
    rw [evalPart_some, evalPart_none]
    refine thn (hl.pe.run pins s1 σ H1 _ I1 q1) fun iv s2 ⟨v2, H2, I2, ri, a, i, vs, e1, e2, hH, hi, q2⟩ => ?_
    subst e1
    subst e2
    cases (show u = Value.ref a from ru)
    obtain ⟨t, rfl⟩ := (show ∃ t, iv = Value.int i t from ri)
    refine wpAny_pure (wpAny_pure ?_)
    have I3 : Inv X pins σ H2 { s2 with heap := s2.heap.push { cls := .type "slice", data := .fields #[.int i t, .none, .none] } } := I2.kept (t' := s2.toks) fun b ob q => Heap.get?_push_of_some _ q
    obtain ⟨z, its, n, r, hl', e⟩ := I3.lstM hH
    have hk : keptOf (i : Int) (its.toArray.size : Int) its.toArray = (its.take i).toArray := by
      unfold keptOf
      rw [kept_take its.toArray.toList 0 _ (by simp)]
      simp
    refine delItem_tail (a := i) e (Heap.IsSliceOf.new ..) (.int _ _) .none (by rw [List.size_toArray]; omega) (by rw [List.size_toArray]; omega) (by rw [hk]; simp) ?_
    have I4 := I3.lset (its' := its.take i) (t' := s2.toks) hH e hk (r.take i) (by rw [List.length_take]; omega)
    exact wpAny_deleteEach_nil ⟨σ, _, I4, q2⟩
  · refine ho.mono ρ μ _ _ (fun d μ1 z => hl.mono ρ μ1 _ _ (fun y μ2 z2 => ?_) z) q
    split at z2
    · split at z2
      · exact ⟨z2.1, l.nx _ _ z2.2⟩
      · exact z2.elim
    · exact z2.elim
end
end DL

set_option Elab.async false
set_option linter.all false
set_option maxRecDepth 100000
namespace DL
open PySem PySem.Spec PyProof.Rows L2
open AutoSeq1 (wpAny_loadPart')
/-! ### enumerate over a tuple -/
theorem new_enumT (l : Addr) (items : Array Value) (n : Nat) (dct : Option Addr) (sl : Array (Option Value)) :
    Meets (Builtin.«enumerate.__new__» ⟨[.type "enumerate", .ref l], []⟩) (fun _ R s => s.heap.get? l = some { cls := .type "tuple", dict := dct, data := .seq items n, slots := sl } ∧
      R (.ok (.ret (.ref (s.heap.push { cls := .type "tuple_iterator", data := .fields #[.ref l, .int 0 0] }).objs.size)))
        { s with heap := (s.heap.push { cls := .type "tuple_iterator", data := .fields #[.ref l, .int 0 0] }).push { cls := .type "enumerate", data := .fields #[.none, .bool false, .ref s.heap.objs.size, rawInt 0, .none, .none] } }) :=
  .of_wp fun prog w A R s h => by
    obtain ⟨hp, g, d, tk, os⟩ := s
    obtain ⟨e, q⟩ := h
    have sub := sub_enumerate
    have isT : Heap.IsTuple (Shared.heap ⟨hp, g, d, tk, os⟩) l items := ⟨_, e, rfl, n, rfl⟩
    wp_walk using wpAny_loadPart' e
    refine wpAny_stack_any fun st => wpAny_pure ?_
    split
    · rename_i c _ _ _ _ _
      cases (c == Value.type "enumerate") <;>
      · wp_walk using wpAny_loadPart' e, wpAny_pyIter_tuple isT
        exact ⟨_, rfl, q⟩
    · wp_walk using wpAny_loadPart' e, wpAny_pyIter_tuple isT
      exact ⟨_, rfl, q⟩
section
variable {prog : Program} {w : World} {A : Around} {E : Value → Shared → Prop} {s : Shared}
theorem call_enumT {l : Addr} {items : Array Value} {Q : Value → Shared → Prop} (hT : s.heap.IsTuple l items)
    (h : ∀ h', IsEnum h' (s.heap.objs.size + 1) s.heap.objs.size 0 .none → h'.IsTupleIter s.heap.objs.size l 0 → h'.objs.size = s.heap.objs.size + 2 → (∀ b o, s.heap.get? b = some o → h'.get? b = some o) →
      Q (.ref (s.heap.objs.size + 1)) { s with heap := h' }) : wpAny (model prog w) A (call (.type "enumerate") [.ref l]) Q E s := by
  obtain ⟨⟨c, dct, dt, sl⟩, e, hc, n, hd⟩ := hT
  have hc : c = .type "tuple" := hc
  have hd : dt = .seq items n := hd
  subst hc hd
  refine callType_new F.called_enumerate (by decide) (F.typeCall_enumerate_1 _) (F.newCall_enumerate_1 _) (fun obj => F.args_object_init_2 obj _) F.entry_enumerate_new (new_enumT l items n dct sl) ⟨e, ?_⟩
  generalize h1 : s.heap.push { cls := .type "tuple_iterator", data := .fields #[.ref l, .int 0 0] } = g1
  have z1 : g1.objs.size = s.heap.objs.size + 1 := by rw [← h1]; exact Heap.size_push ..
  have it1 : g1.get? s.heap.objs.size = some { cls := .type "tuple_iterator", data := .fields #[.ref l, .int 0 0] } := by rw [← h1]; exact Heap.get?_push_size _ rfl
  have old1 : ∀ b o, s.heap.get? b = some o → g1.get? b = some o := fun b o x => by rw [← h1]; exact Heap.get?_push_of_some _ x
  have en : (g1.push { cls := .type "enumerate", data := .fields #[.none, .bool false, .ref s.heap.objs.size, rawInt 0, .none, .none] }).get? g1.objs.size = some { cls := .type "enumerate", data := .fields #[.none, .bool false, .ref s.heap.objs.size, rawInt 0, .none, .none] } := Heap.get?_push_size _ rfl
  rw [z1] at en ⊢
  exact ⟨⟨_, en, rfl⟩, h _ en ⟨_, Heap.get?_push_of_some _ it1, rfl, rfl⟩ (by rw [Heap.size_push, z1]) fun b o x => Heap.get?_push_of_some _ (old1 b o x)⟩
end
/-- the tuple at a, each item in a new pair behind its place -/
def ItEt (K : PySem.W.Frag) (a : Addr) : It :=
  ⟨fun i H => ∃ (xs : List V) (x : V), SqT K H a xs ∧ xs[i]? = some x, fun i H v H' => ∃ T x, v = .ref T ∧ H T = none ∧ H' = upd H T (.tup [.int (i : Nat), x]) ∧ ∀ xs, SqT K H a xs → xs[i]? = some x,
    fun i H => ∃ xs : List V, SqT K H a xs ∧ xs.length ≤ i⟩
theorem turn_enumT {P : Program} {w : World} {K : PySem.W.Frag} {elts : List Expr} {kk : Nat} {tpos : Pos} (a e it : Addr) (hea : e ≠ a) (hita : it ≠ a) :
    Turn P w K (.Tuple elts kk tpos) (ItEt K a) [e, it] e (fun i h => (∃ old, IsEnum h e it ((i : Nat) : Int) old) ∧ h.IsTupleIter it a i ∧ e ≠ it) where
  mem := List.mem_cons_self
  obj := fun i h st b hb => by
    obtain ⟨⟨old, h1⟩, ⟨o, h2, _, h3⟩, _⟩ := st
    rcases List.mem_cons.mp hb with z | z
    · subst z
      exact ⟨_, h1, fun v q => nomatch q⟩
    · have z' : b = it := by simpa using z
      exact ⟨o, z' ▸ h2, fun v q => by rw [h3] at q; cases q⟩
  keep := fun i h h' ⟨⟨old, h1⟩, h2, h3⟩ k => ⟨⟨old, k e (by simp) _ h1⟩, h2.at fun o q => k it (by simp) o q, h3⟩
  item := fun X hP hw hK hc i pins s σ H E I hf ⟨⟨old, h1⟩, h2, h3⟩ ⟨xs, x, hq, hx⟩ => by
    subst hP hw hK
    obtain ⟨its, rv, p, _⟩ := I.tuple hq
    obtain ⟨u, hu, ru⟩ := rv.get hx
    have el : e < s.heap.objs.size := Heap.lt_size h1
    have il : it < s.heap.objs.size := by
      obtain ⟨_, z, _⟩ := h2
      exact Heap.lt_size z
    have D := Draws.tuple (prog := X.prog) (w := X.w) (A := X.A.in1) (show X.A.in1.handled = none from I.ok.hd hc) it a (Ne.symm hita) its.toArray
    have isz : i < its.toArray.size := by
      have := (List.getElem?_eq_some_iff.mp hu).1
      simpa using this
    refine wpAny_pyNext_enum_itemD D h1 ⟨h2, p⟩ isz h3 (by simp [h3, hea]) fun y h' tk hy e' st' hT hsz hk => ?_
    have hyu : y = u := by
      have q : its.toArray[i]? = some u := by simpa using hu
      rw [q] at hy
      exact (Option.some.inj hy).symm
    subst hyu
    refine ⟨_, rfl, wpAny_letOwnedTupleGo_enum (s := { s with heap := h', toks := tk + 1 }) e' fun h2' e2 sb => ?_⟩
    have hT2 : h2'.get? s.heap.objs.size = some { cls := .type "tuple", data := .seq #[.int i tk, y] } := (sb.2 _ (Nat.ne_of_gt el)).trans hT
    have new : ObjOk X.prog X.w (upd H s.heap.objs.size (.tup [.int (i : Nat), x])) h2' s.heap.objs.size (.tup [.int (i : Nat), x]) := ⟨by show 2 ≤ sizeLine; decide, [.int i tk, y], .cons ⟨_, rfl⟩ (.cons ru .nil), ⟨_, hT2, rfl, _, rfl⟩⟩
    have I1 : Inv X pins σ (upd H s.heap.objs.size (.tup [.int (i : Nat), x])) { s with heap := h2', toks := tk + 1 } := I.turnedNew (ch := [e, it]) (fun b ob hb q => (sb.2 b (fun z => hb (by simp [z]))).trans (hk b ob (fun z => hb (by simp [z])) (fun z => hb (by simp [z])) q)) hf (Nat.le_refl _) new
    have e3 : ((i + 1 : Nat) : Int) = (i : Int) + 1 := by omega
    refine ⟨.ref s.heap.objs.size, _, I1, rfl, ⟨_, x, rfl, I.hok.fresh (Nat.le_refl _), rfl, fun ys hy' => by rw [I.tuple_inj hy' hq]; exact hx⟩, ⟨⟨y, by rw [e3]; exact e2⟩, st'.1.at fun o q => (sb.2 it (Ne.symm h3)).trans q, h3⟩, fun b hb => ?_⟩
    have lt : b < s.heap.objs.size := by
      rcases List.mem_cons.mp hb with z | z
      · rw [z]; exact el
      · have z' : b = it := by simpa using z
        rw [z']; exact il
    rw [upd_ne (Nat.ne_of_lt lt)]
    exact (hf b hb).1
  done := fun X hP hw hK hc i pins s σ H E I hf ⟨⟨old, h1⟩, h2, h3⟩ ⟨xs, hq, hx⟩ => by
    subst hP hw hK
    obtain ⟨its, rv, p, _⟩ := I.tuple hq
    obtain ⟨f0, f1, f2, f3, f4, f5⟩ := hf it (by simp)
    have hl := rv.length
    unfold pyNext
    have hT : s.TypeIs (.ref e) "enumerate" := ⟨_, h1, rfl⟩
    have fin : ∀ h', Heap.ExtBut it s.heap h' → (Option.none : Option Value) = Option.none ∧ Inv X pins σ H { s with heap := h' } := fun h' eb => ⟨rfl, I.turned (t' := s.toks) (fun b o hb q => eb b o hb q) f0 f1 f3 f4 f5⟩
    refine wpAny_bind (wpAny_attempt (wpAny_callSpecial?_slot (name := Str.ofString "__next__") hT F.slot_enumerate_next (wpAny_call_entry F.slot_enumerate_next hT F.entry_enumerate_next ?_ (F.args_enumerate_next_1 _))))
    show wpAny _ _ (field (.ref e) 2 >>= _) _ _ _
    refine wpAny_bind (wpAny_field h1 rfl (x := .ref it) rfl ?_)
    refine wpAny_bind (wpAny_nextOf_tuple_end (show X.A.in1.handled = none from I.ok.hd hc) h2 p (by simp; omega) fun h' x he' hx' => ?_)
    obtain ⟨o, ho, hc'⟩ := hx'
    refine wpAny_bind (wpAny_isInstance (T := "StopIteration") (b := true) ⟨o, ho, hc'⟩ isSubtype_stop ?_)
    exact wpAny_pure (fin _ he')
  self := fun A i s Q E ⟨⟨_, h1⟩, _⟩ h => wpAny_pyIter_enum h1 h
def iEnumT (K : PySem.W.Frag) (ta : TA) : TI := fun σ H R => ta σ H fun vs H1 => ∃ a xs, vs = [.ref a] ∧ SqT K H1 a xs ∧ R (ItEt K a) H1
theorem pi_enumT {X : Cx} {e : Expr} {ta : TA} {p pos tpos : Pos} {elts : List Expr} {kk : Nat} (hg : Gl X "enumerate") (hm : X.mg "enumerate" = none) (ha : PA X [e] ta) (hs : starEach [e] X.env = [(false, eval e X.env)] := by rfl) :
    PI X (.Tuple elts kk tpos) (.Call (.Name "enumerate" p) [e] [] pos) (iEnumT X.K ta) := by
  refine ⟨fun pins s σ H R I h => Call_ (ld_blt I hg hm boot_enumerate (PyProof.Rows.callWith_type1 (thn (ha.run pos pins s σ H _ I h) fun us s1 ⟨vs, H1, I1, r1, a, xs, ex, hq, q⟩ => ?_) hs rfl))⟩
  subst ex
  cases r1 with
  | cons r rr =>
    cases rr
    cases r
    obtain ⟨its, rv, p', hz⟩ := I1.tuple hq
    have al : a < s1.heap.objs.size := p'.lt
    refine call_enumT p' fun h' he hit hsz hk => wpAny_pyIter_enum he ?_
    have I2 : Inv X pins σ H1 { s1 with heap := h' } := I1.kept (t' := s1.toks) hk
    refine ⟨s1.heap.objs.size + 1, [s1.heap.objs.size + 1, s1.heap.objs.size], _, _, H1, rfl, I2, turn_enumT a (s1.heap.objs.size + 1) s1.heap.objs.size (Nat.ne_of_gt (Nat.lt_succ_of_lt al)) (Nat.ne_of_gt al), ⟨⟨.none, he⟩, hit, Nat.succ_ne_self _⟩, fun b hb => ?_, q⟩
    have ge : s1.heap.objs.size ≤ b := by
      rcases List.mem_cons.mp hb with z | z
      · rw [z]; exact Nat.le_succ _
      · have z' : b = s1.heap.objs.size := by simpa using z
        rw [z']; exact Nat.le_refl _
    exact I1.fpOk ge (I1.hok.fresh ge)
theorem walk_enumT {K : PySem.W.Frag} {a : Addr} {xs : List V} : Walk (ItEt K a) xs.length (fun H => SqT K H a xs) (YPair (fun i => some (.int (i : Nat))) (fun i => xs[i]?)) := by
  refine ⟨fun i H hi q => ⟨xs, xs[i], q, by simp [hi]⟩, fun H q => ⟨xs, q, Nat.le_refl _⟩, fun i H v H' hi q ⟨T, x, e1, e2, e3, e4⟩ => ⟨T, .int (i : Nat), x, e1, e2, e3, rfl, e4 xs q⟩⟩
def enumD (ds : List D) : List D := ds.zipIdx.map fun p => D.tup [.int (p.2 : Nat), p.1]
def dEnum (t : AD) : ITD := fun ρ μ Q => t ρ μ fun ds μ' => match ds with
  | [.tup xs] => Q (enumD xs) μ'
  | [.lst xs] => Q (enumD xs) μ'
  | _ => False
theorem walk_en {K : PySem.W.Frag} {J : It} {G : Hp} {xs : List D} {vs : List V} {P : Hp → Prop} (w : Walk J vs.length P (YPair (fun i => some (.int (i : Nat))) (fun i => vs[i]?))) (hp : ∀ H, Same G H → P H) (r : Reps K G vs xs) : WalkD K J G (enumD xs) := by
  have hl : (enumD xs).length = vs.length := by
    unfold enumD
    rw [List.length_map, List.length_zipIdx, r.length]
  unfold WalkD
  rw [hl]
  refine w.mono (fun H h => hp H h) fun i H x H' hi h ⟨T, x1, x2, e1, e2, e3, e4, e5⟩ => ?_
  subst e1 e3
  cases e4
  obtain ⟨d2, g2, k2⟩ := r.getV e5
  refine ⟨.tup [.int (i : Nat), d2], ?_, fun μ m s => ?_⟩
  · unfold enumD
    rw [List.getElem?_map, List.getElem?_zipIdx, g2]
    simp
  · have hm := m.free e2
    have st := lay_stp (μ := μ) e2 hm (.tup [.int (i : Nat), x2])
    exact ⟨st, m.lay e2 _, .tup (SqT.of (cut_lay hm _)) (.cons (.int _) (.cons (k2.mono (s.trans st)) .nil))⟩
theorem di_enumT {X : Cx} {e : Expr} {ta : AD} {p pos tpos : Pos} {elts : List Expr} {kk : Nat} (hg : Gl X "enumerate") (hm : X.mg "enumerate" = none) (ha : PAD X [e] ta) (hs : starEach [e] X.env = [(false, eval e X.env)] := by rfl) :
    PID X (.Tuple elts kk tpos) (.Call (.Name "enumerate" p) [e] [] pos) (fun ρ μ Q => ta ρ μ fun ds μ' => match ds with | [.tup xs] => Q (enumD xs) μ' | _ => False) := by
  refine ⟨PI.imp (pi_enumT hg hm ha.pa hs) fun σ H R ⟨ρ, μ, S, q⟩ => ?_, fun ρ μ Q Q' i q => ha.mono ρ μ _ _ (fun ds μ' z => by
    split at z
    · exact i _ _ z
    · exact z.elim) q⟩
  refine upA_bind S ha.mono q fun ds μ' vs H' q1 s R1 r1 => ?_
  split at q1
  · cases r1 with
    | cons h1 t =>
      cases t
      cases h1 with
      | tup a1 b1 => exact ⟨_, _, rfl, sqT_mono cut_sub a1, q1 _ H' s R1.mem (walk_en walk_enumT (fun H2 st => sqT_mono st a1) b1)⟩
  · exact q1.elim
theorem di_enumL {X : Cx} {e : Expr} {ta : AD} {p pos tpos : Pos} {elts : List Expr} {kk : Nat} (hg : Gl X "enumerate") (hm : X.mg "enumerate" = none) (ha : PAD X [e] ta) (hs : starEach [e] X.env = [(false, eval e X.env)] := by rfl) :
    PID X (.Tuple elts kk tpos) (.Call (.Name "enumerate" p) [e] [] pos) (fun ρ μ Q => ta ρ μ fun ds μ' => match ds with | [.lst xs] => Q (enumD xs) μ' | _ => False) := by
  refine ⟨PI.imp (pi_enum hg hm ha.pa hs) fun σ H R ⟨ρ, μ, S, q⟩ => ?_, fun ρ μ Q Q' i q => ha.mono ρ μ _ _ (fun ds μ' z => by
    split at z
    · exact i _ _ z
    · exact z.elim) q⟩
  refine upA_bind S ha.mono q fun ds μ' vs H' q1 s R1 r1 => ?_
  split at q1
  · cases r1 with
    | cons h1 t =>
      cases t
      cases h1 with
      | lst a1 b1 => exact ⟨_, _, rfl, Same.seq cut_sub a1, q1 _ H' s R1.mem (walk_en walk_enum (fun H2 st => Same.seq st a1) b1)⟩
  · exact q1.elim
end DL

set_option Elab.async false
set_option linter.all false
set_option maxRecDepth 100000
namespace DL
open PySem PySem.Spec PyProof.Rows L2

/-! ### dicts whose keys are ints and texts -/
def keyD : D → Option Key
  | .int i => some (.inl i)
  | .str s => some (.inr (enc s))
  | _ => none
theorem key_of {K : PySem.W.Frag} {G : Hp} {v : V} {d : D} {k : Key} (r : Rep K G v d) (e : keyD d = some k) : v = kV k := by
  cases r <;> cases e <;> rfl
def valDD (ks : List Key) (ds : List D) (k : Key) : Option D := ((ks.zip ds).find? fun kv => decide (kv.1 = k)).map (·.2)
theorem val_rel {K : PySem.W.Frag} {G : Hp} {k : Key} : ∀ {ks : List Key} {vs : List V} {ds : List D}, Reps K G vs ds →
    (valDD ks ds k = none ∧ valV (ks.zip vs) k = none) ∨ ∃ d v, valDD ks ds k = some d ∧ valV (ks.zip vs) k = some v ∧ Rep K G v d
  | [], _, _, _ => .inl ⟨rfl, rfl⟩
  | _ :: _, _, _, .nil => .inl ⟨rfl, rfl⟩
  | k1 :: ks, _, _, .cons (v := v) (d := d) h r => by
    unfold valDD valV
    rw [List.zip_cons_cons, List.zip_cons_cons, List.find?_cons, List.find?_cons]
    by_cases e : k1 = k
    · exact .inr ⟨d, v, by simp [e], by simp [e], h⟩
    · have ih := val_rel (k := k) (ks := ks) r
      unfold valDD valV at ih
      simpa [e] using ih
def hasK (ks : List Key) (k : Key) : Bool := ks.any fun z => decide (z = k)
def keysP (ks : List Key) (k : Key) : List Key := if hasK ks k = true then ks else ks ++ [k]
def valsP {α : Type} (ks : List Key) (vs : List α) (k : Key) (v : α) : List α := if hasK ks k = true then (ks.zip vs).map (fun p => if p.1 = k then v else p.2) else vs ++ [v]
theorem zip_put {α : Type} {k : Key} {v : α} : ∀ (ks : List Key) (vs : List α), (ks.zip vs).map (fun kv => if kv.1 = k then (kv.1, v) else kv) = ks.zip ((ks.zip vs).map fun p => if p.1 = k then v else p.2)
  | [], _ => rfl
  | _ :: _, [] => rfl
  | k1 :: ks, v1 :: vs => by
    rw [List.zip_cons_cons, List.map_cons, List.map_cons, List.zip_cons_cons, zip_put ks vs]
    by_cases e : k1 = k <;> simp [e]
theorem any_key {α : Type} {k : Key} : ∀ (ks : List Key) (vs : List α), ks.length = vs.length → ((ks.zip vs).any fun kv => decide (kv.1 = k)) = hasK ks k
  | [], [], _ => rfl
  | k1 :: ks, v1 :: vs, h => by
    have ih := any_key (k := k) ks vs (by simpa using h)
    unfold hasK at ih ⊢
    rw [List.zip_cons_cons, List.any_cons, List.any_cons, ih]
theorem putK_zip {k : Key} {v : V} {ks : List Key} {vs : List V} (h : ks.length = vs.length) : putK (ks.zip vs) k v = (keysP ks k).zip (valsP ks vs k v) := by
  unfold putK keysP valsP
  rw [any_key ks vs h]
  by_cases e : hasK ks k = true
  · rw [if_pos e, if_pos e, if_pos e, zip_put]
  · rw [if_neg e, if_neg e, if_neg e, List.zip_append h]
    rfl
theorem len_put {α : Type} {k : Key} {v : α} {ks : List Key} {vs : List α} (h : ks.length = vs.length) : (keysP ks k).length = (valsP ks vs k v).length := by
  unfold keysP valsP
  by_cases e : hasK ks k = true
  · rw [if_pos e, if_pos e, List.length_map, List.length_zip]
    omega
  · rw [if_neg e, if_neg e]
    simp [h]
theorem reps_put {K : PySem.W.Frag} {G : Hp} {k : Key} {v : V} {d : D} (hd : Rep K G v d) {ks : List Key} {vs : List V} {ds : List D} (r : Reps K G vs ds) : Reps K G (valsP ks vs k v) (valsP ks ds k d) := by
  unfold valsP
  by_cases e : hasK ks k = true
  · rw [if_pos e, if_pos e]
    clear e
    have go : ∀ {ks : List Key} {vs : List V} {ds : List D}, Reps K G vs ds → Reps K G ((ks.zip vs).map fun p => if p.1 = k then v else p.2) ((ks.zip ds).map fun p => if p.1 = k then d else p.2) := by
      intro ks
      induction ks with
      | nil => intro vs ds _; exact .nil
      | cons k1 ks ih =>
        intro vs ds r
        cases r with
        | nil => exact .nil
        | cons h t =>
          rw [List.zip_cons_cons, List.zip_cons_cons, List.map_cons, List.map_cons]
          refine .cons ?_ (ih t)
          by_cases e : k1 = k
          · simpa [e] using hd
          · simpa [e] using h
    exact go r
  · rw [if_neg e, if_neg e]
    exact r.append (.cons hd .nil)
/-- what a dict holds -/
def dictD (μ : Mu) : D → Option (List Key × List D)
  | .dct ks ds => some (ks, ds)
  | .dcl ks ds => some (ks, ds)
  | .ob a => match μ a with
    | some (.dct ks ds) => some (ks, ds)
    | _ => none
  | _ => none
theorem dict_of {K : PySem.W.Frag} {H : Hp} {μ : Mu} (m : RM K H μ) {v : V} {d : D} {ks : List Key} {ds : List D} (r : Rep K (cut H μ) v d) (e : dictD μ d = some (ks, ds)) :
    ∃ a vs, v = .ref a ∧ Rd H a (.dK (ks.zip vs)) ∧ ks.length = vs.length ∧ Reps K (cut H μ) vs ds := by
  cases r with
  | dct h1 l r1 =>
    cases e
    exact ⟨_, _, rfl, .inl (cut_sub _ _ h1), l, r1⟩
  | dcl h1 l r1 =>
    cases e
    exact ⟨_, _, rfl, .inr ⟨_, cut_sub _ _ h1⟩, l, r1⟩
  | ob a =>
    unfold dictD at e
    cases e0 : μ a with
    | none => simp only [e0] at e; cases e
    | some o => cases o with
      | lst ws => simp only [e0] at e; cases e
      | dct kz zs =>
        simp only [e0] at e
        cases e
        obtain ⟨ws, h1, l, r1⟩ := m _ _ e0
        exact ⟨_, ws, rfl, .inl h1, l, r1⟩
      | tab nm => simp only [e0] at e; cases e
  | _ => cases e
theorem dget_rd {H : Hp} {a : Addr} {kvs : List (Key × V)} {k : Key} (e : Rd H a (.dK kvs)) : DGet H a (kV k) (valV kvs k) := .inl ⟨kvs, k, e, rfl, rfl⟩
def rDget : R2D := fun a b μ Q => match dictD μ a, keyD b with
  | some (ks, ds), some k => match valDD ks ds k with
    | some d => Q d μ
    | none => False
  | _, _ => False
theorem rDget_mono : Mono2 rDget := fun a b μ Q Q' h q => by
  unfold rDget at q ⊢
  split at q
  · split at q
    · exact h _ _ q
    · exact q.elim
  · exact q.elim
def rDin (neg : Bool) : R2D := fun b a μ Q => match dictD μ a, keyD b with
  | some (ks, ds), some k => Q (.bl (if neg then !(valDD ks ds k).isSome else (valDD ks ds k).isSome)) μ
  | _, _ => False
theorem rDin_mono {neg : Bool} : Mono2 (rDin neg) := fun a b μ Q Q' h q => by
  unfold rDin at q ⊢
  split at q
  · exact h _ _ q
  · exact q.elim
section
variable {X : Cx} {a b : Expr} {ta tb : ED} {pos : Pos}
theorem d_dget (hu : X.A.units + 1 < cLine) (ha : PD X a ta) (hb : PD X b tb) (hs : NoSl b := by intro _ _; rfl) : PD X (.Subscript a b pos) (dOp rDget ta tb) := by
  refine ⟨PE.imp (pe_dget hu ha.pe hb.pe hs) fun σ H Q ⟨ρ, μ, R, q⟩ => ?_, dOp_mono rDget_mono ha.mono hb.mono⟩
  refine up_bind R ha.mono q fun x μ1 v1 H1 q1 s1 R1 r1 => up_bind R1 hb.mono q1 fun y μ2 v2 H2 q2 s2 R2 r2 => ?_
  unfold rDget at q2
  split at q2
  · rename_i ks ds k e1 e2
    obtain ⟨c, vs, rfl, h1, l, r⟩ := dict_of R2.mem (r1.mono s2) e1
    have hk := key_of r2 e2
    subst hk
    rcases val_rel (k := k) (ks := ks) r with ⟨z, _⟩ | ⟨d, v, z1, z2, z3⟩
    · rw [z] at q2
      exact q2.elim
    · rw [z1] at q2
      exact ⟨c, v, rfl, by rw [← z2]; exact dget_rd h1, q2 v H2 (s1.trans s2) R2.mem z3⟩
  · exact q2.elim
theorem din_raw {neg : Bool} (ha : PD X a ta) (hb : PD X b tb) : ∀ σ H Q, up X.K (dOp (rDin neg) ta tb) σ H Q → up X.K ta σ H fun y H1 => up X.K tb σ H1 fun x H2 => ∃ c o, x = .ref c ∧ DGet H2 c y o ∧ Q (.bl (if neg then !o.isSome else o.isSome)) H2 := fun σ H Q ⟨ρ, μ, R, q⟩ => by
  refine up_bind R ha.mono q fun x μ1 v1 H1 q1 s1 R1 r1 => up_bind R1 hb.mono q1 fun y μ2 v2 H2 q2 s2 R2 r2 => ?_
  unfold rDin at q2
  split at q2
  · rename_i ks ds k e1 e2
    obtain ⟨c, vs, rfl, h1, l, r⟩ := dict_of R2.mem r2 e1
    have hk := key_of (r1.mono s2) e2
    subst hk
    have hh : (valDD ks ds k).isSome = (valV (ks.zip vs) k).isSome := by
      rcases val_rel (k := k) (ks := ks) r with ⟨z, z'⟩ | ⟨d, v, z1, z2, z3⟩
      · rw [z, z']; rfl
      · rw [z1, z2]; rfl
    refine ⟨c, valV (ks.zip vs) k, rfl, dget_rd h1, ?_⟩
    rw [← hh]
    exact q2 _ H2 (s1.trans s2) R2.mem (.bl _)
  · exact q2.elim
theorem d_din (hu : X.A.units + 1 < cLine) (ha : PD X a ta) (hb : PD X b tb) (h1 : behindInMarks .In b = false := by first | exact nobehind _ (by decide) (by decide) | rfl | with_unfolding_all rfl) : PD X (.Compare a [.In] [b] pos) (dOp (rDin false) ta tb) :=
  ⟨PE.imp (pe_cmp (pc_din hu ha.pe hb.pe) h1) fun σ H Q q => din_raw ha hb σ H Q q, dOp_mono rDin_mono ha.mono hb.mono⟩
theorem d_dnotin (hu : X.A.units + 1 < cLine) (ha : PD X a ta) (hb : PD X b tb) (h1 : behindInMarks .NotIn b = false := by first | exact nobehind _ (by decide) (by decide) | rfl | with_unfolding_all rfl) : PD X (.Compare a [.NotIn] [b] pos) (dOp (rDin true) ta tb) :=
  ⟨PE.imp (pe_cmp (pc_dnotin hu ha.pe hb.pe) h1) fun σ H Q q => din_raw ha hb σ H Q q, dOp_mono rDin_mono ha.mono hb.mono⟩
theorem dt_din (hu : X.A.units + 1 < cLine) (ha : PD X a ta) (hb : PD X b tb) (h1 : behindInMarks .In b = false := by first | exact nobehind _ (by decide) (by decide) | rfl | with_unfolding_all rfl) : PTD X (.Compare a [.In] [b] pos) (dBool (dOp (rDin false) ta tb)) := by
  have mm := dOp_mono (r := rDin false) rDin_mono ha.mono hb.mono
  refine ⟨PT.imp (pt_cmp (pc_din hu ha.pe hb.pe) h1) fun σ H Q ⟨ρ, μ, R, q⟩ => ?_, dBool_mono mm⟩
  refine din_raw (neg := false) ha hb σ H (fun x H1 => ∃ c, x = .bl c ∧ Q c H1) (up_bind R mm q fun d μ' v H' q1 s R1 r1 => ?_)
  cases r1 <;> first | exact ⟨_, rfl, q1 H' s R1.mem⟩ | exact q1.elim
theorem dt_dnotin (hu : X.A.units + 1 < cLine) (ha : PD X a ta) (hb : PD X b tb) (h1 : behindInMarks .NotIn b = false := by first | exact nobehind _ (by decide) (by decide) | rfl | with_unfolding_all rfl) : PTD X (.Compare a [.NotIn] [b] pos) (dBool (dOp (rDin true) ta tb)) := by
  have mm := dOp_mono (r := rDin true) rDin_mono ha.mono hb.mono
  refine ⟨PT.imp (pt_cmp (pc_dnotin hu ha.pe hb.pe) h1) fun σ H Q ⟨ρ, μ, R, q⟩ => ?_, dBool_mono mm⟩
  refine din_raw (neg := true) ha hb σ H (fun x H1 => ∃ c, x = .bl c ∧ Q c H1) (up_bind R mm q fun d μ' v H' q1 s R1 r1 => ?_)
  cases r1 <;> first | exact ⟨_, rfl, q1 H' s R1.mem⟩ | exact q1.elim
end

/-! ### dict comprehensions -/
def putDk (p : Addr) (y z : D) (μ : Mu) (Q : Mu → Prop) : Prop := match μ p, keyD y with
  | some (.dct ks ds), some k => ds.length < sizeLine ∧ Q (mset μ p (.dct (keysP ks k) (valsP ks ds k z)))
  | _, _ => False
theorem putDk_mono {p : Addr} {y z : D} {μ : Mu} {Q Q' : Mu → Prop} (h : ∀ μ, Q μ → Q' μ) (q : putDk p y z μ Q) : putDk p y z μ Q' := by
  unfold putDk at q ⊢
  split at q
  · exact ⟨q.1, h _ q.2⟩
  · exact q.elim
def dcD (g : GD) (tt : TD) (tk tv : ED) (ρ0 : Rho) (p : Addr) (Q : Mu → Prop) : List D → Mu → Prop
  | [] => Q
  | d :: ds => fun μ => g d ρ0 μ fun ρ' μ' => tt ρ' μ' fun b μ2 => if b = true then tk ρ' μ2 fun y μ3 => tv ρ' μ3 fun z μ4 => putDk p y z μ4 (dcD g tt tk tv ρ0 p Q ds) else dcD g tt tk tv ρ0 p Q ds μ2
theorem dc_mono {g : GD} {tt : TD} {tk tv : ED} {ρ0 : Rho} {p : Addr} (hg : MonoG g) (ht : MonoT tt) (hk : Mono tk) (he : Mono tv) {Q Q' : Mu → Prop} (h : ∀ μ, Q μ → Q' μ) : ∀ ds μ, dcD g tt tk tv ρ0 p Q ds μ → dcD g tt tk tv ρ0 p Q' ds μ
  | [], μ, q => h _ q
  | d :: ds, μ, q => hg _ _ _ _ _ (fun ρ' μ' z => ht _ _ _ _ (fun b μ2 z2 => by
      cases b with
      | true => exact iteT (hk _ _ _ _ (fun y μ3 z3 => he _ _ _ _ (fun y μ4 z4 => putDk_mono (dc_mono hg ht hk he h ds) z4) z3) z2)
      | false => exact iteF (dc_mono hg ht hk he h ds μ2 z2)) z) q
def dDc (it : ITD) (g : GD) (tt : TD) (tk tv : ED) (vs : List Nat) : ED := fun ρ μ Q => it ρ μ fun ds μ1 => ∀ p, μ1 p = none → dcD g tt tk tv (wipeD ρ vs) p (Q (.ob p)) ds (mset μ1 p (.dct [] []))
section
variable {X : Cx} {pos : Pos}
theorem dc_up {K : PySem.W.Frag} {it : ITD} {g : GD} {tt : TD} {tk tv : ED} {ws : List Nat} (hi : MonoI it) (hg : MonoG g) (ht : MonoT tt) (hk : Mono tk) (he : Mono tv) : ∀ σ H Q, up K (dDc it g tt tk tv ws) σ H Q → tDc (upI K it) (upG K g ws) (upT K tt) (up K tk) (up K tv) ws σ H Q := fun σ H Q ⟨ρ, μ, R, q⟩ => by
  refine ⟨ρ, μ, R, hi ρ μ _ _ (fun ds μ1 q1 J H1 s1 m1 w p hp => ?_) q⟩
  have R1 := R.step s1 m1
  have hm1 := m1.free hp
  have start : Stp H1 μ1 (upd H1 p (.dK [])) (mset μ1 p (.dct [] [])) := put_stp (.inl hp) _ _
  have m0 : RM K (upd H1 p (.dK [])) (mset μ1 p (.dct [] [])) := m1.putD (ks := []) (vs := []) (.inl hp) rfl .nil
  refine ⟨fun i m H' => m = ds.length - i ∧ i ≤ ds.length ∧ ∃ μ', Stp H1 μ1 H' μ' ∧ RM K H' μ' ∧ dcD g tt tk tv (wipeD ρ ws) p (lift K H μ Q (.ob p)) (ds.drop i) μ', ⟨_, rfl, Nat.zero_le _, _, start, m0, by simpa using q1 p hm1⟩, ?_⟩
  rintro i m H' ⟨rfl, hi0, μ', s, m', q'⟩
  by_cases hi' : i < ds.length
  · refine .inr ⟨w.goes i H' hi' (s.trans cut_sub), fun H2 => ∃ μ', Stp H1 μ1 H2 μ' ∧ RM K H2 μ' ∧ dcD g tt tk tv (wipeD ρ ws) p (lift K H μ Q (.ob p)) (ds.drop (i + 1)) μ', fun H2 z => ⟨ds.length - (i + 1), by omega, rfl, hi', z⟩, fun x H2 y0 => ?_⟩
    obtain ⟨d, hd, y⟩ := w.yields i H' x H2 hi' (s.trans cut_sub) y0
    obtain ⟨y1, y2, y3⟩ := y μ' m' s
    have e : ds.drop i = d :: ds.drop (i + 1) := by
      rw [List.drop_eq_getElem_cons hi']
      rw [List.getElem?_eq_getElem hi'] at hd
      rw [Option.some.inj hd]
    rw [e] at q'
    have sH2 : Stp H1 μ1 H2 μ' := s.trans y1
    have Rw : RS K H2 (wipe σ ws) (wipeD ρ ws) μ' := (wipe_RS R1 ws).step sH2 y2
    refine ⟨d, _, μ', Rw, y3, hg _ _ _ _ _ (fun ρ3 μ3 z σ3 H3 s3 R3 hw => ⟨hw.trans (wipe_idem σ ws), ?_⟩) q'⟩
    refine ⟨ρ3, μ3, R3, ht _ _ _ _ (fun b μ4 z4 H4 s4 m4 => ?_) z⟩
    have st4 : Stp H1 μ1 H4 μ4 := (sH2.trans s3).trans s4
    cases b with
    | false => exact iteF ⟨μ4, st4, m4, z4⟩
    | true =>
      refine iteT ⟨ρ3, μ4, R3.step s4 m4, hk _ _ _ _ (fun ky μ5 z5 kv H5 s5 m5 r5 => ?_) z4⟩
      have R5 := (R3.step s4 m4).step s5 m5
      refine ⟨ρ3, μ5, R5, he _ _ _ _ (fun zd μ6 z6 zv H6 s6 m6 r6 => ?_) z5⟩
      unfold putDk at z6
      split at z6
      · rename_i ks ds6 k e6 ek
        obtain ⟨vs, h6, l6, rv⟩ := m6 _ _ e6
        have so : (μ6 p).isSome = true := by rw [e6]; rfl
        refine ⟨ks.zip vs, k, key_of r5 ek, h6, by rw [List.length_zip, l6, rv.length, Nat.min_self]; exact z6.1, _, ((st4.trans s5).trans s6).trans (put_stp (.inr so) _ _), ?_, z6.2⟩
        rw [putK_zip l6]
        exact m6.putD (.inr so) (len_put l6) (reps_put r6 rv)
      · exact z6.elim
  · have e : i = ds.length := by omega
    subst e
    refine .inl ⟨w.stops H' (s.trans cut_sub), ?_⟩
    rw [List.drop_length] at q'
    exact q' _ H' (s1.trans s) m' (.ob p)
theorem d_dc {kx vx tg iter : Expr} {ifs : List Expr} {scope : Scope} {own : List (Str × Nat)} {it : ITD} {g : GD} {tt : TD} {tk tv : ED} (hc : X.calm = true) (hN : X.N.Nodup) (hi : PID X tg iter it) (ok : BlkOk X.N X.env.scope scope own)
    (hg : ∀ (s : Shared) (H : Hp) (C : Addr) (cl : List (Str × Addr)) (fp : List Addr), PGD (X.blk s H scope (compEnvC scope cl C X.env) fp) tg g (own.map (·.2))) (ht : ∀ (s : Shared) (H : Hp) (C : Addr) (cl : List (Str × Addr)) (fp : List Addr), PTsD (X.blk s H scope (compEnvC scope cl C X.env) fp) ifs tt)
    (hk : ∀ (s : Shared) (H : Hp) (C : Addr) (cl : List (Str × Addr)) (fp : List Addr), PD (X.blk s H scope (compEnvC scope cl C X.env) fp) kx tk)
    (he : ∀ (s : Shared) (H : Hp) (C : Addr) (cl : List (Str × Addr)) (fp : List Addr), PD (X.blk s H scope (compEnvC scope cl C X.env) fp) vx tv) (hs : ∀ x, foldedSetIterable iter X.env x = pure x := by intro _; rfl) :
    PD X (.DictComp kx vx [⟨tg, iter, ifs, 0⟩] scope pos) (dDc it g tt tk tv (own.map (·.2))) := by
  have mg := (hg X.s_0 X.H_0 0 [] []).mono
  have mt := (ht X.s_0 X.H_0 0 [] []).mono
  have mk := (hk X.s_0 X.H_0 0 [] []).mono
  have me := (he X.s_0 X.H_0 0 [] []).mono
  refine ⟨PE.imp (pe_dc (wi := upI X.K it) (g := upG X.K g (own.map (·.2))) (tt := upT X.K tt) (tk := up X.K tk) (tv := up X.K tv) hc hN hi.pi ok (fun s H C cl fp => (hg s H C cl fp).pg) (fun s H C cl fp => (ht s H C cl fp).pt) (fun s H C cl fp => (hk s H C cl fp).pe) (fun s H C cl fp => (he s H C cl fp).pe) hs) (dc_up hi.mono mg mt mk me), ?_⟩
  exact fun ρ μ Q Q' h q => hi.mono _ _ _ _ (fun ds μ1 z p hp => dc_mono mg mt mk me (fun μ => h _ μ) ds _ (z p hp)) q
end
end DL

set_option Elab.async false
set_option linter.all false
set_option maxRecDepth 100000
set_option maxHeartbeats 2000000
namespace DL
open PySem PySem.Spec PyProof.Rows L2 NdefX LamX

/-! ### what captured cells hold, from frame to frame -/
/-- closures that are under way: their cells, the names, what these hold -/
abbrev Ce := List (List (Str × Addr) × List Str × List V)
def CeAt (ce : Ce) (outer : List Env) (h : Heap) (H : Hp) : Prop := ∀ p ∈ ce, CellsAt p.1 p.2.1 (p.2.2.map some) h H ∧ ∀ y c, p.1.lookup y = some c → c ∉ frs outer
structure CeX (X : Cx) (ce : Ce) : Prop where
  at0 : CeAt ce X.outer X.s_0.heap X.H_0
  ex : X.ex = []
theorem CeAt.app {ce ce' : Ce} {outer : List Env} {h : Heap} {H : Hp} (a : CeAt ce outer h H) (b : CeAt ce' outer h H) : CeAt (ce ++ ce') outer h H := fun p hp => (List.mem_append.mp hp).elim (a p) (b p)
section
variable {X : Cx} {pins : List (Addr × Obj)} {σ : L2.St} {H : Hp} {s : Shared} {ce : Ce}
theorem CeX.now (c : CeX X ce) (I : Inv X pins σ H s) : CeAt ce X.stack s.heap H := fun p hp => by
  obtain ⟨C, nf⟩ := c.at0 p hp
  refine ⟨C.later nf (fun y a _ z => by rw [c.ex] at z; cases z) I, fun y a e z => ?_⟩
  rcases List.mem_cons.mp (I.stkSub a z) with q | q
  · obtain ⟨_, v, o, ho, _⟩ := C.all y a e
    exact absurd (Nat.lt_of_lt_of_le (Heap.lt_size ho) I.ok.above) (by rw [q]; exact Nat.lt_irrefl _)
  · exact nf y a e q
/-- the cells of the running def itself -/
theorem ce_own {cl : List (Str × Addr)} {fr : List Str} {js : List Nat} {vs : List V} (I : Inv X pins σ H s) (cp : Caps X cl fr js) (hfn : X.fn = fun _ => true) (hs : js.map (slotAt σ) = vs.map some) : CeAt [(cl, fr, vs)] X.stack s.heap H := fun p hp => by
  have e : p = (cl, fr, vs) := by simpa using hp
  subst e
  refine ⟨by rw [← hs]; exact cells_of I cp, fun y c e z => ?_⟩
  have e' := cp.sub y c e
  rcases List.mem_cons.mp (I.stkSub c z) with q | q
  · exact I.cne y c e' q
  · obtain ⟨_, o, ho, _⟩ := I.ok.funs.mem q
    have h1 := I.ok.cab y c (by rw [hfn]) e'
    exact Nat.lt_irrefl _ (Nat.lt_of_lt_of_le (Heap.lt_size ho) h1)
end

/-! ### functions as data -/
/-- a call of the datum d (a function with what it captured) by its promise sp, while the closures ce are under way -/
def CloK (P : Program) (w : World) (K : PySem.W.Frag) (mg : Str → Option Value) (base : Heap) (k : Nat) (f : Addr) (facts : Hp → Prop) (ce : Ce) (sp : RLD) : Prop :=
  ∀ (A : Around) (outer : List Env) (s : Shared) (H : Hp) (μ : Mu) (us : List Value) (vs : List V) (ds : List D) (Q : VK), Room k A → Env0 P w K mg base A outer s H → RM K H μ → facts (cut H μ) → CeAt ce outer s.heap H →
    Vals vs us → Reps K (cut H μ) vs ds → sp ds μ (lift K H μ Q) → codeAny (model P w) A (.call (.ref f) ⟨us, []⟩) (CR CX0 outer P w H s Q E0) s
/-- what must stand for a function with what it captured -/
def clFacts (K : PySem.W.Frag) (os : List (Addr × HO)) (vs : List V) (caps : List D) : Hp → Prop := fun G => (∀ p ∈ os, G p.1 = some p.2) ∧ Reps K G vs caps
def osOf (f : Addr) (F : NF) : List (Addr × HO) := [(f, FnO f F), (F.c, CodeO F.c F.qual)]
def startF' (N : List Str) (ds caps : List D) : Rho := ds.map some ++ (caps.map some ++ List.replicate (N.length - ds.length - caps.length) none)
theorem startF_RS {K : PySem.W.Frag} {H : Hp} {μ : Mu} {N : List Str} {vs ws : List V} {ds caps : List D} (m : RM K H μ) (r : Reps K (cut H μ) vs ds) (r' : Reps K (cut H μ) ws caps) : RS K H (startF N vs (ws.map some)) (startF' N ds caps) μ := by
  have e1 : startF N vs (ws.map some) = (vs ++ ws).map some ++ List.replicate (N.length - vs.length - ws.length) none := by
    unfold startF
    rw [List.map_append, List.append_assoc, List.length_map]
  have e2 : startF' N ds caps = (ds ++ caps).map some ++ List.replicate (N.length - ds.length - caps.length) none := by
    unfold startF'
    rw [List.map_append, List.append_assoc]
  refine ⟨?_, fun i d e => ?_, m⟩
  · rw [e1, e2]
    simp [r.length, r'.length]
  · rw [e2] at e
    rw [e1, r.length, r'.length]
    exact start_slot _ (r.append r') i d e
section
variable {P : Program} {w : World} {K : PySem.W.Frag} {mg : Str → Option Value} {base : Heap} {N ps fr : List Str} {F : NF} {f : Addr} {k : Nat} {sp : RLD} {ce : Ce} {caps : List D} {cvs : List V}
/-- a def made in a def, by its body -/
theorem cloK_of (S : NScope N ps fr F.scope) (hb : ∀ (doc pm ctv : Value) (us : List Value), us.length = ps.length → bindArgs (F.fd doc pm ctv) ⟨us, []⟩ = pure (ps.zip us)) (len : ∀ ds μ Q, sp ds μ Q → ds.length = ps.length) (hce : (F.cl, fr, cvs) ∈ ce)
    (hbody : ∀ (A : Around) (outer : List Env) (s : Shared) (H : Hp), Room k (A.deeper (envF F f s.heap.objs.size)) → CeX (ncx CX0 P w K mg base N F f A outer s H E0).nox ce →
      ∃ t, PSsD (ncx CX0 P w K mg base N F f A outer s H E0).nox F.body t ∧ ∀ ds μ Q, sp ds μ Q → t (endsOf Q) (startF' N ds caps) μ) : CloK P w K mg base (k + 1) f (clFacts K (osOf f F) cvs caps) ce sp := by
  intro A outer s H μ us vs ds Q room e0 m facts cells rv rd q
  obtain ⟨hos, hcaps⟩ := facts
  have hf : cut H μ f = some (FnO f F) := hos (f, FnO f F) (by simp [osOf])
  have hc : cut H μ F.c = some (CodeO F.c F.qual) := hos (F.c, CodeO F.c F.qual) (by simp [osOf])
  have lim : s.heap.NoLimit := e0.mod.nolimit.keeps fun b o e => (e0.bs b o e).1
  have lds := len ds μ _ q
  have lvs : vs.length = ps.length := rd.length.trans lds
  obtain ⟨od, sl, doc, pm, ctv, ob⟩ := fnO_at e0.hok (cut_sub _ _ hf)
  refine codeAny_call_function room.depth ob rfl S.co S.gen rfl (codeO_at e0.hok (cut_sub _ _ hc)) ?_
  rw [hb doc pm ctv us (rv.length.symm.trans lvs)]
  refine wpAny_pure (wpAny_newFunctionEnv S.nocell (fun ⟨n, _⟩ hy => S.par n (List.of_mem_zip hy).1) (fun g1 hns sb => ⟨lim.fresh _ sb, codeAny_func ?_⟩) S.kind)
  have old : ∀ b o, s.heap.get? b = some o → g1.get? b = some o := fun b o e => sb.extBut b o (Nat.ne_of_lt (Heap.lt_size e)) (Heap.get?_push_of_some _ e)
  obtain ⟨t, ht, hq⟩ := hbody A outer s H (room.deeper _) ⟨cells, rfl⟩
  have J : Inv (ncx CX0 P w K mg base N F f A outer s H E0) [] (startF N vs (cvs.map some)) H { s with heap := g1, toks := s.toks + (ps.zip us).length } := inv_startN S room.hd e0 lvs rv (cells _ hce).1 hns old
  have start := startF_RS (N := N) m rd hcaps
  have go := ht.mono _ (liftS K H μ { nx := fun _ H' => Q .non H', rt := Q }) _ _ ⟨fun ρ' μ' z σ' H' s' R' => by
      obtain ⟨μ2, sub, z⟩ := z
      exact z _ H' (s'.trans sub.cut) (R'.mem.sub sub) .non, fun d μ' z v H' s' m' r' => by
      obtain ⟨μ2, sub, z⟩ := z
      exact z v H' (s'.trans sub.cut) (m'.sub sub) (r'.mono sub.cut), fun _ _ (z : False) => z.elim, fun _ _ (z : False) => z.elim⟩ (hq ds μ _ q)
  refine wpAny_mono (ht.ps.nox.run [] _ _ H _ J ⟨_, μ, start, go⟩) (fun fl s' hs => ?_) fun e s' hs => hs
  cases fl with
  | ret u =>
    obtain ⟨v, σ', H', J', r', q'⟩ := hs
    exact ⟨v, H', J'.os, J'.bare, J'.base, J'.hok, r', q'⟩
  | next =>
    obtain ⟨σ', H', J', q'⟩ := hs
    exact ⟨.non, H', J'.os, J'.bare, J'.base, J'.hok, rfl, q'⟩
  | brk =>
    obtain ⟨_, _, _, z⟩ := hs
    exact False.elim z
  | cont =>
    obtain ⟨_, _, _, z⟩ := hs
    exact False.elim z
end

/-! ### defs that take functions -/
structure FnC (P : Program) (w : World) (K : PySem.W.Frag) (mg : Str → Option Value) (base : Heap) (k : Nat) (f : Addr) (fd : FuncData) (ps : List Str) (sp : Ce → RLD) : Prop where
  run : ∀ (ce : Ce) (A : Around) (outer : List Env) (s : Shared) (H : Hp) (μ : Mu) (us : List Value) (vs : List V) (ds : List D) (Q : VK), Room k A → Env0 P w K mg base A outer s H → RM K H μ → CeAt ce outer s.heap H → BindsTo s fd ⟨us, []⟩ (ps.zip us) →
    Vals vs us → Reps K (cut H μ) vs ds → sp ce ds μ (lift K H μ Q) → codeAny (model P w) A (.call (.ref f) ⟨us, []⟩) (CR CX0 outer P w H s Q E0) s
  len : ∀ ce ds μ Q, sp ce ds μ Q → ds.length = ps.length
section
variable {P : Program} {w : World} {K : PySem.W.Frag} {mg : Str → Option Value} {base : Heap}
theorem fnC_of {x qual : Str} {st : Stmt} {f : Addr} {fd : FuncData} {N ps : List Str} {k : Nat} {sp : Ce → RLD} (F : L2.Fun K x qual st f fd) (S : FnScope N ps (defScope st)) (len : ∀ ce ds μ Q, sp ce ds μ Q → ds.length = ps.length)
    (hbody : ∀ (ce : Ce) (cdv : Value) (A : Around) (outer : List Env) (s : Shared) (H : Hp), Room k (A.deeper (envOfC qual (defScope st) s.heap.objs.size f cdv)) → CeX (cxOf CX0 P w K mg base N qual (defScope st) f cdv A outer s H E0).nox ce →
      ∃ t, PSsD (cxOf CX0 P w K mg base N qual (defScope st) f cdv A outer s H E0).nox (defBody st) t ∧ ∀ ds μ Q, sp ce ds μ Q → t (endsOf Q) (startD N ds) μ) : FnC P w K mg base (k + 1) f fd ps sp := by
  obtain ⟨oc, od, kV, doc, pm, an, cdv, ct, osl, rfl, lk, hcd⟩ := F.ex
  refine ⟨fun ce A outer s H μ us vs ds Q room e0 m cells hb rv rd q => ?_, len⟩
  refine run_ofS (CX := CX0) (E := E0) lk hcd S room e0 hb rv (rd.length.trans (len ce ds μ _ q)) fun room' => ?_
  obtain ⟨t, ht, hq⟩ := hbody ce cdv A outer s H room' ⟨cells, rfl⟩
  refine ⟨upS K t, ht.ps.nox, startD N ds, μ, start_RS m rd, ht.mono _ _ _ _ ⟨fun ρ' μ' z σ' H' s' R' => ?_, fun d μ' z v H' s' m' r' => ?_, fun _ _ (z : False) => z.elim, fun _ _ (z : False) => z.elim⟩ (hq ds μ _ q)⟩
  · obtain ⟨μ2, sub, z⟩ := z
    exact z _ H' (s'.trans sub.cut) (R'.mem.sub sub) .non
  · obtain ⟨μ2, sub, z⟩ := z
    exact z v H' (s'.trans sub.cut) (m'.sub sub) (r'.mono sub.cut)
end
section
variable {X : Cx} {k : Nat} {f : Addr} {fd : FuncData} {ps : List Str} {sp : Ce → RLD} {x : Str} {p pos : Pos} {e : Expr} {es : List Expr} {t : AD}
/-- f(..), f a def that takes functions: cs tells what the running frame's slots let stand of the closures -/
theorem d_callC {cs : Rho → (List V → Ce) → Prop} {rr : RLD} (F : FnC X.prog X.w X.K X.mg X.base k f fd ps sp) (hr : Room k X.A) (hm : X.mg x = some (.ref f)) (hk : PySem.W.keepIn X.K (.ref f) = true) (hb : Binds X.K fd ps []) (ha : PAD X (e :: es) t)
    {tt : ED} (htm : Mono tt)
    (hce : ∀ (pins : List (Addr × Obj)) (σ : L2.St) (H : Hp) (s : Shared) (ρ : Rho) (μ : Mu) (Q : VK), Inv X pins σ H s → RS X.K H σ ρ μ → tt ρ μ (lift X.K H μ Q) → t ρ μ fun ds μ1 => ∀ vs H1 s1, Stp H μ H1 μ1 → RM X.K H1 μ1 → Reps X.K (cut H1 μ1) vs ds → Inv X pins σ H1 s1 → ∃ ce, CeAt ce X.stack s1.heap H1 ∧ sp ce ds μ1 (lift X.K H μ Q))
    (mono : ∀ ce, MonoL (sp ce)) (hg : Gl X x := by rfl)
    (hdb : (x == ("__debug__" : Str)) = false := by decide) (he : starEach (e :: es) X.env = (false, eval e X.env) :: starEach es X.env := by rfl) (hpl : (backTo pos (starEach es X.env)).any (·.1) = false := by rfl) : PD X (.Call (.Name x p) (e :: es) [] pos) tt := by
  refine ⟨⟨fun pins s σ H Q I ⟨ρ, μ, R, q⟩ => ?_⟩, htm⟩
  have q0 := hce pins σ H s ρ μ Q I R q
  refine wpAny_Call_Name_kw (ld_glob I hg hm ?_ hdb)
  have q1 : upA X.K t σ H fun vs H1 => ∃ ds μ1, Stp H μ H1 μ1 ∧ RM X.K H1 μ1 ∧ Reps X.K (cut H1 μ1) vs ds ∧ ∀ s1, Inv X pins σ H1 s1 → ∃ ce, CeAt ce X.stack s1.heap H1 ∧ sp ce ds μ1 (lift X.K H μ Q) :=
    upA_bind R ha.mono q0 fun ds μ1 vs H1 z s1 R1 r1 => ⟨ds, μ1, s1, R1.mem, r1, fun s2 J => z vs H1 s2 s1 R1.mem r1 J⟩
  refine PySem.W.callWith_K (h₀ := X.base) I.ok.mod.kin hk (thn (ha.pa.run pos pins s σ H _ I q1) fun us s1 ⟨vs, H1, I1, rv, ds, μ1, st, m1, rd, z⟩ => ⟨I1.kIn, ?_⟩) he hpl
  obtain ⟨ce, cells, z⟩ := z s1 I1
  have hl : (us ++ []).length = ps.length := by rw [List.append_nil, ← rv.length, rd.length]; exact F.len ce ds μ1 _ z
  have hbb := hb s1 us I1.kIn hl
  rw [List.append_nil] at hbb
  refine wpAny_call (codeAny_mono (F.run ce X.A X.stack s1 H1 μ1 us vs ds Q hr I1.env0 m1 cells hbb rv rd (mono ce _ _ _ _ (fun d μ' y => lift_stp st y) z)) fun r s' hq => ?_)
  cases r with
  | error e => exact False.elim hq
  | ok fl =>
    cases fl with
    | ret u => exact I1.after hq
    | _ => exact False.elim hq
end
end DL

set_option Elab.async false
set_option linter.all false
set_option maxRecDepth 100000
set_option maxHeartbeats 2000000
namespace DL
open PySem PySem.Spec PyProof.Rows L2 NdefX LamX

/-! ### a def made in a def -/
theorem tab_of {K : PySem.W.Frag} {H : Hp} {μ : Mu} {P : Addr} {nm : Nat → Nat → Str} (m : RM K H μ) (e : μ P = some (.tab nm)) :
    ∃ ps : Array Value, H P = some (.tbl ps) ∧ TriplesOk ps.toList ∧ ∀ (pos : Pos) (cv : Value), codeAmong pos ps.toList = some cv → ∃ c, cv = .ref c ∧ cut H μ c = some (CodeO c (nm pos.line pos.col)) := m P _ e
/-- a fresh place is laid with a word, the table at P grown by it -/
theorem grow_tab {K : PySem.W.Frag} {H : Hp} {μ : Mu} {P c : Addr} {nm : Nat → Nat → Str} {ps : Array Value} {pos : Pos} (m : RM K H μ) (e : μ P = some (.tab nm)) (hP : H P = some (.tbl ps)) (ht : TriplesOk ps.toList)
    (ha : ∀ (pos : Pos) (cv : Value), codeAmong pos ps.toList = some cv → ∃ c, cv = .ref c ∧ cut H μ c = some (CodeO c (nm pos.line pos.col))) (hc : H c = none) {H1 : Hp}
    (hH : H1 = upd (upd H P (.tbl (ps ++ #[rawInt pos.line, rawInt pos.col, .ref c]))) c (CodeO c (nm pos.line pos.col))) : Stp H μ H1 μ ∧ RM K H1 μ ∧ cut H1 μ c = some (CodeO c (nm pos.line pos.col)) := by
  subst hH
  have hm := m.free hc
  have so : (μ P).isSome = true := by rw [e]; rfl
  have neP : ∀ b o, cut H μ b = some o → b ≠ P := fun b o q z => by
    subst z
    unfold cut at q
    rw [if_pos so] at q
    cases q
  have st : Stp H μ (upd (upd H P (.tbl (ps ++ #[rawInt pos.line, rawInt pos.col, .ref c]))) c (CodeO c (nm pos.line pos.col))) μ := fun b o q => by
    have n1 := neP b o q
    have n2 : b ≠ c := ne_of_none (cut_sub b o q) hc
    unfold cut at q ⊢
    split at q
    · cases q
    · rename_i h
      rw [if_neg h, upd_ne n2, upd_ne n1]
      exact q
  have code : cut (upd (upd H P (.tbl (ps ++ #[rawInt pos.line, rawInt pos.col, .ref c]))) c (CodeO c (nm pos.line pos.col))) μ c = some (CodeO c (nm pos.line pos.col)) := cut_lay hm _
  refine ⟨st, fun a u q => ?_, code⟩
  have nc : a ≠ c := fun z => by
    rw [z, hm] at q
    cases q
  by_cases hb : a = P
  · rw [hb, e] at q
    cases q
    rw [hb]
    refine ⟨_, by rw [upd_ne (ne_of_none hP hc)]; exact upd_same, by rw [show (ps ++ #[rawInt pos.line, rawInt pos.col, .ref c]).toList = ps.toList ++ [rawInt pos.line, rawInt pos.col, .ref c] by simp]; exact PySem.TriplesOk_snoc _ _ _ _ ht, fun p' cv hcv => ?_⟩
    rw [show (ps ++ #[rawInt pos.line, rawInt pos.col, .ref c]).toList = ps.toList ++ [rawInt pos.line, rawInt pos.col, .ref c] by simp] at hcv
    rcases among_app2 _ ht hcv with z | ⟨z, z1, z2⟩
    · obtain ⟨c0, e1, e2⟩ := ha p' cv z
      exact ⟨c0, e1, st _ _ e2⟩
    · exact ⟨c, z, by rw [← z1, ← z2]; exact code⟩
  · exact (m a u q).mono st (by rw [upd_ne nc, upd_ne hb])
section
variable {X : Cx} {pins : List (Addr × Obj)} {σ : L2.St} {H : Hp} {s : Shared}
theorem mk_def {μ : Mu} {nm : Nat → Nat → Str} {c P : Addr} {name : Str} {params : Arguments} {body : List Stmt} {scope : Scope} {pos : Pos} {E : Value → Shared → Prop} {Q : Value → Shared → Prop} (I : Inv X pins σ H s) (m : RM X.K H μ) (tab : μ P = some (.tab nm)) (TB : TabB X.base X.mg c P) (hcode : X.env.code = .ref c)
    (hn : nm pos.line pos.col = X.env.qual ++ name) (hfree : ∀ y ∈ scope.names, y.2 = .free → ∃ c, X.env.cells.lookup y.1 = some c)
    (h : ∀ (f c' : Addr) (H1 : Hp) (s' : Shared), Inv X pins σ H1 s' → Stp H μ H1 μ → RM X.K H1 μ → cut H1 μ f = some (FnO f ⟨name, X.env.qual ++ name, params, body, scope, cloFrom X.env.cells scope.names [], c'⟩) → cut H1 μ c' = some (CodeO c' (X.env.qual ++ name)) → Q (.ref f) s') :
    wpAny (model X.prog X.w) X.A (makeFunction name (X.env.qual ++ name) params (.stmts body) scope X.env [] [] [] pos pos.line) Q E s := by
  obtain ⟨ps, hP, ht, ha⟩ := tab_of m tab
  have bP : s.heap.BuiltinsAt X.mg P := TB.bm.keeps I.bk
  have oP : s.heap.get? P = some { cls := .none, data := .fields ps } := I.hok P _ hP
  -- the function object itself, behind a heap H1 in which its code is known
  have finish : ∀ (c' : Addr) (H1 : Hp) (g : Heap) (tk : Nat) (o : Obj) (doc pm ctv : Value), Inv X pins σ H1 { s with heap := g, toks := tk } → Stp H μ H1 μ → RM X.K H1 μ → cut H1 μ c' = some (CodeO c' (X.env.qual ++ name)) →
      o = { cls := .type "function", data := .func ((⟨name, X.env.qual ++ name, params, body, scope, cloFrom X.env.cells scope.names [], c'⟩ : NF).fd doc pm ctv) } → Q (.ref g.objs.size) { s with heap := g.push o, toks := tk } := fun c' H1 g tk o doc pm ctv J st m1 kc ho => by
    have nf : H1 g.objs.size = none := J.hok.fresh (Nat.le_refl _)
    have J2 := inv_fn (t' := tk) (doc := doc) (pm := pm) (ctv := ctv) J ho
    have st2 := lay_stp nf (m1.free nf) (FnO g.objs.size ⟨name, X.env.qual ++ name, params, body, scope, cloFrom X.env.cells scope.names [], c'⟩)
    exact h g.objs.size c' _ _ J2 (st.trans st2) (m1.lay nf _) (cut_lay (m1.free nf) _) (st2 _ _ kc)
  cases hc : codeAmong pos ps.toList with
  | none =>
    refine PySem.W.makeFunction_K (mg := X.mg) (c := c) (P := P) (ps := ps) (closure_ok hfree) I.ok.glob (I.mod.glob.keeps I.bk) hcode (TB.code.keeps I.bk) oP ht hc TB.gP bP fun c' ctv doc g tk hx hge hlt hrec htb => ?_
    obtain ⟨c2, oc, us, t, e2, hoc, hd, hv⟩ := hrec
    cases e2
    obtain ⟨st, m1, kc⟩ := grow_tab (pos := pos) m tab hP ht ha (I.hok.fresh hge) rfl
    rw [hn] at kc m1 st
    have J := inv_table (q := X.env.qual ++ name) (t' := tk) (more := #[rawInt pos.line, rawInt pos.col, .ref c']) (h' := g) I hP (fun b o hb e => hx b o hb e) htb hge ⟨oc, us, t, hoc, hd, hv⟩
    exact finish c' _ g tk _ doc _ ctv J st m1 kc rfl
  | some cv =>
    obtain ⟨c', e, hco⟩ := ha pos cv hc
    subst e
    rw [hn] at hco
    refine PySem.W.makeFunction_hit (mg := X.mg) (c := c) (P := P) (ps := ps) (closure_ok hfree) I.ok.glob (I.mod.glob.keeps I.bk) hcode (TB.code.keeps I.bk) oP ht hc bP fun ctv doc g tk hx hsz => ?_
    exact finish c' H g tk _ doc _ ctv (I.kept hx) (Same.refl _) m hco rfl
end
def dNdef (P : Addr) (nm : Nat → Nat → Str) (i : Nat) (mk : Addr → NF) : SD := fun E ρ μ => μ P = some (.tab nm) ∧ ∀ f c', E.nx (ρ.set i (some (.fn f (osOf f (mk c')) [] []))) μ
section
variable {X : Cx}
theorem d_ndef {nm : Nat → Nat → Str} {c P : Addr} {st : Stmt} {name : Str} {pos : Pos} (i : Nat) (hst : st = .FunctionDef name (C8.fnArgs st) (C8.fnBody st) [] none [] (C8.fnScope st) none name pos) (TB : TabB X.base X.mg c P) (hcode : X.env.code = .ref c) (hn : nm pos.line pos.col = X.env.qual ++ name)
    (hfree : ∀ y ∈ (C8.fnScope st).names, y.2 = .free → X.env.scope.names.lookup y.1 = some .cell ∨ X.env.scope.names.lookup y.1 = some .free) (hd0 : (C8.fnArgs st).defaults = []) (hk0 : (C8.fnArgs st).kw_defaults = []) (ha : annTrees (C8.fnArgs st) none X.env = [])
    (hN : X.N.Nodup) (hi : X.N[i]? = some name) (hx : Loc X.env.scope name) (hf : X.fn name = true ∨ X.env.scope.names.lookup name = some .local) :
    PSD X st (dNdef P nm i fun c' => NF.of st name (X.env.qual ++ name) (cloFrom X.env.cells (C8.fnScope st).names []) c') := by
  refine ⟨⟨fun pins s σ H D I ⟨ρ, μ, R, tab, q⟩ => ?_⟩, fun E E' ρ μ l q => ⟨q.1, fun f c' => l.nx _ _ (q.2 f c')⟩⟩
  have hq : qualnameIn X.env name name = X.env.qual ++ name := by
    have hk : X.env.kindOf name = some .local ∨ X.env.kindOf name = some .cell := hx
    unfold qualnameIn
    rcases hk with k | k <;> rw [k] <;> first | rfl | exact if_neg (by decide)
  have hfr : ∀ y ∈ (C8.fnScope st).names, y.2 = .free → ∃ c, X.env.cells.lookup y.1 = some c := fun y hy e => (hfree y hy e).elim (fun z => I.ok.has _ (.inl z)) fun z => I.ok.has _ (.inr z)
  rw [hst]
  refine PySem.W.nestDef_K hd0 hk0 ha ?_
  rw [hq]
  refine mk_def I R.mem tab TB hcode hn hfr fun f c' H1 s' J sp m1 kf kc => ?_
  refine store_ok J hN hi hx (v := .ref f) rfl (fun s2 J2 => ⟨_, H1, J2, q f c' _ H1 sp ((R.step sp m1).set i (.fn (fun p hp => ?_) .nil))⟩) hf
  have e : p = (f, FnO f (NF.of st name (X.env.qual ++ name) (cloFrom X.env.cells (C8.fnScope st).names []) c')) ∨ p = (c', CodeO c' (X.env.qual ++ name)) := by simpa [osOf, NF.of] using hp
  rcases e with rfl | rfl
  · exact kf
  · exact kc
end

/-! ### calls of functions that are data -/
def IsFnO (f : Addr) (os : List (Addr × HO)) : Prop := ∃ φ : Heap → Prop, (f, HO.ext φ) ∈ os ∧ ∀ h, φ h → PySem.W.FnAt f h
theorem isFnO_of (f : Addr) (F : NF) : IsFnO f (osOf f F) := ⟨_, List.mem_cons_self, fun h ⟨od, sl, doc, pm, ctv, e⟩ => ⟨_, od, _, sl, e⟩⟩
/-- x(..), x a name that holds a function with what it captured; ce: the closures under way in this frame -/
def dCallV (X : Cx) (ce : Ce) (i : Nat) (t : AD) : ED := fun ρ μ Q => match ρ[i]? with
  | some (some (.fn f os vs caps)) => IsFnO f os ∧ t ρ μ fun ds μ1 => ∃ k sp, CloK X.prog X.w X.K X.mg X.base k f (clFacts X.K os vs caps) ce sp ∧ Room k X.A ∧ MonoL sp ∧ sp ds μ1 Q
  | _ => False
theorem d_callV {X : Cx} {ce : Ce} (hce : CeX X ce) (i : Nat) {x : Str} {p pos : Pos} {e : Expr} {es : List Expr} {t : AD} (ha : PAD X (e :: es) t) (hN : X.N[i]? = some x := by rfl) (hv : Vis X.env.scope x := by first | exact Or.inl rfl | exact Or.inr (Or.inl rfl) | exact Or.inr (Or.inr rfl))
    (hd : (x == ("__debug__" : Str)) = false := by decide) (hcd : (x == ("__classdict__" : Str)) = false := by decide)
    (he : starEach (e :: es) X.env = (false, eval e X.env) :: starEach es X.env := by rfl) (hpl : (backTo pos (starEach es X.env)).any (·.1) = false := by rfl) : PD X (.Call (.Name x p) (e :: es) [] pos) (dCallV X ce i t) := by
  refine ⟨⟨fun pins s σ H Q I ⟨ρ, μ, R, q⟩ => ?_⟩, fun ρ μ Q Q' h q => ?_⟩
  · unfold dCallV at q
    split at q
    · rename_i f os cvs caps e0
      obtain ⟨⟨φ, hmem, hφ⟩, q⟩ := q
      obtain ⟨v0, hs0, r0⟩ := R.slot i _ e0
      cases r0 with
      | fn hos hcaps =>
        have q1 : upA X.K t σ H fun vs H1 => ∃ ds μ1, Stp H μ H1 μ1 ∧ RM X.K H1 μ1 ∧ Reps X.K (cut H1 μ1) vs ds ∧ ∃ k sp, CloK X.prog X.w X.K X.mg X.base k f (clFacts X.K os cvs caps) ce sp ∧ Room k X.A ∧ MonoL sp ∧ sp ds μ1 (lift X.K H μ Q) :=
          upA_bind R ha.mono q fun ds μ1 vs H1 z s1 R1 r1 => ⟨ds, μ1, s1, R1.mem, r1, z⟩
        have fnat : ∀ {H1 : Hp} {μ1 : Mu} {s1 : Shared}, Stp H μ H1 μ1 → Inv X pins σ H1 s1 → PySem.W.FnAt f s1.heap := fun {H1 μ1 s1} st J => hφ _ (J.hok f _ (cut_sub _ _ (st _ _ (hos (f, .ext φ) hmem)))).1
        refine wpAny_Call_Name_kw (thn ((pe_var (pos := p) hN hv hd hcd).run pins s σ H (fun v H1 => v = .ref f ∧ H1 = H) I ⟨.ref f, hs0, rfl, rfl⟩) fun u s1 ⟨v, H1, I1, r1, ev, eH⟩ => ?_)
        subst ev
        rw [eH] at I1
        cases (show u = Value.ref f from r1)
        refine PySem.W.callWith_F (first := []) (fnat (Same.refl _) I1) (thn (ha.pa.run pos pins s1 σ H _ I1 q1) fun us s2 ⟨vs, H2, I2, rv, ds, μ1, st, m2, rd, k, sp, cl, room, ms, z⟩ => ⟨fnat st I2, ?_⟩) he hpl
        show wpAny _ _ (call (.ref f) us) _ _ _
        refine wpAny_call (codeAny_mono (cl X.A X.stack s2 H2 μ1 us vs ds Q room I2.env0 m2 ⟨fun y hy => st _ _ (hos y hy), hcaps.mono st⟩ (hce.now I2) rv rd (ms _ _ _ _ (fun d μ' y => lift_stp st y) z)) fun r s' hq => ?_)
        cases r with
        | error e => exact False.elim hq
        | ok fl =>
          cases fl with
          | ret u => exact I2.after hq
          | _ => exact False.elim hq
    · exact q.elim
  · unfold dCallV at q ⊢
    split at q
    · exact ⟨q.1, ha.mono _ _ _ _ (fun ds μ1 ⟨k, sp, c1, c2, c3, z⟩ => ⟨k, sp, c1, c2, c3, c3 _ _ _ _ h z⟩) q.2⟩
    · exact q.elim
/-- the slots' data at js -/
def slotsD (ρ : Rho) (js : List Nat) : Option (List D) := js.mapM fun j => (ρ[j]?).join
theorem slots_of {K : PySem.W.Frag} {H : Hp} {σ : L2.St} {ρ : Rho} {μ : Mu} (R : RS K H σ ρ μ) : ∀ {js : List Nat} {caps : List D}, slotsD ρ js = some caps → ∃ vs, js.map (slotAt σ) = vs.map some ∧ Reps K (cut H μ) vs caps
  | [], _, e => by
    unfold slotsD at e
    simp at e
    subst e
    exact ⟨[], rfl, .nil⟩
  | j :: js, caps, e => by
    unfold slotsD at e
    rw [List.mapM_cons] at e
    cases ej : (ρ[j]?).join with
    | none => rw [ej] at e; cases e
    | some d =>
      rw [ej] at e
      cases er : js.mapM (fun j => (ρ[j]?).join) with
      | none => rw [er] at e; cases e
      | some ds =>
        rw [er] at e
        have e2 : d :: ds = caps := by simpa using e
        subst e2
        obtain ⟨vs, h1, h2⟩ := slots_of R (js := js) (caps := ds) er
        have ej2 : ρ[j]? = some (some d) := by
          cases e3 : ρ[j]? with
          | none => rw [e3] at ej; cases ej
          | some o => rw [e3] at ej; exact congrArg some ej
        obtain ⟨v, g1, g2⟩ := R.slot j d ej2
        exact ⟨v :: vs, by rw [List.map_cons, List.map_cons, h1, slotAt_of g1], .cons g2 h2⟩
/-- f(e, g), f a def that takes a function, g a def made in this one (slot i), which has captured the slots js of this one (names fr, cells cl); ce0: the closures under way -/
def dCallF (sp : Ce → RLD) (ce0 : Ce) (cl : List (Str × Addr)) (fr : List Str) (i : Nat) (js : List Nat) (t : ED) : ED := fun ρ μ Q => t ρ μ fun d μ1 => match ρ[i]? with
  | some (some (.fn f os _ _)) => match slotsD ρ js with
    | some caps => ∀ cvs : List V, sp ((cl, fr, cvs) :: ce0) [d, .fn f os cvs caps] μ1 Q
    | none => False
  | _ => False
theorem d_callF {X : Cx} {k : Nat} {f : Addr} {fd : FuncData} {ps : List Str} {sp : Ce → RLD} {x y : Str} {p q' pos : Pos} {e : Expr} {t : ED} {ce0 : Ce} {cl : List (Str × Addr)} {fr : List Str} {js : List Nat} (i : Nat) (F : FnC X.prog X.w X.K X.mg X.base k f fd ps sp) (mono : ∀ ce, MonoL (sp ce)) (hr : Room k X.A) (hm : X.mg x = some (.ref f)) (hk : PySem.W.keepIn X.K (.ref f) = true) (hb : Binds X.K fd ps [])
    (hce : CeX X ce0) (hfn : X.fn = fun _ => true) (cp : X.Ok → Caps X cl fr js) (ha : PD X e t) (hN : X.N[i]? = some y := by rfl) (hv : Vis X.env.scope y := by first | exact Or.inl rfl | exact Or.inr (Or.inl rfl) | exact Or.inr (Or.inr rfl)) (hg : Gl X x := by rfl)
    (hdb : (x == ("__debug__" : Str)) = false := by decide) (hdb2 : (y == ("__debug__" : Str)) = false := by decide) (hcd : (y == ("__classdict__" : Str)) = false := by decide)
    (he : starEach [e, .Name y q'] X.env = (false, eval e X.env) :: starEach [.Name y q'] X.env := by rfl) (he2 : starEach [.Name y q'] X.env = (false, eval (.Name y q') X.env) :: starEach [] X.env := by rfl) (hpl : (backTo pos (starEach [.Name y q'] X.env)).any (·.1) = false := by rfl) :
    PD X (.Call (.Name x p) [e, .Name y q'] [] pos) (dCallF sp ce0 cl fr i js t) := by
  refine ⟨⟨fun pins s σ H Q I ⟨ρ, μ, R, q⟩ => ?_⟩, fun ρ μ Q Q' h q => ?_⟩
  · refine wpAny_Call_Name_kw (ld_glob I hg hm ?_ hdb)
    have q1 : tCons (up X.K t) (tCons (tVar i) tNil) σ H fun vs H1 => ∃ ds μ1, Stp H μ H1 μ1 ∧ RM X.K H1 μ1 ∧ Reps X.K (cut H1 μ1) vs ds ∧ ∃ cvs, js.map (slotAt σ) = cvs.map some ∧ sp ((cl, fr, cvs) :: ce0) ds μ1 (lift X.K H μ Q) := by
      refine up_bind R ha.mono q fun d μ1 v1 H1 z s1 R1 r1 => ?_
      split at z
      · rename_i g os a1 a2 e0
        split at z
        · rename_i caps e1
          obtain ⟨v0, hs0, r0⟩ := R1.slot i _ e0
          obtain ⟨cvs, g1, g2⟩ := slots_of R1 e1
          cases r0 with
          | fn hos _ => exact ⟨_, hs0, _, μ1, s1, R1.mem, .cons r1 (.cons (.fn hos g2) .nil), cvs, g1, z cvs⟩
        · exact z.elim
      · exact z.elim
    have pa := pa_cons ha.pe (pa_cons (pe_var (pos := q') hN hv hdb2 hcd) pa_nil he2) he
    refine PySem.W.callWith_K (h₀ := X.base) I.ok.mod.kin hk (thn (pa.run pos pins s σ H _ I q1) fun us s1 ⟨vs, H1, I1, rv, ds, μ1, st, m1, rd, cvs, ec, z⟩ => ⟨I1.kIn, ?_⟩) he hpl
    have hl : (us ++ []).length = ps.length := by rw [List.append_nil, ← rv.length, rd.length]; exact F.len _ ds μ1 _ z
    have hbb := hb s1 us I1.kIn hl
    rw [List.append_nil] at hbb
    have cells : CeAt ((cl, fr, cvs) :: ce0) X.stack s1.heap H1 := CeAt.app (ce := [(cl, fr, cvs)]) (ce_own I1 (cp I1.ok) hfn ec) (hce.now I1)
    refine wpAny_call (codeAny_mono (F.run _ X.A X.stack s1 H1 μ1 us vs ds Q hr I1.env0 m1 cells hbb rv rd (mono _ _ _ _ _ (fun d μ' y => lift_stp st y) z)) fun r s' hq => ?_)
    cases r with
    | error e => exact False.elim hq
    | ok fl =>
      cases fl with
      | ret u => exact I1.after hq
      | _ => exact False.elim hq
  · refine ha.mono _ _ _ _ (fun d μ1 z => ?_) q
    split at z
    · split at z
      · exact fun cvs => mono _ _ _ _ _ h (z cvs)
      · exact z.elim
    · exact z.elim
end DL

set_option Elab.async false
set_option linter.all false
set_option maxRecDepth 100000
set_option maxHeartbeats 2000000
namespace DL
open PySem PySem.Spec PyProof.Rows L2 NdefX LamX

/-! ### lambdas -/
/-- a lambda's words as those of a def without statements -/
def lamNF (qual : Str) (params : Arguments) (scope : Scope) (cl : List (Str × Addr)) (c : Addr) : NF := ⟨"<lambda>", qual, params, [], scope, cl, c⟩
def LamO (f : Addr) (qual : Str) (params : Arguments) (body : Expr) (scope : Scope) (cl : List (Str × Addr)) (c : Addr) : HO := .ext fun h => ∃ pm ctv : Value, h.get? f = some (PySem.W.kla_obj "<lambda>" qual params body scope cl pm c ctv)
def osLam (f : Addr) (qual : Str) (params : Arguments) (body : Expr) (scope : Scope) (cl : List (Str × Addr)) (c : Addr) : List (Addr × HO) := [(f, LamO f qual params body scope cl c), (c, CodeO c qual)]
theorem isFnO_lam (f : Addr) (qual : Str) (params : Arguments) (body : Expr) (scope : Scope) (cl : List (Str × Addr)) (c : Addr) : IsFnO f (osLam f qual params body scope cl c) := ⟨_, List.mem_cons_self, fun h ⟨pm, ctv, e⟩ => ⟨_, _, _, _, e⟩⟩
section
variable {P : Program} {w : World} {K : PySem.W.Frag} {mg : Str → Option Value} {base : Heap} {N ps fr : List Str} {f c : Addr} {k : Nat} {sp : RLD} {ce : Ce} {caps : List D} {cvs : List V} {qual : Str} {params : Arguments} {body : Expr} {scope : Scope} {cl : List (Str × Addr)}
theorem cloL_of (S : NScope N ps fr scope) (hb : ∀ (pm ctv : Value) (us : List Value), us.length = ps.length → bindArgs (PySem.W.kla_fn "<lambda>" qual params body scope cl pm (.ref c) ctv) ⟨us, []⟩ = pure (ps.zip us)) (len : ∀ ds μ Q, sp ds μ Q → ds.length = ps.length) (hce : (cl, fr, cvs) ∈ ce)
    (hbody : ∀ (A : Around) (outer : List Env) (s : Shared) (H : Hp), Room k (A.deeper (envF (lamNF qual params scope cl c) f s.heap.objs.size)) → CeX (ncx CX0 P w K mg base N (lamNF qual params scope cl c) f A outer s H E0).nox ce →
      ∃ t, PD (ncx CX0 P w K mg base N (lamNF qual params scope cl c) f A outer s H E0).nox body t ∧ ∀ ds μ Q, sp ds μ Q → t (startF' N ds caps) μ Q) : CloK P w K mg base (k + 1) f (clFacts K (osLam f qual params body scope cl c) cvs caps) ce sp := by
  intro A outer s H μ us vs ds Q room e0 m facts cells rv rd q
  obtain ⟨hos, hcaps⟩ := facts
  have kf := cut_sub _ _ (hos (f, LamO f qual params body scope cl c) (by simp [osLam]))
  have kc := cut_sub _ _ (hos (c, CodeO c qual) (by simp [osLam]))
  have lim : s.heap.NoLimit := e0.mod.nolimit.keeps fun b o e => (e0.bs b o e).1
  have lvs : vs.length = ps.length := rd.length.trans (len ds μ _ q)
  obtain ⟨⟨pm, ctv, ob⟩, _, _⟩ := e0.hok f _ kf
  refine PySem.W.kla_callFunE room.depth ob rfl S.co S.gen rfl (codeO_at e0.hok kc) ?_
  rw [hb pm ctv us (rv.length.symm.trans lvs)]
  refine wpAny_pure (wpAny_newFunctionEnv S.nocell (fun ⟨n, _⟩ hy => S.par n (List.of_mem_zip hy).1) (fun g1 hns sb => ⟨lim.fresh _ sb, ?_⟩) S.kind)
  have old : ∀ b o, s.heap.get? b = some o → g1.get? b = some o := fun b o e => sb.extBut b o (Nat.ne_of_lt (Heap.lt_size e)) (Heap.get?_push_of_some _ e)
  obtain ⟨t, ht, hq⟩ := hbody A outer s H (room.deeper _) ⟨cells, rfl⟩
  have J : Inv (ncx CX0 P w K mg base N (lamNF qual params scope cl c) f A outer s H E0) [] (startF N vs (cvs.map some)) H { s with heap := g1, toks := s.toks + (ps.zip us).length } := inv_startN (F := lamNF qual params scope cl c) S room.hd e0 lvs rv (cells _ hce).1 hns old
  have start := startF_RS (N := N) m rd hcaps
  show codeAny _ _ (.expr body (envF (lamNF qual params scope cl c) f s.heap.objs.size)) _ _
  refine PySem.W.kla_codeExpr (wpAny_mono (ht.pe.nox.run [] _ _ H Q J ⟨_, μ, start, hq ds μ _ q⟩) (fun v s' hv => ?_) fun e s' he => he)
  obtain ⟨w', H', J', r', q'⟩ := hv
  exact ⟨w', H', J'.os, J'.bare, J'.base, J'.hok, r', q'⟩
end
section
variable {X : Cx} {pins : List (Addr × Obj)} {σ : L2.St} {H : Hp} {s : Shared}
theorem mk_lam {μ : Mu} {nm : Nat → Nat → Str} {c P : Addr} {params : Arguments} {body : Expr} {scope : Scope} {pos : Pos} {E : Value → Shared → Prop} {Q : Value → Shared → Prop} (I : Inv X pins σ H s) (m : RM X.K H μ) (tab : μ P = some (.tab nm)) (TB : TabB X.base X.mg c P) (hcode : X.env.code = .ref c)
    (hn : nm pos.line pos.col = X.env.qual ++ "<lambda>") (hdef : defaultsOf params X.env = ([], [])) (hfree : ∀ y ∈ scope.names, y.2 = .free → ∃ c, X.env.cells.lookup y.1 = some c)
    (h : ∀ (f c' : Addr) (H1 : Hp) (s' : Shared), Inv X pins σ H1 s' → Stp H μ H1 μ → RM X.K H1 μ → cut H1 μ f = some (LamO f (X.env.qual ++ "<lambda>") params body scope (cloFrom X.env.cells scope.names []) c') → cut H1 μ c' = some (CodeO c' (X.env.qual ++ "<lambda>")) → Q (.ref f) s') :
    wpAny (model X.prog X.w) X.A (eval (.Lambda params body scope pos) X.env) Q E s := by
  obtain ⟨ps, hP, ht, ha⟩ := tab_of m tab
  have bP : s.heap.BuiltinsAt X.mg P := TB.bm.keeps I.bk
  have oP : s.heap.get? P = some { cls := .none, data := .fields ps } := I.hok P _ hP
  have finish : ∀ (c' : Addr) (H1 : Hp) (g : Heap) (tk : Nat) (o : Obj) (pm ctv : Value), Inv X pins σ H1 { s with heap := g, toks := tk } → Stp H μ H1 μ → RM X.K H1 μ → cut H1 μ c' = some (CodeO c' (X.env.qual ++ "<lambda>")) →
      o = PySem.W.kla_obj "<lambda>" (X.env.qual ++ "<lambda>") params body scope (cloFrom X.env.cells scope.names []) pm c' ctv → Q (.ref g.objs.size) { s with heap := g.push o, toks := tk } := fun c' H1 g tk o pm ctv J st m1 kc ho => by
    subst ho
    have nf : H1 g.objs.size = none := J.hok.fresh (Nat.le_refl _)
    have J2 := J.laid (a := g.objs.size) (o := LamO g.objs.size (X.env.qual ++ "<lambda>") params body scope (cloFrom X.env.cells scope.names []) c') (t' := tk)
      (h' := g.push (PySem.W.kla_obj "<lambda>" (X.env.qual ++ "<lambda>") params body scope (cloFrom X.env.cells scope.names []) pm c' ctv)) (fun b u e => Heap.get?_push_of_some _ e) (Nat.le_refl _) (by
        have e : (g.push (PySem.W.kla_obj "<lambda>" (X.env.qual ++ "<lambda>") params body scope (cloFrom X.env.cells scope.names []) pm c' ctv)).get? g.objs.size = some (PySem.W.kla_obj "<lambda>" (X.env.qual ++ "<lambda>") params body scope (cloFrom X.env.cells scope.names []) pm c' ctv) := Heap.get?_push_size _ rfl
        exact ⟨⟨pm, ctv, e⟩, ⟨_, e⟩, fun h1 h2 ⟨p, t, z⟩ st => ⟨p, t, st _ z⟩⟩)
    have st2 := lay_stp nf (m1.free nf) (LamO g.objs.size (X.env.qual ++ "<lambda>") params body scope (cloFrom X.env.cells scope.names []) c')
    exact h g.objs.size c' _ _ J2 (st.trans st2) (m1.lay nf _) (cut_lay (m1.free nf) _) (st2 _ _ kc)
  refine PySem.W.kla_eval hdef ?_
  cases hc : codeAmong pos ps.toList with
  | none =>
    refine PySem.W.kla_makeFunction (mg := X.mg) (c := c) (P := P) (ps := ps) (closure_ok hfree) I.ok.glob (I.mod.glob.keeps I.bk) hcode (TB.code.keeps I.bk) oP ht hc TB.gP bP fun c' ctv g tk hx hge hlt hrec htb => ?_
    obtain ⟨c2, oc, us, t, e2, hoc, hd, hv⟩ := hrec
    cases e2
    obtain ⟨st, m1, kc⟩ := grow_tab (pos := pos) m tab hP ht ha (I.hok.fresh hge) rfl
    rw [hn] at kc m1 st
    have J := inv_table (q := X.env.qual ++ "<lambda>") (t' := tk) (more := #[rawInt pos.line, rawInt pos.col, .ref c']) (h' := g) I hP (fun b o hb e => hx b o hb e) htb hge ⟨oc, us, t, hoc, hd, hv⟩
    exact finish c' _ g tk _ _ ctv J st m1 kc rfl
  | some cv =>
    obtain ⟨c', e, hco⟩ := ha pos cv hc
    subst e
    rw [hn] at hco
    refine PySem.W.kla_makeFunctionHit (mg := X.mg) (c := c) (P := P) (ps := ps) (closure_ok hfree) I.ok.glob (I.mod.glob.keeps I.bk) hcode (TB.code.keeps I.bk) oP ht hc bP fun ctv g tk hx hsz => ?_
    exact finish c' H g tk _ _ ctv (I.kept hx) (Same.refl _) m hco rfl
end
/-- f(e, lambda ..: ..), f a def that takes a function; the lambda has captured the slots js -/
def dCallLam (sp : Ce → RLD) (ce0 : Ce) (P : Addr) (nm : Nat → Nat → Str) (qual : Str) (params : Arguments) (body : Expr) (scope : Scope) (cl : List (Str × Addr)) (fr : List Str) (js : List Nat) (t : ED) : ED := fun ρ μ Q => t ρ μ fun d μ1 => μ1 P = some (.tab nm) ∧ match slotsD ρ js with
  | some caps => ∀ f c' (cvs : List V), sp ((cl, fr, cvs) :: ce0) [d, .fn f (osLam f qual params body scope cl c') cvs caps] μ1 Q
  | none => False
theorem d_callLam {X : Cx} {k : Nat} {f : Addr} {fd : FuncData} {ps : List Str} {sp : Ce → RLD} {x : Str} {p lpos pos : Pos} {e : Expr} {t : ED} {ce0 : Ce} {fr : List Str} {js : List Nat} {params : Arguments} {body : Expr} {scope : Scope} {nm : Nat → Nat → Str} {c P : Addr} (F : FnC X.prog X.w X.K X.mg X.base k f fd ps sp) (mono : ∀ ce, MonoL (sp ce)) (hr : Room k X.A) (hm : X.mg x = some (.ref f)) (hk : PySem.W.keepIn X.K (.ref f) = true) (hb : Binds X.K fd ps [])
    (hce : CeX X ce0) (hfn : X.fn = fun _ => true) (cp : X.Ok → Caps X (cloFrom X.env.cells scope.names []) fr js) (ha : PD X e t) (TB : TabB X.base X.mg c P) (hcode : X.env.code = .ref c)
    (hn : nm lpos.line lpos.col = X.env.qual ++ "<lambda>") (hdef : defaultsOf params X.env = ([], [])) (hfree : ∀ y ∈ scope.names, y.2 = .free → X.env.scope.names.lookup y.1 = some .cell ∨ X.env.scope.names.lookup y.1 = some .free) (hg : Gl X x := by rfl)
    (hdb : (x == ("__debug__" : Str)) = false := by decide)
    (he : starEach [e, .Lambda params body scope lpos] X.env = (false, eval e X.env) :: starEach [.Lambda params body scope lpos] X.env := by rfl) (he2 : starEach [.Lambda params body scope lpos] X.env = (false, eval (.Lambda params body scope lpos) X.env) :: starEach [] X.env := by rfl) (hpl : (backTo pos (starEach [.Lambda params body scope lpos] X.env)).any (·.1) = false := by rfl) :
    PD X (.Call (.Name x p) [e, .Lambda params body scope lpos] [] pos) (dCallLam sp ce0 P nm (X.env.qual ++ "<lambda>") params body scope (cloFrom X.env.cells scope.names []) fr js t) := by
  refine ⟨⟨fun pins s σ H Q I ⟨ρ, μ, R, q⟩ => ?_⟩, fun ρ μ Q Q' h q => ?_⟩
  · refine wpAny_Call_Name_kw (ld_glob I hg hm ?_ hdb)
    have hfr : ∀ y ∈ scope.names, y.2 = .free → ∃ c, X.env.cells.lookup y.1 = some c := fun y hy e => (hfree y hy e).elim (fun z => I.ok.has _ (.inl z)) fun z => I.ok.has _ (.inr z)
    have q1 : up X.K t σ H fun v1 H1 => ∃ d μ1, Stp H μ H1 μ1 ∧ RS X.K H1 σ ρ μ1 ∧ Rep X.K (cut H1 μ1) v1 d ∧ μ1 P = some (.tab nm) ∧ ∃ caps, slotsD ρ js = some caps ∧ ∀ g c' (cvs : List V), sp ((cloFrom X.env.cells scope.names [], fr, cvs) :: ce0) [d, .fn g (osLam g (X.env.qual ++ "<lambda>") params body scope (cloFrom X.env.cells scope.names []) c') cvs caps] μ1 (lift X.K H μ Q) := by
      refine up_bind R ha.mono q fun d μ1 v1 H1 z s1 R1 r1 => ⟨d, μ1, s1, R1, r1, z.1, ?_⟩
      obtain ⟨_, z⟩ := z
      split at z
      · rename_i caps e1
        exact ⟨caps, e1, z⟩
      · exact z.elim
    refine PySem.W.callWith_K (h₀ := X.base) I.ok.mod.kin hk ?_ he hpl
    rw [he, he2]
    show wpAny _ _ (spliced ((false, eval e X.env) :: backTo pos ((false, eval (.Lambda params body scope lpos) X.env) :: starEach [] X.env))) _ _ s
    refine Calls.spliced_cons (thn (ha.pe.run pins s σ H _ I q1) fun u1 s1 ⟨v1, H1, I1, rv1, d, μ1, st, R1, r1, tab, caps, ec, z⟩ => ?_)
    show wpAny _ _ (spliced ((false, eval (.Lambda params body scope lpos) X.env) :: backTo pos (starEach [] X.env))) _ _ s1
    refine Calls.spliced_cons (mk_lam I1 R1.mem tab TB hcode hn hdef hfr fun g c' H2 s2 I2 st2 m2 kf kc => ?_)
    refine Calls.spliced_nil ⟨I2.kIn, ?_⟩
    have R2 := R1.step st2 m2
    obtain ⟨cvs, g1, g2⟩ := slots_of R2 ec
    have z := z g c' cvs
    have hl : ([u1, Value.ref g] ++ []).length = ps.length := by
      have := F.len _ _ μ1 _ z
      simpa using this
    have hbb := hb s2 [u1, .ref g] I2.kIn hl
    rw [List.append_nil] at hbb
    have cells : CeAt ((cloFrom X.env.cells scope.names [], fr, cvs) :: ce0) X.stack s2.heap H2 := CeAt.app (ce := [(_, fr, cvs)]) (ce_own I2 (cp I2.ok) hfn g1) (hce.now I2)
    have rd : Reps X.K (cut H2 μ1) [v1, .ref g] [d, .fn g (osLam g (X.env.qual ++ "<lambda>") params body scope (cloFrom X.env.cells scope.names []) c') cvs caps] := .cons (r1.mono st2) (.cons (.fn (fun p hp => by
      have e : p = (g, LamO g (X.env.qual ++ "<lambda>") params body scope (cloFrom X.env.cells scope.names []) c') ∨ p = (c', CodeO c' (X.env.qual ++ "<lambda>")) := by simpa [osLam] using hp
      rcases e with rfl | rfl
      · exact kf
      · exact kc) g2) .nil)
    refine wpAny_call (codeAny_mono (F.run _ X.A X.stack s2 H2 μ1 [u1, .ref g] [v1, .ref g] _ Q hr I2.env0 m2 cells hbb (.cons rv1 (.cons rfl .nil)) rd (mono _ _ _ _ _ (fun d μ' y => lift_stp (st.trans st2) y) z)) fun r s' hq => ?_)
    cases r with
    | error e => exact False.elim hq
    | ok fl =>
      cases fl with
      | ret u => exact I2.after hq
      | _ => exact False.elim hq
  · refine ha.mono _ _ _ _ (fun d μ1 ⟨z0, z⟩ => ⟨z0, ?_⟩) q
    split at z
    · exact fun f c' cvs => mono _ _ _ _ _ h (z f c' cvs)
    · exact z.elim
end DL

set_option Elab.async false
set_option linter.all false
set_option maxRecDepth 100000
set_option maxHeartbeats 2000000
namespace DL
open PySem PySem.Spec PyProof.Rows L2 NdefX LamX

/-! ### a comprehension whose element may lean on the state at which its block began -/
/-- the state at a block's beginning, as the def around it sees it -/
def Begun (X : Cx) (σ : L2.St) (H : Hp) (s : Shared) (fp : List Addr) : Prop := ∃ pins, Inv X pins σ H s ∧ ∀ b ∈ fp, FpOk X pins H b ∧ b < s.heap.objs.size
/-- what a walked list comprehension asks, with the turn's reading t -/
def StepsTo (J : It) (g : TG) (tt : TT) (te : TE) (ρw : L2.St) (ws : List Nat) (D : Addr) (Fin : Hp → Prop) (W : Nat → Nat → Hp → Prop) : Prop := ∀ (i m : Nat) (G : Hp), W i m G →
  (J.stop i G ∧ Fin G) ∨ (J.go i G ∧ ∃ Nx : Hp → Prop, (∀ G', Nx G' → ∃ m', m' < m ∧ W (i + 1) m' G') ∧ ∀ x G', J.yld i G x G' → g x ρw G' fun σ2 G2 => wipe σ2 ws = ρw ∧ tt σ2 G2 fun b G3 =>
    if b = true then te σ2 G3 fun y G4 => ∃ acc, G4 D = some (.lst acc) ∧ acc.length < sizeLine ∧ Nx (upd G4 D (.lst (acc ++ [y]))) else Nx G3)
section
variable {B : Cx} {elt tg iter : Expr} {ifs : List Expr} {scope : Scope} {pos : Pos} {g : TG} {tt : TT} {te : TE} {ws : List Nat} {J : It} {fp : List Addr} {it D : Addr} {tn : Nat → Heap → Prop} {ρw : L2.St} {R : Result → Shared → Prop} {Fin : Hp → Prop} {W : Nat → Nat → Hp → Prop}
theorem turns_run (calm : B.calm = true) (noxe : B.xe = fun _ _ => False) (nopn : B.pn = []) (hex : B.ex = fp) (T : Turn B.prog B.w B.K tg J fp it tn) (goal : PG B tg g) (test : PTs B ifs tt) (item : PE B elt te) (len : ∀ σ2 : L2.St, wipe σ2 ws = ρw → ρw.length = σ2.length)
    (steps : StepsTo J g tt te ρw ws D Fin W) (leave : ∀ (G : Hp) (s : Shared), Inv B [] ρw G s → Fin G → R (.ok .next) s) (m : Nat) (G0 : Hp) (s0 : Shared) (I0 : Inv B [] ρw G0 s0) (t0 : tn 0 s0.heap) (n0 : ∀ b ∈ fp, G0 b = none) (w0 : W 0 m G0) :
    codeAny (model B.prog B.w) B.A (.compLoop (.ListComp elt [⟨tg, iter, ifs, 0⟩] scope pos) 0 (.ref it) (.ref D) B.env) R s0 := by
  have free : ∀ (G : Hp) (σ' : L2.St) (s : Shared), Inv B [] σ' G s → (∀ b ∈ fp, G b = none) → ∀ b ∈ fp, FpOk B [] G b := by
    intro G σ' s K n b hb
    have hb' : b ∈ B.ex := by rw [hex]; exact hb
    refine ⟨n b hb, (K.ok.exf b hb').1, K.ok.exfs b hb', Or.inl hb', fun x c e => (K.ok.exf b hb').2 x c e, ?_⟩
    intro p hp
    rw [nopn] at hp
    cases hp
  have kept : ∀ {G G' : Hp} {σ2 : L2.St} {h : Heap} {s : Shared} {i k : Nat}, tn (i + 1) h → wipe σ2 ws = ρw → Inv B ([] ++ pinsAt fp h) σ2 G s → (∃ m', m' < k ∧ W (i + 1) m' G) → ∃ m', m' < k ∧ ∃ i' G', Inv B [] ρw G' s ∧ tn i' s.heap ∧ (∀ b ∈ fp, G' b = none) ∧ W i' m' G' := by
    rintro G G' σ2 h s i k th hw K ⟨m', lt, w'⟩
    have pinned : ∀ b ∈ fp, ∀ o, h.get? b = some o → s.heap.get? b = some o ∧ G b = none := by
      intro b hb o e
      have z := K.pin (b, o) (List.mem_append_right _ (List.mem_append_right _ (mem_pinsAt hb e)))
      exact ⟨z.1, z.2.1⟩
    have K0 := K.unpinned (pins := [])
    refine ⟨m', lt, i + 1, G, K0.weak (len σ2 hw) ?_, T.keep _ _ _ th fun b hb o e => (pinned b hb o e).1, ?_, w'⟩
    · intro j v e
      rw [← hw] at e
      exact (wipe_some e).1
    · intro b hb
      obtain ⟨o, e, _⟩ := T.obj _ _ th b hb
      exact (pinned b hb o e).2
  refine compLoop_any (fun k s => ∃ i G, Inv B [] ρw G s ∧ tn i s.heap ∧ (∀ b ∈ fp, G b = none) ∧ W i k G) ?_ m ⟨0, G0, I0, t0, n0, w0⟩
  rintro k s ⟨i, G, K, th, n, w⟩
  rcases steps i k G w with ⟨stop, fin⟩ | ⟨go, Nx, less, step⟩
  · refine thnF (T.done B rfl rfl rfl calm i [] s _ G (fun _ _ => False) K (free _ _ _ K n) th stop) ?_
    rintro r s' ⟨rfl, K'⟩
    exact leave G s' K' fin
  · refine thnF (T.item B rfl rfl rfl calm i [] s _ G (fun _ _ => False) K (free _ _ _ K n) th go) ?_
    rintro r s' ⟨u, rfl, moved⟩
    refine thnF moved ?_
    rintro _ s2 ⟨x, G2, K2, rx, y, th2, n2⟩
    have K2' := K2.pinned (free _ _ _ K2 n2) (T.obj _ _ th2)
    have g1 := goal.run _ s2 _ G2 x u _ K2' rx (step x G2 y)
    rw [noxe] at g1
    refine thnF g1 ?_
    rintro _ s3 ⟨σ3, G3, K3, hw, q3⟩
    have t1 := test.run _ s3 σ3 G3 _ K3 q3
    rw [noxe] at t1
    refine thnF t1 ?_
    rintro b s4 ⟨G4, K4, q4⟩
    cases b with
    | false => exact kept (G' := G4) th2 hw K4 (less _ q4)
    | true =>
      have e1 := item.run _ s4 σ3 G4 _ K4 q4
      rw [noxe] at e1
      refine thnF e1 ?_
      rintro z s5 ⟨yv, G5, K5, ry, acc, atD, small, nx⟩
      refine app_ok (X := B) K5 atD small ry ?_
      intro s6 K6
      exact kept (G' := G5) th2 hw K6 (less _ nx)
end
section
variable {X : Cx} {elt tg iter : Expr} {ifs : List Expr} {scope : Scope} {own : List (Str × Nat)} {pos : Pos} {wi : TI} {g : TG} {tt : TT} {te : L2.St → TE}
theorem pe_lcB (calm : X.calm = true) (nodup : X.N.Nodup) (src : PI X tg iter wi) (blk : BlkOk X.N X.env.scope scope own)
    (goal : ∀ (s : Shared) (G : Hp) (C : Addr) (cl : List (Str × Addr)) (fp : List Addr), PG (X.blk s G scope (compEnvC scope cl C X.env) fp) tg g) (test : ∀ (s : Shared) (G : Hp) (C : Addr) (cl : List (Str × Addr)) (fp : List Addr), PTs (X.blk s G scope (compEnvC scope cl C X.env) fp) ifs tt)
    (item : ∀ (σ : L2.St) (s : Shared) (G : Hp) (C : Addr) (cl : List (Str × Addr)) (fp : List Addr), Begun X σ G s fp → PE (X.blk s G scope (compEnvC scope cl C X.env) fp) elt (te σ)) (plain : ∀ x, foldedSetIterable iter X.env x = pure x := by intro _; rfl) :
    PE X (.ListComp elt [⟨tg, iter, ifs, 0⟩] scope pos) (fun σ H Q => wi σ H fun J H1 => ∀ D, H1 D = none → ∃ W : Nat → Nat → Hp → Prop, (∃ m, W 0 m (upd H1 D (.lst []))) ∧ StepsTo J g tt (te σ) (wipe σ (own.map (·.2))) (own.map (·.2)) D (Q (.ref D)) W) := by
  refine ⟨fun pins s σ H Q I q => ?_⟩
  have caught : ∀ y ∈ scope.names, y.2 = .free → ∃ c, X.env.cells.lookup y.1 = some c := by
    intro y hy e
    rcases blk.free y hy e with k | k
    · exact I.ok.has _ (Or.inl k)
    · exact I.ok.has _ (Or.inr k)
  rw [eval_ListComp]
  refine wpAny_comprehension_free (use := none) rfl plain (closure_ok caught) blk.kind (fun y hy e => by rw [blk.uniq y hy, e]) (thn (src.run pins s σ H _ I q) ?_)
  intro xv s1 h1
  refine thn h1 ?_
  rintro itv s2 ⟨it, fp, tn, J, H2, rfl, I2, T, th2, ok2, q2⟩
  refine wpAny_newObj_type (newEnv_comp ?_) (by show 0 ≤ sizeLine; decide)
  generalize hD : s2.heap.objs.size = D
  obtain ⟨W, ⟨m, w0⟩, steps⟩ := q2 D (I2.hok.fresh (Nat.le_of_eq hD))
  -- the new list is laid
  have I3 : Inv X pins σ (upd H2 D (.lst [])) { s2 with heap := s2.heap.push { cls := .type "list", data := .seq ([] : List Value).toArray } } := by
    refine I2.laid (t' := s2.toks) (fun b o e => Heap.get?_push_of_some _ e) (Nat.le_of_eq hD) ⟨Nat.zero_le _, [], 0, .nil, ?_⟩
    rw [← hD]
    exact Heap.get?_push_size _ rfl
  generalize es3 : ({ s2 with heap := s2.heap.push { cls := .type "list", data := .seq ([] : List Value).toArray } } : Shared) = s3 at I3
  have grown : ∀ b o, s2.heap.get? b = some o → s3.heap.get? b = some o := by
    intro b o e
    rw [← es3]
    exact Heap.get?_push_of_some _ e
  have ok3 : ∀ b ∈ fp, FpOk X pins (upd H2 D (.lst [])) b ∧ b < s3.heap.objs.size := by
    intro b hb
    obtain ⟨o, e, _⟩ := T.obj _ _ th2 b hb
    have lt := Heap.lt_size e
    refine ⟨⟨?_, (ok2 b hb).2⟩, Heap.lt_size (grown b o e)⟩
    rw [upd_ne (by rw [← hD]; exact Nat.ne_of_lt lt)]
    exact (ok2 b hb).1
  have th3 : tn 0 s3.heap := T.keep _ _ _ th2 fun b _ o e => grown b o e
  have begun : Begun X σ (upd H2 D (.lst [])) s3 fp := ⟨pins, I3, ok3⟩
  have I4 := block_start I3 blk nodup ok3
  show codeAny _ _ (.compStart (.ListComp elt [⟨tg, iter, ifs, 0⟩] scope pos) 0 (.ref it) (.ref D) (compEnvC scope (cellsFrom (s3.heap.objs.size + 1) scope.names (cloFrom X.env.cells scope.names [])) s3.heap.objs.size X.env))
    (compPost (model X.prog X.w) X.A X.xe none (EP X pins σ Q) (.ref D) s3.heap.objs.size) { s3 with heap := pushCells (s3.heap.push { cls := .type "dict", data := .dict #[] }) scope.names }
  generalize ecl : cellsFrom (s3.heap.objs.size + 1) scope.names (cloFrom X.env.cells scope.names []) = cl at I4 ⊢
  have pg := goal s3 (upd H2 D (.lst [])) s3.heap.objs.size cl fp
  have pt := test s3 (upd H2 D (.lst [])) s3.heap.objs.size cl fp
  have pe := item σ s3 (upd H2 D (.lst [])) s3.heap.objs.size cl fp begun
  generalize es4 : ({ s3 with heap := pushCells (s3.heap.push { cls := .type "dict", data := .dict #[] }) scope.names } : Shared) = s4 at I4 ⊢
  have th4 : tn 0 s4.heap := by
    refine T.keep _ _ _ th3 fun b _ o e => ?_
    rw [← es4]
    exact pushCells_keeps _ _ _ _ (Heap.get?_push_of_some _ e)
  have loop := turns_run (iter := iter) (scope := scope) (pos := pos) (R := compPost (model X.prog X.w) X.A X.xe none (EP X pins σ Q) (.ref D) s3.heap.objs.size) (B := X.blk s3 (upd H2 D (.lst [])) scope (compEnvC scope cl s3.heap.objs.size X.env) fp) calm rfl rfl rfl T pg pt pe
    (fun σ2 hw => by rw [← hw, wipe_length]) steps ?_ m _ s4 I4 th4 (fun b hb => (ok3 b hb).1.1) w0
  · exact codeAny_compStart_list loop (T.self X.A 0 _ _ _ th4 loop)
  · intro G s5 K5 fin
    have back : Inv X pins σ G s5 := I3.call' (ch := fp) K5.os K5.base K5.hok K5.bare fun b hb => ⟨(ok3 b hb).1.2.2.2.1, (ok3 b hb).1.2.1, (ok3 b hb).1.2.2.2.2.1, (ok3 b hb).1.2.2.2.2.2⟩
    have none3 : G s3.heap.objs.size = none := K5.free
    obtain ⟨mm, hn, _⟩ := K5.loc
    obtain ⟨f0, f1, _, f3, f4, f5⟩ := I3.fpOk (H' := G) (Nat.le_refl _) none3
    exact ⟨mm, hn, fun h'' sb => ⟨.ref D, G, back.turned (t' := s5.toks) (fun b o hb e => (sb.2 b hb).trans e) f0 f1 f3 f4 f5, rfl, fin⟩⟩
end
end DL

set_option Elab.async false
set_option linter.all false
set_option maxRecDepth 100000
set_option maxHeartbeats 2000000
namespace DL
open PySem PySem.Spec PyProof.Rows L2 NdefX LamX

theorem upG_mono {K : PySem.W.Frag} {g : GD} {ws : List Nat} (m : MonoG g) {v : V} {σ : L2.St} {H : Hp} {Q Q' : L2.St → Hp → Prop} (h : ∀ σ' H', Q σ' H' → Q' σ' H') : upG K g ws v σ H Q → upG K g ws v σ H Q' := by
  rintro ⟨d, ρ, μ, R, r, q⟩
  exact ⟨d, ρ, μ, R, r, m _ _ _ _ _ (fun ρ' μ' z σ' H' s' R' w => h _ _ (z σ' H' s' R' w)) q⟩
theorem upT_mono {K : PySem.W.Frag} {t : TD} (m : MonoT t) {σ : L2.St} {H : Hp} {Q Q' : Bool → Hp → Prop} (h : ∀ b H', Q b H' → Q' b H') : upT K t σ H Q → upT K t σ H Q' := by
  rintro ⟨ρ, μ, R, q⟩
  exact ⟨ρ, μ, R, m _ _ _ _ (fun b μ' z H' s' m' => h _ _ (z H' s' m')) q⟩
section
variable {X : Cx} {elt tg iter : Expr} {ifs : List Expr} {scope : Scope} {own : List (Str × Nat)} {pos : Pos} {it : ITD} {g : GD} {tt : TD} {te : ED} {js : List Nat}
/-- a list comprehension whose element leans on the slots js as they were at the beginning -/
theorem d_lcB (hc : X.calm = true) (hN : X.N.Nodup) (hi : PID X tg iter it) (ok : BlkOk X.N X.env.scope scope own)
    (hg : ∀ (s : Shared) (G : Hp) (C : Addr) (cl : List (Str × Addr)) (fp : List Addr), PGD (X.blk s G scope (compEnvC scope cl C X.env) fp) tg g (own.map (·.2))) (ht : ∀ (s : Shared) (G : Hp) (C : Addr) (cl : List (Str × Addr)) (fp : List Addr), PTsD (X.blk s G scope (compEnvC scope cl C X.env) fp) ifs tt)
    (hj : ∀ j ∈ js, j ∉ own.map (·.2)) (me : Mono te)
    (he : ∀ (σ : L2.St) (s : Shared) (G : Hp) (C : Addr) (cl : List (Str × Addr)) (fp : List Addr), Begun X σ G s fp → PE (X.blk s G scope (compEnvC scope cl C X.env) fp) elt (fun σ' H Q => (∀ j ∈ js, σ'[j]? = σ[j]?) ∧ up X.K te σ' H Q)) (hs : ∀ x, foldedSetIterable iter X.env x = pure x := by intro _; rfl) :
    PD X (.ListComp elt [⟨tg, iter, ifs, 0⟩] scope pos) (dLc it g tt te (own.map (·.2))) := by
  have mg := (hg X.s_0 X.H_0 0 [] []).mono
  have mt := (ht X.s_0 X.H_0 0 [] []).mono
  have base := pe_lcB (pos := pos) (elt := elt) (wi := upI X.K it) (g := upG X.K g (own.map (·.2))) (tt := upT X.K tt) hc hN hi.pi ok (fun s G C cl fp => (hg s G C cl fp).pg) (fun s G C cl fp => (ht s G C cl fp).pt) (te := fun σ σ' H Q => (∀ j ∈ js, σ'[j]? = σ[j]?) ∧ up X.K te σ' H Q) he hs
  refine ⟨PE.imp base fun σ H Q q => ?_, dLc_mono hi.mono mg mt me⟩
  obtain ⟨ρ, μ, R, q⟩ := lc_up hi.mono mg mt me σ H Q q
  refine ⟨ρ, μ, R, hi.mono _ _ _ _ (fun ds μ1 z J H1 s1 m1 wk D hD => ?_) q⟩
  obtain ⟨W, w0, steps⟩ := z J H1 s1 m1 wk D hD
  refine ⟨W, w0, fun i m G w => ?_⟩
  rcases steps i m G w with z1 | ⟨go, Nx, less, step⟩
  · exact Or.inl z1
  · refine Or.inr ⟨go, Nx, less, fun x G' y => upG_mono mg (fun σ2 G2 z2 => ⟨z2.1, upT_mono mt (fun b G3 z3 => ?_) z2.2⟩) (step x G' y)⟩
    cases b with
    | false => exact iteF ((if_neg (by decide)).mp z3)
    | true =>
      refine iteT ⟨fun j hjj => ?_, (if_pos rfl).mp z3⟩
      have a := wipe_get (σ := σ2) (i := j) (own.map (·.2))
      rw [z2.1, wipe_get, if_neg (hj j hjj), if_neg (hj j hjj)] at a
      exact a.symm
end
section
variable {X : Cx} {k : Nat} {f : Addr} {fd : FuncData} {ps : List Str} {sp : Ce → RLD} {x y : Str} {p q' pos : Pos} {e : Expr} {t : ED} {cl : List (Str × Addr)} {fr : List Str} {js : List Nat} {scope : Scope}
/-- f(e, g) in a comprehension, g a def made in the def around -/
theorem d_callFB (i : Nat) (F : FnC X.prog X.w X.K X.mg X.base k f fd ps sp) (mono : ∀ ce, MonoL (sp ce)) (hr : Room k X.A) (hm : X.mg x = some (.ref f)) (hk : PySem.W.keepIn X.K (.ref f) = true) (hb : Binds X.K fd ps [])
    (hfn : X.fn = fun _ => true) (cp : X.Ok → Caps X cl fr js) (σ0 : L2.St) (s0 : Shared) (G0 : Hp) (C : Addr) (cl' : List (Str × Addr)) (fp : List Addr) (bg : Begun X σ0 G0 s0 fp) (ha : PD (X.blk s0 G0 scope (compEnvC scope cl' C X.env) fp) e t) (hN : X.N[i]? = some y) (hv : Vis (compEnvC scope cl' C X.env).scope y) (hg : Gl (X.blk s0 G0 scope (compEnvC scope cl' C X.env) fp) x)
    (hdb : (x == ("__debug__" : Str)) = false := by decide) (hdb2 : (y == ("__debug__" : Str)) = false := by decide) (hcd : (y == ("__classdict__" : Str)) = false := by decide)
    (he : starEach [e, .Name y q'] (compEnvC scope cl' C X.env) = (false, eval e (compEnvC scope cl' C X.env)) :: starEach [.Name y q'] (compEnvC scope cl' C X.env) := by rfl) (he2 : starEach [.Name y q'] (compEnvC scope cl' C X.env) = (false, eval (.Name y q') (compEnvC scope cl' C X.env)) :: starEach [] (compEnvC scope cl' C X.env) := by rfl) (hpl : (backTo pos (starEach [.Name y q'] (compEnvC scope cl' C X.env))).any (·.1) = false := by rfl) :
    PE (X.blk s0 G0 scope (compEnvC scope cl' C X.env) fp) (.Call (.Name x p) [e, .Name y q'] [] pos) (fun σ' H Q => (∀ j ∈ js, σ'[j]? = σ0[j]?) ∧ up X.K (dCallF sp [] cl fr i js t) σ' H Q) := by
  refine ⟨fun pins s σ H Q I ⟨same, ρ, μ, R, q⟩ => ?_⟩
  refine wpAny_Call_Name_kw (ld_glob I hg hm ?_ hdb)
  have q1 : tCons (up X.K t) (tCons (tVar i) tNil) σ H fun vs H1 => ∃ ds μ1, Stp H μ H1 μ1 ∧ RM X.K H1 μ1 ∧ Reps X.K (cut H1 μ1) vs ds ∧ ∃ cvs, js.map (slotAt σ) = cvs.map some ∧ sp [(cl, fr, cvs)] ds μ1 (lift X.K H μ Q) := by
    refine up_bind R ha.mono q fun d μ1 v1 H1 z s1 R1 r1 => ?_
    split at z
    · rename_i g os a1 a2 e0
      split at z
      · rename_i caps e1
        obtain ⟨v0, hs0, r0⟩ := R1.slot i _ e0
        obtain ⟨cvs, g1, g2⟩ := slots_of R1 e1
        cases r0 with
        | fn hos _ => exact ⟨_, hs0, _, μ1, s1, R1.mem, .cons r1 (.cons (.fn hos g2) .nil), cvs, g1, z cvs⟩
      · exact z.elim
    · exact z.elim
  have pa := pa_cons ha.pe (pa_cons (pe_var (pos := q') (X := X.blk s0 G0 scope (compEnvC scope cl' C X.env) fp) hN hv hdb2 hcd) pa_nil he2) he
  refine PySem.W.callWith_K (h₀ := X.base) I.ok.mod.kin hk (thn (pa.run pos pins s σ H _ I q1) fun us s1 ⟨vs, H1, I1, rv, ds, μ1, st, m1, rd, cvs, ec, z⟩ => ⟨I1.kIn, ?_⟩) he hpl
  have hl : (us ++ []).length = ps.length := by rw [List.append_nil, ← rv.length, rd.length]; exact F.len _ ds μ1 _ z
  have hbb := hb s1 us I1.kIn hl
  rw [List.append_nil] at hbb
  obtain ⟨pins0, I0, ok0⟩ := bg
  have ec0 : js.map (slotAt σ0) = cvs.map some := by
    rw [← ec]
    refine List.map_congr_left fun j hj => ?_
    unfold NdefX.slotAt
    rw [same j hj]
  have c0 : CeAt [(cl, fr, cvs)] X.stack s0.heap G0 := ce_own I0 (cp I0.ok) hfn ec0
  have cells : CeAt [(cl, fr, cvs)] X.stack s1.heap H1 := fun w hw => by
    have ew : w = (cl, fr, cvs) := by simpa using hw
    obtain ⟨C1, nf⟩ := c0 w hw
    refine ⟨C1.later (X := X.blk s0 G0 scope (compEnvC scope cl' C X.env) fp) nf (fun y a e1 z1 => ?_) I1, nf⟩
    subst ew
    exact (ok0 a z1).1.2.2.2.2.1 y a ((cp I0.ok).sub y a e1) rfl
  refine wpAny_call (codeAny_mono (F.run _ X.A X.stack s1 H1 μ1 us vs ds Q hr I1.env0 m1 cells hbb rv rd (mono _ _ _ _ _ (fun d μ' y => lift_stp st y) z)) fun r s' hq => ?_)
  cases r with
  | error e => exact False.elim hq
  | ok fl =>
    cases fl with
    | ret u => exact I1.after hq
    | _ => exact False.elim hq
theorem dCallF_mono (mono : ∀ ce, MonoL (sp ce)) {ce0 : Ce} {i : Nat} (ht : Mono t) : Mono (dCallF sp ce0 cl fr i js t) := fun ρ μ Q Q' h q => by
  refine ht _ _ _ _ (fun d μ1 z => ?_) q
  split at z
  · split at z
    · exact fun cvs => mono _ _ _ _ _ h (z cvs)
    · exact z.elim
  · exact z.elim
end
end DL

set_option Elab.async false
set_option linter.all false
set_option maxRecDepth 100000
set_option maxHeartbeats 2000000
namespace DL
open PySem PySem.Spec PyProof.Rows L2 NdefX LamX

/-! ### while -/
def dWhile (tc : TD) (tb : SD) : SD := fun E ρ μ => ∃ W : Nat → Rho → Mu → Prop, (∃ m, W m ρ μ) ∧ ∀ m ρ μ, W m ρ μ → tc ρ μ fun b μ1 => if b = true then tb ⟨fun ρ' μ' => ∃ m', m' < m ∧ W m' ρ' μ', E.rt, E.nx, fun ρ' μ' => ∃ m', m' < m ∧ W m' ρ' μ'⟩ ρ μ1 else E.nx ρ μ1
theorem dWhile_mono {tc : TD} {tb : SD} (hc : MonoT tc) (hb : MonoS tb) : MonoS (dWhile tc tb) := fun E E' ρ μ l ⟨W, w0, st⟩ => ⟨W, w0, fun m ρ μ w => hc _ _ _ _ (fun b μ1 z => by
  cases b with
  | true =>
    have z' : tb ⟨fun ρ' μ' => ∃ m', m' < m ∧ W m' ρ' μ', E.rt, E.nx, fun ρ' μ' => ∃ m', m' < m ∧ W m' ρ' μ'⟩ ρ μ1 := z
    exact iteT (hb ⟨fun ρ' μ' => ∃ m', m' < m ∧ W m' ρ' μ', E.rt, E.nx, fun ρ' μ' => ∃ m', m' < m ∧ W m' ρ' μ'⟩ ⟨fun ρ' μ' => ∃ m', m' < m ∧ W m' ρ' μ', E'.rt, E'.nx, fun ρ' μ' => ∃ m', m' < m ∧ W m' ρ' μ'⟩ _ _ ⟨fun _ _ y => y, l.rt, l.nx, fun _ _ y => y⟩ z')
  | false =>
    have z' : E.nx ρ μ1 := z
    exact iteF (l.nx _ _ z')) (st m ρ μ w)⟩
theorem d_while {X : Cx} {c : Expr} {body : List Stmt} {tc : TD} {tb : SD} {pos : Pos} (hp : PassesOwn (model X.prog X.w) X.A X.env X.xe) (hc : PTD X c tc) (hb : PSsD X body tb) : PSD X (.While c body [] pos) (dWhile tc tb) := by
  refine ⟨PS.imp (ps_while hp hc.pt hb.ps) fun E σ H ⟨ρ, μ, R, W, ⟨m, w0⟩, st⟩ => ?_, dWhile_mono hc.mono hb.mono⟩
  refine ⟨fun k σ' H' => ∃ ρ' μ', Stp H μ H' μ' ∧ RS X.K H' σ' ρ' μ' ∧ W k ρ' μ', ⟨m, ρ, μ, Same.refl _, R, w0⟩, ?_⟩
  rintro k σ' H' ⟨ρ', μ', s, R', w⟩
  refine upT_bind R' hc.mono (st k ρ' μ' w) fun b μ1 H1 q1 s1 R1 => ?_
  have s01 := s.trans s1
  cases b with
  | false => exact iteF (((if_neg (by decide)).mp q1 : liftN X.K H μ E.nx ρ' μ1) σ' H1 s01 R1)
  | true =>
    refine iteT ⟨fun σ2 H2 => ∃ m', m' < k ∧ ∃ ρ2 μ2, Stp H μ H2 μ2 ∧ RS X.K H2 σ2 ρ2 μ2 ∧ W m' ρ2 μ2, fun σ2 H2 ⟨m', lt, z⟩ => ⟨m', lt, z⟩, ρ', μ1, R1, hb.mono _ _ _ _ ?_ ((if_pos rfl).mp q1)⟩
    have nx : ∀ ρ2 μ2, (∃ m', m' < k ∧ W m' ρ2 μ2) → ∀ σ2 H2, Stp H1 μ1 H2 μ2 → RS X.K H2 σ2 ρ2 μ2 → ∃ m', m' < k ∧ ∃ ρ2 μ2, Stp H μ H2 μ2 ∧ RS X.K H2 σ2 ρ2 μ2 ∧ W m' ρ2 μ2 :=
      fun ρ2 μ2 ⟨m', lt, z⟩ σ2 H2 s2 R2 => ⟨m', lt, ρ2, μ2, s01.trans s2, R2, z⟩
    exact ⟨nx, fun d μ2 => lift_stp s01, fun ρ2 μ2 => liftN_stp s01, nx⟩

/-! ### equality -/
def eqS : D → D → Option Bool
  | .int i, .int j => some (decide (i = j))
  | .str a, .str b => some (decide (a = b))
  | .bl a, .bl b => some (decide (a = b))
  | .non, .non => some true
  | _, _ => none
def rEqS (neg : Bool) : R2D := fun a b μ Q => match eqS a b with
  | some r => Q (.bl (if neg then !r else r)) μ
  | none => False
theorem rEqS_mono {neg : Bool} : Mono2 (rEqS neg) := fun a b μ Q Q' h q => by
  unfold rEqS at q ⊢
  split at q
  · exact h _ _ q
  · exact q.elim
theorem eqS_of {K : PySem.W.Frag} {G : Hp} {x y : V} {a b : D} {r : Bool} (ra : Rep K G x a) (rb : Rep K G y b) (h : eqS a b = some r) : scal x y = true ∧ decide (x = y) = r := by
  cases ra <;> cases rb <;> first | cases h | skip
  · exact ⟨rfl, rfl⟩
  · rename_i a b
    refine ⟨rfl, ?_⟩
    cases a <;> cases b <;> rfl
  · rename_i i j
    refine ⟨rfl, ?_⟩
    by_cases e : i = j
    · subst e; simp
    · simp [e]
  · rename_i a b
    refine ⟨rfl, ?_⟩
    by_cases e : a = b
    · subst e; simp
    · have : enc a ≠ enc b := fun z => e (enc_inj z)
      simp [e, this]
section
variable {X : Cx}
theorem o_eqS : OpD X (compareOp .Eq) (rEqS false) := by
  refine ⟨OpR.imp op_eq fun x y H Q ⟨a, b, μ, m, ra, rb, q⟩ => ?_, rEqS_mono⟩
  unfold rEqS at q
  split at q
  · rename_i r e
    obtain ⟨e1, e2⟩ := eqS_of ra rb e
    exact ⟨e1, by rw [e2]; exact q _ H (Same.refl _) m (.bl _)⟩
  · exact q.elim
theorem o_neS : OpD X (compareOp .NotEq) (rEqS true) := by
  refine ⟨OpR.imp op_ne fun x y H Q ⟨a, b, μ, m, ra, rb, q⟩ => ?_, rEqS_mono⟩
  unfold rEqS at q
  split at q
  · rename_i r e
    obtain ⟨e1, e2⟩ := eqS_of ra rb e
    exact ⟨e1, by rw [e2]; exact q _ H (Same.refl _) m (.bl _)⟩
  · exact q.elim
end
/-! .. of nested data -/
mutual
def toPy : D → Option PyData
  | .non => some .none
  | .bl b => some (.bool b)
  | .int i => some (.int i)
  | .str s => some (.str (enc s))
  | .tup ds => (toPys ds).map .tuple
  | .lst ds => (toPys ds).map .list
  | _ => none
def toPys : List D → Option (List PyData)
  | [] => some []
  | d :: ds => match toPy d, toPys ds with
    | some p, some ps => some (p :: ps)
    | _, _ => none
end
mutual
theorem dp_of {K : PySem.W.Frag} {H G : Hp} (s : Same G H) : ∀ {v : V} {d : D} {p : PyData}, Rep K G v d → toPy d = some p → Dp K H v p
  | _, _, _, .non, e => by cases e; exact .non
  | _, _, _, .bl b, e => by cases e; exact .bl b
  | _, _, _, .int i, e => by cases e; exact .int i
  | _, _, _, .str t, e => by cases e; exact .str _
  | _, _, _, .ty _, e => by cases e
  | _, _, _, .ob _, e => by cases e
  | _, _, _, .fn _ _, e => by cases e
  | _, _, _, .dct _ _ _, e => by cases e
  | _, _, _, .dcl _ _ _, e => by cases e
  | _, _, _, .tup (ds := ds) h r, e => by
    unfold toPy at e
    cases q : toPys ds with
    | none => rw [q] at e; cases e
    | some ps =>
      rw [q] at e
      cases e
      exact .tup (sqT_mono s h) (dps_of s r q)
  | _, _, _, .lst (ds := ds) h r, e => by
    unfold toPy at e
    cases q : toPys ds with
    | none => rw [q] at e; cases e
    | some ps =>
      rw [q] at e
      cases e
      exact .lst (s.seq h) (dps_of s r q)
theorem dps_of {K : PySem.W.Frag} {H G : Hp} (s : Same G H) : ∀ {vs : List V} {ds : List D} {ps : List PyData}, Reps K G vs ds → toPys ds = some ps → DpAll K H vs ps
  | _, _, _, .nil, e => by cases e; exact .nil
  | _, _, _, .cons (d := d) (ds := ds) h r, e => by
    unfold toPys at e
    cases q1 : toPy d with
    | none => rw [q1] at e; cases e
    | some p =>
      cases q2 : toPys ds with
      | none => rw [q1, q2] at e; cases e
      | some ps =>
        rw [q1, q2] at e
        cases e
        exact .cons (dp_of s h q1) (dps_of s r q2)
end
/-- nested data, at most 64 deep -/
def shapeD (d : D) : Option PyData := match toPy d with
  | some p => if SeqAt.shaped p = true then some p else none
  | none => none
def rEqDD (neg : Bool) : R2D := fun a b μ Q => match shapeD a, shapeD b with
  | some p, some q => Q (.bl (if neg then !PyData.eqv p q else PyData.eqv p q)) μ
  | _, _ => False
theorem rEqDD_mono {neg : Bool} : Mono2 (rEqDD neg) := fun a b μ Q Q' h q => by
  unfold rEqDD at q ⊢
  split at q
  · exact h _ _ q
  · exact q.elim
theorem shape_of {K : PySem.W.Frag} {H : Hp} {μ : Mu} {v : V} {d : D} {p : PyData} (r : Rep K (cut H μ) v d) (e : shapeD d = some p) : Dp K H v p ∧ SeqAt.shaped p = true := by
  unfold shapeD at e
  split at e
  · rename_i p' e1
    split at e
    · rename_i h
      cases e
      exact ⟨dp_of cut_sub r e1, h⟩
    · cases e
  · cases e
section
variable {X : Cx}
theorem o_eqDD (hu : X.A.units + 64 < cLine) : OpD X (compareOp .Eq) (rEqDD false) := by
  refine ⟨OpR.imp (op_eqD hu) fun x y H Q ⟨a, b, μ, m, ra, rb, q⟩ => ?_, rEqDD_mono⟩
  unfold rEqDD at q
  split at q
  · rename_i p r e1 e2
    obtain ⟨p1, p2⟩ := shape_of ra e1
    obtain ⟨r1, r2⟩ := shape_of rb e2
    exact ⟨p, r, p1, r1, p2, r2, q _ H (Same.refl _) m (.bl _)⟩
  · exact q.elim
theorem o_neDD (hu : X.A.units + 64 < cLine) : OpD X (compareOp .NotEq) (rEqDD true) := by
  refine ⟨OpR.imp (op_neD hu) fun x y H Q ⟨a, b, μ, m, ra, rb, q⟩ => ?_, rEqDD_mono⟩
  unfold rEqDD at q
  split at q
  · rename_i p r e1 e2
    obtain ⟨p1, p2⟩ := shape_of ra e1
    obtain ⟨r1, r2⟩ := shape_of rb e2
    exact ⟨p, r, p1, r1, p2, r2, q _ H (Same.refl _) m (.bl _)⟩
  · exact q.elim
end
end DL

set_option Elab.async false
set_option linter.all false
set_option maxRecDepth 100000
set_option maxHeartbeats 2000000
namespace DL
open PySem PySem.Spec PyProof.Rows L2 NdefX LamX

/-! ### a dict of the module, texts to tuples of texts -/
structure KTab (K : PySem.W.Frag) (w : World) (a : Addr) (tab : List (String × List String)) : Prop where
  dict : ∃ es n, KDict K w a es n
  get : ∀ x sl, (x, sl) ∈ tab → ∃ p, PySem.W.nsIn K a (enc x) = some (some (.ref p)) ∧ ∃ o its n, K.lookup p = some o ∧ o.cls = .type "tuple" ∧ o.data = .seq its n ∧ its.size ≤ sizeLine ∧ Vals (sl.map fun s => V.str (enc s)) its.toList
def gob (a : Addr) : D := .fn a [] [] []
theorem rep_gob {K : PySem.W.Frag} (a : Addr) (G : Hp) : Rep K G (.ref a) (gob a) := .fn (fun _ h => nomatch h) .nil
def rKdIn (a : Addr) (tab : List (String × List String)) (neg : Bool) : R2D := fun x y μ Q => match x, y with
  | .str w, .fn b _ _ _ => b = a ∧ (∃ sl, (w, sl) ∈ tab) ∧ Q (.bl (!neg)) μ
  | _, _ => False
theorem rKdIn_mono {a : Addr} {tab : List (String × List String)} {neg : Bool} : Mono2 (rKdIn a tab neg) := fun x y μ Q Q' h q => by
  unfold rKdIn at q ⊢
  split at q
  · exact ⟨q.1, q.2.1, h _ _ q.2.2⟩
  · exact q.elim
def rKdIx (a : Addr) (tab : List (String × List String)) : R2D := fun y x μ Q => match x, y with
  | .str w, .fn b _ _ _ => b = a ∧ ∃ sl, (w, sl) ∈ tab ∧ Q (.tup (sl.map .str)) μ
  | _, _ => False
theorem rKdIx_mono {a : Addr} {tab : List (String × List String)} : Mono2 (rKdIx a tab) := fun x y μ Q Q' h q => by
  unfold rKdIx at q ⊢
  split at q
  · obtain ⟨h1, sl, h2, q⟩ := q
    exact ⟨h1, sl, h2, h _ _ q⟩
  · exact q.elim
theorem reps_str {K : PySem.W.Frag} {G : Hp} : ∀ sl : List String, Reps K G (sl.map fun s => V.str (enc s)) (sl.map D.str)
  | [] => .nil
  | s :: sl => .cons (.str s) (reps_str sl)
section
variable {X : Cx} {a : Addr} {tab : List (String × List String)}
theorem o_kdIn (T : KTab X.K X.w a tab) : OpD X (compareOp .In) (rKdIn a tab false) := by
  obtain ⟨es, n, kd⟩ := T.dict
  refine ⟨OpR.imp (op_in_kd kd) fun x y H Q ⟨dx, dy, μ, m, rx, ry, q⟩ => ?_, rKdIn_mono⟩
  unfold rKdIn at q
  split at q
  · obtain ⟨rfl, ⟨sl, hm⟩, q⟩ := q
    obtain ⟨p, e, _⟩ := T.get _ _ hm
    cases rx
    cases ry
    exact ⟨_, some (.ref p), rfl, rfl, e, q _ H (Same.refl _) m (.bl _)⟩
  · exact q.elim
theorem o_kdNotIn (T : KTab X.K X.w a tab) : OpD X (compareOp .NotIn) (rKdIn a tab true) := by
  obtain ⟨es, n, kd⟩ := T.dict
  refine ⟨OpR.imp (op_notIn_kd kd) fun x y H Q ⟨dx, dy, μ, m, rx, ry, q⟩ => ?_, rKdIn_mono⟩
  unfold rKdIn at q
  split at q
  · obtain ⟨rfl, ⟨sl, hm⟩, q⟩ := q
    obtain ⟨p, e, _⟩ := T.get _ _ hm
    cases rx
    cases ry
    exact ⟨_, some (.ref p), rfl, rfl, e, q _ H (Same.refl _) m (.bl _)⟩
  · exact q.elim
theorem ix_kd (T : KTab X.K X.w a tab) : IxDD X (rKdIx a tab) := by
  obtain ⟨es, n, kd⟩ := T.dict
  refine ⟨IxR.imp ix_kdict fun y x H Q ⟨dy, dx, μ, m, ry, rx, q⟩ => ?_, rKdIx_mono⟩
  unfold rKdIx at q
  split at q
  · obtain ⟨rfl, sl, hm, q⟩ := q
    obtain ⟨p, e, o, its, k, e1, e2, e3, e4, e5⟩ := T.get _ _ hm
    cases rx
    cases ry
    exact ⟨_, _, .ref p, rfl, rfl, ⟨es, n, .ref p, kd.at_, kd.lit, e, rfl⟩, q _ H (Same.refl _) m (.tup (.inr ⟨o, its, k, e1, e2, e3, e4, e5⟩) (reps_str sl))⟩
  · exact q.elim
end
end DL

set_option Elab.async false
set_option linter.all false
set_option maxRecDepth 100000
set_option maxHeartbeats 2000000
namespace DL
open PySem PySem.Spec PyProof.Rows L2 NdefX LamX

def dNeg (t : ED) : ED := fun ρ μ Q => t ρ μ fun d μ1 => match d with
  | .int i => Q (.int (-i)) μ1
  | _ => False
def dChain (r r' : R2D) (ta tb tc : ED) : ED := fun ρ μ Q => ta ρ μ fun x μ1 => tb ρ μ1 fun y μ2 => r x y μ2 fun z μ3 => match z with
  | .bl true => tc ρ μ3 fun w μ4 => r' y w μ4 Q
  | .bl false => Q (.bl false) μ3
  | _ => False
section
variable {X : Cx} {a b c : Expr} {ta tb tc : ED} {pos : Pos}
theorem d_neg (h : PD X a ta) : PD X (.UnaryOp .USub a pos) (dNeg ta) := by
  refine ⟨PE.imp (pe_un un_neg h.pe) fun σ H Q ⟨ρ, μ, R, q⟩ => ?_, fun ρ μ Q Q' h2 q => h.mono _ _ _ _ (fun d μ1 z => ?_) q⟩
  · refine up_bind R h.mono q fun d μ' v H' q1 s R1 r1 => ?_
    cases r1 <;> first | exact ⟨_, rfl, q1 _ H' s R1.mem (.int _)⟩ | exact q1.elim
  · cases d <;> first | exact h2 _ _ z | exact z.elim
theorem d_chain {op op' : CmpOp} {r r' : R2D} (o1 : OpD X (compareOp op) r) (o2 : OpD X (compareOp op') r') (ha : PD X a ta) (hb : PD X b tb) (hc : PD X c tc) (hl : lastMarks [op, op'] [b, c] = false := by rfl) : PD X (.Compare a [op, op'] [b, c] pos) (dChain r r' ta tb tc) := by
  refine ⟨PE.imp (pe_chain o1.run o2.run ha.pe hb.pe hc.pe hl) fun σ H Q ⟨ρ, μ, R, q⟩ => ?_, fun ρ μ Q Q' h2 q => ha.mono _ _ _ _ (fun x μ1 z1 => hb.mono _ _ _ _ (fun y μ2 z2 => o1.mono _ _ _ _ _ (fun z μ3 z3 => ?_) z2) z1) q⟩
  · refine up_bind R ha.mono q fun x μ1 v1 H1 q1 s1 R1 r1 => up_bind R1 hb.mono q1 fun y μ2 v2 H2 q2 s2 R2 r2 => ?_
    refine ⟨x, y, μ2, R2.mem, r1.mono s2, r2, o1.mono _ _ _ _ _ (fun z μ3 z3 v3 H3 s3 m3 r3 => ?_) q2⟩
    cases r3 with
    | bl k =>
      refine ⟨k, rfl, ?_⟩
      have R3 := R2.step s3 m3
      cases k with
      | false => exact iteF (z3 _ H3 (s1.trans (s2.trans s3)) m3 (.bl _))
      | true =>
        refine iteT (up_bind R3 hc.mono z3 fun w μ4 v4 H4 q4 s4 R4 r4 => ?_)
        exact ⟨y, w, μ4, R4.mem, (r2.mono s3).mono s4, r4, o2.mono _ _ _ _ _ (fun d μ5 z5 v5 H5 s5 m5 r5 => z5 v5 H5 (s1.trans (s2.trans (s3.trans (s4.trans s5)))) m5 r5) q4⟩
    | _ => exact z3.elim
  · cases z with
    | bl k =>
      cases k with
      | true => exact hc.mono _ _ _ _ (fun w μ4 z4 => o2.mono _ _ _ _ _ h2 z4) z3
      | false => exact h2 _ _ z3
    | _ => exact z3.elim
end

/-! ### a called def, all that a call asks -/
structure Gt (P : Program) (w : World) (K : PySem.W.Frag) (mg : Str → Option Value) (base : Heap) (k : Nat) (x : Str) (ps : List Str) (sp : RLD) (f : Addr) (fd : FuncData) : Prop where
  F : FnOk P w K mg base CX0 k f fd ps (spUp K sp)
  mono : MonoL sp
  m : mg x = some (.ref f)
  k : PySem.W.keepIn K (.ref f) = true
  b : Binds K fd ps []
/-- built-in names stand -/
structure NoG (mg : Str → Option Value) : Prop where
  type : mg "type" = none
  tuple : mg "tuple" = none
  int : mg "int" = none
  str : mg "str" = none
  bool : mg "bool" = none
  list : mg "list" = none
  len : mg "len" = none
  all : mg "all" = none
  isinstance : mg "isinstance" = none
  range : mg "range" = none
  zip : mg "zip" = none
  reversed : mg "reversed" = none
  enumerate : mg "enumerate" = none
theorem hu1 {k : Nat} {A : Around} (r : Room k A) : A.units + 1 < cLine := by have := r.un; omega
theorem hu64 {k : Nat} {A : Around} (r : Room k A) : A.units + 64 < cLine := by have := r.un; omega
/-- at an end: what was made may be forgotten -/
theorem sub_mset {μ μ' : Mu} {p : Addr} {o : MO} (h : μ p = none) (s : Sub μ μ') : Sub μ (mset μ' p o) := fun a u e => by
  rw [mset_ne (fun z => by rw [z, h] at e; cases e)]
  exact s a u e
theorem none_of {μ μ' : Mu} (s : Sub μ μ') {p : Addr} (h : μ' p = none) : μ p = none := by
  cases e : μ p with
  | none => rfl
  | some o => rw [s p o e] at h; cases h
theorem retD_same {Q : DK} {d : D} {μ : Mu} (h : Q d μ) : retD Q d μ := ⟨μ, Sub.refl, h⟩
end DL

set_option Elab.async false
set_option linter.all false
set_option maxRecDepth 100000
set_option maxHeartbeats 2000000
namespace DL
open PySem PySem.Spec PyProof.Rows L2 NdefX LamX

/-! ### xs.index(y) of a list of the store -/
def dIndex (to : ED) (t : AD) : ED := fun ρ μ Q => to ρ μ fun d μ1 => match d with
  | .ob a => match μ1 a with
    | some (.lst _) => t ρ μ1 fun ds μ2 => match ds with
      | [y] => match μ2 a with
        | some (.lst xs) => flatD y = true ∧ xs.all flatD = true ∧ ∃ (j : Nat) (z : D), xs[j]? = some z ∧ eqF z y = true ∧ (∀ (m : Nat) (z' : D), m < j → xs[m]? = some z' → eqF z' y = false) ∧ Q (.int (j : Nat)) μ2
        | _ => False
      | _ => False
    | _ => False
  | _ => False
section
variable {X : Cx} {o e : Expr} {es : List Expr} {to : ED} {t : AD} {apos cpos : Pos}
theorem d_index (ho : PD X o to) (ha : PAD X (e :: es) t) (h1 : attributeBase o "index" X.env (eval o X.env) = eval o X.env := by rfl)
    (h2 : (((((backTo cpos (starEach (e :: es) X.env)).all fun x => !x.fst) && (backToKw cpos (keywordEach [] X.env)).all fun x => x.fst.isSome) && decide (((e :: es).length + ([] : List Keyword).length + if ([] : List Keyword).isEmpty = true then 0 else 1) < 30)) = true) := by rfl)
    (h3 : (apos.endLine == cpos.line) = true := by rfl) (h4 : starEach (e :: es) X.env = (false, eval e X.env) :: starEach es X.env := by rfl) (h5 : (((backTo cpos (starEach es X.env)).any fun x => x.fst) = false) := by rfl) :
    PD X (.Call (.Attribute o "index" apos) (e :: es) [] cpos) (dIndex to t) := by
  refine ⟨PE.imp (pe_bm PySem.F.plainAttrs_list PySem.F.slot_list_index PySem.F.type_list_index mt_index ho.pe ha.pa h1 h2 h3 h4 h5) fun σ H Q ⟨ρ, μ, R, q⟩ => ?_, fun ρ μ Q Q' h q => ho.mono _ _ _ _ (fun d μ1 z => ?_) q⟩
  · refine up_bind R ho.mono q fun d μ1 v1 H1 q1 s1 R1 r1 => ?_
    cases r1 with
    | ob a =>
      simp only at q1
      cases e0 : μ1 a with
      | none => simp only [e0] at q1
      | some u =>
        cases u with
        | lst ds0 =>
          simp only [e0] at q1
          obtain ⟨ws, k1, _⟩ := R1.mem a _ e0
          refine ⟨Or.inl ⟨rfl, ws, SqL.of k1⟩, upA_bind R1 ha.mono q1 fun ds μ2 vs H2 q2 s2 R2 r2 => ?_⟩
          split at q2
          · cases r2 with
            | cons ry rt =>
              cases rt
              split at q2
              · rename_i xs ex
                obtain ⟨g1, g2, j, z, g3, g4, g5, q3⟩ := q2
                obtain ⟨ys, k2, rx⟩ := R2.mem a _ ex
                obtain ⟨zv, z1, z2⟩ := rx.get g3
                refine ⟨a, ys, _, j, zv, rfl, rfl, SqL.of k2, by rw [flat_of ry]; exact g1, by rw [flats_of rx]; exact g2, z1, by rw [eqF_of z2 ry]; exact g4, fun m z' hm hz => ?_, q3 _ H2 (s1.trans s2) R2.mem (.int _)⟩
                obtain ⟨d', y1, y2⟩ := rx.getV hz
                rw [eqF_of y2 ry]
                exact g5 m d' hm y1
              · exact q2.elim
          · exact q2.elim
        | dct ks ds0 => simp only [e0] at q1
        | tab nm => simp only [e0] at q1
    | _ => exact q1.elim
  · cases d <;> first | exact z.elim | skip
    simp only at z ⊢
    split at z
    · refine ha.mono _ _ _ _ (fun ds μ2 y => ?_) z
      split at y
      · split at y
        · obtain ⟨g1, g2, j, z, g3, g4, g5, q3⟩ := y
          exact ⟨g1, g2, j, z, g3, g4, g5, h _ _ q3⟩
        · exact y.elim
      · exact y.elim
    · exact z.elim
end
end DL

set_option Elab.async false
set_option linter.all false
set_option maxRecDepth 100000
set_option maxHeartbeats 2000000
namespace DL
open PySem PySem.Spec PyProof.Rows L2 NdefX LamX

/-! ### functions as data, those of the module's top too -/
def IsFnK (K : PySem.W.Frag) (f : Addr) (os : List (Addr × HO)) : Prop := IsFnO f os ∨ ∃ oc od fd osl, K.lookup f = some ⟨oc, od, .func fd, osl⟩
/-- x(..), x a name that holds a function -/
def dCallX (X : Cx) (ce : Ce) (i : Nat) (t : AD) : ED := fun ρ μ Q => match ρ[i]? with
  | some (some (.fn f os vs caps)) => IsFnK X.K f os ∧ t ρ μ fun ds μ1 => ∃ k sp, CloK X.prog X.w X.K X.mg X.base k f (clFacts X.K os vs caps) ce sp ∧ Room k X.A ∧ MonoL sp ∧ sp ds μ1 Q
  | _ => False
theorem d_callX {X : Cx} {ce : Ce} (hce : CeX X ce) (i : Nat) {x : Str} {p pos : Pos} {e : Expr} {es : List Expr} {t : AD} (ha : PAD X (e :: es) t) (hN : X.N[i]? = some x := by rfl) (hv : Vis X.env.scope x := by first | exact Or.inl rfl | exact Or.inr (Or.inl rfl) | exact Or.inr (Or.inr rfl))
    (hd : (x == ("__debug__" : Str)) = false := by decide) (hcd : (x == ("__classdict__" : Str)) = false := by decide)
    (he : starEach (e :: es) X.env = (false, eval e X.env) :: starEach es X.env := by rfl) (hpl : (backTo pos (starEach es X.env)).any (·.1) = false := by rfl) : PD X (.Call (.Name x p) (e :: es) [] pos) (dCallX X ce i t) := by
  refine ⟨⟨fun pins s σ H Q I ⟨ρ, μ, R, q⟩ => ?_⟩, fun ρ μ Q Q' h q => ?_⟩
  · unfold dCallX at q
    split at q
    · rename_i f os cvs caps e0
      obtain ⟨hfn, q⟩ := q
      obtain ⟨v0, hs0, r0⟩ := R.slot i _ e0
      cases r0 with
      | fn hos hcaps =>
        have q1 : upA X.K t σ H fun vs H1 => ∃ ds μ1, Stp H μ H1 μ1 ∧ RM X.K H1 μ1 ∧ Reps X.K (cut H1 μ1) vs ds ∧ ∃ k sp, CloK X.prog X.w X.K X.mg X.base k f (clFacts X.K os cvs caps) ce sp ∧ Room k X.A ∧ MonoL sp ∧ sp ds μ1 (lift X.K H μ Q) :=
          upA_bind R ha.mono q fun ds μ1 vs H1 z s1 R1 r1 => ⟨ds, μ1, s1, R1.mem, r1, z⟩
        have fnat : ∀ {H1 : Hp} {μ1 : Mu} {s1 : Shared}, Stp H μ H1 μ1 → Inv X pins σ H1 s1 → PySem.W.FnAt f s1.heap := fun {H1 μ1 s1} st J => by
          rcases hfn with ⟨φ, hmem, hφ⟩ | ⟨oc, od, fd, osl, l⟩
          · exact hφ _ (J.hok f _ (cut_sub _ _ (st _ _ (hos (f, .ext φ) hmem)))).1
          · exact ⟨oc, od, fd, osl, J.kIn _ _ l⟩
        refine wpAny_Call_Name_kw (thn ((pe_var (pos := p) hN hv hd hcd).run pins s σ H (fun v H1 => v = .ref f ∧ H1 = H) I ⟨.ref f, hs0, rfl, rfl⟩) fun u s1 ⟨v, H1, I1, r1, ev, eH⟩ => ?_)
        subst ev
        rw [eH] at I1
        cases (show u = Value.ref f from r1)
        refine PySem.W.callWith_F (first := []) (fnat (Same.refl _) I1) (thn (ha.pa.run pos pins s1 σ H _ I1 q1) fun us s2 ⟨vs, H2, I2, rv, ds, μ1, st, m2, rd, k, sp, cl, room, ms, z⟩ => ⟨fnat st I2, ?_⟩) he hpl
        show wpAny _ _ (call (.ref f) us) _ _ _
        refine wpAny_call (codeAny_mono (cl X.A X.stack s2 H2 μ1 us vs ds Q room I2.env0 m2 ⟨fun y hy => st _ _ (hos y hy), hcaps.mono st⟩ (hce.now I2) rv rd (ms _ _ _ _ (fun d μ' y => lift_stp st y) z)) fun r s' hq => ?_)
        cases r with
        | error e => exact False.elim hq
        | ok fl =>
          cases fl with
          | ret u => exact I2.after hq
          | _ => exact False.elim hq
    · exact q.elim
  · unfold dCallX at q ⊢
    split at q
    · exact ⟨q.1, ha.mono _ _ _ _ (fun ds μ1 ⟨k, sp, c1, c2, c3, z⟩ => ⟨k, sp, c1, c2, c3, c3 _ _ _ _ h z⟩) q.2⟩
    · exact q.elim
section
variable {P : Program} {w : World} {K : PySem.W.Frag} {mg : Str → Option Value} {base : Heap} {k : Nat} {x : Str} {ps : List Str} {sp : RLD} {f : Addr} {fd : FuncData}
/-- a def of the module's top as data -/
theorem cloK_top (G : Gt P w K mg base k x ps sp f fd) (ce : Ce) : CloK P w K mg base k f (clFacts K [] [] []) ce sp := fun A outer s H μ us vs ds Q room e0 m _ _ rv rd q => by
  have hl : (us ++ []).length = ps.length := by
    rw [List.append_nil, ← rv.length]
    exact G.F.len vs H Q E0 ⟨ds, μ, m, rd, q⟩
  have hb := G.b s us (e0.mod.kin.keeps fun b o e => (e0.bs b o e).1) hl
  rw [List.append_nil] at hb
  exact G.F.run A outer s H ⟨us, []⟩ us vs Q E0 room e0 hb rv ⟨ds, μ, m, rd, q⟩
theorem isFnK_top {qual : Str} {st : Stmt} (F : Fun K x qual st f fd) : IsFnK K f [] := by
  obtain ⟨oc, od, kV, doc, pm, an, cdv, ct, osl, _, l, _⟩ := F.ex
  exact .inr ⟨oc, od, fd, osl, l⟩
end
theorem isFnK_of (K : PySem.W.Frag) (f : Addr) (F : NF) : IsFnK K f (osOf f F) := .inl (isFnO_of f F)
end DL
namespace DL
open PySem PySem.Spec PyProof.Rows L2 NdefX LamX
/-- f(..), f a def that takes functions, which are under way in this frame already -/
theorem d_callCe {X : Cx} {k : Nat} {f : Addr} {fd : FuncData} {ps : List Str} {sp : Ce → RLD} {x : Str} {p pos : Pos} {e : Expr} {es : List Expr} {t : AD} {ce : Ce} (hce : CeX X ce) (F : FnC X.prog X.w X.K X.mg X.base k f fd ps sp) (mono : ∀ ce, MonoL (sp ce)) (hr : Room k X.A) (hm : X.mg x = some (.ref f)) (hk : PySem.W.keepIn X.K (.ref f) = true) (hb : Binds X.K fd ps []) (ha : PAD X (e :: es) t) (hg : Gl X x := by rfl)
    (hdb : (x == ("__debug__" : Str)) = false := by decide) (he : starEach (e :: es) X.env = (false, eval e X.env) :: starEach es X.env := by rfl) (hpl : (backTo pos (starEach es X.env)).any (·.1) = false := by rfl) : PD X (.Call (.Name x p) (e :: es) [] pos) (dCa (sp ce) t) :=
  d_callC (cs := fun _ _ => True) (rr := fun _ _ _ => True) F hr hm hk hb ha (dCa_mono (mono ce) ha.mono) (fun pins σ H s ρ μ Q I R q => ha.mono _ _ _ _ (fun ds μ1 z vs H1 s1 _ _ _ I1 => ⟨ce, hce.now I1, z⟩) q) mono hg hdb he hpl
end DL

set_option Elab.async false
set_option linter.all false
set_option maxRecDepth 100000
set_option maxHeartbeats 2000000
namespace DL
open PySem PySem.Spec PyProof.Rows L2 NdefX LamX

/-! ### defs that raise -/
abbrev EXD := Value → Mu → Prop
/-- a promise with a wish about exceptions (classes without fields of their own) -/
abbrev RLX := List D → Mu → DK → EXD → Prop
def liftE (K : PySem.W.Frag) (H : Hp) (μ : Mu) (E : XK) : EXD := fun cls μ' => ∀ H', Stp H μ H' μ' → RM K H' μ' → E cls none H'
def spUpX (K : PySem.W.Frag) (p : RLX) : Sp := fun vs H Q E => ∃ ds μ, RM K H μ ∧ Reps K (cut H μ) vs ds ∧ p ds μ (lift K H μ Q) (liftE K H μ E)
def MonoX (p : RLX) : Prop := ∀ ds μ (Q Q' : DK) (E E' : EXD), (∀ d μ', Q d μ' → Q' d μ') → (∀ c μ', E c μ' → E' c μ') → p ds μ Q E → p ds μ Q' E'
theorem liftE_stp {K : PySem.W.Frag} {H H' : Hp} {μ μ' : Mu} {E : XK} (s : Stp H μ H' μ') {c : Value} {μ2 : Mu} (h : liftE K H μ E c μ2) : liftE K H' μ' E c μ2 := fun H2 s2 rm => h H2 (s.trans s2) rm
/-- what stands of an exception class of the program's own, without an __init__ -/
structure XCls (K : PySem.W.Frag) (mg : Str → Option Value) (x : Str) (C : Addr) : Prop where
  g : mg x = some (.ref C)
  exc : PySem.W.excIn K C [.type "ValueError", .type "Exception", .type "BaseException", .type "object"] "ValueError.__new__" = true
  keep : PySem.W.keepIn K (.ref C) = true
  base : PySem.W.subIn K (.ref C) (.type "BaseException") = some true
  type : PySem.W.typeIn K (.ref C) = some (.type "type")
  own : PySem.W.exmOne K (.ref C) (.ref C) = some true
section
variable {P : Program} {w : World} {K : PySem.W.Frag} {mg : Str → Option Value} {base : Heap}
/-- if test: raise X('..'); rest -/
theorem okGuard {x qual xn : Str} {st : Stmt} {f : Addr} {fd : FuncData} {N ps : List Str} {k : Nat} {p : RLX} {test : Expr} {m : Str} {j : Nat} {p1 p2 p3 p4 p5 : Pos} {rest : List Stmt} {C : Addr} (F : Fun K x qual st f fd) (S : FnScope N ps (defScope st))
    (hst : defBody st = .If test [.Raise (some (.Call (.Name xn p1) [.Constant (.str m) j p2] [] p3)) none p4] [] p5 :: rest) (len : ∀ ds μ Q E, p ds μ Q E → ds.length = ps.length) (XC : XCls K mg xn C)
    (hg : ∀ (cdv : Value) (A : Around) (outer : List Env) (s : Shared) (H : Hp) (E : XK), Gl (cxOf (L2.CX P w) P w K mg base N qual (defScope st) f cdv A outer s H E) xn) (hdb : (xn == ("__debug__" : Str)) = false)
    (hbody : ∀ (cdv : Value) (A : Around) (outer : List Env) (s : Shared) (H : Hp) (E : XK), Room k (A.deeper (envOfC qual (defScope st) s.heap.objs.size f cdv)) →
      ∃ tc tr, PTD (cxOf (L2.CX P w) P w K mg base N qual (defScope st) f cdv A outer s H E) test tc ∧ PSsD (cxOf (L2.CX P w) P w K mg base N qual (defScope st) f cdv A outer s H E) rest tr ∧
        ∀ ds μ Q EX, p ds μ Q EX → tc (startD N ds) μ fun b μ1 => if b = true then EX (.ref C) μ1 else tr (endsOf Q) (startD N ds) μ1) : FnOk P w K mg base (L2.CX P w) (k + 1) f fd ps (spUpX K p) := by
  refine F.okX S (fun vs H Q E ⟨ds, μ, m, r, q⟩ => r.length.trans (len ds μ _ _ q)) fun cdv A outer s H vs Q E hr ⟨ds, μ, mm, r, q⟩ => ?_
  obtain ⟨tc, tr, hc, hr2, hq⟩ := hbody cdv A outer s H E hr
  have hraise := ps_raise (X := cxOf (L2.CX P w) P w K mg base N qual (defScope st) f cdv A outer s H E) (pos := p4) rfl (takes_of rfl rfl rfl rfl) (pmk_own (m := m) (j := j) (p := p1) (p2 := p2) (pos := p3) PySem.F.excBase_ValueError XC.exc XC.g XC.keep (raises_own XC.base XC.type) (hg cdv A outer s H E) hdb)
  rw [hst]
  refine ⟨_, pss_cons (ps_if hc.pt (pss_one hraise) pss_nil) hr2.ps, ?_⟩
  have R : RS K H (start N vs) (startD N ds) μ := start_RS mm r
  refine upT_bind R hc.mono (hq ds μ _ _ q) fun b μ1 H1 q1 s1 R1 => ?_
  cases b with
  | true =>
    have z : liftE K H μ E (.ref C) μ1 := (if_pos rfl).mp q1
    exact iteT (z H1 s1 R1.mem)
  | false =>
    have z : tr (endsOf (lift K H μ Q)) (startD N ds) μ1 := (if_neg (by decide)).mp q1
    refine iteF ⟨startD N ds, μ1, R1, hr2.mono _ _ _ _ ⟨fun ρ' μ' z σ' H' s' R' => ?_, fun d μ' z v H' s' m' r' => ?_, fun _ _ z => False.elim z, fun _ _ z => False.elim z⟩ z⟩
    · obtain ⟨μ2, sb, z⟩ := z
      exact z _ H' (s1.trans (s'.trans sb.cut)) (R'.mem.sub sb) .non
    · obtain ⟨μ2, sb, z⟩ := z
      exact z v H' (s1.trans (s'.trans sb.cut)) (m'.sub sb) (r'.mono sb.cut)
/-- a called def that may raise, all that a call asks -/
structure GtX (P : Program) (w : World) (K : PySem.W.Frag) (mg : Str → Option Value) (base : Heap) (k : Nat) (x : Str) (ps : List Str) (sp : RLX) (f : Addr) (fd : FuncData) : Prop where
  F : FnOk P w K mg base (L2.CX P w) k f fd ps (spUpX K sp)
  mono : MonoX sp
  m : mg x = some (.ref f)
  k : PySem.W.keepIn K (.ref f) = true
  b : Binds K fd ps []
end
/-- it does not raise here -/
def calmX (p : RLX) : RLD := fun ds μ Q => p ds μ Q fun _ _ => False
theorem calmX_mono {p : RLX} (m : MonoX p) : MonoL (calmX p) := fun ds μ Q Q' i q => m ds μ _ _ _ _ i (fun _ _ z => z) q
section
variable {X : Cx} {k : Nat} {f : Addr} {fd : FuncData} {ps : List Str} {p : RLX} {x xn : Str} {np pos cpos hpos tpos epos : Pos} {e : Expr} {es : List Expr} {t : AD} {ts : SD} {C : Addr} {b₀ : Stmt} {suite : List Stmt}
theorem passC {X : Cx} : Passes (L2.CX X.prog X.w) X L2.E0 := fun _ _ _ _ _ _ _ h => by
  obtain ⟨_, _, _, _, _, _, _, _, _, _, _, _, z⟩ := h
  exact z.elim
/-- a call that does not raise -/
theorem d_callQ (G : GtX X.prog X.w X.K X.mg X.base k x ps p f fd) (hr : Room k X.A) (ha : PAD X (e :: es) t) (hg : Gl X x := by rfl)
    (hdb : (x == ("__debug__" : Str)) = false := by decide) (he : starEach (e :: es) X.env = (false, eval e X.env) :: starEach es X.env := by rfl) (hpl : (backTo pos (starEach es X.env)).any (·.1) = false := by rfl) : PD X (.Call (.Name x np) (e :: es) [] pos) (dCa (calmX p) t) := by
  refine ⟨PE.imp (pe_call G.F hr hg G.m G.k G.b .nil passC ha.pa hdb he hpl) fun σ H Q ⟨ρ, μ, R, q⟩ => ?_, dCa_mono (calmX_mono G.mono) ha.mono⟩
  refine upA_bind R ha.mono q fun ds μ1 vs H1 q1 s1 R1 r1 => ?_
  rw [List.append_nil]
  exact ⟨ds, μ1, R1.mem, r1, G.mono ds μ1 _ _ _ _ (fun d μ' => lift_stp s1) (fun _ _ (z : False) => z.elim) q1⟩
/-- try: f(..) except X: suite -/
def dTryX (p : RLX) (t : AD) (ts : SD) (C : Addr) : SD := fun E ρ μ => t ρ μ fun ds μ1 => p ds μ1 (fun _ μ2 => E.nx ρ μ2) fun cls μ2 => cls = .ref C ∧ ts E ρ μ2
theorem dTryX_mono {p : RLX} {t : AD} {ts : SD} {C : Addr} (mp : MonoX p) (mt : MonoA t) (ms : MonoS ts) : MonoS (dTryX p t ts C) := fun E E' ρ μ l q =>
  mt _ _ _ _ (fun ds μ1 z => mp _ _ _ _ _ _ (fun _ μ2 y => l.nx _ _ y) (fun cls μ2 y => ⟨y.1, ms _ _ _ _ l y.2⟩) z) q
theorem d_tryX (XC : XCls X.K X.mg xn C) (hs : X.stack = X.env :: X.outer) (hf : X.env.frame = some X.env.locals) (hgx : Gl X xn) (hdx : (xn == ("__debug__" : Str)) = false) (G : ∀ (pn : List (Addr × Obj)) (xe : Value → Shared → Prop), GtX (X.tr pn xe).prog (X.tr pn xe).w (X.tr pn xe).K (X.tr pn xe).mg (X.tr pn xe).base k x ps p f fd) (hr : Room k X.A)
    (mp : MonoX p) (ha : ∀ (pn : List (Addr × Obj)) (xe : Value → Shared → Prop), PAD (X.tr pn xe) (e :: es) t) (hsu : ∀ (a : Addr) (oe : Obj) (pn : List (Addr × Obj)), PSsD (X.suite a ((a, oe) :: pn)) (b₀ :: suite) ts)
    (hg : ∀ (pn : List (Addr × Obj)) (xe : Value → Shared → Prop), Gl (X.tr pn xe) x) (hdb : (x == ("__debug__" : Str)) = false) (he : starEach (e :: es) X.env = (false, eval e X.env) :: starEach es X.env := by rfl) (hpl : (backTo cpos (starEach es X.env)).any (·.1) = false := by rfl)
    (hsw : swapsWith (.Call (.Name x np) (e :: es) [] cpos) none epos.line X.env = pure false := by rfl) :
    PSD X (.Try [.Expr (.Call (.Name x np) (e :: es) [] cpos) epos] [.ExceptHandler (some (.Name xn hpos)) none (b₀ :: suite) tpos] [] [] pos) (dTryX p t ts C) := by
  have mt : MonoA t := (ha [] fun _ _ => False).mono
  have ms : MonoS ts := (hsu 0 { cls := .none, data := .fields #[] } []).mono
  refine ⟨PS.imp (ps_try_only hs hf (⟨hgx, hdx, .inl XC.g⟩ : Names X xn (.ref C)) L2.takes0 (tb := fun W => tDrop (tCallS (spUpX X.K p) (WE W) (upA X.K t))) (fun W pn xe tk _ => pss_one (ps_expr (pe_callS (X := X.tr pn xe) (sp := spUpX X.K p) (E := WE W) (t := upA X.K t) (G pn xe).F hr (hg pn xe) (G pn xe).m (G pn xe).k (G pn xe).b (fun σ => passAt tk σ) (ha pn xe).pa hdb he hpl) hsw)) (ts := fun a cls d => upS X.K ts) (fun a oe cls d pn _ _ => (hsu a oe pn).ps)) fun E σ H ⟨ρ, μ, R, q⟩ => ?_, dTryX_mono mp mt ms⟩
  refine upA_bind R mt q fun ds μ1 vs H1 q1 s1 R1 r1 => ?_
  refine ⟨ds, μ1, R1.mem, r1, mp _ _ _ _ _ _ (fun d μ2 y v H2 s2 m2 r2 => y σ H2 (s1.trans s2) (R1.step s2 m2)) (fun cls μ2 ⟨y1, y2⟩ H2 s2 m2 => ?_) q1⟩
  subst y1
  exact ⟨true, XC.own, fun _ a ha0 => ⟨ρ, μ2, R1.step s2 m2, ms _ _ _ _ (liftS_le (s1.trans s2)) y2⟩, fun z => nomatch z⟩
end
end DL

set_option Elab.async false
set_option linter.all false
set_option maxRecDepth 100000
set_option maxHeartbeats 2000000
namespace DL
open PySem PySem.Spec PyProof.Rows L2 NdefX LamX
section
variable {X : Cx}
abbrev rFdivWD := rIntD CDivW fun i j => .int (i / j)
theorem o_fdivW : OpD X (binaryOp .FloorDiv) rFdivWD := oInt op_fdivW fun _ _ _ => .int _
def rAbsD : RLD := fun ds μ Q => match ds with
  | [.int i] => Q (.int (if i < 0 then -i else i)) μ
  | _ => False
theorem c_abs : CaD X (.builtin "abs") rAbsD := by
  refine ⟨CallR.imp call_abs fun vs H Q ⟨ds, μ, m, r, q⟩ => ?_, fun ds μ Q Q' i q => by
    unfold rAbsD at q ⊢
    split at q
    · exact i _ _ q
    · exact q.elim⟩
  unfold rAbsD at q
  split at q
  · cases r with
    | cons h t =>
      cases h
      cases t
      exact ⟨_, rfl, q _ H (Same.refl _) m (.int _)⟩
  · exact q.elim
def rMaxD : RLD := fun ds μ Q => match ds with
  | [.int i, .int j] => Q (.int (if j > i then j else i)) μ
  | _ => False
theorem c_max (hc : X.calm = true) : CaD X (.builtin "max") rMaxD := by
  refine ⟨CallR.imp (call_max2 hc) fun vs H Q ⟨ds, μ, m, r, q⟩ => ?_, fun ds μ Q Q' i q => by
    unfold rMaxD at q ⊢
    split at q
    · exact i _ _ q
    · exact q.elim⟩
  unfold rMaxD at q
  split at q
  · cases r with
    | cons h t =>
      cases h
      cases t with
      | cons h2 t2 =>
        cases h2
        cases t2
        exact ⟨_, _, rfl, q _ H (Same.refl _) m (.int _)⟩
  · exact q.elim
def rMinD : RLD := fun ds μ Q => match ds with
  | [.int i, .int j] => Q (.int (if j < i then j else i)) μ
  | _ => False
theorem c_min (hc : X.calm = true) : CaD X (.builtin "min") rMinD := by
  refine ⟨CallR.imp (call_min2 hc) fun vs H Q ⟨ds, μ, m, r, q⟩ => ?_, fun ds μ Q Q' i q => by
    unfold rMinD at q ⊢
    split at q
    · exact i _ _ q
    · exact q.elim⟩
  unfold rMinD at q
  split at q
  · cases r with
    | cons h t =>
      cases h
      cases t with
      | cons h2 t2 =>
        cases h2
        cases t2
        exact ⟨_, _, rfl, q _ H (Same.refl _) m (.int _)⟩
  · exact q.elim
end
theorem divW_of {i j : Int} {b : Nat} (h : 0 < j) (hb : j.natAbs < 2 ^ b) (h0 : 0 < b) (h9 : b ≤ 9000) : CDivW i j := wide_div h hb h0 h9
end DL
namespace DL
open PySem PySem.Spec PyProof.Rows L2 NdefX LamX
section
variable {P : Program} {w : World} {K : PySem.W.Frag} {mg : Str → Option Value} {base : Heap} {k : Nat} {x : Str} {ps : List Str} {p : RLX} {f : Addr} {fd : FuncData}
/-- where it does not raise it is a def as others -/
theorem fnCalm (mono : MonoX p) (F : FnOk P w K mg base (L2.CX P w) k f fd ps (spUpX K p)) : FnOk P w K mg base CX0 k f fd ps (spUp K (calmX p)) := by
  have up : ∀ {vs : List V} {H : Hp} {Q : VK} {E : XK}, spUp K (calmX p) vs H Q E → spUpX K p vs H Q (fun _ _ _ => False) := fun {vs H Q E} ⟨ds, μ, m, r, q⟩ => ⟨ds, μ, m, r, mono _ _ _ _ _ _ (fun _ _ z => z) (fun _ _ z => z.elim) q⟩
  refine ⟨fun vs H Q E h => F.len vs H Q _ (up h), fun A outer s H args us vs Q E room e0 hb rv h => ?_⟩
  refine codeAny_mono (F.run A outer s H args us vs Q (fun _ _ _ => False) room e0 hb rv (up h)) fun r s' hq => ?_
  cases r with
  | error e =>
    obtain ⟨_, _, _, _, _, _, _, _, _, _, _, _, z⟩ := hq
    exact z.elim
  | ok fl => cases fl <;> exact hq
theorem gtCalm (G : GtX P w K mg base k x ps p f fd) : Gt P w K mg base k x ps (calmX p) f fd := ⟨fnCalm G.mono G.F, calmX_mono G.mono, G.m, G.k, G.b⟩
end
end DL

set_option Elab.async false
set_option linter.all false
set_option maxRecDepth 100000
set_option maxHeartbeats 2000000
namespace DL
open PySem PySem.Spec PyProof.Rows L2 NdefX LamX
theorem chain_mono {r r' : R2D} {ta tb tc : ED} (m1 : Mono2 r) (m2 : Mono2 r') (ha : Mono ta) (hb : Mono tb) (hc : Mono tc) : Mono (dChain r r' ta tb tc) := fun ρ μ Q Q' h2 q => ha _ _ _ _ (fun x μ1 z1 => hb _ _ _ _ (fun y μ2 z2 => m1 _ _ _ _ _ (fun z μ3 z3 => by
  cases z with
  | bl k =>
    cases k with
    | true => exact hc _ _ _ _ (fun w μ4 z4 => m2 _ _ _ _ _ h2 z4) z3
    | false => exact h2 _ _ z3
  | _ => exact z3.elim) z2) z1) q
theorem up_chain {K : PySem.W.Frag} {r r' : R2D} {ta tb tc : ED} (m1 : Mono2 r) (m2 : Mono2 r') (ha : Mono ta) (hb : Mono tb) (hc : Mono tc) : ∀ σ H Q, up K (dChain r r' ta tb tc) σ H Q → tChain (Raw2 K r) (Raw2 K r') (up K ta) (up K tb) (up K tc) σ H Q := fun σ H Q ⟨ρ, μ, R, q⟩ => by
  refine up_bind R ha q fun x μ1 v1 H1 q1 s1 R1 r1 => up_bind R1 hb q1 fun y μ2 v2 H2 q2 s2 R2 r2 => ?_
  refine ⟨x, y, μ2, R2.mem, r1.mono s2, r2, m1 _ _ _ _ _ (fun z μ3 z3 v3 H3 s3 m3 r3 => ?_) q2⟩
  cases r3 with
  | bl k =>
    refine ⟨k, rfl, ?_⟩
    have R3 := R2.step s3 m3
    cases k with
    | false => exact iteF (z3 _ H3 (s1.trans (s2.trans s3)) m3 (.bl _))
    | true =>
      refine iteT (up_bind R3 hc z3 fun w μ4 v4 H4 q4 s4 R4 r4 => ?_)
      exact ⟨y, w, μ4, R4.mem, (r2.mono s3).mono s4, r4, m2 _ _ _ _ _ (fun d μ5 z5 v5 H5 s5 m5 r5 => z5 v5 H5 (s1.trans (s2.trans (s3.trans (s4.trans s5)))) m5 r5) q4⟩
  | _ => exact z3.elim
section
variable {X : Cx} {a b c : Expr} {ta tb tc : ED} {pos : Pos}
/-- a op b op c as a test -/
theorem dt_chain {op op' : CmpOp} {r r' : R2D} (o1 : OpD X (compareOp op) r) (o2 : OpD X (compareOp op') r') (ha : PD X a ta) (hb : PD X b tb) (hc : PD X c tc) (hl : lastMarks [op, op'] [b, c] = false := by rfl) : PTD X (.Compare a [op, op'] [b, c] pos) (dBool (dChain r r' ta tb tc)) := by
  have mm := chain_mono o1.mono o2.mono ha.mono hb.mono hc.mono
  refine ⟨PT.imp (pt_chain o1.run o2.run ha.pe hb.pe hc.pe hl) fun σ H Q ⟨ρ, μ, R, q⟩ => ?_, dBool_mono mm⟩
  refine up_chain o1.mono o2.mono ha.mono hb.mono hc.mono σ H _ (up_bind R mm q fun d μ' v H' q1 s R1 r1 => ?_)
  cases r1 <;> first | exact ⟨_, rfl, q1 H' s R1.mem⟩ | exact q1.elim
end
section
variable {X : Cx} {pos : Pos}
/-- .. kept as a list that nobody changes -/
theorem d_setLcF (i : Nat) {y : Str} {py : Pos} {elt tg iter : Expr} {ifs : List Expr} {scope : Scope} {own : List (Str × Nat)} {spos : Pos} {it : ITD} {g : GD} {tt : TD} {te : ED} (hc : X.calm = true) (hN : X.N.Nodup) (hsw : swapsWith (.ListComp elt [⟨tg, iter, ifs, 0⟩] scope pos) (some (.Name y py)) spos.line X.env = pure true)
    (hi : PID X tg iter it) (ok : BlkOk X.N X.env.scope scope own)
    (hg : ∀ (s : Shared) (H : Hp) (C : Addr) (cl : List (Str × Addr)) (fp : List Addr), PGD (X.blk s H scope (compEnvC scope cl C X.env) fp) tg g (own.map (·.2))) (ht : ∀ (s : Shared) (H : Hp) (C : Addr) (cl : List (Str × Addr)) (fp : List Addr), PTsD (X.blk s H scope (compEnvC scope cl C X.env) fp) ifs tt)
    (he : ∀ (s : Shared) (H : Hp) (C : Addr) (cl : List (Str × Addr)) (fp : List Addr), PD (X.blk s H scope (compEnvC scope cl C X.env) fp) elt te) (hy : X.N[i]? = some y := by rfl) (hyl : X.env.scope.names.lookup y = some .local := by rfl) (hs : ∀ x, foldedSetIterable iter X.env x = pure x := by intro _; rfl) :
    PSD X (.Assign [.Name y py] (.ListComp elt [⟨tg, iter, ifs, 0⟩] scope pos) spos) (dSet (dFrz (dLc it g tt te (own.map (·.2)))) (gNm i)) := by
  have mg := (hg X.s_0 X.H_0 0 [] []).mono
  have mt := (ht X.s_0 X.H_0 0 [] []).mono
  have me := (he X.s_0 X.H_0 0 [] []).mono
  have ml := dLc_mono (vs := own.map (·.2)) hi.mono mg mt me
  refine ⟨PS.imp (ps_setLc (wi := upI X.K it) (g := upG X.K g (own.map (·.2))) (tt := upT X.K tt) hc hN hy hyl hsw hi.pi ok (fun s H C cl fp => (hg s H C cl fp).pg) (fun s H C cl fp => (ht s H C cl fp).pt) (te := up X.K te) (fun s H C cl fp => (he s H C cl fp).pe) hs) fun E σ H ⟨ρ, μ, R, q⟩ => ?_, dSet_mono (dFrz_mono ml) fun _ _ _ _ _ h q => h _ _ q⟩
  change dLc it g tt te (own.map (·.2)) ρ μ (fun d μ' => frzD d μ' _) at q
  refine lc_up hi.mono mg mt me σ H _ (up_bind R ml q fun d μ' v H' q1 s R1 r1 => ?_)
  unfold frzD at q1
  have sb : ∀ a, Sub (mdel μ' a) μ' := fun a => mdel_sub
  have ct : ∀ a, cut H' (mdel μ' a) a = H' a := fun a => by
    unfold cut
    rw [mdel_same]
    rfl
  split at q1
  · rename_i a
    cases r1
    split at q1
    · rename_i ds e
      obtain ⟨vs, h1, h2⟩ := R1.mem a _ e
      exact q1 _ H' (s.trans (sb a).cut) ((R.step (s.trans (sb a).cut) (R1.mem.sub (sb a))).set i (.lst (SqL.of ((ct a).trans h1)) (h2.mono (sb a).cut)))
    · rename_i ks ds e
      obtain ⟨vs, h1, hl, h2⟩ := R1.mem a _ e
      exact q1 _ H' (s.trans (sb a).cut) ((R.step (s.trans (sb a).cut) (R1.mem.sub (sb a))).set i (.dct ((ct a).trans h1) hl (h2.mono (sb a).cut)))
    · exact q1.elim
  · exact q1 _ H' s (R1.set i r1)
end
end DL

set_option Elab.async false
set_option linter.all false
set_option maxRecDepth 100000
set_option maxHeartbeats 2000000
namespace DL
open PySem PySem.Spec PyProof.Rows L2 NdefX LamX
/-! ### a list of the store compared with nested data -/
def viewD (μ : Mu) (d : D) : D := match d with
  | .ob a => match μ a with
    | some (.lst ds) => .lst ds
    | _ => .ob a
  | d => d
def rEqV (neg : Bool) : R2D := fun a b μ Q => match shapeD (viewD μ a), shapeD (viewD μ b) with
  | some p, some q => Q (.bl (if neg then !PyData.eqv p q else PyData.eqv p q)) μ
  | _, _ => False
theorem rEqV_mono {neg : Bool} : Mono2 (rEqV neg) := fun a b μ Q Q' h q => by
  unfold rEqV at q ⊢
  split at q
  · exact h _ _ q
  · exact q.elim
theorem shape_ofV {K : PySem.W.Frag} {H : Hp} {μ : Mu} {v : V} {d : D} {p : PyData} (m : RM K H μ) (r : Rep K (cut H μ) v d) (e : shapeD (viewD μ d) = some p) : Dp K H v p ∧ SeqAt.shaped p = true := by
  by_cases h : ∃ a ds, d = .ob a ∧ μ a = some (.lst ds)
  · obtain ⟨a, ds, rfl, ea⟩ := h
    have ev : viewD μ (.ob a) = .lst ds := by unfold viewD; simp only [ea]
    rw [ev] at e
    obtain ⟨vs, h1, rv⟩ := m a _ ea
    cases r
    unfold shapeD at e
    split at e
    · rename_i p' e1
      split at e
      · rename_i hs
        cases e
        unfold toPy at e1
        cases q : toPys ds with
        | none => rw [q] at e1; cases e1
        | some ps =>
          rw [q] at e1
          cases e1
          exact ⟨.lst (SqL.of h1) (dps_of cut_sub rv q), hs⟩
      · cases e
    · cases e
  · have ev : viewD μ d = d := by
      unfold viewD
      split
      · rename_i a
        split
        · rename_i ds ea
          exact absurd ⟨a, ds, rfl, ea⟩ h
        · rfl
      · rfl
    rw [ev] at e
    exact shape_of r e
section
variable {X : Cx}
theorem o_eqV (hu : X.A.units + 64 < cLine) : OpD X (compareOp .Eq) (rEqV false) := by
  refine ⟨OpR.imp (op_eqD hu) fun x y H Q ⟨a, b, μ, m, ra, rb, q⟩ => ?_, rEqV_mono⟩
  unfold rEqV at q
  split at q
  · rename_i p r e1 e2
    obtain ⟨p1, p2⟩ := shape_ofV m ra e1
    obtain ⟨r1, r2⟩ := shape_ofV m rb e2
    exact ⟨p, r, p1, r1, p2, r2, q _ H (Same.refl _) m (.bl _)⟩
  · exact q.elim
theorem o_neV (hu : X.A.units + 64 < cLine) : OpD X (compareOp .NotEq) (rEqV true) := by
  refine ⟨OpR.imp (op_neD hu) fun x y H Q ⟨a, b, μ, m, ra, rb, q⟩ => ?_, rEqV_mono⟩
  unfold rEqV at q
  split at q
  · rename_i p r e1 e2
    obtain ⟨p1, p2⟩ := shape_ofV m ra e1
    obtain ⟨r1, r2⟩ := shape_ofV m rb e2
    exact ⟨p, r, p1, r1, p2, r2, q _ H (Same.refl _) m (.bl _)⟩
  · exact q.elim
end
/-! ### xs.pop(0) of a list of the store -/
def dPop0 (to : ED) (t : AD) : ED := fun ρ μ Q => to ρ μ fun d μ1 => match d with
  | .ob a => match μ1 a with
    | some (.lst _) => t ρ μ1 fun ds μ2 => match ds with
      | [.int 0] => match μ2 a with
        | some (.lst (x :: xs)) => Q x (mset μ2 a (.lst xs))
        | _ => False
      | _ => False
    | _ => False
  | _ => False
section
variable {X : Cx} {o e : Expr} {es : List Expr} {to : ED} {t : AD} {apos cpos : Pos}
theorem d_pop0 (ho : PD X o to) (ha : PAD X (e :: es) t) (h1 : attributeBase o "pop" X.env (eval o X.env) = eval o X.env := by rfl)
    (h2 : (((((backTo cpos (starEach (e :: es) X.env)).all fun x => !x.fst) && (backToKw cpos (keywordEach [] X.env)).all fun x => x.fst.isSome) && decide (((e :: es).length + ([] : List Keyword).length + if ([] : List Keyword).isEmpty = true then 0 else 1) < 30)) = true) := by rfl)
    (h3 : (apos.endLine == cpos.line) = true := by rfl) (h4 : starEach (e :: es) X.env = (false, eval e X.env) :: starEach es X.env := by rfl) (h5 : (((backTo cpos (starEach es X.env)).any fun x => x.fst) = false) := by rfl) :
    PD X (.Call (.Attribute o "pop" apos) (e :: es) [] cpos) (dPop0 to t) := by
  refine ⟨PE.imp (pe_bm PySem.F.plainAttrs_list PySem.F.slot_list_pop PySem.F.type_list_pop mt_popAt ho.pe ha.pa h1 h2 h3 h4 h5) fun σ H Q ⟨ρ, μ, R, q⟩ => ?_, fun ρ μ Q Q' h q => ho.mono _ _ _ _ (fun d μ1 z => ?_) q⟩
  · refine up_bind R ho.mono q fun d μ1 v1 H1 q1 s1 R1 r1 => ?_
    cases r1 with
    | ob a =>
      simp only at q1
      cases e0 : μ1 a with
      | none => simp only [e0] at q1
      | some u =>
        cases u with
        | lst ds0 =>
          simp only [e0] at q1
          obtain ⟨ws, k1, _⟩ := R1.mem a _ e0
          refine ⟨Or.inl ⟨rfl, ws, SqL.of k1⟩, upA_bind R1 ha.mono q1 fun ds μ2 vs H2 q2 s2 R2 r2 => ?_⟩
          split at q2
          · cases r2 with
            | cons ry rt =>
              cases rt
              cases ry
              split at q2
              · rename_i x xs ex
                obtain ⟨ys, k2, rx⟩ := R2.mem a _ ex
                cases rx with
                | cons r0 rr =>
                  rename_i v0 vr
                  have so : (μ2 a).isSome = true := by rw [ex]; rfl
                  have st := put_stp (H := H2) (μ := μ2) (.inr so) (.lst vr) (.lst xs)
                  exact ⟨a, v0 :: vr, 0, 0, v0, rfl, rfl, k2, by decide, by decide, by simp [seqIndex?], rfl, q2 _ _ ((s1.trans s2).trans st) (R2.mem.put (.inr so) rr) (r0.mono st)⟩
              · exact q2.elim
          · exact q2.elim
        | dct ks ds0 => simp only [e0] at q1
        | tab nm => simp only [e0] at q1
    | _ => exact q1.elim
  · cases d <;> first | exact z.elim | skip
    simp only at z ⊢
    split at z
    · refine ha.mono _ _ _ _ (fun ds μ2 y => ?_) z
      split at y
      · split at y
        · exact h _ _ y
        · exact y.elim
      · exact y.elim
    · exact z.elim
end
end DL

set_option Elab.async false
set_option linter.all false
set_option maxRecDepth 100000
set_option maxHeartbeats 2000000
namespace DL
open PySem PySem.Spec PyProof.Rows L2 NdefX LamX
/-! ### isinstance with a tuple of two types -/
def rIsi2 : RLD := fun ds μ Q => match ds with
  | [d, .tup [.ty b, .ty c]] => match tyD μ d with
    | some a => match isiS a b, isiS a c with
      | some r, some r' => Q (.bl (r || r')) μ
      | _, _ => False
    | none => False
  | _ => False
theorem any_two {K : PySem.W.Frag} {t u u' : Value} {r r' : Bool} (h : PySem.W.kitOne K t u = some r) (h' : PySem.W.kitOne K t u' = some r') : PySem.W.kitAny K t [u, u'] = some (r || r') := by
  unfold PySem.W.kitAny
  rw [h]
  cases r with
  | true => rfl
  | false =>
    simp only
    unfold PySem.W.kitAny
    rw [h']
    cases r' <;> rfl
section
variable {X : Cx}
def rIsiF (K : PySem.W.Frag) : List V → Hp → VK → Prop := fun xs H Q => ∃ (x : V) (tp : Addr) (ob : Obj) (cs : List V) (t : Value) (us : List Value) (b : Bool), xs = [x, .ref tp] ∧ H tp = some (.frz ob (.tup cs)) ∧ Paired ClsV cs us ∧ TyX K H x t ∧ PySem.W.kitAny K t us = some b ∧ Q (.bl b) H
theorem call_isiF : CallR X (.builtin "isinstance") (rIsiF X.K) := by
  intro pins s σ H xs us Q I r h
  obtain ⟨x, tp, ob, cs, t, ws, b, rfl, hT, k, ty, e, q⟩ := h
  obtain ⟨u1, u2, rfl, r1, r2⟩ := vals2 r
  cases (show u2 = Value.ref tp from r2)
  obtain ⟨P, Z, p, hx⟩ := kit_of I r1 ty
  obtain ⟨_, _, its, rv, o, h1, h2, n, h3⟩ := (show ObjOk X.prog X.w H s.heap tp (.frz ob (.tup cs)) from I.hok tp _ hT)
  have e3 := ClsV.all k rv
  subst e3
  obtain ⟨oc, od, dt, sl⟩ := o
  simp only at h2 h3
  subst h2 h3
  exact PySem.W.kia_tup Z I.kIn p h1 e hx fun tk => ⟨.bl b, H, I.tok tk, rfl, q⟩
theorem c_isi2 : CaD X (.builtin "isinstance") rIsi2 := by
  refine ⟨CallR.imp (CallR.two (CallR.two call_isiT call_isiK) call_isiF) fun vs H Q ⟨ds, μ, m, r, q⟩ => ?_, fun ds μ Q Q' i q => by
    unfold rIsi2 at q ⊢
    split at q
    · split at q
      · split at q
        · exact i _ _ q
        · exact q.elim
      · exact q.elim
    · exact q.elim⟩
  unfold rIsi2 at q
  split at q
  · split at q
    · rename_i e
      split at q
      · rename_i e2 e3
        cases r with
        | cons h t =>
          cases t with
          | cons h2 t =>
            cases t
            cases h2 with
            | tup hs hv =>
              cases hv with
              | cons y1 hv =>
                cases hv with
                | cons y2 hv =>
                  cases hv
                  cases y1
                  cases y2
                  have ka := any_two (kit_ty (K := X.K) (isiS_ok e2)) (kit_ty (K := X.K) (isiS_ok e3))
                  rcases hs with hs | ⟨o, its, n, k1, k2, k3, k4, k5⟩
                  · rcases hs with hs | ⟨ob, hs⟩
                    · exact .inl (.inl ⟨_, _, _, _, _, _, rfl, cut_sub _ _ hs, .cons (.ty _) (.cons (.ty _) .nil), tyX_of m h e, ka, q _ H (Same.refl _) m (.bl _)⟩)
                    · exact .inr ⟨_, _, ob, _, _, _, _, rfl, cut_sub _ _ hs, .cons (.ty _) (.cons (.ty _) .nil), tyX_of m h e, ka, q _ H (Same.refl _) m (.bl _)⟩
                  · have e9 := ClsV.all (.cons (.ty _) (.cons (.ty _) .nil)) k5
                    obtain ⟨oc, od, oda, osl⟩ := o
                    simp only at k2 k3
                    subst k2 k3
                    have e10 : its = #[Value.type _, Value.type _] := Array.toList_inj.mp e9
                    subst e10
                    exact .inl (.inr ⟨_, _, od, [.type _, .type _], n, osl, _, _, rfl, k1, tyX_of m h e, ka, q _ H (Same.refl _) m (.bl _)⟩)
      · exact q.elim
    · exact q.elim
  · exact q.elim
end
end DL

set_option Elab.async false
set_option linter.all false
set_option maxRecDepth 100000
set_option maxHeartbeats 2000000
namespace DL
open PySem PySem.Spec PyProof.Rows L2 NdefX LamX

/-! ### `a or b`, `a and b` of any values -/
def dOrT (ta tb : ED) : ED := fun ρ μ Q => ta ρ μ fun x μ1 => match truD μ1 x with
  | some true => Q x μ1
  | some false => tb ρ μ1 Q
  | none => False
def dAndT (ta tb : ED) : ED := fun ρ μ Q => ta ρ μ fun x μ1 => match truD μ1 x with
  | some true => tb ρ μ1 Q
  | some false => Q x μ1
  | none => False
theorem dOrT_mono {ta tb : ED} (h : Mono ta) (h' : Mono tb) : Mono (dOrT ta tb) := fun ρ μ Q Q' i q => h ρ μ _ _ (fun x μ1 z => by
  split at z
  · exact i _ _ z
  · exact h' ρ μ1 Q Q' i z
  · exact z.elim) q
theorem dAndT_mono {ta tb : ED} (h : Mono ta) (h' : Mono tb) : Mono (dAndT ta tb) := fun ρ μ Q Q' i q => h ρ μ _ _ (fun x μ1 z => by
  split at z
  · exact h' ρ μ1 Q Q' i z
  · exact i _ _ z
  · exact z.elim) q
section
variable {X : Cx} {a b : Expr} {rest : List Expr} {pos : Pos} {ta tb : ED}
theorem d_orT (h : PD X a ta) (h' : PD X (.BoolOp .Or (b :: rest) pos) tb) : PD X (.BoolOp .Or (a :: b :: rest) pos) (dOrT ta tb) := by
  refine ⟨PE.imp (pe_orT h.pe h'.pe) fun σ H Q ⟨ρ, μ, R, q⟩ => ?_, dOrT_mono h.mono h'.mono⟩
  refine up_bind R h.mono q fun d μ' v H' q1 s R1 r1 => ?_
  split at q1
  · rename_i e
    exact ⟨true, tru_of R1.mem r1 e, iteT (q1 _ H' s R1.mem r1)⟩
  · rename_i e
    exact ⟨false, tru_of R1.mem r1 e, iteF ⟨ρ, μ', R1, h'.mono ρ μ' _ _ (fun d μ2 => lift_stp s) q1⟩⟩
  · exact q1.elim
theorem d_andT (h : PD X a ta) (h' : PD X (.BoolOp .And (b :: rest) pos) tb) : PD X (.BoolOp .And (a :: b :: rest) pos) (dAndT ta tb) := by
  refine ⟨PE.imp (pe_andT h.pe h'.pe) fun σ H Q ⟨ρ, μ, R, q⟩ => ?_, dAndT_mono h.mono h'.mono⟩
  refine up_bind R h.mono q fun d μ' v H' q1 s R1 r1 => ?_
  split at q1
  · rename_i e
    exact ⟨true, tru_of R1.mem r1 e, iteT ⟨ρ, μ', R1, h'.mono ρ μ' _ _ (fun d μ2 => lift_stp s) q1⟩⟩
  · rename_i e
    exact ⟨false, tru_of R1.mem r1 e, iteF (q1 _ H' s R1.mem r1)⟩
  · exact q1.elim
end

/-! ### what is walked: a list or a tuple -/
def iSeq (K : PySem.W.Frag) (tl : TE) : TI := fun σ H R => tl σ H fun x H1 => ∃ a, x = .ref a ∧ (((∃ xs, SqL K H1 a xs) ∧ R (Itl K a) H1) ∨ ((∃ xs, SqT K H1 a xs) ∧ R (Itt K a) H1))
theorem pi_seq {X : Cx} {tg l : Expr} {tl : TE} (hl : PE X l tl) : PI X tg l (iSeq X.K tl) := by
  refine ⟨fun pins s σ H R I h => ?_⟩
  refine thn (hl.run pins s σ H _ I h) fun v s1 ⟨x, H1, I1, r1, q1⟩ => ?_
  obtain ⟨a, e, q⟩ := q1
  subst e
  cases r1
  rcases q with ⟨⟨xs, hq⟩, q⟩ | ⟨⟨xs, hq⟩, q⟩
  · obtain ⟨its, rv, p, hz⟩ := I1.list hq
    refine wpAny_pyIter_list p.isList ?_
    refine ⟨s1.heap.objs.size, [s1.heap.objs.size], _, _, H1, rfl, I1.kept (t' := s1.toks) fun b o e => Heap.get?_push_of_some _ e, turn_list a _, ⟨_, Heap.get?_push_size _ rfl, rfl, rfl⟩, fun b hb => ?_, q⟩
    have e : b = s1.heap.objs.size := by simpa using hb
    subst e
    exact I1.fpOk (Nat.le_refl _) (I1.hok.fresh (Nat.le_refl _))
  · obtain ⟨its, rv, p, hz⟩ := I1.tuple hq
    refine wpAny_pyIter_tuple (show s1.heap.IsTuple a its.toArray from p) ?_
    refine ⟨s1.heap.objs.size, [s1.heap.objs.size], _, _, H1, rfl, I1.kept (t' := s1.toks) fun b o e => Heap.get?_push_of_some _ e, turn_tuple a _, ⟨_, Heap.get?_push_size _ rfl, rfl, rfl⟩, fun b hb => ?_, q⟩
    have e : b = s1.heap.objs.size := by simpa using hb
    subst e
    exact I1.fpOk (Nat.le_refl _) (I1.hok.fresh (Nat.le_refl _))
def dSeqA (t : ED) : ITD := fun ρ μ Q => t ρ μ fun d μ' => match d with
  | .lst ds => Q ds μ'
  | .tup ds => Q ds μ'
  | _ => False
theorem di_seq {X : Cx} {tg e : Expr} {t : ED} (h : PD X e t) : PID X tg e (dSeqA t) := by
  refine ⟨PI.imp (pi_seq h.pe) fun σ H R ⟨ρ, μ, S, q⟩ => ?_, fun ρ μ Q Q' i q => h.mono ρ μ _ _ (fun d μ' z => by
    cases d <;> first | exact i _ _ z | exact z.elim) q⟩
  refine up_bind S h.mono q fun d μ' v H' q1 s R1 r1 => ?_
  cases r1 with
  | lst h1 r =>
    refine ⟨_, rfl, .inl ⟨⟨_, Same.seq cut_sub h1⟩, q1 _ H' s R1.mem ?_⟩⟩
    refine walk_at ?_ (fun H2 st => Same.seq st h1) r
    rw [← r.length]
    exact walk_list
  | tup h1 r =>
    refine ⟨_, rfl, .inr ⟨⟨_, sqT_mono cut_sub h1⟩, q1 _ H' s R1.mem ?_⟩⟩
    refine walk_at ?_ (fun H2 st => sqT_mono st h1) r
    rw [← r.length]
    exact walk_tup
  | _ => exact q1.elim

/-! ### x in (.., ..) of nested data -/
theorem strOk_enc (w : String) : PyData.strOk (enc w) = true := by
  unfold PyData.strOk enc
  rw [Array.all_eq_true]
  intro i hi
  simp only [List.size_toArray, List.length_map] at hi
  simp only [List.getElem_toArray, List.getElem_map, decide_eq_true_eq]
  rcases (w.toList[i]).valid with h | h
  · exact Nat.lt_trans h (by decide)
  · exact h.2
mutual
theorem toPy_lay : ∀ {d : D} {p : PyData}, toPy d = some p → p.canLay0 = true
  | .non, _, e => by unfold toPy at e; cases e; rfl
  | .bl b, _, e => by unfold toPy at e; cases e; rfl
  | .int i, _, e => by unfold toPy at e; cases e; rfl
  | .str s, _, e => by unfold toPy at e; cases e; exact strOk_enc s
  | .tup ds, _, e => by
    unfold toPy at e
    obtain ⟨ps, h, rfl⟩ := Option.map_eq_some_iff.mp e
    unfold PyData.canLay0
    exact toPys_lay h
  | .lst ds, _, e => by
    unfold toPy at e
    obtain ⟨ps, h, rfl⟩ := Option.map_eq_some_iff.mp e
    unfold PyData.canLay0
    exact toPys_lay h
  | .ty _, _, e => by unfold toPy at e; cases e
  | .ob _, _, e => by unfold toPy at e; cases e
  | .fn _ _ _ _, _, e => by unfold toPy at e; cases e
  | .dct _ _, _, e => by unfold toPy at e; cases e
  | .dcl _ _, _, e => by unfold toPy at e; cases e
theorem toPys_lay : ∀ {ds : List D} {ps : List PyData}, toPys ds = some ps → PyData.canLayAll0 ps = true
  | [], _, e => by unfold toPys at e; cases e; rfl
  | d :: ds, _, e => by
    unfold toPys at e
    split at e
    · rename_i p ps h1 h2
      cases e
      unfold PyData.canLayAll0
      rw [toPy_lay h1, toPys_lay h2]
      rfl
    · cases e
end
def rInTD (neg : Bool) : R2D := fun a b μ Q => match toPy a, shapeD b with
  | some p, some (.tuple ps) => Q (.bl (if neg then !(ps.any fun z => PyData.eqv z p) else ps.any fun z => PyData.eqv z p)) μ
  | _, _ => False
theorem rInTD_mono {neg : Bool} : Mono2 (rInTD neg) := fun a b μ Q Q' h q => by
  unfold rInTD at q ⊢
  split at q
  · exact h _ _ q
  · exact q.elim
def rInT (K : PySem.W.Frag) : R2 := fun x y H Q => ∃ d ds, Dp K H x d ∧ Dp K H y (.tuple ds) ∧ d.canLay0 = true ∧ SeqAt.shaped (.tuple ds) = true ∧ Q (.bl (ds.any fun z => PyData.eqv z d)) H
theorem op_inT {X : Cx} (hu : X.A.units + 66 < cLine) : OpR X (compareOp .In) (rInT X.K) := by
  intro pins s σ H x y v u Q I rx ry h
  obtain ⟨d, ds, hd, he, sd, se, q⟩ := h
  obtain ⟨as, r1⟩ := Dp.reads I d x v hd rx
  obtain ⟨bs, r2⟩ := Dp.reads I (.tuple ds) y u he ry
  refine SeqAt.in_tuple_reads r2 r1 (SeqAt.canLay_of_shaped se) sd ?_ ⟨.bl _, H, I, rfl, q⟩
  have h1 := SeqAt.depth_of_shaped se
  have h2 : PyData.depthAll ds ≤ (PyData.tuple ds).depth := by unfold PyData.depth; omega
  omega
theorem o_inTD {X : Cx} (hu : X.A.units + 66 < cLine) : OpD X (compareOp .In) (rInTD false) := by
  refine ⟨OpR.imp (op_inT hu) fun x y H Q ⟨a, b, μ, m, ra, rb, q⟩ => ?_, rInTD_mono⟩
  unfold rInTD at q
  split at q
  · rename_i p r e1 e2
    obtain ⟨r1, r2⟩ := shape_of rb e2
    exact ⟨p, r, dp_of cut_sub ra e1, r1, toPy_lay e1, r2, q _ H (Same.refl _) m (.bl _)⟩
  · exact q.elim

/-! ### xs.extend(ys), ys a new list -/
def dExtend (to : ED) (t : AD) : ED := fun ρ μ Q => to ρ μ fun d μ1 => match d with
  | .ob a => match μ1 a with
    | some (.lst _) => t ρ μ1 fun ds μ2 => match ds with
      | [.ob b] => match μ2 a, μ2 b with
        | some (.lst xs), some (.lst ys) => b ≠ a ∧ xs.length + ys.length ≤ sizeLine ∧ Q .non (mdel (mset μ2 a (.lst (xs ++ ys))) b)
        | _, _ => False
      | _ => False
    | _ => False
  | _ => False
theorem d_extend {X : Cx} {o e : Expr} {es : List Expr} {to : ED} {t : AD} {apos cpos : Pos} (ho : PD X o to) (ha : PAD X (e :: es) t) (hbase : attributeBase o "extend" X.env (eval o X.env) = eval o X.env := by rfl)
    (hfew : ((backTo cpos (starEach (e :: es) X.env)).all (fun x => !x.1) && (backToKw cpos (keywordEach [] X.env)).all (fun x => x.1.isSome)
      && decide ((e :: es).length + ([] : List Keyword).length + (if ([] : List Keyword).isEmpty then 0 else 1) < 30)) = true := by rfl)
    (hline : (apos.endLine == cpos.line) = true := by rfl) (hs : starEach (e :: es) X.env = (false, eval e X.env) :: starEach es X.env := by rfl) (hplain : (backTo cpos (starEach es X.env)).any (·.1) = false := by rfl) :
    PD X (.Call (.Attribute o "extend" apos) (e :: es) [] cpos) (dExtend to t) := by
  refine ⟨PE.imp (pe_bm PySem.F.plainAttrs_list PySem.F.slot_list_extend PySem.F.type_list_extend mt_extend ho.pe ha.pa hbase hfew hline hs hplain) fun σ H Q ⟨ρ, μ, R, q⟩ => ?_, fun ρ μ Q Q' i q => ?_⟩
  · refine up_bind R ho.mono q fun d μ1 v H1 q1 s1 R1 r1 => ?_
    cases r1 with
    | ob a =>
      simp only at q1
      split at q1
      · rename_i zs e1
        obtain ⟨vs, h1, _⟩ := R1.mem _ _ e1
        refine ⟨.inl ⟨rfl, _, SqL.of h1⟩, upA_bind R1 ha.mono q1 fun ds μ2 ws H2 q2 s2 R2 r2 => ?_⟩
        split at q2
        · cases r2 with
          | cons k t =>
            cases t
            cases k
            rename_i b
            split at q2
            · rename_i xs ys e2 e3
              obtain ⟨nb, hz, q2⟩ := q2
              obtain ⟨us, h2, ru⟩ := R2.mem _ _ e2
              obtain ⟨ws, h3, rw'⟩ := R2.mem _ _ e3
              have so : (μ2 a).isSome = true := by rw [e2]; rfl
              refine ⟨a, b, us, ws, rfl, rfl, h2, h3, by rw [ru.length, rw'.length]; exact hz, ?_⟩
              have m2 := R2.mem.put (.inr so) (ru.append rw')
              have sp := put_stp (H := H2) (μ := μ2) (.inr so) (.lst (us ++ ws)) (.lst (xs ++ ys))
              exact q2 _ _ ((s1.trans s2).trans (sp.trans mdel_sub.cut)) (m2.sub mdel_sub) .non
            · exact q2.elim
        · exact q2.elim
      · exact q1.elim
    | _ => exact q1.elim
  · refine ho.mono ρ μ _ _ (fun d μ1 z => ?_) q
    split at z
    · split at z
      · refine ha.mono ρ μ1 _ _ (fun ds μ2 z2 => ?_) z
        split at z2
        · split at z2
          · exact ⟨z2.1, z2.2.1, i _ _ z2.2.2⟩
          · exact z2.elim
        · exact z2.elim
      · exact z.elim
    · exact z.elim

/-! ### D.get(x), D a dict of the module, texts to functions of the module -/
structure FTab (K : PySem.W.Frag) (w : World) (a : Addr) (ft : String → Option (Option Addr)) : Prop where
  dict : ∃ es n, KDict K w a es n
  get : ∀ x r, ft x = some r → PySem.W.nsIn K a (enc x) = some (r.map Value.ref)
section
variable {X : Cx} {o e : Expr} {apos cpos : Pos}
theorem kd_get1 {pins : List (Addr × Obj)} {σ : L2.St} {H : Hp} {s : Shared} {a : Addr} {es : Array DictEntry} {n : Nat} {x : Str} {u : Value} {r : Option Value} {A : Around} {E : Value → Shared → Prop} {Q : Value → Shared → Prop} (D : KDict X.K X.w a es n) (I : Inv X pins σ H s) (ry : RelV (.str x) u) (e : PySem.W.nsIn X.K a x = some r)
    (h : ∀ s', Inv X pins σ H s' → Q (r.getD .none) s') : wpAny (model X.prog X.w) A (call (.builtin "dict.get") [.ref a, u]) Q E s := by
  obtain ⟨t, rfl⟩ := ry
  have M := PySem.W.mapOf_K (prog := X.prog) (w := X.w) I.kIn D.at_ D.lit
  refine call_meetsIn PySem.F.slot_dict_get M.typeIs PySem.F.entry_dict_get (PySem.F.args_dict_get_2 _ _) (meets_dict_get (PySem.strKind X.prog X.w) a (PySem.strKind_is X.prog X.w x t) D.low) ⟨_, M, ?_⟩
  rw [PySem.W.find_K D.at_ e]
  exact h _ (I.tok _)
def tKGet (a : Addr) (K : PySem.W.Frag) (td ty : TE) : TE := fun σ H Q => td σ H fun x H1 => x = .ref a ∧ ty σ H1 fun y H2 => ∃ (z : Str) (r : Option Value) (v : V), y = .str z ∧ PySem.W.nsIn K a z = some r ∧ RelV v (r.getD .none) ∧ Q v H2
theorem pe_kget {td ty : TE} {a : Addr} {es : Array DictEntry} {n : Nat} (D : KDict X.K X.w a es n) (ho : PE X o td) (he : PE X e ty) (m : M1 X o "get" apos e cpos) : PE X (.Call (.Attribute o "get" apos) [e] [] cpos) (tKGet a X.K td ty) := by
  refine ⟨fun pins s σ H Q I h => ?_⟩
  refine wpAny_Call_method m.base m.few m.line PySem.F.plainAttrs_dict PySem.F.slot_dict_get PySem.F.type_dict_get (thn (ho.run pins s σ H _ I h) fun u s1 ⟨x, H1, I1, rx, ex, q1⟩ => ?_)
  subst ex
  obtain rfl : u = Value.ref a := rx
  refine ⟨kd_type D I1, fun b q => ?_, ?_⟩
  · cases q
    exact ⟨_, I1.kIn _ _ D.at_, rfl⟩
  rw [m.trees]
  refine Calls.callWith_builtin rfl (Calls.evalArgs_plain (Calls.spliced_cons (thn (he.run pins s1 σ H1 _ I1 q1) fun iv s2 ⟨y, H2, I2, ry, z, r, v, ey, en, rv, q2⟩ => Calls.spliced_nil ?_)))
  subst ey
  exact kd_get1 D I2 ry en fun s3 I3 => ⟨_, H2, I3, rv, q2⟩
def dGetF (a : Addr) (ft : String → Option (Option Addr)) (to te : ED) : ED := fun ρ μ Q => to ρ μ fun d μ1 => match d with
  | .fn b [] [] [] => b = a ∧ te ρ μ1 fun y μ2 => match y with
    | .str x => match ft x with
      | some (some g) => Q (gob g) μ2
      | some none => Q .non μ2
      | none => False
    | _ => False
  | _ => False
theorem d_getF {to te : ED} {a : Addr} {ft : String → Option (Option Addr)} (T : FTab X.K X.w a ft) (ho : PD X o to) (he : PD X e te) (m : M1 X o "get" apos e cpos := by exact ⟨rfl, rfl, rfl, rfl⟩) : PD X (.Call (.Attribute o "get" apos) [e] [] cpos) (dGetF a ft to te) := by
  obtain ⟨es, n, kd⟩ := T.dict
  refine ⟨PE.imp (pe_kget kd ho.pe he.pe m) fun σ H Q ⟨ρ, μ, R, q⟩ => ?_, fun ρ μ Q Q' i q => ?_⟩
  · refine up_bind R ho.mono q fun d μ1 v H1 q1 s1 R1 r1 => ?_
    split at q1
    · obtain ⟨rfl, q1⟩ := q1
      cases r1
      refine ⟨rfl, up_bind R1 he.mono q1 fun y μ2 u H2 q2 s2 R2 r2 => ?_⟩
      split at q2
      · rename_i x
        cases r2
        split at q2
        · rename_i g e1
          exact ⟨_, _, .ref g, rfl, T.get _ _ e1, rfl, q2 _ H2 (s1.trans s2) R2.mem (rep_gob g _)⟩
        · rename_i e1
          exact ⟨_, _, .non, rfl, T.get _ _ e1, rfl, q2 _ H2 (s1.trans s2) R2.mem .non⟩
        · exact q2.elim
      · exact q2.elim
    · exact q1.elim
  · refine ho.mono ρ μ _ _ (fun d μ1 z => ?_) q
    split at z
    · refine ⟨z.1, he.mono ρ μ1 _ _ (fun y μ2 z2 => ?_) z.2⟩
      split at z2
      · split at z2
        · exact i _ _ z2
        · exact i _ _ z2
        · exact z2.elim
      · exact z2.elim
    · exact z.elim
end
end DL

set_option Elab.async false
set_option linter.all false
set_option maxRecDepth 100000
set_option maxHeartbeats 2000000
namespace DL
open PySem PySem.Spec PyProof.Rows L2 NdefX LamX
/-! ### == and != of nested data, one side of which is shallow -/
def rEqMD (neg : Bool) : R2D := fun a b μ Q => match toPy a, toPy b with
  | some p, some q => min p.depth q.depth ≤ 64 ∧ Q (.bl (if neg then !PyData.eqv p q else PyData.eqv p q)) μ
  | _, _ => False
theorem rEqMD_mono {neg : Bool} : Mono2 (rEqMD neg) := fun a b μ Q Q' h q => by
  unfold rEqMD at q ⊢
  split at q
  · exact ⟨q.1, h _ _ q.2⟩
  · exact q.elim
def rEqM (K : PySem.W.Frag) (neg : Bool) : R2 := fun x y H Q => ∃ d e, Dp K H x d ∧ Dp K H y e ∧ d.canLay0 = true ∧ e.canLay0 = true ∧ min d.depth e.depth ≤ 64 ∧ Q (.bl (if neg then !PyData.eqv d e else PyData.eqv d e)) H
section
variable {X : Cx}
theorem op_eqM (hu : X.A.units + 64 < cLine) : OpR X (compareOp .Eq) (rEqM X.K false) := by
  intro pins s σ H x y v u Q I rx ry h
  obtain ⟨d, e, hd, he, sd, se, hm, q⟩ := h
  obtain ⟨as, r1⟩ := Dp.reads I d x v hd rx
  obtain ⟨bs, r2⟩ := Dp.reads I e y u he ry
  exact SeqAt.compareEq_reads r1 r2 sd se (by omega) ⟨.bl _, H, I, rfl, q⟩
theorem op_neM (hu : X.A.units + 64 < cLine) : OpR X (compareOp .NotEq) (rEqM X.K true) := by
  intro pins s σ H x y v u Q I rx ry h
  obtain ⟨d, e, hd, he, sd, se, hm, q⟩ := h
  obtain ⟨as, r1⟩ := Dp.reads I d x v hd rx
  obtain ⟨bs, r2⟩ := Dp.reads I e y u he ry
  exact SeqAt.compareNe_reads r1 r2 sd se (by omega) ⟨.bl _, H, I, rfl, q⟩
theorem o_eqMD (hu : X.A.units + 64 < cLine) : OpD X (compareOp .Eq) (rEqMD false) := by
  refine ⟨OpR.imp (op_eqM hu) fun x y H Q ⟨a, b, μ, m, ra, rb, q⟩ => ?_, rEqMD_mono⟩
  unfold rEqMD at q
  split at q
  · rename_i p r e1 e2
    exact ⟨p, r, dp_of cut_sub ra e1, dp_of cut_sub rb e2, toPy_lay e1, toPy_lay e2, q.1, q.2 _ H (Same.refl _) m (.bl _)⟩
  · exact q.elim
theorem o_neMD (hu : X.A.units + 64 < cLine) : OpD X (compareOp .NotEq) (rEqMD true) := by
  refine ⟨OpR.imp (op_neM hu) fun x y H Q ⟨a, b, μ, m, ra, rb, q⟩ => ?_, rEqMD_mono⟩
  unfold rEqMD at q
  split at q
  · rename_i p r e1 e2
    exact ⟨p, r, dp_of cut_sub ra e1, dp_of cut_sub rb e2, toPy_lay e1, toPy_lay e2, q.1, q.2 _ H (Same.refl _) m (.bl _)⟩
  · exact q.elim
end
theorem toPys_some {ds : List D} (h : ∀ d ∈ ds, ∃ p, toPy d = some p) : ∃ ps, toPys ds = some ps ∧ ps.length = ds.length := by
  induction ds with
  | nil => exact ⟨[], by unfold toPys; rfl, rfl⟩
  | cons d ds ih =>
    obtain ⟨p, e1⟩ := h d List.mem_cons_self
    obtain ⟨ps, e2, e3⟩ := ih fun x hx => h x (List.mem_cons_of_mem _ hx)
    exact ⟨p :: ps, by unfold toPys; rw [e1, e2], by rw [List.length_cons, List.length_cons, e3]⟩
/-- a list of any data against the empty one -/
theorem eqM_nilL {neg : Bool} {ds : List D} {μ : Mu} {Q : DK} (h : ∀ d ∈ ds, ∃ p, toPy d = some p) (q : Q (.bl (if neg then !ds.isEmpty else ds.isEmpty)) μ) : rEqMD neg (.lst ds) (.lst []) μ Q := by
  obtain ⟨ps, e, l⟩ := toPys_some h
  unfold rEqMD
  have e1 : toPy (.lst ds) = some (.list ps) := by unfold toPy; rw [e]; rfl
  have e2 : toPy (.lst []) = some (.list []) := by unfold toPy toPys; rfl
  rw [e1, e2]
  have dz : (PyData.list []).depth ≤ 1 := by simp [PyData.depth, PyData.depthAll]
  refine ⟨by omega, ?_⟩
  cases ds with
  | nil =>
    cases ps with
    | nil => simpa [PyData.eqv, PyData.eqvAll] using q
    | cons p ps => cases l
  | cons d ds =>
    cases ps with
    | nil => cases l
    | cons p ps => simpa [PyData.eqv, PyData.eqvAll] using q
theorem eqM_nilT {neg : Bool} {ds : List D} {μ : Mu} {Q : DK} (h : ∀ d ∈ ds, ∃ p, toPy d = some p) (q : Q (.bl (if neg then !ds.isEmpty else ds.isEmpty)) μ) : rEqMD neg (.tup ds) (.tup []) μ Q := by
  obtain ⟨ps, e, l⟩ := toPys_some h
  unfold rEqMD
  have e1 : toPy (.tup ds) = some (.tuple ps) := by unfold toPy; rw [e]; rfl
  have e2 : toPy (.tup []) = some (.tuple []) := by unfold toPy toPys; rfl
  rw [e1, e2]
  have dz : (PyData.tuple []).depth ≤ 1 := by simp [PyData.depth, PyData.depthAll]
  refine ⟨by omega, ?_⟩
  cases ds with
  | nil =>
    cases ps with
    | nil => simpa [PyData.eqv, PyData.eqvAll] using q
    | cons p ps => cases l
  | cons d ds =>
    cases ps with
    | nil => cases l
    | cons p ps => simpa [PyData.eqv, PyData.eqvAll] using q
end DL

set_option Elab.async false
set_option linter.all false
set_option maxRecDepth 100000
set_option maxHeartbeats 4000000
namespace DL
open PySem PySem.Spec PyProof.Rows L2 NdefX LamX
/-- one more object that stays as it is -/
abbrev withPin (X : Cx) (q : Addr × Obj) : Cx := { X with pn := q :: X.pn }
theorem okPin {X : Cx} (ok : X.Ok) (q : Addr × Obj) : (withPin X q).Ok := by
  cases ok
  constructor <;> assumption
theorem inv_pin {X : Cx} {pins : List (Addr × Obj)} {σ : L2.St} {H : Hp} {s : Shared} {q : Addr × Obj} (I : Inv X (q :: pins) σ H s) : Inv (withPin X q) pins σ H s :=
  ⟨okPin I.ok q, I.os, I.bare, I.base, I.loc, I.cell, I.free, I.freeC, fun p hp => I.pin p (by
    simp only [List.mem_append, List.mem_cons] at hp ⊢
    rcases hp with (h | h) | h
    · exact .inr (.inl h)
    · exact .inl h
    · exact .inr (.inr h)), I.hok, I.len⟩
theorem inv_unpin {X : Cx} {pins : List (Addr × Obj)} {σ : L2.St} {H : Hp} {s : Shared} {q : Addr × Obj} (ok : X.Ok) (I : Inv (withPin X q) pins σ H s) : Inv X pins σ H s :=
  ⟨ok, I.os, I.bare, I.base, I.loc, I.cell, I.free, I.freeC, fun p hp => I.pin p (by
    simp only [List.mem_append, List.mem_cons] at hp ⊢
    rcases hp with h | h
    · exact .inl (.inr h)
    · exact .inr h), I.hok, I.len⟩
theorem sp_unpin {X : Cx} {pins : List (Addr × Obj)} {q : Addr × Obj} {D : Ends} {f : Flow} {s : Shared} (ok : X.Ok) (h : SP (withPin X q) pins D f s) : SP X pins D f s := by
  cases f with
  | next => obtain ⟨σ, H, I, z⟩ := h; exact ⟨σ, H, inv_unpin ok I, z⟩
  | brk => obtain ⟨σ, H, I, z⟩ := h; exact ⟨σ, H, inv_unpin ok I, z⟩
  | cont => obtain ⟨σ, H, I, z⟩ := h; exact ⟨σ, H, inv_unpin ok I, z⟩
  | ret u => obtain ⟨v, σ, H, I, r, z⟩ := h; exact ⟨v, σ, H, inv_unpin ok I, r, z⟩
/-- behind the suite the exception still stands -/
theorem inv_out {X : Cx} {pins : List (Addr × Obj)} {σ : L2.St} {H : Hp} {s : Shared} {a : Addr} {q : Addr × Obj} (ok : X.Ok) (I : Inv (X.suite a (q :: (X.pn ++ pins))) [] σ H s) : Inv X (q :: pins) σ H s :=
  ⟨ok, I.os, I.bare, I.base, I.loc, I.cell, I.free, I.freeC, fun p hp => I.pin p (by
    simp only [List.mem_append, List.mem_cons, List.append_nil] at hp ⊢
    rcases hp with h | h | h
    · exact .inr (.inl h)
    · exact .inl h
    · exact .inr (.inr h)), I.hok, I.len⟩
/-- what `except x as n` wishes, where all that follows is read with the exception in hand -/
def wThen (K : PySem.W.Frag) (c : Value) (i : Nat) (tsu : Addr → Value → Option Addr → TS) (tre : Addr → Value → Option Addr → TS) (Wout : WX) (D : Ends) : WX := fun cls dd σ H =>
  ∃ yes, PySem.W.exmOne K cls c = some yes ∧ (yes = true → ∀ a, H a = none → tsu a cls dd ⟨fun σ2 H2 => tre a cls dd D (σ2.set i none) H2, fun _ _ => False, fun _ _ => False, fun _ _ => False⟩ (σ.set i (some (.ref a))) H) ∧ (yes = false → Wout cls dd σ H)
section
variable {X : Cx} {x n : Str} {c : Value} {i : Nat} {body suite rest : List Stmt} {b0 : Stmt} {np hpos pos : Pos} {tb : WX → TS} {tsu : Addr → Value → Option Addr → TS} {Wout : WX} {tr : TS} {tre : Addr → Value → Option Addr → TS}
theorem pss_tryThen (stk : X.stack = X.env :: X.outer) (frm : X.env.frame = some X.env.locals) (nod : X.N.Nodup) (at_i : X.N[i]? = some n) (loc : X.env.kindOf n = some .local) (nam : Names X x c) (tk : Takes X Wout)
    (hbody : ∀ (W : WX) (pn : List (Addr × Obj)) (xe : Value → Shared → Prop), Takes (X.tr pn xe) W → PassesOwn (model X.prog X.w) X.A X.env xe → PSs (X.tr pn xe) body (tb W))
    (hsuite : ∀ (a : Addr) (oe : Obj) (cls : Value) (dd : Option Addr) (pn : List (Addr × Obj)), Zc cls dd oe → (∃ vs, oe.data = .fields vs) → PSs (X.suite a ((a, oe) :: pn)) (b0 :: suite) (tsu a cls dd))
    (hrest : PSs X rest tr) (hthen : ∀ (a : Addr) (oe : Obj) (cls : Value) (dd : Option Addr), Zc cls dd oe → (∃ vs, oe.data = .fields vs) → PSs (withPin X (a, oe)) rest (tre a cls dd)) :
    PSs X (.Try body [.ExceptHandler (some (.Name x np)) (some n) (b0 :: suite) hpos] [] [] pos :: rest) (fun D σ H => tb (wThen X.K c i tsu tre Wout D) { D with nx := tr D } σ H) := by
  refine ⟨fun pins s σ H D I start => wpAny_execs_cons ?_⟩
  have ok := I.ok
  have frames : X.A.frames = some (X.env :: X.outer) := by rw [ok.frames, stk]
  have vis : Loc X.env.scope n := .inl loc
  refine wpAny_Try_except ?_
  refine wpAny_mono ((hbody (wThen X.K c i tsu tre Wout D) (X.pn ++ pins) _ (fun u s2 air => ?air) PassesOwn.looking).run [] s σ H _ (I.toTry _) start) (fun f s1 done => ?go) (fun e s1 he => he)
  case go =>
    cases f with
    | next =>
      obtain ⟨σ1, H1, I1, z⟩ := done
      exact wpAny_execs_nil (hrest.run pins s1 σ1 H1 D (I1.ofTry ok) z)
    | brk => obtain ⟨σ1, H1, I1, z⟩ := done; exact ⟨σ1, H1, I1.ofTry ok, z⟩
    | cont => obtain ⟨σ1, H1, I1, z⟩ := done; exact ⟨σ1, H1, I1.ofTry ok, z⟩
    | ret u => obtain ⟨v, σ1, H1, I1, r, z⟩ := done; exact ⟨v, σ1, H1, I1.ofTry ok, r, z⟩
  case air =>
    obtain ⟨ea, Bg, s0, pins0, σ1, H1, cls, dd, rfl, I1t, ground, slots, sky0, ea0, oss, bares, yes, hyes, whenYes, whenNo⟩ := air
    have I1 : Inv X pins σ1 H1 s0 := I1t.ofTry ok
    rw [stk] at sky0
    show wpAny (model X.prog X.w) X.A (noteFrame (.ref ea) X.env) _ _ _
    refine Sky.land Zc.steady frames frm sky0 fun ha noted slotsA => ?_
    have Ia : Inv X pins σ1 H1 { s2 with heap := ha } := I1.landed ground noted.1 (slots.trans slotsA) oss bares
    obtain ⟨oa, va, geta, za, da⟩ := noted.there
    have noFrame : ea ∉ frs (X.env :: X.outer) := fun mem => by
      obtain ⟨_, o2, get2, nf⟩ := noted.2.2.1.mem mem
      rw [geta] at get2
      cases get2
      exact nf _ da
    have notLocals : ea ≠ X.env.locals := fun z => noFrame (List.mem_filterMap.mpr ⟨X.env, List.mem_cons_self, by rw [frm, z]⟩)
    have notFs : ea ∉ X.fs := fun mem => by
      obtain ⟨en, men, q⟩ := List.mem_filterMap.mp mem
      exact noFrame (List.mem_filterMap.mpr ⟨en, List.mem_cons_of_mem _ men, q⟩)
    have Sa := Ia.suite geta da ea0 notLocals notFs
    refine wpAny_handleBy_cons (codeAny_handlers_test ?_) (by intro q; cases q)
    have typ : PySem.W.Looks (model X.prog X.w) ha (typeOf (.ref ea)) cls := fun A2 Q2 E2 s3 keep q => wpAny_typeOf_ref (keep _ _ geta) (by rw [za.1]; exact q)
    have matching := PySem.W.exm_one (M := model X.prog X.w) Ia.kIn typ hyes
    have named : ∀ {Q2 : Value → Shared → Prop} {E2 : Value → Shared → Prop}, Q2 c { s2 with heap := ha } → wpAny (model X.prog X.w) (X.A.mark (some (.ref ea))) (eval (.Name x np) X.env) Q2 E2 { s2 with heap := ha } := fun {Q2 E2} q => by
      rcases nam with ⟨gl, dbg, byMod | ⟨noMod, blt, nn⟩⟩
      · exact ld_glob (X := X.suite ea ((ea, oa) :: (X.pn ++ pins))) Sa gl byMod q dbg
      · exact ld_blt (X := X.suite ea ((ea, oa) :: (X.pn ++ pins))) Sa gl noMod blt q nn dbg
    refine named (matching.here ?_)
    cases yes with
    | true =>
      refine codeAny_handlers_suite_as ?_
      refine HandSPX.lands_againZ noted fun hb again slotsB => ?_
      have Ib : Inv X pins σ1 H1 { s2 with heap := hb } := I1.landed ground again.1 ((slots.trans slotsA).trans slotsB) oss bares
      obtain ⟨ob, vb, getb, zb, db⟩ := again.there
      refine store_ok (X := X.suite ea ((ea, ob) :: (X.pn ++ pins))) (v := .ref ea) (Ib.suite getb db ea0 notLocals notFs) nod at_i vis rfl (fun s4 S4 => ?_) (.inr loc)
      refine wpAny_mono ((hsuite ea ob cls dd (X.pn ++ pins) zb ⟨_, db⟩).run [] s4 _ H1 _ S4 (whenYes rfl ea ea0)) (fun fl s5 out => ?_) (fun _ _ z => z.elim)
      cases fl with
      | next =>
        obtain ⟨σ5, H5, S5, z5⟩ := out
        exact gone_ok (inv_out ok S5) nod at_i loc fun s6 I6 => wpAny_mono ((hthen ea ob cls dd zb ⟨_, db⟩).run pins s6 _ H5 D (inv_pin I6) z5) (fun fl6 s7 h7 => sp_unpin ok h7) (fun _ _ z => z)
      | brk => obtain ⟨_, _, _, z5⟩ := out; exact z5.elim
      | cont => obtain ⟨_, _, _, z5⟩ := out; exact z5.elim
      | ret u => obtain ⟨_, _, _, _, _, z5⟩ := out; exact z5.elim
    | false =>
      show wpAny _ X.A (handleBy (.ref ea) X.env []) _ _ _
      refine wpAny_handleBy_nil ?_
      obtain ⟨_, _, _, oe, vs, Tb, oT, ts', he, hz, hd, h1, hr⟩ := id noted
      unfold PySem.passOn
      refine wpAny_bind (wpAny_field he hd h1 ?_)
      rw [if_neg (show ¬ ((Value.ref Tb == Value.none) = true) from by simp)]
      have thrown : ∀ {Qf : Flow → Shared → Prop}, wpAny (model X.prog X.w) X.A (setFlight (.ref ea) X.env.frame) (fun _ s4 => wpAny (model X.prog X.w) X.A (throw (.ref ea) : Sem Flow) Qf X.xe s4) X.xe { s2 with heap := ha } := fun {Qf} => by
        rw [frm]
        refine HandSPX.setFlight_upZ noted fun hc held slotsC => wpAny_throw (tk _ _ ?_)
        exact ⟨ea, Bg, s0, pins, σ1, H1, cls, dd, rfl, I1, ground, (slots.trans slotsA).trans slotsC, .inr (.inr (by rw [stk]; exact held)), ea0, oss, bares, whenNo rfl⟩
      first
        | exact wpAny_bind (wpAny_pure (wpAny_bind thrown))
        | exact wpAny_bind thrown
end
theorem RS.gone {K : PySem.W.Frag} {H : Hp} {σ : L2.St} {ρ : Rho} {μ : Mu} (R : RS K H σ ρ μ) (i : Nat) : RS K H (σ.set i none) (ρ.set i none) μ := by
  refine ⟨by rw [List.length_set, List.length_set]; exact R.len, fun j d e => ?_, R.mem⟩
  by_cases c : j = i
  · subst c
    rw [List.getElem?_set] at e
    split at e
    · split at e <;> cases e
    · rename_i h; exact absurd rfl h
  · rw [List.getElem?_set_ne (Ne.symm c)] at e ⊢
    exact R.slot j d e
/-- try: f(..) except D as e: x = e, and what follows, where the class is a C, a class below D -/
def dTryThen (p : RLX) (t : AD) (i j : Nat) (C : Addr) (r0 : SD) (r1 : Addr → SD) : SD := fun E ρ μ => i < ρ.length ∧ t ρ μ fun ds μ1 => p ds μ1 (fun _ μ2 => r0 E ρ μ2) fun cls μ2 => cls = .ref C ∧ ∀ a, r1 a E (((ρ.set i (some (gob a))).set j (some (gob a))).set i none) μ2
section
variable {X : Cx} {k : Nat} {f : Addr} {fd : FuncData} {ps : List Str} {p : RLX} {x xn en cn : Str} {np cpos hpos tpos epos pe1 pe2 apos pos : Pos} {e : Expr} {es : List Expr} {t : AD} {C D0 : Addr} {rest : List Stmt} {i j : Nat} {r0 : SD} {r1 : Addr → SD} {pt : Pos}
theorem d_tryThen (hs : X.stack = X.env :: X.outer) (hf : X.env.frame = some X.env.locals) (nod : X.N.Nodup) (hi : X.N[i]? = some en) (hln : X.env.kindOf en = some .local) (nam : Names X xn (.ref D0)) (hex : PySem.W.exmOne X.K (.ref C) (.ref D0) = some true)
    (G : ∀ (pn : List (Addr × Obj)) (xe : Value → Shared → Prop), GtX (X.tr pn xe).prog (X.tr pn xe).w (X.tr pn xe).K (X.tr pn xe).mg (X.tr pn xe).base k x ps p f fd) (hr : Room k X.A) (mp : MonoX p) (ha : ∀ (pn : List (Addr × Obj)) (xe : Value → Shared → Prop), PAD (X.tr pn xe) (e :: es) t)
    (hsu : ∀ (a : Addr) (oe : Obj) (pn : List (Addr × Obj)), PSsD (X.suite a ((a, oe) :: pn)) [.Assign [.Name cn pt] (.Name en pe2) apos] (dSet (dVar i) (gNm j)))
    (hr0 : PSsD X rest r0) (hr1 : ∀ (a : Addr) (oe : Obj), Zc (.ref C) none oe → (∃ vs, oe.data = .fields vs) → PSsD (withPin X (a, oe)) rest (r1 a))
    (hg : ∀ (pn : List (Addr × Obj)) (xe : Value → Shared → Prop), Gl (X.tr pn xe) x) (hdb : (x == ("__debug__" : Str)) = false) (he : starEach (e :: es) X.env = (false, eval e X.env) :: starEach es X.env := by rfl) (hpl : (backTo cpos (starEach es X.env)).any (·.1) = false := by rfl)
    (hsw : swapsWith (.Call (.Name x np) (e :: es) [] cpos) none epos.line X.env = pure false := by rfl) :
    PSsD X (.Try [.Expr (.Call (.Name x np) (e :: es) [] cpos) epos] [.ExceptHandler (some (.Name xn hpos)) (some en) [.Assign [.Name cn pt] (.Name en pe2) apos] tpos] [] [] pos :: rest) (dTryThen p t i j C r0 r1) := by
  have mt : MonoA t := (ha [] fun _ _ => False).mono
  have m1 : ∀ a, MonoS (r1 a) := fun a => (hr1 a { cls := .ref C, dict := none, data := .fields #[] } ⟨rfl, rfl⟩ ⟨_, rfl⟩).mono
  refine ⟨PSs.imp (pss_tryThen hs hf nod hi hln nam L2.takes0 (tb := fun W => tDrop (tCallS (spUpX X.K p) (WE W) (upA X.K t))) (fun W pn xe tk _ => pss_one (ps_expr (pe_callS (X := X.tr pn xe) (sp := spUpX X.K p) (E := WE W) (t := upA X.K t) (G pn xe).F hr (hg pn xe) (G pn xe).m (G pn xe).k (G pn xe).b (fun σ => passAt tk σ) (ha pn xe).pa hdb he hpl) hsw))
    (tsu := fun a cls d => upS X.K (dSet (dVar i) (gNm j))) (fun a oe cls d pn _ _ => (hsu a oe pn).ps) (tr := upS X.K r0) hr0.ps (tre := fun a cls dd => fun E σ H => cls = .ref C ∧ dd = none ∧ upS X.K (r1 a) E σ H) (fun a oe cls dd z fl => ⟨fun pins s σ H E I ⟨c1, c2, h⟩ => by
      subst c1 c2
      exact (hr1 a oe z fl).ps.run pins s σ H E I h⟩)) fun E σ H ⟨ρ, μ, R, hlt, q⟩ => ?_, fun E E' ρ μ l ⟨hlt, q⟩ => ⟨hlt, mt _ _ _ _ (fun ds μ1 z => mp _ _ _ _ _ _ (fun _ μ2 y => hr0.mono _ _ _ _ l y) (fun cls μ2 y => ⟨y.1, fun a => m1 a _ _ _ _ l (y.2 a)⟩) z) q⟩⟩
  refine upA_bind R mt q fun ds μ1 vs H1 q1 s1 R1 ra => ?_
  refine ⟨ds, μ1, R1.mem, ra, mp _ _ _ _ _ _ (fun d μ2 y v H2 s2 m2 r2 => ⟨ρ, μ2, R1.step s2 m2, hr0.mono _ _ _ _ (liftS_le (s1.trans s2)) y⟩) (fun cls μ2 ⟨y1, y2⟩ H2 s2 m2 => ?_) q1⟩
  subst y1
  have R2 := R1.step s2 m2
  refine ⟨true, hex, fun _ a ha0 => ⟨ρ.set i (some (gob a)), μ2, R2.set i (rep_gob a _), ?_⟩, fun z => nomatch z⟩
  show dVar i (ρ.set i (some (gob a))) μ2 _
  unfold dVar
  rw [List.getElem?_set_self hlt]
  intro σ3 H3 s3 R3
  exact ⟨rfl, rfl, _, μ2, R3.gone i, m1 a _ _ _ _ (liftS_le ((s1.trans s2).trans s3)) (y2 a)⟩
/-- isinstance(e, c) of the exception in hand -/
def rIsX (K : PySem.W.Frag) (C a : Addr) : RLD := fun ds μ Q => match ds with
  | [.fn b [] [] [], .fn c [] [] []] => b = a ∧ ∃ r, PySem.W.kitOne K (.ref C) (.ref c) = some r ∧ Q (.bl r) μ
  | _ => False
theorem c_isX {a : Addr} {oe : Obj} (EC : ExcC X.K C) (hz : Zc (.ref C) none oe) (hfl : ∃ vs, oe.data = .fields vs) : CaD (withPin X (a, oe)) (.builtin "isinstance") (rIsX X.K C a) := by
  refine ⟨fun pins s σ H xs us Q I r h => ?_, fun ds μ Q Q' i q => by
    unfold rIsX at q ⊢
    split at q
    · obtain ⟨e1, r, e2, q⟩ := q
      exact ⟨e1, r, e2, i _ _ q⟩
    · exact q.elim⟩
  obtain ⟨ds, μ, m, rr, q⟩ := h
  unfold rIsX at q
  split at q
  · rename_i bb cc
    obtain ⟨rfl, b, e, q⟩ := q
    cases rr with
    | cons x1 x2 =>
      cases x2 with
      | cons x2 x3 =>
        cases x3
        cases x1
        cases x2
        obtain ⟨u1, u2, rfl, y1, y2⟩ := vals2 r
        cases (show u1 = Value.ref _ from y1)
        cases (show u2 = Value.ref _ from y2)
        obtain ⟨hget, _⟩ := I.pin (_, oe) (List.mem_append.mpr (.inl List.mem_cons_self))
        have J : PySem.W.InstAt s.heap bb oe C none := by
          obtain ⟨vs, hv⟩ := hfl
          obtain ⟨oc, od, oda, osl⟩ := oe
          obtain ⟨h1, h2⟩ := hz
          dsimp only at h1 h2 hv
          subst h1 h2 hv
          exact ⟨hget, rfl, rfl, trivial⟩
        exact PySem.W.kia_one (PySem.W.handS_kitx_exc EC.hg EC.hk EC.hs EC.hd EC.ha EC.hn EC.ht EC.hm) I.kIn J e (fun z => nomatch z) fun tk => ⟨.bl b, H, I.kept (t' := tk) fun _ _ z => z, rfl, q _ H (Same.refl _) m (.bl _)⟩
  · exact q.elim
end
end DL

set_option Elab.async false
set_option linter.all false
set_option maxRecDepth 100000
set_option maxHeartbeats 2000000
namespace DL
open PySem PySem.Spec PyProof.Rows L2 NdefX LamX
/-! ### from here on a list of the store that a local holds is read as it is -/
def dFrzV (i : Nat) (t : SD) : SD := fun E ρ μ => match ρ[i]? with
  | some (some (.ob a)) => match μ a with
    | some (.lst ds) => t E (ρ.set i (some (.lst ds))) (mdel μ a)
    | _ => False
  | _ => False
theorem d_frzV {X : Cx} (i : Nat) {body : List Stmt} {t : SD} (h : PSsD X body t) : PSsD X body (dFrzV i t) := by
  refine ⟨PSs.imp h.ps fun E σ H ⟨ρ, μ, R, q⟩ => ?_, fun E E' ρ μ l q => ?_⟩
  · unfold dFrzV at q
    split at q
    · rename_i a e
      split at q
      · rename_i ds e2
        have sb : Sub (mdel μ a) μ := mdel_sub
        have ct : cut H (mdel μ a) a = H a := by
          unfold cut
          rw [mdel_same]
          rfl
        obtain ⟨v, hv, rv⟩ := R.slot i _ e
        cases rv
        obtain ⟨vs, h1, h2⟩ := R.mem a _ e2
        have r : Rep X.K (cut H (mdel μ a)) (.ref a) (.lst ds) := .lst (SqL.of (ct.trans h1)) (h2.mono sb.cut)
        have R2 : RS X.K H σ (ρ.set i (some (.lst ds))) (mdel μ a) := by
          refine ⟨by rw [List.length_set]; exact R.len, fun j d ej => ?_, R.mem.sub sb⟩
          by_cases c : j = i
          · subst c
            have hlt : j < ρ.length := by
              rw [List.getElem?_eq_some_iff] at e
              exact e.1
            rw [List.getElem?_set_self hlt] at ej
            cases ej
            exact ⟨_, hv, r⟩
          · rw [List.getElem?_set_ne (Ne.symm c)] at ej
            obtain ⟨u, hu, ru⟩ := R.slot j d ej
            exact ⟨u, hu, ru.mono sb.cut⟩
        exact ⟨_, _, R2, h.mono _ _ _ _ (liftS_le sb.cut) q⟩
      · exact q.elim
    · exact q.elim
  · unfold dFrzV at q ⊢
    split at q
    · split at q
      · exact h.mono _ _ _ _ l q
      · exact q.elim
    · exact q.elim
end DL

set_option Elab.async false
set_option linter.all false
set_option maxRecDepth 100000
set_option maxHeartbeats 2000000
namespace DL
open PySem PySem.Spec PyProof.Rows L2 NdefX LamX
/-! DlAE: defs that know that nobody is showing anything (no guard stands on the stack): what `repr` wants. -/
/-- FnOk, asked only where no guard stands -/
structure FnG (P : Program) (w : World) (K : PySem.W.Frag) (mg : Str → Option Value) (base : Heap) (CX : CXT) (k : Nat) (f : Addr) (fd : FuncData) (ps : List Str) (sp : Sp) : Prop where
  wide : ∀ vs H Q E, sp vs H Q E → vs.length = ps.length
  goes : ∀ (A : Around) (out : List Env) (s : Shared) (H : Hp) (ar : Args) (us : List Value) (vs : List V) (Q : VK) (E : XK), A.guards = some [] → Room k A → Env0 P w K mg base A out s H → BindsTo s fd ar (ps.zip us) → Vals vs us → sp vs H Q E →
    codeAny (model P w) A (.call (.ref f) ar) (CR CX out P w H s Q E) s
theorem FnG.of {P : Program} {w : World} {K : PySem.W.Frag} {mg : Str → Option Value} {base : Heap} {CX : CXT} {k : Nat} {f : Addr} {fd : FuncData} {ps : List Str} {sp : Sp} (F : FnOk P w K mg base CX k f fd ps sp) : FnG P w K mg base CX k f fd ps sp :=
  ⟨F.len, fun A out s H ar us vs Q E _ => F.run A out s H ar us vs Q E⟩
section
variable {P : Program} {w : World} {K : PySem.W.Frag} {mg : Str → Option Value} {base : Heap}
theorem deeper_guards {A : Around} {env : Env} (h : A.guards = some []) : (A.deeper env).guards = some [] := h
/-- a def's promise from its body, under no guard -/
theorem okG {x qual : Str} {st : Stmt} {f : Addr} {fd : FuncData} {N ps : List Str} {k : Nat} {sp : Sp} (F : Fun K x qual st f fd) (S : FnScope N ps (defScope st)) (wide : ∀ vs H Q E, sp vs H Q E → vs.length = ps.length)
    (body : ∀ (cdv : Value) (A : Around) (out : List Env) (s : Shared) (H : Hp) (vs : List V) (Q : VK) (E : XK), A.guards = some [] → Room k (A.deeper (envOfC qual (defScope st) s.heap.objs.size f cdv)) → sp vs H Q E →
      ∃ t, PSs (cxOf CX0 P w K mg base N qual (defScope st) f cdv A out s H E).nox (defBody st) t ∧ t { nx := fun _ H' => Q .non H', rt := Q } (start N vs) H) : FnG P w K mg base CX0 (k + 1) f fd ps sp := by
  obtain ⟨oc, od, kV, doc, pm, an, cdv, ct, slots, rfl, lk, hcd⟩ := F.ex
  constructor
  · exact wide
  intro A out s H ar us vs Q E hg room e0 bd rv ask
  have kin : K.In s.heap := e0.mod.kin.keeps fun b o e => (e0.bs b o e).1
  have nolim : s.heap.NoLimit := e0.mod.nolimit.keeps fun b o e => (e0.bs b o e).1
  have kinds : ∀ y ∈ ps.zip us, (defScope st).names.lookup y.1 = some .local ∨ ((defScope st).names.lookup y.1 = some .cell ∧ ((cellsFrom (s.heap.objs.size + 1) (defScope st).names []).lookup y.1).isSome = true) := by
    rintro ⟨n, v⟩ hy
    exact (S.par n (List.of_mem_zip hy).1).imp id fun q => ⟨q, PySem.W.cellsFrom_some _ _ _ (.inl q)⟩
  apply codeAny_call_function room.depth (kin _ _ lk) rfl S.co S.gen rfl (PySem.W.codeRec_of kin hcd) (bd _ _ _ _ _)
  refine wpAny_newFunctionEnv_cells S.kind kinds fun env he s1 xx => ?_
  cases he
  refine ⟨nolim.keeps xx.toInCall.keep, codeAny_func ?_⟩
  obtain ⟨t, ht, hq⟩ := body cdv A out s H vs Q E hg (room.deeper _) ask
  have inv := inv_start (CX := CX0) (E := E) (base := base) (P := P) (w := w) (mg := mg) S room.hd e0 (wide _ _ _ _ ask) rv xx
  refine wpAny_mono (ht.nox.run [] s1 (start N vs) H _ inv hq) ?_ fun e s' hs => hs
  intro fl s' hs
  cases fl with
  | ret u => obtain ⟨v, σ', H', J, r1, q1⟩ := hs; exact ⟨v, H', J.os, J.bare, J.base, J.hok, r1, q1⟩
  | next => obtain ⟨σ', H', J, q1⟩ := hs; exact ⟨V.non, H', J.os, J.bare, J.base, J.hok, rfl, q1⟩
  | brk => obtain ⟨_, _, _, q1⟩ := hs; exact q1.elim
  | cont => obtain ⟨_, _, _, q1⟩ := hs; exact q1.elim
/-- .. read as data -/
theorem okDG {x qual : Str} {st : Stmt} {f : Addr} {fd : FuncData} {N ps : List Str} {k : Nat} {p : RLD} (F : Fun K x qual st f fd) (S : FnScope N ps (defScope st)) (len : ∀ ds μ Q, p ds μ Q → ds.length = ps.length)
    (hbody : ∀ (cdv : Value) (A : Around) (outer : List Env) (s : Shared) (H : Hp) (E : XK), A.guards = some [] → Room k (A.deeper (envOfC qual (defScope st) s.heap.objs.size f cdv)) →
      ∃ t, PSsD (cxOf CX0 P w K mg base N qual (defScope st) f cdv A outer s H E).nox (defBody st) t ∧ ∀ ds μ Q, p ds μ Q → t (endsOf Q) (startD N ds) μ) : FnG P w K mg base CX0 (k + 1) f fd ps (spUp K p) := by
  refine okG F S (fun vs H Q E ⟨ds, μ, m, r, q⟩ => r.length.trans (len ds μ _ q)) fun cdv A outer s H vs Q E hg hr ⟨ds, μ, m, r, q⟩ => ?_
  obtain ⟨t, ht, hq⟩ := hbody cdv A outer s H E hg hr
  refine ⟨_, ht.ps, startD N ds, μ, start_RS m r, ht.mono _ _ _ _ ⟨fun ρ' μ' z σ' H' s' R' => ?_, fun d μ' z v H' s' m' r' => ?_, fun _ _ z => False.elim z, fun _ _ z => False.elim z⟩ (hq ds μ _ q)⟩
  · obtain ⟨μ2, sb, z⟩ := z
    exact z _ H' (s'.trans sb.cut) (R'.mem.sub sb) .non
  · obtain ⟨μ2, sb, z⟩ := z
    exact z v H' (s'.trans sb.cut) (m'.sub sb) (r'.mono sb.cut)
end
section
variable {X : Cx} {k : Nat} {f : Addr} {fd : FuncData} {ps : List Str} {sp : Sp} {pr : RLD} {x : Str} {p pos : Pos} {e : Expr} {es : List Expr} {ta : TA} {t : AD}
/-- such a def called where no guard stands -/
theorem goes_G {pins : List (Addr × Obj)} {σ : L2.St} {H : Hp} {s : Shared} {Q : VK} {us : List Value} {vs : List V} {E : XK} (F : FnG X.prog X.w X.K X.mg X.base CX0 k f fd ps sp) (hgd : X.A.guards = some []) (hr : Room k X.A) (hb : Binds X.K fd ps []) (hx : Passes CX0 X E)
    (I : Inv X pins σ H s) (r : Vals vs us) (h : sp vs H Q E) : wpAny (model X.prog X.w) X.A (call (.ref f) us) (EP X pins σ Q) X.xe s := by
  have hl : (us ++ []).length = ps.length := by rw [List.append_nil, ← r.length]; exact F.wide _ _ _ _ h
  have bd := hb s us I.kIn hl
  rw [List.append_nil] at bd
  have run := F.goes X.A X.stack s H ⟨us, []⟩ us vs Q E hgd hr I.env0 bd r h
  refine wpAny_call (codeAny_mono run ?_)
  intro r s' hq
  cases r with
  | ok fl =>
    cases fl with
    | ret u => exact I.after hq
    | next => exact hq.elim
    | brk => exact hq.elim
    | cont => exact hq.elim
  | error ex => exact hx pins σ H s ex s' I hq
theorem pe_callG {E : XK} (F : FnG X.prog X.w X.K X.mg X.base CX0 k f fd ps sp) (hgd : X.A.guards = some []) (hr : Room k X.A) (hg : Gl X x) (hm : X.mg x = some (.ref f)) (hk : PySem.W.keepIn X.K (.ref f) = true) (hb : Binds X.K fd ps []) (hx : Passes CX0 X E)
    (ha : PA X (e :: es) ta) (hdb : (x == ("__debug__" : Str)) = false := by decide) (he : starEach (e :: es) X.env = (false, eval e X.env) :: starEach es X.env := by rfl) (hpl : (backTo pos (starEach es X.env)).any (·.1) = false := by rfl) :
    PE X (.Call (.Name x p) (e :: es) [] pos) (tCall sp [] E ta) := by
  constructor
  intro pins s σ H Q I h
  refine wpAny_Call_Name_kw (ld_glob I hg hm (?_) hdb)
  refine PySem.W.callWith_K (h₀ := X.base) I.ok.mod.kin hk (thn (ha.run pos pins s σ H _ I h) fun us s1 z => ?_) he hpl
  obtain ⟨vs, H1, I1, r, q⟩ := z
  rw [List.append_nil] at q
  exact ⟨I1.kIn, goes_G F hgd hr hb hx I1 r q⟩
theorem d_callG (F : FnG X.prog X.w X.K X.mg X.base CX0 k f fd ps (spUp X.K pr)) (mono : MonoL pr) (hgd : X.A.guards = some []) (hr : Room k X.A) (hm : X.mg x = some (.ref f)) (hk : PySem.W.keepIn X.K (.ref f) = true) (hb : Binds X.K fd ps []) (ha : PAD X (e :: es) t) (hg : Gl X x := by rfl)
    (hdb : (x == ("__debug__" : Str)) = false := by decide) (he : starEach (e :: es) X.env = (false, eval e X.env) :: starEach es X.env := by rfl) (hpl : (backTo pos (starEach es X.env)).any (·.1) = false := by rfl) : PD X (.Call (.Name x p) (e :: es) [] pos) (dCa pr t) := by
  refine ⟨PE.imp (pe_callG F hgd hr hg hm hk hb pass0 ha.pa hdb he hpl) fun σ H Q ⟨ρ, μ, R, q⟩ => ?_, dCa_mono mono ha.mono⟩
  refine upA_bind R ha.mono q fun ds μ1 vs H1 q1 s1 R1 r1 => ?_
  rw [List.append_nil]
  exact ⟨ds, μ1, R1.mem, r1, mono ds μ1 _ _ (fun d μ' => lift_stp s1) q1⟩
end
/-! ### repr of plain nested data -/
/-- what is shown is a string of characters -/
def AsStr (x : Str) (t : String) : Prop := enc t = x
def rReprD (hu : Nat) : RLD := fun ds μ Q => match ds with
  | [d] => ∃ p t, toPy d = some p ∧ p.showable = true ∧ p.hasDict = false ∧ (match p with | .list _ => True | .tuple _ => True | _ => False) ∧ p.shown.length ≤ sizeLine ∧ hu + (p.depth + 1) < cLine ∧ AsStr p.shown t ∧ Q (.str t) μ
  | _ => False
section
variable {X : Cx}
theorem c_repr (hgd : X.A.guards = some []) : CaD X (.builtin "repr") (rReprD X.A.units) := by
  refine ⟨fun pins s σ H xs us Q I rv ⟨ds, μ, m, r, q⟩ => ?_, fun ds μ Q Q' i q => by
    unfold rReprD at q ⊢
    split at q
    · obtain ⟨p, t, h1, h2, h3, h4, h5, h6, h7, q⟩ := q
      exact ⟨p, t, h1, h2, h3, h4, h5, h6, h7, i _ _ q⟩
    · exact q.elim⟩
  unfold rReprD at q
  split at q
  · rename_i d
    obtain ⟨p, t, e, sh, nd, isr, len, dep, as, q⟩ := q
    cases r with
    | cons r1 rs =>
      cases rs
      cases rv with
      | cons v1 vs =>
        rename_i u0 _
        cases vs
        have dp := dp_of cut_sub r1 e
        obtain ⟨aa, rd⟩ := dp.reads I _ _ _ v1
        have ref : ∃ a, u0 = Value.ref a := by
          cases rd <;> first | exact ⟨_, rfl⟩ | exact isr.elim
        obtain ⟨a, rfl⟩ := ref
        refine repr_of_reads' rd sh (fun z => by rw [nd] at z; cases z) hgd dep (fun _ _ z => z) (fun h' u tk k => ?_) len
        have as : enc t = p.shown := as
        rw [← as]
        exact ⟨.str (enc t), H, I.kept k, ⟨u, rfl⟩, q _ H (Same.refl _) m (.str t)⟩
  · exact q.elim
end
end DL

set_option Elab.async false
set_option linter.all false
set_option maxRecDepth 100000
set_option maxHeartbeats 2000000
namespace DL
open PySem PySem.Spec PyProof.Rows L2 NdefX LamX
/-! DlAF: the end of a law that knows that no guard stands. -/
abbrev tabO : Obj := { cls := .none, data := .fields #[] }
abbrev scrO (vs : List Value) : Obj := { cls := .type "list", data := .seq vs.toArray }
/-- what is tracked when the law is called: its script, unless the fragment knows it, and the tables -/
theorem first_hp {P : Program} {w : World} {K : PySem.W.Frag} {h : Heap} {a : Addr} {ts : List Addr} {vs : List Value} {ns : List Int} (KX : K.In h) (ha : h.get? a = some (scrO vs)) (hi : IntsAre vs ns) (hl : ns.length ≤ sizeLine) (isT : ∀ b ∈ ts, h.get? b = some tabO) :
    ∃ H : Hp, (∀ b ∈ ts, H b = some (.tbl #[])) ∧ (∀ b, H b = none ∨ b ∈ ts ∨ ∃ o xs, H b = some (.frz o (.lst xs))) ∧ SqL K H a (ns.map V.int) ∧ HOk P w H h ∧ (∀ b, H b ≠ none → b = a ∨ b ∈ ts) ∧ (H a ≠ none → K.lookup a = none) := by
  have rv := vals_ints hi
  have aT : a ∉ ts := fun z => by
    have q := isT a z
    rw [ha] at q
    have q : (scrO vs).data = tabO.data := congrArg Obj.data (Option.some.inj q)
    cases q
  cases hk : K.lookup a with
  | some o =>
    have e := KX a o hk
    rw [ha] at e
    cases e
    refine ⟨fun b => if b ∈ ts then some (.tbl #[]) else none, fun b hb => if_pos hb, fun b => ?_, .inr ⟨_, vs.toArray, _, hk, rfl, rfl, rfl, by rw [List.size_toArray, hi.length]; exact hl, by simpa using rv⟩, fun b u z => ?_, fun b z => ?_, fun z => absurd (if_neg aT) z⟩
    · by_cases c : b ∈ ts
      · exact .inr (.inl c)
      · exact .inl (if_neg c)
    · dsimp only at z
      split at z
      · rename_i c
        cases z
        exact isT b c
      · cases z
    · dsimp only at z
      split at z
      · rename_i c; exact .inr c
      · exact absurd rfl z
  | none =>
    refine ⟨fun b => if b = a then some (.frz (scrO vs) (.lst (ns.map V.int))) else if b ∈ ts then some (.tbl #[]) else none, fun b hb => ?_, fun b => ?_, .inl (.inr ⟨scrO vs, if_pos rfl⟩), fun b u z => ?_, fun b z => ?_, fun _ => rfl⟩
    · dsimp only
      rw [if_neg (show ¬ b = a from fun (z : b = a) => aT (by rw [← z]; exact hb)), if_pos hb]
    · dsimp only
      split
      · exact .inr (.inr ⟨_, _, rfl⟩)
      · split
        · rename_i c; exact .inr (.inl c)
        · exact .inl rfl
    · dsimp only at z
      split at z
      · rename_i c
        cases z
        subst c
        exact ⟨ha, (by rw [List.length_map]; exact hl), vs, _, rv, ha⟩
      · split at z
        · rename_i c
          cases z
          exact isT b c
        · cases z
    · dsimp only at z
      split at z
      · rename_i c; exact .inl c
      · split at z
        · rename_i c; exact .inr c
        · exact absurd rfl z
/-- the law called, by whom knows that no guard stands -/
theorem law_callG {P : Program} {w : World} {K : PySem.W.Frag} {mg mb : Str → Option Value} {k : Nat} {fa a : Addr} {cs : List (Addr × Addr)} {fd : FuncData} {x : Str} {sp : Sp} {s₁ : Shared} {vs : List Value} {ns : List Int} (KX : K.In s₁.heap) (hns : s₁.heap.Ns mainGlobals mg) (hb : s₁.heap.Ns builtinsNs mb)
    (hbb : ∀ x : Str, x ≠ "__name__" → mb x = bootBuiltins x) (hlim : s₁.heap.NoLimit) (hg : s₁.gens = #[]) (hT : ∀ p ∈ cs, s₁.heap.get? p.2 = some tabO) (nT : ∀ p ∈ cs, K.lookup p.2 = none) (C : ∀ p ∈ cs, PySem.W.CodeHd s₁.heap p.1 p.2)
    (hbm : ∃ (bm : Addr) (ob : Obj), mg "__builtins__" = some (.ref bm) ∧ bm ≠ builtinsNs ∧ s₁.heap.get? bm = some ob ∧ ob.cls = .type "module" ∧ ob.dict = some builtinsNs ∧ ob.data = .plain) (ha : s₁.heap.get? a = some (scrO vs)) (hi : IntsAre vs ns) (hl : ns.length ≤ sizeLine) (room : Room k callerA)
    (F : ∀ base : Heap, K.In base → base.Ns mainGlobals mg → (∀ p ∈ cs, TabB base mg p.1 p.2) → FnG P w K mg base CX0 k fa fd [x] sp) (bd : ∀ (s : Shared) (u : Value), BindsTo s fd ⟨[u], []⟩ [(x, u)])
    (ask : ∀ H : Hp, (∀ p ∈ cs, H p.2 = some (.tbl #[])) → SqL K H a (ns.map V.int) → sp [.ref a] H (fun v _ => v = .bl true) fun _ _ _ => False) :
    codeAny (model P w) callerA (.call (.ref fa) ⟨[.ref a], []⟩) (fun (r) s' => r = .ok (.ret (.bool true)) ∧ OldK s₁.heap s'.heap ∧ s'.os = s₁.os ∧ AllBare s'.gens) s₁ := by
  have isT : ∀ b ∈ cs.map (·.2), s₁.heap.get? b = some tabO := fun b hb => by
    obtain ⟨p, hp, same⟩ := List.mem_map.mp hb
    exact same ▸ hT p hp
  have memT : ∀ p ∈ cs, p.2 ∈ cs.map (·.2) := fun p hp => List.mem_map_of_mem hp
  obtain ⟨H, hH, hO, hS, hok, hA, hK⟩ := first_hp (P := P) (w := w) KX ha hi hl isT
  have hH' : ∀ p ∈ cs, H p.2 = some (.tbl #[]) := fun p hp => hH _ (memT p hp)
  -- what is neither a list nor an empty table is not tracked
  have free : ∀ {b : Addr} {o : Obj}, s₁.heap.get? b = some o → o.data ≠ (scrO vs).data → o.data ≠ tabO.data → H b = none := fun {b o} e h1 h2 => by
    cases q : H b with
    | none => rfl
    | some u =>
      rcases hA b (by rw [q]; exact nofun) with z | z
      · subst z
        rw [ha] at e
        cases e
        exact absurd rfl h1
      · rw [isT b z] at e
        cases e
        exact absurd rfl h2
  have keepB : ∀ {b : Addr} {o : Obj}, s₁.heap.get? b = some o → H b = none → (hidT s₁.heap H).get? b = some o := fun e n => hidT_get e n
  have nsB : ∀ {b : Addr} {m : Str → Option Value}, s₁.heap.Ns b m → (hidT s₁.heap H).Ns b m := fun {b m} z => by
    obtain ⟨o, es, ep, e, d, r⟩ := z
    exact ⟨o, es, ep, keepB e (free e (by rw [d]; exact nofun) (by rw [d]; exact nofun)), d, r⟩
  have kinB : K.In (hidT s₁.heap H) := fun b o e => by
    refine keepB (KX b o e) ?_
    cases q : H b with
    | none => rfl
    | some u =>
      have ne : H b ≠ none := by rw [q]; exact nofun
      rcases hA b ne with z | z
      · subst z
        rw [hK ne] at e
        cases e
      · obtain ⟨p, hp, z⟩ := List.mem_map.mp z
        rw [← z, nT p hp] at e
        cases e
  have modB : L2.Mod K mg (hidT s₁.heap H) := ⟨kinB, nsB hns, ⟨mb, nsB hb, hbb⟩, hlim.imp fun mc z => ⟨nsB z.1, z.2⟩⟩
  have tabB : ∀ p ∈ cs, TabB (hidT s₁.heap H) mg p.1 p.2 := fun p hp => by
    have here := hT p hp
    refine ⟨?_, ?_, fun z => ?_⟩
    · obtain ⟨o, us, file, tf, flags, tg, inF, text, tt, e1, r1, r2, r3, r⟩ := C p hp
      refine ⟨o, us, file, tf, flags, tg, inF, text, tt, keepB e1 (free e1 (by rw [r2]; exact nofun) fun z => ?_), r1, r2, r3, r⟩
      rw [r2] at z
      cases z
      simp at r3
    · obtain ⟨bm, obm, b1, b2, b3, b4, b5, b6⟩ := hbm
      have n1 : bm ≠ mainGlobals := fun q => by
        obtain ⟨o, es, ep, e, d, _⟩ := hns
        rw [q, e] at b3
        cases b3
        rw [d] at b6
        cases b6
      have n2 : bm ≠ p.2 := fun q => by
        rw [q, here] at b3
        cases b3
        cases b6
      exact ⟨bm, obm, b1, b2, n1, n2, keepB b3 (free b3 (by rw [b6]; exact nofun) (by rw [b6]; exact nofun)), b4, b5, b6⟩
    · obtain ⟨o, es, ep, e, d, _⟩ := hns
      rw [z, here] at e
      cases e
      cases d
  have env : Env0 P w K mg (hidT s₁.heap H) callerA [] s₁ H := ⟨rfl, modB, fun b o e => of_hidT e, Nat.le_of_eq (hidT_size _ _), trivial, fun b z => (nomatch z), hok, .of_eq hg⟩
  have went := (F _ kinB (nsB hns) tabB).goes callerA [] s₁ H ⟨[.ref a], []⟩ [.ref a] [.ref a] _ _ rfl room env (bd s₁ (.ref a)) (.cons rfl .nil) (ask H hH' hS)
  refine codeAny_mono went ?_
  intro r s' h
  cases r with
  | error e => exact False.elim h
  | ok fl =>
    cases fl with
    | next => exact h.elim
    | brk => exact h.elim
    | cont => exact h.elim
    | ret u =>
      obtain ⟨v, H', os, bare, un, hok', rv, q⟩ := h
      have q : v = .bl true := q
      subst q
      have rv : u = Value.bool true := rv
      subst rv
      have same : ∀ b o, b ∉ cs.map (·.2) → s₁.heap.get? b = some o → s'.heap.get? b = some o := fun b o nb e => by
        rcases hO b with z | z | ⟨obj, xs, z⟩
        · exact un.keep b o e z (fun y => (nomatch y)) (fun y => (nomatch y))
        · exact absurd z nb
        · have z1 := (hok b _ z).1
          have z2 := (hok' b _ (un.frzs b obj _ z)).1
          rw [e] at z1
          cases z1
          exact z2
      have more : ∀ p ∈ cs, ∃ us : Array Value, s'.heap.get? p.2 = some { cls := .none, data := .fields us } := fun p hp => by
        obtain ⟨us, z⟩ := un.tbls p.2 #[] (hH' p hp)
        exact ⟨_, hok' p.2 _ z⟩
      refine ⟨rfl, ⟨fun (b) o e => ?_, fun (b) o e => ?_⟩, os, bare⟩
      · by_cases c : b ∈ cs.map (·.2)
        · obtain ⟨p, hp, z⟩ := List.mem_map.mp c
          subst z
          obtain ⟨us, hu⟩ := more p hp
          have he := hT p hp
          rw [e] at he
          cases he
          exact .inr (.inl ⟨((C p hp).tab (hT p hp)).isCodeTable, rfl, #[], us, rfl, by rw [Array.empty_append]; exact hu⟩)
        · exact .inl (same b o c e)
      · by_cases c : b ∈ cs.map (·.2)
        · obtain ⟨p, hp, z⟩ := List.mem_map.mp c
          subst z
          obtain ⟨us, hu⟩ := more p hp
          exact ⟨_, hu⟩
        · exact ⟨o, same b o c e⟩
/-- what a law's last theorem collects, for whom knows that no guard stands -/
def LawAtG (l : PySem.W.OpenLaw) (w : World) (K : PySem.W.Frag) (k n : Nat) (x : Str) (mg : Str → Option Value) (fa : Addr) (h : Heap) : Prop :=
  ∃ (fd : FuncData) (cs : List (Addr × Addr)) (sp : Sp), (∀ p ∈ cs, h.get? p.2 = some tabO) ∧ (∀ p ∈ cs, K.lookup p.2 = none) ∧ (∀ p ∈ cs, PySem.W.CodeHd h p.1 p.2) ∧ (∀ (s : Shared) (u : Value), BindsTo s fd ⟨[u], []⟩ [(x, u)]) ∧
    (∀ (H : Hp) (a : Addr) (ns : List Int), (ns.length ≤ n) → (∀ z ∈ ns, Builtin.Int.intBits z ≤ 1048576) → (∀ p ∈ cs, H p.2 = some (.tbl #[])) → SqL K H a (ns.map V.int) → sp [.ref a] H (fun v _ => v = .bl true) fun _ _ _ => False) ∧
      ∀ base : Heap, K.In base → base.Ns mainGlobals mg → (∀ p ∈ cs, TabB base mg p.1 p.2) → FnG l.prog w K mg base CX0 k fa fd [x] sp
theorem walk_ofG {l : PySem.W.OpenLaw} {n k : Nat} {q : Program} {loose : List Str} {XP : (Str → Option Value) → Heap → Prop} {YP : World → Heap → Prop} {d : DefRec} {K : Params → PySem.W.Frag} {x : Str}
    (hn : l.most = some n) (hn2 : n ≤ sizeLine) (hdf : d.params.defaults = []) (room : Room k callerA) (hY : ∀ (w : World) (h : Heap), YP w h → (K w.params).In h)
    (F : ∀ (w : World) (mg : Str → Option Value) (fa : Addr) (h : Heap), YP w h → (K w.params).In h → h.Ns mainGlobals mg → mg d.name = some (.ref fa) → LawAtG l w (K w.params) k n x mg fa h) : PySem.W.WalkO q loose XP YP l.row.toRowW d [] (fun f vs => PySem.call f vs) := by
  refine Att.attach_callB hn hdf fun (w) s₀ s₁ mg mb fa o pm cd doc a vs ns G Y ho hd hcd hmg hobj hints hlen hbits hg => ?_
  have kin := hY w _ Y
  obtain ⟨fd, cs, sp, hT, nT, C, bd, ask, hF⟩ := F w mg fa _ Y kin G.T.g hmg
  exact law_callG kin G.T.g G.T.b G.T.builtins G.T.nolimit hg hT nT C G.T.bmain hobj hints (Nat.le_trans hlen hn2) room hF bd (fun H hH hS => ask H a ns hlen hbits hH hS)
end DL

set_option Elab.async false
set_option linter.all false
set_option maxRecDepth 100000
/-! DlAG: list(enumerate(x)) of a tuple or list as one expression. -/
namespace DL
open PySem PySem.Spec PyProof.Rows L2
section
variable {P : Program} {w : World} {A : Around} {E : Value → Shared → Prop} {u : Shared}
/-- the next pair of an enumerate whose first pair is still in somebody's hand -/
theorem enum_held {c it p : Addr} {fp : List Addr} {n i : Nat} {Y : Nat → Value → Prop} {Z : Nat → Heap → Prop} {old : Value} {fl : Bool} {op : Obj} {Q : Value → Shared → Prop}
    (W : Draws P w A it fp n Y Z) (a : IsEnumHeld u.heap c it i old p fl) (b : u.heap.get? p = some op) (apart : p ≠ c ∧ p ≠ it ∧ c ≠ it ∧ c ∉ fp) (z : Z i u.heap) (lt : i < n)
    (q : ∀ x m tk, Y i x → IsEnumHeld m c it ((i : Int) + 1) old p true → Z (i + 1) m → m.get? u.heap.objs.size = some { cls := .type "tuple", data := .seq #[.int i tk, x] } →
      (∀ y o, y ≠ c → y ≠ it → u.heap.get? y = some o → m.get? y = some o) → Q (.ref u.heap.objs.size) { u with heap := m, toks := tk + 1 }) :
    wpAny (model P w) A (Builtin.«enumerate.__next__» ⟨[.ref c], []⟩) (fun r v => ∃ y, r = .done (.ret y) ∧ Q y v) E u := by
  obtain ⟨pc, pi, ci, cf⟩ := apart
  obtain ⟨m0, gn, dr, t0, o0⟩ := u
  show wpAny _ _ (field (.ref c) 2 >>= _) _ _ _
  refine wpAny_bind (wpAny_field a rfl (x := .ref it) rfl ?_)
  refine wpAny_bind (W.item i _ _ _ lt z fun x m1 t1 yx z1 k1 => ?_)
  replace k1 : Heap.SameBut it m0 m1 := k1
  have a1 : IsEnumHeld m1 c it i old p fl := (k1.2 c ci).trans a
  show wpAny _ _ (field (.ref c) 3 >>= _) _ _ ⟨m1, gn, dr, t1, o0⟩
  refine wpAny_bind (wpAny_field a1 rfl (x := rawInt i) rfl ?_)
  show wpAny _ _ (field (.ref c) 4 >>= _) _ _ ⟨m1, gn, dr, t1, o0⟩
  refine wpAny_bind (wpAny_field a1 rfl (x := .none) rfl ?_)
  show wpAny _ _ (mkInt i >>= _) _ _ ⟨m1, gn, dr, t1, o0⟩
  refine wpAny_bind (wpAny_mkInt ?_)
  show wpAny _ _ (setField (.ref c) 3 (rawInt ((i : Int) + 1)) >>= _) _ _ ⟨m1, gn, dr, t1 + 1, o0⟩
  refine wpAny_bind (wpAny_setField_rec a1 (by simp) fun m2 a2 k2 => ?_)
  replace k2 : Heap.SameBut c m1 m2 := k2
  replace a2 : IsEnumHeld m2 c it ((i : Int) + 1) old p fl := a2
  show wpAny _ _ (setField (.ref c) 4 .none >>= _) _ _ ⟨m2, gn, dr, t1 + 1, o0⟩
  refine wpAny_bind (wpAny_setField_rec a2 (by simp) fun m3 a3 k3 => ?_)
  replace k3 : Heap.SameBut c m2 m3 := k3
  replace a3 : IsEnumHeld m3 c it ((i : Int) + 1) old p fl := a3
  show wpAny _ _ (newTuple [.int i t1, x] >>= _) _ _ ⟨m3, gn, dr, t1 + 1, o0⟩
  refine wpAny_bind (wpAny_newTuple ?_)
  have a4 : IsEnumHeld (m3.push { cls := .type "tuple", data := .seq #[.int i t1, x] }) c it ((i : Int) + 1) old p fl := Heap.get?_push_of_some _ a3
  generalize em : m3.push { cls := .type "tuple", data := .seq #[.int i t1, x] } = m4 at a4
  have sz3 : m3.objs.size = m0.objs.size := by rw [k3.1, k2.1, k1.1]
  have lc : c < m0.objs.size := Heap.lt_size a
  have new4 : m4.get? m0.objs.size = some { cls := .type "tuple", data := .seq #[.int i t1, x] } := by rw [← em, ← sz3]; exact Heap.get?_push_size _ rfl
  have old4 : ∀ y o, y ≠ c → y ≠ it → m0.get? y = some o → m4.get? y = some o := fun y o yc yi e => by
    rw [← em]; exact Heap.get?_push_of_some _ (k3.extBut y o yc (k2.extBut y o yc (k1.extBut y o yi e)))
  have z4 : Z (i + 1) m4 := W.frame _ _ _ z1 fun y hy o e => by
    have yc : y ≠ c := fun r => cf (r ▸ hy)
    rw [← em]; exact Heap.get?_push_of_some _ (k3.extBut y o yc (k2.extBut y o yc e))
  show wpAny _ _ (Builtin.SmallTypes.ownedTupleIsFree (.ref c) >>= _) _ _ ⟨m4, gn, dr, t1 + 1, o0⟩
  rw [sz3]
  clear em a3 k3 a2 k2 a1 k1 z1 sz3 m3 m2 m1
  refine wpAny_bind (wpAny_tupleHeld_enum (s := ⟨m4, gn, dr, t1 + 1, o0⟩) a4 (old4 p op pc pi b) fun m5 a5 k5 => ?_)
  replace k5 : Heap.SameBut c m4 m5 := k5
  simp only [Bool.false_eq_true, if_false]
  refine wpAny_pure ⟨_, rfl, q x m5 t1 yx a5 (W.frame _ _ _ z4 fun y hy o e => ?_) (k5.extBut _ _ (Nat.ne_of_gt lc) new4) fun y o yc yi e => k5.extBut y o yc (old4 y o yc yi e)⟩
  exact k5.extBut y o (fun r => cf (r ▸ hy)) e
end
/-- an enumerate amid its walk: nothing given out yet, or its first pair is in somebody's hand -/
def EnumAt (h : Heap) (c it : Addr) (i : Nat) : Prop := (∃ old, IsEnum h c it ((i : Nat) : Int) old) ∨ ∃ p old fl op, IsEnumHeld h c it ((i : Nat) : Int) old p fl ∧ h.get? p = some op ∧ p ≠ c ∧ p ≠ it
theorem EnumAt.is {h : Heap} {c it : Addr} {i : Nat} (a : EnumAt h c it i) {u : Shared} (e : u.heap = h) : u.TypeIs (.ref c) "enumerate" := by
  subst e
  rcases a with ⟨old, a⟩ | ⟨p, old, fl, op, a, _⟩
  · exact ⟨_, a, rfl⟩
  · exact ⟨_, a, rfl⟩
theorem EnumAt.lt {h : Heap} {c it : Addr} {i : Nat} (a : EnumAt h c it i) : c < h.objs.size := by
  rcases a with ⟨old, a⟩ | ⟨p, old, fl, op, a, _⟩
  · exact Heap.lt_size a
  · exact Heap.lt_size a
section
variable {P : Program} {w : World} {A : Around} {E : Value → Shared → Prop} {u : Shared}
theorem next_enumAt {c it : Addr} {fp : List Addr} {n i : Nat} {Y : Nat → Value → Prop} {Z : Nat → Heap → Prop} {Q : Option Value → Shared → Prop}
    (W : Draws P w A.in1 it fp n Y Z) (a : EnumAt u.heap c it i) (ci : c ≠ it) (cf : c ∉ fp) (hif : it < u.heap.objs.size) (z : Z i u.heap) (lt : i < n)
    (q : ∀ x m tk, Y i x → EnumAt m c it (i + 1) → Z (i + 1) m → m.get? u.heap.objs.size = some { cls := .type "tuple", data := .seq #[.int i tk, x] } →
      (∀ y o, y ≠ c → y ≠ it → u.heap.get? y = some o → m.get? y = some o) → Q (some (.ref u.heap.objs.size)) { u with heap := m, toks := tk + 1 }) :
    wpAny (model P w) A (pyNext (.ref c)) Q E u := by
  have ty : u.TypeIs (.ref c) "enumerate" := a.is rfl
  have lc := a.lt
  have e3 : ((i + 1 : Nat) : Int) = (i : Int) + 1 := by omega
  unfold pyNext
  refine wpAny_bind (wpAny_attempt (wpAny_callSpecial?_slot (name := Str.ofString "__next__") ty F.slot_enumerate_next (wpAny_call_entry F.slot_enumerate_next ty F.entry_enumerate_next ?_ (F.args_enumerate_next_1 _))))
  rcases a with ⟨old, a⟩ | ⟨p, old, fl, op, a, b, pc, pi⟩
  · refine enumerate_next_itemD W a z lt ci cf fun x m tk yx am zm tm _ km => wpAny_pure ?_
    exact q x m tk yx (.inr ⟨u.heap.objs.size, x, false, _, by rw [e3]; exact am, tm, Nat.ne_of_gt lc, Nat.ne_of_gt hif⟩) zm tm km
  · refine enum_held W a b ⟨pc, pi, ci, cf⟩ z lt fun x m tk yx am zm tm km => wpAny_pure ?_
    exact q x m tk yx (.inr ⟨p, old, true, op, by rw [e3]; exact am, km p op pc pi b, pc, pi⟩) zm tm km
theorem end_enumAt {c it : Addr} {fp : List Addr} {n i : Nat} {Y : Nat → Value → Prop} {Z : Nat → Heap → Prop} {Q : Option Value → Shared → Prop}
    (W : Draws P w A.in1 it fp n Y Z) (a : EnumAt u.heap c it i) (z : Z n u.heap) (q : ∀ m, Heap.ExtBut it u.heap m → Q none { u with heap := m }) : wpAny (model P w) A (pyNext (.ref c)) Q E u := by
  have ty : u.TypeIs (.ref c) "enumerate" := a.is rfl
  unfold pyNext
  refine wpAny_bind (wpAny_attempt (wpAny_callSpecial?_slot (name := Str.ofString "__next__") ty F.slot_enumerate_next (wpAny_call_entry F.slot_enumerate_next ty F.entry_enumerate_next ?_ (F.args_enumerate_next_1 _))))
  show wpAny _ _ (field (.ref c) 2 >>= _) _ _ _
  have first : ∃ o : Obj, u.heap.get? c = some o ∧ ∃ fs : Array Value, o.data = .fields fs ∧ fs[2]? = some (.ref it) := by
    rcases a with ⟨old, a⟩ | ⟨p, old, fl, op, a, _⟩
    · exact ⟨_, a, _, rfl, rfl⟩
    · exact ⟨_, a, _, rfl, rfl⟩
  obtain ⟨o, ho, fs, hd, h2⟩ := first
  refine wpAny_bind (wpAny_field ho hd (x := .ref it) h2 ?_)
  refine wpAny_bind (W.done _ _ _ z fun m x km hx => ?_)
  obtain ⟨ox, hox, hc⟩ := hx
  refine wpAny_bind (wpAny_isInstance (T := "StopIteration") (b := true) ⟨ox, hox, hc⟩ isSubtype_stop ?_)
  exact wpAny_pure (q _ km)
end
end DL

set_option Elab.async false
set_option linter.all false
set_option maxRecDepth 100000
/-! DlAH: list(enumerate(x)): the walk that fills the list, its reading. -/
namespace DL
open PySem PySem.Spec PyProof.Rows L2
theorem enum_no_len : typeLookup (.type "enumerate") "__len__" = pure none := am_miss_of_fast (by decide +kernel)
theorem enum_no_hint : typeLookup (.type "enumerate") "__length_hint__" = pure none := am_miss_of_fast (by decide +kernel)
theorem EnumAt.stay {h h' : Heap} {c it S : Addr} {i : Nat} (a : EnumAt h c it i) (cS : c ≠ S) (k : ∀ b o, b ≠ S → h.get? b = some o → h'.get? b = some o) (there : ∃ o, h'.get? S = some o) : EnumAt h' c it i := by
  rcases a with ⟨old, a⟩ | ⟨p, old, fl, op, a, b, pc, pi⟩
  · exact .inl ⟨old, k c _ cS a⟩
  · by_cases e : p = S
    · obtain ⟨o, ho⟩ := there
      exact .inr ⟨p, old, fl, o, k c _ cS a, by rw [e]; exact ho, pc, pi⟩
    · exact .inr ⟨p, old, fl, op, k c _ cS a, k p op e b, pc, pi⟩
section
variable {X : Cx} {pins : List (Addr × Obj)} {σ : L2.St} {H : Hp} {u : Shared}
/-- a thing that stood untracked is tracked from here on -/
theorem Inv.track {S : Addr} {o : HO} (I : Inv X pins σ H u) (f : FpOk X pins H S) (new : ObjOk X.prog X.w (upd H S o) u.heap S o) : Inv X pins σ (upd H S o) u := by
  have ne : ∀ b w, H b = some w → b ≠ S := fun b w e z => by rw [z, f.1] at e; cases e
  refine I.step (g' := u.gens) (d' := u.drawn) (t' := u.toks) (ch := [S]) (fun b hb => ?_) (fun b w _ _ _ e _ => e) (fun b w _ _ _ e _ => ⟨w.slots, e⟩) (fun b w hc _ n => ?_) (fun b w _ e => ⟨w, e⟩) (fun b xs e => ?_) (fun b w y e => ?_) (fun b ps e => ⟨#[], ?_⟩) (fun m hm => hm) (fun b w e => ?_) I.bare
  · obtain rfl : b = S := by simpa using hb
    exact ⟨f.2.2.2.1, f.2.1, f.2.2.2.2.1, f.2.2.2.2.2⟩
  · rw [upd_ne (fun z => hc (by simp [z]))]; exact n
  · rw [upd_ne (ne b _ e)]; exact e
  · rw [upd_ne (ne b _ e)]; exact e
  · rw [upd_ne (ne b _ e), e]; simp
  · by_cases hb : b = S
    · subst hb
      rw [upd_same] at e
      cases e
      exact new
    · rw [upd_ne hb] at e
      exact (I.hok b w e).stay (fun _ _ _ z => z) (fun d z => by rw [upd_ne (ne d _ z)]; exact z) fun d xs z => by rw [upd_ne (ne d _ z)]; exact z
/-- what the filled list holds -/
structure Filled (H0 H : Hp) (S : Addr) (xs : List V) (Ts : List Addr) : Prop where
  at' : ∀ (j : Nat) (T : Addr) (x : V), Ts[j]? = some T → xs[j]? = some x → H T = some (.tup [.int (j : Nat), x])
  new : ∀ T ∈ Ts, H0 T = none ∧ T ≠ S
  same : Same H0 H
theorem fill_enum {B : Around} {c it S : Addr} {fp : List Addr} {its : List Value} {xs : List V} {Z : Nat → Heap → Prop} {R : Result → Shared → Prop} {res : Value} {H0 : Hp} (rv : Vals xs its) (W : Draws X.prog X.w B.in1.in1 it fp its.length (fun i v => its[i]? = some v) Z)
    (ci : c ≠ it) (cf : c ∉ fp) (sc : S ≠ c) (si : S ≠ it) (sf : S ∉ fp) (hle : xs.length ≤ sizeLine)
    (hR : ∀ (H : Hp) (u : Shared) (acc : Array Value) (cc : Nat) (Ts : List Addr), Inv X pins σ H u → FpOk X pins H S → u.heap.get? S = some (lstObj acc cc) → acc.toList = Ts.map Value.ref → Ts.length = xs.length → Filled H0 H S xs Ts → R (.ok (.ret res)) u) :
    ∀ (k i : Nat) (H : Hp) (u : Shared) (acc : Array Value) (cc : Nat) (Ts : List Addr), its.length - i = k → i ≤ its.length → Inv X pins σ H u → (∀ b ∈ [S, c, it], FpOk X pins H b ∧ b < u.heap.objs.size) → u.heap.get? S = some (lstObj acc cc) → acc.toList = Ts.map Value.ref → Ts.length = i →
      EnumAt u.heap c it i → Z i u.heap → Filled H0 H S xs Ts → codeAny (model X.prog X.w) B (.builtin "list.extend.loop" ⟨[.ref S, .ref c, res], []⟩) R u := by
  have hl := rv.length
  intro k
  induction k with
  | zero =>
    intro i H u acc cc Ts hk hi I hf hS ha hT a z Fl
    obtain rfl : i = its.length := by omega
    refine codeAny_builtin PySem.F.entry_extend_loop ?_
    rw [Around.under_plainId PySem.F.plain_extend_loop _]
    show wpAny _ B.in1 (pyNext (.ref c) >>= _) _ _ u
    refine wpAny_bind (end_enumAt W a z fun m em => ?_)
    obtain ⟨f0, f1, f2, f3, f4, f5⟩ := (hf it (by simp)).1
    exact wpAny_pure (hR H _ acc cc Ts (I.turned (t' := u.toks) (fun b o hb q => em b o hb q) f0 f1 f3 f4 f5) (hf S (by simp)).1 (em S _ si hS) ha (by omega) Fl)
  | succ k ih =>
    intro i H u acc cc Ts hk hi I hf hS ha hT a z Fl
    have lt : i < its.length := by omega
    refine codeAny_builtin PySem.F.entry_extend_loop ?_
    rw [Around.under_plainId PySem.F.plain_extend_loop _]
    show wpAny _ B.in1 (pyNext (.ref c) >>= _) _ _ u
    refine wpAny_bind (next_enumAt W a ci cf (hf it (by simp)).2 z lt fun x m tk yx am zm tm km => ?_)
    have ltS : S < u.heap.objs.size := (hf S (by simp)).2
    have mS := km S _ sc si hS
    have sz : acc.size = i := by rw [← hT, ← Array.length_toList, ha, List.length_map]
    show wpAny _ B.in1 (updateSeq S (·.push (.ref u.heap.objs.size)) >>= _) _ _ _
    refine wpAny_bind ?_
    refine wpAny_updateSeq mS rfl (wpAny_pure ⟨plainId_quiet PySem.F.plain_extend_loop _, ?_⟩) (by rw [sz]; omega) (by show (acc.push _).size ≤ sizeLine + 1; rw [Array.size_push, sz]; omega)
    have vx : ∃ y, xs[i]? = some y ∧ RelV y x := by
      cases e : xs[i]? with
      | none => rw [rv.none_of e] at yx; cases yx
      | some y =>
        obtain ⟨v, h1, h2⟩ := rv.get e
        rw [yx] at h1
        cases h1
        exact ⟨y, rfl, h2⟩
    obtain ⟨y, hy, ry⟩ := vx
    have new : ObjOk X.prog X.w (upd H u.heap.objs.size (.tup [.int (i : Nat), y])) m u.heap.objs.size (.tup [.int (i : Nat), y]) := ⟨by show 2 ≤ sizeLine; decide, [.int i tk, x], .cons ⟨_, rfl⟩ (.cons ry .nil), ⟨_, tm, rfl, _, rfl⟩⟩
    have I1 : Inv X pins σ (upd H u.heap.objs.size (.tup [.int (i : Nat), y])) { u with heap := m, toks := tk + 1 } := I.turnedNew (ch := [c, it]) (fun b ob hb q => km b ob (fun r => hb (by simp [r])) (fun r => hb (by simp [r])) q) (fun b hb => (hf b (List.mem_cons_of_mem _ hb)).1) (Nat.le_refl _) new
    have fr : H u.heap.objs.size = none := I.hok.fresh (Nat.le_refl _)
    have lm : u.heap.objs.size < m.objs.size := Heap.lt_size tm
    have hf1 : ∀ b ∈ [S, c, it], FpOk X pins (upd H u.heap.objs.size (.tup [.int (i : Nat), y])) b ∧ b < m.objs.size := fun b hb => by
      obtain ⟨⟨g0, g⟩, gl⟩ := hf b hb
      exact ⟨⟨by rw [upd_ne (Nat.ne_of_lt gl)]; exact g0, g⟩, Nat.lt_trans gl lm⟩
    obtain ⟨f0, f1, f2, f3, f4, f5⟩ := (hf1 S (by simp)).1
    have kS : ∀ b o, b ≠ S → m.get? b = some o → (m.update S (Obj.mapSeq (·.push (.ref u.heap.objs.size)))).get? b = some o := fun b o hb e => (Heap.get?_update_other _ _ (Ne.symm hb)).trans e
    have I2 := I1.turned (h' := m.update S (Obj.mapSeq (·.push (.ref u.heap.objs.size)))) (t' := tk + 1) kS f0 f1 f3 f4 f5
    have sz2 : (m.update S (Obj.mapSeq (·.push (.ref u.heap.objs.size)))).objs.size = m.objs.size := Heap.size_update _ _ _
    refine ih (i + 1) _ _ (acc.push (.ref u.heap.objs.size)) _ (Ts ++ [u.heap.objs.size]) (by omega) lt I2 (fun b hb => ⟨(hf1 b hb).1, by show b < (m.update S _).objs.size; rw [sz2]; exact (hf1 b hb).2⟩) (Heap.get?_update_self _ mS rfl) (by rw [Array.toList_push, ha, List.map_append]; rfl) (by rw [List.length_append, hT]; rfl)
      (am.stay (Ne.symm sc) kS ⟨_, Heap.get?_update_self _ mS rfl⟩) (W.frame _ _ _ zm fun b hb o e => kS b o (fun r => sf (r ▸ hb)) e) ⟨fun j T w h1 h2 => ?_, fun T hT' => ?_, fun b w e => ?_⟩
    · by_cases hj : j < Ts.length
      · rw [List.getElem?_append_left hj] at h1
        have q := Fl.at' j T w h1 h2
        rw [upd_ne (fun r => by rw [r, fr] at q; cases q)]
        exact q
      · have e1 : j = i := by
          have := (List.getElem?_eq_some_iff.mp h1).1
          rw [List.length_append] at this
          simp at this
          omega
        subst e1
        rw [List.getElem?_append_right (by omega), hT, Nat.sub_self] at h1
        obtain rfl : u.heap.objs.size = T := by simpa using h1
        rw [hy] at h2
        cases h2
        exact upd_same
    · rcases List.mem_append.mp hT' with h | h
      · exact Fl.new T h
      · obtain rfl : T = u.heap.objs.size := by simpa using h
        refine ⟨?_, Nat.ne_of_gt ltS⟩
        cases e : H0 u.heap.objs.size with
        | none => rfl
        | some w => rw [Fl.same _ _ e] at fr; cases fr
    · have q := Fl.same b w e
      rw [upd_ne (fun r => by rw [r, fr] at q; cases q)]
      exact q
end
end DL

set_option Elab.async false
set_option linter.all false
set_option maxRecDepth 100000
/-! DlAI: list(enumerate(x)) of a tuple, its reading. -/
namespace DL
open PySem PySem.Spec PyProof.Rows L2
section
variable {X : Cx} {pins : List (Addr × Obj)} {σ : L2.St} {H : Hp} {u : Shared}
theorem list_enum {a c it : Addr} {its : List Value} {xs : List V} {Q : VK} {E : Value → Shared → Prop} (hc : X.calm = true) (I : Inv X pins σ H u) (rv : Vals xs its) (hle : xs.length ≤ sizeLine) (isT : u.heap.IsTuple a its.toArray) (at1 : a ≠ it)
    (e0 : IsEnum u.heap c it 0 .none) (i0 : u.heap.IsTupleIter it a 0) (fc : FpOk X pins H c) (fi : FpOk X pins H it) (ci : c ≠ it) (ca : c ≠ a)
    (q : ∀ (H2 : Hp) (S : Addr) (Ts : List Addr), H S = none → Ts.length = xs.length → Filled H H2 S xs Ts → H2 S = none → Q (.ref S) (upd H2 S (.lst (Ts.map V.ref)))) :
    wpAny (model X.prog X.w) X.A (call (.type "list") [.ref c]) (EP X pins σ Q) E u := by
  have lc : c < u.heap.objs.size := Heap.lt_size e0
  have li : it < u.heap.objs.size := by obtain ⟨_, z, _⟩ := i0; exact Heap.lt_size z
  have la : a < u.heap.objs.size := by obtain ⟨_, z, _⟩ := isT; exact Heap.lt_size z
  generalize eS : u.heap.objs.size = S at *
  have sc : S ≠ c := Nat.ne_of_gt lc
  have si : S ≠ it := Nat.ne_of_gt li
  have sa : S ≠ a := Nat.ne_of_gt la
  refine callType_codes (Q₁ := fun r v => r = .ref S ∧ v = { u with heap := u.heap.push { cls := .type "list", data := .seq #[] } }) PySem.F.called_list (PySem.F.typeCall_list_1 _) PySem.F.entry_list_init (by rw [← eS]; exact code_list_new _ ⟨rfl, rfl⟩) fun r v hr => ?_
  obtain ⟨rfl, rfl⟩ := hr
  have g1 : (u.heap.push { cls := .type "list", data := .seq #[] }).get? S = some { cls := .type "list", data := .seq #[] } := by rw [← eS]; exact Heap.get?_push_size _ rfl
  refine ⟨⟨_, g1, rfl⟩, PySem.F.args_list_init_2 _ _, ?_⟩
  show wpAny _ X.A.in1.in1 (do let o ← Builtin.List.listItems (.ref S); Builtin.List.listUpdate (.ref S) (fun _ => #[]); letGo o.toList.reverse; Builtin.List.listExtendWith (.ref S) (.ref c) .none) _ _ _
  refine wpAny_bind ?_
  unfold Builtin.List.listItems
  refine wpAny_bind (wpAny_seqItems g1 rfl (wpAny_pure ?_))
  show wpAny _ _ (updateSeq S (fun _ => #[]) >>= fun _ => letGo (#[] : Array Value).toList.reverse >>= fun _ => Builtin.List.listExtendWith (.ref S) (.ref c) .none) _ _ _
  refine wpAny_bind (wpAny_updateSeq g1 rfl ?_)
  have g2 := Heap.get?_update_self (Obj.mapSeq (fun _ => (#[] : Array Value))) g1 rfl
  refine wpAny_bind (wpAny_letGo ?_)
  unfold Builtin.List.listExtendWith
  have k0 : ∀ b o, u.heap.get? b = some o → (u.heap.push { cls := .type "list", data := .seq #[] }).get? b = some o := fun b o e => Heap.get?_push_of_some _ e
  have kup : ∀ (m : Heap) (f : Obj → Obj), (∀ b o, u.heap.get? b = some o → m.get? b = some o) → ∀ b o, u.heap.get? b = some o → (m.update S f).get? b = some o := fun m f z b o e =>
    (Heap.get?_update_other _ _ (Ne.symm (Nat.ne_of_lt (by rw [← eS]; exact Heap.lt_size e)))).trans (z b o e)
  have k2 := kup _ (Obj.mapSeq (fun _ => (#[] : Array Value))) k0
  have en : ∀ {m : Heap}, (∀ b o, u.heap.get? b = some o → m.get? b = some o) → IsEnum m c it 0 .none := fun {m} z => z c _ e0
  have ty : ∀ {m : Heap}, (∀ b o, u.heap.get? b = some o → m.get? b = some o) → ({ u with heap := m } : Shared).TypeIs (.ref c) "enumerate" := fun {m} z => ⟨_, en z, rfl⟩
  refine wpAny_bind (wpAny_typeOf (ty k2) ?_)
  have n1 : Builtin.List.listSameRef (.ref S) (.ref c) = false := by simp [Builtin.List.listSameRef, sc]
  have n2 : (Value.type "enumerate" == Value.type "list") = false := by decide
  have n3 : (Value.type "enumerate" == Value.type "tuple") = false := by decide
  simp only [n1, n2, n3, Bool.or_false, Bool.false_eq_true, if_false]
  refine wpAny_bind (wpAny_pyIter_enum (s := { u with heap := _ }) (en k2) ?_)
  refine wpAny_bind (wpAny_holding ?_)
  unfold Builtin.List.listLengthHint
  refine wpAny_bind (wpAny_specialOf (ty k2) enum_no_len ?_)
  show wpAny _ _ (specialOf (Value.ref c) (Str.ofString "__length_hint__") >>= _) _ _ _
  refine wpAny_bind (wpAny_specialOf (ty k2) enum_no_hint ?_)
  refine wpAny_pure ?_
  show wpAny _ _ (rule "list.extend.makes-room" >>= fun _ => Builtin.List.listTouch (.ref S) >>= fun _ => again (.builtin "list.extend.loop" ⟨[.ref S, .ref c, .none], []⟩)) _ _ _
  refine wpAny_bind (wpAny_rule ?_)
  refine wpAny_bind ?_
  show wpAny _ _ (updateSeq S (·.push .none) >>= fun _ => updateSeq S (·.pop)) _ _ _
  refine wpAny_bind (wpAny_updateSeq g2 rfl ?_)
  have g3 := Heap.get?_update_self (Obj.mapSeq (·.push Value.none)) g2 rfl
  refine wpAny_updateSeq (hz := by seq_fits) g3 rfl ?_
  have g4 := Heap.get?_update_self (Obj.mapSeq (·.pop)) g3 rfl
  have k4 := kup _ (Obj.mapSeq (·.pop)) (kup _ (Obj.mapSeq (·.push Value.none)) k2)
  have fr : H S = none := I.hok.fresh (by rw [eS]; exact Nat.le_refl _)
  refine wpAny_pure ⟨plainId_quiet PySem.F.plain_extend_loop _, ?_⟩
  have kT : ∀ {m : Heap}, (∀ b o, u.heap.get? b = some o → m.get? b = some o) → m.IsTuple a its.toArray := fun {m} z => by obtain ⟨o, z1, z2⟩ := isT; exact ⟨o, z a o z1, z2⟩
  have W : Draws X.prog X.w X.A.in1.in1.in1 it [it, a] its.length (fun i v => its[i]? = some v) (fun i h => h.IsTupleIter it a i ∧ h.IsTuple a its.toArray) := by
    have W := Draws.tuple (prog := X.prog) (w := X.w) (A := X.A.in1.in1.in1) (show X.A.in1.in1.in1.handled = none from I.ok.hd hc) it a at1 its.toArray
    simpa using W
  refine fill_enum (B := X.A.in1) (fp := [it, a]) (H0 := H) rv W ci (by simp [ci, ca]) sc si (by simp [si, sa]) hle (fun H2 v acc cc Ts I2 f2 l2 t2 n2 F2 => ?_) its.length 0 H _ _ _ [] rfl (Nat.zero_le _) (I.kept (t' := u.toks) k4) (fun b hb => ?_) g4 rfl rfl (.inl ⟨.none, en k4⟩) ⟨i0.at fun o e => k4 it o e, kT k4⟩ ⟨fun j T x h => (by simp at h), fun T h => (by simp at h), fun _ _ e => e⟩
  · have z2 : H2 S = none := f2.1
    have vt : ∀ Ts : List Addr, Vals (Ts.map V.ref) (Ts.map Value.ref) := fun Ts => by
      induction Ts with
      | nil => exact .nil
      | cons T Ts ih => exact .cons rfl ih
    have new : ObjOk X.prog X.w (upd H2 S (.lst (Ts.map V.ref))) v.heap S (.lst (Ts.map V.ref)) := ⟨by rw [List.length_map, n2]; exact hle, acc.toList, cc, by rw [t2]; exact vt Ts, by rw [l2]⟩
    exact ⟨rfl, .ref S, _, Inv.track I2 f2 new, rfl, q H2 S Ts fr n2 F2 z2⟩
  · rcases List.mem_cons.mp hb with rfl | hb
    · exact ⟨I.fpOk (by rw [eS]; exact Nat.le_refl _) fr, Heap.lt_size g4⟩
    · rcases List.mem_cons.mp hb with rfl | hb
      · exact ⟨fc, Heap.lt_size (en k4)⟩
      · obtain rfl : b = it := by simpa using hb
        obtain ⟨_, z, _⟩ := i0
        exact ⟨fi, Heap.lt_size (k4 b _ z)⟩
end
def tListEnum (K : PySem.W.Frag) (ta : TA) : TE := fun σ H Q => ta σ H fun vs H1 => ∃ a xs, vs = [.ref a] ∧ SqT K H1 a xs ∧ ∀ (H2 : Hp) (S : Addr) (Ts : List Addr), H1 S = none → Ts.length = xs.length → Filled H1 H2 S xs Ts → H2 S = none → Q (.ref S) (upd H2 S (.lst (Ts.map V.ref)))
theorem pe_listEnum {X : Cx} {e : Expr} {ta : TA} {p p2 pos pos2 : Pos} (hc : X.calm = true) (hg2 : Gl X "list") (hm2 : X.mg "list" = none) (hg : Gl X "enumerate") (hm : X.mg "enumerate" = none) (ha : PA X [e] ta) (hs : starEach [e] X.env = [(false, eval e X.env)] := by rfl)
    (hs2 : starEach [.Call (.Name "enumerate" p) [e] [] pos] X.env = [(false, eval (.Call (.Name "enumerate" p) [e] [] pos) X.env)] := by rfl) :
    PE X (.Call (.Name "list" p2) [.Call (.Name "enumerate" p) [e] [] pos] [] pos2) (tListEnum X.K ta) := by
  refine ⟨fun pins s σ H Q I h => Call_ (ld_blt I hg2 hm2 boot_list (PyProof.Rows.callWith_type1 ?_ hs2 rfl))⟩
  rw [hs2]
  show wpAny _ _ (spliced ((false, eval (.Call (.Name "enumerate" p) [e] [] pos) X.env) :: [])) _ _ s
  refine Calls.spliced_cons (Call_ (ld_blt I hg hm boot_enumerate (PyProof.Rows.callWith_type1 (thn (ha.run pos pins s σ H _ I h) fun us s1 ⟨vs, H1, I1, r1, a, xs, ex, hq, q⟩ => ?_) hs rfl)))
  subst ex
  cases r1 with
  | cons r rr =>
    cases rr
    cases r
    obtain ⟨its, rv, pt, hz⟩ := I1.tuple hq
    have al : a < s1.heap.objs.size := pt.lt
    refine call_enumT pt fun m he hit hsz hk => Calls.spliced_nil ?_
    have I2 : Inv X pins σ H1 { s1 with heap := m } := I1.kept (t' := s1.toks) hk
    refine list_enum hc I2 rv hz (by obtain ⟨o, z1, z2⟩ := pt; exact ⟨o, hk a o z1, z2⟩) (Nat.ne_of_lt al) he hit (I1.fpOk (Nat.le_succ _) (I1.hok.fresh (Nat.le_succ _))) (I1.fpOk (Nat.le_refl _) (I1.hok.fresh (Nat.le_refl _))) (Nat.succ_ne_self _) (Nat.ne_of_gt (Nat.lt_succ_of_lt al)) q
/-! .. as data -/
def dListEnum (t : AD) : ED := fun ρ μ Q => t ρ μ fun ds μ' => match ds with
  | [.tup xs] => ∀ p, μ' p = none → Q (.ob p) (mset μ' p (.lst (enumD xs)))
  | _ => False
theorem d_listEnum {X : Cx} {e : Expr} {ta : AD} {p p2 pos pos2 : Pos} (hg2 : Gl X "list") (hm2 : X.mg "list" = none) (hg : Gl X "enumerate") (hm : X.mg "enumerate" = none) (ha : PAD X [e] ta) (hc : X.calm = true := by rfl) (hs : starEach [e] X.env = [(false, eval e X.env)] := by rfl)
    (hs2 : starEach [.Call (.Name "enumerate" p) [e] [] pos] X.env = [(false, eval (.Call (.Name "enumerate" p) [e] [] pos) X.env)] := by rfl) :
    PD X (.Call (.Name "list" p2) [.Call (.Name "enumerate" p) [e] [] pos] [] pos2) (dListEnum ta) := by
  refine ⟨PE.imp (pe_listEnum hc hg2 hm2 hg hm ha.pa hs hs2) fun σ H Q ⟨ρ, μ, R, q⟩ => ?_, fun ρ μ Q Q' i q => ha.mono ρ μ _ _ (fun ds μ' z => by
    unfold dListEnum at *
    split at z
    · exact fun p hp => i _ _ (z p hp)
    · exact z.elim) q⟩
  refine upA_bind R ha.mono q fun ds μ1 vs H1 q1 s R1 r1 => ?_
  split at q1
  · rename_i ds0
    cases r1 with
    | cons h1 t =>
      cases t
      cases h1 with
      | @tup a ys zs hT rT =>
        have m1 := R1.mem
        refine ⟨a, ys, rfl, sqT_mono cut_sub hT, fun H2 S Ts hS hn F hS2 => ?_⟩
        have mS := m1.free hS
        have q2 := q1 S mS
        have st : Stp H1 μ1 (upd H2 S (.lst (Ts.map V.ref))) (mset μ1 S (.lst (enumD ds0))) := fun b w e => by
          unfold DL.cut at e ⊢
          split at e
          · cases e
          · rename_i h
            have hb : b ≠ S := fun z => by rw [z, hS] at e; cases e
            rw [mset_ne hb, if_neg h, upd_ne hb]
            exact F.same b w e
        have cT : ∀ T ∈ Ts, DL.cut (upd H2 S (.lst (Ts.map V.ref))) (mset μ1 S (.lst (enumD ds0))) T = H2 T := fun T hT => by
          obtain ⟨n1, n2⟩ := F.new T hT
          unfold DL.cut
          rw [mset_ne n2, m1.free n1, upd_ne n2]
          rfl
        have rep : ∀ (k : Nat) (Us : List Addr) (vs : List V) (es : List D), Us.length = vs.length → (∀ T ∈ Us, T ∈ Ts) → (∀ (j : Nat) (T : Addr) (x : V), Us[j]? = some T → vs[j]? = some x → H2 T = some (.tup [.int ((k + j : Nat) : Int), x])) → Reps X.K (DL.cut H1 μ1) vs es →
            Reps X.K (DL.cut (upd H2 S (.lst (Ts.map V.ref))) (mset μ1 S (.lst (enumD ds0)))) (Us.map V.ref) ((es.zipIdx k).map fun p => D.tup [.int ((p.2 : Nat) : Int), p.1]) := fun k Us => by
          induction Us generalizing k with
          | nil =>
            intro vs es hl _ _ r
            cases vs with
            | nil => cases r; exact .nil
            | cons _ _ => simp at hl
          | cons U Us ih =>
            intro vs es hl hm hat r
            cases r with
            | nil => simp at hl
            | @cons v vs' d ds' rv rs =>
              rw [List.zipIdx_cons, List.map_cons, List.map_cons]
              refine .cons (.tup (SqT.of ?_) (.cons (.int _) (.cons (rv.mono st) .nil))) (ih (k + 1) vs' ds' (by simpa using hl) (fun T hT => hm T (List.mem_cons_of_mem _ hT)) (fun j T x h1 h2 => ?_) rs)
              · rw [cT U (hm U List.mem_cons_self)]
                exact hat 0 U v rfl rfl
              · have := hat (j + 1) T x (by simpa using h1) (by simpa using h2)
                rw [this]
                congr 4
                omega
        refine q2 _ _ (s.trans st) (fun b o e => ?_) (.ob S)
        by_cases hb : b = S
        · subst hb
          rw [mset_same] at e
          cases e
          refine ⟨_, upd_same, ?_⟩
          exact rep 0 Ts ys ds0 hn (fun _ h => h) (fun j T x h1 h2 => by rw [Nat.zero_add]; exact F.at' j T x h1 h2) rT
        · rw [mset_ne hb] at e
          refine (m1 b o e).mono st ?_
          rw [upd_ne hb]
          have nn : H1 b ≠ none := fun z => by rw [m1.free z] at e; cases e
          cases e2 : H1 b with
          | none => exact absurd e2 nn
          | some w => exact F.same b w e2
  · exact q1.elim
end DL

set_option Elab.async false
set_option linter.all false
set_option maxRecDepth 100000
/-! DlAJ: dicts of the store: {}, d[k] = v, sorted(d), walked once they are locked for good; sorted ints; great products. -/
namespace DL
open PySem PySem.Spec PyProof.Rows L2
/-! ### {} -/
def dNewD : ED := fun _ μ Q => ∀ p, μ p = none → Q (.ob p) (mset μ p (.dct [] []))
theorem d_newD {X : Cx} {pos : Pos} : PD X (.Dict [] [] pos) dNewD :=
  ⟨PE.imp pe_dnewK fun σ H Q ⟨ρ, μ, R, q⟩ p hp => q p (R.mem.free hp) _ _ (put_stp (.inl hp) _ _) (R.mem.putD (ks := []) (vs := []) (.inl hp) rfl .nil) (.ob p), fun _ _ _ _ i q p hp => i _ _ (q p hp)⟩
/-! ### d[k] = v -/
def dDput (td tk tv : ED) : SD := fun E ρ μ => tv ρ μ fun z μ1 => td ρ μ1 fun x μ2 => tk ρ μ2 fun y μ3 => match x with
  | .ob a => putDk a y z μ3 fun μ4 => E.nx ρ μ4
  | _ => False
theorem d_dput {X : Cx} {o i value : Expr} {pos pos' : Pos} {td tk tv : ED} (hu : X.A.units + 1 < cLine) (ho : PD X o td) (hi : PD X i tk) (hv : PD X value tv) (hs : swapsWith value (some (.Subscript o i pos')) pos.line X.env = pure false := by rfl) :
    PSD X (.Assign [.Subscript o i pos'] value pos) (dDput td tk tv) := by
  refine ⟨PS.imp (ps_dput hu ho.pe hi.pe hv.pe hs) fun E σ H ⟨ρ, μ, R, q⟩ => ?_, fun E E' ρ μ l q => hv.mono _ _ _ _ (fun z μ1 q1 => ho.mono _ _ _ _ (fun x μ2 q2 => hi.mono _ _ _ _ (fun y μ3 q3 => by
    cases x <;> first | exact putDk_mono (fun μ4 q4 => l.nx _ _ q4) q3 | exact q3.elim) q2) q1) q⟩
  refine up_bind R hv.mono q fun z μ1 zv H1 q1 s1 R1 r1 => up_bind R1 ho.mono q1 fun x μ2 xv H2 q2 s2 R2 r2 => up_bind R2 hi.mono q2 fun y μ3 yv H3 q3 s3 R3 r3 => ?_
  cases r2 with
  | ob a =>
    simp only at q3
    unfold putDk at q3
    split at q3
    · rename_i ks ds k e1 e2
      obtain ⟨vs, h1, l1, rv⟩ := R3.mem _ _ e1
      have hk := key_of r3 e2
      subst hk
      have so : (μ3 a).isSome = true := by rw [e1]; rfl
      refine ⟨a, _, rfl, .inl ⟨ks.zip vs, k, h1, rfl, by rw [List.length_zip, l1, rv.length, Nat.min_self]; exact q3.1, rfl⟩, ?_⟩
      rw [putK_zip l1]
      have st := put_stp (H := H3) (μ := μ3) (p := a) (.inr so) (.dK ((keysP ks k).zip (valsP ks vs k zv))) (.dct (keysP ks k) (valsP ks ds k z))
      exact q3.2 σ _ (((s1.trans s2).trans s3).trans st) (R3.step st (R3.mem.putD (.inr so) (len_put l1) (reps_put (r1.mono (s2.trans s3)) rv)))
    · exact q3.elim
  | _ => exact q3.elim
/-! ### a dict of the store is locked for good -/
def dLock (t : ED) : ED := fun ρ μ Q => t ρ μ fun d μ1 => match d with
  | .ob a => match μ1 a with
    | some (.dct ks ds) => Q (.dcl ks ds) (mdel μ1 a)
    | _ => False
  | _ => False
theorem pe_lockG {X : Cx} {e : Expr} {t : TE} (h : PE X e t) : PE X e (fun σ H Q => t σ H fun v H1 => ∃ d u, v = .ref d ∧ H1 d = some u ∧ Mut (some u) ∧ ∀ od, Q v (upd H1 d (.frz od u))) := by
  refine ⟨fun pins s σ H Q I q => thn (h.run pins s σ H _ I q) fun r s1 ⟨v, H1, I1, rv, d, u, ev, hd, mu, q1⟩ => ?_⟩
  obtain ⟨od, I2⟩ := I1.lock hd mu
  exact ⟨v, _, I2, rv, q1 od⟩
theorem d_lock {X : Cx} {e : Expr} {t : ED} (h : PD X e t) : PD X e (dLock t) := by
  refine ⟨PE.imp (pe_lockG h.pe) fun σ H Q ⟨ρ, μ, R, q⟩ => ?_, fun ρ μ Q Q' i q => h.mono _ _ _ _ (fun d μ1 z => by
    cases d <;> first | exact z.elim | skip
    simp only at z ⊢
    split at z
    · exact i _ _ z
    · exact z.elim) q⟩
  refine up_bind R h.mono q fun d μ1 v H1 q1 s1 R1 r1 => ?_
  cases r1 with
  | ob a =>
    simp only at q1
    split at q1
    · rename_i ks ds e1
      obtain ⟨vs, h1, l1, rv⟩ := R1.mem _ _ e1
      refine ⟨a, _, rfl, h1, trivial, fun od => ?_⟩
      have st : Stp H1 μ1 (upd H1 a (.frz od (.dK (ks.zip vs)))) (mdel μ1 a) := fun b w e => by
        unfold DL.cut at e ⊢
        split at e
        · cases e
        · rename_i hb
          have ne : b ≠ a := fun z => hb (by rw [z, e1]; rfl)
          have e3 : mdel μ1 a b = μ1 b := by unfold mdel; rw [if_neg ne]
          rw [e3, if_neg hb, upd_ne ne]
          exact e
      refine q1 _ _ (s1.trans st) (fun b o e => ?_) (.dcl (o := od) ?_ l1 (rv.mono st))
      · have ne : b ≠ a := fun z => by rw [z, mdel_same] at e; cases e
        have e4 : μ1 b = some o := by unfold mdel at e; rw [if_neg ne] at e; exact e
        exact (R1.mem b o e4).mono st (upd_ne ne)
      · unfold DL.cut
        rw [mdel_same, upd_same]
        rfl
    · exact q1.elim
  | _ => exact q1.elim
/-! ### for k in d, d locked for good, its keys ints -/
def keyI : List Key → Option (List Int)
  | [] => some []
  | .inl i :: ks => (keyI ks).map (i :: ·)
  | .inr _ :: _ => none
def dKeysI (t : ED) : ITD := fun ρ μ Q => t ρ μ fun d μ1 => match d with
  | .dcl ks _ => match keyI ks with
    | some is => Q (is.map D.int) μ1
    | none => False
  | _ => False
theorem keyI_map : ∀ {ks : List Key} {is : List Int}, keyI ks = some is → ks = is.map Sum.inl
  | [], is, e => by cases e; rfl
  | .inl i :: ks, is, e => by
    obtain ⟨js, h, rfl⟩ := Option.map_eq_some_iff.mp e
    rw [List.map_cons, keyI_map h]
  | .inr _ :: _, _, e => by cases e
theorem di_keysI {X : Cx} {tg e : Expr} {t : ED} (h : PD X e t) : PID X tg e (dKeysI t) := by
  refine ⟨PI.imp (pi_keys h.pe) fun σ H R ⟨ρ, μ, S, q⟩ => ?_, fun ρ μ Q Q' i q => h.mono _ _ _ _ (fun d μ1 z => by
    cases d <;> first | exact z.elim | skip
    simp only at z ⊢
    split at z
    · exact i _ _ z
    · exact z.elim) q⟩
  refine up_bind S h.mono q fun d μ1 v H1 q1 s1 R1 r1 => ?_
  cases r1 with
  | @dcl a o ks vs ds hG l rv =>
    simp only at q1
    split at q1
    · rename_i is e1
      have ek := keyI_map e1
      subst ek
      have hl : ((is.map Sum.inl : List Key).zip vs).length = is.length := by rw [List.length_zip, ← l, Nat.min_self, List.length_map]
      refine ⟨a, o, rfl, .inl ⟨_, cut_sub _ _ hG, q1 _ H1 s1 R1.mem ?_⟩⟩
      have w : Walk (Itk a o ((is.map Sum.inl : List Key).zip vs)) is.length (fun H => H a = some (.frz o (.dK ((is.map Sum.inl : List Key).zip vs)))) (fun i H x H' => H' = H ∧ (is.map V.int)[i]? = some x) := by
        refine ⟨fun i H hi q => ⟨q, by rw [hl]; exact hi⟩, fun H q => ⟨q, by rw [hl]; exact Nat.le_refl _⟩, fun i H x H' hi q ⟨e2, k, v, e3, e4⟩ => ⟨e2, ?_⟩⟩
        have e5 : ((is.map Sum.inl : List Key))[i]? = some k := by
          have := List.getElem?_zip_eq_some.mp e3
          exact this.1
        rw [List.getElem?_map] at e5 ⊢
        cases e6 : is[i]? with
        | none => rw [e6] at e5; cases e5
        | some j =>
          rw [e6] at e5
          cases e5
          rw [e4]
          rfl
      have r2 : Reps X.K (DL.cut H1 μ1) (is.map V.int) (is.map D.int) := by
        clear w hl q1 e1 l hG
        induction is with
        | nil => exact .nil
        | cons i is ih => exact .cons (.int i) ih
      have hl2 : (is.map D.int).length = is.length := List.length_map _
      exact walk_at (by rw [hl2]; exact w) (fun H2 st => st _ _ hG) r2
    · exact q1.elim
  | _ => exact q1.elim
/-! ### sorted(xs) of ints, sorted(d) of a dict whose keys are ints -/
def intsOf : List D → Option (List Int)
  | [] => some []
  | .int i :: ds => (intsOf ds).map (i :: ·)
  | _ :: _ => none
theorem intsOf_map : ∀ {ds : List D} {is : List Int}, intsOf ds = some is → ds = is.map D.int
  | [], is, e => by cases e; rfl
  | d :: ds, is, e => by
    cases d <;> first | (cases e; done) | skip
    obtain ⟨js, h, rfl⟩ := Option.map_eq_some_iff.mp e
    rw [List.map_cons, intsOf_map h]
theorem intsOf_ints (is : List Int) : intsOf (is.map D.int) = some is := by
  induction is with
  | nil => rfl
  | cons i is ih => rw [List.map_cons]; show (intsOf (is.map D.int)).map (i :: ·) = _; rw [ih]; rfl
theorem keyI_ints (is : List Int) : keyI (is.map Sum.inl) = some is := by
  induction is with
  | nil => rfl
  | cons i is ih => rw [List.map_cons]; show (keyI (is.map Sum.inl)).map (i :: ·) = _; rw [ih]; rfl
theorem vals_intsD {K : PySem.W.Frag} {G : Hp} : ∀ {is : List Int} {vs : List V}, Reps K G vs (is.map D.int) → vs = is.map V.int
  | [], _, .nil => rfl
  | i :: is, _, .cons h r => by
    cases h
    rw [List.map_cons, vals_intsD r]
theorem reps_intsD {K : PySem.W.Frag} {G : Hp} : ∀ is : List Int, Reps K G (is.map V.int) (is.map D.int)
  | [] => .nil
  | i :: is => .cons (.int i) (reps_intsD is)
/-- what is sorted: the ints of a list or tuple, the keys of a dict -/
def sortD (μ : Mu) (d : D) : Option (List Int) := match itemsL μ d with
  | some zs => intsOf zs
  | none => match dictD μ d with
    | some (ks, _) => keyI ks
    | none => none
def rSortD : RLD := fun ds μ Q => match ds with
  | [d] => match sortD μ d with
    | some is => ∀ (ns : List Int) p, ns.Perm is → ns.Pairwise (· ≤ ·) → μ p = none → Q (.ob p) (mset μ p (.lst (ns.map D.int)))
    | none => False
  | _ => False
section
variable {X : Cx}
theorem cr_sortedKeys (calm : X.calm = true) : CallR X (.builtin "sorted") (fun xs H Q => ∃ (a : Addr) (kvs : List (Key × V)) (ks : List Int), xs = [.ref a] ∧ Rd H a (.dK kvs) ∧ kvs.map (·.1) = ks.map Sum.inl ∧
    ∀ (ys : List Int) (p : Addr), ys.Perm ks → ys.Pairwise (· ≤ ·) → H p = none → Q (.ref p) (upd H p (.lst (ys.map V.int)))) := by
  intro pins u σ H xs us Q I r q
  obtain ⟨a, kvs, ks, rfl, hd, hks, q⟩ := q
  obtain ⟨v, rfl, rx⟩ := vals1 r
  cases rx
  obtain ⟨z, lo, vs, rel, dd⟩ := dk_rd I.hok hd
  obtain ⟨ep, hat⟩ := dd.dictAt
  have key : vs.map (·.1) = ks.map Sum.inl := rel.keys.symm.trans hks
  have len : vs.length = ks.length := by simpa using congrArg List.length key
  have fits : vs.length ≤ sizeLine := by rw [← rel.length]; exact z
  refine Calls.call_function_entry PyProof.Rows.kind_sorted PyProof.Rows.plain_sorted PyProof.Rows.entry_sorted (PyProof.Rows.args_sorted1 _) ?_
  unfold Builtin.«sorted»
  refine wpAny_bind (m := checkCount "sorted" 1 1 _) (wpAny_pure ?_)
  refine wpAny_bind (PySem.W.kdu_collect (A := X.A.in1) (PySem.W.kdl_dict (knd := mixKind X.prog X.w) (kvs := vs) (ep := ep) lo) (I.ok.hd calm) hat fits fun m tk acc kept got => ?_)
  have al : acc.toList.length = ks.length := by rw [Array.length_toList, got.1, len]
  have isI : IntsAre acc.toList ks := ints_each al fun j y e => by
    obtain ⟨k, x, e1, e2⟩ := got.2 j y (by rw [← Array.getElem?_toList]; exact e)
    have e3 : (vs.map (·.1))[j]? = some k := by rw [List.getElem?_map, e1]; rfl
    rw [key, List.getElem?_map] at e3
    cases e4 : ks[j]? with
    | none => rw [e4] at e3; cases e3
    | some w =>
      rw [e4] at e3
      obtain rfl : Sum.inl w = k := Option.some.inj e3
      rcases keyIs_shape (show keyIs (Sum.inl w) y = true from e2) with ⟨i, t, ek, ev⟩ | ⟨s', t, ek, ev⟩
      · cases ek
        exact ⟨w, t, rfl, ev⟩
      · cases ek
  have I1 : Inv X pins σ H { u with heap := m, toks := tk } := I.kept kept
  refine wpAny_bind (wpAny_newList ?_ (by rw [al, ← len]; exact fits))
  have new : (m.push (seqObj "list" acc.toList.toArray 0)).get? m.objs.size = some (seqObj "list" acc.toList.toArray 0) := Heap.get?_push_size _ rfl
  show wpAny _ _ _ _ _ { u with heap := m.push (seqObj "list" acc.toList.toArray 0), toks := tk }
  refine wpAny_bind (wpAny_holding (wpAny_call_entry PyProof.Rows.slot_list_sort ⟨_, new, rfl⟩ PyProof.Rows.entry_list_sort
    (SrtO.list_sort_ord (s := { u with heap := m.push (seqObj "list" acc.toList.toArray 0), toks := tk }) SrtO.swo_int new (by rw [al, ← len]; exact fits) (fun h2 => SrtO.ints_sortable isI h2) fun out h1 h2 => ⟨_, rfl, ?_⟩) (PyProof.Rows.args_list_sort _)))
  obtain ⟨k1, k2, k3⟩ := SrtO.ints_out isI h1 h2
  obtain ⟨ep2, at2⟩ := PyProof.Rows.sortedHeap_at (vs := acc.toList) (out := out.toArray) new
  have fit2 : ((out.map SrtO.iv).map V.int).length ≤ sizeLine := by rw [List.length_map, k2.length_eq, ← len]; exact fits
  refine wpAny_pure ⟨_, rfl, .ref m.objs.size, upd H m.objs.size (.lst ((out.map SrtO.iv).map V.int)), I1.laid (t' := tk) (fun b w e => ?_) (Nat.le_refl _) (show ObjOk X.prog X.w _ _ _ (.lst ((out.map SrtO.iv).map V.int)) from ⟨fit2, out, ep2, vals_of_ints k1, at2⟩), rfl, q _ _ k2 k3 (I1.hok.fresh (Nat.le_refl _))⟩
  have hb : b < m.objs.size := Heap.lt_size e
  rw [PyProof.Rows.sortedHeap_old (Nat.ne_of_lt hb) (by rw [size_push']; exact Nat.lt_succ_of_lt hb)]
  exact Heap.get?_push_of_some _ e
theorem c_sortD (calm : X.calm = true) : CaD X (.builtin "sorted") rSortD := by
  refine ⟨CallR.imp (CallR.two cr_sortedI (cr_sortedKeys calm)) fun vs H Q ⟨ds, μ, m, r, q⟩ => ?_, fun ds μ Q Q' i q => by
    unfold rSortD at q ⊢
    split at q
    · split at q
      · exact fun ns p h1 h2 h3 => i _ _ (q ns p h1 h2 h3)
      · exact q.elim
    · exact q.elim⟩
  unfold rSortD at q
  split at q
  · rename_i d
    split at q
    · rename_i is e
      have fin : ∀ (ns : List Int) (p : Addr), ns.Perm is → ns.Pairwise (· ≤ ·) → H p = none → Q (.ref p) (upd H p (.lst (ns.map V.int))) := fun ns p h1 h2 hp => q ns p h1 h2 (m.free hp) (.ref p) _ (put_stp (.inl hp) _ _) (m.put (.inl hp) (reps_intsD ns)) (.ob p)
      cases r with
      | cons h t =>
        cases t
        unfold sortD at e
        cases e1 : itemsL μ d with
        | some zs =>
          simp only [e1] at e
          obtain ⟨a, ys, rfl, hs, hr⟩ := itemsL_of m h e1
          have ez := intsOf_map e
          subst ez
          have ey := vals_intsD hr
          subst ey
          exact .inl ⟨a, is, rfl, hs, fin⟩
        | none =>
          simp only [e1] at e
          cases e2 : dictD μ d with
          | none => simp only [e2] at e; cases e
          | some kd =>
            obtain ⟨ks, ds0⟩ := kd
            simp only [e2] at e
            have ek := keyI_map e
            subst ek
            obtain ⟨a, vs, rfl, h1, l, rv⟩ := dict_of m h e2
            refine .inr ⟨a, _, is, rfl, h1, ?_, fin⟩
            rw [List.map_fst_zip (by omega)]
    · exact q.elim
  · exact q.elim
end
/-! ### a great product -/
abbrev rMulWD := rIntD CMulW fun i j => .int (i * j)
theorem o_mulW {X : Cx} : OpD X (binaryOp .Mult) rMulWD := oInt op_mulW fun _ _ _ => .int _
end DL

set_option Elab.async false
set_option linter.all false
set_option maxRecDepth 100000
/-! DlAK: sorted(set(xs)) of a list of ints. -/
namespace DL
open PySem PySem.Spec PyProof.Rows L2
section
variable {P : Program} {w : World} {A : Around} {E : Value → Shared → Prop} {u : Shared}
abbrev newSet (w : World) : Obj := { cls := .type "set", dict := none, data := .set #[] 0 (.fresh 0 0 (!w.params.followText "set-order")) }
set_option maxRecDepth 100000 in
set_option maxHeartbeats 3200000 in
theorem call_set_ints {b : Addr} {its : Array Value} (ks : List Int) {Q : Value → Shared → Prop} (hh : A.handled = none) (isL : u.heap.IsList b its) (isI : IntsAre its.toList ks) (few : ks.length + 1 < scanBound)
    (q : ∀ (m : Heap) (tk c : Nat), SetR w m u.heap.objs.size (fun j => decide (j ∈ ks)) c → c ≤ ks.length → (∀ y o, u.heap.get? y = some o → m.get? y = some o) → Q (.ref u.heap.objs.size) { u with heap := m, toks := tk }) :
    wpAny (model P w) A (call (.type "set") [.ref b]) Q E u := by
  have size : its.size = ks.length := by simpa using IntsAre.length isI
  obtain ⟨c0, tl0, mro0⟩ := PySem.F.called_set.mro
  have made0 := PySem.F.called_set.made
  have sub0 := PySem.F.called_set.sub
  refine wpAny_call (codeAny_of_tree ?_)
  show wpAny _ _ (callAny (.type "set") _) _ _ _
  refine wpAny_pure ⟨Code.quiet_builtin _ (by decide +kernel), codeAny_builtin PySem.F.entry_type_call ?_⟩
  rw [Around.under_plain (weight_type_call_type "set" [.ref b] []) rfl]
  have nt0 := PySem.F.called_set.notType
  have cc0 := PySem.F.called_set.canCreate
  have tc0 := PySem.F.typeCall_set_1 (.ref b)
  repeat (any_goals (first | assumption | wp_step))
  refine codeAny_mono (code_set_led1 (.ref b) (E := E) (Q₁ := fun r v => r = .ref u.heap.objs.size ∧ v = { u with heap := u.heap.push (newSet w) }) ⟨rfl, rfl⟩) fun r v hr => ?_
  cases r with
  | error e => exact hr
  | ok fl =>
    cases fl with
    | ret obj =>
      obtain ⟨rfl, rfl⟩ := hr
      have at0 : (u.heap.push (newSet w)).get? u.heap.objs.size = some (newSet w) := Heap.get?_push_size _ rfl
      have ty0 : Shared.TypeIs { u with heap := u.heap.push (newSet w) } (.ref u.heap.objs.size) "set" := ⟨_, at0, rfl⟩
      have il0 := PySem.F.called_set.init.lookup
      have ib0 := PySem.F.called_set.init.bind (.ref u.heap.objs.size)
      repeat (any_goals (first | assumption | wp_step))
      refine codeAny_mono (codeAny_call_builtin (R := wants (fun r v => r = .none ∧ ∃ m tk c, v = { u with heap := m, toks := tk } ∧ SetR w m u.heap.objs.size (fun j => decide (j ∈ ks)) c ∧ c ≤ ks.length ∧ (∀ y o, u.heap.get? y = some o → m.get? y = some o)) E) PySem.F.called_set.init.plain PySem.F.entry_set_init (check_set_init_1 ty0 ?_)) fun r2 v2 hr2 => ?_
      · obtain ⟨⟨oc, od, odt, osl⟩, at1, cl1, n1, dt1⟩ := isL
        simp only at cl1 dt1
        subst cl1 dt1
        have at2 : (u.heap.push (newSet w)).get? b = some { cls := .type "list", dict := od, data := .seq its n1, slots := osl } := Heap.get?_push_of_some _ at1
        have ls0 := PySem.F.sub_list_set
        have lf0 := PySem.F.sub_list_frozenset
        have ld0 : (Value.type "list" == Value.type "dict") = false := by decide
        have il1 : (u.heap.push (newSet w)).IsList b its := ⟨_, at2, rfl, n1, rfl⟩
        unfold Builtin.«set.__init__» noKeywords Builtin.Frozenset.updateFrom
        generalize hIter : pyIter = IT
        wp_walk
        subst hIter
        refine wpAny_pyIter_list il1 ?_
        refine wpAny_bind (wpAny_runValue ?_)
        have lb : b < u.heap.objs.size := Heap.lt_size at1
        have hh3 : A.in1.in1.in1.handled = none := by simp [hh]
        have z1 : (u.heap.push (newSet w)).objs.size = u.heap.objs.size + 1 := Heap.size_push ..
        have bi : b ≠ (u.heap.push (newSet w)).objs.size := by rw [z1]; exact Nat.ne_of_lt (Nat.lt_succ_of_lt lb)
        have si : u.heap.objs.size ∉ [(u.heap.push (newSet w)).objs.size, b] := by
          rw [z1]
          simp only [List.mem_cons, List.not_mem_nil, or_false, not_or]
          exact ⟨Nat.ne_of_lt (Nat.lt_succ_self _), Nat.ne_of_gt lb⟩
        have at3 : ∀ (i : Nat) (y : Value), its[i]? = some y → ∃ k t, ks[i]? = some k ∧ y = .int k t := fun i y hy => by
          have hi : i < ks.length := by rw [← size]; exact (Array.getElem?_eq_some_iff.mp hy).1
          obtain ⟨t, e⟩ := PyProof.Rows.IntsAre.int_at isI i y (by rw [Array.getElem?_toList]; exact hy)
          refine ⟨ks[i], t, List.getElem?_eq_getElem hi, ?_⟩
          rw [e, List.getD_eq_getElem?_getD, List.getElem?_eq_getElem hi] <;> rfl
        refine set_update_ints ((Walks.list hh3 _ b bi its).toS) u.heap.objs.size si ks size few at3 (its.size - 0) 0 _ (by omega) (Nat.zero_le _) ⟨⟨_, Heap.get?_push_size _ rfl, rfl, rfl⟩, (il1.push _)⟩ ⟨0, Nat.le_refl 0, setR_new_at (Heap.get?_push_of_some _ at0)⟩ fun v3 c3 mv hc3 R3 => ?_
        obtain ⟨m3, g3, d3, t3, o3⟩ := v3
        obtain rfl : g3 = u.gens := mv.gens
        obtain rfl : d3 = u.drawn := mv.drawn
        obtain rfl : o3 = u.os := mv.os
        show wpAny _ _ _ _ _ _
        refine wpAny_pure ?_
        show wpAny _ _ (ret Value.none) _ _ _
        rw [size] at hc3
        refine wpAny_pure ⟨rfl, m3, t3, c3, rfl, R3, hc3, fun y o e => ?_⟩
        have ly : y < u.heap.objs.size := Heap.lt_size e
        refine mv.heap y o ?_ (Heap.get?_push_of_some _ (Heap.get?_push_of_some _ e))
        simp only [List.mem_cons, List.not_mem_nil, or_false, not_or, z1]
        exact ⟨Nat.ne_of_lt ly, Nat.ne_of_lt (Nat.lt_succ_of_lt ly)⟩
      · cases r2 with
        | error e => exact hr2
        | ok fl2 =>
          cases fl2 with
          | ret r =>
            obtain ⟨rfl, m, tk, c, rfl, hS, hc, hk⟩ := hr2
            repeat (any_goals (first | assumption | wp_step))
            exact q _ _ _ hS hc hk
          | _ => exact hr2.elim
    | _ => exact hr.elim
end
section
variable {X : Cx}
/-- set(xs) of a list of ints -/
theorem cr_setInts (calm : X.calm = true) : CallR X (.type "set") (fun xs H Q => ∃ (a : Addr) (ns : List Int), xs = [.ref a] ∧ SqL X.K H a (ns.map V.int) ∧ ns.length < 64 ∧ ∀ (p : Addr) (n : Nat), n ≤ ns.length → H p = none → Q (.ref p) (upd H p (SetO X.w p (fun j => decide (j ∈ ns)) n))) := by
  intro pins s σ H xs us Q I r q
  obtain ⟨a, ns, rfl, hs, few, q⟩ := q
  obtain ⟨v, rfl, rx⟩ := vals1 r
  cases rx
  obtain ⟨its, rv, pl, hz⟩ := I.list hs
  have isI : IntsAre its.toArray.toList ns := ints_of_vals rv
  refine call_set_ints ns (I.ok.hd calm) pl.isList isI (by unfold scanBound; omega) fun m tk c R hc k => ?_
  exact ⟨.ref s.heap.objs.size, upd H s.heap.objs.size (SetO X.w s.heap.objs.size (fun j => decide (j ∈ ns)) c), I.laid (t' := tk) k (Nat.le_refl _) (setO_new R), rfl, q _ c hc (I.hok.fresh (Nat.le_refl _))⟩
end
/-! .. as data -/
def dSortSet (t : AD) : ED := fun ρ μ Q => t ρ μ fun ds μ1 => match ds with
  | [d] => match itemsL μ1 d with
    | some zs => match intsOf zs with
      | some is => is.length < 64 ∧ ∀ (ns : List Int) p, ns.Pairwise (· < ·) → (∀ k, k ∈ ns ↔ k ∈ is) → μ1 p = none → Q (.ob p) (mset μ1 p (.lst (ns.map D.int)))
      | none => False
    | none => False
  | _ => False
theorem d_sortSet {X : Cx} {e : Expr} {ta : AD} {p p2 pos pos2 : Pos} (hg2 : Gl X "sorted") (hm2 : X.mg "sorted" = none) (hg : Gl X "set") (hm : X.mg "set" = none) (ha : PAD X [e] ta) (calm : X.calm = true := by rfl)
    (hs : starEach [e] X.env = (false, eval e X.env) :: starEach [] X.env := by rfl) (hpl : (backTo pos (starEach [] X.env)).any (·.1) = false := by rfl)
    (hs2 : starEach [.Call (.Name "set" p) [e] [] pos] X.env = (false, eval (.Call (.Name "set" p) [e] [] pos) X.env) :: starEach [] X.env := by rfl) (hpl2 : (backTo pos2 (starEach [] X.env)).any (·.1) = false := by rfl) :
    PD X (.Call (.Name "sorted" p2) [.Call (.Name "set" p) [e] [] pos] [] pos2) (dSortSet ta) := by
  refine ⟨PE.imp (pe_callB (cr_sortedSet calm) hg2 hm2 rfl (pa_cons (pe_callTy (cr_setInts calm) hg hm rfl ha.pa (by decide) (by decide) hs hpl) pa_nil hs2) (by decide) (by decide) hs2 hpl2) fun σ H Q ⟨ρ, μ, R, q⟩ => ?_, fun ρ μ Q Q' i q => ha.mono ρ μ _ _ (fun ds μ1 z => by
    split at z
    · split at z
      · split at z
        · exact ⟨z.1, fun ns p h1 h2 h3 => i _ _ (z.2 ns p h1 h2 h3)⟩
        · exact z.elim
      · exact z.elim
    · exact z.elim) q⟩
  refine upA_bind R ha.mono q fun ds μ1 vs H1 q1 s R1 r1 => ?_
  split at q1
  · split at q1
    · rename_i zs e1
      split at q1
      · rename_i is e2
        obtain ⟨few, q1⟩ := q1
        cases r1 with
        | cons h t =>
          cases t
          obtain ⟨a, ys, rfl, hs1, hr⟩ := itemsL_of R1.mem h e1
          have ez := intsOf_map e2
          subst ez
          have ey := vals_intsD hr
          subst ey
          refine ⟨a, is, rfl, hs1, few, fun S n hn hS => ?_⟩
          refine ⟨S, _, n, rfl, upd_same, by omega, fun ns p hw hmem hlen hp => ?_⟩
          have ne : p ≠ S := fun z => by rw [z, upd_same] at hp; cases hp
          have hp1 : H1 p = none := by rw [upd_ne ne] at hp; exact hp
          have mS := R1.mem.free hS
          have st1 := lay_stp hS mS (SetO X.w S (fun j => decide (j ∈ is)) n)
          have m2 := R1.mem.lay hS (SetO X.w S (fun j => decide (j ∈ is)) n)
          refine q1 ns p hw (fun k => by rw [hmem k, decide_eq_true_eq]) (R1.mem.free hp1) (.ref p) _ ((s.trans st1).trans (put_stp (.inl hp) _ _)) (m2.put (.inl hp) (reps_intsD ns)) (.ob p)
      · exact q1.elim
    · exact q1.elim
  · exact q1.elim
end DL

set_option Elab.async false
set_option linter.all false
set_option maxRecDepth 100000
set_option maxHeartbeats 2000000
/-! DlAL: tuple(range(n)), list(range(n)); index of a list that nobody changes. -/
namespace DL
open PySem PySem.Spec PyProof.Rows L2
section
variable {X : Cx} {a : Expr} {ta : ED} {p p2 pos pos2 : Pos}
def dTupRg (t : ED) : ED := fun ρ μ Q => t ρ μ fun d μ1 => match d with
  | .int n => (0 ≤ n ∧ n ≤ 2 ^ 24) ∧ Q (.tup (rngD 0 n.toNat)) μ1
  | _ => False
def dLstRg (t : ED) : ED := fun ρ μ Q => t ρ μ fun d μ1 => match d with
  | .int n => (0 ≤ n ∧ n ≤ 2 ^ 24) ∧ ∀ q, μ1 q = none → Q (.ob q) (mset μ1 q (.lst (rngD 0 n.toNat)))
  | _ => False
theorem reps_rng {K : PySem.W.Frag} {G : Hp} (n : Int) : Reps K G (rgV 0 n) (rngD 0 n.toNat) := by
  have go : ∀ l : List Nat, Reps K G (l.map fun (i : Nat) => V.int (0 + (i : Int))) (l.map fun (i : Nat) => D.int (0 + (i : Int))) := fun l => by
    induction l with
    | nil => exact .nil
    | cons i l ih => exact .cons (.int _) ih
  unfold rgV rngD
  rw [Int.sub_zero]
  exact go _
theorem d_tupRg (hg2 : Gl X "tuple") (hm2 : X.mg "tuple" = none) (hg : Gl X "range") (hm : X.mg "range" = none) (ha : PD X a ta) (calm : X.calm = true := by rfl) (na : starEach [a] X.env = (false, eval a X.env) :: starEach [] X.env := by rfl)
    (na2 : starEach [.Call (.Name "range" p) [a] [] pos] X.env = (false, eval (.Call (.Name "range" p) [a] [] pos) X.env) :: starEach [] X.env := by rfl) : PD X (.Call (.Name "tuple" p2) [.Call (.Name "range" p) [a] [] pos] [] pos2) (dTupRg ta) := by
  refine ⟨PE.imp (pe_tupRg calm hg2 hm2 (prg_1 hg hm ha.pe na) na2) fun σ H Q ⟨ρ, μ, R, q⟩ => ?_, fun ρ μ Q Q' i q => ha.mono _ _ _ _ (fun d μ1 z => by
    cases d <;> first | exact z.elim | exact ⟨z.1, i _ _ z.2⟩) q⟩
  refine up_bind R ha.mono q fun d μ1 v H1 q1 s R1 r1 => ?_
  cases r1 <;> first | exact q1.elim | skip
  rename_i n
  obtain ⟨⟨h0, h1⟩, q1⟩ := q1
  refine ⟨n, rfl, ⟨by omega, by omega, by omega, by omega, by omega⟩, fun q hq => ?_⟩
  have hm := R1.mem.free hq
  exact q1 _ _ (s.trans (lay_stp hq hm _)) (R1.mem.lay hq _) (.tup (SqT.of (cut_lay hm _)) (reps_rng n))
theorem d_lstRg (hg2 : Gl X "list") (hm2 : X.mg "list" = none) (hg : Gl X "range") (hm : X.mg "range" = none) (ha : PD X a ta) (calm : X.calm = true := by rfl) (na : starEach [a] X.env = (false, eval a X.env) :: starEach [] X.env := by rfl)
    (na2 : starEach [.Call (.Name "range" p) [a] [] pos] X.env = (false, eval (.Call (.Name "range" p) [a] [] pos) X.env) :: starEach [] X.env := by rfl) : PD X (.Call (.Name "list" p2) [.Call (.Name "range" p) [a] [] pos] [] pos2) (dLstRg ta) := by
  refine ⟨PE.imp (pe_listRg calm hg2 hm2 (prg_1 hg hm ha.pe na) na2) fun σ H Q ⟨ρ, μ, R, q⟩ => ?_, fun ρ μ Q Q' i q => ha.mono _ _ _ _ (fun d μ1 z => by
    cases d <;> first | exact z.elim | exact ⟨z.1, fun q hq => i _ _ (z.2 q hq)⟩) q⟩
  refine up_bind R ha.mono q fun d μ1 v H1 q1 s R1 r1 => ?_
  cases r1 <;> first | exact q1.elim | skip
  rename_i n
  obtain ⟨⟨h0, h1⟩, q1⟩ := q1
  refine ⟨n, rfl, ⟨by omega, by omega, by omega, by omega, by omega⟩, fun q hq => ?_⟩
  exact q1 q (R1.mem.free hq) _ _ (s.trans (put_stp (.inl hq) _ _)) (R1.mem.put (.inl hq) (reps_rng n)) (.ob q)
end
/-! ### xs.index(y), xs read as it is -/
def dIndexF (to : ED) (t : AD) : ED := fun ρ μ Q => to ρ μ fun d μ1 => match d with
  | .lst xs => t ρ μ1 fun ds μ2 => match ds with
    | [y] => flatD y = true ∧ xs.all flatD = true ∧ ∃ (j : Nat) (z : D), xs[j]? = some z ∧ eqF z y = true ∧ (∀ (m : Nat) (z' : D), m < j → xs[m]? = some z' → eqF z' y = false) ∧ Q (.int (j : Nat)) μ2
    | _ => False
  | _ => False
section
variable {X : Cx} {o e : Expr} {es : List Expr} {to : ED} {t : AD} {apos cpos : Pos}
theorem d_indexF (ho : PD X o to) (ha : PAD X (e :: es) t) (h1 : attributeBase o "index" X.env (eval o X.env) = eval o X.env := by rfl)
    (h2 : (((((backTo cpos (starEach (e :: es) X.env)).all fun x => !x.fst) && (backToKw cpos (keywordEach [] X.env)).all fun x => x.fst.isSome) && decide (((e :: es).length + ([] : List Keyword).length + if ([] : List Keyword).isEmpty = true then 0 else 1) < 30)) = true) := by rfl)
    (h3 : (apos.endLine == cpos.line) = true := by rfl) (h4 : starEach (e :: es) X.env = (false, eval e X.env) :: starEach es X.env := by rfl) (h5 : (((backTo cpos (starEach es X.env)).any fun x => x.fst) = false) := by rfl) :
    PD X (.Call (.Attribute o "index" apos) (e :: es) [] cpos) (dIndexF to t) := by
  refine ⟨PE.imp (pe_bm PySem.F.plainAttrs_list PySem.F.slot_list_index PySem.F.type_list_index mt_index ho.pe ha.pa h1 h2 h3 h4 h5) fun σ H Q ⟨ρ, μ, R, q⟩ => ?_, fun ρ μ Q Q' h q => ho.mono _ _ _ _ (fun d μ1 z => ?_) q⟩
  · refine up_bind R ho.mono q fun d μ1 v1 H1 q1 s1 R1 r1 => ?_
    cases r1 with
    | @lst a ws xs hs rx =>
      refine ⟨Or.inl ⟨rfl, ws, Same.seq cut_sub hs⟩, upA_bind R1 ha.mono q1 fun ds μ2 vs H2 q2 s2 R2 r2 => ?_⟩
      split at q2
      · cases r2 with
        | cons ry rt =>
          cases rt
          obtain ⟨g1, g2, j, z, g3, g4, g5, q3⟩ := q2
          have rx2 := rx.mono s2
          obtain ⟨zv, z1, z2⟩ := rx2.get g3
          refine ⟨a, ws, _, j, zv, rfl, rfl, Same.seq cut_sub (Same.seq s2 hs), by rw [flat_of ry]; exact g1, by rw [flats_of rx2]; exact g2, z1, by rw [eqF_of z2 ry]; exact g4, fun m z' hm hz => ?_, q3 _ H2 (s1.trans s2) R2.mem (.int _)⟩
          obtain ⟨d', y1, y2⟩ := rx2.getV hz
          rw [eqF_of y2 ry]
          exact g5 m d' hm y1
      · exact q2.elim
    | _ => exact q1.elim
  · cases d <;> first | exact z.elim | skip
    simp only at z ⊢
    refine ha.mono _ _ _ _ (fun ds μ2 y => ?_) z
    split at y
    · obtain ⟨g1, g2, j, z, g3, g4, g5, q3⟩ := y
      exact ⟨g1, g2, j, z, g3, g4, g5, h _ _ q3⟩
    · exact y.elim
end
end DL

set_option Elab.async false
set_option linter.all false
set_option maxRecDepth 100000
set_option maxHeartbeats 2000000
namespace K70
open PySem PySem.Spec PyProof.Rows L2 NdefX LamX DL

def top (i : Nat) : Stmt := PySem.Challenge.pw_kindscarried_k63_what_registers_lead_to.main.body.getD i (.Pass ⟨0, 0, 0, 0⟩)
/-- words of the law that are no words of kinds -/
def KX : List String := []
abbrev s_reached : Stmt := top 1
abbrev s_marked : Stmt := top 2
abbrev s_worths_in : Stmt := top 3
abbrev s_gone : Stmt := top 4
abbrev s_moved : Stmt := top 5
abbrev s_moved_worth : Stmt := top 6
abbrev s_moved_thing : Stmt := top 7
abbrev s_law_jar : Stmt := top 9
abbrev s_law_drawn : Stmt := top 10
abbrev s_law_same : Stmt := top 11
abbrev s_law_places : Stmt := top 12
abbrev s_law_reached : Stmt := top 13
abbrev s_law_anew : Stmt := top 14
abbrev s_law_thing_anew : Stmt := top 15
abbrev s_law_gone : Stmt := top 16
abbrev s_law_worth : Stmt := top 17
abbrev s_law_state : Stmt := top 18
abbrev s_law : Stmt := top 19

theorem blk_ok2 {N : List Str} {sc scope : Scope} {own : List (Str × Nat)} (a : scope.kind = ScopeKind.function) (b : ∀ y ∈ scope.names, List.lookup y.1 scope.names = some y.2) (c : ∀ p ∈ own, N[p.2]? = some p.1)
    (d : ∀ y ∈ scope.names, y.2 = .free → List.lookup y.1 sc.names = some .cell ∨ List.lookup y.1 sc.names = some .free) (e : ∀ y ∈ scope.names, y.2 = .local ∨ y.2 = .cell → y.1 ∈ own.map (·.1) ∨ y.1 ∉ N) : BlkOk N sc scope own := ⟨a, b, c, d, e⟩
end K70

set_option Elab.async false
set_option linter.all false
set_option maxRecDepth 100000
set_option maxHeartbeats 2000000
namespace K70
open PySem PySem.Spec PyProof.Rows L2 NdefX LamX DL

theorem at0 {α : Type} (a : α) (l : List α) : atI (a :: l) 0 = some a := atI_nat (j := 0) rfl
theorem at1 {α : Type} (a b : α) (l : List α) : atI (a :: b :: l) 1 = some b := atI_nat (j := 1) rfl
theorem at2 {α : Type} (a b c : α) (l : List α) : atI (a :: b :: c :: l) 2 = some c := atI_nat (j := 2) rfl
theorem at3 {α : Type} (a b c d : α) (l : List α) : atI (a :: b :: c :: d :: l) 3 = some d := atI_nat (j := 3) rfl
theorem atm1 {α : Type} (l : List α) (h : l ≠ []) : atI l (-1) = l.getLast? := by
  have hl : 0 < l.length := by cases l with
    | nil => exact absurd rfl h
    | cons a t => exact Nat.succ_pos _
  unfold atI ixN
  rw [if_neg (by decide), if_pos (by omega)]
  show l[((-1 : Int) + (l.length : Int)).toNat]? = _
  rw [List.getLast?_eq_getElem?]
  congr 1
  omega
theorem eqF_str (a b : String) : eqF (.str a) (.str b) = (a == b) := rfl
theorem flatD_str (a : String) : flatD (.str a) = true := rfl
theorem flatD_int (a : Int) : flatD (.int a) = true := rfl
/-- elements that leave the store as it is -/
theorem lc_pick {g : GD} {tt : TD} {te : ED} {ρ0 : Rho} {p : Addr} {Q : Mu → Prop} (F : D → D) (sel : D → Bool) : ∀ (ds acc : List D) (μ : Mu), μ p = some (.lst acc) → acc.length + ds.length ≤ sizeLine →
    (∀ d ∈ ds, ∀ (acc' : List D) (k : DK) (r : Mu → Prop), (if sel d = true then k (F d) (mset μ p (.lst acc')) else r (mset μ p (.lst acc'))) → g d ρ0 (mset μ p (.lst acc')) fun ρ' μ2 => tt ρ' μ2 fun b μ3 => if b = true then te ρ' μ3 k else r μ3) →
    Q (mset μ p (.lst (acc ++ (ds.filter sel).map F))) → lcD g tt te ρ0 p Q ds μ
  | [], acc, μ, hp, _, _, q => by
    unfold lcD
    rw [List.filter_nil, List.map_nil, List.append_nil, mset_id hp] at q
    exact q
  | d :: ds, acc, μ, hp, hl, step, q => by
    unfold lcD
    rw [List.length_cons] at hl
    have s := step d List.mem_cons_self acc (fun y μ3 => pushD p y μ3 (lcD g tt te ρ0 p Q ds)) (fun μ3 => lcD g tt te ρ0 p Q ds μ3)
    rw [mset_id hp] at s
    have rest : ∀ acc' : List D, acc'.length + ds.length ≤ sizeLine → Q (mset μ p (.lst (acc' ++ (ds.filter sel).map F))) → lcD g tt te ρ0 p Q ds (mset μ p (.lst acc')) := fun acc' hl' q' => by
      refine lc_pick F sel ds acc' _ mset_same hl' (fun d' hd acc2 k r h => ?_) (by rw [mset_mset]; exact q')
      rw [mset_mset] at h ⊢
      exact step d' (List.mem_cons_of_mem _ hd) acc2 k r h
    refine s ?_
    by_cases hs : sel d = true
    · rw [if_pos hs]
      unfold pushD
      rw [hp]
      refine ⟨by omega, rest _ (by rw [List.length_append, List.length_singleton]; omega) ?_⟩
      rw [List.filter_cons_of_pos hs, List.map_cons] at q
      rw [List.append_assoc]
      exact q
    · rw [if_neg hs]
      rw [List.filter_cons_of_neg hs] at q
      have e := rest acc (by omega) q
      rw [mset_id hp] at e
      exact e
theorem lc_map {g : GD} {te : ED} {ρ0 : Rho} {p : Addr} {Q : Mu → Prop} (F : D → D) (ds acc : List D) (μ : Mu) (hp : μ p = some (.lst acc)) (hl : acc.length + ds.length ≤ sizeLine)
    (step : ∀ d ∈ ds, ∀ (acc' : List D) (k : DK), k (F d) (mset μ p (.lst acc')) → g d ρ0 (mset μ p (.lst acc')) fun ρ' μ2 => te ρ' μ2 k) (q : Q (mset μ p (.lst (acc ++ ds.map F)))) : lcD g dYes te ρ0 p Q ds μ := by
  refine lc_pick F (fun _ => true) ds acc μ hp hl (fun d hd acc' k r h => ?_) ?_
  · exact step d hd acc' k h
  · rw [List.filter_eq_self.mpr (fun _ _ => rfl)]
    exact q
theorem loop_rem {g : GD} {tb : SD} {E : EndsD} (W : List D → Rho → Mu → Prop) (step : ∀ d ds ρ μ (N : NK), W (d :: ds) ρ μ → (∀ ρ μ, W ds ρ μ → N ρ μ) → g d ρ μ fun ρ' μ' => tb ⟨N, E.rt, E.nx, N⟩ ρ' μ') (fin : ∀ ρ μ, W [] ρ μ → E.nx ρ μ) : ∀ ds ρ μ, W ds ρ μ → loopD g tb E ds ρ μ
  | [], ρ, μ, w => fin ρ μ w
  | d :: ds, ρ, μ, w => step d ds ρ μ _ w (loop_rem W step fin ds)
theorem cut_take (ds : List D) (k : Nat) : DL.cutD ds none (some (k : Int)) = ds.take k := by
  unfold DL.cutD
  rw [HT.sIx_none, HT.sIx_nat, List.drop_zero, Nat.sub_zero]
  rcases Nat.le_total k ds.length with h | h
  · rw [Nat.min_eq_left h]
  · rw [Nat.min_eq_right h, List.take_of_length_le (Nat.le_refl _), List.take_of_length_le h]
theorem cut_drop (ds : List D) (k : Nat) : DL.cutD ds (some (k : Int)) none = ds.drop k := by
  unfold DL.cutD
  rw [HT.sIx_none, HT.sIx_nat]
  rcases Nat.le_total k ds.length with h | h
  · rw [Nat.min_eq_left h, List.take_of_length_le (by rw [List.length_drop]; exact Nat.le_refl _)]
  · rw [Nat.min_eq_right h, Nat.sub_self, List.take_zero, List.drop_of_length_le h]
theorem cut_to1 (ds : List D) : DL.cutD ds none (some 1) = ds.take 1 := cut_take ds 1
theorem cut_from1 (ds : List D) : DL.cutD ds (some 1) none = ds.drop 1 := cut_drop ds 1
theorem cut_init (ds : List D) : DL.cutD ds none (some (-1)) = ds.dropLast := by
  have e : HT.sIx ds.length ds.length (some (-1)) = ds.length - 1 := by
    show (if (-1 : Int) < 0 then ((-1 : Int) + (ds.length : Int)).toNat else min (-1 : Int).toNat ds.length) = _
    rw [if_pos (by decide)]
    omega
  unfold DL.cutD
  rw [HT.sIx_none, e, List.drop_zero, Nat.sub_zero, List.dropLast_eq_take]
theorem bools_true {α : Type} (l : List α) : boolsD (l.map fun _ => D.bl true) = some (l.map fun _ => true) := by
  induction l with
  | nil => rfl
  | cons a l ih =>
    rw [List.map_cons, List.map_cons]
    unfold boolsD
    rw [ih]
    rfl
theorem all_true {α : Type} (l : List α) : ((l.map fun _ => true).all fun b => b) = true := by
  induction l with
  | nil => rfl
  | cons a l ih => rw [List.map_cons, List.all_cons, ih]; rfl

/-! ### kinds as trees -/
/-- what a kind begins with: its word and what stands beside the kinds in it -/
inductive Hd where
  | free (i : Nat) | var (i : Nat) | int | row | one | cell | some | fix | to (n : Nat) | not (n : Nat) | room (bs : List Bool) | code (n : Nat) (rs : List Int)
inductive T where
  | nd (h : Hd) (ks : List T)
def bd : Hd → Nat
  | .some => 1
  | .fix => 1
  | .to n => n
  | .not n => n
  | .code n _ => n
  | _ => 0
def leafy : Hd → Bool
  | .free _ => true
  | .var _ => true
  | _ => false
def word : Hd → String
  | .free _ => "free" | .var _ => "var" | .int => "int" | .row => "row" | .one => "one" | .cell => "cell" | .some => "some" | .fix => "rec" | .to _ => "to" | .not _ => "not" | .room _ => "room" | .code _ _ => "code"
/-- as many kinds as stand in it -/
def fitN : Hd → Nat → Prop
  | .free _, n => n = 0
  | .var _, n => n = 0
  | .int, n => n = 0
  | .row, _ => True
  | .one, n => 0 < n
  | .cell, n => n = 1
  | .some, n => n = 1
  | .fix, n => n = 1
  | .to _, n => 0 < n
  | .not _, _ => True
  | .room bs, n => n = bs.length
  | .code _ rs, n => n = rs.length
def pairs1 (ds : List D) (bs : List Bool) : List D := (ds.zip bs).map fun p => .tup [p.1, .bl p.2]
def pairs2 (rs : List Int) (ds : List D) : List D := (rs.zip ds).map fun p => .tup [.int p.1, p.2]
def hdD (h : Hd) (ds : List D) : D := match h with
  | .free i => .tup [.str "free", .int i]
  | .var i => .tup [.str "var", .int i]
  | .int => .tup [.str "int"]
  | .row => .tup [.str "row", .tup ds]
  | .one => .tup [.str "one", .tup ds]
  | .cell => .tup [.str "cell", ds.headD .non]
  | .some => .tup [.str "some", ds.headD .non]
  | .fix => .tup [.str "rec", ds.headD .non]
  | .to n => .tup [.str "to", .int n, .tup ds.dropLast, ds.getLast?.getD .non]
  | .not n => .tup [.str "not", .int n, .tup ds]
  | .room bs => .tup [.str "room", .tup (pairs1 ds bs)]
  | .code n rs => .tup [.str "code", .int n, .tup (pairs2 rs ds)]
mutual
def toD : T → D
  | .nd h ks => hdD h (toDs ks)
def toDs : List T → List D
  | [] => []
  | t :: ts => toD t :: toDs ts
end
theorem toDs_map : ∀ ts : List T, toDs ts = ts.map toD
  | [] => rfl
  | t :: ts => by rw [List.map_cons, ← toDs_map ts]; rfl
mutual
def sz : T → Nat
  | .nd _ ks => szs ks + 1
def szs : List T → Nat
  | [] => 0
  | t :: ts => sz t + szs ts
end
theorem len_szs : ∀ ts : List T, ts.length ≤ szs ts
  | [] => Nat.le_refl _
  | t :: ts => by
    have := len_szs ts
    have h : 0 < sz t := by cases t; exact Nat.succ_pos _
    show ts.length + 1 ≤ sz t + szs ts
    omega
theorem sz_pos (t : T) : 0 < sz t := by cases t; exact Nat.succ_pos _
end K70

set_option Elab.async false
set_option linter.all false
set_option maxRecDepth 100000
set_option maxHeartbeats 1000000
namespace K70
open PySem PySem.Spec PyProof.Rows L2 NdefX LamX DL
/-! ### things of the store that a walk changes: where they lie, what is true of them with what is still to be spent -/
structure Rs where
  os : List Addr
  ok : Nat → Mu → Prop
  loc : ∀ N μ μ', (∀ q ∈ os, μ' q = μ q) → ok N μ → ok N μ'
  ex : ∀ N μ, ok N μ → ∀ q ∈ os, μ q ≠ none
  le : ∀ N M μ, M ≤ N → ok N μ → ok M μ
def Kp (os : List Addr) (μ μ' : Mu) : Prop := ∀ q o, q ∉ os → μ q = some o → μ' q = some o
theorem Kp.refl {os : List Addr} {μ : Mu} : Kp os μ μ := fun _ _ _ h => h
theorem Kp.trans {os : List Addr} {μ μ' μ2 : Mu} (a : Kp os μ μ') (b : Kp os μ' μ2) : Kp os μ μ2 := fun q o h1 h => b q o h1 (a q o h1 h)
theorem Kp.eq {os : List Addr} {μ μ' : Mu} (a : ∀ q, q ∉ os → μ' q = μ q) : Kp os μ μ' := fun q o h1 h => by rw [a q h1]; exact h
theorem Kp.new {os : List Addr} {r : Addr} {μ μ' : Mu} {o : MO} (a : Kp os μ μ') (h : μ' r = none) : Kp os μ (mset μ' r o) := fun q u h1 e => by
  have e1 := a q u h1 e
  by_cases c : q = r
  · subst c; rw [h] at e1; cases e1
  · rw [mset_ne c]; exact e1
theorem Kp.put {os : List Addr} {r : Addr} {μ μ' : Mu} {o : MO} (a : Kp os μ μ') (h : μ r = none) : Kp os μ (mset μ' r o) := fun q u h1 e => by
  by_cases c : q = r
  · subst c; rw [h] at e; cases e
  · rw [mset_ne c]; exact a q u h1 e
theorem Kp.del {os : List Addr} {r : Addr} {μ μ' : Mu} (a : Kp os μ μ') (h : μ r = none) : Kp os μ (mdel μ' r) := fun q u h1 e => by
  unfold mdel
  by_cases c : q = r
  · subst c; rw [h] at e; cases e
  · rw [if_neg c]; exact a q u h1 e
theorem Kp.none {os : List Addr} {r : Addr} {μ μ' : Mu} (a : Kp os μ μ') (h : μ' r = none) (n : r ∉ os) : μ r = none := by
  cases e : μ r with
  | none => rfl
  | some o => rw [a r o n e] at h; cases h
theorem Kp.sub {os : List Addr} {μ μ' : Mu} (s : Sub μ μ') : Kp os μ μ' := fun q o _ h => s q o h
namespace Rs
variable {R : Rs} {N : Nat} {r : Addr} {μ μ' : Mu} {o : MO}
theorem ne (h : R.ok N μ) (e : μ r = none) : r ∉ R.os := fun z => R.ex N μ h r z e
theorem put (h : R.ok N μ) (n : r ∉ R.os) : R.ok N (mset μ r o) := R.loc N μ _ (fun q hq => mset_ne fun z => n (z ▸ hq)) h
theorem new (h : R.ok N μ) (e : μ r = none) : R.ok N (mset μ r o) := put h (ne h e)
theorem del (h : R.ok N μ) (n : r ∉ R.os) : R.ok N (mdel μ r) := R.loc N μ _ (fun q hq => by unfold mdel; exact if_neg fun (z : q = r) => n (z ▸ hq)) h
/-- at a def's end: what it made is forgotten -/
theorem ret {Q : DK} {d : D} {μ1 : Mu} (hF : Kp R.os μ μ1) (hS : R.ok N μ1) (q : ∀ μ2, R.ok N μ2 → (∀ x, x ∉ R.os → μ2 x = μ x) → Q d μ2) : retD Q d μ1 := by
  refine ⟨fun x => if x ∈ R.os then μ1 x else μ x, fun x o e => ?_, q _ (R.loc N μ1 _ (fun x hx => if_pos hx) hS) fun x hx => if_neg hx⟩
  by_cases c : x ∈ R.os
  · simpa [c] using e
  · exact hF x o c (by simpa [c] using e)
/-- a comprehension that draws: each turn spends c -/
theorem lc {g : GD} {te : ED} {ρ0 : Rho} {pl : Addr} {Q : Mu → Prop} (c : Nat) (hn : pl ∉ R.os) (hpl : μ pl = none) (Sd Rd : D → Prop)
    (step : ∀ (i : D) (μ1 : Mu) (N : Nat) (k : DK), Sd i → R.ok (N + c) μ1 → Kp R.os μ μ1 → (∀ d μ2, Rd d → R.ok N μ2 → Kp R.os μ μ2 → μ2 pl = μ1 pl → k d μ2) → g i ρ0 μ1 fun ρ' μ2 => te ρ' μ2 k) :
    ∀ (is acc : List D) (N : Nat) (μ' : Mu), (∀ i ∈ is, Sd i) → R.ok (N + is.length * c) μ' → Kp R.os μ μ' → μ' pl = some (.lst acc) → acc.length + is.length ≤ sizeLine →
      (∀ (ds : List D) (μ2 : Mu), (∀ d ∈ ds, Rd d) → ds.length = is.length → R.ok N μ2 → Kp R.os μ μ2 → μ2 pl = some (.lst (acc ++ ds)) → Q μ2) → lcD g dYes te ρ0 pl Q is μ'
  | [], acc, N, μ', _, hc, hs, hp, _, q => q [] μ' (fun d h => nomatch h) rfl (by simpa using hc) hs (by rw [List.append_nil]; exact hp)
  | i :: is, acc, N, μ', hi, hc, hs, hp, hl, q => by
    rw [List.length_cons] at hl hc
    refine step i μ' (N + is.length * c) (fun y μ3 => pushD pl y μ3 (lcD g dYes te ρ0 pl Q is)) (hi i List.mem_cons_self) (by rw [Nat.add_assoc, ← Nat.succ_mul]; exact hc) hs fun d μ2 hd hc' hs2 e2 => ?_
    unfold pushD
    rw [e2, hp]
    refine ⟨by omega, lc c hn hpl Sd Rd step is (acc ++ [d]) N _ (fun x hx => hi x (List.mem_cons_of_mem _ hx)) (put hc' hn) (hs2.put hpl) mset_same (by rw [List.length_append, List.length_singleton]; omega) fun ds μ3 h1 h2 h3 h4 h5 => ?_⟩
    refine q (d :: ds) μ3 (fun x hx => ?_) (by rw [List.length_cons, List.length_cons, h2]) h3 h4 (by rw [List.append_assoc] at h5; exact h5)
    rcases List.mem_cons.mp hx with rfl | hx
    · exact hd
    · exact h1 x hx
end Rs
end K70

set_option Elab.async false
set_option linter.all false
set_option maxRecDepth 100000
set_option maxHeartbeats 4000000
namespace K70
open PySem PySem.Spec PyProof.Rows L2 NdefX LamX DL
theorem isi1 : isiS "int" "int" = some true := by decide
theorem isi2 : isiS "int" "bool" = some false := by decide
theorem isi3 : isiS "str" "int" = some false := by decide
theorem isi4 : isiS "str" "str" = some true := by decide
theorem isi5 : isiS "tuple" "int" = some false := by decide
theorem isi6 : isiS "tuple" "str" = some false := by decide
theorem isi7 : isiS "tuple" "tuple" = some true := by decide
theorem isi8 : isiS "tuple" "list" = some false := by decide
theorem isi9 : isiS "list" "int" = some false := by decide
theorem isi10 : isiS "list" "str" = some false := by decide
theorem isi11 : isiS "list" "tuple" = some false := by decide
theorem isi12 : isiS "list" "list" = some true := by decide
/-- plain data, at most so deep -/
def Pl : Nat → D → Prop
  | _, .int _ => True
  | _, .str _ => True
  | _, .bl _ => True
  | n + 1, .tup ds => ds.length ≤ 1000000 ∧ ∀ d ∈ ds, Pl n d
  | n + 1, .lst ds => ds.length ≤ 1000000 ∧ ∀ d ∈ ds, Pl n d
  | _, _ => False
def sp_same : Nat → RLD
  | 0 => fun _ _ _ => False
  | n + 1 => fun ds μ Q => ∃ d, ds = [d, d] ∧ Pl n d ∧ Q (.bl true) μ
theorem mono_same : ∀ n, MonoL (sp_same n)
  | 0 => fun ds μ Q Q' i h => h
  | n + 1 => fun ds μ Q Q' i ⟨a, h1, h2, q⟩ => ⟨a, h1, h2, i _ _ q⟩
end K70

set_option Elab.async false
set_option linter.all false
set_option maxRecDepth 100000
set_option maxHeartbeats 1000000
namespace K70
open PySem PySem.Spec PyProof.Rows L2 NdefX LamX DL
theorem q_skip {c : TD} {A rest : SD} {E : EndsD} {ρ : Rho} {μ : Mu} (h : ∀ Q : Bool → Mu → Prop, Q false μ → c ρ μ Q) (r : rest E ρ μ) : dSeq (dIfS c A dNext) rest E ρ μ := h _ ((if_neg (by decide : ¬ (false = true))).mpr r)
theorem q_take {c : TD} {A rest : SD} {E : EndsD} {ρ : Rho} {μ : Mu} (h : ∀ Q : Bool → Mu → Prop, Q true μ → c ρ μ Q) (r : A { E with nx := rest E } ρ μ) : dSeq (dIfS c A dNext) rest E ρ μ := h _ ((if_pos (rfl : true = true)).mpr r)
theorem q_by {i : Nat} {te : ED} {rest : SD} {E : EndsD} {ρ : Rho} {μ : Mu} (Pq : D → Mu → Prop) (h : ∀ k : DK, (∀ d μ', Pq d μ' → k d μ') → te ρ μ k) (r : ∀ d μ', Pq d μ' → rest E (ρ.set i (some d)) μ') : dSeq (dSet te (gNm i)) rest E ρ μ := h _ r
theorem q_skipby {c : TD} {A rest : SD} {E : EndsD} {ρ : Rho} {μ : Mu} (Pq : Mu → Prop) (h : ∀ Q : Bool → Mu → Prop, (∀ μ', Pq μ' → Q false μ') → c ρ μ Q) (r : ∀ μ', Pq μ' → rest E ρ μ') : dSeq (dIfS c A dNext) rest E ρ μ := h _ fun μ' g => (if_neg (by decide : ¬ (false = true))).mpr (r μ' g)
theorem q_stmt {s rest : SD} {E : EndsD} {ρ : Rho} {μ : Mu} (Pq : Rho → Mu → Prop) (h : ∀ N : Rho → Mu → Prop, (∀ ρ' μ', Pq ρ' μ' → N ρ' μ') → s { E with nx := N } ρ μ) (r : ∀ ρ' μ', Pq ρ' μ' → rest E ρ' μ') : dSeq s rest E ρ μ := h _ r
theorem len_rng (n : Nat) : (rngD 0 n).length = n := by unfold rngD; rw [List.length_map, List.length_range]
/-! ### states -/
inductive Wo where
  | non | pl (k : Nat) | int (n : Int) | lab (n : Int)
inductive Th where
  | room (ws : List Wo) | cell (w : Wo) | tag (i : Int) (w : Wo)
def woD : Wo → D
  | .non => .non
  | .pl k => .tup [.str "place", .int (k : Nat)]
  | .int n => .tup [.str "int", .int n]
  | .lab n => .tup [.str "label", .int n]
def thD : Th → D
  | .room ws => .tup [.str "room", .tup (ws.map woD)]
  | .cell w => .tup [.str "cell", woD w]
  | .tag i w => .tup [.str "tagged", .int i, woD w]
def Th.ws : Th → List Wo
  | .room ws => ws
  | .cell w => [w]
  | .tag _ w => [w]
structure Sta where
  regs : List Wo
  ths : List Th
  b : Int
  r : Int
def stD (s : Sta) : D := .tup [.tup (s.regs.map woD), .tup (s.ths.map thD), .int s.b, .int s.r]
structure Right (s : Sta) : Prop where
  regs : ∀ k, Wo.pl k ∈ s.regs → k < s.ths.length
  ths : ∀ t ∈ s.ths, ∀ k, Wo.pl k ∈ t.ws → k < s.ths.length
  few : s.regs.length ≤ 16
  small : s.ths.length ≤ 300
  rooms : ∀ t ∈ s.ths, t.ws.length ≤ 5
inductive Rch (s : Sta) : Nat → Prop where
  | reg (k : Nat) : Wo.pl k ∈ s.regs → Rch s k
  | step (j k : Nat) (t : Th) : Rch s j → s.ths[j]? = some t → Wo.pl k ∈ t.ws → Rch s k
theorem Rch.lt {s : Sta} (h : Right s) : ∀ {k : Nat}, Rch s k → k < s.ths.length
  | _, .reg k m => h.regs k m
  | _, .step j k t _ e m => h.ths t (List.mem_of_getElem? e) k m
open Classical in
noncomputable def rcl (s : Sta) : List Nat := (List.range s.ths.length).filter fun k => decide (Rch s k)
theorem rcl_sorted (s : Sta) : (rcl s).Pairwise (· < ·) := List.Pairwise.filter _ List.pairwise_lt_range
theorem rcl_nodup (s : Sta) : (rcl s).Nodup := (rcl_sorted s).imp fun h => Nat.ne_of_lt h
theorem rcl_mem {s : Sta} (h : Right s) {k : Nat} : k ∈ rcl s ↔ Rch s k := by
  unfold rcl
  rw [List.mem_filter, List.mem_range]
  exact ⟨fun x => by simpa using x.2, fun x => ⟨x.lt h, by simpa using x⟩⟩
theorem rcl_len (s : Sta) : (rcl s).length ≤ s.ths.length := by
  unfold rcl
  have := List.length_filter_le (fun k => @decide (Rch s k) (Classical.propDecidable _)) (List.range s.ths.length)
  rw [List.length_range] at this
  exact this
/-- sorted lists of the same members -/
theorem sort_eq : ∀ {l l' : List Int}, l.Pairwise (· < ·) → l'.Pairwise (· < ·) → (∀ k, k ∈ l ↔ k ∈ l') → l = l'
  | [], [], _, _, _ => rfl
  | [], b :: l', _, _, h => nomatch (h b).mpr List.mem_cons_self
  | a :: l, [], _, _, h => nomatch (h a).mp List.mem_cons_self
  | a :: l, b :: l', h1, h2, h => by
    rw [List.pairwise_cons] at h1 h2
    have e : a = b := by
      rcases List.mem_cons.mp ((h a).mp List.mem_cons_self) with e | m
      · exact e
      · rcases List.mem_cons.mp ((h b).mpr List.mem_cons_self) with e | m2
        · exact e.symm
        · have := h1.1 b m2
          have := h2.1 a m
          omega
    subst e
    congr 1
    refine sort_eq h1.2 h2.2 fun k => ⟨fun m => ?_, fun m => ?_⟩
    · rcases List.mem_cons.mp ((h k).mp (List.mem_cons_of_mem _ m)) with e | m2
      · subst e; have := h1.1 k m; omega
      · exact m2
    · rcases List.mem_cons.mp ((h k).mpr (List.mem_cons_of_mem _ m)) with e | m2
      · subst e; have := h2.1 k m; omega
      · exact m2
abbrev ni (l : List Nat) : List Int := l.map fun k => ((k : Nat) : Int)
theorem mem_ni {l : List Nat} {k : Int} : k ∈ ni l ↔ ∃ j ∈ l, (j : Int) = k := List.mem_map
theorem mem_ni' {l : List Nat} {k : Nat} : (k : Int) ∈ ni l ↔ k ∈ l := ⟨fun h => by
  obtain ⟨j, m, e⟩ := mem_ni.mp h
  rw [← Int.ofNat.inj e]; exact m, fun h => mem_ni.mpr ⟨k, h, rfl⟩⟩
theorem ni_sorted {l : List Nat} (h : l.Pairwise (· < ·)) : (ni l).Pairwise (· < ·) := List.pairwise_map.mpr (h.imp fun x => Int.ofNat_lt.mpr x)
theorem ni_nodup {l : List Nat} (h : l.Nodup) : (ni l).Nodup := List.pairwise_map.mpr (h.imp fun x e => x (Int.ofNat.inj e))
theorem srt_eq {s : Sta} (h : Right s) {fk : List Nat} {is : List Int} (nd : fk.Nodup) (hm : ∀ k, k ∈ fk ↔ Rch s k) (p : is.Perm (ni fk)) (so : is.Pairwise (· ≤ ·)) : is = ni (rcl s) := by
  have n2 : is.Nodup := p.nodup_iff.mpr (ni_nodup nd)
  have so2 : is.Pairwise (· < ·) := (so.and n2).imp fun x => Int.lt_iff_le_and_ne.mpr x
  refine sort_eq so2 (ni_sorted (rcl_sorted s)) fun k => ?_
  rw [p.mem_iff, mem_ni, mem_ni]
  exact ⟨fun ⟨j, m, e⟩ => ⟨j, (rcl_mem h).mpr ((hm j).mp m), e⟩, fun ⟨j, m, e⟩ => ⟨j, (hm j).mpr ((rcl_mem h).mp m), e⟩⟩
/-- where it stands -/
def ix : List Nat → Nat → Nat
  | [], _ => 0
  | a :: l, k => if a = k then 0 else ix l k + 1
theorem ix_at : ∀ {l : List Nat} {k : Nat}, k ∈ l → l[ix l k]? = some k
  | a :: l, k, h => by
    unfold ix
    by_cases e : a = k
    · rw [if_pos e, e]; rfl
    · rw [if_neg e]
      rcases List.mem_cons.mp h with h | h
      · exact absurd h.symm e
      · rw [List.getElem?_cons_succ]; exact ix_at h
theorem ix_lt {l : List Nat} {k : Nat} (h : k ∈ l) : ix l k < l.length := (List.getElem?_eq_some_iff.mp (ix_at h)).1
theorem ix_before : ∀ {l : List Nat} {k m x : Nat}, m < ix l k → l[m]? = some x → x ≠ k
  | [], _, _, _, h, _ => by unfold ix at h; omega
  | a :: l, k, m, x, h, e => by
    unfold ix at h
    by_cases c : a = k
    · rw [if_pos c] at h; omega
    · rw [if_neg c] at h
      cases m with
      | zero => cases e; exact c
      | succ m => rw [List.getElem?_cons_succ] at e; exact ix_before (Nat.lt_of_succ_lt_succ h) e
theorem ix_of : ∀ {l : List Nat} {j k : Nat}, l.Nodup → l[j]? = some k → ix l k = j
  | [], _, _, _, e => nomatch e
  | a :: l, 0, k, _, e => by cases e; unfold ix; rw [if_pos rfl]
  | a :: l, j + 1, k, nd, e => by
    rw [List.getElem?_cons_succ] at e
    have h1 := List.nodup_cons.mp nd
    have ne : a ≠ k := fun z => h1.1 (z ▸ List.mem_of_getElem? e)
    unfold ix
    rw [if_neg ne, ix_of h1.2 e]
def mv (l : List Nat) : Wo → Wo
  | .pl k => .pl (ix l k)
  | w => w
def mvT (l : List Nat) : Th → Th
  | .room ws => .room (ws.map (mv l))
  | .cell w => .cell (mv l w)
  | .tag i w => .tag i (mv l w)
theorem mvT_ws (l : List Nat) (t : Th) : (mvT l t).ws = t.ws.map (mv l) := by cases t <;> rfl
theorem pl_mv {l : List Nat} {ws : List Wo} {k : Nat} (h : Wo.pl k ∈ ws.map (mv l)) : ∃ j, Wo.pl j ∈ ws ∧ k = ix l j := by
  obtain ⟨w, m, e⟩ := List.mem_map.mp h
  cases w <;> cases e
  exact ⟨_, m, rfl⟩
def thAt (s : Sta) (k : Nat) : Th := s.ths.getD k (.cell .non)
theorem thAt_eq {s : Sta} {k : Nat} {t : Th} (e : s.ths[k]? = some t) : thAt s k = t := by unfold thAt; rw [List.getD_eq_getElem?_getD, e]; rfl
theorem thAt_get {s : Sta} {k : Nat} (h : k < s.ths.length) : s.ths[k]? = some (thAt s k) := by
  have e : s.ths[k]? = some s.ths[k] := List.getElem?_eq_getElem h
  rw [thAt_eq e]; exact e
noncomputable def gn (s : Sta) : Sta := ⟨s.regs.map (mv (rcl s)), (rcl s).map fun k => mvT (rcl s) (thAt s k), s.b, s.r⟩
theorem gn_len (s : Sta) : (gn s).ths.length = (rcl s).length := List.length_map _
theorem gn_right {s : Sta} (h : Right s) : Right (gn s) := by
  refine ⟨fun k m => ?_, fun t m k mk => ?_, by show (s.regs.map _).length ≤ 16; rw [List.length_map]; exact h.few, by rw [gn_len]; exact Nat.le_trans (rcl_len s) h.small, fun t m => ?_⟩
  · obtain ⟨j, mj, rfl⟩ := pl_mv m
    rw [gn_len]
    exact ix_lt ((rcl_mem h).mpr (.reg j mj))
  · obtain ⟨i, mi, rfl⟩ := List.mem_map.mp m
    rw [mvT_ws] at mk
    obtain ⟨j, mj, rfl⟩ := pl_mv mk
    have ri := (rcl_mem h).mp mi
    rw [gn_len]
    exact ix_lt ((rcl_mem h).mpr (.step i j _ ri (thAt_get (ri.lt h)) mj))
  · obtain ⟨i, mi, rfl⟩ := List.mem_map.mp m
    rw [mvT_ws, List.length_map]
    have ri := (rcl_mem h).mp mi
    exact h.rooms _ (List.mem_of_getElem? (thAt_get (ri.lt h)))
theorem rch_gn {s : Sta} (h : Right s) : ∀ {k : Nat}, Rch s k → Rch (gn s) (ix (rcl s) k)
  | _, .reg k m => .reg _ (List.mem_map.mpr ⟨.pl k, m, rfl⟩)
  | _, .step j k t r e m => by
    refine .step _ _ (mvT (rcl s) t) (rch_gn h r) ?_ ?_
    · show ((rcl s).map _)[_]? = _
      rw [List.getElem?_map, ix_at ((rcl_mem h).mpr r), ← thAt_eq e]
      rfl
    · rw [mvT_ws]
      exact List.mem_map.mpr ⟨.pl k, m, rfl⟩
theorem rch_at {s : Sta} (h : Right s) {m : Nat} (lt : m < (rcl s).length) : Rch (gn s) m := by
  have e : (rcl s)[m]? = some (rcl s)[m] := List.getElem?_eq_getElem lt
  have := rch_gn h ((rcl_mem h).mp (List.mem_of_getElem? e))
  rw [ix_of (rcl_nodup s) e] at this
  exact this
theorem rcl_gn {s : Sta} (h : Right s) : rcl (gn s) = List.range (rcl s).length := by
  unfold rcl
  rw [gn_len]
  refine List.filter_eq_self.mpr fun m hm => by simpa using rch_at h (List.mem_range.mp hm)
theorem ix_range {n k : Nat} (h : k < n) : ix (List.range n) k = k := ix_of List.nodup_range (by rw [List.getElem?_range h])
theorem mv_range {n : Nat} {ws : List Wo} (h : ∀ k, Wo.pl k ∈ ws → k < n) : ws.map (mv (List.range n)) = ws := by
  conv => rhs; rw [← List.map_id ws]
  refine List.map_congr_left fun w m => ?_
  cases w with
  | pl k => show Wo.pl (ix _ k) = _; rw [ix_range (h k m)]; rfl
  | _ => rfl
theorem mvT_range {n : Nat} {t : Th} (h : ∀ k, Wo.pl k ∈ t.ws → k < n) : mvT (List.range n) t = t := by
  have e := mv_range h
  cases t with
  | room ws => show Th.room (ws.map _) = _; rw [show ws.map (mv (List.range n)) = ws from e]
  | cell w => show Th.cell (mv _ w) = _; rw [(List.cons.inj e).1]
  | tag i w => show Th.tag i (mv _ w) = _; rw [(List.cons.inj e).1]
theorem gn_gn {s : Sta} (h : Right s) : gn (gn s) = gn s := by
  have R := gn_right h
  have l1 := gn_len s
  have e := rcl_gn h
  show Sta.mk ((gn s).regs.map (mv (rcl (gn s)))) ((rcl (gn s)).map fun k => mvT (rcl (gn s)) (thAt (gn s) k)) s.b s.r = gn s
  rw [e, ← l1, mv_range R.regs]
  have e2 : (List.range (gn s).ths.length).map (fun k => mvT (List.range (gn s).ths.length) (thAt (gn s) k)) = (gn s).ths := by
    refine List.ext_getElem? fun k => ?_
    rw [List.getElem?_map]
    by_cases c : k < (gn s).ths.length
    · rw [List.getElem?_range c, thAt_get c]
      show some (mvT _ (thAt (gn s) k)) = _
      rw [mvT_range (R.ths _ (List.mem_of_getElem? (thAt_get c)))]
    · rw [List.getElem?_eq_none (by rw [List.length_range]; omega), List.getElem?_eq_none (by omega)]
      rfl
  rw [e2]
  rfl
end K70

set_option Elab.async false
set_option linter.all false
set_option maxRecDepth 100000
set_option maxHeartbeats 4000000
namespace K70
open PySem PySem.Spec PyProof.Rows L2 NdefX LamX DL
theorem sc_worths_in : FnScope ["thing"] ["thing"] (defScope s_worths_in) := ⟨rfl, rfl, rfl, by decide +kernel, rfl, by decide +kernel, by decide +kernel⟩
theorem sc_marked : FnScope ["registers", "things", "found", "pending", "worth"] ["registers", "things"] (defScope s_marked) := ⟨rfl, rfl, rfl, by decide +kernel, rfl, by decide +kernel, by decide +kernel⟩
section
variable {P : Program} {w : World} {K : PySem.W.Frag} {mg : Str → Option Value} {base : Heap} {f : Addr} {fd : FuncData}
theorem am1 (a : D) : atI [a] (-1) = some a := rfl
theorem am2 (a b : D) : atI [a, b] (-1) = some b := rfl
theorem am3 (a b c : D) : atI [a, b, c] (-1) = some c := rfl
def sp_worths : RLD := fun ds μ Q => ∃ t : Th, ds = [thD t] ∧ t.ws.length ≤ 5 ∧ ∀ p, μ p = none → Q (.ob p) (mset μ p (.lst (t.ws.map woD)))
theorem mono_worths : MonoL sp_worths := fun ds μ Q Q' i ⟨t, h1, h2, q⟩ => ⟨t, h1, h2, fun p hp => i _ _ (q p hp)⟩
theorem ok_worths (B : NoG mg) (F : Fun K "_worths_in" "_worths_in" s_worths_in f fd) : FnOk P w K mg base CX0 1 f fd ["thing"] (spUp K sp_worths) := by
  refine okD F sc_worths_in (fun ds μ Q ⟨t, e, _⟩ => by rw [e]; rfl) fun cdv A outer s H E hr => ⟨_, (ds_one (d_ret (d_if (dt_cmp o_eqS (d_ix ix_ok (d_var 0) d_int) (d_str "room" rfl) (nomark _)) (d_callTy c_list rfl B.list rfl (da_cons (d_ix ix_ok (d_var 0) d_int) da_nil)) (d_lst (da_cons (d_ix ix_ok (d_var 0) (d_neg d_int)) da_nil))))), ?_⟩
  rintro ds μ Q ⟨t, rfl, hl, q⟩
  cases t with
  | room ws =>
    simp only [thD]
    simp only [dNewD, dDput, putDk, dExtend, dLock, dKeysI, rDin, rDget, dictD, keyD, dTupRg, dIndexF, dOrT, dAndT, dSeqA, dCont, dRet, dRetN, dSeq, dIfS, dDrop, dSet, gNm, dNext, dAndV, dOrV, dNotV, dAnd, dOr, dNot, dIf, dTru, dBool, dOp, dVar, dC, dCa, dCons, dNil, dTup, dLst, dFrz, frzD, dSl, dNo, dPart, slD, dNeg, dChain, rIsD, rEqS, eqS, DL.rInD, inD, eqF_str, flatD_str, flatD_int, rTypeD, tyD, rLenD, lenD, DL.rIxD, rIntD, rAddD, rTupleD, DL.rListD, rAllD, itemsD, itemsL, rToInt, isD, DL.isNon, isBl, startD, endsOf, dLc, dSeqT, dSeqL, dZip, dRev, dRng1, dFor, dListEnum, wipeD, gTp, gsCons, gsNil, rKdIx, rKdIn, gob, truD, dPop, dAppend, List.isEmpty_cons, List.isEmpty_nil, cut_to1, cut_from1, cut_init, List.drop_one, List.tail_cons, List.take_succ_cons, List.take_zero, bools_true, all_true, mset_same, mset_mset, List.map_cons, List.map_nil, List.length_cons, List.length_nil, List.replicate, List.cons_append, List.nil_append, List.append_nil, List.getElem?_cons_zero, List.getElem?_cons_succ, List.getElem?_nil, Nat.reduceAdd, Nat.reduceSub, List.set_cons_zero, List.set_cons_succ, decide_true, decide_false, if_true, if_false, Bool.false_eq_true, Bool.true_eq_false, Bool.not_true, Bool.not_false, List.any_cons, List.any_nil, List.all_cons, List.all_nil, Bool.or_false, Bool.or_true, Bool.false_or, Bool.true_or, Bool.and_true, Bool.and_false, Bool.true_and, Bool.false_and, reduceCtorEq, String.reduceEq, beq_self_eq_true, String.reduceBEq, at0, at1, at2, at3, Int.reduceEq, true_and, and_true, sizeLine, Nat.reducePow, Nat.reduceLeDiff, Nat.reduceLT, Int.natCast_add, Int.cast_ofNat_Int, Int.reduceLT, Int.reduceLE]
    intro p hp
    exact ⟨_, Sub.refl, q p hp⟩
  | cell x =>
    simp only [thD]
    simp only [dNewD, dDput, putDk, dExtend, dLock, dKeysI, rDin, rDget, dictD, keyD, dTupRg, dIndexF, dOrT, dAndT, dSeqA, dCont, dRet, dRetN, dSeq, dIfS, dDrop, dSet, gNm, dNext, dAndV, dOrV, dNotV, dAnd, dOr, dNot, dIf, dTru, dBool, dOp, dVar, dC, dCa, dCons, dNil, dTup, dLst, dFrz, frzD, dSl, dNo, dPart, slD, dNeg, dChain, rIsD, rEqS, eqS, DL.rInD, inD, eqF_str, flatD_str, flatD_int, rTypeD, tyD, rLenD, lenD, DL.rIxD, rIntD, rAddD, rTupleD, DL.rListD, rAllD, itemsD, itemsL, rToInt, isD, DL.isNon, isBl, startD, endsOf, dLc, dSeqT, dSeqL, dZip, dRev, dRng1, dFor, dListEnum, wipeD, gTp, gsCons, gsNil, rKdIx, rKdIn, gob, truD, dPop, dAppend, List.isEmpty_cons, List.isEmpty_nil, cut_to1, cut_from1, cut_init, List.drop_one, List.tail_cons, List.take_succ_cons, List.take_zero, bools_true, all_true, mset_same, mset_mset, List.map_cons, List.map_nil, List.length_cons, List.length_nil, List.replicate, List.cons_append, List.nil_append, List.append_nil, List.getElem?_cons_zero, List.getElem?_cons_succ, List.getElem?_nil, Nat.reduceAdd, Nat.reduceSub, List.set_cons_zero, List.set_cons_succ, decide_true, decide_false, if_true, if_false, Bool.false_eq_true, Bool.true_eq_false, Bool.not_true, Bool.not_false, List.any_cons, List.any_nil, List.all_cons, List.all_nil, Bool.or_false, Bool.or_true, Bool.false_or, Bool.true_or, Bool.and_true, Bool.and_false, Bool.true_and, Bool.false_and, reduceCtorEq, String.reduceEq, beq_self_eq_true, String.reduceBEq, at0, at1, at2, at3, Int.reduceEq, true_and, and_true, sizeLine, Nat.reducePow, Nat.reduceLeDiff, Nat.reduceLT, Int.natCast_add, Int.cast_ofNat_Int, Int.reduceLT, Int.reduceLE]
    simp only [am2]
    try simp only [dNewD, dDput, putDk, dExtend, dLock, dKeysI, rDin, rDget, dictD, keyD, dTupRg, dIndexF, dOrT, dAndT, dSeqA, dCont, dRet, dRetN, dSeq, dIfS, dDrop, dSet, gNm, dNext, dAndV, dOrV, dNotV, dAnd, dOr, dNot, dIf, dTru, dBool, dOp, dVar, dC, dCa, dCons, dNil, dTup, dLst, dFrz, frzD, dSl, dNo, dPart, slD, dNeg, dChain, rIsD, rEqS, eqS, DL.rInD, inD, eqF_str, flatD_str, flatD_int, rTypeD, tyD, rLenD, lenD, DL.rIxD, rIntD, rAddD, rTupleD, DL.rListD, rAllD, itemsD, itemsL, rToInt, isD, DL.isNon, isBl, startD, endsOf, dLc, dSeqT, dSeqL, dZip, dRev, dRng1, dFor, dListEnum, wipeD, gTp, gsCons, gsNil, rKdIx, rKdIn, gob, truD, dPop, dAppend, List.isEmpty_cons, List.isEmpty_nil, cut_to1, cut_from1, cut_init, List.drop_one, List.tail_cons, List.take_succ_cons, List.take_zero, bools_true, all_true, mset_same, mset_mset, List.map_cons, List.map_nil, List.length_cons, List.length_nil, List.replicate, List.cons_append, List.nil_append, List.append_nil, List.getElem?_cons_zero, List.getElem?_cons_succ, List.getElem?_nil, Nat.reduceAdd, Nat.reduceSub, List.set_cons_zero, List.set_cons_succ, decide_true, decide_false, if_true, if_false, Bool.false_eq_true, Bool.true_eq_false, Bool.not_true, Bool.not_false, List.any_cons, List.any_nil, List.all_cons, List.all_nil, Bool.or_false, Bool.or_true, Bool.false_or, Bool.true_or, Bool.and_true, Bool.and_false, Bool.true_and, Bool.false_and, reduceCtorEq, String.reduceEq, beq_self_eq_true, String.reduceBEq, at0, at1, at2, at3, Int.reduceEq, true_and, and_true, sizeLine, Nat.reducePow, Nat.reduceLeDiff, Nat.reduceLT, Int.natCast_add, Int.cast_ofNat_Int, Int.reduceLT, Int.reduceLE]
    intro p hp
    exact ⟨_, Sub.refl, q p hp⟩
  | tag i x =>
    simp only [thD]
    simp only [dNewD, dDput, putDk, dExtend, dLock, dKeysI, rDin, rDget, dictD, keyD, dTupRg, dIndexF, dOrT, dAndT, dSeqA, dCont, dRet, dRetN, dSeq, dIfS, dDrop, dSet, gNm, dNext, dAndV, dOrV, dNotV, dAnd, dOr, dNot, dIf, dTru, dBool, dOp, dVar, dC, dCa, dCons, dNil, dTup, dLst, dFrz, frzD, dSl, dNo, dPart, slD, dNeg, dChain, rIsD, rEqS, eqS, DL.rInD, inD, eqF_str, flatD_str, flatD_int, rTypeD, tyD, rLenD, lenD, DL.rIxD, rIntD, rAddD, rTupleD, DL.rListD, rAllD, itemsD, itemsL, rToInt, isD, DL.isNon, isBl, startD, endsOf, dLc, dSeqT, dSeqL, dZip, dRev, dRng1, dFor, dListEnum, wipeD, gTp, gsCons, gsNil, rKdIx, rKdIn, gob, truD, dPop, dAppend, List.isEmpty_cons, List.isEmpty_nil, cut_to1, cut_from1, cut_init, List.drop_one, List.tail_cons, List.take_succ_cons, List.take_zero, bools_true, all_true, mset_same, mset_mset, List.map_cons, List.map_nil, List.length_cons, List.length_nil, List.replicate, List.cons_append, List.nil_append, List.append_nil, List.getElem?_cons_zero, List.getElem?_cons_succ, List.getElem?_nil, Nat.reduceAdd, Nat.reduceSub, List.set_cons_zero, List.set_cons_succ, decide_true, decide_false, if_true, if_false, Bool.false_eq_true, Bool.true_eq_false, Bool.not_true, Bool.not_false, List.any_cons, List.any_nil, List.all_cons, List.all_nil, Bool.or_false, Bool.or_true, Bool.false_or, Bool.true_or, Bool.and_true, Bool.and_false, Bool.true_and, Bool.false_and, reduceCtorEq, String.reduceEq, beq_self_eq_true, String.reduceBEq, at0, at1, at2, at3, Int.reduceEq, true_and, and_true, sizeLine, Nat.reducePow, Nat.reduceLeDiff, Nat.reduceLT, Int.natCast_add, Int.cast_ofNat_Int, Int.reduceLT, Int.reduceLE]
    simp only [am3]
    try simp only [dNewD, dDput, putDk, dExtend, dLock, dKeysI, rDin, rDget, dictD, keyD, dTupRg, dIndexF, dOrT, dAndT, dSeqA, dCont, dRet, dRetN, dSeq, dIfS, dDrop, dSet, gNm, dNext, dAndV, dOrV, dNotV, dAnd, dOr, dNot, dIf, dTru, dBool, dOp, dVar, dC, dCa, dCons, dNil, dTup, dLst, dFrz, frzD, dSl, dNo, dPart, slD, dNeg, dChain, rIsD, rEqS, eqS, DL.rInD, inD, eqF_str, flatD_str, flatD_int, rTypeD, tyD, rLenD, lenD, DL.rIxD, rIntD, rAddD, rTupleD, DL.rListD, rAllD, itemsD, itemsL, rToInt, isD, DL.isNon, isBl, startD, endsOf, dLc, dSeqT, dSeqL, dZip, dRev, dRng1, dFor, dListEnum, wipeD, gTp, gsCons, gsNil, rKdIx, rKdIn, gob, truD, dPop, dAppend, List.isEmpty_cons, List.isEmpty_nil, cut_to1, cut_from1, cut_init, List.drop_one, List.tail_cons, List.take_succ_cons, List.take_zero, bools_true, all_true, mset_same, mset_mset, List.map_cons, List.map_nil, List.length_cons, List.length_nil, List.replicate, List.cons_append, List.nil_append, List.append_nil, List.getElem?_cons_zero, List.getElem?_cons_succ, List.getElem?_nil, Nat.reduceAdd, Nat.reduceSub, List.set_cons_zero, List.set_cons_succ, decide_true, decide_false, if_true, if_false, Bool.false_eq_true, Bool.true_eq_false, Bool.not_true, Bool.not_false, List.any_cons, List.any_nil, List.all_cons, List.all_nil, Bool.or_false, Bool.or_true, Bool.false_or, Bool.true_or, Bool.and_true, Bool.and_false, Bool.true_and, Bool.false_and, reduceCtorEq, String.reduceEq, beq_self_eq_true, String.reduceBEq, at0, at1, at2, at3, Int.reduceEq, true_and, and_true, sizeLine, Nat.reducePow, Nat.reduceLeDiff, Nat.reduceLT, Int.natCast_add, Int.cast_ofNat_Int, Int.reduceLT, Int.reduceLE]
    intro p hp
    exact ⟨_, Sub.refl, q p hp⟩
abbrev kN (k : Nat) : Key := .inl ((k : Nat) : Int)
abbrev dctM (fk : List Nat) : MO := .dct (fk.map kN) (fk.map fun _ => .bl true)
def sp_marked : RLD := fun ds μ Q => ∃ s : Sta, ds = [.tup (s.regs.map woD), .tup (s.ths.map thD)] ∧ Right s ∧ ∀ p fk, μ p = none → fk.Nodup → (∀ k, k ∈ fk ↔ Rch s k) → fk.length ≤ 300 → Q (.ob p) (mset μ p (dctM fk))
theorem mono_marked : MonoL sp_marked := fun ds μ Q Q' i ⟨t, h1, h2, q⟩ => ⟨t, h1, h2, fun p fk a b c d => i _ _ (q p fk a b c d)⟩
theorem has_kN {fk : List Nat} {k : Nat} : hasK (fk.map kN) (kN k) = decide (k ∈ fk) := by
  induction fk with
  | nil => rfl
  | cons a fk ih =>
    have e : hasK ((a :: fk).map kN) (kN k) = (decide (kN a = kN k) || hasK (fk.map kN) (kN k)) := rfl
    rw [e, ih]
    by_cases c : a = k
    · subst c; simp
    · have : kN a ≠ kN k := fun z => c (Int.ofNat.inj (Sum.inl.inj z))
      simp [this, c, Ne.symm c]
theorem val_kN {fk : List Nat} {k : Nat} : (valDD (fk.map kN) (fk.map fun _ => D.bl true) (kN k)).isSome = decide (k ∈ fk) := by
  induction fk with
  | nil => rfl
  | cons a fk ih =>
    unfold valDD at ih ⊢
    rw [List.map_cons, List.map_cons, List.zip_cons_cons, List.find?_cons]
    by_cases c : a = k
    · subst c; simp
    · have : kN a ≠ kN k := fun z => c (Int.ofNat.inj (Sum.inl.inj z))
      have e : decide (kN a = kN k) = false := decide_eq_false this
      simp only [e]
      rw [ih]
      simp [Ne.symm c]
theorem put_kN {fk : List Nat} {k : Nat} (h : k ∉ fk) : keysP (fk.map kN) (kN k) = (fk ++ [k]).map kN ∧ valsP (fk.map kN) (fk.map fun _ => D.bl true) (kN k) (D.bl true) = (fk ++ [k]).map fun _ => D.bl true := by
  unfold keysP valsP
  rw [has_kN, if_neg (by simp [h]), if_neg (by simp [h]), List.map_append, List.map_append]
  exact ⟨rfl, rfl⟩
theorem nodup_few : ∀ {n : Nat} {fk : List Nat}, fk.Nodup → (∀ k ∈ fk, k < n) → fk.length ≤ n
  | 0, [], _, _ => Nat.le_refl _
  | 0, a :: fk, _, h => absurd (h a List.mem_cons_self) (Nat.not_lt_zero _)
  | n + 1, fk, nd, h => by
    have h1 := nodup_few (n := n) (nd.erase n) fun k m => by
      have := (nd.mem_erase_iff).mp m
      have := h k this.2
      omega
    rw [List.length_erase] at h1
    split at h1 <;> omega
/-- what is true of the walk -/
structure Mk (s : Sta) (fk : List Nat) (pend : List Wo) : Prop where
  nd : fk.Nodup
  sound : ∀ k ∈ fk, Rch s k
  psound : ∀ k, Wo.pl k ∈ pend → Rch s k
  regs : ∀ k, Wo.pl k ∈ s.regs → k ∈ fk ∨ Wo.pl k ∈ pend
  clo : ∀ j ∈ fk, ∀ t, s.ths[j]? = some t → ∀ k, Wo.pl k ∈ t.ws → k ∈ fk ∨ Wo.pl k ∈ pend
theorem Mk.fin {s : Sta} {fk : List Nat} (m : Mk s fk []) (k : Nat) : k ∈ fk ↔ Rch s k := by
  refine ⟨m.sound k, fun h => ?_⟩
  induction h with
  | reg k h => exact (m.regs k h).resolve_right (fun z => nomatch z)
  | step j k t _ e h ih => exact (m.clo j ih t e k h).resolve_right (fun z => nomatch z)
theorem Mk.skip {s : Sta} {fk : List Nat} {pend : List Wo} {x : Wo} (m : Mk s fk (pend ++ [x])) (h : ∀ k, x = .pl k → k ∈ fk) : Mk s fk pend := by
  have go : ∀ {k : Nat}, k ∈ fk ∨ Wo.pl k ∈ pend ++ [x] → k ∈ fk ∨ Wo.pl k ∈ pend := fun {k} c => by
    rcases c with c | c
    · exact .inl c
    · rcases List.mem_append.mp c with c | c
      · exact .inr c
      · exact .inl (h k (List.mem_singleton.mp c).symm)
  exact ⟨m.nd, m.sound, fun k c => m.psound k (List.mem_append.mpr (.inl c)), fun k c => go (m.regs k c), fun j hj t e k c => go (m.clo j hj t e k c)⟩
theorem Mk.take {s : Sta} {fk : List Nat} {pend : List Wo} {i : Nat} {t : Th} (m : Mk s fk (pend ++ [.pl i])) (h : i ∉ fk) (e : s.ths[i]? = some t) : Mk s (fk ++ [i]) (pend ++ t.ws) := by
  have ri : Rch s i := m.psound i (List.mem_append.mpr (.inr List.mem_cons_self))
  have go : ∀ {k : Nat}, k ∈ fk ∨ Wo.pl k ∈ pend ++ [.pl i] → k ∈ fk ++ [i] ∨ Wo.pl k ∈ pend ++ t.ws := fun {k} c => by
    rcases c with c | c
    · exact .inl (List.mem_append.mpr (.inl c))
    · rcases List.mem_append.mp c with c | c
      · exact .inr (List.mem_append.mpr (.inl c))
      · cases List.mem_singleton.mp c
        exact .inl (List.mem_append.mpr (.inr List.mem_cons_self))
  refine ⟨?_, fun k c => ?_, fun k c => ?_, fun k c => go (m.regs k c), fun j hj t' e' k c => ?_⟩
  · rw [List.nodup_append]
    refine ⟨m.nd, by simp, fun a ha b hb => ?_⟩
    rw [List.mem_singleton.mp hb]
    exact fun z => h (z ▸ ha)
  · rcases List.mem_append.mp c with c | c
    · exact m.sound k c
    · rw [List.mem_singleton.mp c]; exact ri
  · rcases List.mem_append.mp c with c | c
    · exact m.psound k (List.mem_append.mpr (.inl c))
    · exact .step i k t ri e c
  · rcases List.mem_append.mp hj with hj | hj
    · exact go (m.clo j hj t' e' k c)
    · rw [List.mem_singleton.mp hj, e] at e'
      cases e'
      exact .inr (List.mem_append.mpr (.inr c))
def Same2 (pf pp : Addr) (μ μ' : Mu) : Prop := ∀ q, q ≠ pf → q ≠ pp → μ' q = μ q
theorem ok_marked (B : NoG mg) {a1 : Addr} {d1 : FuncData} (F : Fun K "_marked" "_marked" s_marked f fd) (Gworths_in : Gt P w K mg base 1 "_worths_in" ["thing"] sp_worths a1 d1) : FnOk P w K mg base CX0 2 f fd ["registers", "things"] (spUp K sp_marked) := by
  refine okD F sc_marked (fun ds μ Q ⟨t, e, _⟩ => by rw [e]; rfl) fun cdv A outer s H E hr => ⟨_, (ds_cons (d_set 2 sc_marked.nd d_newD)
      (ds_cons (d_set 3 sc_marked.nd (d_callTy c_list rfl B.list rfl (da_cons (d_var 0) da_nil)))
      (ds_cons (d_while PassesOwn.never (dt_tru (d_var 3)) (ds_cons (d_set 4 sc_marked.nd (d_pop (d_var 3)))
      (ds_one (d_ifS (PWD.ptd (dw_and (dt_cmp o_isNot (d_var 4) d_non (nomark _)) (dw_and (dt_cmp o_eqS (d_ix ix_ok (d_var 4) d_int) (d_str "place" rfl) (nomark _)) (dw_and1 (dt_dnotin (hu1 hr) (d_ix ix_ok (d_var 4) d_int) (d_var 2)))))) (ds_cons (d_dput (hu1 hr) (d_var 2) (d_ix ix_ok (d_var 4) d_int) d_bl)
      (ds_one (d_expr (d_extend (d_var 3) (da_cons (d_call Gworths_in.F Gworths_in.mono (hr.mono (by first | decide | omega)) Gworths_in.m Gworths_in.k Gworths_in.b (da_cons (d_ix ix_ok (d_var 1) (d_ix ix_ok (d_var 4) d_int)) da_nil)) da_nil))))) ds_nil))))
      (ds_one (d_ret (d_var 2)))))), ?_⟩
  rintro ds μ Q ⟨s, rfl, R, q⟩
  refine q_by (fun d μ' => ∃ pf, d = .ob pf ∧ μ pf = none ∧ μ' = mset μ pf (.dct [] [])) (fun k hk => ?_) ?_
  · simp only [dNewD, dDput, putDk, dExtend, dLock, dKeysI, rDin, rDget, dictD, keyD, dTupRg, dIndexF, dOrT, dAndT, dSeqA, dCont, dRet, dRetN, dSeq, dIfS, dDrop, dSet, gNm, dNext, dAndV, dOrV, dNotV, dAnd, dOr, dNot, dIf, dTru, dBool, dOp, dVar, dC, dCa, dCons, dNil, dTup, dLst, dFrz, frzD, dSl, dNo, dPart, slD, dNeg, dChain, rIsD, rEqS, eqS, DL.rInD, inD, eqF_str, flatD_str, flatD_int, rTypeD, tyD, rLenD, lenD, DL.rIxD, rIntD, rAddD, rTupleD, DL.rListD, rAllD, itemsD, itemsL, rToInt, isD, DL.isNon, isBl, startD, endsOf, dLc, dSeqT, dSeqL, dZip, dRev, dRng1, dFor, dListEnum, wipeD, gTp, gsCons, gsNil, rKdIx, rKdIn, gob, truD, dPop, dAppend, List.isEmpty_cons, List.isEmpty_nil, cut_to1, cut_from1, cut_init, List.drop_one, List.tail_cons, List.take_succ_cons, List.take_zero, bools_true, all_true, mset_same, mset_mset, List.map_cons, List.map_nil, List.length_cons, List.length_nil, List.replicate, List.cons_append, List.nil_append, List.append_nil, List.getElem?_cons_zero, List.getElem?_cons_succ, List.getElem?_nil, Nat.reduceAdd, Nat.reduceSub, List.set_cons_zero, List.set_cons_succ, decide_true, decide_false, if_true, if_false, Bool.false_eq_true, Bool.true_eq_false, Bool.not_true, Bool.not_false, List.any_cons, List.any_nil, List.all_cons, List.all_nil, Bool.or_false, Bool.or_true, Bool.false_or, Bool.true_or, Bool.and_true, Bool.and_false, Bool.true_and, Bool.false_and, reduceCtorEq, String.reduceEq, beq_self_eq_true, String.reduceBEq, at0, at1, at2, at3, Int.reduceEq, true_and, and_true, sizeLine, Nat.reducePow, Nat.reduceLeDiff, Nat.reduceLT, Int.natCast_add, Int.cast_ofNat_Int, Int.reduceLT, Int.reduceLE]
    exact fun p hp => hk _ _ ⟨p, rfl, hp, rfl⟩
  rintro d μ1 ⟨pf, rfl, hpf, rfl⟩
  refine q_by (fun d μ' => ∃ pp, d = .ob pp ∧ pp ≠ pf ∧ μ pp = none ∧ μ' = mset (mset μ pf (.dct [] [])) pp (.lst (s.regs.map woD))) (fun k hk => ?_) ?_
  · simp only [dNewD, dDput, putDk, dExtend, dLock, dKeysI, rDin, rDget, dictD, keyD, dTupRg, dIndexF, dOrT, dAndT, dSeqA, dCont, dRet, dRetN, dSeq, dIfS, dDrop, dSet, gNm, dNext, dAndV, dOrV, dNotV, dAnd, dOr, dNot, dIf, dTru, dBool, dOp, dVar, dC, dCa, dCons, dNil, dTup, dLst, dFrz, frzD, dSl, dNo, dPart, slD, dNeg, dChain, rIsD, rEqS, eqS, DL.rInD, inD, eqF_str, flatD_str, flatD_int, rTypeD, tyD, rLenD, lenD, DL.rIxD, rIntD, rAddD, rTupleD, DL.rListD, rAllD, itemsD, itemsL, rToInt, isD, DL.isNon, isBl, startD, endsOf, dLc, dSeqT, dSeqL, dZip, dRev, dRng1, dFor, dListEnum, wipeD, gTp, gsCons, gsNil, rKdIx, rKdIn, gob, truD, dPop, dAppend, List.isEmpty_cons, List.isEmpty_nil, cut_to1, cut_from1, cut_init, List.drop_one, List.tail_cons, List.take_succ_cons, List.take_zero, bools_true, all_true, mset_same, mset_mset, List.map_cons, List.map_nil, List.length_cons, List.length_nil, List.replicate, List.cons_append, List.nil_append, List.append_nil, List.getElem?_cons_zero, List.getElem?_cons_succ, List.getElem?_nil, Nat.reduceAdd, Nat.reduceSub, List.set_cons_zero, List.set_cons_succ, decide_true, decide_false, if_true, if_false, Bool.false_eq_true, Bool.true_eq_false, Bool.not_true, Bool.not_false, List.any_cons, List.any_nil, List.all_cons, List.all_nil, Bool.or_false, Bool.or_true, Bool.false_or, Bool.true_or, Bool.and_true, Bool.and_false, Bool.true_and, Bool.false_and, reduceCtorEq, String.reduceEq, beq_self_eq_true, String.reduceBEq, at0, at1, at2, at3, Int.reduceEq, true_and, and_true, sizeLine, Nat.reducePow, Nat.reduceLeDiff, Nat.reduceLT, Int.natCast_add, Int.cast_ofNat_Int, Int.reduceLT, Int.reduceLE]
    intro p hp
    have ne : p ≠ pf := fun z => by rw [z, mset_same] at hp; cases hp
    rw [mset_ne ne] at hp
    exact hk _ _ ⟨p, rfl, ne, hp, rfl⟩
  rintro d μ1 ⟨pp, rfl, ne, hpp, rfl⟩
  refine q_stmt (fun ρ' μ' => ∃ fk x, ρ' = [some (.tup (s.regs.map woD)), some (.tup (s.ths.map thD)), some (.ob pf), some (.ob pp), x] ∧ Same2 pf pp μ μ' ∧ μ' pf = some (dctM fk) ∧ Mk s fk []) (fun NX hN => ?_) ?_
  · refine ⟨fun m ρ μ' => m ≤ 2000 ∧ ∃ fk pend x, ρ = [some (.tup (s.regs.map woD)), some (.tup (s.ths.map thD)), some (.ob pf), some (.ob pp), x] ∧ Same2 pf pp μ μ' ∧ μ' pf = some (dctM fk) ∧ μ' pp = some (.lst (pend.map woD)) ∧ Mk s fk pend ∧ m = pend.length + 6 * (s.ths.length - fk.length), ⟨s.regs.length + 6 * s.ths.length, ?_⟩, ?_⟩
    · have := R.few
      have := R.small
      refine ⟨by omega, [], s.regs, none, rfl, fun q h1 h2 => by rw [mset_ne h2, mset_ne h1], by rw [mset_ne (Ne.symm ne), mset_same]; rfl, mset_same, ⟨List.nodup_nil, (fun k h => nomatch h), fun k h => .reg k h, fun k h => .inr h, (fun j h => nomatch h)⟩, rfl⟩
    · rintro m ρ μ' ⟨hm, fk, pend, x, rfl, S2, ef, ep, M, em⟩
      simp only [dNewD, dDput, putDk, dExtend, dLock, dKeysI, rDin, rDget, dictD, keyD, dTupRg, dIndexF, dOrT, dAndT, dSeqA, dCont, dRet, dRetN, dSeq, dIfS, dDrop, dSet, gNm, dNext, dAndV, dOrV, dNotV, dAnd, dOr, dNot, dIf, dTru, dBool, dOp, dVar, dC, dCa, dCons, dNil, dTup, dLst, dFrz, frzD, dSl, dNo, dPart, slD, dNeg, dChain, rIsD, rEqS, eqS, DL.rInD, inD, eqF_str, flatD_str, flatD_int, rTypeD, tyD, rLenD, lenD, DL.rIxD, rIntD, rAddD, rTupleD, DL.rListD, rAllD, itemsD, itemsL, rToInt, isD, DL.isNon, isBl, startD, endsOf, dLc, dSeqT, dSeqL, dZip, dRev, dRng1, dFor, dListEnum, wipeD, gTp, gsCons, gsNil, rKdIx, rKdIn, gob, truD, dPop, dAppend, List.isEmpty_cons, List.isEmpty_nil, cut_to1, cut_from1, cut_init, List.drop_one, List.tail_cons, List.take_succ_cons, List.take_zero, bools_true, all_true, mset_same, mset_mset, List.map_cons, List.map_nil, List.length_cons, List.length_nil, List.replicate, List.cons_append, List.nil_append, List.append_nil, List.getElem?_cons_zero, List.getElem?_cons_succ, List.getElem?_nil, Nat.reduceAdd, Nat.reduceSub, List.set_cons_zero, List.set_cons_succ, decide_true, decide_false, if_true, if_false, Bool.false_eq_true, Bool.true_eq_false, Bool.not_true, Bool.not_false, List.any_cons, List.any_nil, List.all_cons, List.all_nil, Bool.or_false, Bool.or_true, Bool.false_or, Bool.true_or, Bool.and_true, Bool.and_false, Bool.true_and, Bool.false_and, reduceCtorEq, String.reduceEq, beq_self_eq_true, String.reduceBEq, at0, at1, at2, at3, Int.reduceEq, true_and, and_true, sizeLine, Nat.reducePow, Nat.reduceLeDiff, Nat.reduceLT, Int.natCast_add, Int.cast_ofNat_Int, Int.reduceLT, Int.reduceLE]
      simp only [ep]
      rcases List.eq_nil_or_concat pend with rfl | ⟨pend, y, rfl⟩
      · simp only [dNewD, dDput, putDk, dExtend, dLock, dKeysI, rDin, rDget, dictD, keyD, dTupRg, dIndexF, dOrT, dAndT, dSeqA, dCont, dRet, dRetN, dSeq, dIfS, dDrop, dSet, gNm, dNext, dAndV, dOrV, dNotV, dAnd, dOr, dNot, dIf, dTru, dBool, dOp, dVar, dC, dCa, dCons, dNil, dTup, dLst, dFrz, frzD, dSl, dNo, dPart, slD, dNeg, dChain, rIsD, rEqS, eqS, DL.rInD, inD, eqF_str, flatD_str, flatD_int, rTypeD, tyD, rLenD, lenD, DL.rIxD, rIntD, rAddD, rTupleD, DL.rListD, rAllD, itemsD, itemsL, rToInt, isD, DL.isNon, isBl, startD, endsOf, dLc, dSeqT, dSeqL, dZip, dRev, dRng1, dFor, dListEnum, wipeD, gTp, gsCons, gsNil, rKdIx, rKdIn, gob, truD, dPop, dAppend, List.isEmpty_cons, List.isEmpty_nil, cut_to1, cut_from1, cut_init, List.drop_one, List.tail_cons, List.take_succ_cons, List.take_zero, bools_true, all_true, mset_same, mset_mset, List.map_cons, List.map_nil, List.length_cons, List.length_nil, List.replicate, List.cons_append, List.nil_append, List.append_nil, List.getElem?_cons_zero, List.getElem?_cons_succ, List.getElem?_nil, Nat.reduceAdd, Nat.reduceSub, List.set_cons_zero, List.set_cons_succ, decide_true, decide_false, if_true, if_false, Bool.false_eq_true, Bool.true_eq_false, Bool.not_true, Bool.not_false, List.any_cons, List.any_nil, List.all_cons, List.all_nil, Bool.or_false, Bool.or_true, Bool.false_or, Bool.true_or, Bool.and_true, Bool.and_false, Bool.true_and, Bool.false_and, reduceCtorEq, String.reduceEq, beq_self_eq_true, String.reduceBEq, at0, at1, at2, at3, Int.reduceEq, true_and, and_true, sizeLine, Nat.reducePow, Nat.reduceLeDiff, Nat.reduceLT, Int.natCast_add, Int.cast_ofNat_Int, Int.reduceLT, Int.reduceLE]
        exact hN _ _ ⟨fk, x, rfl, S2, ef, M⟩
      · rw [List.concat_eq_append] at ep em M ⊢
        rw [List.length_append, List.length_singleton] at em
        have e1 : ((pend ++ [y]).map woD).isEmpty = false := by simp
        have e2 : ((pend ++ [y]).map woD).getLast? = some (woD y) := by simp
        have e3 : ((pend ++ [y]).map woD).dropLast = pend.map woD := by simp
        simp only [e1]
        simp only [dNewD, dDput, putDk, dExtend, dLock, dKeysI, rDin, rDget, dictD, keyD, dTupRg, dIndexF, dOrT, dAndT, dSeqA, dCont, dRet, dRetN, dSeq, dIfS, dDrop, dSet, gNm, dNext, dAndV, dOrV, dNotV, dAnd, dOr, dNot, dIf, dTru, dBool, dOp, dVar, dC, dCa, dCons, dNil, dTup, dLst, dFrz, frzD, dSl, dNo, dPart, slD, dNeg, dChain, rIsD, rEqS, eqS, DL.rInD, inD, eqF_str, flatD_str, flatD_int, rTypeD, tyD, rLenD, lenD, DL.rIxD, rIntD, rAddD, rTupleD, DL.rListD, rAllD, itemsD, itemsL, rToInt, isD, DL.isNon, isBl, startD, endsOf, dLc, dSeqT, dSeqL, dZip, dRev, dRng1, dFor, dListEnum, wipeD, gTp, gsCons, gsNil, rKdIx, rKdIn, gob, truD, dPop, dAppend, List.isEmpty_cons, List.isEmpty_nil, cut_to1, cut_from1, cut_init, List.drop_one, List.tail_cons, List.take_succ_cons, List.take_zero, bools_true, all_true, mset_same, mset_mset, List.map_cons, List.map_nil, List.length_cons, List.length_nil, List.replicate, List.cons_append, List.nil_append, List.append_nil, List.getElem?_cons_zero, List.getElem?_cons_succ, List.getElem?_nil, Nat.reduceAdd, Nat.reduceSub, List.set_cons_zero, List.set_cons_succ, decide_true, decide_false, if_true, if_false, Bool.false_eq_true, Bool.true_eq_false, Bool.not_true, Bool.not_false, List.any_cons, List.any_nil, List.all_cons, List.all_nil, Bool.or_false, Bool.or_true, Bool.false_or, Bool.true_or, Bool.and_true, Bool.and_false, Bool.true_and, Bool.false_and, reduceCtorEq, String.reduceEq, beq_self_eq_true, String.reduceBEq, at0, at1, at2, at3, Int.reduceEq, true_and, and_true, sizeLine, Nat.reducePow, Nat.reduceLeDiff, Nat.reduceLT, Int.natCast_add, Int.cast_ofNat_Int, Int.reduceLT, Int.reduceLE]
        simp only [ep, e2, e3]
        try simp only [dNewD, dDput, putDk, dExtend, dLock, dKeysI, rDin, rDget, dictD, keyD, dTupRg, dIndexF, dOrT, dAndT, dSeqA, dCont, dRet, dRetN, dSeq, dIfS, dDrop, dSet, gNm, dNext, dAndV, dOrV, dNotV, dAnd, dOr, dNot, dIf, dTru, dBool, dOp, dVar, dC, dCa, dCons, dNil, dTup, dLst, dFrz, frzD, dSl, dNo, dPart, slD, dNeg, dChain, rIsD, rEqS, eqS, DL.rInD, inD, eqF_str, flatD_str, flatD_int, rTypeD, tyD, rLenD, lenD, DL.rIxD, rIntD, rAddD, rTupleD, DL.rListD, rAllD, itemsD, itemsL, rToInt, isD, DL.isNon, isBl, startD, endsOf, dLc, dSeqT, dSeqL, dZip, dRev, dRng1, dFor, dListEnum, wipeD, gTp, gsCons, gsNil, rKdIx, rKdIn, gob, truD, dPop, dAppend, List.isEmpty_cons, List.isEmpty_nil, cut_to1, cut_from1, cut_init, List.drop_one, List.tail_cons, List.take_succ_cons, List.take_zero, bools_true, all_true, mset_same, mset_mset, List.map_cons, List.map_nil, List.length_cons, List.length_nil, List.replicate, List.cons_append, List.nil_append, List.append_nil, List.getElem?_cons_zero, List.getElem?_cons_succ, List.getElem?_nil, Nat.reduceAdd, Nat.reduceSub, List.set_cons_zero, List.set_cons_succ, decide_true, decide_false, if_true, if_false, Bool.false_eq_true, Bool.true_eq_false, Bool.not_true, Bool.not_false, List.any_cons, List.any_nil, List.all_cons, List.all_nil, Bool.or_false, Bool.or_true, Bool.false_or, Bool.true_or, Bool.and_true, Bool.and_false, Bool.true_and, Bool.false_and, reduceCtorEq, String.reduceEq, beq_self_eq_true, String.reduceBEq, at0, at1, at2, at3, Int.reduceEq, true_and, and_true, sizeLine, Nat.reducePow, Nat.reduceLeDiff, Nat.reduceLT, Int.natCast_add, Int.cast_ofNat_Int, Int.reduceLT, Int.reduceLE]
        have ef' : ∀ {o : MO}, (mset μ' pp o) pf = some (dctM fk) := fun {o} => by rw [mset_ne (Ne.symm ne)]; exact ef
        have S2' : ∀ {o : MO}, Same2 pf pp μ (mset μ' pp o) := fun {o} q h1 h2 => by rw [mset_ne h2]; exact S2 q h1 h2
        have lf : fk.length ≤ s.ths.length := nodup_few M.nd fun k h => (M.sound k h).lt R
        have sm := R.small
        cases y with
        | non =>
          simp only [woD]
          simp only [dNewD, dDput, putDk, dExtend, dLock, dKeysI, rDin, rDget, dictD, keyD, dTupRg, dIndexF, dOrT, dAndT, dSeqA, dCont, dRet, dRetN, dSeq, dIfS, dDrop, dSet, gNm, dNext, dAndV, dOrV, dNotV, dAnd, dOr, dNot, dIf, dTru, dBool, dOp, dVar, dC, dCa, dCons, dNil, dTup, dLst, dFrz, frzD, dSl, dNo, dPart, slD, dNeg, dChain, rIsD, rEqS, eqS, DL.rInD, inD, eqF_str, flatD_str, flatD_int, rTypeD, tyD, rLenD, lenD, DL.rIxD, rIntD, rAddD, rTupleD, DL.rListD, rAllD, itemsD, itemsL, rToInt, isD, DL.isNon, isBl, startD, endsOf, dLc, dSeqT, dSeqL, dZip, dRev, dRng1, dFor, dListEnum, wipeD, gTp, gsCons, gsNil, rKdIx, rKdIn, gob, truD, dPop, dAppend, List.isEmpty_cons, List.isEmpty_nil, cut_to1, cut_from1, cut_init, List.drop_one, List.tail_cons, List.take_succ_cons, List.take_zero, bools_true, all_true, mset_same, mset_mset, List.map_cons, List.map_nil, List.length_cons, List.length_nil, List.replicate, List.cons_append, List.nil_append, List.append_nil, List.getElem?_cons_zero, List.getElem?_cons_succ, List.getElem?_nil, Nat.reduceAdd, Nat.reduceSub, List.set_cons_zero, List.set_cons_succ, decide_true, decide_false, if_true, if_false, Bool.false_eq_true, Bool.true_eq_false, Bool.not_true, Bool.not_false, List.any_cons, List.any_nil, List.all_cons, List.all_nil, Bool.or_false, Bool.or_true, Bool.false_or, Bool.true_or, Bool.and_true, Bool.and_false, Bool.true_and, Bool.false_and, reduceCtorEq, String.reduceEq, beq_self_eq_true, String.reduceBEq, at0, at1, at2, at3, Int.reduceEq, true_and, and_true, sizeLine, Nat.reducePow, Nat.reduceLeDiff, Nat.reduceLT, Int.natCast_add, Int.cast_ofNat_Int, Int.reduceLT, Int.reduceLE]
          exact ⟨pend.length + 6 * (s.ths.length - fk.length), by omega, by omega, fk, pend, _, rfl, S2', ef', rfl, M.skip (fun k e => nomatch e), rfl⟩
        | int n =>
          simp only [woD]
          simp only [dNewD, dDput, putDk, dExtend, dLock, dKeysI, rDin, rDget, dictD, keyD, dTupRg, dIndexF, dOrT, dAndT, dSeqA, dCont, dRet, dRetN, dSeq, dIfS, dDrop, dSet, gNm, dNext, dAndV, dOrV, dNotV, dAnd, dOr, dNot, dIf, dTru, dBool, dOp, dVar, dC, dCa, dCons, dNil, dTup, dLst, dFrz, frzD, dSl, dNo, dPart, slD, dNeg, dChain, rIsD, rEqS, eqS, DL.rInD, inD, eqF_str, flatD_str, flatD_int, rTypeD, tyD, rLenD, lenD, DL.rIxD, rIntD, rAddD, rTupleD, DL.rListD, rAllD, itemsD, itemsL, rToInt, isD, DL.isNon, isBl, startD, endsOf, dLc, dSeqT, dSeqL, dZip, dRev, dRng1, dFor, dListEnum, wipeD, gTp, gsCons, gsNil, rKdIx, rKdIn, gob, truD, dPop, dAppend, List.isEmpty_cons, List.isEmpty_nil, cut_to1, cut_from1, cut_init, List.drop_one, List.tail_cons, List.take_succ_cons, List.take_zero, bools_true, all_true, mset_same, mset_mset, List.map_cons, List.map_nil, List.length_cons, List.length_nil, List.replicate, List.cons_append, List.nil_append, List.append_nil, List.getElem?_cons_zero, List.getElem?_cons_succ, List.getElem?_nil, Nat.reduceAdd, Nat.reduceSub, List.set_cons_zero, List.set_cons_succ, decide_true, decide_false, if_true, if_false, Bool.false_eq_true, Bool.true_eq_false, Bool.not_true, Bool.not_false, List.any_cons, List.any_nil, List.all_cons, List.all_nil, Bool.or_false, Bool.or_true, Bool.false_or, Bool.true_or, Bool.and_true, Bool.and_false, Bool.true_and, Bool.false_and, reduceCtorEq, String.reduceEq, beq_self_eq_true, String.reduceBEq, at0, at1, at2, at3, Int.reduceEq, true_and, and_true, sizeLine, Nat.reducePow, Nat.reduceLeDiff, Nat.reduceLT, Int.natCast_add, Int.cast_ofNat_Int, Int.reduceLT, Int.reduceLE]
          exact ⟨pend.length + 6 * (s.ths.length - fk.length), by omega, by omega, fk, pend, _, rfl, S2', ef', rfl, M.skip (fun k e => nomatch e), rfl⟩
        | lab n =>
          simp only [woD]
          simp only [dNewD, dDput, putDk, dExtend, dLock, dKeysI, rDin, rDget, dictD, keyD, dTupRg, dIndexF, dOrT, dAndT, dSeqA, dCont, dRet, dRetN, dSeq, dIfS, dDrop, dSet, gNm, dNext, dAndV, dOrV, dNotV, dAnd, dOr, dNot, dIf, dTru, dBool, dOp, dVar, dC, dCa, dCons, dNil, dTup, dLst, dFrz, frzD, dSl, dNo, dPart, slD, dNeg, dChain, rIsD, rEqS, eqS, DL.rInD, inD, eqF_str, flatD_str, flatD_int, rTypeD, tyD, rLenD, lenD, DL.rIxD, rIntD, rAddD, rTupleD, DL.rListD, rAllD, itemsD, itemsL, rToInt, isD, DL.isNon, isBl, startD, endsOf, dLc, dSeqT, dSeqL, dZip, dRev, dRng1, dFor, dListEnum, wipeD, gTp, gsCons, gsNil, rKdIx, rKdIn, gob, truD, dPop, dAppend, List.isEmpty_cons, List.isEmpty_nil, cut_to1, cut_from1, cut_init, List.drop_one, List.tail_cons, List.take_succ_cons, List.take_zero, bools_true, all_true, mset_same, mset_mset, List.map_cons, List.map_nil, List.length_cons, List.length_nil, List.replicate, List.cons_append, List.nil_append, List.append_nil, List.getElem?_cons_zero, List.getElem?_cons_succ, List.getElem?_nil, Nat.reduceAdd, Nat.reduceSub, List.set_cons_zero, List.set_cons_succ, decide_true, decide_false, if_true, if_false, Bool.false_eq_true, Bool.true_eq_false, Bool.not_true, Bool.not_false, List.any_cons, List.any_nil, List.all_cons, List.all_nil, Bool.or_false, Bool.or_true, Bool.false_or, Bool.true_or, Bool.and_true, Bool.and_false, Bool.true_and, Bool.false_and, reduceCtorEq, String.reduceEq, beq_self_eq_true, String.reduceBEq, at0, at1, at2, at3, Int.reduceEq, true_and, and_true, sizeLine, Nat.reducePow, Nat.reduceLeDiff, Nat.reduceLT, Int.natCast_add, Int.cast_ofNat_Int, Int.reduceLT, Int.reduceLE]
          exact ⟨pend.length + 6 * (s.ths.length - fk.length), by omega, by omega, fk, pend, _, rfl, S2', ef', rfl, M.skip (fun k e => nomatch e), rfl⟩
        | pl k =>
          have rk : Rch s k := M.psound k (List.mem_append.mpr (.inr List.mem_cons_self))
          have lk := rk.lt R
          simp only [woD]
          simp only [dNewD, dDput, putDk, dExtend, dLock, dKeysI, rDin, rDget, dictD, keyD, dTupRg, dIndexF, dOrT, dAndT, dSeqA, dCont, dRet, dRetN, dSeq, dIfS, dDrop, dSet, gNm, dNext, dAndV, dOrV, dNotV, dAnd, dOr, dNot, dIf, dTru, dBool, dOp, dVar, dC, dCa, dCons, dNil, dTup, dLst, dFrz, frzD, dSl, dNo, dPart, slD, dNeg, dChain, rIsD, rEqS, eqS, DL.rInD, inD, eqF_str, flatD_str, flatD_int, rTypeD, tyD, rLenD, lenD, DL.rIxD, rIntD, rAddD, rTupleD, DL.rListD, rAllD, itemsD, itemsL, rToInt, isD, DL.isNon, isBl, startD, endsOf, dLc, dSeqT, dSeqL, dZip, dRev, dRng1, dFor, dListEnum, wipeD, gTp, gsCons, gsNil, rKdIx, rKdIn, gob, truD, dPop, dAppend, List.isEmpty_cons, List.isEmpty_nil, cut_to1, cut_from1, cut_init, List.drop_one, List.tail_cons, List.take_succ_cons, List.take_zero, bools_true, all_true, mset_same, mset_mset, List.map_cons, List.map_nil, List.length_cons, List.length_nil, List.replicate, List.cons_append, List.nil_append, List.append_nil, List.getElem?_cons_zero, List.getElem?_cons_succ, List.getElem?_nil, Nat.reduceAdd, Nat.reduceSub, List.set_cons_zero, List.set_cons_succ, decide_true, decide_false, if_true, if_false, Bool.false_eq_true, Bool.true_eq_false, Bool.not_true, Bool.not_false, List.any_cons, List.any_nil, List.all_cons, List.all_nil, Bool.or_false, Bool.or_true, Bool.false_or, Bool.true_or, Bool.and_true, Bool.and_false, Bool.true_and, Bool.false_and, reduceCtorEq, String.reduceEq, beq_self_eq_true, String.reduceBEq, at0, at1, at2, at3, Int.reduceEq, true_and, and_true, sizeLine, Nat.reducePow, Nat.reduceLeDiff, Nat.reduceLT, Int.natCast_add, Int.cast_ofNat_Int, Int.reduceLT, Int.reduceLE]
          simp only [ef', dctM]
          rw [val_kN]
          by_cases c : k ∈ fk
          · rw [decide_eq_true c]
            simp only [dNewD, dDput, putDk, dExtend, dLock, dKeysI, rDin, rDget, dictD, keyD, dTupRg, dIndexF, dOrT, dAndT, dSeqA, dCont, dRet, dRetN, dSeq, dIfS, dDrop, dSet, gNm, dNext, dAndV, dOrV, dNotV, dAnd, dOr, dNot, dIf, dTru, dBool, dOp, dVar, dC, dCa, dCons, dNil, dTup, dLst, dFrz, frzD, dSl, dNo, dPart, slD, dNeg, dChain, rIsD, rEqS, eqS, DL.rInD, inD, eqF_str, flatD_str, flatD_int, rTypeD, tyD, rLenD, lenD, DL.rIxD, rIntD, rAddD, rTupleD, DL.rListD, rAllD, itemsD, itemsL, rToInt, isD, DL.isNon, isBl, startD, endsOf, dLc, dSeqT, dSeqL, dZip, dRev, dRng1, dFor, dListEnum, wipeD, gTp, gsCons, gsNil, rKdIx, rKdIn, gob, truD, dPop, dAppend, List.isEmpty_cons, List.isEmpty_nil, cut_to1, cut_from1, cut_init, List.drop_one, List.tail_cons, List.take_succ_cons, List.take_zero, bools_true, all_true, mset_same, mset_mset, List.map_cons, List.map_nil, List.length_cons, List.length_nil, List.replicate, List.cons_append, List.nil_append, List.append_nil, List.getElem?_cons_zero, List.getElem?_cons_succ, List.getElem?_nil, Nat.reduceAdd, Nat.reduceSub, List.set_cons_zero, List.set_cons_succ, decide_true, decide_false, if_true, if_false, Bool.false_eq_true, Bool.true_eq_false, Bool.not_true, Bool.not_false, List.any_cons, List.any_nil, List.all_cons, List.all_nil, Bool.or_false, Bool.or_true, Bool.false_or, Bool.true_or, Bool.and_true, Bool.and_false, Bool.true_and, Bool.false_and, reduceCtorEq, String.reduceEq, beq_self_eq_true, String.reduceBEq, at0, at1, at2, at3, Int.reduceEq, true_and, and_true, sizeLine, Nat.reducePow, Nat.reduceLeDiff, Nat.reduceLT, Int.natCast_add, Int.cast_ofNat_Int, Int.reduceLT, Int.reduceLE]
            exact ⟨pend.length + 6 * (s.ths.length - fk.length), by omega, by omega, fk, pend, _, rfl, S2', by first | exact rfl | exact ef', rfl, M.skip (fun k' e => by cases e; exact c), rfl⟩
          · rw [decide_eq_false c]
            simp only [dNewD, dDput, putDk, dExtend, dLock, dKeysI, rDin, rDget, dictD, keyD, dTupRg, dIndexF, dOrT, dAndT, dSeqA, dCont, dRet, dRetN, dSeq, dIfS, dDrop, dSet, gNm, dNext, dAndV, dOrV, dNotV, dAnd, dOr, dNot, dIf, dTru, dBool, dOp, dVar, dC, dCa, dCons, dNil, dTup, dLst, dFrz, frzD, dSl, dNo, dPart, slD, dNeg, dChain, rIsD, rEqS, eqS, DL.rInD, inD, eqF_str, flatD_str, flatD_int, rTypeD, tyD, rLenD, lenD, DL.rIxD, rIntD, rAddD, rTupleD, DL.rListD, rAllD, itemsD, itemsL, rToInt, isD, DL.isNon, isBl, startD, endsOf, dLc, dSeqT, dSeqL, dZip, dRev, dRng1, dFor, dListEnum, wipeD, gTp, gsCons, gsNil, rKdIx, rKdIn, gob, truD, dPop, dAppend, List.isEmpty_cons, List.isEmpty_nil, cut_to1, cut_from1, cut_init, List.drop_one, List.tail_cons, List.take_succ_cons, List.take_zero, bools_true, all_true, mset_same, mset_mset, List.map_cons, List.map_nil, List.length_cons, List.length_nil, List.replicate, List.cons_append, List.nil_append, List.append_nil, List.getElem?_cons_zero, List.getElem?_cons_succ, List.getElem?_nil, Nat.reduceAdd, Nat.reduceSub, List.set_cons_zero, List.set_cons_succ, decide_true, decide_false, if_true, if_false, Bool.false_eq_true, Bool.true_eq_false, Bool.not_true, Bool.not_false, List.any_cons, List.any_nil, List.all_cons, List.all_nil, Bool.or_false, Bool.or_true, Bool.false_or, Bool.true_or, Bool.and_true, Bool.and_false, Bool.true_and, Bool.false_and, reduceCtorEq, String.reduceEq, beq_self_eq_true, String.reduceBEq, at0, at1, at2, at3, Int.reduceEq, true_and, and_true, sizeLine, Nat.reducePow, Nat.reduceLeDiff, Nat.reduceLT, Int.natCast_add, Int.cast_ofNat_Int, Int.reduceLT, Int.reduceLE]
            try simp only [ef', dctM]
            try simp only [dNewD, dDput, putDk, dExtend, dLock, dKeysI, rDin, rDget, dictD, keyD, dTupRg, dIndexF, dOrT, dAndT, dSeqA, dCont, dRet, dRetN, dSeq, dIfS, dDrop, dSet, gNm, dNext, dAndV, dOrV, dNotV, dAnd, dOr, dNot, dIf, dTru, dBool, dOp, dVar, dC, dCa, dCons, dNil, dTup, dLst, dFrz, frzD, dSl, dNo, dPart, slD, dNeg, dChain, rIsD, rEqS, eqS, DL.rInD, inD, eqF_str, flatD_str, flatD_int, rTypeD, tyD, rLenD, lenD, DL.rIxD, rIntD, rAddD, rTupleD, DL.rListD, rAllD, itemsD, itemsL, rToInt, isD, DL.isNon, isBl, startD, endsOf, dLc, dSeqT, dSeqL, dZip, dRev, dRng1, dFor, dListEnum, wipeD, gTp, gsCons, gsNil, rKdIx, rKdIn, gob, truD, dPop, dAppend, List.isEmpty_cons, List.isEmpty_nil, cut_to1, cut_from1, cut_init, List.drop_one, List.tail_cons, List.take_succ_cons, List.take_zero, bools_true, all_true, mset_same, mset_mset, List.map_cons, List.map_nil, List.length_cons, List.length_nil, List.replicate, List.cons_append, List.nil_append, List.append_nil, List.getElem?_cons_zero, List.getElem?_cons_succ, List.getElem?_nil, Nat.reduceAdd, Nat.reduceSub, List.set_cons_zero, List.set_cons_succ, decide_true, decide_false, if_true, if_false, Bool.false_eq_true, Bool.true_eq_false, Bool.not_true, Bool.not_false, List.any_cons, List.any_nil, List.all_cons, List.all_nil, Bool.or_false, Bool.or_true, Bool.false_or, Bool.true_or, Bool.and_true, Bool.and_false, Bool.true_and, Bool.false_and, reduceCtorEq, String.reduceEq, beq_self_eq_true, String.reduceBEq, at0, at1, at2, at3, Int.reduceEq, true_and, and_true, sizeLine, Nat.reducePow, Nat.reduceLeDiff, Nat.reduceLT, Int.natCast_add, Int.cast_ofNat_Int, Int.reduceLT, Int.reduceLE]
            have lf2 : (fk ++ [k]).length ≤ s.ths.length := nodup_few (M.take c (thAt_get lk)).nd fun k' h => ((M.take c (thAt_get lk)).sound k' h).lt R
            rw [List.length_append, List.length_singleton] at lf2
            refine ⟨by rw [List.length_map]; omega, ?_⟩
            rw [(put_kN c).1, (put_kN c).2]
            have ep2 : (mset (mset μ' pp (.lst (pend.map woD))) pf (dctM (fk ++ [k]))) pp = some (.lst (pend.map woD)) := by rw [mset_ne ne, mset_same]
            try simp only [dNewD, dDput, putDk, dExtend, dLock, dKeysI, rDin, rDget, dictD, keyD, dTupRg, dIndexF, dOrT, dAndT, dSeqA, dCont, dRet, dRetN, dSeq, dIfS, dDrop, dSet, gNm, dNext, dAndV, dOrV, dNotV, dAnd, dOr, dNot, dIf, dTru, dBool, dOp, dVar, dC, dCa, dCons, dNil, dTup, dLst, dFrz, frzD, dSl, dNo, dPart, slD, dNeg, dChain, rIsD, rEqS, eqS, DL.rInD, inD, eqF_str, flatD_str, flatD_int, rTypeD, tyD, rLenD, lenD, DL.rIxD, rIntD, rAddD, rTupleD, DL.rListD, rAllD, itemsD, itemsL, rToInt, isD, DL.isNon, isBl, startD, endsOf, dLc, dSeqT, dSeqL, dZip, dRev, dRng1, dFor, dListEnum, wipeD, gTp, gsCons, gsNil, rKdIx, rKdIn, gob, truD, dPop, dAppend, List.isEmpty_cons, List.isEmpty_nil, cut_to1, cut_from1, cut_init, List.drop_one, List.tail_cons, List.take_succ_cons, List.take_zero, bools_true, all_true, mset_same, mset_mset, List.map_cons, List.map_nil, List.length_cons, List.length_nil, List.replicate, List.cons_append, List.nil_append, List.append_nil, List.getElem?_cons_zero, List.getElem?_cons_succ, List.getElem?_nil, Nat.reduceAdd, Nat.reduceSub, List.set_cons_zero, List.set_cons_succ, decide_true, decide_false, if_true, if_false, Bool.false_eq_true, Bool.true_eq_false, Bool.not_true, Bool.not_false, List.any_cons, List.any_nil, List.all_cons, List.all_nil, Bool.or_false, Bool.or_true, Bool.false_or, Bool.true_or, Bool.and_true, Bool.and_false, Bool.true_and, Bool.false_and, reduceCtorEq, String.reduceEq, beq_self_eq_true, String.reduceBEq, at0, at1, at2, at3, Int.reduceEq, true_and, and_true, sizeLine, Nat.reducePow, Nat.reduceLeDiff, Nat.reduceLT, Int.natCast_add, Int.cast_ofNat_Int, Int.reduceLT, Int.reduceLE]
            try simp only [ep2]
            try simp only [dNewD, dDput, putDk, dExtend, dLock, dKeysI, rDin, rDget, dictD, keyD, dTupRg, dIndexF, dOrT, dAndT, dSeqA, dCont, dRet, dRetN, dSeq, dIfS, dDrop, dSet, gNm, dNext, dAndV, dOrV, dNotV, dAnd, dOr, dNot, dIf, dTru, dBool, dOp, dVar, dC, dCa, dCons, dNil, dTup, dLst, dFrz, frzD, dSl, dNo, dPart, slD, dNeg, dChain, rIsD, rEqS, eqS, DL.rInD, inD, eqF_str, flatD_str, flatD_int, rTypeD, tyD, rLenD, lenD, DL.rIxD, rIntD, rAddD, rTupleD, DL.rListD, rAllD, itemsD, itemsL, rToInt, isD, DL.isNon, isBl, startD, endsOf, dLc, dSeqT, dSeqL, dZip, dRev, dRng1, dFor, dListEnum, wipeD, gTp, gsCons, gsNil, rKdIx, rKdIn, gob, truD, dPop, dAppend, List.isEmpty_cons, List.isEmpty_nil, cut_to1, cut_from1, cut_init, List.drop_one, List.tail_cons, List.take_succ_cons, List.take_zero, bools_true, all_true, mset_same, mset_mset, List.map_cons, List.map_nil, List.length_cons, List.length_nil, List.replicate, List.cons_append, List.nil_append, List.append_nil, List.getElem?_cons_zero, List.getElem?_cons_succ, List.getElem?_nil, Nat.reduceAdd, Nat.reduceSub, List.set_cons_zero, List.set_cons_succ, decide_true, decide_false, if_true, if_false, Bool.false_eq_true, Bool.true_eq_false, Bool.not_true, Bool.not_false, List.any_cons, List.any_nil, List.all_cons, List.all_nil, Bool.or_false, Bool.or_true, Bool.false_or, Bool.true_or, Bool.and_true, Bool.and_false, Bool.true_and, Bool.false_and, reduceCtorEq, String.reduceEq, beq_self_eq_true, String.reduceBEq, at0, at1, at2, at3, Int.reduceEq, true_and, and_true, sizeLine, Nat.reducePow, Nat.reduceLeDiff, Nat.reduceLT, Int.natCast_add, Int.cast_ofNat_Int, Int.reduceLT, Int.reduceLE]
            have et : atI (s.ths.map thD) ((k : Nat) : Int) = some (thD (thAt s k)) := atI_nat (by rw [List.getElem?_map, thAt_get lk]; rfl)
            simp only [et]
            try simp only [dNewD, dDput, putDk, dExtend, dLock, dKeysI, rDin, rDget, dictD, keyD, dTupRg, dIndexF, dOrT, dAndT, dSeqA, dCont, dRet, dRetN, dSeq, dIfS, dDrop, dSet, gNm, dNext, dAndV, dOrV, dNotV, dAnd, dOr, dNot, dIf, dTru, dBool, dOp, dVar, dC, dCa, dCons, dNil, dTup, dLst, dFrz, frzD, dSl, dNo, dPart, slD, dNeg, dChain, rIsD, rEqS, eqS, DL.rInD, inD, eqF_str, flatD_str, flatD_int, rTypeD, tyD, rLenD, lenD, DL.rIxD, rIntD, rAddD, rTupleD, DL.rListD, rAllD, itemsD, itemsL, rToInt, isD, DL.isNon, isBl, startD, endsOf, dLc, dSeqT, dSeqL, dZip, dRev, dRng1, dFor, dListEnum, wipeD, gTp, gsCons, gsNil, rKdIx, rKdIn, gob, truD, dPop, dAppend, List.isEmpty_cons, List.isEmpty_nil, cut_to1, cut_from1, cut_init, List.drop_one, List.tail_cons, List.take_succ_cons, List.take_zero, bools_true, all_true, mset_same, mset_mset, List.map_cons, List.map_nil, List.length_cons, List.length_nil, List.replicate, List.cons_append, List.nil_append, List.append_nil, List.getElem?_cons_zero, List.getElem?_cons_succ, List.getElem?_nil, Nat.reduceAdd, Nat.reduceSub, List.set_cons_zero, List.set_cons_succ, decide_true, decide_false, if_true, if_false, Bool.false_eq_true, Bool.true_eq_false, Bool.not_true, Bool.not_false, List.any_cons, List.any_nil, List.all_cons, List.all_nil, Bool.or_false, Bool.or_true, Bool.false_or, Bool.true_or, Bool.and_true, Bool.and_false, Bool.true_and, Bool.false_and, reduceCtorEq, String.reduceEq, beq_self_eq_true, String.reduceBEq, at0, at1, at2, at3, Int.reduceEq, true_and, and_true, sizeLine, Nat.reducePow, Nat.reduceLeDiff, Nat.reduceLT, Int.natCast_add, Int.cast_ofNat_Int, Int.reduceLT, Int.reduceLE]
            refine ⟨thAt s k, rfl, R.rooms _ (List.mem_of_getElem? (thAt_get lk)), fun b hb => ?_⟩
            generalize hG : (mset (mset μ' pp (.lst (pend.map woD))) pf (.dct ((fk ++ [k]).map kN) ((fk ++ [k]).map fun _ => .bl true))) = μ4 at hb ep2 ⊢
            have ep4 : μ4 pp = some (.lst (pend.map woD)) := by rw [← hG, mset_ne ne, mset_same]
            have ef4 : μ4 pf = some (dctM (fk ++ [k])) := by rw [← hG, mset_same]
            have S4 : Same2 pf pp μ μ4 := fun q h1 h2 => by rw [← hG, mset_ne h1, mset_ne h2]; exact S2 q h1 h2
            have b1 : b ≠ pp := fun z => by rw [z, ep4] at hb; cases hb
            have b2 : b ≠ pf := fun z => by rw [z, ef4] at hb; cases hb
            have e7 : mset μ4 b (.lst ((thAt s k).ws.map woD)) pp = some (.lst (pend.map woD)) := by rw [mset_ne (Ne.symm b1)]; exact ep4
            have e8 : mset μ4 b (.lst ((thAt s k).ws.map woD)) b = some (.lst ((thAt s k).ws.map woD)) := mset_same
            have rm := R.rooms _ (List.mem_of_getElem? (thAt_get lk))
            simp only [e7, e8]
            refine ⟨b1, by rw [List.length_map, List.length_map]; omega, (pend ++ (thAt s k).ws).length + 6 * (s.ths.length - (fk ++ [k]).length), ?_, ?_, fk ++ [k], pend ++ (thAt s k).ws, _, rfl, fun q h1 h2 => ?_, ?_, ?_, M.take c (thAt_get lk), rfl⟩
            · simp only [List.length_append, List.length_singleton]; omega
            · simp only [List.length_append, List.length_singleton]; omega
            · unfold mdel
              by_cases z : q = b
              · subst z
                rw [if_pos rfl, ← S4 q h1 h2]
                exact hb.symm
              · rw [if_neg z, mset_ne h2, mset_ne z]; exact S4 q h1 h2
            · unfold mdel
              rw [if_neg (Ne.symm b2), mset_ne (Ne.symm ne), mset_ne (Ne.symm b2)]
              exact ef4
            · unfold mdel
              rw [if_neg (Ne.symm b1), mset_same, List.map_append]
  rintro ρ' μ' ⟨fk, x, rfl, S2, ef, M⟩
  simp only [dNewD, dDput, putDk, dExtend, dLock, dKeysI, rDin, rDget, dictD, keyD, dTupRg, dIndexF, dOrT, dAndT, dSeqA, dCont, dRet, dRetN, dSeq, dIfS, dDrop, dSet, gNm, dNext, dAndV, dOrV, dNotV, dAnd, dOr, dNot, dIf, dTru, dBool, dOp, dVar, dC, dCa, dCons, dNil, dTup, dLst, dFrz, frzD, dSl, dNo, dPart, slD, dNeg, dChain, rIsD, rEqS, eqS, DL.rInD, inD, eqF_str, flatD_str, flatD_int, rTypeD, tyD, rLenD, lenD, DL.rIxD, rIntD, rAddD, rTupleD, DL.rListD, rAllD, itemsD, itemsL, rToInt, isD, DL.isNon, isBl, startD, endsOf, dLc, dSeqT, dSeqL, dZip, dRev, dRng1, dFor, dListEnum, wipeD, gTp, gsCons, gsNil, rKdIx, rKdIn, gob, truD, dPop, dAppend, List.isEmpty_cons, List.isEmpty_nil, cut_to1, cut_from1, cut_init, List.drop_one, List.tail_cons, List.take_succ_cons, List.take_zero, bools_true, all_true, mset_same, mset_mset, List.map_cons, List.map_nil, List.length_cons, List.length_nil, List.replicate, List.cons_append, List.nil_append, List.append_nil, List.getElem?_cons_zero, List.getElem?_cons_succ, List.getElem?_nil, Nat.reduceAdd, Nat.reduceSub, List.set_cons_zero, List.set_cons_succ, decide_true, decide_false, if_true, if_false, Bool.false_eq_true, Bool.true_eq_false, Bool.not_true, Bool.not_false, List.any_cons, List.any_nil, List.all_cons, List.all_nil, Bool.or_false, Bool.or_true, Bool.false_or, Bool.true_or, Bool.and_true, Bool.and_false, Bool.true_and, Bool.false_and, reduceCtorEq, String.reduceEq, beq_self_eq_true, String.reduceBEq, at0, at1, at2, at3, Int.reduceEq, true_and, and_true, sizeLine, Nat.reducePow, Nat.reduceLeDiff, Nat.reduceLT, Int.natCast_add, Int.cast_ofNat_Int, Int.reduceLT, Int.reduceLE]
  have lf : fk.length ≤ s.ths.length := nodup_few M.nd fun k h => (M.sound k h).lt R
  refine ⟨_, fun q o e => ?_, q pf fk hpf M.nd M.fin (Nat.le_trans lf R.small)⟩
  by_cases c : q = pf
  · subst c; rw [mset_same] at e; rw [ef]; exact e
  · rw [mset_ne c] at e
    by_cases c2 : q = pp
    · subst c2; rw [hpp] at e; cases e
    · rw [S2 q c c2]; exact e
end
end K70

set_option Elab.async false
set_option linter.all false
set_option maxRecDepth 100000
set_option maxHeartbeats 4000000
namespace K70
open PySem PySem.Spec PyProof.Rows L2 NdefX LamX DL
theorem sc_reached : FnScope ["state", "registers", "things", "_"] ["state"] (defScope s_reached) := ⟨rfl, rfl, rfl, by decide +kernel, rfl, by decide +kernel, by decide +kernel⟩
theorem sc_moved_worth : FnScope ["worth", "addresses"] ["worth", "addresses"] (defScope s_moved_worth) := ⟨rfl, rfl, rfl, by decide +kernel, rfl, by decide +kernel, by decide +kernel⟩
theorem sc_moved : FnScope ["worths", "addresses", "worth"] ["worths", "addresses"] (defScope s_moved) := ⟨rfl, rfl, rfl, by decide +kernel, rfl, by decide +kernel, by decide +kernel⟩
theorem sc_moved_thing : FnScope ["thing", "addresses"] ["thing", "addresses"] (defScope s_moved_thing) := ⟨rfl, rfl, rfl, by decide +kernel, rfl, by decide +kernel, by decide +kernel⟩
theorem sc_gone : FnScope ["state", "registers", "things", "block", "row", "addresses", "left", "new", "old"] ["state"] (defScope s_gone) := ⟨rfl, rfl, rfl, by decide +kernel, rfl, by decide +kernel, by decide +kernel⟩
theorem lc_mapA {α : Type} {g : GD} {te : ED} {ρ0 : Rho} {p : Addr} {Q : Mu → Prop} (a b : α → D) : ∀ (ks : List α) (acc : List D) (μ : Mu), μ p = some (.lst acc) → acc.length + ks.length ≤ sizeLine →
    (∀ x ∈ ks, ∀ (acc' : List D) (k : DK), k (b x) (mset μ p (.lst acc')) → g (a x) ρ0 (mset μ p (.lst acc')) fun ρ' μ2 => te ρ' μ2 k) → Q (mset μ p (.lst (acc ++ ks.map b))) → lcD g dYes te ρ0 p Q (ks.map a) μ
  | [], acc, μ, hp, _, _, q => by
    rw [List.map_nil, List.append_nil, mset_id hp] at q
    exact q
  | x :: ks, acc, μ, hp, hl, step, q => by
    rw [List.length_cons] at hl
    have s := step x List.mem_cons_self acc (fun y μ3 => pushD p y μ3 (lcD g dYes te ρ0 p Q (ks.map a)))
    rw [mset_id hp] at s
    refine s ?_
    unfold pushD
    rw [hp]
    refine ⟨by omega, ?_⟩
    refine lc_mapA a b ks _ _ mset_same (by rw [List.length_append, List.length_singleton]; omega) (fun x' hx acc' k h => ?_) ?_
    · rw [mset_mset] at h ⊢
      exact step x' (List.mem_cons_of_mem _ hx) acc' k h
    · rw [mset_mset, List.append_assoc]
      rw [List.map_cons] at q
      exact q
abbrev keysN (order : List Nat) : List Key := order.map kN
def idxF (o n : Nat) : List D := (List.range' o n).map fun (i : Nat) => D.int (i : Int)
theorem val_idx (i : Nat) : ∀ (order : List Nat) (o : Nat), i ∈ order → valDD (keysN order) (idxF o order.length) (.inl (i : Int)) = some (.int ((o + ix order i : Nat) : Int))
  | n :: order, o, m => by
    unfold valDD idxF keysN ix
    rw [List.map_cons, List.length_cons, List.range'_succ, List.map_cons, List.zip_cons_cons, List.find?_cons]
    by_cases e : n = i
    · subst e
      simp
    · have e2 : ¬ (kN n = Sum.inl (i : Int)) := fun z => e (by injection z with z; exact Int.ofNat.inj z)
      have m2 : i ∈ order := by
        rcases List.mem_cons.mp m with h | h
        · exact absurd h.symm e
        · exact h
      have ih := val_idx i order (o + 1) m2
      unfold valDD idxF keysN at ih
      simp only [e2, decide_false, if_neg e]
      rw [ih]
      have : o + 1 + ix order i = o + (ix order i + 1) := by omega
      rw [this]
theorem has_keys (i : Nat) (pre : List Nat) (h : i ∉ pre) : hasK (keysN pre) (.inl (i : Int)) = false := by
  unfold hasK keysN
  rw [List.any_eq_false]
  intro k hk
  obtain ⟨n, hn, rfl⟩ := List.mem_map.mp hk
  have : ¬ ((Sum.inl (n : Int) : Key) = Sum.inl (i : Int)) := fun z => h (by injection z with z; have : n = i := Int.ofNat.inj z; rw [← this]; exact hn)
  simp [this]
theorem dc_enum {g : GD} {tk tv : ED} {ρ0 : Rho} {p : Addr} {Q : Mu → Prop} : ∀ (rest pre : List Nat) (μ : Mu), μ p = some (.dct (keysN pre) (idxF 0 pre.length)) → (pre ++ rest).Nodup → pre.length + rest.length ≤ 1000 →
    (∀ (i n : Nat) (μ' : Mu) (k : Mu → Prop), putDk p (.int (n : Int)) (.int (i : Int)) μ' k → g (.tup [.int (i : Int), .int (n : Int)]) ρ0 μ' fun ρ' μ2 => tk ρ' μ2 fun y μ3 => tv ρ' μ3 fun z μ4 => putDk p y z μ4 k) →
    Q (mset μ p (.dct (keysN (pre ++ rest)) (idxF 0 (pre ++ rest).length))) → dcD g dYes tk tv ρ0 p Q ((rest.zipIdx pre.length).map fun q => D.tup [.int (q.2 : Nat), .int (q.1 : Nat)]) μ
  | [], pre, μ, hp, _, _, _, q => by
    rw [List.append_nil, mset_id hp] at q
    exact q
  | n :: rest, pre, μ, hp, nd, hl, step, q => by
    rw [List.length_cons] at hl
    have hn : n ∉ pre := fun z => (List.nodup_append.mp nd).2.2 n z n List.mem_cons_self rfl
    refine step pre.length n μ _ ?_
    unfold putDk
    rw [hp]
    simp only [keyD]
    have e1 : keysP (keysN pre) (.inl (n : Int)) = keysN (pre ++ [n]) := by
      unfold keysP
      rw [has_keys n pre hn]
      unfold keysN
      rw [List.map_append]
      rfl
    have e2 : valsP (keysN pre) (idxF 0 pre.length) (.inl (n : Int)) (.int ((pre.length : Nat) : Int)) = idxF 0 (pre ++ [n]).length := by
      unfold valsP
      rw [has_keys n pre hn, List.length_append, List.length_singleton]
      unfold idxF
      rw [List.range'_concat, List.map_append]
      simp
    rw [e1, e2]
    refine ⟨by unfold idxF; rw [List.length_map, List.length_range']; show _ < 2 ^ 24; omega, ?_⟩
    have ih := dc_enum (g := g) (tk := tk) (tv := tv) (ρ0 := ρ0) (Q := Q) rest (pre ++ [n]) (mset μ p (.dct (keysN (pre ++ [n])) (idxF 0 (pre ++ [n]).length))) mset_same (by rw [List.append_assoc]; exact nd) (by rw [List.length_append, List.length_singleton]; omega) step (by rw [mset_mset, List.append_assoc]; exact q)
    rw [List.length_append, List.length_singleton] at ih ⊢
    exact ih
section
variable {P : Program} {w : World} {K : PySem.W.Frag} {mg : Str → Option Value} {base : Heap} {f : Addr} {fd : FuncData}
theorem dl2 (a b : D) : [a, b].dropLast = [a] := rfl
theorem dl3 (a b c : D) : [a, b, c].dropLast = [a, b] := rfl
theorem enum_ni (l : List Nat) : enumD ((ni l).map D.int) = (l.zipIdx 0).map fun q => D.tup [.int (q.2 : Nat), .int (q.1 : Nat)] := by
  unfold enumD ni
  rw [List.map_map, List.zipIdx_map, List.map_map]
  rfl
theorem sort_dct {μ : Mu} {p : Addr} {fk : List Nat} (h : μ p = some (dctM fk)) : sortD μ (.ob p) = some (ni fk) := by
  have e1 : itemsL μ (.ob p) = none := by simp only [itemsL, h]
  have e2 : dictD μ (.ob p) = some (fk.map kN, fk.map fun _ => .bl true) := by simp only [dictD, h]
  unfold sortD
  simp only [e1, e2]
  have e3 : fk.map kN = (ni fk).map Sum.inl := by rw [List.map_map]; rfl
  rw [e3]
  exact keyI_ints _
def sp_reached : RLD := fun ds μ Q => ∃ s : Sta, ds = [stD s] ∧ Right s ∧ Q (.tup ((ni (rcl s)).map D.int)) μ
theorem mono_reached : MonoL sp_reached := fun ds μ Q Q' i ⟨t, h1, h2, q⟩ => ⟨t, h1, h2, i _ _ q⟩
theorem ok_reached (B : NoG mg) (N_sorted : mg "sorted" = none) {a1 : Addr} {d1 : FuncData} (F : Fun K "reached" "reached" s_reached f fd) (Gmarked : Gt P w K mg base 2 "_marked" ["registers", "things"] sp_marked a1 d1) : FnOk P w K mg base CX0 3 f fd ["state"] (spUp K sp_reached) := by
  refine okD F sc_reached (fun ds μ Q ⟨t, e, _⟩ => by rw [e]; rfl) fun cdv A outer s H E hr => ⟨_, (ds_cons (d_asg (d_var 0) (dg_tup (n := 4) rfl (dgs_cons (dg_name 1 (ws := [1, 2, 3, 3]) sc_reached.nd) (dgs_cons (dg_name 2 (ws := [1, 2, 3, 3]) sc_reached.nd) (dgs_cons (dg_name 3 (ws := [1, 2, 3, 3]) sc_reached.nd) (dgs_cons (dg_name 3 (ws := [1, 2, 3, 3]) sc_reached.nd) dgs_nil))))))
      (ds_one (d_ret (d_callTy c_tuple rfl B.tuple rfl (da_cons (d_callB (c_sortD rfl) rfl N_sorted rfl (da_cons (d_call Gmarked.F Gmarked.mono (hr.mono (by first | decide | omega)) Gmarked.m Gmarked.k Gmarked.b (da_cons (d_var 1) (da_cons (d_var 2) da_nil))) da_nil)) da_nil))))), ?_⟩
  rintro ds μ Q ⟨s, rfl, R, q⟩
  simp only [stD]
  simp only [dNewD, dDput, putDk, dExtend, dLock, dKeysI, rDin, rDget, dictD, keyD, dTupRg, dIndexF, dOrT, dAndT, dSeqA, dCont, dRet, dRetN, dSeq, dIfS, dDrop, dSet, gNm, dNext, dAndV, dOrV, dNotV, dAnd, dOr, dNot, dIf, dTru, dBool, dOp, dVar, dC, dCa, dCons, dNil, dTup, dLst, dFrz, frzD, dSl, dNo, dPart, slD, dNeg, dChain, rIsD, rEqS, eqS, DL.rInD, inD, eqF_str, flatD_str, flatD_int, rTypeD, tyD, rLenD, lenD, DL.rIxD, rIntD, rAddD, rTupleD, DL.rListD, rAllD, itemsD, itemsL, rToInt, isD, DL.isNon, isBl, startD, endsOf, dLc, dSeqT, dSeqL, dZip, dRev, dRng1, dFor, dListEnum, wipeD, gTp, gsCons, gsNil, rKdIx, rKdIn, gob, truD, dPop, dAppend, List.isEmpty_cons, List.isEmpty_nil, cut_to1, cut_from1, cut_init, List.drop_one, List.tail_cons, List.take_succ_cons, List.take_zero, bools_true, all_true, mset_same, mset_mset, List.map_cons, List.map_nil, List.length_cons, List.length_nil, List.replicate, List.cons_append, List.nil_append, List.append_nil, List.getElem?_cons_zero, List.getElem?_cons_succ, List.getElem?_nil, Nat.reduceAdd, Nat.reduceSub, List.set_cons_zero, List.set_cons_succ, decide_true, decide_false, if_true, if_false, Bool.false_eq_true, Bool.true_eq_false, Bool.not_true, Bool.not_false, List.any_cons, List.any_nil, List.all_cons, List.all_nil, Bool.or_false, Bool.or_true, Bool.false_or, Bool.true_or, Bool.and_true, Bool.and_false, Bool.true_and, Bool.false_and, reduceCtorEq, String.reduceEq, beq_self_eq_true, String.reduceBEq, at0, at1, at2, at3, Int.reduceEq, true_and, and_true, sizeLine, Nat.reducePow, Nat.reduceLeDiff, Nat.reduceLT, Int.natCast_add, Int.cast_ofNat_Int, Int.reduceLT, Int.reduceLE]
  refine ⟨s, rfl, R, fun p fk hp nd hm hl => ?_⟩
  try simp only [dNewD, dDput, putDk, dExtend, dLock, dKeysI, rDin, rDget, dictD, keyD, dTupRg, dIndexF, dOrT, dAndT, dSeqA, dCont, dRet, dRetN, dSeq, dIfS, dDrop, dSet, gNm, dNext, dAndV, dOrV, dNotV, dAnd, dOr, dNot, dIf, dTru, dBool, dOp, dVar, dC, dCa, dCons, dNil, dTup, dLst, dFrz, frzD, dSl, dNo, dPart, slD, dNeg, dChain, rIsD, rEqS, eqS, DL.rInD, inD, eqF_str, flatD_str, flatD_int, rTypeD, tyD, rLenD, lenD, DL.rIxD, rIntD, rAddD, rTupleD, DL.rListD, rAllD, itemsD, itemsL, rToInt, isD, DL.isNon, isBl, startD, endsOf, dLc, dSeqT, dSeqL, dZip, dRev, dRng1, dFor, dListEnum, wipeD, gTp, gsCons, gsNil, rKdIx, rKdIn, gob, truD, dPop, dAppend, List.isEmpty_cons, List.isEmpty_nil, cut_to1, cut_from1, cut_init, List.drop_one, List.tail_cons, List.take_succ_cons, List.take_zero, bools_true, all_true, mset_same, mset_mset, List.map_cons, List.map_nil, List.length_cons, List.length_nil, List.replicate, List.cons_append, List.nil_append, List.append_nil, List.getElem?_cons_zero, List.getElem?_cons_succ, List.getElem?_nil, Nat.reduceAdd, Nat.reduceSub, List.set_cons_zero, List.set_cons_succ, decide_true, decide_false, if_true, if_false, Bool.false_eq_true, Bool.true_eq_false, Bool.not_true, Bool.not_false, List.any_cons, List.any_nil, List.all_cons, List.all_nil, Bool.or_false, Bool.or_true, Bool.false_or, Bool.true_or, Bool.and_true, Bool.and_false, Bool.true_and, Bool.false_and, reduceCtorEq, String.reduceEq, beq_self_eq_true, String.reduceBEq, at0, at1, at2, at3, Int.reduceEq, true_and, and_true, sizeLine, Nat.reducePow, Nat.reduceLeDiff, Nat.reduceLT, Int.natCast_add, Int.cast_ofNat_Int, Int.reduceLT, Int.reduceLE]
  have es := sort_dct (μ := mset μ p (dctM fk)) mset_same
  unfold rSortD
  simp only [es]
  intro ns p2 h1 h2 hp2
  try simp only [dNewD, dDput, putDk, dExtend, dLock, dKeysI, rDin, rDget, dictD, keyD, dTupRg, dIndexF, dOrT, dAndT, dSeqA, dCont, dRet, dRetN, dSeq, dIfS, dDrop, dSet, gNm, dNext, dAndV, dOrV, dNotV, dAnd, dOr, dNot, dIf, dTru, dBool, dOp, dVar, dC, dCa, dCons, dNil, dTup, dLst, dFrz, frzD, dSl, dNo, dPart, slD, dNeg, dChain, rIsD, rEqS, eqS, DL.rInD, inD, eqF_str, flatD_str, flatD_int, rTypeD, tyD, rLenD, lenD, DL.rIxD, rIntD, rAddD, rTupleD, DL.rListD, rAllD, itemsD, itemsL, rToInt, isD, DL.isNon, isBl, startD, endsOf, dLc, dSeqT, dSeqL, dZip, dRev, dRng1, dFor, dListEnum, wipeD, gTp, gsCons, gsNil, rKdIx, rKdIn, gob, truD, dPop, dAppend, List.isEmpty_cons, List.isEmpty_nil, cut_to1, cut_from1, cut_init, List.drop_one, List.tail_cons, List.take_succ_cons, List.take_zero, bools_true, all_true, mset_same, mset_mset, List.map_cons, List.map_nil, List.length_cons, List.length_nil, List.replicate, List.cons_append, List.nil_append, List.append_nil, List.getElem?_cons_zero, List.getElem?_cons_succ, List.getElem?_nil, Nat.reduceAdd, Nat.reduceSub, List.set_cons_zero, List.set_cons_succ, decide_true, decide_false, if_true, if_false, Bool.false_eq_true, Bool.true_eq_false, Bool.not_true, Bool.not_false, List.any_cons, List.any_nil, List.all_cons, List.all_nil, Bool.or_false, Bool.or_true, Bool.false_or, Bool.true_or, Bool.and_true, Bool.and_false, Bool.true_and, Bool.false_and, reduceCtorEq, String.reduceEq, beq_self_eq_true, String.reduceBEq, at0, at1, at2, at3, Int.reduceEq, true_and, and_true, sizeLine, Nat.reducePow, Nat.reduceLeDiff, Nat.reduceLT, Int.natCast_add, Int.cast_ofNat_Int, Int.reduceLT, Int.reduceLE]
  rw [srt_eq R nd hm h1 h2]
  have ne : p2 ≠ p := fun z => by rw [z, mset_same] at hp2; cases hp2
  rw [mset_ne ne] at hp2
  exact ⟨μ, fun x o e => by
    by_cases c : x = p2
    · subst c; rw [hp2] at e; cases e
    · by_cases c2 : x = p
      · subst c2; rw [hp] at e; cases e
      · rw [mset_ne c, mset_ne c2]; exact e, q⟩
def sp_mw : RLD := fun ds μ Q => ∃ (l : List Nat) (x : Wo), ds = [woD x, .dcl (keysN l) (idxF 0 l.length)] ∧ (∀ k, x = .pl k → k ∈ l) ∧ Q (woD (mv l x)) μ
theorem mono_mw : MonoL sp_mw := fun ds μ Q Q' i ⟨l, t, h1, h2, q⟩ => ⟨l, t, h1, h2, i _ _ q⟩
theorem ok_moved_worth (B : NoG mg) (F : Fun K "_moved_worth" "_moved_worth" s_moved_worth f fd) : FnOk P w K mg base CX0 1 f fd ["worth", "addresses"] (spUp K sp_mw) := by
  refine okD F sc_moved_worth (fun ds μ Q ⟨l, t, e, _⟩ => by rw [e]; rfl) fun cdv A outer s H E hr => ⟨_, (ds_one (d_ret (d_if (PWD.ptd (dw_or (dt_cmp o_is (d_var 0) d_non (nomark _)) (dw_or1 (dt_cmp o_neS (d_ix ix_ok (d_var 0) d_int) (d_str "place" rfl) (nomark _))))) (d_var 0) (d_tup (da_cons (d_str "place" rfl) (da_cons (d_dget (hu1 hr) (d_var 1) (d_ix ix_ok (d_var 0) d_int)) da_nil)))))), ?_⟩
  rintro ds μ Q ⟨l, x, rfl, hx, q⟩
  cases x with
  | pl k =>
    simp only [woD, mv] at q ⊢
    simp only [dNewD, dDput, putDk, dExtend, dLock, dKeysI, rDin, rDget, dictD, keyD, dTupRg, dIndexF, dOrT, dAndT, dSeqA, dCont, dRet, dRetN, dSeq, dIfS, dDrop, dSet, gNm, dNext, dAndV, dOrV, dNotV, dAnd, dOr, dNot, dIf, dTru, dBool, dOp, dVar, dC, dCa, dCons, dNil, dTup, dLst, dFrz, frzD, dSl, dNo, dPart, slD, dNeg, dChain, rIsD, rEqS, eqS, DL.rInD, inD, eqF_str, flatD_str, flatD_int, rTypeD, tyD, rLenD, lenD, DL.rIxD, rIntD, rAddD, rTupleD, DL.rListD, rAllD, itemsD, itemsL, rToInt, isD, DL.isNon, isBl, startD, endsOf, dLc, dSeqT, dSeqL, dZip, dRev, dRng1, dFor, dListEnum, wipeD, gTp, gsCons, gsNil, rKdIx, rKdIn, gob, truD, dPop, dAppend, List.isEmpty_cons, List.isEmpty_nil, cut_to1, cut_from1, cut_init, List.drop_one, List.tail_cons, List.take_succ_cons, List.take_zero, bools_true, all_true, mset_same, mset_mset, List.map_cons, List.map_nil, List.length_cons, List.length_nil, List.replicate, List.cons_append, List.nil_append, List.append_nil, List.getElem?_cons_zero, List.getElem?_cons_succ, List.getElem?_nil, Nat.reduceAdd, Nat.reduceSub, List.set_cons_zero, List.set_cons_succ, decide_true, decide_false, if_true, if_false, Bool.false_eq_true, Bool.true_eq_false, Bool.not_true, Bool.not_false, List.any_cons, List.any_nil, List.all_cons, List.all_nil, Bool.or_false, Bool.or_true, Bool.false_or, Bool.true_or, Bool.and_true, Bool.and_false, Bool.true_and, Bool.false_and, reduceCtorEq, String.reduceEq, beq_self_eq_true, String.reduceBEq, at0, at1, at2, at3, Int.reduceEq, true_and, and_true, sizeLine, Nat.reducePow, Nat.reduceLeDiff, Nat.reduceLT, Int.natCast_add, Int.cast_ofNat_Int, Int.reduceLT, Int.reduceLE]
    rw [val_idx k l 0 (hx k rfl), Nat.zero_add]
    simp only [dNewD, dDput, putDk, dExtend, dLock, dKeysI, rDin, rDget, dictD, keyD, dTupRg, dIndexF, dOrT, dAndT, dSeqA, dCont, dRet, dRetN, dSeq, dIfS, dDrop, dSet, gNm, dNext, dAndV, dOrV, dNotV, dAnd, dOr, dNot, dIf, dTru, dBool, dOp, dVar, dC, dCa, dCons, dNil, dTup, dLst, dFrz, frzD, dSl, dNo, dPart, slD, dNeg, dChain, rIsD, rEqS, eqS, DL.rInD, inD, eqF_str, flatD_str, flatD_int, rTypeD, tyD, rLenD, lenD, DL.rIxD, rIntD, rAddD, rTupleD, DL.rListD, rAllD, itemsD, itemsL, rToInt, isD, DL.isNon, isBl, startD, endsOf, dLc, dSeqT, dSeqL, dZip, dRev, dRng1, dFor, dListEnum, wipeD, gTp, gsCons, gsNil, rKdIx, rKdIn, gob, truD, dPop, dAppend, List.isEmpty_cons, List.isEmpty_nil, cut_to1, cut_from1, cut_init, List.drop_one, List.tail_cons, List.take_succ_cons, List.take_zero, bools_true, all_true, mset_same, mset_mset, List.map_cons, List.map_nil, List.length_cons, List.length_nil, List.replicate, List.cons_append, List.nil_append, List.append_nil, List.getElem?_cons_zero, List.getElem?_cons_succ, List.getElem?_nil, Nat.reduceAdd, Nat.reduceSub, List.set_cons_zero, List.set_cons_succ, decide_true, decide_false, if_true, if_false, Bool.false_eq_true, Bool.true_eq_false, Bool.not_true, Bool.not_false, List.any_cons, List.any_nil, List.all_cons, List.all_nil, Bool.or_false, Bool.or_true, Bool.false_or, Bool.true_or, Bool.and_true, Bool.and_false, Bool.true_and, Bool.false_and, reduceCtorEq, String.reduceEq, beq_self_eq_true, String.reduceBEq, at0, at1, at2, at3, Int.reduceEq, true_and, and_true, sizeLine, Nat.reducePow, Nat.reduceLeDiff, Nat.reduceLT, Int.natCast_add, Int.cast_ofNat_Int, Int.reduceLT, Int.reduceLE]
    exact retD_same q
  | _ =>
    simp only [woD, mv] at q ⊢
    simp only [dNewD, dDput, putDk, dExtend, dLock, dKeysI, rDin, rDget, dictD, keyD, dTupRg, dIndexF, dOrT, dAndT, dSeqA, dCont, dRet, dRetN, dSeq, dIfS, dDrop, dSet, gNm, dNext, dAndV, dOrV, dNotV, dAnd, dOr, dNot, dIf, dTru, dBool, dOp, dVar, dC, dCa, dCons, dNil, dTup, dLst, dFrz, frzD, dSl, dNo, dPart, slD, dNeg, dChain, rIsD, rEqS, eqS, DL.rInD, inD, eqF_str, flatD_str, flatD_int, rTypeD, tyD, rLenD, lenD, DL.rIxD, rIntD, rAddD, rTupleD, DL.rListD, rAllD, itemsD, itemsL, rToInt, isD, DL.isNon, isBl, startD, endsOf, dLc, dSeqT, dSeqL, dZip, dRev, dRng1, dFor, dListEnum, wipeD, gTp, gsCons, gsNil, rKdIx, rKdIn, gob, truD, dPop, dAppend, List.isEmpty_cons, List.isEmpty_nil, cut_to1, cut_from1, cut_init, List.drop_one, List.tail_cons, List.take_succ_cons, List.take_zero, bools_true, all_true, mset_same, mset_mset, List.map_cons, List.map_nil, List.length_cons, List.length_nil, List.replicate, List.cons_append, List.nil_append, List.append_nil, List.getElem?_cons_zero, List.getElem?_cons_succ, List.getElem?_nil, Nat.reduceAdd, Nat.reduceSub, List.set_cons_zero, List.set_cons_succ, decide_true, decide_false, if_true, if_false, Bool.false_eq_true, Bool.true_eq_false, Bool.not_true, Bool.not_false, List.any_cons, List.any_nil, List.all_cons, List.all_nil, Bool.or_false, Bool.or_true, Bool.false_or, Bool.true_or, Bool.and_true, Bool.and_false, Bool.true_and, Bool.false_and, reduceCtorEq, String.reduceEq, beq_self_eq_true, String.reduceBEq, at0, at1, at2, at3, Int.reduceEq, true_and, and_true, sizeLine, Nat.reducePow, Nat.reduceLeDiff, Nat.reduceLT, Int.natCast_add, Int.cast_ofNat_Int, Int.reduceLT, Int.reduceLE]
    exact retD_same q
def sp_moved : RLD := fun ds μ Q => ∃ (l : List Nat) (ws : List Wo), ds = [.tup (ws.map woD), .dcl (keysN l) (idxF 0 l.length)] ∧ (∀ k, .pl k ∈ ws → k ∈ l) ∧ ws.length ≤ 1000 ∧ Q (.tup ((ws.map (mv l)).map woD)) μ
theorem mono_moved : MonoL sp_moved := fun ds μ Q Q' i ⟨l, t, h1, h2, h3, q⟩ => ⟨l, t, h1, h2, h3, i _ _ q⟩
theorem ok_moved (B : NoG mg) {a1 : Addr} {d1 : FuncData} (F : Fun K "_moved" "_moved" s_moved f fd) (Gmoved_worth : Gt P w K mg base 1 "_moved_worth" ["worth", "addresses"] sp_mw a1 d1) : FnOk P w K mg base CX0 2 f fd ["worths", "addresses"] (spUp K sp_moved) := by
  refine okD F sc_moved (fun ds μ Q ⟨l, t, e, _⟩ => by rw [e]; rfl) fun cdv A outer s H E hr => ⟨_, (ds_one (d_ret (d_callTy c_tuple rfl B.tuple rfl (da_cons (d_lc rfl sc_moved.nd (di_tup (d_var 0)) (blk_ok2 (N := ["worths", "addresses", "worth"]) (sc := defScope s_moved) (own := [("worth", 2)]) (by rfl) (by decide +kernel) (by decide +kernel) (by decide +kernel) (by decide +kernel)) (fun _ _ _ _ _ => (dg_name 2 sc_moved.nd)) (fun _ _ _ _ _ => dts_nil) (fun _ _ _ _ _ => (d_call Gmoved_worth.F Gmoved_worth.mono (hr.mono (by first | decide | omega)) Gmoved_worth.m Gmoved_worth.k Gmoved_worth.b (da_cons (d_var 2) (da_cons (d_var 1) da_nil))))) da_nil)))), ?_⟩
  rintro ds μ Q ⟨l, ws, rfl, hx, hl, q⟩
  simp only [dNewD, dDput, putDk, dExtend, dLock, dKeysI, rDin, rDget, dictD, keyD, dTupRg, dIndexF, dOrT, dAndT, dSeqA, dCont, dRet, dRetN, dSeq, dIfS, dDrop, dSet, gNm, dNext, dAndV, dOrV, dNotV, dAnd, dOr, dNot, dIf, dTru, dBool, dOp, dVar, dC, dCa, dCons, dNil, dTup, dLst, dFrz, frzD, dSl, dNo, dPart, slD, dNeg, dChain, rIsD, rEqS, eqS, DL.rInD, inD, eqF_str, flatD_str, flatD_int, rTypeD, tyD, rLenD, lenD, DL.rIxD, rIntD, rAddD, rTupleD, DL.rListD, rAllD, itemsD, itemsL, rToInt, isD, DL.isNon, isBl, startD, endsOf, dLc, dSeqT, dSeqL, dZip, dRev, dRng1, dFor, dListEnum, wipeD, gTp, gsCons, gsNil, rKdIx, rKdIn, gob, truD, dPop, dAppend, List.isEmpty_cons, List.isEmpty_nil, cut_to1, cut_from1, cut_init, List.drop_one, List.tail_cons, List.take_succ_cons, List.take_zero, bools_true, all_true, mset_same, mset_mset, List.map_cons, List.map_nil, List.length_cons, List.length_nil, List.replicate, List.cons_append, List.nil_append, List.append_nil, List.getElem?_cons_zero, List.getElem?_cons_succ, List.getElem?_nil, Nat.reduceAdd, Nat.reduceSub, List.set_cons_zero, List.set_cons_succ, decide_true, decide_false, if_true, if_false, Bool.false_eq_true, Bool.true_eq_false, Bool.not_true, Bool.not_false, List.any_cons, List.any_nil, List.all_cons, List.all_nil, Bool.or_false, Bool.or_true, Bool.false_or, Bool.true_or, Bool.and_true, Bool.and_false, Bool.true_and, Bool.false_and, reduceCtorEq, String.reduceEq, beq_self_eq_true, String.reduceBEq, at0, at1, at2, at3, Int.reduceEq, true_and, and_true, sizeLine, Nat.reducePow, Nat.reduceLeDiff, Nat.reduceLT, Int.natCast_add, Int.cast_ofNat_Int, Int.reduceLT, Int.reduceLE]
  intro p hp
  refine lc_mapA woD (fun x => woD (mv l x)) ws [] _ mset_same (by show 0 + _ ≤ 2 ^ 24; omega) (fun x m acc kk hkk => ?_) ?_
  · rw [mset_mset] at hkk
    try simp only [dNewD, dDput, putDk, dExtend, dLock, dKeysI, rDin, rDget, dictD, keyD, dTupRg, dIndexF, dOrT, dAndT, dSeqA, dCont, dRet, dRetN, dSeq, dIfS, dDrop, dSet, gNm, dNext, dAndV, dOrV, dNotV, dAnd, dOr, dNot, dIf, dTru, dBool, dOp, dVar, dC, dCa, dCons, dNil, dTup, dLst, dFrz, frzD, dSl, dNo, dPart, slD, dNeg, dChain, rIsD, rEqS, eqS, DL.rInD, inD, eqF_str, flatD_str, flatD_int, rTypeD, tyD, rLenD, lenD, DL.rIxD, rIntD, rAddD, rTupleD, DL.rListD, rAllD, itemsD, itemsL, rToInt, isD, DL.isNon, isBl, startD, endsOf, dLc, dSeqT, dSeqL, dZip, dRev, dRng1, dFor, dListEnum, wipeD, gTp, gsCons, gsNil, rKdIx, rKdIn, gob, truD, dPop, dAppend, List.isEmpty_cons, List.isEmpty_nil, cut_to1, cut_from1, cut_init, List.drop_one, List.tail_cons, List.take_succ_cons, List.take_zero, bools_true, all_true, mset_same, mset_mset, List.map_cons, List.map_nil, List.length_cons, List.length_nil, List.replicate, List.cons_append, List.nil_append, List.append_nil, List.getElem?_cons_zero, List.getElem?_cons_succ, List.getElem?_nil, Nat.reduceAdd, Nat.reduceSub, List.set_cons_zero, List.set_cons_succ, decide_true, decide_false, if_true, if_false, Bool.false_eq_true, Bool.true_eq_false, Bool.not_true, Bool.not_false, List.any_cons, List.any_nil, List.all_cons, List.all_nil, Bool.or_false, Bool.or_true, Bool.false_or, Bool.true_or, Bool.and_true, Bool.and_false, Bool.true_and, Bool.false_and, reduceCtorEq, String.reduceEq, beq_self_eq_true, String.reduceBEq, at0, at1, at2, at3, Int.reduceEq, true_and, and_true, sizeLine, Nat.reducePow, Nat.reduceLeDiff, Nat.reduceLT, Int.natCast_add, Int.cast_ofNat_Int, Int.reduceLT, Int.reduceLE]
    exact ⟨l, x, rfl, fun k e => hx k (e ▸ m), hkk⟩
  · try simp only [dNewD, dDput, putDk, dExtend, dLock, dKeysI, rDin, rDget, dictD, keyD, dTupRg, dIndexF, dOrT, dAndT, dSeqA, dCont, dRet, dRetN, dSeq, dIfS, dDrop, dSet, gNm, dNext, dAndV, dOrV, dNotV, dAnd, dOr, dNot, dIf, dTru, dBool, dOp, dVar, dC, dCa, dCons, dNil, dTup, dLst, dFrz, frzD, dSl, dNo, dPart, slD, dNeg, dChain, rIsD, rEqS, eqS, DL.rInD, inD, eqF_str, flatD_str, flatD_int, rTypeD, tyD, rLenD, lenD, DL.rIxD, rIntD, rAddD, rTupleD, DL.rListD, rAllD, itemsD, itemsL, rToInt, isD, DL.isNon, isBl, startD, endsOf, dLc, dSeqT, dSeqL, dZip, dRev, dRng1, dFor, dListEnum, wipeD, gTp, gsCons, gsNil, rKdIx, rKdIn, gob, truD, dPop, dAppend, List.isEmpty_cons, List.isEmpty_nil, cut_to1, cut_from1, cut_init, List.drop_one, List.tail_cons, List.take_succ_cons, List.take_zero, bools_true, all_true, mset_same, mset_mset, List.map_cons, List.map_nil, List.length_cons, List.length_nil, List.replicate, List.cons_append, List.nil_append, List.append_nil, List.getElem?_cons_zero, List.getElem?_cons_succ, List.getElem?_nil, Nat.reduceAdd, Nat.reduceSub, List.set_cons_zero, List.set_cons_succ, decide_true, decide_false, if_true, if_false, Bool.false_eq_true, Bool.true_eq_false, Bool.not_true, Bool.not_false, List.any_cons, List.any_nil, List.all_cons, List.all_nil, Bool.or_false, Bool.or_true, Bool.false_or, Bool.true_or, Bool.and_true, Bool.and_false, Bool.true_and, Bool.false_and, reduceCtorEq, String.reduceEq, beq_self_eq_true, String.reduceBEq, at0, at1, at2, at3, Int.reduceEq, true_and, and_true, sizeLine, Nat.reducePow, Nat.reduceLeDiff, Nat.reduceLT, Int.natCast_add, Int.cast_ofNat_Int, Int.reduceLT, Int.reduceLE]
    rw [List.map_map] at q
    exact ⟨_, sub_mset hp Sub.refl, q⟩
def sp_mt : RLD := fun ds μ Q => ∃ (l : List Nat) (t : Th), ds = [thD t, .dcl (keysN l) (idxF 0 l.length)] ∧ (∀ k, .pl k ∈ t.ws → k ∈ l) ∧ t.ws.length ≤ 1000 ∧ Q (thD (mvT l t)) μ
theorem mono_mt : MonoL sp_mt := fun ds μ Q Q' i ⟨l, t, h1, h2, h3, q⟩ => ⟨l, t, h1, h2, h3, i _ _ q⟩
theorem ok_moved_thing (B : NoG mg) {a1 a2 : Addr} {d1 d2 : FuncData} (F : Fun K "_moved_thing" "_moved_thing" s_moved_thing f fd) (Gmoved_worth : Gt P w K mg base 1 "_moved_worth" ["worth", "addresses"] sp_mw a1 d1) (Gmoved : Gt P w K mg base 2 "_moved" ["worths", "addresses"] sp_moved a2 d2) : FnOk P w K mg base CX0 3 f fd ["thing", "addresses"] (spUp K sp_mt) := by
  refine okD F sc_moved_thing (fun ds μ Q ⟨l, t, e, _⟩ => by rw [e]; rfl) fun cdv A outer s H E hr => ⟨_, (ds_cons (d_ifS (dt_cmp o_eqS (d_ix ix_ok (d_var 0) d_int) (d_str "room" rfl) (nomark _)) (ds_one (d_ret (d_tup (da_cons (d_str "room" rfl) (da_cons (d_call Gmoved.F Gmoved.mono (hr.mono (by first | decide | omega)) Gmoved.m Gmoved.k Gmoved.b (da_cons (d_ix ix_ok (d_var 0) d_int) (da_cons (d_var 1) da_nil))) da_nil))))) ds_nil)
      (ds_one (d_ret (d_op o_add (d_slice (d_var 0) dno (dpart (d_neg d_int))) (d_tup (da_cons (d_call Gmoved_worth.F Gmoved_worth.mono (hr.mono (by first | decide | omega)) Gmoved_worth.m Gmoved_worth.k Gmoved_worth.b (da_cons (d_ix ix_ok (d_var 0) (d_neg d_int)) (da_cons (d_var 1) da_nil))) da_nil)))))), ?_⟩
  rintro ds μ Q ⟨l, t, rfl, hx, hl, q⟩
  cases t with
  | room ws =>
    simp only [thD, mvT] at q ⊢
    simp only [dNewD, dDput, putDk, dExtend, dLock, dKeysI, rDin, rDget, dictD, keyD, dTupRg, dIndexF, dOrT, dAndT, dSeqA, dCont, dRet, dRetN, dSeq, dIfS, dDrop, dSet, gNm, dNext, dAndV, dOrV, dNotV, dAnd, dOr, dNot, dIf, dTru, dBool, dOp, dVar, dC, dCa, dCons, dNil, dTup, dLst, dFrz, frzD, dSl, dNo, dPart, slD, dNeg, dChain, rIsD, rEqS, eqS, DL.rInD, inD, eqF_str, flatD_str, flatD_int, rTypeD, tyD, rLenD, lenD, DL.rIxD, rIntD, rAddD, rTupleD, DL.rListD, rAllD, itemsD, itemsL, rToInt, isD, DL.isNon, isBl, startD, endsOf, dLc, dSeqT, dSeqL, dZip, dRev, dRng1, dFor, dListEnum, wipeD, gTp, gsCons, gsNil, rKdIx, rKdIn, gob, truD, dPop, dAppend, List.isEmpty_cons, List.isEmpty_nil, cut_to1, cut_from1, cut_init, List.drop_one, List.tail_cons, List.take_succ_cons, List.take_zero, bools_true, all_true, mset_same, mset_mset, List.map_cons, List.map_nil, List.length_cons, List.length_nil, List.replicate, List.cons_append, List.nil_append, List.append_nil, List.getElem?_cons_zero, List.getElem?_cons_succ, List.getElem?_nil, Nat.reduceAdd, Nat.reduceSub, List.set_cons_zero, List.set_cons_succ, decide_true, decide_false, if_true, if_false, Bool.false_eq_true, Bool.true_eq_false, Bool.not_true, Bool.not_false, List.any_cons, List.any_nil, List.all_cons, List.all_nil, Bool.or_false, Bool.or_true, Bool.false_or, Bool.true_or, Bool.and_true, Bool.and_false, Bool.true_and, Bool.false_and, reduceCtorEq, String.reduceEq, beq_self_eq_true, String.reduceBEq, at0, at1, at2, at3, Int.reduceEq, true_and, and_true, sizeLine, Nat.reducePow, Nat.reduceLeDiff, Nat.reduceLT, Int.natCast_add, Int.cast_ofNat_Int, Int.reduceLT, Int.reduceLE]
    refine ⟨l, ws, rfl, hx, hl, ?_⟩
    try simp only [dNewD, dDput, putDk, dExtend, dLock, dKeysI, rDin, rDget, dictD, keyD, dTupRg, dIndexF, dOrT, dAndT, dSeqA, dCont, dRet, dRetN, dSeq, dIfS, dDrop, dSet, gNm, dNext, dAndV, dOrV, dNotV, dAnd, dOr, dNot, dIf, dTru, dBool, dOp, dVar, dC, dCa, dCons, dNil, dTup, dLst, dFrz, frzD, dSl, dNo, dPart, slD, dNeg, dChain, rIsD, rEqS, eqS, DL.rInD, inD, eqF_str, flatD_str, flatD_int, rTypeD, tyD, rLenD, lenD, DL.rIxD, rIntD, rAddD, rTupleD, DL.rListD, rAllD, itemsD, itemsL, rToInt, isD, DL.isNon, isBl, startD, endsOf, dLc, dSeqT, dSeqL, dZip, dRev, dRng1, dFor, dListEnum, wipeD, gTp, gsCons, gsNil, rKdIx, rKdIn, gob, truD, dPop, dAppend, List.isEmpty_cons, List.isEmpty_nil, cut_to1, cut_from1, cut_init, List.drop_one, List.tail_cons, List.take_succ_cons, List.take_zero, bools_true, all_true, mset_same, mset_mset, List.map_cons, List.map_nil, List.length_cons, List.length_nil, List.replicate, List.cons_append, List.nil_append, List.append_nil, List.getElem?_cons_zero, List.getElem?_cons_succ, List.getElem?_nil, Nat.reduceAdd, Nat.reduceSub, List.set_cons_zero, List.set_cons_succ, decide_true, decide_false, if_true, if_false, Bool.false_eq_true, Bool.true_eq_false, Bool.not_true, Bool.not_false, List.any_cons, List.any_nil, List.all_cons, List.all_nil, Bool.or_false, Bool.or_true, Bool.false_or, Bool.true_or, Bool.and_true, Bool.and_false, Bool.true_and, Bool.false_and, reduceCtorEq, String.reduceEq, beq_self_eq_true, String.reduceBEq, at0, at1, at2, at3, Int.reduceEq, true_and, and_true, sizeLine, Nat.reducePow, Nat.reduceLeDiff, Nat.reduceLT, Int.natCast_add, Int.cast_ofNat_Int, Int.reduceLT, Int.reduceLE]
    exact retD_same q
  | cell x =>
    simp only [thD, mvT] at q ⊢
    simp only [dNewD, dDput, putDk, dExtend, dLock, dKeysI, rDin, rDget, dictD, keyD, dTupRg, dIndexF, dOrT, dAndT, dSeqA, dCont, dRet, dRetN, dSeq, dIfS, dDrop, dSet, gNm, dNext, dAndV, dOrV, dNotV, dAnd, dOr, dNot, dIf, dTru, dBool, dOp, dVar, dC, dCa, dCons, dNil, dTup, dLst, dFrz, frzD, dSl, dNo, dPart, slD, dNeg, dChain, rIsD, rEqS, eqS, DL.rInD, inD, eqF_str, flatD_str, flatD_int, rTypeD, tyD, rLenD, lenD, DL.rIxD, rIntD, rAddD, rTupleD, DL.rListD, rAllD, itemsD, itemsL, rToInt, isD, DL.isNon, isBl, startD, endsOf, dLc, dSeqT, dSeqL, dZip, dRev, dRng1, dFor, dListEnum, wipeD, gTp, gsCons, gsNil, rKdIx, rKdIn, gob, truD, dPop, dAppend, List.isEmpty_cons, List.isEmpty_nil, cut_to1, cut_from1, cut_init, List.drop_one, List.tail_cons, List.take_succ_cons, List.take_zero, bools_true, all_true, mset_same, mset_mset, List.map_cons, List.map_nil, List.length_cons, List.length_nil, List.replicate, List.cons_append, List.nil_append, List.append_nil, List.getElem?_cons_zero, List.getElem?_cons_succ, List.getElem?_nil, Nat.reduceAdd, Nat.reduceSub, List.set_cons_zero, List.set_cons_succ, decide_true, decide_false, if_true, if_false, Bool.false_eq_true, Bool.true_eq_false, Bool.not_true, Bool.not_false, List.any_cons, List.any_nil, List.all_cons, List.all_nil, Bool.or_false, Bool.or_true, Bool.false_or, Bool.true_or, Bool.and_true, Bool.and_false, Bool.true_and, Bool.false_and, reduceCtorEq, String.reduceEq, beq_self_eq_true, String.reduceBEq, at0, at1, at2, at3, Int.reduceEq, true_and, and_true, sizeLine, Nat.reducePow, Nat.reduceLeDiff, Nat.reduceLT, Int.natCast_add, Int.cast_ofNat_Int, Int.reduceLT, Int.reduceLE]
    simp only [am2, dl2]
    try simp only [dNewD, dDput, putDk, dExtend, dLock, dKeysI, rDin, rDget, dictD, keyD, dTupRg, dIndexF, dOrT, dAndT, dSeqA, dCont, dRet, dRetN, dSeq, dIfS, dDrop, dSet, gNm, dNext, dAndV, dOrV, dNotV, dAnd, dOr, dNot, dIf, dTru, dBool, dOp, dVar, dC, dCa, dCons, dNil, dTup, dLst, dFrz, frzD, dSl, dNo, dPart, slD, dNeg, dChain, rIsD, rEqS, eqS, DL.rInD, inD, eqF_str, flatD_str, flatD_int, rTypeD, tyD, rLenD, lenD, DL.rIxD, rIntD, rAddD, rTupleD, DL.rListD, rAllD, itemsD, itemsL, rToInt, isD, DL.isNon, isBl, startD, endsOf, dLc, dSeqT, dSeqL, dZip, dRev, dRng1, dFor, dListEnum, wipeD, gTp, gsCons, gsNil, rKdIx, rKdIn, gob, truD, dPop, dAppend, List.isEmpty_cons, List.isEmpty_nil, cut_to1, cut_from1, cut_init, List.drop_one, List.tail_cons, List.take_succ_cons, List.take_zero, bools_true, all_true, mset_same, mset_mset, List.map_cons, List.map_nil, List.length_cons, List.length_nil, List.replicate, List.cons_append, List.nil_append, List.append_nil, List.getElem?_cons_zero, List.getElem?_cons_succ, List.getElem?_nil, Nat.reduceAdd, Nat.reduceSub, List.set_cons_zero, List.set_cons_succ, decide_true, decide_false, if_true, if_false, Bool.false_eq_true, Bool.true_eq_false, Bool.not_true, Bool.not_false, List.any_cons, List.any_nil, List.all_cons, List.all_nil, Bool.or_false, Bool.or_true, Bool.false_or, Bool.true_or, Bool.and_true, Bool.and_false, Bool.true_and, Bool.false_and, reduceCtorEq, String.reduceEq, beq_self_eq_true, String.reduceBEq, at0, at1, at2, at3, Int.reduceEq, true_and, and_true, sizeLine, Nat.reducePow, Nat.reduceLeDiff, Nat.reduceLT, Int.natCast_add, Int.cast_ofNat_Int, Int.reduceLT, Int.reduceLE]
    refine ⟨l, x, rfl, fun k e => hx k (by rw [e]; exact List.mem_cons_self), ?_⟩
    try simp only [dNewD, dDput, putDk, dExtend, dLock, dKeysI, rDin, rDget, dictD, keyD, dTupRg, dIndexF, dOrT, dAndT, dSeqA, dCont, dRet, dRetN, dSeq, dIfS, dDrop, dSet, gNm, dNext, dAndV, dOrV, dNotV, dAnd, dOr, dNot, dIf, dTru, dBool, dOp, dVar, dC, dCa, dCons, dNil, dTup, dLst, dFrz, frzD, dSl, dNo, dPart, slD, dNeg, dChain, rIsD, rEqS, eqS, DL.rInD, inD, eqF_str, flatD_str, flatD_int, rTypeD, tyD, rLenD, lenD, DL.rIxD, rIntD, rAddD, rTupleD, DL.rListD, rAllD, itemsD, itemsL, rToInt, isD, DL.isNon, isBl, startD, endsOf, dLc, dSeqT, dSeqL, dZip, dRev, dRng1, dFor, dListEnum, wipeD, gTp, gsCons, gsNil, rKdIx, rKdIn, gob, truD, dPop, dAppend, List.isEmpty_cons, List.isEmpty_nil, cut_to1, cut_from1, cut_init, List.drop_one, List.tail_cons, List.take_succ_cons, List.take_zero, bools_true, all_true, mset_same, mset_mset, List.map_cons, List.map_nil, List.length_cons, List.length_nil, List.replicate, List.cons_append, List.nil_append, List.append_nil, List.getElem?_cons_zero, List.getElem?_cons_succ, List.getElem?_nil, Nat.reduceAdd, Nat.reduceSub, List.set_cons_zero, List.set_cons_succ, decide_true, decide_false, if_true, if_false, Bool.false_eq_true, Bool.true_eq_false, Bool.not_true, Bool.not_false, List.any_cons, List.any_nil, List.all_cons, List.all_nil, Bool.or_false, Bool.or_true, Bool.false_or, Bool.true_or, Bool.and_true, Bool.and_false, Bool.true_and, Bool.false_and, reduceCtorEq, String.reduceEq, beq_self_eq_true, String.reduceBEq, at0, at1, at2, at3, Int.reduceEq, true_and, and_true, sizeLine, Nat.reducePow, Nat.reduceLeDiff, Nat.reduceLT, Int.natCast_add, Int.cast_ofNat_Int, Int.reduceLT, Int.reduceLE]
    exact retD_same q
  | tag i x =>
    simp only [thD, mvT] at q ⊢
    simp only [dNewD, dDput, putDk, dExtend, dLock, dKeysI, rDin, rDget, dictD, keyD, dTupRg, dIndexF, dOrT, dAndT, dSeqA, dCont, dRet, dRetN, dSeq, dIfS, dDrop, dSet, gNm, dNext, dAndV, dOrV, dNotV, dAnd, dOr, dNot, dIf, dTru, dBool, dOp, dVar, dC, dCa, dCons, dNil, dTup, dLst, dFrz, frzD, dSl, dNo, dPart, slD, dNeg, dChain, rIsD, rEqS, eqS, DL.rInD, inD, eqF_str, flatD_str, flatD_int, rTypeD, tyD, rLenD, lenD, DL.rIxD, rIntD, rAddD, rTupleD, DL.rListD, rAllD, itemsD, itemsL, rToInt, isD, DL.isNon, isBl, startD, endsOf, dLc, dSeqT, dSeqL, dZip, dRev, dRng1, dFor, dListEnum, wipeD, gTp, gsCons, gsNil, rKdIx, rKdIn, gob, truD, dPop, dAppend, List.isEmpty_cons, List.isEmpty_nil, cut_to1, cut_from1, cut_init, List.drop_one, List.tail_cons, List.take_succ_cons, List.take_zero, bools_true, all_true, mset_same, mset_mset, List.map_cons, List.map_nil, List.length_cons, List.length_nil, List.replicate, List.cons_append, List.nil_append, List.append_nil, List.getElem?_cons_zero, List.getElem?_cons_succ, List.getElem?_nil, Nat.reduceAdd, Nat.reduceSub, List.set_cons_zero, List.set_cons_succ, decide_true, decide_false, if_true, if_false, Bool.false_eq_true, Bool.true_eq_false, Bool.not_true, Bool.not_false, List.any_cons, List.any_nil, List.all_cons, List.all_nil, Bool.or_false, Bool.or_true, Bool.false_or, Bool.true_or, Bool.and_true, Bool.and_false, Bool.true_and, Bool.false_and, reduceCtorEq, String.reduceEq, beq_self_eq_true, String.reduceBEq, at0, at1, at2, at3, Int.reduceEq, true_and, and_true, sizeLine, Nat.reducePow, Nat.reduceLeDiff, Nat.reduceLT, Int.natCast_add, Int.cast_ofNat_Int, Int.reduceLT, Int.reduceLE]
    simp only [am3, dl3]
    try simp only [dNewD, dDput, putDk, dExtend, dLock, dKeysI, rDin, rDget, dictD, keyD, dTupRg, dIndexF, dOrT, dAndT, dSeqA, dCont, dRet, dRetN, dSeq, dIfS, dDrop, dSet, gNm, dNext, dAndV, dOrV, dNotV, dAnd, dOr, dNot, dIf, dTru, dBool, dOp, dVar, dC, dCa, dCons, dNil, dTup, dLst, dFrz, frzD, dSl, dNo, dPart, slD, dNeg, dChain, rIsD, rEqS, eqS, DL.rInD, inD, eqF_str, flatD_str, flatD_int, rTypeD, tyD, rLenD, lenD, DL.rIxD, rIntD, rAddD, rTupleD, DL.rListD, rAllD, itemsD, itemsL, rToInt, isD, DL.isNon, isBl, startD, endsOf, dLc, dSeqT, dSeqL, dZip, dRev, dRng1, dFor, dListEnum, wipeD, gTp, gsCons, gsNil, rKdIx, rKdIn, gob, truD, dPop, dAppend, List.isEmpty_cons, List.isEmpty_nil, cut_to1, cut_from1, cut_init, List.drop_one, List.tail_cons, List.take_succ_cons, List.take_zero, bools_true, all_true, mset_same, mset_mset, List.map_cons, List.map_nil, List.length_cons, List.length_nil, List.replicate, List.cons_append, List.nil_append, List.append_nil, List.getElem?_cons_zero, List.getElem?_cons_succ, List.getElem?_nil, Nat.reduceAdd, Nat.reduceSub, List.set_cons_zero, List.set_cons_succ, decide_true, decide_false, if_true, if_false, Bool.false_eq_true, Bool.true_eq_false, Bool.not_true, Bool.not_false, List.any_cons, List.any_nil, List.all_cons, List.all_nil, Bool.or_false, Bool.or_true, Bool.false_or, Bool.true_or, Bool.and_true, Bool.and_false, Bool.true_and, Bool.false_and, reduceCtorEq, String.reduceEq, beq_self_eq_true, String.reduceBEq, at0, at1, at2, at3, Int.reduceEq, true_and, and_true, sizeLine, Nat.reducePow, Nat.reduceLeDiff, Nat.reduceLT, Int.natCast_add, Int.cast_ofNat_Int, Int.reduceLT, Int.reduceLE]
    refine ⟨l, x, rfl, fun k e => hx k (by rw [e]; exact List.mem_cons_self), ?_⟩
    try simp only [dNewD, dDput, putDk, dExtend, dLock, dKeysI, rDin, rDget, dictD, keyD, dTupRg, dIndexF, dOrT, dAndT, dSeqA, dCont, dRet, dRetN, dSeq, dIfS, dDrop, dSet, gNm, dNext, dAndV, dOrV, dNotV, dAnd, dOr, dNot, dIf, dTru, dBool, dOp, dVar, dC, dCa, dCons, dNil, dTup, dLst, dFrz, frzD, dSl, dNo, dPart, slD, dNeg, dChain, rIsD, rEqS, eqS, DL.rInD, inD, eqF_str, flatD_str, flatD_int, rTypeD, tyD, rLenD, lenD, DL.rIxD, rIntD, rAddD, rTupleD, DL.rListD, rAllD, itemsD, itemsL, rToInt, isD, DL.isNon, isBl, startD, endsOf, dLc, dSeqT, dSeqL, dZip, dRev, dRng1, dFor, dListEnum, wipeD, gTp, gsCons, gsNil, rKdIx, rKdIn, gob, truD, dPop, dAppend, List.isEmpty_cons, List.isEmpty_nil, cut_to1, cut_from1, cut_init, List.drop_one, List.tail_cons, List.take_succ_cons, List.take_zero, bools_true, all_true, mset_same, mset_mset, List.map_cons, List.map_nil, List.length_cons, List.length_nil, List.replicate, List.cons_append, List.nil_append, List.append_nil, List.getElem?_cons_zero, List.getElem?_cons_succ, List.getElem?_nil, Nat.reduceAdd, Nat.reduceSub, List.set_cons_zero, List.set_cons_succ, decide_true, decide_false, if_true, if_false, Bool.false_eq_true, Bool.true_eq_false, Bool.not_true, Bool.not_false, List.any_cons, List.any_nil, List.all_cons, List.all_nil, Bool.or_false, Bool.or_true, Bool.false_or, Bool.true_or, Bool.and_true, Bool.and_false, Bool.true_and, Bool.false_and, reduceCtorEq, String.reduceEq, beq_self_eq_true, String.reduceBEq, at0, at1, at2, at3, Int.reduceEq, true_and, and_true, sizeLine, Nat.reducePow, Nat.reduceLeDiff, Nat.reduceLT, Int.natCast_add, Int.cast_ofNat_Int, Int.reduceLT, Int.reduceLE]
    exact retD_same q
def sp_gone : RLD := fun ds μ Q => ∃ s : Sta, ds = [stD s] ∧ Right s ∧ Q (stD (gn s)) μ
theorem mono_gone : MonoL sp_gone := fun ds μ Q Q' i ⟨t, h1, h2, q⟩ => ⟨t, h1, h2, i _ _ q⟩
theorem ok_gone (B : NoG mg) (N_sorted : mg "sorted" = none) {a1 a2 a3 : Addr} {d1 d2 d3 : FuncData} (F : Fun K "gone" "gone" s_gone f fd) (Gmarked : Gt P w K mg base 2 "_marked" ["registers", "things"] sp_marked a1 d1) (Gmoved : Gt P w K mg base 2 "_moved" ["worths", "addresses"] sp_moved a2 d2) (Gmoved_thing : Gt P w K mg base 3 "_moved_thing" ["thing", "addresses"] sp_mt a3 d3) : FnOk P w K mg base CX0 4 f fd ["state"] (spUp K sp_gone) := by
  refine okD F sc_gone (fun ds μ Q ⟨t, e, _⟩ => by rw [e]; rfl) fun cdv A outer s H E hr => ⟨_, (ds_cons (d_asg (d_var 0) (dg_tup (n := 4) rfl (dgs_cons (dg_name 1 (ws := [1, 2, 3, 4]) sc_gone.nd) (dgs_cons (dg_name 2 (ws := [1, 2, 3, 4]) sc_gone.nd) (dgs_cons (dg_name 3 (ws := [1, 2, 3, 4]) sc_gone.nd) (dgs_cons (dg_name 4 (ws := [1, 2, 3, 4]) sc_gone.nd) dgs_nil))))))
      (ds_cons (d_set 5 sc_gone.nd (d_lock (d_dc rfl sc_gone.nd (di_enumL rfl B.enumerate (da_cons (d_frz (d_callB (c_sortD rfl) rfl N_sorted rfl (da_cons (d_call Gmarked.F Gmarked.mono (hr.mono (by first | decide | omega)) Gmarked.m Gmarked.k Gmarked.b (da_cons (d_var 1) (da_cons (d_var 2) da_nil))) da_nil))) da_nil)) (blk_ok2 (N := ["state", "registers", "things", "block", "row", "addresses", "left", "new", "old"]) (sc := defScope s_gone) (own := [("new", 7), ("old", 8)]) (by rfl) (by decide +kernel) (by decide +kernel) (by decide +kernel) (by decide +kernel)) (fun _ _ _ _ _ => (dg_tup (n := 2) rfl (dgs_cons (dg_name 7 sc_gone.nd) (dgs_cons (dg_name 8 sc_gone.nd) dgs_nil)))) (fun _ _ _ _ _ => dts_nil) (fun _ _ _ _ _ => (d_var 8)) (fun _ _ _ _ _ => (d_var 7)))))
      (ds_cons (d_set 6 sc_gone.nd (d_callTy c_tuple rfl B.tuple rfl (da_cons (d_lc rfl sc_gone.nd (di_keysI (d_var 5)) (blk_ok2 (N := ["state", "registers", "things", "block", "row", "addresses", "left", "new", "old"]) (sc := defScope s_gone) (own := [("old", 8)]) (by rfl) (by decide +kernel) (by decide +kernel) (by decide +kernel) (by decide +kernel)) (fun _ _ _ _ _ => (dg_name 8 sc_gone.nd)) (fun _ _ _ _ _ => dts_nil) (fun _ _ _ _ _ => (d_call Gmoved_thing.F Gmoved_thing.mono (hr.mono (by first | decide | omega)) Gmoved_thing.m Gmoved_thing.k Gmoved_thing.b (da_cons (d_ix ix_ok (d_var 2) (d_var 8)) (da_cons (d_var 5) da_nil))))) da_nil)))
      (ds_one (d_ret (d_tup (da_cons (d_call Gmoved.F Gmoved.mono (hr.mono (by first | decide | omega)) Gmoved.m Gmoved.k Gmoved.b (da_cons (d_var 1) (da_cons (d_var 5) da_nil))) (da_cons (d_var 6) (da_cons (d_var 3) (da_cons (d_var 4) da_nil)))))))))), ?_⟩
  rintro ds μ Q ⟨s, rfl, R, q⟩
  have sm := R.small
  have lr := rcl_len s
  simp only [stD]
  simp only [dNewD, dDput, putDk, dExtend, dLock, dKeysI, rDin, rDget, dictD, keyD, dTupRg, dIndexF, dOrT, dAndT, dSeqA, dCont, dRet, dRetN, dSeq, dIfS, dDrop, dSet, gNm, dNext, dAndV, dOrV, dNotV, dAnd, dOr, dNot, dIf, dTru, dBool, dOp, dVar, dC, dCa, dCons, dNil, dTup, dLst, dFrz, frzD, dSl, dNo, dPart, slD, dNeg, dChain, rIsD, rEqS, eqS, DL.rInD, inD, eqF_str, flatD_str, flatD_int, rTypeD, tyD, rLenD, lenD, DL.rIxD, rIntD, rAddD, rTupleD, DL.rListD, rAllD, itemsD, itemsL, rToInt, isD, DL.isNon, isBl, startD, endsOf, dLc, dSeqT, dSeqL, dZip, dRev, dRng1, dFor, dListEnum, wipeD, gTp, gsCons, gsNil, rKdIx, rKdIn, gob, truD, dPop, dAppend, List.isEmpty_cons, List.isEmpty_nil, cut_to1, cut_from1, cut_init, List.drop_one, List.tail_cons, List.take_succ_cons, List.take_zero, bools_true, all_true, mset_same, mset_mset, List.map_cons, List.map_nil, List.length_cons, List.length_nil, List.replicate, List.cons_append, List.nil_append, List.append_nil, List.getElem?_cons_zero, List.getElem?_cons_succ, List.getElem?_nil, Nat.reduceAdd, Nat.reduceSub, List.set_cons_zero, List.set_cons_succ, decide_true, decide_false, if_true, if_false, Bool.false_eq_true, Bool.true_eq_false, Bool.not_true, Bool.not_false, List.any_cons, List.any_nil, List.all_cons, List.all_nil, Bool.or_false, Bool.or_true, Bool.false_or, Bool.true_or, Bool.and_true, Bool.and_false, Bool.true_and, Bool.false_and, reduceCtorEq, String.reduceEq, beq_self_eq_true, String.reduceBEq, at0, at1, at2, at3, Int.reduceEq, true_and, and_true, sizeLine, Nat.reducePow, Nat.reduceLeDiff, Nat.reduceLT, Int.natCast_add, Int.cast_ofNat_Int, Int.reduceLT, Int.reduceLE]
  unfold dDc
  simp only [dNewD, dDput, putDk, dExtend, dLock, dKeysI, rDin, rDget, dictD, keyD, dTupRg, dIndexF, dOrT, dAndT, dSeqA, dCont, dRet, dRetN, dSeq, dIfS, dDrop, dSet, gNm, dNext, dAndV, dOrV, dNotV, dAnd, dOr, dNot, dIf, dTru, dBool, dOp, dVar, dC, dCa, dCons, dNil, dTup, dLst, dFrz, frzD, dSl, dNo, dPart, slD, dNeg, dChain, rIsD, rEqS, eqS, DL.rInD, inD, eqF_str, flatD_str, flatD_int, rTypeD, tyD, rLenD, lenD, DL.rIxD, rIntD, rAddD, rTupleD, DL.rListD, rAllD, itemsD, itemsL, rToInt, isD, DL.isNon, isBl, startD, endsOf, dLc, dSeqT, dSeqL, dZip, dRev, dRng1, dFor, dListEnum, wipeD, gTp, gsCons, gsNil, rKdIx, rKdIn, gob, truD, dPop, dAppend, List.isEmpty_cons, List.isEmpty_nil, cut_to1, cut_from1, cut_init, List.drop_one, List.tail_cons, List.take_succ_cons, List.take_zero, bools_true, all_true, mset_same, mset_mset, List.map_cons, List.map_nil, List.length_cons, List.length_nil, List.replicate, List.cons_append, List.nil_append, List.append_nil, List.getElem?_cons_zero, List.getElem?_cons_succ, List.getElem?_nil, Nat.reduceAdd, Nat.reduceSub, List.set_cons_zero, List.set_cons_succ, decide_true, decide_false, if_true, if_false, Bool.false_eq_true, Bool.true_eq_false, Bool.not_true, Bool.not_false, List.any_cons, List.any_nil, List.all_cons, List.all_nil, Bool.or_false, Bool.or_true, Bool.false_or, Bool.true_or, Bool.and_true, Bool.and_false, Bool.true_and, Bool.false_and, reduceCtorEq, String.reduceEq, beq_self_eq_true, String.reduceBEq, at0, at1, at2, at3, Int.reduceEq, true_and, and_true, sizeLine, Nat.reducePow, Nat.reduceLeDiff, Nat.reduceLT, Int.natCast_add, Int.cast_ofNat_Int, Int.reduceLT, Int.reduceLE]
  refine ⟨s, rfl, R, fun p fk hp nd hm hl => ?_⟩
  try simp only [dNewD, dDput, putDk, dExtend, dLock, dKeysI, rDin, rDget, dictD, keyD, dTupRg, dIndexF, dOrT, dAndT, dSeqA, dCont, dRet, dRetN, dSeq, dIfS, dDrop, dSet, gNm, dNext, dAndV, dOrV, dNotV, dAnd, dOr, dNot, dIf, dTru, dBool, dOp, dVar, dC, dCa, dCons, dNil, dTup, dLst, dFrz, frzD, dSl, dNo, dPart, slD, dNeg, dChain, rIsD, rEqS, eqS, DL.rInD, inD, eqF_str, flatD_str, flatD_int, rTypeD, tyD, rLenD, lenD, DL.rIxD, rIntD, rAddD, rTupleD, DL.rListD, rAllD, itemsD, itemsL, rToInt, isD, DL.isNon, isBl, startD, endsOf, dLc, dSeqT, dSeqL, dZip, dRev, dRng1, dFor, dListEnum, wipeD, gTp, gsCons, gsNil, rKdIx, rKdIn, gob, truD, dPop, dAppend, List.isEmpty_cons, List.isEmpty_nil, cut_to1, cut_from1, cut_init, List.drop_one, List.tail_cons, List.take_succ_cons, List.take_zero, bools_true, all_true, mset_same, mset_mset, List.map_cons, List.map_nil, List.length_cons, List.length_nil, List.replicate, List.cons_append, List.nil_append, List.append_nil, List.getElem?_cons_zero, List.getElem?_cons_succ, List.getElem?_nil, Nat.reduceAdd, Nat.reduceSub, List.set_cons_zero, List.set_cons_succ, decide_true, decide_false, if_true, if_false, Bool.false_eq_true, Bool.true_eq_false, Bool.not_true, Bool.not_false, List.any_cons, List.any_nil, List.all_cons, List.all_nil, Bool.or_false, Bool.or_true, Bool.false_or, Bool.true_or, Bool.and_true, Bool.and_false, Bool.true_and, Bool.false_and, reduceCtorEq, String.reduceEq, beq_self_eq_true, String.reduceBEq, at0, at1, at2, at3, Int.reduceEq, true_and, and_true, sizeLine, Nat.reducePow, Nat.reduceLeDiff, Nat.reduceLT, Int.natCast_add, Int.cast_ofNat_Int, Int.reduceLT, Int.reduceLE]
  have es := sort_dct (μ := mset μ p (dctM fk)) mset_same
  unfold rSortD
  simp only [es]
  intro ns p2 h1 h2 hp2
  rw [srt_eq R nd hm h1 h2]
  try simp only [dNewD, dDput, putDk, dExtend, dLock, dKeysI, rDin, rDget, dictD, keyD, dTupRg, dIndexF, dOrT, dAndT, dSeqA, dCont, dRet, dRetN, dSeq, dIfS, dDrop, dSet, gNm, dNext, dAndV, dOrV, dNotV, dAnd, dOr, dNot, dIf, dTru, dBool, dOp, dVar, dC, dCa, dCons, dNil, dTup, dLst, dFrz, frzD, dSl, dNo, dPart, slD, dNeg, dChain, rIsD, rEqS, eqS, DL.rInD, inD, eqF_str, flatD_str, flatD_int, rTypeD, tyD, rLenD, lenD, DL.rIxD, rIntD, rAddD, rTupleD, DL.rListD, rAllD, itemsD, itemsL, rToInt, isD, DL.isNon, isBl, startD, endsOf, dLc, dSeqT, dSeqL, dZip, dRev, dRng1, dFor, dListEnum, wipeD, gTp, gsCons, gsNil, rKdIx, rKdIn, gob, truD, dPop, dAppend, List.isEmpty_cons, List.isEmpty_nil, cut_to1, cut_from1, cut_init, List.drop_one, List.tail_cons, List.take_succ_cons, List.take_zero, bools_true, all_true, mset_same, mset_mset, List.map_cons, List.map_nil, List.length_cons, List.length_nil, List.replicate, List.cons_append, List.nil_append, List.append_nil, List.getElem?_cons_zero, List.getElem?_cons_succ, List.getElem?_nil, Nat.reduceAdd, Nat.reduceSub, List.set_cons_zero, List.set_cons_succ, decide_true, decide_false, if_true, if_false, Bool.false_eq_true, Bool.true_eq_false, Bool.not_true, Bool.not_false, List.any_cons, List.any_nil, List.all_cons, List.all_nil, Bool.or_false, Bool.or_true, Bool.false_or, Bool.true_or, Bool.and_true, Bool.and_false, Bool.true_and, Bool.false_and, reduceCtorEq, String.reduceEq, beq_self_eq_true, String.reduceBEq, at0, at1, at2, at3, Int.reduceEq, true_and, and_true, sizeLine, Nat.reducePow, Nat.reduceLeDiff, Nat.reduceLT, Int.natCast_add, Int.cast_ofNat_Int, Int.reduceLT, Int.reduceLE]
  rw [mdel_mset hp2]
  intro p3 hp3
  rw [enum_ni]
  have nd2 := rcl_nodup s
  refine dc_enum (rcl s) [] _ mset_same (by simpa using nd2) (by show 0 + _ ≤ 1000; omega) (fun i n μ' k hk => ?_) ?_
  · simp only [dNewD, dDput, putDk, dExtend, dLock, dKeysI, rDin, rDget, dictD, keyD, dTupRg, dIndexF, dOrT, dAndT, dSeqA, dCont, dRet, dRetN, dSeq, dIfS, dDrop, dSet, gNm, dNext, dAndV, dOrV, dNotV, dAnd, dOr, dNot, dIf, dTru, dBool, dOp, dVar, dC, dCa, dCons, dNil, dTup, dLst, dFrz, frzD, dSl, dNo, dPart, slD, dNeg, dChain, rIsD, rEqS, eqS, DL.rInD, inD, eqF_str, flatD_str, flatD_int, rTypeD, tyD, rLenD, lenD, DL.rIxD, rIntD, rAddD, rTupleD, DL.rListD, rAllD, itemsD, itemsL, rToInt, isD, DL.isNon, isBl, startD, endsOf, dLc, dSeqT, dSeqL, dZip, dRev, dRng1, dFor, dListEnum, wipeD, gTp, gsCons, gsNil, rKdIx, rKdIn, gob, truD, dPop, dAppend, List.isEmpty_cons, List.isEmpty_nil, cut_to1, cut_from1, cut_init, List.drop_one, List.tail_cons, List.take_succ_cons, List.take_zero, bools_true, all_true, mset_same, mset_mset, List.map_cons, List.map_nil, List.length_cons, List.length_nil, List.replicate, List.cons_append, List.nil_append, List.append_nil, List.getElem?_cons_zero, List.getElem?_cons_succ, List.getElem?_nil, Nat.reduceAdd, Nat.reduceSub, List.set_cons_zero, List.set_cons_succ, decide_true, decide_false, if_true, if_false, Bool.false_eq_true, Bool.true_eq_false, Bool.not_true, Bool.not_false, List.any_cons, List.any_nil, List.all_cons, List.all_nil, Bool.or_false, Bool.or_true, Bool.false_or, Bool.true_or, Bool.and_true, Bool.and_false, Bool.true_and, Bool.false_and, reduceCtorEq, String.reduceEq, beq_self_eq_true, String.reduceBEq, at0, at1, at2, at3, Int.reduceEq, true_and, and_true, sizeLine, Nat.reducePow, Nat.reduceLeDiff, Nat.reduceLT, Int.natCast_add, Int.cast_ofNat_Int, Int.reduceLT, Int.reduceLE]
    exact hk
  · rw [mset_mset]
    try simp only [dNewD, dDput, putDk, dExtend, dLock, dKeysI, rDin, rDget, dictD, keyD, dTupRg, dIndexF, dOrT, dAndT, dSeqA, dCont, dRet, dRetN, dSeq, dIfS, dDrop, dSet, gNm, dNext, dAndV, dOrV, dNotV, dAnd, dOr, dNot, dIf, dTru, dBool, dOp, dVar, dC, dCa, dCons, dNil, dTup, dLst, dFrz, frzD, dSl, dNo, dPart, slD, dNeg, dChain, rIsD, rEqS, eqS, DL.rInD, inD, eqF_str, flatD_str, flatD_int, rTypeD, tyD, rLenD, lenD, DL.rIxD, rIntD, rAddD, rTupleD, DL.rListD, rAllD, itemsD, itemsL, rToInt, isD, DL.isNon, isBl, startD, endsOf, dLc, dSeqT, dSeqL, dZip, dRev, dRng1, dFor, dListEnum, wipeD, gTp, gsCons, gsNil, rKdIx, rKdIn, gob, truD, dPop, dAppend, List.isEmpty_cons, List.isEmpty_nil, cut_to1, cut_from1, cut_init, List.drop_one, List.tail_cons, List.take_succ_cons, List.take_zero, bools_true, all_true, mset_same, mset_mset, List.map_cons, List.map_nil, List.length_cons, List.length_nil, List.replicate, List.cons_append, List.nil_append, List.append_nil, List.getElem?_cons_zero, List.getElem?_cons_succ, List.getElem?_nil, Nat.reduceAdd, Nat.reduceSub, List.set_cons_zero, List.set_cons_succ, decide_true, decide_false, if_true, if_false, Bool.false_eq_true, Bool.true_eq_false, Bool.not_true, Bool.not_false, List.any_cons, List.any_nil, List.all_cons, List.all_nil, Bool.or_false, Bool.or_true, Bool.false_or, Bool.true_or, Bool.and_true, Bool.and_false, Bool.true_and, Bool.false_and, reduceCtorEq, String.reduceEq, beq_self_eq_true, String.reduceBEq, at0, at1, at2, at3, Int.reduceEq, true_and, and_true, sizeLine, Nat.reducePow, Nat.reduceLeDiff, Nat.reduceLT, Int.natCast_add, Int.cast_ofNat_Int, Int.reduceLT, Int.reduceLE]
    have ek : keyI (keysN (rcl s)) = some (ni (rcl s)) := by
      have e3 : keysN (rcl s) = (ni (rcl s)).map Sum.inl := by rw [List.map_map]; rfl
      rw [e3]
      exact keyI_ints _
    simp only [ek]
    rw [mdel_mset hp3]
    intro p4 hp4
    rw [List.map_map]
    refine lc_mapA (D.int ∘ fun (k : Nat) => ((k : Nat) : Int)) (fun k => thD (mvT (rcl s) (thAt s k))) (rcl s) [] _ mset_same (by show 0 + _ ≤ 2 ^ 24; omega) (fun k m acc kk hkk => ?_) ?_
    · rw [mset_mset] at hkk
      simp only [Function.comp]
      have rk := (rcl_mem R).mp m
      have lk := rk.lt R
      have et : atI (s.ths.map thD) ((k : Nat) : Int) = some (thD (thAt s k)) := atI_nat (by rw [List.getElem?_map, thAt_get lk]; rfl)
      simp only [dNewD, dDput, putDk, dExtend, dLock, dKeysI, rDin, rDget, dictD, keyD, dTupRg, dIndexF, dOrT, dAndT, dSeqA, dCont, dRet, dRetN, dSeq, dIfS, dDrop, dSet, gNm, dNext, dAndV, dOrV, dNotV, dAnd, dOr, dNot, dIf, dTru, dBool, dOp, dVar, dC, dCa, dCons, dNil, dTup, dLst, dFrz, frzD, dSl, dNo, dPart, slD, dNeg, dChain, rIsD, rEqS, eqS, DL.rInD, inD, eqF_str, flatD_str, flatD_int, rTypeD, tyD, rLenD, lenD, DL.rIxD, rIntD, rAddD, rTupleD, DL.rListD, rAllD, itemsD, itemsL, rToInt, isD, DL.isNon, isBl, startD, endsOf, dLc, dSeqT, dSeqL, dZip, dRev, dRng1, dFor, dListEnum, wipeD, gTp, gsCons, gsNil, rKdIx, rKdIn, gob, truD, dPop, dAppend, List.isEmpty_cons, List.isEmpty_nil, cut_to1, cut_from1, cut_init, List.drop_one, List.tail_cons, List.take_succ_cons, List.take_zero, bools_true, all_true, mset_same, mset_mset, List.map_cons, List.map_nil, List.length_cons, List.length_nil, List.replicate, List.cons_append, List.nil_append, List.append_nil, List.getElem?_cons_zero, List.getElem?_cons_succ, List.getElem?_nil, Nat.reduceAdd, Nat.reduceSub, List.set_cons_zero, List.set_cons_succ, decide_true, decide_false, if_true, if_false, Bool.false_eq_true, Bool.true_eq_false, Bool.not_true, Bool.not_false, List.any_cons, List.any_nil, List.all_cons, List.all_nil, Bool.or_false, Bool.or_true, Bool.false_or, Bool.true_or, Bool.and_true, Bool.and_false, Bool.true_and, Bool.false_and, reduceCtorEq, String.reduceEq, beq_self_eq_true, String.reduceBEq, at0, at1, at2, at3, Int.reduceEq, true_and, and_true, sizeLine, Nat.reducePow, Nat.reduceLeDiff, Nat.reduceLT, Int.natCast_add, Int.cast_ofNat_Int, Int.reduceLT, Int.reduceLE]
      simp only [et]
      try simp only [dNewD, dDput, putDk, dExtend, dLock, dKeysI, rDin, rDget, dictD, keyD, dTupRg, dIndexF, dOrT, dAndT, dSeqA, dCont, dRet, dRetN, dSeq, dIfS, dDrop, dSet, gNm, dNext, dAndV, dOrV, dNotV, dAnd, dOr, dNot, dIf, dTru, dBool, dOp, dVar, dC, dCa, dCons, dNil, dTup, dLst, dFrz, frzD, dSl, dNo, dPart, slD, dNeg, dChain, rIsD, rEqS, eqS, DL.rInD, inD, eqF_str, flatD_str, flatD_int, rTypeD, tyD, rLenD, lenD, DL.rIxD, rIntD, rAddD, rTupleD, DL.rListD, rAllD, itemsD, itemsL, rToInt, isD, DL.isNon, isBl, startD, endsOf, dLc, dSeqT, dSeqL, dZip, dRev, dRng1, dFor, dListEnum, wipeD, gTp, gsCons, gsNil, rKdIx, rKdIn, gob, truD, dPop, dAppend, List.isEmpty_cons, List.isEmpty_nil, cut_to1, cut_from1, cut_init, List.drop_one, List.tail_cons, List.take_succ_cons, List.take_zero, bools_true, all_true, mset_same, mset_mset, List.map_cons, List.map_nil, List.length_cons, List.length_nil, List.replicate, List.cons_append, List.nil_append, List.append_nil, List.getElem?_cons_zero, List.getElem?_cons_succ, List.getElem?_nil, Nat.reduceAdd, Nat.reduceSub, List.set_cons_zero, List.set_cons_succ, decide_true, decide_false, if_true, if_false, Bool.false_eq_true, Bool.true_eq_false, Bool.not_true, Bool.not_false, List.any_cons, List.any_nil, List.all_cons, List.all_nil, Bool.or_false, Bool.or_true, Bool.false_or, Bool.true_or, Bool.and_true, Bool.and_false, Bool.true_and, Bool.false_and, reduceCtorEq, String.reduceEq, beq_self_eq_true, String.reduceBEq, at0, at1, at2, at3, Int.reduceEq, true_and, and_true, sizeLine, Nat.reducePow, Nat.reduceLeDiff, Nat.reduceLT, Int.natCast_add, Int.cast_ofNat_Int, Int.reduceLT, Int.reduceLE]
      have rm := R.rooms _ (List.mem_of_getElem? (thAt_get lk))
      exact ⟨rcl s, thAt s k, rfl, fun j mj => (rcl_mem R).mpr (.step k j _ rk (thAt_get lk) mj), by omega, hkk⟩
    · try simp only [dNewD, dDput, putDk, dExtend, dLock, dKeysI, rDin, rDget, dictD, keyD, dTupRg, dIndexF, dOrT, dAndT, dSeqA, dCont, dRet, dRetN, dSeq, dIfS, dDrop, dSet, gNm, dNext, dAndV, dOrV, dNotV, dAnd, dOr, dNot, dIf, dTru, dBool, dOp, dVar, dC, dCa, dCons, dNil, dTup, dLst, dFrz, frzD, dSl, dNo, dPart, slD, dNeg, dChain, rIsD, rEqS, eqS, DL.rInD, inD, eqF_str, flatD_str, flatD_int, rTypeD, tyD, rLenD, lenD, DL.rIxD, rIntD, rAddD, rTupleD, DL.rListD, rAllD, itemsD, itemsL, rToInt, isD, DL.isNon, isBl, startD, endsOf, dLc, dSeqT, dSeqL, dZip, dRev, dRng1, dFor, dListEnum, wipeD, gTp, gsCons, gsNil, rKdIx, rKdIn, gob, truD, dPop, dAppend, List.isEmpty_cons, List.isEmpty_nil, cut_to1, cut_from1, cut_init, List.drop_one, List.tail_cons, List.take_succ_cons, List.take_zero, bools_true, all_true, mset_same, mset_mset, List.map_cons, List.map_nil, List.length_cons, List.length_nil, List.replicate, List.cons_append, List.nil_append, List.append_nil, List.getElem?_cons_zero, List.getElem?_cons_succ, List.getElem?_nil, Nat.reduceAdd, Nat.reduceSub, List.set_cons_zero, List.set_cons_succ, decide_true, decide_false, if_true, if_false, Bool.false_eq_true, Bool.true_eq_false, Bool.not_true, Bool.not_false, List.any_cons, List.any_nil, List.all_cons, List.all_nil, Bool.or_false, Bool.or_true, Bool.false_or, Bool.true_or, Bool.and_true, Bool.and_false, Bool.true_and, Bool.false_and, reduceCtorEq, String.reduceEq, beq_self_eq_true, String.reduceBEq, at0, at1, at2, at3, Int.reduceEq, true_and, and_true, sizeLine, Nat.reducePow, Nat.reduceLeDiff, Nat.reduceLT, Int.natCast_add, Int.cast_ofNat_Int, Int.reduceLT, Int.reduceLE]
      have fw := R.few
      refine ⟨rcl s, s.regs, rfl, fun j mj => (rcl_mem R).mpr (.reg j mj), by omega, ?_⟩
      refine ⟨μ, fun x o e => ?_, ?_⟩
      · have n1 : x ≠ p4 := fun z => by
          subst z
          by_cases c : x = p
          · subst c; rw [hp] at e; cases e
          · rw [mset_ne c] at hp4; rw [hp4] at e; cases e
        have n2 : x ≠ p := fun z => by subst z; rw [hp] at e; cases e
        rw [mset_ne n1, mset_ne n2]; exact e
      · have e5 : stD (gn s) = .tup [.tup ((s.regs.map (mv (rcl s))).map woD), .tup ((rcl s).map fun k => thD (mvT (rcl s) (thAt s k))), .int s.b, .int s.r] := by
          unfold stD gn
          rw [List.map_map (f := fun k => mvT (rcl s) (thAt s k))]
          rfl
        rw [e5] at q
        exact q
end
end K70

set_option Elab.async false
set_option linter.all false
set_option maxRecDepth 100000
set_option maxHeartbeats 4000000
namespace K70
open PySem PySem.Spec PyProof.Rows L2 NdefX LamX DL
namespace VB
/-! ### what two sides are compared -/
def Pl : Nat → D → Prop
  | _, .non => True
  | _, .int _ => True
  | _, .str _ => True
  | _, .bl _ => True
  | n + 1, .tup ds => ds.length ≤ 1000000 ∧ ∀ d ∈ ds, Pl n d
  | n + 1, .lst ds => ds.length ≤ 1000000 ∧ ∀ d ∈ ds, Pl n d
  | _, _ => False
def sp_same : Nat → RLD
  | 0 => fun _ _ _ => False
  | n + 1 => fun ds μ Q => ∃ d, ds = [d, d] ∧ Pl n d ∧ Q (.bl true) μ
theorem mono_same : ∀ n, MonoL (sp_same n)
  | 0 => fun ds μ Q Q' i h => h
  | n + 1 => fun ds μ Q Q' i ⟨a, h1, h2, q⟩ => ⟨a, h1, h2, i _ _ q⟩
theorem isj1 : isiS "int" "str" = some false := by decide
theorem isj2 : isiS "int" "tuple" = some false := by decide
theorem isj3 : isiS "int" "list" = some false := by decide
theorem sc_law_same : FnScope ["found", "due", "k"] ["found", "due"] (defScope s_law_same) := ⟨rfl, rfl, rfl, by decide +kernel, rfl, by decide +kernel, by decide +kernel⟩
section
variable {P : Program} {w : World} {K : PySem.W.Frag} {mg : Str → Option Value} {base : Heap} {f : Addr} {fd : FuncData}
theorem same_turn {n : Nat} {ds : List D} {p : Addr} {μ : Mu} {Q : Mu → Prop} {v0 : D} (he : v0 = .tup ds ∨ v0 = .lst ds) (hl : ds.length ≤ 1000000) (hd : ∀ d ∈ ds, Pl n d) (q : Q (mset μ p (.lst ((List.range ds.length).map fun _ => .bl true)))) :
    lcD (gNm 2) dYes (dCa (sp_same (n + 1)) (dCons (dOp DL.rIxD (dVar 0) (dVar 2)) (dCons (dOp DL.rIxD (dVar 1) (dVar 2)) dNil))) [some v0, some v0, none] p Q (rngD 0 ds.length) (mset μ p (MO.lst [])) := by
  unfold rngD
  refine lc_mapA (fun (i : Nat) => D.int (0 + (i : Int))) (fun _ => .bl true) (List.range ds.length) [] _ mset_same (by rw [List.length_range]; show 0 + _ ≤ 2 ^ 24; omega) (fun i hi acc kk hkk => ?_) (by rw [mset_mset]; exact q)
  rw [mset_mset] at hkk
  have hi' : i < ds.length := List.mem_range.mp hi
  have e : atI ds (0 + (i : Int)) = some ds[i] := by rw [Int.zero_add]; exact atI_nat (List.getElem?_eq_getElem hi')
  rcases he with rfl | rfl
  · simp only [dNewD, dDput, putDk, dExtend, dLock, dKeysI, rDin, rDget, dictD, keyD, dTupRg, dIndexF, dOrT, dAndT, dSeqA, dCont, dRet, dRetN, dSeq, dIfS, dDrop, dSet, gNm, dNext, dAndV, dOrV, dNotV, dAnd, dOr, dNot, dIf, dTru, dBool, dOp, dVar, dC, dCa, dCons, dNil, dTup, dLst, dFrz, frzD, dSl, dNo, dPart, slD, dNeg, dChain, rIsD, rEqS, eqS, DL.rInD, inD, eqF_str, flatD_str, flatD_int, rTypeD, tyD, rLenD, lenD, DL.rIxD, rIntD, rAddD, rTupleD, DL.rListD, rAllD, itemsD, itemsL, rToInt, isD, DL.isNon, isBl, startD, endsOf, dLc, dSeqT, dSeqL, dZip, dRev, dRng1, dFor, dListEnum, wipeD, gTp, gsCons, gsNil, rKdIx, rKdIn, gob, truD, dPop, dAppend, List.isEmpty_cons, List.isEmpty_nil, cut_to1, cut_from1, cut_init, List.drop_one, List.tail_cons, List.take_succ_cons, List.take_zero, bools_true, all_true, mset_same, mset_mset, List.map_cons, List.map_nil, List.length_cons, List.length_nil, List.replicate, List.cons_append, List.nil_append, List.append_nil, List.getElem?_cons_zero, List.getElem?_cons_succ, List.getElem?_nil, Nat.reduceAdd, Nat.reduceSub, List.set_cons_zero, List.set_cons_succ, decide_true, decide_false, if_true, if_false, Bool.false_eq_true, Bool.true_eq_false, Bool.not_true, Bool.not_false, List.any_cons, List.any_nil, List.all_cons, List.all_nil, Bool.or_false, Bool.or_true, Bool.false_or, Bool.true_or, Bool.and_true, Bool.and_false, Bool.true_and, Bool.false_and, reduceCtorEq, String.reduceEq, beq_self_eq_true, String.reduceBEq, at0, at1, at2, at3, Int.reduceEq, true_and, and_true, sizeLine, Nat.reducePow, Nat.reduceLeDiff, Nat.reduceLT, Int.natCast_add, Int.cast_ofNat_Int, Int.reduceLT, Int.reduceLE]
    simp only [e]
    exact ⟨_, rfl, hd _ (List.getElem_mem hi'), hkk⟩
  · simp only [dNewD, dDput, putDk, dExtend, dLock, dKeysI, rDin, rDget, dictD, keyD, dTupRg, dIndexF, dOrT, dAndT, dSeqA, dCont, dRet, dRetN, dSeq, dIfS, dDrop, dSet, gNm, dNext, dAndV, dOrV, dNotV, dAnd, dOr, dNot, dIf, dTru, dBool, dOp, dVar, dC, dCa, dCons, dNil, dTup, dLst, dFrz, frzD, dSl, dNo, dPart, slD, dNeg, dChain, rIsD, rEqS, eqS, DL.rInD, inD, eqF_str, flatD_str, flatD_int, rTypeD, tyD, rLenD, lenD, DL.rIxD, rIntD, rAddD, rTupleD, DL.rListD, rAllD, itemsD, itemsL, rToInt, isD, DL.isNon, isBl, startD, endsOf, dLc, dSeqT, dSeqL, dZip, dRev, dRng1, dFor, dListEnum, wipeD, gTp, gsCons, gsNil, rKdIx, rKdIn, gob, truD, dPop, dAppend, List.isEmpty_cons, List.isEmpty_nil, cut_to1, cut_from1, cut_init, List.drop_one, List.tail_cons, List.take_succ_cons, List.take_zero, bools_true, all_true, mset_same, mset_mset, List.map_cons, List.map_nil, List.length_cons, List.length_nil, List.replicate, List.cons_append, List.nil_append, List.append_nil, List.getElem?_cons_zero, List.getElem?_cons_succ, List.getElem?_nil, Nat.reduceAdd, Nat.reduceSub, List.set_cons_zero, List.set_cons_succ, decide_true, decide_false, if_true, if_false, Bool.false_eq_true, Bool.true_eq_false, Bool.not_true, Bool.not_false, List.any_cons, List.any_nil, List.all_cons, List.all_nil, Bool.or_false, Bool.or_true, Bool.false_or, Bool.true_or, Bool.and_true, Bool.and_false, Bool.true_and, Bool.false_and, reduceCtorEq, String.reduceEq, beq_self_eq_true, String.reduceBEq, at0, at1, at2, at3, Int.reduceEq, true_and, and_true, sizeLine, Nat.reducePow, Nat.reduceLeDiff, Nat.reduceLT, Int.natCast_add, Int.cast_ofNat_Int, Int.reduceLT, Int.reduceLE]
    simp only [e]
    exact ⟨_, rfl, hd _ (List.getElem_mem hi'), hkk⟩
theorem ok_same_step (B : NoG mg) (n : Nat) (F : Fun K "_law_same" "_law_same" s_law_same f fd) (Glaw_same : Gt P w K mg base n "_law_same" ["found", "due"] (sp_same n) f fd) : FnOk P w K mg base CX0 (n + 1) f fd ["found", "due"] (spUp K (sp_same (n + 1))) := by
  refine okD F sc_law_same (fun ds μ Q ⟨d, e, _⟩ => by rw [e]; rfl) fun cdv A outer s H E hr => ⟨_, (ds_cons (d_ifS (dt_cmp o_is (d_var 1) d_non (nomark _)) (ds_one (d_ret (d_cmp o_is (d_var 0) d_non (nomark _)))) ds_nil)
      (ds_cons (d_ifS (dt_cmp o_is (d_var 1) d_bl (nomark _)) (ds_one (d_ret (d_cmp o_is (d_var 0) d_bl (nomark _)))) ds_nil)
      (ds_cons (d_ifS (dt_cmp o_is (d_var 1) d_bl (nomark _)) (ds_one (d_ret (d_cmp o_is (d_var 0) d_bl (nomark _)))) ds_nil)
      (ds_cons (d_ifS (dt_val (d_callB c_isi rfl B.isinstance rfl (da_cons (d_var 1) (da_cons (d_bltn "int" rfl B.int rfl) da_nil)))) (ds_one (d_ret (d_and (d_callB c_isi rfl B.isinstance rfl (da_cons (d_var 0) (da_cons (d_bltn "int" rfl B.int rfl) da_nil))) (d_and (d_not (d_callB c_isi rfl B.isinstance rfl (da_cons (d_var 0) (da_cons (d_bltn "bool" rfl B.bool rfl) da_nil)))) (d_one (d_cmp o_eqS (d_var 0) (d_var 1) (nomark _))))))) ds_nil)
      (ds_cons (d_ifS (dt_val (d_callB c_isi rfl B.isinstance rfl (da_cons (d_var 1) (da_cons (d_bltn "str" rfl B.str rfl) da_nil)))) (ds_one (d_ret (d_and (d_callB c_isi rfl B.isinstance rfl (da_cons (d_var 0) (da_cons (d_bltn "str" rfl B.str rfl) da_nil))) (d_one (d_cmp o_eqS (d_var 0) (d_var 1) (nomark _)))))) ds_nil)
      (ds_cons (d_ifS (PWD.ptd (dw_or (dt_cmp o_neS (d_callB c_isi rfl B.isinstance rfl (da_cons (d_var 1) (da_cons (d_bltn "tuple" rfl B.tuple rfl) da_nil))) (d_callB c_isi rfl B.isinstance rfl (da_cons (d_var 0) (da_cons (d_bltn "tuple" rfl B.tuple rfl) da_nil))) (nomark _)) (dw_or1 (dt_cmp o_neS (d_callB c_isi rfl B.isinstance rfl (da_cons (d_var 1) (da_cons (d_bltn "list" rfl B.list rfl) da_nil))) (d_callB c_isi rfl B.isinstance rfl (da_cons (d_var 0) (da_cons (d_bltn "list" rfl B.list rfl) da_nil))) (nomark _))))) (ds_one (d_ret d_bl)) ds_nil)
      (ds_one (d_ret (d_and (d_cmp o_eqS (d_callB c_len rfl B.len rfl (da_cons (d_var 0) da_nil)) (d_callB c_len rfl B.len rfl (da_cons (d_var 1) da_nil)) (nomark _)) (d_one (d_callB (c_all rfl) rfl B.all rfl (da_cons (d_lc rfl sc_law_same.nd (di_range1 rfl B.range (da_cons (d_callB c_len rfl B.len rfl (da_cons (d_var 1) da_nil)) da_nil)) (blk_ok2 (N := ["found", "due", "k"]) (sc := defScope s_law_same) (own := [("k", 2)]) (by rfl) (by decide +kernel) (by decide +kernel) (by decide +kernel) (by decide +kernel)) (fun _ _ _ _ _ => (dg_name 2 sc_law_same.nd)) (fun _ _ _ _ _ => dts_nil) (fun _ _ _ _ _ => (d_call Glaw_same.F Glaw_same.mono (hr.mono (by first | decide | omega)) Glaw_same.m Glaw_same.k Glaw_same.b (da_cons (d_ix ix_ok (d_var 0) (d_var 2)) (da_cons (d_ix ix_ok (d_var 1) (d_var 2)) da_nil))))) da_nil)))))))))))), ?_⟩
  rintro ds μ Q ⟨d, rfl, h, q⟩
  cases d <;> first | (cases n <;> cases h; done) | skip
  case non => simp only [dNewD, dDput, putDk, dExtend, dLock, dKeysI, rDin, rDget, dictD, keyD, dTupRg, dIndexF, dOrT, dAndT, dSeqA, dCont, dRet, dRetN, dSeq, dIfS, dDrop, dSet, gNm, dNext, dAndV, dOrV, dNotV, dAnd, dOr, dNot, dIf, dTru, dBool, dOp, dVar, dC, dCa, dCons, dNil, dTup, dLst, dFrz, frzD, dSl, dNo, dPart, slD, dNeg, dChain, rIsD, rEqS, eqS, DL.rInD, inD, eqF_str, flatD_str, flatD_int, rTypeD, tyD, rLenD, lenD, DL.rIxD, rIntD, rAddD, rTupleD, DL.rListD, rAllD, itemsD, itemsL, rToInt, isD, DL.isNon, isBl, startD, endsOf, dLc, dSeqT, dSeqL, dZip, dRev, dRng1, dFor, dListEnum, wipeD, gTp, gsCons, gsNil, rKdIx, rKdIn, gob, truD, dPop, dAppend, List.isEmpty_cons, List.isEmpty_nil, cut_to1, cut_from1, cut_init, List.drop_one, List.tail_cons, List.take_succ_cons, List.take_zero, bools_true, all_true, mset_same, mset_mset, List.map_cons, List.map_nil, List.length_cons, List.length_nil, List.replicate, List.cons_append, List.nil_append, List.append_nil, List.getElem?_cons_zero, List.getElem?_cons_succ, List.getElem?_nil, Nat.reduceAdd, Nat.reduceSub, List.set_cons_zero, List.set_cons_succ, decide_true, decide_false, if_true, if_false, Bool.false_eq_true, Bool.true_eq_false, Bool.not_true, Bool.not_false, List.any_cons, List.any_nil, List.all_cons, List.all_nil, Bool.or_false, Bool.or_true, Bool.false_or, Bool.true_or, Bool.and_true, Bool.and_false, Bool.true_and, Bool.false_and, reduceCtorEq, String.reduceEq, beq_self_eq_true, String.reduceBEq, at0, at1, at2, at3, Int.reduceEq, true_and, and_true, sizeLine, Nat.reducePow, Nat.reduceLeDiff, Nat.reduceLT, Int.natCast_add, Int.cast_ofNat_Int, Int.reduceLT, Int.reduceLE]; exact retD_same q
  case bl b => cases b <;> simp only [dNewD, dDput, putDk, dExtend, dLock, dKeysI, rDin, rDget, dictD, keyD, dTupRg, dIndexF, dOrT, dAndT, dSeqA, dCont, dRet, dRetN, dSeq, dIfS, dDrop, dSet, gNm, dNext, dAndV, dOrV, dNotV, dAnd, dOr, dNot, dIf, dTru, dBool, dOp, dVar, dC, dCa, dCons, dNil, dTup, dLst, dFrz, frzD, dSl, dNo, dPart, slD, dNeg, dChain, rIsD, rEqS, eqS, DL.rInD, inD, eqF_str, flatD_str, flatD_int, rTypeD, tyD, rLenD, lenD, DL.rIxD, rIntD, rAddD, rTupleD, DL.rListD, rAllD, itemsD, itemsL, rToInt, isD, DL.isNon, isBl, startD, endsOf, dLc, dSeqT, dSeqL, dZip, dRev, dRng1, dFor, dListEnum, wipeD, gTp, gsCons, gsNil, rKdIx, rKdIn, gob, truD, dPop, dAppend, List.isEmpty_cons, List.isEmpty_nil, cut_to1, cut_from1, cut_init, List.drop_one, List.tail_cons, List.take_succ_cons, List.take_zero, bools_true, all_true, mset_same, mset_mset, List.map_cons, List.map_nil, List.length_cons, List.length_nil, List.replicate, List.cons_append, List.nil_append, List.append_nil, List.getElem?_cons_zero, List.getElem?_cons_succ, List.getElem?_nil, Nat.reduceAdd, Nat.reduceSub, List.set_cons_zero, List.set_cons_succ, decide_true, decide_false, if_true, if_false, Bool.false_eq_true, Bool.true_eq_false, Bool.not_true, Bool.not_false, List.any_cons, List.any_nil, List.all_cons, List.all_nil, Bool.or_false, Bool.or_true, Bool.false_or, Bool.true_or, Bool.and_true, Bool.and_false, Bool.true_and, Bool.false_and, reduceCtorEq, String.reduceEq, beq_self_eq_true, String.reduceBEq, at0, at1, at2, at3, Int.reduceEq, true_and, and_true, sizeLine, Nat.reducePow, Nat.reduceLeDiff, Nat.reduceLT, Int.natCast_add, Int.cast_ofNat_Int, Int.reduceLT, Int.reduceLE] <;> exact retD_same q
  case int i =>
    simp only [dNewD, dDput, putDk, dExtend, dLock, dKeysI, rDin, rDget, dictD, keyD, dTupRg, dIndexF, dOrT, dAndT, dSeqA, dCont, dRet, dRetN, dSeq, dIfS, dDrop, dSet, gNm, dNext, dAndV, dOrV, dNotV, dAnd, dOr, dNot, dIf, dTru, dBool, dOp, dVar, dC, dCa, dCons, dNil, dTup, dLst, dFrz, frzD, dSl, dNo, dPart, slD, dNeg, dChain, rIsD, rEqS, eqS, DL.rInD, inD, eqF_str, flatD_str, flatD_int, rTypeD, tyD, rLenD, lenD, DL.rIxD, rIntD, rAddD, rTupleD, DL.rListD, rAllD, itemsD, itemsL, rToInt, isD, DL.isNon, isBl, startD, endsOf, dLc, dSeqT, dSeqL, dZip, dRev, dRng1, dFor, dListEnum, wipeD, gTp, gsCons, gsNil, rKdIx, rKdIn, gob, truD, dPop, dAppend, List.isEmpty_cons, List.isEmpty_nil, cut_to1, cut_from1, cut_init, List.drop_one, List.tail_cons, List.take_succ_cons, List.take_zero, bools_true, all_true, mset_same, mset_mset, List.map_cons, List.map_nil, List.length_cons, List.length_nil, List.replicate, List.cons_append, List.nil_append, List.append_nil, List.getElem?_cons_zero, List.getElem?_cons_succ, List.getElem?_nil, Nat.reduceAdd, Nat.reduceSub, List.set_cons_zero, List.set_cons_succ, decide_true, decide_false, if_true, if_false, Bool.false_eq_true, Bool.true_eq_false, Bool.not_true, Bool.not_false, List.any_cons, List.any_nil, List.all_cons, List.all_nil, Bool.or_false, Bool.or_true, Bool.false_or, Bool.true_or, Bool.and_true, Bool.and_false, Bool.true_and, Bool.false_and, reduceCtorEq, String.reduceEq, beq_self_eq_true, String.reduceBEq, at0, at1, at2, at3, Int.reduceEq, true_and, and_true, sizeLine, Nat.reducePow, Nat.reduceLeDiff, Nat.reduceLT, Int.natCast_add, Int.cast_ofNat_Int, Int.reduceLT, Int.reduceLE]
    simp only [rIsiD, tyD, isi1, isi2, isj1, isj2, isj3]
    simp only [dNewD, dDput, putDk, dExtend, dLock, dKeysI, rDin, rDget, dictD, keyD, dTupRg, dIndexF, dOrT, dAndT, dSeqA, dCont, dRet, dRetN, dSeq, dIfS, dDrop, dSet, gNm, dNext, dAndV, dOrV, dNotV, dAnd, dOr, dNot, dIf, dTru, dBool, dOp, dVar, dC, dCa, dCons, dNil, dTup, dLst, dFrz, frzD, dSl, dNo, dPart, slD, dNeg, dChain, rIsD, rEqS, eqS, DL.rInD, inD, eqF_str, flatD_str, flatD_int, rTypeD, tyD, rLenD, lenD, DL.rIxD, rIntD, rAddD, rTupleD, DL.rListD, rAllD, itemsD, itemsL, rToInt, isD, DL.isNon, isBl, startD, endsOf, dLc, dSeqT, dSeqL, dZip, dRev, dRng1, dFor, dListEnum, wipeD, gTp, gsCons, gsNil, rKdIx, rKdIn, gob, truD, dPop, dAppend, List.isEmpty_cons, List.isEmpty_nil, cut_to1, cut_from1, cut_init, List.drop_one, List.tail_cons, List.take_succ_cons, List.take_zero, bools_true, all_true, mset_same, mset_mset, List.map_cons, List.map_nil, List.length_cons, List.length_nil, List.replicate, List.cons_append, List.nil_append, List.append_nil, List.getElem?_cons_zero, List.getElem?_cons_succ, List.getElem?_nil, Nat.reduceAdd, Nat.reduceSub, List.set_cons_zero, List.set_cons_succ, decide_true, decide_false, if_true, if_false, Bool.false_eq_true, Bool.true_eq_false, Bool.not_true, Bool.not_false, List.any_cons, List.any_nil, List.all_cons, List.all_nil, Bool.or_false, Bool.or_true, Bool.false_or, Bool.true_or, Bool.and_true, Bool.and_false, Bool.true_and, Bool.false_and, reduceCtorEq, String.reduceEq, beq_self_eq_true, String.reduceBEq, at0, at1, at2, at3, Int.reduceEq, true_and, and_true, sizeLine, Nat.reducePow, Nat.reduceLeDiff, Nat.reduceLT, Int.natCast_add, Int.cast_ofNat_Int, Int.reduceLT, Int.reduceLE]
    exact retD_same q
  case str i =>
    simp only [dNewD, dDput, putDk, dExtend, dLock, dKeysI, rDin, rDget, dictD, keyD, dTupRg, dIndexF, dOrT, dAndT, dSeqA, dCont, dRet, dRetN, dSeq, dIfS, dDrop, dSet, gNm, dNext, dAndV, dOrV, dNotV, dAnd, dOr, dNot, dIf, dTru, dBool, dOp, dVar, dC, dCa, dCons, dNil, dTup, dLst, dFrz, frzD, dSl, dNo, dPart, slD, dNeg, dChain, rIsD, rEqS, eqS, DL.rInD, inD, eqF_str, flatD_str, flatD_int, rTypeD, tyD, rLenD, lenD, DL.rIxD, rIntD, rAddD, rTupleD, DL.rListD, rAllD, itemsD, itemsL, rToInt, isD, DL.isNon, isBl, startD, endsOf, dLc, dSeqT, dSeqL, dZip, dRev, dRng1, dFor, dListEnum, wipeD, gTp, gsCons, gsNil, rKdIx, rKdIn, gob, truD, dPop, dAppend, List.isEmpty_cons, List.isEmpty_nil, cut_to1, cut_from1, cut_init, List.drop_one, List.tail_cons, List.take_succ_cons, List.take_zero, bools_true, all_true, mset_same, mset_mset, List.map_cons, List.map_nil, List.length_cons, List.length_nil, List.replicate, List.cons_append, List.nil_append, List.append_nil, List.getElem?_cons_zero, List.getElem?_cons_succ, List.getElem?_nil, Nat.reduceAdd, Nat.reduceSub, List.set_cons_zero, List.set_cons_succ, decide_true, decide_false, if_true, if_false, Bool.false_eq_true, Bool.true_eq_false, Bool.not_true, Bool.not_false, List.any_cons, List.any_nil, List.all_cons, List.all_nil, Bool.or_false, Bool.or_true, Bool.false_or, Bool.true_or, Bool.and_true, Bool.and_false, Bool.true_and, Bool.false_and, reduceCtorEq, String.reduceEq, beq_self_eq_true, String.reduceBEq, at0, at1, at2, at3, Int.reduceEq, true_and, and_true, sizeLine, Nat.reducePow, Nat.reduceLeDiff, Nat.reduceLT, Int.natCast_add, Int.cast_ofNat_Int, Int.reduceLT, Int.reduceLE]
    simp only [rIsiD, tyD, isi3, isi4]
    simp only [dNewD, dDput, putDk, dExtend, dLock, dKeysI, rDin, rDget, dictD, keyD, dTupRg, dIndexF, dOrT, dAndT, dSeqA, dCont, dRet, dRetN, dSeq, dIfS, dDrop, dSet, gNm, dNext, dAndV, dOrV, dNotV, dAnd, dOr, dNot, dIf, dTru, dBool, dOp, dVar, dC, dCa, dCons, dNil, dTup, dLst, dFrz, frzD, dSl, dNo, dPart, slD, dNeg, dChain, rIsD, rEqS, eqS, DL.rInD, inD, eqF_str, flatD_str, flatD_int, rTypeD, tyD, rLenD, lenD, DL.rIxD, rIntD, rAddD, rTupleD, DL.rListD, rAllD, itemsD, itemsL, rToInt, isD, DL.isNon, isBl, startD, endsOf, dLc, dSeqT, dSeqL, dZip, dRev, dRng1, dFor, dListEnum, wipeD, gTp, gsCons, gsNil, rKdIx, rKdIn, gob, truD, dPop, dAppend, List.isEmpty_cons, List.isEmpty_nil, cut_to1, cut_from1, cut_init, List.drop_one, List.tail_cons, List.take_succ_cons, List.take_zero, bools_true, all_true, mset_same, mset_mset, List.map_cons, List.map_nil, List.length_cons, List.length_nil, List.replicate, List.cons_append, List.nil_append, List.append_nil, List.getElem?_cons_zero, List.getElem?_cons_succ, List.getElem?_nil, Nat.reduceAdd, Nat.reduceSub, List.set_cons_zero, List.set_cons_succ, decide_true, decide_false, if_true, if_false, Bool.false_eq_true, Bool.true_eq_false, Bool.not_true, Bool.not_false, List.any_cons, List.any_nil, List.all_cons, List.all_nil, Bool.or_false, Bool.or_true, Bool.false_or, Bool.true_or, Bool.and_true, Bool.and_false, Bool.true_and, Bool.false_and, reduceCtorEq, String.reduceEq, beq_self_eq_true, String.reduceBEq, at0, at1, at2, at3, Int.reduceEq, true_and, and_true, sizeLine, Nat.reducePow, Nat.reduceLeDiff, Nat.reduceLT, Int.natCast_add, Int.cast_ofNat_Int, Int.reduceLT, Int.reduceLE]
    exact retD_same q
  case tup ds =>
    cases n with
    | zero => cases h
    | succ n =>
      simp only [dNewD, dDput, putDk, dExtend, dLock, dKeysI, rDin, rDget, dictD, keyD, dTupRg, dIndexF, dOrT, dAndT, dSeqA, dCont, dRet, dRetN, dSeq, dIfS, dDrop, dSet, gNm, dNext, dAndV, dOrV, dNotV, dAnd, dOr, dNot, dIf, dTru, dBool, dOp, dVar, dC, dCa, dCons, dNil, dTup, dLst, dFrz, frzD, dSl, dNo, dPart, slD, dNeg, dChain, rIsD, rEqS, eqS, DL.rInD, inD, eqF_str, flatD_str, flatD_int, rTypeD, tyD, rLenD, lenD, DL.rIxD, rIntD, rAddD, rTupleD, DL.rListD, rAllD, itemsD, itemsL, rToInt, isD, DL.isNon, isBl, startD, endsOf, dLc, dSeqT, dSeqL, dZip, dRev, dRng1, dFor, dListEnum, wipeD, gTp, gsCons, gsNil, rKdIx, rKdIn, gob, truD, dPop, dAppend, List.isEmpty_cons, List.isEmpty_nil, cut_to1, cut_from1, cut_init, List.drop_one, List.tail_cons, List.take_succ_cons, List.take_zero, bools_true, all_true, mset_same, mset_mset, List.map_cons, List.map_nil, List.length_cons, List.length_nil, List.replicate, List.cons_append, List.nil_append, List.append_nil, List.getElem?_cons_zero, List.getElem?_cons_succ, List.getElem?_nil, Nat.reduceAdd, Nat.reduceSub, List.set_cons_zero, List.set_cons_succ, decide_true, decide_false, if_true, if_false, Bool.false_eq_true, Bool.true_eq_false, Bool.not_true, Bool.not_false, List.any_cons, List.any_nil, List.all_cons, List.all_nil, Bool.or_false, Bool.or_true, Bool.false_or, Bool.true_or, Bool.and_true, Bool.and_false, Bool.true_and, Bool.false_and, reduceCtorEq, String.reduceEq, beq_self_eq_true, String.reduceBEq, at0, at1, at2, at3, Int.reduceEq, true_and, and_true, sizeLine, Nat.reducePow, Nat.reduceLeDiff, Nat.reduceLT, Int.natCast_add, Int.cast_ofNat_Int, Int.reduceLT, Int.reduceLE]
      simp only [rIsiD, tyD, isi5, isi6, isi7, isi8]
      simp only [dNewD, dDput, putDk, dExtend, dLock, dKeysI, rDin, rDget, dictD, keyD, dTupRg, dIndexF, dOrT, dAndT, dSeqA, dCont, dRet, dRetN, dSeq, dIfS, dDrop, dSet, gNm, dNext, dAndV, dOrV, dNotV, dAnd, dOr, dNot, dIf, dTru, dBool, dOp, dVar, dC, dCa, dCons, dNil, dTup, dLst, dFrz, frzD, dSl, dNo, dPart, slD, dNeg, dChain, rIsD, rEqS, eqS, DL.rInD, inD, eqF_str, flatD_str, flatD_int, rTypeD, tyD, rLenD, lenD, DL.rIxD, rIntD, rAddD, rTupleD, DL.rListD, rAllD, itemsD, itemsL, rToInt, isD, DL.isNon, isBl, startD, endsOf, dLc, dSeqT, dSeqL, dZip, dRev, dRng1, dFor, dListEnum, wipeD, gTp, gsCons, gsNil, rKdIx, rKdIn, gob, truD, dPop, dAppend, List.isEmpty_cons, List.isEmpty_nil, cut_to1, cut_from1, cut_init, List.drop_one, List.tail_cons, List.take_succ_cons, List.take_zero, bools_true, all_true, mset_same, mset_mset, List.map_cons, List.map_nil, List.length_cons, List.length_nil, List.replicate, List.cons_append, List.nil_append, List.append_nil, List.getElem?_cons_zero, List.getElem?_cons_succ, List.getElem?_nil, Nat.reduceAdd, Nat.reduceSub, List.set_cons_zero, List.set_cons_succ, decide_true, decide_false, if_true, if_false, Bool.false_eq_true, Bool.true_eq_false, Bool.not_true, Bool.not_false, List.any_cons, List.any_nil, List.all_cons, List.all_nil, Bool.or_false, Bool.or_true, Bool.false_or, Bool.true_or, Bool.and_true, Bool.and_false, Bool.true_and, Bool.false_and, reduceCtorEq, String.reduceEq, beq_self_eq_true, String.reduceBEq, at0, at1, at2, at3, Int.reduceEq, true_and, and_true, sizeLine, Nat.reducePow, Nat.reduceLeDiff, Nat.reduceLT, Int.natCast_add, Int.cast_ofNat_Int, Int.reduceLT, Int.reduceLE]
      refine ⟨by have := h.1; omega, fun p hp => ?_⟩
      rw [Int.toNat_natCast]
      refine same_turn (.inl rfl) h.1 h.2 ?_
      simp only [dNewD, dDput, putDk, dExtend, dLock, dKeysI, rDin, rDget, dictD, keyD, dTupRg, dIndexF, dOrT, dAndT, dSeqA, dCont, dRet, dRetN, dSeq, dIfS, dDrop, dSet, gNm, dNext, dAndV, dOrV, dNotV, dAnd, dOr, dNot, dIf, dTru, dBool, dOp, dVar, dC, dCa, dCons, dNil, dTup, dLst, dFrz, frzD, dSl, dNo, dPart, slD, dNeg, dChain, rIsD, rEqS, eqS, DL.rInD, inD, eqF_str, flatD_str, flatD_int, rTypeD, tyD, rLenD, lenD, DL.rIxD, rIntD, rAddD, rTupleD, DL.rListD, rAllD, itemsD, itemsL, rToInt, isD, DL.isNon, isBl, startD, endsOf, dLc, dSeqT, dSeqL, dZip, dRev, dRng1, dFor, dListEnum, wipeD, gTp, gsCons, gsNil, rKdIx, rKdIn, gob, truD, dPop, dAppend, List.isEmpty_cons, List.isEmpty_nil, cut_to1, cut_from1, cut_init, List.drop_one, List.tail_cons, List.take_succ_cons, List.take_zero, bools_true, all_true, mset_same, mset_mset, List.map_cons, List.map_nil, List.length_cons, List.length_nil, List.replicate, List.cons_append, List.nil_append, List.append_nil, List.getElem?_cons_zero, List.getElem?_cons_succ, List.getElem?_nil, Nat.reduceAdd, Nat.reduceSub, List.set_cons_zero, List.set_cons_succ, decide_true, decide_false, if_true, if_false, Bool.false_eq_true, Bool.true_eq_false, Bool.not_true, Bool.not_false, List.any_cons, List.any_nil, List.all_cons, List.all_nil, Bool.or_false, Bool.or_true, Bool.false_or, Bool.true_or, Bool.and_true, Bool.and_false, Bool.true_and, Bool.false_and, reduceCtorEq, String.reduceEq, beq_self_eq_true, String.reduceBEq, at0, at1, at2, at3, Int.reduceEq, true_and, and_true, sizeLine, Nat.reducePow, Nat.reduceLeDiff, Nat.reduceLT, Int.natCast_add, Int.cast_ofNat_Int, Int.reduceLT, Int.reduceLE]
      exact ⟨_, sub_mset hp Sub.refl, q⟩
  case lst ds =>
    cases n with
    | zero => cases h
    | succ n =>
      simp only [dNewD, dDput, putDk, dExtend, dLock, dKeysI, rDin, rDget, dictD, keyD, dTupRg, dIndexF, dOrT, dAndT, dSeqA, dCont, dRet, dRetN, dSeq, dIfS, dDrop, dSet, gNm, dNext, dAndV, dOrV, dNotV, dAnd, dOr, dNot, dIf, dTru, dBool, dOp, dVar, dC, dCa, dCons, dNil, dTup, dLst, dFrz, frzD, dSl, dNo, dPart, slD, dNeg, dChain, rIsD, rEqS, eqS, DL.rInD, inD, eqF_str, flatD_str, flatD_int, rTypeD, tyD, rLenD, lenD, DL.rIxD, rIntD, rAddD, rTupleD, DL.rListD, rAllD, itemsD, itemsL, rToInt, isD, DL.isNon, isBl, startD, endsOf, dLc, dSeqT, dSeqL, dZip, dRev, dRng1, dFor, dListEnum, wipeD, gTp, gsCons, gsNil, rKdIx, rKdIn, gob, truD, dPop, dAppend, List.isEmpty_cons, List.isEmpty_nil, cut_to1, cut_from1, cut_init, List.drop_one, List.tail_cons, List.take_succ_cons, List.take_zero, bools_true, all_true, mset_same, mset_mset, List.map_cons, List.map_nil, List.length_cons, List.length_nil, List.replicate, List.cons_append, List.nil_append, List.append_nil, List.getElem?_cons_zero, List.getElem?_cons_succ, List.getElem?_nil, Nat.reduceAdd, Nat.reduceSub, List.set_cons_zero, List.set_cons_succ, decide_true, decide_false, if_true, if_false, Bool.false_eq_true, Bool.true_eq_false, Bool.not_true, Bool.not_false, List.any_cons, List.any_nil, List.all_cons, List.all_nil, Bool.or_false, Bool.or_true, Bool.false_or, Bool.true_or, Bool.and_true, Bool.and_false, Bool.true_and, Bool.false_and, reduceCtorEq, String.reduceEq, beq_self_eq_true, String.reduceBEq, at0, at1, at2, at3, Int.reduceEq, true_and, and_true, sizeLine, Nat.reducePow, Nat.reduceLeDiff, Nat.reduceLT, Int.natCast_add, Int.cast_ofNat_Int, Int.reduceLT, Int.reduceLE]
      simp only [rIsiD, tyD, isi9, isi10, isi11, isi12]
      simp only [dNewD, dDput, putDk, dExtend, dLock, dKeysI, rDin, rDget, dictD, keyD, dTupRg, dIndexF, dOrT, dAndT, dSeqA, dCont, dRet, dRetN, dSeq, dIfS, dDrop, dSet, gNm, dNext, dAndV, dOrV, dNotV, dAnd, dOr, dNot, dIf, dTru, dBool, dOp, dVar, dC, dCa, dCons, dNil, dTup, dLst, dFrz, frzD, dSl, dNo, dPart, slD, dNeg, dChain, rIsD, rEqS, eqS, DL.rInD, inD, eqF_str, flatD_str, flatD_int, rTypeD, tyD, rLenD, lenD, DL.rIxD, rIntD, rAddD, rTupleD, DL.rListD, rAllD, itemsD, itemsL, rToInt, isD, DL.isNon, isBl, startD, endsOf, dLc, dSeqT, dSeqL, dZip, dRev, dRng1, dFor, dListEnum, wipeD, gTp, gsCons, gsNil, rKdIx, rKdIn, gob, truD, dPop, dAppend, List.isEmpty_cons, List.isEmpty_nil, cut_to1, cut_from1, cut_init, List.drop_one, List.tail_cons, List.take_succ_cons, List.take_zero, bools_true, all_true, mset_same, mset_mset, List.map_cons, List.map_nil, List.length_cons, List.length_nil, List.replicate, List.cons_append, List.nil_append, List.append_nil, List.getElem?_cons_zero, List.getElem?_cons_succ, List.getElem?_nil, Nat.reduceAdd, Nat.reduceSub, List.set_cons_zero, List.set_cons_succ, decide_true, decide_false, if_true, if_false, Bool.false_eq_true, Bool.true_eq_false, Bool.not_true, Bool.not_false, List.any_cons, List.any_nil, List.all_cons, List.all_nil, Bool.or_false, Bool.or_true, Bool.false_or, Bool.true_or, Bool.and_true, Bool.and_false, Bool.true_and, Bool.false_and, reduceCtorEq, String.reduceEq, beq_self_eq_true, String.reduceBEq, at0, at1, at2, at3, Int.reduceEq, true_and, and_true, sizeLine, Nat.reducePow, Nat.reduceLeDiff, Nat.reduceLT, Int.natCast_add, Int.cast_ofNat_Int, Int.reduceLT, Int.reduceLE]
      refine ⟨by have := h.1; omega, fun p hp => ?_⟩
      rw [Int.toNat_natCast]
      refine same_turn (.inr rfl) h.1 h.2 ?_
      simp only [dNewD, dDput, putDk, dExtend, dLock, dKeysI, rDin, rDget, dictD, keyD, dTupRg, dIndexF, dOrT, dAndT, dSeqA, dCont, dRet, dRetN, dSeq, dIfS, dDrop, dSet, gNm, dNext, dAndV, dOrV, dNotV, dAnd, dOr, dNot, dIf, dTru, dBool, dOp, dVar, dC, dCa, dCons, dNil, dTup, dLst, dFrz, frzD, dSl, dNo, dPart, slD, dNeg, dChain, rIsD, rEqS, eqS, DL.rInD, inD, eqF_str, flatD_str, flatD_int, rTypeD, tyD, rLenD, lenD, DL.rIxD, rIntD, rAddD, rTupleD, DL.rListD, rAllD, itemsD, itemsL, rToInt, isD, DL.isNon, isBl, startD, endsOf, dLc, dSeqT, dSeqL, dZip, dRev, dRng1, dFor, dListEnum, wipeD, gTp, gsCons, gsNil, rKdIx, rKdIn, gob, truD, dPop, dAppend, List.isEmpty_cons, List.isEmpty_nil, cut_to1, cut_from1, cut_init, List.drop_one, List.tail_cons, List.take_succ_cons, List.take_zero, bools_true, all_true, mset_same, mset_mset, List.map_cons, List.map_nil, List.length_cons, List.length_nil, List.replicate, List.cons_append, List.nil_append, List.append_nil, List.getElem?_cons_zero, List.getElem?_cons_succ, List.getElem?_nil, Nat.reduceAdd, Nat.reduceSub, List.set_cons_zero, List.set_cons_succ, decide_true, decide_false, if_true, if_false, Bool.false_eq_true, Bool.true_eq_false, Bool.not_true, Bool.not_false, List.any_cons, List.any_nil, List.all_cons, List.all_nil, Bool.or_false, Bool.or_true, Bool.false_or, Bool.true_or, Bool.and_true, Bool.and_false, Bool.true_and, Bool.false_and, reduceCtorEq, String.reduceEq, beq_self_eq_true, String.reduceBEq, at0, at1, at2, at3, Int.reduceEq, true_and, and_true, sizeLine, Nat.reducePow, Nat.reduceLeDiff, Nat.reduceLT, Int.natCast_add, Int.cast_ofNat_Int, Int.reduceLT, Int.reduceLE]
      exact ⟨_, sub_mset hp Sub.refl, q⟩
theorem none_same : FnOk P w K mg base CX0 0 f fd ["found", "due"] (spUp K (sp_same 0)) := by
  have no : ∀ vs H Q E, ¬ spUp K (sp_same 0) vs H Q E := fun vs H Q E ⟨ds, μ, _, _, h⟩ => h
  exact ⟨fun vs H Q E h => absurd h (no vs H Q E), fun A outer s H args us vs Q E _ _ _ _ h => absurd h (no vs H Q E)⟩
theorem ok_same (B : NoG mg) (F : Fun K "_law_same" "_law_same" s_law_same f fd) (m : mg "_law_same" = some (.ref f)) (b : Binds K fd ["found", "due"] []) : ∀ n : Nat, FnOk P w K mg base CX0 n f fd ["found", "due"] (spUp K (sp_same n))
  | 0 => none_same
  | n + 1 => ok_same_step B n F ⟨ok_same B F m b n, mono_same n, m, F.kp, b⟩
end
end VB
end K70

set_option Elab.async false
set_option linter.all false
set_option maxRecDepth 100000
set_option maxHeartbeats 4000000
namespace K70
open PySem PySem.Spec PyProof.Rows L2 NdefX LamX DL
namespace VB
theorem sc_law_places : FnScope ["thing", "inside", "one"] ["thing"] (defScope s_law_places) := ⟨rfl, rfl, rfl, by decide +kernel, rfl, by decide +kernel, by decide +kernel⟩
theorem sc_law_reached : FnScope ["state", "known", "at", "address", "one"] ["state"] (defScope s_law_reached) := ⟨rfl, rfl, rfl, by decide +kernel, rfl, by decide +kernel, by decide +kernel⟩
theorem sc_law_anew : FnScope ["known", "one"] ["known", "one"] (defScope s_law_anew) := ⟨rfl, rfl, rfl, by decide +kernel, rfl, by decide +kernel, by decide +kernel⟩
theorem sc_law_thing_anew : FnScope ["known", "thing", "one"] ["known", "thing"] (defScope s_law_thing_anew) := ⟨rfl, rfl, rfl, by decide +kernel, rfl, by decide +kernel, by decide +kernel⟩
theorem sc_law_gone : FnScope ["state", "known", "registers", "one", "address"] ["state"] (defScope s_law_gone) := ⟨rfl, rfl, rfl, by decide +kernel, rfl, by decide +kernel, by decide +kernel⟩
def pls : List Wo → List Nat
  | [] => []
  | .pl k :: ws => k :: pls ws
  | _ :: ws => pls ws
theorem mem_pls {k : Nat} : ∀ {ws : List Wo}, k ∈ pls ws ↔ Wo.pl k ∈ ws
  | [] => by simp [pls]
  | .pl j :: ws => by
    unfold pls
    rw [List.mem_cons, List.mem_cons, mem_pls, Wo.pl.injEq]
  | .non :: ws => by unfold pls; rw [List.mem_cons, mem_pls]; simp
  | .int _ :: ws => by unfold pls; rw [List.mem_cons, mem_pls]; simp
  | .lab _ :: ws => by unfold pls; rw [List.mem_cons, mem_pls]; simp
theorem len_pls : ∀ ws : List Wo, (pls ws).length ≤ ws.length
  | [] => Nat.le_refl _
  | .pl j :: ws => Nat.succ_le_succ (len_pls ws)
  | .non :: ws => Nat.le_succ_of_le (len_pls ws)
  | .int _ :: ws => Nat.le_succ_of_le (len_pls ws)
  | .lab _ :: ws => Nat.le_succ_of_le (len_pls ws)
def isPl : D → Bool
  | .tup (.str s :: _) => s == "place"
  | _ => false
def plOf : D → D
  | .tup [_, x] => x
  | _ => .non
theorem pick_pls : ∀ ws : List Wo, ((ws.map woD).filter isPl).map plOf = (ni (pls ws)).map D.int
  | [] => rfl
  | .pl j :: ws => by
    rw [List.map_cons, List.filter_cons_of_pos (by rfl), List.map_cons, pick_pls ws]; rfl
  | .non :: ws => by rw [List.map_cons, List.filter_cons_of_neg (by simp [woD, isPl]), pick_pls ws]; rfl
  | .int _ :: ws => by rw [List.map_cons, List.filter_cons_of_neg (by simp [woD, isPl]), pick_pls ws]; rfl
  | .lab _ :: ws => by rw [List.map_cons, List.filter_cons_of_neg (by simp [woD, isPl]), pick_pls ws]; rfl
section
variable {P : Program} {w : World} {K : PySem.W.Frag} {mg : Str → Option Value} {base : Heap} {f : Addr} {fd : FuncData}
def sp_places : RLD := fun ds μ Q => ∃ t : Th, ds = [thD t] ∧ t.ws.length ≤ 5 ∧ ∀ p, μ p = none → Q (.ob p) (mset μ p (.lst ((ni (pls t.ws)).map D.int)))
theorem mono_places : MonoL sp_places := fun ds μ Q Q' i ⟨t, h1, h2, q⟩ => ⟨t, h1, h2, fun p hp => i _ _ (q p hp)⟩
theorem ok_places (B : NoG mg) (F : Fun K "_law_places" "_law_places" s_law_places f fd) : FnOk P w K mg base CX0 1 f fd ["thing"] (spUp K sp_places) := by
  refine okD F sc_law_places (fun ds μ Q ⟨t, e, _⟩ => by rw [e]; rfl) fun cdv A outer s H E hr => ⟨_, (ds_cons (d_set 1 sc_law_places.nd (d_if (dt_cmp o_eqS (d_ix ix_ok (d_var 0) d_int) (d_str "room" rfl) (nomark _)) (d_ix ix_ok (d_var 0) d_int) (d_tup (da_cons (d_ix ix_ok (d_var 0) (d_neg d_int)) da_nil))))
      (ds_one (d_ret (d_lc rfl sc_law_places.nd (di_tup (d_var 1)) (blk_ok2 (N := ["thing", "inside", "one"]) (sc := defScope s_law_places) (own := [("one", 2)]) (by rfl) (by decide +kernel) (by decide +kernel) (by decide +kernel) (by decide +kernel)) (fun _ _ _ _ _ => (dg_name 2 sc_law_places.nd)) (fun _ _ _ _ _ => (dts_one (PWD.ptd (dw_and (dt_cmp o_isNot (d_var 2) d_non (nomark _)) (dw_and1 (dt_cmp o_eqS (d_ix ix_ok (d_var 2) d_int) (d_str "place" rfl) (nomark _))))))) (fun _ _ _ _ _ => (d_ix ix_ok (d_var 2) d_int)))))), ?_⟩
  rintro ds μ Q ⟨t, rfl, hl, q⟩
  refine q_by (fun d μ' => μ' = μ ∧ d = .tup (t.ws.map woD)) (fun k hk => ?_) ?_
  · cases t with
    | room ws =>
      simp only [thD]
      simp only [dNewD, dDput, putDk, dExtend, dLock, dKeysI, rDin, rDget, dictD, keyD, dTupRg, dIndexF, dOrT, dAndT, dSeqA, dCont, dRet, dRetN, dSeq, dIfS, dDrop, dSet, gNm, dNext, dAndV, dOrV, dNotV, dAnd, dOr, dNot, dIf, dTru, dBool, dOp, dVar, dC, dCa, dCons, dNil, dTup, dLst, dFrz, frzD, dSl, dNo, dPart, slD, dNeg, dChain, rIsD, rEqS, eqS, DL.rInD, inD, eqF_str, flatD_str, flatD_int, rTypeD, tyD, rLenD, lenD, DL.rIxD, rIntD, rAddD, rTupleD, DL.rListD, rAllD, itemsD, itemsL, rToInt, isD, DL.isNon, isBl, startD, endsOf, dLc, dSeqT, dSeqL, dZip, dRev, dRng1, dFor, dListEnum, wipeD, gTp, gsCons, gsNil, rKdIx, rKdIn, gob, truD, dPop, dAppend, List.isEmpty_cons, List.isEmpty_nil, cut_to1, cut_from1, cut_init, List.drop_one, List.tail_cons, List.take_succ_cons, List.take_zero, bools_true, all_true, mset_same, mset_mset, List.map_cons, List.map_nil, List.length_cons, List.length_nil, List.replicate, List.cons_append, List.nil_append, List.append_nil, List.getElem?_cons_zero, List.getElem?_cons_succ, List.getElem?_nil, Nat.reduceAdd, Nat.reduceSub, List.set_cons_zero, List.set_cons_succ, decide_true, decide_false, if_true, if_false, Bool.false_eq_true, Bool.true_eq_false, Bool.not_true, Bool.not_false, List.any_cons, List.any_nil, List.all_cons, List.all_nil, Bool.or_false, Bool.or_true, Bool.false_or, Bool.true_or, Bool.and_true, Bool.and_false, Bool.true_and, Bool.false_and, reduceCtorEq, String.reduceEq, beq_self_eq_true, String.reduceBEq, at0, at1, at2, at3, Int.reduceEq, true_and, and_true, sizeLine, Nat.reducePow, Nat.reduceLeDiff, Nat.reduceLT, Int.natCast_add, Int.cast_ofNat_Int, Int.reduceLT, Int.reduceLE]
      exact hk _ _ ⟨rfl, rfl⟩
    | cell x =>
      simp only [thD]
      simp only [dNewD, dDput, putDk, dExtend, dLock, dKeysI, rDin, rDget, dictD, keyD, dTupRg, dIndexF, dOrT, dAndT, dSeqA, dCont, dRet, dRetN, dSeq, dIfS, dDrop, dSet, gNm, dNext, dAndV, dOrV, dNotV, dAnd, dOr, dNot, dIf, dTru, dBool, dOp, dVar, dC, dCa, dCons, dNil, dTup, dLst, dFrz, frzD, dSl, dNo, dPart, slD, dNeg, dChain, rIsD, rEqS, eqS, DL.rInD, inD, eqF_str, flatD_str, flatD_int, rTypeD, tyD, rLenD, lenD, DL.rIxD, rIntD, rAddD, rTupleD, DL.rListD, rAllD, itemsD, itemsL, rToInt, isD, DL.isNon, isBl, startD, endsOf, dLc, dSeqT, dSeqL, dZip, dRev, dRng1, dFor, dListEnum, wipeD, gTp, gsCons, gsNil, rKdIx, rKdIn, gob, truD, dPop, dAppend, List.isEmpty_cons, List.isEmpty_nil, cut_to1, cut_from1, cut_init, List.drop_one, List.tail_cons, List.take_succ_cons, List.take_zero, bools_true, all_true, mset_same, mset_mset, List.map_cons, List.map_nil, List.length_cons, List.length_nil, List.replicate, List.cons_append, List.nil_append, List.append_nil, List.getElem?_cons_zero, List.getElem?_cons_succ, List.getElem?_nil, Nat.reduceAdd, Nat.reduceSub, List.set_cons_zero, List.set_cons_succ, decide_true, decide_false, if_true, if_false, Bool.false_eq_true, Bool.true_eq_false, Bool.not_true, Bool.not_false, List.any_cons, List.any_nil, List.all_cons, List.all_nil, Bool.or_false, Bool.or_true, Bool.false_or, Bool.true_or, Bool.and_true, Bool.and_false, Bool.true_and, Bool.false_and, reduceCtorEq, String.reduceEq, beq_self_eq_true, String.reduceBEq, at0, at1, at2, at3, Int.reduceEq, true_and, and_true, sizeLine, Nat.reducePow, Nat.reduceLeDiff, Nat.reduceLT, Int.natCast_add, Int.cast_ofNat_Int, Int.reduceLT, Int.reduceLE]
      simp only [am2]
      try simp only [dNewD, dDput, putDk, dExtend, dLock, dKeysI, rDin, rDget, dictD, keyD, dTupRg, dIndexF, dOrT, dAndT, dSeqA, dCont, dRet, dRetN, dSeq, dIfS, dDrop, dSet, gNm, dNext, dAndV, dOrV, dNotV, dAnd, dOr, dNot, dIf, dTru, dBool, dOp, dVar, dC, dCa, dCons, dNil, dTup, dLst, dFrz, frzD, dSl, dNo, dPart, slD, dNeg, dChain, rIsD, rEqS, eqS, DL.rInD, inD, eqF_str, flatD_str, flatD_int, rTypeD, tyD, rLenD, lenD, DL.rIxD, rIntD, rAddD, rTupleD, DL.rListD, rAllD, itemsD, itemsL, rToInt, isD, DL.isNon, isBl, startD, endsOf, dLc, dSeqT, dSeqL, dZip, dRev, dRng1, dFor, dListEnum, wipeD, gTp, gsCons, gsNil, rKdIx, rKdIn, gob, truD, dPop, dAppend, List.isEmpty_cons, List.isEmpty_nil, cut_to1, cut_from1, cut_init, List.drop_one, List.tail_cons, List.take_succ_cons, List.take_zero, bools_true, all_true, mset_same, mset_mset, List.map_cons, List.map_nil, List.length_cons, List.length_nil, List.replicate, List.cons_append, List.nil_append, List.append_nil, List.getElem?_cons_zero, List.getElem?_cons_succ, List.getElem?_nil, Nat.reduceAdd, Nat.reduceSub, List.set_cons_zero, List.set_cons_succ, decide_true, decide_false, if_true, if_false, Bool.false_eq_true, Bool.true_eq_false, Bool.not_true, Bool.not_false, List.any_cons, List.any_nil, List.all_cons, List.all_nil, Bool.or_false, Bool.or_true, Bool.false_or, Bool.true_or, Bool.and_true, Bool.and_false, Bool.true_and, Bool.false_and, reduceCtorEq, String.reduceEq, beq_self_eq_true, String.reduceBEq, at0, at1, at2, at3, Int.reduceEq, true_and, and_true, sizeLine, Nat.reducePow, Nat.reduceLeDiff, Nat.reduceLT, Int.natCast_add, Int.cast_ofNat_Int, Int.reduceLT, Int.reduceLE]
      exact hk _ _ ⟨rfl, rfl⟩
    | tag i x =>
      simp only [thD]
      simp only [dNewD, dDput, putDk, dExtend, dLock, dKeysI, rDin, rDget, dictD, keyD, dTupRg, dIndexF, dOrT, dAndT, dSeqA, dCont, dRet, dRetN, dSeq, dIfS, dDrop, dSet, gNm, dNext, dAndV, dOrV, dNotV, dAnd, dOr, dNot, dIf, dTru, dBool, dOp, dVar, dC, dCa, dCons, dNil, dTup, dLst, dFrz, frzD, dSl, dNo, dPart, slD, dNeg, dChain, rIsD, rEqS, eqS, DL.rInD, inD, eqF_str, flatD_str, flatD_int, rTypeD, tyD, rLenD, lenD, DL.rIxD, rIntD, rAddD, rTupleD, DL.rListD, rAllD, itemsD, itemsL, rToInt, isD, DL.isNon, isBl, startD, endsOf, dLc, dSeqT, dSeqL, dZip, dRev, dRng1, dFor, dListEnum, wipeD, gTp, gsCons, gsNil, rKdIx, rKdIn, gob, truD, dPop, dAppend, List.isEmpty_cons, List.isEmpty_nil, cut_to1, cut_from1, cut_init, List.drop_one, List.tail_cons, List.take_succ_cons, List.take_zero, bools_true, all_true, mset_same, mset_mset, List.map_cons, List.map_nil, List.length_cons, List.length_nil, List.replicate, List.cons_append, List.nil_append, List.append_nil, List.getElem?_cons_zero, List.getElem?_cons_succ, List.getElem?_nil, Nat.reduceAdd, Nat.reduceSub, List.set_cons_zero, List.set_cons_succ, decide_true, decide_false, if_true, if_false, Bool.false_eq_true, Bool.true_eq_false, Bool.not_true, Bool.not_false, List.any_cons, List.any_nil, List.all_cons, List.all_nil, Bool.or_false, Bool.or_true, Bool.false_or, Bool.true_or, Bool.and_true, Bool.and_false, Bool.true_and, Bool.false_and, reduceCtorEq, String.reduceEq, beq_self_eq_true, String.reduceBEq, at0, at1, at2, at3, Int.reduceEq, true_and, and_true, sizeLine, Nat.reducePow, Nat.reduceLeDiff, Nat.reduceLT, Int.natCast_add, Int.cast_ofNat_Int, Int.reduceLT, Int.reduceLE]
      simp only [am3]
      try simp only [dNewD, dDput, putDk, dExtend, dLock, dKeysI, rDin, rDget, dictD, keyD, dTupRg, dIndexF, dOrT, dAndT, dSeqA, dCont, dRet, dRetN, dSeq, dIfS, dDrop, dSet, gNm, dNext, dAndV, dOrV, dNotV, dAnd, dOr, dNot, dIf, dTru, dBool, dOp, dVar, dC, dCa, dCons, dNil, dTup, dLst, dFrz, frzD, dSl, dNo, dPart, slD, dNeg, dChain, rIsD, rEqS, eqS, DL.rInD, inD, eqF_str, flatD_str, flatD_int, rTypeD, tyD, rLenD, lenD, DL.rIxD, rIntD, rAddD, rTupleD, DL.rListD, rAllD, itemsD, itemsL, rToInt, isD, DL.isNon, isBl, startD, endsOf, dLc, dSeqT, dSeqL, dZip, dRev, dRng1, dFor, dListEnum, wipeD, gTp, gsCons, gsNil, rKdIx, rKdIn, gob, truD, dPop, dAppend, List.isEmpty_cons, List.isEmpty_nil, cut_to1, cut_from1, cut_init, List.drop_one, List.tail_cons, List.take_succ_cons, List.take_zero, bools_true, all_true, mset_same, mset_mset, List.map_cons, List.map_nil, List.length_cons, List.length_nil, List.replicate, List.cons_append, List.nil_append, List.append_nil, List.getElem?_cons_zero, List.getElem?_cons_succ, List.getElem?_nil, Nat.reduceAdd, Nat.reduceSub, List.set_cons_zero, List.set_cons_succ, decide_true, decide_false, if_true, if_false, Bool.false_eq_true, Bool.true_eq_false, Bool.not_true, Bool.not_false, List.any_cons, List.any_nil, List.all_cons, List.all_nil, Bool.or_false, Bool.or_true, Bool.false_or, Bool.true_or, Bool.and_true, Bool.and_false, Bool.true_and, Bool.false_and, reduceCtorEq, String.reduceEq, beq_self_eq_true, String.reduceBEq, at0, at1, at2, at3, Int.reduceEq, true_and, and_true, sizeLine, Nat.reducePow, Nat.reduceLeDiff, Nat.reduceLT, Int.natCast_add, Int.cast_ofNat_Int, Int.reduceLT, Int.reduceLE]
      exact hk _ _ ⟨rfl, rfl⟩
  rintro d μ' ⟨rfl, rfl⟩
  simp only [dNewD, dDput, putDk, dExtend, dLock, dKeysI, rDin, rDget, dictD, keyD, dTupRg, dIndexF, dOrT, dAndT, dSeqA, dCont, dRet, dRetN, dSeq, dIfS, dDrop, dSet, gNm, dNext, dAndV, dOrV, dNotV, dAnd, dOr, dNot, dIf, dTru, dBool, dOp, dVar, dC, dCa, dCons, dNil, dTup, dLst, dFrz, frzD, dSl, dNo, dPart, slD, dNeg, dChain, rIsD, rEqS, eqS, DL.rInD, inD, eqF_str, flatD_str, flatD_int, rTypeD, tyD, rLenD, lenD, DL.rIxD, rIntD, rAddD, rTupleD, DL.rListD, rAllD, itemsD, itemsL, rToInt, isD, DL.isNon, isBl, startD, endsOf, dLc, dSeqT, dSeqL, dZip, dRev, dRng1, dFor, dListEnum, wipeD, gTp, gsCons, gsNil, rKdIx, rKdIn, gob, truD, dPop, dAppend, List.isEmpty_cons, List.isEmpty_nil, cut_to1, cut_from1, cut_init, List.drop_one, List.tail_cons, List.take_succ_cons, List.take_zero, bools_true, all_true, mset_same, mset_mset, List.map_cons, List.map_nil, List.length_cons, List.length_nil, List.replicate, List.cons_append, List.nil_append, List.append_nil, List.getElem?_cons_zero, List.getElem?_cons_succ, List.getElem?_nil, Nat.reduceAdd, Nat.reduceSub, List.set_cons_zero, List.set_cons_succ, decide_true, decide_false, if_true, if_false, Bool.false_eq_true, Bool.true_eq_false, Bool.not_true, Bool.not_false, List.any_cons, List.any_nil, List.all_cons, List.all_nil, Bool.or_false, Bool.or_true, Bool.false_or, Bool.true_or, Bool.and_true, Bool.and_false, Bool.true_and, Bool.false_and, reduceCtorEq, String.reduceEq, beq_self_eq_true, String.reduceBEq, at0, at1, at2, at3, Int.reduceEq, true_and, and_true, sizeLine, Nat.reducePow, Nat.reduceLeDiff, Nat.reduceLT, Int.natCast_add, Int.cast_ofNat_Int, Int.reduceLT, Int.reduceLE]
  intro p hp
  refine lc_pick plOf isPl _ [] _ mset_same (by rw [List.length_map]; show 0 + _ ≤ 2 ^ 24; omega) (fun d hd acc k r h => ?_) ?_
  · obtain ⟨x, hx, rfl⟩ := List.mem_map.mp hd
    rw [mset_mset] at h ⊢
    cases x with
    | pl k =>
      simp only [woD, isPl, plOf, beq_self_eq_true, if_true] at h
      simp only [woD]
      simp only [dNewD, dDput, putDk, dExtend, dLock, dKeysI, rDin, rDget, dictD, keyD, dTupRg, dIndexF, dOrT, dAndT, dSeqA, dCont, dRet, dRetN, dSeq, dIfS, dDrop, dSet, gNm, dNext, dAndV, dOrV, dNotV, dAnd, dOr, dNot, dIf, dTru, dBool, dOp, dVar, dC, dCa, dCons, dNil, dTup, dLst, dFrz, frzD, dSl, dNo, dPart, slD, dNeg, dChain, rIsD, rEqS, eqS, DL.rInD, inD, eqF_str, flatD_str, flatD_int, rTypeD, tyD, rLenD, lenD, DL.rIxD, rIntD, rAddD, rTupleD, DL.rListD, rAllD, itemsD, itemsL, rToInt, isD, DL.isNon, isBl, startD, endsOf, dLc, dSeqT, dSeqL, dZip, dRev, dRng1, dFor, dListEnum, wipeD, gTp, gsCons, gsNil, rKdIx, rKdIn, gob, truD, dPop, dAppend, List.isEmpty_cons, List.isEmpty_nil, cut_to1, cut_from1, cut_init, List.drop_one, List.tail_cons, List.take_succ_cons, List.take_zero, bools_true, all_true, mset_same, mset_mset, List.map_cons, List.map_nil, List.length_cons, List.length_nil, List.replicate, List.cons_append, List.nil_append, List.append_nil, List.getElem?_cons_zero, List.getElem?_cons_succ, List.getElem?_nil, Nat.reduceAdd, Nat.reduceSub, List.set_cons_zero, List.set_cons_succ, decide_true, decide_false, if_true, if_false, Bool.false_eq_true, Bool.true_eq_false, Bool.not_true, Bool.not_false, List.any_cons, List.any_nil, List.all_cons, List.all_nil, Bool.or_false, Bool.or_true, Bool.false_or, Bool.true_or, Bool.and_true, Bool.and_false, Bool.true_and, Bool.false_and, reduceCtorEq, String.reduceEq, beq_self_eq_true, String.reduceBEq, at0, at1, at2, at3, Int.reduceEq, true_and, and_true, sizeLine, Nat.reducePow, Nat.reduceLeDiff, Nat.reduceLT, Int.natCast_add, Int.cast_ofNat_Int, Int.reduceLT, Int.reduceLE]
      exact h
    | non =>
      simp only [woD, isPl, Bool.false_eq_true, if_false] at h
      simp only [woD]
      simp only [dNewD, dDput, putDk, dExtend, dLock, dKeysI, rDin, rDget, dictD, keyD, dTupRg, dIndexF, dOrT, dAndT, dSeqA, dCont, dRet, dRetN, dSeq, dIfS, dDrop, dSet, gNm, dNext, dAndV, dOrV, dNotV, dAnd, dOr, dNot, dIf, dTru, dBool, dOp, dVar, dC, dCa, dCons, dNil, dTup, dLst, dFrz, frzD, dSl, dNo, dPart, slD, dNeg, dChain, rIsD, rEqS, eqS, DL.rInD, inD, eqF_str, flatD_str, flatD_int, rTypeD, tyD, rLenD, lenD, DL.rIxD, rIntD, rAddD, rTupleD, DL.rListD, rAllD, itemsD, itemsL, rToInt, isD, DL.isNon, isBl, startD, endsOf, dLc, dSeqT, dSeqL, dZip, dRev, dRng1, dFor, dListEnum, wipeD, gTp, gsCons, gsNil, rKdIx, rKdIn, gob, truD, dPop, dAppend, List.isEmpty_cons, List.isEmpty_nil, cut_to1, cut_from1, cut_init, List.drop_one, List.tail_cons, List.take_succ_cons, List.take_zero, bools_true, all_true, mset_same, mset_mset, List.map_cons, List.map_nil, List.length_cons, List.length_nil, List.replicate, List.cons_append, List.nil_append, List.append_nil, List.getElem?_cons_zero, List.getElem?_cons_succ, List.getElem?_nil, Nat.reduceAdd, Nat.reduceSub, List.set_cons_zero, List.set_cons_succ, decide_true, decide_false, if_true, if_false, Bool.false_eq_true, Bool.true_eq_false, Bool.not_true, Bool.not_false, List.any_cons, List.any_nil, List.all_cons, List.all_nil, Bool.or_false, Bool.or_true, Bool.false_or, Bool.true_or, Bool.and_true, Bool.and_false, Bool.true_and, Bool.false_and, reduceCtorEq, String.reduceEq, beq_self_eq_true, String.reduceBEq, at0, at1, at2, at3, Int.reduceEq, true_and, and_true, sizeLine, Nat.reducePow, Nat.reduceLeDiff, Nat.reduceLT, Int.natCast_add, Int.cast_ofNat_Int, Int.reduceLT, Int.reduceLE]
      exact h
    | int n =>
      have e : isPl (woD (.int n)) = false := by simp [woD, isPl]
      rw [e] at h
      simp only [Bool.false_eq_true, if_false] at h
      simp only [woD]
      simp only [dNewD, dDput, putDk, dExtend, dLock, dKeysI, rDin, rDget, dictD, keyD, dTupRg, dIndexF, dOrT, dAndT, dSeqA, dCont, dRet, dRetN, dSeq, dIfS, dDrop, dSet, gNm, dNext, dAndV, dOrV, dNotV, dAnd, dOr, dNot, dIf, dTru, dBool, dOp, dVar, dC, dCa, dCons, dNil, dTup, dLst, dFrz, frzD, dSl, dNo, dPart, slD, dNeg, dChain, rIsD, rEqS, eqS, DL.rInD, inD, eqF_str, flatD_str, flatD_int, rTypeD, tyD, rLenD, lenD, DL.rIxD, rIntD, rAddD, rTupleD, DL.rListD, rAllD, itemsD, itemsL, rToInt, isD, DL.isNon, isBl, startD, endsOf, dLc, dSeqT, dSeqL, dZip, dRev, dRng1, dFor, dListEnum, wipeD, gTp, gsCons, gsNil, rKdIx, rKdIn, gob, truD, dPop, dAppend, List.isEmpty_cons, List.isEmpty_nil, cut_to1, cut_from1, cut_init, List.drop_one, List.tail_cons, List.take_succ_cons, List.take_zero, bools_true, all_true, mset_same, mset_mset, List.map_cons, List.map_nil, List.length_cons, List.length_nil, List.replicate, List.cons_append, List.nil_append, List.append_nil, List.getElem?_cons_zero, List.getElem?_cons_succ, List.getElem?_nil, Nat.reduceAdd, Nat.reduceSub, List.set_cons_zero, List.set_cons_succ, decide_true, decide_false, if_true, if_false, Bool.false_eq_true, Bool.true_eq_false, Bool.not_true, Bool.not_false, List.any_cons, List.any_nil, List.all_cons, List.all_nil, Bool.or_false, Bool.or_true, Bool.false_or, Bool.true_or, Bool.and_true, Bool.and_false, Bool.true_and, Bool.false_and, reduceCtorEq, String.reduceEq, beq_self_eq_true, String.reduceBEq, at0, at1, at2, at3, Int.reduceEq, true_and, and_true, sizeLine, Nat.reducePow, Nat.reduceLeDiff, Nat.reduceLT, Int.natCast_add, Int.cast_ofNat_Int, Int.reduceLT, Int.reduceLE]
      exact h
    | lab n =>
      have e : isPl (woD (.lab n)) = false := by simp [woD, isPl]
      rw [e] at h
      simp only [Bool.false_eq_true, if_false] at h
      simp only [woD]
      simp only [dNewD, dDput, putDk, dExtend, dLock, dKeysI, rDin, rDget, dictD, keyD, dTupRg, dIndexF, dOrT, dAndT, dSeqA, dCont, dRet, dRetN, dSeq, dIfS, dDrop, dSet, gNm, dNext, dAndV, dOrV, dNotV, dAnd, dOr, dNot, dIf, dTru, dBool, dOp, dVar, dC, dCa, dCons, dNil, dTup, dLst, dFrz, frzD, dSl, dNo, dPart, slD, dNeg, dChain, rIsD, rEqS, eqS, DL.rInD, inD, eqF_str, flatD_str, flatD_int, rTypeD, tyD, rLenD, lenD, DL.rIxD, rIntD, rAddD, rTupleD, DL.rListD, rAllD, itemsD, itemsL, rToInt, isD, DL.isNon, isBl, startD, endsOf, dLc, dSeqT, dSeqL, dZip, dRev, dRng1, dFor, dListEnum, wipeD, gTp, gsCons, gsNil, rKdIx, rKdIn, gob, truD, dPop, dAppend, List.isEmpty_cons, List.isEmpty_nil, cut_to1, cut_from1, cut_init, List.drop_one, List.tail_cons, List.take_succ_cons, List.take_zero, bools_true, all_true, mset_same, mset_mset, List.map_cons, List.map_nil, List.length_cons, List.length_nil, List.replicate, List.cons_append, List.nil_append, List.append_nil, List.getElem?_cons_zero, List.getElem?_cons_succ, List.getElem?_nil, Nat.reduceAdd, Nat.reduceSub, List.set_cons_zero, List.set_cons_succ, decide_true, decide_false, if_true, if_false, Bool.false_eq_true, Bool.true_eq_false, Bool.not_true, Bool.not_false, List.any_cons, List.any_nil, List.all_cons, List.all_nil, Bool.or_false, Bool.or_true, Bool.false_or, Bool.true_or, Bool.and_true, Bool.and_false, Bool.true_and, Bool.false_and, reduceCtorEq, String.reduceEq, beq_self_eq_true, String.reduceBEq, at0, at1, at2, at3, Int.reduceEq, true_and, and_true, sizeLine, Nat.reducePow, Nat.reduceLeDiff, Nat.reduceLT, Int.natCast_add, Int.cast_ofNat_Int, Int.reduceLT, Int.reduceLE]
      exact h
  · rw [mset_mset, List.nil_append, pick_pls]
    exact ⟨_, Sub.refl, q p hp⟩
/-! ### by where it stands -/
abbrev iN (l : List Nat) : List D := (ni l).map D.int
theorem iN_at {l : List Nat} {j k : Nat} (h : l[j]? = some k) : (iN l)[j]? = some (.int (k : Nat)) := by
  unfold iN ni
  rw [List.getElem?_map, List.getElem?_map, h]; rfl
theorem iN_flat (l : List Nat) : (iN l).all flatD = true := by
  induction l with
  | nil => rfl
  | cons a l ih => rw [show iN (a :: l) = D.int (a : Nat) :: iN l from rfl, List.all_cons, ih]; rfl
theorem eqF_int (a b : Nat) : eqF (.int (a : Nat)) (.int (b : Nat)) = decide (a = b) := by
  have : eqF (.int (a : Nat)) (.int (b : Nat)) = ((a : Int) == (b : Int)) := rfl
  rw [this]
  by_cases c : a = b
  · subst c; simp
  · have : ¬ ((a : Int) = (b : Int)) := fun z => c (Int.ofNat.inj z)
    simp [c, this]
theorem iN_in (l : List Nat) (k : Nat) : ((iN l).any fun d => eqF d (.int (k : Nat))) = decide (k ∈ l) := by
  induction l with
  | nil => rfl
  | cons a l ih =>
    rw [show iN (a :: l) = D.int (a : Nat) :: iN l from rfl, List.any_cons, ih, eqF_int]
    by_cases c : a = k
    · subst c; simp
    · simp [c, Ne.symm c]
def sp_anew : RLD := fun ds μ Q => ∃ (l : List Nat) (x : Wo), ds = [.lst (iN l), woD x] ∧ (∀ k, x = .pl k → k ∈ l) ∧ Q (woD (mv l x)) μ
theorem mono_anew : MonoL sp_anew := fun ds μ Q Q' i ⟨l, t, h1, h2, q⟩ => ⟨l, t, h1, h2, i _ _ q⟩
theorem ok_anew (B : NoG mg) (F : Fun K "_law_anew" "_law_anew" s_law_anew f fd) : FnOk P w K mg base CX0 1 f fd ["known", "one"] (spUp K sp_anew) := by
  refine okD F sc_law_anew (fun ds μ Q ⟨l, t, e, _⟩ => by rw [e]; rfl) fun cdv A outer s H E hr => ⟨_, (ds_cons (d_ifS (PWD.ptd (dw_or (dt_cmp o_is (d_var 1) d_non (nomark _)) (dw_or1 (dt_cmp o_neS (d_ix ix_ok (d_var 1) d_int) (d_str "place" rfl) (nomark _))))) (ds_one (d_ret (d_var 1))) ds_nil)
      (ds_one (d_ret (d_tup (da_cons (d_str "place" rfl) (da_cons (d_indexF (d_var 0) (da_cons (d_ix ix_ok (d_var 1) d_int) da_nil)) da_nil)))))), ?_⟩
  rintro ds μ Q ⟨l, x, rfl, hx, q⟩
  cases x with
  | pl k =>
    simp only [woD, mv] at q ⊢
    simp only [dNewD, dDput, putDk, dExtend, dLock, dKeysI, rDin, rDget, dictD, keyD, dTupRg, dIndexF, dOrT, dAndT, dSeqA, dCont, dRet, dRetN, dSeq, dIfS, dDrop, dSet, gNm, dNext, dAndV, dOrV, dNotV, dAnd, dOr, dNot, dIf, dTru, dBool, dOp, dVar, dC, dCa, dCons, dNil, dTup, dLst, dFrz, frzD, dSl, dNo, dPart, slD, dNeg, dChain, rIsD, rEqS, eqS, DL.rInD, inD, eqF_str, flatD_str, flatD_int, rTypeD, tyD, rLenD, lenD, DL.rIxD, rIntD, rAddD, rTupleD, DL.rListD, rAllD, itemsD, itemsL, rToInt, isD, DL.isNon, isBl, startD, endsOf, dLc, dSeqT, dSeqL, dZip, dRev, dRng1, dFor, dListEnum, wipeD, gTp, gsCons, gsNil, rKdIx, rKdIn, gob, truD, dPop, dAppend, List.isEmpty_cons, List.isEmpty_nil, cut_to1, cut_from1, cut_init, List.drop_one, List.tail_cons, List.take_succ_cons, List.take_zero, bools_true, all_true, mset_same, mset_mset, List.map_cons, List.map_nil, List.length_cons, List.length_nil, List.replicate, List.cons_append, List.nil_append, List.append_nil, List.getElem?_cons_zero, List.getElem?_cons_succ, List.getElem?_nil, Nat.reduceAdd, Nat.reduceSub, List.set_cons_zero, List.set_cons_succ, decide_true, decide_false, if_true, if_false, Bool.false_eq_true, Bool.true_eq_false, Bool.not_true, Bool.not_false, List.any_cons, List.any_nil, List.all_cons, List.all_nil, Bool.or_false, Bool.or_true, Bool.false_or, Bool.true_or, Bool.and_true, Bool.and_false, Bool.true_and, Bool.false_and, reduceCtorEq, String.reduceEq, beq_self_eq_true, String.reduceBEq, at0, at1, at2, at3, Int.reduceEq, true_and, and_true, sizeLine, Nat.reducePow, Nat.reduceLeDiff, Nat.reduceLT, Int.natCast_add, Int.cast_ofNat_Int, Int.reduceLT, Int.reduceLE]
    have m := hx k rfl
    refine ⟨iN_flat l, ix l k, .int (k : Nat), iN_at (ix_at m), by rw [eqF_int]; simp, fun j z' hj e => ?_, retD_same q⟩
    have lj : j < l.length := Nat.lt_trans hj (ix_lt m)
    have e1 : l[j]? = some l[j] := List.getElem?_eq_getElem lj
    rw [iN_at e1] at e
    cases e
    rw [eqF_int]
    exact decide_eq_false (ix_before hj e1)
  | _ =>
    simp only [woD, mv] at q ⊢
    simp only [dNewD, dDput, putDk, dExtend, dLock, dKeysI, rDin, rDget, dictD, keyD, dTupRg, dIndexF, dOrT, dAndT, dSeqA, dCont, dRet, dRetN, dSeq, dIfS, dDrop, dSet, gNm, dNext, dAndV, dOrV, dNotV, dAnd, dOr, dNot, dIf, dTru, dBool, dOp, dVar, dC, dCa, dCons, dNil, dTup, dLst, dFrz, frzD, dSl, dNo, dPart, slD, dNeg, dChain, rIsD, rEqS, eqS, DL.rInD, inD, eqF_str, flatD_str, flatD_int, rTypeD, tyD, rLenD, lenD, DL.rIxD, rIntD, rAddD, rTupleD, DL.rListD, rAllD, itemsD, itemsL, rToInt, isD, DL.isNon, isBl, startD, endsOf, dLc, dSeqT, dSeqL, dZip, dRev, dRng1, dFor, dListEnum, wipeD, gTp, gsCons, gsNil, rKdIx, rKdIn, gob, truD, dPop, dAppend, List.isEmpty_cons, List.isEmpty_nil, cut_to1, cut_from1, cut_init, List.drop_one, List.tail_cons, List.take_succ_cons, List.take_zero, bools_true, all_true, mset_same, mset_mset, List.map_cons, List.map_nil, List.length_cons, List.length_nil, List.replicate, List.cons_append, List.nil_append, List.append_nil, List.getElem?_cons_zero, List.getElem?_cons_succ, List.getElem?_nil, Nat.reduceAdd, Nat.reduceSub, List.set_cons_zero, List.set_cons_succ, decide_true, decide_false, if_true, if_false, Bool.false_eq_true, Bool.true_eq_false, Bool.not_true, Bool.not_false, List.any_cons, List.any_nil, List.all_cons, List.all_nil, Bool.or_false, Bool.or_true, Bool.false_or, Bool.true_or, Bool.and_true, Bool.and_false, Bool.true_and, Bool.false_and, reduceCtorEq, String.reduceEq, beq_self_eq_true, String.reduceBEq, at0, at1, at2, at3, Int.reduceEq, true_and, and_true, sizeLine, Nat.reducePow, Nat.reduceLeDiff, Nat.reduceLT, Int.natCast_add, Int.cast_ofNat_Int, Int.reduceLT, Int.reduceLE]
    exact retD_same q
def sp_ta : RLD := fun ds μ Q => ∃ (l : List Nat) (t : Th), ds = [.lst (iN l), thD t] ∧ (∀ k, .pl k ∈ t.ws → k ∈ l) ∧ t.ws.length ≤ 1000 ∧ Q (thD (mvT l t)) μ
theorem mono_ta : MonoL sp_ta := fun ds μ Q Q' i ⟨l, t, h1, h2, h3, q⟩ => ⟨l, t, h1, h2, h3, i _ _ q⟩
theorem ok_thing_anew (B : NoG mg) {a1 : Addr} {d1 : FuncData} (F : Fun K "_law_thing_anew" "_law_thing_anew" s_law_thing_anew f fd) (Glaw_anew : Gt P w K mg base 1 "_law_anew" ["known", "one"] sp_anew a1 d1) : FnOk P w K mg base CX0 2 f fd ["known", "thing"] (spUp K sp_ta) := by
  refine okD F sc_law_thing_anew (fun ds μ Q ⟨l, t, e, _⟩ => by rw [e]; rfl) fun cdv A outer s H E hr => ⟨_, (ds_cons (d_ifS (dt_cmp o_eqS (d_ix ix_ok (d_var 1) d_int) (d_str "room" rfl) (nomark _)) (ds_one (d_ret (d_tup (da_cons (d_str "room" rfl) (da_cons (d_callTy c_tuple rfl B.tuple rfl (da_cons (d_lc rfl sc_law_thing_anew.nd (di_tup (d_ix ix_ok (d_var 1) d_int)) (blk_ok2 (N := ["known", "thing", "one"]) (sc := defScope s_law_thing_anew) (own := [("one", 2)]) (by rfl) (by decide +kernel) (by decide +kernel) (by decide +kernel) (by decide +kernel)) (fun _ _ _ _ _ => (dg_name 2 sc_law_thing_anew.nd)) (fun _ _ _ _ _ => dts_nil) (fun _ _ _ _ _ => (d_call Glaw_anew.F Glaw_anew.mono (hr.mono (by first | decide | omega)) Glaw_anew.m Glaw_anew.k Glaw_anew.b (da_cons (d_var 0) (da_cons (d_var 2) da_nil))))) da_nil)) da_nil))))) ds_nil)
      (ds_one (d_ret (d_op o_add (d_slice (d_var 1) dno (dpart (d_neg d_int))) (d_tup (da_cons (d_call Glaw_anew.F Glaw_anew.mono (hr.mono (by first | decide | omega)) Glaw_anew.m Glaw_anew.k Glaw_anew.b (da_cons (d_var 0) (da_cons (d_ix ix_ok (d_var 1) (d_neg d_int)) da_nil))) da_nil)))))), ?_⟩
  rintro ds μ Q ⟨l, t, rfl, hx, hl, q⟩
  cases t with
  | room ws =>
    simp only [thD, mvT] at q ⊢
    simp only [dNewD, dDput, putDk, dExtend, dLock, dKeysI, rDin, rDget, dictD, keyD, dTupRg, dIndexF, dOrT, dAndT, dSeqA, dCont, dRet, dRetN, dSeq, dIfS, dDrop, dSet, gNm, dNext, dAndV, dOrV, dNotV, dAnd, dOr, dNot, dIf, dTru, dBool, dOp, dVar, dC, dCa, dCons, dNil, dTup, dLst, dFrz, frzD, dSl, dNo, dPart, slD, dNeg, dChain, rIsD, rEqS, eqS, DL.rInD, inD, eqF_str, flatD_str, flatD_int, rTypeD, tyD, rLenD, lenD, DL.rIxD, rIntD, rAddD, rTupleD, DL.rListD, rAllD, itemsD, itemsL, rToInt, isD, DL.isNon, isBl, startD, endsOf, dLc, dSeqT, dSeqL, dZip, dRev, dRng1, dFor, dListEnum, wipeD, gTp, gsCons, gsNil, rKdIx, rKdIn, gob, truD, dPop, dAppend, List.isEmpty_cons, List.isEmpty_nil, cut_to1, cut_from1, cut_init, List.drop_one, List.tail_cons, List.take_succ_cons, List.take_zero, bools_true, all_true, mset_same, mset_mset, List.map_cons, List.map_nil, List.length_cons, List.length_nil, List.replicate, List.cons_append, List.nil_append, List.append_nil, List.getElem?_cons_zero, List.getElem?_cons_succ, List.getElem?_nil, Nat.reduceAdd, Nat.reduceSub, List.set_cons_zero, List.set_cons_succ, decide_true, decide_false, if_true, if_false, Bool.false_eq_true, Bool.true_eq_false, Bool.not_true, Bool.not_false, List.any_cons, List.any_nil, List.all_cons, List.all_nil, Bool.or_false, Bool.or_true, Bool.false_or, Bool.true_or, Bool.and_true, Bool.and_false, Bool.true_and, Bool.false_and, reduceCtorEq, String.reduceEq, beq_self_eq_true, String.reduceBEq, at0, at1, at2, at3, Int.reduceEq, true_and, and_true, sizeLine, Nat.reducePow, Nat.reduceLeDiff, Nat.reduceLT, Int.natCast_add, Int.cast_ofNat_Int, Int.reduceLT, Int.reduceLE]
    intro p hp
    refine lc_mapA woD (fun x => woD (mv l x)) ws [] _ mset_same (by show 0 + _ ≤ 2 ^ 24; have : ws.length ≤ 1000 := hl; omega) (fun x m acc kk hkk => ?_) ?_
    · rw [mset_mset] at hkk
      try simp only [dNewD, dDput, putDk, dExtend, dLock, dKeysI, rDin, rDget, dictD, keyD, dTupRg, dIndexF, dOrT, dAndT, dSeqA, dCont, dRet, dRetN, dSeq, dIfS, dDrop, dSet, gNm, dNext, dAndV, dOrV, dNotV, dAnd, dOr, dNot, dIf, dTru, dBool, dOp, dVar, dC, dCa, dCons, dNil, dTup, dLst, dFrz, frzD, dSl, dNo, dPart, slD, dNeg, dChain, rIsD, rEqS, eqS, DL.rInD, inD, eqF_str, flatD_str, flatD_int, rTypeD, tyD, rLenD, lenD, DL.rIxD, rIntD, rAddD, rTupleD, DL.rListD, rAllD, itemsD, itemsL, rToInt, isD, DL.isNon, isBl, startD, endsOf, dLc, dSeqT, dSeqL, dZip, dRev, dRng1, dFor, dListEnum, wipeD, gTp, gsCons, gsNil, rKdIx, rKdIn, gob, truD, dPop, dAppend, List.isEmpty_cons, List.isEmpty_nil, cut_to1, cut_from1, cut_init, List.drop_one, List.tail_cons, List.take_succ_cons, List.take_zero, bools_true, all_true, mset_same, mset_mset, List.map_cons, List.map_nil, List.length_cons, List.length_nil, List.replicate, List.cons_append, List.nil_append, List.append_nil, List.getElem?_cons_zero, List.getElem?_cons_succ, List.getElem?_nil, Nat.reduceAdd, Nat.reduceSub, List.set_cons_zero, List.set_cons_succ, decide_true, decide_false, if_true, if_false, Bool.false_eq_true, Bool.true_eq_false, Bool.not_true, Bool.not_false, List.any_cons, List.any_nil, List.all_cons, List.all_nil, Bool.or_false, Bool.or_true, Bool.false_or, Bool.true_or, Bool.and_true, Bool.and_false, Bool.true_and, Bool.false_and, reduceCtorEq, String.reduceEq, beq_self_eq_true, String.reduceBEq, at0, at1, at2, at3, Int.reduceEq, true_and, and_true, sizeLine, Nat.reducePow, Nat.reduceLeDiff, Nat.reduceLT, Int.natCast_add, Int.cast_ofNat_Int, Int.reduceLT, Int.reduceLE]
      exact ⟨l, x, rfl, fun k e => hx k (e ▸ m), hkk⟩
    · try simp only [dNewD, dDput, putDk, dExtend, dLock, dKeysI, rDin, rDget, dictD, keyD, dTupRg, dIndexF, dOrT, dAndT, dSeqA, dCont, dRet, dRetN, dSeq, dIfS, dDrop, dSet, gNm, dNext, dAndV, dOrV, dNotV, dAnd, dOr, dNot, dIf, dTru, dBool, dOp, dVar, dC, dCa, dCons, dNil, dTup, dLst, dFrz, frzD, dSl, dNo, dPart, slD, dNeg, dChain, rIsD, rEqS, eqS, DL.rInD, inD, eqF_str, flatD_str, flatD_int, rTypeD, tyD, rLenD, lenD, DL.rIxD, rIntD, rAddD, rTupleD, DL.rListD, rAllD, itemsD, itemsL, rToInt, isD, DL.isNon, isBl, startD, endsOf, dLc, dSeqT, dSeqL, dZip, dRev, dRng1, dFor, dListEnum, wipeD, gTp, gsCons, gsNil, rKdIx, rKdIn, gob, truD, dPop, dAppend, List.isEmpty_cons, List.isEmpty_nil, cut_to1, cut_from1, cut_init, List.drop_one, List.tail_cons, List.take_succ_cons, List.take_zero, bools_true, all_true, mset_same, mset_mset, List.map_cons, List.map_nil, List.length_cons, List.length_nil, List.replicate, List.cons_append, List.nil_append, List.append_nil, List.getElem?_cons_zero, List.getElem?_cons_succ, List.getElem?_nil, Nat.reduceAdd, Nat.reduceSub, List.set_cons_zero, List.set_cons_succ, decide_true, decide_false, if_true, if_false, Bool.false_eq_true, Bool.true_eq_false, Bool.not_true, Bool.not_false, List.any_cons, List.any_nil, List.all_cons, List.all_nil, Bool.or_false, Bool.or_true, Bool.false_or, Bool.true_or, Bool.and_true, Bool.and_false, Bool.true_and, Bool.false_and, reduceCtorEq, String.reduceEq, beq_self_eq_true, String.reduceBEq, at0, at1, at2, at3, Int.reduceEq, true_and, and_true, sizeLine, Nat.reducePow, Nat.reduceLeDiff, Nat.reduceLT, Int.natCast_add, Int.cast_ofNat_Int, Int.reduceLT, Int.reduceLE]
      rw [List.map_map] at q
      exact ⟨_, sub_mset hp Sub.refl, q⟩
  | cell x =>
    simp only [thD, mvT] at q ⊢
    simp only [dNewD, dDput, putDk, dExtend, dLock, dKeysI, rDin, rDget, dictD, keyD, dTupRg, dIndexF, dOrT, dAndT, dSeqA, dCont, dRet, dRetN, dSeq, dIfS, dDrop, dSet, gNm, dNext, dAndV, dOrV, dNotV, dAnd, dOr, dNot, dIf, dTru, dBool, dOp, dVar, dC, dCa, dCons, dNil, dTup, dLst, dFrz, frzD, dSl, dNo, dPart, slD, dNeg, dChain, rIsD, rEqS, eqS, DL.rInD, inD, eqF_str, flatD_str, flatD_int, rTypeD, tyD, rLenD, lenD, DL.rIxD, rIntD, rAddD, rTupleD, DL.rListD, rAllD, itemsD, itemsL, rToInt, isD, DL.isNon, isBl, startD, endsOf, dLc, dSeqT, dSeqL, dZip, dRev, dRng1, dFor, dListEnum, wipeD, gTp, gsCons, gsNil, rKdIx, rKdIn, gob, truD, dPop, dAppend, List.isEmpty_cons, List.isEmpty_nil, cut_to1, cut_from1, cut_init, List.drop_one, List.tail_cons, List.take_succ_cons, List.take_zero, bools_true, all_true, mset_same, mset_mset, List.map_cons, List.map_nil, List.length_cons, List.length_nil, List.replicate, List.cons_append, List.nil_append, List.append_nil, List.getElem?_cons_zero, List.getElem?_cons_succ, List.getElem?_nil, Nat.reduceAdd, Nat.reduceSub, List.set_cons_zero, List.set_cons_succ, decide_true, decide_false, if_true, if_false, Bool.false_eq_true, Bool.true_eq_false, Bool.not_true, Bool.not_false, List.any_cons, List.any_nil, List.all_cons, List.all_nil, Bool.or_false, Bool.or_true, Bool.false_or, Bool.true_or, Bool.and_true, Bool.and_false, Bool.true_and, Bool.false_and, reduceCtorEq, String.reduceEq, beq_self_eq_true, String.reduceBEq, at0, at1, at2, at3, Int.reduceEq, true_and, and_true, sizeLine, Nat.reducePow, Nat.reduceLeDiff, Nat.reduceLT, Int.natCast_add, Int.cast_ofNat_Int, Int.reduceLT, Int.reduceLE]
    simp only [am2, dl2]
    try simp only [dNewD, dDput, putDk, dExtend, dLock, dKeysI, rDin, rDget, dictD, keyD, dTupRg, dIndexF, dOrT, dAndT, dSeqA, dCont, dRet, dRetN, dSeq, dIfS, dDrop, dSet, gNm, dNext, dAndV, dOrV, dNotV, dAnd, dOr, dNot, dIf, dTru, dBool, dOp, dVar, dC, dCa, dCons, dNil, dTup, dLst, dFrz, frzD, dSl, dNo, dPart, slD, dNeg, dChain, rIsD, rEqS, eqS, DL.rInD, inD, eqF_str, flatD_str, flatD_int, rTypeD, tyD, rLenD, lenD, DL.rIxD, rIntD, rAddD, rTupleD, DL.rListD, rAllD, itemsD, itemsL, rToInt, isD, DL.isNon, isBl, startD, endsOf, dLc, dSeqT, dSeqL, dZip, dRev, dRng1, dFor, dListEnum, wipeD, gTp, gsCons, gsNil, rKdIx, rKdIn, gob, truD, dPop, dAppend, List.isEmpty_cons, List.isEmpty_nil, cut_to1, cut_from1, cut_init, List.drop_one, List.tail_cons, List.take_succ_cons, List.take_zero, bools_true, all_true, mset_same, mset_mset, List.map_cons, List.map_nil, List.length_cons, List.length_nil, List.replicate, List.cons_append, List.nil_append, List.append_nil, List.getElem?_cons_zero, List.getElem?_cons_succ, List.getElem?_nil, Nat.reduceAdd, Nat.reduceSub, List.set_cons_zero, List.set_cons_succ, decide_true, decide_false, if_true, if_false, Bool.false_eq_true, Bool.true_eq_false, Bool.not_true, Bool.not_false, List.any_cons, List.any_nil, List.all_cons, List.all_nil, Bool.or_false, Bool.or_true, Bool.false_or, Bool.true_or, Bool.and_true, Bool.and_false, Bool.true_and, Bool.false_and, reduceCtorEq, String.reduceEq, beq_self_eq_true, String.reduceBEq, at0, at1, at2, at3, Int.reduceEq, true_and, and_true, sizeLine, Nat.reducePow, Nat.reduceLeDiff, Nat.reduceLT, Int.natCast_add, Int.cast_ofNat_Int, Int.reduceLT, Int.reduceLE]
    refine ⟨l, x, rfl, fun k e => hx k (by rw [e]; exact List.mem_cons_self), ?_⟩
    try simp only [dNewD, dDput, putDk, dExtend, dLock, dKeysI, rDin, rDget, dictD, keyD, dTupRg, dIndexF, dOrT, dAndT, dSeqA, dCont, dRet, dRetN, dSeq, dIfS, dDrop, dSet, gNm, dNext, dAndV, dOrV, dNotV, dAnd, dOr, dNot, dIf, dTru, dBool, dOp, dVar, dC, dCa, dCons, dNil, dTup, dLst, dFrz, frzD, dSl, dNo, dPart, slD, dNeg, dChain, rIsD, rEqS, eqS, DL.rInD, inD, eqF_str, flatD_str, flatD_int, rTypeD, tyD, rLenD, lenD, DL.rIxD, rIntD, rAddD, rTupleD, DL.rListD, rAllD, itemsD, itemsL, rToInt, isD, DL.isNon, isBl, startD, endsOf, dLc, dSeqT, dSeqL, dZip, dRev, dRng1, dFor, dListEnum, wipeD, gTp, gsCons, gsNil, rKdIx, rKdIn, gob, truD, dPop, dAppend, List.isEmpty_cons, List.isEmpty_nil, cut_to1, cut_from1, cut_init, List.drop_one, List.tail_cons, List.take_succ_cons, List.take_zero, bools_true, all_true, mset_same, mset_mset, List.map_cons, List.map_nil, List.length_cons, List.length_nil, List.replicate, List.cons_append, List.nil_append, List.append_nil, List.getElem?_cons_zero, List.getElem?_cons_succ, List.getElem?_nil, Nat.reduceAdd, Nat.reduceSub, List.set_cons_zero, List.set_cons_succ, decide_true, decide_false, if_true, if_false, Bool.false_eq_true, Bool.true_eq_false, Bool.not_true, Bool.not_false, List.any_cons, List.any_nil, List.all_cons, List.all_nil, Bool.or_false, Bool.or_true, Bool.false_or, Bool.true_or, Bool.and_true, Bool.and_false, Bool.true_and, Bool.false_and, reduceCtorEq, String.reduceEq, beq_self_eq_true, String.reduceBEq, at0, at1, at2, at3, Int.reduceEq, true_and, and_true, sizeLine, Nat.reducePow, Nat.reduceLeDiff, Nat.reduceLT, Int.natCast_add, Int.cast_ofNat_Int, Int.reduceLT, Int.reduceLE]
    exact retD_same q
  | tag i x =>
    simp only [thD, mvT] at q ⊢
    simp only [dNewD, dDput, putDk, dExtend, dLock, dKeysI, rDin, rDget, dictD, keyD, dTupRg, dIndexF, dOrT, dAndT, dSeqA, dCont, dRet, dRetN, dSeq, dIfS, dDrop, dSet, gNm, dNext, dAndV, dOrV, dNotV, dAnd, dOr, dNot, dIf, dTru, dBool, dOp, dVar, dC, dCa, dCons, dNil, dTup, dLst, dFrz, frzD, dSl, dNo, dPart, slD, dNeg, dChain, rIsD, rEqS, eqS, DL.rInD, inD, eqF_str, flatD_str, flatD_int, rTypeD, tyD, rLenD, lenD, DL.rIxD, rIntD, rAddD, rTupleD, DL.rListD, rAllD, itemsD, itemsL, rToInt, isD, DL.isNon, isBl, startD, endsOf, dLc, dSeqT, dSeqL, dZip, dRev, dRng1, dFor, dListEnum, wipeD, gTp, gsCons, gsNil, rKdIx, rKdIn, gob, truD, dPop, dAppend, List.isEmpty_cons, List.isEmpty_nil, cut_to1, cut_from1, cut_init, List.drop_one, List.tail_cons, List.take_succ_cons, List.take_zero, bools_true, all_true, mset_same, mset_mset, List.map_cons, List.map_nil, List.length_cons, List.length_nil, List.replicate, List.cons_append, List.nil_append, List.append_nil, List.getElem?_cons_zero, List.getElem?_cons_succ, List.getElem?_nil, Nat.reduceAdd, Nat.reduceSub, List.set_cons_zero, List.set_cons_succ, decide_true, decide_false, if_true, if_false, Bool.false_eq_true, Bool.true_eq_false, Bool.not_true, Bool.not_false, List.any_cons, List.any_nil, List.all_cons, List.all_nil, Bool.or_false, Bool.or_true, Bool.false_or, Bool.true_or, Bool.and_true, Bool.and_false, Bool.true_and, Bool.false_and, reduceCtorEq, String.reduceEq, beq_self_eq_true, String.reduceBEq, at0, at1, at2, at3, Int.reduceEq, true_and, and_true, sizeLine, Nat.reducePow, Nat.reduceLeDiff, Nat.reduceLT, Int.natCast_add, Int.cast_ofNat_Int, Int.reduceLT, Int.reduceLE]
    simp only [am3, dl3]
    try simp only [dNewD, dDput, putDk, dExtend, dLock, dKeysI, rDin, rDget, dictD, keyD, dTupRg, dIndexF, dOrT, dAndT, dSeqA, dCont, dRet, dRetN, dSeq, dIfS, dDrop, dSet, gNm, dNext, dAndV, dOrV, dNotV, dAnd, dOr, dNot, dIf, dTru, dBool, dOp, dVar, dC, dCa, dCons, dNil, dTup, dLst, dFrz, frzD, dSl, dNo, dPart, slD, dNeg, dChain, rIsD, rEqS, eqS, DL.rInD, inD, eqF_str, flatD_str, flatD_int, rTypeD, tyD, rLenD, lenD, DL.rIxD, rIntD, rAddD, rTupleD, DL.rListD, rAllD, itemsD, itemsL, rToInt, isD, DL.isNon, isBl, startD, endsOf, dLc, dSeqT, dSeqL, dZip, dRev, dRng1, dFor, dListEnum, wipeD, gTp, gsCons, gsNil, rKdIx, rKdIn, gob, truD, dPop, dAppend, List.isEmpty_cons, List.isEmpty_nil, cut_to1, cut_from1, cut_init, List.drop_one, List.tail_cons, List.take_succ_cons, List.take_zero, bools_true, all_true, mset_same, mset_mset, List.map_cons, List.map_nil, List.length_cons, List.length_nil, List.replicate, List.cons_append, List.nil_append, List.append_nil, List.getElem?_cons_zero, List.getElem?_cons_succ, List.getElem?_nil, Nat.reduceAdd, Nat.reduceSub, List.set_cons_zero, List.set_cons_succ, decide_true, decide_false, if_true, if_false, Bool.false_eq_true, Bool.true_eq_false, Bool.not_true, Bool.not_false, List.any_cons, List.any_nil, List.all_cons, List.all_nil, Bool.or_false, Bool.or_true, Bool.false_or, Bool.true_or, Bool.and_true, Bool.and_false, Bool.true_and, Bool.false_and, reduceCtorEq, String.reduceEq, beq_self_eq_true, String.reduceBEq, at0, at1, at2, at3, Int.reduceEq, true_and, and_true, sizeLine, Nat.reducePow, Nat.reduceLeDiff, Nat.reduceLT, Int.natCast_add, Int.cast_ofNat_Int, Int.reduceLT, Int.reduceLE]
    refine ⟨l, x, rfl, fun k e => hx k (by rw [e]; exact List.mem_cons_self), ?_⟩
    try simp only [dNewD, dDput, putDk, dExtend, dLock, dKeysI, rDin, rDget, dictD, keyD, dTupRg, dIndexF, dOrT, dAndT, dSeqA, dCont, dRet, dRetN, dSeq, dIfS, dDrop, dSet, gNm, dNext, dAndV, dOrV, dNotV, dAnd, dOr, dNot, dIf, dTru, dBool, dOp, dVar, dC, dCa, dCons, dNil, dTup, dLst, dFrz, frzD, dSl, dNo, dPart, slD, dNeg, dChain, rIsD, rEqS, eqS, DL.rInD, inD, eqF_str, flatD_str, flatD_int, rTypeD, tyD, rLenD, lenD, DL.rIxD, rIntD, rAddD, rTupleD, DL.rListD, rAllD, itemsD, itemsL, rToInt, isD, DL.isNon, isBl, startD, endsOf, dLc, dSeqT, dSeqL, dZip, dRev, dRng1, dFor, dListEnum, wipeD, gTp, gsCons, gsNil, rKdIx, rKdIn, gob, truD, dPop, dAppend, List.isEmpty_cons, List.isEmpty_nil, cut_to1, cut_from1, cut_init, List.drop_one, List.tail_cons, List.take_succ_cons, List.take_zero, bools_true, all_true, mset_same, mset_mset, List.map_cons, List.map_nil, List.length_cons, List.length_nil, List.replicate, List.cons_append, List.nil_append, List.append_nil, List.getElem?_cons_zero, List.getElem?_cons_succ, List.getElem?_nil, Nat.reduceAdd, Nat.reduceSub, List.set_cons_zero, List.set_cons_succ, decide_true, decide_false, if_true, if_false, Bool.false_eq_true, Bool.true_eq_false, Bool.not_true, Bool.not_false, List.any_cons, List.any_nil, List.all_cons, List.all_nil, Bool.or_false, Bool.or_true, Bool.false_or, Bool.true_or, Bool.and_true, Bool.and_false, Bool.true_and, Bool.false_and, reduceCtorEq, String.reduceEq, beq_self_eq_true, String.reduceBEq, at0, at1, at2, at3, Int.reduceEq, true_and, and_true, sizeLine, Nat.reducePow, Nat.reduceLeDiff, Nat.reduceLT, Int.natCast_add, Int.cast_ofNat_Int, Int.reduceLT, Int.reduceLE]
    exact retD_same q
end
end VB
end K70

set_option Elab.async false
set_option linter.all false
set_option maxRecDepth 100000
set_option maxHeartbeats 4000000
namespace K70
open PySem PySem.Spec PyProof.Rows L2 NdefX LamX DL
namespace VB
/-! ### going through all that is known, in turn -/
structure Bf (s : Sta) (kn : List Nat) (a : Nat) : Prop where
  nd : kn.Nodup
  sound : ∀ k ∈ kn, Rch s k
  regs : ∀ k, Wo.pl k ∈ s.regs → k ∈ kn
  clo : ∀ j i, j < a → kn[j]? = some i → ∀ t, s.ths[i]? = some t → ∀ k, Wo.pl k ∈ t.ws → k ∈ kn
theorem Bf.fin {s : Sta} {kn : List Nat} {a : Nat} (b : Bf s kn a) (h : kn.length ≤ a) (k : Nat) : k ∈ kn ↔ Rch s k := by
  refine ⟨b.sound k, fun r => ?_⟩
  induction r with
  | reg k m => exact b.regs k m
  | step j k t _ e m ih =>
    obtain ⟨i, hi⟩ := List.getElem?_of_mem ih
    have := (List.getElem?_eq_some_iff.mp hi).1
    exact b.clo i j (by omega) hi t e k m
theorem Bf.add {s : Sta} {kn : List Nat} {a k : Nat} (b : Bf s kn a) (h : a ≤ kn.length) (n : k ∉ kn) (r : Rch s k) : Bf s (kn ++ [k]) a := by
  refine ⟨?_, fun x m => ?_, fun x m => List.mem_append.mpr (.inl (b.regs x m)), fun j i lt e t et x m => ?_⟩
  · rw [List.nodup_append]
    refine ⟨b.nd, by simp, fun x hx y hy => ?_⟩
    rw [List.mem_singleton.mp hy]
    exact fun z => n (z ▸ hx)
  · rcases List.mem_append.mp m with m | m
    · exact b.sound x m
    · rw [List.mem_singleton.mp m]; exact r
  · rw [List.getElem?_append_left (by omega)] at e
    exact List.mem_append.mpr (.inl (b.clo j i lt e t et x m))
theorem Bf.next {s : Sta} {kn : List Nat} {a i : Nat} (b : Bf s kn a) (e : kn[a]? = some i) (h : ∀ k, Wo.pl k ∈ (thAt s i).ws → k ∈ kn) : Bf s kn (a + 1) := by
  refine ⟨b.nd, b.sound, b.regs, fun j i' lt e' t et x m => ?_⟩
  by_cases c : j = a
  · subst c
    rw [e] at e'
    cases e'
    exact h x (by rw [thAt_eq et]; exact m)
  · exact b.clo j i' (by omega) e' t et x m
theorem Bf.len {s : Sta} {kn : List Nat} {a : Nat} (b : Bf s kn a) (R : Right s) : kn.length ≤ s.ths.length := nodup_few b.nd fun k h => (b.sound k h).lt R
section
variable {P : Program} {w : World} {K : PySem.W.Frag} {mg : Str → Option Value} {base : Heap} {f : Addr} {fd : FuncData}
theorem sort_lst {μ : Mu} {p : Addr} {l : List Nat} (h : μ p = some (.lst (iN l))) : sortD μ (.ob p) = some (ni l) := by
  have e1 : itemsL μ (.ob p) = some (iN l) := by simp only [itemsL, h]
  unfold sortD
  simp only [e1]
  exact intsOf_ints _
def sp_lr : RLD := fun ds μ Q => ∃ s : Sta, ds = [stD s] ∧ Right s ∧ ∀ p, μ p = none → Q (.ob p) (mset μ p (.lst (iN (rcl s))))
theorem mono_lr : MonoL sp_lr := fun ds μ Q Q' i ⟨t, h1, h2, q⟩ => ⟨t, h1, h2, fun p hp => i _ _ (q p hp)⟩
/-- the inner walk -/
structure Inn (s : Sta) (kn rest : List Nat) (a i : Nat) : Prop where
  bf : Bf s kn a
  lt : a < kn.length
  e : kn[a]? = some i
  all : ∀ k, Wo.pl k ∈ (thAt s i).ws → k ∈ kn ∨ k ∈ rest
  sound : ∀ k ∈ rest, Rch s k
theorem Inn.old {s : Sta} {kn rest : List Nat} {a i k : Nat} (I : Inn s kn (k :: rest) a i) (h : k ∈ kn) : Inn s kn rest a i := ⟨I.bf, I.lt, I.e, fun x m => by
  rcases I.all x m with h1 | h1
  · exact .inl h1
  · rcases List.mem_cons.mp h1 with h1 | h1
    · exact .inl (h1 ▸ h)
    · exact .inr h1, fun x m => I.sound x (List.mem_cons_of_mem _ m)⟩
theorem Inn.new {s : Sta} {kn rest : List Nat} {a i k : Nat} (I : Inn s kn (k :: rest) a i) (h : k ∉ kn) : Inn s (kn ++ [k]) rest a i := ⟨I.bf.add (Nat.le_of_lt I.lt) h (I.sound k List.mem_cons_self), by rw [List.length_append]; exact Nat.lt_of_lt_of_le I.lt (Nat.le_add_right _ _), by rw [List.getElem?_append_left I.lt]; exact I.e, fun x m => by
  rcases I.all x m with h1 | h1
  · exact .inl (List.mem_append.mpr (.inl h1))
  · rcases List.mem_cons.mp h1 with h1 | h1
    · exact .inl (List.mem_append.mpr (.inr (by rw [h1]; exact List.mem_cons_self)))
    · exact .inr h1, fun x m => I.sound x (List.mem_cons_of_mem _ m)⟩
theorem ok_lr (B : NoG mg) (N_sorted : mg "sorted" = none) (N_set : mg "set" = none) {a1 : Addr} {d1 : FuncData} (F : Fun K "_law_reached" "_law_reached" s_law_reached f fd) (Glaw_places : Gt P w K mg base 1 "_law_places" ["thing"] sp_places a1 d1) : FnOk P w K mg base CX0 2 f fd ["state"] (spUp K sp_lr) := by
  refine okD F sc_law_reached (fun ds μ Q ⟨t, e, _⟩ => by rw [e]; rfl) fun cdv A outer s H E hr => ⟨_, (ds_cons (d_set 1 sc_law_reached.nd (d_sortSet rfl N_sorted rfl N_set (da_cons (d_lc rfl sc_law_reached.nd (di_tup (d_ix ix_ok (d_var 0) d_int)) (blk_ok2 (N := ["state", "known", "at", "address", "one"]) (sc := defScope s_law_reached) (own := [("one", 4)]) (by rfl) (by decide +kernel) (by decide +kernel) (by decide +kernel) (by decide +kernel)) (fun _ _ _ _ _ => (dg_name 4 sc_law_reached.nd)) (fun _ _ _ _ _ => (dts_one (PWD.ptd (dw_and (dt_cmp o_isNot (d_var 4) d_non (nomark _)) (dw_and1 (dt_cmp o_eqS (d_ix ix_ok (d_var 4) d_int) (d_str "place" rfl) (nomark _))))))) (fun _ _ _ _ _ => (d_ix ix_ok (d_var 4) d_int))) da_nil)))
      (ds_cons (d_set 2 sc_law_reached.nd d_int)
      (ds_cons (d_while PassesOwn.never (dt_cmp o_lt (d_var 2) (d_callB c_len rfl B.len rfl (da_cons (d_var 1) da_nil)) (nomark _)) (ds_cons (d_for PassesOwn.never rfl (di_list (d_frz (d_call Glaw_places.F Glaw_places.mono (hr.mono (by first | decide | omega)) Glaw_places.m Glaw_places.k Glaw_places.b (da_cons (d_ix ix_ok (d_ix ix_ok (d_var 0) d_int) (d_ix ix_ok (d_var 1) (d_var 2))) da_nil)))) (dg_name 3 (ws := [3]) sc_law_reached.nd) (ds_one (d_ifS (dt_cmp o_notIn (d_var 3) (d_var 1) (by rfl)) (ds_one (d_expr (d_append (d_var 1) (da_cons (d_var 3) da_nil)))) ds_nil)))
      (ds_one (d_set 2 sc_law_reached.nd (d_op o_add (d_var 2) d_int)))))
      (ds_one (d_ret (d_callB (c_sortD rfl) rfl N_sorted rfl (da_cons (d_var 1) da_nil))))))), ?_⟩
  rintro ds μ Q ⟨s, rfl, R, q⟩
  have sm := R.small
  have fw := R.few
  refine q_by (fun d μ' => ∃ pk kn, d = .ob pk ∧ μ pk = none ∧ μ' pk = some (.lst (iN kn)) ∧ Kp [pk] μ μ' ∧ Bf s kn 0) (fun k hk => ?_) ?_
  · unfold dSortSet
    simp only [stD]
    simp only [dNewD, dDput, putDk, dExtend, dLock, dKeysI, rDin, rDget, dictD, keyD, dTupRg, dIndexF, dOrT, dAndT, dSeqA, dCont, dRet, dRetN, dSeq, dIfS, dDrop, dSet, gNm, dNext, dAndV, dOrV, dNotV, dAnd, dOr, dNot, dIf, dTru, dBool, dOp, dVar, dC, dCa, dCons, dNil, dTup, dLst, dFrz, frzD, dSl, dNo, dPart, slD, dNeg, dChain, rIsD, rEqS, eqS, DL.rInD, inD, eqF_str, flatD_str, flatD_int, rTypeD, tyD, rLenD, lenD, DL.rIxD, rIntD, rAddD, rTupleD, DL.rListD, rAllD, itemsD, itemsL, rToInt, isD, DL.isNon, isBl, startD, endsOf, dLc, dSeqT, dSeqL, dZip, dRev, dRng1, dFor, dListEnum, wipeD, gTp, gsCons, gsNil, rKdIx, rKdIn, gob, truD, dPop, dAppend, List.isEmpty_cons, List.isEmpty_nil, cut_to1, cut_from1, cut_init, List.drop_one, List.tail_cons, List.take_succ_cons, List.take_zero, bools_true, all_true, mset_same, mset_mset, List.map_cons, List.map_nil, List.length_cons, List.length_nil, List.replicate, List.cons_append, List.nil_append, List.append_nil, List.getElem?_cons_zero, List.getElem?_cons_succ, List.getElem?_nil, Nat.reduceAdd, Nat.reduceSub, List.set_cons_zero, List.set_cons_succ, decide_true, decide_false, if_true, if_false, Bool.false_eq_true, Bool.true_eq_false, Bool.not_true, Bool.not_false, List.any_cons, List.any_nil, List.all_cons, List.all_nil, Bool.or_false, Bool.or_true, Bool.false_or, Bool.true_or, Bool.and_true, Bool.and_false, Bool.true_and, Bool.false_and, reduceCtorEq, String.reduceEq, beq_self_eq_true, String.reduceBEq, at0, at1, at2, at3, Int.reduceEq, true_and, and_true, sizeLine, Nat.reducePow, Nat.reduceLeDiff, Nat.reduceLT, Int.natCast_add, Int.cast_ofNat_Int, Int.reduceLT, Int.reduceLE]
    intro p hp
    refine lc_pick plOf isPl _ [] _ mset_same (by rw [List.length_map]; show 0 + _ ≤ 2 ^ 24; omega) (fun d hd acc k r h => ?_) ?_
    · obtain ⟨x, hx, rfl⟩ := List.mem_map.mp hd
      rw [mset_mset] at h ⊢
      cases x with
      | pl k =>
        simp only [woD, isPl, plOf, beq_self_eq_true, if_true] at h
        simp only [woD]
        simp only [dNewD, dDput, putDk, dExtend, dLock, dKeysI, rDin, rDget, dictD, keyD, dTupRg, dIndexF, dOrT, dAndT, dSeqA, dCont, dRet, dRetN, dSeq, dIfS, dDrop, dSet, gNm, dNext, dAndV, dOrV, dNotV, dAnd, dOr, dNot, dIf, dTru, dBool, dOp, dVar, dC, dCa, dCons, dNil, dTup, dLst, dFrz, frzD, dSl, dNo, dPart, slD, dNeg, dChain, rIsD, rEqS, eqS, DL.rInD, inD, eqF_str, flatD_str, flatD_int, rTypeD, tyD, rLenD, lenD, DL.rIxD, rIntD, rAddD, rTupleD, DL.rListD, rAllD, itemsD, itemsL, rToInt, isD, DL.isNon, isBl, startD, endsOf, dLc, dSeqT, dSeqL, dZip, dRev, dRng1, dFor, dListEnum, wipeD, gTp, gsCons, gsNil, rKdIx, rKdIn, gob, truD, dPop, dAppend, List.isEmpty_cons, List.isEmpty_nil, cut_to1, cut_from1, cut_init, List.drop_one, List.tail_cons, List.take_succ_cons, List.take_zero, bools_true, all_true, mset_same, mset_mset, List.map_cons, List.map_nil, List.length_cons, List.length_nil, List.replicate, List.cons_append, List.nil_append, List.append_nil, List.getElem?_cons_zero, List.getElem?_cons_succ, List.getElem?_nil, Nat.reduceAdd, Nat.reduceSub, List.set_cons_zero, List.set_cons_succ, decide_true, decide_false, if_true, if_false, Bool.false_eq_true, Bool.true_eq_false, Bool.not_true, Bool.not_false, List.any_cons, List.any_nil, List.all_cons, List.all_nil, Bool.or_false, Bool.or_true, Bool.false_or, Bool.true_or, Bool.and_true, Bool.and_false, Bool.true_and, Bool.false_and, reduceCtorEq, String.reduceEq, beq_self_eq_true, String.reduceBEq, at0, at1, at2, at3, Int.reduceEq, true_and, and_true, sizeLine, Nat.reducePow, Nat.reduceLeDiff, Nat.reduceLT, Int.natCast_add, Int.cast_ofNat_Int, Int.reduceLT, Int.reduceLE]
        exact h
      | non =>
        simp only [woD, isPl, Bool.false_eq_true, if_false] at h
        simp only [woD]
        simp only [dNewD, dDput, putDk, dExtend, dLock, dKeysI, rDin, rDget, dictD, keyD, dTupRg, dIndexF, dOrT, dAndT, dSeqA, dCont, dRet, dRetN, dSeq, dIfS, dDrop, dSet, gNm, dNext, dAndV, dOrV, dNotV, dAnd, dOr, dNot, dIf, dTru, dBool, dOp, dVar, dC, dCa, dCons, dNil, dTup, dLst, dFrz, frzD, dSl, dNo, dPart, slD, dNeg, dChain, rIsD, rEqS, eqS, DL.rInD, inD, eqF_str, flatD_str, flatD_int, rTypeD, tyD, rLenD, lenD, DL.rIxD, rIntD, rAddD, rTupleD, DL.rListD, rAllD, itemsD, itemsL, rToInt, isD, DL.isNon, isBl, startD, endsOf, dLc, dSeqT, dSeqL, dZip, dRev, dRng1, dFor, dListEnum, wipeD, gTp, gsCons, gsNil, rKdIx, rKdIn, gob, truD, dPop, dAppend, List.isEmpty_cons, List.isEmpty_nil, cut_to1, cut_from1, cut_init, List.drop_one, List.tail_cons, List.take_succ_cons, List.take_zero, bools_true, all_true, mset_same, mset_mset, List.map_cons, List.map_nil, List.length_cons, List.length_nil, List.replicate, List.cons_append, List.nil_append, List.append_nil, List.getElem?_cons_zero, List.getElem?_cons_succ, List.getElem?_nil, Nat.reduceAdd, Nat.reduceSub, List.set_cons_zero, List.set_cons_succ, decide_true, decide_false, if_true, if_false, Bool.false_eq_true, Bool.true_eq_false, Bool.not_true, Bool.not_false, List.any_cons, List.any_nil, List.all_cons, List.all_nil, Bool.or_false, Bool.or_true, Bool.false_or, Bool.true_or, Bool.and_true, Bool.and_false, Bool.true_and, Bool.false_and, reduceCtorEq, String.reduceEq, beq_self_eq_true, String.reduceBEq, at0, at1, at2, at3, Int.reduceEq, true_and, and_true, sizeLine, Nat.reducePow, Nat.reduceLeDiff, Nat.reduceLT, Int.natCast_add, Int.cast_ofNat_Int, Int.reduceLT, Int.reduceLE]
        exact h
      | int n =>
        have e : isPl (woD (.int n)) = false := by simp [woD, isPl]
        rw [e] at h
        simp only [Bool.false_eq_true, if_false] at h
        simp only [woD]
        simp only [dNewD, dDput, putDk, dExtend, dLock, dKeysI, rDin, rDget, dictD, keyD, dTupRg, dIndexF, dOrT, dAndT, dSeqA, dCont, dRet, dRetN, dSeq, dIfS, dDrop, dSet, gNm, dNext, dAndV, dOrV, dNotV, dAnd, dOr, dNot, dIf, dTru, dBool, dOp, dVar, dC, dCa, dCons, dNil, dTup, dLst, dFrz, frzD, dSl, dNo, dPart, slD, dNeg, dChain, rIsD, rEqS, eqS, DL.rInD, inD, eqF_str, flatD_str, flatD_int, rTypeD, tyD, rLenD, lenD, DL.rIxD, rIntD, rAddD, rTupleD, DL.rListD, rAllD, itemsD, itemsL, rToInt, isD, DL.isNon, isBl, startD, endsOf, dLc, dSeqT, dSeqL, dZip, dRev, dRng1, dFor, dListEnum, wipeD, gTp, gsCons, gsNil, rKdIx, rKdIn, gob, truD, dPop, dAppend, List.isEmpty_cons, List.isEmpty_nil, cut_to1, cut_from1, cut_init, List.drop_one, List.tail_cons, List.take_succ_cons, List.take_zero, bools_true, all_true, mset_same, mset_mset, List.map_cons, List.map_nil, List.length_cons, List.length_nil, List.replicate, List.cons_append, List.nil_append, List.append_nil, List.getElem?_cons_zero, List.getElem?_cons_succ, List.getElem?_nil, Nat.reduceAdd, Nat.reduceSub, List.set_cons_zero, List.set_cons_succ, decide_true, decide_false, if_true, if_false, Bool.false_eq_true, Bool.true_eq_false, Bool.not_true, Bool.not_false, List.any_cons, List.any_nil, List.all_cons, List.all_nil, Bool.or_false, Bool.or_true, Bool.false_or, Bool.true_or, Bool.and_true, Bool.and_false, Bool.true_and, Bool.false_and, reduceCtorEq, String.reduceEq, beq_self_eq_true, String.reduceBEq, at0, at1, at2, at3, Int.reduceEq, true_and, and_true, sizeLine, Nat.reducePow, Nat.reduceLeDiff, Nat.reduceLT, Int.natCast_add, Int.cast_ofNat_Int, Int.reduceLT, Int.reduceLE]
        exact h
      | lab n =>
        have e : isPl (woD (.lab n)) = false := by simp [woD, isPl]
        rw [e] at h
        simp only [Bool.false_eq_true, if_false] at h
        simp only [woD]
        simp only [dNewD, dDput, putDk, dExtend, dLock, dKeysI, rDin, rDget, dictD, keyD, dTupRg, dIndexF, dOrT, dAndT, dSeqA, dCont, dRet, dRetN, dSeq, dIfS, dDrop, dSet, gNm, dNext, dAndV, dOrV, dNotV, dAnd, dOr, dNot, dIf, dTru, dBool, dOp, dVar, dC, dCa, dCons, dNil, dTup, dLst, dFrz, frzD, dSl, dNo, dPart, slD, dNeg, dChain, rIsD, rEqS, eqS, DL.rInD, inD, eqF_str, flatD_str, flatD_int, rTypeD, tyD, rLenD, lenD, DL.rIxD, rIntD, rAddD, rTupleD, DL.rListD, rAllD, itemsD, itemsL, rToInt, isD, DL.isNon, isBl, startD, endsOf, dLc, dSeqT, dSeqL, dZip, dRev, dRng1, dFor, dListEnum, wipeD, gTp, gsCons, gsNil, rKdIx, rKdIn, gob, truD, dPop, dAppend, List.isEmpty_cons, List.isEmpty_nil, cut_to1, cut_from1, cut_init, List.drop_one, List.tail_cons, List.take_succ_cons, List.take_zero, bools_true, all_true, mset_same, mset_mset, List.map_cons, List.map_nil, List.length_cons, List.length_nil, List.replicate, List.cons_append, List.nil_append, List.append_nil, List.getElem?_cons_zero, List.getElem?_cons_succ, List.getElem?_nil, Nat.reduceAdd, Nat.reduceSub, List.set_cons_zero, List.set_cons_succ, decide_true, decide_false, if_true, if_false, Bool.false_eq_true, Bool.true_eq_false, Bool.not_true, Bool.not_false, List.any_cons, List.any_nil, List.all_cons, List.all_nil, Bool.or_false, Bool.or_true, Bool.false_or, Bool.true_or, Bool.and_true, Bool.and_false, Bool.true_and, Bool.false_and, reduceCtorEq, String.reduceEq, beq_self_eq_true, String.reduceBEq, at0, at1, at2, at3, Int.reduceEq, true_and, and_true, sizeLine, Nat.reducePow, Nat.reduceLeDiff, Nat.reduceLT, Int.natCast_add, Int.cast_ofNat_Int, Int.reduceLT, Int.reduceLE]
        exact h
    · rw [mset_mset, List.nil_append, pick_pls]
      simp only [dNewD, dDput, putDk, dExtend, dLock, dKeysI, rDin, rDget, dictD, keyD, dTupRg, dIndexF, dOrT, dAndT, dSeqA, dCont, dRet, dRetN, dSeq, dIfS, dDrop, dSet, gNm, dNext, dAndV, dOrV, dNotV, dAnd, dOr, dNot, dIf, dTru, dBool, dOp, dVar, dC, dCa, dCons, dNil, dTup, dLst, dFrz, frzD, dSl, dNo, dPart, slD, dNeg, dChain, rIsD, rEqS, eqS, DL.rInD, inD, eqF_str, flatD_str, flatD_int, rTypeD, tyD, rLenD, lenD, DL.rIxD, rIntD, rAddD, rTupleD, DL.rListD, rAllD, itemsD, itemsL, rToInt, isD, DL.isNon, isBl, startD, endsOf, dLc, dSeqT, dSeqL, dZip, dRev, dRng1, dFor, dListEnum, wipeD, gTp, gsCons, gsNil, rKdIx, rKdIn, gob, truD, dPop, dAppend, List.isEmpty_cons, List.isEmpty_nil, cut_to1, cut_from1, cut_init, List.drop_one, List.tail_cons, List.take_succ_cons, List.take_zero, bools_true, all_true, mset_same, mset_mset, List.map_cons, List.map_nil, List.length_cons, List.length_nil, List.replicate, List.cons_append, List.nil_append, List.append_nil, List.getElem?_cons_zero, List.getElem?_cons_succ, List.getElem?_nil, Nat.reduceAdd, Nat.reduceSub, List.set_cons_zero, List.set_cons_succ, decide_true, decide_false, if_true, if_false, Bool.false_eq_true, Bool.true_eq_false, Bool.not_true, Bool.not_false, List.any_cons, List.any_nil, List.all_cons, List.all_nil, Bool.or_false, Bool.or_true, Bool.false_or, Bool.true_or, Bool.and_true, Bool.and_false, Bool.true_and, Bool.false_and, reduceCtorEq, String.reduceEq, beq_self_eq_true, String.reduceBEq, at0, at1, at2, at3, Int.reduceEq, true_and, and_true, sizeLine, Nat.reducePow, Nat.reduceLeDiff, Nat.reduceLT, Int.natCast_add, Int.cast_ofNat_Int, Int.reduceLT, Int.reduceLE]
      rw [intsOf_ints]
      try simp only [dNewD, dDput, putDk, dExtend, dLock, dKeysI, rDin, rDget, dictD, keyD, dTupRg, dIndexF, dOrT, dAndT, dSeqA, dCont, dRet, dRetN, dSeq, dIfS, dDrop, dSet, gNm, dNext, dAndV, dOrV, dNotV, dAnd, dOr, dNot, dIf, dTru, dBool, dOp, dVar, dC, dCa, dCons, dNil, dTup, dLst, dFrz, frzD, dSl, dNo, dPart, slD, dNeg, dChain, rIsD, rEqS, eqS, DL.rInD, inD, eqF_str, flatD_str, flatD_int, rTypeD, tyD, rLenD, lenD, DL.rIxD, rIntD, rAddD, rTupleD, DL.rListD, rAllD, itemsD, itemsL, rToInt, isD, DL.isNon, isBl, startD, endsOf, dLc, dSeqT, dSeqL, dZip, dRev, dRng1, dFor, dListEnum, wipeD, gTp, gsCons, gsNil, rKdIx, rKdIn, gob, truD, dPop, dAppend, List.isEmpty_cons, List.isEmpty_nil, cut_to1, cut_from1, cut_init, List.drop_one, List.tail_cons, List.take_succ_cons, List.take_zero, bools_true, all_true, mset_same, mset_mset, List.map_cons, List.map_nil, List.length_cons, List.length_nil, List.replicate, List.cons_append, List.nil_append, List.append_nil, List.getElem?_cons_zero, List.getElem?_cons_succ, List.getElem?_nil, Nat.reduceAdd, Nat.reduceSub, List.set_cons_zero, List.set_cons_succ, decide_true, decide_false, if_true, if_false, Bool.false_eq_true, Bool.true_eq_false, Bool.not_true, Bool.not_false, List.any_cons, List.any_nil, List.all_cons, List.all_nil, Bool.or_false, Bool.or_true, Bool.false_or, Bool.true_or, Bool.and_true, Bool.and_false, Bool.true_and, Bool.false_and, reduceCtorEq, String.reduceEq, beq_self_eq_true, String.reduceBEq, at0, at1, at2, at3, Int.reduceEq, true_and, and_true, sizeLine, Nat.reducePow, Nat.reduceLeDiff, Nat.reduceLT, Int.natCast_add, Int.cast_ofNat_Int, Int.reduceLT, Int.reduceLE]
      refine ⟨by rw [List.length_map]; have := len_pls s.regs; omega, fun ns p2 h1 h2 hp2 => ?_⟩
      have en : ns = ni (ns.map Int.toNat) := by
        unfold ni
        rw [List.map_map]
        conv => lhs; rw [← List.map_id ns]
        refine List.map_congr_left fun x hx => ?_
        obtain ⟨j, _, rfl⟩ := mem_ni.mp ((h2 x).mp hx)
        rfl
      have mm : ∀ k, k ∈ ns.map Int.toNat ↔ Wo.pl k ∈ s.regs := fun k => by
        rw [← mem_pls, ← mem_ni', ← en, h2, mem_ni']
      have ne : p2 ≠ p := fun z => by rw [z, mset_same] at hp2; cases hp2
      have hp2' := hp2
      rw [mset_ne ne] at hp2'
      refine hk _ _ ⟨p2, ns.map Int.toNat, rfl, hp2', ?_, ?_, ⟨?_, fun k m => .reg k ((mm k).mp m), fun k m => (mm k).mpr m, fun j i lt => absurd lt (Nat.not_lt_zero _)⟩⟩
      · show mset _ _ _ _ = some (.lst ((ni (ns.map Int.toNat)).map D.int))
        rw [← en, mset_same]
      · exact (Kp.refl.put hp).put hp2'
      · have : ns.Nodup := h1.imp fun h => Int.ne_of_lt h
        rw [en] at this
        exact (List.pairwise_map.mp this).imp fun h z => h (by rw [z])
  rintro d μ1 ⟨pk, kn, rfl, hpk, ek, K1, b0⟩
  refine q_by (fun d μ' => μ' = μ1 ∧ d = .int 0) (fun k hk => hk _ _ ⟨rfl, rfl⟩) ?_
  rintro d μ' ⟨rfl, rfl⟩
  refine q_stmt (fun ρ' μ' => ∃ kn x y z, ρ' = [some (stD s), some (.ob pk), x, y, z] ∧ μ' pk = some (.lst (iN kn)) ∧ Kp [pk] μ μ' ∧ kn.Nodup ∧ ∀ k, k ∈ kn ↔ Rch s k) (fun NX hN => ?_) ?_
  · refine ⟨fun m ρ μ' => ∃ kn a y, ρ = [some (stD s), some (.ob pk), some (.int ((a : Nat) : Int)), y, none] ∧ μ' pk = some (.lst (iN kn)) ∧ Kp [pk] μ μ' ∧ Bf s kn a ∧ a ≤ kn.length ∧ m = s.ths.length - a, ⟨s.ths.length, kn, 0, none, rfl, ek, K1, b0, Nat.zero_le _, rfl⟩, ?_⟩
    rintro m ρ μ2 ⟨kn, a, y, rfl, ek, K2, b, la, em⟩
    have ll := b.len R
    simp only [dNewD, dDput, putDk, dExtend, dLock, dKeysI, rDin, rDget, dictD, keyD, dTupRg, dIndexF, dOrT, dAndT, dSeqA, dCont, dRet, dRetN, dSeq, dIfS, dDrop, dSet, gNm, dNext, dAndV, dOrV, dNotV, dAnd, dOr, dNot, dIf, dTru, dBool, dOp, dVar, dC, dCa, dCons, dNil, dTup, dLst, dFrz, frzD, dSl, dNo, dPart, slD, dNeg, dChain, rIsD, rEqS, eqS, DL.rInD, inD, eqF_str, flatD_str, flatD_int, rTypeD, tyD, rLenD, lenD, DL.rIxD, rIntD, rAddD, rTupleD, DL.rListD, rAllD, itemsD, itemsL, rToInt, isD, DL.isNon, isBl, startD, endsOf, dLc, dSeqT, dSeqL, dZip, dRev, dRng1, dFor, dListEnum, wipeD, gTp, gsCons, gsNil, rKdIx, rKdIn, gob, truD, dPop, dAppend, List.isEmpty_cons, List.isEmpty_nil, cut_to1, cut_from1, cut_init, List.drop_one, List.tail_cons, List.take_succ_cons, List.take_zero, bools_true, all_true, mset_same, mset_mset, List.map_cons, List.map_nil, List.length_cons, List.length_nil, List.replicate, List.cons_append, List.nil_append, List.append_nil, List.getElem?_cons_zero, List.getElem?_cons_succ, List.getElem?_nil, Nat.reduceAdd, Nat.reduceSub, List.set_cons_zero, List.set_cons_succ, decide_true, decide_false, if_true, if_false, Bool.false_eq_true, Bool.true_eq_false, Bool.not_true, Bool.not_false, List.any_cons, List.any_nil, List.all_cons, List.all_nil, Bool.or_false, Bool.or_true, Bool.false_or, Bool.true_or, Bool.and_true, Bool.and_false, Bool.true_and, Bool.false_and, reduceCtorEq, String.reduceEq, beq_self_eq_true, String.reduceBEq, at0, at1, at2, at3, Int.reduceEq, true_and, and_true, sizeLine, Nat.reducePow, Nat.reduceLeDiff, Nat.reduceLT, Int.natCast_add, Int.cast_ofNat_Int, Int.reduceLT, Int.reduceLE]
    try simp only [ek]
    try simp only [dNewD, dDput, putDk, dExtend, dLock, dKeysI, rDin, rDget, dictD, keyD, dTupRg, dIndexF, dOrT, dAndT, dSeqA, dCont, dRet, dRetN, dSeq, dIfS, dDrop, dSet, gNm, dNext, dAndV, dOrV, dNotV, dAnd, dOr, dNot, dIf, dTru, dBool, dOp, dVar, dC, dCa, dCons, dNil, dTup, dLst, dFrz, frzD, dSl, dNo, dPart, slD, dNeg, dChain, rIsD, rEqS, eqS, DL.rInD, inD, eqF_str, flatD_str, flatD_int, rTypeD, tyD, rLenD, lenD, DL.rIxD, rIntD, rAddD, rTupleD, DL.rListD, rAllD, itemsD, itemsL, rToInt, isD, DL.isNon, isBl, startD, endsOf, dLc, dSeqT, dSeqL, dZip, dRev, dRng1, dFor, dListEnum, wipeD, gTp, gsCons, gsNil, rKdIx, rKdIn, gob, truD, dPop, dAppend, List.isEmpty_cons, List.isEmpty_nil, cut_to1, cut_from1, cut_init, List.drop_one, List.tail_cons, List.take_succ_cons, List.take_zero, bools_true, all_true, mset_same, mset_mset, List.map_cons, List.map_nil, List.length_cons, List.length_nil, List.replicate, List.cons_append, List.nil_append, List.append_nil, List.getElem?_cons_zero, List.getElem?_cons_succ, List.getElem?_nil, Nat.reduceAdd, Nat.reduceSub, List.set_cons_zero, List.set_cons_succ, decide_true, decide_false, if_true, if_false, Bool.false_eq_true, Bool.true_eq_false, Bool.not_true, Bool.not_false, List.any_cons, List.any_nil, List.all_cons, List.all_nil, Bool.or_false, Bool.or_true, Bool.false_or, Bool.true_or, Bool.and_true, Bool.and_false, Bool.true_and, Bool.false_and, reduceCtorEq, String.reduceEq, beq_self_eq_true, String.reduceBEq, at0, at1, at2, at3, Int.reduceEq, true_and, and_true, sizeLine, Nat.reducePow, Nat.reduceLeDiff, Nat.reduceLT, Int.natCast_add, Int.cast_ofNat_Int, Int.reduceLT, Int.reduceLE]
    have hl : (iN kn).length = kn.length := by rw [List.length_map, List.length_map]
    rw [hl]
    by_cases c : a < kn.length
    · rw [if_pos (by simpa using c)]
      simp only [stD]
      have e1 : kn[a]? = some kn[a] := List.getElem?_eq_getElem c
      generalize kn[a] = i at e1
      have e2 : atI (iN kn) ((a : Nat) : Int) = some (.int (i : Nat)) := atI_nat (iN_at e1)
      have ri : Rch s i := b.sound i (List.mem_of_getElem? e1)
      have li := ri.lt R
      have et : atI (s.ths.map thD) ((i : Nat) : Int) = some (thD (thAt s i)) := atI_nat (by rw [List.getElem?_map, thAt_get li]; rfl)
      simp only [dNewD, dDput, putDk, dExtend, dLock, dKeysI, rDin, rDget, dictD, keyD, dTupRg, dIndexF, dOrT, dAndT, dSeqA, dCont, dRet, dRetN, dSeq, dIfS, dDrop, dSet, gNm, dNext, dAndV, dOrV, dNotV, dAnd, dOr, dNot, dIf, dTru, dBool, dOp, dVar, dC, dCa, dCons, dNil, dTup, dLst, dFrz, frzD, dSl, dNo, dPart, slD, dNeg, dChain, rIsD, rEqS, eqS, DL.rInD, inD, eqF_str, flatD_str, flatD_int, rTypeD, tyD, rLenD, lenD, DL.rIxD, rIntD, rAddD, rTupleD, DL.rListD, rAllD, itemsD, itemsL, rToInt, isD, DL.isNon, isBl, startD, endsOf, dLc, dSeqT, dSeqL, dZip, dRev, dRng1, dFor, dListEnum, wipeD, gTp, gsCons, gsNil, rKdIx, rKdIn, gob, truD, dPop, dAppend, List.isEmpty_cons, List.isEmpty_nil, cut_to1, cut_from1, cut_init, List.drop_one, List.tail_cons, List.take_succ_cons, List.take_zero, bools_true, all_true, mset_same, mset_mset, List.map_cons, List.map_nil, List.length_cons, List.length_nil, List.replicate, List.cons_append, List.nil_append, List.append_nil, List.getElem?_cons_zero, List.getElem?_cons_succ, List.getElem?_nil, Nat.reduceAdd, Nat.reduceSub, List.set_cons_zero, List.set_cons_succ, decide_true, decide_false, if_true, if_false, Bool.false_eq_true, Bool.true_eq_false, Bool.not_true, Bool.not_false, List.any_cons, List.any_nil, List.all_cons, List.all_nil, Bool.or_false, Bool.or_true, Bool.false_or, Bool.true_or, Bool.and_true, Bool.and_false, Bool.true_and, Bool.false_and, reduceCtorEq, String.reduceEq, beq_self_eq_true, String.reduceBEq, at0, at1, at2, at3, Int.reduceEq, true_and, and_true, sizeLine, Nat.reducePow, Nat.reduceLeDiff, Nat.reduceLT, Int.natCast_add, Int.cast_ofNat_Int, Int.reduceLT, Int.reduceLE]
      simp only [e2]
      try simp only [dNewD, dDput, putDk, dExtend, dLock, dKeysI, rDin, rDget, dictD, keyD, dTupRg, dIndexF, dOrT, dAndT, dSeqA, dCont, dRet, dRetN, dSeq, dIfS, dDrop, dSet, gNm, dNext, dAndV, dOrV, dNotV, dAnd, dOr, dNot, dIf, dTru, dBool, dOp, dVar, dC, dCa, dCons, dNil, dTup, dLst, dFrz, frzD, dSl, dNo, dPart, slD, dNeg, dChain, rIsD, rEqS, eqS, DL.rInD, inD, eqF_str, flatD_str, flatD_int, rTypeD, tyD, rLenD, lenD, DL.rIxD, rIntD, rAddD, rTupleD, DL.rListD, rAllD, itemsD, itemsL, rToInt, isD, DL.isNon, isBl, startD, endsOf, dLc, dSeqT, dSeqL, dZip, dRev, dRng1, dFor, dListEnum, wipeD, gTp, gsCons, gsNil, rKdIx, rKdIn, gob, truD, dPop, dAppend, List.isEmpty_cons, List.isEmpty_nil, cut_to1, cut_from1, cut_init, List.drop_one, List.tail_cons, List.take_succ_cons, List.take_zero, bools_true, all_true, mset_same, mset_mset, List.map_cons, List.map_nil, List.length_cons, List.length_nil, List.replicate, List.cons_append, List.nil_append, List.append_nil, List.getElem?_cons_zero, List.getElem?_cons_succ, List.getElem?_nil, Nat.reduceAdd, Nat.reduceSub, List.set_cons_zero, List.set_cons_succ, decide_true, decide_false, if_true, if_false, Bool.false_eq_true, Bool.true_eq_false, Bool.not_true, Bool.not_false, List.any_cons, List.any_nil, List.all_cons, List.all_nil, Bool.or_false, Bool.or_true, Bool.false_or, Bool.true_or, Bool.and_true, Bool.and_false, Bool.true_and, Bool.false_and, reduceCtorEq, String.reduceEq, beq_self_eq_true, String.reduceBEq, at0, at1, at2, at3, Int.reduceEq, true_and, and_true, sizeLine, Nat.reducePow, Nat.reduceLeDiff, Nat.reduceLT, Int.natCast_add, Int.cast_ofNat_Int, Int.reduceLT, Int.reduceLE]
      simp only [et]
      try simp only [dNewD, dDput, putDk, dExtend, dLock, dKeysI, rDin, rDget, dictD, keyD, dTupRg, dIndexF, dOrT, dAndT, dSeqA, dCont, dRet, dRetN, dSeq, dIfS, dDrop, dSet, gNm, dNext, dAndV, dOrV, dNotV, dAnd, dOr, dNot, dIf, dTru, dBool, dOp, dVar, dC, dCa, dCons, dNil, dTup, dLst, dFrz, frzD, dSl, dNo, dPart, slD, dNeg, dChain, rIsD, rEqS, eqS, DL.rInD, inD, eqF_str, flatD_str, flatD_int, rTypeD, tyD, rLenD, lenD, DL.rIxD, rIntD, rAddD, rTupleD, DL.rListD, rAllD, itemsD, itemsL, rToInt, isD, DL.isNon, isBl, startD, endsOf, dLc, dSeqT, dSeqL, dZip, dRev, dRng1, dFor, dListEnum, wipeD, gTp, gsCons, gsNil, rKdIx, rKdIn, gob, truD, dPop, dAppend, List.isEmpty_cons, List.isEmpty_nil, cut_to1, cut_from1, cut_init, List.drop_one, List.tail_cons, List.take_succ_cons, List.take_zero, bools_true, all_true, mset_same, mset_mset, List.map_cons, List.map_nil, List.length_cons, List.length_nil, List.replicate, List.cons_append, List.nil_append, List.append_nil, List.getElem?_cons_zero, List.getElem?_cons_succ, List.getElem?_nil, Nat.reduceAdd, Nat.reduceSub, List.set_cons_zero, List.set_cons_succ, decide_true, decide_false, if_true, if_false, Bool.false_eq_true, Bool.true_eq_false, Bool.not_true, Bool.not_false, List.any_cons, List.any_nil, List.all_cons, List.all_nil, Bool.or_false, Bool.or_true, Bool.false_or, Bool.true_or, Bool.and_true, Bool.and_false, Bool.true_and, Bool.false_and, reduceCtorEq, String.reduceEq, beq_self_eq_true, String.reduceBEq, at0, at1, at2, at3, Int.reduceEq, true_and, and_true, sizeLine, Nat.reducePow, Nat.reduceLeDiff, Nat.reduceLT, Int.natCast_add, Int.cast_ofNat_Int, Int.reduceLT, Int.reduceLE]
      refine ⟨thAt s i, rfl, R.rooms _ (List.mem_of_getElem? (thAt_get li)), fun b1 hb => ?_⟩
      try simp only [dNewD, dDput, putDk, dExtend, dLock, dKeysI, rDin, rDget, dictD, keyD, dTupRg, dIndexF, dOrT, dAndT, dSeqA, dCont, dRet, dRetN, dSeq, dIfS, dDrop, dSet, gNm, dNext, dAndV, dOrV, dNotV, dAnd, dOr, dNot, dIf, dTru, dBool, dOp, dVar, dC, dCa, dCons, dNil, dTup, dLst, dFrz, frzD, dSl, dNo, dPart, slD, dNeg, dChain, rIsD, rEqS, eqS, DL.rInD, inD, eqF_str, flatD_str, flatD_int, rTypeD, tyD, rLenD, lenD, DL.rIxD, rIntD, rAddD, rTupleD, DL.rListD, rAllD, itemsD, itemsL, rToInt, isD, DL.isNon, isBl, startD, endsOf, dLc, dSeqT, dSeqL, dZip, dRev, dRng1, dFor, dListEnum, wipeD, gTp, gsCons, gsNil, rKdIx, rKdIn, gob, truD, dPop, dAppend, List.isEmpty_cons, List.isEmpty_nil, cut_to1, cut_from1, cut_init, List.drop_one, List.tail_cons, List.take_succ_cons, List.take_zero, bools_true, all_true, mset_same, mset_mset, List.map_cons, List.map_nil, List.length_cons, List.length_nil, List.replicate, List.cons_append, List.nil_append, List.append_nil, List.getElem?_cons_zero, List.getElem?_cons_succ, List.getElem?_nil, Nat.reduceAdd, Nat.reduceSub, List.set_cons_zero, List.set_cons_succ, decide_true, decide_false, if_true, if_false, Bool.false_eq_true, Bool.true_eq_false, Bool.not_true, Bool.not_false, List.any_cons, List.any_nil, List.all_cons, List.all_nil, Bool.or_false, Bool.or_true, Bool.false_or, Bool.true_or, Bool.and_true, Bool.and_false, Bool.true_and, Bool.false_and, reduceCtorEq, String.reduceEq, beq_self_eq_true, String.reduceBEq, at0, at1, at2, at3, Int.reduceEq, true_and, and_true, sizeLine, Nat.reducePow, Nat.reduceLeDiff, Nat.reduceLT, Int.natCast_add, Int.cast_ofNat_Int, Int.reduceLT, Int.reduceLE]
      rw [mdel_mset hb]
      refine loop_rem (fun rem ρ μ' => ∃ rest kn2 y, rem = iN rest ∧ ρ = [some (stD s), some (.ob pk), some (.int ((a : Nat) : Int)), y, none] ∧ μ' pk = some (.lst (iN kn2)) ∧ Kp [pk] μ μ' ∧ Inn s kn2 rest a i) ?_ ?_ _ _ _ ⟨pls (thAt s i).ws, kn, _, rfl, rfl, ek, K2, ⟨b, c, e1, fun k m => .inr (mem_pls.mpr m), fun k m => .step i k _ ri (thAt_get li) (mem_pls.mp m)⟩⟩
      · rintro d rem ρ μ3 NX2 ⟨rest, kn2, y2, er, rfl, ek3, K3, I⟩ hnx
        cases rest with
        | nil => cases er
        | cons k rest =>
          rw [show iN (k :: rest) = D.int (k : Nat) :: iN rest from rfl] at er
          cases er
          have l2 := I.bf.len R
          simp only [dNewD, dDput, putDk, dExtend, dLock, dKeysI, rDin, rDget, dictD, keyD, dTupRg, dIndexF, dOrT, dAndT, dSeqA, dCont, dRet, dRetN, dSeq, dIfS, dDrop, dSet, gNm, dNext, dAndV, dOrV, dNotV, dAnd, dOr, dNot, dIf, dTru, dBool, dOp, dVar, dC, dCa, dCons, dNil, dTup, dLst, dFrz, frzD, dSl, dNo, dPart, slD, dNeg, dChain, rIsD, rEqS, eqS, DL.rInD, inD, eqF_str, flatD_str, flatD_int, rTypeD, tyD, rLenD, lenD, DL.rIxD, rIntD, rAddD, rTupleD, DL.rListD, rAllD, itemsD, itemsL, rToInt, isD, DL.isNon, isBl, startD, endsOf, dLc, dSeqT, dSeqL, dZip, dRev, dRng1, dFor, dListEnum, wipeD, gTp, gsCons, gsNil, rKdIx, rKdIn, gob, truD, dPop, dAppend, List.isEmpty_cons, List.isEmpty_nil, cut_to1, cut_from1, cut_init, List.drop_one, List.tail_cons, List.take_succ_cons, List.take_zero, bools_true, all_true, mset_same, mset_mset, List.map_cons, List.map_nil, List.length_cons, List.length_nil, List.replicate, List.cons_append, List.nil_append, List.append_nil, List.getElem?_cons_zero, List.getElem?_cons_succ, List.getElem?_nil, Nat.reduceAdd, Nat.reduceSub, List.set_cons_zero, List.set_cons_succ, decide_true, decide_false, if_true, if_false, Bool.false_eq_true, Bool.true_eq_false, Bool.not_true, Bool.not_false, List.any_cons, List.any_nil, List.all_cons, List.all_nil, Bool.or_false, Bool.or_true, Bool.false_or, Bool.true_or, Bool.and_true, Bool.and_false, Bool.true_and, Bool.false_and, reduceCtorEq, String.reduceEq, beq_self_eq_true, String.reduceBEq, at0, at1, at2, at3, Int.reduceEq, true_and, and_true, sizeLine, Nat.reducePow, Nat.reduceLeDiff, Nat.reduceLT, Int.natCast_add, Int.cast_ofNat_Int, Int.reduceLT, Int.reduceLE]
          try simp only [ek3]
          try simp only [dNewD, dDput, putDk, dExtend, dLock, dKeysI, rDin, rDget, dictD, keyD, dTupRg, dIndexF, dOrT, dAndT, dSeqA, dCont, dRet, dRetN, dSeq, dIfS, dDrop, dSet, gNm, dNext, dAndV, dOrV, dNotV, dAnd, dOr, dNot, dIf, dTru, dBool, dOp, dVar, dC, dCa, dCons, dNil, dTup, dLst, dFrz, frzD, dSl, dNo, dPart, slD, dNeg, dChain, rIsD, rEqS, eqS, DL.rInD, inD, eqF_str, flatD_str, flatD_int, rTypeD, tyD, rLenD, lenD, DL.rIxD, rIntD, rAddD, rTupleD, DL.rListD, rAllD, itemsD, itemsL, rToInt, isD, DL.isNon, isBl, startD, endsOf, dLc, dSeqT, dSeqL, dZip, dRev, dRng1, dFor, dListEnum, wipeD, gTp, gsCons, gsNil, rKdIx, rKdIn, gob, truD, dPop, dAppend, List.isEmpty_cons, List.isEmpty_nil, cut_to1, cut_from1, cut_init, List.drop_one, List.tail_cons, List.take_succ_cons, List.take_zero, bools_true, all_true, mset_same, mset_mset, List.map_cons, List.map_nil, List.length_cons, List.length_nil, List.replicate, List.cons_append, List.nil_append, List.append_nil, List.getElem?_cons_zero, List.getElem?_cons_succ, List.getElem?_nil, Nat.reduceAdd, Nat.reduceSub, List.set_cons_zero, List.set_cons_succ, decide_true, decide_false, if_true, if_false, Bool.false_eq_true, Bool.true_eq_false, Bool.not_true, Bool.not_false, List.any_cons, List.any_nil, List.all_cons, List.all_nil, Bool.or_false, Bool.or_true, Bool.false_or, Bool.true_or, Bool.and_true, Bool.and_false, Bool.true_and, Bool.false_and, reduceCtorEq, String.reduceEq, beq_self_eq_true, String.reduceBEq, at0, at1, at2, at3, Int.reduceEq, true_and, and_true, sizeLine, Nat.reducePow, Nat.reduceLeDiff, Nat.reduceLT, Int.natCast_add, Int.cast_ofNat_Int, Int.reduceLT, Int.reduceLE]
          try rw [iN_flat, iN_in]
          by_cases m : k ∈ kn2
          · rw [decide_eq_true m]
            try simp only [dNewD, dDput, putDk, dExtend, dLock, dKeysI, rDin, rDget, dictD, keyD, dTupRg, dIndexF, dOrT, dAndT, dSeqA, dCont, dRet, dRetN, dSeq, dIfS, dDrop, dSet, gNm, dNext, dAndV, dOrV, dNotV, dAnd, dOr, dNot, dIf, dTru, dBool, dOp, dVar, dC, dCa, dCons, dNil, dTup, dLst, dFrz, frzD, dSl, dNo, dPart, slD, dNeg, dChain, rIsD, rEqS, eqS, DL.rInD, inD, eqF_str, flatD_str, flatD_int, rTypeD, tyD, rLenD, lenD, DL.rIxD, rIntD, rAddD, rTupleD, DL.rListD, rAllD, itemsD, itemsL, rToInt, isD, DL.isNon, isBl, startD, endsOf, dLc, dSeqT, dSeqL, dZip, dRev, dRng1, dFor, dListEnum, wipeD, gTp, gsCons, gsNil, rKdIx, rKdIn, gob, truD, dPop, dAppend, List.isEmpty_cons, List.isEmpty_nil, cut_to1, cut_from1, cut_init, List.drop_one, List.tail_cons, List.take_succ_cons, List.take_zero, bools_true, all_true, mset_same, mset_mset, List.map_cons, List.map_nil, List.length_cons, List.length_nil, List.replicate, List.cons_append, List.nil_append, List.append_nil, List.getElem?_cons_zero, List.getElem?_cons_succ, List.getElem?_nil, Nat.reduceAdd, Nat.reduceSub, List.set_cons_zero, List.set_cons_succ, decide_true, decide_false, if_true, if_false, Bool.false_eq_true, Bool.true_eq_false, Bool.not_true, Bool.not_false, List.any_cons, List.any_nil, List.all_cons, List.all_nil, Bool.or_false, Bool.or_true, Bool.false_or, Bool.true_or, Bool.and_true, Bool.and_false, Bool.true_and, Bool.false_and, reduceCtorEq, String.reduceEq, beq_self_eq_true, String.reduceBEq, at0, at1, at2, at3, Int.reduceEq, true_and, and_true, sizeLine, Nat.reducePow, Nat.reduceLeDiff, Nat.reduceLT, Int.natCast_add, Int.cast_ofNat_Int, Int.reduceLT, Int.reduceLE]
            exact hnx _ _ ⟨rest, kn2, _, rfl, rfl, ek3, K3, I.old m⟩
          · rw [decide_eq_false m]
            try simp only [dNewD, dDput, putDk, dExtend, dLock, dKeysI, rDin, rDget, dictD, keyD, dTupRg, dIndexF, dOrT, dAndT, dSeqA, dCont, dRet, dRetN, dSeq, dIfS, dDrop, dSet, gNm, dNext, dAndV, dOrV, dNotV, dAnd, dOr, dNot, dIf, dTru, dBool, dOp, dVar, dC, dCa, dCons, dNil, dTup, dLst, dFrz, frzD, dSl, dNo, dPart, slD, dNeg, dChain, rIsD, rEqS, eqS, DL.rInD, inD, eqF_str, flatD_str, flatD_int, rTypeD, tyD, rLenD, lenD, DL.rIxD, rIntD, rAddD, rTupleD, DL.rListD, rAllD, itemsD, itemsL, rToInt, isD, DL.isNon, isBl, startD, endsOf, dLc, dSeqT, dSeqL, dZip, dRev, dRng1, dFor, dListEnum, wipeD, gTp, gsCons, gsNil, rKdIx, rKdIn, gob, truD, dPop, dAppend, List.isEmpty_cons, List.isEmpty_nil, cut_to1, cut_from1, cut_init, List.drop_one, List.tail_cons, List.take_succ_cons, List.take_zero, bools_true, all_true, mset_same, mset_mset, List.map_cons, List.map_nil, List.length_cons, List.length_nil, List.replicate, List.cons_append, List.nil_append, List.append_nil, List.getElem?_cons_zero, List.getElem?_cons_succ, List.getElem?_nil, Nat.reduceAdd, Nat.reduceSub, List.set_cons_zero, List.set_cons_succ, decide_true, decide_false, if_true, if_false, Bool.false_eq_true, Bool.true_eq_false, Bool.not_true, Bool.not_false, List.any_cons, List.any_nil, List.all_cons, List.all_nil, Bool.or_false, Bool.or_true, Bool.false_or, Bool.true_or, Bool.and_true, Bool.and_false, Bool.true_and, Bool.false_and, reduceCtorEq, String.reduceEq, beq_self_eq_true, String.reduceBEq, at0, at1, at2, at3, Int.reduceEq, true_and, and_true, sizeLine, Nat.reducePow, Nat.reduceLeDiff, Nat.reduceLT, Int.natCast_add, Int.cast_ofNat_Int, Int.reduceLT, Int.reduceLE]
            unfold pushD
            rw [ek3]
            refine ⟨by rw [List.length_map, List.length_map]; show _ < 2 ^ 24; omega, hnx _ _ ⟨rest, kn2 ++ [k], _, rfl, rfl, ?_, ?_, I.new m⟩⟩
            · rw [mset_same]
              unfold iN ni
              rw [List.map_append, List.map_append]
              rfl
            · exact K3.trans (Kp.eq fun q hq => mset_ne fun z => hq (List.mem_singleton.mpr z))
      · rintro ρ μ3 ⟨rest, kn2, y2, er, rfl, ek3, K3, I⟩
        cases rest with
        | cons k rest => cases er
        | nil =>
          have l2 := I.bf.len R
          have l3 := I.lt
          simp only [dNewD, dDput, putDk, dExtend, dLock, dKeysI, rDin, rDget, dictD, keyD, dTupRg, dIndexF, dOrT, dAndT, dSeqA, dCont, dRet, dRetN, dSeq, dIfS, dDrop, dSet, gNm, dNext, dAndV, dOrV, dNotV, dAnd, dOr, dNot, dIf, dTru, dBool, dOp, dVar, dC, dCa, dCons, dNil, dTup, dLst, dFrz, frzD, dSl, dNo, dPart, slD, dNeg, dChain, rIsD, rEqS, eqS, DL.rInD, inD, eqF_str, flatD_str, flatD_int, rTypeD, tyD, rLenD, lenD, DL.rIxD, rIntD, rAddD, rTupleD, DL.rListD, rAllD, itemsD, itemsL, rToInt, isD, DL.isNon, isBl, startD, endsOf, dLc, dSeqT, dSeqL, dZip, dRev, dRng1, dFor, dListEnum, wipeD, gTp, gsCons, gsNil, rKdIx, rKdIn, gob, truD, dPop, dAppend, List.isEmpty_cons, List.isEmpty_nil, cut_to1, cut_from1, cut_init, List.drop_one, List.tail_cons, List.take_succ_cons, List.take_zero, bools_true, all_true, mset_same, mset_mset, List.map_cons, List.map_nil, List.length_cons, List.length_nil, List.replicate, List.cons_append, List.nil_append, List.append_nil, List.getElem?_cons_zero, List.getElem?_cons_succ, List.getElem?_nil, Nat.reduceAdd, Nat.reduceSub, List.set_cons_zero, List.set_cons_succ, decide_true, decide_false, if_true, if_false, Bool.false_eq_true, Bool.true_eq_false, Bool.not_true, Bool.not_false, List.any_cons, List.any_nil, List.all_cons, List.all_nil, Bool.or_false, Bool.or_true, Bool.false_or, Bool.true_or, Bool.and_true, Bool.and_false, Bool.true_and, Bool.false_and, reduceCtorEq, String.reduceEq, beq_self_eq_true, String.reduceBEq, at0, at1, at2, at3, Int.reduceEq, true_and, and_true, sizeLine, Nat.reducePow, Nat.reduceLeDiff, Nat.reduceLT, Int.natCast_add, Int.cast_ofNat_Int, Int.reduceLT, Int.reduceLE]
          exact ⟨s.ths.length - (a + 1), by omega, kn2, a + 1, y2, rfl, ek3, K3, I.bf.next I.e fun k m => (I.all k m).resolve_right (fun z => nomatch z), by omega, rfl⟩
    · rw [if_neg (by simpa using c)]
      exact hN _ _ ⟨kn, _, _, _, rfl, ek, K2, b.nd, b.fin (by omega)⟩
  rintro ρ' μ' ⟨kn, x, y, z, rfl, ek, K2, nd, hm⟩
  simp only [dNewD, dDput, putDk, dExtend, dLock, dKeysI, rDin, rDget, dictD, keyD, dTupRg, dIndexF, dOrT, dAndT, dSeqA, dCont, dRet, dRetN, dSeq, dIfS, dDrop, dSet, gNm, dNext, dAndV, dOrV, dNotV, dAnd, dOr, dNot, dIf, dTru, dBool, dOp, dVar, dC, dCa, dCons, dNil, dTup, dLst, dFrz, frzD, dSl, dNo, dPart, slD, dNeg, dChain, rIsD, rEqS, eqS, DL.rInD, inD, eqF_str, flatD_str, flatD_int, rTypeD, tyD, rLenD, lenD, DL.rIxD, rIntD, rAddD, rTupleD, DL.rListD, rAllD, itemsD, itemsL, rToInt, isD, DL.isNon, isBl, startD, endsOf, dLc, dSeqT, dSeqL, dZip, dRev, dRng1, dFor, dListEnum, wipeD, gTp, gsCons, gsNil, rKdIx, rKdIn, gob, truD, dPop, dAppend, List.isEmpty_cons, List.isEmpty_nil, cut_to1, cut_from1, cut_init, List.drop_one, List.tail_cons, List.take_succ_cons, List.take_zero, bools_true, all_true, mset_same, mset_mset, List.map_cons, List.map_nil, List.length_cons, List.length_nil, List.replicate, List.cons_append, List.nil_append, List.append_nil, List.getElem?_cons_zero, List.getElem?_cons_succ, List.getElem?_nil, Nat.reduceAdd, Nat.reduceSub, List.set_cons_zero, List.set_cons_succ, decide_true, decide_false, if_true, if_false, Bool.false_eq_true, Bool.true_eq_false, Bool.not_true, Bool.not_false, List.any_cons, List.any_nil, List.all_cons, List.all_nil, Bool.or_false, Bool.or_true, Bool.false_or, Bool.true_or, Bool.and_true, Bool.and_false, Bool.true_and, Bool.false_and, reduceCtorEq, String.reduceEq, beq_self_eq_true, String.reduceBEq, at0, at1, at2, at3, Int.reduceEq, true_and, and_true, sizeLine, Nat.reducePow, Nat.reduceLeDiff, Nat.reduceLT, Int.natCast_add, Int.cast_ofNat_Int, Int.reduceLT, Int.reduceLE]
  have es := sort_lst ek
  unfold rSortD
  simp only [es]
  intro ns p2 h1 h2 hp2
  rw [srt_eq R nd hm h1 h2]
  have hp := K2.none hp2 (fun z => by rw [List.mem_singleton.mp z, ek] at hp2; cases hp2)
  refine ⟨_, fun x o e => ?_, q p2 hp⟩
  by_cases c : x = p2
  · subst c; rw [mset_same] at e ⊢; exact e
  · rw [mset_ne c] at e ⊢
    exact K2 x o (fun z => by rw [List.mem_singleton.mp z, hpk] at e; cases e) e
theorem ok_lgone (B : NoG mg) {a1 a2 a3 : Addr} {d1 d2 d3 : FuncData} (F : Fun K "_law_gone" "_law_gone" s_law_gone f fd) (Glaw_reached : Gt P w K mg base 2 "_law_reached" ["state"] sp_lr a1 d1) (Glaw_anew : Gt P w K mg base 1 "_law_anew" ["known", "one"] sp_anew a2 d2) (Glaw_thing_anew : Gt P w K mg base 2 "_law_thing_anew" ["known", "thing"] sp_ta a3 d3) : FnOk P w K mg base CX0 3 f fd ["state"] (spUp K sp_gone) := by
  refine okD F sc_law_gone (fun ds μ Q ⟨t, e, _⟩ => by rw [e]; rfl) fun cdv A outer s H E hr => ⟨_, (ds_cons (d_set 1 sc_law_gone.nd (d_frz (d_call Glaw_reached.F Glaw_reached.mono (hr.mono (by first | decide | omega)) Glaw_reached.m Glaw_reached.k Glaw_reached.b (da_cons (d_var 0) da_nil))))
      (ds_cons (d_set 2 sc_law_gone.nd (d_callTy c_tuple rfl B.tuple rfl (da_cons (d_frz (d_lc rfl sc_law_gone.nd (di_tup (d_ix ix_ok (d_var 0) d_int)) (blk_ok2 (N := ["state", "known", "registers", "one", "address"]) (sc := defScope s_law_gone) (own := [("one", 3)]) (by rfl) (by decide +kernel) (by decide +kernel) (by decide +kernel) (by decide +kernel)) (fun _ _ _ _ _ => (dg_name 3 sc_law_gone.nd)) (fun _ _ _ _ _ => dts_nil) (fun _ _ _ _ _ => (d_call Glaw_anew.F Glaw_anew.mono (hr.mono (by first | decide | omega)) Glaw_anew.m Glaw_anew.k Glaw_anew.b (da_cons (d_var 1) (da_cons (d_var 3) da_nil)))))) da_nil)))
      (ds_one (d_ret (d_tup (da_cons (d_var 2) (da_cons (d_callTy c_tuple rfl B.tuple rfl (da_cons (d_frz (d_lc rfl sc_law_gone.nd (di_list (d_var 1)) (blk_ok2 (N := ["state", "known", "registers", "one", "address"]) (sc := defScope s_law_gone) (own := [("address", 4)]) (by rfl) (by decide +kernel) (by decide +kernel) (by decide +kernel) (by decide +kernel)) (fun _ _ _ _ _ => (dg_name 4 sc_law_gone.nd)) (fun _ _ _ _ _ => dts_nil) (fun _ _ _ _ _ => (d_call Glaw_thing_anew.F Glaw_thing_anew.mono (hr.mono (by first | decide | omega)) Glaw_thing_anew.m Glaw_thing_anew.k Glaw_thing_anew.b (da_cons (d_var 1) (da_cons (d_ix ix_ok (d_ix ix_ok (d_var 0) d_int) (d_var 4)) da_nil)))))) da_nil)) (da_cons (d_ix ix_ok (d_var 0) d_int) (da_cons (d_ix ix_ok (d_var 0) d_int) da_nil))))))))), ?_⟩
  rintro ds μ Q ⟨s, rfl, R, q⟩
  have sm := R.small
  have fw := R.few
  have lr := rcl_len s
  refine q_by (fun d μ' => μ = μ' ∧ d = .lst (iN (rcl s))) (fun k hk => ?_) ?_
  · simp only [dNewD, dDput, putDk, dExtend, dLock, dKeysI, rDin, rDget, dictD, keyD, dTupRg, dIndexF, dOrT, dAndT, dSeqA, dCont, dRet, dRetN, dSeq, dIfS, dDrop, dSet, gNm, dNext, dAndV, dOrV, dNotV, dAnd, dOr, dNot, dIf, dTru, dBool, dOp, dVar, dC, dCa, dCons, dNil, dTup, dLst, dFrz, frzD, dSl, dNo, dPart, slD, dNeg, dChain, rIsD, rEqS, eqS, DL.rInD, inD, eqF_str, flatD_str, flatD_int, rTypeD, tyD, rLenD, lenD, DL.rIxD, rIntD, rAddD, rTupleD, DL.rListD, rAllD, itemsD, itemsL, rToInt, isD, DL.isNon, isBl, startD, endsOf, dLc, dSeqT, dSeqL, dZip, dRev, dRng1, dFor, dListEnum, wipeD, gTp, gsCons, gsNil, rKdIx, rKdIn, gob, truD, dPop, dAppend, List.isEmpty_cons, List.isEmpty_nil, cut_to1, cut_from1, cut_init, List.drop_one, List.tail_cons, List.take_succ_cons, List.take_zero, bools_true, all_true, mset_same, mset_mset, List.map_cons, List.map_nil, List.length_cons, List.length_nil, List.replicate, List.cons_append, List.nil_append, List.append_nil, List.getElem?_cons_zero, List.getElem?_cons_succ, List.getElem?_nil, Nat.reduceAdd, Nat.reduceSub, List.set_cons_zero, List.set_cons_succ, decide_true, decide_false, if_true, if_false, Bool.false_eq_true, Bool.true_eq_false, Bool.not_true, Bool.not_false, List.any_cons, List.any_nil, List.all_cons, List.all_nil, Bool.or_false, Bool.or_true, Bool.false_or, Bool.true_or, Bool.and_true, Bool.and_false, Bool.true_and, Bool.false_and, reduceCtorEq, String.reduceEq, beq_self_eq_true, String.reduceBEq, at0, at1, at2, at3, Int.reduceEq, true_and, and_true, sizeLine, Nat.reducePow, Nat.reduceLeDiff, Nat.reduceLT, Int.natCast_add, Int.cast_ofNat_Int, Int.reduceLT, Int.reduceLE]
    refine ⟨s, rfl, R, fun p hp => ?_⟩
    try simp only [dNewD, dDput, putDk, dExtend, dLock, dKeysI, rDin, rDget, dictD, keyD, dTupRg, dIndexF, dOrT, dAndT, dSeqA, dCont, dRet, dRetN, dSeq, dIfS, dDrop, dSet, gNm, dNext, dAndV, dOrV, dNotV, dAnd, dOr, dNot, dIf, dTru, dBool, dOp, dVar, dC, dCa, dCons, dNil, dTup, dLst, dFrz, frzD, dSl, dNo, dPart, slD, dNeg, dChain, rIsD, rEqS, eqS, DL.rInD, inD, eqF_str, flatD_str, flatD_int, rTypeD, tyD, rLenD, lenD, DL.rIxD, rIntD, rAddD, rTupleD, DL.rListD, rAllD, itemsD, itemsL, rToInt, isD, DL.isNon, isBl, startD, endsOf, dLc, dSeqT, dSeqL, dZip, dRev, dRng1, dFor, dListEnum, wipeD, gTp, gsCons, gsNil, rKdIx, rKdIn, gob, truD, dPop, dAppend, List.isEmpty_cons, List.isEmpty_nil, cut_to1, cut_from1, cut_init, List.drop_one, List.tail_cons, List.take_succ_cons, List.take_zero, bools_true, all_true, mset_same, mset_mset, List.map_cons, List.map_nil, List.length_cons, List.length_nil, List.replicate, List.cons_append, List.nil_append, List.append_nil, List.getElem?_cons_zero, List.getElem?_cons_succ, List.getElem?_nil, Nat.reduceAdd, Nat.reduceSub, List.set_cons_zero, List.set_cons_succ, decide_true, decide_false, if_true, if_false, Bool.false_eq_true, Bool.true_eq_false, Bool.not_true, Bool.not_false, List.any_cons, List.any_nil, List.all_cons, List.all_nil, Bool.or_false, Bool.or_true, Bool.false_or, Bool.true_or, Bool.and_true, Bool.and_false, Bool.true_and, Bool.false_and, reduceCtorEq, String.reduceEq, beq_self_eq_true, String.reduceBEq, at0, at1, at2, at3, Int.reduceEq, true_and, and_true, sizeLine, Nat.reducePow, Nat.reduceLeDiff, Nat.reduceLT, Int.natCast_add, Int.cast_ofNat_Int, Int.reduceLT, Int.reduceLE]
    rw [mdel_mset hp]
    exact hk _ _ ⟨rfl, rfl⟩
  rintro d μ' ⟨rfl, rfl⟩
  refine q_by (fun d μ' => μ = μ' ∧ d = .tup ((s.regs.map (mv (rcl s))).map woD)) (fun k hk => ?_) ?_
  · simp only [stD]
    simp only [dNewD, dDput, putDk, dExtend, dLock, dKeysI, rDin, rDget, dictD, keyD, dTupRg, dIndexF, dOrT, dAndT, dSeqA, dCont, dRet, dRetN, dSeq, dIfS, dDrop, dSet, gNm, dNext, dAndV, dOrV, dNotV, dAnd, dOr, dNot, dIf, dTru, dBool, dOp, dVar, dC, dCa, dCons, dNil, dTup, dLst, dFrz, frzD, dSl, dNo, dPart, slD, dNeg, dChain, rIsD, rEqS, eqS, DL.rInD, inD, eqF_str, flatD_str, flatD_int, rTypeD, tyD, rLenD, lenD, DL.rIxD, rIntD, rAddD, rTupleD, DL.rListD, rAllD, itemsD, itemsL, rToInt, isD, DL.isNon, isBl, startD, endsOf, dLc, dSeqT, dSeqL, dZip, dRev, dRng1, dFor, dListEnum, wipeD, gTp, gsCons, gsNil, rKdIx, rKdIn, gob, truD, dPop, dAppend, List.isEmpty_cons, List.isEmpty_nil, cut_to1, cut_from1, cut_init, List.drop_one, List.tail_cons, List.take_succ_cons, List.take_zero, bools_true, all_true, mset_same, mset_mset, List.map_cons, List.map_nil, List.length_cons, List.length_nil, List.replicate, List.cons_append, List.nil_append, List.append_nil, List.getElem?_cons_zero, List.getElem?_cons_succ, List.getElem?_nil, Nat.reduceAdd, Nat.reduceSub, List.set_cons_zero, List.set_cons_succ, decide_true, decide_false, if_true, if_false, Bool.false_eq_true, Bool.true_eq_false, Bool.not_true, Bool.not_false, List.any_cons, List.any_nil, List.all_cons, List.all_nil, Bool.or_false, Bool.or_true, Bool.false_or, Bool.true_or, Bool.and_true, Bool.and_false, Bool.true_and, Bool.false_and, reduceCtorEq, String.reduceEq, beq_self_eq_true, String.reduceBEq, at0, at1, at2, at3, Int.reduceEq, true_and, and_true, sizeLine, Nat.reducePow, Nat.reduceLeDiff, Nat.reduceLT, Int.natCast_add, Int.cast_ofNat_Int, Int.reduceLT, Int.reduceLE]
    intro p hp
    refine lc_mapA woD (fun x => woD (mv (rcl s) x)) s.regs [] _ mset_same (by show 0 + _ ≤ 2 ^ 24; omega) (fun x m acc kk hkk => ?_) ?_
    · rw [mset_mset] at hkk
      try simp only [dNewD, dDput, putDk, dExtend, dLock, dKeysI, rDin, rDget, dictD, keyD, dTupRg, dIndexF, dOrT, dAndT, dSeqA, dCont, dRet, dRetN, dSeq, dIfS, dDrop, dSet, gNm, dNext, dAndV, dOrV, dNotV, dAnd, dOr, dNot, dIf, dTru, dBool, dOp, dVar, dC, dCa, dCons, dNil, dTup, dLst, dFrz, frzD, dSl, dNo, dPart, slD, dNeg, dChain, rIsD, rEqS, eqS, DL.rInD, inD, eqF_str, flatD_str, flatD_int, rTypeD, tyD, rLenD, lenD, DL.rIxD, rIntD, rAddD, rTupleD, DL.rListD, rAllD, itemsD, itemsL, rToInt, isD, DL.isNon, isBl, startD, endsOf, dLc, dSeqT, dSeqL, dZip, dRev, dRng1, dFor, dListEnum, wipeD, gTp, gsCons, gsNil, rKdIx, rKdIn, gob, truD, dPop, dAppend, List.isEmpty_cons, List.isEmpty_nil, cut_to1, cut_from1, cut_init, List.drop_one, List.tail_cons, List.take_succ_cons, List.take_zero, bools_true, all_true, mset_same, mset_mset, List.map_cons, List.map_nil, List.length_cons, List.length_nil, List.replicate, List.cons_append, List.nil_append, List.append_nil, List.getElem?_cons_zero, List.getElem?_cons_succ, List.getElem?_nil, Nat.reduceAdd, Nat.reduceSub, List.set_cons_zero, List.set_cons_succ, decide_true, decide_false, if_true, if_false, Bool.false_eq_true, Bool.true_eq_false, Bool.not_true, Bool.not_false, List.any_cons, List.any_nil, List.all_cons, List.all_nil, Bool.or_false, Bool.or_true, Bool.false_or, Bool.true_or, Bool.and_true, Bool.and_false, Bool.true_and, Bool.false_and, reduceCtorEq, String.reduceEq, beq_self_eq_true, String.reduceBEq, at0, at1, at2, at3, Int.reduceEq, true_and, and_true, sizeLine, Nat.reducePow, Nat.reduceLeDiff, Nat.reduceLT, Int.natCast_add, Int.cast_ofNat_Int, Int.reduceLT, Int.reduceLE]
      exact ⟨rcl s, x, rfl, fun k e => (rcl_mem R).mpr (.reg k (e ▸ m)), hkk⟩
    · try simp only [dNewD, dDput, putDk, dExtend, dLock, dKeysI, rDin, rDget, dictD, keyD, dTupRg, dIndexF, dOrT, dAndT, dSeqA, dCont, dRet, dRetN, dSeq, dIfS, dDrop, dSet, gNm, dNext, dAndV, dOrV, dNotV, dAnd, dOr, dNot, dIf, dTru, dBool, dOp, dVar, dC, dCa, dCons, dNil, dTup, dLst, dFrz, frzD, dSl, dNo, dPart, slD, dNeg, dChain, rIsD, rEqS, eqS, DL.rInD, inD, eqF_str, flatD_str, flatD_int, rTypeD, tyD, rLenD, lenD, DL.rIxD, rIntD, rAddD, rTupleD, DL.rListD, rAllD, itemsD, itemsL, rToInt, isD, DL.isNon, isBl, startD, endsOf, dLc, dSeqT, dSeqL, dZip, dRev, dRng1, dFor, dListEnum, wipeD, gTp, gsCons, gsNil, rKdIx, rKdIn, gob, truD, dPop, dAppend, List.isEmpty_cons, List.isEmpty_nil, cut_to1, cut_from1, cut_init, List.drop_one, List.tail_cons, List.take_succ_cons, List.take_zero, bools_true, all_true, mset_same, mset_mset, List.map_cons, List.map_nil, List.length_cons, List.length_nil, List.replicate, List.cons_append, List.nil_append, List.append_nil, List.getElem?_cons_zero, List.getElem?_cons_succ, List.getElem?_nil, Nat.reduceAdd, Nat.reduceSub, List.set_cons_zero, List.set_cons_succ, decide_true, decide_false, if_true, if_false, Bool.false_eq_true, Bool.true_eq_false, Bool.not_true, Bool.not_false, List.any_cons, List.any_nil, List.all_cons, List.all_nil, Bool.or_false, Bool.or_true, Bool.false_or, Bool.true_or, Bool.and_true, Bool.and_false, Bool.true_and, Bool.false_and, reduceCtorEq, String.reduceEq, beq_self_eq_true, String.reduceBEq, at0, at1, at2, at3, Int.reduceEq, true_and, and_true, sizeLine, Nat.reducePow, Nat.reduceLeDiff, Nat.reduceLT, Int.natCast_add, Int.cast_ofNat_Int, Int.reduceLT, Int.reduceLE]
      rw [mdel_mset hp]
      refine hk _ _ ⟨rfl, ?_⟩
      rw [List.map_map]
      rfl
  rintro d μ' ⟨rfl, rfl⟩
  simp only [stD]
  simp only [dNewD, dDput, putDk, dExtend, dLock, dKeysI, rDin, rDget, dictD, keyD, dTupRg, dIndexF, dOrT, dAndT, dSeqA, dCont, dRet, dRetN, dSeq, dIfS, dDrop, dSet, gNm, dNext, dAndV, dOrV, dNotV, dAnd, dOr, dNot, dIf, dTru, dBool, dOp, dVar, dC, dCa, dCons, dNil, dTup, dLst, dFrz, frzD, dSl, dNo, dPart, slD, dNeg, dChain, rIsD, rEqS, eqS, DL.rInD, inD, eqF_str, flatD_str, flatD_int, rTypeD, tyD, rLenD, lenD, DL.rIxD, rIntD, rAddD, rTupleD, DL.rListD, rAllD, itemsD, itemsL, rToInt, isD, DL.isNon, isBl, startD, endsOf, dLc, dSeqT, dSeqL, dZip, dRev, dRng1, dFor, dListEnum, wipeD, gTp, gsCons, gsNil, rKdIx, rKdIn, gob, truD, dPop, dAppend, List.isEmpty_cons, List.isEmpty_nil, cut_to1, cut_from1, cut_init, List.drop_one, List.tail_cons, List.take_succ_cons, List.take_zero, bools_true, all_true, mset_same, mset_mset, List.map_cons, List.map_nil, List.length_cons, List.length_nil, List.replicate, List.cons_append, List.nil_append, List.append_nil, List.getElem?_cons_zero, List.getElem?_cons_succ, List.getElem?_nil, Nat.reduceAdd, Nat.reduceSub, List.set_cons_zero, List.set_cons_succ, decide_true, decide_false, if_true, if_false, Bool.false_eq_true, Bool.true_eq_false, Bool.not_true, Bool.not_false, List.any_cons, List.any_nil, List.all_cons, List.all_nil, Bool.or_false, Bool.or_true, Bool.false_or, Bool.true_or, Bool.and_true, Bool.and_false, Bool.true_and, Bool.false_and, reduceCtorEq, String.reduceEq, beq_self_eq_true, String.reduceBEq, at0, at1, at2, at3, Int.reduceEq, true_and, and_true, sizeLine, Nat.reducePow, Nat.reduceLeDiff, Nat.reduceLT, Int.natCast_add, Int.cast_ofNat_Int, Int.reduceLT, Int.reduceLE]
  intro p hp
  refine lc_mapA D.int (fun k => thD (mvT (rcl s) (thAt s k.toNat))) (ni (rcl s)) [] _ mset_same (by rw [List.length_map]; show 0 + _ ≤ 2 ^ 24; omega) (fun k0 m0 acc kk hkk => ?_) ?_
  · rw [mset_mset] at hkk
    obtain ⟨k, m, rfl⟩ := mem_ni.mp m0
    simp only [Int.toNat_natCast] at hkk
    have rk := (rcl_mem R).mp m
    have lk := rk.lt R
    have et : atI (s.ths.map thD) ((k : Nat) : Int) = some (thD (thAt s k)) := atI_nat (by rw [List.getElem?_map, thAt_get lk]; rfl)
    simp only [dNewD, dDput, putDk, dExtend, dLock, dKeysI, rDin, rDget, dictD, keyD, dTupRg, dIndexF, dOrT, dAndT, dSeqA, dCont, dRet, dRetN, dSeq, dIfS, dDrop, dSet, gNm, dNext, dAndV, dOrV, dNotV, dAnd, dOr, dNot, dIf, dTru, dBool, dOp, dVar, dC, dCa, dCons, dNil, dTup, dLst, dFrz, frzD, dSl, dNo, dPart, slD, dNeg, dChain, rIsD, rEqS, eqS, DL.rInD, inD, eqF_str, flatD_str, flatD_int, rTypeD, tyD, rLenD, lenD, DL.rIxD, rIntD, rAddD, rTupleD, DL.rListD, rAllD, itemsD, itemsL, rToInt, isD, DL.isNon, isBl, startD, endsOf, dLc, dSeqT, dSeqL, dZip, dRev, dRng1, dFor, dListEnum, wipeD, gTp, gsCons, gsNil, rKdIx, rKdIn, gob, truD, dPop, dAppend, List.isEmpty_cons, List.isEmpty_nil, cut_to1, cut_from1, cut_init, List.drop_one, List.tail_cons, List.take_succ_cons, List.take_zero, bools_true, all_true, mset_same, mset_mset, List.map_cons, List.map_nil, List.length_cons, List.length_nil, List.replicate, List.cons_append, List.nil_append, List.append_nil, List.getElem?_cons_zero, List.getElem?_cons_succ, List.getElem?_nil, Nat.reduceAdd, Nat.reduceSub, List.set_cons_zero, List.set_cons_succ, decide_true, decide_false, if_true, if_false, Bool.false_eq_true, Bool.true_eq_false, Bool.not_true, Bool.not_false, List.any_cons, List.any_nil, List.all_cons, List.all_nil, Bool.or_false, Bool.or_true, Bool.false_or, Bool.true_or, Bool.and_true, Bool.and_false, Bool.true_and, Bool.false_and, reduceCtorEq, String.reduceEq, beq_self_eq_true, String.reduceBEq, at0, at1, at2, at3, Int.reduceEq, true_and, and_true, sizeLine, Nat.reducePow, Nat.reduceLeDiff, Nat.reduceLT, Int.natCast_add, Int.cast_ofNat_Int, Int.reduceLT, Int.reduceLE]
    simp only [et]
    try simp only [dNewD, dDput, putDk, dExtend, dLock, dKeysI, rDin, rDget, dictD, keyD, dTupRg, dIndexF, dOrT, dAndT, dSeqA, dCont, dRet, dRetN, dSeq, dIfS, dDrop, dSet, gNm, dNext, dAndV, dOrV, dNotV, dAnd, dOr, dNot, dIf, dTru, dBool, dOp, dVar, dC, dCa, dCons, dNil, dTup, dLst, dFrz, frzD, dSl, dNo, dPart, slD, dNeg, dChain, rIsD, rEqS, eqS, DL.rInD, inD, eqF_str, flatD_str, flatD_int, rTypeD, tyD, rLenD, lenD, DL.rIxD, rIntD, rAddD, rTupleD, DL.rListD, rAllD, itemsD, itemsL, rToInt, isD, DL.isNon, isBl, startD, endsOf, dLc, dSeqT, dSeqL, dZip, dRev, dRng1, dFor, dListEnum, wipeD, gTp, gsCons, gsNil, rKdIx, rKdIn, gob, truD, dPop, dAppend, List.isEmpty_cons, List.isEmpty_nil, cut_to1, cut_from1, cut_init, List.drop_one, List.tail_cons, List.take_succ_cons, List.take_zero, bools_true, all_true, mset_same, mset_mset, List.map_cons, List.map_nil, List.length_cons, List.length_nil, List.replicate, List.cons_append, List.nil_append, List.append_nil, List.getElem?_cons_zero, List.getElem?_cons_succ, List.getElem?_nil, Nat.reduceAdd, Nat.reduceSub, List.set_cons_zero, List.set_cons_succ, decide_true, decide_false, if_true, if_false, Bool.false_eq_true, Bool.true_eq_false, Bool.not_true, Bool.not_false, List.any_cons, List.any_nil, List.all_cons, List.all_nil, Bool.or_false, Bool.or_true, Bool.false_or, Bool.true_or, Bool.and_true, Bool.and_false, Bool.true_and, Bool.false_and, reduceCtorEq, String.reduceEq, beq_self_eq_true, String.reduceBEq, at0, at1, at2, at3, Int.reduceEq, true_and, and_true, sizeLine, Nat.reducePow, Nat.reduceLeDiff, Nat.reduceLT, Int.natCast_add, Int.cast_ofNat_Int, Int.reduceLT, Int.reduceLE]
    have rm := R.rooms _ (List.mem_of_getElem? (thAt_get lk))
    exact ⟨rcl s, thAt s k, rfl, fun j mj => (rcl_mem R).mpr (.step k j _ rk (thAt_get lk) mj), by omega, hkk⟩
  · try simp only [dNewD, dDput, putDk, dExtend, dLock, dKeysI, rDin, rDget, dictD, keyD, dTupRg, dIndexF, dOrT, dAndT, dSeqA, dCont, dRet, dRetN, dSeq, dIfS, dDrop, dSet, gNm, dNext, dAndV, dOrV, dNotV, dAnd, dOr, dNot, dIf, dTru, dBool, dOp, dVar, dC, dCa, dCons, dNil, dTup, dLst, dFrz, frzD, dSl, dNo, dPart, slD, dNeg, dChain, rIsD, rEqS, eqS, DL.rInD, inD, eqF_str, flatD_str, flatD_int, rTypeD, tyD, rLenD, lenD, DL.rIxD, rIntD, rAddD, rTupleD, DL.rListD, rAllD, itemsD, itemsL, rToInt, isD, DL.isNon, isBl, startD, endsOf, dLc, dSeqT, dSeqL, dZip, dRev, dRng1, dFor, dListEnum, wipeD, gTp, gsCons, gsNil, rKdIx, rKdIn, gob, truD, dPop, dAppend, List.isEmpty_cons, List.isEmpty_nil, cut_to1, cut_from1, cut_init, List.drop_one, List.tail_cons, List.take_succ_cons, List.take_zero, bools_true, all_true, mset_same, mset_mset, List.map_cons, List.map_nil, List.length_cons, List.length_nil, List.replicate, List.cons_append, List.nil_append, List.append_nil, List.getElem?_cons_zero, List.getElem?_cons_succ, List.getElem?_nil, Nat.reduceAdd, Nat.reduceSub, List.set_cons_zero, List.set_cons_succ, decide_true, decide_false, if_true, if_false, Bool.false_eq_true, Bool.true_eq_false, Bool.not_true, Bool.not_false, List.any_cons, List.any_nil, List.all_cons, List.all_nil, Bool.or_false, Bool.or_true, Bool.false_or, Bool.true_or, Bool.and_true, Bool.and_false, Bool.true_and, Bool.false_and, reduceCtorEq, String.reduceEq, beq_self_eq_true, String.reduceBEq, at0, at1, at2, at3, Int.reduceEq, true_and, and_true, sizeLine, Nat.reducePow, Nat.reduceLeDiff, Nat.reduceLT, Int.natCast_add, Int.cast_ofNat_Int, Int.reduceLT, Int.reduceLE]
    rw [mdel_mset hp]
    have e5 : stD (gn s) = .tup [.tup ((s.regs.map (mv (rcl s))).map woD), .tup ((rcl s).map fun k => thD (mvT (rcl s) (thAt s k))), .int s.b, .int s.r] := by
      unfold stD gn
      rw [List.map_map (f := fun k => mvT (rcl s) (thAt s k))]
      rfl
    rw [e5] at q
    have e6 : (ni (rcl s)).map (fun k => thD (mvT (rcl s) (thAt s k.toNat))) = (rcl s).map fun k => thD (mvT (rcl s) (thAt s k)) := by
      rw [List.map_map]
      rfl
    rw [e6]
    try simp only [List.map_map] at q ⊢
    exact retD_same q
end
end VB
end K70

set_option Elab.async false
set_option linter.all false
set_option maxRecDepth 100000
set_option maxHeartbeats 4000000
namespace K70
open PySem PySem.Spec PyProof.Rows L2 NdefX LamX DL
namespace VB
theorem sc_law_jar : FnScope ["cell"] ["cell"] (defScope s_law_jar) := ⟨rfl, rfl, rfl, by decide +kernel, rfl, by decide +kernel, by decide +kernel⟩
theorem sc_law_drawn : FnScope ["jar", "many", "digit"] ["jar", "many"] (defScope s_law_drawn) := ⟨rfl, rfl, rfl, by decide +kernel, rfl, by decide +kernel, by decide +kernel⟩
theorem sc_law_worth : FnScope ["jar", "many", "here", "kind"] ["jar", "many", "here"] (defScope s_law_worth) := ⟨rfl, rfl, rfl, by decide +kernel, rfl, by decide +kernel, by decide +kernel⟩
def Jr (p : Addr) (μ : Mu) : Prop := ∃ a b : Int, μ p = some (.lst [.int a, .int b]) ∧ 0 ≤ b ∧ b < 2147483648
def jarR (p : Addr) : Rs := ⟨[p], fun _ μ => Jr p μ, fun N μ μ' h ⟨a, b, h1, h2⟩ => ⟨a, b, by rw [h p (List.mem_singleton.mpr rfl)]; exact h1, h2⟩, fun N μ ⟨a, b, h1, h2⟩ q hq => by rw [List.mem_singleton.mp hq, h1]; exact fun z => (nomatch z), fun N M μ _ h => h⟩
section
variable {P : Program} {w : World} {K : PySem.W.Frag} {mg : Str → Option Value} {base : Heap} {f : Addr} {fd : FuncData}
def sp_jar : RLD := fun ds μ Q => ∃ c : Int, ds = [.int c] ∧ ∀ p a b, μ p = none → 0 ≤ b → b < 2147483648 → Q (.ob p) (mset μ p (.lst [.int a, .int b]))
theorem mono_jar : MonoL sp_jar := fun ds μ Q Q' i ⟨c, h1, q⟩ => ⟨c, h1, fun p a b x y z => i _ _ (q p a b x y z)⟩
theorem ok_jar (B : NoG mg) (N_max : mg "max" = none) (F : Fun K "_law_jar" "_law_jar" s_law_jar f fd) : FnOk P w K mg base CX0 1 f fd ["cell"] (spUp K sp_jar) := by
  refine okD F sc_law_jar (fun ds μ Q ⟨t, e, _⟩ => by rw [e]; rfl) fun cdv A outer s H E hr => ⟨_, (ds_cons (d_set 0 sc_law_jar.nd (d_op o_mod (d_callTy c_int rfl B.int rfl (da_cons (d_var 0) da_nil)) (d_op o_mulW (d_op o_mulW (d_op o_pow d_int d_int) (d_op o_pow d_int d_int)) (d_op o_pow d_int d_int))))
      (ds_one (d_ret (d_lst (da_cons (d_callB (c_max rfl) rfl N_max rfl (da_cons d_int (da_cons (d_op o_sub (d_var 0) (d_op o_pow d_int d_int)) da_nil))) (da_cons (d_op o_add (d_op o_mod (d_var 0) d_int) d_int) da_nil)))))), ?_⟩
  rintro ds μ Q ⟨c, rfl, q⟩
  refine q_by (fun d μ' => μ = μ' ∧ ∃ n, d = .int n) (fun k hk => ?_) ?_
  · simp only [dNewD, dDput, putDk, dExtend, dLock, dKeysI, rDin, rDget, dictD, keyD, dTupRg, dIndexF, dOrT, dAndT, dSeqA, dCont, dRet, dRetN, dSeq, dIfS, dDrop, dSet, gNm, dNext, dAndV, dOrV, dNotV, dAnd, dOr, dNot, dIf, dTru, dBool, dOp, dVar, dC, dCa, dCons, dNil, dTup, dLst, dFrz, frzD, dSl, dNo, dPart, slD, dNeg, dChain, rIsD, rEqS, eqS, DL.rInD, inD, eqF_str, flatD_str, flatD_int, rTypeD, tyD, rLenD, lenD, DL.rIxD, rIntD, rAddD, rTupleD, DL.rListD, rAllD, itemsD, itemsL, rToInt, isD, DL.isNon, isBl, startD, endsOf, dLc, dSeqT, dSeqL, dZip, dRev, dRng1, dFor, dListEnum, wipeD, gTp, gsCons, gsNil, rKdIx, rKdIn, gob, truD, dPop, dAppend, List.isEmpty_cons, List.isEmpty_nil, cut_to1, cut_from1, cut_init, List.drop_one, List.tail_cons, List.take_succ_cons, List.take_zero, bools_true, all_true, mset_same, mset_mset, List.map_cons, List.map_nil, List.length_cons, List.length_nil, List.replicate, List.cons_append, List.nil_append, List.append_nil, List.getElem?_cons_zero, List.getElem?_cons_succ, List.getElem?_nil, Nat.reduceAdd, Nat.reduceSub, List.set_cons_zero, List.set_cons_succ, decide_true, decide_false, if_true, if_false, Bool.false_eq_true, Bool.true_eq_false, Bool.not_true, Bool.not_false, List.any_cons, List.any_nil, List.all_cons, List.all_nil, Bool.or_false, Bool.or_true, Bool.false_or, Bool.true_or, Bool.and_true, Bool.and_false, Bool.true_and, Bool.false_and, reduceCtorEq, String.reduceEq, beq_self_eq_true, String.reduceBEq, at0, at1, at2, at3, Int.reduceEq, true_and, and_true, sizeLine, Nat.reducePow, Nat.reduceLeDiff, Nat.reduceLT, Int.natCast_add, Int.cast_ofNat_Int, Int.reduceLT, Int.reduceLE]
    have cp : CPow 10 64 := by unfold CPow; decide
    have e64 : (64 : Int).toNat = 64 := rfl
    simp only [e64]
    refine ⟨cp, cp, ?_, cp, ?_, ?_, hk _ _ ⟨rfl, _, rfl⟩⟩
    · unfold CMulW; decide +kernel
    · unfold CMulW; decide +kernel
    · decide +kernel
  rintro d μ' ⟨rfl, n, rfl⟩
  simp only [dNewD, dDput, putDk, dExtend, dLock, dKeysI, rDin, rDget, dictD, keyD, dTupRg, dIndexF, dOrT, dAndT, dSeqA, dCont, dRet, dRetN, dSeq, dIfS, dDrop, dSet, gNm, dNext, dAndV, dOrV, dNotV, dAnd, dOr, dNot, dIf, dTru, dBool, dOp, dVar, dC, dCa, dCons, dNil, dTup, dLst, dFrz, frzD, dSl, dNo, dPart, slD, dNeg, dChain, rIsD, rEqS, eqS, DL.rInD, inD, eqF_str, flatD_str, flatD_int, rTypeD, tyD, rLenD, lenD, DL.rIxD, rIntD, rAddD, rTupleD, DL.rListD, rAllD, itemsD, itemsL, rToInt, isD, DL.isNon, isBl, startD, endsOf, dLc, dSeqT, dSeqL, dZip, dRev, dRng1, dFor, dListEnum, wipeD, gTp, gsCons, gsNil, rKdIx, rKdIn, gob, truD, dPop, dAppend, List.isEmpty_cons, List.isEmpty_nil, cut_to1, cut_from1, cut_init, List.drop_one, List.tail_cons, List.take_succ_cons, List.take_zero, bools_true, all_true, mset_same, mset_mset, List.map_cons, List.map_nil, List.length_cons, List.length_nil, List.replicate, List.cons_append, List.nil_append, List.append_nil, List.getElem?_cons_zero, List.getElem?_cons_succ, List.getElem?_nil, Nat.reduceAdd, Nat.reduceSub, List.set_cons_zero, List.set_cons_succ, decide_true, decide_false, if_true, if_false, Bool.false_eq_true, Bool.true_eq_false, Bool.not_true, Bool.not_false, List.any_cons, List.any_nil, List.all_cons, List.all_nil, Bool.or_false, Bool.or_true, Bool.false_or, Bool.true_or, Bool.and_true, Bool.and_false, Bool.true_and, Bool.false_and, reduceCtorEq, String.reduceEq, beq_self_eq_true, String.reduceBEq, at0, at1, at2, at3, Int.reduceEq, true_and, and_true, sizeLine, Nat.reducePow, Nat.reduceLeDiff, Nat.reduceLT, Int.natCast_add, Int.cast_ofNat_Int, Int.reduceLT, Int.reduceLE]
  refine ⟨by unfold CPow; decide, ?_⟩
  simp only [rMaxD]
  intro p hp
  exact ⟨_, Sub.refl, q p _ _ hp (by omega) (by omega)⟩
def sp_drawn : RLD := fun ds μ Q => ∃ (p : Addr) (m : Nat), ds = [.ob p, .int (m : Nat)] ∧ 0 < m ∧ m ≤ 1000 ∧ Jr p μ ∧ ∀ (r : Nat) μ', r < m → Jr p μ' → (∀ q, q ≠ p → μ' q = μ q) → Q (.int (r : Nat)) μ'
theorem mono_drawn : MonoL sp_drawn := fun ds μ Q Q' i ⟨p, m, h1, h2, h3, h4, q⟩ => ⟨p, m, h1, h2, h3, h4, fun r μ' a b c => i _ _ (q r μ' a b c)⟩
theorem ok_drawn (B : NoG mg) (F : Fun K "_law_drawn" "_law_drawn" s_law_drawn f fd) : FnOk P w K mg base CX0 1 f fd ["jar", "many"] (spUp K sp_drawn) := by
  refine okD F sc_law_drawn (fun ds μ Q ⟨p, t, e, _⟩ => by rw [e]; rfl) fun cdv A outer s H E hr => ⟨_, (ds_cons (d_ifS (dt_cmp o_gt (d_ix ix_ok (d_var 0) d_int) d_int (nomark _)) (ds_cons (d_set 2 sc_law_drawn.nd (d_op o_mod (d_callTy c_int rfl B.int rfl (da_cons (d_ix ix_ok (d_var 0) d_int) da_nil)) (d_var 1)))
      (ds_cons (d_asg (d_op o_fdiv (d_ix ix_ok (d_var 0) d_int) (d_var 1)) (dg_ix (ws := []) (d_var 0) d_int))
      (ds_one (d_ret (d_var 2))))) ds_nil)
      (ds_cons (d_asg (d_op o_mod (d_callTy c_int rfl B.int rfl (da_cons (d_op o_add (d_op o_mul (d_ix ix_ok (d_var 0) d_int) d_int) d_int) da_nil)) d_int) (dg_ix (ws := []) (d_var 0) d_int))
      (ds_one (d_ret (d_op o_mod (d_op o_fdiv (d_op o_mod (d_callTy c_int rfl B.int rfl (da_cons (d_op o_mul (d_ix ix_ok (d_var 0) d_int) (d_ix ix_ok (d_var 0) d_int)) da_nil)) d_int) d_int) (d_var 1)))))), ?_⟩
  rintro ds μ Q ⟨p, m, rfl, h1, h2, ⟨a, b, hp, b0, b1⟩, q⟩
  have keep : ∀ {c d : Int} {r : Nat}, 0 ≤ d → d < 2147483648 → r < m → retD Q (.int (r : Nat)) (mset μ p (.lst [.int c, .int d])) := fun {c d r} x y z =>
    retD_same (q r _ z ⟨c, d, mset_same, x, y⟩ fun q hq => mset_ne hq)
  simp only [dNewD, dDput, putDk, dExtend, dLock, dKeysI, rDin, rDget, dictD, keyD, dTupRg, dIndexF, dOrT, dAndT, dSeqA, dCont, dRet, dRetN, dSeq, dIfS, dDrop, dSet, gNm, dNext, dAndV, dOrV, dNotV, dAnd, dOr, dNot, dIf, dTru, dBool, dOp, dVar, dC, dCa, dCons, dNil, dTup, dLst, dFrz, frzD, dSl, dNo, dPart, slD, dNeg, dChain, rIsD, rEqS, eqS, DL.rInD, inD, eqF_str, flatD_str, flatD_int, rTypeD, tyD, rLenD, lenD, DL.rIxD, rIntD, rAddD, rTupleD, DL.rListD, rAllD, itemsD, itemsL, rToInt, isD, DL.isNon, isBl, startD, endsOf, dLc, dSeqT, dSeqL, dZip, dRev, dRng1, dFor, dListEnum, wipeD, gTp, gsCons, gsNil, rKdIx, rKdIn, gob, truD, dPop, dAppend, List.isEmpty_cons, List.isEmpty_nil, cut_to1, cut_from1, cut_init, List.drop_one, List.tail_cons, List.take_succ_cons, List.take_zero, bools_true, all_true, mset_same, mset_mset, List.map_cons, List.map_nil, List.length_cons, List.length_nil, List.replicate, List.cons_append, List.nil_append, List.append_nil, List.getElem?_cons_zero, List.getElem?_cons_succ, List.getElem?_nil, Nat.reduceAdd, Nat.reduceSub, List.set_cons_zero, List.set_cons_succ, decide_true, decide_false, if_true, if_false, Bool.false_eq_true, Bool.true_eq_false, Bool.not_true, Bool.not_false, List.any_cons, List.any_nil, List.all_cons, List.all_nil, Bool.or_false, Bool.or_true, Bool.false_or, Bool.true_or, Bool.and_true, Bool.and_false, Bool.true_and, Bool.false_and, reduceCtorEq, String.reduceEq, beq_self_eq_true, String.reduceBEq, at0, at1, at2, at3, Int.reduceEq, true_and, and_true, sizeLine, Nat.reducePow, Nat.reduceLeDiff, Nat.reduceLT, Int.natCast_add, Int.cast_ofNat_Int, Int.reduceLT, Int.reduceLE]
  simp only [hp]
  simp only [dNewD, dDput, putDk, dExtend, dLock, dKeysI, rDin, rDget, dictD, keyD, dTupRg, dIndexF, dOrT, dAndT, dSeqA, dCont, dRet, dRetN, dSeq, dIfS, dDrop, dSet, gNm, dNext, dAndV, dOrV, dNotV, dAnd, dOr, dNot, dIf, dTru, dBool, dOp, dVar, dC, dCa, dCons, dNil, dTup, dLst, dFrz, frzD, dSl, dNo, dPart, slD, dNeg, dChain, rIsD, rEqS, eqS, DL.rInD, inD, eqF_str, flatD_str, flatD_int, rTypeD, tyD, rLenD, lenD, DL.rIxD, rIntD, rAddD, rTupleD, DL.rListD, rAllD, itemsD, itemsL, rToInt, isD, DL.isNon, isBl, startD, endsOf, dLc, dSeqT, dSeqL, dZip, dRev, dRng1, dFor, dListEnum, wipeD, gTp, gsCons, gsNil, rKdIx, rKdIn, gob, truD, dPop, dAppend, List.isEmpty_cons, List.isEmpty_nil, cut_to1, cut_from1, cut_init, List.drop_one, List.tail_cons, List.take_succ_cons, List.take_zero, bools_true, all_true, mset_same, mset_mset, List.map_cons, List.map_nil, List.length_cons, List.length_nil, List.replicate, List.cons_append, List.nil_append, List.append_nil, List.getElem?_cons_zero, List.getElem?_cons_succ, List.getElem?_nil, Nat.reduceAdd, Nat.reduceSub, List.set_cons_zero, List.set_cons_succ, decide_true, decide_false, if_true, if_false, Bool.false_eq_true, Bool.true_eq_false, Bool.not_true, Bool.not_false, List.any_cons, List.any_nil, List.all_cons, List.all_nil, Bool.or_false, Bool.or_true, Bool.false_or, Bool.true_or, Bool.and_true, Bool.and_false, Bool.true_and, Bool.false_and, reduceCtorEq, String.reduceEq, beq_self_eq_true, String.reduceBEq, at0, at1, at2, at3, Int.reduceEq, true_and, and_true, sizeLine, Nat.reducePow, Nat.reduceLeDiff, Nat.reduceLT, Int.natCast_add, Int.cast_ofNat_Int, Int.reduceLT, Int.reduceLE]
  have m0 : (0 : Int) < (m : Nat) := by omega
  have rm : ∀ x : Int, ∃ r : Nat, r < m ∧ x % (m : Nat) = (r : Nat) := fun x => ⟨(x % (m : Nat)).toNat, by
    have h1 := Int.emod_lt_of_pos x m0
    have h2 := Int.emod_nonneg x (Int.ne_of_gt m0)
    omega, by rw [Int.toNat_of_nonneg (Int.emod_nonneg x (Int.ne_of_gt m0))]⟩
  by_cases c : 0 < a
  · rw [if_pos (by simpa using c)]
    try simp only [hp]
    try simp only [dNewD, dDput, putDk, dExtend, dLock, dKeysI, rDin, rDget, dictD, keyD, dTupRg, dIndexF, dOrT, dAndT, dSeqA, dCont, dRet, dRetN, dSeq, dIfS, dDrop, dSet, gNm, dNext, dAndV, dOrV, dNotV, dAnd, dOr, dNot, dIf, dTru, dBool, dOp, dVar, dC, dCa, dCons, dNil, dTup, dLst, dFrz, frzD, dSl, dNo, dPart, slD, dNeg, dChain, rIsD, rEqS, eqS, DL.rInD, inD, eqF_str, flatD_str, flatD_int, rTypeD, tyD, rLenD, lenD, DL.rIxD, rIntD, rAddD, rTupleD, DL.rListD, rAllD, itemsD, itemsL, rToInt, isD, DL.isNon, isBl, startD, endsOf, dLc, dSeqT, dSeqL, dZip, dRev, dRng1, dFor, dListEnum, wipeD, gTp, gsCons, gsNil, rKdIx, rKdIn, gob, truD, dPop, dAppend, List.isEmpty_cons, List.isEmpty_nil, cut_to1, cut_from1, cut_init, List.drop_one, List.tail_cons, List.take_succ_cons, List.take_zero, bools_true, all_true, mset_same, mset_mset, List.map_cons, List.map_nil, List.length_cons, List.length_nil, List.replicate, List.cons_append, List.nil_append, List.append_nil, List.getElem?_cons_zero, List.getElem?_cons_succ, List.getElem?_nil, Nat.reduceAdd, Nat.reduceSub, List.set_cons_zero, List.set_cons_succ, decide_true, decide_false, if_true, if_false, Bool.false_eq_true, Bool.true_eq_false, Bool.not_true, Bool.not_false, List.any_cons, List.any_nil, List.all_cons, List.all_nil, Bool.or_false, Bool.or_true, Bool.false_or, Bool.true_or, Bool.and_true, Bool.and_false, Bool.true_and, Bool.false_and, reduceCtorEq, String.reduceEq, beq_self_eq_true, String.reduceBEq, at0, at1, at2, at3, Int.reduceEq, true_and, and_true, sizeLine, Nat.reducePow, Nat.reduceLeDiff, Nat.reduceLT, Int.natCast_add, Int.cast_ofNat_Int, Int.reduceLT, Int.reduceLE]
    obtain ⟨r, hr1, er⟩ := rm a
    refine ⟨m0, ?_⟩
    try simp only [hp]
    try simp only [dNewD, dDput, putDk, dExtend, dLock, dKeysI, rDin, rDget, dictD, keyD, dTupRg, dIndexF, dOrT, dAndT, dSeqA, dCont, dRet, dRetN, dSeq, dIfS, dDrop, dSet, gNm, dNext, dAndV, dOrV, dNotV, dAnd, dOr, dNot, dIf, dTru, dBool, dOp, dVar, dC, dCa, dCons, dNil, dTup, dLst, dFrz, frzD, dSl, dNo, dPart, slD, dNeg, dChain, rIsD, rEqS, eqS, DL.rInD, inD, eqF_str, flatD_str, flatD_int, rTypeD, tyD, rLenD, lenD, DL.rIxD, rIntD, rAddD, rTupleD, DL.rListD, rAllD, itemsD, itemsL, rToInt, isD, DL.isNon, isBl, startD, endsOf, dLc, dSeqT, dSeqL, dZip, dRev, dRng1, dFor, dListEnum, wipeD, gTp, gsCons, gsNil, rKdIx, rKdIn, gob, truD, dPop, dAppend, List.isEmpty_cons, List.isEmpty_nil, cut_to1, cut_from1, cut_init, List.drop_one, List.tail_cons, List.take_succ_cons, List.take_zero, bools_true, all_true, mset_same, mset_mset, List.map_cons, List.map_nil, List.length_cons, List.length_nil, List.replicate, List.cons_append, List.nil_append, List.append_nil, List.getElem?_cons_zero, List.getElem?_cons_succ, List.getElem?_nil, Nat.reduceAdd, Nat.reduceSub, List.set_cons_zero, List.set_cons_succ, decide_true, decide_false, if_true, if_false, Bool.false_eq_true, Bool.true_eq_false, Bool.not_true, Bool.not_false, List.any_cons, List.any_nil, List.all_cons, List.all_nil, Bool.or_false, Bool.or_true, Bool.false_or, Bool.true_or, Bool.and_true, Bool.and_false, Bool.true_and, Bool.false_and, reduceCtorEq, String.reduceEq, beq_self_eq_true, String.reduceBEq, at0, at1, at2, at3, Int.reduceEq, true_and, and_true, sizeLine, Nat.reducePow, Nat.reduceLeDiff, Nat.reduceLT, Int.natCast_add, Int.cast_ofNat_Int, Int.reduceLT, Int.reduceLE]
    refine ⟨⟨m0, by omega⟩, ?_⟩
    unfold gIx
    simp only [dNewD, dDput, putDk, dExtend, dLock, dKeysI, rDin, rDget, dictD, keyD, dTupRg, dIndexF, dOrT, dAndT, dSeqA, dCont, dRet, dRetN, dSeq, dIfS, dDrop, dSet, gNm, dNext, dAndV, dOrV, dNotV, dAnd, dOr, dNot, dIf, dTru, dBool, dOp, dVar, dC, dCa, dCons, dNil, dTup, dLst, dFrz, frzD, dSl, dNo, dPart, slD, dNeg, dChain, rIsD, rEqS, eqS, DL.rInD, inD, eqF_str, flatD_str, flatD_int, rTypeD, tyD, rLenD, lenD, DL.rIxD, rIntD, rAddD, rTupleD, DL.rListD, rAllD, itemsD, itemsL, rToInt, isD, DL.isNon, isBl, startD, endsOf, dLc, dSeqT, dSeqL, dZip, dRev, dRng1, dFor, dListEnum, wipeD, gTp, gsCons, gsNil, rKdIx, rKdIn, gob, truD, dPop, dAppend, List.isEmpty_cons, List.isEmpty_nil, cut_to1, cut_from1, cut_init, List.drop_one, List.tail_cons, List.take_succ_cons, List.take_zero, bools_true, all_true, mset_same, mset_mset, List.map_cons, List.map_nil, List.length_cons, List.length_nil, List.replicate, List.cons_append, List.nil_append, List.append_nil, List.getElem?_cons_zero, List.getElem?_cons_succ, List.getElem?_nil, Nat.reduceAdd, Nat.reduceSub, List.set_cons_zero, List.set_cons_succ, decide_true, decide_false, if_true, if_false, Bool.false_eq_true, Bool.true_eq_false, Bool.not_true, Bool.not_false, List.any_cons, List.any_nil, List.all_cons, List.all_nil, Bool.or_false, Bool.or_true, Bool.false_or, Bool.true_or, Bool.and_true, Bool.and_false, Bool.true_and, Bool.false_and, reduceCtorEq, String.reduceEq, beq_self_eq_true, String.reduceBEq, at0, at1, at2, at3, Int.reduceEq, true_and, and_true, sizeLine, Nat.reducePow, Nat.reduceLeDiff, Nat.reduceLT, Int.natCast_add, Int.cast_ofNat_Int, Int.reduceLT, Int.reduceLE]
    simp only [hp]
    try simp only [dNewD, dDput, putDk, dExtend, dLock, dKeysI, rDin, rDget, dictD, keyD, dTupRg, dIndexF, dOrT, dAndT, dSeqA, dCont, dRet, dRetN, dSeq, dIfS, dDrop, dSet, gNm, dNext, dAndV, dOrV, dNotV, dAnd, dOr, dNot, dIf, dTru, dBool, dOp, dVar, dC, dCa, dCons, dNil, dTup, dLst, dFrz, frzD, dSl, dNo, dPart, slD, dNeg, dChain, rIsD, rEqS, eqS, DL.rInD, inD, eqF_str, flatD_str, flatD_int, rTypeD, tyD, rLenD, lenD, DL.rIxD, rIntD, rAddD, rTupleD, DL.rListD, rAllD, itemsD, itemsL, rToInt, isD, DL.isNon, isBl, startD, endsOf, dLc, dSeqT, dSeqL, dZip, dRev, dRng1, dFor, dListEnum, wipeD, gTp, gsCons, gsNil, rKdIx, rKdIn, gob, truD, dPop, dAppend, List.isEmpty_cons, List.isEmpty_nil, cut_to1, cut_from1, cut_init, List.drop_one, List.tail_cons, List.take_succ_cons, List.take_zero, bools_true, all_true, mset_same, mset_mset, List.map_cons, List.map_nil, List.length_cons, List.length_nil, List.replicate, List.cons_append, List.nil_append, List.append_nil, List.getElem?_cons_zero, List.getElem?_cons_succ, List.getElem?_nil, Nat.reduceAdd, Nat.reduceSub, List.set_cons_zero, List.set_cons_succ, decide_true, decide_false, if_true, if_false, Bool.false_eq_true, Bool.true_eq_false, Bool.not_true, Bool.not_false, List.any_cons, List.any_nil, List.all_cons, List.all_nil, Bool.or_false, Bool.or_true, Bool.false_or, Bool.true_or, Bool.and_true, Bool.and_false, Bool.true_and, Bool.false_and, reduceCtorEq, String.reduceEq, beq_self_eq_true, String.reduceBEq, at0, at1, at2, at3, Int.reduceEq, true_and, and_true, sizeLine, Nat.reducePow, Nat.reduceLeDiff, Nat.reduceLT, Int.natCast_add, Int.cast_ofNat_Int, Int.reduceLT, Int.reduceLE]
    have x20 : ixN 2 0 = some 0 := rfl
    simp only [x20]
    rw [er]
    exact keep b0 b1 hr1
  · rw [if_neg (by simpa using c)]
    try simp only [hp]
    try simp only [dNewD, dDput, putDk, dExtend, dLock, dKeysI, rDin, rDget, dictD, keyD, dTupRg, dIndexF, dOrT, dAndT, dSeqA, dCont, dRet, dRetN, dSeq, dIfS, dDrop, dSet, gNm, dNext, dAndV, dOrV, dNotV, dAnd, dOr, dNot, dIf, dTru, dBool, dOp, dVar, dC, dCa, dCons, dNil, dTup, dLst, dFrz, frzD, dSl, dNo, dPart, slD, dNeg, dChain, rIsD, rEqS, eqS, DL.rInD, inD, eqF_str, flatD_str, flatD_int, rTypeD, tyD, rLenD, lenD, DL.rIxD, rIntD, rAddD, rTupleD, DL.rListD, rAllD, itemsD, itemsL, rToInt, isD, DL.isNon, isBl, startD, endsOf, dLc, dSeqT, dSeqL, dZip, dRev, dRng1, dFor, dListEnum, wipeD, gTp, gsCons, gsNil, rKdIx, rKdIn, gob, truD, dPop, dAppend, List.isEmpty_cons, List.isEmpty_nil, cut_to1, cut_from1, cut_init, List.drop_one, List.tail_cons, List.take_succ_cons, List.take_zero, bools_true, all_true, mset_same, mset_mset, List.map_cons, List.map_nil, List.length_cons, List.length_nil, List.replicate, List.cons_append, List.nil_append, List.append_nil, List.getElem?_cons_zero, List.getElem?_cons_succ, List.getElem?_nil, Nat.reduceAdd, Nat.reduceSub, List.set_cons_zero, List.set_cons_succ, decide_true, decide_false, if_true, if_false, Bool.false_eq_true, Bool.true_eq_false, Bool.not_true, Bool.not_false, List.any_cons, List.any_nil, List.all_cons, List.all_nil, Bool.or_false, Bool.or_true, Bool.false_or, Bool.true_or, Bool.and_true, Bool.and_false, Bool.true_and, Bool.false_and, reduceCtorEq, String.reduceEq, beq_self_eq_true, String.reduceBEq, at0, at1, at2, at3, Int.reduceEq, true_and, and_true, sizeLine, Nat.reducePow, Nat.reduceLeDiff, Nat.reduceLT, Int.natCast_add, Int.cast_ofNat_Int, Int.reduceLT, Int.reduceLE]
    have x21 : ixN 2 1 = some 1 := rfl
    unfold rMulD
    refine ⟨.inr (by omega), ?_⟩
    try simp only [dNewD, dDput, putDk, dExtend, dLock, dKeysI, rDin, rDget, dictD, keyD, dTupRg, dIndexF, dOrT, dAndT, dSeqA, dCont, dRet, dRetN, dSeq, dIfS, dDrop, dSet, gNm, dNext, dAndV, dOrV, dNotV, dAnd, dOr, dNot, dIf, dTru, dBool, dOp, dVar, dC, dCa, dCons, dNil, dTup, dLst, dFrz, frzD, dSl, dNo, dPart, slD, dNeg, dChain, rIsD, rEqS, eqS, DL.rInD, inD, eqF_str, flatD_str, flatD_int, rTypeD, tyD, rLenD, lenD, DL.rIxD, rIntD, rAddD, rTupleD, DL.rListD, rAllD, itemsD, itemsL, rToInt, isD, DL.isNon, isBl, startD, endsOf, dLc, dSeqT, dSeqL, dZip, dRev, dRng1, dFor, dListEnum, wipeD, gTp, gsCons, gsNil, rKdIx, rKdIn, gob, truD, dPop, dAppend, List.isEmpty_cons, List.isEmpty_nil, cut_to1, cut_from1, cut_init, List.drop_one, List.tail_cons, List.take_succ_cons, List.take_zero, bools_true, all_true, mset_same, mset_mset, List.map_cons, List.map_nil, List.length_cons, List.length_nil, List.replicate, List.cons_append, List.nil_append, List.append_nil, List.getElem?_cons_zero, List.getElem?_cons_succ, List.getElem?_nil, Nat.reduceAdd, Nat.reduceSub, List.set_cons_zero, List.set_cons_succ, decide_true, decide_false, if_true, if_false, Bool.false_eq_true, Bool.true_eq_false, Bool.not_true, Bool.not_false, List.any_cons, List.any_nil, List.all_cons, List.all_nil, Bool.or_false, Bool.or_true, Bool.false_or, Bool.true_or, Bool.and_true, Bool.and_false, Bool.true_and, Bool.false_and, reduceCtorEq, String.reduceEq, beq_self_eq_true, String.reduceBEq, at0, at1, at2, at3, Int.reduceEq, true_and, and_true, sizeLine, Nat.reducePow, Nat.reduceLeDiff, Nat.reduceLT, Int.natCast_add, Int.cast_ofNat_Int, Int.reduceLT, Int.reduceLE]
    unfold gIx
    simp only [dNewD, dDput, putDk, dExtend, dLock, dKeysI, rDin, rDget, dictD, keyD, dTupRg, dIndexF, dOrT, dAndT, dSeqA, dCont, dRet, dRetN, dSeq, dIfS, dDrop, dSet, gNm, dNext, dAndV, dOrV, dNotV, dAnd, dOr, dNot, dIf, dTru, dBool, dOp, dVar, dC, dCa, dCons, dNil, dTup, dLst, dFrz, frzD, dSl, dNo, dPart, slD, dNeg, dChain, rIsD, rEqS, eqS, DL.rInD, inD, eqF_str, flatD_str, flatD_int, rTypeD, tyD, rLenD, lenD, DL.rIxD, rIntD, rAddD, rTupleD, DL.rListD, rAllD, itemsD, itemsL, rToInt, isD, DL.isNon, isBl, startD, endsOf, dLc, dSeqT, dSeqL, dZip, dRev, dRng1, dFor, dListEnum, wipeD, gTp, gsCons, gsNil, rKdIx, rKdIn, gob, truD, dPop, dAppend, List.isEmpty_cons, List.isEmpty_nil, cut_to1, cut_from1, cut_init, List.drop_one, List.tail_cons, List.take_succ_cons, List.take_zero, bools_true, all_true, mset_same, mset_mset, List.map_cons, List.map_nil, List.length_cons, List.length_nil, List.replicate, List.cons_append, List.nil_append, List.append_nil, List.getElem?_cons_zero, List.getElem?_cons_succ, List.getElem?_nil, Nat.reduceAdd, Nat.reduceSub, List.set_cons_zero, List.set_cons_succ, decide_true, decide_false, if_true, if_false, Bool.false_eq_true, Bool.true_eq_false, Bool.not_true, Bool.not_false, List.any_cons, List.any_nil, List.all_cons, List.all_nil, Bool.or_false, Bool.or_true, Bool.false_or, Bool.true_or, Bool.and_true, Bool.and_false, Bool.true_and, Bool.false_and, reduceCtorEq, String.reduceEq, beq_self_eq_true, String.reduceBEq, at0, at1, at2, at3, Int.reduceEq, true_and, and_true, sizeLine, Nat.reducePow, Nat.reduceLeDiff, Nat.reduceLT, Int.natCast_add, Int.cast_ofNat_Int, Int.reduceLT, Int.reduceLE]
    simp only [hp]
    try simp only [dNewD, dDput, putDk, dExtend, dLock, dKeysI, rDin, rDget, dictD, keyD, dTupRg, dIndexF, dOrT, dAndT, dSeqA, dCont, dRet, dRetN, dSeq, dIfS, dDrop, dSet, gNm, dNext, dAndV, dOrV, dNotV, dAnd, dOr, dNot, dIf, dTru, dBool, dOp, dVar, dC, dCa, dCons, dNil, dTup, dLst, dFrz, frzD, dSl, dNo, dPart, slD, dNeg, dChain, rIsD, rEqS, eqS, DL.rInD, inD, eqF_str, flatD_str, flatD_int, rTypeD, tyD, rLenD, lenD, DL.rIxD, rIntD, rAddD, rTupleD, DL.rListD, rAllD, itemsD, itemsL, rToInt, isD, DL.isNon, isBl, startD, endsOf, dLc, dSeqT, dSeqL, dZip, dRev, dRng1, dFor, dListEnum, wipeD, gTp, gsCons, gsNil, rKdIx, rKdIn, gob, truD, dPop, dAppend, List.isEmpty_cons, List.isEmpty_nil, cut_to1, cut_from1, cut_init, List.drop_one, List.tail_cons, List.take_succ_cons, List.take_zero, bools_true, all_true, mset_same, mset_mset, List.map_cons, List.map_nil, List.length_cons, List.length_nil, List.replicate, List.cons_append, List.nil_append, List.append_nil, List.getElem?_cons_zero, List.getElem?_cons_succ, List.getElem?_nil, Nat.reduceAdd, Nat.reduceSub, List.set_cons_zero, List.set_cons_succ, decide_true, decide_false, if_true, if_false, Bool.false_eq_true, Bool.true_eq_false, Bool.not_true, Bool.not_false, List.any_cons, List.any_nil, List.all_cons, List.all_nil, Bool.or_false, Bool.or_true, Bool.false_or, Bool.true_or, Bool.and_true, Bool.and_false, Bool.true_and, Bool.false_and, reduceCtorEq, String.reduceEq, beq_self_eq_true, String.reduceBEq, at0, at1, at2, at3, Int.reduceEq, true_and, and_true, sizeLine, Nat.reducePow, Nat.reduceLeDiff, Nat.reduceLT, Int.natCast_add, Int.cast_ofNat_Int, Int.reduceLT, Int.reduceLE]
    simp only [x21]
    try simp only [dNewD, dDput, putDk, dExtend, dLock, dKeysI, rDin, rDget, dictD, keyD, dTupRg, dIndexF, dOrT, dAndT, dSeqA, dCont, dRet, dRetN, dSeq, dIfS, dDrop, dSet, gNm, dNext, dAndV, dOrV, dNotV, dAnd, dOr, dNot, dIf, dTru, dBool, dOp, dVar, dC, dCa, dCons, dNil, dTup, dLst, dFrz, frzD, dSl, dNo, dPart, slD, dNeg, dChain, rIsD, rEqS, eqS, DL.rInD, inD, eqF_str, flatD_str, flatD_int, rTypeD, tyD, rLenD, lenD, DL.rIxD, rIntD, rAddD, rTupleD, DL.rListD, rAllD, itemsD, itemsL, rToInt, isD, DL.isNon, isBl, startD, endsOf, dLc, dSeqT, dSeqL, dZip, dRev, dRng1, dFor, dListEnum, wipeD, gTp, gsCons, gsNil, rKdIx, rKdIn, gob, truD, dPop, dAppend, List.isEmpty_cons, List.isEmpty_nil, cut_to1, cut_from1, cut_init, List.drop_one, List.tail_cons, List.take_succ_cons, List.take_zero, bools_true, all_true, mset_same, mset_mset, List.map_cons, List.map_nil, List.length_cons, List.length_nil, List.replicate, List.cons_append, List.nil_append, List.append_nil, List.getElem?_cons_zero, List.getElem?_cons_succ, List.getElem?_nil, Nat.reduceAdd, Nat.reduceSub, List.set_cons_zero, List.set_cons_succ, decide_true, decide_false, if_true, if_false, Bool.false_eq_true, Bool.true_eq_false, Bool.not_true, Bool.not_false, List.any_cons, List.any_nil, List.all_cons, List.all_nil, Bool.or_false, Bool.or_true, Bool.false_or, Bool.true_or, Bool.and_true, Bool.and_false, Bool.true_and, Bool.false_and, reduceCtorEq, String.reduceEq, beq_self_eq_true, String.reduceBEq, at0, at1, at2, at3, Int.reduceEq, true_and, and_true, sizeLine, Nat.reducePow, Nat.reduceLeDiff, Nat.reduceLT, Int.natCast_add, Int.cast_ofNat_Int, Int.reduceLT, Int.reduceLE]
    generalize hb2 : (b * 48271 + 12820163) % 2147483647 = b2
    have l1 : 0 ≤ b2 := by omega
    have l2 : b2 < 2147483648 := by omega
    refine ⟨.inr (by omega), m0, ?_⟩
    obtain ⟨r, hr1, er⟩ := rm (b2 * b2 % 2147483629 / 64)
    rw [er]
    exact keep l1 l2 hr1
theorem drawn_in {p : Addr} {m : Nat} {μ μ1 : Mu} {Q : DK} {d : Int} (hd : d = (m : Nat)) (h1 : 0 < m) (h2 : m ≤ 1000) (h : Jr p μ1) (K1 : Kp [p] μ μ1) (q : ∀ (r : Nat) μ2, r < m → Jr p μ2 → Kp [p] μ μ2 → (∀ x, x ≠ p → μ2 x = μ1 x) → Q (.int (r : Nat)) μ2) : sp_drawn [.ob p, .int d] μ1 Q := by
  subst hd
  exact ⟨p, m, rfl, h1, h2, h, fun r μ2 a b c => q r μ2 a b (K1.trans (Kp.eq fun x hx => c x fun z => hx (List.mem_singleton.mpr z))) c⟩
def sp_worth : RLD := fun ds μ Q => ∃ (p : Addr) (m here : Nat), ds = [.ob p, .int (m : Nat), .int (here : Nat)] ∧ m ≤ 1000 ∧ Jr p μ ∧ ∀ (x : Wo) μ', (∀ k, x = .pl k → k < m) → Jr p μ' → (∀ q, q ≠ p → μ' q = μ q) → Q (woD x) μ'
theorem mono_worth : MonoL sp_worth := fun ds μ Q Q' i ⟨p, m, h, h1, h2, h3, q⟩ => ⟨p, m, h, h1, h2, h3, fun x μ' a b c => i _ _ (q x μ' a b c)⟩
theorem ok_worth (B : NoG mg) {a1 : Addr} {d1 : FuncData} (F : Fun K "_law_worth" "_law_worth" s_law_worth f fd) (Glaw_drawn : Gt P w K mg base 1 "_law_drawn" ["jar", "many"] sp_drawn a1 d1) : FnOk P w K mg base CX0 2 f fd ["jar", "many", "here"] (spUp K sp_worth) := by
  refine okD F sc_law_worth (fun ds μ Q ⟨p, m, h, e, _⟩ => by rw [e]; rfl) fun cdv A outer s H E hr => ⟨_, (ds_cons (d_set 3 sc_law_worth.nd (d_call Glaw_drawn.F Glaw_drawn.mono (hr.mono (by first | decide | omega)) Glaw_drawn.m Glaw_drawn.k Glaw_drawn.b (da_cons (d_var 0) (da_cons d_int da_nil))))
      (ds_cons (d_ifS (PWD.ptd (dw_and (dt_cmp o_gt (d_var 1) d_int (nomark _)) (dw_and1 (dt_cmp o_gt (d_var 3) d_int (nomark _))))) (ds_one (d_ret (d_tup (da_cons (d_str "place" rfl) (da_cons (d_if (dt_cmp o_lt (d_var 3) d_int (nomark _)) (d_call Glaw_drawn.F Glaw_drawn.mono (hr.mono (by first | decide | omega)) Glaw_drawn.m Glaw_drawn.k Glaw_drawn.b (da_cons (d_var 0) (da_cons (d_var 1) da_nil))) (d_op o_mod (d_callTy c_int rfl B.int rfl (da_cons (d_op o_add (d_var 2) d_int) da_nil)) (d_var 1))) da_nil))))) ds_nil)
      (ds_one (d_ret (d_ix ix_ok (d_lst (da_cons (d_tup (da_cons (d_str "int" rfl) (da_cons (d_call Glaw_drawn.F Glaw_drawn.mono (hr.mono (by first | decide | omega)) Glaw_drawn.m Glaw_drawn.k Glaw_drawn.b (da_cons (d_var 0) (da_cons d_int da_nil))) da_nil))) (da_cons (d_tup (da_cons (d_str "label" rfl) (da_cons (d_call Glaw_drawn.F Glaw_drawn.mono (hr.mono (by first | decide | omega)) Glaw_drawn.m Glaw_drawn.k Glaw_drawn.b (da_cons (d_var 0) (da_cons d_int da_nil))) da_nil))) da_nil))) (d_op o_mod (d_callTy c_int rfl B.int rfl (da_cons (d_var 3) da_nil)) d_int)))))), ?_⟩
  rintro ds μ Q ⟨p, m, here, rfl, hm, hJ, q⟩
  have fin : ∀ {x : Wo} {μ' : Mu}, (∀ k, x = .pl k → k < m) → Jr p μ' → Kp [p] μ μ' → retD Q (woD x) μ' := fun {x μ'} h1 h2 h3 =>
    Rs.ret (R := jarR p) (N := 0) h3 h2 fun μ2 a b => q x μ2 h1 a fun y hy => b y fun z => hy (List.mem_singleton.mp z)
  refine q_by (fun d μ' => ∃ k : Nat, d = .int (k : Nat) ∧ k < 5 ∧ Jr p μ' ∧ Kp [p] μ μ') (fun k hk => ?_) ?_
  · simp only [dNewD, dDput, putDk, dExtend, dLock, dKeysI, rDin, rDget, dictD, keyD, dTupRg, dIndexF, dOrT, dAndT, dSeqA, dCont, dRet, dRetN, dSeq, dIfS, dDrop, dSet, gNm, dNext, dAndV, dOrV, dNotV, dAnd, dOr, dNot, dIf, dTru, dBool, dOp, dVar, dC, dCa, dCons, dNil, dTup, dLst, dFrz, frzD, dSl, dNo, dPart, slD, dNeg, dChain, rIsD, rEqS, eqS, DL.rInD, inD, eqF_str, flatD_str, flatD_int, rTypeD, tyD, rLenD, lenD, DL.rIxD, rIntD, rAddD, rTupleD, DL.rListD, rAllD, itemsD, itemsL, rToInt, isD, DL.isNon, isBl, startD, endsOf, dLc, dSeqT, dSeqL, dZip, dRev, dRng1, dFor, dListEnum, wipeD, gTp, gsCons, gsNil, rKdIx, rKdIn, gob, truD, dPop, dAppend, List.isEmpty_cons, List.isEmpty_nil, cut_to1, cut_from1, cut_init, List.drop_one, List.tail_cons, List.take_succ_cons, List.take_zero, bools_true, all_true, mset_same, mset_mset, List.map_cons, List.map_nil, List.length_cons, List.length_nil, List.replicate, List.cons_append, List.nil_append, List.append_nil, List.getElem?_cons_zero, List.getElem?_cons_succ, List.getElem?_nil, Nat.reduceAdd, Nat.reduceSub, List.set_cons_zero, List.set_cons_succ, decide_true, decide_false, if_true, if_false, Bool.false_eq_true, Bool.true_eq_false, Bool.not_true, Bool.not_false, List.any_cons, List.any_nil, List.all_cons, List.all_nil, Bool.or_false, Bool.or_true, Bool.false_or, Bool.true_or, Bool.and_true, Bool.and_false, Bool.true_and, Bool.false_and, reduceCtorEq, String.reduceEq, beq_self_eq_true, String.reduceBEq, at0, at1, at2, at3, Int.reduceEq, true_and, and_true, sizeLine, Nat.reducePow, Nat.reduceLeDiff, Nat.reduceLT, Int.natCast_add, Int.cast_ofNat_Int, Int.reduceLT, Int.reduceLE]
    exact drawn_in (m := 5) rfl (by decide) (by decide) hJ Kp.refl fun r μ2 a b c _ => hk _ _ ⟨r, rfl, a, b, c⟩
  rintro d μ1 ⟨kd, rfl, hk5, J1, K1⟩
  simp only [dNewD, dDput, putDk, dExtend, dLock, dKeysI, rDin, rDget, dictD, keyD, dTupRg, dIndexF, dOrT, dAndT, dSeqA, dCont, dRet, dRetN, dSeq, dIfS, dDrop, dSet, gNm, dNext, dAndV, dOrV, dNotV, dAnd, dOr, dNot, dIf, dTru, dBool, dOp, dVar, dC, dCa, dCons, dNil, dTup, dLst, dFrz, frzD, dSl, dNo, dPart, slD, dNeg, dChain, rIsD, rEqS, eqS, DL.rInD, inD, eqF_str, flatD_str, flatD_int, rTypeD, tyD, rLenD, lenD, DL.rIxD, rIntD, rAddD, rTupleD, DL.rListD, rAllD, itemsD, itemsL, rToInt, isD, DL.isNon, isBl, startD, endsOf, dLc, dSeqT, dSeqL, dZip, dRev, dRng1, dFor, dListEnum, wipeD, gTp, gsCons, gsNil, rKdIx, rKdIn, gob, truD, dPop, dAppend, List.isEmpty_cons, List.isEmpty_nil, cut_to1, cut_from1, cut_init, List.drop_one, List.tail_cons, List.take_succ_cons, List.take_zero, bools_true, all_true, mset_same, mset_mset, List.map_cons, List.map_nil, List.length_cons, List.length_nil, List.replicate, List.cons_append, List.nil_append, List.append_nil, List.getElem?_cons_zero, List.getElem?_cons_succ, List.getElem?_nil, Nat.reduceAdd, Nat.reduceSub, List.set_cons_zero, List.set_cons_succ, decide_true, decide_false, if_true, if_false, Bool.false_eq_true, Bool.true_eq_false, Bool.not_true, Bool.not_false, List.any_cons, List.any_nil, List.all_cons, List.all_nil, Bool.or_false, Bool.or_true, Bool.false_or, Bool.true_or, Bool.and_true, Bool.and_false, Bool.true_and, Bool.false_and, reduceCtorEq, String.reduceEq, beq_self_eq_true, String.reduceBEq, at0, at1, at2, at3, Int.reduceEq, true_and, and_true, sizeLine, Nat.reducePow, Nat.reduceLeDiff, Nat.reduceLT, Int.natCast_add, Int.cast_ofNat_Int, Int.reduceLT, Int.reduceLE]
  by_cases c1 : 0 < m
  · have e1 : decide ((0 : Int) < (m : Nat)) = true := decide_eq_true (by omega)
    simp only [e1]
    simp only [dNewD, dDput, putDk, dExtend, dLock, dKeysI, rDin, rDget, dictD, keyD, dTupRg, dIndexF, dOrT, dAndT, dSeqA, dCont, dRet, dRetN, dSeq, dIfS, dDrop, dSet, gNm, dNext, dAndV, dOrV, dNotV, dAnd, dOr, dNot, dIf, dTru, dBool, dOp, dVar, dC, dCa, dCons, dNil, dTup, dLst, dFrz, frzD, dSl, dNo, dPart, slD, dNeg, dChain, rIsD, rEqS, eqS, DL.rInD, inD, eqF_str, flatD_str, flatD_int, rTypeD, tyD, rLenD, lenD, DL.rIxD, rIntD, rAddD, rTupleD, DL.rListD, rAllD, itemsD, itemsL, rToInt, isD, DL.isNon, isBl, startD, endsOf, dLc, dSeqT, dSeqL, dZip, dRev, dRng1, dFor, dListEnum, wipeD, gTp, gsCons, gsNil, rKdIx, rKdIn, gob, truD, dPop, dAppend, List.isEmpty_cons, List.isEmpty_nil, cut_to1, cut_from1, cut_init, List.drop_one, List.tail_cons, List.take_succ_cons, List.take_zero, bools_true, all_true, mset_same, mset_mset, List.map_cons, List.map_nil, List.length_cons, List.length_nil, List.replicate, List.cons_append, List.nil_append, List.append_nil, List.getElem?_cons_zero, List.getElem?_cons_succ, List.getElem?_nil, Nat.reduceAdd, Nat.reduceSub, List.set_cons_zero, List.set_cons_succ, decide_true, decide_false, if_true, if_false, Bool.false_eq_true, Bool.true_eq_false, Bool.not_true, Bool.not_false, List.any_cons, List.any_nil, List.all_cons, List.all_nil, Bool.or_false, Bool.or_true, Bool.false_or, Bool.true_or, Bool.and_true, Bool.and_false, Bool.true_and, Bool.false_and, reduceCtorEq, String.reduceEq, beq_self_eq_true, String.reduceBEq, at0, at1, at2, at3, Int.reduceEq, true_and, and_true, sizeLine, Nat.reducePow, Nat.reduceLeDiff, Nat.reduceLT, Int.natCast_add, Int.cast_ofNat_Int, Int.reduceLT, Int.reduceLE]
    by_cases c2 : 1 < kd
    · have e2 : decide ((1 : Int) < (kd : Nat)) = true := decide_eq_true (by omega)
      simp only [e2]
      simp only [dNewD, dDput, putDk, dExtend, dLock, dKeysI, rDin, rDget, dictD, keyD, dTupRg, dIndexF, dOrT, dAndT, dSeqA, dCont, dRet, dRetN, dSeq, dIfS, dDrop, dSet, gNm, dNext, dAndV, dOrV, dNotV, dAnd, dOr, dNot, dIf, dTru, dBool, dOp, dVar, dC, dCa, dCons, dNil, dTup, dLst, dFrz, frzD, dSl, dNo, dPart, slD, dNeg, dChain, rIsD, rEqS, eqS, DL.rInD, inD, eqF_str, flatD_str, flatD_int, rTypeD, tyD, rLenD, lenD, DL.rIxD, rIntD, rAddD, rTupleD, DL.rListD, rAllD, itemsD, itemsL, rToInt, isD, DL.isNon, isBl, startD, endsOf, dLc, dSeqT, dSeqL, dZip, dRev, dRng1, dFor, dListEnum, wipeD, gTp, gsCons, gsNil, rKdIx, rKdIn, gob, truD, dPop, dAppend, List.isEmpty_cons, List.isEmpty_nil, cut_to1, cut_from1, cut_init, List.drop_one, List.tail_cons, List.take_succ_cons, List.take_zero, bools_true, all_true, mset_same, mset_mset, List.map_cons, List.map_nil, List.length_cons, List.length_nil, List.replicate, List.cons_append, List.nil_append, List.append_nil, List.getElem?_cons_zero, List.getElem?_cons_succ, List.getElem?_nil, Nat.reduceAdd, Nat.reduceSub, List.set_cons_zero, List.set_cons_succ, decide_true, decide_false, if_true, if_false, Bool.false_eq_true, Bool.true_eq_false, Bool.not_true, Bool.not_false, List.any_cons, List.any_nil, List.all_cons, List.all_nil, Bool.or_false, Bool.or_true, Bool.false_or, Bool.true_or, Bool.and_true, Bool.and_false, Bool.true_and, Bool.false_and, reduceCtorEq, String.reduceEq, beq_self_eq_true, String.reduceBEq, at0, at1, at2, at3, Int.reduceEq, true_and, and_true, sizeLine, Nat.reducePow, Nat.reduceLeDiff, Nat.reduceLT, Int.natCast_add, Int.cast_ofNat_Int, Int.reduceLT, Int.reduceLE]
      by_cases c3 : kd < 4
      · have e3 : decide (((kd : Nat) : Int) < 4) = true := decide_eq_true (by omega)
        simp only [e3]
        simp only [dNewD, dDput, putDk, dExtend, dLock, dKeysI, rDin, rDget, dictD, keyD, dTupRg, dIndexF, dOrT, dAndT, dSeqA, dCont, dRet, dRetN, dSeq, dIfS, dDrop, dSet, gNm, dNext, dAndV, dOrV, dNotV, dAnd, dOr, dNot, dIf, dTru, dBool, dOp, dVar, dC, dCa, dCons, dNil, dTup, dLst, dFrz, frzD, dSl, dNo, dPart, slD, dNeg, dChain, rIsD, rEqS, eqS, DL.rInD, inD, eqF_str, flatD_str, flatD_int, rTypeD, tyD, rLenD, lenD, DL.rIxD, rIntD, rAddD, rTupleD, DL.rListD, rAllD, itemsD, itemsL, rToInt, isD, DL.isNon, isBl, startD, endsOf, dLc, dSeqT, dSeqL, dZip, dRev, dRng1, dFor, dListEnum, wipeD, gTp, gsCons, gsNil, rKdIx, rKdIn, gob, truD, dPop, dAppend, List.isEmpty_cons, List.isEmpty_nil, cut_to1, cut_from1, cut_init, List.drop_one, List.tail_cons, List.take_succ_cons, List.take_zero, bools_true, all_true, mset_same, mset_mset, List.map_cons, List.map_nil, List.length_cons, List.length_nil, List.replicate, List.cons_append, List.nil_append, List.append_nil, List.getElem?_cons_zero, List.getElem?_cons_succ, List.getElem?_nil, Nat.reduceAdd, Nat.reduceSub, List.set_cons_zero, List.set_cons_succ, decide_true, decide_false, if_true, if_false, Bool.false_eq_true, Bool.true_eq_false, Bool.not_true, Bool.not_false, List.any_cons, List.any_nil, List.all_cons, List.all_nil, Bool.or_false, Bool.or_true, Bool.false_or, Bool.true_or, Bool.and_true, Bool.and_false, Bool.true_and, Bool.false_and, reduceCtorEq, String.reduceEq, beq_self_eq_true, String.reduceBEq, at0, at1, at2, at3, Int.reduceEq, true_and, and_true, sizeLine, Nat.reducePow, Nat.reduceLeDiff, Nat.reduceLT, Int.natCast_add, Int.cast_ofNat_Int, Int.reduceLT, Int.reduceLE]
        refine drawn_in (m := m) rfl c1 hm J1 K1 fun r μ2 a b c _ => ?_
        exact fin (x := .pl r) (fun k e => by cases e; exact a) b c
      · have e3 : decide (((kd : Nat) : Int) < 4) = false := decide_eq_false (by omega)
        simp only [e3]
        simp only [dNewD, dDput, putDk, dExtend, dLock, dKeysI, rDin, rDget, dictD, keyD, dTupRg, dIndexF, dOrT, dAndT, dSeqA, dCont, dRet, dRetN, dSeq, dIfS, dDrop, dSet, gNm, dNext, dAndV, dOrV, dNotV, dAnd, dOr, dNot, dIf, dTru, dBool, dOp, dVar, dC, dCa, dCons, dNil, dTup, dLst, dFrz, frzD, dSl, dNo, dPart, slD, dNeg, dChain, rIsD, rEqS, eqS, DL.rInD, inD, eqF_str, flatD_str, flatD_int, rTypeD, tyD, rLenD, lenD, DL.rIxD, rIntD, rAddD, rTupleD, DL.rListD, rAllD, itemsD, itemsL, rToInt, isD, DL.isNon, isBl, startD, endsOf, dLc, dSeqT, dSeqL, dZip, dRev, dRng1, dFor, dListEnum, wipeD, gTp, gsCons, gsNil, rKdIx, rKdIn, gob, truD, dPop, dAppend, List.isEmpty_cons, List.isEmpty_nil, cut_to1, cut_from1, cut_init, List.drop_one, List.tail_cons, List.take_succ_cons, List.take_zero, bools_true, all_true, mset_same, mset_mset, List.map_cons, List.map_nil, List.length_cons, List.length_nil, List.replicate, List.cons_append, List.nil_append, List.append_nil, List.getElem?_cons_zero, List.getElem?_cons_succ, List.getElem?_nil, Nat.reduceAdd, Nat.reduceSub, List.set_cons_zero, List.set_cons_succ, decide_true, decide_false, if_true, if_false, Bool.false_eq_true, Bool.true_eq_false, Bool.not_true, Bool.not_false, List.any_cons, List.any_nil, List.all_cons, List.all_nil, Bool.or_false, Bool.or_true, Bool.false_or, Bool.true_or, Bool.and_true, Bool.and_false, Bool.true_and, Bool.false_and, reduceCtorEq, String.reduceEq, beq_self_eq_true, String.reduceBEq, at0, at1, at2, at3, Int.reduceEq, true_and, and_true, sizeLine, Nat.reducePow, Nat.reduceLeDiff, Nat.reduceLT, Int.natCast_add, Int.cast_ofNat_Int, Int.reduceLT, Int.reduceLE]
        refine ⟨by omega, ?_⟩
        have h1 := Int.emod_lt_of_pos ((here : Int) + 1) (show (0 : Int) < (m : Nat) by omega)
        have h2 := Int.emod_nonneg ((here : Int) + 1) (show ((m : Nat) : Int) ≠ 0 by omega)
        have := fin (x := .pl (((here : Int) + 1) % (m : Nat)).toNat) (fun k e => by cases e; omega) J1 K1
        simp only [woD] at this
        rw [Int.toNat_of_nonneg h2] at this
        exact this
    · have e2 : decide ((1 : Int) < (kd : Nat)) = false := decide_eq_false (by omega)
      simp only [e2]
      simp only [dNewD, dDput, putDk, dExtend, dLock, dKeysI, rDin, rDget, dictD, keyD, dTupRg, dIndexF, dOrT, dAndT, dSeqA, dCont, dRet, dRetN, dSeq, dIfS, dDrop, dSet, gNm, dNext, dAndV, dOrV, dNotV, dAnd, dOr, dNot, dIf, dTru, dBool, dOp, dVar, dC, dCa, dCons, dNil, dTup, dLst, dFrz, frzD, dSl, dNo, dPart, slD, dNeg, dChain, rIsD, rEqS, eqS, DL.rInD, inD, eqF_str, flatD_str, flatD_int, rTypeD, tyD, rLenD, lenD, DL.rIxD, rIntD, rAddD, rTupleD, DL.rListD, rAllD, itemsD, itemsL, rToInt, isD, DL.isNon, isBl, startD, endsOf, dLc, dSeqT, dSeqL, dZip, dRev, dRng1, dFor, dListEnum, wipeD, gTp, gsCons, gsNil, rKdIx, rKdIn, gob, truD, dPop, dAppend, List.isEmpty_cons, List.isEmpty_nil, cut_to1, cut_from1, cut_init, List.drop_one, List.tail_cons, List.take_succ_cons, List.take_zero, bools_true, all_true, mset_same, mset_mset, List.map_cons, List.map_nil, List.length_cons, List.length_nil, List.replicate, List.cons_append, List.nil_append, List.append_nil, List.getElem?_cons_zero, List.getElem?_cons_succ, List.getElem?_nil, Nat.reduceAdd, Nat.reduceSub, List.set_cons_zero, List.set_cons_succ, decide_true, decide_false, if_true, if_false, Bool.false_eq_true, Bool.true_eq_false, Bool.not_true, Bool.not_false, List.any_cons, List.any_nil, List.all_cons, List.all_nil, Bool.or_false, Bool.or_true, Bool.false_or, Bool.true_or, Bool.and_true, Bool.and_false, Bool.true_and, Bool.false_and, reduceCtorEq, String.reduceEq, beq_self_eq_true, String.reduceBEq, at0, at1, at2, at3, Int.reduceEq, true_and, and_true, sizeLine, Nat.reducePow, Nat.reduceLeDiff, Nat.reduceLT, Int.natCast_add, Int.cast_ofNat_Int, Int.reduceLT, Int.reduceLE]
      refine drawn_in (m := 9) rfl (by decide) (by decide) J1 K1 fun r1 μ2 a2 J2 K2 _ => ?_
      refine drawn_in (m := 9) rfl (by decide) (by decide) J2 K2 fun r2 μ3 a3 J3 K3 _ => ?_
      intro p2 hp2
      have J4 : ∀ o, Jr p (mset μ3 p2 o) := fun o => Rs.new (R := jarR p) (N := 0) J3 hp2
      have K4 : ∀ o, Kp [p] μ (mset μ3 p2 o) := fun o => K3.new hp2
      have h1 := Int.emod_lt_of_pos ((kd : Int)) (show (0 : Int) < 2 by decide)
      have h2 := Int.emod_nonneg ((kd : Int)) (show (2 : Int) ≠ 0 by decide)
      rcases (by omega : (kd : Int) % 2 = 0 ∨ (kd : Int) % 2 = 1) with e | e
      · rw [e]
        exact fin (x := .int (r1 : Nat)) (fun k e => nomatch e) (J4 _) (K4 _)
      · rw [e]
        exact fin (x := .lab (r2 : Nat)) (fun k e => nomatch e) (J4 _) (K4 _)
  · have e1 : decide ((0 : Int) < (m : Nat)) = false := decide_eq_false (by omega)
    simp only [e1]
    simp only [dNewD, dDput, putDk, dExtend, dLock, dKeysI, rDin, rDget, dictD, keyD, dTupRg, dIndexF, dOrT, dAndT, dSeqA, dCont, dRet, dRetN, dSeq, dIfS, dDrop, dSet, gNm, dNext, dAndV, dOrV, dNotV, dAnd, dOr, dNot, dIf, dTru, dBool, dOp, dVar, dC, dCa, dCons, dNil, dTup, dLst, dFrz, frzD, dSl, dNo, dPart, slD, dNeg, dChain, rIsD, rEqS, eqS, DL.rInD, inD, eqF_str, flatD_str, flatD_int, rTypeD, tyD, rLenD, lenD, DL.rIxD, rIntD, rAddD, rTupleD, DL.rListD, rAllD, itemsD, itemsL, rToInt, isD, DL.isNon, isBl, startD, endsOf, dLc, dSeqT, dSeqL, dZip, dRev, dRng1, dFor, dListEnum, wipeD, gTp, gsCons, gsNil, rKdIx, rKdIn, gob, truD, dPop, dAppend, List.isEmpty_cons, List.isEmpty_nil, cut_to1, cut_from1, cut_init, List.drop_one, List.tail_cons, List.take_succ_cons, List.take_zero, bools_true, all_true, mset_same, mset_mset, List.map_cons, List.map_nil, List.length_cons, List.length_nil, List.replicate, List.cons_append, List.nil_append, List.append_nil, List.getElem?_cons_zero, List.getElem?_cons_succ, List.getElem?_nil, Nat.reduceAdd, Nat.reduceSub, List.set_cons_zero, List.set_cons_succ, decide_true, decide_false, if_true, if_false, Bool.false_eq_true, Bool.true_eq_false, Bool.not_true, Bool.not_false, List.any_cons, List.any_nil, List.all_cons, List.all_nil, Bool.or_false, Bool.or_true, Bool.false_or, Bool.true_or, Bool.and_true, Bool.and_false, Bool.true_and, Bool.false_and, reduceCtorEq, String.reduceEq, beq_self_eq_true, String.reduceBEq, at0, at1, at2, at3, Int.reduceEq, true_and, and_true, sizeLine, Nat.reducePow, Nat.reduceLeDiff, Nat.reduceLT, Int.natCast_add, Int.cast_ofNat_Int, Int.reduceLT, Int.reduceLE]
    refine drawn_in (m := 9) rfl (by decide) (by decide) J1 K1 fun r1 μ2 a2 J2 K2 _ => ?_
    refine drawn_in (m := 9) rfl (by decide) (by decide) J2 K2 fun r2 μ3 a3 J3 K3 _ => ?_
    intro p2 hp2
    have J4 : ∀ o, Jr p (mset μ3 p2 o) := fun o => Rs.new (R := jarR p) (N := 0) J3 hp2
    have K4 : ∀ o, Kp [p] μ (mset μ3 p2 o) := fun o => K3.new hp2
    have h1 := Int.emod_lt_of_pos ((kd : Int)) (show (0 : Int) < 2 by decide)
    have h2 := Int.emod_nonneg ((kd : Int)) (show (2 : Int) ≠ 0 by decide)
    rcases (by omega : (kd : Int) % 2 = 0 ∨ (kd : Int) % 2 = 1) with e | e
    · rw [e]
      exact fin (x := .int (r1 : Nat)) (fun k e => nomatch e) (J4 _) (K4 _)
    · rw [e]
      exact fin (x := .lab (r2 : Nat)) (fun k e => nomatch e) (J4 _) (K4 _)
end
end VB
end K70

set_option Elab.async false
set_option linter.all false
set_option maxRecDepth 100000
set_option maxHeartbeats 4000000
namespace K70
open PySem PySem.Spec PyProof.Rows L2 NdefX LamX DL
namespace VB
theorem sc_law_state : FnScope ["jar", "many", "things", "here", "kind", "row", "one", "registers", "k"] ["jar"] (defScope s_law_state) := ⟨rfl, rfl, rfl, by decide +kernel, rfl, by decide +kernel, by decide +kernel⟩
section
variable {P : Program} {w : World} {K : PySem.W.Frag} {mg : Str → Option Value} {base : Heap} {f : Addr} {fd : FuncData}
def sp_state : RLD := fun ds μ Q => ∃ p : Addr, ds = [.ob p] ∧ Jr p μ ∧ ∀ (s : Sta) μ', Right s → Jr p μ' → (∀ q, q ≠ p → μ' q = μ q) → Q (stD s) μ'
theorem mono_state : MonoL sp_state := fun ds μ Q Q' i ⟨p, h1, h2, q⟩ => ⟨p, h1, h2, fun x μ' a b c => i _ _ (q x μ' a b c)⟩
theorem worth_in {p : Addr} {m here : Nat} {μ μ1 : Mu} {Q : DK} {d e : Int} (hd : d = (m : Nat)) (he : e = (here : Nat)) (hm : m ≤ 1000) (h : Jr p μ1) (K1 : Kp [p] μ μ1) (q : ∀ (x : Wo) μ2, (∀ k, x = .pl k → k < m) → Jr p μ2 → Kp [p] μ μ2 → (∀ x, x ≠ p → μ2 x = μ1 x) → Q (woD x) μ2) : sp_worth [.ob p, .int d, .int e] μ1 Q := by
  subst hd he
  exact ⟨p, m, here, rfl, hm, h, fun r μ2 a b c => q r μ2 a b (K1.trans (Kp.eq fun x hx => c x fun z => hx (List.mem_singleton.mpr z))) c⟩
theorem wos_of {m : Nat} : ∀ {ds : List D}, (∀ d ∈ ds, ∃ x, d = woD x ∧ ∀ k, x = .pl k → k < m) → ∃ ws : List Wo, ds = ws.map woD ∧ ∀ k, .pl k ∈ ws → k < m
  | [], _ => ⟨[], rfl, fun k h => nomatch h⟩
  | d :: ds, h => by
    obtain ⟨x, rfl, hx⟩ := h d List.mem_cons_self
    obtain ⟨ws, rfl, hw⟩ := wos_of fun y hy => h y (List.mem_cons_of_mem _ hy)
    refine ⟨x :: ws, rfl, fun k hk => ?_⟩
    rcases List.mem_cons.mp hk with e | hk
    · exact hx k e.symm
    · exact hw k hk
theorem ok_state (B : NoG mg) {a1 a2 : Addr} {d1 d2 : FuncData} (F : Fun K "_law_state" "_law_state" s_law_state f fd) (Glaw_drawn : Gt P w K mg base 1 "_law_drawn" ["jar", "many"] sp_drawn a1 d1) (Glaw_worth : Gt P w K mg base 2 "_law_worth" ["jar", "many", "here"] sp_worth a2 d2) : FnOk P w K mg base CX0 3 f fd ["jar"] (spUp K sp_state) := by
  refine okD F sc_law_state (fun ds μ Q ⟨p, e, _⟩ => by rw [e]; rfl) fun cdv A outer s H E hr => ⟨_, (ds_cons (d_set 1 sc_law_state.nd (d_ix ix_ok (d_lst (da_cons (d_call Glaw_drawn.F Glaw_drawn.mono (hr.mono (by first | decide | omega)) Glaw_drawn.m Glaw_drawn.k Glaw_drawn.b (da_cons (d_var 0) (da_cons d_int da_nil))) (da_cons (d_call Glaw_drawn.F Glaw_drawn.mono (hr.mono (by first | decide | omega)) Glaw_drawn.m Glaw_drawn.k Glaw_drawn.b (da_cons (d_var 0) (da_cons d_int da_nil))) da_nil))) (d_call Glaw_drawn.F Glaw_drawn.mono (hr.mono (by first | decide | omega)) Glaw_drawn.m Glaw_drawn.k Glaw_drawn.b (da_cons (d_var 0) (da_cons d_int da_nil)))))
      (ds_cons (d_set 2 sc_law_state.nd (d_lst da_nil))
      (ds_cons (d_for PassesOwn.never rfl (di_range1 rfl B.range (da_cons (d_var 1) da_nil)) (dg_name 3 (ws := [3]) sc_law_state.nd) (ds_cons (d_set 4 sc_law_state.nd (d_call Glaw_drawn.F Glaw_drawn.mono (hr.mono (by first | decide | omega)) Glaw_drawn.m Glaw_drawn.k Glaw_drawn.b (da_cons (d_var 0) (da_cons d_int da_nil))))
      (ds_one (d_ifS (dt_cmp o_lt (d_var 4) d_int (nomark _)) (ds_cons (d_setLc 5 rfl sc_law_state.nd (by rfl) (di_range1 rfl B.range (da_cons (d_call Glaw_drawn.F Glaw_drawn.mono (hr.mono (by first | decide | omega)) Glaw_drawn.m Glaw_drawn.k Glaw_drawn.b (da_cons (d_var 0) (da_cons d_int da_nil))) da_nil)) (blk_ok2 (N := ["jar", "many", "things", "here", "kind", "row", "one", "registers", "k"]) (sc := defScope s_law_state) (own := [("k", 8)]) (by rfl) (by decide +kernel) (by decide +kernel) (by decide +kernel) (by decide +kernel)) (fun _ _ _ _ _ => (dg_name 8 sc_law_state.nd)) (fun _ _ _ _ _ => dts_nil) (fun _ _ _ _ _ => (d_if (dt_cmp o_gt (d_call Glaw_drawn.F Glaw_drawn.mono (hr.mono (by first | decide | omega)) Glaw_drawn.m Glaw_drawn.k Glaw_drawn.b (da_cons (d_var 0) (da_cons d_int da_nil))) d_int (nomark _)) (d_call Glaw_worth.F Glaw_worth.mono (hr.mono (by first | decide | omega)) Glaw_worth.m Glaw_worth.k Glaw_worth.b (da_cons (d_var 0) (da_cons (d_var 1) (da_cons (d_var 3) da_nil)))) d_non)))
      (ds_one (d_expr (d_append (d_var 2) (da_cons (d_tup (da_cons (d_str "room" rfl) (da_cons (d_callTy c_tuple rfl B.tuple rfl (da_cons (d_var 5) da_nil)) da_nil))) da_nil))))) (ds_cons (d_set 6 sc_law_state.nd (d_call Glaw_worth.F Glaw_worth.mono (hr.mono (by first | decide | omega)) Glaw_worth.m Glaw_worth.k Glaw_worth.b (da_cons (d_var 0) (da_cons (d_var 1) (da_cons (d_var 3) da_nil)))))
      (ds_one (d_expr (d_append (d_var 2) (da_cons (d_if (dt_cmp o_eqS (d_var 4) d_int (nomark _)) (d_tup (da_cons (d_str "cell" rfl) (da_cons (d_var 6) da_nil))) (d_tup (da_cons (d_str "tagged" rfl) (da_cons (d_call Glaw_drawn.F Glaw_drawn.mono (hr.mono (by first | decide | omega)) Glaw_drawn.m Glaw_drawn.k Glaw_drawn.b (da_cons (d_var 0) (da_cons d_int da_nil))) (da_cons (d_var 6) da_nil))))) da_nil)))))))))
      (ds_cons (d_setLc 7 rfl sc_law_state.nd (by rfl) (di_range1 rfl B.range (da_cons (d_op o_add d_int (d_call Glaw_drawn.F Glaw_drawn.mono (hr.mono (by first | decide | omega)) Glaw_drawn.m Glaw_drawn.k Glaw_drawn.b (da_cons (d_var 0) (da_cons d_int da_nil)))) da_nil)) (blk_ok2 (N := ["jar", "many", "things", "here", "kind", "row", "one", "registers", "k"]) (sc := defScope s_law_state) (own := [("k", 8)]) (by rfl) (by decide +kernel) (by decide +kernel) (by decide +kernel) (by decide +kernel)) (fun _ _ _ _ _ => (dg_name 8 sc_law_state.nd)) (fun _ _ _ _ _ => dts_nil) (fun _ _ _ _ _ => (d_if (dt_cmp o_eqS (d_call Glaw_drawn.F Glaw_drawn.mono (hr.mono (by first | decide | omega)) Glaw_drawn.m Glaw_drawn.k Glaw_drawn.b (da_cons (d_var 0) (da_cons d_int da_nil))) d_int (nomark _)) (d_call Glaw_worth.F Glaw_worth.mono (hr.mono (by first | decide | omega)) Glaw_worth.m Glaw_worth.k Glaw_worth.b (da_cons (d_var 0) (da_cons (d_var 1) (da_cons (d_var 8) da_nil)))) d_non)))
      (ds_one (d_ret (d_tup (da_cons (d_callTy c_tuple rfl B.tuple rfl (da_cons (d_var 7) da_nil)) (da_cons (d_callTy c_tuple rfl B.tuple rfl (da_cons (d_var 2) da_nil)) (da_cons (d_call Glaw_drawn.F Glaw_drawn.mono (hr.mono (by first | decide | omega)) Glaw_drawn.m Glaw_drawn.k Glaw_drawn.b (da_cons (d_var 0) (da_cons d_int da_nil))) (da_cons (d_call Glaw_drawn.F Glaw_drawn.mono (hr.mono (by first | decide | omega)) Glaw_drawn.m Glaw_drawn.k Glaw_drawn.b (da_cons (d_var 0) (da_cons d_int da_nil))) da_nil))))))))))), ?_⟩
  rintro ds μ Q ⟨p, rfl, hJ, q⟩
  have fin : ∀ {x : Sta} {μ' : Mu}, Right x → Jr p μ' → Kp [p] μ μ' → retD Q (stD x) μ' := fun {x μ'} h1 h2 h3 =>
    Rs.ret (R := jarR p) (N := 0) h3 h2 fun μ2 a b => q x μ2 h1 a fun y hy => b y fun z => hy (List.mem_singleton.mp z)
  have nw : ∀ {μ1 : Mu} {r : Addr} {o : MO}, Jr p μ1 → Kp [p] μ μ1 → μ1 r = none → Jr p (mset μ1 r o) ∧ Kp [p] μ (mset μ1 r o) := fun {μ1 r o} h1 h2 h3 => ⟨Rs.new (R := jarR p) (N := 0) h1 h3, h2.new h3⟩
  refine q_by (fun d μ' => ∃ m : Nat, d = .int (m : Nat) ∧ m ≤ 41 ∧ Jr p μ' ∧ Kp [p] μ μ') (fun k hk => ?_) ?_
  · simp only [dNewD, dDput, putDk, dExtend, dLock, dKeysI, rDin, rDget, dictD, keyD, dTupRg, dIndexF, dOrT, dAndT, dSeqA, dCont, dRet, dRetN, dSeq, dIfS, dDrop, dSet, gNm, dNext, dAndV, dOrV, dNotV, dAnd, dOr, dNot, dIf, dTru, dBool, dOp, dVar, dC, dCa, dCons, dNil, dTup, dLst, dFrz, frzD, dSl, dNo, dPart, slD, dNeg, dChain, rIsD, rEqS, eqS, DL.rInD, inD, eqF_str, flatD_str, flatD_int, rTypeD, tyD, rLenD, lenD, DL.rIxD, rIntD, rAddD, rTupleD, DL.rListD, rAllD, itemsD, itemsL, rToInt, isD, DL.isNon, isBl, startD, endsOf, dLc, dSeqT, dSeqL, dZip, dRev, dRng1, dFor, dListEnum, wipeD, gTp, gsCons, gsNil, rKdIx, rKdIn, gob, truD, dPop, dAppend, List.isEmpty_cons, List.isEmpty_nil, cut_to1, cut_from1, cut_init, List.drop_one, List.tail_cons, List.take_succ_cons, List.take_zero, bools_true, all_true, mset_same, mset_mset, List.map_cons, List.map_nil, List.length_cons, List.length_nil, List.replicate, List.cons_append, List.nil_append, List.append_nil, List.getElem?_cons_zero, List.getElem?_cons_succ, List.getElem?_nil, Nat.reduceAdd, Nat.reduceSub, List.set_cons_zero, List.set_cons_succ, decide_true, decide_false, if_true, if_false, Bool.false_eq_true, Bool.true_eq_false, Bool.not_true, Bool.not_false, List.any_cons, List.any_nil, List.all_cons, List.all_nil, Bool.or_false, Bool.or_true, Bool.false_or, Bool.true_or, Bool.and_true, Bool.and_false, Bool.true_and, Bool.false_and, reduceCtorEq, String.reduceEq, beq_self_eq_true, String.reduceBEq, at0, at1, at2, at3, Int.reduceEq, true_and, and_true, sizeLine, Nat.reducePow, Nat.reduceLeDiff, Nat.reduceLT, Int.natCast_add, Int.cast_ofNat_Int, Int.reduceLT, Int.reduceLE]
    refine drawn_in (m := 6) rfl (by decide) (by decide) hJ Kp.refl fun r1 μ1 l1 J1 K1 _ => ?_
    refine drawn_in (m := 41) rfl (by decide) (by decide) J1 K1 fun r2 μ2 l2 J2 K2 _ => ?_
    intro p2 hp2
    have n2 := nw (o := .lst [.int (r1 : Nat), .int (r2 : Nat)]) J2 K2 hp2
    refine drawn_in (m := 2) rfl (by decide) (by decide) n2.1 n2.2 fun r3 μ3 l3 J3 K3 g3 => ?_
    have e3 : μ3 p2 = some (.lst [.int (r1 : Nat), .int (r2 : Nat)]) := by
      rw [g3 p2 fun z => by rw [z] at hp2; obtain ⟨a, b, h, _⟩ := J2; rw [h] at hp2; cases hp2]
      exact mset_same
    try simp only [dNewD, dDput, putDk, dExtend, dLock, dKeysI, rDin, rDget, dictD, keyD, dTupRg, dIndexF, dOrT, dAndT, dSeqA, dCont, dRet, dRetN, dSeq, dIfS, dDrop, dSet, gNm, dNext, dAndV, dOrV, dNotV, dAnd, dOr, dNot, dIf, dTru, dBool, dOp, dVar, dC, dCa, dCons, dNil, dTup, dLst, dFrz, frzD, dSl, dNo, dPart, slD, dNeg, dChain, rIsD, rEqS, eqS, DL.rInD, inD, eqF_str, flatD_str, flatD_int, rTypeD, tyD, rLenD, lenD, DL.rIxD, rIntD, rAddD, rTupleD, DL.rListD, rAllD, itemsD, itemsL, rToInt, isD, DL.isNon, isBl, startD, endsOf, dLc, dSeqT, dSeqL, dZip, dRev, dRng1, dFor, dListEnum, wipeD, gTp, gsCons, gsNil, rKdIx, rKdIn, gob, truD, dPop, dAppend, List.isEmpty_cons, List.isEmpty_nil, cut_to1, cut_from1, cut_init, List.drop_one, List.tail_cons, List.take_succ_cons, List.take_zero, bools_true, all_true, mset_same, mset_mset, List.map_cons, List.map_nil, List.length_cons, List.length_nil, List.replicate, List.cons_append, List.nil_append, List.append_nil, List.getElem?_cons_zero, List.getElem?_cons_succ, List.getElem?_nil, Nat.reduceAdd, Nat.reduceSub, List.set_cons_zero, List.set_cons_succ, decide_true, decide_false, if_true, if_false, Bool.false_eq_true, Bool.true_eq_false, Bool.not_true, Bool.not_false, List.any_cons, List.any_nil, List.all_cons, List.all_nil, Bool.or_false, Bool.or_true, Bool.false_or, Bool.true_or, Bool.and_true, Bool.and_false, Bool.true_and, Bool.false_and, reduceCtorEq, String.reduceEq, beq_self_eq_true, String.reduceBEq, at0, at1, at2, at3, Int.reduceEq, true_and, and_true, sizeLine, Nat.reducePow, Nat.reduceLeDiff, Nat.reduceLT, Int.natCast_add, Int.cast_ofNat_Int, Int.reduceLT, Int.reduceLE]
    simp only [e3]
    rcases (by omega : r3 = 0 ∨ r3 = 1) with rfl | rfl
    · exact hk _ _ ⟨r1, rfl, by omega, J3, K3⟩
    · exact hk _ _ ⟨r2, rfl, by omega, J3, K3⟩
  rintro d μ1 ⟨m, rfl, hm, J1, K1⟩
  refine q_by (fun d μ' => ∃ pt, d = .ob pt ∧ pt ≠ p ∧ μ' pt = some (.lst []) ∧ μ pt = none ∧ Jr p μ' ∧ Kp [p] μ μ') (fun k hk => ?_) ?_
  · simp only [dNewD, dDput, putDk, dExtend, dLock, dKeysI, rDin, rDget, dictD, keyD, dTupRg, dIndexF, dOrT, dAndT, dSeqA, dCont, dRet, dRetN, dSeq, dIfS, dDrop, dSet, gNm, dNext, dAndV, dOrV, dNotV, dAnd, dOr, dNot, dIf, dTru, dBool, dOp, dVar, dC, dCa, dCons, dNil, dTup, dLst, dFrz, frzD, dSl, dNo, dPart, slD, dNeg, dChain, rIsD, rEqS, eqS, DL.rInD, inD, eqF_str, flatD_str, flatD_int, rTypeD, tyD, rLenD, lenD, DL.rIxD, rIntD, rAddD, rTupleD, DL.rListD, rAllD, itemsD, itemsL, rToInt, isD, DL.isNon, isBl, startD, endsOf, dLc, dSeqT, dSeqL, dZip, dRev, dRng1, dFor, dListEnum, wipeD, gTp, gsCons, gsNil, rKdIx, rKdIn, gob, truD, dPop, dAppend, List.isEmpty_cons, List.isEmpty_nil, cut_to1, cut_from1, cut_init, List.drop_one, List.tail_cons, List.take_succ_cons, List.take_zero, bools_true, all_true, mset_same, mset_mset, List.map_cons, List.map_nil, List.length_cons, List.length_nil, List.replicate, List.cons_append, List.nil_append, List.append_nil, List.getElem?_cons_zero, List.getElem?_cons_succ, List.getElem?_nil, Nat.reduceAdd, Nat.reduceSub, List.set_cons_zero, List.set_cons_succ, decide_true, decide_false, if_true, if_false, Bool.false_eq_true, Bool.true_eq_false, Bool.not_true, Bool.not_false, List.any_cons, List.any_nil, List.all_cons, List.all_nil, Bool.or_false, Bool.or_true, Bool.false_or, Bool.true_or, Bool.and_true, Bool.and_false, Bool.true_and, Bool.false_and, reduceCtorEq, String.reduceEq, beq_self_eq_true, String.reduceBEq, at0, at1, at2, at3, Int.reduceEq, true_and, and_true, sizeLine, Nat.reducePow, Nat.reduceLeDiff, Nat.reduceLT, Int.natCast_add, Int.cast_ofNat_Int, Int.reduceLT, Int.reduceLE]
    intro pt hpt
    have ne : pt ≠ p := fun z => by rw [z] at hpt; obtain ⟨a, b, h, _⟩ := J1; rw [h] at hpt; cases hpt
    exact hk _ _ ⟨pt, rfl, ne, mset_same, K1.none hpt fun z => ne (List.mem_singleton.mp z), (nw J1 K1 hpt).1, (nw J1 K1 hpt).2⟩
  rintro d μ2 ⟨pt, rfl, npt, ept, hpt, J2, K2⟩
  refine q_stmt (fun ρ' μ' => ∃ (ts : List Th) (x3 x4 x5 x6 x7 x8 : Option D), ρ' = [some (.ob p), some (.int (m : Nat)), some (.ob pt), x3, x4, x5, x6, x7, x8] ∧ μ' pt = some (.lst (ts.map thD)) ∧ Jr p μ' ∧ Kp [p] μ μ' ∧ ts.length = m ∧ ∀ t ∈ ts, t.ws.length ≤ 5 ∧ ∀ k, .pl k ∈ t.ws → k < m) (fun NX hN => ?_) ?_
  · simp only [dNewD, dDput, putDk, dExtend, dLock, dKeysI, rDin, rDget, dictD, keyD, dTupRg, dIndexF, dOrT, dAndT, dSeqA, dCont, dRet, dRetN, dSeq, dIfS, dDrop, dSet, gNm, dNext, dAndV, dOrV, dNotV, dAnd, dOr, dNot, dIf, dTru, dBool, dOp, dVar, dC, dCa, dCons, dNil, dTup, dLst, dFrz, frzD, dSl, dNo, dPart, slD, dNeg, dChain, rIsD, rEqS, eqS, DL.rInD, inD, eqF_str, flatD_str, flatD_int, rTypeD, tyD, rLenD, lenD, DL.rIxD, rIntD, rAddD, rTupleD, DL.rListD, rAllD, itemsD, itemsL, rToInt, isD, DL.isNon, isBl, startD, endsOf, dLc, dSeqT, dSeqL, dZip, dRev, dRng1, dFor, dListEnum, wipeD, gTp, gsCons, gsNil, rKdIx, rKdIn, gob, truD, dPop, dAppend, List.isEmpty_cons, List.isEmpty_nil, cut_to1, cut_from1, cut_init, List.drop_one, List.tail_cons, List.take_succ_cons, List.take_zero, bools_true, all_true, mset_same, mset_mset, List.map_cons, List.map_nil, List.length_cons, List.length_nil, List.replicate, List.cons_append, List.nil_append, List.append_nil, List.getElem?_cons_zero, List.getElem?_cons_succ, List.getElem?_nil, Nat.reduceAdd, Nat.reduceSub, List.set_cons_zero, List.set_cons_succ, decide_true, decide_false, if_true, if_false, Bool.false_eq_true, Bool.true_eq_false, Bool.not_true, Bool.not_false, List.any_cons, List.any_nil, List.all_cons, List.all_nil, Bool.or_false, Bool.or_true, Bool.false_or, Bool.true_or, Bool.and_true, Bool.and_false, Bool.true_and, Bool.false_and, reduceCtorEq, String.reduceEq, beq_self_eq_true, String.reduceBEq, at0, at1, at2, at3, Int.reduceEq, true_and, and_true, sizeLine, Nat.reducePow, Nat.reduceLeDiff, Nat.reduceLT, Int.natCast_add, Int.cast_ofNat_Int, Int.reduceLT, Int.reduceLE]
    refine ⟨by omega, ?_⟩
    rw [Int.toNat_natCast]
    refine loop_rem (fun rem ρ μ' => ∃ (ts : List Th) (x3 x4 x5 x6 x7 x8 : Option D), ρ = [some (.ob p), some (.int (m : Nat)), some (.ob pt), x3, x4, x5, x6, x7, x8] ∧ μ' pt = some (.lst (ts.map thD)) ∧ Jr p μ' ∧ Kp [p] μ μ' ∧ ts.length + rem.length = m ∧ (∀ d ∈ rem, ∃ n : Nat, d = .int (n : Nat)) ∧ ∀ t ∈ ts, t.ws.length ≤ 5 ∧ ∀ k, .pl k ∈ t.ws → k < m) ?_ ?_ _ _ _ ⟨[], none, none, none, none, none, none, rfl, ept, J2, K2, by rw [len_rng]; exact Nat.zero_add _, fun d hd => ?_, fun t h => nomatch h⟩
    · rintro d rem ρ μ3 NX2 ⟨ts, x3, x4, x5, x6, x7, x8, rfl, et, J3, K3, hl, hrem, ht⟩ hnx
      obtain ⟨here, rfl⟩ := hrem d List.mem_cons_self
      rw [List.length_cons] at hl
      have nt : pt ∉ [p] := fun z => npt (List.mem_singleton.mp z)
      have push : ∀ {t : Th} {μ4 : Mu} {ρ' : Rho} {N : Rho → Mu → Prop} {y3 y4 y5 y6 y7 y8 : Option D}, Jr p μ4 → Kp [p] μ3 μ4 → t.ws.length ≤ 5 → (∀ k, .pl k ∈ t.ws → k < m) → pushD pt (thD t) μ4 fun μ5 => NX2 [some (.ob p), some (.int (m : Nat)), some (.ob pt), y3, y4, y5, y6, y7, y8] μ5 := fun {t μ4 ρ' N y3 y4 y5 y6 y7 y8} J4 K4 h1 h2 => by
        unfold pushD
        rw [K4 pt _ nt et]
        refine ⟨by rw [List.length_map]; show _ < 2 ^ 24; omega, hnx _ _ ⟨ts ++ [t], _, _, _, _, _, _, rfl, by rw [mset_same, List.map_append]; rfl, Rs.put (R := jarR p) (N := 0) J4 nt, ?_, by rw [List.length_append, List.length_singleton]; omega, fun x hx => hrem x (List.mem_cons_of_mem _ hx), fun x hx => ?_⟩⟩
        · exact (K3.trans K4).put hpt
        · rcases List.mem_append.mp hx with hx | hx
          · exact ht x hx
          · rw [List.mem_singleton.mp hx]; exact ⟨h1, h2⟩
      change dSeq _ _ _ _ _
      refine q_by (fun d μ' => ∃ k : Nat, d = .int (k : Nat) ∧ k < 5 ∧ Jr p μ' ∧ Kp [p] μ3 μ') (fun k hk => ?_) ?_
      · simp only [dNewD, dDput, putDk, dExtend, dLock, dKeysI, rDin, rDget, dictD, keyD, dTupRg, dIndexF, dOrT, dAndT, dSeqA, dCont, dRet, dRetN, dSeq, dIfS, dDrop, dSet, gNm, dNext, dAndV, dOrV, dNotV, dAnd, dOr, dNot, dIf, dTru, dBool, dOp, dVar, dC, dCa, dCons, dNil, dTup, dLst, dFrz, frzD, dSl, dNo, dPart, slD, dNeg, dChain, rIsD, rEqS, eqS, DL.rInD, inD, eqF_str, flatD_str, flatD_int, rTypeD, tyD, rLenD, lenD, DL.rIxD, rIntD, rAddD, rTupleD, DL.rListD, rAllD, itemsD, itemsL, rToInt, isD, DL.isNon, isBl, startD, endsOf, dLc, dSeqT, dSeqL, dZip, dRev, dRng1, dFor, dListEnum, wipeD, gTp, gsCons, gsNil, rKdIx, rKdIn, gob, truD, dPop, dAppend, List.isEmpty_cons, List.isEmpty_nil, cut_to1, cut_from1, cut_init, List.drop_one, List.tail_cons, List.take_succ_cons, List.take_zero, bools_true, all_true, mset_same, mset_mset, List.map_cons, List.map_nil, List.length_cons, List.length_nil, List.replicate, List.cons_append, List.nil_append, List.append_nil, List.getElem?_cons_zero, List.getElem?_cons_succ, List.getElem?_nil, Nat.reduceAdd, Nat.reduceSub, List.set_cons_zero, List.set_cons_succ, decide_true, decide_false, if_true, if_false, Bool.false_eq_true, Bool.true_eq_false, Bool.not_true, Bool.not_false, List.any_cons, List.any_nil, List.all_cons, List.all_nil, Bool.or_false, Bool.or_true, Bool.false_or, Bool.true_or, Bool.and_true, Bool.and_false, Bool.true_and, Bool.false_and, reduceCtorEq, String.reduceEq, beq_self_eq_true, String.reduceBEq, at0, at1, at2, at3, Int.reduceEq, true_and, and_true, sizeLine, Nat.reducePow, Nat.reduceLeDiff, Nat.reduceLT, Int.natCast_add, Int.cast_ofNat_Int, Int.reduceLT, Int.reduceLE]
        exact drawn_in (m := 5) rfl (by decide) (by decide) J3 Kp.refl fun r μ2 a b c _ => hk _ _ ⟨r, rfl, a, b, c⟩
      rintro d μ4 ⟨kd, rfl, lk, J4, K4⟩
      by_cases c3 : kd < 3
      · have e3 : decide (((kd : Nat) : Int) < 3) = true := decide_eq_true (by omega)
        simp only [dNewD, dDput, putDk, dExtend, dLock, dKeysI, rDin, rDget, dictD, keyD, dTupRg, dIndexF, dOrT, dAndT, dSeqA, dCont, dRet, dRetN, dSeq, dIfS, dDrop, dSet, gNm, dNext, dAndV, dOrV, dNotV, dAnd, dOr, dNot, dIf, dTru, dBool, dOp, dVar, dC, dCa, dCons, dNil, dTup, dLst, dFrz, frzD, dSl, dNo, dPart, slD, dNeg, dChain, rIsD, rEqS, eqS, DL.rInD, inD, eqF_str, flatD_str, flatD_int, rTypeD, tyD, rLenD, lenD, DL.rIxD, rIntD, rAddD, rTupleD, DL.rListD, rAllD, itemsD, itemsL, rToInt, isD, DL.isNon, isBl, startD, endsOf, dLc, dSeqT, dSeqL, dZip, dRev, dRng1, dFor, dListEnum, wipeD, gTp, gsCons, gsNil, rKdIx, rKdIn, gob, truD, dPop, dAppend, List.isEmpty_cons, List.isEmpty_nil, cut_to1, cut_from1, cut_init, List.drop_one, List.tail_cons, List.take_succ_cons, List.take_zero, bools_true, all_true, mset_same, mset_mset, List.map_cons, List.map_nil, List.length_cons, List.length_nil, List.replicate, List.cons_append, List.nil_append, List.append_nil, List.getElem?_cons_zero, List.getElem?_cons_succ, List.getElem?_nil, Nat.reduceAdd, Nat.reduceSub, List.set_cons_zero, List.set_cons_succ, decide_true, decide_false, if_true, if_false, Bool.false_eq_true, Bool.true_eq_false, Bool.not_true, Bool.not_false, List.any_cons, List.any_nil, List.all_cons, List.all_nil, Bool.or_false, Bool.or_true, Bool.false_or, Bool.true_or, Bool.and_true, Bool.and_false, Bool.true_and, Bool.false_and, reduceCtorEq, String.reduceEq, beq_self_eq_true, String.reduceBEq, at0, at1, at2, at3, Int.reduceEq, true_and, and_true, sizeLine, Nat.reducePow, Nat.reduceLeDiff, Nat.reduceLT, Int.natCast_add, Int.cast_ofNat_Int, Int.reduceLT, Int.reduceLE]
        simp only [e3]
        try simp only [dNewD, dDput, putDk, dExtend, dLock, dKeysI, rDin, rDget, dictD, keyD, dTupRg, dIndexF, dOrT, dAndT, dSeqA, dCont, dRet, dRetN, dSeq, dIfS, dDrop, dSet, gNm, dNext, dAndV, dOrV, dNotV, dAnd, dOr, dNot, dIf, dTru, dBool, dOp, dVar, dC, dCa, dCons, dNil, dTup, dLst, dFrz, frzD, dSl, dNo, dPart, slD, dNeg, dChain, rIsD, rEqS, eqS, DL.rInD, inD, eqF_str, flatD_str, flatD_int, rTypeD, tyD, rLenD, lenD, DL.rIxD, rIntD, rAddD, rTupleD, DL.rListD, rAllD, itemsD, itemsL, rToInt, isD, DL.isNon, isBl, startD, endsOf, dLc, dSeqT, dSeqL, dZip, dRev, dRng1, dFor, dListEnum, wipeD, gTp, gsCons, gsNil, rKdIx, rKdIn, gob, truD, dPop, dAppend, List.isEmpty_cons, List.isEmpty_nil, cut_to1, cut_from1, cut_init, List.drop_one, List.tail_cons, List.take_succ_cons, List.take_zero, bools_true, all_true, mset_same, mset_mset, List.map_cons, List.map_nil, List.length_cons, List.length_nil, List.replicate, List.cons_append, List.nil_append, List.append_nil, List.getElem?_cons_zero, List.getElem?_cons_succ, List.getElem?_nil, Nat.reduceAdd, Nat.reduceSub, List.set_cons_zero, List.set_cons_succ, decide_true, decide_false, if_true, if_false, Bool.false_eq_true, Bool.true_eq_false, Bool.not_true, Bool.not_false, List.any_cons, List.any_nil, List.all_cons, List.all_nil, Bool.or_false, Bool.or_true, Bool.false_or, Bool.true_or, Bool.and_true, Bool.and_false, Bool.true_and, Bool.false_and, reduceCtorEq, String.reduceEq, beq_self_eq_true, String.reduceBEq, at0, at1, at2, at3, Int.reduceEq, true_and, and_true, sizeLine, Nat.reducePow, Nat.reduceLeDiff, Nat.reduceLT, Int.natCast_add, Int.cast_ofNat_Int, Int.reduceLT, Int.reduceLE]
        refine drawn_in (m := 6) rfl (by decide) (by decide) J4 Kp.refl fun r μ5 lr J5 K5 _ => ?_
        try simp only [dNewD, dDput, putDk, dExtend, dLock, dKeysI, rDin, rDget, dictD, keyD, dTupRg, dIndexF, dOrT, dAndT, dSeqA, dCont, dRet, dRetN, dSeq, dIfS, dDrop, dSet, gNm, dNext, dAndV, dOrV, dNotV, dAnd, dOr, dNot, dIf, dTru, dBool, dOp, dVar, dC, dCa, dCons, dNil, dTup, dLst, dFrz, frzD, dSl, dNo, dPart, slD, dNeg, dChain, rIsD, rEqS, eqS, DL.rInD, inD, eqF_str, flatD_str, flatD_int, rTypeD, tyD, rLenD, lenD, DL.rIxD, rIntD, rAddD, rTupleD, DL.rListD, rAllD, itemsD, itemsL, rToInt, isD, DL.isNon, isBl, startD, endsOf, dLc, dSeqT, dSeqL, dZip, dRev, dRng1, dFor, dListEnum, wipeD, gTp, gsCons, gsNil, rKdIx, rKdIn, gob, truD, dPop, dAppend, List.isEmpty_cons, List.isEmpty_nil, cut_to1, cut_from1, cut_init, List.drop_one, List.tail_cons, List.take_succ_cons, List.take_zero, bools_true, all_true, mset_same, mset_mset, List.map_cons, List.map_nil, List.length_cons, List.length_nil, List.replicate, List.cons_append, List.nil_append, List.append_nil, List.getElem?_cons_zero, List.getElem?_cons_succ, List.getElem?_nil, Nat.reduceAdd, Nat.reduceSub, List.set_cons_zero, List.set_cons_succ, decide_true, decide_false, if_true, if_false, Bool.false_eq_true, Bool.true_eq_false, Bool.not_true, Bool.not_false, List.any_cons, List.any_nil, List.all_cons, List.all_nil, Bool.or_false, Bool.or_true, Bool.false_or, Bool.true_or, Bool.and_true, Bool.and_false, Bool.true_and, Bool.false_and, reduceCtorEq, String.reduceEq, beq_self_eq_true, String.reduceBEq, at0, at1, at2, at3, Int.reduceEq, true_and, and_true, sizeLine, Nat.reducePow, Nat.reduceLeDiff, Nat.reduceLT, Int.natCast_add, Int.cast_ofNat_Int, Int.reduceLT, Int.reduceLE]
        refine ⟨by omega, fun pr hpr => ?_⟩
        have nr : pr ≠ p := fun z => by rw [z] at hpr; obtain ⟨a, b, h, _⟩ := J5; rw [h] at hpr; cases hpr
        have nr' : pr ∉ [p] := fun z => nr (List.mem_singleton.mp z)
        rw [Int.toNat_natCast]
        refine Rs.lc (R := jarR p) (μ := μ5) 0 nr' hpr (fun _ => True) (fun d => ∃ x, d = woD x ∧ ∀ k, x = .pl k → k < m) (fun i μ6 N k hi hok hK hkk => ?_) _ [] 0 _ (fun d hd => trivial) (Rs.new (R := jarR p) (N := 0) J5 hpr) (Kp.refl.new hpr) mset_same (by rw [len_rng]; show 0 + _ ≤ 2 ^ 24; omega) ?_
        · simp only [dNewD, dDput, putDk, dExtend, dLock, dKeysI, rDin, rDget, dictD, keyD, dTupRg, dIndexF, dOrT, dAndT, dSeqA, dCont, dRet, dRetN, dSeq, dIfS, dDrop, dSet, gNm, dNext, dAndV, dOrV, dNotV, dAnd, dOr, dNot, dIf, dTru, dBool, dOp, dVar, dC, dCa, dCons, dNil, dTup, dLst, dFrz, frzD, dSl, dNo, dPart, slD, dNeg, dChain, rIsD, rEqS, eqS, DL.rInD, inD, eqF_str, flatD_str, flatD_int, rTypeD, tyD, rLenD, lenD, DL.rIxD, rIntD, rAddD, rTupleD, DL.rListD, rAllD, itemsD, itemsL, rToInt, isD, DL.isNon, isBl, startD, endsOf, dLc, dSeqT, dSeqL, dZip, dRev, dRng1, dFor, dListEnum, wipeD, gTp, gsCons, gsNil, rKdIx, rKdIn, gob, truD, dPop, dAppend, List.isEmpty_cons, List.isEmpty_nil, cut_to1, cut_from1, cut_init, List.drop_one, List.tail_cons, List.take_succ_cons, List.take_zero, bools_true, all_true, mset_same, mset_mset, List.map_cons, List.map_nil, List.length_cons, List.length_nil, List.replicate, List.cons_append, List.nil_append, List.append_nil, List.getElem?_cons_zero, List.getElem?_cons_succ, List.getElem?_nil, Nat.reduceAdd, Nat.reduceSub, List.set_cons_zero, List.set_cons_succ, decide_true, decide_false, if_true, if_false, Bool.false_eq_true, Bool.true_eq_false, Bool.not_true, Bool.not_false, List.any_cons, List.any_nil, List.all_cons, List.all_nil, Bool.or_false, Bool.or_true, Bool.false_or, Bool.true_or, Bool.and_true, Bool.and_false, Bool.true_and, Bool.false_and, reduceCtorEq, String.reduceEq, beq_self_eq_true, String.reduceBEq, at0, at1, at2, at3, Int.reduceEq, true_and, and_true, sizeLine, Nat.reducePow, Nat.reduceLeDiff, Nat.reduceLT, Int.natCast_add, Int.cast_ofNat_Int, Int.reduceLT, Int.reduceLE]
          refine drawn_in (m := 4) rfl (by decide) (by decide) hok hK fun r2 μ7 l2 J7 K7 g7 => ?_
          by_cases c : r2 = 0
          · subst c
            try simp only [dNewD, dDput, putDk, dExtend, dLock, dKeysI, rDin, rDget, dictD, keyD, dTupRg, dIndexF, dOrT, dAndT, dSeqA, dCont, dRet, dRetN, dSeq, dIfS, dDrop, dSet, gNm, dNext, dAndV, dOrV, dNotV, dAnd, dOr, dNot, dIf, dTru, dBool, dOp, dVar, dC, dCa, dCons, dNil, dTup, dLst, dFrz, frzD, dSl, dNo, dPart, slD, dNeg, dChain, rIsD, rEqS, eqS, DL.rInD, inD, eqF_str, flatD_str, flatD_int, rTypeD, tyD, rLenD, lenD, DL.rIxD, rIntD, rAddD, rTupleD, DL.rListD, rAllD, itemsD, itemsL, rToInt, isD, DL.isNon, isBl, startD, endsOf, dLc, dSeqT, dSeqL, dZip, dRev, dRng1, dFor, dListEnum, wipeD, gTp, gsCons, gsNil, rKdIx, rKdIn, gob, truD, dPop, dAppend, List.isEmpty_cons, List.isEmpty_nil, cut_to1, cut_from1, cut_init, List.drop_one, List.tail_cons, List.take_succ_cons, List.take_zero, bools_true, all_true, mset_same, mset_mset, List.map_cons, List.map_nil, List.length_cons, List.length_nil, List.replicate, List.cons_append, List.nil_append, List.append_nil, List.getElem?_cons_zero, List.getElem?_cons_succ, List.getElem?_nil, Nat.reduceAdd, Nat.reduceSub, List.set_cons_zero, List.set_cons_succ, decide_true, decide_false, if_true, if_false, Bool.false_eq_true, Bool.true_eq_false, Bool.not_true, Bool.not_false, List.any_cons, List.any_nil, List.all_cons, List.all_nil, Bool.or_false, Bool.or_true, Bool.false_or, Bool.true_or, Bool.and_true, Bool.and_false, Bool.true_and, Bool.false_and, reduceCtorEq, String.reduceEq, beq_self_eq_true, String.reduceBEq, at0, at1, at2, at3, Int.reduceEq, true_and, and_true, sizeLine, Nat.reducePow, Nat.reduceLeDiff, Nat.reduceLT, Int.natCast_add, Int.cast_ofNat_Int, Int.reduceLT, Int.reduceLE]
            try rw [if_neg (by decide)]
            exact hkk _ _ ⟨.non, rfl, fun k e => nomatch e⟩ J7 K7 (g7 pr nr)
          · have e4 : decide ((0 : Int) < (r2 : Nat)) = true := decide_eq_true (by omega)
            simp only [dNewD, dDput, putDk, dExtend, dLock, dKeysI, rDin, rDget, dictD, keyD, dTupRg, dIndexF, dOrT, dAndT, dSeqA, dCont, dRet, dRetN, dSeq, dIfS, dDrop, dSet, gNm, dNext, dAndV, dOrV, dNotV, dAnd, dOr, dNot, dIf, dTru, dBool, dOp, dVar, dC, dCa, dCons, dNil, dTup, dLst, dFrz, frzD, dSl, dNo, dPart, slD, dNeg, dChain, rIsD, rEqS, eqS, DL.rInD, inD, eqF_str, flatD_str, flatD_int, rTypeD, tyD, rLenD, lenD, DL.rIxD, rIntD, rAddD, rTupleD, DL.rListD, rAllD, itemsD, itemsL, rToInt, isD, DL.isNon, isBl, startD, endsOf, dLc, dSeqT, dSeqL, dZip, dRev, dRng1, dFor, dListEnum, wipeD, gTp, gsCons, gsNil, rKdIx, rKdIn, gob, truD, dPop, dAppend, List.isEmpty_cons, List.isEmpty_nil, cut_to1, cut_from1, cut_init, List.drop_one, List.tail_cons, List.take_succ_cons, List.take_zero, bools_true, all_true, mset_same, mset_mset, List.map_cons, List.map_nil, List.length_cons, List.length_nil, List.replicate, List.cons_append, List.nil_append, List.append_nil, List.getElem?_cons_zero, List.getElem?_cons_succ, List.getElem?_nil, Nat.reduceAdd, Nat.reduceSub, List.set_cons_zero, List.set_cons_succ, decide_true, decide_false, if_true, if_false, Bool.false_eq_true, Bool.true_eq_false, Bool.not_true, Bool.not_false, List.any_cons, List.any_nil, List.all_cons, List.all_nil, Bool.or_false, Bool.or_true, Bool.false_or, Bool.true_or, Bool.and_true, Bool.and_false, Bool.true_and, Bool.false_and, reduceCtorEq, String.reduceEq, beq_self_eq_true, String.reduceBEq, at0, at1, at2, at3, Int.reduceEq, true_and, and_true, sizeLine, Nat.reducePow, Nat.reduceLeDiff, Nat.reduceLT, Int.natCast_add, Int.cast_ofNat_Int, Int.reduceLT, Int.reduceLE]
            rw [if_pos e4]
            refine worth_in rfl rfl (by omega) J7 K7 fun x μ8 hx J8 K8 g8 => ?_
            exact hkk _ _ ⟨x, rfl, hx⟩ J8 K8 (by rw [g8 pr nr, g7 pr nr])
        · intro ds μ6 h1 h2 h3 h4 h5
          obtain ⟨ws, rfl, hw⟩ := wos_of h1
          rw [List.length_map, len_rng] at h2
          have J6 : Jr p μ6 := h3
          have K6 : Kp [p] μ3 μ6 := (K4.trans K5).trans h4
          have e6 := K6 pt _ nt et
          simp only [List.nil_append] at h5
          try simp only [dNewD, dDput, putDk, dExtend, dLock, dKeysI, rDin, rDget, dictD, keyD, dTupRg, dIndexF, dOrT, dAndT, dSeqA, dCont, dRet, dRetN, dSeq, dIfS, dDrop, dSet, gNm, dNext, dAndV, dOrV, dNotV, dAnd, dOr, dNot, dIf, dTru, dBool, dOp, dVar, dC, dCa, dCons, dNil, dTup, dLst, dFrz, frzD, dSl, dNo, dPart, slD, dNeg, dChain, rIsD, rEqS, eqS, DL.rInD, inD, eqF_str, flatD_str, flatD_int, rTypeD, tyD, rLenD, lenD, DL.rIxD, rIntD, rAddD, rTupleD, DL.rListD, rAllD, itemsD, itemsL, rToInt, isD, DL.isNon, isBl, startD, endsOf, dLc, dSeqT, dSeqL, dZip, dRev, dRng1, dFor, dListEnum, wipeD, gTp, gsCons, gsNil, rKdIx, rKdIn, gob, truD, dPop, dAppend, List.isEmpty_cons, List.isEmpty_nil, cut_to1, cut_from1, cut_init, List.drop_one, List.tail_cons, List.take_succ_cons, List.take_zero, bools_true, all_true, mset_same, mset_mset, List.map_cons, List.map_nil, List.length_cons, List.length_nil, List.replicate, List.cons_append, List.nil_append, List.append_nil, List.getElem?_cons_zero, List.getElem?_cons_succ, List.getElem?_nil, Nat.reduceAdd, Nat.reduceSub, List.set_cons_zero, List.set_cons_succ, decide_true, decide_false, if_true, if_false, Bool.false_eq_true, Bool.true_eq_false, Bool.not_true, Bool.not_false, List.any_cons, List.any_nil, List.all_cons, List.all_nil, Bool.or_false, Bool.or_true, Bool.false_or, Bool.true_or, Bool.and_true, Bool.and_false, Bool.true_and, Bool.false_and, reduceCtorEq, String.reduceEq, beq_self_eq_true, String.reduceBEq, at0, at1, at2, at3, Int.reduceEq, true_and, and_true, sizeLine, Nat.reducePow, Nat.reduceLeDiff, Nat.reduceLT, Int.natCast_add, Int.cast_ofNat_Int, Int.reduceLT, Int.reduceLE]
          simp only [e6, h5]
          try simp only [dNewD, dDput, putDk, dExtend, dLock, dKeysI, rDin, rDget, dictD, keyD, dTupRg, dIndexF, dOrT, dAndT, dSeqA, dCont, dRet, dRetN, dSeq, dIfS, dDrop, dSet, gNm, dNext, dAndV, dOrV, dNotV, dAnd, dOr, dNot, dIf, dTru, dBool, dOp, dVar, dC, dCa, dCons, dNil, dTup, dLst, dFrz, frzD, dSl, dNo, dPart, slD, dNeg, dChain, rIsD, rEqS, eqS, DL.rInD, inD, eqF_str, flatD_str, flatD_int, rTypeD, tyD, rLenD, lenD, DL.rIxD, rIntD, rAddD, rTupleD, DL.rListD, rAllD, itemsD, itemsL, rToInt, isD, DL.isNon, isBl, startD, endsOf, dLc, dSeqT, dSeqL, dZip, dRev, dRng1, dFor, dListEnum, wipeD, gTp, gsCons, gsNil, rKdIx, rKdIn, gob, truD, dPop, dAppend, List.isEmpty_cons, List.isEmpty_nil, cut_to1, cut_from1, cut_init, List.drop_one, List.tail_cons, List.take_succ_cons, List.take_zero, bools_true, all_true, mset_same, mset_mset, List.map_cons, List.map_nil, List.length_cons, List.length_nil, List.replicate, List.cons_append, List.nil_append, List.append_nil, List.getElem?_cons_zero, List.getElem?_cons_succ, List.getElem?_nil, Nat.reduceAdd, Nat.reduceSub, List.set_cons_zero, List.set_cons_succ, decide_true, decide_false, if_true, if_false, Bool.false_eq_true, Bool.true_eq_false, Bool.not_true, Bool.not_false, List.any_cons, List.any_nil, List.all_cons, List.all_nil, Bool.or_false, Bool.or_true, Bool.false_or, Bool.true_or, Bool.and_true, Bool.and_false, Bool.true_and, Bool.false_and, reduceCtorEq, String.reduceEq, beq_self_eq_true, String.reduceBEq, at0, at1, at2, at3, Int.reduceEq, true_and, and_true, sizeLine, Nat.reducePow, Nat.reduceLeDiff, Nat.reduceLT, Int.natCast_add, Int.cast_ofNat_Int, Int.reduceLT, Int.reduceLE]
          exact push (t := .room ws) (ρ' := []) (N := fun _ _ => True) J6 K6 (by show ws.length ≤ 5; omega) hw
      · have e3 : decide (((kd : Nat) : Int) < 3) = false := decide_eq_false (by omega)
        simp only [dNewD, dDput, putDk, dExtend, dLock, dKeysI, rDin, rDget, dictD, keyD, dTupRg, dIndexF, dOrT, dAndT, dSeqA, dCont, dRet, dRetN, dSeq, dIfS, dDrop, dSet, gNm, dNext, dAndV, dOrV, dNotV, dAnd, dOr, dNot, dIf, dTru, dBool, dOp, dVar, dC, dCa, dCons, dNil, dTup, dLst, dFrz, frzD, dSl, dNo, dPart, slD, dNeg, dChain, rIsD, rEqS, eqS, DL.rInD, inD, eqF_str, flatD_str, flatD_int, rTypeD, tyD, rLenD, lenD, DL.rIxD, rIntD, rAddD, rTupleD, DL.rListD, rAllD, itemsD, itemsL, rToInt, isD, DL.isNon, isBl, startD, endsOf, dLc, dSeqT, dSeqL, dZip, dRev, dRng1, dFor, dListEnum, wipeD, gTp, gsCons, gsNil, rKdIx, rKdIn, gob, truD, dPop, dAppend, List.isEmpty_cons, List.isEmpty_nil, cut_to1, cut_from1, cut_init, List.drop_one, List.tail_cons, List.take_succ_cons, List.take_zero, bools_true, all_true, mset_same, mset_mset, List.map_cons, List.map_nil, List.length_cons, List.length_nil, List.replicate, List.cons_append, List.nil_append, List.append_nil, List.getElem?_cons_zero, List.getElem?_cons_succ, List.getElem?_nil, Nat.reduceAdd, Nat.reduceSub, List.set_cons_zero, List.set_cons_succ, decide_true, decide_false, if_true, if_false, Bool.false_eq_true, Bool.true_eq_false, Bool.not_true, Bool.not_false, List.any_cons, List.any_nil, List.all_cons, List.all_nil, Bool.or_false, Bool.or_true, Bool.false_or, Bool.true_or, Bool.and_true, Bool.and_false, Bool.true_and, Bool.false_and, reduceCtorEq, String.reduceEq, beq_self_eq_true, String.reduceBEq, at0, at1, at2, at3, Int.reduceEq, true_and, and_true, sizeLine, Nat.reducePow, Nat.reduceLeDiff, Nat.reduceLT, Int.natCast_add, Int.cast_ofNat_Int, Int.reduceLT, Int.reduceLE]
        simp only [e3]
        try simp only [dNewD, dDput, putDk, dExtend, dLock, dKeysI, rDin, rDget, dictD, keyD, dTupRg, dIndexF, dOrT, dAndT, dSeqA, dCont, dRet, dRetN, dSeq, dIfS, dDrop, dSet, gNm, dNext, dAndV, dOrV, dNotV, dAnd, dOr, dNot, dIf, dTru, dBool, dOp, dVar, dC, dCa, dCons, dNil, dTup, dLst, dFrz, frzD, dSl, dNo, dPart, slD, dNeg, dChain, rIsD, rEqS, eqS, DL.rInD, inD, eqF_str, flatD_str, flatD_int, rTypeD, tyD, rLenD, lenD, DL.rIxD, rIntD, rAddD, rTupleD, DL.rListD, rAllD, itemsD, itemsL, rToInt, isD, DL.isNon, isBl, startD, endsOf, dLc, dSeqT, dSeqL, dZip, dRev, dRng1, dFor, dListEnum, wipeD, gTp, gsCons, gsNil, rKdIx, rKdIn, gob, truD, dPop, dAppend, List.isEmpty_cons, List.isEmpty_nil, cut_to1, cut_from1, cut_init, List.drop_one, List.tail_cons, List.take_succ_cons, List.take_zero, bools_true, all_true, mset_same, mset_mset, List.map_cons, List.map_nil, List.length_cons, List.length_nil, List.replicate, List.cons_append, List.nil_append, List.append_nil, List.getElem?_cons_zero, List.getElem?_cons_succ, List.getElem?_nil, Nat.reduceAdd, Nat.reduceSub, List.set_cons_zero, List.set_cons_succ, decide_true, decide_false, if_true, if_false, Bool.false_eq_true, Bool.true_eq_false, Bool.not_true, Bool.not_false, List.any_cons, List.any_nil, List.all_cons, List.all_nil, Bool.or_false, Bool.or_true, Bool.false_or, Bool.true_or, Bool.and_true, Bool.and_false, Bool.true_and, Bool.false_and, reduceCtorEq, String.reduceEq, beq_self_eq_true, String.reduceBEq, at0, at1, at2, at3, Int.reduceEq, true_and, and_true, sizeLine, Nat.reducePow, Nat.reduceLeDiff, Nat.reduceLT, Int.natCast_add, Int.cast_ofNat_Int, Int.reduceLT, Int.reduceLE]
        refine worth_in rfl rfl (by omega) J4 K4 fun x μ5 hx J5 K5 g5 => ?_
        have e5 := K5 pt _ nt et
        try simp only [dNewD, dDput, putDk, dExtend, dLock, dKeysI, rDin, rDget, dictD, keyD, dTupRg, dIndexF, dOrT, dAndT, dSeqA, dCont, dRet, dRetN, dSeq, dIfS, dDrop, dSet, gNm, dNext, dAndV, dOrV, dNotV, dAnd, dOr, dNot, dIf, dTru, dBool, dOp, dVar, dC, dCa, dCons, dNil, dTup, dLst, dFrz, frzD, dSl, dNo, dPart, slD, dNeg, dChain, rIsD, rEqS, eqS, DL.rInD, inD, eqF_str, flatD_str, flatD_int, rTypeD, tyD, rLenD, lenD, DL.rIxD, rIntD, rAddD, rTupleD, DL.rListD, rAllD, itemsD, itemsL, rToInt, isD, DL.isNon, isBl, startD, endsOf, dLc, dSeqT, dSeqL, dZip, dRev, dRng1, dFor, dListEnum, wipeD, gTp, gsCons, gsNil, rKdIx, rKdIn, gob, truD, dPop, dAppend, List.isEmpty_cons, List.isEmpty_nil, cut_to1, cut_from1, cut_init, List.drop_one, List.tail_cons, List.take_succ_cons, List.take_zero, bools_true, all_true, mset_same, mset_mset, List.map_cons, List.map_nil, List.length_cons, List.length_nil, List.replicate, List.cons_append, List.nil_append, List.append_nil, List.getElem?_cons_zero, List.getElem?_cons_succ, List.getElem?_nil, Nat.reduceAdd, Nat.reduceSub, List.set_cons_zero, List.set_cons_succ, decide_true, decide_false, if_true, if_false, Bool.false_eq_true, Bool.true_eq_false, Bool.not_true, Bool.not_false, List.any_cons, List.any_nil, List.all_cons, List.all_nil, Bool.or_false, Bool.or_true, Bool.false_or, Bool.true_or, Bool.and_true, Bool.and_false, Bool.true_and, Bool.false_and, reduceCtorEq, String.reduceEq, beq_self_eq_true, String.reduceBEq, at0, at1, at2, at3, Int.reduceEq, true_and, and_true, sizeLine, Nat.reducePow, Nat.reduceLeDiff, Nat.reduceLT, Int.natCast_add, Int.cast_ofNat_Int, Int.reduceLT, Int.reduceLE]
        simp only [e5]
        try simp only [dNewD, dDput, putDk, dExtend, dLock, dKeysI, rDin, rDget, dictD, keyD, dTupRg, dIndexF, dOrT, dAndT, dSeqA, dCont, dRet, dRetN, dSeq, dIfS, dDrop, dSet, gNm, dNext, dAndV, dOrV, dNotV, dAnd, dOr, dNot, dIf, dTru, dBool, dOp, dVar, dC, dCa, dCons, dNil, dTup, dLst, dFrz, frzD, dSl, dNo, dPart, slD, dNeg, dChain, rIsD, rEqS, eqS, DL.rInD, inD, eqF_str, flatD_str, flatD_int, rTypeD, tyD, rLenD, lenD, DL.rIxD, rIntD, rAddD, rTupleD, DL.rListD, rAllD, itemsD, itemsL, rToInt, isD, DL.isNon, isBl, startD, endsOf, dLc, dSeqT, dSeqL, dZip, dRev, dRng1, dFor, dListEnum, wipeD, gTp, gsCons, gsNil, rKdIx, rKdIn, gob, truD, dPop, dAppend, List.isEmpty_cons, List.isEmpty_nil, cut_to1, cut_from1, cut_init, List.drop_one, List.tail_cons, List.take_succ_cons, List.take_zero, bools_true, all_true, mset_same, mset_mset, List.map_cons, List.map_nil, List.length_cons, List.length_nil, List.replicate, List.cons_append, List.nil_append, List.append_nil, List.getElem?_cons_zero, List.getElem?_cons_succ, List.getElem?_nil, Nat.reduceAdd, Nat.reduceSub, List.set_cons_zero, List.set_cons_succ, decide_true, decide_false, if_true, if_false, Bool.false_eq_true, Bool.true_eq_false, Bool.not_true, Bool.not_false, List.any_cons, List.any_nil, List.all_cons, List.all_nil, Bool.or_false, Bool.or_true, Bool.false_or, Bool.true_or, Bool.and_true, Bool.and_false, Bool.true_and, Bool.false_and, reduceCtorEq, String.reduceEq, beq_self_eq_true, String.reduceBEq, at0, at1, at2, at3, Int.reduceEq, true_and, and_true, sizeLine, Nat.reducePow, Nat.reduceLeDiff, Nat.reduceLT, Int.natCast_add, Int.cast_ofNat_Int, Int.reduceLT, Int.reduceLE]
        by_cases c4 : kd = 3
        · subst c4
          try simp only [dNewD, dDput, putDk, dExtend, dLock, dKeysI, rDin, rDget, dictD, keyD, dTupRg, dIndexF, dOrT, dAndT, dSeqA, dCont, dRet, dRetN, dSeq, dIfS, dDrop, dSet, gNm, dNext, dAndV, dOrV, dNotV, dAnd, dOr, dNot, dIf, dTru, dBool, dOp, dVar, dC, dCa, dCons, dNil, dTup, dLst, dFrz, frzD, dSl, dNo, dPart, slD, dNeg, dChain, rIsD, rEqS, eqS, DL.rInD, inD, eqF_str, flatD_str, flatD_int, rTypeD, tyD, rLenD, lenD, DL.rIxD, rIntD, rAddD, rTupleD, DL.rListD, rAllD, itemsD, itemsL, rToInt, isD, DL.isNon, isBl, startD, endsOf, dLc, dSeqT, dSeqL, dZip, dRev, dRng1, dFor, dListEnum, wipeD, gTp, gsCons, gsNil, rKdIx, rKdIn, gob, truD, dPop, dAppend, List.isEmpty_cons, List.isEmpty_nil, cut_to1, cut_from1, cut_init, List.drop_one, List.tail_cons, List.take_succ_cons, List.take_zero, bools_true, all_true, mset_same, mset_mset, List.map_cons, List.map_nil, List.length_cons, List.length_nil, List.replicate, List.cons_append, List.nil_append, List.append_nil, List.getElem?_cons_zero, List.getElem?_cons_succ, List.getElem?_nil, Nat.reduceAdd, Nat.reduceSub, List.set_cons_zero, List.set_cons_succ, decide_true, decide_false, if_true, if_false, Bool.false_eq_true, Bool.true_eq_false, Bool.not_true, Bool.not_false, List.any_cons, List.any_nil, List.all_cons, List.all_nil, Bool.or_false, Bool.or_true, Bool.false_or, Bool.true_or, Bool.and_true, Bool.and_false, Bool.true_and, Bool.false_and, reduceCtorEq, String.reduceEq, beq_self_eq_true, String.reduceBEq, at0, at1, at2, at3, Int.reduceEq, true_and, and_true, sizeLine, Nat.reducePow, Nat.reduceLeDiff, Nat.reduceLT, Int.natCast_add, Int.cast_ofNat_Int, Int.reduceLT, Int.reduceLE]
          exact push (t := .cell x) (ρ' := []) (N := fun _ _ => True) J5 K5 (by show 1 ≤ 5; omega) (fun k h => hx k (List.mem_singleton.mp h).symm)
        · try simp only [dNewD, dDput, putDk, dExtend, dLock, dKeysI, rDin, rDget, dictD, keyD, dTupRg, dIndexF, dOrT, dAndT, dSeqA, dCont, dRet, dRetN, dSeq, dIfS, dDrop, dSet, gNm, dNext, dAndV, dOrV, dNotV, dAnd, dOr, dNot, dIf, dTru, dBool, dOp, dVar, dC, dCa, dCons, dNil, dTup, dLst, dFrz, frzD, dSl, dNo, dPart, slD, dNeg, dChain, rIsD, rEqS, eqS, DL.rInD, inD, eqF_str, flatD_str, flatD_int, rTypeD, tyD, rLenD, lenD, DL.rIxD, rIntD, rAddD, rTupleD, DL.rListD, rAllD, itemsD, itemsL, rToInt, isD, DL.isNon, isBl, startD, endsOf, dLc, dSeqT, dSeqL, dZip, dRev, dRng1, dFor, dListEnum, wipeD, gTp, gsCons, gsNil, rKdIx, rKdIn, gob, truD, dPop, dAppend, List.isEmpty_cons, List.isEmpty_nil, cut_to1, cut_from1, cut_init, List.drop_one, List.tail_cons, List.take_succ_cons, List.take_zero, bools_true, all_true, mset_same, mset_mset, List.map_cons, List.map_nil, List.length_cons, List.length_nil, List.replicate, List.cons_append, List.nil_append, List.append_nil, List.getElem?_cons_zero, List.getElem?_cons_succ, List.getElem?_nil, Nat.reduceAdd, Nat.reduceSub, List.set_cons_zero, List.set_cons_succ, decide_true, decide_false, if_true, if_false, Bool.false_eq_true, Bool.true_eq_false, Bool.not_true, Bool.not_false, List.any_cons, List.any_nil, List.all_cons, List.all_nil, Bool.or_false, Bool.or_true, Bool.false_or, Bool.true_or, Bool.and_true, Bool.and_false, Bool.true_and, Bool.false_and, reduceCtorEq, String.reduceEq, beq_self_eq_true, String.reduceBEq, at0, at1, at2, at3, Int.reduceEq, true_and, and_true, sizeLine, Nat.reducePow, Nat.reduceLeDiff, Nat.reduceLT, Int.natCast_add, Int.cast_ofNat_Int, Int.reduceLT, Int.reduceLE]
          try rw [if_neg (by simp; omega)]
          refine drawn_in (m := 3) rfl (by decide) (by decide) J5 K5 fun r μ6 lr J6 K6 _ => ?_
          try simp only [dNewD, dDput, putDk, dExtend, dLock, dKeysI, rDin, rDget, dictD, keyD, dTupRg, dIndexF, dOrT, dAndT, dSeqA, dCont, dRet, dRetN, dSeq, dIfS, dDrop, dSet, gNm, dNext, dAndV, dOrV, dNotV, dAnd, dOr, dNot, dIf, dTru, dBool, dOp, dVar, dC, dCa, dCons, dNil, dTup, dLst, dFrz, frzD, dSl, dNo, dPart, slD, dNeg, dChain, rIsD, rEqS, eqS, DL.rInD, inD, eqF_str, flatD_str, flatD_int, rTypeD, tyD, rLenD, lenD, DL.rIxD, rIntD, rAddD, rTupleD, DL.rListD, rAllD, itemsD, itemsL, rToInt, isD, DL.isNon, isBl, startD, endsOf, dLc, dSeqT, dSeqL, dZip, dRev, dRng1, dFor, dListEnum, wipeD, gTp, gsCons, gsNil, rKdIx, rKdIn, gob, truD, dPop, dAppend, List.isEmpty_cons, List.isEmpty_nil, cut_to1, cut_from1, cut_init, List.drop_one, List.tail_cons, List.take_succ_cons, List.take_zero, bools_true, all_true, mset_same, mset_mset, List.map_cons, List.map_nil, List.length_cons, List.length_nil, List.replicate, List.cons_append, List.nil_append, List.append_nil, List.getElem?_cons_zero, List.getElem?_cons_succ, List.getElem?_nil, Nat.reduceAdd, Nat.reduceSub, List.set_cons_zero, List.set_cons_succ, decide_true, decide_false, if_true, if_false, Bool.false_eq_true, Bool.true_eq_false, Bool.not_true, Bool.not_false, List.any_cons, List.any_nil, List.all_cons, List.all_nil, Bool.or_false, Bool.or_true, Bool.false_or, Bool.true_or, Bool.and_true, Bool.and_false, Bool.true_and, Bool.false_and, reduceCtorEq, String.reduceEq, beq_self_eq_true, String.reduceBEq, at0, at1, at2, at3, Int.reduceEq, true_and, and_true, sizeLine, Nat.reducePow, Nat.reduceLeDiff, Nat.reduceLT, Int.natCast_add, Int.cast_ofNat_Int, Int.reduceLT, Int.reduceLE]
          exact push (t := .tag (r : Nat) x) (ρ' := []) (N := fun _ _ => True) J6 K6 (by show 1 ≤ 5; omega) (fun k h => hx k (List.mem_singleton.mp h).symm)
    · rintro ρ μ' ⟨ts, x3, x4, x5, x6, x7, x8, rfl, et, J, K, hl, _, ht⟩
      exact hN _ _ ⟨ts, x3, x4, x5, x6, x7, x8, rfl, et, J, K, hl, ht⟩
    · unfold rngD at hd
      obtain ⟨n, _, rfl⟩ := List.mem_map.mp hd
      exact ⟨n, by rw [Int.zero_add]⟩
  rintro ρ' μ3 ⟨ts, x3, x4, x5, x6, x7, x8, rfl, et, J3, K3, hl, ht⟩
  refine q_by (fun d μ' => ∃ (pr : Addr) (ws : List Wo), d = .ob pr ∧ μ' pr = some (.lst (ws.map woD)) ∧ pr ≠ p ∧ ws.length ≤ 16 ∧ (∀ k, .pl k ∈ ws → k < m) ∧ Jr p μ' ∧ Kp [p] μ3 μ') (fun k hk => ?_) ?_
  · simp only [dNewD, dDput, putDk, dExtend, dLock, dKeysI, rDin, rDget, dictD, keyD, dTupRg, dIndexF, dOrT, dAndT, dSeqA, dCont, dRet, dRetN, dSeq, dIfS, dDrop, dSet, gNm, dNext, dAndV, dOrV, dNotV, dAnd, dOr, dNot, dIf, dTru, dBool, dOp, dVar, dC, dCa, dCons, dNil, dTup, dLst, dFrz, frzD, dSl, dNo, dPart, slD, dNeg, dChain, rIsD, rEqS, eqS, DL.rInD, inD, eqF_str, flatD_str, flatD_int, rTypeD, tyD, rLenD, lenD, DL.rIxD, rIntD, rAddD, rTupleD, DL.rListD, rAllD, itemsD, itemsL, rToInt, isD, DL.isNon, isBl, startD, endsOf, dLc, dSeqT, dSeqL, dZip, dRev, dRng1, dFor, dListEnum, wipeD, gTp, gsCons, gsNil, rKdIx, rKdIn, gob, truD, dPop, dAppend, List.isEmpty_cons, List.isEmpty_nil, cut_to1, cut_from1, cut_init, List.drop_one, List.tail_cons, List.take_succ_cons, List.take_zero, bools_true, all_true, mset_same, mset_mset, List.map_cons, List.map_nil, List.length_cons, List.length_nil, List.replicate, List.cons_append, List.nil_append, List.append_nil, List.getElem?_cons_zero, List.getElem?_cons_succ, List.getElem?_nil, Nat.reduceAdd, Nat.reduceSub, List.set_cons_zero, List.set_cons_succ, decide_true, decide_false, if_true, if_false, Bool.false_eq_true, Bool.true_eq_false, Bool.not_true, Bool.not_false, List.any_cons, List.any_nil, List.all_cons, List.all_nil, Bool.or_false, Bool.or_true, Bool.false_or, Bool.true_or, Bool.and_true, Bool.and_false, Bool.true_and, Bool.false_and, reduceCtorEq, String.reduceEq, beq_self_eq_true, String.reduceBEq, at0, at1, at2, at3, Int.reduceEq, true_and, and_true, sizeLine, Nat.reducePow, Nat.reduceLeDiff, Nat.reduceLT, Int.natCast_add, Int.cast_ofNat_Int, Int.reduceLT, Int.reduceLE]
    refine drawn_in (m := 16) rfl (by decide) (by decide) J3 Kp.refl fun r μ4 lr J4 K4 _ => ?_
    refine ⟨by omega, fun pr hpr => ?_⟩
    have nr : pr ≠ p := fun z => by rw [z] at hpr; obtain ⟨a, b, h, _⟩ := J4; rw [h] at hpr; cases hpr
    have nr' : pr ∉ [p] := fun z => nr (List.mem_singleton.mp z)
    have er : (1 + (r : Int)).toNat = 1 + r := by omega
    rw [er]
    refine Rs.lc (R := jarR p) (μ := μ4) 0 nr' hpr (fun d => ∃ n : Nat, d = .int (n : Nat)) (fun d => ∃ x, d = woD x ∧ ∀ k, x = .pl k → k < m) (fun i μ5 N k hi hok hK hkk => ?_) _ [] 0 _ (fun d hd => ?_) (Rs.new (R := jarR p) (N := 0) J4 hpr) (Kp.refl.new hpr) mset_same (by rw [len_rng]; show 0 + _ ≤ 2 ^ 24; omega) ?_
    · obtain ⟨n, rfl⟩ := hi
      simp only [dNewD, dDput, putDk, dExtend, dLock, dKeysI, rDin, rDget, dictD, keyD, dTupRg, dIndexF, dOrT, dAndT, dSeqA, dCont, dRet, dRetN, dSeq, dIfS, dDrop, dSet, gNm, dNext, dAndV, dOrV, dNotV, dAnd, dOr, dNot, dIf, dTru, dBool, dOp, dVar, dC, dCa, dCons, dNil, dTup, dLst, dFrz, frzD, dSl, dNo, dPart, slD, dNeg, dChain, rIsD, rEqS, eqS, DL.rInD, inD, eqF_str, flatD_str, flatD_int, rTypeD, tyD, rLenD, lenD, DL.rIxD, rIntD, rAddD, rTupleD, DL.rListD, rAllD, itemsD, itemsL, rToInt, isD, DL.isNon, isBl, startD, endsOf, dLc, dSeqT, dSeqL, dZip, dRev, dRng1, dFor, dListEnum, wipeD, gTp, gsCons, gsNil, rKdIx, rKdIn, gob, truD, dPop, dAppend, List.isEmpty_cons, List.isEmpty_nil, cut_to1, cut_from1, cut_init, List.drop_one, List.tail_cons, List.take_succ_cons, List.take_zero, bools_true, all_true, mset_same, mset_mset, List.map_cons, List.map_nil, List.length_cons, List.length_nil, List.replicate, List.cons_append, List.nil_append, List.append_nil, List.getElem?_cons_zero, List.getElem?_cons_succ, List.getElem?_nil, Nat.reduceAdd, Nat.reduceSub, List.set_cons_zero, List.set_cons_succ, decide_true, decide_false, if_true, if_false, Bool.false_eq_true, Bool.true_eq_false, Bool.not_true, Bool.not_false, List.any_cons, List.any_nil, List.all_cons, List.all_nil, Bool.or_false, Bool.or_true, Bool.false_or, Bool.true_or, Bool.and_true, Bool.and_false, Bool.true_and, Bool.false_and, reduceCtorEq, String.reduceEq, beq_self_eq_true, String.reduceBEq, at0, at1, at2, at3, Int.reduceEq, true_and, and_true, sizeLine, Nat.reducePow, Nat.reduceLeDiff, Nat.reduceLT, Int.natCast_add, Int.cast_ofNat_Int, Int.reduceLT, Int.reduceLE]
      refine drawn_in (m := 4) rfl (by decide) (by decide) hok hK fun r2 μ6 l2 J6 K6 g6 => ?_
      by_cases c : r2 = 0
      · subst c
        simp only [dNewD, dDput, putDk, dExtend, dLock, dKeysI, rDin, rDget, dictD, keyD, dTupRg, dIndexF, dOrT, dAndT, dSeqA, dCont, dRet, dRetN, dSeq, dIfS, dDrop, dSet, gNm, dNext, dAndV, dOrV, dNotV, dAnd, dOr, dNot, dIf, dTru, dBool, dOp, dVar, dC, dCa, dCons, dNil, dTup, dLst, dFrz, frzD, dSl, dNo, dPart, slD, dNeg, dChain, rIsD, rEqS, eqS, DL.rInD, inD, eqF_str, flatD_str, flatD_int, rTypeD, tyD, rLenD, lenD, DL.rIxD, rIntD, rAddD, rTupleD, DL.rListD, rAllD, itemsD, itemsL, rToInt, isD, DL.isNon, isBl, startD, endsOf, dLc, dSeqT, dSeqL, dZip, dRev, dRng1, dFor, dListEnum, wipeD, gTp, gsCons, gsNil, rKdIx, rKdIn, gob, truD, dPop, dAppend, List.isEmpty_cons, List.isEmpty_nil, cut_to1, cut_from1, cut_init, List.drop_one, List.tail_cons, List.take_succ_cons, List.take_zero, bools_true, all_true, mset_same, mset_mset, List.map_cons, List.map_nil, List.length_cons, List.length_nil, List.replicate, List.cons_append, List.nil_append, List.append_nil, List.getElem?_cons_zero, List.getElem?_cons_succ, List.getElem?_nil, Nat.reduceAdd, Nat.reduceSub, List.set_cons_zero, List.set_cons_succ, decide_true, decide_false, if_true, if_false, Bool.false_eq_true, Bool.true_eq_false, Bool.not_true, Bool.not_false, List.any_cons, List.any_nil, List.all_cons, List.all_nil, Bool.or_false, Bool.or_true, Bool.false_or, Bool.true_or, Bool.and_true, Bool.and_false, Bool.true_and, Bool.false_and, reduceCtorEq, String.reduceEq, beq_self_eq_true, String.reduceBEq, at0, at1, at2, at3, Int.reduceEq, true_and, and_true, sizeLine, Nat.reducePow, Nat.reduceLeDiff, Nat.reduceLT, Int.natCast_add, Int.cast_ofNat_Int, Int.reduceLT, Int.reduceLE]
        refine worth_in rfl rfl (by omega) J6 K6 fun x μ7 hx J7 K7 g7 => ?_
        exact hkk _ _ ⟨x, rfl, hx⟩ J7 K7 (by rw [g7 pr nr, g6 pr nr])
      · simp only [dNewD, dDput, putDk, dExtend, dLock, dKeysI, rDin, rDget, dictD, keyD, dTupRg, dIndexF, dOrT, dAndT, dSeqA, dCont, dRet, dRetN, dSeq, dIfS, dDrop, dSet, gNm, dNext, dAndV, dOrV, dNotV, dAnd, dOr, dNot, dIf, dTru, dBool, dOp, dVar, dC, dCa, dCons, dNil, dTup, dLst, dFrz, frzD, dSl, dNo, dPart, slD, dNeg, dChain, rIsD, rEqS, eqS, DL.rInD, inD, eqF_str, flatD_str, flatD_int, rTypeD, tyD, rLenD, lenD, DL.rIxD, rIntD, rAddD, rTupleD, DL.rListD, rAllD, itemsD, itemsL, rToInt, isD, DL.isNon, isBl, startD, endsOf, dLc, dSeqT, dSeqL, dZip, dRev, dRng1, dFor, dListEnum, wipeD, gTp, gsCons, gsNil, rKdIx, rKdIn, gob, truD, dPop, dAppend, List.isEmpty_cons, List.isEmpty_nil, cut_to1, cut_from1, cut_init, List.drop_one, List.tail_cons, List.take_succ_cons, List.take_zero, bools_true, all_true, mset_same, mset_mset, List.map_cons, List.map_nil, List.length_cons, List.length_nil, List.replicate, List.cons_append, List.nil_append, List.append_nil, List.getElem?_cons_zero, List.getElem?_cons_succ, List.getElem?_nil, Nat.reduceAdd, Nat.reduceSub, List.set_cons_zero, List.set_cons_succ, decide_true, decide_false, if_true, if_false, Bool.false_eq_true, Bool.true_eq_false, Bool.not_true, Bool.not_false, List.any_cons, List.any_nil, List.all_cons, List.all_nil, Bool.or_false, Bool.or_true, Bool.false_or, Bool.true_or, Bool.and_true, Bool.and_false, Bool.true_and, Bool.false_and, reduceCtorEq, String.reduceEq, beq_self_eq_true, String.reduceBEq, at0, at1, at2, at3, Int.reduceEq, true_and, and_true, sizeLine, Nat.reducePow, Nat.reduceLeDiff, Nat.reduceLT, Int.natCast_add, Int.cast_ofNat_Int, Int.reduceLT, Int.reduceLE]
        rw [if_neg (by simpa using c)]
        exact hkk _ _ ⟨.non, rfl, fun k e => nomatch e⟩ J6 K6 (g6 pr nr)
    · unfold rngD at hd
      obtain ⟨n, _, rfl⟩ := List.mem_map.mp hd
      exact ⟨n, by rw [Int.zero_add]⟩
    · intro ds μ5 h1 h2 h3 h4 h5
      obtain ⟨ws, rfl, hw⟩ := wos_of h1
      rw [List.length_map, len_rng] at h2
      exact hk _ _ ⟨pr, ws, rfl, h5, nr, by omega, hw, h3, K4.trans h4⟩
  rintro d μ4 ⟨pr, ws, rfl, er, nr, lw, hw, J4, K4⟩
  have et4 : μ4 pt = some (.lst (ts.map thD)) := K4 pt _ (fun z => npt (List.mem_singleton.mp z)) et
  simp only [dNewD, dDput, putDk, dExtend, dLock, dKeysI, rDin, rDget, dictD, keyD, dTupRg, dIndexF, dOrT, dAndT, dSeqA, dCont, dRet, dRetN, dSeq, dIfS, dDrop, dSet, gNm, dNext, dAndV, dOrV, dNotV, dAnd, dOr, dNot, dIf, dTru, dBool, dOp, dVar, dC, dCa, dCons, dNil, dTup, dLst, dFrz, frzD, dSl, dNo, dPart, slD, dNeg, dChain, rIsD, rEqS, eqS, DL.rInD, inD, eqF_str, flatD_str, flatD_int, rTypeD, tyD, rLenD, lenD, DL.rIxD, rIntD, rAddD, rTupleD, DL.rListD, rAllD, itemsD, itemsL, rToInt, isD, DL.isNon, isBl, startD, endsOf, dLc, dSeqT, dSeqL, dZip, dRev, dRng1, dFor, dListEnum, wipeD, gTp, gsCons, gsNil, rKdIx, rKdIn, gob, truD, dPop, dAppend, List.isEmpty_cons, List.isEmpty_nil, cut_to1, cut_from1, cut_init, List.drop_one, List.tail_cons, List.take_succ_cons, List.take_zero, bools_true, all_true, mset_same, mset_mset, List.map_cons, List.map_nil, List.length_cons, List.length_nil, List.replicate, List.cons_append, List.nil_append, List.append_nil, List.getElem?_cons_zero, List.getElem?_cons_succ, List.getElem?_nil, Nat.reduceAdd, Nat.reduceSub, List.set_cons_zero, List.set_cons_succ, decide_true, decide_false, if_true, if_false, Bool.false_eq_true, Bool.true_eq_false, Bool.not_true, Bool.not_false, List.any_cons, List.any_nil, List.all_cons, List.all_nil, Bool.or_false, Bool.or_true, Bool.false_or, Bool.true_or, Bool.and_true, Bool.and_false, Bool.true_and, Bool.false_and, reduceCtorEq, String.reduceEq, beq_self_eq_true, String.reduceBEq, at0, at1, at2, at3, Int.reduceEq, true_and, and_true, sizeLine, Nat.reducePow, Nat.reduceLeDiff, Nat.reduceLT, Int.natCast_add, Int.cast_ofNat_Int, Int.reduceLT, Int.reduceLE]
  simp only [er, et4]
  try simp only [dNewD, dDput, putDk, dExtend, dLock, dKeysI, rDin, rDget, dictD, keyD, dTupRg, dIndexF, dOrT, dAndT, dSeqA, dCont, dRet, dRetN, dSeq, dIfS, dDrop, dSet, gNm, dNext, dAndV, dOrV, dNotV, dAnd, dOr, dNot, dIf, dTru, dBool, dOp, dVar, dC, dCa, dCons, dNil, dTup, dLst, dFrz, frzD, dSl, dNo, dPart, slD, dNeg, dChain, rIsD, rEqS, eqS, DL.rInD, inD, eqF_str, flatD_str, flatD_int, rTypeD, tyD, rLenD, lenD, DL.rIxD, rIntD, rAddD, rTupleD, DL.rListD, rAllD, itemsD, itemsL, rToInt, isD, DL.isNon, isBl, startD, endsOf, dLc, dSeqT, dSeqL, dZip, dRev, dRng1, dFor, dListEnum, wipeD, gTp, gsCons, gsNil, rKdIx, rKdIn, gob, truD, dPop, dAppend, List.isEmpty_cons, List.isEmpty_nil, cut_to1, cut_from1, cut_init, List.drop_one, List.tail_cons, List.take_succ_cons, List.take_zero, bools_true, all_true, mset_same, mset_mset, List.map_cons, List.map_nil, List.length_cons, List.length_nil, List.replicate, List.cons_append, List.nil_append, List.append_nil, List.getElem?_cons_zero, List.getElem?_cons_succ, List.getElem?_nil, Nat.reduceAdd, Nat.reduceSub, List.set_cons_zero, List.set_cons_succ, decide_true, decide_false, if_true, if_false, Bool.false_eq_true, Bool.true_eq_false, Bool.not_true, Bool.not_false, List.any_cons, List.any_nil, List.all_cons, List.all_nil, Bool.or_false, Bool.or_true, Bool.false_or, Bool.true_or, Bool.and_true, Bool.and_false, Bool.true_and, Bool.false_and, reduceCtorEq, String.reduceEq, beq_self_eq_true, String.reduceBEq, at0, at1, at2, at3, Int.reduceEq, true_and, and_true, sizeLine, Nat.reducePow, Nat.reduceLeDiff, Nat.reduceLT, Int.natCast_add, Int.cast_ofNat_Int, Int.reduceLT, Int.reduceLE]
  refine drawn_in (m := 9) rfl (by decide) (by decide) J4 (K3.trans K4) fun r5 μ5 l5 J5 K5 _ => ?_
  try simp only [dNewD, dDput, putDk, dExtend, dLock, dKeysI, rDin, rDget, dictD, keyD, dTupRg, dIndexF, dOrT, dAndT, dSeqA, dCont, dRet, dRetN, dSeq, dIfS, dDrop, dSet, gNm, dNext, dAndV, dOrV, dNotV, dAnd, dOr, dNot, dIf, dTru, dBool, dOp, dVar, dC, dCa, dCons, dNil, dTup, dLst, dFrz, frzD, dSl, dNo, dPart, slD, dNeg, dChain, rIsD, rEqS, eqS, DL.rInD, inD, eqF_str, flatD_str, flatD_int, rTypeD, tyD, rLenD, lenD, DL.rIxD, rIntD, rAddD, rTupleD, DL.rListD, rAllD, itemsD, itemsL, rToInt, isD, DL.isNon, isBl, startD, endsOf, dLc, dSeqT, dSeqL, dZip, dRev, dRng1, dFor, dListEnum, wipeD, gTp, gsCons, gsNil, rKdIx, rKdIn, gob, truD, dPop, dAppend, List.isEmpty_cons, List.isEmpty_nil, cut_to1, cut_from1, cut_init, List.drop_one, List.tail_cons, List.take_succ_cons, List.take_zero, bools_true, all_true, mset_same, mset_mset, List.map_cons, List.map_nil, List.length_cons, List.length_nil, List.replicate, List.cons_append, List.nil_append, List.append_nil, List.getElem?_cons_zero, List.getElem?_cons_succ, List.getElem?_nil, Nat.reduceAdd, Nat.reduceSub, List.set_cons_zero, List.set_cons_succ, decide_true, decide_false, if_true, if_false, Bool.false_eq_true, Bool.true_eq_false, Bool.not_true, Bool.not_false, List.any_cons, List.any_nil, List.all_cons, List.all_nil, Bool.or_false, Bool.or_true, Bool.false_or, Bool.true_or, Bool.and_true, Bool.and_false, Bool.true_and, Bool.false_and, reduceCtorEq, String.reduceEq, beq_self_eq_true, String.reduceBEq, at0, at1, at2, at3, Int.reduceEq, true_and, and_true, sizeLine, Nat.reducePow, Nat.reduceLeDiff, Nat.reduceLT, Int.natCast_add, Int.cast_ofNat_Int, Int.reduceLT, Int.reduceLE]
  refine drawn_in (m := 9) rfl (by decide) (by decide) J5 K5 fun r6 μ6 l6 J6 K6 _ => ?_
  try simp only [dNewD, dDput, putDk, dExtend, dLock, dKeysI, rDin, rDget, dictD, keyD, dTupRg, dIndexF, dOrT, dAndT, dSeqA, dCont, dRet, dRetN, dSeq, dIfS, dDrop, dSet, gNm, dNext, dAndV, dOrV, dNotV, dAnd, dOr, dNot, dIf, dTru, dBool, dOp, dVar, dC, dCa, dCons, dNil, dTup, dLst, dFrz, frzD, dSl, dNo, dPart, slD, dNeg, dChain, rIsD, rEqS, eqS, DL.rInD, inD, eqF_str, flatD_str, flatD_int, rTypeD, tyD, rLenD, lenD, DL.rIxD, rIntD, rAddD, rTupleD, DL.rListD, rAllD, itemsD, itemsL, rToInt, isD, DL.isNon, isBl, startD, endsOf, dLc, dSeqT, dSeqL, dZip, dRev, dRng1, dFor, dListEnum, wipeD, gTp, gsCons, gsNil, rKdIx, rKdIn, gob, truD, dPop, dAppend, List.isEmpty_cons, List.isEmpty_nil, cut_to1, cut_from1, cut_init, List.drop_one, List.tail_cons, List.take_succ_cons, List.take_zero, bools_true, all_true, mset_same, mset_mset, List.map_cons, List.map_nil, List.length_cons, List.length_nil, List.replicate, List.cons_append, List.nil_append, List.append_nil, List.getElem?_cons_zero, List.getElem?_cons_succ, List.getElem?_nil, Nat.reduceAdd, Nat.reduceSub, List.set_cons_zero, List.set_cons_succ, decide_true, decide_false, if_true, if_false, Bool.false_eq_true, Bool.true_eq_false, Bool.not_true, Bool.not_false, List.any_cons, List.any_nil, List.all_cons, List.all_nil, Bool.or_false, Bool.or_true, Bool.false_or, Bool.true_or, Bool.and_true, Bool.and_false, Bool.true_and, Bool.false_and, reduceCtorEq, String.reduceEq, beq_self_eq_true, String.reduceBEq, at0, at1, at2, at3, Int.reduceEq, true_and, and_true, sizeLine, Nat.reducePow, Nat.reduceLeDiff, Nat.reduceLT, Int.natCast_add, Int.cast_ofNat_Int, Int.reduceLT, Int.reduceLE]
  exact fin (x := ⟨ws, ts, r5, r6⟩) ⟨fun k h => by show _ < ts.length; rw [hl]; exact hw k h, fun t h k hk => by show _ < ts.length; rw [hl]; exact (ht t h).2 k hk, lw, by show ts.length ≤ 300; omega, fun t h => (ht t h).1⟩ J6 K6
end
end VB
end K70

set_option Elab.async false
set_option linter.all false
set_option maxRecDepth 100000
set_option maxHeartbeats 4000000
namespace K70
open PySem PySem.Spec PyProof.Rows L2 NdefX LamX DL
namespace VB
theorem sc_law : FnScope ["script", "chain", "first", "state", "cell", "jar", "due", "k"] ["script"] (defScope s_law) := ⟨rfl, rfl, rfl, by decide +kernel, rfl, by decide +kernel, by decide +kernel⟩
section
variable {P : Program} {w : World} {K : PySem.W.Frag} {mg : Str → Option Value} {base : Heap} {f : Addr} {fd : FuncData}
theorem pl_up : ∀ (n : Nat) (d : D), Pl n d → Pl (n + 1) d := fun n => by
  induction n with
  | zero => intro d h; cases d <;> first | exact h.elim | trivial
  | succ n ih =>
    intro d h
    cases d <;> first | exact h.elim | trivial | exact ⟨h.1, fun d hd => ih d (h.2 d hd)⟩
theorem pl_tup {n : Nat} {ds : List D} (h1 : ds.length ≤ 1000000) (h2 : ∀ d ∈ ds, Pl n d) : Pl (n + 1) (.tup ds) := ⟨h1, h2⟩
theorem pl_lst {n : Nat} {ds : List D} (h1 : ds.length ≤ 1000000) (h2 : ∀ d ∈ ds, Pl n d) : Pl (n + 1) (.lst ds) := ⟨h1, h2⟩
theorem pl_wo (x : Wo) : Pl 1 (woD x) := by
  cases x with
  | non => trivial
  | _ =>
    refine pl_tup (by simp) fun d hd => ?_
    rcases List.mem_cons.mp hd with rfl | hd
    · trivial
    · rw [List.mem_singleton.mp hd]; trivial
theorem pl_wos {ws : List Wo} (h : ws.length ≤ 1000000) : Pl 2 (.tup (ws.map woD)) := pl_tup (by rw [List.length_map]; exact h) fun d hd => by
  obtain ⟨x, _, rfl⟩ := List.mem_map.mp hd
  exact pl_wo x
theorem pl_th {t : Th} (h : t.ws.length ≤ 5) : Pl 3 (thD t) := by
  cases t with
  | room ws =>
    refine pl_tup (by simp) fun d hd => ?_
    rcases List.mem_cons.mp hd with rfl | hd
    · trivial
    · rw [List.mem_singleton.mp hd]; exact pl_wos (Nat.le_trans h (by decide))
  | cell x =>
    refine pl_tup (by simp) fun d hd => ?_
    rcases List.mem_cons.mp hd with rfl | hd
    · trivial
    · rw [List.mem_singleton.mp hd]; exact pl_up _ _ (pl_wo x)
  | tag i x =>
    refine pl_tup (by simp) fun d hd => ?_
    rcases List.mem_cons.mp hd with rfl | hd
    · trivial
    · rcases List.mem_cons.mp hd with rfl | hd
      · trivial
      · rw [List.mem_singleton.mp hd]; exact pl_up _ _ (pl_wo x)
theorem pl_st {s : Sta} (R : Right s) : Pl 5 (stD s) := by
  refine pl_tup (by simp) fun d hd => ?_
  rcases List.mem_cons.mp hd with rfl | hd
  · exact pl_up _ _ (pl_up _ _ (pl_wos (Nat.le_trans R.few (by decide))))
  · rcases List.mem_cons.mp hd with rfl | hd
    · refine pl_tup (by rw [List.length_map]; exact Nat.le_trans R.small (by decide)) fun d hd => ?_
      obtain ⟨t, ht, rfl⟩ := List.mem_map.mp hd
      exact pl_th (R.rooms t ht)
    · rcases List.mem_cons.mp hd with rfl | hd
      · trivial
      · rw [List.mem_singleton.mp hd]; trivial
theorem pl_iN {l : List Nat} (h : l.length ≤ 300) : Pl 5 (.tup (iN l)) := pl_tup (by rw [List.length_map, List.length_map]; omega) fun d hd => by
  obtain ⟨x, _, rfl⟩ := List.mem_map.mp hd
  trivial
theorem same_at {d : D} {μ : Mu} {Q : DK} (h : Pl 6 d) (q : Q (.bl true) μ) : sp_same 10 [d, d] μ Q := ⟨d, rfl, pl_up _ _ (pl_up _ _ (pl_up _ _ h)), q⟩
/-- the chain of 300 things -/
def chain : List Th := ((List.range 299).map fun k => .cell (.pl (k + 1))) ++ [.room [.non, .pl 7]]
def stA (first : Nat) : Sta := ⟨[.non, .pl first, .int 3], chain, 2, 1⟩
theorem chain_len : chain.length = 300 := by unfold chain; rw [List.length_append, List.length_map, List.length_range]; rfl
theorem right_A {first : Nat} (h : first < 300) : Right (stA first) := by
  refine ⟨fun k m => ?_, fun t m k mk => ?_, by show 3 ≤ 16; decide, by show chain.length ≤ 300; rw [chain_len]; decide, fun t m => ?_⟩
  · show k < chain.length
    rw [chain_len]
    have m : Wo.pl k ∈ [Wo.non, .pl first, .int 3] := m
    simp at m
    omega
  · show k < chain.length
    rw [chain_len]
    rcases List.mem_append.mp m with m | m
    · obtain ⟨j, hj, rfl⟩ := List.mem_map.mp m
      have mk : Wo.pl k ∈ [Wo.pl (j + 1)] := mk
      have := List.mem_range.mp hj
      simp at mk
      omega
    · rw [List.mem_singleton.mp m] at mk
      have mk : Wo.pl k ∈ [Wo.non, .pl 7] := mk
      simp at mk
      omega
  · rcases List.mem_append.mp m with m | m
    · obtain ⟨j, hj, rfl⟩ := List.mem_map.mp m
      show 1 ≤ 5
      decide
    · rw [List.mem_singleton.mp m]
      show 2 ≤ 5
      decide
def sp_law : RLD := fun ds μ Q => ∃ ns : List Int, ds = [.lst (ns.map .int)] ∧ ns.length ≤ 63 ∧ Q (.bl true) μ
theorem ok_law (B : NoG mg) {a1 a2 a3 a4 a5 a6 a7 : Addr} {d1 d2 d3 d4 d5 d6 d7 : FuncData} (F : Fun K "law" "law" s_law f fd) (Greached : Gt P w K mg base 3 "reached" ["state"] sp_reached a1 d1) (Ggone : Gt P w K mg base 4 "gone" ["state"] sp_gone a2 d2)
    (Glaw_same : Gt P w K mg base 10 "_law_same" ["found", "due"] (sp_same 10) a3 d3) (Glaw_reached : Gt P w K mg base 2 "_law_reached" ["state"] sp_lr a4 d4) (Glaw_gone : Gt P w K mg base 3 "_law_gone" ["state"] sp_gone a5 d5) (Glaw_jar : Gt P w K mg base 1 "_law_jar" ["cell"] sp_jar a6 d6) (Glaw_state : Gt P w K mg base 3 "_law_state" ["jar"] sp_state a7 d7) :
    FnOk P w K mg base CX0 11 f fd ["script"] (spUp K sp_law) := by
  refine okD F sc_law (fun ds μ Q ⟨ns, e, _⟩ => by rw [e]; rfl) fun cdv A outer s H E hr => ⟨_, (ds_cons (d_set 1 sc_law.nd (d_op o_add (d_callTy c_tuple rfl B.tuple rfl (da_cons (d_lc rfl sc_law.nd (di_range1 rfl B.range (da_cons d_int da_nil)) (blk_ok2 (N := ["script", "chain", "first", "state", "cell", "jar", "due", "k"]) (sc := defScope s_law) (own := [("k", 7)]) (by rfl) (by decide +kernel) (by decide +kernel) (by decide +kernel) (by decide +kernel)) (fun _ _ _ _ _ => (dg_name 7 sc_law.nd)) (fun _ _ _ _ _ => dts_nil) (fun _ _ _ _ _ => (d_tup (da_cons (d_str "cell" rfl) (da_cons (d_tup (da_cons (d_str "place" rfl) (da_cons (d_op o_add (d_var 7) d_int) da_nil))) da_nil))))) da_nil)) (d_tup (da_cons (d_tup (da_cons (d_str "room" rfl) (da_cons (d_tup (da_cons d_non (da_cons (d_tup (da_cons (d_str "place" rfl) (da_cons d_int da_nil))) da_nil))) da_nil))) da_nil))))
      (ds_cons (d_for PassesOwn.never rfl (di_tup (d_tup (da_cons d_int (da_cons d_int (da_cons d_int da_nil))))) (dg_name 2 (ws := [2]) sc_law.nd) (ds_cons (d_set 3 sc_law.nd (d_tup (da_cons (d_tup (da_cons d_non (da_cons (d_tup (da_cons (d_str "place" rfl) (da_cons (d_var 2) da_nil))) (da_cons (d_tup (da_cons (d_str "int" rfl) (da_cons d_int da_nil))) da_nil)))) (da_cons (d_var 1) (da_cons d_int (da_cons d_int da_nil))))))
      (ds_one (d_ifS (dt_not (dt_val (d_call Glaw_same.F Glaw_same.mono (hr.mono (by first | decide | omega)) Glaw_same.m Glaw_same.k Glaw_same.b (da_cons (d_frz (d_lst (da_cons (d_call Greached.F Greached.mono (hr.mono (by first | decide | omega)) Greached.m Greached.k Greached.b (da_cons (d_var 3) da_nil)) (da_cons (d_call Ggone.F Ggone.mono (hr.mono (by first | decide | omega)) Ggone.m Ggone.k Ggone.b (da_cons (d_var 3) da_nil)) da_nil)))) (da_cons (d_frz (d_lst (da_cons (d_callTy c_tuple rfl B.tuple rfl (da_cons (d_call Glaw_reached.F Glaw_reached.mono (hr.mono (by first | decide | omega)) Glaw_reached.m Glaw_reached.k Glaw_reached.b (da_cons (d_var 3) da_nil)) da_nil)) (da_cons (d_call Glaw_gone.F Glaw_gone.mono (hr.mono (by first | decide | omega)) Glaw_gone.m Glaw_gone.k Glaw_gone.b (da_cons (d_var 3) da_nil)) da_nil)))) da_nil))))) (ds_one (d_ret d_bl)) ds_nil))))
      (ds_cons (d_for PassesOwn.never rfl (di_list (d_frz (d_op o_add (d_lst (da_cons d_int da_nil)) (d_slice (d_var 0) dno (dpart d_int))))) (dg_name 4 (ws := [4]) sc_law.nd) (ds_cons (d_set 5 sc_law.nd (d_call Glaw_jar.F Glaw_jar.mono (hr.mono (by first | decide | omega)) Glaw_jar.m Glaw_jar.k Glaw_jar.b (da_cons (d_var 4) da_nil)))
      (ds_cons (d_set 3 sc_law.nd (d_call Glaw_state.F Glaw_state.mono (hr.mono (by first | decide | omega)) Glaw_state.m Glaw_state.k Glaw_state.b (da_cons (d_var 5) da_nil)))
      (ds_cons (d_set 6 sc_law.nd (d_call Glaw_gone.F Glaw_gone.mono (hr.mono (by first | decide | omega)) Glaw_gone.m Glaw_gone.k Glaw_gone.b (da_cons (d_var 3) da_nil)))
      (ds_cons (d_ifS (dt_not (dt_val (d_call Glaw_same.F Glaw_same.mono (hr.mono (by first | decide | omega)) Glaw_same.m Glaw_same.k Glaw_same.b (da_cons (d_frz (d_lst (da_cons (d_call Greached.F Greached.mono (hr.mono (by first | decide | omega)) Greached.m Greached.k Greached.b (da_cons (d_var 3) da_nil)) (da_cons (d_call Ggone.F Ggone.mono (hr.mono (by first | decide | omega)) Ggone.m Ggone.k Ggone.b (da_cons (d_var 3) da_nil)) (da_cons (d_call Ggone.F Ggone.mono (hr.mono (by first | decide | omega)) Ggone.m Ggone.k Ggone.b (da_cons (d_call Ggone.F Ggone.mono (hr.mono (by first | decide | omega)) Ggone.m Ggone.k Ggone.b (da_cons (d_var 3) da_nil)) da_nil)) da_nil))))) (da_cons (d_frz (d_lst (da_cons (d_callTy c_tuple rfl B.tuple rfl (da_cons (d_call Glaw_reached.F Glaw_reached.mono (hr.mono (by first | decide | omega)) Glaw_reached.m Glaw_reached.k Glaw_reached.b (da_cons (d_var 3) da_nil)) da_nil)) (da_cons (d_var 6) (da_cons (d_var 6) da_nil))))) da_nil))))) (ds_one (d_ret d_bl)) ds_nil)
      (ds_one (d_ifS (dt_not (dt_val (d_call Glaw_same.F Glaw_same.mono (hr.mono (by first | decide | omega)) Glaw_same.m Glaw_same.k Glaw_same.b (da_cons (d_call Greached.F Greached.mono (hr.mono (by first | decide | omega)) Greached.m Greached.k Greached.b (da_cons (d_var 6) da_nil)) (da_cons (d_tupRg rfl B.tuple rfl B.range (d_callB c_len rfl B.len rfl (da_cons (d_ix ix_ok (d_var 6) d_int) da_nil))) da_nil))))) (ds_one (d_ret d_bl)) ds_nil)))))))
      (ds_one (d_ret d_bl))))), ?_⟩
  rintro ds μ Q ⟨ns, rfl, hl, q⟩
  refine q_by (fun d μ' => Sub μ μ' ∧ d = .tup (chain.map thD)) (fun k hk => ?_) ?_
  · simp only [dNewD, dDput, putDk, dExtend, dLock, dKeysI, rDin, rDget, dictD, keyD, dTupRg, dIndexF, dOrT, dAndT, dSeqA, dCont, dRet, dRetN, dSeq, dIfS, dDrop, dSet, gNm, dNext, dAndV, dOrV, dNotV, dAnd, dOr, dNot, dIf, dTru, dBool, dOp, dVar, dC, dCa, dCons, dNil, dTup, dLst, dFrz, frzD, dSl, dNo, dPart, slD, dNeg, dChain, rIsD, rEqS, eqS, DL.rInD, inD, eqF_str, flatD_str, flatD_int, rTypeD, tyD, rLenD, lenD, DL.rIxD, rIntD, rAddD, rTupleD, DL.rListD, rAllD, itemsD, itemsL, rToInt, isD, DL.isNon, isBl, startD, endsOf, dLc, dSeqT, dSeqL, dZip, dRev, dRng1, dFor, dListEnum, wipeD, gTp, gsCons, gsNil, rKdIx, rKdIn, gob, truD, dPop, dAppend, List.isEmpty_cons, List.isEmpty_nil, cut_to1, cut_from1, cut_init, List.drop_one, List.tail_cons, List.take_succ_cons, List.take_zero, bools_true, all_true, mset_same, mset_mset, List.map_cons, List.map_nil, List.length_cons, List.length_nil, List.replicate, List.cons_append, List.nil_append, List.append_nil, List.getElem?_cons_zero, List.getElem?_cons_succ, List.getElem?_nil, Nat.reduceAdd, Nat.reduceSub, List.set_cons_zero, List.set_cons_succ, decide_true, decide_false, if_true, if_false, Bool.false_eq_true, Bool.true_eq_false, Bool.not_true, Bool.not_false, List.any_cons, List.any_nil, List.all_cons, List.all_nil, Bool.or_false, Bool.or_true, Bool.false_or, Bool.true_or, Bool.and_true, Bool.and_false, Bool.true_and, Bool.false_and, reduceCtorEq, String.reduceEq, beq_self_eq_true, String.reduceBEq, at0, at1, at2, at3, Int.reduceEq, true_and, and_true, sizeLine, Nat.reducePow, Nat.reduceLeDiff, Nat.reduceLT, Int.natCast_add, Int.cast_ofNat_Int, Int.reduceLT, Int.reduceLE]
    refine ⟨by decide, fun p hp => ?_⟩
    rw [show rngD 0 (Int.toNat 299) = (List.range 299).map fun (i : Nat) => D.int (0 + (i : Int)) from rfl]
    refine lc_mapA (fun (i : Nat) => D.int (0 + (i : Int))) (fun (k : Nat) => thD (.cell (.pl (k + 1)))) (List.range 299) [] _ mset_same (by rw [List.length_range]; show 0 + _ ≤ 2 ^ 24; decide) (fun i m acc kk hkk => ?_) ?_
    · rw [mset_mset] at hkk
      simp only [dNewD, dDput, putDk, dExtend, dLock, dKeysI, rDin, rDget, dictD, keyD, dTupRg, dIndexF, dOrT, dAndT, dSeqA, dCont, dRet, dRetN, dSeq, dIfS, dDrop, dSet, gNm, dNext, dAndV, dOrV, dNotV, dAnd, dOr, dNot, dIf, dTru, dBool, dOp, dVar, dC, dCa, dCons, dNil, dTup, dLst, dFrz, frzD, dSl, dNo, dPart, slD, dNeg, dChain, rIsD, rEqS, eqS, DL.rInD, inD, eqF_str, flatD_str, flatD_int, rTypeD, tyD, rLenD, lenD, DL.rIxD, rIntD, rAddD, rTupleD, DL.rListD, rAllD, itemsD, itemsL, rToInt, isD, DL.isNon, isBl, startD, endsOf, dLc, dSeqT, dSeqL, dZip, dRev, dRng1, dFor, dListEnum, wipeD, gTp, gsCons, gsNil, rKdIx, rKdIn, gob, truD, dPop, dAppend, List.isEmpty_cons, List.isEmpty_nil, cut_to1, cut_from1, cut_init, List.drop_one, List.tail_cons, List.take_succ_cons, List.take_zero, bools_true, all_true, mset_same, mset_mset, List.map_cons, List.map_nil, List.length_cons, List.length_nil, List.replicate, List.cons_append, List.nil_append, List.append_nil, List.getElem?_cons_zero, List.getElem?_cons_succ, List.getElem?_nil, Nat.reduceAdd, Nat.reduceSub, List.set_cons_zero, List.set_cons_succ, decide_true, decide_false, if_true, if_false, Bool.false_eq_true, Bool.true_eq_false, Bool.not_true, Bool.not_false, List.any_cons, List.any_nil, List.all_cons, List.all_nil, Bool.or_false, Bool.or_true, Bool.false_or, Bool.true_or, Bool.and_true, Bool.and_false, Bool.true_and, Bool.false_and, reduceCtorEq, String.reduceEq, beq_self_eq_true, String.reduceBEq, at0, at1, at2, at3, Int.reduceEq, true_and, and_true, sizeLine, Nat.reducePow, Nat.reduceLeDiff, Nat.reduceLT, Int.natCast_add, Int.cast_ofNat_Int, Int.reduceLT, Int.reduceLE]
      rw [Int.zero_add]
      exact hkk
    · simp only [dNewD, dDput, putDk, dExtend, dLock, dKeysI, rDin, rDget, dictD, keyD, dTupRg, dIndexF, dOrT, dAndT, dSeqA, dCont, dRet, dRetN, dSeq, dIfS, dDrop, dSet, gNm, dNext, dAndV, dOrV, dNotV, dAnd, dOr, dNot, dIf, dTru, dBool, dOp, dVar, dC, dCa, dCons, dNil, dTup, dLst, dFrz, frzD, dSl, dNo, dPart, slD, dNeg, dChain, rIsD, rEqS, eqS, DL.rInD, inD, eqF_str, flatD_str, flatD_int, rTypeD, tyD, rLenD, lenD, DL.rIxD, rIntD, rAddD, rTupleD, DL.rListD, rAllD, itemsD, itemsL, rToInt, isD, DL.isNon, isBl, startD, endsOf, dLc, dSeqT, dSeqL, dZip, dRev, dRng1, dFor, dListEnum, wipeD, gTp, gsCons, gsNil, rKdIx, rKdIn, gob, truD, dPop, dAppend, List.isEmpty_cons, List.isEmpty_nil, cut_to1, cut_from1, cut_init, List.drop_one, List.tail_cons, List.take_succ_cons, List.take_zero, bools_true, all_true, mset_same, mset_mset, List.map_cons, List.map_nil, List.length_cons, List.length_nil, List.replicate, List.cons_append, List.nil_append, List.append_nil, List.getElem?_cons_zero, List.getElem?_cons_succ, List.getElem?_nil, Nat.reduceAdd, Nat.reduceSub, List.set_cons_zero, List.set_cons_succ, decide_true, decide_false, if_true, if_false, Bool.false_eq_true, Bool.true_eq_false, Bool.not_true, Bool.not_false, List.any_cons, List.any_nil, List.all_cons, List.all_nil, Bool.or_false, Bool.or_true, Bool.false_or, Bool.true_or, Bool.and_true, Bool.and_false, Bool.true_and, Bool.false_and, reduceCtorEq, String.reduceEq, beq_self_eq_true, String.reduceBEq, at0, at1, at2, at3, Int.reduceEq, true_and, and_true, sizeLine, Nat.reducePow, Nat.reduceLeDiff, Nat.reduceLT, Int.natCast_add, Int.cast_ofNat_Int, Int.reduceLT, Int.reduceLE]
      refine ⟨by rw [List.length_map, List.length_range]; decide, hk _ _ ⟨sub_mset hp Sub.refl, ?_⟩⟩
      unfold chain
      rw [List.map_append, List.map_map]
      rfl
  rintro d μ1 ⟨S1, rfl⟩
  refine q_stmt (fun ρ' μ' => Sub μ μ' ∧ ∃ (x y : Option D), ρ' = [some (.lst (ns.map .int)), some (.tup (chain.map thD)), x, y, none, none, none, none]) (fun NX hN => ?_) ?_
  · simp only [dNewD, dDput, putDk, dExtend, dLock, dKeysI, rDin, rDget, dictD, keyD, dTupRg, dIndexF, dOrT, dAndT, dSeqA, dCont, dRet, dRetN, dSeq, dIfS, dDrop, dSet, gNm, dNext, dAndV, dOrV, dNotV, dAnd, dOr, dNot, dIf, dTru, dBool, dOp, dVar, dC, dCa, dCons, dNil, dTup, dLst, dFrz, frzD, dSl, dNo, dPart, slD, dNeg, dChain, rIsD, rEqS, eqS, DL.rInD, inD, eqF_str, flatD_str, flatD_int, rTypeD, tyD, rLenD, lenD, DL.rIxD, rIntD, rAddD, rTupleD, DL.rListD, rAllD, itemsD, itemsL, rToInt, isD, DL.isNon, isBl, startD, endsOf, dLc, dSeqT, dSeqL, dZip, dRev, dRng1, dFor, dListEnum, wipeD, gTp, gsCons, gsNil, rKdIx, rKdIn, gob, truD, dPop, dAppend, List.isEmpty_cons, List.isEmpty_nil, cut_to1, cut_from1, cut_init, List.drop_one, List.tail_cons, List.take_succ_cons, List.take_zero, bools_true, all_true, mset_same, mset_mset, List.map_cons, List.map_nil, List.length_cons, List.length_nil, List.replicate, List.cons_append, List.nil_append, List.append_nil, List.getElem?_cons_zero, List.getElem?_cons_succ, List.getElem?_nil, Nat.reduceAdd, Nat.reduceSub, List.set_cons_zero, List.set_cons_succ, decide_true, decide_false, if_true, if_false, Bool.false_eq_true, Bool.true_eq_false, Bool.not_true, Bool.not_false, List.any_cons, List.any_nil, List.all_cons, List.all_nil, Bool.or_false, Bool.or_true, Bool.false_or, Bool.true_or, Bool.and_true, Bool.and_false, Bool.true_and, Bool.false_and, reduceCtorEq, String.reduceEq, beq_self_eq_true, String.reduceBEq, at0, at1, at2, at3, Int.reduceEq, true_and, and_true, sizeLine, Nat.reducePow, Nat.reduceLeDiff, Nat.reduceLT, Int.natCast_add, Int.cast_ofNat_Int, Int.reduceLT, Int.reduceLE]
    refine loop_rem (fun rem ρ μ' => (∀ d ∈ rem, ∃ n : Nat, n < 300 ∧ d = .int (n : Nat)) ∧ Sub μ μ' ∧ ∃ (x y : Option D), ρ = [some (.lst (ns.map .int)), some (.tup (chain.map thD)), x, y, none, none, none, none]) ?_ ?_ _ _ _ ⟨fun d hd => ?_, S1, _, _, rfl⟩
    · rintro d rem ρ μ2 NX2 ⟨hr, S2, x, y, rfl⟩ hnx
      obtain ⟨n, hn, rfl⟩ := hr d List.mem_cons_self
      have R := right_A hn
      have es : D.tup [.tup [.non, .tup [.str "place", .int (n : Nat)], .tup [.str "int", .int 3]], .tup (chain.map thD), .int 2, .int 1] = stD (stA n) := rfl
      simp only [dNewD, dDput, putDk, dExtend, dLock, dKeysI, rDin, rDget, dictD, keyD, dTupRg, dIndexF, dOrT, dAndT, dSeqA, dCont, dRet, dRetN, dSeq, dIfS, dDrop, dSet, gNm, dNext, dAndV, dOrV, dNotV, dAnd, dOr, dNot, dIf, dTru, dBool, dOp, dVar, dC, dCa, dCons, dNil, dTup, dLst, dFrz, frzD, dSl, dNo, dPart, slD, dNeg, dChain, rIsD, rEqS, eqS, DL.rInD, inD, eqF_str, flatD_str, flatD_int, rTypeD, tyD, rLenD, lenD, DL.rIxD, rIntD, rAddD, rTupleD, DL.rListD, rAllD, itemsD, itemsL, rToInt, isD, DL.isNon, isBl, startD, endsOf, dLc, dSeqT, dSeqL, dZip, dRev, dRng1, dFor, dListEnum, wipeD, gTp, gsCons, gsNil, rKdIx, rKdIn, gob, truD, dPop, dAppend, List.isEmpty_cons, List.isEmpty_nil, cut_to1, cut_from1, cut_init, List.drop_one, List.tail_cons, List.take_succ_cons, List.take_zero, bools_true, all_true, mset_same, mset_mset, List.map_cons, List.map_nil, List.length_cons, List.length_nil, List.replicate, List.cons_append, List.nil_append, List.append_nil, List.getElem?_cons_zero, List.getElem?_cons_succ, List.getElem?_nil, Nat.reduceAdd, Nat.reduceSub, List.set_cons_zero, List.set_cons_succ, decide_true, decide_false, if_true, if_false, Bool.false_eq_true, Bool.true_eq_false, Bool.not_true, Bool.not_false, List.any_cons, List.any_nil, List.all_cons, List.all_nil, Bool.or_false, Bool.or_true, Bool.false_or, Bool.true_or, Bool.and_true, Bool.and_false, Bool.true_and, Bool.false_and, reduceCtorEq, String.reduceEq, beq_self_eq_true, String.reduceBEq, at0, at1, at2, at3, Int.reduceEq, true_and, and_true, sizeLine, Nat.reducePow, Nat.reduceLeDiff, Nat.reduceLT, Int.natCast_add, Int.cast_ofNat_Int, Int.reduceLT, Int.reduceLE]
      rw [es]
      refine ⟨_, rfl, R, ?_⟩
      try simp only [dNewD, dDput, putDk, dExtend, dLock, dKeysI, rDin, rDget, dictD, keyD, dTupRg, dIndexF, dOrT, dAndT, dSeqA, dCont, dRet, dRetN, dSeq, dIfS, dDrop, dSet, gNm, dNext, dAndV, dOrV, dNotV, dAnd, dOr, dNot, dIf, dTru, dBool, dOp, dVar, dC, dCa, dCons, dNil, dTup, dLst, dFrz, frzD, dSl, dNo, dPart, slD, dNeg, dChain, rIsD, rEqS, eqS, DL.rInD, inD, eqF_str, flatD_str, flatD_int, rTypeD, tyD, rLenD, lenD, DL.rIxD, rIntD, rAddD, rTupleD, DL.rListD, rAllD, itemsD, itemsL, rToInt, isD, DL.isNon, isBl, startD, endsOf, dLc, dSeqT, dSeqL, dZip, dRev, dRng1, dFor, dListEnum, wipeD, gTp, gsCons, gsNil, rKdIx, rKdIn, gob, truD, dPop, dAppend, List.isEmpty_cons, List.isEmpty_nil, cut_to1, cut_from1, cut_init, List.drop_one, List.tail_cons, List.take_succ_cons, List.take_zero, bools_true, all_true, mset_same, mset_mset, List.map_cons, List.map_nil, List.length_cons, List.length_nil, List.replicate, List.cons_append, List.nil_append, List.append_nil, List.getElem?_cons_zero, List.getElem?_cons_succ, List.getElem?_nil, Nat.reduceAdd, Nat.reduceSub, List.set_cons_zero, List.set_cons_succ, decide_true, decide_false, if_true, if_false, Bool.false_eq_true, Bool.true_eq_false, Bool.not_true, Bool.not_false, List.any_cons, List.any_nil, List.all_cons, List.all_nil, Bool.or_false, Bool.or_true, Bool.false_or, Bool.true_or, Bool.and_true, Bool.and_false, Bool.true_and, Bool.false_and, reduceCtorEq, String.reduceEq, beq_self_eq_true, String.reduceBEq, at0, at1, at2, at3, Int.reduceEq, true_and, and_true, sizeLine, Nat.reducePow, Nat.reduceLeDiff, Nat.reduceLT, Int.natCast_add, Int.cast_ofNat_Int, Int.reduceLT, Int.reduceLE]
      refine ⟨_, rfl, R, ?_⟩
      try simp only [dNewD, dDput, putDk, dExtend, dLock, dKeysI, rDin, rDget, dictD, keyD, dTupRg, dIndexF, dOrT, dAndT, dSeqA, dCont, dRet, dRetN, dSeq, dIfS, dDrop, dSet, gNm, dNext, dAndV, dOrV, dNotV, dAnd, dOr, dNot, dIf, dTru, dBool, dOp, dVar, dC, dCa, dCons, dNil, dTup, dLst, dFrz, frzD, dSl, dNo, dPart, slD, dNeg, dChain, rIsD, rEqS, eqS, DL.rInD, inD, eqF_str, flatD_str, flatD_int, rTypeD, tyD, rLenD, lenD, DL.rIxD, rIntD, rAddD, rTupleD, DL.rListD, rAllD, itemsD, itemsL, rToInt, isD, DL.isNon, isBl, startD, endsOf, dLc, dSeqT, dSeqL, dZip, dRev, dRng1, dFor, dListEnum, wipeD, gTp, gsCons, gsNil, rKdIx, rKdIn, gob, truD, dPop, dAppend, List.isEmpty_cons, List.isEmpty_nil, cut_to1, cut_from1, cut_init, List.drop_one, List.tail_cons, List.take_succ_cons, List.take_zero, bools_true, all_true, mset_same, mset_mset, List.map_cons, List.map_nil, List.length_cons, List.length_nil, List.replicate, List.cons_append, List.nil_append, List.append_nil, List.getElem?_cons_zero, List.getElem?_cons_succ, List.getElem?_nil, Nat.reduceAdd, Nat.reduceSub, List.set_cons_zero, List.set_cons_succ, decide_true, decide_false, if_true, if_false, Bool.false_eq_true, Bool.true_eq_false, Bool.not_true, Bool.not_false, List.any_cons, List.any_nil, List.all_cons, List.all_nil, Bool.or_false, Bool.or_true, Bool.false_or, Bool.true_or, Bool.and_true, Bool.and_false, Bool.true_and, Bool.false_and, reduceCtorEq, String.reduceEq, beq_self_eq_true, String.reduceBEq, at0, at1, at2, at3, Int.reduceEq, true_and, and_true, sizeLine, Nat.reducePow, Nat.reduceLeDiff, Nat.reduceLT, Int.natCast_add, Int.cast_ofNat_Int, Int.reduceLT, Int.reduceLE]
      intro p3 hp3
      rw [mdel_mset hp3]
      refine ⟨_, rfl, R, fun p4 hp4 => ?_⟩
      try simp only [dNewD, dDput, putDk, dExtend, dLock, dKeysI, rDin, rDget, dictD, keyD, dTupRg, dIndexF, dOrT, dAndT, dSeqA, dCont, dRet, dRetN, dSeq, dIfS, dDrop, dSet, gNm, dNext, dAndV, dOrV, dNotV, dAnd, dOr, dNot, dIf, dTru, dBool, dOp, dVar, dC, dCa, dCons, dNil, dTup, dLst, dFrz, frzD, dSl, dNo, dPart, slD, dNeg, dChain, rIsD, rEqS, eqS, DL.rInD, inD, eqF_str, flatD_str, flatD_int, rTypeD, tyD, rLenD, lenD, DL.rIxD, rIntD, rAddD, rTupleD, DL.rListD, rAllD, itemsD, itemsL, rToInt, isD, DL.isNon, isBl, startD, endsOf, dLc, dSeqT, dSeqL, dZip, dRev, dRng1, dFor, dListEnum, wipeD, gTp, gsCons, gsNil, rKdIx, rKdIn, gob, truD, dPop, dAppend, List.isEmpty_cons, List.isEmpty_nil, cut_to1, cut_from1, cut_init, List.drop_one, List.tail_cons, List.take_succ_cons, List.take_zero, bools_true, all_true, mset_same, mset_mset, List.map_cons, List.map_nil, List.length_cons, List.length_nil, List.replicate, List.cons_append, List.nil_append, List.append_nil, List.getElem?_cons_zero, List.getElem?_cons_succ, List.getElem?_nil, Nat.reduceAdd, Nat.reduceSub, List.set_cons_zero, List.set_cons_succ, decide_true, decide_false, if_true, if_false, Bool.false_eq_true, Bool.true_eq_false, Bool.not_true, Bool.not_false, List.any_cons, List.any_nil, List.all_cons, List.all_nil, Bool.or_false, Bool.or_true, Bool.false_or, Bool.true_or, Bool.and_true, Bool.and_false, Bool.true_and, Bool.false_and, reduceCtorEq, String.reduceEq, beq_self_eq_true, String.reduceBEq, at0, at1, at2, at3, Int.reduceEq, true_and, and_true, sizeLine, Nat.reducePow, Nat.reduceLeDiff, Nat.reduceLT, Int.natCast_add, Int.cast_ofNat_Int, Int.reduceLT, Int.reduceLE]
      refine ⟨_, rfl, R, ?_⟩
      try simp only [dNewD, dDput, putDk, dExtend, dLock, dKeysI, rDin, rDget, dictD, keyD, dTupRg, dIndexF, dOrT, dAndT, dSeqA, dCont, dRet, dRetN, dSeq, dIfS, dDrop, dSet, gNm, dNext, dAndV, dOrV, dNotV, dAnd, dOr, dNot, dIf, dTru, dBool, dOp, dVar, dC, dCa, dCons, dNil, dTup, dLst, dFrz, frzD, dSl, dNo, dPart, slD, dNeg, dChain, rIsD, rEqS, eqS, DL.rInD, inD, eqF_str, flatD_str, flatD_int, rTypeD, tyD, rLenD, lenD, DL.rIxD, rIntD, rAddD, rTupleD, DL.rListD, rAllD, itemsD, itemsL, rToInt, isD, DL.isNon, isBl, startD, endsOf, dLc, dSeqT, dSeqL, dZip, dRev, dRng1, dFor, dListEnum, wipeD, gTp, gsCons, gsNil, rKdIx, rKdIn, gob, truD, dPop, dAppend, List.isEmpty_cons, List.isEmpty_nil, cut_to1, cut_from1, cut_init, List.drop_one, List.tail_cons, List.take_succ_cons, List.take_zero, bools_true, all_true, mset_same, mset_mset, List.map_cons, List.map_nil, List.length_cons, List.length_nil, List.replicate, List.cons_append, List.nil_append, List.append_nil, List.getElem?_cons_zero, List.getElem?_cons_succ, List.getElem?_nil, Nat.reduceAdd, Nat.reduceSub, List.set_cons_zero, List.set_cons_succ, decide_true, decide_false, if_true, if_false, Bool.false_eq_true, Bool.true_eq_false, Bool.not_true, Bool.not_false, List.any_cons, List.any_nil, List.all_cons, List.all_nil, Bool.or_false, Bool.or_true, Bool.false_or, Bool.true_or, Bool.and_true, Bool.and_false, Bool.true_and, Bool.false_and, reduceCtorEq, String.reduceEq, beq_self_eq_true, String.reduceBEq, at0, at1, at2, at3, Int.reduceEq, true_and, and_true, sizeLine, Nat.reducePow, Nat.reduceLeDiff, Nat.reduceLT, Int.natCast_add, Int.cast_ofNat_Int, Int.reduceLT, Int.reduceLE]
      intro p5 hp5
      rw [mdel_mset hp5]
      refine same_at (pl_lst (by simp) fun d hd => ?_) ?_
      · rcases List.mem_cons.mp hd with rfl | hd
        · exact pl_iN (Nat.le_trans (rcl_len _) R.small)
        · rw [List.mem_singleton.mp hd]; exact pl_st (gn_right R)
      · try simp only [dNewD, dDput, putDk, dExtend, dLock, dKeysI, rDin, rDget, dictD, keyD, dTupRg, dIndexF, dOrT, dAndT, dSeqA, dCont, dRet, dRetN, dSeq, dIfS, dDrop, dSet, gNm, dNext, dAndV, dOrV, dNotV, dAnd, dOr, dNot, dIf, dTru, dBool, dOp, dVar, dC, dCa, dCons, dNil, dTup, dLst, dFrz, frzD, dSl, dNo, dPart, slD, dNeg, dChain, rIsD, rEqS, eqS, DL.rInD, inD, eqF_str, flatD_str, flatD_int, rTypeD, tyD, rLenD, lenD, DL.rIxD, rIntD, rAddD, rTupleD, DL.rListD, rAllD, itemsD, itemsL, rToInt, isD, DL.isNon, isBl, startD, endsOf, dLc, dSeqT, dSeqL, dZip, dRev, dRng1, dFor, dListEnum, wipeD, gTp, gsCons, gsNil, rKdIx, rKdIn, gob, truD, dPop, dAppend, List.isEmpty_cons, List.isEmpty_nil, cut_to1, cut_from1, cut_init, List.drop_one, List.tail_cons, List.take_succ_cons, List.take_zero, bools_true, all_true, mset_same, mset_mset, List.map_cons, List.map_nil, List.length_cons, List.length_nil, List.replicate, List.cons_append, List.nil_append, List.append_nil, List.getElem?_cons_zero, List.getElem?_cons_succ, List.getElem?_nil, Nat.reduceAdd, Nat.reduceSub, List.set_cons_zero, List.set_cons_succ, decide_true, decide_false, if_true, if_false, Bool.false_eq_true, Bool.true_eq_false, Bool.not_true, Bool.not_false, List.any_cons, List.any_nil, List.all_cons, List.all_nil, Bool.or_false, Bool.or_true, Bool.false_or, Bool.true_or, Bool.and_true, Bool.and_false, Bool.true_and, Bool.false_and, reduceCtorEq, String.reduceEq, beq_self_eq_true, String.reduceBEq, at0, at1, at2, at3, Int.reduceEq, true_and, and_true, sizeLine, Nat.reducePow, Nat.reduceLeDiff, Nat.reduceLT, Int.natCast_add, Int.cast_ofNat_Int, Int.reduceLT, Int.reduceLE]
        exact hnx _ _ ⟨fun d hd => hr d (List.mem_cons_of_mem _ hd), sub_mset (none_of S2 hp4) S2, _, _, rfl⟩
    · rintro ρ μ' ⟨_, S, x, y, rfl⟩
      exact hN _ _ ⟨S, x, y, rfl⟩
    · simp only [List.mem_cons, List.mem_nil_iff, or_false] at hd
      rcases hd with rfl | rfl | rfl
      · exact ⟨0, by decide, rfl⟩
      · exact ⟨150, by decide, rfl⟩
      · exact ⟨299, by decide, rfl⟩
  rintro ρ' μ2 ⟨S2, x, y, rfl⟩
  simp only [dNewD, dDput, putDk, dExtend, dLock, dKeysI, rDin, rDget, dictD, keyD, dTupRg, dIndexF, dOrT, dAndT, dSeqA, dCont, dRet, dRetN, dSeq, dIfS, dDrop, dSet, gNm, dNext, dAndV, dOrV, dNotV, dAnd, dOr, dNot, dIf, dTru, dBool, dOp, dVar, dC, dCa, dCons, dNil, dTup, dLst, dFrz, frzD, dSl, dNo, dPart, slD, dNeg, dChain, rIsD, rEqS, eqS, DL.rInD, inD, eqF_str, flatD_str, flatD_int, rTypeD, tyD, rLenD, lenD, DL.rIxD, rIntD, rAddD, rTupleD, DL.rListD, rAllD, itemsD, itemsL, rToInt, isD, DL.isNon, isBl, startD, endsOf, dLc, dSeqT, dSeqL, dZip, dRev, dRng1, dFor, dListEnum, wipeD, gTp, gsCons, gsNil, rKdIx, rKdIn, gob, truD, dPop, dAppend, List.isEmpty_cons, List.isEmpty_nil, cut_to1, cut_from1, cut_init, List.drop_one, List.tail_cons, List.take_succ_cons, List.take_zero, bools_true, all_true, mset_same, mset_mset, List.map_cons, List.map_nil, List.length_cons, List.length_nil, List.replicate, List.cons_append, List.nil_append, List.append_nil, List.getElem?_cons_zero, List.getElem?_cons_succ, List.getElem?_nil, Nat.reduceAdd, Nat.reduceSub, List.set_cons_zero, List.set_cons_succ, decide_true, decide_false, if_true, if_false, Bool.false_eq_true, Bool.true_eq_false, Bool.not_true, Bool.not_false, List.any_cons, List.any_nil, List.all_cons, List.all_nil, Bool.or_false, Bool.or_true, Bool.false_or, Bool.true_or, Bool.and_true, Bool.and_false, Bool.true_and, Bool.false_and, reduceCtorEq, String.reduceEq, beq_self_eq_true, String.reduceBEq, at0, at1, at2, at3, Int.reduceEq, true_and, and_true, sizeLine, Nat.reducePow, Nat.reduceLeDiff, Nat.reduceLT, Int.natCast_add, Int.cast_ofNat_Int, Int.reduceLT, Int.reduceLE]
  intro p1 hp1 p2 hp2
  have ne : p1 ≠ p2 := fun z => by rw [← z, mset_same] at hp2; cases hp2
  have e1 : mset (mset μ2 p1 (MO.lst [D.int 61])) p2 (MO.lst (DL.cutD (ns.map D.int) none (some 8))) p1 = some (.lst [.int 61]) := by rw [mset_ne ne, mset_same]
  have e8 : DL.cutD (ns.map D.int) none (some 8) = (ns.map D.int).take 8 := cut_take _ 8
  simp only [e1]
  simp only [dNewD, dDput, putDk, dExtend, dLock, dKeysI, rDin, rDget, dictD, keyD, dTupRg, dIndexF, dOrT, dAndT, dSeqA, dCont, dRet, dRetN, dSeq, dIfS, dDrop, dSet, gNm, dNext, dAndV, dOrV, dNotV, dAnd, dOr, dNot, dIf, dTru, dBool, dOp, dVar, dC, dCa, dCons, dNil, dTup, dLst, dFrz, frzD, dSl, dNo, dPart, slD, dNeg, dChain, rIsD, rEqS, eqS, DL.rInD, inD, eqF_str, flatD_str, flatD_int, rTypeD, tyD, rLenD, lenD, DL.rIxD, rIntD, rAddD, rTupleD, DL.rListD, rAllD, itemsD, itemsL, rToInt, isD, DL.isNon, isBl, startD, endsOf, dLc, dSeqT, dSeqL, dZip, dRev, dRng1, dFor, dListEnum, wipeD, gTp, gsCons, gsNil, rKdIx, rKdIn, gob, truD, dPop, dAppend, List.isEmpty_cons, List.isEmpty_nil, cut_to1, cut_from1, cut_init, List.drop_one, List.tail_cons, List.take_succ_cons, List.take_zero, bools_true, all_true, mset_same, mset_mset, List.map_cons, List.map_nil, List.length_cons, List.length_nil, List.replicate, List.cons_append, List.nil_append, List.append_nil, List.getElem?_cons_zero, List.getElem?_cons_succ, List.getElem?_nil, Nat.reduceAdd, Nat.reduceSub, List.set_cons_zero, List.set_cons_succ, decide_true, decide_false, if_true, if_false, Bool.false_eq_true, Bool.true_eq_false, Bool.not_true, Bool.not_false, List.any_cons, List.any_nil, List.all_cons, List.all_nil, Bool.or_false, Bool.or_true, Bool.false_or, Bool.true_or, Bool.and_true, Bool.and_false, Bool.true_and, Bool.false_and, reduceCtorEq, String.reduceEq, beq_self_eq_true, String.reduceBEq, at0, at1, at2, at3, Int.reduceEq, true_and, and_true, sizeLine, Nat.reducePow, Nat.reduceLeDiff, Nat.reduceLT, Int.natCast_add, Int.cast_ofNat_Int, Int.reduceLT, Int.reduceLE]
  have S3 : Sub μ (mset (mset μ2 p1 (MO.lst [D.int 61])) p2 (MO.lst (DL.cutD (ns.map D.int) none (some 8)))) := by
    have h1 := none_of S2 hp1
    have h2 : μ2 p2 = none := by rw [mset_ne (Ne.symm ne)] at hp2; exact hp2
    exact sub_mset (none_of S2 h2) (sub_mset h1 S2)
  refine ⟨by rw [e8, List.length_take]; omega, fun p3 hp3 => ?_⟩
  rw [mdel_mset hp3]
  refine loop_rem (fun rem ρ μ' => (∀ d ∈ rem, ∃ c : Int, d = .int c) ∧ Sub μ μ' ∧ ∃ (x2 x3 x4 x5 x6 : Option D), ρ = [some (.lst (ns.map .int)), some (.tup (chain.map thD)), x2, x3, x4, x5, x6, none]) ?_ ?_ _ _ _ ⟨fun d hd => ?_, S3, _, _, _, _, _, rfl⟩
  · rintro d rem ρ μ4 NX2 ⟨hr, S4, x2, x3, x4, x5, x6, rfl⟩ hnx
    obtain ⟨c, rfl⟩ := hr d List.mem_cons_self
    change dSeq _ _ _ _ _
    refine q_by (fun d μ' => ∃ p, d = .ob p ∧ μ p = none ∧ Jr p μ' ∧ Sub μ μ') (fun k hk => ?_) ?_
    · simp only [dNewD, dDput, putDk, dExtend, dLock, dKeysI, rDin, rDget, dictD, keyD, dTupRg, dIndexF, dOrT, dAndT, dSeqA, dCont, dRet, dRetN, dSeq, dIfS, dDrop, dSet, gNm, dNext, dAndV, dOrV, dNotV, dAnd, dOr, dNot, dIf, dTru, dBool, dOp, dVar, dC, dCa, dCons, dNil, dTup, dLst, dFrz, frzD, dSl, dNo, dPart, slD, dNeg, dChain, rIsD, rEqS, eqS, DL.rInD, inD, eqF_str, flatD_str, flatD_int, rTypeD, tyD, rLenD, lenD, DL.rIxD, rIntD, rAddD, rTupleD, DL.rListD, rAllD, itemsD, itemsL, rToInt, isD, DL.isNon, isBl, startD, endsOf, dLc, dSeqT, dSeqL, dZip, dRev, dRng1, dFor, dListEnum, wipeD, gTp, gsCons, gsNil, rKdIx, rKdIn, gob, truD, dPop, dAppend, List.isEmpty_cons, List.isEmpty_nil, cut_to1, cut_from1, cut_init, List.drop_one, List.tail_cons, List.take_succ_cons, List.take_zero, bools_true, all_true, mset_same, mset_mset, List.map_cons, List.map_nil, List.length_cons, List.length_nil, List.replicate, List.cons_append, List.nil_append, List.append_nil, List.getElem?_cons_zero, List.getElem?_cons_succ, List.getElem?_nil, Nat.reduceAdd, Nat.reduceSub, List.set_cons_zero, List.set_cons_succ, decide_true, decide_false, if_true, if_false, Bool.false_eq_true, Bool.true_eq_false, Bool.not_true, Bool.not_false, List.any_cons, List.any_nil, List.all_cons, List.all_nil, Bool.or_false, Bool.or_true, Bool.false_or, Bool.true_or, Bool.and_true, Bool.and_false, Bool.true_and, Bool.false_and, reduceCtorEq, String.reduceEq, beq_self_eq_true, String.reduceBEq, at0, at1, at2, at3, Int.reduceEq, true_and, and_true, sizeLine, Nat.reducePow, Nat.reduceLeDiff, Nat.reduceLT, Int.natCast_add, Int.cast_ofNat_Int, Int.reduceLT, Int.reduceLE]
      exact ⟨c, rfl, fun p a b h0 h1 h2 => hk _ _ ⟨p, rfl, none_of S4 h0, ⟨a, b, mset_same, h1, h2⟩, sub_mset (none_of S4 h0) S4⟩⟩
    rintro d μ5 ⟨p, rfl, hp, J5, S5⟩
    refine q_by (fun d μ' => ∃ s, d = stD s ∧ Right s ∧ Sub μ μ') (fun k hk => ?_) ?_
    · simp only [dNewD, dDput, putDk, dExtend, dLock, dKeysI, rDin, rDget, dictD, keyD, dTupRg, dIndexF, dOrT, dAndT, dSeqA, dCont, dRet, dRetN, dSeq, dIfS, dDrop, dSet, gNm, dNext, dAndV, dOrV, dNotV, dAnd, dOr, dNot, dIf, dTru, dBool, dOp, dVar, dC, dCa, dCons, dNil, dTup, dLst, dFrz, frzD, dSl, dNo, dPart, slD, dNeg, dChain, rIsD, rEqS, eqS, DL.rInD, inD, eqF_str, flatD_str, flatD_int, rTypeD, tyD, rLenD, lenD, DL.rIxD, rIntD, rAddD, rTupleD, DL.rListD, rAllD, itemsD, itemsL, rToInt, isD, DL.isNon, isBl, startD, endsOf, dLc, dSeqT, dSeqL, dZip, dRev, dRng1, dFor, dListEnum, wipeD, gTp, gsCons, gsNil, rKdIx, rKdIn, gob, truD, dPop, dAppend, List.isEmpty_cons, List.isEmpty_nil, cut_to1, cut_from1, cut_init, List.drop_one, List.tail_cons, List.take_succ_cons, List.take_zero, bools_true, all_true, mset_same, mset_mset, List.map_cons, List.map_nil, List.length_cons, List.length_nil, List.replicate, List.cons_append, List.nil_append, List.append_nil, List.getElem?_cons_zero, List.getElem?_cons_succ, List.getElem?_nil, Nat.reduceAdd, Nat.reduceSub, List.set_cons_zero, List.set_cons_succ, decide_true, decide_false, if_true, if_false, Bool.false_eq_true, Bool.true_eq_false, Bool.not_true, Bool.not_false, List.any_cons, List.any_nil, List.all_cons, List.all_nil, Bool.or_false, Bool.or_true, Bool.false_or, Bool.true_or, Bool.and_true, Bool.and_false, Bool.true_and, Bool.false_and, reduceCtorEq, String.reduceEq, beq_self_eq_true, String.reduceBEq, at0, at1, at2, at3, Int.reduceEq, true_and, and_true, sizeLine, Nat.reducePow, Nat.reduceLeDiff, Nat.reduceLT, Int.natCast_add, Int.cast_ofNat_Int, Int.reduceLT, Int.reduceLE]
      exact ⟨p, rfl, J5, fun s μ' R _ g => hk _ _ ⟨s, rfl, R, fun x o e => by
        have nx : x ≠ p := fun z => by rw [z, hp] at e; cases e
        rw [g x nx]
        exact S5 x o e⟩⟩
    rintro d μ6 ⟨s, rfl, R, S6⟩
    have R2 := gn_right R
    refine q_by (fun d μ' => μ6 = μ' ∧ d = stD (gn s)) (fun k hk => ?_) ?_
    · simp only [dNewD, dDput, putDk, dExtend, dLock, dKeysI, rDin, rDget, dictD, keyD, dTupRg, dIndexF, dOrT, dAndT, dSeqA, dCont, dRet, dRetN, dSeq, dIfS, dDrop, dSet, gNm, dNext, dAndV, dOrV, dNotV, dAnd, dOr, dNot, dIf, dTru, dBool, dOp, dVar, dC, dCa, dCons, dNil, dTup, dLst, dFrz, frzD, dSl, dNo, dPart, slD, dNeg, dChain, rIsD, rEqS, eqS, DL.rInD, inD, eqF_str, flatD_str, flatD_int, rTypeD, tyD, rLenD, lenD, DL.rIxD, rIntD, rAddD, rTupleD, DL.rListD, rAllD, itemsD, itemsL, rToInt, isD, DL.isNon, isBl, startD, endsOf, dLc, dSeqT, dSeqL, dZip, dRev, dRng1, dFor, dListEnum, wipeD, gTp, gsCons, gsNil, rKdIx, rKdIn, gob, truD, dPop, dAppend, List.isEmpty_cons, List.isEmpty_nil, cut_to1, cut_from1, cut_init, List.drop_one, List.tail_cons, List.take_succ_cons, List.take_zero, bools_true, all_true, mset_same, mset_mset, List.map_cons, List.map_nil, List.length_cons, List.length_nil, List.replicate, List.cons_append, List.nil_append, List.append_nil, List.getElem?_cons_zero, List.getElem?_cons_succ, List.getElem?_nil, Nat.reduceAdd, Nat.reduceSub, List.set_cons_zero, List.set_cons_succ, decide_true, decide_false, if_true, if_false, Bool.false_eq_true, Bool.true_eq_false, Bool.not_true, Bool.not_false, List.any_cons, List.any_nil, List.all_cons, List.all_nil, Bool.or_false, Bool.or_true, Bool.false_or, Bool.true_or, Bool.and_true, Bool.and_false, Bool.true_and, Bool.false_and, reduceCtorEq, String.reduceEq, beq_self_eq_true, String.reduceBEq, at0, at1, at2, at3, Int.reduceEq, true_and, and_true, sizeLine, Nat.reducePow, Nat.reduceLeDiff, Nat.reduceLT, Int.natCast_add, Int.cast_ofNat_Int, Int.reduceLT, Int.reduceLE]
      exact ⟨s, rfl, R, hk _ _ ⟨rfl, rfl⟩⟩
    rintro d μ' ⟨rfl, rfl⟩
    refine q_skipby (fun μ' => Sub μ μ') (fun k hk => ?_) ?_
    · simp only [dNewD, dDput, putDk, dExtend, dLock, dKeysI, rDin, rDget, dictD, keyD, dTupRg, dIndexF, dOrT, dAndT, dSeqA, dCont, dRet, dRetN, dSeq, dIfS, dDrop, dSet, gNm, dNext, dAndV, dOrV, dNotV, dAnd, dOr, dNot, dIf, dTru, dBool, dOp, dVar, dC, dCa, dCons, dNil, dTup, dLst, dFrz, frzD, dSl, dNo, dPart, slD, dNeg, dChain, rIsD, rEqS, eqS, DL.rInD, inD, eqF_str, flatD_str, flatD_int, rTypeD, tyD, rLenD, lenD, DL.rIxD, rIntD, rAddD, rTupleD, DL.rListD, rAllD, itemsD, itemsL, rToInt, isD, DL.isNon, isBl, startD, endsOf, dLc, dSeqT, dSeqL, dZip, dRev, dRng1, dFor, dListEnum, wipeD, gTp, gsCons, gsNil, rKdIx, rKdIn, gob, truD, dPop, dAppend, List.isEmpty_cons, List.isEmpty_nil, cut_to1, cut_from1, cut_init, List.drop_one, List.tail_cons, List.take_succ_cons, List.take_zero, bools_true, all_true, mset_same, mset_mset, List.map_cons, List.map_nil, List.length_cons, List.length_nil, List.replicate, List.cons_append, List.nil_append, List.append_nil, List.getElem?_cons_zero, List.getElem?_cons_succ, List.getElem?_nil, Nat.reduceAdd, Nat.reduceSub, List.set_cons_zero, List.set_cons_succ, decide_true, decide_false, if_true, if_false, Bool.false_eq_true, Bool.true_eq_false, Bool.not_true, Bool.not_false, List.any_cons, List.any_nil, List.all_cons, List.all_nil, Bool.or_false, Bool.or_true, Bool.false_or, Bool.true_or, Bool.and_true, Bool.and_false, Bool.true_and, Bool.false_and, reduceCtorEq, String.reduceEq, beq_self_eq_true, String.reduceBEq, at0, at1, at2, at3, Int.reduceEq, true_and, and_true, sizeLine, Nat.reducePow, Nat.reduceLeDiff, Nat.reduceLT, Int.natCast_add, Int.cast_ofNat_Int, Int.reduceLT, Int.reduceLE]
      refine ⟨_, rfl, R, ?_⟩
      try simp only [dNewD, dDput, putDk, dExtend, dLock, dKeysI, rDin, rDget, dictD, keyD, dTupRg, dIndexF, dOrT, dAndT, dSeqA, dCont, dRet, dRetN, dSeq, dIfS, dDrop, dSet, gNm, dNext, dAndV, dOrV, dNotV, dAnd, dOr, dNot, dIf, dTru, dBool, dOp, dVar, dC, dCa, dCons, dNil, dTup, dLst, dFrz, frzD, dSl, dNo, dPart, slD, dNeg, dChain, rIsD, rEqS, eqS, DL.rInD, inD, eqF_str, flatD_str, flatD_int, rTypeD, tyD, rLenD, lenD, DL.rIxD, rIntD, rAddD, rTupleD, DL.rListD, rAllD, itemsD, itemsL, rToInt, isD, DL.isNon, isBl, startD, endsOf, dLc, dSeqT, dSeqL, dZip, dRev, dRng1, dFor, dListEnum, wipeD, gTp, gsCons, gsNil, rKdIx, rKdIn, gob, truD, dPop, dAppend, List.isEmpty_cons, List.isEmpty_nil, cut_to1, cut_from1, cut_init, List.drop_one, List.tail_cons, List.take_succ_cons, List.take_zero, bools_true, all_true, mset_same, mset_mset, List.map_cons, List.map_nil, List.length_cons, List.length_nil, List.replicate, List.cons_append, List.nil_append, List.append_nil, List.getElem?_cons_zero, List.getElem?_cons_succ, List.getElem?_nil, Nat.reduceAdd, Nat.reduceSub, List.set_cons_zero, List.set_cons_succ, decide_true, decide_false, if_true, if_false, Bool.false_eq_true, Bool.true_eq_false, Bool.not_true, Bool.not_false, List.any_cons, List.any_nil, List.all_cons, List.all_nil, Bool.or_false, Bool.or_true, Bool.false_or, Bool.true_or, Bool.and_true, Bool.and_false, Bool.true_and, Bool.false_and, reduceCtorEq, String.reduceEq, beq_self_eq_true, String.reduceBEq, at0, at1, at2, at3, Int.reduceEq, true_and, and_true, sizeLine, Nat.reducePow, Nat.reduceLeDiff, Nat.reduceLT, Int.natCast_add, Int.cast_ofNat_Int, Int.reduceLT, Int.reduceLE]
      refine ⟨_, rfl, R, ?_⟩
      try simp only [dNewD, dDput, putDk, dExtend, dLock, dKeysI, rDin, rDget, dictD, keyD, dTupRg, dIndexF, dOrT, dAndT, dSeqA, dCont, dRet, dRetN, dSeq, dIfS, dDrop, dSet, gNm, dNext, dAndV, dOrV, dNotV, dAnd, dOr, dNot, dIf, dTru, dBool, dOp, dVar, dC, dCa, dCons, dNil, dTup, dLst, dFrz, frzD, dSl, dNo, dPart, slD, dNeg, dChain, rIsD, rEqS, eqS, DL.rInD, inD, eqF_str, flatD_str, flatD_int, rTypeD, tyD, rLenD, lenD, DL.rIxD, rIntD, rAddD, rTupleD, DL.rListD, rAllD, itemsD, itemsL, rToInt, isD, DL.isNon, isBl, startD, endsOf, dLc, dSeqT, dSeqL, dZip, dRev, dRng1, dFor, dListEnum, wipeD, gTp, gsCons, gsNil, rKdIx, rKdIn, gob, truD, dPop, dAppend, List.isEmpty_cons, List.isEmpty_nil, cut_to1, cut_from1, cut_init, List.drop_one, List.tail_cons, List.take_succ_cons, List.take_zero, bools_true, all_true, mset_same, mset_mset, List.map_cons, List.map_nil, List.length_cons, List.length_nil, List.replicate, List.cons_append, List.nil_append, List.append_nil, List.getElem?_cons_zero, List.getElem?_cons_succ, List.getElem?_nil, Nat.reduceAdd, Nat.reduceSub, List.set_cons_zero, List.set_cons_succ, decide_true, decide_false, if_true, if_false, Bool.false_eq_true, Bool.true_eq_false, Bool.not_true, Bool.not_false, List.any_cons, List.any_nil, List.all_cons, List.all_nil, Bool.or_false, Bool.or_true, Bool.false_or, Bool.true_or, Bool.and_true, Bool.and_false, Bool.true_and, Bool.false_and, reduceCtorEq, String.reduceEq, beq_self_eq_true, String.reduceBEq, at0, at1, at2, at3, Int.reduceEq, true_and, and_true, sizeLine, Nat.reducePow, Nat.reduceLeDiff, Nat.reduceLT, Int.natCast_add, Int.cast_ofNat_Int, Int.reduceLT, Int.reduceLE]
      refine ⟨_, rfl, R, ?_⟩
      try simp only [dNewD, dDput, putDk, dExtend, dLock, dKeysI, rDin, rDget, dictD, keyD, dTupRg, dIndexF, dOrT, dAndT, dSeqA, dCont, dRet, dRetN, dSeq, dIfS, dDrop, dSet, gNm, dNext, dAndV, dOrV, dNotV, dAnd, dOr, dNot, dIf, dTru, dBool, dOp, dVar, dC, dCa, dCons, dNil, dTup, dLst, dFrz, frzD, dSl, dNo, dPart, slD, dNeg, dChain, rIsD, rEqS, eqS, DL.rInD, inD, eqF_str, flatD_str, flatD_int, rTypeD, tyD, rLenD, lenD, DL.rIxD, rIntD, rAddD, rTupleD, DL.rListD, rAllD, itemsD, itemsL, rToInt, isD, DL.isNon, isBl, startD, endsOf, dLc, dSeqT, dSeqL, dZip, dRev, dRng1, dFor, dListEnum, wipeD, gTp, gsCons, gsNil, rKdIx, rKdIn, gob, truD, dPop, dAppend, List.isEmpty_cons, List.isEmpty_nil, cut_to1, cut_from1, cut_init, List.drop_one, List.tail_cons, List.take_succ_cons, List.take_zero, bools_true, all_true, mset_same, mset_mset, List.map_cons, List.map_nil, List.length_cons, List.length_nil, List.replicate, List.cons_append, List.nil_append, List.append_nil, List.getElem?_cons_zero, List.getElem?_cons_succ, List.getElem?_nil, Nat.reduceAdd, Nat.reduceSub, List.set_cons_zero, List.set_cons_succ, decide_true, decide_false, if_true, if_false, Bool.false_eq_true, Bool.true_eq_false, Bool.not_true, Bool.not_false, List.any_cons, List.any_nil, List.all_cons, List.all_nil, Bool.or_false, Bool.or_true, Bool.false_or, Bool.true_or, Bool.and_true, Bool.and_false, Bool.true_and, Bool.false_and, reduceCtorEq, String.reduceEq, beq_self_eq_true, String.reduceBEq, at0, at1, at2, at3, Int.reduceEq, true_and, and_true, sizeLine, Nat.reducePow, Nat.reduceLeDiff, Nat.reduceLT, Int.natCast_add, Int.cast_ofNat_Int, Int.reduceLT, Int.reduceLE]
      refine ⟨_, rfl, R2, ?_⟩
      try simp only [dNewD, dDput, putDk, dExtend, dLock, dKeysI, rDin, rDget, dictD, keyD, dTupRg, dIndexF, dOrT, dAndT, dSeqA, dCont, dRet, dRetN, dSeq, dIfS, dDrop, dSet, gNm, dNext, dAndV, dOrV, dNotV, dAnd, dOr, dNot, dIf, dTru, dBool, dOp, dVar, dC, dCa, dCons, dNil, dTup, dLst, dFrz, frzD, dSl, dNo, dPart, slD, dNeg, dChain, rIsD, rEqS, eqS, DL.rInD, inD, eqF_str, flatD_str, flatD_int, rTypeD, tyD, rLenD, lenD, DL.rIxD, rIntD, rAddD, rTupleD, DL.rListD, rAllD, itemsD, itemsL, rToInt, isD, DL.isNon, isBl, startD, endsOf, dLc, dSeqT, dSeqL, dZip, dRev, dRng1, dFor, dListEnum, wipeD, gTp, gsCons, gsNil, rKdIx, rKdIn, gob, truD, dPop, dAppend, List.isEmpty_cons, List.isEmpty_nil, cut_to1, cut_from1, cut_init, List.drop_one, List.tail_cons, List.take_succ_cons, List.take_zero, bools_true, all_true, mset_same, mset_mset, List.map_cons, List.map_nil, List.length_cons, List.length_nil, List.replicate, List.cons_append, List.nil_append, List.append_nil, List.getElem?_cons_zero, List.getElem?_cons_succ, List.getElem?_nil, Nat.reduceAdd, Nat.reduceSub, List.set_cons_zero, List.set_cons_succ, decide_true, decide_false, if_true, if_false, Bool.false_eq_true, Bool.true_eq_false, Bool.not_true, Bool.not_false, List.any_cons, List.any_nil, List.all_cons, List.all_nil, Bool.or_false, Bool.or_true, Bool.false_or, Bool.true_or, Bool.and_true, Bool.and_false, Bool.true_and, Bool.false_and, reduceCtorEq, String.reduceEq, beq_self_eq_true, String.reduceBEq, at0, at1, at2, at3, Int.reduceEq, true_and, and_true, sizeLine, Nat.reducePow, Nat.reduceLeDiff, Nat.reduceLT, Int.natCast_add, Int.cast_ofNat_Int, Int.reduceLT, Int.reduceLE]
      rw [gn_gn R]
      intro p4 hp4
      rw [mdel_mset hp4]
      refine ⟨_, rfl, R, fun p5 hp5 => ?_⟩
      try simp only [dNewD, dDput, putDk, dExtend, dLock, dKeysI, rDin, rDget, dictD, keyD, dTupRg, dIndexF, dOrT, dAndT, dSeqA, dCont, dRet, dRetN, dSeq, dIfS, dDrop, dSet, gNm, dNext, dAndV, dOrV, dNotV, dAnd, dOr, dNot, dIf, dTru, dBool, dOp, dVar, dC, dCa, dCons, dNil, dTup, dLst, dFrz, frzD, dSl, dNo, dPart, slD, dNeg, dChain, rIsD, rEqS, eqS, DL.rInD, inD, eqF_str, flatD_str, flatD_int, rTypeD, tyD, rLenD, lenD, DL.rIxD, rIntD, rAddD, rTupleD, DL.rListD, rAllD, itemsD, itemsL, rToInt, isD, DL.isNon, isBl, startD, endsOf, dLc, dSeqT, dSeqL, dZip, dRev, dRng1, dFor, dListEnum, wipeD, gTp, gsCons, gsNil, rKdIx, rKdIn, gob, truD, dPop, dAppend, List.isEmpty_cons, List.isEmpty_nil, cut_to1, cut_from1, cut_init, List.drop_one, List.tail_cons, List.take_succ_cons, List.take_zero, bools_true, all_true, mset_same, mset_mset, List.map_cons, List.map_nil, List.length_cons, List.length_nil, List.replicate, List.cons_append, List.nil_append, List.append_nil, List.getElem?_cons_zero, List.getElem?_cons_succ, List.getElem?_nil, Nat.reduceAdd, Nat.reduceSub, List.set_cons_zero, List.set_cons_succ, decide_true, decide_false, if_true, if_false, Bool.false_eq_true, Bool.true_eq_false, Bool.not_true, Bool.not_false, List.any_cons, List.any_nil, List.all_cons, List.all_nil, Bool.or_false, Bool.or_true, Bool.false_or, Bool.true_or, Bool.and_true, Bool.and_false, Bool.true_and, Bool.false_and, reduceCtorEq, String.reduceEq, beq_self_eq_true, String.reduceBEq, at0, at1, at2, at3, Int.reduceEq, true_and, and_true, sizeLine, Nat.reducePow, Nat.reduceLeDiff, Nat.reduceLT, Int.natCast_add, Int.cast_ofNat_Int, Int.reduceLT, Int.reduceLE]
      intro p6 hp6
      rw [mdel_mset hp6]
      refine same_at (pl_lst (by simp) fun d hd => ?_) ?_
      · rcases List.mem_cons.mp hd with rfl | hd
        · exact pl_iN (Nat.le_trans (rcl_len _) R.small)
        · rcases List.mem_cons.mp hd with rfl | hd
          · exact pl_st R2
          · rw [List.mem_singleton.mp hd]; exact pl_st R2
      · try simp only [dNewD, dDput, putDk, dExtend, dLock, dKeysI, rDin, rDget, dictD, keyD, dTupRg, dIndexF, dOrT, dAndT, dSeqA, dCont, dRet, dRetN, dSeq, dIfS, dDrop, dSet, gNm, dNext, dAndV, dOrV, dNotV, dAnd, dOr, dNot, dIf, dTru, dBool, dOp, dVar, dC, dCa, dCons, dNil, dTup, dLst, dFrz, frzD, dSl, dNo, dPart, slD, dNeg, dChain, rIsD, rEqS, eqS, DL.rInD, inD, eqF_str, flatD_str, flatD_int, rTypeD, tyD, rLenD, lenD, DL.rIxD, rIntD, rAddD, rTupleD, DL.rListD, rAllD, itemsD, itemsL, rToInt, isD, DL.isNon, isBl, startD, endsOf, dLc, dSeqT, dSeqL, dZip, dRev, dRng1, dFor, dListEnum, wipeD, gTp, gsCons, gsNil, rKdIx, rKdIn, gob, truD, dPop, dAppend, List.isEmpty_cons, List.isEmpty_nil, cut_to1, cut_from1, cut_init, List.drop_one, List.tail_cons, List.take_succ_cons, List.take_zero, bools_true, all_true, mset_same, mset_mset, List.map_cons, List.map_nil, List.length_cons, List.length_nil, List.replicate, List.cons_append, List.nil_append, List.append_nil, List.getElem?_cons_zero, List.getElem?_cons_succ, List.getElem?_nil, Nat.reduceAdd, Nat.reduceSub, List.set_cons_zero, List.set_cons_succ, decide_true, decide_false, if_true, if_false, Bool.false_eq_true, Bool.true_eq_false, Bool.not_true, Bool.not_false, List.any_cons, List.any_nil, List.all_cons, List.all_nil, Bool.or_false, Bool.or_true, Bool.false_or, Bool.true_or, Bool.and_true, Bool.and_false, Bool.true_and, Bool.false_and, reduceCtorEq, String.reduceEq, beq_self_eq_true, String.reduceBEq, at0, at1, at2, at3, Int.reduceEq, true_and, and_true, sizeLine, Nat.reducePow, Nat.reduceLeDiff, Nat.reduceLT, Int.natCast_add, Int.cast_ofNat_Int, Int.reduceLT, Int.reduceLE]
        exact hk _ (sub_mset (none_of S6 hp5) S6)
    intro μ7 S7
    simp only [dNewD, dDput, putDk, dExtend, dLock, dKeysI, rDin, rDget, dictD, keyD, dTupRg, dIndexF, dOrT, dAndT, dSeqA, dCont, dRet, dRetN, dSeq, dIfS, dDrop, dSet, gNm, dNext, dAndV, dOrV, dNotV, dAnd, dOr, dNot, dIf, dTru, dBool, dOp, dVar, dC, dCa, dCons, dNil, dTup, dLst, dFrz, frzD, dSl, dNo, dPart, slD, dNeg, dChain, rIsD, rEqS, eqS, DL.rInD, inD, eqF_str, flatD_str, flatD_int, rTypeD, tyD, rLenD, lenD, DL.rIxD, rIntD, rAddD, rTupleD, DL.rListD, rAllD, itemsD, itemsL, rToInt, isD, DL.isNon, isBl, startD, endsOf, dLc, dSeqT, dSeqL, dZip, dRev, dRng1, dFor, dListEnum, wipeD, gTp, gsCons, gsNil, rKdIx, rKdIn, gob, truD, dPop, dAppend, List.isEmpty_cons, List.isEmpty_nil, cut_to1, cut_from1, cut_init, List.drop_one, List.tail_cons, List.take_succ_cons, List.take_zero, bools_true, all_true, mset_same, mset_mset, List.map_cons, List.map_nil, List.length_cons, List.length_nil, List.replicate, List.cons_append, List.nil_append, List.append_nil, List.getElem?_cons_zero, List.getElem?_cons_succ, List.getElem?_nil, Nat.reduceAdd, Nat.reduceSub, List.set_cons_zero, List.set_cons_succ, decide_true, decide_false, if_true, if_false, Bool.false_eq_true, Bool.true_eq_false, Bool.not_true, Bool.not_false, List.any_cons, List.any_nil, List.all_cons, List.all_nil, Bool.or_false, Bool.or_true, Bool.false_or, Bool.true_or, Bool.and_true, Bool.and_false, Bool.true_and, Bool.false_and, reduceCtorEq, String.reduceEq, beq_self_eq_true, String.reduceBEq, at0, at1, at2, at3, Int.reduceEq, true_and, and_true, sizeLine, Nat.reducePow, Nat.reduceLeDiff, Nat.reduceLT, Int.natCast_add, Int.cast_ofNat_Int, Int.reduceLT, Int.reduceLE]
    refine ⟨_, rfl, R2, ?_⟩
    have el : ∃ ds x y z, stD (gn s) = .tup [x, .tup ds, y, z] ∧ ds.length = (rcl s).length := ⟨_, _, _, _, rfl, by rw [List.length_map]; exact gn_len s⟩
    obtain ⟨ds, y1, y2, y3, ey, ly⟩ := el
    have l3 : (rcl s).length ≤ 300 := Nat.le_trans (rcl_len _) R.small
    simp only [ey]
    simp only [dNewD, dDput, putDk, dExtend, dLock, dKeysI, rDin, rDget, dictD, keyD, dTupRg, dIndexF, dOrT, dAndT, dSeqA, dCont, dRet, dRetN, dSeq, dIfS, dDrop, dSet, gNm, dNext, dAndV, dOrV, dNotV, dAnd, dOr, dNot, dIf, dTru, dBool, dOp, dVar, dC, dCa, dCons, dNil, dTup, dLst, dFrz, frzD, dSl, dNo, dPart, slD, dNeg, dChain, rIsD, rEqS, eqS, DL.rInD, inD, eqF_str, flatD_str, flatD_int, rTypeD, tyD, rLenD, lenD, DL.rIxD, rIntD, rAddD, rTupleD, DL.rListD, rAllD, itemsD, itemsL, rToInt, isD, DL.isNon, isBl, startD, endsOf, dLc, dSeqT, dSeqL, dZip, dRev, dRng1, dFor, dListEnum, wipeD, gTp, gsCons, gsNil, rKdIx, rKdIn, gob, truD, dPop, dAppend, List.isEmpty_cons, List.isEmpty_nil, cut_to1, cut_from1, cut_init, List.drop_one, List.tail_cons, List.take_succ_cons, List.take_zero, bools_true, all_true, mset_same, mset_mset, List.map_cons, List.map_nil, List.length_cons, List.length_nil, List.replicate, List.cons_append, List.nil_append, List.append_nil, List.getElem?_cons_zero, List.getElem?_cons_succ, List.getElem?_nil, Nat.reduceAdd, Nat.reduceSub, List.set_cons_zero, List.set_cons_succ, decide_true, decide_false, if_true, if_false, Bool.false_eq_true, Bool.true_eq_false, Bool.not_true, Bool.not_false, List.any_cons, List.any_nil, List.all_cons, List.all_nil, Bool.or_false, Bool.or_true, Bool.false_or, Bool.true_or, Bool.and_true, Bool.and_false, Bool.true_and, Bool.false_and, reduceCtorEq, String.reduceEq, beq_self_eq_true, String.reduceBEq, at0, at1, at2, at3, Int.reduceEq, true_and, and_true, sizeLine, Nat.reducePow, Nat.reduceLeDiff, Nat.reduceLT, Int.natCast_add, Int.cast_ofNat_Int, Int.reduceLT, Int.reduceLE]
    rw [ly]
    refine ⟨by omega, ?_⟩
    rw [rcl_gn R, Int.toNat_natCast]
    have er : rngD 0 (rcl s).length = iN (List.range (rcl s).length) := by
      unfold rngD iN ni
      rw [List.map_map]
      refine List.map_congr_left fun i _ => ?_
      show D.int (0 + (i : Int)) = _
      rw [Int.zero_add]
      rfl
    rw [er]
    refine same_at (pl_up _ _ (pl_iN (by rw [List.length_range]; exact l3))) ?_
    try simp only [dNewD, dDput, putDk, dExtend, dLock, dKeysI, rDin, rDget, dictD, keyD, dTupRg, dIndexF, dOrT, dAndT, dSeqA, dCont, dRet, dRetN, dSeq, dIfS, dDrop, dSet, gNm, dNext, dAndV, dOrV, dNotV, dAnd, dOr, dNot, dIf, dTru, dBool, dOp, dVar, dC, dCa, dCons, dNil, dTup, dLst, dFrz, frzD, dSl, dNo, dPart, slD, dNeg, dChain, rIsD, rEqS, eqS, DL.rInD, inD, eqF_str, flatD_str, flatD_int, rTypeD, tyD, rLenD, lenD, DL.rIxD, rIntD, rAddD, rTupleD, DL.rListD, rAllD, itemsD, itemsL, rToInt, isD, DL.isNon, isBl, startD, endsOf, dLc, dSeqT, dSeqL, dZip, dRev, dRng1, dFor, dListEnum, wipeD, gTp, gsCons, gsNil, rKdIx, rKdIn, gob, truD, dPop, dAppend, List.isEmpty_cons, List.isEmpty_nil, cut_to1, cut_from1, cut_init, List.drop_one, List.tail_cons, List.take_succ_cons, List.take_zero, bools_true, all_true, mset_same, mset_mset, List.map_cons, List.map_nil, List.length_cons, List.length_nil, List.replicate, List.cons_append, List.nil_append, List.append_nil, List.getElem?_cons_zero, List.getElem?_cons_succ, List.getElem?_nil, Nat.reduceAdd, Nat.reduceSub, List.set_cons_zero, List.set_cons_succ, decide_true, decide_false, if_true, if_false, Bool.false_eq_true, Bool.true_eq_false, Bool.not_true, Bool.not_false, List.any_cons, List.any_nil, List.all_cons, List.all_nil, Bool.or_false, Bool.or_true, Bool.false_or, Bool.true_or, Bool.and_true, Bool.and_false, Bool.true_and, Bool.false_and, reduceCtorEq, String.reduceEq, beq_self_eq_true, String.reduceBEq, at0, at1, at2, at3, Int.reduceEq, true_and, and_true, sizeLine, Nat.reducePow, Nat.reduceLeDiff, Nat.reduceLT, Int.natCast_add, Int.cast_ofNat_Int, Int.reduceLT, Int.reduceLE]
    exact hnx _ _ ⟨fun d hd => hr d (List.mem_cons_of_mem _ hd), S7, _, _, _, _, _, rfl⟩
  · rintro ρ μ' ⟨_, S, x2, x3, x4, x5, x6, rfl⟩
    simp only [dNewD, dDput, putDk, dExtend, dLock, dKeysI, rDin, rDget, dictD, keyD, dTupRg, dIndexF, dOrT, dAndT, dSeqA, dCont, dRet, dRetN, dSeq, dIfS, dDrop, dSet, gNm, dNext, dAndV, dOrV, dNotV, dAnd, dOr, dNot, dIf, dTru, dBool, dOp, dVar, dC, dCa, dCons, dNil, dTup, dLst, dFrz, frzD, dSl, dNo, dPart, slD, dNeg, dChain, rIsD, rEqS, eqS, DL.rInD, inD, eqF_str, flatD_str, flatD_int, rTypeD, tyD, rLenD, lenD, DL.rIxD, rIntD, rAddD, rTupleD, DL.rListD, rAllD, itemsD, itemsL, rToInt, isD, DL.isNon, isBl, startD, endsOf, dLc, dSeqT, dSeqL, dZip, dRev, dRng1, dFor, dListEnum, wipeD, gTp, gsCons, gsNil, rKdIx, rKdIn, gob, truD, dPop, dAppend, List.isEmpty_cons, List.isEmpty_nil, cut_to1, cut_from1, cut_init, List.drop_one, List.tail_cons, List.take_succ_cons, List.take_zero, bools_true, all_true, mset_same, mset_mset, List.map_cons, List.map_nil, List.length_cons, List.length_nil, List.replicate, List.cons_append, List.nil_append, List.append_nil, List.getElem?_cons_zero, List.getElem?_cons_succ, List.getElem?_nil, Nat.reduceAdd, Nat.reduceSub, List.set_cons_zero, List.set_cons_succ, decide_true, decide_false, if_true, if_false, Bool.false_eq_true, Bool.true_eq_false, Bool.not_true, Bool.not_false, List.any_cons, List.any_nil, List.all_cons, List.all_nil, Bool.or_false, Bool.or_true, Bool.false_or, Bool.true_or, Bool.and_true, Bool.and_false, Bool.true_and, Bool.false_and, reduceCtorEq, String.reduceEq, beq_self_eq_true, String.reduceBEq, at0, at1, at2, at3, Int.reduceEq, true_and, and_true, sizeLine, Nat.reducePow, Nat.reduceLeDiff, Nat.reduceLT, Int.natCast_add, Int.cast_ofNat_Int, Int.reduceLT, Int.reduceLE]
    exact ⟨μ, S, q⟩
  · rcases List.mem_cons.mp hd with rfl | hd
    · exact ⟨61, rfl⟩
    · rw [e8] at hd
      obtain ⟨c, _, rfl⟩ := List.mem_map.mp (List.mem_of_mem_take hd)
      exact ⟨c, rfl⟩
end
end VB
end K70

set_option Elab.async false
set_option linter.all false
set_option maxRecDepth 100000
set_option maxHeartbeats 1000000
namespace K70
open PySem PySem.Spec PyProof.Rows L2 NdefX LamX DL
def codeRest (vs : Array Value) : Bool := (match vs.getD 18 .none with | .str _ _ => true | _ => false) && (match vs.getD 7 .none with | .int _ _ => true | _ => false) && (match vs.getD 9 .none with | .bool _ => true | _ => false) && (match vs.getD 10 .none with | .int _ _ => true | _ => false)
theorem codeHd_mk {K : PySem.W.Frag} {c P : Addr} {vs : Array Value} {od : Option Addr} {sl : Array (Option Value)} (q : K.lookup c = some ⟨.type "code", od, .fields vs, sl⟩) (w : vs[11]? = some (.ref P)) (x : codeRest vs = true) (y : (c != P) = true) : PySem.W.codeHdIn K c P = true := by
  unfold codeRest at x
  simp only [Bool.and_eq_true] at x
  unfold PySem.W.codeHdIn
  rw [q]
  simp only [w, Bool.and_eq_true]
  exact ⟨⟨⟨⟨⟨by simp, x.1.1.1⟩, x.1.1.2⟩, x.1.2⟩, x.2⟩, y⟩
theorem exm_self {K : PySem.W.Frag} {C : Addr} (i : PySem.W.isClsIn K C = true) (s : PySem.W.subIn K (.ref C) (.ref C) = some true) (b : PySem.W.subIn K (.ref C) (.type "BaseException") = some true) (t : PySem.W.typeIn K (.ref C) = some (.type "type")) : PySem.W.exmOne K (.ref C) (.ref C) = some true := by
  unfold PySem.W.exmOne PySem.W.kitCls
  unfold PySem.W.isClsIn at i
  simp [b, s, i, t]
theorem gtL {P : Program} {w : World} {K : PySem.W.Frag} {mg : Str → Option Value} {base : Heap} {k : Nat} {x : Str} {ps : List Str} {p q : RLD} {f : Addr} {fd : FuncData} (G : Gt P w K mg base k x ps (fun ds μ Q => p ds μ Q ∨ q ds μ Q) f fd) (m : MonoL p) : Gt P w K mg base k x ps p f fd :=
  ⟨G.F.imp fun vs H Q E ⟨ds, μ, m1, r, h⟩ => ⟨ds, μ, m1, r, .inl h⟩, m, G.m, G.k, G.b⟩
theorem reps_ints {K : PySem.W.Frag} {G : Hp} : ∀ ns : List Int, Reps K G (ns.map V.int) (ns.map D.int)
  | [] => .nil
  | n :: ns => .cons (.int n) (reps_ints ns)
def tabMuL : List (Addr × (Nat → Nat → Str)) → Mu
  | [] => fun _ => none
  | p :: L => mset (tabMuL L) p.1 (.tab p.2)
theorem tabMuL_get : ∀ {L : List (Addr × (Nat → Nat → Str))} {p : Addr × (Nat → Nat → Str)}, (L.map (·.1)).Nodup → p ∈ L → tabMuL L p.1 = some (.tab p.2)
  | [], _, _, h => by cases h
  | q :: L, p, d, h => by
    rw [List.map_cons, List.nodup_cons] at d
    rcases List.mem_cons.mp h with rfl | h
    · exact mset_same
    · show mset (tabMuL L) q.1 _ p.1 = _
      rw [mset_ne (fun z => d.1 (List.mem_map.mpr ⟨p, h, z⟩))]
      exact tabMuL_get d.2 h
theorem tabMuL_only : ∀ {L : List (Addr × (Nat → Nat → Str))} {q : Addr} {o : MO}, tabMuL L q = some o → ∃ p ∈ L, q = p.1 ∧ o = .tab p.2
  | [], _, _, e => by cases e
  | p :: L, q, o, e => by
    by_cases h : q = p.1
    · subst h
      have e2 : tabMuL (p :: L) p.1 = some (.tab p.2) := mset_same
      rw [e2] at e
      exact ⟨p, List.mem_cons_self, rfl, (Option.some.inj e).symm⟩
    · have e2 : tabMuL (p :: L) q = tabMuL L q := mset_ne h
      rw [e2] at e
      obtain ⟨p', m, h1, h2⟩ := tabMuL_only e
      exact ⟨p', List.mem_cons_of_mem _ m, h1, h2⟩
theorem tab_mok {K : PySem.W.Frag} {H G : Hp} {q : Addr} {nm : Nat → Nat → Str} (h : H q = some (.tbl #[])) : MOk K H G q (.tab nm) := ⟨#[], h, trivial, fun pos cv e => nomatch e⟩
theorem law_startL {K : PySem.W.Frag} {H : Hp} {a : Addr} {ns : List Int} {L : List (Addr × (Nat → Nat → Str))} {sp : RLD} (hL : ∀ p ∈ L, H p.1 = some (.tbl #[])) (hS : SqL K H a (ns.map V.int)) {E : XK}
    (q : ∀ Q : DK, (∀ μ, Q (.bl true) μ) → sp [.lst (ns.map .int)] (tabMuL L) Q) : spUp K sp [.ref a] H (fun v _ => v = .bl true) E := by
  have mem : RM K H (tabMuL L) := fun q o e => by
    obtain ⟨p, m, rfl, rfl⟩ := tabMuL_only e
    exact tab_mok (hL p m)
  have same : ∀ u, H a = some u → u ≠ .tbl #[] → cut H (tabMuL L) a = some u := fun u e ne => by
    unfold cut
    rw [if_neg]
    · exact e
    · intro z
      obtain ⟨o, ho⟩ := Option.isSome_iff_exists.mp z
      obtain ⟨p, m, rfl, _⟩ := tabMuL_only ho
      rw [hL p m] at e
      exact ne (Option.some.inj e).symm
  have sq : SqL K (cut H (tabMuL L)) a (ns.map V.int) := by
    rcases hS with (h | ⟨o, h⟩) | h
    · exact .inl (.inl (same _ h (fun z => by cases z)))
    · exact .inl (.inr ⟨o, same _ h (fun z => by cases z)⟩)
    · exact .inr h
  exact ⟨[.lst (ns.map .int)], tabMuL L, mem, .cons (.lst sq (reps_ints ns)) .nil, q _ fun μ v H' _ _ r => by cases r; rfl⟩
end K70

set_option Elab.async false
set_option linter.all false
set_option maxRecDepth 100000
set_option maxHeartbeats 1000000
namespace K70
open PySem PySem.Spec PyProof.Rows L2 NdefX LamX DL
theorem all_mk {l : PySem.W.OpenLaw} {w : World} {K : PySem.W.Frag} {h : Heap} {mg : Str → Option Value} {fa : Addr} (X : K.In h) (G : h.Ns mainGlobals mg) (hfa : mg "law" = some (.ref fa)) (tabs0 : ∀ P : Addr, P ∈ ([] : List Addr) → h.get? P = some { cls := .none, data := .fields #[] })
    {f0 : Addr} {od0 an0 : Option Addr} {sl0 : Array (Option Value)} {oc0 kV0 dc0 pm0 ct0 cd0 : Value}
    (a0 : PySem.W.nsIn K mainGlobals "reached" = some (some (.ref f0))) (l0 : K.lookup f0 = some ⟨oc0, od0, .func (PySem.W.fnOf "reached" "reached" (defArgs s_reached) (defBody s_reached) (defScope s_reached) .none kV0 dc0 pm0 an0 cd0 ct0), sl0⟩) (cc0 : PySem.W.codeIn K cd0 "reached" = true) (k0 : PySem.W.keepIn K (.ref f0) = true)
    {f1 : Addr} {od1 an1 : Option Addr} {sl1 : Array (Option Value)} {oc1 kV1 dc1 pm1 ct1 cd1 : Value}
    (a1 : PySem.W.nsIn K mainGlobals "_marked" = some (some (.ref f1))) (l1 : K.lookup f1 = some ⟨oc1, od1, .func (PySem.W.fnOf "_marked" "_marked" (defArgs s_marked) (defBody s_marked) (defScope s_marked) .none kV1 dc1 pm1 an1 cd1 ct1), sl1⟩) (cc1 : PySem.W.codeIn K cd1 "_marked" = true) (k1 : PySem.W.keepIn K (.ref f1) = true)
    {f2 : Addr} {od2 an2 : Option Addr} {sl2 : Array (Option Value)} {oc2 kV2 dc2 pm2 ct2 cd2 : Value}
    (a2 : PySem.W.nsIn K mainGlobals "_worths_in" = some (some (.ref f2))) (l2 : K.lookup f2 = some ⟨oc2, od2, .func (PySem.W.fnOf "_worths_in" "_worths_in" (defArgs s_worths_in) (defBody s_worths_in) (defScope s_worths_in) .none kV2 dc2 pm2 an2 cd2 ct2), sl2⟩) (cc2 : PySem.W.codeIn K cd2 "_worths_in" = true) (k2 : PySem.W.keepIn K (.ref f2) = true)
    {f3 : Addr} {od3 an3 : Option Addr} {sl3 : Array (Option Value)} {oc3 kV3 dc3 pm3 ct3 cd3 : Value}
    (a3 : PySem.W.nsIn K mainGlobals "gone" = some (some (.ref f3))) (l3 : K.lookup f3 = some ⟨oc3, od3, .func (PySem.W.fnOf "gone" "gone" (defArgs s_gone) (defBody s_gone) (defScope s_gone) .none kV3 dc3 pm3 an3 cd3 ct3), sl3⟩) (cc3 : PySem.W.codeIn K cd3 "gone" = true) (k3 : PySem.W.keepIn K (.ref f3) = true)
    {f4 : Addr} {od4 an4 : Option Addr} {sl4 : Array (Option Value)} {oc4 kV4 dc4 pm4 ct4 cd4 : Value}
    (a4 : PySem.W.nsIn K mainGlobals "_moved" = some (some (.ref f4))) (l4 : K.lookup f4 = some ⟨oc4, od4, .func (PySem.W.fnOf "_moved" "_moved" (defArgs s_moved) (defBody s_moved) (defScope s_moved) .none kV4 dc4 pm4 an4 cd4 ct4), sl4⟩) (cc4 : PySem.W.codeIn K cd4 "_moved" = true) (k4 : PySem.W.keepIn K (.ref f4) = true)
    {f5 : Addr} {od5 an5 : Option Addr} {sl5 : Array (Option Value)} {oc5 kV5 dc5 pm5 ct5 cd5 : Value}
    (a5 : PySem.W.nsIn K mainGlobals "_moved_worth" = some (some (.ref f5))) (l5 : K.lookup f5 = some ⟨oc5, od5, .func (PySem.W.fnOf "_moved_worth" "_moved_worth" (defArgs s_moved_worth) (defBody s_moved_worth) (defScope s_moved_worth) .none kV5 dc5 pm5 an5 cd5 ct5), sl5⟩) (cc5 : PySem.W.codeIn K cd5 "_moved_worth" = true) (k5 : PySem.W.keepIn K (.ref f5) = true)
    {f6 : Addr} {od6 an6 : Option Addr} {sl6 : Array (Option Value)} {oc6 kV6 dc6 pm6 ct6 cd6 : Value}
    (a6 : PySem.W.nsIn K mainGlobals "_moved_thing" = some (some (.ref f6))) (l6 : K.lookup f6 = some ⟨oc6, od6, .func (PySem.W.fnOf "_moved_thing" "_moved_thing" (defArgs s_moved_thing) (defBody s_moved_thing) (defScope s_moved_thing) .none kV6 dc6 pm6 an6 cd6 ct6), sl6⟩) (cc6 : PySem.W.codeIn K cd6 "_moved_thing" = true) (k6 : PySem.W.keepIn K (.ref f6) = true)
    {f7 : Addr} {od7 an7 : Option Addr} {sl7 : Array (Option Value)} {oc7 kV7 dc7 pm7 ct7 cd7 : Value}
    (a7 : PySem.W.nsIn K mainGlobals "_law_jar" = some (some (.ref f7))) (l7 : K.lookup f7 = some ⟨oc7, od7, .func (PySem.W.fnOf "_law_jar" "_law_jar" (defArgs s_law_jar) (defBody s_law_jar) (defScope s_law_jar) .none kV7 dc7 pm7 an7 cd7 ct7), sl7⟩) (cc7 : PySem.W.codeIn K cd7 "_law_jar" = true) (k7 : PySem.W.keepIn K (.ref f7) = true)
    {f8 : Addr} {od8 an8 : Option Addr} {sl8 : Array (Option Value)} {oc8 kV8 dc8 pm8 ct8 cd8 : Value}
    (a8 : PySem.W.nsIn K mainGlobals "_law_drawn" = some (some (.ref f8))) (l8 : K.lookup f8 = some ⟨oc8, od8, .func (PySem.W.fnOf "_law_drawn" "_law_drawn" (defArgs s_law_drawn) (defBody s_law_drawn) (defScope s_law_drawn) .none kV8 dc8 pm8 an8 cd8 ct8), sl8⟩) (cc8 : PySem.W.codeIn K cd8 "_law_drawn" = true) (k8 : PySem.W.keepIn K (.ref f8) = true)
    {f9 : Addr} {od9 an9 : Option Addr} {sl9 : Array (Option Value)} {oc9 kV9 dc9 pm9 ct9 cd9 : Value}
    (a9 : PySem.W.nsIn K mainGlobals "_law_same" = some (some (.ref f9))) (l9 : K.lookup f9 = some ⟨oc9, od9, .func (PySem.W.fnOf "_law_same" "_law_same" (defArgs s_law_same) (defBody s_law_same) (defScope s_law_same) .none kV9 dc9 pm9 an9 cd9 ct9), sl9⟩) (cc9 : PySem.W.codeIn K cd9 "_law_same" = true) (k9 : PySem.W.keepIn K (.ref f9) = true)
    {f10 : Addr} {od10 an10 : Option Addr} {sl10 : Array (Option Value)} {oc10 kV10 dc10 pm10 ct10 cd10 : Value}
    (a10 : PySem.W.nsIn K mainGlobals "_law_places" = some (some (.ref f10))) (l10 : K.lookup f10 = some ⟨oc10, od10, .func (PySem.W.fnOf "_law_places" "_law_places" (defArgs s_law_places) (defBody s_law_places) (defScope s_law_places) .none kV10 dc10 pm10 an10 cd10 ct10), sl10⟩) (cc10 : PySem.W.codeIn K cd10 "_law_places" = true) (k10 : PySem.W.keepIn K (.ref f10) = true)
    {f11 : Addr} {od11 an11 : Option Addr} {sl11 : Array (Option Value)} {oc11 kV11 dc11 pm11 ct11 cd11 : Value}
    (a11 : PySem.W.nsIn K mainGlobals "_law_reached" = some (some (.ref f11))) (l11 : K.lookup f11 = some ⟨oc11, od11, .func (PySem.W.fnOf "_law_reached" "_law_reached" (defArgs s_law_reached) (defBody s_law_reached) (defScope s_law_reached) .none kV11 dc11 pm11 an11 cd11 ct11), sl11⟩) (cc11 : PySem.W.codeIn K cd11 "_law_reached" = true) (k11 : PySem.W.keepIn K (.ref f11) = true)
    {f12 : Addr} {od12 an12 : Option Addr} {sl12 : Array (Option Value)} {oc12 kV12 dc12 pm12 ct12 cd12 : Value}
    (a12 : PySem.W.nsIn K mainGlobals "_law_anew" = some (some (.ref f12))) (l12 : K.lookup f12 = some ⟨oc12, od12, .func (PySem.W.fnOf "_law_anew" "_law_anew" (defArgs s_law_anew) (defBody s_law_anew) (defScope s_law_anew) .none kV12 dc12 pm12 an12 cd12 ct12), sl12⟩) (cc12 : PySem.W.codeIn K cd12 "_law_anew" = true) (k12 : PySem.W.keepIn K (.ref f12) = true)
    {f13 : Addr} {od13 an13 : Option Addr} {sl13 : Array (Option Value)} {oc13 kV13 dc13 pm13 ct13 cd13 : Value}
    (a13 : PySem.W.nsIn K mainGlobals "_law_thing_anew" = some (some (.ref f13))) (l13 : K.lookup f13 = some ⟨oc13, od13, .func (PySem.W.fnOf "_law_thing_anew" "_law_thing_anew" (defArgs s_law_thing_anew) (defBody s_law_thing_anew) (defScope s_law_thing_anew) .none kV13 dc13 pm13 an13 cd13 ct13), sl13⟩) (cc13 : PySem.W.codeIn K cd13 "_law_thing_anew" = true) (k13 : PySem.W.keepIn K (.ref f13) = true)
    {f14 : Addr} {od14 an14 : Option Addr} {sl14 : Array (Option Value)} {oc14 kV14 dc14 pm14 ct14 cd14 : Value}
    (a14 : PySem.W.nsIn K mainGlobals "_law_gone" = some (some (.ref f14))) (l14 : K.lookup f14 = some ⟨oc14, od14, .func (PySem.W.fnOf "_law_gone" "_law_gone" (defArgs s_law_gone) (defBody s_law_gone) (defScope s_law_gone) .none kV14 dc14 pm14 an14 cd14 ct14), sl14⟩) (cc14 : PySem.W.codeIn K cd14 "_law_gone" = true) (k14 : PySem.W.keepIn K (.ref f14) = true)
    {f15 : Addr} {od15 an15 : Option Addr} {sl15 : Array (Option Value)} {oc15 kV15 dc15 pm15 ct15 cd15 : Value}
    (a15 : PySem.W.nsIn K mainGlobals "_law_worth" = some (some (.ref f15))) (l15 : K.lookup f15 = some ⟨oc15, od15, .func (PySem.W.fnOf "_law_worth" "_law_worth" (defArgs s_law_worth) (defBody s_law_worth) (defScope s_law_worth) .none kV15 dc15 pm15 an15 cd15 ct15), sl15⟩) (cc15 : PySem.W.codeIn K cd15 "_law_worth" = true) (k15 : PySem.W.keepIn K (.ref f15) = true)
    {f16 : Addr} {od16 an16 : Option Addr} {sl16 : Array (Option Value)} {oc16 kV16 dc16 pm16 ct16 cd16 : Value}
    (a16 : PySem.W.nsIn K mainGlobals "_law_state" = some (some (.ref f16))) (l16 : K.lookup f16 = some ⟨oc16, od16, .func (PySem.W.fnOf "_law_state" "_law_state" (defArgs s_law_state) (defBody s_law_state) (defScope s_law_state) .none kV16 dc16 pm16 an16 cd16 ct16), sl16⟩) (cc16 : PySem.W.codeIn K cd16 "_law_state" = true) (k16 : PySem.W.keepIn K (.ref f16) = true)
    {f17 : Addr} {od17 an17 : Option Addr} {sl17 : Array (Option Value)} {oc17 kV17 dc17 pm17 ct17 cd17 : Value}
    (a17 : PySem.W.nsIn K mainGlobals "law" = some (some (.ref f17))) (l17 : K.lookup f17 = some ⟨oc17, od17, .func (PySem.W.fnOf "law" "law" (defArgs s_law) (defBody s_law) (defScope s_law) .none kV17 dc17 pm17 an17 cd17 ct17), sl17⟩) (cc17 : PySem.W.codeIn K cd17 "law" = true) (k17 : PySem.W.keepIn K (.ref f17) = true)
    (dist : ([] : List Addr).Nodup)
    (z_type : PySem.W.nsIn K mainGlobals "type" = some none)
    (z_tuple : PySem.W.nsIn K mainGlobals "tuple" = some none)
    (z_int : PySem.W.nsIn K mainGlobals "int" = some none)
    (z_str : PySem.W.nsIn K mainGlobals "str" = some none)
    (z_bool : PySem.W.nsIn K mainGlobals "bool" = some none)
    (z_list : PySem.W.nsIn K mainGlobals "list" = some none)
    (z_len : PySem.W.nsIn K mainGlobals "len" = some none)
    (z_all : PySem.W.nsIn K mainGlobals "all" = some none)
    (z_isinstance : PySem.W.nsIn K mainGlobals "isinstance" = some none)
    (z_range : PySem.W.nsIn K mainGlobals "range" = some none)
    (z_zip : PySem.W.nsIn K mainGlobals "zip" = some none)
    (z_reversed : PySem.W.nsIn K mainGlobals "reversed" = some none)
    (z_enumerate : PySem.W.nsIn K mainGlobals "enumerate" = some none)
    (z_max : PySem.W.nsIn K mainGlobals "max" = some none)
    (z_sorted : PySem.W.nsIn K mainGlobals "sorted" = some none)
    (z_set : PySem.W.nsIn K mainGlobals "set" = some none)
    : LawAtS l w K CX0 11 63 "script" mg fa h := by
  have e := hfa.symm.trans (PySem.W.mg_of X G a17)
  cases e
  have F0 := fun_mk (st := s_reached) l0 cc0 k0
  have b0 := F0.binds (ps := ["state"]) fun _ _ _ _ _ _ us hl => match us, hl with | [_], _ => rfl
  have m0 := PySem.W.mg_of X G a0
  have F1 := fun_mk (st := s_marked) l1 cc1 k1
  have b1 := F1.binds (ps := ["registers", "things"]) fun _ _ _ _ _ _ us hl => match us, hl with | [_, _], _ => rfl
  have m1 := PySem.W.mg_of X G a1
  have F2 := fun_mk (st := s_worths_in) l2 cc2 k2
  have b2 := F2.binds (ps := ["thing"]) fun _ _ _ _ _ _ us hl => match us, hl with | [_], _ => rfl
  have m2 := PySem.W.mg_of X G a2
  have F3 := fun_mk (st := s_gone) l3 cc3 k3
  have b3 := F3.binds (ps := ["state"]) fun _ _ _ _ _ _ us hl => match us, hl with | [_], _ => rfl
  have m3 := PySem.W.mg_of X G a3
  have F4 := fun_mk (st := s_moved) l4 cc4 k4
  have b4 := F4.binds (ps := ["worths", "addresses"]) fun _ _ _ _ _ _ us hl => match us, hl with | [_, _], _ => rfl
  have m4 := PySem.W.mg_of X G a4
  have F5 := fun_mk (st := s_moved_worth) l5 cc5 k5
  have b5 := F5.binds (ps := ["worth", "addresses"]) fun _ _ _ _ _ _ us hl => match us, hl with | [_, _], _ => rfl
  have m5 := PySem.W.mg_of X G a5
  have F6 := fun_mk (st := s_moved_thing) l6 cc6 k6
  have b6 := F6.binds (ps := ["thing", "addresses"]) fun _ _ _ _ _ _ us hl => match us, hl with | [_, _], _ => rfl
  have m6 := PySem.W.mg_of X G a6
  have F7 := fun_mk (st := s_law_jar) l7 cc7 k7
  have b7 := F7.binds (ps := ["cell"]) fun _ _ _ _ _ _ us hl => match us, hl with | [_], _ => rfl
  have m7 := PySem.W.mg_of X G a7
  have F8 := fun_mk (st := s_law_drawn) l8 cc8 k8
  have b8 := F8.binds (ps := ["jar", "many"]) fun _ _ _ _ _ _ us hl => match us, hl with | [_, _], _ => rfl
  have m8 := PySem.W.mg_of X G a8
  have F9 := fun_mk (st := s_law_same) l9 cc9 k9
  have b9 := F9.binds (ps := ["found", "due"]) fun _ _ _ _ _ _ us hl => match us, hl with | [_, _], _ => rfl
  have m9 := PySem.W.mg_of X G a9
  have F10 := fun_mk (st := s_law_places) l10 cc10 k10
  have b10 := F10.binds (ps := ["thing"]) fun _ _ _ _ _ _ us hl => match us, hl with | [_], _ => rfl
  have m10 := PySem.W.mg_of X G a10
  have F11 := fun_mk (st := s_law_reached) l11 cc11 k11
  have b11 := F11.binds (ps := ["state"]) fun _ _ _ _ _ _ us hl => match us, hl with | [_], _ => rfl
  have m11 := PySem.W.mg_of X G a11
  have F12 := fun_mk (st := s_law_anew) l12 cc12 k12
  have b12 := F12.binds (ps := ["known", "one"]) fun _ _ _ _ _ _ us hl => match us, hl with | [_, _], _ => rfl
  have m12 := PySem.W.mg_of X G a12
  have F13 := fun_mk (st := s_law_thing_anew) l13 cc13 k13
  have b13 := F13.binds (ps := ["known", "thing"]) fun _ _ _ _ _ _ us hl => match us, hl with | [_, _], _ => rfl
  have m13 := PySem.W.mg_of X G a13
  have F14 := fun_mk (st := s_law_gone) l14 cc14 k14
  have b14 := F14.binds (ps := ["state"]) fun _ _ _ _ _ _ us hl => match us, hl with | [_], _ => rfl
  have m14 := PySem.W.mg_of X G a14
  have F15 := fun_mk (st := s_law_worth) l15 cc15 k15
  have b15 := F15.binds (ps := ["jar", "many", "here"]) fun _ _ _ _ _ _ us hl => match us, hl with | [_, _, _], _ => rfl
  have m15 := PySem.W.mg_of X G a15
  have F16 := fun_mk (st := s_law_state) l16 cc16 k16
  have b16 := F16.binds (ps := ["jar"]) fun _ _ _ _ _ _ us hl => match us, hl with | [_], _ => rfl
  have m16 := PySem.W.mg_of X G a16
  have F17 := fun_mk (st := s_law) l17 cc17 k17
  have b17 := F17.binds (ps := ["script"]) fun _ _ _ _ _ _ us hl => match us, hl with | [_], _ => rfl
  have m17 := PySem.W.mg_of X G a17
  have B : NoG mg := ⟨PySem.W.mg_none_of X G z_type, PySem.W.mg_none_of X G z_tuple, PySem.W.mg_none_of X G z_int, PySem.W.mg_none_of X G z_str, PySem.W.mg_none_of X G z_bool, PySem.W.mg_none_of X G z_list, PySem.W.mg_none_of X G z_len, PySem.W.mg_none_of X G z_all, PySem.W.mg_none_of X G z_isinstance, PySem.W.mg_none_of X G z_range, PySem.W.mg_none_of X G z_zip, PySem.W.mg_none_of X G z_reversed, PySem.W.mg_none_of X G z_enumerate⟩
  have N_max := PySem.W.mg_none_of X G z_max
  have N_sorted := PySem.W.mg_none_of X G z_sorted
  have N_set := PySem.W.mg_none_of X G z_set
  refine ⟨PySem.W.fnOf "law" "law" (defArgs s_law) (defBody s_law) (defScope s_law) .none kV17 dc17 pm17 an17 cd17 ct17, [], spUp K (VB.sp_law), ?_, ?_, ?_, fun s u => .of_eq rfl, ?_, fun base hb hn tb => ?_⟩
  · intro p hp
    cases hp
  · intro p hp
    cases hp
  · intro p hp
    cases hp
  · intro H a ns hl hbits hH hS
    have hL : ∀ p ∈ ([] : List (Addr × (Nat → Nat → Str))), H p.1 = some (.tbl #[]) := by
      intro p hp
      cases hp
    refine law_startL hL hS fun Q hQ => ?_
    exact ⟨ns, rfl, hl, hQ _⟩
  have Gworths_in : Gt l.prog w K mg base 1 "_worths_in" ["thing"] (sp_worths) f2 _ := ⟨ok_worths B F2, mono_worths, m2, k2, b2⟩
  have Gmarked : Gt l.prog w K mg base 2 "_marked" ["registers", "things"] (sp_marked) f1 _ := ⟨ok_marked B F1 Gworths_in, mono_marked, m1, k1, b1⟩
  have Greached : Gt l.prog w K mg base 3 "reached" ["state"] (sp_reached) f0 _ := ⟨ok_reached B N_sorted F0 Gmarked, mono_reached, m0, k0, b0⟩
  have Gmoved_worth : Gt l.prog w K mg base 1 "_moved_worth" ["worth", "addresses"] (sp_mw) f5 _ := ⟨ok_moved_worth B F5, mono_mw, m5, k5, b5⟩
  have Gmoved : Gt l.prog w K mg base 2 "_moved" ["worths", "addresses"] (sp_moved) f4 _ := ⟨ok_moved B F4 Gmoved_worth, mono_moved, m4, k4, b4⟩
  have Gmoved_thing : Gt l.prog w K mg base 3 "_moved_thing" ["thing", "addresses"] (sp_mt) f6 _ := ⟨ok_moved_thing B F6 Gmoved_worth Gmoved, mono_mt, m6, k6, b6⟩
  have Ggone : Gt l.prog w K mg base 4 "gone" ["state"] (sp_gone) f3 _ := ⟨ok_gone B N_sorted F3 Gmarked Gmoved Gmoved_thing, mono_gone, m3, k3, b3⟩
  have Glaw_jar : Gt l.prog w K mg base 1 "_law_jar" ["cell"] (VB.sp_jar) f7 _ := ⟨VB.ok_jar B N_max F7, VB.mono_jar, m7, k7, b7⟩
  have Glaw_drawn : Gt l.prog w K mg base 1 "_law_drawn" ["jar", "many"] (VB.sp_drawn) f8 _ := ⟨VB.ok_drawn B F8, VB.mono_drawn, m8, k8, b8⟩
  have Glaw_same : Gt l.prog w K mg base 10 "_law_same" ["found", "due"] (VB.sp_same 10) f9 _ := ⟨VB.ok_same B F9 m9 b9 10, VB.mono_same 10, m9, k9, b9⟩
  have Glaw_places : Gt l.prog w K mg base 1 "_law_places" ["thing"] (VB.sp_places) f10 _ := ⟨VB.ok_places B F10, VB.mono_places, m10, k10, b10⟩
  have Glaw_reached : Gt l.prog w K mg base 2 "_law_reached" ["state"] (VB.sp_lr) f11 _ := ⟨VB.ok_lr B N_sorted N_set F11 Glaw_places, VB.mono_lr, m11, k11, b11⟩
  have Glaw_anew : Gt l.prog w K mg base 1 "_law_anew" ["known", "one"] (VB.sp_anew) f12 _ := ⟨VB.ok_anew B F12, VB.mono_anew, m12, k12, b12⟩
  have Glaw_thing_anew : Gt l.prog w K mg base 2 "_law_thing_anew" ["known", "thing"] (VB.sp_ta) f13 _ := ⟨VB.ok_thing_anew B F13 Glaw_anew, VB.mono_ta, m13, k13, b13⟩
  have Glaw_gone : Gt l.prog w K mg base 3 "_law_gone" ["state"] (sp_gone) f14 _ := ⟨VB.ok_lgone B F14 Glaw_reached Glaw_anew Glaw_thing_anew, mono_gone, m14, k14, b14⟩
  have Glaw_worth : Gt l.prog w K mg base 2 "_law_worth" ["jar", "many", "here"] (VB.sp_worth) f15 _ := ⟨VB.ok_worth B F15 Glaw_drawn, VB.mono_worth, m15, k15, b15⟩
  have Glaw_state : Gt l.prog w K mg base 3 "_law_state" ["jar"] (VB.sp_state) f16 _ := ⟨VB.ok_state B F16 Glaw_drawn Glaw_worth, VB.mono_state, m16, k16, b16⟩
  exact VB.ok_law B F17 Greached Ggone Glaw_same Glaw_reached Glaw_gone Glaw_jar Glaw_state
end K70

set_option Elab.async false
set_option maxRecDepth 100000
open PySem PySem.W PyProof.Rows
set_option maxRecDepth 100000 in
set_option maxHeartbeats 0 in
theorem PySem.Challenge.cw_kindscarried_k63_what_registers_lead_to_holds : PySem.Challenge.rw_kindscarried_k63_what_registers_lead_to.Holds := by
  w_on; o_law; k_head; (case hw => w_witness2)
  k_fill
  refine LamX.walk_ofTs (l := PySem.Challenge.rw_kindscarried_k63_what_registers_lead_to) (n := 63) (k := 11) (x := "script") (CX := fun _ => L2.CX0) rfl (by decide) rfl ⟨rfl, by decide, by decide⟩ (fun w h Y => PySem.W.kIn_of Y) ?F (fun _ _ _ _ _ z => z)
  case F =>
    intro w mg fa h Y KX G hmg
    refine' K70.all_mk KX G hmg ?qtabs0 ?qa0 ?ql0 ?qc0 ?qk0 ?qa1 ?ql1 ?qc1 ?qk1 ?qa2 ?ql2 ?qc2 ?qk2 ?qa3 ?ql3 ?qc3 ?qk3 ?qa4 ?ql4 ?qc4 ?qk4 ?qa5 ?ql5 ?qc5 ?qk5 ?qa6 ?ql6 ?qc6 ?qk6 ?qa7 ?ql7 ?qc7 ?qk7 ?qa8 ?ql8 ?qc8 ?qk8 ?qa9 ?ql9 ?qc9 ?qk9 ?qa10 ?ql10 ?qc10 ?qk10 ?qa11 ?ql11 ?qc11 ?qk11 ?qa12 ?ql12 ?qc12 ?qk12 ?qa13 ?ql13 ?qc13 ?qk13 ?qa14 ?ql14 ?qc14 ?qk14 ?qa15 ?ql15 ?qc15 ?qk15 ?qa16 ?ql16 ?qc16 ?qk16 ?qa17 ?ql17 ?qc17 ?qk17 ?qdist ?qz0 ?qz1 ?qz2 ?qz3 ?qz4 ?qz5 ?qz6 ?qz7 ?qz8 ?qz9 ?qz10 ?qz11 ?qz12 ?qz13 ?qz14 ?qz15
    (case qa0 => k_is)
    (case ql0 => k_is)
    (case qc0 => k_is)
    (case qk0 => k_is)
    (case qa1 => k_is)
    (case ql1 => k_is)
    (case qc1 => k_is)
    (case qk1 => k_is)
    (case qa2 => k_is)
    (case ql2 => k_is)
    (case qc2 => k_is)
    (case qk2 => k_is)
    (case qa3 => k_is)
    (case ql3 => k_is)
    (case qc3 => k_is)
    (case qk3 => k_is)
    (case qa4 => k_is)
    (case ql4 => k_is)
    (case qc4 => k_is)
    (case qk4 => k_is)
    (case qa5 => k_is)
    (case ql5 => k_is)
    (case qc5 => k_is)
    (case qk5 => k_is)
    (case qa6 => k_is)
    (case ql6 => k_is)
    (case qc6 => k_is)
    (case qk6 => k_is)
    (case qa7 => k_is)
    (case ql7 => k_is)
    (case qc7 => k_is)
    (case qk7 => k_is)
    (case qa8 => k_is)
    (case ql8 => k_is)
    (case qc8 => k_is)
    (case qk8 => k_is)
    (case qa9 => k_is)
    (case ql9 => k_is)
    (case qc9 => k_is)
    (case qk9 => k_is)
    (case qa10 => k_is)
    (case ql10 => k_is)
    (case qc10 => k_is)
    (case qk10 => k_is)
    (case qa11 => k_is)
    (case ql11 => k_is)
    (case qc11 => k_is)
    (case qk11 => k_is)
    (case qa12 => k_is)
    (case ql12 => k_is)
    (case qc12 => k_is)
    (case qk12 => k_is)
    (case qa13 => k_is)
    (case ql13 => k_is)
    (case qc13 => k_is)
    (case qk13 => k_is)
    (case qa14 => k_is)
    (case ql14 => k_is)
    (case qc14 => k_is)
    (case qk14 => k_is)
    (case qa15 => k_is)
    (case ql15 => k_is)
    (case qc15 => k_is)
    (case qk15 => k_is)
    (case qa16 => k_is)
    (case ql16 => k_is)
    (case qc16 => k_is)
    (case qk16 => k_is)
    (case qa17 => k_is)
    (case ql17 => k_is)
    (case qc17 => k_is)
    (case qk17 => k_is)
    (case qz0 => k_is)
    (case qz1 => k_is)
    (case qz2 => k_is)
    (case qz3 => k_is)
    (case qz4 => k_is)
    (case qz5 => k_is)
    (case qz6 => k_is)
    (case qz7 => k_is)
    (case qz8 => k_is)
    (case qz9 => k_is)
    (case qz10 => k_is)
    (case qz11 => k_is)
    (case qz12 => k_is)
    (case qz13 => k_is)
    (case qz14 => k_is)
    (case qz15 => k_is)
    (case qdist => decide)
    (case qtabs0 => intro P hP; cases hP)
#print axioms PySem.Challenge.cw_kindscarried_k63_what_registers_lead_to_holds

