import PyProof.Rows.All
import Wide.All
import OpenK.AllK
import Wide.FinOn
import HandS.ForMost
import HandS.Wide
import HandS.IsInst
import HandS.TupAny
import HandS.Deep
import HandS.SortInts
import PyProof.ReprRoads
import HandS.WideBits
import HandS.Lambda
import HandS.WordsExc
import HandS.Style
import HandS.Flow
import PyProof.ReprLen
import HandS.SetFor
import HandS.Conv
import HandS.Strs
import PySem.Challenge.RW_stillranges_k15_ranges_moved_turned_less
set_option Elab.async false
set_option linter.all false
set_option maxRecDepth 100000
set_option maxHeartbeats 4000000
/-! LiteA: data with lists by number, the store, what stands for what, and how expressions are read by a plain function of it. -/
namespace Lite
open PySem PySem.Spec PyProof.Rows L2
/-- a value: lists are numbers of cells, tuples are trees -/
inductive D where
  | ty (n : String) | kl (ds : List D)
  | non | bl (b : Bool) | int (i : Int) | str (x : Str) | tup (ds : List D) | ref (n : Nat)
inductive Cell where
  | lst (ds : List D) | frz (ds : List D)
abbrev Sto := List Cell
abbrev Env := List (Option D)
def Cell.items : Cell → List D
  | .lst ds => ds
  | .frz ds => ds
/-- a list of the written part -/
def KLst (K : PySem.W.Frag) (a : Addr) (xs : List V) : Prop := ∀ H : Hp, SqL K H a xs
/-- what a value stands for -/
inductive RD (K : PySem.W.Frag) (ρ : List Addr) (H : Hp) : V → D → Prop
  | ty (n : String) : RD K ρ H (.ty n) (.ty n)
  | kl {a : Addr} {xs : List V} {ds : List D} : KLst K a xs → (hl : xs.length = ds.length) → (∀ (i : Nat) x d, xs[i]? = some x → ds[i]? = some d → RD K ρ H x d) → RD K ρ H (.ref a) (.kl ds)
  | non : RD K ρ H .non .non
  | bl (b : Bool) : RD K ρ H (.bl b) (.bl b)
  | int (i : Int) : RD K ρ H (.int i) (.int i)
  | str (x : Str) : RD K ρ H (.str x) (.str x)
  | tup {a : Addr} {xs : List V} {ds : List D} : SqT K H a xs → (hl : xs.length = ds.length) → (∀ (i : Nat) x d, xs[i]? = some x → ds[i]? = some d → RD K ρ H x d) → RD K ρ H (.ref a) (.tup ds)
  | ref {n : Nat} {a : Addr} : ρ[n]? = some a → RD K ρ H (.ref a) (.ref n)
structure RDs (K : PySem.W.Frag) (ρ : List Addr) (H : Hp) (xs : List V) (ds : List D) : Prop where
  len : xs.length = ds.length
  at_ : ∀ (i : Nat) x d, xs[i]? = some x → ds[i]? = some d → RD K ρ H x d
def CellOk (K : PySem.W.Frag) (ρ : List Addr) (H : Hp) (a : Addr) : Cell → Prop
  | .lst ds => ∃ xs, H a = some (.lst xs) ∧ RDs K ρ H xs ds
  | .frz ds => ∃ xs o, H a = some (.frz o (.lst xs)) ∧ RDs K ρ H xs ds
structure Rel (K : PySem.W.Frag) (ρ : List Addr) (H : Hp) (S : Sto) : Prop where
  len : ρ.length = S.length
  nd : ρ.Nodup
  cell : ∀ (n : Nat) a c, ρ[n]? = some a → S[n]? = some c → CellOk K ρ H a c
structure Ext (ρ : List Addr) (H : Hp) (ρ' : List Addr) (H' : Hp) : Prop where
  pre : ∃ more, ρ' = ρ ++ more
  new : ∀ p, p ∈ ρ' → p ∉ ρ → H p = none
  keep : ∀ b o, H b = some o → b ∉ ρ → H' b = some o
theorem Ext.refl (ρ : List Addr) (H : Hp) : Ext ρ H ρ H := ⟨⟨[], by simp⟩, fun p h n => absurd h n, fun _ _ h _ => h⟩
theorem Ext.trans {ρ ρ1 ρ2 : List Addr} {H H1 H2 : Hp} (a : Ext ρ H ρ1 H1) (b : Ext ρ1 H1 ρ2 H2) : Ext ρ H ρ2 H2 := by
  obtain ⟨m1, e1⟩ := a.pre
  obtain ⟨m2, e2⟩ := b.pre
  refine ⟨⟨m1 ++ m2, by rw [e2, e1, List.append_assoc]⟩, fun p hp hn => ?_, fun c o hc hn => ?_⟩
  · by_cases h1 : p ∈ ρ1
    · exact a.new p h1 hn
    · have q := b.new p hp h1
      cases e : H p with
      | none => rfl
      | some o =>
        rw [a.keep p o e hn] at q
        cases q
  · have q := a.keep c o hc hn
    refine b.keep c o q fun z => ?_
    rw [a.new c z hn] at hc
    cases hc
theorem Ext.get {ρ ρ' : List Addr} {H H' : Hp} (e : Ext ρ H ρ' H') {n : Nat} {a : Addr} (h : ρ[n]? = some a) : ρ'[n]? = some a := by
  obtain ⟨m, rfl⟩ := e.pre
  rw [List.getElem?_append_left (List.getElem?_eq_some_iff.mp h).1]
  exact h
section
variable {K : PySem.W.Frag} {ρ ρ' ρ1 : List Addr} {H H' H1 : Hp} {S S' : Sto}
theorem Rel.at_ (r : Rel K ρ H S) {n : Nat} {c : Cell} (h : S[n]? = some c) : ∃ a, ρ[n]? = some a ∧ CellOk K ρ H a c := by
  have hl := (List.getElem?_eq_some_iff.mp h).1
  have hl' : n < ρ.length := by rw [r.len]; exact hl
  exact ⟨_, List.getElem?_eq_getElem hl', r.cell n _ c (List.getElem?_eq_getElem hl') h⟩
theorem Rel.of (r : Rel K ρ H S) {n : Nat} {a : Addr} (h : ρ[n]? = some a) : ∃ c, S[n]? = some c ∧ CellOk K ρ H a c := by
  have hl := (List.getElem?_eq_some_iff.mp h).1
  have hl' : n < S.length := by rw [← r.len]; exact hl
  exact ⟨_, List.getElem?_eq_getElem hl', r.cell n _ _ h (List.getElem?_eq_getElem hl')⟩
theorem CellOk.noT {a : Addr} {c : Cell} (h : CellOk K ρ H a c) (xs : List V) : ¬ Rd H a (.tup xs) := by
  intro q
  cases c with
  | lst ds =>
    obtain ⟨ys, e, _⟩ := h
    rcases q with q | ⟨o, q⟩ <;> rw [e] at q <;> cases q
  | frz ds =>
    obtain ⟨ys, o', e, _⟩ := h
    rcases q with q | ⟨o, q⟩ <;> rw [e] at q <;> cases q
theorem Rel.noT (r : Rel K ρ H S) {a : Addr} {xs : List V} (q : Rd H a (.tup xs)) : a ∉ ρ := by
  intro hm
  obtain ⟨n, hn⟩ := List.getElem?_of_mem hm
  obtain ⟨c, _, hc⟩ := r.of hn
  exact hc.noT xs q
theorem SqT.ext (r : Rel K ρ H S) (e : Ext ρ H ρ' H') {a : Addr} {xs : List V} (h : SqT K H a xs) : SqT K H' a xs := by
  rcases h with h | h
  · have hn := r.noT h
    rcases h with h | ⟨o, h⟩
    · exact .inl (.inl (e.keep _ _ h hn))
    · exact .inl (.inr ⟨o, e.keep _ _ h hn⟩)
  · exact .inr h
theorem RD.ext (r : Rel K ρ H S) (e : Ext ρ H ρ' H') {v : V} {d : D} (h : RD K ρ H v d) : RD K ρ' H' v d := by
  induction h with
  | ty n => exact .ty n
  | kl hs hl ha ih => exact .kl hs hl ih
  | non => exact .non
  | bl b => exact .bl b
  | int i => exact .int i
  | str x => exact .str x
  | tup hs hl ha ih => exact .tup (SqT.ext r e hs) hl ih
  | ref h => exact .ref (e.get h)
theorem RDs.ext (r : Rel K ρ H S) (e : Ext ρ H ρ' H') {xs : List V} {ds : List D} (h : RDs K ρ H xs ds) : RDs K ρ' H' xs ds := ⟨h.len, fun i x d a b => (h.at_ i x d a b).ext r e⟩
theorem RDs.nil : RDs K ρ H [] [] := ⟨rfl, fun i x d a _ => by simp at a⟩
theorem RDs.cons {x : V} {d : D} {xs : List V} {ds : List D} (h : RD K ρ H x d) (t : RDs K ρ H xs ds) : RDs K ρ H (x :: xs) (d :: ds) := by
  refine ⟨by simp [t.len], fun i y e a b => ?_⟩
  cases i with
  | zero =>
    simp at a b
    subst a; subst b
    exact h
  | succ i =>
    simp at a b
    exact t.at_ i y e a b
theorem RDs.append {xs ys : List V} {ds es : List D} (h : RDs K ρ H xs ds) (t : RDs K ρ H ys es) : RDs K ρ H (xs ++ ys) (ds ++ es) := by
  refine ⟨by simp [h.len, t.len], fun i y e a b => ?_⟩
  by_cases hi : i < xs.length
  · rw [List.getElem?_append_left hi] at a
    rw [List.getElem?_append_left (by rw [← h.len]; exact hi)] at b
    exact h.at_ i y e a b
  · rw [List.getElem?_append_right (by omega)] at a
    rw [List.getElem?_append_right (by rw [← h.len]; omega), ← h.len] at b
    exact t.at_ _ y e a b
theorem RDs.get {xs : List V} {ds : List D} (h : RDs K ρ H xs ds) {i : Nat} {d : D} (e : ds[i]? = some d) : ∃ x, xs[i]? = some x ∧ RD K ρ H x d := by
  have hl : i < xs.length := by rw [h.len]; exact (List.getElem?_eq_some_iff.mp e).1
  exact ⟨_, List.getElem?_eq_getElem hl, h.at_ i _ d (List.getElem?_eq_getElem hl) e⟩
theorem RDs.drop {xs : List V} {ds : List D} (h : RDs K ρ H xs ds) (k : Nat) : RDs K ρ H (xs.drop k) (ds.drop k) :=
  ⟨by simp [h.len], fun i x d a b => h.at_ _ x d (by rw [List.getElem?_drop] at a; exact a) (by rw [List.getElem?_drop] at b; exact b)⟩
theorem RDs.take {xs : List V} {ds : List D} (h : RDs K ρ H xs ds) (k : Nat) : RDs K ρ H (xs.take k) (ds.take k) := by
  refine ⟨by simp [h.len], fun i x d a b => ?_⟩
  rw [List.getElem?_take] at a b
  split at a
  · rename_i hi
    rw [if_pos hi] at b
    exact h.at_ i x d a b
  · cases a
theorem RDs.set {xs : List V} {ds : List D} (h : RDs K ρ H xs ds) (k : Nat) {x : V} {d : D} (hx : RD K ρ H x d) : RDs K ρ H (xs.set k x) (ds.set k d) := by
  refine ⟨by simp [h.len], fun i y e a b => ?_⟩
  rw [List.getElem?_set] at a b
  by_cases hk : k = i
  · rw [if_pos hk] at a b
    split at a
    · rename_i h1
      split at b
      · cases a; cases b; exact hx
      · cases b
    · cases a
  · rw [if_neg hk] at a b
    exact h.at_ i y e a b
theorem CellOk.ext (r : Rel K ρ H S) (e : Ext ρ H ρ' H') {a : Addr} {c : Cell} (he : H' a = H a) (h : CellOk K ρ H a c) : CellOk K ρ' H' a c := by
  cases c with
  | lst ds =>
    obtain ⟨xs, h1, h2⟩ := h
    exact ⟨xs, he.trans h1, h2.ext r e⟩
  | frz ds =>
    obtain ⟨xs, o, h1, h2⟩ := h
    exact ⟨xs, o, he.trans h1, h2.ext r e⟩
/-- a new thing that is no cell -/
theorem ext_new {p : Addr} {o : HO} (hp : H p = none) : Ext ρ H ρ (upd H p o) := ⟨⟨[], by simp⟩, fun q h n => absurd h n, fun b u h _ => by rw [upd_ne (ne_of_none h hp)]; exact h⟩
theorem Rel.notin (r : Rel K ρ H S) {p : Addr} (hp : H p = none) : p ∉ ρ := by
  intro hm
  obtain ⟨n, hn⟩ := List.getElem?_of_mem hm
  obtain ⟨c, _, hc⟩ := r.of hn
  cases c with
  | lst ds => obtain ⟨xs, e, _⟩ := hc; rw [hp] at e; cases e
  | frz ds => obtain ⟨xs, o, e, _⟩ := hc; rw [hp] at e; cases e
theorem Rel.newT (r : Rel K ρ H S) {p : Addr} {o : HO} (hp : H p = none) : Rel K ρ (upd H p o) S := by
  refine ⟨r.len, r.nd, fun n a c h1 h2 => (r.cell n a c h1 h2).ext r (ext_new hp) (upd_ne fun z => ?_)⟩
  rw [z] at h1
  exact r.notin hp (List.mem_of_getElem? h1)
/-- a new list -/
theorem ext_newL {p : Addr} {o : HO} (hp : H p = none) : Ext ρ H (ρ ++ [p]) (upd H p o) := by
  refine ⟨⟨[p], rfl⟩, fun q h n => ?_, fun b u h _ => by rw [upd_ne (ne_of_none h hp)]; exact h⟩
  rcases List.mem_append.mp h with h | h
  · exact absurd h n
  · rw [List.mem_singleton.mp h]; exact hp
theorem Rel.newL (r : Rel K ρ H S) {p : Addr} {xs : List V} {ds : List D} (hp : H p = none) (h : RDs K ρ H xs ds) : Rel K (ρ ++ [p]) (upd H p (.lst xs)) (S ++ [.lst ds]) := by
  have hn := r.notin hp
  have e : Ext ρ H (ρ ++ [p]) (upd H p (.lst xs)) := ext_newL hp
  refine ⟨by simp [r.len], ?_, fun n a c h1 h2 => ?_⟩
  · rw [List.nodup_append]
    refine ⟨r.nd, by simp, fun a ha b hb z => ?_⟩
    rw [List.mem_singleton] at hb
    rw [z, hb] at ha
    exact hn ha
  · by_cases hi : n < ρ.length
    · rw [List.getElem?_append_left hi] at h1
      rw [List.getElem?_append_left (by rw [← r.len]; exact hi)] at h2
      refine (r.cell n a c h1 h2).ext r e (upd_ne fun z => hn ?_)
      rw [← z]
      exact List.mem_of_getElem? h1
    · rw [List.getElem?_append_right (by omega)] at h1
      rw [List.getElem?_append_right (by rw [← r.len]; omega), ← r.len] at h2
      have e0 : n - ρ.length = 0 := by
        have := (List.getElem?_eq_some_iff.mp h1).1
        simp at this
        omega
      rw [e0] at h1 h2
      simp at h1 h2
      subst h1; subst h2
      exact ⟨xs, upd_same, h.ext r e⟩
/-- a list changed -/
theorem ext_mut {p : Addr} {o : HO} (hp : p ∈ ρ) : Ext ρ H ρ (upd H p o) := ⟨⟨[], by simp⟩, fun q h n => absurd h n, fun b u h hb => by rw [upd_ne (fun z => hb (by rw [z]; exact hp))]; exact h⟩
theorem Rel.mutL (r : Rel K ρ H S) {n : Nat} {p : Addr} {xs : List V} {ds : List D} (hp : ρ[n]? = some p) (h : RDs K ρ H xs ds) : Rel K ρ (upd H p (.lst xs)) (S.set n (.lst ds)) := by
  have e : Ext ρ H ρ (upd H p (.lst xs)) := ext_mut (List.mem_of_getElem? hp)
  refine ⟨by simp [r.len], r.nd, fun m a c h1 h2 => ?_⟩
  by_cases hm : n = m
  · subst hm
    rw [hp] at h1
    cases h1
    rw [List.getElem?_set_self (by rw [← r.len]; exact (List.getElem?_eq_some_iff.mp hp).1)] at h2
    cases h2
    exact ⟨xs, upd_same, h.ext r e⟩
  · rw [List.getElem?_set_ne hm] at h2
    refine (r.cell m a c h1 h2).ext r e (upd_ne fun z => hm ?_)
    rw [z] at h1
    exact (nodup_ix' r.nd hp h1)
where
  nodup_ix' {l : List Addr} (hN : l.Nodup) {i j : Nat} {x : Addr} (a : l[i]? = some x) (b : l[j]? = some x) : i = j := by
    obtain ⟨h1, e1⟩ := List.getElem?_eq_some_iff.mp a
    obtain ⟨h2, e2⟩ := List.getElem?_eq_some_iff.mp b
    exact (List.getElem_inj hN).mp (e1.trans e2.symm)
end
/-! ### the frame -/
structure EnvR (K : PySem.W.Frag) (ρ : List Addr) (H : Hp) (σ : L2.St) (env : Env) : Prop where
  len : σ.length = env.length
  at_ : ∀ (i : Nat) d, env[i]? = some (some d) → ∃ v, σ[i]? = some (some v) ∧ RD K ρ H v d
section
variable {K : PySem.W.Frag} {ρ ρ' : List Addr} {H H' : Hp} {S S' : Sto} {σ : L2.St} {env : Env}
theorem EnvR.ext (r : Rel K ρ H S) (e : Ext ρ H ρ' H') (h : EnvR K ρ H σ env) : EnvR K ρ' H' σ env := ⟨h.len, fun i d q => let ⟨v, a, b⟩ := h.at_ i d q; ⟨v, a, b.ext r e⟩⟩
theorem EnvR.set {i : Nat} {v : V} {d : D} (h : EnvR K ρ H σ env) (hv : RD K ρ H v d) : EnvR K ρ H (σ.set i (some v)) (env.set i (some d)) := by
  refine ⟨by simp [h.len], fun j e q => ?_⟩
  by_cases hj : i = j
  · subst hj
    have hi : i < env.length := by
      have := (List.getElem?_eq_some_iff.mp q).1
      simpa using this
    rw [List.getElem?_set_self hi] at q
    cases q
    exact ⟨v, List.getElem?_set_self (by rw [h.len]; exact hi), hv⟩
  · rw [List.getElem?_set_ne hj] at q
    rw [List.getElem?_set_ne hj]
    exact h.at_ j e q
end
/-! ### readings by functions -/
abbrev EF := Env → Sto → Option (D × Sto)
abbrev TF := Env → Sto → Option (Bool × Sto)
abbrev AF := Env → Sto → Option (List D × Sto)
def tE (K : PySem.W.Frag) (f : EF) : TE := fun σ H Q => ∃ ρ S env d S', Rel K ρ H S ∧ EnvR K ρ H σ env ∧ f env S = some (d, S') ∧
  ∀ ρ' H' v, Ext ρ H ρ' H' → Rel K ρ' H' S' → RD K ρ' H' v d → Q v H'
def tT (K : PySem.W.Frag) (f : TF) : TT := fun σ H Q => ∃ ρ S env b S', Rel K ρ H S ∧ EnvR K ρ H σ env ∧ f env S = some (b, S') ∧
  ∀ ρ' H', Ext ρ H ρ' H' → Rel K ρ' H' S' → Q b H'
def tA (K : PySem.W.Frag) (f : AF) : TA := fun σ H Q => ∃ ρ S env ds S', Rel K ρ H S ∧ EnvR K ρ H σ env ∧ f env S = some (ds, S') ∧
  ∀ ρ' H' vs, Ext ρ H ρ' H' → Rel K ρ' H' S' → RDs K ρ' H' vs ds → Q vs H'
theorem _root_.L2.PE.imp {X : Cx} {e : Expr} {t t' : TE} (h : PE X e t) (i : ∀ σ H Q, t' σ H Q → t σ H Q) : PE X e t' := ⟨fun pins s σ H Q I q => h.run pins s σ H Q I (i σ H Q q)⟩
theorem _root_.L2.PT.imp {X : Cx} {e : Expr} {t t' : TT} (h : PT X e t) (i : ∀ σ H Q, t' σ H Q → t σ H Q) : PT X e t' := ⟨fun pins s σ H Q I q => h.run pins s σ H Q I (i σ H Q q)⟩
theorem _root_.L2.PA.imp {X : Cx} {e : List Expr} {t t' : TA} (h : PA X e t) (i : ∀ σ H Q, t' σ H Q → t σ H Q) : PA X e t' := ⟨fun pos pins s σ H Q I q => h.run pos pins s σ H Q I (i σ H Q q)⟩
theorem _root_.L2.PS.imp {X : Cx} {e : Stmt} {t t' : TS} (h : PS X e t) (i : ∀ D σ H, t' D σ H → t D σ H) : PS X e t' := ⟨fun pins s σ H D I q => h.run pins s σ H D I (i D σ H q)⟩
theorem _root_.L2.PSs.imp {X : Cx} {e : List Stmt} {t t' : TS} (h : PSs X e t) (i : ∀ D σ H, t' D σ H → t D σ H) : PSs X e t' := ⟨fun pins s σ H D I q => h.run pins s σ H D I (i D σ H q)⟩
/-- run a part -/
theorem run_e {K : PySem.W.Frag} {f : EF} {ρ : List Addr} {H : Hp} {S S' : Sto} {σ : L2.St} {env : Env} {d : D} {R : VK} (r : Rel K ρ H S) (en : EnvR K ρ H σ env) (hf : f env S = some (d, S'))
    (h : ∀ ρ' H' v, Ext ρ H ρ' H' → Rel K ρ' H' S' → RD K ρ' H' v d → EnvR K ρ' H' σ env → R v H') : tE K f σ H R :=
  ⟨ρ, S, env, d, S', r, en, hf, fun ρ' H' v e r' hv => h ρ' H' v e r' hv (en.ext r e)⟩
theorem run_t {K : PySem.W.Frag} {f : TF} {ρ : List Addr} {H : Hp} {S S' : Sto} {σ : L2.St} {env : Env} {b : Bool} {R : Bool → Hp → Prop} (r : Rel K ρ H S) (en : EnvR K ρ H σ env) (hf : f env S = some (b, S'))
    (h : ∀ ρ' H', Ext ρ H ρ' H' → Rel K ρ' H' S' → EnvR K ρ' H' σ env → R b H') : tT K f σ H R :=
  ⟨ρ, S, env, b, S', r, en, hf, fun ρ' H' e r' => h ρ' H' e r' (en.ext r e)⟩
theorem run_a {K : PySem.W.Frag} {f : AF} {ρ : List Addr} {H : Hp} {S S' : Sto} {σ : L2.St} {env : Env} {ds : List D} {R : List V → Hp → Prop} (r : Rel K ρ H S) (en : EnvR K ρ H σ env) (hf : f env S = some (ds, S'))
    (h : ∀ ρ' H' vs, Ext ρ H ρ' H' → Rel K ρ' H' S' → RDs K ρ' H' vs ds → EnvR K ρ' H' σ env → R vs H') : tA K f σ H R :=
  ⟨ρ, S, env, ds, S', r, en, hf, fun ρ' H' v e r' hv => h ρ' H' v e r' hv (en.ext r e)⟩
/-! ### names, constants -/
def eVar (i : Nat) : EF := fun env S => match env[i]? with
  | some (some d) => some (d, S)
  | _ => none
def eC (d : D) : EF := fun _ S => some (d, S)
def eStuck : EF := fun _ _ => none
def tStuck : TF := fun _ _ => none
section
variable {X : Cx} {e a b c : Expr} {fa fb fc : EF} {pos : Pos}
theorem l_stuck : PE X e (tE X.K eStuck) := ⟨fun _ _ _ _ _ _ h => by
  obtain ⟨_, _, _, _, _, _, _, h, _⟩ := h
  cases h⟩
theorem lt_stuck : PT X e (tT X.K tStuck) := ⟨fun _ _ _ _ _ _ h => by
  obtain ⟨_, _, _, _, _, _, _, h, _⟩ := h
  cases h⟩
theorem l_var (i : Nat) {x : Str} (hN : X.N[i]? = some x := by rfl) (hv : Vis X.env.scope x := by first | exact Or.inl rfl | exact Or.inr (Or.inl rfl) | exact Or.inr (Or.inr rfl)) (hd : (x == ("__debug__" : Str)) = false := by decide)
    (hcd : (x == ("__classdict__" : Str)) = false := by decide) : PE X (.Name x pos) (tE X.K (eVar i)) := by
  refine (pe_var hN hv hd hcd).imp fun σ H Q h => ?_
  obtain ⟨ρ, S, env, d, S', r, en, hf, q⟩ := h
  unfold eVar at hf
  split at hf
  · rename_i d' he
    cases hf
    obtain ⟨v, h1, h2⟩ := en.at_ i _ he
    exact ⟨v, h1, q ρ H v (Ext.refl ρ H) r h2⟩
  · cases hf
theorem l_c {v : V} {d : D} (h : PE X e (tC v)) (hr : ∀ ρ H, RD X.K ρ H v d) : PE X e (tE X.K (eC d)) := h.imp fun σ H Q h => by
  obtain ⟨ρ, S, env, d', S', r, en, hf, q⟩ := h
  cases hf
  exact q ρ H v (Ext.refl ρ H) r (hr ρ H)
theorem l_int {i : Int} {j} : PE X (.Constant (.int i) j pos) (tE X.K (eC (.int i))) := l_c pe_int fun _ _ => .int i
theorem l_bl {i : Bool} {j} : PE X (.Constant (.bool i) j pos) (tE X.K (eC (.bl i))) := l_c pe_bl fun _ _ => .bl i
theorem l_non {j} : PE X (.Constant .none j pos) (tE X.K (eC .non)) := l_c pe_non fun _ _ => .non
theorem l_str {x : Str} {j} : PE X (.Constant (.str x) j pos) (tE X.K (eC (.str x))) := l_c pe_str fun _ _ => .str x
/-! ### operators of two -/
abbrev OF := D → D → Sto → Option (D × Sto)
def eBin (g : OF) (fa fb : EF) : EF := fun env S => match fa env S with
  | none => none
  | some (x, S1) => match fb env S1 with
    | none => none
    | some (y, S2) => g x y S2
/-- an operator's rule by data -/
def OkOp (K : PySem.W.Frag) (r : R2) (g : OF) : Prop := ∀ ρ H S S' x y d e z (Q : VK), Rel K ρ H S → RD K ρ H x d → RD K ρ H y e → g d e S = some (z, S') →
  (∀ ρ' H' v, Ext ρ H ρ' H' → Rel K ρ' H' S' → RD K ρ' H' v z → Q v H') → r x y H Q
theorem bin_imp {r : R2} {g : OF} (ho : OkOp X.K r g) (σ : L2.St) (H : Hp) (Q : VK) (h : tE X.K (eBin g fa fb) σ H Q) : tOp r (tE X.K fa) (tE X.K fb) σ H Q := by
  obtain ⟨ρ, S, env, d, S', r, en, hf, q⟩ := h
  unfold eBin at hf
  split at hf
  · cases hf
  · rename_i x S1 h1
    split at hf
    · cases hf
    · rename_i y S2 h2
      refine run_e r en h1 fun ρ1 H1 v1 e1 r1 hv1 en1 => run_e r1 en1 h2 fun ρ2 H2 v2 e2 r2 hv2 en2 => ?_
      exact ho ρ2 H2 S2 S' v1 v2 x y d Q r2 (hv1.ext r1 e2) hv2 hf fun ρ3 H3 v3 e3 r3 hv3 => q ρ3 H3 v3 ((e1.trans e2).trans e3) r3 hv3
theorem l_bin {op : Operator} {r : R2} {g : OF} (hop : OpR X (binaryOp op) r) (ho : OkOp X.K r g) (ha : PE X a (tE X.K fa)) (hb : PE X b (tE X.K fb)) : PE X (.BinOp a op b pos) (tE X.K (eBin g fa fb)) :=
  (pe_op hop ha hb).imp (bin_imp ho)
theorem l_cmp {op : CmpOp} {r : R2} {g : OF} (hop : OpR X (compareOp op) r) (ho : OkOp X.K r g) (ha : PE X a (tE X.K fa)) (hb : PE X b (tE X.K fb)) (hm : behindInMarks op b = false) : PE X (.Compare a [op] [b] pos) (tE X.K (eBin g fa fb)) :=
  (pe_cmpR hop ha hb hm).imp (bin_imp ho)
/-- a value as a test -/
def truB (f : EF) : TF := fun env S => match f env S with
  | some (.bl k, S') => some (k, S')
  | _ => none
theorem truB_imp {f : EF} (σ : L2.St) (H : Hp) (Q : Bool → Hp → Prop) (h : tT X.K (truB f) σ H Q) : tE X.K f σ H fun x H' => ∃ k, x = .bl k ∧ Q k H' := by
  obtain ⟨ρ, S, env, b, S', r, en, hf, q⟩ := h
  unfold truB at hf
  split at hf
  · rename_i k S1 h1
    cases hf
    refine run_e r en h1 fun ρ1 H1 v1 e1 r1 hv1 en1 => ?_
    cases hv1
    exact ⟨_, rfl, q ρ1 H1 e1 r1⟩
  · cases hf
theorem lt_val {f : EF} (h : PE X e (tE X.K f)) (he : ∀ whole, isTrue e X.env whole = (do let v ← whole; standAt e.pos; holding [v] (truthy v)) := by intro _; rfl) : PT X e (tT X.K (truB f)) :=
  (pt_val h he).imp truB_imp
theorem lt_cmp {op : CmpOp} {r : R2} {g : OF} (hop : OpR X (compareOp op) r) (ho : OkOp X.K r g) (ha : PE X a (tE X.K fa)) (hb : PE X b (tE X.K fb)) (hm : behindInMarks op b = false) : PT X (.Compare a [op] [b] pos) (tT X.K (truB (eBin g fa fb))) := by
  refine (pt_cmpR hop ha hb hm).imp fun σ H Q h => ?_
  have h2 := truB_imp σ H Q h
  exact bin_imp ho σ H _ h2
end
end Lite
/-! LiteB: data as trees of the library, and the operators. -/
namespace Lite
open PySem PySem.Spec PyProof.Rows L2
/-! ### trees -/
def mapO {α β : Type} (f : α → Option β) : List α → Option (List β)
  | [] => some []
  | x :: r => match f x with
    | none => none
    | some y => match mapO f r with
      | none => none
      | some ys => some (y :: ys)
def toP : Nat → Sto → D → Option PyData
  | 0, _, _ => none
  | _ + 1, _, .ty _ => none
  | _ + 1, _, .kl _ => none
  | _ + 1, _, .non => some .none
  | _ + 1, _, .bl b => some (.bool b)
  | _ + 1, _, .int i => some (.int i)
  | _ + 1, _, .str x => some (.str x)
  | n + 1, S, .tup ds => match mapO (toP n S) ds with
    | some ps => some (.tuple ps)
    | none => none
  | n + 1, S, .ref k => match S[k]? with
    | none => none
    | some c => match mapO (toP n S) c.items with
      | some ps => some (.list ps)
      | none => none
theorem mapO_cons {α β : Type} {f : α → Option β} {x : α} {r : List α} {zs : List β} (h : mapO f (x :: r) = some zs) : ∃ y ys, f x = some y ∧ mapO f r = some ys ∧ zs = y :: ys := by
  unfold mapO at h
  split at h
  · cases h
  · rename_i y hy
    split at h
    · cases h
    · rename_i ys hys
      cases h
      exact ⟨y, ys, hy, hys, rfl⟩
section
variable {K : PySem.W.Frag} {ρ ρ' : List Addr} {H H' : Hp} {S S' : Sto}
theorem Rel.seq (r : Rel K ρ H S) {k : Nat} {a : Addr} {c : Cell} (h : ρ[k]? = some a) (hc : S[k]? = some c) : ∃ xs, SqL K H a xs ∧ RDs K ρ H xs c.items := by
  have q := r.cell k a c h hc
  cases c with
  | lst ds => obtain ⟨xs, e, q⟩ := q; exact ⟨xs, .inl (.inl e), q⟩
  | frz ds => obtain ⟨xs, o, e, q⟩ := q; exact ⟨xs, .inl (.inr ⟨o, e⟩), q⟩
theorem all_dp {f : D → Option PyData} (ih : ∀ v d p, RD K ρ H v d → f d = some p → Dp K H v p) : ∀ {xs : List V} {ds : List D} {ps : List PyData}, RDs K ρ H xs ds → mapO f ds = some ps → DpAll K H xs ps
  | [], [], ps, _, h => by
    cases h
    exact .nil
  | [], _ :: _, _, q, _ => by have := q.len; simp at this
  | _ :: _, [], _, q, _ => by have := q.len; simp at this
  | x :: xs, d :: ds, ps, q, h => by
    obtain ⟨y, ys, h1, h2, rfl⟩ := mapO_cons h
    refine .cons (ih x d y (q.at_ 0 x d rfl rfl) h1) (all_dp ih ⟨by have := q.len; simpa using this, fun i x' d' a b => q.at_ (i + 1) x' d' a b⟩ h2)
theorem dp_of (r : Rel K ρ H S) : ∀ (n : Nat) (v : V) (d : D) (p : PyData), RD K ρ H v d → toP n S d = some p → Dp K H v p
  | 0, _, _, _, _, h => by cases h
  | n + 1, v, d, p, hv, h => by
    cases hv with
    | ty n => cases h
    | kl hs hl ha => cases h
    | non => cases h; exact .non
    | bl b => cases h; exact .bl b
    | int i => cases h; exact .int i
    | str x => cases h; exact .str x
    | tup hs hl ha =>
      unfold toP at h
      split at h
      · rename_i ps hp
        cases h
        exact .tup hs (all_dp (dp_of r n) ⟨hl, ha⟩ hp)
      · cases h
    | ref hr =>
      unfold toP at h
      split at h
      · cases h
      · rename_i c hc
        split at h
        · rename_i ps hp
          cases h
          obtain ⟨xs, h1, h2⟩ := r.seq hr hc
          exact .lst h1 (all_dp (dp_of r n) h2 hp)
        · cases h
end
/-! a bound of a text's length -/
mutual
def sz : PyData → Nat
  | .none => 4
  | .bool _ => 5
  | .int _ => 1000
  | .str x => 12 * x.length + 2
  | .list xs => szAll xs + 4
  | .tuple xs => szAll xs + 4
  | .dict _ => 0
def szAll : List PyData → Nat
  | [] => 0
  | x :: xs => sz x + 2 + szAll xs
end
/-! ### operators by data -/
def gArith (f : Int → Int → Option Int) : OF := fun x y S => match x, y with
  | .int i, .int j => match f i j with
    | some k => some (.int k, S)
    | none => none
  | _, _ => none
def gCmpI (f : Int → Int → Bool) : OF := fun x y S => match x, y with
  | .int i, .int j => some (.bl (f i j), S)
  | _, _ => none
section
variable {K : PySem.W.Frag}
theorem ok_arith {f : Int → Int → Option Int} {C : Int → Int → Prop} {g : Int → Int → Int} (h : ∀ i j k, f i j = some k → C i j ∧ k = g i j) : OkOp K (rI C fun i j => .int (g i j)) (gArith f) := by
  intro ρ H S S' x y d e z Q r hx hy hg q
  unfold gArith at hg
  split at hg
  · rename_i i j
    split at hg
    · rename_i k hk
      cases hg
      cases hx; cases hy
      obtain ⟨hc, rfl⟩ := h _ _ _ hk
      exact ⟨_, _, rfl, rfl, hc, q ρ H _ (Ext.refl ρ H) r (.int _)⟩
    · cases hg
  · cases hg
theorem ok_arith0 {f : Int → Int → Option Int} {g : Int → Int → Int} (h : ∀ i j k, f i j = some k → k = g i j) : OkOp K (rI0 fun i j => .int (g i j)) (gArith f) := by
  intro ρ H S S' x y d e z Q r hx hy hg q
  unfold gArith at hg
  split at hg
  · rename_i i j
    split at hg
    · rename_i k hk
      cases hg
      cases hx; cases hy
      obtain rfl := h _ _ _ hk
      exact ⟨_, _, rfl, rfl, q ρ H _ (Ext.refl ρ H) r (.int _)⟩
    · cases hg
  · cases hg
theorem ok_cmpI {f : Int → Int → Bool} : OkOp K (rI0 fun i j => .bl (f i j)) (gCmpI f) := by
  intro ρ H S S' x y d e z Q r hx hy hg q
  unfold gCmpI at hg
  split at hg
  · cases hg
    cases hx; cases hy
    exact ⟨_, _, rfl, rfl, q ρ H _ (Ext.refl ρ H) r (.bl _)⟩
  · cases hg
theorem ok_or {r r' : R2} {g g' : OF} (h : OkOp K r g) (h' : OkOp K r' g') : OkOp K (fun x y H Q => r x y H Q ∨ r' x y H Q) (fun x y S => match g x y S with
    | some z => some z
    | none => g' x y S) := by
  intro ρ H S S' x y d e z Q rl hx hy hg q
  dsimp only at hg
  split at hg
  · rename_i z' hz
    cases hg
    exact .inl (h ρ H S S' x y d e z Q rl hx hy hz q)
  · exact .inr (h' ρ H S S' x y d e z Q rl hx hy hg q)
end
def lim : Nat := 10000000
theorem lim_le {n : Nat} (h : n ≤ lim) : n ≤ sizeLine := Nat.le_trans h (by decide)
theorem lim_lt {n : Nat} (h : n ≤ lim) : n < sizeLine := Nat.lt_of_le_of_lt h (by decide)
/-- + -/
def gAdd : OF := fun x y S => match x, y with
  | .int i, .int j => some (.int (i + j), S)
  | .str i, .str j => if i.length + j.length ≤ lim then some (.str (i ++ j), S) else none
  | .tup ds, .tup es => if ds.length + es.length ≤ lim then some (.tup (ds ++ es), S) else none
  | .ref a, .ref b => match S[a]?, S[b]? with
    | some (.lst ds), some (.lst es) => if ds.length + es.length ≤ lim then some (.ref S.length, S ++ [.lst (ds ++ es)]) else none
    | _, _ => none
  | _, _ => none
def rAdd (K : PySem.W.Frag) : R2 := fun x y H Q => ((∃ i j, x = .int i ∧ y = .int j ∧ Q (.int (i + j)) H) ∨ (∃ i j, x = .str i ∧ y = .str j ∧ i.length + j.length ≤ sizeLine ∧ Q (.str (i ++ j)) H)) ∨ (rCatA K x y H Q ∨ rCat x y H Q)
theorem op_addL {X : Cx} : OpR X (binaryOp .Add) (rAdd X.K) := OpR.or (OpR.or op_add op_add_str) (OpR.or op_catA op_cat)
theorem rds_ne {K : PySem.W.Frag} {ρ : List Addr} {H : Hp} {xs : List V} {ds : List D} (h : RDs K ρ H xs ds) (e : xs = []) : ds = [] := by
  have := h.len
  rw [e] at this
  exact List.eq_nil_of_length_eq_zero this.symm
theorem ok_add {K : PySem.W.Frag} : OkOp K (rAdd K) gAdd := by
  intro ρ H S S' x y d e z Q r hx hy hg q
  unfold gAdd at hg
  split at hg
  · cases hg
    cases hx; cases hy
    exact .inl (.inl ⟨_, _, rfl, rfl, q ρ H _ (Ext.refl ρ H) r (.int _)⟩)
  · split at hg
    · rename_i hl
      cases hg
      cases hx; cases hy
      exact .inl (.inr ⟨_, _, rfl, rfl, lim_le hl, q ρ H _ (Ext.refl ρ H) r (.str _)⟩)
    · cases hg
  · split at hg
    · rename_i ds es hl
      cases hg
      cases hx with
      | tup hs hlen ha =>
        rename_i a xs
        cases hy with
        | tup hs' hlen' ha' =>
          rename_i b ys
          have R1 : RDs K ρ H xs ds := ⟨hlen, ha⟩
          have R2 : RDs K ρ H ys es := ⟨hlen', ha'⟩
          refine .inr (.inl ⟨a, b, xs, ys, rfl, rfl, hs, hs', lim_le (by rw [hlen, hlen']; exact hl), fun e1 => ?_, fun _ e2 => ?_, fun _ _ p hp => ?_⟩)
          · refine q ρ H _ (Ext.refl ρ H) r ?_
            rw [rds_ne R1 e1]
            exact .tup hs' hlen' ha'
          · refine q ρ H _ (Ext.refl ρ H) r ?_
            rw [rds_ne R2 e2, List.append_nil]
            exact .tup hs hlen ha
          · have e := ext_new (ρ := ρ) (o := .tup (xs ++ ys)) hp
            have RR := (R1.append R2).ext r e
            exact q ρ _ _ e (r.newT hp) (.tup (SqT.of upd_same) RR.len RR.at_)
    · cases hg
  · split at hg
    · rename_i na nb ds es h1 h2
      split at hg
      · rename_i hl
        cases hg
        cases hx with
        | ref ea =>
          rename_i a
          cases hy with
          | ref eb =>
            rename_i b
            obtain ⟨xs, k1, k2⟩ := r.cell _ _ _ ea h1
            obtain ⟨ys, k3, k4⟩ := r.cell _ _ _ eb h2
            refine .inr (.inr ⟨a, b, xs, ys, rfl, rfl, k1, k3, lim_le (by rw [k2.len, k4.len]; exact hl), fun p hp => ?_⟩)
            refine q _ _ _ (ext_newL hp) (r.newL hp (k2.append k4)) (.ref ?_)
            rw [← r.len]
            simp
      · cases hg
    · cases hg
  · cases hg
/-! ### numbers -/
def fMul (i j : Int) : Option Int := if i.natAbs.log2 + j.natAbs.log2 < 1000000 then some (i * j) else none
def fMod (i j : Int) : Option Int := if 0 < j then some (i % j) else none
def fDiv (i j : Int) : Option Int := if 0 < j ∧ j.natAbs.log2 < 9000 then some (i / j) else none
def fPow (i j : Int) : Option Int := if 0 ≤ j ∧ (Builtin.Int.intBits i : Int) * j ≤ 1000000 then some (i ^ j.toNat) else none
def CPowW (i j : Int) : Prop := 0 ≤ j ∧ (Builtin.Int.intBits i : Int) * j ≤ 2 ^ 27
section
variable {X : Cx} {K : PySem.W.Frag}
theorem op_powW : OpR X (binaryOp .Pow) (rI CPowW fun i j => .int (i ^ j.toNat)) := opI fun _ _ _ _ _ _ _ hc q => pow_int hc.1 hc.2 q
theorem ok_sub : OkOp K (rI0 fun i j => .int (i - j)) (gArith fun i j => some (i - j)) := ok_arith0 fun i j k h => (Option.some.inj h).symm
theorem ok_mul : OkOp K (rI CMulW fun i j => .int (i * j)) (gArith fMul) := ok_arith fun i j k h => by
  unfold fMul at h
  split at h
  · rename_i hc; cases h; exact ⟨hc, rfl⟩
  · cases h
theorem ok_mod : OkOp K (rI (fun _ j => 0 < j) fun i j => .int (i % j)) (gArith fMod) := ok_arith fun i j k h => by
  unfold fMod at h
  split at h
  · rename_i hc; cases h; exact ⟨hc, rfl⟩
  · cases h
theorem ok_div : OkOp K (rI CDivW fun i j => .int (i / j)) (gArith fDiv) := ok_arith fun i j k h => by
  unfold fDiv at h
  split at h
  · rename_i hc; cases h; exact ⟨hc, rfl⟩
  · cases h
theorem ok_pow : OkOp K (rI CPowW fun i j => .int (i ^ j.toNat)) (gArith fPow) := ok_arith fun i j k h => by
  unfold fPow at h
  split at h
  · rename_i hc; cases h; exact ⟨⟨hc.1, Int.le_trans hc.2 (by decide)⟩, rfl⟩
  · cases h
end
/-! ### == of data of any depth -/
def gEqd (neg : Bool) : OF := fun x y S => match toP 60 S x, toP 60 S y with
  | some p, some q => if SeqAt.shaped p && SeqAt.shaped q then some (.bl (if neg then !PyData.eqv p q else PyData.eqv p q), S) else none
  | _, _ => none
def gEqv (neg : Bool) : OF := fun x y S => match x, y with
  | .str a, .str b => some (.bl (if neg then !decide (a = b) else decide (a = b)), S)
  | _, _ => gEqd neg x y S
def rEqA (K : PySem.W.Frag) : R2 := fun x y H Q => rEq x y H Q ∨ rEqD K x y H Q
def rNeA (K : PySem.W.Frag) : R2 := fun x y H Q => rNe x y H Q ∨ rNeD K x y H Q
section
variable {X : Cx} {K : PySem.W.Frag}
theorem op_eqA (hu : X.A.units + 64 < cLine) : OpR X (compareOp .Eq) (rEqA X.K) := OpR.or op_eq (op_eqD hu)
theorem op_neA (hu : X.A.units + 64 < cLine) : OpR X (compareOp .NotEq) (rNeA X.K) := OpR.or op_ne (op_neD hu)
theorem dec_strV {a b : Str} : decide (V.str a = V.str b) = decide (a = b) := by
  rw [Bool.eq_iff_iff]
  simp
theorem ok_eqd : OkOp K (rEqD K) (gEqd false) := by
  intro ρ H S S' x y d e z Q r hx hy hg q
  unfold gEqd at hg
  split at hg
  · rename_i p p' h1 h2
    split at hg
    · rename_i hs
      cases hg
      rw [Bool.and_eq_true] at hs
      exact ⟨p, p', dp_of r _ x d p hx h1, dp_of r _ y e p' hy h2, hs.1, hs.2, q ρ H _ (Ext.refl ρ H) r (.bl _)⟩
    · cases hg
  · cases hg
theorem ok_ned : OkOp K (rNeD K) (gEqd true) := by
  intro ρ H S S' x y d e z Q r hx hy hg q
  unfold gEqd at hg
  split at hg
  · rename_i p p' h1 h2
    split at hg
    · rename_i hs
      cases hg
      rw [Bool.and_eq_true] at hs
      exact ⟨p, p', dp_of r _ x d p hx h1, dp_of r _ y e p' hy h2, hs.1, hs.2, q ρ H _ (Ext.refl ρ H) r (.bl _)⟩
    · cases hg
  · cases hg
theorem ok_eqv : OkOp K (rEqA K) (gEqv false) := by
  intro ρ H S S' x y d e z Q r hx hy hg q
  unfold gEqv at hg
  split at hg
  · rename_i a b
    cases hx; cases hy; cases hg
    refine .inl ⟨rfl, ?_⟩
    rw [dec_strV]
    exact q ρ H _ (Ext.refl ρ H) r (.bl _)
  · exact .inr (ok_eqd ρ H S S' x y d e z Q r hx hy hg q)
theorem ok_nev : OkOp K (rNeA K) (gEqv true) := by
  intro ρ H S S' x y d e z Q r hx hy hg q
  unfold gEqv at hg
  split at hg
  · rename_i a b
    cases hx; cases hy; cases hg
    refine .inl ⟨rfl, ?_⟩
    rw [dec_strV]
    exact q ρ H _ (Ext.refl ρ H) r (.bl _)
  · exact .inr (ok_ned ρ H S S' x y d e z Q r hx hy hg q)
end
/-! ### is None -/
def isNon : D → Bool
  | .non => true
  | _ => false
def gIsN (neg : Bool) : OF := fun x y S => match y with
  | .non => some (.bl (if neg then !isNon x else isNon x), S)
  | _ => none
section
variable {X : Cx} {K : PySem.W.Frag}
theorem rd_non {ρ : List Addr} {H : Hp} {x : V} {d : D} (h : RD K ρ H x d) : decide (x = .non) = isNon d := by
  cases h <;> simp [isNon]
theorem ok_isN : OkOp K (fun x y H Q => y = .non ∧ Q (.bl (decide (x = .non))) H) (gIsN false) := by
  intro ρ H S S' x y d e z Q r hx hy hg q
  unfold gIsN at hg
  split at hg
  · cases hg
    cases hy
    refine ⟨rfl, ?_⟩
    rw [rd_non hx]
    exact q ρ H _ (Ext.refl ρ H) r (.bl _)
  · cases hg
theorem ok_notN : OkOp K (fun x y H Q => y = .non ∧ Q (.bl (!decide (x = .non))) H) (gIsN true) := by
  intro ρ H S S' x y d e z Q r hx hy hg q
  unfold gIsN at hg
  split at hg
  · cases hg
    cases hy
    refine ⟨rfl, ?_⟩
    rw [rd_non hx]
    exact q ρ H _ (Ext.refl ρ H) r (.bl _)
  · cases hg
end
/-! ### in a list or tuple of flat things -/
def flatD : D → Bool
  | .non | .bl _ | .int _ | .str _ => true
  | _ => false
def eqD : D → D → Bool
  | .non, .non => true
  | .bl a, .bl b => a == b
  | .bl a, .int b => (if a then 1 else 0) == b
  | .int a, .bl b => a == (if b then 1 else 0)
  | .int a, .int b => a == b
  | .str a, .str b => a == b
  | _, _ => false
def itemsOf (S : Sto) : D → Option (List D)
  | .tup ds => some ds
  | .kl ds => some ds
  | .ref k => match S[k]? with
    | some c => some c.items
    | none => none
  | _ => none
def gIn (neg : Bool) : OF := fun x y S => match itemsOf S y with
  | some ds => if flatD x && ds.all flatD then some (.bl (if neg then !(ds.any fun d => eqD d x) else ds.any fun d => eqD d x), S) else none
  | none => none
section
variable {X : Cx} {K : PySem.W.Frag} {ρ : List Addr} {H : Hp} {S : Sto}
theorem flat_rd {x : V} {d : D} (h : RD K ρ H x d) : flatV x = flatD d := by cases h <;> rfl
theorem eq_rd {x y : V} {d e : D} (h : RD K ρ H x d) (h' : RD K ρ H y e) : eqV x y = eqD d e := by
  cases h <;> cases h' <;> rfl
theorem all_rd : ∀ {xs : List V} {ds : List D}, RDs K ρ H xs ds → xs.all flatV = ds.all flatD
  | [], [], _ => rfl
  | [], _ :: _, q => by have := q.len; simp at this
  | _ :: _, [], q => by have := q.len; simp at this
  | x :: xs, d :: ds, q => by
    rw [List.all_cons, List.all_cons, flat_rd (q.at_ 0 x d rfl rfl), all_rd (xs := xs) (ds := ds) ⟨by have := q.len; simpa using this, fun i x' d' a b => q.at_ (i + 1) x' d' a b⟩]
theorem any_rd {y : V} {e : D} (hy : RD K ρ H y e) : ∀ {xs : List V} {ds : List D}, RDs K ρ H xs ds → (xs.any fun z => eqV z y) = ds.any fun z => eqD z e
  | [], [], _ => rfl
  | [], _ :: _, q => by have := q.len; simp at this
  | _ :: _, [], q => by have := q.len; simp at this
  | x :: xs, d :: ds, q => by
    rw [List.any_cons, List.any_cons, eq_rd (q.at_ 0 x d rfl rfl) hy, any_rd hy (xs := xs) (ds := ds) ⟨by have := q.len; simpa using this, fun i x' d' a b => q.at_ (i + 1) x' d' a b⟩]
theorem items_rd (r : Rel K ρ H S) {y : V} {e : D} {ds : List D} (hy : RD K ρ H y e) (h : itemsOf S e = some ds) : ∃ p xs, y = .ref p ∧ (SqL K H p xs ∨ SqT K H p xs) ∧ RDs K ρ H xs ds := by
  cases hy with
  | tup hs hl ha => cases h; exact ⟨_, _, rfl, .inr hs, hl, ha⟩
  | kl hs hl ha => cases h; exact ⟨_, _, rfl, .inl (hs _), hl, ha⟩
  | ref hr =>
    simp only [itemsOf] at h
    split at h
    · rename_i c hc
      cases h
      obtain ⟨xs, h1, h2⟩ := r.seq hr hc
      exact ⟨_, xs, rfl, .inl h1, h2⟩
    · cases h
  | _ => cases h
theorem ok_in (neg : Bool) : OkOp K (rIn K neg) (gIn neg) := by
  intro ρ H S S' x y d e z Q r hx hy hg q
  unfold gIn at hg
  split at hg
  · rename_i ds hd
    split at hg
    · rename_i hf
      cases hg
      rw [Bool.and_eq_true] at hf
      obtain ⟨p, xs, rfl, hs, hr⟩ := items_rd r hy hd
      refine ⟨p, xs, rfl, hs, (flat_rd hx).trans hf.1, (all_rd hr).trans hf.2, ?_⟩
      unfold inV
      rw [any_rd hx hr]
      exact q ρ H _ (Ext.refl ρ H) r (.bl _)
    · cases hg
  · cases hg
end
end Lite
/-! LiteC: arguments, displays, built-ins, subscripts, slices, methods, truth. -/
namespace Lite
open PySem PySem.Spec PyProof.Rows L2
/-! ### arguments -/
def aNil : AF := fun _ S => some ([], S)
def aCons (f : EF) (g : AF) : AF := fun env S => match f env S with
  | none => none
  | some (d, S1) => match g env S1 with
    | none => none
    | some (ds, S2) => some (d :: ds, S2)
abbrev CF := List D → Sto → Option (D × Sto)
def eCall (g : CF) (fa : AF) : EF := fun env S => match fa env S with
  | none => none
  | some (ds, S1) => g ds S1
def OkCall (K : PySem.W.Frag) (r : List V → Hp → VK → Prop) (g : CF) : Prop := ∀ ρ H S S' vs ds z (Q : VK), Rel K ρ H S → RDs K ρ H vs ds → g ds S = some (z, S') →
  (∀ ρ' H' v, Ext ρ H ρ' H' → Rel K ρ' H' S' → RD K ρ' H' v z → Q v H') → r vs H Q
section
variable {X : Cx} {e a b : Expr} {es : List Expr} {fe fa fb : EF} {fs : AF} {pos p apos : Pos}
theorem la_nil : PA X [] (tA X.K aNil) := pa_nil.imp fun σ H Q h => by
  obtain ⟨ρ, S, env, ds, S', r, en, hf, q⟩ := h
  cases hf
  exact q ρ H [] (Ext.refl ρ H) r RDs.nil
theorem cons_imp (σ : L2.St) (H : Hp) (Q : List V → Hp → Prop) (h : tA X.K (aCons fe fs) σ H Q) : tCons (tE X.K fe) (tA X.K fs) σ H Q := by
  obtain ⟨ρ, S, env, ds, S', r, en, hf, q⟩ := h
  unfold aCons at hf
  split at hf
  · cases hf
  · rename_i d S1 h1
    split at hf
    · cases hf
    · rename_i ds' S2 h2
      cases hf
      refine run_e r en h1 fun ρ1 H1 v1 e1 r1 hv1 en1 => run_a r1 en1 h2 fun ρ2 H2 vs2 e2 r2 hv2 en2 => ?_
      exact q ρ2 H2 _ (e1.trans e2) r2 (.cons (hv1.ext r1 e2) hv2)
theorem la_cons (ha : PE X e (tE X.K fe)) (hr : PA X es (tA X.K fs)) (hs : starEach (e :: es) X.env = (false, eval e X.env) :: starEach es X.env := by rfl) : PA X (e :: es) (tA X.K (aCons fe fs)) :=
  (pa_cons ha hr hs).imp cons_imp
/-- a call's arguments, then its rule -/
theorem call_imp {r : List V → Hp → VK → Prop} {g : CF} (ho : OkCall X.K r g) (σ : L2.St) (H : Hp) (Q : VK) (h : tE X.K (eCall g fs) σ H Q) : tA X.K fs σ H fun vs H1 => r vs H1 Q := by
  obtain ⟨ρ, S, env, d, S', r1, en, hf, q⟩ := h
  unfold eCall at hf
  split at hf
  · cases hf
  · rename_i ds S1 h1
    refine run_a r1 en h1 fun ρ1 H1 vs e1 r2 hv en1 => ?_
    exact ho ρ1 H1 S1 S' vs ds d Q r2 hv hf fun ρ2 H2 v e2 r3 hv2 => q ρ2 H2 v (e1.trans e2) r3 hv2
theorem l_callB {id : String} {x : Str} {r : List V → Hp → VK → Prop} {g : CF} (hc : CallR X (.builtin id) r) (ho : OkCall X.K r g) (hg : Gl X x) (hm : X.mg x = none) (hv : bootBuiltins x = some (.builtin id)) (ha : PA X (e :: es) (tA X.K fs)) (hn : x ≠ "__name__" := by decide) (hdb : (x == ("__debug__" : Str)) = false := by decide)
    (he : starEach (e :: es) X.env = (false, eval e X.env) :: starEach es X.env := by rfl) (hpl : (backTo pos (starEach es X.env)).any (·.1) = false := by rfl) : PE X (.Call (.Name x p) (e :: es) [] pos) (tE X.K (eCall g fs)) :=
  (pe_callB hc hg hm hv ha hn hdb he hpl).imp (call_imp ho)
theorem l_callTy {id : String} {x : Str} {r : List V → Hp → VK → Prop} {g : CF} (hc : CallR X (.type id) r) (ho : OkCall X.K r g) (hg : Gl X x) (hm : X.mg x = none) (hv : bootBuiltins x = some (.type id)) (ha : PA X (e :: es) (tA X.K fs)) (hn : x ≠ "__name__" := by decide) (hdb : (x == ("__debug__" : Str)) = false := by decide)
    (he : starEach (e :: es) X.env = (false, eval e X.env) :: starEach es X.env := by rfl) (hpl : (backTo pos (starEach es X.env)).any (·.1) = false := by rfl) : PE X (.Call (.Name x p) (e :: es) [] pos) (tE X.K (eCall g fs)) :=
  (pe_callTy hc hg hm hv ha hn hdb he hpl).imp (call_imp ho)
theorem l_ty {n : String} {x : Str} (hg : Gl X x) (hm : X.mg x = none) (hv : bootBuiltins x = some (.type n)) (hn : x ≠ "__name__" := by decide) (hd : (x == ("__debug__" : Str)) = false := by decide) : PE X (.Name x pos) (tE X.K (eC (.ty n))) :=
  l_c (pe_bltn hg hm hv (v := .ty n) rfl hn hd) fun _ _ => .ty n
/-! displays -/
def cTup : CF := fun ds S => if ds.length ≤ lim then some (.tup ds, S) else none
def cLst : CF := fun ds S => if ds.length ≤ lim then some (.ref S.length, S ++ [.lst ds]) else none
theorem l_tup {x1} (h : PA X es (tA X.K fs)) : PE X (.Tuple es x1 pos) (tE X.K (eCall cTup fs)) := (pe_tup h).imp fun σ H Q q => call_imp (r := fun xs H1 Q => xs.length ≤ sizeLine ∧ ∀ p, H1 p = none → Q (.ref p) (upd H1 p (.tup xs))) (fun ρ H S S' vs ds z Q r hv hg q => by
  unfold cTup at hg
  split at hg
  · rename_i hl
    cases hg
    refine ⟨lim_le (by rw [hv.len]; exact hl), fun p hp => ?_⟩
    have e := ext_new (ρ := ρ) (o := .tup vs) hp
    have hv2 := hv.ext r e
    exact q ρ _ _ e (r.newT hp) (.tup (SqT.of upd_same) hv2.len hv2.at_)
  · cases hg) σ H Q q
theorem l_lst (h : PA X es (tA X.K fs)) : PE X (.List es pos) (tE X.K (eCall cLst fs)) := (pe_lst h).imp fun σ H Q q => call_imp (r := fun xs H1 Q => xs.length ≤ sizeLine ∧ ∀ p, H1 p = none → Q (.ref p) (upd H1 p (.lst xs))) (fun ρ H S S' vs ds z Q r hv hg q => by
  unfold cLst at hg
  split at hg
  · rename_i hl
    cases hg
    refine ⟨lim_le (by rw [hv.len]; exact hl), fun p hp => ?_⟩
    refine q _ _ _ (ext_newL hp) (r.newL hp hv) (.ref ?_)
    rw [← r.len]
    simp
  · cases hg) σ H Q q
end
/-! ### built-ins -/
section
variable {X : Cx} {K : PySem.W.Frag} {ρ : List Addr} {H : Hp} {S : Sto}
theorem rds1 {vs : List V} {d : D} (h : RDs K ρ H vs [d]) : ∃ v, vs = [v] ∧ RD K ρ H v d := by
  match vs, h.len with
  | [v], _ => exact ⟨v, rfl, h.at_ 0 v d rfl rfl⟩
theorem rds2 {vs : List V} {d e : D} (h : RDs K ρ H vs [d, e]) : ∃ v u, vs = [v, u] ∧ RD K ρ H v d ∧ RD K ρ H u e := by
  match vs, h.len with
  | [v, u], _ => exact ⟨v, u, rfl, h.at_ 0 v d rfl rfl, h.at_ 1 u e rfl rfl⟩
/-- len -/
def cLen : CF := fun ds S => match ds with
  | [.str x] => if x.length ≤ lim then some (.int x.length, S) else none
  | [d] => match itemsOf S d with
    | some es => some (.int es.length, S)
    | none => none
  | _ => none
def rLen (K : PySem.W.Frag) : List V → Hp → VK → Prop := fun xs H Q => (∃ p ys, xs = [.ref p] ∧ (SqL K H p ys ∨ SqT K H p ys) ∧ Q (.int ys.length) H) ∨ (∃ z, xs = [.str z] ∧ z.length ≤ sizeLine ∧ Q (.int z.length) H)
theorem cr_len : CallR X (.builtin "len") (rLen X.K) := CallR.or call_len_seq call_len_str
theorem ok_len : OkCall K (rLen K) cLen := by
  intro ρ H S S' vs ds z Q r hv hg q
  unfold cLen at hg
  split at hg
  · split at hg
    · rename_i hl
      cases hg
      obtain ⟨v, rfl, hw⟩ := rds1 hv
      cases hw
      exact .inr ⟨_, rfl, lim_le hl, q ρ H _ (Ext.refl ρ H) r (.int _)⟩
    · cases hg
  · split at hg
    · rename_i es he
      cases hg
      obtain ⟨v, rfl, hw⟩ := rds1 hv
      obtain ⟨p, xs, rfl, hs, hr⟩ := items_rd r hw he
      refine .inl ⟨p, xs, rfl, hs, ?_⟩
      rw [hr.len]
      exact q ρ H _ (Ext.refl ρ H) r (.int _)
    · cases hg
  · cases hg
/-- ints of a list -/
def intsD : List D → Option (List Int) := mapO fun
  | .int i => some i
  | _ => none
theorem intsD_rd : ∀ {xs : List V} {ds : List D} {ns : List Int}, RDs K ρ H xs ds → intsD ds = some ns → xs = ns.map V.int
  | [], [], ns, _, h => by cases h; rfl
  | [], _ :: _, _, q, _ => by have := q.len; simp at this
  | _ :: _, [], _, q, _ => by have := q.len; simp at this
  | x :: xs, d :: ds, ns, q, h => by
    obtain ⟨y, ys, h1, h2, rfl⟩ := mapO_cons h
    have e := intsD_rd (xs := xs) (ds := ds) ⟨by have := q.len; simpa using this, fun i x' d' a b => q.at_ (i + 1) x' d' a b⟩ h2
    have hx := q.at_ 0 x d rfl rfl
    split at h1
    · cases h1
      cases hx
      rw [e]
      rfl
    · cases h1
def boolsD : List D → Option (List Bool) := mapO fun
  | .bl i => some i
  | _ => none
theorem boolsD_rd : ∀ {xs : List V} {ds : List D} {ns : List Bool}, RDs K ρ H xs ds → boolsD ds = some ns → xs = ns.map V.bl
  | [], [], ns, _, h => by cases h; rfl
  | [], _ :: _, _, q, _ => by have := q.len; simp at this
  | _ :: _, [], _, q, _ => by have := q.len; simp at this
  | x :: xs, d :: ds, ns, q, h => by
    obtain ⟨y, ys, h1, h2, rfl⟩ := mapO_cons h
    have e := boolsD_rd (xs := xs) (ds := ds) ⟨by have := q.len; simpa using this, fun i x' d' a b => q.at_ (i + 1) x' d' a b⟩ h2
    have hx := q.at_ 0 x d rfl rfl
    split at h1
    · cases h1
      cases hx
      rw [e]
      rfl
    · cases h1
def listOf (S : Sto) : D → Option (List D)
  | .kl ds => some ds
  | .ref k => match S[k]? with
    | some c => some c.items
    | none => none
  | _ => none
theorem list_rd (r : Rel K ρ H S) {y : V} {e : D} {ds : List D} (hy : RD K ρ H y e) (h : listOf S e = some ds) : ∃ p xs, y = .ref p ∧ SqL K H p xs ∧ RDs K ρ H xs ds := by
  cases hy with
  | kl hs hl ha => cases h; exact ⟨_, _, rfl, hs _, hl, ha⟩
  | ref hr =>
    simp only [listOf] at h
    split at h
    · rename_i c hc
      cases h
      obtain ⟨xs, h1, h2⟩ := r.seq hr hc
      exact ⟨_, xs, rfl, h1, h2⟩
    · cases h
  | _ => cases h
/-- sum, all, any of a list -/
def cSum : CF := fun ds S => match ds with
  | [d] => match listOf S d with
    | some es => match intsD es with
      | some ns => some (.int ns.sum, S)
      | none => none
    | none => none
  | _ => none
theorem ok_sum : OkCall K (rSum K) cSum := by
  intro ρ H S S' vs ds z Q r hv hg q
  unfold cSum at hg
  split at hg
  · split at hg
    · rename_i es he
      split at hg
      · rename_i ns hns
        cases hg
        obtain ⟨v, rfl, hw⟩ := rds1 hv
        obtain ⟨p, xs, rfl, hs, hr⟩ := list_rd r hw he
        rw [intsD_rd hr hns] at hs
        exact ⟨p, ns, rfl, hs, q ρ H _ (Ext.refl ρ H) r (.int _)⟩
      · cases hg
    · cases hg
  · cases hg
def cBools (f : List Bool → Bool) : CF := fun ds S => match ds with
  | [d] => match listOf S d with
    | some es => match boolsD es with
      | some ns => some (.bl (f ns), S)
      | none => none
    | none => none
  | _ => none
theorem ok_bools {f : List Bool → Bool} : OkCall K (fun vs H Q => ∃ (a : Addr) (bs : List Bool), vs = [V.ref a] ∧ SqL K H a (bs.map V.bl) ∧ Q (.bl (f bs)) H) (cBools f) := by
  intro ρ H S S' vs ds z Q r hv hg q
  unfold cBools at hg
  split at hg
  · split at hg
    · rename_i es he
      split at hg
      · rename_i ns hns
        cases hg
        obtain ⟨v, rfl, hw⟩ := rds1 hv
        obtain ⟨p, xs, rfl, hs, hr⟩ := list_rd r hw he
        rw [boolsD_rd hr hns] at hs
        exact ⟨p, ns, rfl, hs, q ρ H _ (Ext.refl ρ H) r (.bl _)⟩
      · cases hg
    · cases hg
  · cases hg
/-- min, max of two numbers -/
def cMin : CF := fun ds S => match ds with
  | [.int i, .int j] => some (.int (if j < i then j else i), S)
  | _ => none
def cMax : CF := fun ds S => match ds with
  | [.int i, .int j] => some (.int (if j > i then j else i), S)
  | _ => none
theorem ok_min : OkCall K (fun xs H Q => ∃ i j, xs = [.int i, .int j] ∧ Q (.int (if j < i then j else i)) H) cMin := by
  intro ρ H S S' vs ds z Q r hv hg q
  unfold cMin at hg
  split at hg
  · cases hg
    obtain ⟨v, u, rfl, hw, hu⟩ := rds2 hv
    cases hw; cases hu
    exact ⟨_, _, rfl, q ρ H _ (Ext.refl ρ H) r (.int _)⟩
  · cases hg
theorem ok_max : OkCall K (fun xs H Q => ∃ i j, xs = [.int i, .int j] ∧ Q (.int (if j > i then j else i)) H) cMax := by
  intro ρ H S S' vs ds z Q r hv hg q
  unfold cMax at hg
  split at hg
  · cases hg
    obtain ⟨v, u, rfl, hw, hu⟩ := rds2 hv
    cases hw; cases hu
    exact ⟨_, _, rfl, q ρ H _ (Ext.refl ρ H) r (.int _)⟩
  · cases hg
/-- int(n), int(True) -/
def cInt : CF := fun ds S => match ds with
  | [.int i] => some (.int i, S)
  | [.bl k] => some (.int (if k then 1 else 0), S)
  | _ => none
theorem ok_int : OkCall K (fun xs H Q => (∃ i, xs = [.int i] ∧ Q (.int i) H) ∨ ∃ k, xs = [.bl k] ∧ Q (.int (if k then 1 else 0)) H) cInt := by
  intro ρ H S S' vs ds z Q r hv hg q
  unfold cInt at hg
  split at hg
  · cases hg
    obtain ⟨v, rfl, hw⟩ := rds1 hv
    cases hw
    exact .inl ⟨_, rfl, q ρ H _ (Ext.refl ρ H) r (.int _)⟩
  · cases hg
    obtain ⟨v, rfl, hw⟩ := rds1 hv
    cases hw
    exact .inr ⟨_, rfl, q ρ H _ (Ext.refl ρ H) r (.int _)⟩
  · cases hg
/-- abs -/
def cAbs : CF := fun ds S => match ds with
  | [.int i] => some (.int (if i < 0 then -i else i), S)
  | _ => none
theorem ok_abs : OkCall K (fun xs H Q => ∃ i, xs = [.int i] ∧ Q (.int (if i < 0 then -i else i)) H) cAbs := by
  intro ρ H S S' vs ds z Q r hv hg q
  unfold cAbs at hg
  split at hg
  · cases hg
    obtain ⟨v, rfl, hw⟩ := rds1 hv
    cases hw
    exact ⟨_, rfl, q ρ H _ (Ext.refl ρ H) r (.int _)⟩
  · cases hg
/-- list(xs), tuple(xs) -/
def cListOf : CF := fun ds S => match ds with
  | [d] => match itemsOf S d with
    | some es => some (.ref S.length, S ++ [.lst es])
    | none => none
  | _ => none
theorem ok_list : OkCall K (fun xs H Q => ∃ p ys, xs = [.ref p] ∧ (SqL K H p ys ∨ SqT K H p ys) ∧ ∀ l, H l = none → Q (.ref l) (upd H l (.lst ys))) cListOf := by
  intro ρ H S S' vs ds z Q r hv hg q
  unfold cListOf at hg
  split at hg
  · split at hg
    · rename_i es he
      cases hg
      obtain ⟨v, rfl, hw⟩ := rds1 hv
      obtain ⟨p, xs, rfl, hs, hr⟩ := items_rd r hw he
      refine ⟨p, xs, rfl, hs, fun l hl => ?_⟩
      refine q _ _ _ (ext_newL hl) (r.newL hl hr) (.ref ?_)
      rw [← r.len]
      simp
    · cases hg
  · cases hg
def cTupleOf : CF := fun ds S => match ds with
  | [d] => match itemsOf S d with
    | some es => some (.tup es, S)
    | none => none
  | _ => none
theorem ok_tuple : OkCall K (fun xs H Q => ∃ p ys, xs = [.ref p] ∧ ((SqL K H p ys ∧ ∀ l, H l = none → Q (.ref l) (upd H l (.tup ys))) ∨ (SqT K H p ys ∧ Q (.ref p) H))) cTupleOf := by
  intro ρ H S S' vs ds z Q r hv hg q
  unfold cTupleOf at hg
  split at hg
  · split at hg
    · rename_i es he
      cases hg
      obtain ⟨v, rfl, hw⟩ := rds1 hv
      obtain ⟨p, xs, rfl, hs, hr⟩ := items_rd r hw he
      rcases hs with hs | hs
      · refine ⟨p, xs, rfl, .inl ⟨hs, fun l hl => ?_⟩⟩
        have e := ext_new (ρ := ρ) (o := .tup xs) hl
        have hr2 := hr.ext r e
        exact q ρ _ _ e (r.newT hl) (.tup (SqT.of upd_same) hr2.len hr2.at_)
      · exact ⟨p, xs, rfl, .inr ⟨hs, q ρ H _ (Ext.refl ρ H) r (.tup hs hr.len hr.at_)⟩⟩
    · cases hg
  · cases hg
/-- isinstance(x, T) -/
def tyN (S : Sto) : D → Option String
  | .non => some "NoneType"
  | .bl _ => some "bool"
  | .int _ => some "int"
  | .str _ => some "str"
  | .tup _ => some "tuple"
  | .ref k => match S[k]? with
    | some _ => some "list"
    | none => none
  | .ty _ => none
  | .kl _ => none
theorem tyN_rd (r : Rel K ρ H S) {v : V} {d : D} {n : String} (h : RD K ρ H v d) (hn : tyN S d = some n) : TyX K H v (.type n) := by
  cases h with
  | ty n => cases hn
  | kl hs hl ha => cases hn
  | non => cases hn; exact .base .non
  | bl b => cases hn; exact .base (.bl b)
  | int i => cases hn; exact .base (.int i)
  | str x => cases hn; exact .base (.str x)
  | tup hs hl ha =>
    cases hn
    rcases hs with (hs | ⟨o, hs⟩) | ⟨o, its, m, h1, h2, _⟩
    · exact .base (.tup hs)
    · exact .fTuple hs
    · exact .kTuple h1 h2
  | ref hr =>
    simp only [tyN] at hn
    split at hn
    · rename_i c hc
      cases hn
      have q := r.cell _ _ c hr hc
      cases c with
      | lst ds => obtain ⟨xs, e, _⟩ := q; exact .base (.lst e)
      | frz ds => obtain ⟨xs, o, e, _⟩ := q; exact .base (.frz e)
    · cases hn
def cIsi : CF := fun ds S => match ds with
  | [d, .ty n] => match tyN S d with
    | some m => match kitB m n with
      | some b => some (.bl b, S)
      | none => none
    | none => none
  | _ => none
theorem ok_isi : OkCall K (rIsi K) cIsi := by
  intro ρ H S S' vs ds z Q r hv hg q
  unfold cIsi at hg
  split at hg
  · rename_i d n
    split at hg
    · rename_i m hm
      split at hg
      · rename_i b hb
        cases hg
        obtain ⟨v, u, rfl, hw, hu⟩ := rds2 hv
        cases hu
        exact ⟨v, .ty n, _, _, b, rfl, .ty n, tyN_rd r hw hm, kit_ty hb, q ρ H _ (Ext.refl ρ H) r (.bl _)⟩
      · cases hg
    · cases hg
  · cases hg
end
end Lite
/-! LiteD: repr, subscripts, slices, methods, truth, chains, and, or, not, if-else. -/
namespace Lite
open PySem PySem.Spec PyProof.Rows L2
/-! ### repr -/
mutual
def noDict : PyData → Bool
  | .list xs => noDictAll xs
  | .tuple xs => noDictAll xs
  | .dict _ => false
  | _ => true
def noDictAll : List PyData → Bool
  | [] => true
  | x :: xs => noDict x && noDictAll xs
end
def sizeP (p : PyData) : Bool := decide (p.shown.length ≤ lim)
def cRepr : CF := fun ds S => match ds with
  | [d] => match toP 60 S d with
    | some p => if p.showable && !p.hasDict && decide (p.depth ≤ 60) && sizeP p then some (.str p.shown, S) else none
    | none => none
  | _ => none
def rRepr (K : PySem.W.Frag) : List V → Hp → VK → Prop := fun xs H Q => ∃ v p, xs = [v] ∧ Dp K H v p ∧ p.showable = true ∧ p.hasDict = false ∧ p.depth ≤ 60 ∧ p.shown.length ≤ sizeLine ∧ Q (.str p.shown) H
section
variable {X : Cx} {K : PySem.W.Frag} {ρ : List Addr} {H : Hp} {S : Sto}
theorem call_repr (hG : X.A.guards = some []) (hu : X.A.units + 64 < cLine) : CallR X (.builtin "repr") (rRepr X.K) := by
  intro pins s σ H xs us Q I rv h
  obtain ⟨v, p, rfl, hd, h1, h2, h3, h4, q⟩ := h
  cases rv with
  | cons r1 rn =>
    rename_i u us'
    cases rn
    obtain ⟨as, hr⟩ := Dp.reads I p v u hd r1
    have go : ∀ a, u = .ref a → wpAny (model X.prog X.w) X.A (call (.builtin "repr") [u]) (EP X pins σ Q) X.xe s := fun a e => by
      subst e
      exact repr_of_reads' hr h1 (by rw [h2]; intro z; cases z) hG (by omega) (fun b o e => e) (fun h' t tk k => ⟨.str p.shown, H, I.kept k, ⟨t, rfl⟩, q⟩) h4
    cases hr with
    | none =>
      simp only [PyData.shown] at q
      exact PySem.P.repr_of_none ⟨.str _, H, I.tok _, ⟨_, rfl⟩, q⟩
    | bool b =>
      simp only [PyData.shown] at q
      exact PySem.P.repr_of_bool ⟨.str _, H, I.tok _, ⟨_, rfl⟩, q⟩
    | int i t =>
      simp only [PyData.shown] at q
      exact PySem.P.repr_of_int (by simpa [PyData.showable] using h1) ⟨.str _, H, I.tok _, ⟨_, rfl⟩, q⟩
    | str x t =>
      simp only [PyData.shown] at q h4
      exact PySem.P.repr_of_str ⟨.str _, H, I.tok _, ⟨_, rfl⟩, q⟩ h4
    | list a1 a2 a3 a4 => exact go _ rfl
    | tuple a1 a2 a3 a4 => exact go _ rfl
    | dict a1 a2 a3 a4 a5 => exact go _ rfl
theorem ok_repr : OkCall K (rRepr K) cRepr := by
  intro ρ H S S' vs ds z Q r hv hg q
  unfold cRepr at hg
  split at hg
  · split at hg
    · rename_i p hp
      split at hg
      · rename_i hc
        cases hg
        obtain ⟨v, rfl, hw⟩ := rds1 hv
        simp only [Bool.and_eq_true, Bool.not_eq_true', decide_eq_true_eq, sizeP] at hc
        obtain ⟨⟨⟨c1, c2⟩, c3⟩, c4⟩ := hc
        exact ⟨v, p, rfl, dp_of r _ v _ p hw hp, c1, c2, c3, lim_le c4, q ρ H _ (Ext.refl ρ H) r (.str _)⟩
      · cases hg
    · cases hg
  · cases hg
end
/-! ### xs[i] -/
def gIx : OF := fun x y S => match y with
  | .int i => match x with
    | .str z => if z.length ≤ lim then (match atI z.cps.toList i with
      | some c => some (.str ⟨#[c]⟩, S)
      | none => none) else none
    | d => match itemsOf S d with
      | some ds => match atI ds i with
        | some e => some (e, S)
        | none => none
      | none => none
  | _ => none
def rIx (K : PySem.W.Frag) : R2 := fun x y H Q => (rIxL K x y H Q ∨ rIxT K x y H Q) ∨ rIxS x y H Q
section
variable {X : Cx} {K : PySem.W.Frag} {ρ : List Addr} {H : Hp} {S : Sto}
theorem ix_any : IxR X (rIx X.K) := IxR.or (IxR.or ix_list ix_tup) ix_str
theorem atI_rd {xs : List V} {ds : List D} {i : Int} {e : D} (h : RDs K ρ H xs ds) (he : atI ds i = some e) : ∃ v, atI xs i = some v ∧ RD K ρ H v e := by
  unfold atI at he ⊢
  rw [h.len]
  cases q : ixN ds.length i with
  | none => rw [q] at he; cases he
  | some j =>
    rw [q] at he
    exact h.get he
theorem ok_ix : OkOp K (rIx K) gIx := by
  intro ρ H S S' x y d e z Q r hx hy hg q
  unfold gIx at hg
  split at hg
  · rename_i i
    cases hy
    split at hg
    · split at hg
      · rename_i hl
        split at hg
        · rename_i c hc
          cases hg
          cases hx
          exact .inr ⟨_, _, c, rfl, rfl, lim_le hl, hc, q ρ H _ (Ext.refl ρ H) r (.str _)⟩
        · cases hg
      · cases hg
    · split at hg
      · rename_i ds hds
        split at hg
        · rename_i e' he
          cases hg
          obtain ⟨p, xs, rfl, hs, hr⟩ := items_rd r hx hds
          obtain ⟨v, hv, hvd⟩ := atI_rd hr he
          rcases hs with hs | hs
          · exact .inl (.inl ⟨p, xs, i, v, rfl, rfl, hs, hv, q ρ H _ (Ext.refl ρ H) r hvd⟩)
          · exact .inl (.inr ⟨p, xs, i, v, rfl, rfl, hs, hv, q ρ H _ (Ext.refl ρ H) r hvd⟩)
        · cases hg
      · cases hg
  · cases hg
theorem l_ix {a b : Expr} {fa fb : EF} {pos : Pos} (ha : PE X a (tE X.K fa)) (hb : PE X b (tE X.K fb)) (hs : PlainIx b := by exact fun _ _ => rfl) : PE X (.Subscript a b pos) (tE X.K (eBin gIx fa fb)) :=
  (pe_ix ix_any ha hb hs).imp (bin_imp ok_ix)
end
/-! ### slices -/
abbrev OPF := Env → Sto → Option (Option Int × Sto)
def oNone : OPF := fun _ S => some (none, S)
def oSome (f : EF) : OPF := fun env S => match f env S with
  | some (.int i, S1) => some (some i, S1)
  | _ => none
def cutD (xs : List D) (lo hi : Option Int) : List D := (xs.drop (HT.sIx xs.length 0 lo)).take (HT.sIx xs.length xs.length hi - HT.sIx xs.length 0 lo)
def gSl (x : D) (lo hi : Option Int) (S : Sto) : Option (D × Sto) := match x with
  | .str z => if z.length ≤ lim then some (.str (cutS z lo hi), S) else none
  | .tup ds => some (.tup (cutD ds lo hi), S)
  | d => match listOf S d with
    | some ds => some (.ref S.length, S ++ [.lst (cutD ds lo hi)])
    | none => none
def eSl (f : EF) (l h : OPF) : EF := fun env S => match f env S with
  | none => none
  | some (x, S1) => match l env S1 with
    | none => none
    | some (lo, S2) => match h env S2 with
      | none => none
      | some (hi, S3) => gSl x lo hi S3
def tO (K : PySem.W.Frag) (f : OPF) : TO := fun σ H Q => ∃ ρ S env o S', Rel K ρ H S ∧ EnvR K ρ H σ env ∧ f env S = some (o, S') ∧
  ∀ ρ' H', Ext ρ H ρ' H' → Rel K ρ' H' S' → Q o H'
def rSl (K : PySem.W.Frag) : V → Option Int → Option Int → Hp → VK → Prop := fun x lo hi H Q => (rSlL K x lo hi H Q ∨ rSlA K x lo hi H Q) ∨ rSlS x lo hi H Q
section
variable {X : Cx} {K : PySem.W.Frag} {ρ : List Addr} {H : Hp} {S : Sto} {e : Expr} {fe : EF} {lo hi : Option Expr} {fl fh : OPF} {pos p2 : Pos}
theorem lo_none : PO X none (tO X.K oNone) := ⟨fun pins s σ H Q I h => po_none.run pins s σ H Q I (by
  obtain ⟨ρ, S, env, o, S', r, en, hf, q⟩ := h
  cases hf
  exact q ρ H (Ext.refl ρ H) r)⟩
theorem lo_some (h : PE X e (tE X.K fe)) : PO X (some e) (tO X.K (oSome fe)) := ⟨fun pins s σ H Q I hw => (po_some h).run pins s σ H Q I (by
  obtain ⟨ρ, S, env, o, S', r, en, hf, q⟩ := hw
  unfold oSome at hf
  split at hf
  · rename_i i S1 h1
    cases hf
    refine run_e r en h1 fun ρ1 H1 v1 e1 r1 hv1 en1 => ?_
    cases hv1
    exact ⟨_, rfl, q ρ1 H1 e1 r1⟩
  · cases hf)⟩
theorem sl_any : SlR X (rSl X.K) := SlR.or (SlR.or sl_list sl_tupA) sl_str
theorem cut_rd {xs : List V} {ds : List D} (h : RDs K ρ H xs ds) (lo hi : Option Int) : RDs K ρ H (cutV xs lo hi) (cutD ds lo hi) := by
  unfold cutV cutD
  rw [h.len]
  exact (h.drop _).take _
theorem ok_sl {x : V} {d z : D} {lo hi : Option Int} {S S' : Sto} {Q : VK} (r : Rel K ρ H S) (hx : RD K ρ H x d) (hg : gSl d lo hi S = some (z, S')) (q : ∀ ρ' H' v, Ext ρ H ρ' H' → Rel K ρ' H' S' → RD K ρ' H' v z → Q v H') : rSl K x lo hi H Q := by
  unfold gSl at hg
  split at hg
  · split at hg
    · rename_i hl
      cases hg
      cases hx
      exact .inr ⟨_, rfl, lim_le hl, q ρ H _ (Ext.refl ρ H) r (.str _)⟩
    · cases hg
  · rename_i ds
    cases hg
    cases hx with
    | tup hs hl ha =>
      rename_i a xs
      have R := RDs.mk hl ha
      refine .inl (.inr ⟨a, xs, rfl, hs, fun hw => ?_, fun _ p hp => ?_⟩)
      · refine q ρ H _ (Ext.refl ρ H) r ?_
        have e1 : cutD ds lo hi = ds := by
          unfold cutD
          rw [← hl, hw.1, hw.2, List.drop_zero, Nat.sub_zero, hl, List.take_length]
        rw [e1]
        exact .tup hs hl ha
      · have e := ext_new (ρ := ρ) (o := .tup (cutV xs lo hi)) hp
        have RR := (cut_rd R lo hi).ext r e
        exact q ρ _ _ e (r.newT hp) (.tup (SqT.of upd_same) RR.len RR.at_)
  · split at hg
    · rename_i ds hds
      cases hg
      obtain ⟨p, xs, rfl, hs, hr⟩ := list_rd r hx hds
      refine .inl (.inl ⟨p, xs, rfl, hs, fun l hl => ?_⟩)
      refine q _ _ _ (ext_newL hl) (r.newL hl (cut_rd hr lo hi)) (.ref ?_)
      rw [← r.len]
      simp
    · cases hg
theorem l_sl (he : PE X e (tE X.K fe)) (hl : PO X lo (tO X.K fl)) (hh : PO X hi (tO X.K fh)) : PE X (.Subscript e (.Slice lo hi none p2) pos) (tE X.K (eSl fe fl fh)) := by
  refine (pe_slice sl_any he hl hh).imp fun σ H Q h => ?_
  obtain ⟨ρ, S, env, d, S', r, en, hf, q⟩ := h
  unfold eSl at hf
  split at hf
  · cases hf
  · rename_i x S1 h1
    split at hf
    · cases hf
    · rename_i o1 S2 h2
      split at hf
      · cases hf
      · rename_i o2 S3 h3
        refine run_e r en h1 fun ρ1 H1 v1 e1 r1 hv1 en1 => ?_
        refine ⟨ρ1, S1, env, o1, S2, r1, en1, h2, fun ρ2 H2 e2 r2 => ⟨ρ2, S2, env, o2, S3, r2, en1.ext r1 e2, h3, fun ρ3 H3 e3 r3 => ?_⟩⟩
        exact ok_sl r3 (hv1.ext r1 (e2.trans e3)) hf fun ρ4 H4 v e4 r4 hv => q ρ4 H4 v ((e1.trans (e2.trans e3)).trans e4) r4 hv
end
/-! ### methods -/
abbrev MF := D → List D → Sto → Option (D × Sto)
def eMeth (g : MF) (fo : EF) (fa : AF) : EF := fun env S => match fo env S with
  | none => none
  | some (x, S1) => match fa env S1 with
    | none => none
    | some (ds, S2) => g x ds S2
def OkM (K : PySem.W.Frag) (r : V → List V → Hp → VK → Prop) (g : MF) : Prop := ∀ ρ H S S' x vs d ds z (Q : VK), Rel K ρ H S → RD K ρ H x d → RDs K ρ H vs ds → g d ds S = some (z, S') →
  (∀ ρ' H' v, Ext ρ H ρ' H' → Rel K ρ' H' S' → RD K ρ' H' v z → Q v H') → r x vs H Q
/-- the receiver is of the type, told ahead of the arguments -/
def isRef (S : Sto) : D → Bool
  | .ref k => decide (k < S.length)
  | _ => false
def eMethL (g : MF) (fo : EF) (fa : AF) : EF := fun env S => match fo env S with
  | none => none
  | some (x, S1) => if isRef S1 x then (match fa env S1 with
    | none => none
    | some (ds, S2) => g x ds S2) else none
def isStr : D → Bool
  | .str _ => true
  | _ => false
def eMethS (g : MF) (fo : EF) (fa : AF) : EF := fun env S => match fo env S with
  | none => none
  | some (x, S1) => if isStr x then (match fa env S1 with
    | none => none
    | some (ds, S2) => g x ds S2) else none
section
variable {X : Cx} {K : PySem.W.Frag} {ρ : List Addr} {H : Hp} {S : Sto} {o e : Expr} {es : List Expr} {fo : EF} {fs : AF} {name : Str} {apos cpos : Pos} {T id : String} {r : V → List V → Hp → VK → Prop} {g : MF}
theorem ref_rd (r : Rel K ρ H S) {x : V} {d : D} (hx : RD K ρ H x d) (h : isRef S d = true) : tyV K "list" x H := by
  cases hx with
  | ref hr =>
    obtain ⟨c, hc, hk⟩ := r.of hr
    obtain ⟨xs, hs, _⟩ := r.seq hr hc
    exact .inl ⟨rfl, xs, hs⟩
  | _ => cases h
theorem methL_imp (ho : OkM X.K r g) (σ : L2.St) (H : Hp) (Q : VK) (h : tE X.K (eMethL g fo fs) σ H Q) : tBM X.K "list" r (tE X.K fo) (tA X.K fs) σ H Q := by
  obtain ⟨ρ, S, env, d, S', rl, en, hf, q⟩ := h
  unfold eMethL at hf
  split at hf
  · cases hf
  · rename_i x S1 h1
    split at hf
    · rename_i hk
      split at hf
      · cases hf
      · rename_i ds S2 h2
        refine run_e rl en h1 fun ρ1 H1 v1 e1 r1 hv1 en1 => ⟨ref_rd r1 hv1 hk, run_a r1 en1 h2 fun ρ2 H2 vs2 e2 r2 hv2 en2 => ?_⟩
        exact ho ρ2 H2 S2 S' v1 vs2 x ds d Q r2 (hv1.ext r1 e2) hv2 hf fun ρ3 H3 v3 e3 r3 hv3 => q ρ3 H3 v3 ((e1.trans e2).trans e3) r3 hv3
    · cases hf
theorem l_methL (slot : Slot "list" name id) (hty : typeOf (.builtin id) = pure (.type "method_descriptor")) (hm : MtR X id r) (hok : OkM X.K r g) (ho : PE X o (tE X.K fo)) (ha : PA X (e :: es) (tA X.K fs))
    (hbase : attributeBase o name X.env (eval o X.env) = eval o X.env := by rfl)
    (hfew : ((backTo cpos (starEach (e :: es) X.env)).all (fun x => !x.1) && (backToKw cpos (keywordEach [] X.env)).all (fun x => x.1.isSome)
      && decide ((e :: es).length + ([] : List Keyword).length + (if ([] : List Keyword).isEmpty then 0 else 1) < 30)) = true := by rfl)
    (hline : (apos.endLine == cpos.line) = true := by rfl) (hs : starEach (e :: es) X.env = (false, eval e X.env) :: starEach es X.env := by rfl) (hplain : (backTo cpos (starEach es X.env)).any (·.1) = false := by rfl) :
    PE X (.Call (.Attribute o name apos) (e :: es) [] cpos) (tE X.K (eMethL g fo fs)) :=
  (pe_bm PySem.F.plainAttrs_list slot hty hm ho ha hbase hfew hline hs hplain).imp (methL_imp hok)
def mAppend : MF := fun x ds S => match x, ds with
  | .ref k, [d] => match S[k]? with
    | some (.lst es) => if es.length < lim then some (.non, S.set k (.lst (es ++ [d]))) else none
    | _ => none
  | _, _ => none
theorem ok_append : OkM K rAppend mAppend := by
  intro ρ H S S' x vs d ds z Q r hx hv hg q
  unfold mAppend at hg
  split at hg
  · rename_i k d'
    split at hg
    · rename_i es hc
      split at hg
      · rename_i hl
        cases hg
        obtain ⟨y, rfl, hy⟩ := rds1 hv
        cases hx with
        | ref hr =>
          rename_i a
          obtain ⟨xs, h1, h2⟩ := r.cell _ _ _ hr hc
          refine ⟨a, xs, y, rfl, rfl, h1, lim_lt (by rw [h2.len]; omega), ?_⟩
          have hw : RDs K ρ H [y] [d'] := .cons hy .nil
          exact q ρ _ _ (ext_mut (List.mem_of_getElem? hr)) (r.mutL hr (h2.append hw)) .non
      · cases hg
    · cases hg
  · cases hg
/-- xs.pop(i) -/
def mPopAt : MF := fun x ds S => match x, ds with
  | .ref k, [.int i] => match S[k]? with
    | some (.lst es) => if -(2 ^ 63) ≤ i ∧ i < 2 ^ 63 then (match seqIndex? i es.length with
      | some j => match es[j]? with
        | some y => some (y, S.set k (.lst (es.eraseIdx j)))
        | none => none
      | none => none) else none
    | _ => none
  | _, _ => none
theorem RDs.eraseIdx {xs : List V} {ds : List D} (h : RDs K ρ H xs ds) (k : Nat) : RDs K ρ H (xs.eraseIdx k) (ds.eraseIdx k) := by
  rw [List.eraseIdx_eq_take_drop_succ, List.eraseIdx_eq_take_drop_succ]
  exact (h.take _).append (h.drop _)
theorem ok_popAt : OkM K rPopAt mPopAt := by
  intro ρ H S S' x vs d ds z Q r hx hv hg q
  unfold mPopAt at hg
  split at hg
  · rename_i k i
    split at hg
    · rename_i es hc
      split at hg
      · rename_i hb
        split at hg
        · rename_i j hj
          split at hg
          · rename_i y hy
            cases hg
            obtain ⟨w, rfl, hw⟩ := rds1 hv
            cases hw
            cases hx with
            | ref hr =>
              rename_i a
              obtain ⟨xs, h1, h2⟩ := r.cell _ _ _ hr hc
              obtain ⟨u, hu, hud⟩ := h2.get hy
              have e := ext_mut (H := H) (o := .lst (xs.eraseIdx j)) (List.mem_of_getElem? hr)
              refine ⟨a, xs, i, j, u, rfl, rfl, h1, hb.1, hb.2, by rw [h2.len]; exact hj, hu, ?_⟩
              exact q ρ _ _ e (r.mutL hr (h2.eraseIdx j)) (hud.ext r e)
          · cases hg
        · cases hg
      · cases hg
    · cases hg
  · cases hg
/-- n.bit_length() -/
def eBits (f : EF) : EF := fun env S => match f env S with
  | some (.int i, S1) => some (.int (Builtin.Int.intBits i : Nat), S1)
  | _ => none
theorem l_bits {apos pos : Pos} (ho : PE X o (tE X.K fo)) (hbase : attributeBase o "bit_length" X.env (eval o X.env) = eval o X.env := by rfl) (hline : (apos.endLine == pos.line) = true := by rfl) : PE X (.Call (.Attribute o "bit_length" apos) [] [] pos) (tE X.K (eBits fo)) := by
  refine (pe_bits ho hbase hline).imp fun σ H Q h => ?_
  obtain ⟨ρ, S, env, d, S', r, en, hf, q⟩ := h
  unfold eBits at hf
  split at hf
  · rename_i i S1 h1
    cases hf
    refine run_e r en h1 fun ρ1 H1 v1 e1 r1 hv1 en1 => ?_
    cases hv1
    exact ⟨_, rfl, q ρ1 H1 _ e1 r1 (.int _)⟩
  · cases hf
end
/-! ### - -/
def eNeg (f : EF) : EF := fun env S => match f env S with
  | some (.int i, S1) => some (.int (-i), S1)
  | _ => none
section
variable {X : Cx} {a b c : Expr} {rest : List Expr} {fa fb fc : EF} {ga gb : TF} {pos : Pos}
theorem l_neg (h : PE X a (tE X.K fa)) : PE X (.UnaryOp .USub a pos) (tE X.K (eNeg fa)) := (pe_un un_neg h).imp fun σ H Q h => by
  obtain ⟨ρ, S, env, d, S', r, en, hf, q⟩ := h
  unfold eNeg at hf
  split at hf
  · rename_i i S1 h1
    cases hf
    refine run_e r en h1 fun ρ1 H1 v1 e1 r1 hv1 en1 => ?_
    cases hv1
    exact ⟨_, rfl, q ρ1 H1 _ e1 r1 (.int _)⟩
  · cases hf
/-! ### truth -/
def truD (S : Sto) : D → Option Bool
  | .non => some false
  | .bl b => some b
  | .int i => some (i != 0)
  | .str x => if x.length ≤ lim then some ((x.length : Int) != 0) else none
  | .ty _ => none
  | d => match itemsOf S d with
    | some ds => some (!ds.isEmpty)
    | none => none
def truF (f : EF) : TF := fun env S => match f env S with
  | some (d, S1) => match truD S1 d with
    | some b => some (b, S1)
    | none => none
  | none => none
theorem isEmpty_rd {K : PySem.W.Frag} {ρ : List Addr} {H : Hp} {xs : List V} {ds : List D} (h : RDs K ρ H xs ds) : xs.isEmpty = ds.isEmpty := by
  have := h.len
  cases xs <;> cases ds <;> simp_all
theorem tru_rd {K : PySem.W.Frag} {ρ : List Addr} {H : Hp} {S : Sto} {x : V} {d : D} {b : Bool} (r : Rel K ρ H S) (hx : RD K ρ H x d) (h : truD S d = some b) : TruV K x H b := by
  cases hx with
  | ty n => cases h
  | non => cases h; rfl
  | bl k => cases h; rfl
  | int i => cases h; rfl
  | str y =>
    simp only [truD] at h
    split at h
    · rename_i hl
      cases h
      exact ⟨lim_le hl, rfl⟩
    · cases h
  | tup hs hl ha =>
    cases h
    exact .inr (.inl ⟨_, hs, by rw [isEmpty_rd (RDs.mk hl ha)]⟩)
  | kl hs hl ha =>
    cases h
    exact .inl ⟨_, hs _, by rw [isEmpty_rd (RDs.mk hl ha)]⟩
  | ref hr =>
    simp only [truD] at h
    split at h
    · rename_i ds hd
      cases h
      obtain ⟨p, xs, e, hs, hq⟩ := items_rd r (.ref hr) hd
      cases e
      rcases hs with hs | hs
      · exact .inl ⟨_, hs, by rw [isEmpty_rd hq]⟩
      · exact .inr (.inl ⟨_, hs, by rw [isEmpty_rd hq]⟩)
    · cases h
theorem lt_tru (h : PE X a (tE X.K fa)) (he : ∀ whole, isTrue a X.env whole = (do let v ← whole; standAt a.pos; holding [v] (truthy v)) := by intro _; rfl) : PT X a (tT X.K (truF fa)) := (pt_truth h he).imp fun σ H Q h => by
  obtain ⟨ρ, S, env, b, S', r, en, hf, q⟩ := h
  unfold truF at hf
  split at hf
  · rename_i d S1 h1
    split at hf
    · rename_i b' hb
      cases hf
      refine run_e r en h1 fun ρ1 H1 v1 e1 r1 hv1 en1 => ?_
      exact ⟨_, tru_rd r1 hv1 hb, q ρ1 H1 e1 r1⟩
    · cases hf
  · cases hf
/-! ### and, or, not as tests -/
def tAndF (f g : TF) : TF := fun env S => match f env S with
  | some (true, S1) => g env S1
  | some (false, S1) => some (false, S1)
  | none => none
def tOrF (f g : TF) : TF := fun env S => match f env S with
  | some (true, S1) => some (true, S1)
  | some (false, S1) => g env S1
  | none => none
def tNotF (f : TF) : TF := fun env S => match f env S with
  | some (b, S1) => some (!b, S1)
  | none => none
theorem _root_.L2.PW.imp {X : Cx} {e : Expr} {t t' : TT} (h : PW X e t) (i : ∀ σ H Q, t' σ H Q → t σ H Q) : PW X e t' := ⟨fun wh pins s σ H Q I q => h.run wh pins s σ H Q I (i σ H Q q)⟩
theorem lw_and (ha : PT X a (tT X.K ga)) (hb : PW X (.BoolOp .And (b :: rest) pos) (tT X.K gb)) : PW X (.BoolOp .And (a :: b :: rest) pos) (tT X.K (tAndF ga gb)) := (pw_and ha hb).imp fun σ H Q h => by
  obtain ⟨ρ, S, env, d, S', r, en, hf, q⟩ := h
  unfold tAndF at hf
  split at hf
  · rename_i S1 h1
    refine run_t r en h1 fun ρ1 H1 e1 r1 en1 => iteT ?_
    exact run_t r1 en1 hf fun ρ2 H2 e2 r2 en2 => q ρ2 H2 (e1.trans e2) r2
  · rename_i S1 h1
    cases hf
    refine run_t r en h1 fun ρ1 H1 e1 r1 en1 => iteF ?_
    exact q ρ1 H1 e1 r1
  · cases hf
theorem lw_or (ha : PT X a (tT X.K ga)) (hb : PW X (.BoolOp .Or (b :: rest) pos) (tT X.K gb)) : PW X (.BoolOp .Or (a :: b :: rest) pos) (tT X.K (tOrF ga gb)) := (pw_or ha hb).imp fun σ H Q h => by
  obtain ⟨ρ, S, env, d, S', r, en, hf, q⟩ := h
  unfold tOrF at hf
  split at hf
  · rename_i S1 h1
    cases hf
    refine run_t r en h1 fun ρ1 H1 e1 r1 en1 => iteT ?_
    exact q ρ1 H1 e1 r1
  · rename_i S1 h1
    refine run_t r en h1 fun ρ1 H1 e1 r1 en1 => iteF ?_
    exact run_t r1 en1 hf fun ρ2 H2 e2 r2 en2 => q ρ2 H2 (e1.trans e2) r2
  · cases hf
theorem lw_and1 (ha : PT X a (tT X.K ga)) : PW X (.BoolOp .And [a] pos) (tT X.K ga) := pw_and1 ha
theorem lw_or1 (ha : PT X a (tT X.K ga)) : PW X (.BoolOp .Or [a] pos) (tT X.K ga) := pw_or1 ha
theorem lt_not (ha : PT X a (tT X.K ga)) : PT X (.UnaryOp .Not a pos) (tT X.K (tNotF ga)) := (pt_not ha).imp fun σ H Q h => by
  obtain ⟨ρ, S, env, d, S', r, en, hf, q⟩ := h
  unfold tNotF at hf
  split at hf
  · rename_i b S1 h1
    cases hf
    exact run_t r en h1 fun ρ1 H1 e1 r1 en1 => q ρ1 H1 e1 r1
  · cases hf
/-! .. as values of truth values -/
def eAnd (f g : EF) : EF := fun env S => match f env S with
  | some (.bl true, S1) => g env S1
  | some (.bl false, S1) => some (.bl false, S1)
  | _ => none
def eOr (f g : EF) : EF := fun env S => match f env S with
  | some (.bl true, S1) => some (.bl true, S1)
  | some (.bl false, S1) => g env S1
  | _ => none
def eNot (f : TF) : EF := fun env S => match f env S with
  | some (b, S1) => some (.bl !b, S1)
  | none => none
theorem l_one {op} (h : PE X a (tE X.K fa)) : PE X (.BoolOp op [a] pos) (tE X.K fa) := pe_one h
theorem l_and (ha : PE X a (tE X.K fa)) (hb : PE X (.BoolOp .And (b :: rest) pos) (tE X.K fb)) : PE X (.BoolOp .And (a :: b :: rest) pos) (tE X.K (eAnd fa fb)) := (pe_and ha hb).imp fun σ H Q h => by
  obtain ⟨ρ, S, env, d, S', r, en, hf, q⟩ := h
  unfold eAnd at hf
  split at hf
  · rename_i S1 h1
    refine run_e r en h1 fun ρ1 H1 v1 e1 r1 hv1 en1 => ?_
    cases hv1
    exact ⟨true, rfl, iteT (run_e r1 en1 hf fun ρ2 H2 v2 e2 r2 hv2 en2 => q ρ2 H2 v2 (e1.trans e2) r2 hv2)⟩
  · rename_i S1 h1
    cases hf
    refine run_e r en h1 fun ρ1 H1 v1 e1 r1 hv1 en1 => ?_
    cases hv1
    exact ⟨false, rfl, iteF (q ρ1 H1 _ e1 r1 (.bl false))⟩
  · cases hf
theorem l_or (ha : PE X a (tE X.K fa)) (hb : PE X (.BoolOp .Or (b :: rest) pos) (tE X.K fb)) : PE X (.BoolOp .Or (a :: b :: rest) pos) (tE X.K (eOr fa fb)) := (pe_or ha hb).imp fun σ H Q h => by
  obtain ⟨ρ, S, env, d, S', r, en, hf, q⟩ := h
  unfold eOr at hf
  split at hf
  · rename_i S1 h1
    cases hf
    refine run_e r en h1 fun ρ1 H1 v1 e1 r1 hv1 en1 => ?_
    cases hv1
    exact ⟨true, rfl, iteT (q ρ1 H1 _ e1 r1 (.bl true))⟩
  · rename_i S1 h1
    refine run_e r en h1 fun ρ1 H1 v1 e1 r1 hv1 en1 => ?_
    cases hv1
    exact ⟨false, rfl, iteF (run_e r1 en1 hf fun ρ2 H2 v2 e2 r2 hv2 en2 => q ρ2 H2 v2 (e1.trans e2) r2 hv2)⟩
  · cases hf
theorem l_not (ha : PT X a (tT X.K ga)) (hn : PE X (.UnaryOp .Not a pos) (fun σ H Q => tT X.K ga σ H fun b H1 => Q (.bl (!b)) H1)) : PE X (.UnaryOp .Not a pos) (tE X.K (eNot ga)) := hn.imp fun σ H Q h => by
  obtain ⟨ρ, S, env, d, S', r, en, hf, q⟩ := h
  unfold eNot at hf
  split at hf
  · rename_i b S1 h1
    cases hf
    exact run_t r en h1 fun ρ1 H1 e1 r1 en1 => q ρ1 H1 _ e1 r1 (.bl _)
  · cases hf
/-! a if t else b -/
def eIf (t : TF) (f g : EF) : EF := fun env S => match t env S with
  | some (true, S1) => f env S1
  | some (false, S1) => g env S1
  | none => none
theorem l_if (hc : PT X c (tT X.K ga)) (ha : PE X a (tE X.K fa)) (hb : PE X b (tE X.K fb)) : PE X (.IfExp c a b pos) (tE X.K (eIf ga fa fb)) := (pe_ifExp hc ha hb).imp fun σ H Q h => by
  obtain ⟨ρ, S, env, d, S', r, en, hf, q⟩ := h
  unfold eIf at hf
  split at hf
  · rename_i S1 h1
    refine run_t r en h1 fun ρ1 H1 e1 r1 en1 => iteT ?_
    exact run_e r1 en1 hf fun ρ2 H2 v2 e2 r2 hv2 en2 => q ρ2 H2 v2 (e1.trans e2) r2 hv2
  · rename_i S1 h1
    refine run_t r en h1 fun ρ1 H1 e1 r1 en1 => iteF ?_
    exact run_e r1 en1 hf fun ρ2 H2 v2 e2 r2 hv2 en2 => q ρ2 H2 v2 (e1.trans e2) r2 hv2
  · cases hf
/-! a op b op' c -/
def eChain (g g' : OF) (fa fb fc : EF) : EF := fun env S => match fa env S with
  | none => none
  | some (x, S1) => match fb env S1 with
    | none => none
    | some (y, S2) => match g x y S2 with
      | some (.bl true, S3) => (match fc env S3 with
        | none => none
        | some (z, S4) => g' y z S4)
      | some (.bl false, S3) => some (.bl false, S3)
      | _ => none
theorem chain_imp {r r' : R2} {g g' : OF} (ho : OkOp X.K r g) (ho' : OkOp X.K r' g') (σ : L2.St) (H : Hp) (Q : VK) (h : tE X.K (eChain g g' fa fb fc) σ H Q) : tChain r r' (tE X.K fa) (tE X.K fb) (tE X.K fc) σ H Q := by
  obtain ⟨ρ, S, env, d, S', rl, en, hf, q⟩ := h
  unfold eChain at hf
  split at hf
  · cases hf
  · rename_i x S1 h1
    split at hf
    · cases hf
    · rename_i y S2 h2
      refine run_e rl en h1 fun ρ1 H1 v1 e1 r1 hv1 en1 => run_e r1 en1 h2 fun ρ2 H2 v2 e2 r2 hv2 en2 => ?_
      split at hf
      · rename_i S3 h3
        split at hf
        · cases hf
        · rename_i z S4 h4
          refine ho ρ2 H2 S2 S3 v1 v2 x y _ _ r2 (hv1.ext r1 e2) hv2 h3 fun ρ3 H3 v3 e3 r3 hv3 => ?_
          cases hv3
          refine ⟨true, rfl, iteT ?_⟩
          refine run_e r3 (en2.ext r2 e3) h4 fun ρ4 H4 v4 e4 r4 hv4 en4 => ?_
          exact ho' ρ4 H4 S4 S' v2 v4 y z d Q r4 (hv2.ext r2 (e3.trans e4)) hv4 hf fun ρ5 H5 v5 e5 r5 hv5 => q ρ5 H5 v5 ((e1.trans e2).trans ((e3.trans e4).trans e5)) r5 hv5
      · rename_i S3 h3
        cases hf
        refine ho ρ2 H2 S2 _ v1 v2 x y _ _ r2 (hv1.ext r1 e2) hv2 h3 fun ρ3 H3 v3 e3 r3 hv3 => ?_
        cases hv3
        exact ⟨false, rfl, iteF (q ρ3 H3 _ ((e1.trans e2).trans e3) r3 (.bl false))⟩
      · cases hf
theorem l_chain {op op' : CmpOp} {r r' : R2} {g g' : OF} (hop : OpR X (compareOp op) r) (hop' : OpR X (compareOp op') r') (ho : OkOp X.K r g) (ho' : OkOp X.K r' g') (ha : PE X a (tE X.K fa)) (hb : PE X b (tE X.K fb)) (hc : PE X c (tE X.K fc))
    (hm : lastMarks [op, op'] [b, c] = false := by with_unfolding_all rfl) : PE X (.Compare a [op, op'] [b, c] pos) (tE X.K (eChain g g' fa fb fc)) := (pe_chain hop hop' ha hb hc hm).imp (chain_imp ho ho')
theorem lt_chain {op op' : CmpOp} {r r' : R2} {g g' : OF} (hop : OpR X (compareOp op) r) (hop' : OpR X (compareOp op') r') (ho : OkOp X.K r g) (ho' : OkOp X.K r' g') (ha : PE X a (tE X.K fa)) (hb : PE X b (tE X.K fb)) (hc : PE X c (tE X.K fc))
    (hm : lastMarks [op, op'] [b, c] = false := by with_unfolding_all rfl) : PT X (.Compare a [op, op'] [b, c] pos) (tT X.K (truB (eChain g g' fa fb fc))) := (pt_chain hop hop' ha hb hc hm).imp fun σ H Q h => chain_imp ho ho' σ H _ (truB_imp σ H Q h)
end
end Lite
/-! LiteE: statements, loops, comprehensions. -/
namespace Lite
open PySem PySem.Spec PyProof.Rows L2
inductive Out where
  | nx (env : Env) | rt (d : D) | bk (env : Env) | ct (env : Env)
abbrev SF := Env → Sto → Option (Out × Sto)
def OutOk (K : PySem.W.Frag) (ρ : List Addr) (H : Hp) (E : Ends) : Out → Prop
  | .nx env => ∀ σ, EnvR K ρ H σ env → E.nx σ H
  | .rt d => ∀ v, RD K ρ H v d → E.rt v H
  | .bk env => ∀ σ, EnvR K ρ H σ env → E.bk σ H
  | .ct env => ∀ σ, EnvR K ρ H σ env → E.ct σ H
def tS (K : PySem.W.Frag) (f : SF) : TS := fun E σ H => ∃ ρ S env o S', Rel K ρ H S ∧ EnvR K ρ H σ env ∧ f env S = some (o, S') ∧
  ∀ ρ' H', Ext ρ H ρ' H' → Rel K ρ' H' S' → OutOk K ρ' H' E o
theorem run_s {K : PySem.W.Frag} {f : SF} {ρ : List Addr} {H : Hp} {S S' : Sto} {σ : L2.St} {env : Env} {o : Out} {E : Ends} (r : Rel K ρ H S) (en : EnvR K ρ H σ env) (hf : f env S = some (o, S'))
    (h : ∀ ρ' H', Ext ρ H ρ' H' → Rel K ρ' H' S' → OutOk K ρ' H' E o) : tS K f E σ H := ⟨ρ, S, env, o, S', r, en, hf, h⟩
def sStuck : SF := fun _ _ => none
def sNil : SF := fun env S => some (.nx env, S)
def sCons (f g : SF) : SF := fun env S => match f env S with
  | some (.nx e1, S1) => g e1 S1
  | r => r
def sDrop (f : EF) : SF := fun env S => match f env S with
  | some (_, S1) => some (.nx env, S1)
  | none => none
def sRet (f : EF) : SF := fun env S => match f env S with
  | some (d, S1) => some (.rt d, S1)
  | none => none
def sRetN : SF := fun _ S => some (.rt .non, S)
def sBreak : SF := fun env S => some (.bk env, S)
def sCont : SF := fun env S => some (.ct env, S)
def sIf (t : TF) (f g : SF) : SF := fun env S => match t env S with
  | some (true, S1) => f env S1
  | some (false, S1) => g env S1
  | none => none
def sSet (i : Nat) (f : EF) : SF := fun env S => match f env S with
  | some (d, S1) => some (.nx (env.set i (some d)), S1)
  | none => none
section
variable {X : Cx} {st : Stmt} {rest : List Stmt} {f g : SF} {e c : Expr} {fe : EF} {gt : TF} {pos : Pos}
theorem ls_stuck : PS X st (tS X.K sStuck) := ⟨fun _ _ _ _ _ _ h => by
  obtain ⟨_, _, _, _, _, _, _, h, _⟩ := h
  cases h⟩
theorem ls_nil : PSs X [] (tS X.K sNil) := pss_nil.imp fun E σ H h => by
  obtain ⟨ρ, S, env, o, S', r, en, hf, q⟩ := h
  cases hf
  exact q ρ H (Ext.refl ρ H) r σ en
theorem ls_cons (h1 : PS X st (tS X.K f)) (h2 : PSs X rest (tS X.K g)) : PSs X (st :: rest) (tS X.K (sCons f g)) := (pss_cons h1 h2).imp fun E σ H h => by
  obtain ⟨ρ, S, env, o, S', r, en, hf, q⟩ := h
  unfold sCons at hf
  split at hf
  · rename_i e1 S1 h1
    refine run_s r en h1 fun ρ1 H1 x1 r1 σ1 en1 => ?_
    exact run_s r1 en1 hf fun ρ2 H2 x2 r2 => q ρ2 H2 (x1.trans x2) r2
  · rename_i hn
    refine run_s r en hf fun ρ1 H1 x1 r1 => ?_
    have q1 := q ρ1 H1 x1 r1
    cases o with
    | nx e1 => exact (hn e1 S' hf).elim
    | rt d => exact q1
    | bk e1 => exact q1
    | ct e1 => exact q1
theorem ls_pass : PS X (.Pass pos) (tS X.K sNil) := ps_pass.imp fun E σ H h => by
  obtain ⟨ρ, S, env, o, S', r, en, hf, q⟩ := h
  cases hf
  exact q ρ H (Ext.refl ρ H) r σ en
theorem ls_break : PS X (.Break pos) (tS X.K sBreak) := ps_break.imp fun E σ H h => by
  obtain ⟨ρ, S, env, o, S', r, en, hf, q⟩ := h
  cases hf
  exact q ρ H (Ext.refl ρ H) r σ en
theorem ls_cont : PS X (.Continue pos) (tS X.K sCont) := ps_continue.imp fun E σ H h => by
  obtain ⟨ρ, S, env, o, S', r, en, hf, q⟩ := h
  cases hf
  exact q ρ H (Ext.refl ρ H) r σ en
theorem ls_expr (he : PE X e (tE X.K fe)) (hs : swapsWith e none pos.line X.env = pure false := by rfl) : PS X (.Expr e pos) (tS X.K (sDrop fe)) := (ps_expr he hs).imp fun E σ H h => by
  obtain ⟨ρ, S, env, o, S', r, en, hf, q⟩ := h
  unfold sDrop at hf
  split at hf
  · rename_i d S1 h1
    cases hf
    exact run_e r en h1 fun ρ1 H1 v1 e1 r1 hv1 en1 => q ρ1 H1 e1 r1 σ en1
  · cases hf
theorem ls_ret (he : PE X e (tE X.K fe)) : PS X (.Return (some e) pos) (tS X.K (sRet fe)) := (ps_ret he).imp fun E σ H h => by
  obtain ⟨ρ, S, env, o, S', r, en, hf, q⟩ := h
  unfold sRet at hf
  split at hf
  · rename_i d S1 h1
    cases hf
    exact run_e r en h1 fun ρ1 H1 v1 e1 r1 hv1 en1 => q ρ1 H1 e1 r1 v1 hv1
  · cases hf
theorem ls_retN : PS X (.Return none pos) (tS X.K sRetN) := ps_retN.imp fun E σ H h => by
  obtain ⟨ρ, S, env, o, S', r, en, hf, q⟩ := h
  cases hf
  exact q ρ H (Ext.refl ρ H) r .non .non
theorem ls_if {a b : List Stmt} (hc : PT X c (tT X.K gt)) (ha : PSs X a (tS X.K f)) (hb : PSs X b (tS X.K g)) : PS X (.If c a b pos) (tS X.K (sIf gt f g)) := (ps_if hc ha hb).imp fun E σ H h => by
  obtain ⟨ρ, S, env, o, S', r, en, hf, q⟩ := h
  unfold sIf at hf
  split at hf
  · rename_i S1 h1
    refine run_t r en h1 fun ρ1 H1 e1 r1 en1 => iteT ?_
    exact run_s r1 en1 hf fun ρ2 H2 e2 r2 => q ρ2 H2 (e1.trans e2) r2
  · rename_i S1 h1
    refine run_t r en h1 fun ρ1 H1 e1 r1 en1 => iteF ?_
    exact run_s r1 en1 hf fun ρ2 H2 e2 r2 => q ρ2 H2 (e1.trans e2) r2
  · cases hf
theorem ls_set (i : Nat) {x : Str} {pos' : Pos} (hN : X.N.Nodup) (he : PE X e (tE X.K fe)) (hi : X.N[i]? = some x := by rfl) (hx : Loc X.env.scope x := by first | exact Or.inl rfl | exact Or.inr rfl) (hs : swapsWith e (some (.Name x pos')) pos.line X.env = pure false := by rfl)
    (hf : X.fn x = true ∨ X.env.scope.names.lookup x = some .local := by first | exact .inl rfl | exact .inr rfl | assumption) : PS X (.Assign [.Name x pos'] e pos) (tS X.K (sSet i fe)) := (ps_set hN hi hx he hs hf).imp fun E σ H h => by
  obtain ⟨ρ, S, env, o, S', r, en, hf, q⟩ := h
  unfold sSet at hf
  split at hf
  · rename_i d S1 h1
    cases hf
    exact run_e r en h1 fun ρ1 H1 v1 e1 r1 hv1 en1 => q ρ1 H1 e1 r1 _ (en1.set hv1)
  · cases hf
/-! targets of names -/
end
inductive Tg where
  | nm (i : Nat) | tp (l : List Nat)
def setsE : List Nat → List D → Env → Env
  | i :: l, d :: ds, env => setsE l ds (env.set i (some d))
  | _, _, env => env
def setsV : List Nat → List V → L2.St → L2.St
  | i :: l, d :: ds, env => setsV l ds (env.set i (some d))
  | _, _, env => env
def setTg (t : Tg) (d : D) (env : Env) : Option Env := match t with
  | .nm i => some (env.set i (some d))
  | .tp l => match d with
    | .tup ds => if ds.length = l.length then some (setsE l ds env) else none
    | _ => none
def gNames : List Nat → TGs
  | [] => gNil
  | i :: l => gCons (gName i) (gNames l)
def tgOf (K : PySem.W.Frag) : Tg → TG
  | .nm i => gName i
  | .tp l => gTup K l.length (gNames l)
def Tg.ix : Tg → List Nat
  | .nm i => [i]
  | .tp l => l
section
variable {K : PySem.W.Frag} {ρ : List Addr} {H : Hp} {S : Sto} {σ : L2.St} {env env' : Env}
theorem EnvR.sets : ∀ {l : List Nat} {xs : List V} {ds : List D} {σ : L2.St} {env : Env}, EnvR K ρ H σ env → RDs K ρ H xs ds → EnvR K ρ H (setsV l xs σ) (setsE l ds env)
  | [], xs, ds, σ, env, h, q => h
  | i :: l, [], [], σ, env, h, q => h
  | i :: l, [], _ :: _, σ, env, h, q => by have := q.len; simp at this
  | i :: l, _ :: _, [], σ, env, h, q => by have := q.len; simp at this
  | i :: l, x :: xs, d :: ds, σ, env, h, q => EnvR.sets (l := l) (h.set (q.at_ 0 x d rfl rfl)) ⟨by have := q.len; simpa using this, fun j x' d' a b => q.at_ (j + 1) x' d' a b⟩
theorem run_names : ∀ {l : List Nat} {xs : List V} {σ : L2.St} {Q : L2.St → Hp → Prop}, xs.length = l.length → Q (setsV l xs σ) H → gNames l xs σ H Q
  | [], [], σ, Q, _, h => ⟨rfl, h⟩
  | i :: l, x :: xs, σ, Q, e, h => ⟨x, xs, rfl, run_names (l := l) (by simpa using e) h⟩
/-- a target is stored; the frame behind it by name -/
theorem run_tg {t : Tg} {v : V} {d : D} {Q : L2.St → Hp → Prop} (r : Rel K ρ H S) (en : EnvR K ρ H σ env) (hv : RD K ρ H v d) (h : setTg t d env = some env')
    (q : ∀ xs, EnvR K ρ H (setsV t.ix xs σ) env' → Q (setsV t.ix xs σ) H) : tgOf K t v σ H Q := by
  cases t with
  | nm i =>
    cases h
    exact q [v] (en.set hv)
  | tp l =>
    unfold setTg at h
    dsimp only at h
    split at h
    · rename_i ds
      split at h
      · rename_i hl
        cases h
        cases hv with
        | tup hs hlen ha =>
          rename_i a xs
          exact ⟨a, xs, rfl, hs, hlen.trans hl, run_names (hlen.trans hl) (q xs (en.sets ⟨hlen, ha⟩))⟩
      · cases h
    · cases h
theorem wipe_set {vs : List Nat} {i : Nat} {v : Option V} (hi : i ∈ vs) : ∀ σ : L2.St, wipe (σ.set i v) vs = wipe σ vs := by
  intro σ
  refine List.ext_getElem? fun j => ?_
  by_cases hj : j ∈ vs
  · by_cases h1 : j < σ.length
    · have e1 : ∀ τ : L2.St, j < τ.length → (wipe τ vs)[j]? = some none := fun τ hτ => by
        have hl : j < (wipe τ vs).length := by rw [wipe_length]; exact hτ
        cases q : (wipe τ vs)[j]? with
        | none => rw [List.getElem?_eq_none_iff] at q; omega
        | some o =>
          cases o with
          | none => rfl
          | some x => exact absurd hj (wipe_some q).2
      rw [e1 _ (by simpa using h1), e1 _ h1]
    · rw [List.getElem?_eq_none (by rw [wipe_length]; simp; omega), List.getElem?_eq_none (by rw [wipe_length]; omega)]
  · rw [wipe_out hj, wipe_out hj, List.getElem?_set_ne (fun z => hj (by rw [← z]; exact hi))]
theorem wipe_sets {vs : List Nat} : ∀ {l : List Nat} {xs : List V} {σ : L2.St}, (∀ i ∈ l, i ∈ vs) → wipe (setsV l xs σ) vs = wipe σ vs
  | [], xs, σ, _ => rfl
  | i :: l, [], σ, _ => rfl
  | i :: l, x :: xs, σ, h => by
    show wipe (setsV l xs (σ.set i (some x))) vs = _
    rw [wipe_sets (fun j hj => h j (List.mem_cons_of_mem _ hj)), wipe_set (h i List.mem_cons_self)]
def wipeE (env : Env) : List Nat → Env
  | [] => env
  | i :: vs => (wipeE env vs).set i none
theorem wipeE_length (env : Env) : ∀ vs, (wipeE env vs).length = env.length
  | [] => rfl
  | i :: vs => by
    show ((wipeE env vs).set i none).length = _
    rw [List.length_set, wipeE_length env vs]
theorem wipeE_some {env : Env} {i : Nat} {d : D} : ∀ {vs : List Nat}, (wipeE env vs)[i]? = some (some d) → env[i]? = some (some d) ∧ i ∉ vs
  | [], h => ⟨h, by simp⟩
  | j :: vs, h => by
    have h' : ((wipeE env vs).set j none)[i]? = some (some d) := h
    rw [List.getElem?_set] at h'
    by_cases hj : j = i
    · rw [if_pos hj] at h'
      split at h' <;> cases h'
    · rw [if_neg hj] at h'
      obtain ⟨a, b⟩ := wipeE_some h'
      exact ⟨a, by simp [Ne.symm hj, b]⟩
theorem EnvR.wipe (h : EnvR K ρ H σ env) (vs : List Nat) : EnvR K ρ H (L2.wipe σ vs) (wipeE env vs) := by
  refine ⟨by rw [wipe_length, wipeE_length, h.len], fun i d e => ?_⟩
  obtain ⟨e1, e2⟩ := wipeE_some e
  obtain ⟨v, h1, h2⟩ := h.at_ i d e1
  exact ⟨v, by rw [wipe_out e2]; exact h1, h2⟩
end
section
variable {X : Cx} {e a b : Expr} {es : List Expr} {fe : EF} {fs : AF} {pos : Pos}
theorem lg_nm (i : Nat) {x : Str} (hN : X.N.Nodup) (hi : X.N[i]? = some x := by rfl) (hx : Loc X.env.scope x := by first | exact Or.inl rfl | exact Or.inr rfl) (hf : X.fn x = true ∨ X.env.scope.names.lookup x = some .local := by first | exact .inl rfl | exact .inr rfl | assumption) : PG X (.Name x pos) (tgOf X.K (.nm i)) := pg_name hN hi hx hf
theorem lgs_nil : PGs X [] (gNames []) := pgs_nil
theorem lgs_cons {i : Nat} {l : List Nat} (h1 : PG X e (tgOf X.K (.nm i))) (h2 : PGs X es (gNames l)) (hs : (assignEach (e :: es) X.env).map (·.2) = assign e X.env :: (assignEach es X.env).map (·.2) := by rfl) : PGs X (e :: es) (gNames (i :: l)) := pgs_cons h1 h2 hs
theorem lg_tp {k : Nat} {l : List Nat} (hc : X.calm = true) (h : PGs X es (gNames l)) (hn : (assignEach es X.env).length = l.length := by rfl) (hst : (assignEach es X.env).findIdx? (·.1) = none := by rfl) : PG X (.Tuple es k pos) (tgOf X.K (.tp l)) := pg_tup hc h hn hst
def sAsg (t : Tg) (f : EF) : SF := fun env S => match f env S with
  | some (d, S1) => match setTg t d env with
    | some e1 => some (.nx e1, S1)
    | none => none
  | none => none
theorem ls_asg {t : Tg} (he : PE X e (tE X.K fe)) (hg : PG X a (tgOf X.K t)) (hs : swapsWithSole [a] e pos.line X.env = pure false := by rfl) (hw : swappedStores [a] e X.env = pure none := by rfl) (h1 : (assignEach [a] X.env).map (·.2) = [assign a X.env] := by rfl) : PS X (.Assign [a] e pos) (tS X.K (sAsg t fe)) := (ps_asg he hg (hs := hs) (hw := hw) (h1 := h1)).imp fun E σ H h => by
  obtain ⟨ρ, S, env, o, S', r, en, hf, q⟩ := h
  unfold sAsg at hf
  split at hf
  · rename_i d S1 h1
    split at hf
    · rename_i e1 h2
      cases hf
      refine run_e r en h1 fun ρ1 H1 v1 x1 r1 hv1 en1 => ?_
      exact run_tg r1 en1 hv1 h2 fun xs q2 => q ρ1 H1 x1 r1 _ q2
    · cases hf
  · cases hf
/-- x, y = (a, b) -/
def sPar (l : List Nat) (f : AF) : SF := fun env S => match f env S with
  | some (ds, S1) => if ds.length = l.length then some (.nx (setsE l ds env), S1) else none
  | none => none
theorem ls_par (i j : Nat) {x y : Str} {px py pt : Pos} {kt k2 pt2} (hc : X.calm = true) (hN : X.N.Nodup) (hij : i ≠ j) (ha : PA X [a, b] (tA X.K fs)) (hi : X.N[i]? = some x := by rfl) (hj : X.N[j]? = some y := by rfl)
    (hx : X.env.scope.names.lookup x = some .local := by rfl) (hy : X.env.scope.names.lookup y = some .local := by rfl)
    (hw : swappedStores [.Tuple [.Name x px, .Name y py] kt pt] (.Tuple [a, b] k2 pt2) X.env = pure (some [x, y]) := by rfl)
    (hs : swapsWithSole [.Tuple [.Name x px, .Name y py] kt pt] (.Tuple [a, b] k2 pt2) pos.line X.env = pure false := by rfl) :
    PS X (.Assign [.Tuple [.Name x px, .Name y py] kt pt] (.Tuple [a, b] k2 pt2) pos) (tS X.K (sPar [i, j] fs)) := (ps_par hc hN hi hj hij hx hy ha hw hs).imp fun E σ H h => by
  obtain ⟨ρ, S, env, o, S', r, en, hf, q⟩ := h
  unfold sPar at hf
  split at hf
  · rename_i ds S1 h1
    split at hf
    · rename_i hl
      cases hf
      refine run_a r en h1 fun ρ1 H1 vs x1 r1 hv1 en1 => ?_
      match ds, hl with
      | [d1, d2], _ =>
        obtain ⟨v, u, rfl, hw1, hw2⟩ := rds2 hv1
        exact ⟨v, u, rfl, q ρ1 H1 x1 r1 _ ((en1.set hw1).set hw2)⟩
    · cases hf
  · cases hf
/-- xs[i] = e -/
def sSub (fo fi fe : EF) : SF := fun env S => match fe env S with
  | none => none
  | some (d, S1) => match fo env S1 with
    | some (.ref k, S2) => (match fi env S2 with
      | some (.int i, S3) => (match S3[k]? with
        | some (.lst es) => (match ixN es.length i with
          | some j => some (.nx env, S3.set k (.lst (es.set j d)))
          | none => none)
        | _ => none)
      | _ => none)
    | _ => none
theorem ls_sub {fo fi : EF} {o i : Expr} {ps : Pos} (he : PE X e (tE X.K fe)) (ho : PE X o (tE X.K fo)) (hi : PE X i (tE X.K fi)) (hg : ∀ {to ti : TE} {t : TSet}, PE X o to → PE X i ti → PSet X t → PG X (.Subscript o i ps) (gSub to ti t))
    (hs : swapsWithSole [.Subscript o i ps] e pos.line X.env = pure false := by rfl) (hw : swappedStores [.Subscript o i ps] e X.env = pure none := by rfl) (h1 : (assignEach [.Subscript o i ps] X.env).map (·.2) = [assign (.Subscript o i ps) X.env] := by rfl) : PS X (.Assign [.Subscript o i ps] e pos) (tS X.K (sSub fo fi fe)) :=
  (ps_asg he (hg ho hi set_list) (hs := hs) (hw := hw) (h1 := h1)).imp fun E σ H h => by
  obtain ⟨ρ, S, env, o, S', r, en, hf, q⟩ := h
  unfold sSub at hf
  split at hf
  · cases hf
  · rename_i d S1 h1
    split at hf
    · rename_i k S2 h2
      split at hf
      · rename_i i' S3 h3
        split at hf
        · rename_i es hc
          split at hf
          · rename_i j hj
            cases hf
            refine run_e r en h1 fun ρ1 H1 v1 x1 r1 hv1 en1 => run_e r1 en1 h2 fun ρ2 H2 v2 x2 r2 hv2 en2 => run_e r2 en2 h3 fun ρ3 H3 v3 x3 r3 hv3 en3 => ?_
            cases hv3
            have hv2' := hv2.ext r2 x3
            cases hv2' with
            | ref hr =>
              rename_i p
              obtain ⟨xs, k1, k2⟩ := r3.cell _ _ _ hr hc
              refine ⟨p, xs, i', j, rfl, rfl, k1, by rw [k2.len]; exact hj, ?_⟩
              have hd := hv1.ext r1 (x2.trans x3)
              have xm := ext_mut (H := H3) (o := .lst (xs.set j v1)) (List.mem_of_getElem? hr)
              exact q ρ3 _ ((x1.trans (x2.trans x3)).trans xm) (r3.mutL hr (k2.set j hd)) σ (en3.ext r3 xm)
          · cases hf
        · cases hf
      · cases hf
    · cases hf
/-- x += e -/
def sAug (i : Nat) (h : Int → Int → Int) (f : EF) : SF := fun env S => match env[i]? with
  | some (some (.int n)) => match f env S with
    | some (.int m, S1) => some (.nx (env.set i (some (.int (h n m)))), S1)
    | _ => none
  | _ => none
theorem ls_aug (i : Nat) {h : Int → Int → Int} {op : Operator} {x : Str} {pos' : Pos} (hop : PIp X op (ipI h)) (hN : X.N.Nodup) (he : PE X e (tE X.K fe)) (hi : X.N[i]? = some x := by rfl) (hx : Loc X.env.scope x := by first | exact Or.inl rfl | exact Or.inr rfl)
    (hf : X.fn x = true ∨ X.env.scope.names.lookup x = some .local := by first | exact .inl rfl | exact .inr rfl | assumption) : PS X (.AugAssign (.Name x pos') op e pos) (tS X.K (sAug i h fe)) := (ps_aug hN hi hx he hop hf).imp fun E σ H q0 => by
  obtain ⟨ρ, S, env, o, S', r, en, hf, q⟩ := q0
  unfold sAug at hf
  split at hf
  · rename_i n h0
    split at hf
    · rename_i m S1 h1
      cases hf
      obtain ⟨v, k1, k2⟩ := en.at_ i _ h0
      cases k2
      refine ⟨_, k1, run_e r en h1 fun ρ1 H1 v1 x1 r1 hv1 en1 => ?_⟩
      cases hv1
      exact ⟨_, _, rfl, rfl, q ρ1 H1 x1 r1 _ (en1.set (.int _))⟩
    · cases hf
  · cases hf
end
/-! ### what is walked -/
inductive Src where
  | fix (ds : List D) | cell (n : Nat) | zip (a b : Nat) | enum (a : Nat)
def nextD (S : Sto) (i : Nat) : Src → Option (Option D)
  | .fix ds => some ds[i]?
  | .cell n => match S[n]? with
    | some c => some c.items[i]?
    | none => none
  | .zip a b => match S[a]?, S[b]? with
    | some c, some e => (match c.items[i]?, e.items[i]? with
      | some x, some y => some (some (.tup [x, y]))
      | _, _ => some none)
    | _, _ => none
  | .enum a => match S[a]? with
    | some c => (match c.items[i]? with
      | some x => some (some (.tup [.int i, x]))
      | _ => some none)
    | none => none
def SrcOk (K : PySem.W.Frag) (ρ : List Addr) (H : Hp) (J : It) (src : Src) : Prop := ∀ ρ2 H2 S2 i, Ext ρ H ρ2 H2 → Rel K ρ2 H2 S2 → match nextD S2 i src with
  | none => True
  | some none => J.stop i H2
  | some (some d) => J.go i H2 ∧ ∀ x H3, J.yld i H2 x H3 → Ext ρ2 H2 ρ2 H3 ∧ Rel K ρ2 H3 S2 ∧ RD K ρ2 H3 x d
abbrev IFn := Env → Sto → Option (Src × Sto)
def tI (K : PySem.W.Frag) (f : IFn) : TI := fun σ H R => ∃ ρ S env src S', Rel K ρ H S ∧ EnvR K ρ H σ env ∧ f env S = some (src, S') ∧
  ∀ ρ' H' J, Ext ρ H ρ' H' → Rel K ρ' H' S' → SrcOk K ρ' H' J src → R J H'
theorem _root_.L2.PI.imp {X : Cx} {tg e : Expr} {t t' : TI} (h : PI X tg e t) (i : ∀ σ H Q, t' σ H Q → t σ H Q) : PI X tg e t' := ⟨fun pins s σ H Q I q => h.run pins s σ H Q I (i σ H Q q)⟩
theorem _root_.L2.PI.or {X : Cx} {tg e : Expr} {t t' : TI} (h : PI X tg e t) (h' : PI X tg e t') : PI X tg e (fun σ H R => t σ H R ∨ t' σ H R) := ⟨fun pins s σ H Q I q => q.elim (h.run pins s σ H Q I) (h'.run pins s σ H Q I)⟩
/-- a list, a tuple -/
def iSeq (f : EF) : IFn := fun env S => match f env S with
  | some (.ref n, S1) => some (.cell n, S1)
  | some (.tup ds, S1) => some (.fix ds, S1)
  | _ => none
section
variable {X : Cx} {K : PySem.W.Frag} {tg e a b : Expr} {fe : EF} {fs : AF} {p pos : Pos}
theorem src_cell {ρ : List Addr} {H : Hp} {n : Nat} {q : Addr} (hq : ρ[n]? = some q) : SrcOk K ρ H (Itl K q) (.cell n) := fun ρ2 H2 S2 i x r => by
  have h2 := x.get hq
  obtain ⟨c, hc, _⟩ := r.of h2
  obtain ⟨xs, hs, hr⟩ := r.seq h2 hc
  simp only [nextD, hc]
  cases h : c.items[i]? with
  | none =>
    refine ⟨xs, hs, ?_⟩
    rw [hr.len]
    exact List.getElem?_eq_none_iff.mp h
  | some d =>
    obtain ⟨v, hv, hd⟩ := hr.get h
    refine ⟨⟨xs, v, hs, hv⟩, fun y H3 hy => ?_⟩
    obtain ⟨rfl, hy⟩ := hy
    have e : y = v := Option.some.inj ((hy xs hs).symm.trans hv)
    rw [e]
    exact ⟨Ext.refl _ _, r, hd⟩
theorem src_tup {ρ : List Addr} {H : Hp} {S : Sto} {q : Addr} {xs : List V} {ds : List D} (r0 : Rel K ρ H S) (hq : SqT K H q xs) (hx : RDs K ρ H xs ds) : SrcOk K ρ H (Itt K q) (.fix ds) := fun ρ2 H2 S2 i x r => by
  have hs := SqT.ext r0 x hq
  have hr := hx.ext r0 x
  simp only [nextD]
  cases h : ds[i]? with
  | none =>
    refine ⟨xs, hs, ?_⟩
    rw [hr.len]
    exact List.getElem?_eq_none_iff.mp h
  | some d =>
    obtain ⟨v, hv, hd⟩ := hr.get h
    refine ⟨⟨xs, v, hs, hv⟩, fun y H3 hy => ?_⟩
    obtain ⟨rfl, hy⟩ := hy
    have e : y = v := Option.some.inj ((hy xs hs).symm.trans hv)
    rw [e]
    exact ⟨Ext.refl _ _, r, hd⟩
theorem li_seq (h : PE X e (tE X.K fe)) : PI X tg e (tI X.K (iSeq fe)) := (PI.or (pi_list h) (pi_tup h)).imp fun σ H R q0 => by
  obtain ⟨ρ, S, env, src, S', r, en, hf, q⟩ := q0
  unfold iSeq at hf
  split at hf
  · rename_i n S1 h1
    cases hf
    refine .inl (run_e r en h1 fun ρ1 H1 v1 x1 r1 hv1 en1 => ?_)
    cases hv1 with
    | ref hr =>
      rename_i p
      obtain ⟨c, hc, _⟩ := r1.of hr
      obtain ⟨xs, hs, _⟩ := r1.seq hr hc
      exact ⟨p, rfl, ⟨xs, hs⟩, q ρ1 H1 _ x1 r1 (src_cell hr)⟩
  · rename_i ds S1 h1
    cases hf
    refine .inr (run_e r en h1 fun ρ1 H1 v1 x1 r1 hv1 en1 => ?_)
    cases hv1 with
    | tup hs hl ha =>
      rename_i p xs
      exact ⟨p, rfl, ⟨xs, hs⟩, q ρ1 H1 _ x1 r1 (src_tup r1 hs ⟨hl, ha⟩)⟩
  · cases hf
end
end Lite
/-! LiteF: ranges, zip, enumerate; for, while; comprehensions. -/
namespace Lite
open PySem PySem.Spec PyProof.Rows L2
def rangeD (lo : Int) (n : Nat) : List D := (List.range n).map fun i => D.int (lo + ((i : Nat) : Int))
def iRange1 (f : AF) : IFn := fun env S => match f env S with
  | some ([.int j], S1) => if -(2 ^ 62) ≤ j ∧ j < 2 ^ 62 then some (.fix (rangeD 0 j.toNat), S1) else none
  | _ => none
def iRange2 (f : AF) : IFn := fun env S => match f env S with
  | some ([.int i, .int j], S1) => if (-(2 ^ 62) ≤ i ∧ i < 2 ^ 62) ∧ (-(2 ^ 62) ≤ j ∧ j < 2 ^ 62) then some (.fix (rangeD i (j - i).toNat), S1) else none
  | _ => none
def iZipF (f : AF) : IFn := fun env S => match f env S with
  | some ([.ref a, .ref b], S1) => some (.zip a b, S1)
  | _ => none
def iEnumF (f : AF) : IFn := fun env S => match f env S with
  | some ([.ref a], S1) => some (.enum a, S1)
  | _ => none
section
variable {X : Cx} {K : PySem.W.Frag} {tg e a b : Expr} {fe : EF} {fs : AF} {p pos : Pos}
theorem src_range {ρ : List Addr} {H : Hp} {lo : Int} {n : Nat} : SrcOk K ρ H (Itr lo n) (.fix (rangeD lo n)) := fun ρ2 H2 S2 i x r => by
  simp only [nextD, rangeD, List.getElem?_map]
  by_cases hi : i < n
  · rw [List.getElem?_range hi]
    refine ⟨hi, fun y H3 hy => ?_⟩
    obtain ⟨rfl, rfl⟩ := hy
    exact ⟨Ext.refl _ _, r, .int _⟩
  · rw [List.getElem?_eq_none (by simpa using hi)]
    show n ≤ i
    omega
theorem li_range1 (hg : Gl X "range") (hm : X.mg "range" = none) (ha : PA X [a] (tA X.K fs)) (hs : starEach [a] X.env = [(false, eval a X.env)] := by rfl) : PI X tg (.Call (.Name "range" p) [a] [] pos) (tI X.K (iRange1 fs)) := (pi_range1 hg hm ha hs).imp fun σ H R q0 => by
  obtain ⟨ρ, S, env, src, S', r, en, hf, q⟩ := q0
  unfold iRange1 at hf
  split at hf
  · rename_i j S1 h1
    split at hf
    · rename_i hc
      cases hf
      refine run_a r en h1 fun ρ1 H1 vs x1 r1 hv1 en1 => ?_
      obtain ⟨v, rfl, hw⟩ := rds1 hv1
      cases hw
      exact ⟨j, rfl, hc.1, hc.2, q ρ1 H1 _ x1 r1 src_range⟩
    · cases hf
  · cases hf
theorem li_range2 (hg : Gl X "range") (hm : X.mg "range" = none) (ha : PA X [a, b] (tA X.K fs)) (hs : starEach [a, b] X.env = [(false, eval a X.env), (false, eval b X.env)] := by rfl) (hs2 : starEach [b] X.env = [(false, eval b X.env)] := by rfl) : PI X tg (.Call (.Name "range" p) [a, b] [] pos) (tI X.K (iRange2 fs)) := (pi_range2 hg hm ha hs hs2).imp fun σ H R q0 => by
  obtain ⟨ρ, S, env, src, S', r, en, hf, q⟩ := q0
  unfold iRange2 at hf
  split at hf
  · rename_i i j S1 h1
    split at hf
    · rename_i hc
      cases hf
      refine run_a r en h1 fun ρ1 H1 vs x1 r1 hv1 en1 => ?_
      obtain ⟨v, u, rfl, hw, hu⟩ := rds2 hv1
      cases hw; cases hu
      exact ⟨i, j, rfl, ⟨hc.1.1, hc.1.2, hc.2.1, hc.2.2⟩, q ρ1 H1 _ x1 r1 src_range⟩
    · cases hf
  · cases hf
theorem pair_new {ρ2 : List Addr} {H2 : Hp} {S2 : Sto} {T : Addr} {x y : V} {d e : D} (r : Rel K ρ2 H2 S2) (hT : H2 T = none) (hx : RD K ρ2 H2 x d) (hy : RD K ρ2 H2 y e) : Ext ρ2 H2 ρ2 (upd H2 T (.tup [x, y])) ∧ Rel K ρ2 (upd H2 T (.tup [x, y])) S2 ∧ RD K ρ2 (upd H2 T (.tup [x, y])) (.ref T) (.tup [d, e]) := by
  have x1 := ext_new (ρ := ρ2) (o := .tup [x, y]) hT
  have hp : RDs K ρ2 H2 [x, y] [d, e] := .cons hx (.cons hy .nil)
  have h3 := hp.ext r x1
  exact ⟨x1, r.newT hT, .tup (SqT.of upd_same) h3.len h3.at_⟩
theorem src_zip {ρ : List Addr} {H : Hp} {n m : Nat} {p q : Addr} (hp : ρ[n]? = some p) (hq : ρ[m]? = some q) : SrcOk K ρ H (Itz K p q) (.zip n m) := fun ρ2 H2 S2 i x r => by
  have h2 := x.get hp
  obtain ⟨c, hc, _⟩ := r.of h2
  obtain ⟨xs, hs, hr⟩ := r.seq h2 hc
  have h2' := x.get hq
  obtain ⟨c', hc', _⟩ := r.of h2'
  obtain ⟨ys, hs', hr'⟩ := r.seq h2' hc'
  simp only [nextD, hc, hc']
  cases h : c.items[i]? with
  | none =>
    refine ⟨xs, ys, hs, hs', .inl ?_⟩
    rw [hr.len]
    exact List.getElem?_eq_none_iff.mp h
  | some d =>
    cases h' : c'.items[i]? with
    | none =>
      refine ⟨xs, ys, hs, hs', .inr ?_⟩
      rw [hr'.len]
      exact List.getElem?_eq_none_iff.mp h'
    | some d' =>
      obtain ⟨v, hv, hd⟩ := hr.get h
      obtain ⟨v', hv', hd'⟩ := hr'.get h'
      refine ⟨⟨xs, ys, v, v', hs, hs', hv, hv'⟩, fun y H3 hy => ?_⟩
      obtain ⟨T, z, z', rfl, hT, rfl, k1, k2⟩ := hy
      have e1 : z = v := Option.some.inj ((k1 xs hs).symm.trans hv)
      have e2 : z' = v' := Option.some.inj ((k2 ys hs').symm.trans hv')
      rw [e1, e2]
      exact pair_new r hT hd hd'
theorem src_enum {ρ : List Addr} {H : Hp} {n : Nat} {p : Addr} (hp : ρ[n]? = some p) : SrcOk K ρ H (Ite K p) (.enum n) := fun ρ2 H2 S2 i x r => by
  have h2 := x.get hp
  obtain ⟨c, hc, _⟩ := r.of h2
  obtain ⟨xs, hs, hr⟩ := r.seq h2 hc
  simp only [nextD, hc]
  cases h : c.items[i]? with
  | none =>
    refine ⟨xs, hs, ?_⟩
    rw [hr.len]
    exact List.getElem?_eq_none_iff.mp h
  | some d =>
    obtain ⟨v, hv, hd⟩ := hr.get h
    refine ⟨⟨xs, v, hs, hv⟩, fun y H3 hy => ?_⟩
    obtain ⟨T, z, rfl, hT, rfl, k1⟩ := hy
    have e1 : z = v := Option.some.inj ((k1 xs hs).symm.trans hv)
    rw [e1]
    exact pair_new r hT (.int _) hd
theorem li_zip {elts : List Expr} {kk : Nat} {tpos : Pos} (hg : Gl X "zip") (hm : X.mg "zip" = none) (ha : PA X [a, b] (tA X.K fs)) (hs : starEach [a, b] X.env = (false, eval a X.env) :: starEach [b] X.env := by rfl) (hpl : (backTo pos (starEach [b] X.env)).any (·.1) = false := by rfl) :
    PI X (.Tuple elts kk tpos) (.Call (.Name "zip" p) [a, b] [] pos) (tI X.K (iZipF fs)) := (pi_zip hg hm ha hs hpl).imp fun σ H R q0 => by
  obtain ⟨ρ, S, env, src, S', r, en, hf, q⟩ := q0
  unfold iZipF at hf
  split at hf
  · rename_i n m S1 h1
    cases hf
    refine run_a r en h1 fun ρ1 H1 vs x1 r1 hv1 en1 => ?_
    obtain ⟨v, u, rfl, hw, hu⟩ := rds2 hv1
    cases hw with
    | ref hn =>
      cases hu with
      | ref hm' =>
        rename_i p1 p2
        obtain ⟨c, hc, _⟩ := r1.of hn
        obtain ⟨xs, hxs, _⟩ := r1.seq hn hc
        obtain ⟨c', hc', _⟩ := r1.of hm'
        obtain ⟨ys, hys, _⟩ := r1.seq hm' hc'
        exact ⟨p1, p2, xs, ys, rfl, hxs, hys, q ρ1 H1 _ x1 r1 (src_zip hn hm')⟩
  · cases hf
theorem li_enum {elts : List Expr} {kk : Nat} {tpos : Pos} (hg : Gl X "enumerate") (hm : X.mg "enumerate" = none) (ha : PA X [a] (tA X.K fs)) (hs : starEach [a] X.env = [(false, eval a X.env)] := by rfl) :
    PI X (.Tuple elts kk tpos) (.Call (.Name "enumerate" p) [a] [] pos) (tI X.K (iEnumF fs)) := (pi_enum hg hm ha hs).imp fun σ H R q0 => by
  obtain ⟨ρ, S, env, src, S', r, en, hf, q⟩ := q0
  unfold iEnumF at hf
  split at hf
  · rename_i n S1 h1
    cases hf
    refine run_a r en h1 fun ρ1 H1 vs x1 r1 hv1 en1 => ?_
    obtain ⟨v, rfl, hw⟩ := rds1 hv1
    cases hw with
    | ref hn =>
      rename_i p1
      obtain ⟨c, hc, _⟩ := r1.of hn
      obtain ⟨xs, hxs, _⟩ := r1.seq hn hc
      exact ⟨p1, xs, rfl, hxs, q ρ1 H1 _ x1 r1 (src_enum hn)⟩
  · cases hf
end
/-! ### for -/
def forL (b : SF) (t : Tg) (src : Src) : Nat → Nat → SF
  | 0, _ => fun _ _ => none
  | n + 1, i => fun env S => match nextD S i src with
    | none => none
    | some none => some (.nx env, S)
    | some (some d) => match setTg t d env with
      | none => none
      | some e1 => match b e1 S with
        | none => none
        | some (.nx e2, S2) => forL b t src n (i + 1) e2 S2
        | some (.ct e2, S2) => forL b t src n (i + 1) e2 S2
        | some (.bk e2, S2) => some (.nx e2, S2)
        | some (.rt d, S2) => some (.rt d, S2)
def sFor (n : Nat) (t : Tg) (it : IFn) (b : SF) : SF := fun env S => match it env S with
  | none => none
  | some (src, S1) => forL b t src n 0 env S1
def whileL (c : TF) (b : SF) : Nat → SF
  | 0 => fun _ _ => none
  | n + 1 => fun env S => match c env S with
    | none => none
    | some (false, S1) => some (.nx env, S1)
    | some (true, S1) => match b env S1 with
      | none => none
      | some (.nx e2, S2) => whileL c b n e2 S2
      | some (.ct e2, S2) => whileL c b n e2 S2
      | some (.bk e2, S2) => some (.nx e2, S2)
      | some (.rt d, S2) => some (.rt d, S2)
section
variable {X : Cx} {tg iter c : Expr} {body : List Stmt} {it : IFn} {b : SF} {t : Tg} {gc : TF} {pos : Pos}
/-- a body's end in a loop -/
theorem out_loop {K : PySem.W.Frag} {ρ : List Addr} {H : Hp} {E : Ends} {N : L2.St → Hp → Prop} {o : Out} (h : match o with
    | .nx e => ∀ σ, EnvR K ρ H σ e → N σ H
    | .ct e => ∀ σ, EnvR K ρ H σ e → N σ H
    | .bk e => ∀ σ, EnvR K ρ H σ e → E.nx σ H
    | .rt d => ∀ v, RD K ρ H v d → E.rt v H) : OutOk K ρ H { E with nx := N, ct := N, bk := E.nx } o := by
  cases o <;> exact h
theorem ls_for (n : Nat) (hp : PassesOwn (model X.prog X.w) X.A X.env X.xe) (hc : X.calm = true) (hi : PI X tg iter (tI X.K it)) (hg : PG X tg (tgOf X.K t)) (hb : PSs X body (tS X.K b))
    (hs : ∀ x, foldedSetIterable iter X.env x = pure x := by intro _; rfl) : PS X (.For tg iter body [] pos) (tS X.K (sFor n t it b)) := (ps_for hp hc hi hg hb hs).imp fun E σ H q0 => by
  obtain ⟨ρ, S, env, o, S', r, en, hf, q⟩ := q0
  unfold sFor at hf
  split at hf
  · cases hf
  · rename_i src S1 h1
    refine ⟨ρ, S, env, src, S1, r, en, h1, fun ρ1 H1 J x1 r1 hJ => ?_⟩
    refine ⟨fun i m σ2 H2 => ∃ ρ2 S2 env2, Rel X.K ρ2 H2 S2 ∧ EnvR X.K ρ2 H2 σ2 env2 ∧ Ext ρ1 H1 ρ2 H2 ∧ forL b t src m i env2 S2 = some (o, S'), ⟨n, ρ1, S1, env, r1, en.ext r x1, Ext.refl _ _, hf⟩, ?_⟩
    rintro i m σ2 H2 ⟨ρ2, S2, env2, r2, en2, x2, h2⟩
    cases m with
    | zero => cases h2
    | succ m =>
      unfold forL at h2
      have hJ2 := hJ ρ2 H2 S2 i x2 r2
      split at h2
      · cases h2
      · rename_i hn
        cases h2
        rw [hn] at hJ2
        exact .inl ⟨hJ2, q ρ2 H2 (x1.trans x2) r2 σ2 en2⟩
      · rename_i d hn
        rw [hn] at hJ2
        obtain ⟨go, yl⟩ := hJ2
        refine .inr ⟨go, _, fun σ' H' h => h, fun x H3 hy => ?_⟩
        obtain ⟨x3, r3, hx⟩ := yl x H3 hy
        have en3 := en2.ext r2 x3
        split at h2
        · cases h2
        · rename_i e1 ht
          refine run_tg r3 en3 hx ht fun xs en4 => ?_
          split at h2
          · cases h2
          · rename_i e2 S4 hb4
            exact run_s r3 en4 hb4 fun ρ5 H5 x5 r5 => out_loop fun σ5 en5 => ⟨m, Nat.lt_succ_self m, ρ5, S4, e2, r5, en5, (x2.trans x3).trans x5, h2⟩
          · rename_i e2 S4 hb4
            exact run_s r3 en4 hb4 fun ρ5 H5 x5 r5 => out_loop fun σ5 en5 => ⟨m, Nat.lt_succ_self m, ρ5, S4, e2, r5, en5, (x2.trans x3).trans x5, h2⟩
          · rename_i e2 S4 hb4
            cases h2
            exact run_s r3 en4 hb4 fun ρ5 H5 x5 r5 => out_loop fun σ5 en5 => q ρ5 H5 (x1.trans ((x2.trans x3).trans x5)) r5 σ5 en5
          · rename_i d2 S4 hb4
            cases h2
            exact run_s r3 en4 hb4 fun ρ5 H5 x5 r5 => out_loop fun v hv => q ρ5 H5 (x1.trans ((x2.trans x3).trans x5)) r5 v hv
theorem ls_while (n : Nat) (hp : PassesOwn (model X.prog X.w) X.A X.env X.xe) (hc : PT X c (tT X.K gc)) (hb : PSs X body (tS X.K b)) : PS X (.While c body [] pos) (tS X.K (whileL gc b n)) := (ps_while hp hc hb).imp fun E σ H q0 => by
  obtain ⟨ρ, S, env, o, S', r, en, hf, q⟩ := q0
  refine ⟨fun m σ2 H2 => ∃ ρ2 S2 env2, Rel X.K ρ2 H2 S2 ∧ EnvR X.K ρ2 H2 σ2 env2 ∧ Ext ρ H ρ2 H2 ∧ whileL gc b m env2 S2 = some (o, S'), ⟨n, ρ, S, env, r, en, Ext.refl _ _, hf⟩, ?_⟩
  rintro m σ2 H2 ⟨ρ2, S2, env2, r2, en2, x2, h2⟩
  cases m with
  | zero => cases h2
  | succ m =>
    unfold whileL at h2
    split at h2
    · cases h2
    · rename_i S3 h3
      cases h2
      exact run_t r2 en2 h3 fun ρ3 H3 x3 r3 en3 => iteF (q ρ3 H3 (x2.trans x3) r3 σ2 en3)
    · rename_i S3 h3
      refine run_t r2 en2 h3 fun ρ3 H3 x3 r3 en3 => iteT ⟨_, fun σ' H' h => h, ?_⟩
      split at h2
      · cases h2
      · rename_i e2 S4 hb4
        exact run_s r3 en3 hb4 fun ρ5 H5 x5 r5 => out_loop fun σ5 en5 => ⟨m, Nat.lt_succ_self m, ρ5, S4, e2, r5, en5, (x2.trans x3).trans x5, h2⟩
      · rename_i e2 S4 hb4
        exact run_s r3 en3 hb4 fun ρ5 H5 x5 r5 => out_loop fun σ5 en5 => ⟨m, Nat.lt_succ_self m, ρ5, S4, e2, r5, en5, (x2.trans x3).trans x5, h2⟩
      · rename_i e2 S4 hb4
        cases h2
        exact run_s r3 en3 hb4 fun ρ5 H5 x5 r5 => out_loop fun σ5 en5 => q ρ5 H5 (x2.trans (x3.trans x5)) r5 σ5 en5
      · rename_i d2 S4 hb4
        cases h2
        exact run_s r3 en3 hb4 fun ρ5 H5 x5 r5 => out_loop fun v hv => q ρ5 H5 (x2.trans (x3.trans x5)) r5 v hv
end
/-! ### comprehensions -/
def compL (t : Tg) (c : TF) (f : EF) (src : Src) (env : Env) : Nat → Nat → List D → Sto → Option (List D × Sto)
  | 0, _, _, _ => none
  | n + 1, i, acc, S => match nextD S i src with
    | none => none
    | some none => some (acc, S)
    | some (some d) => match setTg t d env with
      | none => none
      | some e1 => match c e1 S with
        | none => none
        | some (false, S2) => compL t c f src env n (i + 1) acc S2
        | some (true, S2) => match f e1 S2 with
          | none => none
          | some (y, S3) => if acc.length < lim then compL t c f src env n (i + 1) (acc ++ [y]) S3 else none
def eComp (n : Nat) (own : List Nat) (it : IFn) (t : Tg) (c : TF) (f : EF) : EF := fun env S => match it env S with
  | none => none
  | some (src, S1) => match compL t c f src (wipeE env own) n 0 [] S1 with
    | none => none
    | some (ds, S2) => some (.ref S2.length, S2 ++ [.lst ds])
def tYesF : TF := fun _ S => some (true, S)
section
variable {X : Cx} {it : IFn} {t : Tg} {gc : TF} {fe : EF}
theorem lp_nil : PTs X [] (tT X.K tYesF) := ⟨fun pins s σ H Q I h => pts_nil.run pins s σ H Q I (by
  obtain ⟨ρ, S, env, b, S', r, en, hf, q⟩ := h
  cases hf
  exact q ρ H (Ext.refl ρ H) r)⟩
theorem comp_imp {own : List Nat} (n : Nat) (ht : ∀ i ∈ t.ix, i ∈ own) (σ : L2.St) (H : Hp) (Q : VK) (q0 : tE X.K (eComp n own it t gc fe) σ H Q) : tLc (tI X.K it) (tgOf X.K t) (tT X.K gc) (tE X.K fe) own σ H Q := by
  obtain ⟨ρ, S, env, d, S', r, en, hf, q⟩ := q0
  unfold eComp at hf
  split at hf
  · cases hf
  · rename_i src S1 h1
    split at hf
    · cases hf
    · rename_i ds S2 h2
      cases hf
      refine ⟨ρ, S, env, src, S1, r, en, h1, fun ρ1 H1 J x1 r1 hJ Da nD => ?_⟩
      have xD := ext_new (ρ := ρ1) (o := .lst []) nD
      refine ⟨fun i m H2 => ∃ ρ2 S3 acc xs, Rel X.K ρ2 H2 S3 ∧ Ext ρ1 H1 ρ2 H2 ∧ Da ∉ ρ2 ∧ H2 Da = some (.lst xs) ∧ RDs X.K ρ2 H2 xs acc ∧ compL t gc fe src (wipeE env own) m i acc S3 = some (ds, S2), ?_, ?_⟩
      · exact ⟨n, ρ1, S1, [], [], r1.newT nD, xD, r1.notin nD, upd_same, .nil, h2⟩
      · rintro i m H2 ⟨ρ2, S3, acc, xs, r2, x2, nD2, hD, ha, h3⟩
        cases m with
        | zero => cases h3
        | succ m =>
          unfold compL at h3
          have hJ2 := hJ ρ2 H2 S3 i x2 r2
          have en2 : EnvR X.K ρ2 H2 (L2.wipe σ own) (wipeE env own) := ((en.ext r x1).ext r1 x2).wipe own
          split at h3
          · cases h3
          · rename_i hn
            cases h3
            rw [hn] at hJ2
            refine .inl ⟨hJ2, ?_⟩
            -- the list becomes a cell
            have hnew : Ext ρ2 (fun b => if b = Da then none else H2 b) (ρ2 ++ [Da]) H2 := by
              refine ⟨⟨[Da], rfl⟩, fun p hp hpn => ?_, fun b o hb hbn => ?_⟩
              · rcases List.mem_append.mp hp with hp | hp
                · exact absurd hp hpn
                · rw [List.mem_singleton.mp hp]
                  exact if_pos rfl
              · by_cases hbD : b = Da
                · rw [if_pos hbD] at hb; cases hb
                · rw [if_neg hbD] at hb; exact hb
            have xx : Ext ρ1 H1 (ρ2 ++ [Da]) H2 := by
              refine ⟨?_, fun p hp hpn => ?_, x2.keep⟩
              · obtain ⟨m1, e1⟩ := x2.pre
                exact ⟨m1 ++ [Da], by rw [e1, List.append_assoc]⟩
              · rcases List.mem_append.mp hp with hp | hp
                · exact x2.new p hp hpn
                · rw [List.mem_singleton.mp hp]
                  exact nD
            have rr : Rel X.K (ρ2 ++ [Da]) H2 (S2 ++ [.lst ds]) := by
              refine ⟨by simp [r2.len], ?_, fun k a c k1 k2 => ?_⟩
              · rw [List.nodup_append]
                refine ⟨r2.nd, by simp, fun a ha' b hb z => ?_⟩
                rw [List.mem_singleton] at hb
                rw [z, hb] at ha'
                exact nD2 ha'
              · by_cases hk : k < ρ2.length
                · rw [List.getElem?_append_left hk] at k1
                  rw [List.getElem?_append_left (by rw [← r2.len]; exact hk)] at k2
                  exact cell_more (r2.cell k a c k1 k2)
                · rw [List.getElem?_append_right (by omega)] at k1
                  rw [List.getElem?_append_right (by rw [← r2.len]; omega), ← r2.len] at k2
                  have e0 : k - ρ2.length = 0 := by
                    have := (List.getElem?_eq_some_iff.mp k1).1
                    simp at this
                    omega
                  rw [e0] at k1 k2
                  simp at k1 k2
                  subst k1; subst k2
                  exact ⟨xs, hD, rds_more ha⟩
            refine q (ρ2 ++ [Da]) H2 (.ref Da) (x1.trans xx) rr (.ref ?_)
            rw [← r2.len]
            simp
          · rename_i d hn
            rw [hn] at hJ2
            obtain ⟨go, yl⟩ := hJ2
            refine .inr ⟨go, _, fun H' h => h, fun x H3 hy => ?_⟩
            obtain ⟨x3, r3, hx⟩ := yl x H3 hy
            split at h3
            · cases h3
            · rename_i e1 hte
              refine run_tg r3 (en2.ext r2 x3) hx hte fun ys en4 => ⟨?_, ?_⟩
              · rw [wipe_sets ht, wipe_wipe]
              · have notD : ∀ ρ5 H5, Ext ρ2 H2 ρ5 H5 → Da ∉ ρ5 := fun ρ5 H5 x5 hm => by
                  have := x5.new Da hm nD2
                  rw [hD] at this
                  cases this
                split at h3
                · cases h3
                · rename_i S5 h5
                  refine run_t r3 en4 h5 fun ρ5 H5 x5 r5 en5 => iteF ?_
                  have x25 := x3.trans x5
                  exact ⟨m, Nat.lt_succ_self m, ρ5, S5, acc, xs, r5, x2.trans x25, notD ρ5 H5 x25, x25.keep _ _ hD nD2, ha.ext r2 x25, h3⟩
                · rename_i S5 h5
                  refine run_t r3 en4 h5 fun ρ5 H5 x5 r5 en5 => iteT ?_
                  split at h3
                  · cases h3
                  · rename_i y S6 h6
                    split at h3
                    · rename_i hl
                      refine run_e r5 en5 h6 fun ρ6 H6 v6 x6 r6 hv6 en6 => ?_
                      have x26 := (x3.trans x5).trans x6
                      have ha6 := ha.ext r2 x26
                      have hD6 := x26.keep _ _ hD nD2
                      have nD6 := notD ρ6 H6 x26
                      refine ⟨xs, hD6, lim_lt (by rw [ha.len]; omega), m, Nat.lt_succ_self m, ρ6, S6, acc ++ [y], xs ++ [v6], off_rel r6 nD6 hD6, off_ext (x2.trans x26) nD, nD6, upd_same, off_rds hD6 (ha6.append (.cons hv6 .nil)), h3⟩
                    · cases h3
where
  wipe_in {τ : L2.St} {own : List Nat} {j : Nat} (hj : j ∈ own) (hτ : j < τ.length) : (L2.wipe τ own)[j]? = some none := by
    have hl : j < (L2.wipe τ own).length := by rw [wipe_length]; exact hτ
    cases q : (L2.wipe τ own)[j]? with
    | none => rw [List.getElem?_eq_none_iff] at q; omega
    | some o =>
      cases o with
      | none => rfl
      | some x => exact absurd hj (wipe_some q).2
  wipe_wipe {σ : L2.St} {own : List Nat} : L2.wipe (L2.wipe σ own) own = L2.wipe σ own := by
    refine List.ext_getElem? fun j => ?_
    by_cases hj : j ∈ own
    · by_cases h1 : j < σ.length
      · rw [wipe_in hj (by rw [wipe_length]; exact h1), wipe_in hj h1]
      · rw [List.getElem?_eq_none (by rw [wipe_length, wipe_length]; omega), List.getElem?_eq_none (by rw [wipe_length]; omega)]
    · rw [wipe_out hj]
  cell_more {K : PySem.W.Frag} {ρ : List Addr} {H : Hp} {a p : Addr} {c : Cell} (h : CellOk K ρ H a c) : CellOk K (ρ ++ [p]) H a c := by
    cases c with
    | lst ds => obtain ⟨xs, e, q⟩ := h; exact ⟨xs, e, rds_more q⟩
    | frz ds => obtain ⟨xs, o, e, q⟩ := h; exact ⟨xs, o, e, rds_more q⟩
  rd_more {K : PySem.W.Frag} {ρ : List Addr} {H : Hp} {p : Addr} {v : V} {d : D} (h : RD K ρ H v d) : RD K (ρ ++ [p]) H v d := by
    induction h with
    | ty n => exact .ty n
    | kl hs hl ha ih => exact .kl hs hl ih
    | non => exact .non
    | bl b => exact .bl b
    | int i => exact .int i
    | str x => exact .str x
    | tup hs hl ha ih => exact .tup hs hl ih
    | ref h => exact .ref (by rw [List.getElem?_append_left (List.getElem?_eq_some_iff.mp h).1]; exact h)
  rds_more {K : PySem.W.Frag} {ρ : List Addr} {H : Hp} {p : Addr} {xs : List V} {ds : List D} (h : RDs K ρ H xs ds) : RDs K (ρ ++ [p]) H xs ds := ⟨h.len, fun i x d a b => rd_more (h.at_ i x d a b)⟩
  sqt_off {K : PySem.W.Frag} {H : Hp} {p a : Addr} {xs ys zs : List V} (h : H p = some (.lst xs)) (q : SqT K H a zs) : SqT K (upd H p (.lst ys)) a zs := by
    rcases q with (q | ⟨o, q⟩) | q
    · exact .inl (.inl (by rw [upd_ne (ne_of q h (by intro z; cases z))]; exact q))
    · exact .inl (.inr ⟨o, by rw [upd_ne (ne_of q h (by intro z; cases z))]; exact q⟩)
    · exact .inr q
  rd_off {K : PySem.W.Frag} {ρ : List Addr} {H : Hp} {p : Addr} {xs ys : List V} {v : V} {d : D} (h : H p = some (.lst xs)) (q : RD K ρ H v d) : RD K ρ (upd H p (.lst ys)) v d := by
    induction q with
    | ty n => exact .ty n
    | kl hs hl ha ih => exact .kl hs hl ih
    | non => exact .non
    | bl b => exact .bl b
    | int i => exact .int i
    | str x => exact .str x
    | tup hs hl ha ih => exact .tup (sqt_off h hs) hl ih
    | ref hr => exact .ref hr
  off_rds {K : PySem.W.Frag} {ρ : List Addr} {H : Hp} {p : Addr} {xs ys zs : List V} {ds : List D} (h : H p = some (.lst xs)) (q : RDs K ρ H zs ds) : RDs K ρ (upd H p (.lst ys)) zs ds :=
    ⟨q.len, fun i x d a b => rd_off h (q.at_ i x d a b)⟩
  off_rel {K : PySem.W.Frag} {ρ : List Addr} {H : Hp} {S : Sto} {p : Addr} {xs ys : List V} (r : Rel K ρ H S) (n : p ∉ ρ) (h : H p = some (.lst xs)) : Rel K ρ (upd H p (.lst ys)) S := by
    refine ⟨r.len, r.nd, fun k a c k1 k2 => ?_⟩
    have ne : a ≠ p := fun z => n (by rw [← z]; exact List.mem_of_getElem? k1)
    have q := r.cell k a c k1 k2
    cases c with
    | lst ds => obtain ⟨zs, e, q⟩ := q; exact ⟨zs, by rw [upd_ne ne]; exact e, off_rds h q⟩
    | frz ds => obtain ⟨zs, o, e, q⟩ := q; exact ⟨zs, o, by rw [upd_ne ne]; exact e, off_rds h q⟩
  off_ext {ρ ρ' : List Addr} {H H' : Hp} {p : Addr} {o : HO} (x : Ext ρ H ρ' H') (n : H p = none) : Ext ρ H ρ' (upd H' p o) :=
    ⟨x.pre, x.new, fun b u hb hn => by rw [upd_ne (ne_of_none hb n)]; exact x.keep b u hb hn⟩
end
end Lite
/-! LiteG: comprehensions as expressions, defs and their calls, the law's end. -/
namespace Lite
open PySem PySem.Spec PyProof.Rows L2
section
variable {X : Cx} {it : IFn} {t : Tg} {gc : TF} {fe : EF}
theorem l_lc (n : Nat) {elt tg iter : Expr} {ifs : List Expr} {scope : Scope} {own : List (Str × Nat)} {pos : Pos} (hc : X.calm = true) (hN : X.N.Nodup) (hi : PI X tg iter (tI X.K it)) (ok : BlkOk X.N X.env.scope scope own) (hix : ∀ i ∈ t.ix, i ∈ own.map (·.2))
    (hg : ∀ (s : Shared) (H : Hp) (C : Addr) (cl : List (Str × Addr)) (fp : List Addr), PG (X.blk s H scope (compEnvC scope cl C X.env) fp) tg (tgOf X.K t)) (ht : ∀ (s : Shared) (H : Hp) (C : Addr) (cl : List (Str × Addr)) (fp : List Addr), PTs (X.blk s H scope (compEnvC scope cl C X.env) fp) ifs (tT X.K gc))
    (he : ∀ (s : Shared) (H : Hp) (C : Addr) (cl : List (Str × Addr)) (fp : List Addr), PE (X.blk s H scope (compEnvC scope cl C X.env) fp) elt (tE X.K fe)) (hs : ∀ x, foldedSetIterable iter X.env x = pure x := by intro _; rfl) :
    PE X (.ListComp elt [⟨tg, iter, ifs, 0⟩] scope pos) (tE X.K (eComp n (own.map (·.2)) it t gc fe)) := (pe_lc hc hN hi ok hg ht he hs).imp (comp_imp n hix)
theorem ls_setLc (n i : Nat) {y : Str} {py : Pos} {elt tg iter : Expr} {ifs : List Expr} {scope : Scope} {own : List (Str × Nat)} {pos spos : Pos} (hc : X.calm = true) (hN : X.N.Nodup) (hi : PI X tg iter (tI X.K it)) (ok : BlkOk X.N X.env.scope scope own) (hix : ∀ i ∈ t.ix, i ∈ own.map (·.2))
    (hg : ∀ (s : Shared) (H : Hp) (C : Addr) (cl : List (Str × Addr)) (fp : List Addr), PG (X.blk s H scope (compEnvC scope cl C X.env) fp) tg (tgOf X.K t)) (ht : ∀ (s : Shared) (H : Hp) (C : Addr) (cl : List (Str × Addr)) (fp : List Addr), PTs (X.blk s H scope (compEnvC scope cl C X.env) fp) ifs (tT X.K gc))
    (he : ∀ (s : Shared) (H : Hp) (C : Addr) (cl : List (Str × Addr)) (fp : List Addr), PE (X.blk s H scope (compEnvC scope cl C X.env) fp) elt (tE X.K fe))
    (hy : X.N[i]? = some y := by rfl) (hyl : X.env.scope.names.lookup y = some .local := by rfl) (hsw : swapsWith (.ListComp elt [⟨tg, iter, ifs, 0⟩] scope pos) (some (.Name y py)) spos.line X.env = pure true) (hs : ∀ x, foldedSetIterable iter X.env x = pure x := by intro _; rfl) :
    PS X (.Assign [.Name y py] (.ListComp elt [⟨tg, iter, ifs, 0⟩] scope pos) spos) (tS X.K (sSet i (eComp n (own.map (·.2)) it t gc fe))) :=
  (ps_setLc (i := i) hc hN hy hyl hsw hi ok hg ht he hs).imp fun E σ H h => by
    obtain ⟨ρ, S, env, o, S', r, en, hf, q⟩ := h
    unfold sSet at hf
    split at hf
    · rename_i d S1 h1
      cases hf
      exact comp_imp n hix σ H _ (run_e r en h1 fun ρ1 H1 v1 e1 r1 hv1 en1 => q ρ1 H1 e1 r1 _ (en1.set hv1))
    · cases hf
theorem lp_one {c : Expr} (h : PT X c (tT X.K gc)) : PTs X [c] (tT X.K gc) := pts_one h
end
/-! ### defs -/
structure FnG (P : Program) (w : World) (K : PySem.W.Frag) (mg : Str → Option Value) (base : Heap) (k : Nat) (f : Addr) (fd : FuncData) (ps : List Str) (sp : Sp) : Prop where
  len : ∀ vs H Q E, sp vs H Q E → vs.length = ps.length
  run : ∀ (A : Around) (outer : List PySem.Env) (s : Shared) (H : Hp) (args : Args) (us : List Value) (vs : List V) (Q : VK), Room k A → A.guards = some [] → Env0 P w K mg base A outer s H → BindsTo s fd args (ps.zip us) → Vals vs us → sp vs H Q E0 →
    codeAny (model P w) A (.call (.ref f) args) (CR CX0 outer P w H s Q E0) s
def spOf (K : PySem.W.Frag) (n : Nat) (g : CF) : Sp := fun vs H Q _ => vs.length = n ∧ ∃ ρ S ds z S', Rel K ρ H S ∧ RDs K ρ H vs ds ∧ g ds S = some (z, S') ∧ ∀ ρ' H' v, Ext ρ H ρ' H' → Rel K ρ' H' S' → RD K ρ' H' v z → Q v H'
def startE (nn : Nat) (ds : List D) : Env := ds.map some ++ List.replicate (nn - ds.length) none
def fnF (np nn : Nat) (body : SF) : CF := fun ds S => if ds.length = np then (match body (startE nn ds) S with
  | some (.rt d, S1) => some (d, S1)
  | some (.nx _, S1) => some (.non, S1)
  | _ => none) else none
theorem start_rd {K : PySem.W.Frag} {ρ : List Addr} {H : Hp} {N : List Str} {vs : List V} {ds : List D} (h : RDs K ρ H vs ds) : EnvR K ρ H (L2.start N vs) (startE N.length ds) := by
  refine ⟨by simp [L2.start, startE, h.len], fun i d e => ?_⟩
  unfold startE at e
  unfold L2.start
  by_cases hi : i < ds.length
  · rw [List.getElem?_append_left (by simpa using hi)] at e
    rw [List.getElem?_append_left (by simpa [h.len] using hi)]
    rw [List.getElem?_map] at e
    cases q : ds[i]? with
    | none => rw [q] at e; cases e
    | some d' =>
      rw [q] at e
      cases e
      obtain ⟨x, hx, hd⟩ := h.get q
      exact ⟨x, by rw [List.getElem?_map, hx]; rfl, hd⟩
  · rw [List.getElem?_append_right (by simpa using hi)] at e
    rw [List.getElem?_replicate] at e
    split at e <;> cases e
section
variable {P : Program} {w : World} {K : PySem.W.Frag} {mg : Str → Option Value} {base : Heap}
theorem fn_g {x qual : Str} {st : Stmt} {f : Addr} {fd : FuncData} {N ps : List Str} {k : Nat} {body : SF} (F : Fun K x qual st f fd) (S : FnScope N ps (defScope st))
    (hbody : ∀ (cdv : Value) (A : Around) (outer : List PySem.Env) (s : Shared) (H : Hp), Room k (A.deeper (envOfC qual (defScope st) s.heap.objs.size f cdv)) → (A.deeper (envOfC qual (defScope st) s.heap.objs.size f cdv)).guards = some [] →
      PSs (cxOf CX0 P w K mg base N qual (defScope st) f cdv A outer s H E0).nox (defBody st) (tS K body)) : FnG P w K mg base (k + 1) f fd ps (spOf K ps.length (fnF ps.length N.length body)) := by
  obtain ⟨oc, od, kV, doc, pm, an, cdv, ct, osl, rfl, lk, hcd⟩ := F.ex
  refine ⟨fun vs H Q E h => h.1, fun A outer s H args us vs Q hr hg e0 hb rv hsp => ?_⟩
  obtain ⟨hl, ρ, S0, ds, z, S', r, hd, hf, q⟩ := hsp
  refine LamX.run_ofS (N := N) (ps := ps) (us := us) (vs := vs) lk hcd S hr e0 hb rv hl fun hr' => ?_
  refine ⟨_, (hbody cdv A outer s H hr' hg).nox, ?_⟩
  unfold fnF at hf
  split at hf
  · split at hf
    · rename_i d S1 h1
      cases hf
      exact run_s r (start_rd hd) h1 fun ρ1 H1 x1 r1 v hv => q ρ1 H1 v x1 r1 hv
    · rename_i e1 S1 h1
      cases hf
      exact run_s r (start_rd hd) h1 fun ρ1 H1 x1 r1 σ en => q ρ1 H1 .non x1 r1 .non
    · cases hf
  · cases hf
/-- a promise by an equal function -/
theorem FnG.eq {f : Addr} {fd : FuncData} {ps : List Str} {k n : Nat} {g g' : CF} (F : FnG P w K mg base k f fd ps (spOf K n g)) (h : ∀ ds S z, g' ds S = some z → g ds S = some z) : FnG P w K mg base k f fd ps (spOf K n g') := by
  have i : ∀ vs H Q E, spOf K n g' vs H Q E → spOf K n g vs H Q E := fun vs H Q E q => by
    obtain ⟨hl, ρ, S0, ds, z, S', r, hd, hf, q⟩ := q
    exact ⟨hl, ρ, S0, ds, z, S', r, hd, h _ _ _ hf, q⟩
  exact ⟨fun vs H Q E q => F.len vs H Q E (i _ _ _ _ q), fun A outer s H args us vs Q a b c d e q => F.run A outer s H args us vs Q a b c d e (i _ _ _ _ q)⟩
theorem FnG.mono {f : Addr} {fd : FuncData} {ps : List Str} {k j : Nat} {sp : Sp} (F : FnG P w K mg base j f fd ps sp) (h : j ≤ k) : FnG P w K mg base k f fd ps sp := ⟨F.len, fun A outer s H args us vs Q a => F.run A outer s H args us vs Q (a.mono h)⟩
end
/-! ### calls -/
section
variable {X : Cx} {k n : Nat} {f : Addr} {fd : FuncData} {ps ks : List Str} {g : CF} {x : Str} {p pos : Pos} {e : Expr} {es : List Expr} {kws : List Keyword} {fs fk : AF}
theorem run_g {pins : List (Addr × Obj)} {σ : L2.St} {H : Hp} {s : Shared} {Q : VK} {us : List Value} {kw : List (Str × Value)} {vs : List V} {ws : List Value} (F : FnG X.prog X.w X.K X.mg X.base k f fd ps (spOf X.K n g)) (hr : Room k X.A) (hG : X.A.guards = some [])
    (hb : BindsTo s fd ⟨us, kw⟩ (ps.zip ws)) (I : Inv X pins σ H s) (r : Vals vs ws) (h : spOf X.K n g vs H Q E0) : wpAny (model X.prog X.w) X.A (call (.ref f) us kw) (EP X pins σ Q) X.xe s := by
  refine wpAny_call (codeAny_mono (F.run X.A X.stack s H ⟨us, kw⟩ ws vs Q hr hG I.env0 hb r h) fun r s' hq => ?_)
  cases r with
  | error e => exact False.elim hq
  | ok fl =>
    cases fl with
    | ret u => exact I.after hq
    | next => exact False.elim hq
    | brk => exact False.elim hq
    | cont => exact False.elim hq
/-- a function of so many -/
def Ar (g : CF) (n : Nat) : Prop := ∀ ds S z, g ds S = some z → ds.length = n
theorem ar_fn {np nn : Nat} {body : SF} : Ar (fnF np nn body) np := fun ds S z h => by
  unfold fnF at h
  split at h
  · assumption
  · cases h
theorem ok_sp {K : PySem.W.Frag} (hn : Ar g n) : OkCall K (fun vs H Q => spOf K n g vs H Q E0) g := fun ρ H S S' vs ds z Q r hv hg q => ⟨by rw [hv.len]; exact hn _ _ _ hg, ρ, S, ds, z, S', r, hv, hg, q⟩
/-- a call by position -/
theorem l_call (F : FnG X.prog X.w X.K X.mg X.base k f fd ps (spOf X.K n g)) (hn : Ar g n) (hr : Room k X.A) (hG : X.A.guards = some []) (hg : Gl X x) (hm : X.mg x = some (.ref f)) (hk : PySem.W.keepIn X.K (.ref f) = true) (hb : Binds X.K fd ps []) (hps : ps.length = n)
    (ha : PA X (e :: es) (tA X.K fs)) (hdb : (x == ("__debug__" : Str)) = false := by decide) (he : starEach (e :: es) X.env = (false, eval e X.env) :: starEach es X.env := by rfl) (hpl : (backTo pos (starEach es X.env)).any (·.1) = false := by rfl) :
    PE X (.Call (.Name x p) (e :: es) [] pos) (tE X.K (eCall g fs)) := by
  refine ⟨fun pins s σ H Q I h => ?_⟩
  refine wpAny_Call_Name_kw (ld_glob I hg hm ?_ hdb)
  refine PySem.W.callWith_K (h₀ := X.base) I.ok.mod.kin hk (thn (ha.run pos pins s σ H _ I (call_imp (ok_sp hn) σ H Q h)) fun us s1 ⟨vs, H1, I1, r, q⟩ => ⟨I1.kIn, ?_⟩) he hpl
  refine run_g (ws := us) F hr hG ?_ I1 r q
  have := hb s1 us I1.kIn (by rw [List.append_nil, ← r.length, q.1, hps])
  rw [List.append_nil] at this
  exact this
/-- a call of a def without parameters -/
theorem l_call0 (F : FnG X.prog X.w X.K X.mg X.base k f fd [] (spOf X.K 0 g)) (hn : Ar g 0) (hr : Room k X.A) (hG : X.A.guards = some []) (hg : Gl X x) (hm : X.mg x = some (.ref f)) (hk : PySem.W.keepIn X.K (.ref f) = true) (hb : Binds X.K fd [] [])
    (hdb : (x == ("__debug__" : Str)) = false := by decide) : PE X (.Call (.Name x p) [] [] pos) (tE X.K (eCall g aNil)) := by
  refine ⟨fun pins s σ H Q I h => ?_⟩
  refine wpAny_Call_Name_kw (ld_glob I hg hm ?_ hdb)
  refine PySem.W.callWith_K0 I.kIn hk ?_
  obtain ⟨ρ, S, env, d, S', rl, en, hf, q⟩ := h
  exact run_g (us := []) (ws := []) (vs := []) F hr hG (hb s [] I.kIn rfl) I .nil ⟨rfl, ρ, S, [], d, S', rl, .nil, hf, q⟩
/-! keywords: the values in the order of the parameters -/
def pick {α : Type} (l : List α) : List Nat → List α
  | [] => []
  | i :: r => match l[i]? with
    | some x => x :: pick l r
    | none => pick l r
theorem pick_vals {vs : List V} {us : List Value} (r : Vals vs us) : ∀ perm : List Nat, Vals (pick vs perm) (pick us perm)
  | [] => .nil
  | i :: perm => by
    unfold pick
    cases q : vs[i]? with
    | none =>
      rw [r.none_of q]
      exact pick_vals r perm
    | some x =>
      obtain ⟨u, hu, hr⟩ := r.get q
      rw [hu]
      exact .cons hr (pick_vals r perm)
theorem pick_rds {K : PySem.W.Frag} {ρ : List Addr} {H : Hp} {vs : List V} {ds : List D} (r : RDs K ρ H vs ds) : ∀ perm : List Nat, RDs K ρ H (pick vs perm) (pick ds perm)
  | [] => .nil
  | i :: perm => by
    unfold pick
    cases q : ds[i]? with
    | none =>
      have : vs[i]? = none := by
        rw [List.getElem?_eq_none_iff] at q ⊢
        rw [r.len]
        exact q
      rw [this]
      exact pick_rds r perm
    | some d =>
      obtain ⟨x, hx, hd⟩ := r.get q
      rw [hx]
      exact .cons hd (pick_rds r perm)
/-- how a call's keywords bind -/
def KB (K : PySem.W.Frag) (fd : FuncData) (ps ks : List Str) (np : Nat) (perm : List Nat) : Prop := ∀ (s : Shared) (us ws : List Value), us.length = np → ws.length = ks.length → BindsTo s fd ⟨us, ks.zip ws⟩ (ps.zip (pick (us ++ ws) perm))
def eCallK (g : CF) (np nk : Nat) (perm : List Nat) (fa fk : AF) : EF := fun env S => match fa env S with
  | none => none
  | some (ds, S1) => match fk env S1 with
    | none => none
    | some (es, S2) => if ds.length = np ∧ es.length = nk then g (pick (ds ++ es) perm) S2 else none
theorem lk_nil : PK X [] (tA X.K aNil) := ⟨fun pos pins s σ H Q I h => pk_nil.run pos pins s σ H Q I (by
  obtain ⟨ρ, S, env, ds, S', r, en, hf, q⟩ := h
  cases hf
  exact q ρ H [] (Ext.refl ρ H) r RDs.nil)⟩
theorem lk_cons {fe : EF} {nm : Option Str} {kpos : Pos} (ha : PE X e (tE X.K fe)) (hr : PK X kws (tA X.K fs)) : PK X (⟨nm, e, kpos⟩ :: kws) (tA X.K (aCons fe fs)) := ⟨fun pos pins s σ H Q I h => (pk_cons ha hr).run pos pins s σ H Q I (cons_imp σ H Q h)⟩
theorem callK_imp {np nk : Nat} {perm : List Nat} (hn : Ar g n) (σ : L2.St) (H : Hp) (Q : VK) (h : tE X.K (eCallK g np nk perm fs fk) σ H Q) :
    tA X.K fs σ H fun vs H1 => tA X.K fk σ H1 fun zs H2 => vs.length = np ∧ zs.length = nk ∧ spOf X.K n g (pick (vs ++ zs) perm) H2 Q E0 := by
  obtain ⟨ρ, S, env, d, S', rl, en, hf, q⟩ := h
  unfold eCallK at hf
  split at hf
  · cases hf
  · rename_i ds S1 h1
    split at hf
    · cases hf
    · rename_i es S2 h2
      split at hf
      · rename_i hl
        refine run_a rl en h1 fun ρ1 H1 vs x1 r1 hv1 en1 => run_a r1 en1 h2 fun ρ2 H2 zs x2 r2 hv2 en2 => ?_
        have hv := pick_rds ((hv1.ext r1 x2).append hv2) perm
        exact ⟨hv1.len.trans hl.1, hv2.len.trans hl.2, ok_sp hn ρ2 H2 S2 S' _ _ d Q r2 hv hf fun ρ3 H3 v x3 r3 hv3 => q ρ3 H3 v ((x1.trans x2).trans x3) r3 hv3⟩
      · cases hf
theorem l_callK {np : Nat} {perm : List Nat} (F : FnG X.prog X.w X.K X.mg X.base k f fd ps (spOf X.K n g)) (hn : Ar g n) (hr : Room k X.A) (hG : X.A.guards = some []) (hg : Gl X x) (hm : X.mg x = some (.ref f)) (hk : PySem.W.keepIn X.K (.ref f) = true) (hb : KB X.K fd ps ks np perm)
    (ha : PA X (e :: es) (tA X.K fs)) (hkw : PK X kws (tA X.K fk)) (hall : (backToKw pos (keywordEach kws X.env)).all (·.1.isSome) = true := by rfl) (hks : (backToKw pos (keywordEach kws X.env)).filterMap (·.1) = ks := by rfl)
    (hdb : (x == ("__debug__" : Str)) = false := by decide) (he : starEach (e :: es) X.env = (false, eval e X.env) :: starEach es X.env := by rfl)
    (hpl : ((backTo pos (starEach (e :: es) X.env)).any (·.1) || (backToKw pos (keywordEach kws X.env)).any (·.1.isNone)) = false := by rfl) :
    PE X (.Call (.Name x p) (e :: es) kws pos) (tE X.K (eCallK g np ks.length perm fs fk)) := by
  refine ⟨fun pins s σ H Q I h => ?_⟩
  refine wpAny_Call_Name_kw (ld_glob I hg hm ?_ hdb)
  refine PySem.W.callWith_KW (h₀ := X.base) I.ok.mod.kin hk hall (thn (ha.run pos pins s σ H _ I (callK_imp hn σ H Q h)) fun us s1 ⟨vs, H1, I1, r, q⟩ => ?_) hpl he
  refine thn (hkw.run pos pins s1 σ H1 _ I1 q) fun ws s2 ⟨zs, H2, I2, rz, q1, q2, q3⟩ => ⟨I2.kIn, ?_⟩
  rw [hks]
  exact run_g (us := us) F hr hG (hb s2 us ws (by rw [← r.length]; exact q1) (by rw [← rz.length]; exact q2)) I2 (pick_vals (r.append rz) perm) q3
theorem l_callK0 {perm : List Nat} (F : FnG X.prog X.w X.K X.mg X.base k f fd ps (spOf X.K n g)) (hn : Ar g n) (hr : Room k X.A) (hG : X.A.guards = some []) (hg : Gl X x) (hm : X.mg x = some (.ref f)) (hk : PySem.W.keepIn X.K (.ref f) = true) (hb : KB X.K fd ps ks 0 perm)
    (hkw : PK X kws (tA X.K fk)) (hall : (backToKw pos (keywordEach kws X.env)).all (·.1.isSome) = true := by rfl) (hks : (backToKw pos (keywordEach kws X.env)).filterMap (·.1) = ks := by rfl)
    (hdb : (x == ("__debug__" : Str)) = false := by decide)
    (hpl : ((backTo pos (starEach [] X.env)).any (·.1) || (backToKw pos (keywordEach kws X.env)).any (·.1.isNone)) = false := by rfl) :
    PE X (.Call (.Name x p) [] kws pos) (tE X.K (eCallK g 0 ks.length perm aNil fk)) := by
  refine ⟨fun pins s σ H Q I h => ?_⟩
  refine wpAny_Call_Name_kw (ld_glob I hg hm ?_ hdb)
  have h2 : tA X.K fk σ H fun zs H2 => zs.length = ks.length ∧ spOf X.K n g (pick ([] ++ zs) perm) H2 Q E0 := by
    obtain ⟨ρ, S, env, ds, S', r, en, hf, q⟩ := callK_imp hn σ H Q h
    cases hf
    obtain ⟨ρ1, S1, env1, ds1, S1', r1, en1, hf1, q1⟩ := q ρ H [] (Ext.refl ρ H) r RDs.nil
    exact ⟨ρ1, S1, env1, ds1, S1', r1, en1, hf1, fun ρ' H' vs a b c => (q1 ρ' H' vs a b c).2⟩
  refine PySem.W.callWith_KW0 (h₀ := X.base) I.ok.mod.kin hk hall (thn (hkw.run pos pins s σ H _ I h2) fun ws s2 ⟨zs, H2, I2, rz, q1, q3⟩ => ⟨I2.kIn, ?_⟩) hpl
  rw [hks]
  exact run_g (us := []) F hr hG (hb s2 [] ws rfl (by rw [← rz.length]; exact q1)) I2 (pick_vals (vs := [] ++ zs) (us := [] ++ ws) rz perm) q3
end
/-! ### the end -/
/-- the script by number, or as a list of the written part -/
def Scr (g : CF) (ns : List Int) : Prop := ∀ (d : D) (S : Sto), listOf S d = some (ns.map D.int) → ∃ S', g [d] S = some (.bl true, S')
theorem ints_rd {K : PySem.W.Frag} {ρ : List Addr} {H : Hp} : ∀ ns : List Int, RDs K ρ H (ns.map V.int) (ns.map D.int)
  | [] => .nil
  | n :: ns => .cons (.int n) (ints_rd ns)
theorem sp_law {K : PySem.W.Frag} {g : CF} {H : Hp} {a : Addr} {ns : List Int} (h : Scr g ns) (hS : (∃ o, H a = some (.frz o (.lst (ns.map V.int)))) ∨ KLst K a (ns.map V.int)) : spOf K 1 g [.ref a] H (fun v _ => v = .bl true) E0 := by
  rcases hS with ⟨o, hS⟩ | hS
  · obtain ⟨S', e⟩ := h (.ref 0) [.frz (ns.map D.int)] rfl
    refine ⟨rfl, [a], [.frz (ns.map D.int)], [.ref 0], .bl true, S', ⟨rfl, by simp, fun n b c h1 h2 => ?_⟩, .cons (.ref rfl) .nil, e, fun ρ' H' v _ _ hv => by cases hv; rfl⟩
    cases n with
    | zero =>
      cases h1; cases h2
      exact ⟨_, o, hS, ints_rd ns⟩
    | succ n => simp at h1
  · have q := ints_rd (K := K) (ρ := []) (H := H) ns
    obtain ⟨S', e⟩ := h (.kl (ns.map D.int)) [] rfl
    exact ⟨rfl, [], [], [.kl (ns.map D.int)], .bl true, S', ⟨rfl, by simp, fun n b c h1 h2 => by simp at h1⟩, .cons (.kl hS q.len q.at_) .nil, e, fun ρ' H' v _ _ hv => by cases hv; rfl⟩
end Lite
/-! LiteH: the law's end over a promise that knows that no repr is under way. -/
namespace Lite
open PySem PySem.Spec PyProof.Rows L2
section
variable {P : Program} {w : World} {K : PySem.W.Frag} {mg mb : Str → Option Value} {k : Nat} {fa a : Addr} {fd : FuncData} {x : Str} {sp : Sp} {s₁ : Shared} {vs : List Value} {ns : List Int}
/-- one call of the law from a heap of which at most the script is known -/
theorem call_g (KX : K.In s₁.heap) (hns : s₁.heap.Ns mainGlobals mg) (hb : s₁.heap.Ns builtinsNs mb) (hbb : ∀ x : Str, x ≠ "__name__" → mb x = bootBuiltins x) (hlim : s₁.heap.NoLimit) (hgen : s₁.gens = #[])
    (hobj : s₁.heap.get? a = some { cls := .type "list", data := .seq vs.toArray }) (hr : Room k callerA)
    (F : ∀ base : Heap, K.In base → base.Ns mainGlobals mg → FnG P w K mg base k fa fd [x] sp) (hbind : ∀ (s : Shared) (u : Value), BindsTo s fd ⟨[u], []⟩ [(x, u)])
    (H : Hp) (only : ∀ b u, H b = some u → b = a ∧ K.lookup b = none ∧ ∃ ob ys, u = .frz ob (.lst ys)) (hok : HOk P w H s₁.heap) (hsp : sp [.ref a] H (fun v _ => v = .bl true) E0) :
    codeAny (model P w) callerA (.call (.ref fa) ⟨[.ref a], []⟩) (fun r s' => r = .ok (.ret (.bool true)) ∧ OldK s₁.heap s'.heap ∧ s'.os = s₁.os ∧ AllBare s'.gens) s₁ := by
  have free : ∀ {b : Addr} {ob : Obj} {es : Array DictEntry} {ep : Nat}, s₁.heap.get? b = some ob → ob.data = .dict es ep → H b = none := by
    intro b ob es ep e1 e2
    cases q : H b with
    | none => rfl
    | some u =>
      obtain ⟨rfl, _⟩ := only b u q
      rw [hobj] at e1
      cases e1
      cases (show Data.seq vs.toArray _ = Data.dict es ep from e2)
  have ns2 : ∀ {b : Addr} {m : Str → Option Value}, s₁.heap.Ns b m → (hidT s₁.heap H).Ns b m := by
    rintro b m ⟨ob, es, ep, e1, e2, e3⟩
    exact ⟨ob, es, ep, hidT_get e1 (free e1 e2), e2, e3⟩
  have kb : K.In (hidT s₁.heap H) := by
    intro b ob e1
    refine hidT_get (KX b ob e1) ?_
    cases q : H b with
    | none => rfl
    | some u =>
      obtain ⟨_, e2, _⟩ := only b u q
      rw [e2] at e1
      cases e1
  have e0 : Env0 P w K mg (hidT s₁.heap H) callerA [] s₁ H := by
    refine ⟨rfl, ⟨kb, ns2 hns, ⟨mb, ns2 hb, hbb⟩, ?_⟩, fun b ob e1 => of_hidT e1, Nat.le_of_eq (hidT_size _ _), trivial, fun b hm => (nomatch (show b ∈ ([] : List Addr) from hm)), hok, AllBare.of_eq hgen⟩
    obtain ⟨mc, e1, e2⟩ := hlim
    exact ⟨mc, ns2 e1, e2⟩
  have run := (F _ kb (ns2 hns)).run callerA [] s₁ H ⟨[.ref a], []⟩ [.ref a] [.ref a] _ hr rfl e0 (hbind s₁ (.ref a)) (.cons rfl .nil) hsp
  refine codeAny_mono run fun res s' hres => ?_
  cases res with
  | error e => exact False.elim hres
  | ok fl =>
    cases fl with
    | ret u =>
      obtain ⟨v, H', hos, hbare, hun, hok', rv, hv⟩ := hres
      obtain rfl : v = .bl true := hv
      obtain rfl : u = Value.bool true := rv
      refine ⟨rfl, OldK.of_keep fun b ob e1 => ?_, hos, hbare⟩
      cases q : H b with
      | none => exact hun.keep b ob e1 q (fun z => (nomatch (show b ∈ ([] : List Addr) from z))) (by simp)
      | some u =>
        obtain ⟨_, _, ob2, ys, rfl⟩ := only b u q
        obtain ⟨e2, _⟩ := hok b _ q
        obtain ⟨e3, _⟩ := hok' b _ (hun.frzs b ob2 _ q)
        rw [e1] at e2
        cases e2
        exact e3
    | next => exact False.elim hres
    | brk => exact False.elim hres
    | cont => exact False.elim hres
end
theorem end_g {l : PySem.W.OpenLaw} {n k : Nat} {q : Program} {loose : List Str} {XP : (Str → Option Value) → Heap → Prop} {YP : World → Heap → Prop} {d : DefRec} {K : Params → PySem.W.Frag} {x : Str} {g : CF}
    (hn : l.most = some n) (hn2 : n ≤ sizeLine) (hdf : d.params.defaults = []) (hr : Room k callerA) (hY : ∀ (w : World) (h : Heap), YP w h → (K w.params).In h)
    (F : ∀ (w : World) (mg : Str → Option Value) (fa : Addr) (h : Heap), (K w.params).In h → h.Ns mainGlobals mg → mg d.name = some (.ref fa) →
      ∃ fd : FuncData, (∀ (s : Shared) (u : Value), BindsTo s fd ⟨[u], []⟩ [(x, u)]) ∧ ∀ base : Heap, (K w.params).In base → base.Ns mainGlobals mg → FnG l.prog w (K w.params) mg base k fa fd [x] (spOf (K w.params) 1 g))
    (hg : ∀ ns : List Int, ns.length ≤ n → Scr g ns) : PySem.W.WalkO q loose XP YP l.row.toRowW d [] (fun f vs => PySem.call f vs) := by
  refine Att.attach_call hn hdf fun w s₀ s₁ mg mb fa o pm cd doc a vs ns G Y ho hd hcd hmg hobj hints hlen hgen => ?_
  have KX := hY w _ Y
  obtain ⟨fd, hb, hF⟩ := F w mg fa _ KX G.T.g hmg
  have rv := vals_ints hints
  cases hk : (K w.params).lookup a with
  | some ob =>
    refine call_g KX G.T.g G.T.b G.T.builtins G.T.nolimit hgen hobj hr hF hb (fun _ => none) (fun b u z => by cases z) (fun b u z => by cases z) (sp_law (hg ns hlen) (.inr fun H => .inr ?_))
    have e1 := KX a ob hk
    rw [hobj] at e1
    cases e1
    have e2 := rv.length
    rw [List.length_map] at e2
    exact ⟨_, vs.toArray, _, hk, rfl, rfl, rfl, by rw [List.size_toArray, ← e2]; exact Nat.le_trans hlen hn2, by simpa using rv⟩
  | none =>
    refine call_g KX G.T.g G.T.b G.T.builtins G.T.nolimit hgen hobj hr hF hb (fun b => if b = a then some (.frz { cls := .type "list", data := .seq vs.toArray } (.lst (ns.map V.int))) else none) (fun b u z => ?_) (fun b u z => ?_) (sp_law (hg ns hlen) (.inl ⟨_, if_pos rfl⟩))
    · by_cases hba : b = a
      · subst hba
        have z2 := (if_pos rfl).symm.trans z
        cases z2
        exact ⟨rfl, hk, _, _, rfl⟩
      · have z2 := (if_neg hba).symm.trans z
        cases z2
    · by_cases hba : b = a
      · subst hba
        have z2 := (if_pos rfl).symm.trans z
        cases z2
        exact ⟨hobj, by rw [List.length_map]; exact Nat.le_trans hlen hn2, vs, _, rv, hobj⟩
      · have z2 := (if_neg hba).symm.trans z
        cases z2
end Lite
/-! LiteI: more rules. -/
namespace Lite
open PySem PySem.Spec PyProof.Rows L2
def gSub : OF := gArith fun i j => some (i - j)
/-- not e, as a value -/
def eNotT (f : EF) : EF := fun env S => match f env S with
  | some (d, S1) => match truD S1 d with
    | some b => some (.bl !b, S1)
    | none => none
  | none => none
theorem rds3 {K : PySem.W.Frag} {ρ : List Addr} {H : Hp} {vs : List V} {d e f : D} (h : RDs K ρ H vs [d, e, f]) : ∃ v u w, vs = [v, u, w] ∧ RD K ρ H v d ∧ RD K ρ H u e ∧ RD K ρ H w f := by
  match vs, h.len with
  | [v, u, w], _ => exact ⟨v, u, w, rfl, h.at_ 0 v d rfl rfl, h.at_ 1 u e rfl rfl, h.at_ 2 w f rfl rfl⟩
section
variable {X : Cx} {a b c : Expr} {fa fb fc : EF} {gt : TF} {fs : AF} {pos : Pos}
theorem l_notT (h : PE X a (tE X.K fa)) : PE X (.UnaryOp .Not a pos) (tE X.K (eNotT fa)) := (pe_notT h).imp fun σ H Q h => by
  obtain ⟨ρ, S, env, d, S', r, en, hf, q⟩ := h
  unfold eNotT at hf
  split at hf
  · rename_i d1 S1 h1
    split at hf
    · rename_i b' hb
      cases hf
      refine run_e r en h1 fun ρ1 H1 v1 e1 r1 hv1 en1 => ?_
      exact ⟨_, tru_rd r1 hv1 hb, q ρ1 H1 _ e1 r1 (.bl _)⟩
    · cases hf
  · cases hf
theorem ls_par3 (i j l : Nat) {x y z : Str} {px py pz pt : Pos} {kt k2 pt2} (hc : X.calm = true) (hN : X.N.Nodup) (hij : i ≠ j) (hil : i ≠ l) (hjl : j ≠ l) (ha : PA X [a, b, c] (tA X.K fs)) (hi : X.N[i]? = some x := by rfl) (hj : X.N[j]? = some y := by rfl) (hl : X.N[l]? = some z := by rfl)
    (hx : X.env.scope.names.lookup x = some .local := by rfl) (hy : X.env.scope.names.lookup y = some .local := by rfl) (hz : X.env.scope.names.lookup z = some .local := by rfl)
    (hw : swappedStores [.Tuple [.Name x px, .Name y py, .Name z pz] kt pt] (.Tuple [a, b, c] k2 pt2) X.env = pure (some [x, y, z]) := by rfl)
    (hs : swapsWithSole [.Tuple [.Name x px, .Name y py, .Name z pz] kt pt] (.Tuple [a, b, c] k2 pt2) pos.line X.env = pure false := by rfl) :
    PS X (.Assign [.Tuple [.Name x px, .Name y py, .Name z pz] kt pt] (.Tuple [a, b, c] k2 pt2) pos) (tS X.K (sPar [i, j, l] fs)) := (ps_par3 hc hN hi hj hl hij hil hjl hx hy hz ha hw hs).imp fun E σ H h => by
  obtain ⟨ρ, S, env, o, S', r, en, hf, q⟩ := h
  unfold sPar at hf
  split at hf
  · rename_i ds S1 h1
    split at hf
    · rename_i hl
      cases hf
      refine run_a r en h1 fun ρ1 H1 vs x1 r1 hv1 en1 => ?_
      match ds, hl with
      | [d1, d2, d3], _ =>
        obtain ⟨v, u, w, rfl, hw1, hw2, hw3⟩ := rds3 hv1
        exact ⟨v, u, w, rfl, q ρ1 H1 x1 r1 _ (((en1.set hw1).set hw2).set hw3)⟩
    · cases hf
  · cases hf
end
/-- how keywords bind, from the text -/
theorem _root_.L2.Fun.kbs {K : PySem.W.Frag} {x qual : Str} {st : Stmt} {f : Addr} {fd : FuncData} {ps ks : List Str} {np : Nat} {perm : List Nat} (F : Fun K x qual st f fd)
    (h : ∀ (kV doc pm : Value) (an : Option Addr) (cdv ct : Value) (us ws : List Value), us.length = np → ws.length = ks.length → bindArgs (PySem.W.fnOf x qual (defArgs st) (defBody st) (defScope st) .none kV doc pm an cdv ct) ⟨us, ks.zip ws⟩ = pure (ps.zip (pick (us ++ ws) perm))) : KB K fd ps ks np perm := by
  obtain ⟨oc, od, kV, doc, pm, an, cdv, ct, osl, rfl, lk, hcd⟩ := F.ex
  exact fun s us ws h1 h2 => .of_eq (h kV doc pm an cdv ct us ws h1 h2)
end Lite
/-! LiteR: reckoning with the functions. -/
namespace Lite
open PySem PySem.Spec PyProof.Rows L2
section
variable {env : Env} {S S1 S2 : Sto} {d x y : D} {ds : List D}
@[simp] theorem r_eVar {i : Nat} : eVar i env S = (match env[i]? with
  | some (some d) => some (d, S)
  | _ => none) := rfl
@[simp] theorem r_eC : eC d env S = some (d, S) := rfl
@[simp] theorem r_eBin {g : OF} {f h : EF} : eBin g f h env S = (match f env S with
  | none => none
  | some (x, S1) => match h env S1 with
    | none => none
    | some (y, S2) => g x y S2) := rfl
@[simp] theorem r_truB {f : EF} : truB f env S = (match f env S with
  | some (.bl k, S') => some (k, S')
  | _ => none) := rfl
@[simp] theorem r_truF {f : EF} : truF f env S = (match f env S with
  | some (d, S1) => match truD S1 d with
    | some b => some (b, S1)
    | none => none
  | none => none) := rfl
@[simp] theorem r_truD_bl {b : Bool} : truD S (.bl b) = some b := rfl
@[simp] theorem r_truD_int {i : Int} : truD S (.int i) = some (i != 0) := rfl
@[simp] theorem r_truD_non : truD S .non = some false := rfl
@[simp] theorem r_tAnd {f g : TF} : tAndF f g env S = (match f env S with
  | some (true, S1) => g env S1
  | some (false, S1) => some (false, S1)
  | none => none) := rfl
@[simp] theorem r_tOr {f g : TF} : tOrF f g env S = (match f env S with
  | some (true, S1) => some (true, S1)
  | some (false, S1) => g env S1
  | none => none) := rfl
@[simp] theorem r_tNot {f : TF} : tNotF f env S = (match f env S with
  | some (b, S1) => some (!b, S1)
  | none => none) := rfl
@[simp] theorem r_eAnd {f g : EF} : eAnd f g env S = (match f env S with
  | some (.bl true, S1) => g env S1
  | some (.bl false, S1) => some (.bl false, S1)
  | _ => none) := rfl
@[simp] theorem r_eOr {f g : EF} : eOr f g env S = (match f env S with
  | some (.bl true, S1) => some (.bl true, S1)
  | some (.bl false, S1) => g env S1
  | _ => none) := rfl
@[simp] theorem r_eNotT {f : EF} : eNotT f env S = (match f env S with
  | some (d, S1) => match truD S1 d with
    | some b => some (.bl !b, S1)
    | none => none
  | none => none) := rfl
@[simp] theorem r_eIf {t : TF} {f g : EF} : eIf t f g env S = (match t env S with
  | some (true, S1) => f env S1
  | some (false, S1) => g env S1
  | none => none) := rfl
@[simp] theorem r_eNeg {f : EF} : eNeg f env S = (match f env S with
  | some (.int i, S1) => some (.int (-i), S1)
  | _ => none) := rfl
@[simp] theorem r_eBits {f : EF} : eBits f env S = (match f env S with
  | some (.int i, S1) => some (.int (Builtin.Int.intBits i : Nat), S1)
  | _ => none) := rfl
@[simp] theorem r_eChain {g g' : OF} {f h k : EF} : eChain g g' f h k env S = (match f env S with
  | none => none
  | some (x, S1) => match h env S1 with
    | none => none
    | some (y, S2) => match g x y S2 with
      | some (.bl true, S3) => (match k env S3 with
        | none => none
        | some (z, S4) => g' y z S4)
      | some (.bl false, S3) => some (.bl false, S3)
      | _ => none) := rfl
@[simp] theorem r_aNil : aNil env S = some ([], S) := rfl
@[simp] theorem r_aCons {f : EF} {g : AF} : aCons f g env S = (match f env S with
  | none => none
  | some (d, S1) => match g env S1 with
    | none => none
    | some (ds, S2) => some (d :: ds, S2)) := rfl
@[simp] theorem r_eCall {g : CF} {f : AF} : eCall g f env S = (match f env S with
  | none => none
  | some (ds, S1) => g ds S1) := rfl
@[simp] theorem r_eCallK {g : CF} {np nk : Nat} {perm : List Nat} {f h : AF} : eCallK g np nk perm f h env S = (match f env S with
  | none => none
  | some (ds, S1) => match h env S1 with
    | none => none
    | some (es, S2) => if ds.length = np ∧ es.length = nk then g (pick (ds ++ es) perm) S2 else none) := rfl
@[simp] theorem r_sNil : sNil env S = some (.nx env, S) := rfl
@[simp] theorem r_sDrop {f : EF} : sDrop f env S = (match f env S with
  | some (_, S1) => some (.nx env, S1)
  | none => none) := rfl
@[simp] theorem r_sRet {f : EF} : sRet f env S = (match f env S with
  | some (d, S1) => some (.rt d, S1)
  | none => none) := rfl
@[simp] theorem r_sSet {i : Nat} {f : EF} : sSet i f env S = (match f env S with
  | some (d, S1) => some (.nx (env.set i (some d)), S1)
  | none => none) := rfl
@[simp] theorem r_sAsg {t : Tg} {f : EF} : sAsg t f env S = (match f env S with
  | some (d, S1) => match setTg t d env with
    | some e1 => some (.nx e1, S1)
    | none => none
  | none => none) := rfl
@[simp] theorem r_sPar {l : List Nat} {f : AF} : sPar l f env S = (match f env S with
  | some (ds, S1) => if ds.length = l.length then some (.nx (setsE l ds env), S1) else none
  | none => none) := rfl
@[simp] theorem r_sIf {t : TF} {f g : SF} : sIf t f g env S = (match t env S with
  | some (true, S1) => f env S1
  | some (false, S1) => g env S1
  | none => none) := rfl
@[simp] theorem r_sCons {f g : SF} : sCons f g env S = (match f env S with
  | some (.nx e1, S1) => g e1 S1
  | r => r) := rfl
@[simp] theorem r_sSub {fo fi fe : EF} : sSub fo fi fe env S = (match fe env S with
  | none => none
  | some (d, S1) => match fo env S1 with
    | some (.ref k, S2) => (match fi env S2 with
      | some (.int i, S3) => (match S3[k]? with
        | some (.lst es) => (match ixN es.length i with
          | some j => some (.nx env, S3.set k (.lst (es.set j d)))
          | none => none)
        | _ => none)
      | _ => none)
    | _ => none) := rfl
@[simp] theorem r_nm {i : Nat} : setTg (.nm i) d env = some (env.set i (some d)) := rfl
@[simp] theorem r_tp {l : List Nat} : setTg (.tp l) (.tup ds) env = (if ds.length = l.length then some (setsE l ds env) else none) := rfl
@[simp] theorem r_sets0 : setsE [] ds env = env := by cases ds <;> rfl
@[simp] theorem r_sets {i : Nat} {l : List Nat} : setsE (i :: l) (d :: ds) env = setsE l ds (env.set i (some d)) := rfl
@[simp] theorem r_arith {f : Int → Int → Option Int} {i j : Int} : gArith f (.int i) (.int j) S = (match f i j with
  | some k => some (.int k, S)
  | none => none) := rfl
@[simp] theorem r_add {i j : Int} : gAdd (.int i) (.int j) S = some (.int (i + j), S) := rfl
@[simp] theorem r_sub {i j : Int} : gSub (.int i) (.int j) S = some (.int (i - j), S) := rfl
@[simp] theorem r_cmpI {f : Int → Int → Bool} {i j : Int} : gCmpI f (.int i) (.int j) S = some (.bl (f i j), S) := rfl
@[simp] theorem r_isN {n : Bool} : gIsN n x .non S = some (.bl (if n then !isNon x else isNon x), S) := rfl
@[simp] theorem r_non0 : isNon .non = true := rfl
@[simp] theorem r_non1 {i : Int} : isNon (.int i) = false := rfl
@[simp] theorem r_non2 : isNon (.tup ds) = false := rfl
@[simp] theorem r_non3 {n : Nat} : isNon (.ref n) = false := rfl
@[simp] theorem r_cInt {i : Int} : cInt [.int i] S = some (.int i, S) := rfl
@[simp] theorem r_cMin {i j : Int} : cMin [.int i, .int j] S = some (.int (if j < i then j else i), S) := rfl
@[simp] theorem r_cMax {i j : Int} : cMax [.int i, .int j] S = some (.int (if j > i then j else i), S) := rfl
@[simp] theorem r_items_tup : itemsOf S (.tup ds) = some ds := rfl
@[simp] theorem r_len_tup : cLen [.tup ds] S = some (.int ds.length, S) := rfl
@[simp] theorem r_eqv_int {i j : Int} {neg : Bool} : gEqv neg (.int i) (.int j) S = some (.bl (if neg then !(i == j) else (i == j)), S) := rfl
@[simp] theorem r_ix_tup {i : Int} : gIx (.tup ds) (.int i) S = (match atI ds i with
  | some e => some (e, S)
  | none => none) := rfl
@[simp] theorem r_cTup : cTup ds S = (if ds.length ≤ lim then some (.tup ds, S) else none) := rfl
@[simp] theorem r_cLst : cLst ds S = (if ds.length ≤ lim then some (.ref S.length, S ++ [.lst ds]) else none) := rfl
@[simp] theorem r_fnF {np nn : Nat} {body : SF} : fnF np nn body ds S = (if ds.length = np then (match body (startE nn ds) S with
  | some (.rt d, S1) => some (d, S1)
  | some (.nx _, S1) => some (.non, S1)
  | _ => none) else none) := rfl
@[simp] theorem r_start {nn : Nat} : startE nn ds = ds.map some ++ List.replicate (nn - ds.length) none := rfl
theorem lim_pos {n : Nat} (h : n ≤ 1000) : n ≤ lim := Nat.le_trans h (by decide)
end
end Lite
/-! LiteL: loops by invariants, and the drawing of numbers that all laws share. -/
namespace Lite
open PySem PySem.Spec PyProof.Rows L2
/-! ### loops -/
theorem forL_fix {b : SF} {t : Tg} {ds : List D} (P : Nat → Env → Sto → Prop) : ∀ (n i : Nat) (env : Env) (S : Sto), P i env S → i ≤ ds.length → ds.length < n + i →
    (∀ i d env S, ds[i]? = some d → P i env S → ∃ e1, setTg t d env = some e1 ∧ ∃ e2 S2, b e1 S = some (.nx e2, S2) ∧ P (i + 1) e2 S2) →
    ∃ e' S', forL b t (.fix ds) n i env S = some (.nx e', S') ∧ P ds.length e' S'
  | 0, i, env, S, h0, hi, hn, hs => by omega
  | n + 1, i, env, S, h0, hi, hn, hs => by
    unfold forL
    simp only [nextD]
    cases q : ds[i]? with
    | none =>
      have : ds.length ≤ i := List.getElem?_eq_none_iff.mp q
      have e : i = ds.length := by omega
      subst e
      exact ⟨env, S, rfl, h0⟩
    | some d =>
      obtain ⟨e1, h1, e2, S2, h2, h3⟩ := hs i d env S q h0
      have hl := (List.getElem?_eq_some_iff.mp q).1
      simp only [h1, h2]
      exact forL_fix P n (i + 1) e2 S2 h3 (by omega) (by omega) hs
/-- over a list that stays -/
theorem compL_cell {t : Tg} {c : TF} {f : EF} {k : Nat} {env : Env} {ds : List D} (P : Nat → List D → Sto → Prop) : ∀ (n i : Nat) (acc : List D) (S : Sto), P i acc S → i ≤ ds.length → ds.length < n + i →
    (∀ i acc S, i ≤ ds.length → P i acc S → ∃ cl, S[k]? = some cl ∧ cl.items = ds) →
    (∀ i d acc S, ds[i]? = some d → P i acc S → ∃ e1, setTg t d env = some e1 ∧ ∃ b S2, c e1 S = some (b, S2) ∧ (b = false → P (i + 1) acc S2) ∧ (b = true → ∃ y S3, f e1 S2 = some (y, S3) ∧ acc.length < lim ∧ P (i + 1) (acc ++ [y]) S3)) →
    ∃ acc' S', compL t c f (.cell k) env n i acc S = some (acc', S') ∧ P ds.length acc' S'
  | 0, i, acc, S, h0, hi, hn, hk, hs => by omega
  | n + 1, i, acc, S, h0, hi, hn, hk, hs => by
    obtain ⟨cl, hc, hcl⟩ := hk i acc S hi h0
    unfold compL
    simp only [nextD, hc, hcl]
    cases q : ds[i]? with
    | none =>
      have : ds.length ≤ i := List.getElem?_eq_none_iff.mp q
      have e : i = ds.length := by omega
      subst e
      exact ⟨acc, S, rfl, h0⟩
    | some d =>
      obtain ⟨e1, h1, b, S2, h2, h3, h4⟩ := hs i d acc S q h0
      have hl := (List.getElem?_eq_some_iff.mp q).1
      simp only [h1, h2]
      cases b with
      | false => exact compL_cell P n (i + 1) acc S2 (h3 rfl) (by omega) (by omega) hk hs
      | true =>
        obtain ⟨y, S3, h5, h6, h7⟩ := h4 rfl
        simp only [h5, h6, if_true]
        exact compL_cell P n (i + 1) (acc ++ [y]) S3 h7 (by omega) (by omega) hk hs
theorem compL_fix {t : Tg} {c : TF} {f : EF} {env : Env} {ds : List D} (P : Nat → List D → Sto → Prop) : ∀ (n i : Nat) (acc : List D) (S : Sto), P i acc S → i ≤ ds.length → ds.length < n + i →
    (∀ i d acc S, ds[i]? = some d → P i acc S → ∃ e1, setTg t d env = some e1 ∧ ∃ b S2, c e1 S = some (b, S2) ∧ (b = false → P (i + 1) acc S2) ∧ (b = true → ∃ y S3, f e1 S2 = some (y, S3) ∧ acc.length < lim ∧ P (i + 1) (acc ++ [y]) S3)) →
    ∃ acc' S', compL t c f (.fix ds) env n i acc S = some (acc', S') ∧ P ds.length acc' S'
  | 0, i, acc, S, h0, hi, hn, hs => by omega
  | n + 1, i, acc, S, h0, hi, hn, hs => by
    unfold compL
    simp only [nextD]
    cases q : ds[i]? with
    | none =>
      have : ds.length ≤ i := List.getElem?_eq_none_iff.mp q
      have e : i = ds.length := by omega
      subst e
      exact ⟨acc, S, rfl, h0⟩
    | some d =>
      obtain ⟨e1, h1, b, S2, h2, h3, h4⟩ := hs i d acc S q h0
      have hl := (List.getElem?_eq_some_iff.mp q).1
      simp only [h1, h2]
      cases b with
      | false => exact compL_fix P n (i + 1) acc S2 (h3 rfl) (by omega) (by omega) hs
      | true =>
        obtain ⟨y, S3, h5, h6, h7⟩ := h4 rfl
        simp only [h5, h6, if_true]
        exact compL_fix P n (i + 1) (acc ++ [y]) S3 h7 (by omega) (by omega) hs
/-! ### sizes -/
def Sm (k : Nat) (i : Int) : Prop := i.natAbs < 2 ^ k
theorem Sm.mono {a b : Nat} {i : Int} (h : Sm a i) (hb : a ≤ b) : Sm b i := Nat.lt_of_lt_of_le h (Nat.pow_le_pow_right (by decide) hb)
theorem Sm.mul {a b : Nat} {i j : Int} (h : Sm a i) (h' : Sm b j) : Sm (a + b) (i * j) := by
  unfold Sm at *
  rw [Int.natAbs_mul, Nat.pow_add]
  exact Nat.mul_lt_mul'' h h'
theorem Sm.add {a : Nat} {i j : Int} (h : Sm a i) (h' : Sm a j) : Sm (a + 1) (i + j) := by
  unfold Sm at *
  rw [Nat.pow_succ]
  omega
theorem Sm.of {k : Nat} {i : Int} (h0 : 0 ≤ i) (h : i < 2 ^ k) : Sm k i := by
  unfold Sm
  have : ((2 ^ k : Nat) : Int) = 2 ^ k := by simp
  omega
theorem Sm.log {k : Nat} {i : Int} (h : Sm k i) : i.natAbs.log2 ≤ k := by
  by_cases h0 : i.natAbs = 0
  · rw [h0]; exact Nat.zero_le _
  · exact Nat.le_of_lt ((Nat.log2_lt h0).mpr h)
theorem mul_ok {a b : Nat} {i j : Int} (h : Sm a i) (h' : Sm b j) (hl : a + b < 1000000) : fMul i j = some (i * j) := by
  unfold fMul
  rw [if_pos]
  have := h.log
  have := h'.log
  omega
theorem mod_ok {i j : Int} (h : 0 < j) : fMod i j = some (i % j) := if_pos h
theorem div_ok {k : Nat} {i j : Int} (h : 0 < j) (hj : Sm k j) (hk : k < 9000) : fDiv i j = some (i / j) := if_pos ⟨h, Nat.lt_of_le_of_lt hj.log hk⟩
/-! ### step by step -/
theorem cons_eq {f g : SF} {env e1 : Env} {S S1 : Sto} (h : f env S = some (.nx e1, S1)) : sCons f g env S = g e1 S1 := by
  unfold sCons
  rw [h]
theorem cons_rt {f g : SF} {env : Env} {S S1 : Sto} {d : D} (h : f env S = some (.rt d, S1)) : sCons f g env S = some (.rt d, S1) := by
  unfold sCons
  rw [h]
theorem fn_eq {np nn : Nat} {body : SF} {ds : List D} {S S1 : Sto} {d : D} (hl : ds.length = np) (h : body (startE nn ds) S = some (.rt d, S1)) : fnF np nn body ds S = some (d, S1) := by
  unfold fnF
  rw [if_pos hl, h]
theorem fn_non {np nn : Nat} {body : SF} {ds : List D} {S S1 : Sto} {e : Env} (hl : ds.length = np) (h : body (startE nn ds) S = some (.nx e, S1)) : fnF np nn body ds S = some (.non, S1) := by
  unfold fnF
  rw [if_pos hl, h]
theorem for_eq {n : Nat} {t : Tg} {it : IFn} {b : SF} {env : Env} {S S1 : Sto} {src : Src} {r : Option (Out × Sto)} (h : it env S = some (src, S1)) (hl : forL b t src n 0 env S1 = r) : sFor n t it b env S = r := by
  unfold sFor
  rw [h]
  exact hl
theorem comp_eq {n : Nat} {own : List Nat} {it : IFn} {t : Tg} {c : TF} {f : EF} {env : Env} {S S1 S2 : Sto} {src : Src} {ds : List D} (h : it env S = some (src, S1)) (hl : compL t c f src (wipeE env own) n 0 [] S1 = some (ds, S2)) :
    eComp n own it t c f env S = some (.ref S2.length, S2 ++ [.lst ds]) := by
  unfold eComp
  rw [h]
  dsimp only
  rw [hl]
/-! ### cells -/
theorem r_ix_ref {S : Sto} {k : Nat} {c : Cell} {i : Int} (h : S[k]? = some c) : gIx (.ref k) (.int i) S = (match atI c.items i with
  | some e => some (e, S)
  | none => none) := by
  show (match itemsOf S (.ref k) with
    | some ds => (match atI ds i with
      | some e => some (e, S)
      | none => none)
    | none => none) = _
  simp only [itemsOf, h]
/-! ### the shared helpers -/
def b_hash : SF := (sCons (sSet 2 (eBin (gArith fMod) (eCall cInt (aCons (eBin gAdd (eBin gAdd (eBin gAdd (eBin (gArith fMul) (eVar 0) (eC (.int 1140671))) (eBin (gArith fMul) (eBin (gArith fMul) (eC (.int 27644437)) (eVar 1)) (eVar 1))) (eBin (gArith fMul) (eC (.int 131)) (eVar 1))) (eC (.int 19))) aNil)) (eC (.int 2147483629)))) (sCons (sSet 2 (eBin (gArith fMod) (eCall cInt (aCons (eBin gAdd (eBin gAdd (eBin (gArith fMul) (eVar 2) (eVar 2)) (eBin (gArith fMul) (eC (.int 62089)) (eVar 1))) (eC (.int 32416187))) aNil)) (eC (.int 2147483587)))) (sCons (sRet (eBin (gArith fMod) (eCall cInt (aCons (eBin (gArith fMul) (eVar 2) (eC (.int 48271))) aNil)) (eC (.int 2147483647)))) sNil)))
def c_hash : CF := fnF 2 3 b_hash
def b_random (fu : Nat) : SF := (sCons (sIf (truB (eBin (gCmpI fun i j => decide (j < i)) (eBin gIx (eVar 0) (eC (.int 0))) (eC (.int 0)))) (sCons (sSet 2 (eBin (gArith fMod) (eCall cInt (aCons (eBin gIx (eVar 0) (eC (.int 0))) aNil)) (eVar 1))) (sCons (sSub (eVar 0) (eC (.int 0)) (eBin (gArith fDiv) (eBin gIx (eVar 0) (eC (.int 0))) (eVar 1))) (sCons (sRet (eVar 2)) sNil))) sNil) (sCons (sSet 2 (eC (.int 0))) (sCons (sFor fu (.nm 3) (iRange1 (aCons (eBin gAdd (eC (.int 1)) (eBin (gArith fDiv) (eBits (eVar 1)) (eC (.int 30)))) aNil)) (sCons (sSub (eVar 0) (eC (.int 2)) (eBin gAdd (eBin gIx (eVar 0) (eC (.int 2))) (eC (.int 1)))) (sCons (sSet 2 (eBin gAdd (eBin (gArith fMul) (eVar 2) (eC (.int 2147483587))) (eCall c_hash (aCons (eBin gIx (eVar 0) (eC (.int 1))) (aCons (eBin gIx (eVar 0) (eC (.int 2))) aNil))))) sNil))) (sCons (sRet (eBin (gArith fMod) (eCall cInt (aCons (eVar 2) aNil)) (eVar 1))) sNil))))
def c_random (fu : Nat) : CF := fnF 2 4 (b_random fu)
theorem hash_ok {S : Sto} {a b : Int} (ha : 0 ≤ a ∧ a < 2 ^ 31) (hb : 0 ≤ b ∧ b < 2 ^ 64) : ∃ h : Int, c_hash [.int a, .int b] S = some (.int h, S) ∧ 0 ≤ h ∧ h < 2 ^ 31 := by
  have sa : Sm 31 a := .of ha.1 ha.2
  have sb : Sm 64 b := .of hb.1 hb.2
  have k1 := mul_ok sa (show Sm 21 1140671 by unfold Sm; decide) (by decide)
  have k2 := mul_ok (show Sm 25 27644437 by unfold Sm; decide) sb (by decide)
  have k3 := mul_ok ((show Sm 25 27644437 by unfold Sm; decide).mul sb) sb (by decide)
  have k4 := mul_ok (show Sm 8 131 by unfold Sm; decide) sb (by decide)
  have k5 : ∀ z : Int, fMod z 2147483629 = some (z % 2147483629) := fun z => mod_ok (by decide)
  have k6 : ∀ z : Int, fMod z 2147483587 = some (z % 2147483587) := fun z => mod_ok (by decide)
  have k7 : ∀ z : Int, fMod z 2147483647 = some (z % 2147483647) := fun z => mod_ok (by decide)
  have sm : ∀ z m : Int, 0 < m → m ≤ 2 ^ 31 → Sm 31 (z % m) := fun z m h0 h1 => .of (Int.emod_nonneg z (by omega)) (Int.lt_of_lt_of_le (Int.emod_lt_of_pos z h0) h1)
  have k8 : ∀ z : Int, fMul (z % 2147483629) (z % 2147483629) = some (z % 2147483629 * (z % 2147483629)) := fun z => mul_ok (sm z _ (by decide) (by decide)) (sm z _ (by decide) (by decide)) (by decide)
  have k9 := mul_ok (show Sm 16 62089 by unfold Sm; decide) sb (by decide)
  have k10 : ∀ z : Int, fMul (z % 2147483587) 48271 = some (z % 2147483587 * 48271) := fun z => mul_ok (sm z _ (by decide) (by decide)) (show Sm 16 48271 by unfold Sm; decide) (by decide)
  refine ⟨((((a * 1140671 + 27644437 * b * b + 131 * b + 19) % 2147483629 * ((a * 1140671 + 27644437 * b * b + 131 * b + 19) % 2147483629) + 62089 * b + 32416187) % 2147483587) * 48271) % 2147483647, ?_, Int.emod_nonneg _ (by decide), Int.lt_trans (Int.emod_lt_of_pos _ (by decide)) (by decide)⟩
  simp [c_hash, b_hash, k1, k2, k3, k4, k5, k6, k7, k8, k9, k10]
/-- the generator's list at g -/
def Gen (S : Sto) (g : Nat) (B : Int) : Prop := ∃ g0 g1 g2 : Int, S[g]? = some (.lst [.int g0, .int g1, .int g2]) ∧ Sm 2000 g0 ∧ (0 ≤ g1 ∧ g1 < 2 ^ 31) ∧ 0 ≤ g2 ∧ g2 ≤ B
/-- all but g stands, new cells behind -/
structure Fr (g : Nat) (S S' : Sto) : Prop where
  len : S.length ≤ S'.length
  keep : ∀ k, k < S.length → k ≠ g → S'[k]? = S[k]?
theorem Fr.refl {g : Nat} {S : Sto} : Fr g S S := ⟨Nat.le_refl _, fun _ _ _ => rfl⟩
theorem Fr.trans {g : Nat} {S S1 S2 : Sto} (a : Fr g S S1) (b : Fr g S1 S2) : Fr g S S2 := ⟨Nat.le_trans a.len b.len, fun k h n => (b.keep k (Nat.lt_of_lt_of_le h a.len) n).trans (a.keep k h n)⟩
theorem Fr.set {g : Nat} {S : Sto} {c : Cell} : Fr g S (S.set g c) := ⟨by simp, fun k h n => List.getElem?_set_ne (Ne.symm n)⟩
theorem Fr.app {g : Nat} {S T : Sto} : Fr g S (S ++ T) := ⟨by simp, fun k h n => List.getElem?_append_left h⟩
theorem Gen.app {S T : Sto} {g : Nat} {B : Int} (h : Gen S g B) : Gen (S ++ T) g B := by
  obtain ⟨g0, g1, g2, e, r⟩ := h
  exact ⟨g0, g1, g2, by rw [List.getElem?_append_left (List.getElem?_eq_some_iff.mp e).1]; exact e, r⟩
theorem Gen.mono {S : Sto} {g : Nat} {B C : Int} (h : Gen S g B) (hc : B ≤ C) : Gen S g C := by
  obtain ⟨g0, g1, g2, e, r1, r2, r3, r4⟩ := h
  exact ⟨g0, g1, g2, e, r1, r2, r3, Int.le_trans r4 hc⟩
theorem bits_le {k : Nat} {i : Int} (h : Sm k i) : Builtin.Int.intBits i ≤ k + 1 := by
  have := h.log
  unfold Builtin.Int.intBits
  split <;> omega
def bRand (fu : Nat) : SF := (sCons (sSub (eVar 0) (eC (.int 2)) (eBin gAdd (eBin gIx (eVar 0) (eC (.int 2))) (eC (.int 1)))) (sCons (sSet 2 (eBin gAdd (eBin (gArith fMul) (eVar 2) (eC (.int 2147483587))) (eCall c_hash (aCons (eBin gIx (eVar 0) (eC (.int 1))) (aCons (eBin gIx (eVar 0) (eC (.int 2))) aNil))))) sNil))
theorem at0 {a b c : D} : atI [a, b, c] 0 = some a := rfl
theorem at1 {a b c : D} : atI [a, b, c] 1 = some b := rfl
theorem at2 {a b c : D} : atI [a, b, c] 2 = some c := rfl
theorem ix0 : ixN 3 0 = some 0 := rfl
theorem ix2 : ixN 3 2 = some 2 := rfl
theorem random_pos {fu : Nat} {S : Sto} {g : Nat} {b g0 g1 g2 : Int} (eg : S[g]? = some (.lst [.int g0, .int g1, .int g2])) (hp : 0 < g0) (h1 : 1 ≤ b) (h2 : b < 2 ^ 120) :
    c_random fu [.ref g, .int b] S = some (.int (g0 % b), S.set g (.lst [.int (g0 / b), .int g1, .int g2])) := by
  have sb : Sm 120 b := .of (by omega) h2
  have e1 := mod_ok (i := g0) (j := b) (by omega)
  have e2 := div_ok (i := g0) (j := b) (by omega) sb (by decide)
  simp [c_random, b_random, r_ix_ref eg, Cell.items, at0, hp, e1, e2, eg, ix0]
theorem rand_turn {fu : Nat} {S : Sto} {g : Nat} {b g0 g1 g2 dr : Int} {k : Nat} {tv : Option D} {d : D} (eg : S[g]? = some (.lst [.int g0, .int g1, .int g2])) (s1 : 0 ≤ g1 ∧ g1 < 2 ^ 31) (s2 : 0 ≤ g2 ∧ g2 + 1 < 2 ^ 64) (hdr : Sm k dr) (hk : k < 900000) :
    ∃ h : Int, 0 ≤ h ∧ h < 2 ^ 31 ∧ bRand fu [some (.ref g), some (.int b), some (.int dr), some d] S = some (.nx [some (.ref g), some (.int b), some (.int (dr * 2147483587 + h)), some d], S.set g (.lst [.int g0, .int g1, .int (g2 + 1)])) := by
  have hgl := (List.getElem?_eq_some_iff.mp eg).1
  have es2 : (S.set g (.lst [.int g0, .int g1, .int (g2 + 1)]))[g]? = some (.lst [.int g0, .int g1, .int (g2 + 1)]) := List.getElem?_set_self hgl
  obtain ⟨h, hh, h0, h9⟩ := hash_ok (S := S.set g (.lst [.int g0, .int g1, .int (g2 + 1)])) (a := g1) (b := g2 + 1) s1 ⟨by omega, s2.2⟩
  have em := mul_ok hdr (show Sm 31 2147483587 by unfold Sm; decide) (by omega)
  refine ⟨h, h0, h9, ?_⟩
  simp [bRand, r_ix_ref eg, r_ix_ref es2, Cell.items, at1, at2, eg, ix2, hh, em]
theorem rand_loop {fu : Nat} (hf : 10000 ≤ fu) {S : Sto} {g : Nat} {b g0 g1 g2 : Int} {n : Nat} (eg : S[g]? = some (.lst [.int g0, .int g1, .int g2])) (s1 : 0 ≤ g1 ∧ g1 < 2 ^ 31) (s2 : 0 ≤ g2 ∧ g2 ≤ 2 ^ 60) (hn : n ≤ 5) :
    ∃ (dr : Int) (tv : Option D) (g2' : Int), forL (bRand fu) (.nm 3) (.fix (rangeD 0 n)) fu 0 [some (.ref g), some (.int b), some (.int 0), none] S = some (.nx [some (.ref g), some (.int b), some (.int dr), tv], S.set g (.lst [.int g0, .int g1, .int g2'])) ∧ g2 ≤ g2' ∧ g2' ≤ g2 + 5 := by
  have hgl := (List.getElem?_eq_some_iff.mp eg).1
  have hlen : (rangeD 0 n).length = n := by simp [rangeD]
  have e0 : S = S.set g (.lst [.int g0, .int g1, .int g2]) := by
    refine (List.ext_getElem? fun k => ?_)
    by_cases hk : g = k
    · subst hk
      rw [List.getElem?_set_self hgl, eg]
    · rw [List.getElem?_set_ne hk]
  obtain ⟨e', S', hl, dr, tv, g2', rfl, hdr, rfl, q1, q2⟩ := forL_fix (b := bRand fu) (t := .nm 3) (ds := rangeD 0 n)
      (fun i env S' => ∃ (dr : Int) (tv : Option D) (g2' : Int), env = [some (.ref g), some (.int b), some (.int dr), tv] ∧ Sm (32 * i + 1) dr ∧ S' = S.set g (.lst [.int g0, .int g1, .int g2']) ∧ g2 ≤ g2' ∧ g2' ≤ g2 + i)
      fu 0 [some (.ref g), some (.int b), some (.int 0), none] S ⟨0, none, g2, rfl, by unfold Sm; decide, e0, by omega, by omega⟩ (Nat.zero_le _) (by omega) (by
        rintro i d env S2 hd ⟨dr, tv, g2', rfl, hdr, rfl, q1, q2⟩
        have hi : i < n := by
          have := (List.getElem?_eq_some_iff.mp hd).1
          omega
        have es : (S.set g (.lst [.int g0, .int g1, .int g2']))[g]? = some (.lst [.int g0, .int g1, .int g2']) := List.getElem?_set_self hgl
        obtain ⟨h, h0, h9, hh⟩ := rand_turn (fu := fu) (b := b) (d := d) (tv := tv) es s1 ⟨by omega, by omega⟩ hdr (by omega)
        rw [List.set_set] at hh
        refine ⟨_, rfl, _, _, hh, dr * 2147483587 + h, some d, g2' + 1, rfl, ?_, rfl, by omega, by push_cast; omega⟩
        have m1 : Sm (32 * i + 1 + 31) (dr * 2147483587) := hdr.mul (show Sm 31 2147483587 by unfold Sm; decide)
        have m2 : Sm (32 * i + 1 + 31) h := (Sm.of h0 h9).mono (by omega)
        exact (m1.add m2).mono (by omega))
  exact ⟨dr, tv, g2', hl, q1, by omega⟩
theorem rand_it {S : Sto} {g n : Nat} {b : Int} (hn : (1 + ((Builtin.Int.intBits b : Nat) : Int) / 30).toNat = n) (h0 : 0 ≤ ((Builtin.Int.intBits b : Nat) : Int) / 30) (h4 : ((Builtin.Int.intBits b : Nat) : Int) / 30 ≤ 4) :
    iRange1 (aCons (eBin gAdd (eC (.int 1)) (eBin (gArith fDiv) (eBits (eVar 1)) (eC (.int 30)))) aNil) [some (.ref g), some (.int b), some (.int 0), none] S = some (.fix (rangeD 0 n), S) := by
  have hb30 : fDiv ((Builtin.Int.intBits b : Nat) : Int) 30 = some (((Builtin.Int.intBits b : Nat) : Int) / 30) := div_ok (by decide) (show Sm 5 30 by unfold Sm; decide) (by decide)
  unfold iRange1
  simp only [r_aCons, r_eBin, r_eC, r_eBits, r_eVar, List.getElem?_cons_succ, List.getElem?_cons_zero, r_arith, hb30, r_add, r_aNil]
  rw [if_pos ⟨by omega, by omega⟩, hn]
theorem random_neg {fu : Nat} {S S' : Sto} {g n : Nat} {b g0 g1 g2 dr : Int} {tv : Option D} (eg : S[g]? = some (.lst [.int g0, .int g1, .int g2])) (hp : ¬ 0 < g0) (h1 : 1 ≤ b)
    (hit : iRange1 (aCons (eBin gAdd (eC (.int 1)) (eBin (gArith fDiv) (eBits (eVar 1)) (eC (.int 30)))) aNil) [some (.ref g), some (.int b), some (.int 0), none] S = some (.fix (rangeD 0 n), S))
    (hl : forL (bRand fu) (.nm 3) (.fix (rangeD 0 n)) fu 0 [some (.ref g), some (.int b), some (.int 0), none] S = some (.nx [some (.ref g), some (.int b), some (.int dr), tv], S')) :
    c_random fu [.ref g, .int b] S = some (.int (dr % b), S') := by
  have e1 := mod_ok (i := dr) (j := b) (by omega)
  refine fn_eq rfl ((cons_eq (e1 := [some (.ref g), some (.int b), none, none]) ?_).trans ((cons_eq (e1 := [some (.ref g), some (.int b), some (.int 0), none]) rfl).trans ((cons_eq (for_eq hit hl)).trans (cons_rt ?_))))
  · simp [r_ix_ref eg, Cell.items, at0, hp]
  · simp [e1]
theorem random_ok {fu : Nat} (hf : 10000 ≤ fu) {S : Sto} {g : Nat} {B b : Int} (hg : Gen S g B) (hB : B ≤ 2 ^ 60) (h1 : 1 ≤ b) (h2 : b < 2 ^ 120) :
    ∃ (r : Int) (S' : Sto), c_random fu [.ref g, .int b] S = some (.int r, S') ∧ 0 ≤ r ∧ r < b ∧ Gen S' g (B + 5) ∧ Fr g S S' ∧ S'.length = S.length := by
  obtain ⟨g0, g1, g2, eg, s0, s1, s2, s3⟩ := hg
  have hgl := (List.getElem?_eq_some_iff.mp eg).1
  have sb : Sm 120 b := .of (by omega) h2
  by_cases hp : 0 < g0
  · refine ⟨g0 % b, _, random_pos eg hp h1 h2, Int.emod_nonneg _ (by omega), Int.emod_lt_of_pos _ (by omega), ⟨g0 / b, g1, g2, List.getElem?_set_self hgl, ?_, s1, s2, by omega⟩, .set, by simp⟩
    unfold Sm at s0 ⊢
    have q1 : 0 ≤ g0 / b := Int.ediv_nonneg (by omega) (by omega)
    have q2 : g0 / b ≤ g0 := Int.ediv_le_self b (by omega)
    omega
  · have hbits := bits_le sb
    have hn0 : 0 ≤ ((Builtin.Int.intBits b : Nat) : Int) / 30 := by omega
    have hn1 : ((Builtin.Int.intBits b : Nat) : Int) / 30 ≤ 4 := by omega
    obtain ⟨n, hn⟩ : ∃ n : Nat, (1 + ((Builtin.Int.intBits b : Nat) : Int) / 30).toNat = n := ⟨_, rfl⟩
    obtain ⟨dr, tv, g2', hl, q1, q2⟩ := rand_loop hf (b := b) (n := n) eg s1 ⟨s2, by omega⟩ (by omega)
    exact ⟨dr % b, _, random_neg eg hp h1 (rand_it hn hn0 hn1) hl, Int.emod_nonneg _ (by omega), Int.emod_lt_of_pos _ (by omega), ⟨g0, g1, g2', List.getElem?_set_self hgl, s0, s1, by omega, by omega⟩, .set, by simp⟩
end Lite
/-! LiteM: the script's cells, the generator, numbers and ranges drawn. -/
namespace Lite
open PySem PySem.Spec PyProof.Rows L2
theorem listOf_cases {S : Sto} {d : D} {xs : List D} (h : listOf S d = some xs) : d = .kl xs ∨ ∃ k c, d = .ref k ∧ S[k]? = some c ∧ c.items = xs := by
  cases d with
  | kl ds => cases h; exact .inl rfl
  | ref k =>
    simp only [listOf] at h
    split at h
    · rename_i c hc
      cases h
      exact .inr ⟨k, c, rfl, hc, rfl⟩
    · cases h
  | _ => cases h
theorem items_of_list {S : Sto} {d : D} {xs : List D} (h : listOf S d = some xs) : itemsOf S d = some xs := by
  rcases listOf_cases h with rfl | ⟨k, c, rfl, hc, rfl⟩
  · rfl
  · simp only [itemsOf, hc]
theorem len_list {S : Sto} {d : D} {xs : List D} (h : listOf S d = some xs) : cLen [d] S = some (.int xs.length, S) := by
  have h2 := items_of_list h
  rcases listOf_cases h with rfl | ⟨k, c, rfl, hc, rfl⟩
  · rfl
  · simp only [cLen, h2]
theorem ix_list' {S : Sto} {d : D} {xs : List D} {i : Int} (h : listOf S d = some xs) : gIx d (.int i) S = (match atI xs i with
  | some e => some (e, S)
  | none => none) := by
  rcases listOf_cases h with rfl | ⟨k, c, rfl, hc, rfl⟩
  · rfl
  · exact r_ix_ref hc
theorem sl_list' {S : Sto} {d : D} {xs : List D} {lo hi : Option Int} (h : listOf S d = some xs) : gSl d lo hi S = some (.ref S.length, S ++ [.lst (cutD xs lo hi)]) := by
  rcases listOf_cases h with rfl | ⟨k, c, rfl, hc, rfl⟩
  · rfl
  · simp only [gSl, listOf, hc]
theorem listOf_app {S T : Sto} {d : D} {xs : List D} (h : listOf S d = some xs) : listOf (S ++ T) d = some xs := by
  rcases listOf_cases h with rfl | ⟨k, c, rfl, hc, rfl⟩
  · rfl
  · simp only [listOf, List.getElem?_append_left (List.getElem?_eq_some_iff.mp hc).1, hc]
/-- what was there stands, at whatever generator -/
theorem listOf_fr {S S' : Sto} {g : Nat} {d : D} {xs : List D} (f : Fr g S S') (hg : S.length ≤ g) (h : listOf S d = some xs) : listOf S' d = some xs := by
  rcases listOf_cases h with rfl | ⟨k, c, rfl, hc, rfl⟩
  · rfl
  · have hk := (List.getElem?_eq_some_iff.mp hc).1
    simp only [listOf, f.keep k hk (by omega), hc]
theorem new_last {S : Sto} {c : Cell} : (S ++ [c])[S.length]? = some c := by simp
theorem ints_of : ∀ ns : List Int, intsD (ns.map D.int) = some ns
  | [] => rfl
  | n :: ns => by
    have ih := ints_of ns
    unfold intsD at ih ⊢
    simp only [List.map_cons, mapO]
    rw [ih]
theorem cut_map {ns : List Int} {lo hi : Option Int} : ∃ ms : List Int, cutD (ns.map D.int) lo hi = ms.map D.int := by
  unfold cutD
  rw [← List.map_drop, ← List.map_take]
  exact ⟨_, rfl⟩
def b_cell (fu : Nat) : SF := (sCons (sIf (truB (eBin (gCmpI fun i j => decide (i < j)) (eVar 1) (eCall cLen (aCons (eVar 0) aNil)))) (sCons (sRet (eBin gIx (eVar 0) (eVar 1))) sNil) sNil) (sCons (sRet (eBin (gArith fMod) (eCall cSum (aCons (eSl (eVar 0) oNone (oSome (eC (.int 1)))) aNil)) (eC (.int 1000003)))) sNil))
def c_cell (fu : Nat) : CF := fnF 2 2 (b_cell fu)
theorem cell_ok {fu : Nat} {S : Sto} {d : D} {ns : List Int} {i : Nat} (h : listOf S d = some (ns.map D.int)) : ∃ (z : Int) (T : Sto), c_cell fu [d, .int i] S = some (.int z, S ++ T) := by
  by_cases hi : i < ns.length
  · refine ⟨ns[i], [], ?_⟩
    rw [List.append_nil]
    refine fn_eq rfl (cons_rt ?_)
    have e : atI (ns.map D.int) (i : Int) = some (.int ns[i]) := atI_nat (by rw [List.getElem?_map, List.getElem?_eq_getElem hi]; rfl)
    have hi' : (i : Int) < ((ns.map D.int).length : Int) := by rw [List.length_map]; omega
    simp only [r_sIf, r_truB, r_eBin, r_eVar, r_start, r_eCall, r_aCons, r_aNil, List.map_cons, List.map_nil, List.cons_append, List.getElem?_cons_zero, List.getElem?_cons_succ, len_list h, r_cmpI, decide_eq_true hi', r_sCons, r_sRet, ix_list' h, e]
  · obtain ⟨ms, hm⟩ := cut_map (ns := ns) (lo := none) (hi := some 1)
    refine ⟨ms.sum % 1000003, [.lst (ms.map D.int)], ?_⟩
    have hi' : ¬ (i : Int) < ((ns.map D.int).length : Int) := by rw [List.length_map]; omega
    refine fn_eq rfl ((cons_eq (e1 := [some d, some (.int i)]) (S1 := S) ?_).trans (cons_rt ?_))
    · simp only [r_sIf, r_truB, r_eBin, r_eVar, r_start, r_eCall, r_aCons, r_aNil, List.map_cons, List.map_nil, List.cons_append, List.getElem?_cons_zero, List.getElem?_cons_succ, len_list h, r_cmpI, decide_eq_false hi', r_sNil, List.length_cons, List.length_nil, Nat.sub_self, List.replicate_zero, List.append_nil]
    · have e1 : cSum [.ref S.length] (S ++ [.lst (ms.map D.int)]) = some (.int ms.sum, S ++ [.lst (ms.map D.int)]) := by
        simp only [cSum, listOf, new_last, Cell.items, ints_of]
      have e2 := mod_ok (i := ms.sum) (j := 1000003) (by decide)
      simp only [r_sRet, r_eBin, r_eCall, r_aCons, r_aNil, eSl, oNone, oSome, r_eVar, r_eC, List.getElem?_cons_zero, sl_list' h, hm, e1, r_arith, e2]
def b_generator (fu : Nat) : SF := (sCons (sSet 2 (eCall (c_cell fu) (aCons (eVar 0) (aCons (eVar 1) aNil)))) (sCons (sRet (eCall cLst (aCons (eBin (gArith fMod) (eCall cInt (aCons (eCall cMax (aCons (eBin gSub (eVar 2) (eBin (gArith fPow) (eC (.int 10)) (eC (.int 18)))) (aCons (eC (.int 0)) aNil))) aNil)) (eBin (gArith fPow) (eBin (gArith fPow) (eC (.int 10)) (eC (.int 60))) (eC (.int 10)))) (aCons (eBin (gArith fMod) (eCall cInt (aCons (eVar 2) aNil)) (eC (.int 2147483647))) (aCons (eBin (gArith fMul) (eC (.int 1000)) (eVar 1)) aNil))))) sNil))
def c_generator (fu : Nat) : CF := fnF 2 3 (b_generator fu)
theorem pow18 : fPow 10 18 = some (10 ^ 18) := by decide +kernel
theorem pow59 : fPow 10 59 = some (10 ^ 59) := by decide +kernel
theorem pow60 : fPow 10 60 = some (10 ^ 60) := by decide +kernel
theorem pow600 : fPow (10 ^ 60) 10 = some (10 ^ 600) := by decide +kernel
theorem pow600' : (0 : Int) < 10 ^ 600 := by decide +kernel
theorem pow600b : (10 : Int) ^ 600 < 2 ^ 2000 := by decide +kernel
theorem generator_ok {fu : Nat} {S : Sto} {d : D} {ns : List Int} {i : Nat} (h : listOf S d = some (ns.map D.int)) (hi : i < 1000) : ∃ (g : Nat) (S' : Sto), c_generator fu [d, .int i] S = some (.ref g, S') ∧ Gen S' g (1000 * i) ∧ S.length ≤ g ∧ Fr g S S' := by
  obtain ⟨z, T, hz⟩ := cell_ok (fu := fu) (i := i) h
  have e2 : ∀ x : Int, fMod x (10 ^ 600) = some (x % 10 ^ 600) := fun x => mod_ok pow600'
  have e3 := mod_ok (i := z) (j := 2147483647) (by decide)
  have e4 : fMul 1000 (i : Int) = some (1000 * (i : Int)) := mul_ok (show Sm 10 1000 by unfold Sm; decide) (show Sm 10 (i : Int) from .of (by omega) (by omega)) (by decide)
  refine ⟨(S ++ T).length, (S ++ T) ++ [.lst [.int ((if (0 : Int) > z - 10 ^ 18 then 0 else z - 10 ^ 18) % 10 ^ 600), .int (z % 2147483647), .int (1000 * i)]], ?_, ⟨_, _, _, new_last, ?_, ⟨Int.emod_nonneg _ (by decide), Int.lt_trans (Int.emod_lt_of_pos _ (by decide)) (by decide)⟩, by omega, by omega⟩, by simp, Fr.app.trans .app⟩
  · refine fn_eq rfl ((cons_eq (e1 := [some d, some (.int i), some (.int z)]) (S1 := S ++ T) ?_).trans (cons_rt ?_))
    · simp only [r_sSet, r_eCall, r_aCons, r_aNil, r_eVar, r_start, List.map_cons, List.map_nil, List.cons_append, List.getElem?_cons_zero, List.getElem?_cons_succ, hz]
      rfl
    · simp only [r_sRet, r_eCall, r_aCons, r_aNil, r_eBin, r_eC, r_eVar, List.getElem?_cons_zero, List.getElem?_cons_succ, r_arith, pow18, pow60, pow600, r_sub, r_cMax, r_cInt, e2, e3, e4, r_cLst, List.length_cons, List.length_nil, Nat.zero_add, Nat.reduceAdd, if_pos (lim_pos (show 3 ≤ 1000 by decide))]
  · exact .of (Int.emod_nonneg _ (Int.ne_of_gt pow600')) (Int.lt_trans (Int.emod_lt_of_pos _ pow600') pow600b)
/-! numbers, ranges -/
def b_number (fu : Nat) : SF := (sCons (sRet (eBin gSub (eCall (c_random fu) (aCons (eVar 0) (aCons (eBin gAdd (eBin (gArith fMul) (eC (.int 2)) (eVar 1)) (eC (.int 1))) aNil))) (eVar 1))) sNil)
def c_number (fu : Nat) : CF := fnF 2 2 (b_number fu)
theorem number_ok {fu : Nat} (hf : 10000 ≤ fu) {S : Sto} {g : Nat} {B m : Int} (hg : Gen S g B) (hB : B ≤ 2 ^ 60) (h1 : 0 ≤ m) (h2 : m < 2 ^ 110) :
    ∃ (r : Int) (S' : Sto), c_number fu [.ref g, .int m] S = some (.int r, S') ∧ -m ≤ r ∧ r ≤ m ∧ Gen S' g (B + 5) ∧ Fr g S S' ∧ S'.length = S.length := by
  obtain ⟨r, S', hr, r0, r1, hg', hf', hl⟩ := random_ok hf (b := 2 * m + 1) hg hB (by omega) (by omega)
  refine ⟨r - m, S', ?_, by omega, by omega, hg', hf', hl⟩
  have e1 : fMul 2 m = some (2 * m) := mul_ok (show Sm 2 2 by unfold Sm; decide) (show Sm 110 m from .of h1 h2) (by decide)
  refine fn_eq rfl (cons_rt ?_)
  simp only [r_sRet, r_eCall, r_aCons, r_aNil, r_eBin, r_eC, r_eVar, r_start, List.map_cons, List.map_nil, List.cons_append, List.getElem?_cons_zero, List.getElem?_cons_succ, r_arith, e1, r_add, hr, r_sub]
/-- ends, ranges -/
def dO : Option Int → D
  | none => .non
  | some i => .int i
def dR (r : Option Int × Option Int) : D := .tup [dO r.1, dO r.2]
def OkR (r : Option Int × Option Int) : Prop := ∀ lo hi, r.1 = some lo → r.2 = some hi → lo ≤ hi
def BdO (m : Int) (e : Option Int) : Prop := ∀ i, e = some i → -m ≤ i ∧ i ≤ m
def BdR (m : Int) (r : Option Int × Option Int) : Prop := BdO m r.1 ∧ BdO m r.2
def b_range (fu : Nat) : SF := (sCons (sSet 2 (eCall (c_number fu) (aCons (eVar 0) (aCons (eVar 1) aNil)))) (sCons (sPar [3, 4] (aCons (eCall cMin (aCons (eBin gAdd (eVar 2) (eCall (c_random fu) (aCons (eVar 0) (aCons (eBin gAdd (eVar 1) (eC (.int 1))) aNil)))) (aCons (eVar 1) aNil))) (aCons (eCall (c_random fu) (aCons (eVar 0) (aCons (eC (.int 8)) aNil))) aNil))) (sCons (sRet (eCall cTup (aCons (eIf (truB (eBin (gIn false) (eVar 4) (eCall cLst (aCons (eC (.int 0)) (aCons (eC (.int 2)) aNil))))) (eC .non) (eVar 2)) (aCons (eIf (truB (eBin (gIn false) (eVar 4) (eCall cLst (aCons (eC (.int 1)) (aCons (eC (.int 2)) aNil))))) (eC .non) (eVar 3)) aNil)))) sNil)))
def c_range (fu : Nat) : CF := fnF 2 5 (b_range fu)
theorem in_two {S : Sto} {k : Nat} {w a b : Int} (h : S[k]? = some (.lst [.int a, .int b])) : gIn false (.int w) (.ref k) S = some (.bl (a == w || b == w), S) := by
  simp [gIn, itemsOf, h, Cell.items, flatD, eqD]
theorem range_ok {fu : Nat} (hf : 10000 ≤ fu) {S : Sto} {g : Nat} {B m : Int} (hg : Gen S g B) (hB : B ≤ 2 ^ 59) (h1 : 0 ≤ m) (h2 : m < 2 ^ 110) :
    ∃ (r : Option Int × Option Int) (S' : Sto), c_range fu [.ref g, .int m] S = some (dR r, S') ∧ OkR r ∧ BdR m r ∧ Gen S' g (B + 15) ∧ Fr g S S' := by
  obtain ⟨lo, S1, e1, l0, l1, g1, f1, n1⟩ := number_ok hf hg (by omega) h1 h2
  obtain ⟨w1, S2, e2, w0, w2, g2, f2, n2⟩ := random_ok hf (b := m + 1) g1 (by omega) (by omega) (by omega)
  obtain ⟨w, S3, e3, v0, v1, g3, f3, n3⟩ := random_ok hf (b := 8) g2 (by omega) (by omega) (by omega)
  have hi : ∃ h, h = (if m < lo + w1 then m else lo + w1) := ⟨_, rfl⟩
  obtain ⟨h, hh⟩ := hi
  have hlo : lo ≤ h := by rw [hh]; split <;> omega
  have hhi : h ≤ m := by rw [hh]; split <;> omega
  refine ⟨(if (0 == w || 2 == w) = true then none else some lo, if (1 == w || 2 == w) = true then none else some h), S3 ++ [.lst [.int 0, .int 2]] ++ [.lst [.int 1, .int 2]], ?_, ?_, ?_, (g3.app.app).mono (by omega), ((f1.trans f2).trans f3).trans (.trans .app .app)⟩
  · refine fn_eq rfl ((cons_eq (e1 := [some (.ref g), some (.int m), some (.int lo), none, none]) (S1 := S1) ?_).trans ((cons_eq (e1 := [some (.ref g), some (.int m), some (.int lo), some (.int h), some (.int w)]) (S1 := S3) ?_).trans (cons_rt ?_)))
    · simp only [r_sSet, r_eCall, r_aCons, r_aNil, r_eVar, r_start, List.map_cons, List.map_nil, List.cons_append, List.getElem?_cons_zero, List.getElem?_cons_succ, e1]
      rfl
    · simp only [r_sPar, r_eCall, r_aCons, r_aNil, r_eBin, r_eC, r_eVar, List.getElem?_cons_zero, List.getElem?_cons_succ, r_add, e2, r_cMin, e3, ← hh]
      rfl
    · have k1 : (S3 ++ [Cell.lst [.int 0, .int 2]])[S3.length]? = some (.lst [.int 0, .int 2]) := new_last
      have k2 : (S3 ++ [Cell.lst [.int 0, .int 2]] ++ [Cell.lst [.int 1, .int 2]])[(S3 ++ [Cell.lst [.int 0, .int 2]]).length]? = some (.lst [.int 1, .int 2]) := new_last
      have t1 : (if (2 : Nat) ≤ lim then some (D.ref S3.length, S3 ++ [Cell.lst [.int 0, .int 2]]) else none) = some (D.ref S3.length, S3 ++ [Cell.lst [.int 0, .int 2]]) := if_pos (lim_pos (by decide))
      simp only [r_sRet, r_eCall, r_aCons, r_aNil, r_eIf, r_truB, r_eBin, r_eC, r_eVar, List.getElem?_cons_zero, List.getElem?_cons_succ, r_cLst, List.length_cons, List.length_nil, Nat.zero_add, Nat.reduceAdd, if_pos (lim_pos (show 2 ≤ 1000 by decide)), in_two k1, in_two k2]
      cases c1 : (0 == w || 2 == w) <;> cases c2 : (1 == w || 2 == w) <;> simp only [r_eC, r_eVar, List.getElem?_cons_zero, List.getElem?_cons_succ, r_cLst, List.length_cons, List.length_nil, Nat.zero_add, Nat.reduceAdd, if_pos (lim_pos (show 2 ≤ 1000 by decide)), in_two k2, c2, r_cTup, dR, dO, if_true, if_false, Bool.false_eq_true, reduceIte]
  · intro a b ha hb
    dsimp only at ha hb
    split at ha
    · cases ha
    · split at hb
      · cases hb
      · cases ha; cases hb; exact hlo
  · constructor
    · intro a ha
      dsimp only at ha
      split at ha <;> cases ha
      omega
    · intro a ha
      dsimp only at ha
      split at ha <;> cases ha
      omega
end Lite
/-! LiteN: comprehensions that change nothing, data as trees, repr. -/
namespace Lite
open PySem PySem.Spec PyProof.Rows L2
theorem filter_take {α β : Type} {p : α → Bool} {h : α → β} {ds : List α} {i : Nat} {d : α} (e : ds[i]? = some d) : ((ds.take (i + 1)).filter p).map h = ((ds.take i).filter p).map h ++ (if p d = true then [h d] else []) := by
  rw [List.take_add_one, e]
  simp only [Option.toList_some, List.filter_append, List.map_append]
  congr 1
  cases q : p d <;> simp [q]
theorem filter_len {α β : Type} {p : α → Bool} {h : α → β} (ds : List α) (i : Nat) : (((ds.take i).filter p).map h).length ≤ ds.length := by
  rw [List.length_map]
  exact Nat.le_trans (List.length_filter_le _ _) (by rw [List.length_take]; exact Nat.min_le_right _ _)
/-- a comprehension over a list, each turn of which changes nothing -/
theorem comp_pure {n : Nat} {own : List Nat} {it : IFn} {t : Tg} {c : TF} {f : EF} {env : Env} {S S1 : Sto} {k : Nat} {cl : Cell} {ds : List D} (hit : it env S = some (.cell k, S1)) (hk : S1[k]? = some cl) (hcl : cl.items = ds) (p : D → Bool) (h : D → D)
    (hb : ∀ d ∈ ds, ∃ e1, setTg t d (wipeE env own) = some e1 ∧ c e1 S1 = some (p d, S1) ∧ (p d = true → f e1 S1 = some (h d, S1))) (hn : ds.length < n) (hl : ds.length ≤ 1000) :
    eComp n own it t c f env S = some (.ref S1.length, S1 ++ [.lst ((ds.filter p).map h)]) := by
  obtain ⟨acc, S', e, rfl, rfl⟩ := compL_cell (t := t) (c := c) (f := f) (k := k) (env := wipeE env own) (ds := ds) (fun i acc S' => S' = S1 ∧ acc = ((ds.take i).filter p).map h) n 0 [] S1 ⟨rfl, by simp⟩ (Nat.zero_le _) (by omega)
    (fun i acc S' _ q => ⟨cl, by rw [q.1]; exact hk, hcl⟩) (by
      rintro i d acc S' hd ⟨rfl, rfl⟩
      obtain ⟨e1, h1, h2, h3⟩ := hb d (List.mem_of_getElem? hd)
      refine ⟨e1, h1, p d, S', h2, fun hp => ⟨rfl, ?_⟩, fun hp => ⟨h d, S', h3 hp, Nat.lt_of_le_of_lt (Nat.le_trans (filter_len ds i) hl) (by decide), rfl, ?_⟩⟩
      · rw [filter_take hd, hp]; simp
      · rw [filter_take hd, hp]; simp)
  rw [List.take_length] at e
  exact comp_eq hit e
theorem comp_pureF {n : Nat} {own : List Nat} {it : IFn} {t : Tg} {c : TF} {f : EF} {env : Env} {S S1 : Sto} {ds : List D} (hit : it env S = some (.fix ds, S1)) (p : D → Bool) (h : D → D)
    (hb : ∀ d ∈ ds, ∃ e1, setTg t d (wipeE env own) = some e1 ∧ c e1 S1 = some (p d, S1) ∧ (p d = true → f e1 S1 = some (h d, S1))) (hn : ds.length < n) (hl : ds.length ≤ 1000) :
    eComp n own it t c f env S = some (.ref S1.length, S1 ++ [.lst ((ds.filter p).map h)]) := by
  obtain ⟨acc, S', e, rfl, rfl⟩ := compL_fix (t := t) (c := c) (f := f) (env := wipeE env own) (ds := ds) (fun i acc S' => S' = S1 ∧ acc = ((ds.take i).filter p).map h) n 0 [] S1 ⟨rfl, by simp⟩ (Nat.zero_le _) (by omega)
    (by
      rintro i d acc S' hd ⟨rfl, rfl⟩
      obtain ⟨e1, h1, h2, h3⟩ := hb d (List.mem_of_getElem? hd)
      refine ⟨e1, h1, p d, S', h2, fun hp => ⟨rfl, ?_⟩, fun hp => ⟨h d, S', h3 hp, Nat.lt_of_le_of_lt (Nat.le_trans (filter_len ds i) hl) (by decide), rfl, ?_⟩⟩
      · rw [filter_take hd, hp]; simp
      · rw [filter_take hd, hp]; simp)
  rw [List.take_length] at e
  exact comp_eq hit e
/-! ### trees -/
/-- what a value is, told by a relation -/
inductive Tr (S : Sto) : D → PyData → Prop
  | non : Tr S .non .none
  | bl (b : Bool) : Tr S (.bl b) (.bool b)
  | int (i : Int) : Tr S (.int i) (.int i)
  | str (x : Str) : Tr S (.str x) (.str x)
  | tup {ds : List D} {ps : List PyData} : ds.length = ps.length → (∀ (i : Nat) d p, ds[i]? = some d → ps[i]? = some p → Tr S d p) → Tr S (.tup ds) (.tuple ps)
  | ref {k : Nat} {c : Cell} {ps : List PyData} : S[k]? = some c → c.items.length = ps.length → (∀ (i : Nat) d p, c.items[i]? = some d → ps[i]? = some p → Tr S d p) → Tr S (.ref k) (.list ps)
theorem mapO_all {α β : Type} {f : α → Option β} : ∀ {xs : List α} {ys : List β}, xs.length = ys.length → (∀ (i : Nat) x y, xs[i]? = some x → ys[i]? = some y → f x = some y) → mapO f xs = some ys
  | [], [], _, _ => rfl
  | [], _ :: _, h, _ => by simp at h
  | _ :: _, [], h, _ => by simp at h
  | x :: xs, y :: ys, h, q => by
    unfold mapO
    rw [q 0 x y rfl rfl]
    dsimp only
    rw [mapO_all (xs := xs) (ys := ys) (by simpa using h) fun i a b h1 h2 => q (i + 1) a b h1 h2]
theorem depth_at {ps : List PyData} : ∀ {i : Nat} {p : PyData}, ps[i]? = some p → p.depth ≤ PyData.depthAll ps := by
  induction ps with
  | nil => intro i p h; simp at h
  | cons q qs ih =>
    intro i p h
    unfold PyData.depthAll
    cases i with
    | zero =>
      simp at h
      subst h
      exact Nat.le_max_left _ _
    | succ i =>
      simp at h
      exact Nat.le_trans (ih h) (Nat.le_max_right _ _)
theorem Tr.to {S : Sto} {d : D} {p : PyData} (h : Tr S d p) : ∀ n, p.depth < n → toP n S d = some p := by
  induction h with
  | non => intro n hn; cases n with | zero => omega | succ n => rfl
  | bl b => intro n hn; cases n with | zero => omega | succ n => rfl
  | int i => intro n hn; cases n with | zero => omega | succ n => rfl
  | str x => intro n hn; cases n with | zero => omega | succ n => rfl
  | @tup ds ps hl ha ih =>
    intro n hn
    cases n with
    | zero => omega
    | succ n =>
      unfold PyData.depth at hn
      unfold toP
      rw [mapO_all hl fun i d p h1 h2 => ih i d p h1 h2 n (by have := depth_at h2; omega)]
  | @ref k c ps hk hl ha ih =>
    intro n hn
    cases n with
    | zero => omega
    | succ n =>
      unfold PyData.depth at hn
      unfold toP
      rw [hk]
      dsimp only
      rw [mapO_all hl fun i d p h1 h2 => ih i d p h1 h2 n (by have := depth_at h2; omega)]
/-- how deep, how long written -/
structure Fi (k L : Nat) (p : PyData) : Prop where
  sh : p.showable = true
  nd : p.hasDict = false
  dp : p.depth ≤ k
  ln : p.shown.length ≤ L
theorem fi_non : Fi 0 4 .none := ⟨rfl, rfl, Nat.le_refl _, by decide +kernel⟩
theorem fi_bl (b : Bool) : Fi 0 5 (.bool b) := ⟨rfl, rfl, Nat.le_refl _, by cases b <;> decide +kernel⟩
theorem fi_int {i : Int} (h : Sm 1000 i) : Fi 0 1010 (.int i) := by
  refine ⟨?_, rfl, Nat.le_refl _, ?_⟩
  · show decide (i.natAbs.log2 < 1920) = true
    have := h.log
    exact decide_eq_true (by omega)
  · unfold PyData.shown
    have h1 := int_text_length_le (a := i) (k := 1001) (by decide) (Nat.lt_succ_of_le h.log)
    rw [PySem.ofString_length]
    omega
theorem Fi.mono {k L k' L' : Nat} {p : PyData} (h : Fi k L p) (hk : k ≤ k') (hL : L ≤ L') : Fi k' L' p := ⟨h.sh, h.nd, Nat.le_trans h.dp hk, Nat.le_trans h.ln hL⟩
theorem sh_all : ∀ {ps : List PyData}, (∀ p ∈ ps, p.showable = true) → PyData.showableAll ps = true
  | [], _ => rfl
  | p :: ps, h => by
    unfold PyData.showableAll
    rw [h p List.mem_cons_self, sh_all fun q hq => h q (List.mem_cons_of_mem _ hq)]
    rfl
theorem nd_all : ∀ {ps : List PyData}, (∀ p ∈ ps, p.hasDict = false) → PyData.hasDictAll ps = false
  | [], _ => rfl
  | p :: ps, h => by
    unfold PyData.hasDictAll
    rw [h p List.mem_cons_self, nd_all fun q hq => h q (List.mem_cons_of_mem _ hq)]
    rfl
theorem dp_all {k : Nat} : ∀ {ps : List PyData}, (∀ p ∈ ps, p.depth ≤ k) → PyData.depthAll ps ≤ k
  | [], _ => Nat.zero_le _
  | p :: ps, h => by
    unfold PyData.depthAll
    have h1 := h p List.mem_cons_self
    have h2 := dp_all fun q hq => h q (List.mem_cons_of_mem _ hq)
    omega
theorem ln_all {L : Nat} : ∀ {ps : List PyData}, (∀ p ∈ ps, p.shown.length ≤ L) → ((PyData.shownAll ps).map (·.length)).sum ≤ L * ps.length ∧ (PyData.shownAll ps).length = ps.length
  | [], _ => ⟨Nat.zero_le _, rfl⟩
  | p :: ps, h => by
    unfold PyData.shownAll
    have h1 := h p List.mem_cons_self
    obtain ⟨h2, h3⟩ := ln_all fun q hq => h q (List.mem_cons_of_mem _ hq)
    simp only [List.map_cons, List.sum_cons, List.length_cons, h3, Nat.mul_succ, and_true]
    omega
theorem fi_list {k L n : Nat} {ps : List PyData} (h : ∀ p ∈ ps, Fi k L p) (hn : ps.length ≤ n) : Fi (k + 1) ((L + 2) * n + 3) (.list ps) := by
  refine ⟨sh_all fun p hp => (h p hp).sh, nd_all fun p hp => (h p hp).nd, Nat.succ_le_succ (dp_all fun p hp => (h p hp).dp), ?_⟩
  obtain ⟨h1, h2⟩ := ln_all fun p hp => (h p hp).ln
  have h3 := listText_len_le (PyData.shownAll ps)
  rw [h2] at h3
  show (listText (PyData.shownAll ps)).length ≤ _
  have h4 : (L + 2) * ps.length ≤ (L + 2) * n := Nat.mul_le_mul_left _ hn
  rw [Nat.add_mul] at h4
  omega
theorem fi_tuple {k L n : Nat} {ps : List PyData} (h : ∀ p ∈ ps, Fi k L p) (hn : ps.length ≤ n) : Fi (k + 1) ((L + 2) * n + 3) (.tuple ps) := by
  refine ⟨sh_all fun p hp => (h p hp).sh, nd_all fun p hp => (h p hp).nd, Nat.succ_le_succ (dp_all fun p hp => (h p hp).dp), ?_⟩
  obtain ⟨h1, h2⟩ := ln_all fun p hp => (h p hp).ln
  have h3 := tupleText_len_le (PyData.shownAll ps)
  rw [h2] at h3
  show (tupleText (PyData.shownAll ps)).length ≤ _
  have h4 : (L + 2) * ps.length ≤ (L + 2) * n := Nat.mul_le_mul_left _ hn
  rw [Nat.add_mul] at h4
  omega
theorem repr_ok {S : Sto} {d : D} {p : PyData} {k L : Nat} (h : Tr S d p) (hf : Fi k L p) (hk : k ≤ 50) (hL : L ≤ 10000000) : cRepr [d] S = some (.str p.shown, S) := by
  have e := h.to 60 (by have := hf.dp; omega)
  have c3 : decide (p.depth ≤ 60) = true := decide_eq_true (by have := hf.dp; omega)
  have c4 : sizeP p = true := decide_eq_true (Nat.le_trans (Nat.le_trans hf.ln hL) (by decide))
  show (match toP 60 S d with
    | some p => if p.showable && !p.hasDict && decide (p.depth ≤ 60) && sizeP p then some (D.str p.shown, S) else none
    | none => none) = _
  rw [e]
  dsimp only
  rw [hf.sh, hf.nd, c3, c4]
  rfl
theorem eqv_str {S : Sto} {x : Str} : gEqv false (.str x) (.str x) S = some (.bl true, S) := by
  show some (D.bl (decide (x = x)), S) = _
  rw [decide_eq_true rfl]
end Lite
/-! LiteS: sorted(set(ints)), list(range(..)). -/
namespace Lite
open PySem PySem.Spec PyProof.Rows L2
section
variable {P : Program} {w : World} {A : Around} {E : Value → Shared → Prop} {s : Shared}
set_option maxHeartbeats 8000000 in
/-- set(list of ints): what L2.call_set_tupI says of tuples, of lists -/
theorem set_ints {l : Addr} {vs : Array Value} (ns : List Int) {Q : Value → Shared → Prop} (hh : A.handled = none) (hl : s.heap.IsList l vs) (hit : IntsAre vs.toList ns) (hb : ns.length + 1 < scanBound)
    (h : ∀ (h' : Heap) (tk c : Nat), SetR w h' s.heap.objs.size (fun j => decide (j ∈ ns)) c → c ≤ ns.length → (∀ b o, s.heap.get? b = some o → h'.get? b = some o) → Q (.ref s.heap.objs.size) { s with heap := h', toks := tk }) : wpAny (model P w) A (call (.type "set") [.ref l]) Q E s := by
  have size_eq : vs.size = ns.length := by rw [← Array.length_toList]; exact IntsAre.length hit
  obtain ⟨c, tl, hmro⟩ := F.called_set.mro; have hmade := F.called_set.made; have hsub := F.called_set.sub
  refine wpAny_call (codeAny_of_tree ?_); show wpAny _ _ (callAny (.type "set") _) _ _ _
  refine wpAny_pure ⟨Code.quiet_builtin _ (by decide +kernel), codeAny_builtin F.entry_type_call ?_⟩; rw [Around.under_plain (weight_type_call_type "set" [.ref l] []) rfl]
  have h1 := F.called_set.notType; have h2 := F.called_set.canCreate; have hct := F.typeCall_set_1 (.ref l)
  repeat (any_goals (first | assumption | wp_step))
  refine codeAny_mono (code_set_led1 (.ref l) (E := E) (Q₁ := fun b s₁ => b = .ref s.heap.objs.size ∧ s₁ = { s with heap := s.heap.push { cls := .type "set", dict := none, data := .set #[] 0 (.fresh 0 0 (!w.params.followText "set-order")) } }) ⟨rfl, rfl⟩) fun r s₁ hr => ?_
  match r, hr with
  | .error e, hr => exact hr
  | .ok (.ret b), hr =>
    obtain ⟨rfl, rfl⟩ := hr
    have fresh_at : (s.heap.push { cls := .type "set", dict := none, data := .set #[] 0 (.fresh 0 0 (!w.params.followText "set-order")) }).get? s.heap.objs.size = some { cls := .type "set", dict := none, data := .set #[] 0 (.fresh 0 0 (!w.params.followText "set-order")) } := Heap.get?_push_size _ rfl
    have hT : Shared.TypeIs { s with heap := s.heap.push { cls := .type "set", dict := none, data := .set #[] 0 (.fresh 0 0 (!w.params.followText "set-order")) } } (.ref s.heap.objs.size) "set" := ⟨_, fresh_at, rfl⟩
    have hli := F.called_set.init.lookup; have hbi := F.called_set.init.bind (.ref s.heap.objs.size)
    repeat (any_goals (first | assumption | wp_step))
    refine codeAny_mono (codeAny_call_builtin (R := wants (fun r s₂ => r = .none ∧ ∃ h' tk c, s₂ = { s with heap := h', toks := tk } ∧ SetR w h' s.heap.objs.size (fun j => decide (j ∈ ns)) c ∧ c ≤ ns.length ∧ (∀ b o, s.heap.get? b = some o → h'.get? b = some o)) E) F.called_set.init.plain F.entry_set_init (check_set_init_1 hT ?_)) fun r₂ s₂ hr₂ => ?_
    · obtain ⟨⟨lc, ld, lb, ls⟩, hol, hcl, nl, hdl⟩ := hl
      simp only at hcl hdl; subst hcl; subst hdl
      have held : (s.heap.push { cls := .type "set", dict := none, data := .set #[] 0 (.fresh 0 0 (!w.params.followText "set-order")) }).get? l = some { cls := .type "list", dict := ld, data := .seq vs nl, slots := ls } := Heap.get?_push_of_some _ hol
      have hsls := F.sub_list_set; have hslf := F.sub_list_frozenset; have hne : (Value.type "list" == Value.type "dict") = false := by decide
      have is1 : (s.heap.push { cls := .type "set", dict := none, data := .set #[] 0 (.fresh 0 0 (!w.params.followText "set-order")) }).IsList l vs := ⟨_, held, rfl, nl, rfl⟩
      unfold Builtin.«set.__init__» noKeywords Builtin.Frozenset.updateFrom; generalize hPI : pyIter = PI
      wp_walk
      subst hPI
      refine wpAny_pyIter_list is1 (wpAny_bind (wpAny_runValue ?_))
      have llt : l < s.heap.objs.size := Heap.lt_size hol; have hand : A.in1.in1.in1.handled = none := by simp [hh]
      have apart : l ≠ (s.heap.push { cls := .type "set", dict := none, data := .set #[] 0 (.fresh 0 0 (!w.params.followText "set-order")) }).objs.size := by rw [Heap.size_push]; exact Nat.ne_of_lt (Nat.lt_succ_of_lt llt)
      have outside : s.heap.objs.size ∉ [(s.heap.push { cls := .type "set", dict := none, data := .set #[] 0 (.fresh 0 0 (!w.params.followText "set-order")) }).objs.size, l] := by
        rw [Heap.size_push]; simp only [List.mem_cons, List.mem_singleton, List.not_mem_nil, or_false, not_or]; exact ⟨Nat.ne_of_lt (Nat.lt_succ_self _), Nat.ne_of_gt llt⟩
      have whole : ∀ (i : Nat) (v : Value), vs[i]? = some v → ∃ k t, ns[i]? = some k ∧ v = .int k t := fun i v hv => by
        have hi : i < ns.length := by rw [← size_eq]; exact (Array.getElem?_eq_some_iff.mp hv).1
        obtain ⟨t, e⟩ := PyProof.Rows.IntsAre.int_at hit i v (by rw [Array.getElem?_toList]; exact hv)
        refine ⟨ns[i], t, List.getElem?_eq_getElem hi, e.trans ?_⟩; rw [List.getD_eq_getElem?_getD, List.getElem?_eq_getElem hi]; rfl
      refine set_update_ints ((Walks.list hand _ l apart vs).toS) s.heap.objs.size outside ns size_eq hb whole (vs.size - 0) 0 _ (by omega) (Nat.zero_le _) ⟨⟨_, Heap.get?_push_size _ rfl, rfl, rfl⟩, (is1.push _)⟩ ⟨0, Nat.le_refl 0, setR_new_at (Heap.get?_push_of_some _ fresh_at)⟩ fun s' c' hm hc' hS' => ?_
      obtain ⟨h', g2, d', tk', os'⟩ := s'; have eg : g2 = s.gens := hm.gens; have ed : d' = s.drawn := hm.drawn; have eo : os' = s.os := hm.os
      subst eg; subst ed; subst eo
      show wpAny _ _ _ _ _ _
      refine wpAny_pure ?_; show wpAny _ _ (ret Value.none) _ _ _; rw [size_eq] at hc'
      refine wpAny_pure ⟨rfl, h', tk', c', rfl, hS', hc', fun b o e => ?_⟩
      have b0 : b < s.heap.objs.size := Heap.lt_size e
      exact hm.heap b o (by simp only [List.mem_cons, List.mem_singleton, List.not_mem_nil, or_false, not_or]; exact ⟨Nat.ne_of_lt b0, by rw [Heap.size_push]; exact Nat.ne_of_lt (Nat.lt_succ_of_lt b0)⟩) (Heap.get?_push_of_some _ (Heap.get?_push_of_some _ e))
    · match r₂, hr₂ with
      | .error e, hr₂ => exact hr₂
      | .ok (.ret r), hr₂ =>
        obtain ⟨rfl, h', tk, c', rfl, hS', hc', hk'⟩ := hr₂
        repeat (any_goals (first | assumption | wp_step))
        exact h _ _ _ hS' hc' hk'
end
end Lite
namespace Lite
open PySem PySem.Spec PyProof.Rows L2
/-- the numbers of a list, each once, rising -/
def insU (x : Int) : List Int → List Int
  | [] => [x]
  | y :: l => if x < y then x :: y :: l else if x = y then y :: l else y :: insU x l
def sdl (ns : List Int) : List Int := ns.foldr insU []
theorem insU_mem {x k : Int} : ∀ {l : List Int}, k ∈ insU x l ↔ k = x ∨ k ∈ l
  | [] => by simp [insU]
  | y :: l => by
    unfold insU
    split
    · simp
    · split
      · rename_i h
        subst h
        simp
      · simp only [List.mem_cons, insU_mem (l := l)]
        constructor
        · rintro (h | h | h) <;> simp [h]
        · rintro (h | h | h) <;> simp [h]
theorem insU_rise {x : Int} : ∀ {l : List Int}, l.Pairwise (· < ·) → (insU x l).Pairwise (· < ·)
  | [], _ => by simp [insU]
  | y :: l, h => by
    have h' := List.pairwise_cons.mp h
    unfold insU
    split
    · rename_i hx
      refine List.pairwise_cons.mpr ⟨fun k hk => ?_, h⟩
      rcases List.mem_cons.mp hk with rfl | hk
      · exact hx
      · exact Int.lt_trans hx (h'.1 k hk)
    · split
      · exact h
      · rename_i h1 h2
        refine List.pairwise_cons.mpr ⟨fun k hk => ?_, insU_rise h'.2⟩
        rcases insU_mem.mp hk with rfl | hk
        · omega
        · exact h'.1 k hk
theorem sdl_mem {k : Int} : ∀ {ns : List Int}, k ∈ sdl ns ↔ k ∈ ns
  | [] => Iff.rfl
  | n :: ns => by
    show k ∈ insU n (sdl ns) ↔ _
    rw [insU_mem, sdl_mem, List.mem_cons]
theorem sdl_rise : ∀ {ns : List Int}, (sdl ns).Pairwise (· < ·)
  | [] => .nil
  | n :: ns => insU_rise (sdl_rise (ns := ns))
theorem rise_nodup {l : List Int} (h : l.Pairwise (· < ·)) : l.Nodup := h.imp fun {a b} q => by omega
theorem sdl_uniq {l ns : List Int} (h : l.Pairwise (· < ·)) (hm : ∀ k, k ∈ l ↔ k ∈ ns) : l = sdl ns :=
  ((List.perm_ext_iff_of_nodup (rise_nodup h) (rise_nodup sdl_rise)).mpr fun k => (hm k).trans sdl_mem.symm).eq_of_pairwise (fun a b _ _ h1 h2 => by omega) h sdl_rise
theorem SetR_size {w : World} {h : Heap} {a : Addr} {ns : List Int} {c : Nat} (R : SetR w h a (fun j => decide (j ∈ ns)) c) : c = (sdl ns).length := by
  obtain ⟨o, es, ep, t, ho, hex, hd, g, nd, hm, hb, hf, hn, hr, hl⟩ := R
  have p : (es.toList.map keyOf).Perm (sdl ns) := (List.perm_ext_iff_of_nodup nd (rise_nodup sdl_rise)).mpr fun k => by
    rw [← hm k, sdl_mem]
    exact decide_eq_true_iff
  have q := p.length_eq
  rw [List.length_map, Array.length_toList] at q
  omega
section
variable {X : Cx} {a b e : Expr} {fa fb : EF} {pos p p2 p3 q : Pos}
def rSetI (K : PySem.W.Frag) (w : World) : List V → Hp → VK → Prop := fun xs H Q => ∃ (l : Addr) (ns : List Int), xs = [.ref l] ∧ SqL K H l (ns.map V.int) ∧ ns.length + 1 < scanBound ∧ ∀ p, H p = none → Q (.ref p) (upd H p (SetO w p (fun j => decide (j ∈ ns)) (sdl ns).length))
theorem cr_setI (hc : X.calm = true) : CallR X (.type "set") (rSetI X.K X.w) := by
  intro pins s σ H xs us Q I r h
  obtain ⟨l, ns, rfl, hs, hb, q⟩ := h
  obtain ⟨its, rv, hl, hz⟩ := I.list hs
  rw [Vals.ref1 r]
  refine set_ints ns (I.ok.hd hc) hl.isList (by simpa using rv.ints) hb fun h' tk c R hcn k => ?_
  rw [SetR_size R] at R
  exact ⟨.ref s.heap.objs.size, upd H s.heap.objs.size (SetO X.w s.heap.objs.size (fun j => decide (j ∈ ns)) (sdl ns).length), I.laid (t' := tk) k (Nat.le_refl _) (setO_new R), rfl, q _ (I.hok.fresh (Nat.le_refl _))⟩
/-- sorted(set(e)), e a list of ints -/
def eSset (f : EF) : EF := fun env S => match f env S with
  | some (d, S1) => match listOf S1 d with
    | some es => match intsD es with
      | some ns => if ns.length ≤ 4000 ∧ (sdl ns).length < 64 then some (.ref S1.length, S1 ++ [.lst ((sdl ns).map D.int)]) else none
      | none => none
    | none => none
  | none => none
theorem ints_rds {K : PySem.W.Frag} {ρ : List Addr} {H : Hp} : ∀ ns : List Int, RDs K ρ H (ns.map V.int) (ns.map D.int)
  | [] => .nil
  | n :: ns => .cons (.int n) (ints_rds ns)
theorem l_sset (hc : X.calm = true) (hg : Gl X "sorted") (hm : X.mg "sorted" = none) (hg2 : Gl X "set") (hm2 : X.mg "set" = none) (ha : PE X a (tE X.K fa)) (hn : starEach [a] X.env = (false, eval a X.env) :: starEach [] X.env := by rfl) :
    PE X (.Call (.Name "sorted" p) [.Call (.Name "set" p2) [a] [] q] [] pos) (tE X.K (eSset fa)) := (pe_callB (cr_sortedSet hc) hg hm rfl (pa_cons (pe_callTy (cr_setI hc) hg2 hm2 rfl (pa_cons ha pa_nil hn) (by decide) (by decide) hn) pa_nil)).imp fun σ H Q h => by
  obtain ⟨ρ, S, env, d, S', r, en, hf, q⟩ := h
  unfold eSset at hf
  split at hf
  · rename_i d1 S1 h1
    split at hf
    · rename_i es he
      split at hf
      · rename_i ns hns
        split at hf
        · rename_i hb
          cases hf
          refine run_e r en h1 fun ρ1 H1 v1 e1 r1 hv1 en1 => ?_
          obtain ⟨l, xs, rfl, hs, hr⟩ := list_rd r1 hv1 he
          rw [intsD_rd hr hns] at hs
          refine ⟨l, ns, rfl, hs, by have := hb.1; unfold scanBound; omega, fun z hz => ?_⟩
          refine ⟨z, _, _, rfl, upd_same, hb.2, fun ns' z' h1 h2 h3 h4 => ?_⟩
          rw [sdl_uniq h1 fun k => (h2 k).trans decide_eq_true_iff]
          have r2 := r1.newT (o := SetO X.w z (fun j => decide (j ∈ ns)) (sdl ns).length) hz
          refine q _ _ _ ((e1.trans (ext_new hz)).trans (ext_newL h4)) (r2.newL h4 (ints_rds _)) (.ref ?_)
          rw [← r2.len]
          simp
        · cases hf
      · cases hf
    · cases hf
  · cases hf
/-- list(range(a, b)) -/
def rgD (i j : Int) : List D := (List.range (j - i).toNat).map fun k => D.int (i + (k : Nat))
def eLRg (f g : EF) : EF := fun env S => match f env S with
  | some (.int i, S1) => match g env S1 with
    | some (.int j, S2) => if -(2 ^ 62) ≤ i ∧ i < 2 ^ 62 ∧ -(2 ^ 62) ≤ j ∧ j < 2 ^ 62 ∧ (j - i).toNat ≤ 2 ^ 24 then some (.ref S2.length, S2 ++ [.lst (rgD i j)]) else none
    | _ => none
  | _ => none
theorem map_rds {K : PySem.W.Frag} {ρ : List Addr} {H : Hp} {f : Nat → Int} : ∀ l : List Nat, RDs K ρ H (l.map fun k => V.int (f k)) (l.map fun k => D.int (f k))
  | [] => .nil
  | n :: ns => .cons (.int (f n)) (map_rds ns)
theorem l_lrg (hc : X.calm = true) (hg : Gl X "list") (hm : X.mg "list" = none) (hg2 : Gl X "range") (hm2 : X.mg "range" = none) (ha : PE X a (tE X.K fa)) (hb : PE X b (tE X.K fb)) (n1 : starEach [.Call (.Name "range" p2) [a, b] [] q] X.env = (false, eval (.Call (.Name "range" p2) [a, b] [] q) X.env) :: starEach [] X.env := by rfl) (n2 : starEach [a, b] X.env = (false, eval a X.env) :: starEach [b] X.env := by rfl) (n3 : starEach [b] X.env = (false, eval b X.env) :: starEach [] X.env := by rfl) (n4 : (backTo q (starEach [b] X.env)).any (·.1) = false := by rfl) :
    PE X (.Call (.Name "list" p) [.Call (.Name "range" p2) [a, b] [] q] [] pos) (tE X.K (eLRg fa fb)) := (pe_listRg hc hg hm (prg_2 hg2 hm2 ha hb n2 n3 n4) n1).imp fun σ H Q h => by
  obtain ⟨ρ, S, env, d, S', r, en, hf, q⟩ := h
  unfold eLRg at hf
  split at hf
  · rename_i i S1 h1
    split at hf
    · rename_i j S2 h2
      split at hf
      · rename_i hb
        cases hf
        refine run_e r en h1 fun ρ1 H1 v1 e1 r1 hv1 en1 => run_e r1 en1 h2 fun ρ2 H2 v2 e2 r2 hv2 en2 => ?_
        cases hv1
        cases hv2
        refine ⟨i, j, rfl, rfl, hb, fun z hz => ?_⟩
        refine q _ _ _ ((e1.trans e2).trans (ext_newL hz)) (r2.newL hz (map_rds _)) (.ref ?_)
        rw [← r2.len]
        simp
      · cases hf
    · cases hf
  · cases hf
end
end Lite
/-! LiteU: comprehensions that make a list each turn; numbers in a row; flat data. -/
namespace Lite
open PySem PySem.Spec PyProof.Rows L2
theorem mkrefs_snoc (b n : Nat) : (List.range (n + 1)).map (fun i => D.ref (b + i)) = (List.range n).map (fun i => D.ref (b + i)) ++ [D.ref (b + n)] := by
  rw [List.range_succ, List.map_append]; rfl
/-- a comprehension over a list, each turn of which makes a list -/
theorem comp_alloc {n : Nat} {own : List Nat} {it : IFn} {t : Tg} {c : TF} {f : EF} {env : Env} {S S1 : Sto} {k : Nat} {cl : Cell} {ds : List D} {hs : List (List D)} (hit : it env S = some (.cell k, S1)) (hk : S1[k]? = some cl) (hcl : cl.items = ds) (hh : hs.length = ds.length)
    (hb : ∀ (i : Nat) d x T, ds[i]? = some d → hs[i]? = some x → ∃ e1, setTg t d (wipeE env own) = some e1 ∧ c e1 (S1 ++ T) = some (true, S1 ++ T) ∧ f e1 (S1 ++ T) = some (.ref (S1 ++ T).length, (S1 ++ T) ++ [.lst x])) (hn : ds.length < n) (hl : ds.length ≤ 1000) :
    eComp n own it t c f env S = some (.ref (S1.length + ds.length), (S1 ++ hs.map Cell.lst) ++ [.lst ((List.range ds.length).map fun i => D.ref (S1.length + i))]) := by
  obtain ⟨acc, S', e, rfl, rfl⟩ := compL_cell (t := t) (c := c) (f := f) (k := k) (env := wipeE env own) (ds := ds) (fun i acc S' => S' = S1 ++ (hs.take i).map Cell.lst ∧ acc = (List.range i).map fun i => D.ref (S1.length + i)) n 0 [] S1 ⟨by simp, rfl⟩ (Nat.zero_le _) (by omega)
    (fun i acc S' _ q => ⟨cl, by rw [q.1, List.getElem?_append_left (List.getElem?_eq_some_iff.mp hk).1]; exact hk, hcl⟩) (by
      rintro i d acc S' hd ⟨rfl, rfl⟩
      have hi := (List.getElem?_eq_some_iff.mp hd).1
      have hx : hs[i]? = some hs[i] := List.getElem?_eq_getElem (by omega)
      obtain ⟨e1, h1, h2, h3⟩ := hb i d _ ((hs.take i).map Cell.lst) hd hx
      refine ⟨e1, h1, true, _, h2, fun z => (by cases z), fun _ => ⟨_, _, h3, ?_, ?_, ?_⟩⟩
      · rw [List.length_map, List.length_range]
        exact Nat.lt_of_lt_of_le (Nat.lt_of_lt_of_le hi hl) (by decide)
      · rw [List.take_add_one, hx, List.map_append, List.append_assoc]; rfl
      · rw [mkrefs_snoc, List.length_append, List.length_map, List.length_take, Nat.min_eq_left (by omega)])
  have e2 := comp_eq hit e
  rw [e2]
  have e3 : hs.take ds.length = hs := by rw [← hh]; exact List.take_length
  rw [e3, List.length_append, List.length_map, hh]
/-! ### numbers in a row -/
def rgI (i j : Int) : List Int := (List.range (j - i).toNat).map fun k => i + (k : Nat)
theorem rgD_is (i j : Int) : rgD i j = (rgI i j).map D.int := by
  unfold rgD rgI
  rw [List.map_map]
  rfl
theorem rgI_mem {i j k : Int} : k ∈ rgI i j ↔ i ≤ k ∧ k < j := by
  unfold rgI
  rw [List.mem_map]
  constructor
  · rintro ⟨m, hm, rfl⟩
    rw [List.mem_range] at hm
    omega
  · rintro ⟨h1, h2⟩
    exact ⟨(k - i).toNat, by rw [List.mem_range]; omega, by omega⟩
theorem rgI_len (i j : Int) : (rgI i j).length = (j - i).toNat := by
  unfold rgI
  rw [List.length_map, List.length_range]
theorem rgI_rise {i j : Int} : (rgI i j).Pairwise (· < ·) := by
  unfold rgI
  rw [List.pairwise_map]
  exact List.pairwise_lt_range.imp fun h => by omega
theorem sdl_rg {ns : List Int} {i j : Int} (h : ∀ k, k ∈ ns ↔ i ≤ k ∧ k < j) : sdl ns = rgI i j := (sdl_uniq rgI_rise fun k => rgI_mem.trans (h k).symm).symm
theorem intsD_map (ns : List Int) : intsD (ns.map D.int) = some ns := ints_of ns
theorem sset_ok {f : EF} {env : Env} {S S1 : Sto} {k : Nat} {ns : List Int} {i j : Int} (hf : f env S = some (.ref k, S1)) (hk : S1[k]? = some (.lst (ns.map D.int))) (hm : ∀ x, x ∈ ns ↔ i ≤ x ∧ x < j) (hl : ns.length ≤ 4000) (hj : (j - i).toNat < 64) :
    eSset f env S = some (.ref S1.length, S1 ++ [.lst (rgD i j)]) := by
  unfold eSset
  rw [hf]
  dsimp only
  rw [show listOf S1 (.ref k) = some (ns.map D.int) by simp only [Lite.listOf, hk, Cell.items]]
  dsimp only
  rw [intsD_map]
  dsimp only
  rw [sdl_rg hm, if_pos ⟨hl, by rw [rgI_len]; exact hj⟩, rgD_is]
/-! ### flat data -/
def Good (d : D) : Prop := ∃ p, (∀ S, Tr S d p) ∧ Fi 1 3000 p
theorem good_bl (b : Bool) : Good (.bl b) := ⟨_, fun _ => .bl b, (fi_bl b).mono (by decide) (by decide)⟩
theorem good_non : Good .non := ⟨_, fun _ => .non, fi_non.mono (by decide) (by decide)⟩
theorem good_int {i : Int} (h : Sm 1000 i) : Good (.int i) := ⟨_, fun _ => .int i, (fi_int h).mono (by decide) (by decide)⟩
theorem tr_pair {S : Sto} {a b : D} {p s : PyData} (h : Tr S a p) (h' : Tr S b s) : Tr S (.tup [a, b]) (.tuple [p, s]) := .tup rfl fun i d e h1 h2 => by
  match i with
  | 0 => cases h1; cases h2; exact h
  | 1 => cases h1; cases h2; exact h'
  | i + 2 => cases h1
theorem dO_p {a : Option Int} (h : ∀ i, a = some i → Sm 1000 i) : ∃ p, (∀ S, Tr S (dO a) p) ∧ Fi 0 1010 p := by
  cases a with
  | none => exact ⟨.none, fun S => .non, fi_non.mono (by decide) (by decide)⟩
  | some i => exact ⟨.int i, fun S => .int i, fi_int (h i rfl)⟩
theorem good_dR {r : Option Int × Option Int} (h : ∀ i, (r.1 = some i ∨ r.2 = some i) → Sm 1000 i) : Good (dR r) := by
  obtain ⟨p, t1, f1⟩ := dO_p (a := r.1) fun i e => h i (.inl e)
  obtain ⟨s, t2, f2⟩ := dO_p (a := r.2) fun i e => h i (.inr e)
  refine ⟨.tuple [p, s], fun S => tr_pair (t1 S) (t2 S), (fi_tuple (n := 2) (ps := [p, s]) (k := 0) (L := 1010) (fun x hx => ?_) (Nat.le_refl 2)).mono (by decide) (by decide)⟩
  rcases List.mem_cons.mp hx with rfl | hx
  · exact f1
  · rcases List.mem_cons.mp hx with rfl | hx
    · exact f2
    · cases hx
theorem good_list : ∀ {ds : List D}, (∀ d ∈ ds, Good d) → ∃ ps : List PyData, ds.length = ps.length ∧ (∀ S (i : Nat) d p, ds[i]? = some d → ps[i]? = some p → Tr S d p) ∧ ∀ p ∈ ps, Fi 1 3000 p
  | [], _ => ⟨[], rfl, fun S i d p h => by simp at h, fun p hp => by cases hp⟩
  | d :: ds, h => by
    obtain ⟨p, t, f⟩ := h d List.mem_cons_self
    obtain ⟨ps, hl, ht, hf⟩ := good_list fun e he => h e (List.mem_cons_of_mem _ he)
    refine ⟨p :: ps, by simp [hl], fun S i x y hx hy => ?_, fun x hx => ?_⟩
    · cases i with
      | zero => cases hx; cases hy; exact t S
      | succ i => exact ht S i x y hx hy
    · rcases List.mem_cons.mp hx with rfl | hx
      · exact f
      · exact hf x hx
/-- one text for all lists of these -/
theorem good_repr {ds : List D} (h : ∀ d ∈ ds, Good d) (hn : ds.length ≤ 1000) : ∃ x : Str, ∀ (S : Sto) (k : Nat) (c : Cell), S[k]? = some c → c.items = ds → cRepr [.ref k] S = some (.str x, S) := by
  obtain ⟨ps, hl, ht, hf⟩ := good_list h
  refine ⟨(PyData.list ps).shown, fun S k c hk hc => ?_⟩
  subst hc
  exact repr_ok (k := 2) (L := 3002 * 1000 + 3) (.ref hk hl (ht S)) (fi_list hf (by omega)) (by decide) (by decide)
/-- lists of such lists -/
theorem good_lists : ∀ {xs : List (List D)}, (∀ x ∈ xs, x.length ≤ 100 ∧ ∀ d ∈ x, Good d) → ∃ ps : List PyData, xs.length = ps.length ∧ (∀ (S : Sto) (i k : Nat) x p, xs[i]? = some x → ps[i]? = some p → S[k]? = some (.lst x) → Tr S (.ref k) p) ∧ ∀ p ∈ ps, Fi 2 300203 p
  | [], _ => ⟨[], rfl, fun S i k x p h => by simp at h, fun p hp => by cases hp⟩
  | x :: xs, h => by
    obtain ⟨hx1, hx2⟩ := h x List.mem_cons_self
    obtain ⟨ps, hl, ht, hf⟩ := good_list hx2
    obtain ⟨qs, hl', ht', hf'⟩ := good_lists (xs := xs) fun e he => h e (List.mem_cons_of_mem _ he)
    refine ⟨.list ps :: qs, by simp [hl'], fun S i k y p hy hp hk => ?_, fun p hp => ?_⟩
    · cases i with
      | zero => cases hy; cases hp; exact .ref hk hl (ht S)
      | succ i => exact ht' S i k y p hy hp hk
    · rcases List.mem_cons.mp hp with rfl | hp
      · exact fi_list (n := 100) hf (by omega)
      · exact hf' p hp
theorem good_repr2 {xs : List (List D)} (h : ∀ x ∈ xs, x.length ≤ 100 ∧ ∀ d ∈ x, Good d) (hn : xs.length ≤ 20) : ∃ z : Str, ∀ (S : Sto) (k : Nat) (rs : List D), S[k]? = some (.lst rs) → rs.length = xs.length → (∀ (i : Nat) d x, rs[i]? = some d → xs[i]? = some x → ∃ j, d = .ref j ∧ S[j]? = some (.lst x)) → cRepr [.ref k] S = some (.str z, S) := by
  obtain ⟨ps, hl, ht, hf⟩ := good_lists h
  refine ⟨(PyData.list ps).shown, fun S k rs hk hr hx => ?_⟩
  refine repr_ok (k := 3) (L := 300205 * 20 + 3) (.ref hk (by show rs.length = _; omega) fun i d p h1 h2 => ?_) (fi_list hf (by omega)) (by decide) (by decide)
  have hi : i < xs.length := by
    have := (List.getElem?_eq_some_iff.mp h2).1
    omega
  obtain ⟨j, rfl, hj⟩ := hx i d _ h1 (List.getElem?_eq_getElem hi)
  exact ht S i j _ p (List.getElem?_eq_getElem hi) h2 hj
end Lite
namespace K15
open PySem PySem.Spec PyProof.Rows L2 Lite
def topS (i : Nat) : Stmt := PySem.Challenge.pw_stillranges_k15_ranges_moved_turned_less.main.body.getD i (.Pass ⟨0, 0, 0, 0⟩)
abbrev s__law_cell : Stmt := topS 31
abbrev N__law_cell : List Str := ["script", "index"]
abbrev P__law_cell : List Str := ["script", "index"]
theorem sc__law_cell : FnScope N__law_cell P__law_cell (defScope s__law_cell) := ⟨rfl, rfl, rfl, by decide +kernel, rfl, by decide +kernel, by decide +kernel⟩
def b__law_cell (fu : Nat) : SF := (sCons (sIf (truB (eBin (gCmpI fun i j => decide (i < j)) (eVar 1) (eCall cLen (aCons (eVar 0) aNil)))) (sCons (sRet (eBin gIx (eVar 0) (eVar 1))) sNil) sNil) (sCons (sRet (eBin (gArith fMod) (eCall cSum (aCons (eSl (eVar 0) oNone (oSome (eC (.int 1)))) aNil)) (eC (.int 1000003)))) sNil))
def c__law_cell (fu : Nat) : CF := fnF 2 2 (b__law_cell fu)
theorem bi__law_cell {K : PySem.W.Frag} {f : Addr} {fd : FuncData} (F : Fun K "_law_cell" "_law_cell" s__law_cell f fd) : Binds K fd P__law_cell [] := F.binds (ps := P__law_cell) fun _ _ _ _ _ _ us hl => match us, hl with | [_, _], _ => rfl
abbrev s__law_generator : Stmt := topS 32
abbrev N__law_generator : List Str := ["script", "index", "seed"]
abbrev P__law_generator : List Str := ["script", "index"]
theorem sc__law_generator : FnScope N__law_generator P__law_generator (defScope s__law_generator) := ⟨rfl, rfl, rfl, by decide +kernel, rfl, by decide +kernel, by decide +kernel⟩
def b__law_generator (fu : Nat) : SF := (sCons (sSet 2 (eCall (c__law_cell fu) (aCons (eVar 0) (aCons (eVar 1) aNil)))) (sCons (sRet (eCall cLst (aCons (eBin (gArith fMod) (eCall cInt (aCons (eCall cMax (aCons (eBin gSub (eVar 2) (eBin (gArith fPow) (eC (.int 10)) (eC (.int 18)))) (aCons (eC (.int 0)) aNil))) aNil)) (eBin (gArith fPow) (eBin (gArith fPow) (eC (.int 10)) (eC (.int 60))) (eC (.int 10)))) (aCons (eBin (gArith fMod) (eCall cInt (aCons (eVar 2) aNil)) (eC (.int 2147483647))) (aCons (eBin (gArith fMul) (eC (.int 1000)) (eVar 1)) aNil))))) sNil))
def c__law_generator (fu : Nat) : CF := fnF 2 3 (b__law_generator fu)
theorem bi__law_generator {K : PySem.W.Frag} {f : Addr} {fd : FuncData} (F : Fun K "_law_generator" "_law_generator" s__law_generator f fd) : Binds K fd P__law_generator [] := F.binds (ps := P__law_generator) fun _ _ _ _ _ _ us hl => match us, hl with | [_, _], _ => rfl
abbrev s__law_all : Stmt := topS 37
abbrev N__law_all : List Str := ["span"]
abbrev P__law_all : List Str := ["span"]
theorem sc__law_all : FnScope N__law_all P__law_all (defScope s__law_all) := ⟨rfl, rfl, rfl, by decide +kernel, rfl, by decide +kernel, by decide +kernel⟩
def b__law_all (fu : Nat) : SF := (sCons (sRet (eLRg (eBin gIx (eVar 0) (eC (.int 0))) (eBin gAdd (eBin gIx (eVar 0) (eC (.int 1))) (eC (.int 1))))) sNil)
def c__law_all (fu : Nat) : CF := fnF 1 1 (b__law_all fu)
theorem bi__law_all {K : PySem.W.Frag} {f : Addr} {fd : FuncData} (F : Fun K "_law_all" "_law_all" s__law_all f fd) : Binds K fd P__law_all [] := F.binds (ps := P__law_all) fun _ _ _ _ _ _ us hl => match us, hl with | [_], _ => rfl
abbrev s__law_by_pairs : Stmt := topS 38
abbrev N__law_by_pairs : List Str := ["one", "two", "number", "moved", "turned", "lesser", "greater", "item", "other", "found"]
abbrev P__law_by_pairs : List Str := ["one", "two", "number"]
theorem sc__law_by_pairs : FnScope N__law_by_pairs P__law_by_pairs (defScope s__law_by_pairs) := ⟨rfl, rfl, rfl, by decide +kernel, rfl, by decide +kernel, by decide +kernel⟩
def b__law_by_pairs (fu : Nat) : SF := (sCons (sPar [3, 4] (aCons (eComp fu [7] (iSeq (eCall (c__law_all fu) (aCons (eVar 0) aNil))) (.nm 7) tYesF (eBin gAdd (eVar 7) (eVar 2))) (aCons (eComp fu [7] (iSeq (eCall (c__law_all fu) (aCons (eVar 0) aNil))) (.nm 7) tYesF (eBin gSub (eVar 2) (eVar 7))) aNil))) (sCons (sPar [5, 6] (aCons (eCall cLst aNil) (aCons (eCall cLst aNil) aNil))) (sCons (sFor fu (.nm 7) (iSeq (eCall (c__law_all fu) (aCons (eVar 0) aNil))) (sCons (sSet 5 (eBin gAdd (eVar 5) (eComp fu [8] (iSeq (eCall (c__law_all fu) (aCons (eVar 1) aNil))) (.nm 8) tYesF (eCall cMin (aCons (eVar 7) (aCons (eVar 8) aNil)))))) (sCons (sSet 6 (eBin gAdd (eVar 6) (eComp fu [8] (iSeq (eCall (c__law_all fu) (aCons (eVar 1) aNil))) (.nm 8) tYesF (eCall cMax (aCons (eVar 7) (aCons (eVar 8) aNil)))))) sNil))) (sCons (sRet (eComp fu [9] (iSeq (eCall cLst (aCons (eVar 3) (aCons (eVar 4) (aCons (eVar 5) (aCons (eVar 6) aNil)))))) (.nm 9) tYesF (eSset (eVar 9)))) sNil))))
def c__law_by_pairs (fu : Nat) : CF := fnF 3 10 (b__law_by_pairs fu)
theorem bi__law_by_pairs {K : PySem.W.Frag} {f : Addr} {fd : FuncData} (F : Fun K "_law_by_pairs" "_law_by_pairs" s__law_by_pairs f fd) : Binds K fd P__law_by_pairs [] := F.binds (ps := P__law_by_pairs) fun _ _ _ _ _ _ us hl => match us, hl with | [_, _, _], _ => rfl
abbrev s__law_end : Stmt := topS 36
abbrev N__law_end : List Str := ["low", "high"]
abbrev P__law_end : List Str := ["low", "high"]
theorem sc__law_end : FnScope N__law_end P__law_end (defScope s__law_end) := ⟨rfl, rfl, rfl, by decide +kernel, rfl, by decide +kernel, by decide +kernel⟩
def b__law_end (fu : Nat) : SF := (sCons (sRet (eCall cTup (aCons (eIf (truB (eBin (gCmpI fun i j => decide (i < j)) (eVar 0) (eNeg (eBin (gArith fPow) (eC (.int 10)) (eC (.int 59)))))) (eC .non) (eVar 0)) (aCons (eIf (truB (eBin (gCmpI fun i j => decide (j < i)) (eVar 1) (eBin (gArith fPow) (eC (.int 10)) (eC (.int 59))))) (eC .non) (eVar 1)) aNil)))) sNil)
def c__law_end (fu : Nat) : CF := fnF 2 2 (b__law_end fu)
theorem bi__law_end {K : PySem.W.Frag} {f : Addr} {fd : FuncData} (F : Fun K "_law_end" "_law_end" s__law_end f fd) : Binds K fd P__law_end [] := F.binds (ps := P__law_end) fun _ _ _ _ _ _ us hl => match us, hl with | [_, _], _ => rfl
abbrev s__law_hash : Stmt := topS 29
abbrev N__law_hash : List Str := ["seed", "index", "mixed"]
abbrev P__law_hash : List Str := ["seed", "index"]
theorem sc__law_hash : FnScope N__law_hash P__law_hash (defScope s__law_hash) := ⟨rfl, rfl, rfl, by decide +kernel, rfl, by decide +kernel, by decide +kernel⟩
def b__law_hash (fu : Nat) : SF := (sCons (sSet 2 (eBin (gArith fMod) (eCall cInt (aCons (eBin gAdd (eBin gAdd (eBin gAdd (eBin (gArith fMul) (eVar 0) (eC (.int 1140671))) (eBin (gArith fMul) (eBin (gArith fMul) (eC (.int 27644437)) (eVar 1)) (eVar 1))) (eBin (gArith fMul) (eC (.int 131)) (eVar 1))) (eC (.int 19))) aNil)) (eC (.int 2147483629)))) (sCons (sSet 2 (eBin (gArith fMod) (eCall cInt (aCons (eBin gAdd (eBin gAdd (eBin (gArith fMul) (eVar 2) (eVar 2)) (eBin (gArith fMul) (eC (.int 62089)) (eVar 1))) (eC (.int 32416187))) aNil)) (eC (.int 2147483587)))) (sCons (sRet (eBin (gArith fMod) (eCall cInt (aCons (eBin (gArith fMul) (eVar 2) (eC (.int 48271))) aNil)) (eC (.int 2147483647)))) sNil)))
def c__law_hash (fu : Nat) : CF := fnF 2 3 (b__law_hash fu)
theorem bi__law_hash {K : PySem.W.Frag} {f : Addr} {fd : FuncData} (F : Fun K "_law_hash" "_law_hash" s__law_hash f fd) : Binds K fd P__law_hash [] := F.binds (ps := P__law_hash) fun _ _ _ _ _ _ us hl => match us, hl with | [_, _], _ => rfl
abbrev s__law_random : Stmt := topS 30
abbrev N__law_random : List Str := ["generator", "bound", "drawn", "turn"]
abbrev P__law_random : List Str := ["generator", "bound"]
theorem sc__law_random : FnScope N__law_random P__law_random (defScope s__law_random) := ⟨rfl, rfl, rfl, by decide +kernel, rfl, by decide +kernel, by decide +kernel⟩
def b__law_random (fu : Nat) : SF := (sCons (sIf (truB (eBin (gCmpI fun i j => decide (j < i)) (eBin gIx (eVar 0) (eC (.int 0))) (eC (.int 0)))) (sCons (sSet 2 (eBin (gArith fMod) (eCall cInt (aCons (eBin gIx (eVar 0) (eC (.int 0))) aNil)) (eVar 1))) (sCons (sSub (eVar 0) (eC (.int 0)) (eBin (gArith fDiv) (eBin gIx (eVar 0) (eC (.int 0))) (eVar 1))) (sCons (sRet (eVar 2)) sNil))) sNil) (sCons (sSet 2 (eC (.int 0))) (sCons (sFor fu (.nm 3) (iRange1 (aCons (eBin gAdd (eC (.int 1)) (eBin (gArith fDiv) (eBits (eVar 1)) (eC (.int 30)))) aNil)) (sCons (sSub (eVar 0) (eC (.int 2)) (eBin gAdd (eBin gIx (eVar 0) (eC (.int 2))) (eC (.int 1)))) (sCons (sSet 2 (eBin gAdd (eBin (gArith fMul) (eVar 2) (eC (.int 2147483587))) (eCall (c__law_hash fu) (aCons (eBin gIx (eVar 0) (eC (.int 1))) (aCons (eBin gIx (eVar 0) (eC (.int 2))) aNil))))) sNil))) (sCons (sRet (eBin (gArith fMod) (eCall cInt (aCons (eVar 2) aNil)) (eVar 1))) sNil))))
def c__law_random (fu : Nat) : CF := fnF 2 4 (b__law_random fu)
theorem bi__law_random {K : PySem.W.Frag} {f : Addr} {fd : FuncData} (F : Fun K "_law_random" "_law_random" s__law_random f fd) : Binds K fd P__law_random [] := F.binds (ps := P__law_random) fun _ _ _ _ _ _ us hl => match us, hl with | [_, _], _ => rfl
abbrev s__law_number : Stmt := topS 33
abbrev N__law_number : List Str := ["generator", "most"]
abbrev P__law_number : List Str := ["generator", "most"]
theorem sc__law_number : FnScope N__law_number P__law_number (defScope s__law_number) := ⟨rfl, rfl, rfl, by decide +kernel, rfl, by decide +kernel, by decide +kernel⟩
def b__law_number (fu : Nat) : SF := (sCons (sRet (eBin gSub (eCall (c__law_random fu) (aCons (eVar 0) (aCons (eBin gAdd (eBin (gArith fMul) (eC (.int 2)) (eVar 1)) (eC (.int 1))) aNil))) (eVar 1))) sNil)
def c__law_number (fu : Nat) : CF := fnF 2 2 (b__law_number fu)
theorem bi__law_number {K : PySem.W.Frag} {f : Addr} {fd : FuncData} (F : Fun K "_law_number" "_law_number" s__law_number f fd) : Binds K fd P__law_number [] := F.binds (ps := P__law_number) fun _ _ _ _ _ _ us hl => match us, hl with | [_, _], _ => rfl
abbrev s__law_pairs : Stmt := topS 35
abbrev N__law_pairs : List Str := ["row", "low", "high"]
abbrev P__law_pairs : List Str := ["row"]
theorem sc__law_pairs : FnScope N__law_pairs P__law_pairs (defScope s__law_pairs) := ⟨rfl, rfl, rfl, by decide +kernel, rfl, by decide +kernel, by decide +kernel⟩
def b__law_pairs (fu : Nat) : SF := (sCons (sRet (eComp fu [1, 2] (iSeq (eVar 0)) (.tp [1, 2]) tYesF (eCall cTup (aCons (eIf (truB (eBin (gIsN false) (eVar 1) (eC .non))) (eNeg (eBin (gArith fPow) (eC (.int 10)) (eC (.int 60)))) (eVar 1)) (aCons (eIf (truB (eBin (gIsN false) (eVar 2) (eC .non))) (eBin (gArith fPow) (eC (.int 10)) (eC (.int 60))) (eVar 2)) aNil))))) sNil)
def c__law_pairs (fu : Nat) : CF := fnF 1 3 (b__law_pairs fu)
theorem bi__law_pairs {K : PySem.W.Frag} {f : Addr} {fd : FuncData} (F : Fun K "_law_pairs" "_law_pairs" s__law_pairs f fd) : Binds K fd P__law_pairs [] := F.binds (ps := P__law_pairs) fun _ _ _ _ _ _ us hl => match us, hl with | [_], _ => rfl
abbrev s__law_range : Stmt := topS 34
abbrev N__law_range : List Str := ["generator", "most", "low", "high", "way"]
abbrev P__law_range : List Str := ["generator", "most"]
theorem sc__law_range : FnScope N__law_range P__law_range (defScope s__law_range) := ⟨rfl, rfl, rfl, by decide +kernel, rfl, by decide +kernel, by decide +kernel⟩
def b__law_range (fu : Nat) : SF := (sCons (sSet 2 (eCall (c__law_number fu) (aCons (eVar 0) (aCons (eVar 1) aNil)))) (sCons (sPar [3, 4] (aCons (eCall cMin (aCons (eBin gAdd (eVar 2) (eCall (c__law_random fu) (aCons (eVar 0) (aCons (eBin gAdd (eVar 1) (eC (.int 1))) aNil)))) (aCons (eVar 1) aNil))) (aCons (eCall (c__law_random fu) (aCons (eVar 0) (aCons (eC (.int 8)) aNil))) aNil))) (sCons (sRet (eCall cTup (aCons (eIf (truB (eBin (gIn false) (eVar 4) (eCall cLst (aCons (eC (.int 0)) (aCons (eC (.int 2)) aNil))))) (eC .non) (eVar 2)) (aCons (eIf (truB (eBin (gIn false) (eVar 4) (eCall cLst (aCons (eC (.int 1)) (aCons (eC (.int 2)) aNil))))) (eC .non) (eVar 3)) aNil)))) sNil)))
def c__law_range (fu : Nat) : CF := fnF 2 5 (b__law_range fu)
theorem bi__law_range {K : PySem.W.Frag} {f : Addr} {fd : FuncData} (F : Fun K "_law_range" "_law_range" s__law_range f fd) : Binds K fd P__law_range [] := F.binds (ps := P__law_range) fun _ _ _ _ _ _ us hl => match us, hl with | [_, _], _ => rfl
abbrev s__greater_high : Stmt := topS 16
abbrev N__greater_high : List Str := ["one", "other"]
abbrev P__greater_high : List Str := ["one", "other"]
theorem sc__greater_high : FnScope N__greater_high P__greater_high (defScope s__greater_high) := ⟨rfl, rfl, rfl, by decide +kernel, rfl, by decide +kernel, by decide +kernel⟩
def b__greater_high (fu : Nat) : SF := (sCons (sRet (eIf (tOrF (truB (eBin (gIsN false) (eVar 0) (eC .non))) (truB (eBin (gIsN false) (eVar 1) (eC .non)))) (eC .non) (eCall cMax (aCons (eVar 0) (aCons (eVar 1) aNil))))) sNil)
def c__greater_high (fu : Nat) : CF := fnF 2 2 (b__greater_high fu)
theorem bi__greater_high {K : PySem.W.Frag} {f : Addr} {fd : FuncData} (F : Fun K "_greater_high" "_greater_high" s__greater_high f fd) : Binds K fd P__greater_high [] := F.binds (ps := P__greater_high) fun _ _ _ _ _ _ us hl => match us, hl with | [_, _], _ => rfl
abbrev s__greater_low : Stmt := topS 17
abbrev N__greater_low : List Str := ["one", "other"]
abbrev P__greater_low : List Str := ["one", "other"]
theorem sc__greater_low : FnScope N__greater_low P__greater_low (defScope s__greater_low) := ⟨rfl, rfl, rfl, by decide +kernel, rfl, by decide +kernel, by decide +kernel⟩
def b__greater_low (fu : Nat) : SF := (sCons (sIf (tOrF (truB (eBin (gIsN false) (eVar 0) (eC .non))) (truB (eBin (gIsN false) (eVar 1) (eC .non)))) (sCons (sRet (eIf (truB (eBin (gIsN false) (eVar 0) (eC .non))) (eVar 1) (eVar 0))) sNil) sNil) (sCons (sRet (eCall cMax (aCons (eVar 0) (aCons (eVar 1) aNil)))) sNil))
def c__greater_low (fu : Nat) : CF := fnF 2 2 (b__greater_low fu)
theorem bi__greater_low {K : PySem.W.Frag} {f : Addr} {fd : FuncData} (F : Fun K "_greater_low" "_greater_low" s__greater_low f fd) : Binds K fd P__greater_low [] := F.binds (ps := P__greater_low) fun _ _ _ _ _ _ us hl => match us, hl with | [_, _], _ => rfl
abbrev s_greatest_of : Stmt := topS 22
abbrev N_greatest_of : List Str := ["span", "other"]
abbrev P_greatest_of : List Str := ["span", "other"]
theorem sc_greatest_of : FnScope N_greatest_of P_greatest_of (defScope s_greatest_of) := ⟨rfl, rfl, rfl, by decide +kernel, rfl, by decide +kernel, by decide +kernel⟩
def b_greatest_of (fu : Nat) : SF := (sCons (sRet (eCall cTup (aCons (eCall (c__greater_low fu) (aCons (eBin gIx (eVar 0) (eC (.int 0))) (aCons (eBin gIx (eVar 1) (eC (.int 0))) aNil))) (aCons (eCall (c__greater_high fu) (aCons (eBin gIx (eVar 0) (eC (.int 1))) (aCons (eBin gIx (eVar 1) (eC (.int 1))) aNil))) aNil)))) sNil)
def c_greatest_of (fu : Nat) : CF := fnF 2 2 (b_greatest_of fu)
theorem bi_greatest_of {K : PySem.W.Frag} {f : Addr} {fd : FuncData} (F : Fun K "greatest_of" "greatest_of" s_greatest_of f fd) : Binds K fd P_greatest_of [] := F.binds (ps := P_greatest_of) fun _ _ _ _ _ _ us hl => match us, hl with | [_, _], _ => rfl
abbrev s_a_whole : Stmt := topS 5
abbrev N_a_whole : List Str := ["value"]
abbrev P_a_whole : List Str := ["value"]
theorem sc_a_whole : FnScope N_a_whole P_a_whole (defScope s_a_whole) := ⟨rfl, rfl, rfl, by decide +kernel, rfl, by decide +kernel, by decide +kernel⟩
def b_a_whole (fu : Nat) : SF := (sCons (sRet (eAnd (eCall cIsi (aCons (eVar 0) (aCons (eC (.ty "int")) aNil))) (eNotT (eCall cIsi (aCons (eVar 0) (aCons (eC (.ty "bool")) aNil)))))) sNil)
def c_a_whole (fu : Nat) : CF := fnF 1 1 (b_a_whole fu)
theorem bi_a_whole {K : PySem.W.Frag} {f : Addr} {fd : FuncData} (F : Fun K "a_whole" "a_whole" s_a_whole f fd) : Binds K fd P_a_whole [] := F.binds (ps := P_a_whole) fun _ _ _ _ _ _ us hl => match us, hl with | [_], _ => rfl
abbrev s_an_end : Stmt := topS 6
abbrev N_an_end : List Str := ["value"]
abbrev P_an_end : List Str := ["value"]
theorem sc_an_end : FnScope N_an_end P_an_end (defScope s_an_end) := ⟨rfl, rfl, rfl, by decide +kernel, rfl, by decide +kernel, by decide +kernel⟩
def b_an_end (fu : Nat) : SF := (sCons (sRet (eOr (eBin (gIsN false) (eVar 0) (eC .non)) (eCall (c_a_whole fu) (aCons (eVar 0) aNil)))) sNil)
def c_an_end (fu : Nat) : CF := fnF 1 1 (b_an_end fu)
theorem bi_an_end {K : PySem.W.Frag} {f : Addr} {fd : FuncData} (F : Fun K "an_end" "an_end" s_an_end f fd) : Binds K fd P_an_end [] := F.binds (ps := P_an_end) fun _ _ _ _ _ _ us hl => match us, hl with | [_], _ => rfl
abbrev s_a_range : Stmt := topS 7
abbrev N_a_range : List Str := ["value", "low", "high"]
abbrev P_a_range : List Str := ["value"]
theorem sc_a_range : FnScope N_a_range P_a_range (defScope s_a_range) := ⟨rfl, rfl, rfl, by decide +kernel, rfl, by decide +kernel, by decide +kernel⟩
def b_a_range (fu : Nat) : SF := (sCons (sIf (tOrF (tNotF (truF (eCall cIsi (aCons (eVar 0) (aCons (eC (.ty "tuple")) aNil))))) (truB (eBin (gEqv true) (eCall cLen (aCons (eVar 0) aNil)) (eC (.int 2))))) (sCons (sRet (eC (.bl false))) sNil) sNil) (sCons (sAsg (.tp [1, 2]) (eVar 0)) (sCons (sIf (tOrF (tNotF (truF (eCall (c_an_end fu) (aCons (eVar 1) aNil)))) (tNotF (truF (eCall (c_an_end fu) (aCons (eVar 2) aNil))))) (sCons (sRet (eC (.bl false))) sNil) sNil) (sCons (sRet (eOr (eBin (gIsN false) (eVar 1) (eC .non)) (eOr (eBin (gIsN false) (eVar 2) (eC .non)) (eBin (gCmpI fun i j => decide (i ≤ j)) (eVar 1) (eVar 2))))) sNil))))
def c_a_range (fu : Nat) : CF := fnF 1 3 (b_a_range fu)
theorem bi_a_range {K : PySem.W.Frag} {f : Addr} {fd : FuncData} (F : Fun K "a_range" "a_range" s_a_range f fd) : Binds K fd P_a_range [] := F.binds (ps := P_a_range) fun _ _ _ _ _ _ us hl => match us, hl with | [_], _ => rfl
abbrev s_need_range : Stmt := topS 10
abbrev N_need_range : List Str := ["span"]
abbrev P_need_range : List Str := ["span"]
theorem sc_need_range : FnScope N_need_range P_need_range (defScope s_need_range) := ⟨rfl, rfl, rfl, by decide +kernel, rfl, by decide +kernel, by decide +kernel⟩
def b_need_range (fu : Nat) : SF := (sCons (sIf (tNotF (truF (eCall (c_a_range fu) (aCons (eVar 0) aNil)))) (sCons sStuck sNil) sNil) sNil)
def c_need_range (fu : Nat) : CF := fnF 1 1 (b_need_range fu)
theorem bi_need_range {K : PySem.W.Frag} {f : Addr} {fd : FuncData} (F : Fun K "need_range" "need_range" s_need_range f fd) : Binds K fd P_need_range [] := F.binds (ps := P_need_range) fun _ _ _ _ _ _ us hl => match us, hl with | [_], _ => rfl
abbrev s_need_ranges : Stmt := topS 11
abbrev N_need_ranges : List Str := ["span", "other"]
abbrev P_need_ranges : List Str := ["span", "other"]
theorem sc_need_ranges : FnScope N_need_ranges P_need_ranges (defScope s_need_ranges) := ⟨rfl, rfl, rfl, by decide +kernel, rfl, by decide +kernel, by decide +kernel⟩
def b_need_ranges (fu : Nat) : SF := (sCons (sDrop (eCall (c_need_range fu) (aCons (eVar 0) aNil))) (sCons (sDrop (eCall (c_need_range fu) (aCons (eVar 1) aNil))) sNil))
def c_need_ranges (fu : Nat) : CF := fnF 2 2 (b_need_ranges fu)
theorem bi_need_ranges {K : PySem.W.Frag} {f : Addr} {fd : FuncData} (F : Fun K "need_ranges" "need_ranges" s_need_ranges f fd) : Binds K fd P_need_ranges [] := F.binds (ps := P_need_ranges) fun _ _ _ _ _ _ us hl => match us, hl with | [_, _], _ => rfl
abbrev s_span_greatest : Stmt := topS 27
abbrev N_span_greatest : List Str := ["span", "other"]
abbrev P_span_greatest : List Str := ["span", "other"]
theorem sc_span_greatest : FnScope N_span_greatest P_span_greatest (defScope s_span_greatest) := ⟨rfl, rfl, rfl, by decide +kernel, rfl, by decide +kernel, by decide +kernel⟩
def b_span_greatest (fu : Nat) : SF := (sCons (sDrop (eCall (c_need_ranges fu) (aCons (eVar 0) (aCons (eVar 1) aNil)))) (sCons (sRet (eCall (c_greatest_of fu) (aCons (eVar 0) (aCons (eVar 1) aNil)))) sNil))
def c_span_greatest (fu : Nat) : CF := fnF 2 2 (b_span_greatest fu)
theorem bi_span_greatest {K : PySem.W.Frag} {f : Addr} {fd : FuncData} (F : Fun K "span_greatest" "span_greatest" s_span_greatest f fd) : Binds K fd P_span_greatest [] := F.binds (ps := P_span_greatest) fun _ _ _ _ _ _ us hl => match us, hl with | [_, _], _ => rfl
abbrev s__lesser_high : Stmt := topS 18
abbrev N__lesser_high : List Str := ["one", "other"]
abbrev P__lesser_high : List Str := ["one", "other"]
theorem sc__lesser_high : FnScope N__lesser_high P__lesser_high (defScope s__lesser_high) := ⟨rfl, rfl, rfl, by decide +kernel, rfl, by decide +kernel, by decide +kernel⟩
def b__lesser_high (fu : Nat) : SF := (sCons (sIf (tOrF (truB (eBin (gIsN false) (eVar 0) (eC .non))) (truB (eBin (gIsN false) (eVar 1) (eC .non)))) (sCons (sRet (eIf (truB (eBin (gIsN false) (eVar 0) (eC .non))) (eVar 1) (eVar 0))) sNil) sNil) (sCons (sRet (eCall cMin (aCons (eVar 0) (aCons (eVar 1) aNil)))) sNil))
def c__lesser_high (fu : Nat) : CF := fnF 2 2 (b__lesser_high fu)
theorem bi__lesser_high {K : PySem.W.Frag} {f : Addr} {fd : FuncData} (F : Fun K "_lesser_high" "_lesser_high" s__lesser_high f fd) : Binds K fd P__lesser_high [] := F.binds (ps := P__lesser_high) fun _ _ _ _ _ _ us hl => match us, hl with | [_, _], _ => rfl
abbrev s__lesser_low : Stmt := topS 15
abbrev N__lesser_low : List Str := ["one", "other"]
abbrev P__lesser_low : List Str := ["one", "other"]
theorem sc__lesser_low : FnScope N__lesser_low P__lesser_low (defScope s__lesser_low) := ⟨rfl, rfl, rfl, by decide +kernel, rfl, by decide +kernel, by decide +kernel⟩
def b__lesser_low (fu : Nat) : SF := (sCons (sRet (eIf (tOrF (truB (eBin (gIsN false) (eVar 0) (eC .non))) (truB (eBin (gIsN false) (eVar 1) (eC .non)))) (eC .non) (eCall cMin (aCons (eVar 0) (aCons (eVar 1) aNil))))) sNil)
def c__lesser_low (fu : Nat) : CF := fnF 2 2 (b__lesser_low fu)
theorem bi__lesser_low {K : PySem.W.Frag} {f : Addr} {fd : FuncData} (F : Fun K "_lesser_low" "_lesser_low" s__lesser_low f fd) : Binds K fd P__lesser_low [] := F.binds (ps := P__lesser_low) fun _ _ _ _ _ _ us hl => match us, hl with | [_, _], _ => rfl
abbrev s_least_of : Stmt := topS 21
abbrev N_least_of : List Str := ["span", "other"]
abbrev P_least_of : List Str := ["span", "other"]
theorem sc_least_of : FnScope N_least_of P_least_of (defScope s_least_of) := ⟨rfl, rfl, rfl, by decide +kernel, rfl, by decide +kernel, by decide +kernel⟩
def b_least_of (fu : Nat) : SF := (sCons (sRet (eCall cTup (aCons (eCall (c__lesser_low fu) (aCons (eBin gIx (eVar 0) (eC (.int 0))) (aCons (eBin gIx (eVar 1) (eC (.int 0))) aNil))) (aCons (eCall (c__lesser_high fu) (aCons (eBin gIx (eVar 0) (eC (.int 1))) (aCons (eBin gIx (eVar 1) (eC (.int 1))) aNil))) aNil)))) sNil)
def c_least_of (fu : Nat) : CF := fnF 2 2 (b_least_of fu)
theorem bi_least_of {K : PySem.W.Frag} {f : Addr} {fd : FuncData} (F : Fun K "least_of" "least_of" s_least_of f fd) : Binds K fd P_least_of [] := F.binds (ps := P_least_of) fun _ _ _ _ _ _ us hl => match us, hl with | [_, _], _ => rfl
abbrev s_span_least : Stmt := topS 26
abbrev N_span_least : List Str := ["span", "other"]
abbrev P_span_least : List Str := ["span", "other"]
theorem sc_span_least : FnScope N_span_least P_span_least (defScope s_span_least) := ⟨rfl, rfl, rfl, by decide +kernel, rfl, by decide +kernel, by decide +kernel⟩
def b_span_least (fu : Nat) : SF := (sCons (sDrop (eCall (c_need_ranges fu) (aCons (eVar 0) (aCons (eVar 1) aNil)))) (sCons (sRet (eCall (c_least_of fu) (aCons (eVar 0) (aCons (eVar 1) aNil)))) sNil))
def c_span_least (fu : Nat) : CF := fnF 2 2 (b_span_least fu)
theorem bi_span_least {K : PySem.W.Frag} {f : Addr} {fd : FuncData} (F : Fun K "span_least" "span_least" s_span_least f fd) : Binds K fd P_span_least [] := F.binds (ps := P_span_least) fun _ _ _ _ _ _ us hl => match us, hl with | [_, _], _ => rfl
abbrev s_need_number : Stmt := topS 9
abbrev N_need_number : List Str := ["number"]
abbrev P_need_number : List Str := ["number"]
theorem sc_need_number : FnScope N_need_number P_need_number (defScope s_need_number) := ⟨rfl, rfl, rfl, by decide +kernel, rfl, by decide +kernel, by decide +kernel⟩
def b_need_number (fu : Nat) : SF := (sCons (sIf (tNotF (truF (eCall (c_a_whole fu) (aCons (eVar 0) aNil)))) (sCons sStuck sNil) sNil) sNil)
def c_need_number (fu : Nat) : CF := fnF 1 1 (b_need_number fu)
theorem bi_need_number {K : PySem.W.Frag} {f : Addr} {fd : FuncData} (F : Fun K "need_number" "need_number" s_need_number f fd) : Binds K fd P_need_number [] := F.binds (ps := P_need_number) fun _ _ _ _ _ _ us hl => match us, hl with | [_], _ => rfl
abbrev s_end_plus : Stmt := topS 13
abbrev N_end_plus : List Str := ["end", "number"]
abbrev P_end_plus : List Str := ["end", "number"]
theorem sc_end_plus : FnScope N_end_plus P_end_plus (defScope s_end_plus) := ⟨rfl, rfl, rfl, by decide +kernel, rfl, by decide +kernel, by decide +kernel⟩
def b_end_plus (fu : Nat) : SF := (sCons (sRet (eIf (truB (eBin (gIsN false) (eVar 0) (eC .non))) (eC .non) (eBin gAdd (eVar 0) (eVar 1)))) sNil)
def c_end_plus (fu : Nat) : CF := fnF 2 2 (b_end_plus fu)
theorem bi_end_plus {K : PySem.W.Frag} {f : Addr} {fd : FuncData} (F : Fun K "end_plus" "end_plus" s_end_plus f fd) : Binds K fd P_end_plus [] := F.binds (ps := P_end_plus) fun _ _ _ _ _ _ us hl => match us, hl with | [_, _], _ => rfl
abbrev s_plus : Stmt := topS 19
abbrev N_plus : List Str := ["span", "number"]
abbrev P_plus : List Str := ["span", "number"]
theorem sc_plus : FnScope N_plus P_plus (defScope s_plus) := ⟨rfl, rfl, rfl, by decide +kernel, rfl, by decide +kernel, by decide +kernel⟩
def b_plus (fu : Nat) : SF := (sCons (sRet (eCall cTup (aCons (eCall (c_end_plus fu) (aCons (eBin gIx (eVar 0) (eC (.int 0))) (aCons (eVar 1) aNil))) (aCons (eCall (c_end_plus fu) (aCons (eBin gIx (eVar 0) (eC (.int 1))) (aCons (eVar 1) aNil))) aNil)))) sNil)
def c_plus (fu : Nat) : CF := fnF 2 2 (b_plus fu)
theorem bi_plus {K : PySem.W.Frag} {f : Addr} {fd : FuncData} (F : Fun K "plus" "plus" s_plus f fd) : Binds K fd P_plus [] := F.binds (ps := P_plus) fun _ _ _ _ _ _ us hl => match us, hl with | [_, _], _ => rfl
abbrev s_span_plus : Stmt := topS 24
abbrev N_span_plus : List Str := ["span", "number"]
abbrev P_span_plus : List Str := ["span", "number"]
theorem sc_span_plus : FnScope N_span_plus P_span_plus (defScope s_span_plus) := ⟨rfl, rfl, rfl, by decide +kernel, rfl, by decide +kernel, by decide +kernel⟩
def b_span_plus (fu : Nat) : SF := (sCons (sDrop (eCall (c_need_range fu) (aCons (eVar 0) aNil))) (sCons (sDrop (eCall (c_need_number fu) (aCons (eVar 1) aNil))) (sCons (sRet (eCall (c_plus fu) (aCons (eVar 0) (aCons (eVar 1) aNil)))) sNil)))
def c_span_plus (fu : Nat) : CF := fnF 2 2 (b_span_plus fu)
theorem bi_span_plus {K : PySem.W.Frag} {f : Addr} {fd : FuncData} (F : Fun K "span_plus" "span_plus" s_span_plus f fd) : Binds K fd P_span_plus [] := F.binds (ps := P_span_plus) fun _ _ _ _ _ _ us hl => match us, hl with | [_, _], _ => rfl
abbrev s__end_turned : Stmt := topS 14
abbrev N__end_turned : List Str := ["end", "number"]
abbrev P__end_turned : List Str := ["end", "number"]
theorem sc__end_turned : FnScope N__end_turned P__end_turned (defScope s__end_turned) := ⟨rfl, rfl, rfl, by decide +kernel, rfl, by decide +kernel, by decide +kernel⟩
def b__end_turned (fu : Nat) : SF := (sCons (sRet (eIf (truB (eBin (gIsN false) (eVar 0) (eC .non))) (eC .non) (eBin gSub (eVar 1) (eVar 0)))) sNil)
def c__end_turned (fu : Nat) : CF := fnF 2 2 (b__end_turned fu)
theorem bi__end_turned {K : PySem.W.Frag} {f : Addr} {fd : FuncData} (F : Fun K "_end_turned" "_end_turned" s__end_turned f fd) : Binds K fd P__end_turned [] := F.binds (ps := P__end_turned) fun _ _ _ _ _ _ us hl => match us, hl with | [_, _], _ => rfl
abbrev s_turned_about : Stmt := topS 20
abbrev N_turned_about : List Str := ["span", "number"]
abbrev P_turned_about : List Str := ["span", "number"]
theorem sc_turned_about : FnScope N_turned_about P_turned_about (defScope s_turned_about) := ⟨rfl, rfl, rfl, by decide +kernel, rfl, by decide +kernel, by decide +kernel⟩
def b_turned_about (fu : Nat) : SF := (sCons (sRet (eCall cTup (aCons (eCall (c__end_turned fu) (aCons (eBin gIx (eVar 0) (eC (.int 1))) (aCons (eVar 1) aNil))) (aCons (eCall (c__end_turned fu) (aCons (eBin gIx (eVar 0) (eC (.int 0))) (aCons (eVar 1) aNil))) aNil)))) sNil)
def c_turned_about (fu : Nat) : CF := fnF 2 2 (b_turned_about fu)
theorem bi_turned_about {K : PySem.W.Frag} {f : Addr} {fd : FuncData} (F : Fun K "turned_about" "turned_about" s_turned_about f fd) : Binds K fd P_turned_about [] := F.binds (ps := P_turned_about) fun _ _ _ _ _ _ us hl => match us, hl with | [_, _], _ => rfl
abbrev s_span_turned : Stmt := topS 25
abbrev N_span_turned : List Str := ["span", "number"]
abbrev P_span_turned : List Str := ["span", "number"]
theorem sc_span_turned : FnScope N_span_turned P_span_turned (defScope s_span_turned) := ⟨rfl, rfl, rfl, by decide +kernel, rfl, by decide +kernel, by decide +kernel⟩
def b_span_turned (fu : Nat) : SF := (sCons (sDrop (eCall (c_need_range fu) (aCons (eVar 0) aNil))) (sCons (sDrop (eCall (c_need_number fu) (aCons (eVar 1) aNil))) (sCons (sRet (eCall (c_turned_about fu) (aCons (eVar 0) (aCons (eVar 1) aNil)))) sNil)))
def c_span_turned (fu : Nat) : CF := fnF 2 2 (b_span_turned fu)
theorem bi_span_turned {K : PySem.W.Frag} {f : Addr} {fd : FuncData} (F : Fun K "span_turned" "span_turned" s_span_turned f fd) : Binds K fd P_span_turned [] := F.binds (ps := P_span_turned) fun _ _ _ _ _ _ us hl => match us, hl with | [_, _], _ => rfl
abbrev s__law_right : Stmt := topS 39
abbrev N__law_right : List Str := ["generator", "most", "one", "two", "number", "pairs", "low", "high", "down", "up", "due", "told", "again", "back", "span"]
abbrev P__law_right : List Str := ["generator"]
theorem sc__law_right : FnScope N__law_right P__law_right (defScope s__law_right) := ⟨rfl, rfl, rfl, by decide +kernel, rfl, by decide +kernel, by decide +kernel⟩
def b__law_right (fu : Nat) : SF := (sCons (sSet 1 (eBin gIx (eCall cLst (aCons (eC (.int 6)) (aCons (eC (.int 6)) (aCons (eC (.int 6)) (aCons (eBin gSub (eBin (gArith fPow) (eC (.int 10)) (eC (.int 30))) (eC (.int 1))) aNil))))) (eCall (c__law_random fu) (aCons (eVar 0) (aCons (eC (.int 4)) aNil))))) (sCons (sPar [2, 3, 4] (aCons (eCall (c__law_range fu) (aCons (eVar 0) (aCons (eVar 1) aNil))) (aCons (eCall (c__law_range fu) (aCons (eVar 0) (aCons (eVar 1) aNil))) (aCons (eCall (c__law_number fu) (aCons (eVar 0) (aCons (eVar 1) aNil))) aNil)))) (sCons (sSet 5 (eCall (c__law_pairs fu) (aCons (eCall cLst (aCons (eVar 2) (aCons (eVar 3) aNil))) aNil))) (sCons (sAsg (.tp [6, 7]) (eBin gIx (eVar 5) (eC (.int 0)))) (sCons (sAsg (.tp [8, 9]) (eBin gIx (eVar 5) (eC (.int 1)))) (sCons (sSet 10 (eCall cLst (aCons (eCall (c__law_end fu) (aCons (eBin gAdd (eVar 6) (eVar 4)) (aCons (eBin gAdd (eVar 7) (eVar 4)) aNil))) (aCons (eCall (c__law_end fu) (aCons (eBin gSub (eVar 4) (eVar 7)) (aCons (eBin gSub (eVar 4) (eVar 6)) aNil))) aNil)))) (sCons (sSet 10 (eBin gAdd (eVar 10) (eCall cLst (aCons (eCall (c__law_end fu) (aCons (eCall cMin (aCons (eVar 6) (aCons (eVar 8) aNil))) (aCons (eCall cMin (aCons (eVar 7) (aCons (eVar 9) aNil))) aNil))) (aCons (eCall (c__law_end fu) (aCons (eCall cMax (aCons (eVar 6) (aCons (eVar 8) aNil))) (aCons (eCall cMax (aCons (eVar 7) (aCons (eVar 9) aNil))) aNil))) aNil))))) (sCons (sSet 11 (eCall cLst (aCons (eCall (c_span_plus fu) (aCons (eVar 2) (aCons (eVar 4) aNil))) (aCons (eCall (c_span_turned fu) (aCons (eVar 2) (aCons (eVar 4) aNil))) (aCons (eCall (c_span_least fu) (aCons (eVar 2) (aCons (eVar 3) aNil))) (aCons (eCall (c_span_greatest fu) (aCons (eVar 2) (aCons (eVar 3) aNil))) aNil)))))) (sCons (sIf (truB (eBin (gEqv true) (eCall cRepr (aCons (eVar 11) aNil)) (eCall cRepr (aCons (eVar 10) aNil)))) (sCons (sRet (eC (.bl false))) sNil) sNil) (sCons (sIf (tAndF (truB (eBin (gEqv false) (eVar 1) (eC (.int 6)))) (tAndF (truB (eBin (gIn true) (eC .non) (eVar 2))) (truB (eBin (gIn true) (eC .non) (eVar 3))))) (sCons (sIf (truB (eBin (gEqv true) (eCall cRepr (aCons (eComp fu [14] (iSeq (eVar 11)) (.nm 14) tYesF (eCall (c__law_all fu) (aCons (eVar 14) aNil))) aNil)) (eCall cRepr (aCons (eCall (c__law_by_pairs fu) (aCons (eVar 2) (aCons (eVar 3) (aCons (eVar 4) aNil)))) aNil)))) (sCons (sRet (eC (.bl false))) sNil) sNil) sNil) sNil) (sCons (sSet 12 (eCall cLst (aCons (eCallK (c_span_plus fu) 0 2 [1, 0] aNil (aCons (eVar 4) (aCons (eVar 2) aNil))) (aCons (eCallK (c_span_turned fu) 0 2 [1, 0] aNil (aCons (eVar 4) (aCons (eVar 2) aNil))) (aCons (eCallK (c_span_least fu) 0 2 [1, 0] aNil (aCons (eVar 2) (aCons (eVar 3) aNil))) (aCons (eCallK (c_span_greatest fu) 0 2 [1, 0] aNil (aCons (eVar 2) (aCons (eVar 3) aNil))) aNil)))))) (sCons (sSet 13 (eCall cLst (aCons (eCall (c_span_plus fu) (aCons (eBin gIx (eVar 11) (eC (.int 0))) (aCons (eBin gSub (eC (.int 0)) (eVar 4)) aNil))) (aCons (eCall (c_span_turned fu) (aCons (eBin gIx (eVar 11) (eC (.int 1))) (aCons (eVar 4) aNil))) aNil)))) (sCons (sRet (eAnd (eBin (gEqv false) (eCall cRepr (aCons (eVar 12) aNil)) (eCall cRepr (aCons (eVar 10) aNil))) (eBin (gEqv false) (eCall cRepr (aCons (eVar 13) aNil)) (eCall cRepr (aCons (eCall cLst (aCons (eVar 2) (aCons (eVar 2) aNil))) aNil))))) sNil)))))))))))))
def c__law_right (fu : Nat) : CF := fnF 1 15 (b__law_right fu)
theorem bi__law_right {K : PySem.W.Frag} {f : Addr} {fd : FuncData} (F : Fun K "_law_right" "_law_right" s__law_right f fd) : Binds K fd P__law_right [] := F.binds (ps := P__law_right) fun _ _ _ _ _ _ us hl => match us, hl with | [_], _ => rfl
abbrev s_law : Stmt := topS 40
abbrev N_law : List Str := ["script", "index", "far", "told"]
abbrev P_law : List Str := ["script"]
theorem sc_law : FnScope N_law P_law (defScope s_law) := ⟨rfl, rfl, rfl, by decide +kernel, rfl, by decide +kernel, by decide +kernel⟩
def b_law (fu : Nat) : SF := (sCons (sFor fu (.nm 1) (iRange1 (aCons (eC (.int 5)) aNil)) (sCons (sIf (tNotF (truF (eCall (c__law_right fu) (aCons (eCall (c__law_generator fu) (aCons (eVar 0) (aCons (eVar 1) aNil))) aNil)))) (sCons (sRet (eC (.bl false))) sNil) sNil) sNil)) (sCons (sSet 2 (eBin gSub (eBin (gArith fPow) (eC (.int 10)) (eC (.int 30))) (eC (.int 1)))) (sCons (sSet 3 (eCall cLst (aCons (eCall (c_span_plus fu) (aCons (eCall cTup (aCons (eC (.int 0)) (aCons (eVar 2) aNil))) (aCons (eVar 2) aNil))) (aCons (eCall (c_span_turned fu) (aCons (eCall cTup (aCons (eNeg (eVar 2)) (aCons (eC .non) aNil))) (aCons (eVar 2) aNil))) aNil)))) (sCons (sSet 3 (eBin gAdd (eVar 3) (eCall cLst (aCons (eCall (c_span_plus fu) (aCons (eCall cTup (aCons (eC .non) (aCons (eC (.int 4)) aNil))) (aCons (eNeg (eC (.int 4))) aNil))) (aCons (eCall (c_span_turned fu) (aCons (eCall cTup (aCons (eC .non) (aCons (eC (.int 4)) aNil))) (aCons (eC (.int 0)) aNil))) (aCons (eCall (c_span_turned fu) (aCons (eCall cTup (aCons (eC (.int 3)) (aCons (eC (.int 9)) aNil))) (aCons (eC (.int 10)) aNil))) (aCons (eCall (c_span_least fu) (aCons (eCall cTup (aCons (eC .non) (aCons (eC (.int 4)) aNil))) (aCons (eCall cTup (aCons (eC (.int 9)) (aCons (eC .non) aNil))) aNil))) (aCons (eCall (c_span_greatest fu) (aCons (eCall cTup (aCons (eC .non) (aCons (eC (.int 4)) aNil))) (aCons (eCall cTup (aCons (eC (.int 9)) (aCons (eC .non) aNil))) aNil))) aNil)))))))) (sCons (sRet (eBin (gEqv false) (eCall cRepr (aCons (eVar 3) aNil)) (eCall cRepr (aCons (eCall cLst (aCons (eCall cTup (aCons (eVar 2) (aCons (eBin (gArith fMul) (eC (.int 2)) (eVar 2)) aNil))) (aCons (eCall cTup (aCons (eC .non) (aCons (eBin (gArith fMul) (eC (.int 2)) (eVar 2)) aNil))) (aCons (eCall cTup (aCons (eC .non) (aCons (eC (.int 0)) aNil))) (aCons (eCall cTup (aCons (eNeg (eC (.int 4))) (aCons (eC .non) aNil))) (aCons (eCall cTup (aCons (eC (.int 1)) (aCons (eC (.int 7)) aNil))) (aCons (eCall cTup (aCons (eC .non) (aCons (eC (.int 4)) aNil))) (aCons (eCall cTup (aCons (eC (.int 9)) (aCons (eC .non) aNil))) aNil)))))))) aNil)))) sNil)))))
def c_law (fu : Nat) : CF := fnF 1 4 (b_law fu)
theorem bi_law {K : PySem.W.Frag} {f : Addr} {fd : FuncData} (F : Fun K "law" "law" s_law f fd) : Binds K fd P_law [] := F.binds (ps := P_law) fun _ _ _ _ _ _ us hl => match us, hl with | [_], _ => rfl
theorem kb0 {K : PySem.W.Frag} {f : Addr} {fd : FuncData} (F : Fun K "span_plus" "span_plus" s_span_plus f fd) : KB K fd P_span_plus ["number", "span"] 0 [1, 0] := F.kbs fun _ _ _ _ _ _ us ws h1 h2 => match us, ws, h1, h2 with | [], [_, _], _, _ => rfl
theorem kb1 {K : PySem.W.Frag} {f : Addr} {fd : FuncData} (F : Fun K "span_turned" "span_turned" s_span_turned f fd) : KB K fd P_span_turned ["number", "span"] 0 [1, 0] := F.kbs fun _ _ _ _ _ _ us ws h1 h2 => match us, ws, h1, h2 with | [], [_, _], _, _ => rfl
theorem kb2 {K : PySem.W.Frag} {f : Addr} {fd : FuncData} (F : Fun K "span_least" "span_least" s_span_least f fd) : KB K fd P_span_least ["other", "span"] 0 [1, 0] := F.kbs fun _ _ _ _ _ _ us ws h1 h2 => match us, ws, h1, h2 with | [], [_, _], _, _ => rfl
theorem kb3 {K : PySem.W.Frag} {f : Addr} {fd : FuncData} (F : Fun K "span_greatest" "span_greatest" s_span_greatest f fd) : KB K fd P_span_greatest ["other", "span"] 0 [1, 0] := F.kbs fun _ _ _ _ _ _ us ws h1 h2 => match us, ws, h1, h2 with | [], [_, _], _, _ => rfl
/-- what the top has written -/
structure Facts (K : PySem.W.Frag) (mg : Str → Option Value) where
  a__law_cell : Addr
  fd__law_cell : FuncData
  F__law_cell : Fun K "_law_cell" "_law_cell" s__law_cell a__law_cell fd__law_cell
  m__law_cell : mg "_law_cell" = some (.ref a__law_cell)
  a__law_generator : Addr
  fd__law_generator : FuncData
  F__law_generator : Fun K "_law_generator" "_law_generator" s__law_generator a__law_generator fd__law_generator
  m__law_generator : mg "_law_generator" = some (.ref a__law_generator)
  a__law_all : Addr
  fd__law_all : FuncData
  F__law_all : Fun K "_law_all" "_law_all" s__law_all a__law_all fd__law_all
  m__law_all : mg "_law_all" = some (.ref a__law_all)
  a__law_by_pairs : Addr
  fd__law_by_pairs : FuncData
  F__law_by_pairs : Fun K "_law_by_pairs" "_law_by_pairs" s__law_by_pairs a__law_by_pairs fd__law_by_pairs
  m__law_by_pairs : mg "_law_by_pairs" = some (.ref a__law_by_pairs)
  a__law_end : Addr
  fd__law_end : FuncData
  F__law_end : Fun K "_law_end" "_law_end" s__law_end a__law_end fd__law_end
  m__law_end : mg "_law_end" = some (.ref a__law_end)
  a__law_hash : Addr
  fd__law_hash : FuncData
  F__law_hash : Fun K "_law_hash" "_law_hash" s__law_hash a__law_hash fd__law_hash
  m__law_hash : mg "_law_hash" = some (.ref a__law_hash)
  a__law_random : Addr
  fd__law_random : FuncData
  F__law_random : Fun K "_law_random" "_law_random" s__law_random a__law_random fd__law_random
  m__law_random : mg "_law_random" = some (.ref a__law_random)
  a__law_number : Addr
  fd__law_number : FuncData
  F__law_number : Fun K "_law_number" "_law_number" s__law_number a__law_number fd__law_number
  m__law_number : mg "_law_number" = some (.ref a__law_number)
  a__law_pairs : Addr
  fd__law_pairs : FuncData
  F__law_pairs : Fun K "_law_pairs" "_law_pairs" s__law_pairs a__law_pairs fd__law_pairs
  m__law_pairs : mg "_law_pairs" = some (.ref a__law_pairs)
  a__law_range : Addr
  fd__law_range : FuncData
  F__law_range : Fun K "_law_range" "_law_range" s__law_range a__law_range fd__law_range
  m__law_range : mg "_law_range" = some (.ref a__law_range)
  a__greater_high : Addr
  fd__greater_high : FuncData
  F__greater_high : Fun K "_greater_high" "_greater_high" s__greater_high a__greater_high fd__greater_high
  m__greater_high : mg "_greater_high" = some (.ref a__greater_high)
  a__greater_low : Addr
  fd__greater_low : FuncData
  F__greater_low : Fun K "_greater_low" "_greater_low" s__greater_low a__greater_low fd__greater_low
  m__greater_low : mg "_greater_low" = some (.ref a__greater_low)
  a_greatest_of : Addr
  fd_greatest_of : FuncData
  F_greatest_of : Fun K "greatest_of" "greatest_of" s_greatest_of a_greatest_of fd_greatest_of
  m_greatest_of : mg "greatest_of" = some (.ref a_greatest_of)
  a_a_whole : Addr
  fd_a_whole : FuncData
  F_a_whole : Fun K "a_whole" "a_whole" s_a_whole a_a_whole fd_a_whole
  m_a_whole : mg "a_whole" = some (.ref a_a_whole)
  a_an_end : Addr
  fd_an_end : FuncData
  F_an_end : Fun K "an_end" "an_end" s_an_end a_an_end fd_an_end
  m_an_end : mg "an_end" = some (.ref a_an_end)
  a_a_range : Addr
  fd_a_range : FuncData
  F_a_range : Fun K "a_range" "a_range" s_a_range a_a_range fd_a_range
  m_a_range : mg "a_range" = some (.ref a_a_range)
  a_need_range : Addr
  fd_need_range : FuncData
  F_need_range : Fun K "need_range" "need_range" s_need_range a_need_range fd_need_range
  m_need_range : mg "need_range" = some (.ref a_need_range)
  a_need_ranges : Addr
  fd_need_ranges : FuncData
  F_need_ranges : Fun K "need_ranges" "need_ranges" s_need_ranges a_need_ranges fd_need_ranges
  m_need_ranges : mg "need_ranges" = some (.ref a_need_ranges)
  a_span_greatest : Addr
  fd_span_greatest : FuncData
  F_span_greatest : Fun K "span_greatest" "span_greatest" s_span_greatest a_span_greatest fd_span_greatest
  m_span_greatest : mg "span_greatest" = some (.ref a_span_greatest)
  a__lesser_high : Addr
  fd__lesser_high : FuncData
  F__lesser_high : Fun K "_lesser_high" "_lesser_high" s__lesser_high a__lesser_high fd__lesser_high
  m__lesser_high : mg "_lesser_high" = some (.ref a__lesser_high)
  a__lesser_low : Addr
  fd__lesser_low : FuncData
  F__lesser_low : Fun K "_lesser_low" "_lesser_low" s__lesser_low a__lesser_low fd__lesser_low
  m__lesser_low : mg "_lesser_low" = some (.ref a__lesser_low)
  a_least_of : Addr
  fd_least_of : FuncData
  F_least_of : Fun K "least_of" "least_of" s_least_of a_least_of fd_least_of
  m_least_of : mg "least_of" = some (.ref a_least_of)
  a_span_least : Addr
  fd_span_least : FuncData
  F_span_least : Fun K "span_least" "span_least" s_span_least a_span_least fd_span_least
  m_span_least : mg "span_least" = some (.ref a_span_least)
  a_need_number : Addr
  fd_need_number : FuncData
  F_need_number : Fun K "need_number" "need_number" s_need_number a_need_number fd_need_number
  m_need_number : mg "need_number" = some (.ref a_need_number)
  a_end_plus : Addr
  fd_end_plus : FuncData
  F_end_plus : Fun K "end_plus" "end_plus" s_end_plus a_end_plus fd_end_plus
  m_end_plus : mg "end_plus" = some (.ref a_end_plus)
  a_plus : Addr
  fd_plus : FuncData
  F_plus : Fun K "plus" "plus" s_plus a_plus fd_plus
  m_plus : mg "plus" = some (.ref a_plus)
  a_span_plus : Addr
  fd_span_plus : FuncData
  F_span_plus : Fun K "span_plus" "span_plus" s_span_plus a_span_plus fd_span_plus
  m_span_plus : mg "span_plus" = some (.ref a_span_plus)
  a__end_turned : Addr
  fd__end_turned : FuncData
  F__end_turned : Fun K "_end_turned" "_end_turned" s__end_turned a__end_turned fd__end_turned
  m__end_turned : mg "_end_turned" = some (.ref a__end_turned)
  a_turned_about : Addr
  fd_turned_about : FuncData
  F_turned_about : Fun K "turned_about" "turned_about" s_turned_about a_turned_about fd_turned_about
  m_turned_about : mg "turned_about" = some (.ref a_turned_about)
  a_span_turned : Addr
  fd_span_turned : FuncData
  F_span_turned : Fun K "span_turned" "span_turned" s_span_turned a_span_turned fd_span_turned
  m_span_turned : mg "span_turned" = some (.ref a_span_turned)
  a__law_right : Addr
  fd__law_right : FuncData
  F__law_right : Fun K "_law_right" "_law_right" s__law_right a__law_right fd__law_right
  m__law_right : mg "_law_right" = some (.ref a__law_right)
  a_law : Addr
  fd_law : FuncData
  F_law : Fun K "law" "law" s_law a_law fd_law
  m_law : mg "law" = some (.ref a_law)
  z_bool : mg "bool" = none
  z_int : mg "int" = none
  z_isinstance : mg "isinstance" = none
  z_len : mg "len" = none
  z_list : mg "list" = none
  z_max : mg "max" = none
  z_min : mg "min" = none
  z_range : mg "range" = none
  z_repr : mg "repr" = none
  z_set : mg "set" = none
  z_sorted : mg "sorted" = none
  z_sum : mg "sum" = none
  z_tuple : mg "tuple" = none
section
variable {P : Program} {w : World} {K : PySem.W.Frag} {mg : Str → Option Value} {base : Heap} {fu : Nat}
theorem ok__law_cell (C : Facts K mg) : FnG P w K mg base 1 C.a__law_cell C.fd__law_cell P__law_cell (spOf K 2 (c__law_cell fu)) := fn_g C.F__law_cell sc__law_cell fun cdv A outer s H hr hG => by
  have nd := sc__law_cell.nd
  exact (ls_cons (ls_if (lt_cmp op_lt ok_cmpI (l_var 1) (l_callB cr_len ok_len (by rfl) C.z_len (by decide +kernel) (la_cons (l_var 0) la_nil)) (nomark _)) (ls_cons (ls_ret (l_ix (l_var 0) (l_var 1))) ls_nil) ls_nil) (ls_cons (ls_ret (l_bin op_mod ok_mod (l_callB (cr_sum rfl) ok_sum (by rfl) C.z_sum (by decide +kernel) (la_cons (l_sl (l_var 0) lo_none (lo_some l_int)) la_nil)) l_int)) ls_nil))
theorem ok__law_generator (C : Facts K mg) : FnG P w K mg base 2 C.a__law_generator C.fd__law_generator P__law_generator (spOf K 2 (c__law_generator fu)) := fn_g C.F__law_generator sc__law_generator fun cdv A outer s H hr hG => by
  have nd := sc__law_generator.nd
  exact (ls_cons (ls_set 2 nd (l_call (ok__law_cell C) ar_fn (hr.mono (by decide)) hG (by rfl) C.m__law_cell C.F__law_cell.kp (bi__law_cell C.F__law_cell) rfl (la_cons (l_var 0) (la_cons (l_var 1) la_nil)))) (ls_cons (ls_ret (l_lst (la_cons (l_bin op_mod ok_mod (l_callTy call_int1 ok_int (by rfl) C.z_int (by decide +kernel) (la_cons (l_callB (call_max2 rfl) ok_max (by rfl) C.z_max (by decide +kernel) (la_cons (l_bin op_sub ok_sub (l_var 2) (l_bin op_powW ok_pow l_int l_int)) (la_cons l_int la_nil))) la_nil)) (l_bin op_powW ok_pow (l_bin op_powW ok_pow l_int l_int) l_int)) (la_cons (l_bin op_mod ok_mod (l_callTy call_int1 ok_int (by rfl) C.z_int (by decide +kernel) (la_cons (l_var 2) la_nil)) l_int) (la_cons (l_bin op_mulW ok_mul l_int (l_var 1)) la_nil))))) ls_nil))
theorem ok__law_all (C : Facts K mg) : FnG P w K mg base 1 C.a__law_all C.fd__law_all P__law_all (spOf K 1 (c__law_all fu)) := fn_g C.F__law_all sc__law_all fun cdv A outer s H hr hG => by
  have nd := sc__law_all.nd
  exact (ls_cons (ls_ret (l_lrg rfl (by rfl) C.z_list (by rfl) C.z_range (l_ix (l_var 0) l_int) (l_bin op_addL ok_add (l_ix (l_var 0) l_int) l_int))) ls_nil)
theorem ok__law_by_pairs (C : Facts K mg) : FnG P w K mg base 2 C.a__law_by_pairs C.fd__law_by_pairs P__law_by_pairs (spOf K 3 (c__law_by_pairs fu)) := fn_g C.F__law_by_pairs sc__law_by_pairs fun cdv A outer s H hr hG => by
  have nd := sc__law_by_pairs.nd
  exact (ls_cons (ls_par 3 4 rfl nd (by decide) (la_cons (l_lc fu (own := [("item", 7)]) rfl nd (li_seq (l_call (ok__law_all C) ar_fn (hr.mono (by decide)) hG (by rfl) C.m__law_all C.F__law_all.kp (bi__law_all C.F__law_all) rfl (la_cons (l_var 0) la_nil))) (blkOk_by (by kernel_rfl)) (by decide) (fun _ _ _ _ _ => (lg_nm 7 nd)) (fun _ _ _ _ _ => lp_nil) (fun _ _ _ _ _ => (l_bin op_addL ok_add (l_var 7) (l_var 2)))) (la_cons (l_lc fu (own := [("item", 7)]) rfl nd (li_seq (l_call (ok__law_all C) ar_fn (hr.mono (by decide)) hG (by rfl) C.m__law_all C.F__law_all.kp (bi__law_all C.F__law_all) rfl (la_cons (l_var 0) la_nil))) (blkOk_by (by kernel_rfl)) (by decide) (fun _ _ _ _ _ => (lg_nm 7 nd)) (fun _ _ _ _ _ => lp_nil) (fun _ _ _ _ _ => (l_bin op_sub ok_sub (l_var 2) (l_var 7)))) la_nil))) (ls_cons (ls_par 5 6 rfl nd (by decide) (la_cons (l_lst la_nil) (la_cons (l_lst la_nil) la_nil))) (ls_cons (ls_for fu PassesOwn.never rfl (li_seq (l_call (ok__law_all C) ar_fn (hr.mono (by decide)) hG (by rfl) C.m__law_all C.F__law_all.kp (bi__law_all C.F__law_all) rfl (la_cons (l_var 0) la_nil))) (lg_nm 7 nd) (ls_cons (ls_set 5 nd (l_bin op_addL ok_add (l_var 5) (l_lc fu (own := [("other", 8)]) rfl nd (li_seq (l_call (ok__law_all C) ar_fn (hr.mono (by decide)) hG (by rfl) C.m__law_all C.F__law_all.kp (bi__law_all C.F__law_all) rfl (la_cons (l_var 1) la_nil))) (blkOk_by (by kernel_rfl)) (by decide) (fun _ _ _ _ _ => (lg_nm 8 nd)) (fun _ _ _ _ _ => lp_nil) (fun _ _ _ _ _ => (l_callB (call_min2 rfl) ok_min (by rfl) C.z_min (by decide +kernel) (la_cons (l_var 7) (la_cons (l_var 8) la_nil))))))) (ls_cons (ls_set 6 nd (l_bin op_addL ok_add (l_var 6) (l_lc fu (own := [("other", 8)]) rfl nd (li_seq (l_call (ok__law_all C) ar_fn (hr.mono (by decide)) hG (by rfl) C.m__law_all C.F__law_all.kp (bi__law_all C.F__law_all) rfl (la_cons (l_var 1) la_nil))) (blkOk_by (by kernel_rfl)) (by decide) (fun _ _ _ _ _ => (lg_nm 8 nd)) (fun _ _ _ _ _ => lp_nil) (fun _ _ _ _ _ => (l_callB (call_max2 rfl) ok_max (by rfl) C.z_max (by decide +kernel) (la_cons (l_var 7) (la_cons (l_var 8) la_nil))))))) ls_nil))) (ls_cons (ls_ret (l_lc fu (own := [("found", 9)]) rfl nd (li_seq (l_lst (la_cons (l_var 3) (la_cons (l_var 4) (la_cons (l_var 5) (la_cons (l_var 6) la_nil)))))) (blkOk_by (by kernel_rfl)) (by decide) (fun _ _ _ _ _ => (lg_nm 9 nd)) (fun _ _ _ _ _ => lp_nil) (fun _ _ _ _ _ => (l_sset rfl (by rfl) C.z_sorted (by rfl) C.z_set (l_var 9))))) ls_nil))))
theorem ok__law_end (C : Facts K mg) : FnG P w K mg base 1 C.a__law_end C.fd__law_end P__law_end (spOf K 2 (c__law_end fu)) := fn_g C.F__law_end sc__law_end fun cdv A outer s H hr hG => by
  have nd := sc__law_end.nd
  exact (ls_cons (ls_ret (l_tup (la_cons (l_if (lt_cmp op_lt ok_cmpI (l_var 0) (l_neg (l_bin op_powW ok_pow l_int l_int)) (nomark _)) l_non (l_var 0)) (la_cons (l_if (lt_cmp op_gt ok_cmpI (l_var 1) (l_bin op_powW ok_pow l_int l_int) (nomark _)) l_non (l_var 1)) la_nil)))) ls_nil)
theorem ok__law_hash (C : Facts K mg) : FnG P w K mg base 1 C.a__law_hash C.fd__law_hash P__law_hash (spOf K 2 (c__law_hash fu)) := fn_g C.F__law_hash sc__law_hash fun cdv A outer s H hr hG => by
  have nd := sc__law_hash.nd
  exact (ls_cons (ls_set 2 nd (l_bin op_mod ok_mod (l_callTy call_int1 ok_int (by rfl) C.z_int (by decide +kernel) (la_cons (l_bin op_addL ok_add (l_bin op_addL ok_add (l_bin op_addL ok_add (l_bin op_mulW ok_mul (l_var 0) l_int) (l_bin op_mulW ok_mul (l_bin op_mulW ok_mul l_int (l_var 1)) (l_var 1))) (l_bin op_mulW ok_mul l_int (l_var 1))) l_int) la_nil)) l_int)) (ls_cons (ls_set 2 nd (l_bin op_mod ok_mod (l_callTy call_int1 ok_int (by rfl) C.z_int (by decide +kernel) (la_cons (l_bin op_addL ok_add (l_bin op_addL ok_add (l_bin op_mulW ok_mul (l_var 2) (l_var 2)) (l_bin op_mulW ok_mul l_int (l_var 1))) l_int) la_nil)) l_int)) (ls_cons (ls_ret (l_bin op_mod ok_mod (l_callTy call_int1 ok_int (by rfl) C.z_int (by decide +kernel) (la_cons (l_bin op_mulW ok_mul (l_var 2) l_int) la_nil)) l_int)) ls_nil)))
theorem ok__law_random (C : Facts K mg) : FnG P w K mg base 2 C.a__law_random C.fd__law_random P__law_random (spOf K 2 (c__law_random fu)) := fn_g C.F__law_random sc__law_random fun cdv A outer s H hr hG => by
  have nd := sc__law_random.nd
  exact (ls_cons (ls_if (lt_cmp op_gt ok_cmpI (l_ix (l_var 0) l_int) l_int (nomark _)) (ls_cons (ls_set 2 nd (l_bin op_mod ok_mod (l_callTy call_int1 ok_int (by rfl) C.z_int (by decide +kernel) (la_cons (l_ix (l_var 0) l_int) la_nil)) (l_var 1))) (ls_cons (ls_sub (l_bin op_fdivW ok_div (l_ix (l_var 0) l_int) (l_var 1)) (l_var 0) l_int (fun h1 h2 h3 => pg_sub h1 h2 h3)) (ls_cons (ls_ret (l_var 2)) ls_nil))) ls_nil) (ls_cons (ls_set 2 nd l_int) (ls_cons (ls_for fu PassesOwn.never rfl (li_range1 (by rfl) C.z_range (la_cons (l_bin op_addL ok_add l_int (l_bin op_fdivW ok_div (l_bits (l_var 1)) l_int)) la_nil)) (lg_nm 3 nd) (ls_cons (ls_sub (l_bin op_addL ok_add (l_ix (l_var 0) l_int) l_int) (l_var 0) l_int (fun h1 h2 h3 => pg_sub h1 h2 h3)) (ls_cons (ls_set 2 nd (l_bin op_addL ok_add (l_bin op_mulW ok_mul (l_var 2) l_int) (l_call (ok__law_hash C) ar_fn (hr.mono (by decide)) hG (by rfl) C.m__law_hash C.F__law_hash.kp (bi__law_hash C.F__law_hash) rfl (la_cons (l_ix (l_var 0) l_int) (la_cons (l_ix (l_var 0) l_int) la_nil))))) ls_nil))) (ls_cons (ls_ret (l_bin op_mod ok_mod (l_callTy call_int1 ok_int (by rfl) C.z_int (by decide +kernel) (la_cons (l_var 2) la_nil)) (l_var 1))) ls_nil))))
theorem ok__law_number (C : Facts K mg) : FnG P w K mg base 3 C.a__law_number C.fd__law_number P__law_number (spOf K 2 (c__law_number fu)) := fn_g C.F__law_number sc__law_number fun cdv A outer s H hr hG => by
  have nd := sc__law_number.nd
  exact (ls_cons (ls_ret (l_bin op_sub ok_sub (l_call (ok__law_random C) ar_fn (hr.mono (by decide)) hG (by rfl) C.m__law_random C.F__law_random.kp (bi__law_random C.F__law_random) rfl (la_cons (l_var 0) (la_cons (l_bin op_addL ok_add (l_bin op_mulW ok_mul l_int (l_var 1)) l_int) la_nil))) (l_var 1))) ls_nil)
theorem ok__law_pairs (C : Facts K mg) : FnG P w K mg base 1 C.a__law_pairs C.fd__law_pairs P__law_pairs (spOf K 1 (c__law_pairs fu)) := fn_g C.F__law_pairs sc__law_pairs fun cdv A outer s H hr hG => by
  have nd := sc__law_pairs.nd
  exact (ls_cons (ls_ret (l_lc fu (own := [("low", 1), ("high", 2)]) rfl nd (li_seq (l_var 0)) (blkOk_by (by kernel_rfl)) (by decide) (fun _ _ _ _ _ => (lg_tp rfl (lgs_cons (lg_nm 1 nd) (lgs_cons (lg_nm 2 nd) lgs_nil)))) (fun _ _ _ _ _ => lp_nil) (fun _ _ _ _ _ => (l_tup (la_cons (l_if (lt_cmp op_isN ok_isN (l_var 1) l_non (nomark _)) (l_neg (l_bin op_powW ok_pow l_int l_int)) (l_var 1)) (la_cons (l_if (lt_cmp op_isN ok_isN (l_var 2) l_non (nomark _)) (l_bin op_powW ok_pow l_int l_int) (l_var 2)) la_nil)))))) ls_nil)
theorem ok__law_range (C : Facts K mg) : FnG P w K mg base 4 C.a__law_range C.fd__law_range P__law_range (spOf K 2 (c__law_range fu)) := fn_g C.F__law_range sc__law_range fun cdv A outer s H hr hG => by
  have nd := sc__law_range.nd
  exact (ls_cons (ls_set 2 nd (l_call (ok__law_number C) ar_fn (hr.mono (by decide)) hG (by rfl) C.m__law_number C.F__law_number.kp (bi__law_number C.F__law_number) rfl (la_cons (l_var 0) (la_cons (l_var 1) la_nil)))) (ls_cons (ls_par 3 4 rfl nd (by decide) (la_cons (l_callB (call_min2 rfl) ok_min (by rfl) C.z_min (by decide +kernel) (la_cons (l_bin op_addL ok_add (l_var 2) (l_call (ok__law_random C) ar_fn (hr.mono (by decide)) hG (by rfl) C.m__law_random C.F__law_random.kp (bi__law_random C.F__law_random) rfl (la_cons (l_var 0) (la_cons (l_bin op_addL ok_add (l_var 1) l_int) la_nil)))) (la_cons (l_var 1) la_nil))) (la_cons (l_call (ok__law_random C) ar_fn (hr.mono (by decide)) hG (by rfl) C.m__law_random C.F__law_random.kp (bi__law_random C.F__law_random) rfl (la_cons (l_var 0) (la_cons l_int la_nil))) la_nil))) (ls_cons (ls_ret (l_tup (la_cons (l_if (lt_cmp op_in_seq (ok_in false) (l_var 4) (l_lst (la_cons l_int (la_cons l_int la_nil))) (by with_unfolding_all rfl)) l_non (l_var 2)) (la_cons (l_if (lt_cmp op_in_seq (ok_in false) (l_var 4) (l_lst (la_cons l_int (la_cons l_int la_nil))) (by with_unfolding_all rfl)) l_non (l_var 3)) la_nil)))) ls_nil)))
theorem ok__greater_high (C : Facts K mg) : FnG P w K mg base 1 C.a__greater_high C.fd__greater_high P__greater_high (spOf K 2 (c__greater_high fu)) := fn_g C.F__greater_high sc__greater_high fun cdv A outer s H hr hG => by
  have nd := sc__greater_high.nd
  exact (ls_cons (ls_ret (l_if (PW.pt (lw_or (lt_cmp op_isN ok_isN (l_var 0) l_non (nomark _)) (lw_or1 (lt_cmp op_isN ok_isN (l_var 1) l_non (nomark _))))) l_non (l_callB (call_max2 rfl) ok_max (by rfl) C.z_max (by decide +kernel) (la_cons (l_var 0) (la_cons (l_var 1) la_nil))))) ls_nil)
theorem ok__greater_low (C : Facts K mg) : FnG P w K mg base 1 C.a__greater_low C.fd__greater_low P__greater_low (spOf K 2 (c__greater_low fu)) := fn_g C.F__greater_low sc__greater_low fun cdv A outer s H hr hG => by
  have nd := sc__greater_low.nd
  exact (ls_cons (ls_if (PW.pt (lw_or (lt_cmp op_isN ok_isN (l_var 0) l_non (nomark _)) (lw_or1 (lt_cmp op_isN ok_isN (l_var 1) l_non (nomark _))))) (ls_cons (ls_ret (l_if (lt_cmp op_isN ok_isN (l_var 0) l_non (nomark _)) (l_var 1) (l_var 0))) ls_nil) ls_nil) (ls_cons (ls_ret (l_callB (call_max2 rfl) ok_max (by rfl) C.z_max (by decide +kernel) (la_cons (l_var 0) (la_cons (l_var 1) la_nil)))) ls_nil))
theorem ok_greatest_of (C : Facts K mg) : FnG P w K mg base 2 C.a_greatest_of C.fd_greatest_of P_greatest_of (spOf K 2 (c_greatest_of fu)) := fn_g C.F_greatest_of sc_greatest_of fun cdv A outer s H hr hG => by
  have nd := sc_greatest_of.nd
  exact (ls_cons (ls_ret (l_tup (la_cons (l_call (ok__greater_low C) ar_fn (hr.mono (by decide)) hG (by rfl) C.m__greater_low C.F__greater_low.kp (bi__greater_low C.F__greater_low) rfl (la_cons (l_ix (l_var 0) l_int) (la_cons (l_ix (l_var 1) l_int) la_nil))) (la_cons (l_call (ok__greater_high C) ar_fn (hr.mono (by decide)) hG (by rfl) C.m__greater_high C.F__greater_high.kp (bi__greater_high C.F__greater_high) rfl (la_cons (l_ix (l_var 0) l_int) (la_cons (l_ix (l_var 1) l_int) la_nil))) la_nil)))) ls_nil)
theorem ok_a_whole (C : Facts K mg) : FnG P w K mg base 1 C.a_a_whole C.fd_a_whole P_a_whole (spOf K 1 (c_a_whole fu)) := fn_g C.F_a_whole sc_a_whole fun cdv A outer s H hr hG => by
  have nd := sc_a_whole.nd
  exact (ls_cons (ls_ret (l_and (l_callB call_isi ok_isi (by rfl) C.z_isinstance (by decide +kernel) (la_cons (l_var 0) (la_cons (l_ty (by rfl) C.z_int (by decide +kernel)) la_nil))) (l_one (l_notT (l_callB call_isi ok_isi (by rfl) C.z_isinstance (by decide +kernel) (la_cons (l_var 0) (la_cons (l_ty (by rfl) C.z_bool (by decide +kernel)) la_nil))))))) ls_nil)
theorem ok_an_end (C : Facts K mg) : FnG P w K mg base 2 C.a_an_end C.fd_an_end P_an_end (spOf K 1 (c_an_end fu)) := fn_g C.F_an_end sc_an_end fun cdv A outer s H hr hG => by
  have nd := sc_an_end.nd
  exact (ls_cons (ls_ret (l_or (l_cmp op_isN ok_isN (l_var 0) l_non (nomark _)) (l_one (l_call (ok_a_whole C) ar_fn (hr.mono (by decide)) hG (by rfl) C.m_a_whole C.F_a_whole.kp (bi_a_whole C.F_a_whole) rfl (la_cons (l_var 0) la_nil))))) ls_nil)
theorem ok_a_range (C : Facts K mg) : FnG P w K mg base 3 C.a_a_range C.fd_a_range P_a_range (spOf K 1 (c_a_range fu)) := fn_g C.F_a_range sc_a_range fun cdv A outer s H hr hG => by
  have nd := sc_a_range.nd
  exact (ls_cons (ls_if (PW.pt (lw_or (lt_not (lt_tru (l_callB call_isi ok_isi (by rfl) C.z_isinstance (by decide +kernel) (la_cons (l_var 0) (la_cons (l_ty (by rfl) C.z_tuple (by decide +kernel)) la_nil))))) (lw_or1 (lt_cmp (op_neA hr.units) ok_nev (l_callB cr_len ok_len (by rfl) C.z_len (by decide +kernel) (la_cons (l_var 0) la_nil)) l_int (nomark _))))) (ls_cons (ls_ret l_bl) ls_nil) ls_nil) (ls_cons (ls_asg (l_var 0) (lg_tp rfl (lgs_cons (lg_nm 1 nd) (lgs_cons (lg_nm 2 nd) lgs_nil)))) (ls_cons (ls_if (PW.pt (lw_or (lt_not (lt_tru (l_call (ok_an_end C) ar_fn (hr.mono (by decide)) hG (by rfl) C.m_an_end C.F_an_end.kp (bi_an_end C.F_an_end) rfl (la_cons (l_var 1) la_nil)))) (lw_or1 (lt_not (lt_tru (l_call (ok_an_end C) ar_fn (hr.mono (by decide)) hG (by rfl) C.m_an_end C.F_an_end.kp (bi_an_end C.F_an_end) rfl (la_cons (l_var 2) la_nil))))))) (ls_cons (ls_ret l_bl) ls_nil) ls_nil) (ls_cons (ls_ret (l_or (l_cmp op_isN ok_isN (l_var 1) l_non (nomark _)) (l_or (l_cmp op_isN ok_isN (l_var 2) l_non (nomark _)) (l_one (l_cmp op_le ok_cmpI (l_var 1) (l_var 2) (nomark _)))))) ls_nil))))
theorem ok_need_range (C : Facts K mg) : FnG P w K mg base 4 C.a_need_range C.fd_need_range P_need_range (spOf K 1 (c_need_range fu)) := fn_g C.F_need_range sc_need_range fun cdv A outer s H hr hG => by
  have nd := sc_need_range.nd
  exact (ls_cons (ls_if (lt_not (lt_tru (l_call (ok_a_range C) ar_fn (hr.mono (by decide)) hG (by rfl) C.m_a_range C.F_a_range.kp (bi_a_range C.F_a_range) rfl (la_cons (l_var 0) la_nil)))) (ls_cons ls_stuck ls_nil) ls_nil) ls_nil)
theorem ok_need_ranges (C : Facts K mg) : FnG P w K mg base 5 C.a_need_ranges C.fd_need_ranges P_need_ranges (spOf K 2 (c_need_ranges fu)) := fn_g C.F_need_ranges sc_need_ranges fun cdv A outer s H hr hG => by
  have nd := sc_need_ranges.nd
  exact (ls_cons (ls_expr (l_call (ok_need_range C) ar_fn (hr.mono (by decide)) hG (by rfl) C.m_need_range C.F_need_range.kp (bi_need_range C.F_need_range) rfl (la_cons (l_var 0) la_nil))) (ls_cons (ls_expr (l_call (ok_need_range C) ar_fn (hr.mono (by decide)) hG (by rfl) C.m_need_range C.F_need_range.kp (bi_need_range C.F_need_range) rfl (la_cons (l_var 1) la_nil))) ls_nil))
theorem ok_span_greatest (C : Facts K mg) : FnG P w K mg base 6 C.a_span_greatest C.fd_span_greatest P_span_greatest (spOf K 2 (c_span_greatest fu)) := fn_g C.F_span_greatest sc_span_greatest fun cdv A outer s H hr hG => by
  have nd := sc_span_greatest.nd
  exact (ls_cons (ls_expr (l_call (ok_need_ranges C) ar_fn (hr.mono (by decide)) hG (by rfl) C.m_need_ranges C.F_need_ranges.kp (bi_need_ranges C.F_need_ranges) rfl (la_cons (l_var 0) (la_cons (l_var 1) la_nil)))) (ls_cons (ls_ret (l_call (ok_greatest_of C) ar_fn (hr.mono (by decide)) hG (by rfl) C.m_greatest_of C.F_greatest_of.kp (bi_greatest_of C.F_greatest_of) rfl (la_cons (l_var 0) (la_cons (l_var 1) la_nil)))) ls_nil))
theorem ok__lesser_high (C : Facts K mg) : FnG P w K mg base 1 C.a__lesser_high C.fd__lesser_high P__lesser_high (spOf K 2 (c__lesser_high fu)) := fn_g C.F__lesser_high sc__lesser_high fun cdv A outer s H hr hG => by
  have nd := sc__lesser_high.nd
  exact (ls_cons (ls_if (PW.pt (lw_or (lt_cmp op_isN ok_isN (l_var 0) l_non (nomark _)) (lw_or1 (lt_cmp op_isN ok_isN (l_var 1) l_non (nomark _))))) (ls_cons (ls_ret (l_if (lt_cmp op_isN ok_isN (l_var 0) l_non (nomark _)) (l_var 1) (l_var 0))) ls_nil) ls_nil) (ls_cons (ls_ret (l_callB (call_min2 rfl) ok_min (by rfl) C.z_min (by decide +kernel) (la_cons (l_var 0) (la_cons (l_var 1) la_nil)))) ls_nil))
theorem ok__lesser_low (C : Facts K mg) : FnG P w K mg base 1 C.a__lesser_low C.fd__lesser_low P__lesser_low (spOf K 2 (c__lesser_low fu)) := fn_g C.F__lesser_low sc__lesser_low fun cdv A outer s H hr hG => by
  have nd := sc__lesser_low.nd
  exact (ls_cons (ls_ret (l_if (PW.pt (lw_or (lt_cmp op_isN ok_isN (l_var 0) l_non (nomark _)) (lw_or1 (lt_cmp op_isN ok_isN (l_var 1) l_non (nomark _))))) l_non (l_callB (call_min2 rfl) ok_min (by rfl) C.z_min (by decide +kernel) (la_cons (l_var 0) (la_cons (l_var 1) la_nil))))) ls_nil)
theorem ok_least_of (C : Facts K mg) : FnG P w K mg base 2 C.a_least_of C.fd_least_of P_least_of (spOf K 2 (c_least_of fu)) := fn_g C.F_least_of sc_least_of fun cdv A outer s H hr hG => by
  have nd := sc_least_of.nd
  exact (ls_cons (ls_ret (l_tup (la_cons (l_call (ok__lesser_low C) ar_fn (hr.mono (by decide)) hG (by rfl) C.m__lesser_low C.F__lesser_low.kp (bi__lesser_low C.F__lesser_low) rfl (la_cons (l_ix (l_var 0) l_int) (la_cons (l_ix (l_var 1) l_int) la_nil))) (la_cons (l_call (ok__lesser_high C) ar_fn (hr.mono (by decide)) hG (by rfl) C.m__lesser_high C.F__lesser_high.kp (bi__lesser_high C.F__lesser_high) rfl (la_cons (l_ix (l_var 0) l_int) (la_cons (l_ix (l_var 1) l_int) la_nil))) la_nil)))) ls_nil)
theorem ok_span_least (C : Facts K mg) : FnG P w K mg base 6 C.a_span_least C.fd_span_least P_span_least (spOf K 2 (c_span_least fu)) := fn_g C.F_span_least sc_span_least fun cdv A outer s H hr hG => by
  have nd := sc_span_least.nd
  exact (ls_cons (ls_expr (l_call (ok_need_ranges C) ar_fn (hr.mono (by decide)) hG (by rfl) C.m_need_ranges C.F_need_ranges.kp (bi_need_ranges C.F_need_ranges) rfl (la_cons (l_var 0) (la_cons (l_var 1) la_nil)))) (ls_cons (ls_ret (l_call (ok_least_of C) ar_fn (hr.mono (by decide)) hG (by rfl) C.m_least_of C.F_least_of.kp (bi_least_of C.F_least_of) rfl (la_cons (l_var 0) (la_cons (l_var 1) la_nil)))) ls_nil))
theorem ok_need_number (C : Facts K mg) : FnG P w K mg base 2 C.a_need_number C.fd_need_number P_need_number (spOf K 1 (c_need_number fu)) := fn_g C.F_need_number sc_need_number fun cdv A outer s H hr hG => by
  have nd := sc_need_number.nd
  exact (ls_cons (ls_if (lt_not (lt_tru (l_call (ok_a_whole C) ar_fn (hr.mono (by decide)) hG (by rfl) C.m_a_whole C.F_a_whole.kp (bi_a_whole C.F_a_whole) rfl (la_cons (l_var 0) la_nil)))) (ls_cons ls_stuck ls_nil) ls_nil) ls_nil)
theorem ok_end_plus (C : Facts K mg) : FnG P w K mg base 1 C.a_end_plus C.fd_end_plus P_end_plus (spOf K 2 (c_end_plus fu)) := fn_g C.F_end_plus sc_end_plus fun cdv A outer s H hr hG => by
  have nd := sc_end_plus.nd
  exact (ls_cons (ls_ret (l_if (lt_cmp op_isN ok_isN (l_var 0) l_non (nomark _)) l_non (l_bin op_addL ok_add (l_var 0) (l_var 1)))) ls_nil)
theorem ok_plus (C : Facts K mg) : FnG P w K mg base 2 C.a_plus C.fd_plus P_plus (spOf K 2 (c_plus fu)) := fn_g C.F_plus sc_plus fun cdv A outer s H hr hG => by
  have nd := sc_plus.nd
  exact (ls_cons (ls_ret (l_tup (la_cons (l_call (ok_end_plus C) ar_fn (hr.mono (by decide)) hG (by rfl) C.m_end_plus C.F_end_plus.kp (bi_end_plus C.F_end_plus) rfl (la_cons (l_ix (l_var 0) l_int) (la_cons (l_var 1) la_nil))) (la_cons (l_call (ok_end_plus C) ar_fn (hr.mono (by decide)) hG (by rfl) C.m_end_plus C.F_end_plus.kp (bi_end_plus C.F_end_plus) rfl (la_cons (l_ix (l_var 0) l_int) (la_cons (l_var 1) la_nil))) la_nil)))) ls_nil)
theorem ok_span_plus (C : Facts K mg) : FnG P w K mg base 5 C.a_span_plus C.fd_span_plus P_span_plus (spOf K 2 (c_span_plus fu)) := fn_g C.F_span_plus sc_span_plus fun cdv A outer s H hr hG => by
  have nd := sc_span_plus.nd
  exact (ls_cons (ls_expr (l_call (ok_need_range C) ar_fn (hr.mono (by decide)) hG (by rfl) C.m_need_range C.F_need_range.kp (bi_need_range C.F_need_range) rfl (la_cons (l_var 0) la_nil))) (ls_cons (ls_expr (l_call (ok_need_number C) ar_fn (hr.mono (by decide)) hG (by rfl) C.m_need_number C.F_need_number.kp (bi_need_number C.F_need_number) rfl (la_cons (l_var 1) la_nil))) (ls_cons (ls_ret (l_call (ok_plus C) ar_fn (hr.mono (by decide)) hG (by rfl) C.m_plus C.F_plus.kp (bi_plus C.F_plus) rfl (la_cons (l_var 0) (la_cons (l_var 1) la_nil)))) ls_nil)))
theorem ok__end_turned (C : Facts K mg) : FnG P w K mg base 1 C.a__end_turned C.fd__end_turned P__end_turned (spOf K 2 (c__end_turned fu)) := fn_g C.F__end_turned sc__end_turned fun cdv A outer s H hr hG => by
  have nd := sc__end_turned.nd
  exact (ls_cons (ls_ret (l_if (lt_cmp op_isN ok_isN (l_var 0) l_non (nomark _)) l_non (l_bin op_sub ok_sub (l_var 1) (l_var 0)))) ls_nil)
theorem ok_turned_about (C : Facts K mg) : FnG P w K mg base 2 C.a_turned_about C.fd_turned_about P_turned_about (spOf K 2 (c_turned_about fu)) := fn_g C.F_turned_about sc_turned_about fun cdv A outer s H hr hG => by
  have nd := sc_turned_about.nd
  exact (ls_cons (ls_ret (l_tup (la_cons (l_call (ok__end_turned C) ar_fn (hr.mono (by decide)) hG (by rfl) C.m__end_turned C.F__end_turned.kp (bi__end_turned C.F__end_turned) rfl (la_cons (l_ix (l_var 0) l_int) (la_cons (l_var 1) la_nil))) (la_cons (l_call (ok__end_turned C) ar_fn (hr.mono (by decide)) hG (by rfl) C.m__end_turned C.F__end_turned.kp (bi__end_turned C.F__end_turned) rfl (la_cons (l_ix (l_var 0) l_int) (la_cons (l_var 1) la_nil))) la_nil)))) ls_nil)
theorem ok_span_turned (C : Facts K mg) : FnG P w K mg base 5 C.a_span_turned C.fd_span_turned P_span_turned (spOf K 2 (c_span_turned fu)) := fn_g C.F_span_turned sc_span_turned fun cdv A outer s H hr hG => by
  have nd := sc_span_turned.nd
  exact (ls_cons (ls_expr (l_call (ok_need_range C) ar_fn (hr.mono (by decide)) hG (by rfl) C.m_need_range C.F_need_range.kp (bi_need_range C.F_need_range) rfl (la_cons (l_var 0) la_nil))) (ls_cons (ls_expr (l_call (ok_need_number C) ar_fn (hr.mono (by decide)) hG (by rfl) C.m_need_number C.F_need_number.kp (bi_need_number C.F_need_number) rfl (la_cons (l_var 1) la_nil))) (ls_cons (ls_ret (l_call (ok_turned_about C) ar_fn (hr.mono (by decide)) hG (by rfl) C.m_turned_about C.F_turned_about.kp (bi_turned_about C.F_turned_about) rfl (la_cons (l_var 0) (la_cons (l_var 1) la_nil)))) ls_nil)))
theorem ok__law_right (C : Facts K mg) : FnG P w K mg base 7 C.a__law_right C.fd__law_right P__law_right (spOf K 1 (c__law_right fu)) := fn_g C.F__law_right sc__law_right fun cdv A outer s H hr hG => by
  have nd := sc__law_right.nd
  exact (ls_cons (ls_set 1 nd (l_ix (l_lst (la_cons l_int (la_cons l_int (la_cons l_int (la_cons (l_bin op_sub ok_sub (l_bin op_powW ok_pow l_int l_int) l_int) la_nil))))) (l_call (ok__law_random C) ar_fn (hr.mono (by decide)) hG (by rfl) C.m__law_random C.F__law_random.kp (bi__law_random C.F__law_random) rfl (la_cons (l_var 0) (la_cons l_int la_nil))))) (ls_cons (ls_par3 2 3 4 rfl nd (by decide) (by decide) (by decide) (la_cons (l_call (ok__law_range C) ar_fn (hr.mono (by decide)) hG (by rfl) C.m__law_range C.F__law_range.kp (bi__law_range C.F__law_range) rfl (la_cons (l_var 0) (la_cons (l_var 1) la_nil))) (la_cons (l_call (ok__law_range C) ar_fn (hr.mono (by decide)) hG (by rfl) C.m__law_range C.F__law_range.kp (bi__law_range C.F__law_range) rfl (la_cons (l_var 0) (la_cons (l_var 1) la_nil))) (la_cons (l_call (ok__law_number C) ar_fn (hr.mono (by decide)) hG (by rfl) C.m__law_number C.F__law_number.kp (bi__law_number C.F__law_number) rfl (la_cons (l_var 0) (la_cons (l_var 1) la_nil))) la_nil)))) (ls_cons (ls_set 5 nd (l_call (ok__law_pairs C) ar_fn (hr.mono (by decide)) hG (by rfl) C.m__law_pairs C.F__law_pairs.kp (bi__law_pairs C.F__law_pairs) rfl (la_cons (l_lst (la_cons (l_var 2) (la_cons (l_var 3) la_nil))) la_nil))) (ls_cons (ls_asg (l_ix (l_var 5) l_int) (lg_tp rfl (lgs_cons (lg_nm 6 nd) (lgs_cons (lg_nm 7 nd) lgs_nil)))) (ls_cons (ls_asg (l_ix (l_var 5) l_int) (lg_tp rfl (lgs_cons (lg_nm 8 nd) (lgs_cons (lg_nm 9 nd) lgs_nil)))) (ls_cons (ls_set 10 nd (l_lst (la_cons (l_call (ok__law_end C) ar_fn (hr.mono (by decide)) hG (by rfl) C.m__law_end C.F__law_end.kp (bi__law_end C.F__law_end) rfl (la_cons (l_bin op_addL ok_add (l_var 6) (l_var 4)) (la_cons (l_bin op_addL ok_add (l_var 7) (l_var 4)) la_nil))) (la_cons (l_call (ok__law_end C) ar_fn (hr.mono (by decide)) hG (by rfl) C.m__law_end C.F__law_end.kp (bi__law_end C.F__law_end) rfl (la_cons (l_bin op_sub ok_sub (l_var 4) (l_var 7)) (la_cons (l_bin op_sub ok_sub (l_var 4) (l_var 6)) la_nil))) la_nil)))) (ls_cons (ls_set 10 nd (l_bin op_addL ok_add (l_var 10) (l_lst (la_cons (l_call (ok__law_end C) ar_fn (hr.mono (by decide)) hG (by rfl) C.m__law_end C.F__law_end.kp (bi__law_end C.F__law_end) rfl (la_cons (l_callB (call_min2 rfl) ok_min (by rfl) C.z_min (by decide +kernel) (la_cons (l_var 6) (la_cons (l_var 8) la_nil))) (la_cons (l_callB (call_min2 rfl) ok_min (by rfl) C.z_min (by decide +kernel) (la_cons (l_var 7) (la_cons (l_var 9) la_nil))) la_nil))) (la_cons (l_call (ok__law_end C) ar_fn (hr.mono (by decide)) hG (by rfl) C.m__law_end C.F__law_end.kp (bi__law_end C.F__law_end) rfl (la_cons (l_callB (call_max2 rfl) ok_max (by rfl) C.z_max (by decide +kernel) (la_cons (l_var 6) (la_cons (l_var 8) la_nil))) (la_cons (l_callB (call_max2 rfl) ok_max (by rfl) C.z_max (by decide +kernel) (la_cons (l_var 7) (la_cons (l_var 9) la_nil))) la_nil))) la_nil))))) (ls_cons (ls_set 11 nd (l_lst (la_cons (l_call (ok_span_plus C) ar_fn (hr.mono (by decide)) hG (by rfl) C.m_span_plus C.F_span_plus.kp (bi_span_plus C.F_span_plus) rfl (la_cons (l_var 2) (la_cons (l_var 4) la_nil))) (la_cons (l_call (ok_span_turned C) ar_fn (hr.mono (by decide)) hG (by rfl) C.m_span_turned C.F_span_turned.kp (bi_span_turned C.F_span_turned) rfl (la_cons (l_var 2) (la_cons (l_var 4) la_nil))) (la_cons (l_call (ok_span_least C) ar_fn (hr.mono (by decide)) hG (by rfl) C.m_span_least C.F_span_least.kp (bi_span_least C.F_span_least) rfl (la_cons (l_var 2) (la_cons (l_var 3) la_nil))) (la_cons (l_call (ok_span_greatest C) ar_fn (hr.mono (by decide)) hG (by rfl) C.m_span_greatest C.F_span_greatest.kp (bi_span_greatest C.F_span_greatest) rfl (la_cons (l_var 2) (la_cons (l_var 3) la_nil))) la_nil)))))) (ls_cons (ls_if (lt_cmp (op_neA hr.units) ok_nev (l_callB (call_repr hG hr.units) ok_repr (by rfl) C.z_repr (by decide +kernel) (la_cons (l_var 11) la_nil)) (l_callB (call_repr hG hr.units) ok_repr (by rfl) C.z_repr (by decide +kernel) (la_cons (l_var 10) la_nil)) (nomark _)) (ls_cons (ls_ret l_bl) ls_nil) ls_nil) (ls_cons (ls_if (PW.pt (lw_and (lt_cmp (op_eqA hr.units) ok_eqv (l_var 1) l_int (nomark _)) (lw_and (lt_cmp op_notIn_seq (ok_in true) l_non (l_var 2) (by with_unfolding_all rfl)) (lw_and1 (lt_cmp op_notIn_seq (ok_in true) l_non (l_var 3) (by with_unfolding_all rfl)))))) (ls_cons (ls_if (lt_cmp (op_neA hr.units) ok_nev (l_callB (call_repr hG hr.units) ok_repr (by rfl) C.z_repr (by decide +kernel) (la_cons (l_lc fu (own := [("span", 14)]) rfl nd (li_seq (l_var 11)) (blkOk_by (by kernel_rfl)) (by decide) (fun _ _ _ _ _ => (lg_nm 14 nd)) (fun _ _ _ _ _ => lp_nil) (fun _ _ _ _ _ => (l_call (ok__law_all C) ar_fn (hr.mono (by decide)) hG (by rfl) C.m__law_all C.F__law_all.kp (bi__law_all C.F__law_all) rfl (la_cons (l_var 14) la_nil)))) la_nil)) (l_callB (call_repr hG hr.units) ok_repr (by rfl) C.z_repr (by decide +kernel) (la_cons (l_call (ok__law_by_pairs C) ar_fn (hr.mono (by decide)) hG (by rfl) C.m__law_by_pairs C.F__law_by_pairs.kp (bi__law_by_pairs C.F__law_by_pairs) rfl (la_cons (l_var 2) (la_cons (l_var 3) (la_cons (l_var 4) la_nil)))) la_nil)) (nomark _)) (ls_cons (ls_ret l_bl) ls_nil) ls_nil) ls_nil) ls_nil) (ls_cons (ls_set 12 nd (l_lst (la_cons (l_callK0 (ok_span_plus C) ar_fn (hr.mono (by decide)) hG (by rfl) C.m_span_plus C.F_span_plus.kp (kb0 C.F_span_plus) (lk_cons (l_var 4) (lk_cons (l_var 2) lk_nil))) (la_cons (l_callK0 (ok_span_turned C) ar_fn (hr.mono (by decide)) hG (by rfl) C.m_span_turned C.F_span_turned.kp (kb1 C.F_span_turned) (lk_cons (l_var 4) (lk_cons (l_var 2) lk_nil))) (la_cons (l_callK0 (ok_span_least C) ar_fn (hr.mono (by decide)) hG (by rfl) C.m_span_least C.F_span_least.kp (kb2 C.F_span_least) (lk_cons (l_var 2) (lk_cons (l_var 3) lk_nil))) (la_cons (l_callK0 (ok_span_greatest C) ar_fn (hr.mono (by decide)) hG (by rfl) C.m_span_greatest C.F_span_greatest.kp (kb3 C.F_span_greatest) (lk_cons (l_var 2) (lk_cons (l_var 3) lk_nil))) la_nil)))))) (ls_cons (ls_set 13 nd (l_lst (la_cons (l_call (ok_span_plus C) ar_fn (hr.mono (by decide)) hG (by rfl) C.m_span_plus C.F_span_plus.kp (bi_span_plus C.F_span_plus) rfl (la_cons (l_ix (l_var 11) l_int) (la_cons (l_bin op_sub ok_sub l_int (l_var 4)) la_nil))) (la_cons (l_call (ok_span_turned C) ar_fn (hr.mono (by decide)) hG (by rfl) C.m_span_turned C.F_span_turned.kp (bi_span_turned C.F_span_turned) rfl (la_cons (l_ix (l_var 11) l_int) (la_cons (l_var 4) la_nil))) la_nil)))) (ls_cons (ls_ret (l_and (l_cmp (op_eqA hr.units) ok_eqv (l_callB (call_repr hG hr.units) ok_repr (by rfl) C.z_repr (by decide +kernel) (la_cons (l_var 12) la_nil)) (l_callB (call_repr hG hr.units) ok_repr (by rfl) C.z_repr (by decide +kernel) (la_cons (l_var 10) la_nil)) (nomark _)) (l_one (l_cmp (op_eqA hr.units) ok_eqv (l_callB (call_repr hG hr.units) ok_repr (by rfl) C.z_repr (by decide +kernel) (la_cons (l_var 13) la_nil)) (l_callB (call_repr hG hr.units) ok_repr (by rfl) C.z_repr (by decide +kernel) (la_cons (l_lst (la_cons (l_var 2) (la_cons (l_var 2) la_nil))) la_nil)) (nomark _))))) ls_nil)))))))))))))
theorem ok_law (C : Facts K mg) : FnG P w K mg base 8 C.a_law C.fd_law P_law (spOf K 1 (c_law fu)) := fn_g C.F_law sc_law fun cdv A outer s H hr hG => by
  have nd := sc_law.nd
  exact (ls_cons (ls_for fu PassesOwn.never rfl (li_range1 (by rfl) C.z_range (la_cons l_int la_nil)) (lg_nm 1 nd) (ls_cons (ls_if (lt_not (lt_tru (l_call (ok__law_right C) ar_fn (hr.mono (by decide)) hG (by rfl) C.m__law_right C.F__law_right.kp (bi__law_right C.F__law_right) rfl (la_cons (l_call (ok__law_generator C) ar_fn (hr.mono (by decide)) hG (by rfl) C.m__law_generator C.F__law_generator.kp (bi__law_generator C.F__law_generator) rfl (la_cons (l_var 0) (la_cons (l_var 1) la_nil))) la_nil)))) (ls_cons (ls_ret l_bl) ls_nil) ls_nil) ls_nil)) (ls_cons (ls_set 2 nd (l_bin op_sub ok_sub (l_bin op_powW ok_pow l_int l_int) l_int)) (ls_cons (ls_set 3 nd (l_lst (la_cons (l_call (ok_span_plus C) ar_fn (hr.mono (by decide)) hG (by rfl) C.m_span_plus C.F_span_plus.kp (bi_span_plus C.F_span_plus) rfl (la_cons (l_tup (la_cons l_int (la_cons (l_var 2) la_nil))) (la_cons (l_var 2) la_nil))) (la_cons (l_call (ok_span_turned C) ar_fn (hr.mono (by decide)) hG (by rfl) C.m_span_turned C.F_span_turned.kp (bi_span_turned C.F_span_turned) rfl (la_cons (l_tup (la_cons (l_neg (l_var 2)) (la_cons l_non la_nil))) (la_cons (l_var 2) la_nil))) la_nil)))) (ls_cons (ls_set 3 nd (l_bin op_addL ok_add (l_var 3) (l_lst (la_cons (l_call (ok_span_plus C) ar_fn (hr.mono (by decide)) hG (by rfl) C.m_span_plus C.F_span_plus.kp (bi_span_plus C.F_span_plus) rfl (la_cons (l_tup (la_cons l_non (la_cons l_int la_nil))) (la_cons (l_neg l_int) la_nil))) (la_cons (l_call (ok_span_turned C) ar_fn (hr.mono (by decide)) hG (by rfl) C.m_span_turned C.F_span_turned.kp (bi_span_turned C.F_span_turned) rfl (la_cons (l_tup (la_cons l_non (la_cons l_int la_nil))) (la_cons l_int la_nil))) (la_cons (l_call (ok_span_turned C) ar_fn (hr.mono (by decide)) hG (by rfl) C.m_span_turned C.F_span_turned.kp (bi_span_turned C.F_span_turned) rfl (la_cons (l_tup (la_cons l_int (la_cons l_int la_nil))) (la_cons l_int la_nil))) (la_cons (l_call (ok_span_least C) ar_fn (hr.mono (by decide)) hG (by rfl) C.m_span_least C.F_span_least.kp (bi_span_least C.F_span_least) rfl (la_cons (l_tup (la_cons l_non (la_cons l_int la_nil))) (la_cons (l_tup (la_cons l_int (la_cons l_non la_nil))) la_nil))) (la_cons (l_call (ok_span_greatest C) ar_fn (hr.mono (by decide)) hG (by rfl) C.m_span_greatest C.F_span_greatest.kp (bi_span_greatest C.F_span_greatest) rfl (la_cons (l_tup (la_cons l_non (la_cons l_int la_nil))) (la_cons (l_tup (la_cons l_int (la_cons l_non la_nil))) la_nil))) la_nil)))))))) (ls_cons (ls_ret (l_cmp (op_eqA hr.units) ok_eqv (l_callB (call_repr hG hr.units) ok_repr (by rfl) C.z_repr (by decide +kernel) (la_cons (l_var 3) la_nil)) (l_callB (call_repr hG hr.units) ok_repr (by rfl) C.z_repr (by decide +kernel) (la_cons (l_lst (la_cons (l_tup (la_cons (l_var 2) (la_cons (l_bin op_mulW ok_mul l_int (l_var 2)) la_nil))) (la_cons (l_tup (la_cons l_non (la_cons (l_bin op_mulW ok_mul l_int (l_var 2)) la_nil))) (la_cons (l_tup (la_cons l_non (la_cons l_int la_nil))) (la_cons (l_tup (la_cons (l_neg l_int) (la_cons l_non la_nil))) (la_cons (l_tup (la_cons l_int (la_cons l_int la_nil))) (la_cons (l_tup (la_cons l_non (la_cons l_int la_nil))) (la_cons (l_tup (la_cons l_int (la_cons l_non la_nil))) la_nil)))))))) la_nil)) (nomark _))) ls_nil)))))
end
theorem all_mk {fu : Nat} {P : Program} {w : World} {K : PySem.W.Frag} {h : Heap} {mg : Str → Option Value} {fa : Addr} (X : K.In h) (G : h.Ns mainGlobals mg) (hfa : mg "law" = some (.ref fa))
    {f0 : Addr} {od0 an0 : Option Addr} {sl0 : Array (Option Value)} {oc0 kV0 dc0 pm0 cd0 ct0 : Value}
    {f1 : Addr} {od1 an1 : Option Addr} {sl1 : Array (Option Value)} {oc1 kV1 dc1 pm1 cd1 ct1 : Value}
    {f2 : Addr} {od2 an2 : Option Addr} {sl2 : Array (Option Value)} {oc2 kV2 dc2 pm2 cd2 ct2 : Value}
    {f3 : Addr} {od3 an3 : Option Addr} {sl3 : Array (Option Value)} {oc3 kV3 dc3 pm3 cd3 ct3 : Value}
    {f4 : Addr} {od4 an4 : Option Addr} {sl4 : Array (Option Value)} {oc4 kV4 dc4 pm4 cd4 ct4 : Value}
    {f5 : Addr} {od5 an5 : Option Addr} {sl5 : Array (Option Value)} {oc5 kV5 dc5 pm5 cd5 ct5 : Value}
    {f6 : Addr} {od6 an6 : Option Addr} {sl6 : Array (Option Value)} {oc6 kV6 dc6 pm6 cd6 ct6 : Value}
    {f7 : Addr} {od7 an7 : Option Addr} {sl7 : Array (Option Value)} {oc7 kV7 dc7 pm7 cd7 ct7 : Value}
    {f8 : Addr} {od8 an8 : Option Addr} {sl8 : Array (Option Value)} {oc8 kV8 dc8 pm8 cd8 ct8 : Value}
    {f9 : Addr} {od9 an9 : Option Addr} {sl9 : Array (Option Value)} {oc9 kV9 dc9 pm9 cd9 ct9 : Value}
    {f10 : Addr} {od10 an10 : Option Addr} {sl10 : Array (Option Value)} {oc10 kV10 dc10 pm10 cd10 ct10 : Value}
    {f11 : Addr} {od11 an11 : Option Addr} {sl11 : Array (Option Value)} {oc11 kV11 dc11 pm11 cd11 ct11 : Value}
    {f12 : Addr} {od12 an12 : Option Addr} {sl12 : Array (Option Value)} {oc12 kV12 dc12 pm12 cd12 ct12 : Value}
    {f13 : Addr} {od13 an13 : Option Addr} {sl13 : Array (Option Value)} {oc13 kV13 dc13 pm13 cd13 ct13 : Value}
    {f14 : Addr} {od14 an14 : Option Addr} {sl14 : Array (Option Value)} {oc14 kV14 dc14 pm14 cd14 ct14 : Value}
    {f15 : Addr} {od15 an15 : Option Addr} {sl15 : Array (Option Value)} {oc15 kV15 dc15 pm15 cd15 ct15 : Value}
    {f16 : Addr} {od16 an16 : Option Addr} {sl16 : Array (Option Value)} {oc16 kV16 dc16 pm16 cd16 ct16 : Value}
    {f17 : Addr} {od17 an17 : Option Addr} {sl17 : Array (Option Value)} {oc17 kV17 dc17 pm17 cd17 ct17 : Value}
    {f18 : Addr} {od18 an18 : Option Addr} {sl18 : Array (Option Value)} {oc18 kV18 dc18 pm18 cd18 ct18 : Value}
    {f19 : Addr} {od19 an19 : Option Addr} {sl19 : Array (Option Value)} {oc19 kV19 dc19 pm19 cd19 ct19 : Value}
    {f20 : Addr} {od20 an20 : Option Addr} {sl20 : Array (Option Value)} {oc20 kV20 dc20 pm20 cd20 ct20 : Value}
    {f21 : Addr} {od21 an21 : Option Addr} {sl21 : Array (Option Value)} {oc21 kV21 dc21 pm21 cd21 ct21 : Value}
    {f22 : Addr} {od22 an22 : Option Addr} {sl22 : Array (Option Value)} {oc22 kV22 dc22 pm22 cd22 ct22 : Value}
    {f23 : Addr} {od23 an23 : Option Addr} {sl23 : Array (Option Value)} {oc23 kV23 dc23 pm23 cd23 ct23 : Value}
    {f24 : Addr} {od24 an24 : Option Addr} {sl24 : Array (Option Value)} {oc24 kV24 dc24 pm24 cd24 ct24 : Value}
    {f25 : Addr} {od25 an25 : Option Addr} {sl25 : Array (Option Value)} {oc25 kV25 dc25 pm25 cd25 ct25 : Value}
    {f26 : Addr} {od26 an26 : Option Addr} {sl26 : Array (Option Value)} {oc26 kV26 dc26 pm26 cd26 ct26 : Value}
    {f27 : Addr} {od27 an27 : Option Addr} {sl27 : Array (Option Value)} {oc27 kV27 dc27 pm27 cd27 ct27 : Value}
    {f28 : Addr} {od28 an28 : Option Addr} {sl28 : Array (Option Value)} {oc28 kV28 dc28 pm28 cd28 ct28 : Value}
    {f29 : Addr} {od29 an29 : Option Addr} {sl29 : Array (Option Value)} {oc29 kV29 dc29 pm29 cd29 ct29 : Value}
    {f30 : Addr} {od30 an30 : Option Addr} {sl30 : Array (Option Value)} {oc30 kV30 dc30 pm30 cd30 ct30 : Value}
    {f31 : Addr} {od31 an31 : Option Addr} {sl31 : Array (Option Value)} {oc31 kV31 dc31 pm31 cd31 ct31 : Value}
    (a0 : PySem.W.nsIn K mainGlobals "_law_cell" = some (some (.ref f0))) (l0 : K.lookup f0 = some ⟨oc0, od0, .func (PySem.W.fnOf "_law_cell" "_law_cell" (defArgs s__law_cell) (defBody s__law_cell) (defScope s__law_cell) .none kV0 dc0 pm0 an0 cd0 ct0), sl0⟩) (c0 : PySem.W.codeIn K cd0 "_law_cell" = true) (k0 : PySem.W.keepIn K (.ref f0) = true)
    (a1 : PySem.W.nsIn K mainGlobals "_law_generator" = some (some (.ref f1))) (l1 : K.lookup f1 = some ⟨oc1, od1, .func (PySem.W.fnOf "_law_generator" "_law_generator" (defArgs s__law_generator) (defBody s__law_generator) (defScope s__law_generator) .none kV1 dc1 pm1 an1 cd1 ct1), sl1⟩) (c1 : PySem.W.codeIn K cd1 "_law_generator" = true) (k1 : PySem.W.keepIn K (.ref f1) = true)
    (a2 : PySem.W.nsIn K mainGlobals "_law_all" = some (some (.ref f2))) (l2 : K.lookup f2 = some ⟨oc2, od2, .func (PySem.W.fnOf "_law_all" "_law_all" (defArgs s__law_all) (defBody s__law_all) (defScope s__law_all) .none kV2 dc2 pm2 an2 cd2 ct2), sl2⟩) (c2 : PySem.W.codeIn K cd2 "_law_all" = true) (k2 : PySem.W.keepIn K (.ref f2) = true)
    (a3 : PySem.W.nsIn K mainGlobals "_law_by_pairs" = some (some (.ref f3))) (l3 : K.lookup f3 = some ⟨oc3, od3, .func (PySem.W.fnOf "_law_by_pairs" "_law_by_pairs" (defArgs s__law_by_pairs) (defBody s__law_by_pairs) (defScope s__law_by_pairs) .none kV3 dc3 pm3 an3 cd3 ct3), sl3⟩) (c3 : PySem.W.codeIn K cd3 "_law_by_pairs" = true) (k3 : PySem.W.keepIn K (.ref f3) = true)
    (a4 : PySem.W.nsIn K mainGlobals "_law_end" = some (some (.ref f4))) (l4 : K.lookup f4 = some ⟨oc4, od4, .func (PySem.W.fnOf "_law_end" "_law_end" (defArgs s__law_end) (defBody s__law_end) (defScope s__law_end) .none kV4 dc4 pm4 an4 cd4 ct4), sl4⟩) (c4 : PySem.W.codeIn K cd4 "_law_end" = true) (k4 : PySem.W.keepIn K (.ref f4) = true)
    (a5 : PySem.W.nsIn K mainGlobals "_law_hash" = some (some (.ref f5))) (l5 : K.lookup f5 = some ⟨oc5, od5, .func (PySem.W.fnOf "_law_hash" "_law_hash" (defArgs s__law_hash) (defBody s__law_hash) (defScope s__law_hash) .none kV5 dc5 pm5 an5 cd5 ct5), sl5⟩) (c5 : PySem.W.codeIn K cd5 "_law_hash" = true) (k5 : PySem.W.keepIn K (.ref f5) = true)
    (a6 : PySem.W.nsIn K mainGlobals "_law_random" = some (some (.ref f6))) (l6 : K.lookup f6 = some ⟨oc6, od6, .func (PySem.W.fnOf "_law_random" "_law_random" (defArgs s__law_random) (defBody s__law_random) (defScope s__law_random) .none kV6 dc6 pm6 an6 cd6 ct6), sl6⟩) (c6 : PySem.W.codeIn K cd6 "_law_random" = true) (k6 : PySem.W.keepIn K (.ref f6) = true)
    (a7 : PySem.W.nsIn K mainGlobals "_law_number" = some (some (.ref f7))) (l7 : K.lookup f7 = some ⟨oc7, od7, .func (PySem.W.fnOf "_law_number" "_law_number" (defArgs s__law_number) (defBody s__law_number) (defScope s__law_number) .none kV7 dc7 pm7 an7 cd7 ct7), sl7⟩) (c7 : PySem.W.codeIn K cd7 "_law_number" = true) (k7 : PySem.W.keepIn K (.ref f7) = true)
    (a8 : PySem.W.nsIn K mainGlobals "_law_pairs" = some (some (.ref f8))) (l8 : K.lookup f8 = some ⟨oc8, od8, .func (PySem.W.fnOf "_law_pairs" "_law_pairs" (defArgs s__law_pairs) (defBody s__law_pairs) (defScope s__law_pairs) .none kV8 dc8 pm8 an8 cd8 ct8), sl8⟩) (c8 : PySem.W.codeIn K cd8 "_law_pairs" = true) (k8 : PySem.W.keepIn K (.ref f8) = true)
    (a9 : PySem.W.nsIn K mainGlobals "_law_range" = some (some (.ref f9))) (l9 : K.lookup f9 = some ⟨oc9, od9, .func (PySem.W.fnOf "_law_range" "_law_range" (defArgs s__law_range) (defBody s__law_range) (defScope s__law_range) .none kV9 dc9 pm9 an9 cd9 ct9), sl9⟩) (c9 : PySem.W.codeIn K cd9 "_law_range" = true) (k9 : PySem.W.keepIn K (.ref f9) = true)
    (a10 : PySem.W.nsIn K mainGlobals "_greater_high" = some (some (.ref f10))) (l10 : K.lookup f10 = some ⟨oc10, od10, .func (PySem.W.fnOf "_greater_high" "_greater_high" (defArgs s__greater_high) (defBody s__greater_high) (defScope s__greater_high) .none kV10 dc10 pm10 an10 cd10 ct10), sl10⟩) (c10 : PySem.W.codeIn K cd10 "_greater_high" = true) (k10 : PySem.W.keepIn K (.ref f10) = true)
    (a11 : PySem.W.nsIn K mainGlobals "_greater_low" = some (some (.ref f11))) (l11 : K.lookup f11 = some ⟨oc11, od11, .func (PySem.W.fnOf "_greater_low" "_greater_low" (defArgs s__greater_low) (defBody s__greater_low) (defScope s__greater_low) .none kV11 dc11 pm11 an11 cd11 ct11), sl11⟩) (c11 : PySem.W.codeIn K cd11 "_greater_low" = true) (k11 : PySem.W.keepIn K (.ref f11) = true)
    (a12 : PySem.W.nsIn K mainGlobals "greatest_of" = some (some (.ref f12))) (l12 : K.lookup f12 = some ⟨oc12, od12, .func (PySem.W.fnOf "greatest_of" "greatest_of" (defArgs s_greatest_of) (defBody s_greatest_of) (defScope s_greatest_of) .none kV12 dc12 pm12 an12 cd12 ct12), sl12⟩) (c12 : PySem.W.codeIn K cd12 "greatest_of" = true) (k12 : PySem.W.keepIn K (.ref f12) = true)
    (a13 : PySem.W.nsIn K mainGlobals "a_whole" = some (some (.ref f13))) (l13 : K.lookup f13 = some ⟨oc13, od13, .func (PySem.W.fnOf "a_whole" "a_whole" (defArgs s_a_whole) (defBody s_a_whole) (defScope s_a_whole) .none kV13 dc13 pm13 an13 cd13 ct13), sl13⟩) (c13 : PySem.W.codeIn K cd13 "a_whole" = true) (k13 : PySem.W.keepIn K (.ref f13) = true)
    (a14 : PySem.W.nsIn K mainGlobals "an_end" = some (some (.ref f14))) (l14 : K.lookup f14 = some ⟨oc14, od14, .func (PySem.W.fnOf "an_end" "an_end" (defArgs s_an_end) (defBody s_an_end) (defScope s_an_end) .none kV14 dc14 pm14 an14 cd14 ct14), sl14⟩) (c14 : PySem.W.codeIn K cd14 "an_end" = true) (k14 : PySem.W.keepIn K (.ref f14) = true)
    (a15 : PySem.W.nsIn K mainGlobals "a_range" = some (some (.ref f15))) (l15 : K.lookup f15 = some ⟨oc15, od15, .func (PySem.W.fnOf "a_range" "a_range" (defArgs s_a_range) (defBody s_a_range) (defScope s_a_range) .none kV15 dc15 pm15 an15 cd15 ct15), sl15⟩) (c15 : PySem.W.codeIn K cd15 "a_range" = true) (k15 : PySem.W.keepIn K (.ref f15) = true)
    (a16 : PySem.W.nsIn K mainGlobals "need_range" = some (some (.ref f16))) (l16 : K.lookup f16 = some ⟨oc16, od16, .func (PySem.W.fnOf "need_range" "need_range" (defArgs s_need_range) (defBody s_need_range) (defScope s_need_range) .none kV16 dc16 pm16 an16 cd16 ct16), sl16⟩) (c16 : PySem.W.codeIn K cd16 "need_range" = true) (k16 : PySem.W.keepIn K (.ref f16) = true)
    (a17 : PySem.W.nsIn K mainGlobals "need_ranges" = some (some (.ref f17))) (l17 : K.lookup f17 = some ⟨oc17, od17, .func (PySem.W.fnOf "need_ranges" "need_ranges" (defArgs s_need_ranges) (defBody s_need_ranges) (defScope s_need_ranges) .none kV17 dc17 pm17 an17 cd17 ct17), sl17⟩) (c17 : PySem.W.codeIn K cd17 "need_ranges" = true) (k17 : PySem.W.keepIn K (.ref f17) = true)
    (a18 : PySem.W.nsIn K mainGlobals "span_greatest" = some (some (.ref f18))) (l18 : K.lookup f18 = some ⟨oc18, od18, .func (PySem.W.fnOf "span_greatest" "span_greatest" (defArgs s_span_greatest) (defBody s_span_greatest) (defScope s_span_greatest) .none kV18 dc18 pm18 an18 cd18 ct18), sl18⟩) (c18 : PySem.W.codeIn K cd18 "span_greatest" = true) (k18 : PySem.W.keepIn K (.ref f18) = true)
    (a19 : PySem.W.nsIn K mainGlobals "_lesser_high" = some (some (.ref f19))) (l19 : K.lookup f19 = some ⟨oc19, od19, .func (PySem.W.fnOf "_lesser_high" "_lesser_high" (defArgs s__lesser_high) (defBody s__lesser_high) (defScope s__lesser_high) .none kV19 dc19 pm19 an19 cd19 ct19), sl19⟩) (c19 : PySem.W.codeIn K cd19 "_lesser_high" = true) (k19 : PySem.W.keepIn K (.ref f19) = true)
    (a20 : PySem.W.nsIn K mainGlobals "_lesser_low" = some (some (.ref f20))) (l20 : K.lookup f20 = some ⟨oc20, od20, .func (PySem.W.fnOf "_lesser_low" "_lesser_low" (defArgs s__lesser_low) (defBody s__lesser_low) (defScope s__lesser_low) .none kV20 dc20 pm20 an20 cd20 ct20), sl20⟩) (c20 : PySem.W.codeIn K cd20 "_lesser_low" = true) (k20 : PySem.W.keepIn K (.ref f20) = true)
    (a21 : PySem.W.nsIn K mainGlobals "least_of" = some (some (.ref f21))) (l21 : K.lookup f21 = some ⟨oc21, od21, .func (PySem.W.fnOf "least_of" "least_of" (defArgs s_least_of) (defBody s_least_of) (defScope s_least_of) .none kV21 dc21 pm21 an21 cd21 ct21), sl21⟩) (c21 : PySem.W.codeIn K cd21 "least_of" = true) (k21 : PySem.W.keepIn K (.ref f21) = true)
    (a22 : PySem.W.nsIn K mainGlobals "span_least" = some (some (.ref f22))) (l22 : K.lookup f22 = some ⟨oc22, od22, .func (PySem.W.fnOf "span_least" "span_least" (defArgs s_span_least) (defBody s_span_least) (defScope s_span_least) .none kV22 dc22 pm22 an22 cd22 ct22), sl22⟩) (c22 : PySem.W.codeIn K cd22 "span_least" = true) (k22 : PySem.W.keepIn K (.ref f22) = true)
    (a23 : PySem.W.nsIn K mainGlobals "need_number" = some (some (.ref f23))) (l23 : K.lookup f23 = some ⟨oc23, od23, .func (PySem.W.fnOf "need_number" "need_number" (defArgs s_need_number) (defBody s_need_number) (defScope s_need_number) .none kV23 dc23 pm23 an23 cd23 ct23), sl23⟩) (c23 : PySem.W.codeIn K cd23 "need_number" = true) (k23 : PySem.W.keepIn K (.ref f23) = true)
    (a24 : PySem.W.nsIn K mainGlobals "end_plus" = some (some (.ref f24))) (l24 : K.lookup f24 = some ⟨oc24, od24, .func (PySem.W.fnOf "end_plus" "end_plus" (defArgs s_end_plus) (defBody s_end_plus) (defScope s_end_plus) .none kV24 dc24 pm24 an24 cd24 ct24), sl24⟩) (c24 : PySem.W.codeIn K cd24 "end_plus" = true) (k24 : PySem.W.keepIn K (.ref f24) = true)
    (a25 : PySem.W.nsIn K mainGlobals "plus" = some (some (.ref f25))) (l25 : K.lookup f25 = some ⟨oc25, od25, .func (PySem.W.fnOf "plus" "plus" (defArgs s_plus) (defBody s_plus) (defScope s_plus) .none kV25 dc25 pm25 an25 cd25 ct25), sl25⟩) (c25 : PySem.W.codeIn K cd25 "plus" = true) (k25 : PySem.W.keepIn K (.ref f25) = true)
    (a26 : PySem.W.nsIn K mainGlobals "span_plus" = some (some (.ref f26))) (l26 : K.lookup f26 = some ⟨oc26, od26, .func (PySem.W.fnOf "span_plus" "span_plus" (defArgs s_span_plus) (defBody s_span_plus) (defScope s_span_plus) .none kV26 dc26 pm26 an26 cd26 ct26), sl26⟩) (c26 : PySem.W.codeIn K cd26 "span_plus" = true) (k26 : PySem.W.keepIn K (.ref f26) = true)
    (a27 : PySem.W.nsIn K mainGlobals "_end_turned" = some (some (.ref f27))) (l27 : K.lookup f27 = some ⟨oc27, od27, .func (PySem.W.fnOf "_end_turned" "_end_turned" (defArgs s__end_turned) (defBody s__end_turned) (defScope s__end_turned) .none kV27 dc27 pm27 an27 cd27 ct27), sl27⟩) (c27 : PySem.W.codeIn K cd27 "_end_turned" = true) (k27 : PySem.W.keepIn K (.ref f27) = true)
    (a28 : PySem.W.nsIn K mainGlobals "turned_about" = some (some (.ref f28))) (l28 : K.lookup f28 = some ⟨oc28, od28, .func (PySem.W.fnOf "turned_about" "turned_about" (defArgs s_turned_about) (defBody s_turned_about) (defScope s_turned_about) .none kV28 dc28 pm28 an28 cd28 ct28), sl28⟩) (c28 : PySem.W.codeIn K cd28 "turned_about" = true) (k28 : PySem.W.keepIn K (.ref f28) = true)
    (a29 : PySem.W.nsIn K mainGlobals "span_turned" = some (some (.ref f29))) (l29 : K.lookup f29 = some ⟨oc29, od29, .func (PySem.W.fnOf "span_turned" "span_turned" (defArgs s_span_turned) (defBody s_span_turned) (defScope s_span_turned) .none kV29 dc29 pm29 an29 cd29 ct29), sl29⟩) (c29 : PySem.W.codeIn K cd29 "span_turned" = true) (k29 : PySem.W.keepIn K (.ref f29) = true)
    (a30 : PySem.W.nsIn K mainGlobals "_law_right" = some (some (.ref f30))) (l30 : K.lookup f30 = some ⟨oc30, od30, .func (PySem.W.fnOf "_law_right" "_law_right" (defArgs s__law_right) (defBody s__law_right) (defScope s__law_right) .none kV30 dc30 pm30 an30 cd30 ct30), sl30⟩) (c30 : PySem.W.codeIn K cd30 "_law_right" = true) (k30 : PySem.W.keepIn K (.ref f30) = true)
    (a31 : PySem.W.nsIn K mainGlobals "law" = some (some (.ref f31))) (l31 : K.lookup f31 = some ⟨oc31, od31, .func (PySem.W.fnOf "law" "law" (defArgs s_law) (defBody s_law) (defScope s_law) .none kV31 dc31 pm31 an31 cd31 ct31), sl31⟩) (c31 : PySem.W.codeIn K cd31 "law" = true) (k31 : PySem.W.keepIn K (.ref f31) = true)
    (z_bool : PySem.W.nsIn K mainGlobals "bool" = some none)
    (z_int : PySem.W.nsIn K mainGlobals "int" = some none)
    (z_isinstance : PySem.W.nsIn K mainGlobals "isinstance" = some none)
    (z_len : PySem.W.nsIn K mainGlobals "len" = some none)
    (z_list : PySem.W.nsIn K mainGlobals "list" = some none)
    (z_max : PySem.W.nsIn K mainGlobals "max" = some none)
    (z_min : PySem.W.nsIn K mainGlobals "min" = some none)
    (z_range : PySem.W.nsIn K mainGlobals "range" = some none)
    (z_repr : PySem.W.nsIn K mainGlobals "repr" = some none)
    (z_set : PySem.W.nsIn K mainGlobals "set" = some none)
    (z_sorted : PySem.W.nsIn K mainGlobals "sorted" = some none)
    (z_sum : PySem.W.nsIn K mainGlobals "sum" = some none)
    (z_tuple : PySem.W.nsIn K mainGlobals "tuple" = some none)
    : ∃ fd : FuncData, (∀ (s : Shared) (v : Value), BindsTo s fd ⟨[v], []⟩ [("script", v)]) ∧ ∀ base : Heap, K.In base → base.Ns mainGlobals mg → FnG P w K mg base 8 fa fd ["script"] (spOf K 1 (c_law fu)) := by
  have e := hfa.symm.trans (PySem.W.mg_of X G a31)
  cases e
  let C : Facts K mg := { a__law_cell := f0, fd__law_cell := _, F__law_cell := fun_mk (st := s__law_cell) l0 c0 k0, m__law_cell := PySem.W.mg_of X G a0, a__law_generator := f1, fd__law_generator := _, F__law_generator := fun_mk (st := s__law_generator) l1 c1 k1, m__law_generator := PySem.W.mg_of X G a1, a__law_all := f2, fd__law_all := _, F__law_all := fun_mk (st := s__law_all) l2 c2 k2, m__law_all := PySem.W.mg_of X G a2, a__law_by_pairs := f3, fd__law_by_pairs := _, F__law_by_pairs := fun_mk (st := s__law_by_pairs) l3 c3 k3, m__law_by_pairs := PySem.W.mg_of X G a3, a__law_end := f4, fd__law_end := _, F__law_end := fun_mk (st := s__law_end) l4 c4 k4, m__law_end := PySem.W.mg_of X G a4, a__law_hash := f5, fd__law_hash := _, F__law_hash := fun_mk (st := s__law_hash) l5 c5 k5, m__law_hash := PySem.W.mg_of X G a5, a__law_random := f6, fd__law_random := _, F__law_random := fun_mk (st := s__law_random) l6 c6 k6, m__law_random := PySem.W.mg_of X G a6, a__law_number := f7, fd__law_number := _, F__law_number := fun_mk (st := s__law_number) l7 c7 k7, m__law_number := PySem.W.mg_of X G a7, a__law_pairs := f8, fd__law_pairs := _, F__law_pairs := fun_mk (st := s__law_pairs) l8 c8 k8, m__law_pairs := PySem.W.mg_of X G a8, a__law_range := f9, fd__law_range := _, F__law_range := fun_mk (st := s__law_range) l9 c9 k9, m__law_range := PySem.W.mg_of X G a9, a__greater_high := f10, fd__greater_high := _, F__greater_high := fun_mk (st := s__greater_high) l10 c10 k10, m__greater_high := PySem.W.mg_of X G a10, a__greater_low := f11, fd__greater_low := _, F__greater_low := fun_mk (st := s__greater_low) l11 c11 k11, m__greater_low := PySem.W.mg_of X G a11, a_greatest_of := f12, fd_greatest_of := _, F_greatest_of := fun_mk (st := s_greatest_of) l12 c12 k12, m_greatest_of := PySem.W.mg_of X G a12, a_a_whole := f13, fd_a_whole := _, F_a_whole := fun_mk (st := s_a_whole) l13 c13 k13, m_a_whole := PySem.W.mg_of X G a13, a_an_end := f14, fd_an_end := _, F_an_end := fun_mk (st := s_an_end) l14 c14 k14, m_an_end := PySem.W.mg_of X G a14, a_a_range := f15, fd_a_range := _, F_a_range := fun_mk (st := s_a_range) l15 c15 k15, m_a_range := PySem.W.mg_of X G a15, a_need_range := f16, fd_need_range := _, F_need_range := fun_mk (st := s_need_range) l16 c16 k16, m_need_range := PySem.W.mg_of X G a16, a_need_ranges := f17, fd_need_ranges := _, F_need_ranges := fun_mk (st := s_need_ranges) l17 c17 k17, m_need_ranges := PySem.W.mg_of X G a17, a_span_greatest := f18, fd_span_greatest := _, F_span_greatest := fun_mk (st := s_span_greatest) l18 c18 k18, m_span_greatest := PySem.W.mg_of X G a18, a__lesser_high := f19, fd__lesser_high := _, F__lesser_high := fun_mk (st := s__lesser_high) l19 c19 k19, m__lesser_high := PySem.W.mg_of X G a19, a__lesser_low := f20, fd__lesser_low := _, F__lesser_low := fun_mk (st := s__lesser_low) l20 c20 k20, m__lesser_low := PySem.W.mg_of X G a20, a_least_of := f21, fd_least_of := _, F_least_of := fun_mk (st := s_least_of) l21 c21 k21, m_least_of := PySem.W.mg_of X G a21, a_span_least := f22, fd_span_least := _, F_span_least := fun_mk (st := s_span_least) l22 c22 k22, m_span_least := PySem.W.mg_of X G a22, a_need_number := f23, fd_need_number := _, F_need_number := fun_mk (st := s_need_number) l23 c23 k23, m_need_number := PySem.W.mg_of X G a23, a_end_plus := f24, fd_end_plus := _, F_end_plus := fun_mk (st := s_end_plus) l24 c24 k24, m_end_plus := PySem.W.mg_of X G a24, a_plus := f25, fd_plus := _, F_plus := fun_mk (st := s_plus) l25 c25 k25, m_plus := PySem.W.mg_of X G a25, a_span_plus := f26, fd_span_plus := _, F_span_plus := fun_mk (st := s_span_plus) l26 c26 k26, m_span_plus := PySem.W.mg_of X G a26, a__end_turned := f27, fd__end_turned := _, F__end_turned := fun_mk (st := s__end_turned) l27 c27 k27, m__end_turned := PySem.W.mg_of X G a27, a_turned_about := f28, fd_turned_about := _, F_turned_about := fun_mk (st := s_turned_about) l28 c28 k28, m_turned_about := PySem.W.mg_of X G a28, a_span_turned := f29, fd_span_turned := _, F_span_turned := fun_mk (st := s_span_turned) l29 c29 k29, m_span_turned := PySem.W.mg_of X G a29, a__law_right := f30, fd__law_right := _, F__law_right := fun_mk (st := s__law_right) l30 c30 k30, m__law_right := PySem.W.mg_of X G a30, a_law := fa, fd_law := _, F_law := fun_mk (st := s_law) l31 c31 k31, m_law := PySem.W.mg_of X G a31, z_bool := PySem.W.mg_none_of X G z_bool, z_int := PySem.W.mg_none_of X G z_int, z_isinstance := PySem.W.mg_none_of X G z_isinstance, z_len := PySem.W.mg_none_of X G z_len, z_list := PySem.W.mg_none_of X G z_list, z_max := PySem.W.mg_none_of X G z_max, z_min := PySem.W.mg_none_of X G z_min, z_range := PySem.W.mg_none_of X G z_range, z_repr := PySem.W.mg_none_of X G z_repr, z_set := PySem.W.mg_none_of X G z_set, z_sorted := PySem.W.mg_none_of X G z_sorted, z_sum := PySem.W.mg_none_of X G z_sum, z_tuple := PySem.W.mg_none_of X G z_tuple }
  exact ⟨C.fd_law, fun s v => .of_eq rfl, fun base _ _ => ok_law C⟩
end K15
/-! K15m: what the functions of the law of ranges give. -/
namespace K15
open PySem PySem.Spec PyProof.Rows L2 Lite
variable {fu : Nat} {S : Sto}
theorem whole_ok {i : Int} : c_a_whole fu [.int i] S = some (.bl true, S) := rfl
theorem end_ok {e : Option Int} : c_an_end fu [dO e] S = some (.bl true, S) := by cases e <;> rfl
theorem range_is {r : Option Int × Option Int} (h : OkR r) : c_a_range fu [dR r] S = some (.bl true, S) := by
  obtain ⟨lo, hi⟩ := r
  cases lo with
  | none => cases hi <;> rfl
  | some a =>
    cases hi with
    | none => rfl
    | some b =>
      have h1 : a ≤ b := h a b rfl rfl
      have e1 := end_ok (fu := fu) (S := S) (e := some a)
      have e2 := end_ok (fu := fu) (S := S) (e := some b)
      simp only [dO] at e1 e2
      have e3 : cIsi [.tup [.int a, .int b], .ty "tuple"] S = some (.bl true, S) := rfl
      simp [c_a_range, b_a_range, dR, dO, e1, e2, e3, h1]
theorem need_range_ok {r : Option Int × Option Int} (h : OkR r) : c_need_range fu [dR r] S = some (.non, S) := by
  have e := range_is (fu := fu) (S := S) h
  simp [c_need_range, b_need_range, e]
theorem need_number_ok {i : Int} : c_need_number fu [.int i] S = some (.non, S) := by
  simp [c_need_number, b_need_number, whole_ok]
theorem need_ranges_ok {r q : Option Int × Option Int} (h : OkR r) (h' : OkR q) : c_need_ranges fu [dR r, dR q] S = some (.non, S) := by
  simp [c_need_ranges, b_need_ranges, need_range_ok h, need_range_ok h']
/-- the far ends -/
def F60 : Int := 10 ^ 60
def F59 : Int := 10 ^ 59
theorem f59 : 10 ^ 50 < F59 := by unfold F59; decide +kernel
theorem F60_far : F59 + 10 ^ 50 < F60 := by unfold F59 F60; decide +kernel
theorem f60 : F59 < F60 := by unfold F59 F60; decide +kernel
abbrev Rg := Option Int × Option Int
def loP (r : Rg) : Int := match r.1 with
  | none => -F60
  | some a => a
def hiP (r : Rg) : Int := match r.2 with
  | none => F60
  | some a => a
def mn (a b : Int) : Int := if b < a then b else a
def mx (a b : Int) : Int := if b > a then b else a
def dE (a b : Int) : D := .tup [if a < -F59 then .non else .int a, if F59 < b then .non else .int b]
@[simp] theorem ix20 {x y : D} : atI [x, y] 0 = some x := rfl
@[simp] theorem ix21 {x y : D} : atI [x, y] 1 = some y := rfl
def gl : Option Int → Option Int → Option Int
  | none, x => x
  | some x, none => some x
  | some x, some y => some (mx x y)
def lh : Option Int → Option Int → Option Int
  | none, x => x
  | some x, none => some x
  | some x, some y => some (mn x y)
def ll : Option Int → Option Int → Option Int
  | some x, some y => some (mn x y)
  | _, _ => none
def gh : Option Int → Option Int → Option Int
  | some x, some y => some (mx x y)
  | _, _ => none
theorem gl_ok {a b : Option Int} : c__greater_low fu [dO a, dO b] S = some (dO (gl a b), S) := by
  rcases a with _ | a <;> rcases b with _ | b <;> simp [c__greater_low, b__greater_low, dO, mx, gl]
theorem lh_ok {a b : Option Int} : c__lesser_high fu [dO a, dO b] S = some (dO (lh a b), S) := by
  rcases a with _ | a <;> rcases b with _ | b <;> simp [c__lesser_high, b__lesser_high, dO, mn, lh]
theorem ll_ok {a b : Option Int} : c__lesser_low fu [dO a, dO b] S = some (dO (ll a b), S) := by
  rcases a with _ | a <;> rcases b with _ | b <;> simp [c__lesser_low, b__lesser_low, dO, mn, ll]
theorem gh_ok {a b : Option Int} : c__greater_high fu [dO a, dO b] S = some (dO (gh a b), S) := by
  rcases a with _ | a <;> rcases b with _ | b <;> simp [c__greater_high, b__greater_high, dO, mx, gh]
def dLo (x : Int) : D := if x < -F59 then .non else .int x
def dHi (x : Int) : D := if F59 < x then .non else .int x
theorem dLo_far {x : Int} (h : x < -F59) : dLo x = .non := if_pos h
theorem dLo_near {x : Int} (h : ¬ x < -F59) : dLo x = .int x := if_neg h
theorem dHi_far {x : Int} (h : F59 < x) : dHi x = .non := if_pos h
theorem dHi_near {x : Int} (h : ¬ F59 < x) : dHi x = .int x := if_neg h
theorem mnC (a b : Int) : (mn a b = a ∧ a ≤ b) ∨ (mn a b = b ∧ b ≤ a) := by
  unfold mn
  by_cases h : b < a
  · rw [if_pos h]; omega
  · rw [if_neg h]; omega
theorem mxC (a b : Int) : (mx a b = a ∧ b ≤ a) ∨ (mx a b = b ∧ a ≤ b) := by
  unfold mx
  by_cases h : b > a
  · rw [if_pos h]; omega
  · rw [if_neg h]; omega
/-- an end: far, or near and told -/
theorem loC {r : Rg} (h : BdR (10 ^ 40) r) : (r.1 = none ∧ loP r = -F60) ∨ ∃ a, r.1 = some a ∧ loP r = a ∧ -10 ^ 40 ≤ a ∧ a ≤ 10 ^ 40 := by
  obtain ⟨lo, hi⟩ := r
  cases lo with
  | none => exact .inl ⟨rfl, rfl⟩
  | some a => exact .inr ⟨a, rfl, rfl, h.1 a rfl⟩
theorem hiC {r : Rg} (h : BdR (10 ^ 40) r) : (r.2 = none ∧ hiP r = F60) ∨ ∃ a, r.2 = some a ∧ hiP r = a ∧ -10 ^ 40 ≤ a ∧ a ≤ 10 ^ 40 := by
  obtain ⟨lo, hi⟩ := r
  cases hi with
  | none => exact .inl ⟨rfl, rfl⟩
  | some a => exact .inr ⟨a, rfl, rfl, h.2 a rfl⟩
theorem lo1 {r q : Rg} (h : BdR (10 ^ 40) r) (h' : BdR (10 ^ 40) q) : dO (ll r.1 q.1) = dLo (mn (loP r) (loP q)) := by
  have f1 := f59; have f2 := f60
  have c := mnC (loP r) (loP q)
  rcases loC h with ⟨e1, e2⟩ | ⟨a, e1, e2, e3⟩ <;> rcases loC h' with ⟨g1, g2⟩ | ⟨d, g1, g2, g3⟩
  · rw [dLo_far (by omega), e1, g1]; rfl
  · rw [dLo_far (by omega), e1, g1]; rfl
  · rw [dLo_far (by omega), e1, g1]; rfl
  · rw [dLo_near (by omega), e1, g1, e2, g2]; rfl
theorem hi1 {r q : Rg} (h : BdR (10 ^ 40) r) (h' : BdR (10 ^ 40) q) : dO (gh r.2 q.2) = dHi (mx (hiP r) (hiP q)) := by
  have f1 := f59; have f2 := f60
  have c := mxC (hiP r) (hiP q)
  rcases hiC h with ⟨e1, e2⟩ | ⟨a, e1, e2, e3⟩ <;> rcases hiC h' with ⟨g1, g2⟩ | ⟨d, g1, g2, g3⟩
  · rw [dHi_far (by omega), e1, g1]; rfl
  · rw [dHi_far (by omega), e1, g1]; rfl
  · rw [dHi_far (by omega), e1, g1]; rfl
  · rw [dHi_near (by omega), e1, g1, e2, g2]; rfl
theorem lo2 {r q : Rg} (h : BdR (10 ^ 40) r) (h' : BdR (10 ^ 40) q) : dO (gl r.1 q.1) = dLo (mx (loP r) (loP q)) := by
  have f1 := f59; have f2 := f60
  have c := mxC (loP r) (loP q)
  rcases loC h with ⟨e1, e2⟩ | ⟨a, e1, e2, e3⟩ <;> rcases loC h' with ⟨g1, g2⟩ | ⟨d, g1, g2, g3⟩
  · rw [dLo_far (by omega), e1, g1]; rfl
  · rw [dLo_near (by omega), show mx (loP r) (loP q) = d by omega, e1, g1]; rfl
  · rw [dLo_near (by omega), show mx (loP r) (loP q) = a by omega, e1, g1]; rfl
  · rw [dLo_near (by omega), e1, g1, e2, g2]; rfl
theorem hi2 {r q : Rg} (h : BdR (10 ^ 40) r) (h' : BdR (10 ^ 40) q) : dO (lh r.2 q.2) = dHi (mn (hiP r) (hiP q)) := by
  have f1 := f59; have f2 := f60
  have c := mnC (hiP r) (hiP q)
  rcases hiC h with ⟨e1, e2⟩ | ⟨a, e1, e2, e3⟩ <;> rcases hiC h' with ⟨g1, g2⟩ | ⟨d, g1, g2, g3⟩
  · rw [dHi_far (by omega), e1, g1]; rfl
  · rw [dHi_near (by omega), show mn (hiP r) (hiP q) = d by omega, e1, g1]; rfl
  · rw [dHi_near (by omega), show mn (hiP r) (hiP q) = a by omega, e1, g1]; rfl
  · rw [dHi_near (by omega), e1, g1, e2, g2]; rfl
theorem dO_none : dO none = .non := rfl
theorem dO_some {i : Int} : dO (some i) = .int i := rfl
theorem p60 : fPow 10 60 = some F60 := pow60
theorem p59 : fPow 10 59 = some F59 := pow59
def fPairs : EF := (eCall cTup (aCons (eIf (truB (eBin (gIsN false) (eVar 1) (eC .non))) (eNeg (eBin (gArith fPow) (eC (.int 10)) (eC (.int 60)))) (eVar 1)) (aCons (eIf (truB (eBin (gIsN false) (eVar 2) (eC .non))) (eBin (gArith fPow) (eC (.int 10)) (eC (.int 60))) (eVar 2)) aNil)))
def dP (r : Rg) : D := .tup [.int (loP r), .int (hiP r)]
def hP : D → D
  | .tup [x, y] => .tup [if isNon x then .int (-F60) else x, if isNon y then .int F60 else y]
  | d => d
theorem hP_is {r : Rg} : hP (dR r) = dP r := by
  obtain ⟨lo, hi⟩ := r
  cases lo <;> cases hi <;> rfl
theorem fPairs_is {r : Rg} {d0 : Option D} : fPairs [d0, some (dO r.1), some (dO r.2)] S = some (hP (dR r), S) := by
  rw [hP_is]
  obtain ⟨lo, hi⟩ := r
  cases lo <;> cases hi <;> simp [fPairs, dO, dP, loP, hiP, p60, lim_pos]
theorem pairs_ok (hf : 10000 ≤ fu) {k : Nat} {r q : Rg} (hk : S[k]? = some (.lst [dR r, dR q])) : c__law_pairs fu [.ref k] S = some (.ref S.length, S ++ [.lst [dP r, dP q]]) := by
  have e := comp_pure (n := fu) (own := [1, 2]) (it := iSeq (eVar 0)) (t := .tp [1, 2]) (c := tYesF) (f := fPairs) (env := [some (.ref k), none, none]) (S := S) (S1 := S) (k := k) (ds := [dR r, dR q]) rfl hk rfl (fun _ => true) hP (by
    intro d hd
    rcases List.mem_cons.mp hd with rfl | hd
    · exact ⟨_, rfl, rfl, fun _ => fPairs_is⟩
    · rcases List.mem_cons.mp hd with rfl | hd
      · exact ⟨_, rfl, rfl, fun _ => fPairs_is⟩
      · cases hd) (by simp; omega) (by simp)
  refine fn_eq rfl (cons_rt ?_)
  show (match eComp fu [1, 2] (iSeq (eVar 0)) (.tp [1, 2]) tYesF fPairs [some (.ref k), none, none] S with
    | some (d, S1) => some (Out.rt d, S1)
    | none => none) = _
  rw [e]
  show some (Out.rt (.ref S.length), S ++ [.lst [hP (dR r), hP (dR q)]]) = _
  rw [hP_is, hP_is]
theorem end_is {x y : Int} : c__law_end fu [.int x, .int y] S = some (dE x y, S) := by
  by_cases h1 : x < -F59 <;> by_cases h2 : F59 < y <;> simp [c__law_end, b__law_end, dE, p59, lim_pos, h1, h2]
theorem all_ok {a b : Int} (h : -(2 ^ 40) ≤ a ∧ a < 2 ^ 40) (h' : -(2 ^ 40) ≤ b ∧ b < 2 ^ 40) (hl : (b + 1 - a).toNat ≤ 1000) : c__law_all fu [.tup [.int a, .int b]] S = some (.ref S.length, S ++ [.lst (rgD a (b + 1))]) := by
  refine fn_eq rfl (cons_rt ?_)
  simp only [r_sRet, eLRg, r_eBin, r_eVar, r_eC, r_start, List.map_cons, List.map_nil, List.cons_append, List.getElem?_cons_zero, r_ix_tup, ix20, ix21, r_add]
  rw [if_pos (by omega)]
/-! moved, turned about, the lesser, the greater -/
def plusR (r : Rg) (n : Int) : Rg := (r.1.map (· + n), r.2.map (· + n))
def turnR (r : Rg) (n : Int) : Rg := (r.2.map (n - ·), r.1.map (n - ·))
def leastR (r q : Rg) : Rg := (ll r.1 q.1, lh r.2 q.2)
def greatR (r q : Rg) : Rg := (gl r.1 q.1, gh r.2 q.2)
theorem plus_ok {r : Rg} {n : Int} : c_plus fu [dR r, .int n] S = some (dR (plusR r n), S) := by
  obtain ⟨lo, hi⟩ := r
  cases lo <;> cases hi <;> simp [c_plus, b_plus, c_end_plus, b_end_plus, dR, dO, plusR, lim_pos]
theorem turn_ok {r : Rg} {n : Int} : c_turned_about fu [dR r, .int n] S = some (dR (turnR r n), S) := by
  obtain ⟨lo, hi⟩ := r
  cases lo <;> cases hi <;> simp [c_turned_about, b_turned_about, c__end_turned, b__end_turned, dR, dO, turnR, lim_pos]
theorem least_ok {r q : Rg} : c_least_of fu [dR r, dR q] S = some (dR (leastR r q), S) := by
  simp [c_least_of, b_least_of, dR, ll_ok, lh_ok, lim_pos, leastR]
theorem great_ok {r q : Rg} : c_greatest_of fu [dR r, dR q] S = some (dR (greatR r q), S) := by
  simp [c_greatest_of, b_greatest_of, dR, gl_ok, gh_ok, lim_pos, greatR]
theorem sp_plus {r : Rg} {n : Int} (o : OkR r) : c_span_plus fu [dR r, .int n] S = some (dR (plusR r n), S) := by
  simp [c_span_plus, b_span_plus, need_range_ok o, need_number_ok, plus_ok]
theorem sp_turn {r : Rg} {n : Int} (o : OkR r) : c_span_turned fu [dR r, .int n] S = some (dR (turnR r n), S) := by
  simp [c_span_turned, b_span_turned, need_range_ok o, need_number_ok, turn_ok]
theorem sp_least {r q : Rg} (o : OkR r) (o' : OkR q) : c_span_least fu [dR r, dR q] S = some (dR (leastR r q), S) := by
  simp [c_span_least, b_span_least, need_ranges_ok o o', least_ok]
theorem sp_great {r q : Rg} (o : OkR r) (o' : OkR q) : c_span_greatest fu [dR r, dR q] S = some (dR (greatR r q), S) := by
  simp [c_span_greatest, b_span_greatest, need_ranges_ok o o', great_ok]
theorem okr_plus {r : Rg} {n : Int} (o : OkR r) : OkR (plusR r n) := by
  obtain ⟨lo, hi⟩ := r
  intro a b h1 h2
  cases lo <;> cases hi <;> simp [plusR] at h1 h2
  have := o _ _ rfl rfl
  omega
theorem okr_turn {r : Rg} {n : Int} (o : OkR r) : OkR (turnR r n) := by
  obtain ⟨lo, hi⟩ := r
  intro a b h1 h2
  cases lo <;> cases hi <;> simp [turnR] at h1 h2
  have := o _ _ rfl rfl
  omega
theorem back_plus {r : Rg} {n : Int} : plusR (plusR r n) (0 - n) = r := by
  obtain ⟨lo, hi⟩ := r
  cases lo <;> cases hi <;> simp [plusR] <;> omega
theorem back_turn {r : Rg} {n : Int} : turnR (turnR r n) n = r := by
  obtain ⟨lo, hi⟩ := r
  cases lo <;> cases hi <;> simp [turnR] <;> omega
/-! the law's own ends are these -/
theorem d1 {r : Rg} {n : Int} (h : BdR (10 ^ 40) r) (hn : -10 ^ 40 ≤ n ∧ n ≤ 10 ^ 40) : dE (loP r + n) (hiP r + n) = dR (plusR r n) := by
  have f1 := f59; have f2 := F60_far
  show D.tup [dLo (loP r + n), dHi (hiP r + n)] = D.tup [dO (r.1.map (· + n)), dO (r.2.map (· + n))]
  have a : dLo (loP r + n) = dO (r.1.map (· + n)) := by
    rcases loC h with ⟨e1, e2⟩ | ⟨a, e1, e2, e3⟩
    · rw [dLo_far (by omega), e1]; rfl
    · rw [dLo_near (by omega), e1, e2]; rfl
  have b : dHi (hiP r + n) = dO (r.2.map (· + n)) := by
    rcases hiC h with ⟨e1, e2⟩ | ⟨a, e1, e2, e3⟩
    · rw [dHi_far (by omega), e1]; rfl
    · rw [dHi_near (by omega), e1, e2]; rfl
  rw [a, b]
theorem d2 {r : Rg} {n : Int} (h : BdR (10 ^ 40) r) (hn : -10 ^ 40 ≤ n ∧ n ≤ 10 ^ 40) : dE (n - hiP r) (n - loP r) = dR (turnR r n) := by
  have f1 := f59; have f2 := F60_far
  show D.tup [dLo (n - hiP r), dHi (n - loP r)] = D.tup [dO (r.2.map (n - ·)), dO (r.1.map (n - ·))]
  have a : dHi (n - loP r) = dO (r.1.map (n - ·)) := by
    rcases loC h with ⟨e1, e2⟩ | ⟨a, e1, e2, e3⟩
    · rw [dHi_far (by omega), e1]; rfl
    · rw [dHi_near (by omega), e1, e2]; rfl
  have b : dLo (n - hiP r) = dO (r.2.map (n - ·)) := by
    rcases hiC h with ⟨e1, e2⟩ | ⟨a, e1, e2, e3⟩
    · rw [dLo_far (by omega), e1]; rfl
    · rw [dLo_near (by omega), e1, e2]; rfl
  rw [a, b]
theorem d3 {r q : Rg} (h : BdR (10 ^ 40) r) (h' : BdR (10 ^ 40) q) : dE (mn (loP r) (loP q)) (mn (hiP r) (hiP q)) = dR (leastR r q) := by
  show D.tup [dLo _, dHi _] = D.tup [dO (ll r.1 q.1), dO (lh r.2 q.2)]
  rw [lo1 h h', hi2 h h']
theorem d4 {r q : Rg} (h : BdR (10 ^ 40) r) (h' : BdR (10 ^ 40) q) : dE (mx (loP r) (loP q)) (mx (hiP r) (hiP q)) = dR (greatR r q) := by
  show D.tup [dLo _, dHi _] = D.tup [dO (gl r.1 q.1), dO (gh r.2 q.2)]
  rw [lo2 h h', hi1 h h']
end K15
/-! K15p: going through all pairs. -/
namespace Lite
open PySem PySem.Spec PyProof.Rows L2
theorem forL_cell {b : SF} {t : Tg} {k : Nat} {ds : List D} (P : Nat → Env → Sto → Prop) : ∀ (n i : Nat) (env : Env) (S : Sto), P i env S → i ≤ ds.length → ds.length < n + i →
    (∀ i env S, P i env S → ∃ cl, S[k]? = some cl ∧ cl.items = ds) →
    (∀ i d env S, ds[i]? = some d → P i env S → ∃ e1, setTg t d env = some e1 ∧ ∃ e2 S2, b e1 S = some (.nx e2, S2) ∧ P (i + 1) e2 S2) →
    ∃ e' S', forL b t (.cell k) n i env S = some (.nx e', S') ∧ P ds.length e' S'
  | 0, i, env, S, h0, hi, hn, hk, hs => by omega
  | n + 1, i, env, S, h0, hi, hn, hk, hs => by
    obtain ⟨cl, hc, hcl⟩ := hk i env S h0
    unfold forL
    simp only [nextD, hc, hcl]
    cases q : ds[i]? with
    | none =>
      have : ds.length ≤ i := List.getElem?_eq_none_iff.mp q
      have e : i = ds.length := by omega
      subst e
      exact ⟨env, S, rfl, h0⟩
    | some d =>
      obtain ⟨e1, h1, e2, S2, h2, h3⟩ := hs i d env S q h0
      have hl := (List.getElem?_eq_some_iff.mp q).1
      simp only [h1, h2]
      exact forL_cell P n (i + 1) e2 S2 h3 (by omega) (by omega) hk hs
/-- only added to -/
def Ap (S S' : Sto) : Prop := ∃ T, S' = S ++ T
theorem Ap.refl {S : Sto} : Ap S S := ⟨[], by simp⟩
theorem Ap.app {S T : Sto} : Ap S (S ++ T) := ⟨T, rfl⟩
theorem Ap.trans {S S1 S2 : Sto} (h : Ap S S1) (h' : Ap S1 S2) : Ap S S2 := by
  obtain ⟨T, rfl⟩ := h
  obtain ⟨U, rfl⟩ := h'
  exact ⟨T ++ U, by rw [List.append_assoc]⟩
theorem Ap.get {S S' : Sto} (h : Ap S S') {k : Nat} {c : Cell} (e : S[k]? = some c) : S'[k]? = some c := by
  obtain ⟨T, rfl⟩ := h
  rw [List.getElem?_append_left (List.getElem?_eq_some_iff.mp e).1]
  exact e
theorem Ap.fr {S S' : Sto} (h : Ap S S') {g : Nat} : Fr g S S' := by
  obtain ⟨T, rfl⟩ := h
  exact .app
/-- ints of ints -/
theorem comp_ints {n v : Nat} {own : List Nat} {it : IFn} {f : EF} {env : Env} {S S1 : Sto} {k : Nat} {ns : List Int} (g : Int → Int) (hit : it env S = some (.cell k, S1)) (hk : S1[k]? = some (.lst (ns.map D.int)))
    (hb : ∀ i ∈ ns, f ((wipeE env own).set v (some (.int i))) S1 = some (.int (g i), S1)) (hn : ns.length < n) (hl : ns.length ≤ 1000) :
    eComp n own it (.nm v) tYesF f env S = some (.ref S1.length, S1 ++ [Cell.lst ((ns.map g).map D.int)]) := by
  have e := comp_pure (n := n) (own := own) (it := it) (t := .nm v) (c := tYesF) (f := f) (env := env) hit hk rfl (fun _ => true) (fun d => match d with
    | .int i => .int (g i)
    | d => d) (by
    intro d hd
    obtain ⟨i, hi, rfl⟩ := List.mem_map.mp hd
    exact ⟨_, rfl, rfl, fun _ => hb i hi⟩) (by rw [show (Cell.lst (ns.map D.int)).items = ns.map D.int from rfl, List.length_map]; exact hn) (by rw [show (Cell.lst (ns.map D.int)).items = ns.map D.int from rfl, List.length_map]; exact hl)
  rw [e]
  congr 5
  show ((ns.map D.int).filter fun _ => true).map _ = _
  rw [List.filter_eq_self.mpr fun _ _ => rfl, List.map_map, List.map_map]
  rfl
theorem add_lists {S : Sto} {k j : Nat} {xs ys : List D} (h1 : S[k]? = some (.lst xs)) (h2 : S[j]? = some (.lst ys)) (hl : xs.length + ys.length ≤ 1000) : gAdd (.ref k) (.ref j) S = some (.ref S.length, S ++ [Cell.lst (xs ++ ys)]) := by
  show (match S[k]?, S[j]? with
    | some (.lst ds), some (.lst es) => if ds.length + es.length ≤ lim then some (D.ref S.length, S ++ [Cell.lst (ds ++ es)]) else none
    | _, _ => none) = _
  rw [h1, h2]
  exact if_pos (lim_pos hl)
theorem refs_self {S4 : Sto} (xs : List (List D)) (z : Cell) {n : Nat} (h : xs.length = n) : ((S4 ++ xs.map Cell.lst) ++ [z])[S4.length + n]? = some z := by
  rw [List.getElem?_append_right (by simp [h]), List.length_append, List.length_map, h, Nat.sub_self]
  rfl
theorem refs_at {S4 : Sto} (xs : List (List D)) (z : Cell) {n i : Nat} {e : D} {x : List D} (h : xs.length = n) (h1 : ((List.range n).map fun i => D.ref (S4.length + i))[i]? = some e) (h2 : xs[i]? = some x) : ∃ j, e = .ref j ∧ ((S4 ++ xs.map Cell.lst) ++ [z])[j]? = some (.lst x) := by
  have hi := (List.getElem?_eq_some_iff.mp h2).1
  rw [List.getElem?_map, List.getElem?_range (by omega)] at h1
  cases h1
  refine ⟨_, rfl, ?_⟩
  rw [List.append_assoc, List.getElem?_append_right (Nat.le_add_right _ _), Nat.add_sub_cancel_left, List.getElem?_append_left (by rw [List.length_map]; exact hi), List.getElem?_map, h2]
  rfl
end Lite
namespace K15
open PySem PySem.Spec PyProof.Rows L2 Lite
variable {fu : Nat} {S : Sto}
def bp1 (fu : Nat) : SF := (sPar [3, 4] (aCons (eComp fu [7] (iSeq (eCall (c__law_all fu) (aCons (eVar 0) aNil))) (.nm 7) tYesF (eBin gAdd (eVar 7) (eVar 2))) (aCons (eComp fu [7] (iSeq (eCall (c__law_all fu) (aCons (eVar 0) aNil))) (.nm 7) tYesF (eBin gSub (eVar 2) (eVar 7))) aNil)))
def bp2 (fu : Nat) : SF := (sPar [5, 6] (aCons (eCall cLst aNil) (aCons (eCall cLst aNil) aNil)))
def bp3 (fu : Nat) : SF := (sFor fu (.nm 7) (iSeq (eCall (c__law_all fu) (aCons (eVar 0) aNil))) (sCons (sSet 5 (eBin gAdd (eVar 5) (eComp fu [8] (iSeq (eCall (c__law_all fu) (aCons (eVar 1) aNil))) (.nm 8) tYesF (eCall cMin (aCons (eVar 7) (aCons (eVar 8) aNil)))))) (sCons (sSet 6 (eBin gAdd (eVar 6) (eComp fu [8] (iSeq (eCall (c__law_all fu) (aCons (eVar 1) aNil))) (.nm 8) tYesF (eCall cMax (aCons (eVar 7) (aCons (eVar 8) aNil)))))) sNil)))
def bp4 (fu : Nat) : SF := (sRet (eComp fu [9] (iSeq (eCall cLst (aCons (eVar 3) (aCons (eVar 4) (aCons (eVar 5) (aCons (eVar 6) aNil)))))) (.nm 9) tYesF (eSset (eVar 9))))

structure Sml (a b c d n : Int) : Prop where
  a0 : -6 ≤ a
  b6 : b ≤ 6
  c0 : -6 ≤ c
  d6 : d ≤ 6
  ab : a ≤ b
  cd : c ≤ d
  n0 : -6 ≤ n
  n6 : n ≤ 6
theorem all_is {a b : Int} (h : -40 ≤ a) (h' : b ≤ 40) (hab : a ≤ b) : c__law_all fu [.tup [.int a, .int b]] S = some (.ref S.length, S ++ [Cell.lst ((rgI a (b + 1)).map D.int)]) := by
  rw [← rgD_is]
  exact all_ok (by omega) (by omega) (by omega)
theorem bp1_ok (hf : 10000 ≤ fu) {a b c d n : Int} (h : Sml a b c d n) : ∃ (k3 k4 : Nat) (S1 : Sto), bp1 fu [some (dR (some a, some b)), some (dR (some c, some d)), some (.int n), none, none, none, none, none, none, none] S = some (.nx [some (dR (some a, some b)), some (dR (some c, some d)), some (.int n), some (.ref k3), some (.ref k4), none, none, none, none, none], S1) ∧ S1[k3]? = some (.lst (((rgI a (b + 1)).map (· + n)).map D.int)) ∧ S1[k4]? = some (.lst (((rgI a (b + 1)).map (n - ·)).map D.int)) ∧ Ap S S1 := by
  obtain ⟨h1, h2, h3, h4, h5, h6, h7, h8⟩ := h
  have i1 : ∀ S : Sto, iSeq (eCall (c__law_all fu) (aCons (eVar 0) aNil)) [some (dR (some a, some b)), some (dR (some c, some d)), some (.int n), none, none, none, none, none, none, none] S = some (.cell S.length, S ++ [Cell.lst ((rgI a (b + 1)).map D.int)]) := fun S => by
    have e := all_is (fu := fu) (S := S) (a := a) (b := b) (by omega) (by omega) h5
    unfold iSeq
    simp only [r_eCall, r_aCons, r_eVar, r_aNil, List.getElem?_cons_zero]
    rw [show c__law_all fu [dR (some a, some b)] S = _ from e]
  have e1 := comp_ints (n := fu) (v := 7) (own := [7]) (f := eBin gAdd (eVar 7) (eVar 2)) (· + n) (i1 S) new_last (fun i _ => rfl) (by rw [rgI_len]; omega) (by rw [rgI_len]; omega)
  have e2 := comp_ints (n := fu) (v := 7) (own := [7]) (f := eBin gSub (eVar 2) (eVar 7)) (n - ·) (i1 ((S ++ [Cell.lst ((rgI a (b + 1)).map D.int)]) ++ [Cell.lst (((rgI a (b + 1)).map (· + n)).map D.int)])) new_last (fun i _ => rfl) (by rw [rgI_len]; omega) (by rw [rgI_len]; omega)
  refine ⟨_, _, _, ?_, (Ap.trans .app .app).get (k := (S ++ [Cell.lst ((rgI a (b + 1)).map D.int)]).length) new_last, new_last, ((Ap.app.trans .app).trans (Ap.app (T := [Cell.lst ((rgI a (b + 1)).map D.int)]))).trans .app⟩
  simp only [bp1, r_sPar, r_aCons, e1, e2, r_aNil, List.length_cons, List.length_nil, if_true, r_sets, r_sets0, List.set_cons_succ, List.set_cons_zero]
theorem bp2_ok {a b c d n : Int} {k3 k4 : Nat} : ∃ (k5 k6 : Nat) (S1 : Sto), bp2 fu [some (dR (some a, some b)), some (dR (some c, some d)), some (.int n), some (.ref k3), some (.ref k4), none, none, none, none, none] S = some (.nx [some (dR (some a, some b)), some (dR (some c, some d)), some (.int n), some (.ref k3), some (.ref k4), some (.ref k5), some (.ref k6), none, none, none], S1) ∧ S1[k5]? = some (.lst []) ∧ S1[k6]? = some (.lst []) ∧ Ap S S1 := by
  refine ⟨S.length, (S ++ [Cell.lst []]).length, (S ++ [Cell.lst []]) ++ [Cell.lst []], ?_, Ap.app.get new_last, new_last, Ap.app.trans .app⟩
  simp only [bp2, r_sPar, r_aCons, r_aNil, r_eCall, r_cLst, List.length_nil, if_pos (lim_pos (show 0 ≤ 1000 by decide)), List.length_cons, if_true, r_sets, r_sets0, List.set_cons_succ, List.set_cons_zero]
/-- what is gathered up to here -/
def gth (g : Int → Int → Int) (xs ys : List Int) : List Int := xs.flatMap fun x => ys.map (g x)
theorem gth_len (g : Int → Int → Int) (ys : List Int) : ∀ xs : List Int, (gth g xs ys).length = xs.length * ys.length
  | [] => by simp [gth]
  | x :: xs => by
    have ih := gth_len g ys xs
    unfold gth at ih ⊢
    rw [List.flatMap_cons, List.length_append, List.length_map, ih, List.length_cons, Nat.succ_mul]
    omega
theorem gth_take {g : Int → Int → Int} {xs ys : List Int} {i : Nat} {x : Int} (h : xs[i]? = some x) : gth g (xs.take (i + 1)) ys = gth g (xs.take i) ys ++ ys.map (g x) := by
  unfold gth
  rw [List.take_add_one, h, List.flatMap_append]
  simp
def bpb (fu : Nat) : SF := (sCons (sSet 5 (eBin gAdd (eVar 5) (eComp fu [8] (iSeq (eCall (c__law_all fu) (aCons (eVar 1) aNil))) (.nm 8) tYesF (eCall cMin (aCons (eVar 7) (aCons (eVar 8) aNil)))))) (sCons (sSet 6 (eBin gAdd (eVar 6) (eComp fu [8] (iSeq (eCall (c__law_all fu) (aCons (eVar 1) aNil))) (.nm 8) tYesF (eCall cMax (aCons (eVar 7) (aCons (eVar 8) aNil)))))) sNil))
theorem bpb_ok (hf : 10000 ≤ fu) {a b c d n x : Int} {k3 k4 k5 k6 : Nat} {p5 p6 : List Int} (h : Sml a b c d n) (h5 : S[k5]? = some (.lst (p5.map D.int))) (h6 : S[k6]? = some (.lst (p6.map D.int))) (l5 : p5.length ≤ 500) (l6 : p6.length ≤ 500) :
    ∃ (j5 j6 : Nat) (S1 : Sto), bpb fu [some (dR (some a, some b)), some (dR (some c, some d)), some (.int n), some (.ref k3), some (.ref k4), some (.ref k5), some (.ref k6), some (.int x), none, none] S = some (.nx [some (dR (some a, some b)), some (dR (some c, some d)), some (.int n), some (.ref k3), some (.ref k4), some (.ref j5), some (.ref j6), some (.int x), none, none], S1) ∧ S1[j5]? = some (.lst ((p5 ++ (rgI c (d + 1)).map (mn x)).map D.int)) ∧ S1[j6]? = some (.lst ((p6 ++ (rgI c (d + 1)).map (mx x)).map D.int)) ∧ Ap S S1 := by
  obtain ⟨g1, g2, g3, g4, g5, g6, g7, g8⟩ := h
  have i1 : ∀ (S : Sto) (k5 k6 : Nat), iSeq (eCall (c__law_all fu) (aCons (eVar 1) aNil)) [some (dR (some a, some b)), some (dR (some c, some d)), some (.int n), some (.ref k3), some (.ref k4), some (.ref k5), some (.ref k6), some (.int x), none, none] S = some (.cell S.length, S ++ [Cell.lst ((rgI c (d + 1)).map D.int)]) := fun S k5 k6 => by
    have e := all_is (fu := fu) (S := S) (a := c) (b := d) (by omega) (by omega) g6
    unfold iSeq
    simp only [r_eCall, r_aCons, r_eVar, r_aNil, List.getElem?_cons_zero, List.getElem?_cons_succ]
    rw [show c__law_all fu [dR (some c, some d)] S = _ from e]
  have e1 := comp_ints (n := fu) (v := 8) (own := [8]) (f := eCall cMin (aCons (eVar 7) (aCons (eVar 8) aNil))) (mn x) (i1 S k5 k6) new_last (fun i _ => rfl) (by rw [rgI_len]; omega) (by rw [rgI_len]; omega)
  have w1 : Ap S ((S ++ [Cell.lst ((rgI c (d + 1)).map D.int)]) ++ [Cell.lst (((rgI c (d + 1)).map (mn x)).map D.int)]) := Ap.app.trans .app
  have e2 := add_lists (w1.get h5) new_last (by rw [List.length_map, List.length_map, List.length_map, rgI_len]; omega)
  have w2 := w1.trans (Ap.app (T := [Cell.lst (p5.map D.int ++ ((rgI c (d + 1)).map (mn x)).map D.int)]))
  generalize hS2 : ((S ++ [Cell.lst ((rgI c (d + 1)).map D.int)]) ++ [Cell.lst (((rgI c (d + 1)).map (mn x)).map D.int)]) ++ [Cell.lst (p5.map D.int ++ ((rgI c (d + 1)).map (mn x)).map D.int)] = S2 at *
  generalize hk : ((S ++ [Cell.lst ((rgI c (d + 1)).map D.int)]) ++ [Cell.lst (((rgI c (d + 1)).map (mn x)).map D.int)]).length = j5 at *
  have hj5 : S2[j5]? = some (.lst (p5.map D.int ++ ((rgI c (d + 1)).map (mn x)).map D.int)) := by rw [← hS2, ← hk]; exact new_last
  have e3 := comp_ints (n := fu) (v := 8) (own := [8]) (f := eCall cMax (aCons (eVar 7) (aCons (eVar 8) aNil))) (mx x) (i1 S2 j5 k6) new_last (fun i _ => rfl) (by rw [rgI_len]; omega) (by rw [rgI_len]; omega)
  have w3 : Ap S2 ((S2 ++ [Cell.lst ((rgI c (d + 1)).map D.int)]) ++ [Cell.lst (((rgI c (d + 1)).map (mx x)).map D.int)]) := Ap.app.trans .app
  have e4 := add_lists (w3.get (w2.get h6)) new_last (by rw [List.length_map, List.length_map, List.length_map, rgI_len]; omega)
  have w4 := (w2.trans w3).trans (Ap.app (T := [Cell.lst (p6.map D.int ++ ((rgI c (d + 1)).map (mx x)).map D.int)]))
  have w5 := w3.trans (Ap.app (T := [Cell.lst (p6.map D.int ++ ((rgI c (d + 1)).map (mx x)).map D.int)]))
  generalize hS4 : ((S2 ++ [Cell.lst ((rgI c (d + 1)).map D.int)]) ++ [Cell.lst (((rgI c (d + 1)).map (mx x)).map D.int)]) ++ [Cell.lst (p6.map D.int ++ ((rgI c (d + 1)).map (mx x)).map D.int)] = S4 at *
  generalize hk6 : ((S2 ++ [Cell.lst ((rgI c (d + 1)).map D.int)]) ++ [Cell.lst (((rgI c (d + 1)).map (mx x)).map D.int)]).length = j6 at *
  refine ⟨j5, j6, S4, ?_, ?_, ?_, w4⟩
  · refine (cons_eq (e1 := [some (dR (some a, some b)), some (dR (some c, some d)), some (.int n), some (.ref k3), some (.ref k4), some (.ref j5), some (.ref k6), some (.int x), none, none]) (S1 := S2) ?_).trans ((cons_eq (e1 := [some (dR (some a, some b)), some (dR (some c, some d)), some (.int n), some (.ref k3), some (.ref k4), some (.ref j5), some (.ref j6), some (.int x), none, none]) (S1 := S4) ?_).trans rfl)
    · simp only [r_sSet, r_eBin, r_eVar, List.getElem?_cons_zero, List.getElem?_cons_succ, e1, e2, List.set_cons_succ, List.set_cons_zero]
    · simp only [r_sSet, r_eBin, r_eVar, List.getElem?_cons_zero, List.getElem?_cons_succ, e3, e4, List.set_cons_succ, List.set_cons_zero]
  · rw [List.map_append]
    exact w5.get hj5
  · rw [List.map_append, ← hS4, ← hk6]
    exact new_last
theorem bp3_ok (hf : 10000 ≤ fu) {a b c d n : Int} {k3 k4 k5 k6 : Nat} (h : Sml a b c d n) (h5 : S[k5]? = some (.lst [])) (h6 : S[k6]? = some (.lst [])) : ∃ (j5 j6 : Nat) (tv : Option D) (S1 : Sto), bp3 fu [some (dR (some a, some b)), some (dR (some c, some d)), some (.int n), some (.ref k3), some (.ref k4), some (.ref k5), some (.ref k6), none, none, none] S = some (.nx [some (dR (some a, some b)), some (dR (some c, some d)), some (.int n), some (.ref k3), some (.ref k4), some (.ref j5), some (.ref j6), tv, none, none], S1) ∧ S1[j5]? = some (.lst ((gth mn (rgI a (b + 1)) (rgI c (d + 1))).map D.int)) ∧ S1[j6]? = some (.lst ((gth mx (rgI a (b + 1)) (rgI c (d + 1))).map D.int)) ∧ Ap S S1 := by
  have hh := h
  obtain ⟨g1, g2, g3, g4, g5, g6, g7, g8⟩ := h
  have e0 := all_is (fu := fu) (S := S) (a := a) (b := b) (by omega) (by omega) g5
  have hit : iSeq (eCall (c__law_all fu) (aCons (eVar 0) aNil)) [some (dR (some a, some b)), some (dR (some c, some d)), some (.int n), some (.ref k3), some (.ref k4), some (.ref k5), some (.ref k6), none, none, none] S = some (.cell S.length, S ++ [Cell.lst ((rgI a (b + 1)).map D.int)]) := by
    unfold iSeq
    simp only [r_eCall, r_aCons, r_eVar, r_aNil, List.getElem?_cons_zero]
    rw [show c__law_all fu [dR (some a, some b)] S = _ from e0]
  have hlen : ((rgI a (b + 1)).map D.int).length ≤ 13 := by rw [List.length_map, rgI_len]; omega
  obtain ⟨e', S', hl, j5, j6, tv, rfl, p5, p6, w⟩ := forL_cell (b := bpb fu) (t := .nm 7) (k := S.length) (ds := (rgI a (b + 1)).map D.int)
    (fun i env S' => ∃ (j5 j6 : Nat) (tv : Option D), env = [some (dR (some a, some b)), some (dR (some c, some d)), some (.int n), some (.ref k3), some (.ref k4), some (.ref j5), some (.ref j6), tv, none, none] ∧ S'[j5]? = some (.lst ((gth mn ((rgI a (b + 1)).take i) (rgI c (d + 1))).map D.int)) ∧ S'[j6]? = some (.lst ((gth mx ((rgI a (b + 1)).take i) (rgI c (d + 1))).map D.int)) ∧ Ap (S ++ [Cell.lst ((rgI a (b + 1)).map D.int)]) S')
    fu 0 [some (dR (some a, some b)), some (dR (some c, some d)), some (.int n), some (.ref k3), some (.ref k4), some (.ref k5), some (.ref k6), none, none, none] (S ++ [Cell.lst ((rgI a (b + 1)).map D.int)]) ⟨k5, k6, none, rfl, Ap.app.get h5, Ap.app.get h6, .refl⟩ (Nat.zero_le _) (by omega) (fun i env S' ⟨_, _, _, _, _, _, w⟩ => ⟨_, w.get new_last, rfl⟩) (by
      rintro i x env S2 hx ⟨j5, j6, tv, rfl, p5, p6, w⟩
      rw [List.getElem?_map] at hx
      cases hi : (rgI a (b + 1))[i]? with
      | none => rw [hi] at hx; cases hx
      | some z =>
        rw [hi] at hx
        cases hx
        have hi13 : i < 13 := by
          have := (List.getElem?_eq_some_iff.mp hi).1
          rw [List.length_map] at hlen
          omega
        have bd : ∀ g, (gth g ((rgI a (b + 1)).take i) (rgI c (d + 1))).length ≤ 500 := fun g => by
          rw [gth_len, rgI_len, List.length_take]
          have h1 : min i (rgI a (b + 1)).length ≤ 13 := by omega
          have h2 : (d + 1 - c).toNat ≤ 13 := by omega
          exact Nat.le_trans (Nat.mul_le_mul h1 h2) (by decide)
        obtain ⟨m5, m6, S3, e, q5, q6, w2⟩ := bpb_ok hf (n := n) (x := z) (k3 := k3) (k4 := k4) hh p5 p6 (bd _) (bd _)
        exact ⟨_, rfl, _, S3, e, m5, m6, _, rfl, by rw [gth_take hi]; exact q5, by rw [gth_take hi]; exact q6, w.trans w2⟩)
  rw [List.length_map] at p5 p6
  rw [List.take_length] at p5 p6
  exact ⟨j5, j6, tv, S', for_eq hit hl, p5, p6, Ap.app.trans w⟩
theorem mn_mem {a b c d k : Int} (hab : a ≤ b) (hcd : c ≤ d) : k ∈ gth mn (rgI a (b + 1)) (rgI c (d + 1)) ↔ mn a c ≤ k ∧ k < mn b d + 1 := by
  have c1 := mnC a c; have c2 := mnC b d
  unfold gth
  simp only [List.mem_flatMap, List.mem_map, rgI_mem]
  constructor
  · rintro ⟨x, hx, y, hy, rfl⟩
    have := mnC x y
    omega
  · rintro ⟨h1, h2⟩
    by_cases ha : a ≤ k
    · refine ⟨k, by omega, mx k c, ?_, ?_⟩
      · have := mxC k c
        omega
      · have := mxC k c
        have := mnC k (mx k c)
        omega
    · refine ⟨mx k a, ?_, k, by omega, ?_⟩
      · have := mxC k a
        omega
      · have := mxC k a
        have := mnC (mx k a) k
        omega
theorem mx_mem {a b c d k : Int} (hab : a ≤ b) (hcd : c ≤ d) : k ∈ gth mx (rgI a (b + 1)) (rgI c (d + 1)) ↔ mx a c ≤ k ∧ k < mx b d + 1 := by
  have c1 := mxC a c; have c2 := mxC b d
  unfold gth
  simp only [List.mem_flatMap, List.mem_map, rgI_mem]
  constructor
  · rintro ⟨x, hx, y, hy, rfl⟩
    have := mxC x y
    omega
  · rintro ⟨h1, h2⟩
    by_cases ha : k ≤ b
    · refine ⟨k, by omega, mn k d, ?_, ?_⟩
      · have := mnC k d
        omega
      · have := mnC k d
        have := mxC k (mn k d)
        omega
    · refine ⟨mn k b, ?_, k, by omega, ?_⟩
      · have := mnC k b
        omega
      · have := mnC k b
        have := mxC (mn k b) k
        omega
def four (a b c d n : Int) : List (List D) := [rgD (a + n) (b + n + 1), rgD (n - b) (n - a + 1), rgD (mn a c) (mn b d + 1), rgD (mx a c) (mx b d + 1)]
theorem by_pairs_ok (hf : 10000 ≤ fu) {a b c d n : Int} (h : Sml a b c d n) : ∃ (k : Nat) (rs : List D) (S1 : Sto), c__law_by_pairs fu [dR (some a, some b), dR (some c, some d), .int n] S = some (.ref k, S1) ∧ S1[k]? = some (.lst rs) ∧ rs.length = 4 ∧ (∀ (i : Nat) e x, rs[i]? = some e → (four a b c d n)[i]? = some x → ∃ j, e = .ref j ∧ S1[j]? = some (.lst x)) ∧ Ap S S1 := by
  obtain ⟨k3, k4, S1, e1, p3, p4, w1⟩ := bp1_ok (S := S) hf h
  obtain ⟨k5, k6, S2, e2, p5, p6, w2⟩ := bp2_ok (fu := fu) (S := S1) (a := a) (b := b) (c := c) (d := d) (n := n) (k3 := k3) (k4 := k4)
  obtain ⟨j5, j6, tv, S3, e3, q5, q6, w3⟩ := bp3_ok hf (k3 := k3) (k4 := k4) h p5 p6
  obtain ⟨g1, g2, g3, g4, g5, g6, g7, g8⟩ := h
  have q3 := (w2.trans w3).get p3
  have q4 := (w2.trans w3).get p4
  have cm1 := mnC a c; have cm2 := mnC b d; have cx1 := mxC a c; have cx2 := mxC b d
  have l1 : (rgI a (b + 1)).length ≤ 13 := by rw [rgI_len]; omega
  have l2 : (rgI c (d + 1)).length ≤ 13 := by rw [rgI_len]; omega
  have t1 : (if (4 : Nat) ≤ lim then some (D.ref S3.length, S3 ++ [Cell.lst [.ref k3, .ref k4, .ref j5, .ref j6]]) else none) = some (D.ref S3.length, S3 ++ [Cell.lst [.ref k3, .ref k4, .ref j5, .ref j6]]) := if_pos (lim_pos (by decide))
  have hit : iSeq (eCall cLst (aCons (eVar 3) (aCons (eVar 4) (aCons (eVar 5) (aCons (eVar 6) aNil))))) [some (dR (some a, some b)), some (dR (some c, some d)), some (.int n), some (.ref k3), some (.ref k4), some (.ref j5), some (.ref j6), tv, none, none] S3 = some (.cell S3.length, S3 ++ [Cell.lst [.ref k3, .ref k4, .ref j5, .ref j6]]) := by
    unfold iSeq
    simp only [r_eCall, r_aCons, r_eVar, r_aNil, List.getElem?_cons_zero, List.getElem?_cons_succ, r_cLst, List.length_cons, List.length_nil, Nat.zero_add, Nat.reduceAdd, t1]
  have bd : ∀ g, (gth g (rgI a (b + 1)) (rgI c (d + 1))).length ≤ 4000 := fun g => by
    rw [gth_len]
    exact Nat.le_trans (Nat.mul_le_mul l1 l2) (by decide)
  have e4 := comp_alloc (n := fu) (own := [9]) (t := .nm 9) (c := tYesF) (f := eSset (eVar 9)) (hs := four a b c d n) hit new_last rfl rfl (by
    intro i e x T h1 h2
    refine ⟨_, rfl, rfl, ?_⟩
    have w : Ap S3 ((S3 ++ [Cell.lst [.ref k3, .ref k4, .ref j5, .ref j6]]) ++ T) := Ap.app.trans .app
    match i with
    | 0 =>
      cases h1; cases h2
      exact sset_ok rfl (w.get q3) (fun k => by
        simp only [List.mem_map, rgI_mem]
        exact ⟨fun ⟨z, hz, e⟩ => by omega, fun hk => ⟨k - n, by omega, by omega⟩⟩) (by rw [List.length_map]; omega) (by omega)
    | 1 =>
      cases h1; cases h2
      exact sset_ok rfl (w.get q4) (fun k => by
        simp only [List.mem_map, rgI_mem]
        exact ⟨fun ⟨z, hz, e⟩ => by omega, fun hk => ⟨n - k, by omega, by omega⟩⟩) (by rw [List.length_map]; omega) (by omega)
    | 2 =>
      cases h1; cases h2
      exact sset_ok rfl (w.get q5) (fun k => mn_mem g5 g6) (bd _) (by omega)
    | 3 =>
      cases h1; cases h2
      exact sset_ok rfl (w.get q6) (fun k => mx_mem g5 g6) (bd _) (by omega)
    | i + 4 => cases h1) (by show 4 < fu; omega) (by show 4 ≤ 1000; decide)
  refine ⟨(S3 ++ [Cell.lst [.ref k3, .ref k4, .ref j5, .ref j6]]).length + 4, (List.range 4).map (fun i => D.ref ((S3 ++ [Cell.lst [.ref k3, .ref k4, .ref j5, .ref j6]]).length + i)), ((S3 ++ [Cell.lst [.ref k3, .ref k4, .ref j5, .ref j6]]) ++ (four a b c d n).map Cell.lst) ++ [Cell.lst ((List.range 4).map (fun i => D.ref ((S3 ++ [Cell.lst [.ref k3, .ref k4, .ref j5, .ref j6]]).length + i)))], fn_eq rfl ((cons_eq (f := bp1 fu) e1).trans ((cons_eq (f := bp2 fu) e2).trans ((cons_eq (f := bp3 fu) e3).trans (cons_rt (f := bp4 fu) ?_)))), ?_, rfl, ?_, ((w1.trans w2).trans w3).trans ((Ap.app.trans .app).trans .app)⟩
  · show (match eComp fu [9] _ (.nm 9) tYesF (eSset (eVar 9)) _ S3 with
      | some (d, S1) => some (Out.rt d, S1)
      | none => none) = _
    rw [e4]
    rfl
  · exact refs_self _ _ rfl
  · intro i e x h1 h2
    exact refs_at _ _ rfl h1 h2
end K15
/-! K15r: the law's own function, statement by statement; the law. -/
namespace K15
open PySem PySem.Spec PyProof.Rows L2 Lite
variable {fu : Nat} {S : Sto}
def rt1 (fu : Nat) : SF := (sSet 1 (eBin gIx (eCall cLst (aCons (eC (.int 6)) (aCons (eC (.int 6)) (aCons (eC (.int 6)) (aCons (eBin gSub (eBin (gArith fPow) (eC (.int 10)) (eC (.int 30))) (eC (.int 1))) aNil))))) (eCall (c__law_random fu) (aCons (eVar 0) (aCons (eC (.int 4)) aNil)))))
def rt2 (fu : Nat) : SF := (sPar [2, 3, 4] (aCons (eCall (c__law_range fu) (aCons (eVar 0) (aCons (eVar 1) aNil))) (aCons (eCall (c__law_range fu) (aCons (eVar 0) (aCons (eVar 1) aNil))) (aCons (eCall (c__law_number fu) (aCons (eVar 0) (aCons (eVar 1) aNil))) aNil))))
def rt3 (fu : Nat) : SF := (sSet 5 (eCall (c__law_pairs fu) (aCons (eCall cLst (aCons (eVar 2) (aCons (eVar 3) aNil))) aNil)))
def rt4 (fu : Nat) : SF := (sAsg (.tp [6, 7]) (eBin gIx (eVar 5) (eC (.int 0))))
def rt5 (fu : Nat) : SF := (sAsg (.tp [8, 9]) (eBin gIx (eVar 5) (eC (.int 1))))
def rt6 (fu : Nat) : SF := (sSet 10 (eCall cLst (aCons (eCall (c__law_end fu) (aCons (eBin gAdd (eVar 6) (eVar 4)) (aCons (eBin gAdd (eVar 7) (eVar 4)) aNil))) (aCons (eCall (c__law_end fu) (aCons (eBin gSub (eVar 4) (eVar 7)) (aCons (eBin gSub (eVar 4) (eVar 6)) aNil))) aNil))))
def rt7 (fu : Nat) : SF := (sSet 10 (eBin gAdd (eVar 10) (eCall cLst (aCons (eCall (c__law_end fu) (aCons (eCall cMin (aCons (eVar 6) (aCons (eVar 8) aNil))) (aCons (eCall cMin (aCons (eVar 7) (aCons (eVar 9) aNil))) aNil))) (aCons (eCall (c__law_end fu) (aCons (eCall cMax (aCons (eVar 6) (aCons (eVar 8) aNil))) (aCons (eCall cMax (aCons (eVar 7) (aCons (eVar 9) aNil))) aNil))) aNil)))))
def rt8 (fu : Nat) : SF := (sSet 11 (eCall cLst (aCons (eCall (c_span_plus fu) (aCons (eVar 2) (aCons (eVar 4) aNil))) (aCons (eCall (c_span_turned fu) (aCons (eVar 2) (aCons (eVar 4) aNil))) (aCons (eCall (c_span_least fu) (aCons (eVar 2) (aCons (eVar 3) aNil))) (aCons (eCall (c_span_greatest fu) (aCons (eVar 2) (aCons (eVar 3) aNil))) aNil))))))
def rt9 (fu : Nat) : SF := (sIf (truB (eBin (gEqv true) (eCall cRepr (aCons (eVar 11) aNil)) (eCall cRepr (aCons (eVar 10) aNil)))) (sCons (sRet (eC (.bl false))) sNil) sNil)
def rt10 (fu : Nat) : SF := (sIf (tAndF (truB (eBin (gEqv false) (eVar 1) (eC (.int 6)))) (tAndF (truB (eBin (gIn true) (eC .non) (eVar 2))) (truB (eBin (gIn true) (eC .non) (eVar 3))))) (sCons (sIf (truB (eBin (gEqv true) (eCall cRepr (aCons (eComp fu [14] (iSeq (eVar 11)) (.nm 14) tYesF (eCall (c__law_all fu) (aCons (eVar 14) aNil))) aNil)) (eCall cRepr (aCons (eCall (c__law_by_pairs fu) (aCons (eVar 2) (aCons (eVar 3) (aCons (eVar 4) aNil)))) aNil)))) (sCons (sRet (eC (.bl false))) sNil) sNil) sNil) sNil)
def rt11 (fu : Nat) : SF := (sSet 12 (eCall cLst (aCons (eCallK (c_span_plus fu) 0 2 [1, 0] aNil (aCons (eVar 4) (aCons (eVar 2) aNil))) (aCons (eCallK (c_span_turned fu) 0 2 [1, 0] aNil (aCons (eVar 4) (aCons (eVar 2) aNil))) (aCons (eCallK (c_span_least fu) 0 2 [1, 0] aNil (aCons (eVar 2) (aCons (eVar 3) aNil))) (aCons (eCallK (c_span_greatest fu) 0 2 [1, 0] aNil (aCons (eVar 2) (aCons (eVar 3) aNil))) aNil))))))
def rt12 (fu : Nat) : SF := (sSet 13 (eCall cLst (aCons (eCall (c_span_plus fu) (aCons (eBin gIx (eVar 11) (eC (.int 0))) (aCons (eBin gSub (eC (.int 0)) (eVar 4)) aNil))) (aCons (eCall (c_span_turned fu) (aCons (eBin gIx (eVar 11) (eC (.int 1))) (aCons (eVar 4) aNil))) aNil))))
def rt13 (fu : Nat) : SF := (sRet (eAnd (eBin (gEqv false) (eCall cRepr (aCons (eVar 12) aNil)) (eCall cRepr (aCons (eVar 10) aNil))) (eBin (gEqv false) (eCall cRepr (aCons (eVar 13) aNil)) (eCall cRepr (aCons (eCall cLst (aCons (eVar 2) (aCons (eVar 2) aNil))) aNil)))))
def lw1 (fu : Nat) : SF := (sFor fu (.nm 1) (iRange1 (aCons (eC (.int 5)) aNil)) (sCons (sIf (tNotF (truF (eCall (c__law_right fu) (aCons (eCall (c__law_generator fu) (aCons (eVar 0) (aCons (eVar 1) aNil))) aNil)))) (sCons (sRet (eC (.bl false))) sNil) sNil) sNil))
def lw2 (fu : Nat) : SF := (sSet 2 (eBin gSub (eBin (gArith fPow) (eC (.int 10)) (eC (.int 30))) (eC (.int 1))))
def lw3 (fu : Nat) : SF := (sSet 3 (eCall cLst (aCons (eCall (c_span_plus fu) (aCons (eCall cTup (aCons (eC (.int 0)) (aCons (eVar 2) aNil))) (aCons (eVar 2) aNil))) (aCons (eCall (c_span_turned fu) (aCons (eCall cTup (aCons (eNeg (eVar 2)) (aCons (eC .non) aNil))) (aCons (eVar 2) aNil))) aNil))))
def lw4 (fu : Nat) : SF := (sSet 3 (eBin gAdd (eVar 3) (eCall cLst (aCons (eCall (c_span_plus fu) (aCons (eCall cTup (aCons (eC .non) (aCons (eC (.int 4)) aNil))) (aCons (eNeg (eC (.int 4))) aNil))) (aCons (eCall (c_span_turned fu) (aCons (eCall cTup (aCons (eC .non) (aCons (eC (.int 4)) aNil))) (aCons (eC (.int 0)) aNil))) (aCons (eCall (c_span_turned fu) (aCons (eCall cTup (aCons (eC (.int 3)) (aCons (eC (.int 9)) aNil))) (aCons (eC (.int 10)) aNil))) (aCons (eCall (c_span_least fu) (aCons (eCall cTup (aCons (eC .non) (aCons (eC (.int 4)) aNil))) (aCons (eCall cTup (aCons (eC (.int 9)) (aCons (eC .non) aNil))) aNil))) (aCons (eCall (c_span_greatest fu) (aCons (eCall cTup (aCons (eC .non) (aCons (eC (.int 4)) aNil))) (aCons (eCall cTup (aCons (eC (.int 9)) (aCons (eC .non) aNil))) aNil))) aNil))))))))
def lw5 (fu : Nat) : SF := (sRet (eBin (gEqv false) (eCall cRepr (aCons (eVar 3) aNil)) (eCall cRepr (aCons (eCall cLst (aCons (eCall cTup (aCons (eVar 2) (aCons (eBin (gArith fMul) (eC (.int 2)) (eVar 2)) aNil))) (aCons (eCall cTup (aCons (eC .non) (aCons (eBin (gArith fMul) (eC (.int 2)) (eVar 2)) aNil))) (aCons (eCall cTup (aCons (eC .non) (aCons (eC (.int 0)) aNil))) (aCons (eCall cTup (aCons (eNeg (eC (.int 4))) (aCons (eC .non) aNil))) (aCons (eCall cTup (aCons (eC (.int 1)) (aCons (eC (.int 7)) aNil))) (aCons (eCall cTup (aCons (eC .non) (aCons (eC (.int 4)) aNil))) (aCons (eCall cTup (aCons (eC (.int 9)) (aCons (eC .non) aNil))) aNil)))))))) aNil))))

theorem p30 : fPow 10 30 = some (10 ^ 30) := by decide +kernel
theorem pk2 {a b : D} : pick ([] ++ [a, b]) [1, 0] = [b, a] := rfl
theorem ix4 {a b c d : D} {i : Int} (h0 : 0 ≤ i) (h1 : i < 4) : atI [a, b, c, d] i = some a ∨ atI [a, b, c, d] i = some b ∨ atI [a, b, c, d] i = some c ∨ atI [a, b, c, d] i = some d := by
  have : i = 0 ∨ i = 1 ∨ i = 2 ∨ i = 3 := by omega
  rcases this with rfl | rfl | rfl | rfl
  · exact .inl rfl
  · exact .inr (.inl rfl)
  · exact .inr (.inr (.inl rfl))
  · exact .inr (.inr (.inr rfl))
theorem rt1_ok (hf : 10000 ≤ fu) {g : Nat} {B : Int} (hg : Gen S g B) (hB : B ≤ 2 ^ 50) : ∃ (m : Int) (S1 : Sto), rt1 fu [some (.ref g), none, none, none, none, none, none, none, none, none, none, none, none, none, none] S = some (.nx [some (.ref g), some (.int m), none, none, none, none, none, none, none, none, none, none, none, none, none], S1) ∧ 0 ≤ m ∧ m ≤ 10 ^ 30 ∧ Gen S1 g (B + 5) ∧ Fr g S S1 := by
  obtain ⟨i, S1, e, i0, i1, g1, f1, n1⟩ := random_ok hf (b := 4) (hg.app (T := [Cell.lst [.int 6, .int 6, .int 6, .int (10 ^ 30 - 1)]])) (by omega) (by decide) (by decide)
  have hgl : g < S.length := by
    obtain ⟨_, _, _, e, _⟩ := hg
    exact (List.getElem?_eq_some_iff.mp e).1
  have hk : S1[S.length]? = some (.lst [.int 6, .int 6, .int 6, .int (10 ^ 30 - 1)]) := by
    rw [f1.keep S.length (by simp) (by omega)]
    exact new_last
  have hm : ∃ m : Int, atI [D.int 6, D.int 6, D.int 6, D.int (10 ^ 30 - 1)] i = some (.int m) ∧ 0 ≤ m ∧ m ≤ 10 ^ 30 := by
    rcases ix4 (a := .int 6) (b := .int 6) (c := .int 6) (d := .int (10 ^ 30 - 1)) i0 i1 with h | h | h | h
    · exact ⟨6, h, by decide, by decide⟩
    · exact ⟨6, h, by decide, by decide⟩
    · exact ⟨6, h, by decide, by decide⟩
    · exact ⟨10 ^ 30 - 1, h, by decide, by decide⟩
  obtain ⟨m, hm, m0, m1⟩ := hm
  refine ⟨m, S1, ?_, m0, m1, g1, Fr.app.trans f1⟩
  have e' : c__law_random fu [.ref g, .int 4] (S ++ [Cell.lst [.int 6, .int 6, .int 6, .int (10 ^ 30 - 1)]]) = some (.int i, S1) := e
  have t1 : (if (4 : Nat) ≤ lim then some (D.ref S.length, S ++ [Cell.lst [.int 6, .int 6, .int 6, .int (10 ^ 30 - 1)]]) else none) = some (D.ref S.length, S ++ [Cell.lst [.int 6, .int 6, .int 6, .int (10 ^ 30 - 1)]]) := if_pos (lim_pos (by decide))
  simp only [rt1, r_sSet, r_eBin, r_eCall, r_aCons, r_aNil, r_eC, r_eVar, r_arith, p30, r_sub, r_cLst, List.length_cons, List.length_nil, Nat.zero_add, Nat.reduceAdd, t1, List.getElem?_cons_zero, e', r_ix_ref hk, Cell.items, hm, List.set_cons_succ, List.set_cons_zero]
theorem rt2_ok (hf : 10000 ≤ fu) {g : Nat} {B m : Int} (hg : Gen S g B) (hB : B ≤ 2 ^ 50) (m0 : 0 ≤ m) (m1 : m ≤ 10 ^ 30) : ∃ (r q : Rg) (n : Int) (S1 : Sto), rt2 fu [some (.ref g), some (.int m), none, none, none, none, none, none, none, none, none, none, none, none, none] S = some (.nx [some (.ref g), some (.int m), some (dR r), some (dR q), some (.int n), none, none, none, none, none, none, none, none, none, none], S1) ∧ OkR r ∧ OkR q ∧ BdR m r ∧ BdR m q ∧ -m ≤ n ∧ n ≤ m ∧ Fr g S S1 := by
  obtain ⟨r, S1, e1, o1, b1, g1, f1⟩ := range_ok hf hg (by omega) m0 (Int.lt_of_le_of_lt m1 (by decide))
  obtain ⟨q, S2, e2, o2, b2, g2, f2⟩ := range_ok hf g1 (by omega) m0 (Int.lt_of_le_of_lt m1 (by decide))
  obtain ⟨n, S3, e3, n0, n1, g3, f3, _⟩ := number_ok hf g2 (by omega) m0 (Int.lt_of_le_of_lt m1 (by decide))
  have e1' : c__law_range fu [.ref g, .int m] S = some (dR r, S1) := e1
  have e2' : c__law_range fu [.ref g, .int m] S1 = some (dR q, S2) := e2
  have e3' : c__law_number fu [.ref g, .int m] S2 = some (.int n, S3) := e3
  refine ⟨r, q, n, S3, ?_, o1, o2, b1, b2, n0, n1, (f1.trans f2).trans f3⟩
  simp only [rt2, r_sPar, r_eCall, r_aCons, r_aNil, r_eVar, List.getElem?_cons_zero, List.getElem?_cons_succ, e1', e2', e3', List.length_cons, List.length_nil, if_true, r_sets, r_sets0, List.set_cons_succ, List.set_cons_zero]
theorem rt3_ok (hf : 10000 ≤ fu) {g : Nat} {m n : Int} {r q : Rg} : ∃ (kp : Nat) (S1 : Sto), rt3 fu [some (.ref g), some (.int m), some (dR r), some (dR q), some (.int n), none, none, none, none, none, none, none, none, none, none] S = some (.nx [some (.ref g), some (.int m), some (dR r), some (dR q), some (.int n), some (.ref kp), none, none, none, none, none, none, none, none, none], S1) ∧ S1[kp]? = some (.lst [dP r, dP q]) ∧ Ap S S1 := by
  have t1 : (if (2 : Nat) ≤ lim then some (D.ref S.length, S ++ [Cell.lst [dR r, dR q]]) else none) = some (D.ref S.length, S ++ [Cell.lst [dR r, dR q]]) := if_pos (lim_pos (by decide))
  have e := pairs_ok hf (S := S ++ [Cell.lst [dR r, dR q]]) (k := S.length) (r := r) (q := q) new_last
  refine ⟨(S ++ [Cell.lst [dR r, dR q]]).length, (S ++ [Cell.lst [dR r, dR q]]) ++ [Cell.lst [dP r, dP q]], ?_, new_last, Ap.app.trans .app⟩
  simp only [rt3, r_sSet, r_eCall, r_aCons, r_aNil, r_eVar, List.getElem?_cons_zero, List.getElem?_cons_succ, r_cLst, List.length_cons, List.length_nil, Nat.zero_add, Nat.reduceAdd, t1, e, List.set_cons_succ, List.set_cons_zero]
theorem rt4_ok {g kp : Nat} {m n : Int} {r q : Rg} (hk : S[kp]? = some (.lst [dP r, dP q])) : rt4 fu [some (.ref g), some (.int m), some (dR r), some (dR q), some (.int n), some (.ref kp), none, none, none, none, none, none, none, none, none] S = some (.nx [some (.ref g), some (.int m), some (dR r), some (dR q), some (.int n), some (.ref kp), some (.int (loP r)), some (.int (hiP r)), none, none, none, none, none, none, none], S) := by
  simp only [rt4, r_sAsg, r_eBin, r_eC, r_eVar, List.getElem?_cons_zero, List.getElem?_cons_succ, r_ix_ref hk, Cell.items, ix20]
  rfl
theorem rt5_ok {g kp : Nat} {m n : Int} {r q : Rg} (hk : S[kp]? = some (.lst [dP r, dP q])) : rt5 fu [some (.ref g), some (.int m), some (dR r), some (dR q), some (.int n), some (.ref kp), some (.int (loP r)), some (.int (hiP r)), none, none, none, none, none, none, none] S = some (.nx [some (.ref g), some (.int m), some (dR r), some (dR q), some (.int n), some (.ref kp), some (.int (loP r)), some (.int (hiP r)), some (.int (loP q)), some (.int (hiP q)), none, none, none, none, none], S) := by
  simp only [rt5, r_sAsg, r_eBin, r_eC, r_eVar, List.getElem?_cons_zero, List.getElem?_cons_succ, r_ix_ref hk, Cell.items, ix21]
  rfl
theorem rMin {i j : Int} : cMin [.int i, .int j] S = some (.int (mn i j), S) := rfl
theorem rMax {i j : Int} : cMax [.int i, .int j] S = some (.int (mx i j), S) := rfl
theorem cell2 (x y : D) : (if (2 : Nat) ≤ lim then some (D.ref S.length, S ++ [Cell.lst [x, y]]) else none) = some (D.ref S.length, S ++ [Cell.lst [x, y]]) := if_pos (lim_pos (by decide))
theorem cell4 (x y z w : D) : (if (4 : Nat) ≤ lim then some (D.ref S.length, S ++ [Cell.lst [x, y, z, w]]) else none) = some (D.ref S.length, S ++ [Cell.lst [x, y, z, w]]) := if_pos (lim_pos (by decide))
def its (r q : Rg) (n : Int) : List D := [dR (plusR r n), dR (turnR r n), dR (leastR r q), dR (greatR r q)]
theorem rt6_ok {g kp : Nat} {m n : Int} {r q : Rg} (h : BdR (10 ^ 40) r) (hn : -10 ^ 40 ≤ n ∧ n ≤ 10 ^ 40) : rt6 fu [some (.ref g), some (.int m), some (dR r), some (dR q), some (.int n), some (.ref kp), some (.int (loP r)), some (.int (hiP r)), some (.int (loP q)), some (.int (hiP q)), none, none, none, none, none] S = some (.nx [some (.ref g), some (.int m), some (dR r), some (dR q), some (.int n), some (.ref kp), some (.int (loP r)), some (.int (hiP r)), some (.int (loP q)), some (.int (hiP q)), some (.ref S.length), none, none, none, none], S ++ [Cell.lst [dR (plusR r n), dR (turnR r n)]]) := by
  simp only [rt6, r_sSet, r_eBin, r_eCall, r_aCons, r_aNil, r_eVar, List.getElem?_cons_zero, List.getElem?_cons_succ, r_add, r_sub, end_is, d1 h hn, d2 h hn, r_cLst, List.length_cons, List.length_nil, Nat.zero_add, Nat.reduceAdd, cell2, List.set_cons_succ, List.set_cons_zero]
theorem rt7_ok {g kp k0 : Nat} {m n : Int} {r q : Rg} (h : BdR (10 ^ 40) r) (h' : BdR (10 ^ 40) q) (hk : S[k0]? = some (.lst [dR (plusR r n), dR (turnR r n)])) : ∃ (kd : Nat) (S1 : Sto), rt7 fu [some (.ref g), some (.int m), some (dR r), some (dR q), some (.int n), some (.ref kp), some (.int (loP r)), some (.int (hiP r)), some (.int (loP q)), some (.int (hiP q)), some (.ref k0), none, none, none, none] S = some (.nx [some (.ref g), some (.int m), some (dR r), some (dR q), some (.int n), some (.ref kp), some (.int (loP r)), some (.int (hiP r)), some (.int (loP q)), some (.int (hiP q)), some (.ref kd), none, none, none, none], S1) ∧ S1[kd]? = some (.lst (its r q n)) ∧ Ap S S1 := by
  have a1 := add_lists ((Ap.app (T := [Cell.lst [dR (leastR r q), dR (greatR r q)]])).get hk) new_last (show 2 + 2 ≤ 1000 by decide)
  refine ⟨(S ++ [Cell.lst [dR (leastR r q), dR (greatR r q)]]).length, (S ++ [Cell.lst [dR (leastR r q), dR (greatR r q)]]) ++ [Cell.lst (its r q n)], ?_, new_last, Ap.app.trans .app⟩
  simp only [rt7, r_sSet, r_eBin, r_eCall, r_aCons, r_aNil, r_eVar, List.getElem?_cons_zero, List.getElem?_cons_succ, rMin, rMax, end_is, d3 h h', d4 h h', r_cLst, List.length_cons, List.length_nil, Nat.zero_add, Nat.reduceAdd, cell2, a1, List.set_cons_succ, List.set_cons_zero]
  rfl
theorem rt8_ok {g kp kd : Nat} {m n : Int} {r q : Rg} (o : OkR r) (o' : OkR q) : rt8 fu [some (.ref g), some (.int m), some (dR r), some (dR q), some (.int n), some (.ref kp), some (.int (loP r)), some (.int (hiP r)), some (.int (loP q)), some (.int (hiP q)), some (.ref kd), none, none, none, none] S = some (.nx [some (.ref g), some (.int m), some (dR r), some (dR q), some (.int n), some (.ref kp), some (.int (loP r)), some (.int (hiP r)), some (.int (loP q)), some (.int (hiP q)), some (.ref kd), some (.ref S.length), none, none, none], S ++ [Cell.lst (its r q n)]) := by
  simp only [rt8, r_sSet, r_eBin, r_eCall, r_aCons, r_aNil, r_eVar, List.getElem?_cons_zero, List.getElem?_cons_succ, sp_plus o, sp_turn o, sp_least o o', sp_great o o', r_cLst, List.length_cons, List.length_nil, Nat.zero_add, Nat.reduceAdd, cell4, List.set_cons_succ, List.set_cons_zero]
  rfl
theorem sm41 {i : Int} (h : -10 ^ 41 ≤ i ∧ i ≤ 10 ^ 41) : Sm 1000 i := by
  have h2 : i.natAbs ≤ 10 ^ 41 := by omega
  exact Nat.lt_of_le_of_lt h2 (by decide +kernel)
theorem bd_plus {r : Rg} {n : Int} (h : BdR (10 ^ 40) r) (hn : -10 ^ 40 ≤ n ∧ n ≤ 10 ^ 40) : BdR (10 ^ 41) (plusR r n) := by
  obtain ⟨lo, up⟩ := r
  constructor
  · intro i e
    cases lo with
    | none => cases e
    | some a => cases e; have := h.1 a rfl; dsimp only; omega
  · intro i e
    cases up with
    | none => cases e
    | some a => cases e; have := h.2 a rfl; dsimp only; omega
theorem bd_turn {r : Rg} {n : Int} (h : BdR (10 ^ 40) r) (hn : -10 ^ 40 ≤ n ∧ n ≤ 10 ^ 40) : BdR (10 ^ 41) (turnR r n) := by
  obtain ⟨lo, up⟩ := r
  constructor
  · intro i e
    cases up with
    | none => cases e
    | some a => cases e; have := h.2 a rfl; dsimp only; omega
  · intro i e
    cases lo with
    | none => cases e
    | some a => cases e; have := h.1 a rfl; dsimp only; omega
theorem bd_ll {x y : Option Int} {k : Int} (h : BdO k x) (h' : BdO k y) : BdO k (ll x y) := fun i e => by
  cases x with
  | none => cases y <;> cases e
  | some a =>
    cases y with
    | none => cases e
    | some b => cases e; have := h a rfl; have := h' b rfl; have := mnC a b; omega
theorem bd_gh {x y : Option Int} {k : Int} (h : BdO k x) (h' : BdO k y) : BdO k (gh x y) := fun i e => by
  cases x with
  | none => cases y <;> cases e
  | some a =>
    cases y with
    | none => cases e
    | some b => cases e; have := h a rfl; have := h' b rfl; have := mxC a b; omega
theorem bd_gl {x y : Option Int} {k : Int} (h : BdO k x) (h' : BdO k y) : BdO k (gl x y) := fun i e => by
  cases x with
  | none => exact h' i e
  | some a =>
    cases y with
    | none => exact h i e
    | some b => cases e; have := h a rfl; have := h' b rfl; have := mxC a b; omega
theorem bd_lh {x y : Option Int} {k : Int} (h : BdO k x) (h' : BdO k y) : BdO k (lh x y) := fun i e => by
  cases x with
  | none => exact h' i e
  | some a =>
    cases y with
    | none => exact h i e
    | some b => cases e; have := h a rfl; have := h' b rfl; have := mnC a b; omega
theorem good_of {r : Rg} (h : BdR (10 ^ 41) r) : Good (dR r) := good_dR fun i e => sm41 (by
  rcases e with e | e
  · exact h.1 i e
  · exact h.2 i e)
theorem bdR_mono {m k : Int} {r : Rg} (h : BdR m r) (hk : m ≤ k) : BdR k r := ⟨fun i e => by have := h.1 i e; omega, fun i e => by have := h.2 i e; omega⟩
theorem good_its {r q : Rg} {n : Int} (h : BdR (10 ^ 40) r) (h' : BdR (10 ^ 40) q) (hn : -10 ^ 40 ≤ n ∧ n ≤ 10 ^ 40) : ∀ d ∈ its r q n, Good d := by
  have b1 := bdR_mono h (show (10 : Int) ^ 40 ≤ 10 ^ 41 by decide)
  have b2 := bdR_mono h' (show (10 : Int) ^ 40 ≤ 10 ^ 41 by decide)
  intro d hd
  simp only [its, List.mem_cons, List.not_mem_nil, or_false] at hd
  rcases hd with rfl | rfl | rfl | rfl
  · exact good_of (bd_plus h hn)
  · exact good_of (bd_turn h hn)
  · exact good_of ⟨bd_ll b1.1 b2.1, bd_lh b1.2 b2.2⟩
  · exact good_of ⟨bd_gl b1.1 b2.1, bd_gh b1.2 b2.2⟩
theorem ne_str {x : Str} : gEqv true (.str x) (.str x) S = some (.bl false, S) := by
  show some (D.bl !decide (x = x), S) = _
  rw [decide_eq_true rfl]
  rfl
theorem rt9_ok {g kp kd kt : Nat} {m n : Int} {r q : Rg} (h : BdR (10 ^ 40) r) (h' : BdR (10 ^ 40) q) (hn : -10 ^ 40 ≤ n ∧ n ≤ 10 ^ 40) (h1 : S[kd]? = some (.lst (its r q n))) (h2 : S[kt]? = some (.lst (its r q n))) : rt9 fu [some (.ref g), some (.int m), some (dR r), some (dR q), some (.int n), some (.ref kp), some (.int (loP r)), some (.int (hiP r)), some (.int (loP q)), some (.int (hiP q)), some (.ref kd), some (.ref kt), none, none, none] S = some (.nx [some (.ref g), some (.int m), some (dR r), some (dR q), some (.int n), some (.ref kp), some (.int (loP r)), some (.int (hiP r)), some (.int (loP q)), some (.int (hiP q)), some (.ref kd), some (.ref kt), none, none, none], S) := by
  obtain ⟨x, hx⟩ := good_repr (good_its h h' hn) (by show 4 ≤ 1000; decide)
  simp only [rt9, r_sIf, r_truB, r_eBin, r_eCall, r_aCons, r_aNil, r_eVar, List.getElem?_cons_zero, List.getElem?_cons_succ, hx S _ _ h1 rfl, hx S _ _ h2 rfl, ne_str, r_sNil]
/-- None among the ends -/
def hasN (r : Rg) : Bool := isNon (dO r.1) || isNon (dO r.2)
theorem inN {r : Rg} : gIn true .non (dR r) S = some (.bl (!hasN r), S) := by
  obtain ⟨lo, up⟩ := r
  cases lo <;> cases up <;> rfl
theorem eq6 {m : Int} : gEqv false (.int m) (.int 6) S = some (.bl (m == 6), S) := rfl
theorem four_good {a b c d n : Int} (h : Sml a b c d n) : ∀ x ∈ four a b c d n, x.length ≤ 100 ∧ ∀ e ∈ x, Good e := by
  obtain ⟨g1, g2, g3, g4, g5, g6, g7, g8⟩ := h
  have cm1 := mnC a c; have cm2 := mnC b d; have cx1 := mxC a c; have cx2 := mxC b d
  have one : ∀ i j : Int, -40 ≤ i → j ≤ 40 → (rgD i j).length ≤ 100 ∧ ∀ e ∈ rgD i j, Good e := fun i j hi hj => by
    rw [rgD_is]
    refine ⟨by rw [List.length_map, rgI_len]; omega, fun e he => ?_⟩
    obtain ⟨k, hk, rfl⟩ := List.mem_map.mp he
    have := rgI_mem.mp hk
    exact good_int (sm41 (by omega))
  intro x hx
  simp only [four, List.mem_cons, List.not_mem_nil, or_false] at hx
  rcases hx with rfl | rfl | rfl | rfl
  · exact one _ _ (by omega) (by omega)
  · exact one _ _ (by omega) (by omega)
  · exact one _ _ (by omega) (by omega)
  · exact one _ _ (by omega) (by omega)
def rt10b (fu : Nat) : SF := (sCons (sIf (truB (eBin (gEqv true) (eCall cRepr (aCons (eComp fu [14] (iSeq (eVar 11)) (.nm 14) tYesF (eCall (c__law_all fu) (aCons (eVar 14) aNil))) aNil)) (eCall cRepr (aCons (eCall (c__law_by_pairs fu) (aCons (eVar 2) (aCons (eVar 3) (aCons (eVar 4) aNil)))) aNil)))) (sCons (sRet (eC (.bl false))) sNil) sNil) sNil)
theorem rt10b_ok (hf : 10000 ≤ fu) {g kp kd kt : Nat} {m n a b c d : Int} (h : Sml a b c d n) (h2 : S[kt]? = some (.lst (its (some a, some b) (some c, some d) n))) : ∃ S1, rt10b fu [some (.ref g), some (.int m), some (dR (some a, some b)), some (dR (some c, some d)), some (.int n), some (.ref kp), some (.int (loP (some a, some b))), some (.int (hiP (some a, some b))), some (.int (loP (some c, some d))), some (.int (hiP (some c, some d))), some (.ref kd), some (.ref kt), none, none, none] S = some (.nx [some (.ref g), some (.int m), some (dR (some a, some b)), some (dR (some c, some d)), some (.int n), some (.ref kp), some (.int (loP (some a, some b))), some (.int (hiP (some a, some b))), some (.int (loP (some c, some d))), some (.int (hiP (some c, some d))), some (.ref kd), some (.ref kt), none, none, none], S1) ∧ Ap S S1 := by
  obtain ⟨z, hz⟩ := good_repr2 (four_good h) (by show 4 ≤ 20; decide)
  have hh := h
  obtain ⟨g1, g2, g3, g4, g5, g6, g7, g8⟩ := h
  have cm1 := mnC a c; have cm2 := mnC b d; have cx1 := mxC a c; have cx2 := mxC b d
  have e1 := comp_alloc (n := fu) (own := [14]) (it := iSeq (eVar 11)) (t := .nm 14) (c := tYesF) (f := eCall (c__law_all fu) (aCons (eVar 14) aNil)) (env := [some (.ref g), some (.int m), some (dR (some a, some b)), some (dR (some c, some d)), some (.int n), some (.ref kp), some (.int (loP (some a, some b))), some (.int (hiP (some a, some b))), some (.int (loP (some c, some d))), some (.int (hiP (some c, some d))), some (.ref kd), some (.ref kt), none, none, none]) (S := S) (S1 := S) (k := kt) (ds := its (some a, some b) (some c, some d) n) (hs := four a b c d n) rfl h2 rfl rfl (by
    intro i e x T k1 k2
    refine ⟨_, rfl, rfl, ?_⟩
    match i with
    | 0 => cases k1; cases k2; exact all_ok (a := a + n) (b := b + n) (by omega) (by omega) (by omega)
    | 1 => cases k1; cases k2; exact all_ok (a := n - b) (b := n - a) (by omega) (by omega) (by omega)
    | 2 => cases k1; cases k2; exact all_ok (by omega) (by omega) (by omega)
    | 3 => cases k1; cases k2; exact all_ok (by omega) (by omega) (by omega)
    | i + 4 => cases k1) (by show 4 < fu; omega) (by show 4 ≤ 1000; decide)
  have w1 : Ap S ((S ++ (four a b c d n).map Cell.lst) ++ [Cell.lst ((List.range 4).map fun i => D.ref (S.length + i))]) := Ap.app.trans .app
  have s1 := hz ((S ++ (four a b c d n).map Cell.lst) ++ [Cell.lst ((List.range 4).map fun i => D.ref (S.length + i))]) (S.length + 4) _ (refs_self _ _ rfl) rfl fun i e x k1 k2 => refs_at _ _ rfl k1 k2
  generalize hS1 : (S ++ (four a b c d n).map Cell.lst) ++ [Cell.lst ((List.range 4).map fun i => D.ref (S.length + i))] = S1 at *
  obtain ⟨k, rs, S2, e2, p1, p2, p3, w2⟩ := by_pairs_ok (S := S1) hf hh
  have s2 := hz S2 k rs p1 p2 p3
  have e1' : eComp fu [14] (iSeq (eVar 11)) (.nm 14) tYesF (eCall (c__law_all fu) (aCons (eVar 14) aNil)) [some (.ref g), some (.int m), some (dR (some a, some b)), some (dR (some c, some d)), some (.int n), some (.ref kp), some (.int (loP (some a, some b))), some (.int (hiP (some a, some b))), some (.int (loP (some c, some d))), some (.int (hiP (some c, some d))), some (.ref kd), some (.ref kt), none, none, none] S = some (.ref (S.length + 4), S1) := by
    rw [e1, ← hS1]
    rfl
  refine ⟨S2, ?_, w1.trans w2⟩
  simp only [rt10b, r_sCons, r_sIf, r_truB, r_eBin, r_eCall, r_aCons, r_aNil, e1', s1, r_eVar, List.getElem?_cons_zero, List.getElem?_cons_succ, e2, s2, ne_str, r_sNil]
theorem rt10_ok (hf : 10000 ≤ fu) {g kp kd kt : Nat} {m n : Int} {r q : Rg} (o : OkR r) (o' : OkR q) (h : BdR m r) (h' : BdR m q) (hn : -m ≤ n ∧ n ≤ m) (h2 : S[kt]? = some (.lst (its r q n))) : ∃ S1, rt10 fu [some (.ref g), some (.int m), some (dR r), some (dR q), some (.int n), some (.ref kp), some (.int (loP r)), some (.int (hiP r)), some (.int (loP q)), some (.int (hiP q)), some (.ref kd), some (.ref kt), none, none, none] S = some (.nx [some (.ref g), some (.int m), some (dR r), some (dR q), some (.int n), some (.ref kp), some (.int (loP r)), some (.int (hiP r)), some (.int (loP q)), some (.int (hiP q)), some (.ref kd), some (.ref kt), none, none, none], S1) ∧ Ap S S1 := by
  cases hm : (m == 6) with
  | false => exact ⟨S, by simp only [rt10, r_sIf, r_tAnd, r_truB, r_eBin, r_eVar, r_eC, List.getElem?_cons_zero, List.getElem?_cons_succ, eq6, hm, r_sNil], .refl⟩
  | true =>
    cases hr : hasN r with
    | true => exact ⟨S, by simp only [rt10, r_sIf, r_tAnd, r_truB, r_eBin, r_eVar, r_eC, List.getElem?_cons_zero, List.getElem?_cons_succ, eq6, hm, inN, hr, Bool.not_true, r_sNil], .refl⟩
    | false =>
      cases hq : hasN q with
      | true => exact ⟨S, by simp only [rt10, r_sIf, r_tAnd, r_truB, r_eBin, r_eVar, r_eC, List.getElem?_cons_zero, List.getElem?_cons_succ, eq6, hm, inN, hr, hq, Bool.not_true, Bool.not_false, r_sNil], .refl⟩
      | false =>
        have m6 : m = 6 := eq_of_beq hm
        obtain ⟨lo, up⟩ := r
        obtain ⟨dn, tp⟩ := q
        cases lo with
        | none => cases hr
        | some a =>
          cases up with
          | none => cases hr
          | some b =>
            cases dn with
            | none => cases hq
            | some c =>
              cases tp with
              | none => cases hq
              | some d =>
                have b1 := h.1 a rfl; have b2 := h.2 b rfl; have b3 := h'.1 c rfl; have b4 := h'.2 d rfl
                have c1 := o a b rfl rfl; have c2 := o' c d rfl rfl
                obtain ⟨S1, e, w⟩ := rt10b_ok hf (g := g) (kp := kp) (kd := kd) (m := m) (n := n) (a := a) (b := b) (c := c) (d := d) ⟨by omega, by omega, by omega, by omega, by omega, by omega, by omega, by omega⟩ h2
                refine ⟨S1, ?_, w⟩
                simp only [rt10, r_sIf, r_tAnd, r_truB, r_eBin, r_eVar, r_eC, List.getElem?_cons_zero, List.getElem?_cons_succ, eq6, hm, inN, hr, hq, Bool.not_false]
                exact e
theorem mn_comm (a b : Int) : mn a b = mn b a := by
  have := mnC a b; have := mnC b a; omega
theorem mx_comm (a b : Int) : mx a b = mx b a := by
  have := mxC a b; have := mxC b a; omega
theorem least_comm (r q : Rg) : leastR q r = leastR r q := by
  obtain ⟨a, b⟩ := r
  obtain ⟨c, d⟩ := q
  unfold leastR
  congr 1
  · cases a <;> cases c <;> simp [ll, mn_comm]
  · cases b <;> cases d <;> simp [lh, mn_comm]
theorem great_comm (r q : Rg) : greatR q r = greatR r q := by
  obtain ⟨a, b⟩ := r
  obtain ⟨c, d⟩ := q
  unfold greatR
  congr 1
  · cases a <;> cases c <;> simp [gl, mx_comm]
  · cases b <;> cases d <;> simp [gh, mx_comm]
theorem rt11_ok {g kp kd kt : Nat} {m n : Int} {r q : Rg} (o : OkR r) (o' : OkR q) : rt11 fu [some (.ref g), some (.int m), some (dR r), some (dR q), some (.int n), some (.ref kp), some (.int (loP r)), some (.int (hiP r)), some (.int (loP q)), some (.int (hiP q)), some (.ref kd), some (.ref kt), none, none, none] S = some (.nx [some (.ref g), some (.int m), some (dR r), some (dR q), some (.int n), some (.ref kp), some (.int (loP r)), some (.int (hiP r)), some (.int (loP q)), some (.int (hiP q)), some (.ref kd), some (.ref kt), some (.ref S.length), none, none], S ++ [Cell.lst (its r q n)]) := by
  simp only [rt11, r_sSet, r_eCallK, r_eBin, r_eCall, r_aCons, r_aNil, r_eVar, List.getElem?_cons_zero, List.getElem?_cons_succ, pk2, sp_plus o, sp_turn o, sp_least o' o, sp_great o' o, least_comm, great_comm, r_cLst, List.length_cons, List.length_nil, Nat.zero_add, Nat.reduceAdd, and_self, if_true, cell4, List.set_cons_succ, List.set_cons_zero]
  rfl
theorem rt12_ok {g kp kd kt ka : Nat} {m n : Int} {r q : Rg} (o : OkR r) (h2 : S[kt]? = some (.lst (its r q n))) : rt12 fu [some (.ref g), some (.int m), some (dR r), some (dR q), some (.int n), some (.ref kp), some (.int (loP r)), some (.int (hiP r)), some (.int (loP q)), some (.int (hiP q)), some (.ref kd), some (.ref kt), some (.ref ka), none, none] S = some (.nx [some (.ref g), some (.int m), some (dR r), some (dR q), some (.int n), some (.ref kp), some (.int (loP r)), some (.int (hiP r)), some (.int (loP q)), some (.int (hiP q)), some (.ref kd), some (.ref kt), some (.ref ka), some (.ref S.length), none], S ++ [Cell.lst [dR r, dR r]]) := by
  have i0 : atI (its r q n) 0 = some (dR (plusR r n)) := rfl
  have i1 : atI (its r q n) 1 = some (dR (turnR r n)) := rfl
  simp only [rt12, r_sSet, r_eBin, r_eCall, r_aCons, r_aNil, r_eC, r_eVar, List.getElem?_cons_zero, List.getElem?_cons_succ, r_ix_ref h2, Cell.items, i0, i1, r_sub, sp_plus (okr_plus o), sp_turn (okr_turn o), back_plus, back_turn, r_cLst, List.length_cons, List.length_nil, Nat.zero_add, Nat.reduceAdd, cell2, List.set_cons_succ, List.set_cons_zero]
theorem rt13_ok {g kp kd kt ka kb : Nat} {m n : Int} {r q : Rg} (h : BdR (10 ^ 40) r) (h' : BdR (10 ^ 40) q) (hn : -10 ^ 40 ≤ n ∧ n ≤ 10 ^ 40) (h1 : S[kd]? = some (.lst (its r q n))) (h2 : S[ka]? = some (.lst (its r q n))) (h3 : S[kb]? = some (.lst [dR r, dR r])) : ∃ S1, rt13 fu [some (.ref g), some (.int m), some (dR r), some (dR q), some (.int n), some (.ref kp), some (.int (loP r)), some (.int (hiP r)), some (.int (loP q)), some (.int (hiP q)), some (.ref kd), some (.ref kt), some (.ref ka), some (.ref kb), none] S = some (.rt (.bl true), S1) ∧ Ap S S1 := by
  obtain ⟨x, hx⟩ := good_repr (good_its h h' hn) (by show 4 ≤ 1000; decide)
  have gr := good_of (bdR_mono h (show (10 : Int) ^ 40 ≤ 10 ^ 41 by decide))
  obtain ⟨y, hy⟩ := good_repr (ds := [dR r, dR r]) (fun d hd => by
    simp only [List.mem_cons, List.not_mem_nil, or_false, or_self] at hd
    rw [hd]
    exact gr) (by show 2 ≤ 1000; decide)
  have h4 := hy (S ++ [Cell.lst [dR r, dR r]]) S.length _ new_last rfl
  refine ⟨S ++ [Cell.lst [dR r, dR r]], ?_, .app⟩
  simp only [rt13, r_sRet, r_eAnd, r_eBin, r_eCall, r_aCons, r_aNil, r_eVar, List.getElem?_cons_zero, List.getElem?_cons_succ, hx S _ _ h1 rfl, hx S _ _ h2 rfl, hy S _ _ h3 rfl, eqv_str, r_cLst, List.length_cons, List.length_nil, Nat.zero_add, Nat.reduceAdd, cell2, h4]
end K15
/-! K15s: the law. -/
namespace K15
open PySem PySem.Spec PyProof.Rows L2 Lite
variable {fu : Nat} {S : Sto}
theorem right_ok (hf : 10000 ≤ fu) {g : Nat} {B : Int} (hg : Gen S g B) (hB : B ≤ 2 ^ 40) : ∃ S', c__law_right fu [.ref g] S = some (.bl true, S') ∧ Fr g S S' := by
  obtain ⟨m, S1, e1, m0, m1, g1, f1⟩ := rt1_ok hf hg (by omega)
  obtain ⟨r, q, n, S2, e2, o, o', b, b', n0, n1, f2⟩ := rt2_ok hf g1 (by omega) m0 m1
  obtain ⟨kp, S3, e3, k3, w3⟩ := rt3_ok (S := S2) hf (g := g) (m := m) (n := n) (r := r) (q := q)
  have e4 := rt4_ok (fu := fu) (g := g) (m := m) (n := n) k3
  have e5 := rt5_ok (fu := fu) (g := g) (m := m) (n := n) k3
  have c := bdR_mono b (show m ≤ 10 ^ 40 by omega)
  have c' := bdR_mono b' (show m ≤ 10 ^ 40 by omega)
  have hn : -10 ^ 40 ≤ n ∧ n ≤ 10 ^ 40 := by omega
  have e6 := rt6_ok (fu := fu) (S := S3) (g := g) (kp := kp) (m := m) (q := q) c hn
  obtain ⟨kd, S4, e7, kd4, w4⟩ := rt7_ok (fu := fu) (S := S3 ++ [.lst [dR (plusR r n), dR (turnR r n)]]) (g := g) (kp := kp) (k0 := S3.length) (m := m) (n := n) c c' new_last
  have e8 := rt8_ok (fu := fu) (S := S4) (g := g) (kp := kp) (kd := kd) (m := m) (n := n) o o'
  have kd5 := (Ap.app (T := [Cell.lst (its r q n)])).get kd4
  have kt5 : (S4 ++ [Cell.lst (its r q n)])[S4.length]? = some (.lst (its r q n)) := new_last
  have e9 := rt9_ok (fu := fu) (g := g) (kp := kp) (m := m) c c' hn kd5 kt5
  obtain ⟨S6, e10, w6⟩ := rt10_ok hf (g := g) (kp := kp) (kd := kd) o o' b b' ⟨n0, n1⟩ kt5
  have e11 := rt11_ok (fu := fu) (S := S6) (g := g) (kp := kp) (kd := kd) (kt := S4.length) (m := m) (n := n) o o'
  have kt7 := (w6.trans (Ap.app (T := [Cell.lst (its r q n)]))).get kt5
  have kd7 := (w6.trans (Ap.app (T := [Cell.lst (its r q n)]))).get kd5
  have ka7 : (S6 ++ [Cell.lst (its r q n)])[S6.length]? = some (.lst (its r q n)) := new_last
  have e12 := rt12_ok (fu := fu) (g := g) (kp := kp) (kd := kd) (ka := S6.length) (m := m) o kt7
  obtain ⟨S8, e13, w8⟩ := rt13_ok (fu := fu) (g := g) (kp := kp) (kt := S4.length) (m := m) c c' hn ((Ap.app (T := [Cell.lst [dR r, dR r]])).get kd7) ((Ap.app (T := [Cell.lst [dR r, dR r]])).get ka7) new_last
  refine ⟨S8, fn_eq rfl ((cons_eq (f := rt1 fu) e1).trans ((cons_eq (f := rt2 fu) e2).trans ((cons_eq (f := rt3 fu) e3).trans ((cons_eq (f := rt4 fu) e4).trans ((cons_eq (f := rt5 fu) e5).trans ((cons_eq (f := rt6 fu) e6).trans ((cons_eq (f := rt7 fu) e7).trans ((cons_eq (f := rt8 fu) e8).trans ((cons_eq (f := rt9 fu) e9).trans ((cons_eq (f := rt10 fu) e10).trans ((cons_eq (f := rt11 fu) e11).trans ((cons_eq (f := rt12 fu) e12).trans (cons_rt (f := rt13 fu) e13))))))))))))), ?_⟩
  exact (f1.trans f2).trans ((((((w3.trans .app).trans w4).trans .app).trans w6).trans .app).trans (Ap.trans .app w8)).fr
def lwb (fu : Nat) : SF := (sCons (sIf (tNotF (truF (eCall (c__law_right fu) (aCons (eCall (c__law_generator fu) (aCons (eVar 0) (aCons (eVar 1) aNil))) aNil)))) (sCons (sRet (eC (.bl false))) sNil) sNil) sNil)
theorem lwb_ok (hf : 10000 ≤ fu) {d : D} {ns : List Int} {i : Nat} (h : listOf S d = some (ns.map D.int)) (hi : i < 1000) : ∃ S', lwb fu [some d, some (.int i), none, none] S = some (.nx [some d, some (.int i), none, none], S') ∧ listOf S' d = some (ns.map D.int) := by
  obtain ⟨g, S1, e1, g1, l1, f1⟩ := generator_ok (fu := fu) h hi
  obtain ⟨S2, e2, f2⟩ := right_ok hf g1 (by omega)
  have e1' : c__law_generator fu [d, .int (i : Nat)] S = some (.ref g, S1) := e1
  refine ⟨S2, ?_, listOf_fr (f1.trans f2) l1 h⟩
  simp only [lwb, r_sCons, r_sIf, r_tNot, r_truF, r_eCall, r_aCons, r_aNil, r_eVar, List.getElem?_cons_zero, List.getElem?_cons_succ, e1', e2, r_truD_bl, Bool.not_true, r_sNil]
theorem lw1_ok (hf : 10000 ≤ fu) {d : D} {ns : List Int} (h : listOf S d = some (ns.map D.int)) : ∃ (tv : Option D) (S' : Sto), lw1 fu [some d, none, none, none] S = some (.nx [some d, tv, none, none], S') := by
  obtain ⟨e', S', hl, tv, rfl, _⟩ := forL_fix (b := lwb fu) (t := .nm 1) (ds := rangeD 0 5) (fun i env S' => ∃ tv : Option D, env = [some d, tv, none, none] ∧ listOf S' d = some (ns.map D.int)) fu 0 [some d, none, none, none] S ⟨none, rfl, h⟩ (Nat.zero_le _) (by
    have : (rangeD 0 5).length = 5 := rfl
    omega) (by
    rintro i x env S2 hx ⟨tv, rfl, h2⟩
    have hi : i < 5 := (List.getElem?_eq_some_iff.mp hx).1
    have hx' : x = .int (i : Nat) := by
      match i, hi with
      | 0, _ => cases hx; rfl
      | 1, _ => cases hx; rfl
      | 2, _ => cases hx; rfl
      | 3, _ => cases hx; rfl
      | 4, _ => cases hx; rfl
    subst hx'
    obtain ⟨S3, e, h3⟩ := lwb_ok hf (i := i) h2 (by omega)
    exact ⟨_, rfl, _, S3, e, _, rfl, h3⟩)
  exact ⟨tv, S', for_eq rfl hl⟩
def far : Int := 10 ^ 30 - 1
theorem m2 : fMul 2 far = some (2 * far) := by decide +kernel
theorem oN : OkR (none, none) := fun _ _ h => (by cases h)
theorem oL {b : Int} : OkR (none, some b) := fun _ _ h => (by cases h)
theorem oH {a : Int} : OkR (some a, none) := fun _ _ _ h => (by cases h)
theorem oB {a b : Int} (h : a ≤ b) : OkR (some a, some b) := fun _ _ h1 h2 => (by cases h1; cases h2; exact h)
theorem q1 : c_span_plus fu [.tup [.int 0, .int far], .int far] S = some (.tup [.int far, .int (2 * far)], S) := by
  have e := sp_plus (fu := fu) (S := S) (r := (some 0, some far)) (n := far) (oB (by decide +kernel))
  have e2 : dR (plusR (some 0, some far) far) = .tup [.int (0 + far), .int (far + far)] := rfl
  rw [e2, Int.zero_add, show far + far = 2 * far by omega] at e
  exact e
theorem q2 : c_span_turned fu [.tup [.int (-far), .non], .int far] S = some (.tup [.non, .int (2 * far)], S) := by
  have e := sp_turn (fu := fu) (S := S) (r := (some (-far), none)) (n := far) oH
  have e2 : dR (turnR (some (-far), none) far) = .tup [.non, .int (far - -far)] := rfl
  rw [e2, show far - -far = 2 * far by omega] at e
  exact e
theorem q3 : c_span_plus fu [.tup [.non, .int 4], .int (-4)] S = some (.tup [.non, .int 0], S) := sp_plus (r := (none, some 4)) (n := -4) oL
theorem q4 : c_span_turned fu [.tup [.non, .int 4], .int 0] S = some (.tup [.int (-4), .non], S) := sp_turn (r := (none, some 4)) (n := 0) oL
theorem q5 : c_span_turned fu [.tup [.int 3, .int 9], .int 10] S = some (.tup [.int 1, .int 7], S) := sp_turn (r := (some 3, some 9)) (n := 10) (oB (by decide))
theorem q6 : c_span_least fu [.tup [.non, .int 4], .tup [.int 9, .non]] S = some (.tup [.non, .int 4], S) := sp_least (r := (none, some 4)) (q := (some 9, none)) oL oH
theorem q7 : c_span_greatest fu [.tup [.non, .int 4], .tup [.int 9, .non]] S = some (.tup [.int 9, .non], S) := sp_great (r := (none, some 4)) (q := (some 9, none)) oL oH
def wr : List D := [.tup [.int far, .int (2 * far)], .tup [.non, .int (2 * far)], .tup [.non, .int 0], .tup [.int (-4), .non], .tup [.int 1, .int 7], .tup [.non, .int 4], .tup [.int 9, .non]]
theorem tup2 (x y : D) : (if (2 : Nat) ≤ lim then some (D.tup [x, y], S) else none) = some (D.tup [x, y], S) := if_pos (lim_pos (by decide))
theorem lw2_ok {d tv : Option D} : lw2 fu [d, tv, none, none] S = some (.nx [d, tv, some (.int far), none], S) := by
  simp only [lw2, r_sSet, r_eC, r_eBin, r_arith, p30, r_sub, List.set_cons_succ, List.set_cons_zero]
  rfl
theorem lw3_ok {d tv : Option D} : lw3 fu [d, tv, some (.int far), none] S = some (.nx [d, tv, some (.int far), some (.ref S.length)], S ++ [Cell.lst [.tup [.int far, .int (2 * far)], .tup [.non, .int (2 * far)]]]) := by
  simp only [lw3, r_sSet, r_eCall, r_aCons, r_aNil, r_eC, r_eVar, r_eNeg, List.getElem?_cons_zero, List.getElem?_cons_succ, r_cTup, List.length_cons, List.length_nil, Nat.zero_add, Nat.reduceAdd, tup2, q1, q2, r_cLst, cell2, List.set_cons_succ, List.set_cons_zero]
theorem lw4_ok {d tv : Option D} {k0 : Nat} (hk : S[k0]? = some (.lst [.tup [.int far, .int (2 * far)], .tup [.non, .int (2 * far)]])) : ∃ (k : Nat) (S1 : Sto), lw4 fu [d, tv, some (.int far), some (.ref k0)] S = some (.nx [d, tv, some (.int far), some (.ref k)], S1) ∧ S1[k]? = some (.lst wr) := by
  have a1 := add_lists ((Ap.app (T := [Cell.lst [.tup [.non, .int 0], .tup [.int (-4), .non], .tup [.int 1, .int 7], .tup [.non, .int 4], .tup [.int 9, .non]]])).get hk) new_last (show 2 + 5 ≤ 1000 by decide)
  have t1 : (if (5 : Nat) ≤ lim then some (D.ref S.length, S ++ [Cell.lst [.tup [.non, .int 0], .tup [.int (-4), .non], .tup [.int 1, .int 7], .tup [.non, .int 4], .tup [.int 9, .non]]]) else none) = some (D.ref S.length, S ++ [Cell.lst [.tup [.non, .int 0], .tup [.int (-4), .non], .tup [.int 1, .int 7], .tup [.non, .int 4], .tup [.int 9, .non]]]) := if_pos (lim_pos (by decide))
  refine ⟨(S ++ [Cell.lst [.tup [.non, .int 0], .tup [.int (-4), .non], .tup [.int 1, .int 7], .tup [.non, .int 4], .tup [.int 9, .non]]]).length, (S ++ [Cell.lst [.tup [.non, .int 0], .tup [.int (-4), .non], .tup [.int 1, .int 7], .tup [.non, .int 4], .tup [.int 9, .non]]]) ++ [.lst wr], ?_, new_last⟩
  simp only [lw4, r_sSet, r_eCall, r_aCons, r_aNil, r_eC, r_eVar, r_eNeg, r_eBin, List.getElem?_cons_zero, List.getElem?_cons_succ, r_cTup, List.length_cons, List.length_nil, Nat.zero_add, Nat.reduceAdd, tup2, q3, q4, q5, q6, q7, r_cLst, t1, a1, List.set_cons_succ, List.set_cons_zero]
  rfl
theorem far_sm : -10 ^ 31 ≤ far ∧ far ≤ 10 ^ 31 := by decide +kernel
theorem good_wr : ∀ d ∈ wr, Good d := by
  have hf := far_sm
  have k : ∀ (a b : Option Int), (∀ i, a = some i → -10 ^ 41 ≤ i ∧ i ≤ 10 ^ 41) → (∀ i, b = some i → -10 ^ 41 ≤ i ∧ i ≤ 10 ^ 41) → Good (.tup [dO a, dO b]) := fun a b h1 h2 => good_of (r := (a, b)) ⟨h1, h2⟩
  have z : ∀ i : Int, none = some i → -10 ^ 41 ≤ i ∧ i ≤ 10 ^ 41 := fun i e => by cases e
  intro d hd
  simp only [wr, List.mem_cons, List.not_mem_nil, or_false] at hd
  rcases hd with rfl | rfl | rfl | rfl | rfl | rfl | rfl
  · exact k (some far) (some (2 * far)) (fun i e => by cases e; omega) (fun i e => by cases e; omega)
  · exact k none (some (2 * far)) z (fun i e => by cases e; omega)
  · exact k none (some 0) z (fun i e => by cases e; omega)
  · exact k (some (-4)) none (fun i e => by cases e; omega) z
  · exact k (some 1) (some 7) (fun i e => by cases e; omega) (fun i e => by cases e; omega)
  · exact k none (some 4) z (fun i e => by cases e; omega)
  · exact k (some 9) none (fun i e => by cases e; omega) z
theorem lw5_ok {d tv : Option D} {k : Nat} (hk : S[k]? = some (.lst wr)) : ∃ S', lw5 fu [d, tv, some (.int far), some (.ref k)] S = some (.rt (.bl true), S') := by
  obtain ⟨x, hx⟩ := good_repr good_wr (by show 7 ≤ 1000; decide)
  have t1 : (if (7 : Nat) ≤ lim then some (D.ref S.length, S ++ [Cell.lst wr]) else none) = some (D.ref S.length, S ++ [Cell.lst wr]) := if_pos (lim_pos (by decide))
  have h2 := hx (S ++ [Cell.lst wr]) S.length (.lst wr) new_last rfl
  refine ⟨S ++ [.lst wr], ?_⟩
  unfold wr at t1 h2 ⊢
  simp only [lw5, r_sRet, r_eCall, r_aCons, r_aNil, r_eC, r_eVar, r_eNeg, r_eBin, r_arith, m2, r_cTup, List.length_cons, List.length_nil, Nat.zero_add, Nat.reduceAdd, tup2, r_cLst, t1, List.getElem?_cons_zero, List.getElem?_cons_succ, hx S k (.lst wr) hk rfl, h2, eqv_str]
theorem scr (ns : List Int) (_ : ns.length ≤ 63) : Scr (c_law 10000) ns := by
  intro d S h
  obtain ⟨tv, S1, e1⟩ := lw1_ok (Nat.le_refl 10000) h
  have e2 := lw2_ok (fu := 10000) (S := S1) (d := some d) (tv := tv)
  have e3 := lw3_ok (fu := 10000) (S := S1) (d := some d) (tv := tv)
  obtain ⟨k, S2, e4, hk⟩ := lw4_ok (fu := 10000) (S := S1 ++ [Cell.lst [.tup [.int far, .int (2 * far)], .tup [.non, .int (2 * far)]]]) (d := some d) (tv := tv) new_last
  obtain ⟨S3, e5⟩ := lw5_ok (fu := 10000) (d := some d) (tv := tv) hk
  exact ⟨S3, fn_eq rfl ((cons_eq (f := lw1 10000) e1).trans ((cons_eq (f := lw2 10000) e2).trans ((cons_eq (f := lw3 10000) e3).trans ((cons_eq (f := lw4 10000) e4).trans (cons_rt (f := lw5 10000) e5)))))⟩
end K15
open PySem PySem.W PyProof.Rows
set_option maxRecDepth 100000 in
set_option maxHeartbeats 0 in
theorem PySem.Challenge.cw_stillranges_k15_ranges_moved_turned_less_holds : PySem.Challenge.rw_stillranges_k15_ranges_moved_turned_less.Holds := by
  w_on; o_law; k_head; (case hw => w_witness2)
  k_fill
  refine Lite.end_g (l := PySem.Challenge.rw_stillranges_k15_ranges_moved_turned_less) (n := 63) (k := 8) (x := "script") (g := K15.c_law 10000) rfl (by decide) rfl ⟨rfl, by decide, by decide⟩ (fun w h Y => PySem.W.kIn_of Y) ?F K15.scr
  case F =>
    intro w mg fa h KX G hmg
    refine' K15.all_mk KX G hmg ?a0 ?l0 ?c0 ?k0 ?a1 ?l1 ?c1 ?k1 ?a2 ?l2 ?c2 ?k2 ?a3 ?l3 ?c3 ?k3 ?a4 ?l4 ?c4 ?k4 ?a5 ?l5 ?c5 ?k5 ?a6 ?l6 ?c6 ?k6 ?a7 ?l7 ?c7 ?k7 ?a8 ?l8 ?c8 ?k8 ?a9 ?l9 ?c9 ?k9 ?a10 ?l10 ?c10 ?k10 ?a11 ?l11 ?c11 ?k11 ?a12 ?l12 ?c12 ?k12 ?a13 ?l13 ?c13 ?k13 ?a14 ?l14 ?c14 ?k14 ?a15 ?l15 ?c15 ?k15 ?a16 ?l16 ?c16 ?k16 ?a17 ?l17 ?c17 ?k17 ?a18 ?l18 ?c18 ?k18 ?a19 ?l19 ?c19 ?k19 ?a20 ?l20 ?c20 ?k20 ?a21 ?l21 ?c21 ?k21 ?a22 ?l22 ?c22 ?k22 ?a23 ?l23 ?c23 ?k23 ?a24 ?l24 ?c24 ?k24 ?a25 ?l25 ?c25 ?k25 ?a26 ?l26 ?c26 ?k26 ?a27 ?l27 ?c27 ?k27 ?a28 ?l28 ?c28 ?k28 ?a29 ?l29 ?c29 ?k29 ?a30 ?l30 ?c30 ?k30 ?a31 ?l31 ?c31 ?k31 ?z_bool ?z_int ?z_isinstance ?z_len ?z_list ?z_max ?z_min ?z_range ?z_repr ?z_set ?z_sorted ?z_sum ?z_tuple
    (case a0 => k_is)
    (case l0 => k_is)
    (case c0 => k_is)
    (case k0 => k_is)
    (case a1 => k_is)
    (case l1 => k_is)
    (case c1 => k_is)
    (case k1 => k_is)
    (case a2 => k_is)
    (case l2 => k_is)
    (case c2 => k_is)
    (case k2 => k_is)
    (case a3 => k_is)
    (case l3 => k_is)
    (case c3 => k_is)
    (case k3 => k_is)
    (case a4 => k_is)
    (case l4 => k_is)
    (case c4 => k_is)
    (case k4 => k_is)
    (case a5 => k_is)
    (case l5 => k_is)
    (case c5 => k_is)
    (case k5 => k_is)
    (case a6 => k_is)
    (case l6 => k_is)
    (case c6 => k_is)
    (case k6 => k_is)
    (case a7 => k_is)
    (case l7 => k_is)
    (case c7 => k_is)
    (case k7 => k_is)
    (case a8 => k_is)
    (case l8 => k_is)
    (case c8 => k_is)
    (case k8 => k_is)
    (case a9 => k_is)
    (case l9 => k_is)
    (case c9 => k_is)
    (case k9 => k_is)
    (case a10 => k_is)
    (case l10 => k_is)
    (case c10 => k_is)
    (case k10 => k_is)
    (case a11 => k_is)
    (case l11 => k_is)
    (case c11 => k_is)
    (case k11 => k_is)
    (case a12 => k_is)
    (case l12 => k_is)
    (case c12 => k_is)
    (case k12 => k_is)
    (case a13 => k_is)
    (case l13 => k_is)
    (case c13 => k_is)
    (case k13 => k_is)
    (case a14 => k_is)
    (case l14 => k_is)
    (case c14 => k_is)
    (case k14 => k_is)
    (case a15 => k_is)
    (case l15 => k_is)
    (case c15 => k_is)
    (case k15 => k_is)
    (case a16 => k_is)
    (case l16 => k_is)
    (case c16 => k_is)
    (case k16 => k_is)
    (case a17 => k_is)
    (case l17 => k_is)
    (case c17 => k_is)
    (case k17 => k_is)
    (case a18 => k_is)
    (case l18 => k_is)
    (case c18 => k_is)
    (case k18 => k_is)
    (case a19 => k_is)
    (case l19 => k_is)
    (case c19 => k_is)
    (case k19 => k_is)
    (case a20 => k_is)
    (case l20 => k_is)
    (case c20 => k_is)
    (case k20 => k_is)
    (case a21 => k_is)
    (case l21 => k_is)
    (case c21 => k_is)
    (case k21 => k_is)
    (case a22 => k_is)
    (case l22 => k_is)
    (case c22 => k_is)
    (case k22 => k_is)
    (case a23 => k_is)
    (case l23 => k_is)
    (case c23 => k_is)
    (case k23 => k_is)
    (case a24 => k_is)
    (case l24 => k_is)
    (case c24 => k_is)
    (case k24 => k_is)
    (case a25 => k_is)
    (case l25 => k_is)
    (case c25 => k_is)
    (case k25 => k_is)
    (case a26 => k_is)
    (case l26 => k_is)
    (case c26 => k_is)
    (case k26 => k_is)
    (case a27 => k_is)
    (case l27 => k_is)
    (case c27 => k_is)
    (case k27 => k_is)
    (case a28 => k_is)
    (case l28 => k_is)
    (case c28 => k_is)
    (case k28 => k_is)
    (case a29 => k_is)
    (case l29 => k_is)
    (case c29 => k_is)
    (case k29 => k_is)
    (case a30 => k_is)
    (case l30 => k_is)
    (case c30 => k_is)
    (case k30 => k_is)
    (case a31 => k_is)
    (case l31 => k_is)
    (case c31 => k_is)
    (case k31 => k_is)
    (case z_bool => k_is)
    (case z_int => k_is)
    (case z_isinstance => k_is)
    (case z_len => k_is)
    (case z_list => k_is)
    (case z_max => k_is)
    (case z_min => k_is)
    (case z_range => k_is)
    (case z_repr => k_is)
    (case z_set => k_is)
    (case z_sorted => k_is)
    (case z_sum => k_is)
    (case z_tuple => k_is)
