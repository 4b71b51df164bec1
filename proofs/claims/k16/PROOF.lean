import PyProof.Rows.All
import Wide.All
import OpenK.AllK
import Wide.FinOn
import HandS.ForMost
import HandS.Wide
import HandS.IsInst
import HandS.TupAny
import HandS.Deep
import HandS.SortInts
import PyProof.ReprRoads
import HandS.WideBits
import HandS.TryOnly
import HandS.Lambda
import HandS.WordsExc
import HandS.Style
import HandS.Flow
import HandS.SetFor
import HandS.Conv
import HandS.Strs
import HandS.WrittenGet
import HandS.TupLe
import HandS.Text
import HandS.Zip
import KE.GoesMore
import PyProof.ReprLen
import PyProof.ZipIter
import PyProof.ListNew
import PySem.Challenge.RW_stillranges_k16_rows_and_tables_within_j
set_option Elab.async false
set_option linter.all false
set_option maxRecDepth 100000
set_option maxHeartbeats 4000000
namespace Lv
open PySem PySem.Spec PyProof.Rows L2
inductive D where
  | ty (n : String) | kl (ds : List D) | vl (ds : List D)
  | non | bl (b : Bool) | int (i : Int) | str (x : Str) | tup (ds : List D) | ref (n : Nat)
inductive Cell where
  | lst (ds : List D) | frz (ds : List D)
abbrev Sto := List Cell
abbrev Env := List (Option D)
def Cell.items : Cell → List D
  | .lst ds => ds
  | .frz ds => ds
def KLst (K : PySem.W.Frag) (a : Addr) (xs : List V) : Prop := ∀ H : Hp, SqL K H a xs
def FL (ρ : List Addr) (H : Hp) (a : Addr) (xs : List V) : Prop := H a = some (.lst xs) ∧ a ∉ ρ
theorem FL.sq {K : PySem.W.Frag} {ρ : List Addr} {H : Hp} {a : Addr} {xs : List V} (h : FL ρ H a xs) : SqL K H a xs := .inl (.inl h.1)
inductive RD (K : PySem.W.Frag) (ρ : List Addr) (H : Hp) : V → D → Prop
  | ty (n : String) : RD K ρ H (.ty n) (.ty n)
  | kl {a : Addr} {xs : List V} {ds : List D} : KLst K a xs → (hl : xs.length = ds.length) → (∀ (i : Nat) x d, xs[i]? = some x → ds[i]? = some d → RD K ρ H x d) → RD K ρ H (.ref a) (.kl ds)
  | vl {a : Addr} {xs : List V} {ds : List D} : FL ρ H a xs → (hl : xs.length = ds.length) → (∀ (i : Nat) x d, xs[i]? = some x → ds[i]? = some d → RD K ρ H x d) → RD K ρ H (.ref a) (.vl ds)
  | non : RD K ρ H .non .non
  | bl (b : Bool) : RD K ρ H (.bl b) (.bl b)
  | int (i : Int) : RD K ρ H (.int i) (.int i)
  | str (x : Str) : RD K ρ H (.str x) (.str x)
  | tup {a : Addr} {xs : List V} {ds : List D} : SqT K H a xs → (hl : xs.length = ds.length) → (∀ (i : Nat) x d, xs[i]? = some x → ds[i]? = some d → RD K ρ H x d) → RD K ρ H (.ref a) (.tup ds)
  | ref {n : Nat} {a : Addr} : ρ[n]? = some a → RD K ρ H (.ref a) (.ref n)
structure RDs (K : PySem.W.Frag) (ρ : List Addr) (H : Hp) (xs : List V) (ds : List D) : Prop where
  len : xs.length = ds.length
  at_ : ∀ (i : Nat) x d, xs[i]? = some x → ds[i]? = some d → RD K ρ H x d
def CellOk (K : PySem.W.Frag) (ρ : List Addr) (H : Hp) (a : Addr) : Cell → Prop
  | .lst ds => ∃ xs, H a = some (.lst xs) ∧ RDs K ρ H xs ds
  | .frz ds => ∃ xs o, H a = some (.frz o (.lst xs)) ∧ RDs K ρ H xs ds
structure Rel (K : PySem.W.Frag) (ρ : List Addr) (H : Hp) (S : Sto) : Prop where
  len : ρ.length = S.length
  nd : ρ.Nodup
  cell : ∀ (n : Nat) a c, ρ[n]? = some a → S[n]? = some c → CellOk K ρ H a c
structure Ext (ρ : List Addr) (H : Hp) (ρ' : List Addr) (H' : Hp) : Prop where
  pre : ∃ more, ρ' = ρ ++ more
  new : ∀ p, p ∈ ρ' → p ∉ ρ → H p = none
  keep : ∀ b o, H b = some o → b ∉ ρ → H' b = some o
theorem Ext.refl (ρ : List Addr) (H : Hp) : Ext ρ H ρ H := ⟨⟨[], by simp⟩, fun p h n => absurd h n, fun _ _ h _ => h⟩
theorem Ext.trans {ρ ρ1 ρ2 : List Addr} {H H1 H2 : Hp} (a : Ext ρ H ρ1 H1) (b : Ext ρ1 H1 ρ2 H2) : Ext ρ H ρ2 H2 := by
  obtain ⟨m1, e1⟩ := a.pre
  obtain ⟨m2, e2⟩ := b.pre
  refine ⟨⟨m1 ++ m2, by rw [e2, e1, List.append_assoc]⟩, fun p hp hn => ?_, fun c o hc hn => ?_⟩
  · by_cases h1 : p ∈ ρ1
    · exact a.new p h1 hn
    · have q := b.new p hp h1
      cases e : H p with
      | none => rfl
      | some o =>
        rw [a.keep p o e hn] at q
        cases q
  · have q := a.keep c o hc hn
    refine b.keep c o q fun z => ?_
    rw [a.new c z hn] at hc
    cases hc
theorem Ext.get {ρ ρ' : List Addr} {H H' : Hp} (e : Ext ρ H ρ' H') {n : Nat} {a : Addr} (h : ρ[n]? = some a) : ρ'[n]? = some a := by
  obtain ⟨m, rfl⟩ := e.pre
  rw [List.getElem?_append_left (List.getElem?_eq_some_iff.mp h).1]
  exact h
section
variable {K : PySem.W.Frag} {ρ ρ' ρ1 : List Addr} {H H' H1 : Hp} {S S' : Sto}
theorem Rel.at_ (r : Rel K ρ H S) {n : Nat} {c : Cell} (h : S[n]? = some c) : ∃ a, ρ[n]? = some a ∧ CellOk K ρ H a c := by
  have hl := (List.getElem?_eq_some_iff.mp h).1
  have hl' : n < ρ.length := by rw [r.len]; exact hl
  exact ⟨_, List.getElem?_eq_getElem hl', r.cell n _ c (List.getElem?_eq_getElem hl') h⟩
theorem Rel.of (r : Rel K ρ H S) {n : Nat} {a : Addr} (h : ρ[n]? = some a) : ∃ c, S[n]? = some c ∧ CellOk K ρ H a c := by
  have hl := (List.getElem?_eq_some_iff.mp h).1
  have hl' : n < S.length := by rw [← r.len]; exact hl
  exact ⟨_, List.getElem?_eq_getElem hl', r.cell n _ _ h (List.getElem?_eq_getElem hl')⟩
theorem CellOk.noT {a : Addr} {c : Cell} (h : CellOk K ρ H a c) (xs : List V) : ¬ Rd H a (.tup xs) := by
  intro q
  cases c with
  | lst ds =>
    obtain ⟨ys, e, _⟩ := h
    rcases q with q | ⟨o, q⟩ <;> rw [e] at q <;> cases q
  | frz ds =>
    obtain ⟨ys, o', e, _⟩ := h
    rcases q with q | ⟨o, q⟩ <;> rw [e] at q <;> cases q
theorem Rel.noT (r : Rel K ρ H S) {a : Addr} {xs : List V} (q : Rd H a (.tup xs)) : a ∉ ρ := by
  intro hm
  obtain ⟨n, hn⟩ := List.getElem?_of_mem hm
  obtain ⟨c, _, hc⟩ := r.of hn
  exact hc.noT xs q
theorem SqT.ext (r : Rel K ρ H S) (e : Ext ρ H ρ' H') {a : Addr} {xs : List V} (h : SqT K H a xs) : SqT K H' a xs := by
  rcases h with h | h
  · have hn := r.noT h
    rcases h with h | ⟨o, h⟩
    · exact .inl (.inl (e.keep _ _ h hn))
    · exact .inl (.inr ⟨o, e.keep _ _ h hn⟩)
  · exact .inr h
theorem FL.ext (e : Ext ρ H ρ' H') {a : Addr} {xs : List V} (h : FL ρ H a xs) : FL ρ' H' a xs := by
  refine ⟨e.keep _ _ h.1 h.2, fun hm => ?_⟩
  have := h.1
  rw [e.new a hm h.2] at this
  cases this
theorem RD.ext (r : Rel K ρ H S) (e : Ext ρ H ρ' H') {v : V} {d : D} (h : RD K ρ H v d) : RD K ρ' H' v d := by
  induction h with
  | ty n => exact .ty n
  | kl hs hl ha ih => exact .kl hs hl ih
  | vl hs hl ha ih => exact .vl (FL.ext e hs) hl ih
  | non => exact .non
  | bl b => exact .bl b
  | int i => exact .int i
  | str x => exact .str x
  | tup hs hl ha ih => exact .tup (SqT.ext r e hs) hl ih
  | ref h => exact .ref (e.get h)
theorem RDs.ext (r : Rel K ρ H S) (e : Ext ρ H ρ' H') {xs : List V} {ds : List D} (h : RDs K ρ H xs ds) : RDs K ρ' H' xs ds := ⟨h.len, fun i x d a b => (h.at_ i x d a b).ext r e⟩
theorem RDs.nil : RDs K ρ H [] [] := ⟨rfl, fun i x d a _ => by simp at a⟩
theorem RDs.cons {x : V} {d : D} {xs : List V} {ds : List D} (h : RD K ρ H x d) (t : RDs K ρ H xs ds) : RDs K ρ H (x :: xs) (d :: ds) := by
  refine ⟨by simp [t.len], fun i y e a b => ?_⟩
  cases i with
  | zero =>
    simp at a b
    subst a; subst b
    exact h
  | succ i =>
    simp at a b
    exact t.at_ i y e a b
theorem RDs.append {xs ys : List V} {ds es : List D} (h : RDs K ρ H xs ds) (t : RDs K ρ H ys es) : RDs K ρ H (xs ++ ys) (ds ++ es) := by
  refine ⟨by simp [h.len, t.len], fun i y e a b => ?_⟩
  by_cases hi : i < xs.length
  · rw [List.getElem?_append_left hi] at a
    rw [List.getElem?_append_left (by rw [← h.len]; exact hi)] at b
    exact h.at_ i y e a b
  · rw [List.getElem?_append_right (by omega)] at a
    rw [List.getElem?_append_right (by rw [← h.len]; omega), ← h.len] at b
    exact t.at_ _ y e a b
theorem RDs.get {xs : List V} {ds : List D} (h : RDs K ρ H xs ds) {i : Nat} {d : D} (e : ds[i]? = some d) : ∃ x, xs[i]? = some x ∧ RD K ρ H x d := by
  have hl : i < xs.length := by rw [h.len]; exact (List.getElem?_eq_some_iff.mp e).1
  exact ⟨_, List.getElem?_eq_getElem hl, h.at_ i _ d (List.getElem?_eq_getElem hl) e⟩
theorem RDs.drop {xs : List V} {ds : List D} (h : RDs K ρ H xs ds) (k : Nat) : RDs K ρ H (xs.drop k) (ds.drop k) :=
  ⟨by simp [h.len], fun i x d a b => h.at_ _ x d (by rw [List.getElem?_drop] at a; exact a) (by rw [List.getElem?_drop] at b; exact b)⟩
theorem RDs.take {xs : List V} {ds : List D} (h : RDs K ρ H xs ds) (k : Nat) : RDs K ρ H (xs.take k) (ds.take k) := by
  refine ⟨by simp [h.len], fun i x d a b => ?_⟩
  rw [List.getElem?_take] at a b
  split at a
  · rename_i hi
    rw [if_pos hi] at b
    exact h.at_ i x d a b
  · cases a
theorem RDs.set {xs : List V} {ds : List D} (h : RDs K ρ H xs ds) (k : Nat) {x : V} {d : D} (hx : RD K ρ H x d) : RDs K ρ H (xs.set k x) (ds.set k d) := by
  refine ⟨by simp [h.len], fun i y e a b => ?_⟩
  rw [List.getElem?_set] at a b
  by_cases hk : k = i
  · rw [if_pos hk] at a b
    split at a
    · rename_i h1
      split at b
      · cases a; cases b; exact hx
      · cases b
    · cases a
  · rw [if_neg hk] at a b
    exact h.at_ i y e a b
theorem CellOk.ext (r : Rel K ρ H S) (e : Ext ρ H ρ' H') {a : Addr} {c : Cell} (he : H' a = H a) (h : CellOk K ρ H a c) : CellOk K ρ' H' a c := by
  cases c with
  | lst ds =>
    obtain ⟨xs, h1, h2⟩ := h
    exact ⟨xs, he.trans h1, h2.ext r e⟩
  | frz ds =>
    obtain ⟨xs, o, h1, h2⟩ := h
    exact ⟨xs, o, he.trans h1, h2.ext r e⟩
theorem ext_new {p : Addr} {o : HO} (hp : H p = none) : Ext ρ H ρ (upd H p o) := ⟨⟨[], by simp⟩, fun q h n => absurd h n, fun b u h _ => by rw [upd_ne (ne_of_none h hp)]; exact h⟩
theorem Rel.notin (r : Rel K ρ H S) {p : Addr} (hp : H p = none) : p ∉ ρ := by
  intro hm
  obtain ⟨n, hn⟩ := List.getElem?_of_mem hm
  obtain ⟨c, _, hc⟩ := r.of hn
  cases c with
  | lst ds => obtain ⟨xs, e, _⟩ := hc; rw [hp] at e; cases e
  | frz ds => obtain ⟨xs, o, e, _⟩ := hc; rw [hp] at e; cases e
theorem Rel.newT (r : Rel K ρ H S) {p : Addr} {o : HO} (hp : H p = none) : Rel K ρ (upd H p o) S := by
  refine ⟨r.len, r.nd, fun n a c h1 h2 => (r.cell n a c h1 h2).ext r (ext_new hp) (upd_ne fun z => ?_)⟩
  rw [z] at h1
  exact r.notin hp (List.mem_of_getElem? h1)
theorem ext_newL {p : Addr} {o : HO} (hp : H p = none) : Ext ρ H (ρ ++ [p]) (upd H p o) := by
  refine ⟨⟨[p], rfl⟩, fun q h n => ?_, fun b u h _ => by rw [upd_ne (ne_of_none h hp)]; exact h⟩
  rcases List.mem_append.mp h with h | h
  · exact absurd h n
  · rw [List.mem_singleton.mp h]; exact hp
theorem Rel.newL (r : Rel K ρ H S) {p : Addr} {xs : List V} {ds : List D} (hp : H p = none) (h : RDs K ρ H xs ds) : Rel K (ρ ++ [p]) (upd H p (.lst xs)) (S ++ [.lst ds]) := by
  have hn := r.notin hp
  have e : Ext ρ H (ρ ++ [p]) (upd H p (.lst xs)) := ext_newL hp
  refine ⟨by simp [r.len], ?_, fun n a c h1 h2 => ?_⟩
  · rw [List.nodup_append]
    refine ⟨r.nd, by simp, fun a ha b hb z => ?_⟩
    rw [List.mem_singleton] at hb
    rw [z, hb] at ha
    exact hn ha
  · by_cases hi : n < ρ.length
    · rw [List.getElem?_append_left hi] at h1
      rw [List.getElem?_append_left (by rw [← r.len]; exact hi)] at h2
      refine (r.cell n a c h1 h2).ext r e (upd_ne fun z => hn ?_)
      rw [← z]
      exact List.mem_of_getElem? h1
    · rw [List.getElem?_append_right (by omega)] at h1
      rw [List.getElem?_append_right (by rw [← r.len]; omega), ← r.len] at h2
      have e0 : n - ρ.length = 0 := by
        have := (List.getElem?_eq_some_iff.mp h1).1
        simp at this
        omega
      rw [e0] at h1 h2
      simp at h1 h2
      subst h1; subst h2
      exact ⟨xs, upd_same, h.ext r e⟩
theorem RDs.newV {p : Addr} {xs : List V} {ds : List D} (r : Rel K ρ H S) (hp : H p = none) (h : RDs K ρ H xs ds) : RD K ρ (upd H p (.lst xs)) (.ref p) (.vl ds) := by
  have e := ext_new (ρ := ρ) (o := .lst xs) hp
  have h2 := h.ext r e
  exact .vl ⟨upd_same, r.notin hp⟩ h2.len h2.at_
theorem ext_mut {p : Addr} {o : HO} (hp : p ∈ ρ) : Ext ρ H ρ (upd H p o) := ⟨⟨[], by simp⟩, fun q h n => absurd h n, fun b u h hb => by rw [upd_ne (fun z => hb (by rw [z]; exact hp))]; exact h⟩
theorem Rel.mutL (r : Rel K ρ H S) {n : Nat} {p : Addr} {xs : List V} {ds : List D} (hp : ρ[n]? = some p) (h : RDs K ρ H xs ds) : Rel K ρ (upd H p (.lst xs)) (S.set n (.lst ds)) := by
  have e : Ext ρ H ρ (upd H p (.lst xs)) := ext_mut (List.mem_of_getElem? hp)
  refine ⟨by simp [r.len], r.nd, fun m a c h1 h2 => ?_⟩
  by_cases hm : n = m
  · subst hm
    rw [hp] at h1
    cases h1
    rw [List.getElem?_set_self (by rw [← r.len]; exact (List.getElem?_eq_some_iff.mp hp).1)] at h2
    cases h2
    exact ⟨xs, upd_same, h.ext r e⟩
  · rw [List.getElem?_set_ne hm] at h2
    refine (r.cell m a c h1 h2).ext r e (upd_ne fun z => hm ?_)
    rw [z] at h1
    exact (nodup_ix' r.nd hp h1)
where
  nodup_ix' {l : List Addr} (hN : l.Nodup) {i j : Nat} {x : Addr} (a : l[i]? = some x) (b : l[j]? = some x) : i = j := by
    obtain ⟨h1, e1⟩ := List.getElem?_eq_some_iff.mp a
    obtain ⟨h2, e2⟩ := List.getElem?_eq_some_iff.mp b
    exact (List.getElem_inj hN).mp (e1.trans e2.symm)
end
structure EnvR (K : PySem.W.Frag) (ρ : List Addr) (H : Hp) (σ : L2.St) (env : Env) : Prop where
  len : σ.length = env.length
  at_ : ∀ (i : Nat) d, env[i]? = some (some d) → ∃ v, σ[i]? = some (some v) ∧ RD K ρ H v d
section
variable {K : PySem.W.Frag} {ρ ρ' : List Addr} {H H' : Hp} {S S' : Sto} {σ : L2.St} {env : Env}
theorem EnvR.ext (r : Rel K ρ H S) (e : Ext ρ H ρ' H') (h : EnvR K ρ H σ env) : EnvR K ρ' H' σ env := ⟨h.len, fun i d q => let ⟨v, a, b⟩ := h.at_ i d q; ⟨v, a, b.ext r e⟩⟩
theorem EnvR.set {i : Nat} {v : V} {d : D} (h : EnvR K ρ H σ env) (hv : RD K ρ H v d) : EnvR K ρ H (σ.set i (some v)) (env.set i (some d)) := by
  refine ⟨by simp [h.len], fun j e q => ?_⟩
  by_cases hj : i = j
  · subst hj
    have hi : i < env.length := by
      have := (List.getElem?_eq_some_iff.mp q).1
      simpa using this
    rw [List.getElem?_set_self hi] at q
    cases q
    exact ⟨v, List.getElem?_set_self (by rw [h.len]; exact hi), hv⟩
  · rw [List.getElem?_set_ne hj] at q
    rw [List.getElem?_set_ne hj]
    exact h.at_ j e q
end
abbrev EF := Env → Sto → Option (D × Sto)
abbrev TF := Env → Sto → Option (Bool × Sto)
abbrev AF := Env → Sto → Option (List D × Sto)
def tE (K : PySem.W.Frag) (f : EF) : TE := fun σ H Q => ∃ ρ S env d S', Rel K ρ H S ∧ EnvR K ρ H σ env ∧ f env S = some (d, S') ∧
  ∀ ρ' H' v, Ext ρ H ρ' H' → Rel K ρ' H' S' → RD K ρ' H' v d → Q v H'
def tT (K : PySem.W.Frag) (f : TF) : TT := fun σ H Q => ∃ ρ S env b S', Rel K ρ H S ∧ EnvR K ρ H σ env ∧ f env S = some (b, S') ∧
  ∀ ρ' H', Ext ρ H ρ' H' → Rel K ρ' H' S' → Q b H'
def tA (K : PySem.W.Frag) (f : AF) : TA := fun σ H Q => ∃ ρ S env ds S', Rel K ρ H S ∧ EnvR K ρ H σ env ∧ f env S = some (ds, S') ∧
  ∀ ρ' H' vs, Ext ρ H ρ' H' → Rel K ρ' H' S' → RDs K ρ' H' vs ds → Q vs H'
theorem _root_.L2.PE.imp {X : Cx} {e : Expr} {t t' : TE} (h : PE X e t) (i : ∀ σ H Q, t' σ H Q → t σ H Q) : PE X e t' := ⟨fun pins s σ H Q I q => h.run pins s σ H Q I (i σ H Q q)⟩
theorem _root_.L2.PT.imp {X : Cx} {e : Expr} {t t' : TT} (h : PT X e t) (i : ∀ σ H Q, t' σ H Q → t σ H Q) : PT X e t' := ⟨fun pins s σ H Q I q => h.run pins s σ H Q I (i σ H Q q)⟩
theorem _root_.L2.PA.imp {X : Cx} {e : List Expr} {t t' : TA} (h : PA X e t) (i : ∀ σ H Q, t' σ H Q → t σ H Q) : PA X e t' := ⟨fun pos pins s σ H Q I q => h.run pos pins s σ H Q I (i σ H Q q)⟩
theorem _root_.L2.PS.imp {X : Cx} {e : Stmt} {t t' : TS} (h : PS X e t) (i : ∀ D σ H, t' D σ H → t D σ H) : PS X e t' := ⟨fun pins s σ H D I q => h.run pins s σ H D I (i D σ H q)⟩
theorem _root_.L2.PSs.imp {X : Cx} {e : List Stmt} {t t' : TS} (h : PSs X e t) (i : ∀ D σ H, t' D σ H → t D σ H) : PSs X e t' := ⟨fun pins s σ H D I q => h.run pins s σ H D I (i D σ H q)⟩
theorem run_e {K : PySem.W.Frag} {f : EF} {ρ : List Addr} {H : Hp} {S S' : Sto} {σ : L2.St} {env : Env} {d : D} {R : VK} (r : Rel K ρ H S) (en : EnvR K ρ H σ env) (hf : f env S = some (d, S'))
    (h : ∀ ρ' H' v, Ext ρ H ρ' H' → Rel K ρ' H' S' → RD K ρ' H' v d → EnvR K ρ' H' σ env → R v H') : tE K f σ H R :=
  ⟨ρ, S, env, d, S', r, en, hf, fun ρ' H' v e r' hv => h ρ' H' v e r' hv (en.ext r e)⟩
theorem run_t {K : PySem.W.Frag} {f : TF} {ρ : List Addr} {H : Hp} {S S' : Sto} {σ : L2.St} {env : Env} {b : Bool} {R : Bool → Hp → Prop} (r : Rel K ρ H S) (en : EnvR K ρ H σ env) (hf : f env S = some (b, S'))
    (h : ∀ ρ' H', Ext ρ H ρ' H' → Rel K ρ' H' S' → EnvR K ρ' H' σ env → R b H') : tT K f σ H R :=
  ⟨ρ, S, env, b, S', r, en, hf, fun ρ' H' e r' => h ρ' H' e r' (en.ext r e)⟩
theorem run_a {K : PySem.W.Frag} {f : AF} {ρ : List Addr} {H : Hp} {S S' : Sto} {σ : L2.St} {env : Env} {ds : List D} {R : List V → Hp → Prop} (r : Rel K ρ H S) (en : EnvR K ρ H σ env) (hf : f env S = some (ds, S'))
    (h : ∀ ρ' H' vs, Ext ρ H ρ' H' → Rel K ρ' H' S' → RDs K ρ' H' vs ds → EnvR K ρ' H' σ env → R vs H') : tA K f σ H R :=
  ⟨ρ, S, env, ds, S', r, en, hf, fun ρ' H' v e r' hv => h ρ' H' v e r' hv (en.ext r e)⟩
def eVar (i : Nat) : EF := fun env S => match env[i]? with
  | some (some d) => some (d, S)
  | _ => none
def eC (d : D) : EF := fun _ S => some (d, S)
section
variable {X : Cx} {e a b c : Expr} {fa fb fc : EF} {pos : Pos}
theorem l_var (i : Nat) {x : Str} (hN : X.N[i]? = some x := by rfl) (hv : Vis X.env.scope x := by first | exact Or.inl rfl | exact Or.inr (Or.inl rfl) | exact Or.inr (Or.inr rfl)) (hd : (x == ("__debug__" : Str)) = false := by decide)
    (hcd : (x == ("__classdict__" : Str)) = false := by decide) : PE X (.Name x pos) (tE X.K (eVar i)) := by
  refine (pe_var hN hv hd hcd).imp fun σ H Q h => ?_
  obtain ⟨ρ, S, env, d, S', r, en, hf, q⟩ := h
  unfold eVar at hf
  split at hf
  · rename_i d' he
    cases hf
    obtain ⟨v, h1, h2⟩ := en.at_ i _ he
    exact ⟨v, h1, q ρ H v (Ext.refl ρ H) r h2⟩
  · cases hf
theorem l_c {v : V} {d : D} (h : PE X e (tC v)) (hr : ∀ ρ H, RD X.K ρ H v d) : PE X e (tE X.K (eC d)) := h.imp fun σ H Q h => by
  obtain ⟨ρ, S, env, d', S', r, en, hf, q⟩ := h
  cases hf
  exact q ρ H v (Ext.refl ρ H) r (hr ρ H)
theorem l_int {i : Int} {j} : PE X (.Constant (.int i) j pos) (tE X.K (eC (.int i))) := l_c pe_int fun _ _ => .int i
theorem l_bl {i : Bool} {j} : PE X (.Constant (.bool i) j pos) (tE X.K (eC (.bl i))) := l_c pe_bl fun _ _ => .bl i
theorem l_non {j} : PE X (.Constant .none j pos) (tE X.K (eC .non)) := l_c pe_non fun _ _ => .non
theorem l_str {x : Str} {j} : PE X (.Constant (.str x) j pos) (tE X.K (eC (.str x))) := l_c pe_str fun _ _ => .str x
abbrev OF := D → D → Sto → Option (D × Sto)
def eBin (g : OF) (fa fb : EF) : EF := fun env S => match fa env S with
  | none => none
  | some (x, S1) => match fb env S1 with
    | none => none
    | some (y, S2) => g x y S2
def OkOp (K : PySem.W.Frag) (r : R2) (g : OF) : Prop := ∀ ρ H S S' x y d e z (Q : VK), Rel K ρ H S → RD K ρ H x d → RD K ρ H y e → g d e S = some (z, S') →
  (∀ ρ' H' v, Ext ρ H ρ' H' → Rel K ρ' H' S' → RD K ρ' H' v z → Q v H') → r x y H Q
theorem bin_imp {r : R2} {g : OF} (ho : OkOp X.K r g) (σ : L2.St) (H : Hp) (Q : VK) (h : tE X.K (eBin g fa fb) σ H Q) : tOp r (tE X.K fa) (tE X.K fb) σ H Q := by
  obtain ⟨ρ, S, env, d, S', r, en, hf, q⟩ := h
  unfold eBin at hf
  split at hf
  · cases hf
  · rename_i x S1 h1
    split at hf
    · cases hf
    · rename_i y S2 h2
      refine run_e r en h1 fun ρ1 H1 v1 e1 r1 hv1 en1 => run_e r1 en1 h2 fun ρ2 H2 v2 e2 r2 hv2 en2 => ?_
      exact ho ρ2 H2 S2 S' v1 v2 x y d Q r2 (hv1.ext r1 e2) hv2 hf fun ρ3 H3 v3 e3 r3 hv3 => q ρ3 H3 v3 ((e1.trans e2).trans e3) r3 hv3
theorem l_bin {op : Operator} {r : R2} {g : OF} (hop : OpR X (binaryOp op) r) (ho : OkOp X.K r g) (ha : PE X a (tE X.K fa)) (hb : PE X b (tE X.K fb)) : PE X (.BinOp a op b pos) (tE X.K (eBin g fa fb)) :=
  (pe_op hop ha hb).imp (bin_imp ho)
theorem l_cmp {op : CmpOp} {r : R2} {g : OF} (hop : OpR X (compareOp op) r) (ho : OkOp X.K r g) (ha : PE X a (tE X.K fa)) (hb : PE X b (tE X.K fb)) (hm : behindInMarks op b = false) : PE X (.Compare a [op] [b] pos) (tE X.K (eBin g fa fb)) :=
  (pe_cmpR hop ha hb hm).imp (bin_imp ho)
def truB (f : EF) : TF := fun env S => match f env S with
  | some (.bl k, S') => some (k, S')
  | _ => none
theorem truB_imp {f : EF} (σ : L2.St) (H : Hp) (Q : Bool → Hp → Prop) (h : tT X.K (truB f) σ H Q) : tE X.K f σ H fun x H' => ∃ k, x = .bl k ∧ Q k H' := by
  obtain ⟨ρ, S, env, b, S', r, en, hf, q⟩ := h
  unfold truB at hf
  split at hf
  · rename_i k S1 h1
    cases hf
    refine run_e r en h1 fun ρ1 H1 v1 e1 r1 hv1 en1 => ?_
    cases hv1
    exact ⟨_, rfl, q ρ1 H1 e1 r1⟩
  · cases hf
theorem lt_cmp {op : CmpOp} {r : R2} {g : OF} (hop : OpR X (compareOp op) r) (ho : OkOp X.K r g) (ha : PE X a (tE X.K fa)) (hb : PE X b (tE X.K fb)) (hm : behindInMarks op b = false) : PT X (.Compare a [op] [b] pos) (tT X.K (truB (eBin g fa fb))) := by
  refine (pt_cmpR hop ha hb hm).imp fun σ H Q h => ?_
  have h2 := truB_imp σ H Q h
  exact bin_imp ho σ H _ h2
end
end Lv
namespace Lv
open PySem PySem.Spec PyProof.Rows L2
def mapO {α β : Type} (f : α → Option β) : List α → Option (List β)
  | [] => some []
  | x :: r => match f x with
    | none => none
    | some y => match mapO f r with
      | none => none
      | some ys => some (y :: ys)
def toP : Nat → Sto → D → Option PyData
  | 0, _, _ => none
  | _ + 1, _, .ty _ => none
  | _ + 1, _, .kl _ => none
  | n + 1, S, .vl ds => match mapO (toP n S) ds with
    | some ps => some (.list ps)
    | none => none
  | _ + 1, _, .non => some .none
  | _ + 1, _, .bl b => some (.bool b)
  | _ + 1, _, .int i => some (.int i)
  | _ + 1, _, .str x => some (.str x)
  | n + 1, S, .tup ds => match mapO (toP n S) ds with
    | some ps => some (.tuple ps)
    | none => none
  | n + 1, S, .ref k => match S[k]? with
    | none => none
    | some c => match mapO (toP n S) c.items with
      | some ps => some (.list ps)
      | none => none
theorem mapO_cons {α β : Type} {f : α → Option β} {x : α} {r : List α} {zs : List β} (h : mapO f (x :: r) = some zs) : ∃ y ys, f x = some y ∧ mapO f r = some ys ∧ zs = y :: ys := by
  unfold mapO at h
  split at h
  · cases h
  · rename_i y hy
    split at h
    · cases h
    · rename_i ys hys
      cases h
      exact ⟨y, ys, hy, hys, rfl⟩
section
variable {K : PySem.W.Frag} {ρ ρ' : List Addr} {H H' : Hp} {S S' : Sto}
theorem Rel.seq (r : Rel K ρ H S) {k : Nat} {a : Addr} {c : Cell} (h : ρ[k]? = some a) (hc : S[k]? = some c) : ∃ xs, SqL K H a xs ∧ RDs K ρ H xs c.items := by
  have q := r.cell k a c h hc
  cases c with
  | lst ds => obtain ⟨xs, e, q⟩ := q; exact ⟨xs, .inl (.inl e), q⟩
  | frz ds => obtain ⟨xs, o, e, q⟩ := q; exact ⟨xs, .inl (.inr ⟨o, e⟩), q⟩
theorem all_dp {f : D → Option PyData} (ih : ∀ v d p, RD K ρ H v d → f d = some p → Dp K H v p) : ∀ {xs : List V} {ds : List D} {ps : List PyData}, RDs K ρ H xs ds → mapO f ds = some ps → DpAll K H xs ps
  | [], [], ps, _, h => by
    cases h
    exact .nil
  | [], _ :: _, _, q, _ => by have := q.len; simp at this
  | _ :: _, [], _, q, _ => by have := q.len; simp at this
  | x :: xs, d :: ds, ps, q, h => by
    obtain ⟨y, ys, h1, h2, rfl⟩ := mapO_cons h
    refine .cons (ih x d y (q.at_ 0 x d rfl rfl) h1) (all_dp ih ⟨by have := q.len; simpa using this, fun i x' d' a b => q.at_ (i + 1) x' d' a b⟩ h2)
theorem dp_of (r : Rel K ρ H S) : ∀ (n : Nat) (v : V) (d : D) (p : PyData), RD K ρ H v d → toP n S d = some p → Dp K H v p
  | 0, _, _, _, _, h => by cases h
  | n + 1, v, d, p, hv, h => by
    cases hv with
    | ty n => cases h
    | kl hs hl ha => cases h
    | vl hs hl ha =>
      unfold toP at h
      split at h
      · rename_i ps hp
        cases h
        exact .lst hs.sq (all_dp (dp_of r n) ⟨hl, ha⟩ hp)
      · cases h
    | non => cases h; exact .non
    | bl b => cases h; exact .bl b
    | int i => cases h; exact .int i
    | str x => cases h; exact .str x
    | tup hs hl ha =>
      unfold toP at h
      split at h
      · rename_i ps hp
        cases h
        exact .tup hs (all_dp (dp_of r n) ⟨hl, ha⟩ hp)
      · cases h
    | ref hr =>
      unfold toP at h
      split at h
      · cases h
      · rename_i c hc
        split at h
        · rename_i ps hp
          cases h
          obtain ⟨xs, h1, h2⟩ := r.seq hr hc
          exact .lst h1 (all_dp (dp_of r n) h2 hp)
        · cases h
end
mutual
def sz : PyData → Nat
  | .none => 4
  | .bool _ => 5
  | .int _ => 1000
  | .str x => 12 * x.length + 2
  | .list xs => szAll xs + 4
  | .tuple xs => szAll xs + 4
  | .dict _ => 0
def szAll : List PyData → Nat
  | [] => 0
  | x :: xs => sz x + 2 + szAll xs
end
def gArith (f : Int → Int → Option Int) : OF := fun x y S => match x, y with
  | .int i, .int j => match f i j with
    | some k => some (.int k, S)
    | none => none
  | _, _ => none
def gCmpI (f : Int → Int → Bool) : OF := fun x y S => match x, y with
  | .int i, .int j => some (.bl (f i j), S)
  | _, _ => none
section
variable {K : PySem.W.Frag}
theorem ok_arith {f : Int → Int → Option Int} {C : Int → Int → Prop} {g : Int → Int → Int} (h : ∀ i j k, f i j = some k → C i j ∧ k = g i j) : OkOp K (rI C fun i j => .int (g i j)) (gArith f) := by
  intro ρ H S S' x y d e z Q r hx hy hg q
  unfold gArith at hg
  split at hg
  · rename_i i j
    split at hg
    · rename_i k hk
      cases hg
      cases hx; cases hy
      obtain ⟨hc, rfl⟩ := h _ _ _ hk
      exact ⟨_, _, rfl, rfl, hc, q ρ H _ (Ext.refl ρ H) r (.int _)⟩
    · cases hg
  · cases hg
theorem ok_arith0 {f : Int → Int → Option Int} {g : Int → Int → Int} (h : ∀ i j k, f i j = some k → k = g i j) : OkOp K (rI0 fun i j => .int (g i j)) (gArith f) := by
  intro ρ H S S' x y d e z Q r hx hy hg q
  unfold gArith at hg
  split at hg
  · rename_i i j
    split at hg
    · rename_i k hk
      cases hg
      cases hx; cases hy
      obtain rfl := h _ _ _ hk
      exact ⟨_, _, rfl, rfl, q ρ H _ (Ext.refl ρ H) r (.int _)⟩
    · cases hg
  · cases hg
theorem ok_cmpI {f : Int → Int → Bool} : OkOp K (rI0 fun i j => .bl (f i j)) (gCmpI f) := by
  intro ρ H S S' x y d e z Q r hx hy hg q
  unfold gCmpI at hg
  split at hg
  · cases hg
    cases hx; cases hy
    exact ⟨_, _, rfl, rfl, q ρ H _ (Ext.refl ρ H) r (.bl _)⟩
  · cases hg
theorem ok_or {r r' : R2} {g g' : OF} (h : OkOp K r g) (h' : OkOp K r' g') : OkOp K (fun x y H Q => r x y H Q ∨ r' x y H Q) (fun x y S => match g x y S with
    | some z => some z
    | none => g' x y S) := by
  intro ρ H S S' x y d e z Q rl hx hy hg q
  dsimp only at hg
  split at hg
  · rename_i z' hz
    cases hg
    exact .inl (h ρ H S S' x y d e z Q rl hx hy hz q)
  · exact .inr (h' ρ H S S' x y d e z Q rl hx hy hg q)
end
def lim : Nat := 10000000
theorem lim_le {n : Nat} (h : n ≤ lim) : n ≤ sizeLine := Nat.le_trans h (by decide)
theorem lim_lt {n : Nat} (h : n ≤ lim) : n < sizeLine := Nat.lt_of_le_of_lt h (by decide)
def liveOf (S : Sto) : D → Option (List D)
  | .vl ds => some ds
  | .ref k => match S[k]? with
    | some (.lst ds) => some ds
    | _ => none
  | _ => none
theorem live_rd {K : PySem.W.Frag} {ρ : List Addr} {H : Hp} {S : Sto} (r : Rel K ρ H S) {y : V} {e : D} {ds : List D} (hy : RD K ρ H y e) (h : liveOf S e = some ds) : ∃ p xs, y = .ref p ∧ H p = some (.lst xs) ∧ RDs K ρ H xs ds := by
  cases hy with
  | vl hs hl ha => cases h; exact ⟨_, _, rfl, hs.1, hl, ha⟩
  | ref hr =>
    simp only [liveOf] at h
    split at h
    · rename_i ds' hc
      cases h
      obtain ⟨xs, h1, h2⟩ := r.cell _ _ _ hr hc
      exact ⟨_, xs, rfl, h1, h2⟩
    · cases h
  | _ => cases h
def mkV (rm : Bool) (ds : List D) (S : Sto) : D × Sto := if rm then (.ref S.length, S ++ [.lst ds]) else (.vl ds, S)
theorem mkV_ok {K : PySem.W.Frag} {ρ : List Addr} {H : Hp} {S S' : Sto} {rm : Bool} {ds : List D} {z : D} {xs : List V} {p : Addr} {Q : VK} (r : Rel K ρ H S) (h : RDs K ρ H xs ds) (hm : mkV rm ds S = (z, S')) (hp : H p = none)
    (q : ∀ ρ' H' v, Ext ρ H ρ' H' → Rel K ρ' H' S' → RD K ρ' H' v z → Q v H') : Q (.ref p) (upd H p (.lst xs)) := by
  cases rm with
  | false =>
    obtain ⟨rfl, rfl⟩ := Prod.mk.inj (show (D.vl ds, S) = (z, S') from hm)
    exact q ρ _ _ (ext_new hp) (r.newT hp) (h.newV r hp)
  | true =>
    obtain ⟨rfl, rfl⟩ := Prod.mk.inj (show (D.ref S.length, S ++ [Cell.lst ds]) = (z, S') from hm)
    refine q _ _ _ (ext_newL hp) (r.newL hp h) (.ref ?_)
    rw [← r.len]
    simp
def gAdd (rm : Bool) : OF := fun x y S => match x, y with
  | .int i, .int j => some (.int (i + j), S)
  | .str i, .str j => if i.length + j.length ≤ lim then some (.str (i ++ j), S) else none
  | .tup ds, .tup es => if ds.length + es.length ≤ lim then some (.tup (ds ++ es), S) else none
  | x, y => match liveOf S x, liveOf S y with
    | some ds, some es => if ds.length + es.length ≤ lim then some (mkV rm (ds ++ es) S) else none
    | _, _ => none
def rAdd (K : PySem.W.Frag) : R2 := fun x y H Q => ((∃ i j, x = .int i ∧ y = .int j ∧ Q (.int (i + j)) H) ∨ (∃ i j, x = .str i ∧ y = .str j ∧ i.length + j.length ≤ sizeLine ∧ Q (.str (i ++ j)) H)) ∨ (rCatA K x y H Q ∨ rCat x y H Q)
theorem op_addL {X : Cx} : OpR X (binaryOp .Add) (rAdd X.K) := OpR.or (OpR.or op_add op_add_str) (OpR.or op_catA op_cat)
theorem rds_ne {K : PySem.W.Frag} {ρ : List Addr} {H : Hp} {xs : List V} {ds : List D} (h : RDs K ρ H xs ds) (e : xs = []) : ds = [] := by
  have := h.len
  rw [e] at this
  exact List.eq_nil_of_length_eq_zero this.symm
theorem ok_add {K : PySem.W.Frag} {rm : Bool} : OkOp K (rAdd K) (gAdd rm) := by
  intro ρ H S S' x y d e z Q r hx hy hg q
  unfold gAdd at hg
  split at hg
  · cases hg
    cases hx; cases hy
    exact .inl (.inl ⟨_, _, rfl, rfl, q ρ H _ (Ext.refl ρ H) r (.int _)⟩)
  · split at hg
    · rename_i hl
      cases hg
      cases hx; cases hy
      exact .inl (.inr ⟨_, _, rfl, rfl, lim_le hl, q ρ H _ (Ext.refl ρ H) r (.str _)⟩)
    · cases hg
  · split at hg
    · rename_i ds es hl
      cases hg
      cases hx with
      | tup hs hlen ha =>
        rename_i a xs
        cases hy with
        | tup hs' hlen' ha' =>
          rename_i b ys
          have R1 : RDs K ρ H xs ds := ⟨hlen, ha⟩
          have R2 : RDs K ρ H ys es := ⟨hlen', ha'⟩
          refine .inr (.inl ⟨a, b, xs, ys, rfl, rfl, hs, hs', lim_le (by rw [hlen, hlen']; exact hl), fun e1 => ?_, fun _ e2 => ?_, fun _ _ p hp => ?_⟩)
          · refine q ρ H _ (Ext.refl ρ H) r ?_
            rw [rds_ne R1 e1]
            exact .tup hs' hlen' ha'
          · refine q ρ H _ (Ext.refl ρ H) r ?_
            rw [rds_ne R2 e2, List.append_nil]
            exact .tup hs hlen ha
          · have e := ext_new (ρ := ρ) (o := .tup (xs ++ ys)) hp
            have RR := (R1.append R2).ext r e
            exact q ρ _ _ e (r.newT hp) (.tup (SqT.of upd_same) RR.len RR.at_)
    · cases hg
  · split at hg
    · rename_i ds es h1 h2
      split at hg
      · rename_i hl
        obtain ⟨a, xs, rfl, k1, k2⟩ := live_rd r hx h1
        obtain ⟨b, ys, rfl, k3, k4⟩ := live_rd r hy h2
        exact .inr (.inr ⟨a, b, xs, ys, rfl, rfl, k1, k3, lim_le (by rw [k2.len, k4.len]; exact hl), fun p hp => mkV_ok r (k2.append k4) (Option.some.inj hg) hp q⟩)
      · cases hg
    · cases hg
def fMul (i j : Int) : Option Int := if i.natAbs.log2 + j.natAbs.log2 < 1000000 then some (i * j) else none
def fMod (i j : Int) : Option Int := if 0 < j then some (i % j) else none
def fDiv (i j : Int) : Option Int := if 0 < j ∧ j.natAbs.log2 < 9000 then some (i / j) else none
def fPow (i j : Int) : Option Int := if 0 ≤ j ∧ (Builtin.Int.intBits i : Int) * j ≤ 1000000 then some (i ^ j.toNat) else none
def CPowW (i j : Int) : Prop := 0 ≤ j ∧ (Builtin.Int.intBits i : Int) * j ≤ 2 ^ 27
section
variable {X : Cx} {K : PySem.W.Frag}
theorem op_powW : OpR X (binaryOp .Pow) (rI CPowW fun i j => .int (i ^ j.toNat)) := opI fun _ _ _ _ _ _ _ hc q => pow_int hc.1 hc.2 q
theorem ok_sub : OkOp K (rI0 fun i j => .int (i - j)) (gArith fun i j => some (i - j)) := ok_arith0 fun i j k h => (Option.some.inj h).symm
theorem ok_mul : OkOp K (rI CMulW fun i j => .int (i * j)) (gArith fMul) := ok_arith fun i j k h => by
  unfold fMul at h
  split at h
  · rename_i hc; cases h; exact ⟨hc, rfl⟩
  · cases h
theorem ok_mod : OkOp K (rI (fun _ j => 0 < j) fun i j => .int (i % j)) (gArith fMod) := ok_arith fun i j k h => by
  unfold fMod at h
  split at h
  · rename_i hc; cases h; exact ⟨hc, rfl⟩
  · cases h
theorem ok_div : OkOp K (rI CDivW fun i j => .int (i / j)) (gArith fDiv) := ok_arith fun i j k h => by
  unfold fDiv at h
  split at h
  · rename_i hc; cases h; exact ⟨hc, rfl⟩
  · cases h
theorem ok_pow : OkOp K (rI CPowW fun i j => .int (i ^ j.toNat)) (gArith fPow) := ok_arith fun i j k h => by
  unfold fPow at h
  split at h
  · rename_i hc; cases h; exact ⟨⟨hc.1, Int.le_trans hc.2 (by decide)⟩, rfl⟩
  · cases h
end
def gEqd (neg : Bool) : OF := fun x y S => match toP 60 S x, toP 60 S y with
  | some p, some q => if SeqAt.shaped p && SeqAt.shaped q then some (.bl (if neg then !PyData.eqv p q else PyData.eqv p q), S) else none
  | _, _ => none
def gEqv (neg : Bool) : OF := fun x y S => match x, y with
  | .str a, .str b => some (.bl (if neg then !decide (a = b) else decide (a = b)), S)
  | _, _ => gEqd neg x y S
def rEqA (K : PySem.W.Frag) : R2 := fun x y H Q => rEq x y H Q ∨ rEqD K x y H Q
def rNeA (K : PySem.W.Frag) : R2 := fun x y H Q => rNe x y H Q ∨ rNeD K x y H Q
section
variable {X : Cx} {K : PySem.W.Frag}
theorem op_eqA (hu : X.A.units + 64 < cLine) : OpR X (compareOp .Eq) (rEqA X.K) := OpR.or op_eq (op_eqD hu)
theorem op_neA (hu : X.A.units + 64 < cLine) : OpR X (compareOp .NotEq) (rNeA X.K) := OpR.or op_ne (op_neD hu)
theorem dec_strV {a b : Str} : decide (V.str a = V.str b) = decide (a = b) := by
  rw [Bool.eq_iff_iff]
  simp
theorem ok_eqd : OkOp K (rEqD K) (gEqd false) := by
  intro ρ H S S' x y d e z Q r hx hy hg q
  unfold gEqd at hg
  split at hg
  · rename_i p p' h1 h2
    split at hg
    · rename_i hs
      cases hg
      rw [Bool.and_eq_true] at hs
      exact ⟨p, p', dp_of r _ x d p hx h1, dp_of r _ y e p' hy h2, hs.1, hs.2, q ρ H _ (Ext.refl ρ H) r (.bl _)⟩
    · cases hg
  · cases hg
theorem ok_ned : OkOp K (rNeD K) (gEqd true) := by
  intro ρ H S S' x y d e z Q r hx hy hg q
  unfold gEqd at hg
  split at hg
  · rename_i p p' h1 h2
    split at hg
    · rename_i hs
      cases hg
      rw [Bool.and_eq_true] at hs
      exact ⟨p, p', dp_of r _ x d p hx h1, dp_of r _ y e p' hy h2, hs.1, hs.2, q ρ H _ (Ext.refl ρ H) r (.bl _)⟩
    · cases hg
  · cases hg
theorem ok_eqv : OkOp K (rEqA K) (gEqv false) := by
  intro ρ H S S' x y d e z Q r hx hy hg q
  unfold gEqv at hg
  split at hg
  · rename_i a b
    cases hx; cases hy; cases hg
    refine .inl ⟨rfl, ?_⟩
    rw [dec_strV]
    exact q ρ H _ (Ext.refl ρ H) r (.bl _)
  · exact .inr (ok_eqd ρ H S S' x y d e z Q r hx hy hg q)
theorem ok_nev : OkOp K (rNeA K) (gEqv true) := by
  intro ρ H S S' x y d e z Q r hx hy hg q
  unfold gEqv at hg
  split at hg
  · rename_i a b
    cases hx; cases hy; cases hg
    refine .inl ⟨rfl, ?_⟩
    rw [dec_strV]
    exact q ρ H _ (Ext.refl ρ H) r (.bl _)
  · exact .inr (ok_ned ρ H S S' x y d e z Q r hx hy hg q)
end
def isNon : D → Bool
  | .non => true
  | _ => false
def gIsN (neg : Bool) : OF := fun x y S => match y with
  | .non => some (.bl (if neg then !isNon x else isNon x), S)
  | _ => none
section
variable {X : Cx} {K : PySem.W.Frag}
theorem rd_non {ρ : List Addr} {H : Hp} {x : V} {d : D} (h : RD K ρ H x d) : decide (x = .non) = isNon d := by
  cases h <;> simp [isNon]
theorem ok_isN : OkOp K (fun x y H Q => y = .non ∧ Q (.bl (decide (x = .non))) H) (gIsN false) := by
  intro ρ H S S' x y d e z Q r hx hy hg q
  unfold gIsN at hg
  split at hg
  · cases hg
    cases hy
    refine ⟨rfl, ?_⟩
    rw [rd_non hx]
    exact q ρ H _ (Ext.refl ρ H) r (.bl _)
  · cases hg
theorem ok_notN : OkOp K (fun x y H Q => y = .non ∧ Q (.bl (!decide (x = .non))) H) (gIsN true) := by
  intro ρ H S S' x y d e z Q r hx hy hg q
  unfold gIsN at hg
  split at hg
  · cases hg
    cases hy
    refine ⟨rfl, ?_⟩
    rw [rd_non hx]
    exact q ρ H _ (Ext.refl ρ H) r (.bl _)
  · cases hg
end
def flatD : D → Bool
  | .non | .bl _ | .int _ | .str _ => true
  | _ => false
def eqD : D → D → Bool
  | .non, .non => true
  | .bl a, .bl b => a == b
  | .bl a, .int b => (if a then 1 else 0) == b
  | .int a, .bl b => a == (if b then 1 else 0)
  | .int a, .int b => a == b
  | .str a, .str b => a == b
  | _, _ => false
def itemsOf (S : Sto) : D → Option (List D)
  | .tup ds => some ds
  | .kl ds => some ds
  | .vl ds => some ds
  | .ref k => match S[k]? with
    | some c => some c.items
    | none => none
  | _ => none
def gIn (neg : Bool) : OF := fun x y S => match itemsOf S y with
  | some ds => if flatD x && ds.all flatD then some (.bl (if neg then !(ds.any fun d => eqD d x) else ds.any fun d => eqD d x), S) else none
  | none => none
section
variable {X : Cx} {K : PySem.W.Frag} {ρ : List Addr} {H : Hp} {S : Sto}
theorem flat_rd {x : V} {d : D} (h : RD K ρ H x d) : flatV x = flatD d := by cases h <;> rfl
theorem eq_rd {x y : V} {d e : D} (h : RD K ρ H x d) (h' : RD K ρ H y e) : eqV x y = eqD d e := by
  cases h <;> cases h' <;> rfl
theorem all_rd : ∀ {xs : List V} {ds : List D}, RDs K ρ H xs ds → xs.all flatV = ds.all flatD
  | [], [], _ => rfl
  | [], _ :: _, q => by have := q.len; simp at this
  | _ :: _, [], q => by have := q.len; simp at this
  | x :: xs, d :: ds, q => by
    rw [List.all_cons, List.all_cons, flat_rd (q.at_ 0 x d rfl rfl), all_rd (xs := xs) (ds := ds) ⟨by have := q.len; simpa using this, fun i x' d' a b => q.at_ (i + 1) x' d' a b⟩]
theorem any_rd {y : V} {e : D} (hy : RD K ρ H y e) : ∀ {xs : List V} {ds : List D}, RDs K ρ H xs ds → (xs.any fun z => eqV z y) = ds.any fun z => eqD z e
  | [], [], _ => rfl
  | [], _ :: _, q => by have := q.len; simp at this
  | _ :: _, [], q => by have := q.len; simp at this
  | x :: xs, d :: ds, q => by
    rw [List.any_cons, List.any_cons, eq_rd (q.at_ 0 x d rfl rfl) hy, any_rd hy (xs := xs) (ds := ds) ⟨by have := q.len; simpa using this, fun i x' d' a b => q.at_ (i + 1) x' d' a b⟩]
theorem items_rd (r : Rel K ρ H S) {y : V} {e : D} {ds : List D} (hy : RD K ρ H y e) (h : itemsOf S e = some ds) : ∃ p xs, y = .ref p ∧ (SqL K H p xs ∨ SqT K H p xs) ∧ RDs K ρ H xs ds := by
  cases hy with
  | tup hs hl ha => cases h; exact ⟨_, _, rfl, .inr hs, hl, ha⟩
  | kl hs hl ha => cases h; exact ⟨_, _, rfl, .inl (hs _), hl, ha⟩
  | vl hs hl ha => cases h; exact ⟨_, _, rfl, .inl hs.sq, hl, ha⟩
  | ref hr =>
    simp only [itemsOf] at h
    split at h
    · rename_i c hc
      cases h
      obtain ⟨xs, h1, h2⟩ := r.seq hr hc
      exact ⟨_, xs, rfl, .inl h1, h2⟩
    · cases h
  | _ => cases h
theorem ok_in (neg : Bool) : OkOp K (rIn K neg) (gIn neg) := by
  intro ρ H S S' x y d e z Q r hx hy hg q
  unfold gIn at hg
  split at hg
  · rename_i ds hd
    split at hg
    · rename_i hf
      cases hg
      rw [Bool.and_eq_true] at hf
      obtain ⟨p, xs, rfl, hs, hr⟩ := items_rd r hy hd
      refine ⟨p, xs, rfl, hs, (flat_rd hx).trans hf.1, (all_rd hr).trans hf.2, ?_⟩
      unfold inV
      rw [any_rd hx hr]
      exact q ρ H _ (Ext.refl ρ H) r (.bl _)
    · cases hg
  · cases hg
end
end Lv
namespace Lv
open PySem PySem.Spec PyProof.Rows L2
def aNil : AF := fun _ S => some ([], S)
def aCons (f : EF) (g : AF) : AF := fun env S => match f env S with
  | none => none
  | some (d, S1) => match g env S1 with
    | none => none
    | some (ds, S2) => some (d :: ds, S2)
abbrev CF := List D → Sto → Option (D × Sto)
def eCall (g : CF) (fa : AF) : EF := fun env S => match fa env S with
  | none => none
  | some (ds, S1) => g ds S1
def OkCall (K : PySem.W.Frag) (r : List V → Hp → VK → Prop) (g : CF) : Prop := ∀ ρ H S S' vs ds z (Q : VK), Rel K ρ H S → RDs K ρ H vs ds → g ds S = some (z, S') →
  (∀ ρ' H' v, Ext ρ H ρ' H' → Rel K ρ' H' S' → RD K ρ' H' v z → Q v H') → r vs H Q
section
variable {X : Cx} {e a b : Expr} {es : List Expr} {fe fa fb : EF} {fs : AF} {pos p apos : Pos}
theorem la_nil : PA X [] (tA X.K aNil) := pa_nil.imp fun σ H Q h => by
  obtain ⟨ρ, S, env, ds, S', r, en, hf, q⟩ := h
  cases hf
  exact q ρ H [] (Ext.refl ρ H) r RDs.nil
theorem cons_imp (σ : L2.St) (H : Hp) (Q : List V → Hp → Prop) (h : tA X.K (aCons fe fs) σ H Q) : tCons (tE X.K fe) (tA X.K fs) σ H Q := by
  obtain ⟨ρ, S, env, ds, S', r, en, hf, q⟩ := h
  unfold aCons at hf
  split at hf
  · cases hf
  · rename_i d S1 h1
    split at hf
    · cases hf
    · rename_i ds' S2 h2
      cases hf
      refine run_e r en h1 fun ρ1 H1 v1 e1 r1 hv1 en1 => run_a r1 en1 h2 fun ρ2 H2 vs2 e2 r2 hv2 en2 => ?_
      exact q ρ2 H2 _ (e1.trans e2) r2 (.cons (hv1.ext r1 e2) hv2)
theorem la_cons (ha : PE X e (tE X.K fe)) (hr : PA X es (tA X.K fs)) (hs : starEach (e :: es) X.env = (false, eval e X.env) :: starEach es X.env := by rfl) : PA X (e :: es) (tA X.K (aCons fe fs)) :=
  (pa_cons ha hr hs).imp cons_imp
theorem call_imp {r : List V → Hp → VK → Prop} {g : CF} (ho : OkCall X.K r g) (σ : L2.St) (H : Hp) (Q : VK) (h : tE X.K (eCall g fs) σ H Q) : tA X.K fs σ H fun vs H1 => r vs H1 Q := by
  obtain ⟨ρ, S, env, d, S', r1, en, hf, q⟩ := h
  unfold eCall at hf
  split at hf
  · cases hf
  · rename_i ds S1 h1
    refine run_a r1 en h1 fun ρ1 H1 vs e1 r2 hv en1 => ?_
    exact ho ρ1 H1 S1 S' vs ds d Q r2 hv hf fun ρ2 H2 v e2 r3 hv2 => q ρ2 H2 v (e1.trans e2) r3 hv2
theorem l_callB {id : String} {x : Str} {r : List V → Hp → VK → Prop} {g : CF} (hc : CallR X (.builtin id) r) (ho : OkCall X.K r g) (hg : Gl X x) (hm : X.mg x = none) (hv : bootBuiltins x = some (.builtin id)) (ha : PA X (e :: es) (tA X.K fs)) (hn : x ≠ "__name__" := by decide) (hdb : (x == ("__debug__" : Str)) = false := by decide)
    (he : starEach (e :: es) X.env = (false, eval e X.env) :: starEach es X.env := by rfl) (hpl : (backTo pos (starEach es X.env)).any (·.1) = false := by rfl) : PE X (.Call (.Name x p) (e :: es) [] pos) (tE X.K (eCall g fs)) :=
  (pe_callB hc hg hm hv ha hn hdb he hpl).imp (call_imp ho)
theorem l_callTy {id : String} {x : Str} {r : List V → Hp → VK → Prop} {g : CF} (hc : CallR X (.type id) r) (ho : OkCall X.K r g) (hg : Gl X x) (hm : X.mg x = none) (hv : bootBuiltins x = some (.type id)) (ha : PA X (e :: es) (tA X.K fs)) (hn : x ≠ "__name__" := by decide) (hdb : (x == ("__debug__" : Str)) = false := by decide)
    (he : starEach (e :: es) X.env = (false, eval e X.env) :: starEach es X.env := by rfl) (hpl : (backTo pos (starEach es X.env)).any (·.1) = false := by rfl) : PE X (.Call (.Name x p) (e :: es) [] pos) (tE X.K (eCall g fs)) :=
  (pe_callTy hc hg hm hv ha hn hdb he hpl).imp (call_imp ho)
theorem l_ty {n : String} {x : Str} (hg : Gl X x) (hm : X.mg x = none) (hv : bootBuiltins x = some (.type n)) (hn : x ≠ "__name__" := by decide) (hd : (x == ("__debug__" : Str)) = false := by decide) : PE X (.Name x pos) (tE X.K (eC (.ty n))) :=
  l_c (pe_bltn hg hm hv (v := .ty n) rfl hn hd) fun _ _ => .ty n
def cTup : CF := fun ds S => if ds.length ≤ lim then some (.tup ds, S) else none
def cLst (rm : Bool) : CF := fun ds S => if ds.length ≤ lim then some (mkV rm ds S) else none
theorem l_tup {x1} (h : PA X es (tA X.K fs)) : PE X (.Tuple es x1 pos) (tE X.K (eCall cTup fs)) := (pe_tup h).imp fun σ H Q q => call_imp (r := fun xs H1 Q => xs.length ≤ sizeLine ∧ ∀ p, H1 p = none → Q (.ref p) (upd H1 p (.tup xs))) (fun ρ H S S' vs ds z Q r hv hg q => by
  unfold cTup at hg
  split at hg
  · rename_i hl
    cases hg
    refine ⟨lim_le (by rw [hv.len]; exact hl), fun p hp => ?_⟩
    have e := ext_new (ρ := ρ) (o := .tup vs) hp
    have hv2 := hv.ext r e
    exact q ρ _ _ e (r.newT hp) (.tup (SqT.of upd_same) hv2.len hv2.at_)
  · cases hg) σ H Q q
theorem l_lst {rm : Bool} (h : PA X es (tA X.K fs)) : PE X (.List es pos) (tE X.K (eCall (cLst rm) fs)) := (pe_lst h).imp fun σ H Q q => call_imp (r := fun xs H1 Q => xs.length ≤ sizeLine ∧ ∀ p, H1 p = none → Q (.ref p) (upd H1 p (.lst xs))) (fun ρ H S S' vs ds z Q r hv hg q => by
  unfold cLst at hg
  split at hg
  · rename_i hl
    exact ⟨lim_le (by rw [hv.len]; exact hl), fun p hp => mkV_ok r hv (Option.some.inj hg) hp q⟩
  · cases hg) σ H Q q
end
section
variable {X : Cx} {K : PySem.W.Frag} {ρ : List Addr} {H : Hp} {S : Sto}
theorem rds1 {vs : List V} {d : D} (h : RDs K ρ H vs [d]) : ∃ v, vs = [v] ∧ RD K ρ H v d := by
  match vs, h.len with
  | [v], _ => exact ⟨v, rfl, h.at_ 0 v d rfl rfl⟩
theorem rds2 {vs : List V} {d e : D} (h : RDs K ρ H vs [d, e]) : ∃ v u, vs = [v, u] ∧ RD K ρ H v d ∧ RD K ρ H u e := by
  match vs, h.len with
  | [v, u], _ => exact ⟨v, u, rfl, h.at_ 0 v d rfl rfl, h.at_ 1 u e rfl rfl⟩
def cLen : CF := fun ds S => match ds with
  | [.str x] => if x.length ≤ lim then some (.int x.length, S) else none
  | [d] => match itemsOf S d with
    | some es => some (.int es.length, S)
    | none => none
  | _ => none
def rLen (K : PySem.W.Frag) : List V → Hp → VK → Prop := fun xs H Q => (∃ p ys, xs = [.ref p] ∧ (SqL K H p ys ∨ SqT K H p ys) ∧ Q (.int ys.length) H) ∨ (∃ z, xs = [.str z] ∧ z.length ≤ sizeLine ∧ Q (.int z.length) H)
theorem cr_len : CallR X (.builtin "len") (rLen X.K) := CallR.or call_len_seq call_len_str
theorem ok_len : OkCall K (rLen K) cLen := by
  intro ρ H S S' vs ds z Q r hv hg q
  unfold cLen at hg
  split at hg
  · split at hg
    · rename_i hl
      cases hg
      obtain ⟨v, rfl, hw⟩ := rds1 hv
      cases hw
      exact .inr ⟨_, rfl, lim_le hl, q ρ H _ (Ext.refl ρ H) r (.int _)⟩
    · cases hg
  · split at hg
    · rename_i es he
      cases hg
      obtain ⟨v, rfl, hw⟩ := rds1 hv
      obtain ⟨p, xs, rfl, hs, hr⟩ := items_rd r hw he
      refine .inl ⟨p, xs, rfl, hs, ?_⟩
      rw [hr.len]
      exact q ρ H _ (Ext.refl ρ H) r (.int _)
    · cases hg
  · cases hg
def intsD : List D → Option (List Int) := mapO fun
  | .int i => some i
  | _ => none
theorem intsD_rd : ∀ {xs : List V} {ds : List D} {ns : List Int}, RDs K ρ H xs ds → intsD ds = some ns → xs = ns.map V.int
  | [], [], ns, _, h => by cases h; rfl
  | [], _ :: _, _, q, _ => by have := q.len; simp at this
  | _ :: _, [], _, q, _ => by have := q.len; simp at this
  | x :: xs, d :: ds, ns, q, h => by
    obtain ⟨y, ys, h1, h2, rfl⟩ := mapO_cons h
    have e := intsD_rd (xs := xs) (ds := ds) ⟨by have := q.len; simpa using this, fun i x' d' a b => q.at_ (i + 1) x' d' a b⟩ h2
    have hx := q.at_ 0 x d rfl rfl
    split at h1
    · cases h1
      cases hx
      rw [e]
      rfl
    · cases h1
def boolsD : List D → Option (List Bool) := mapO fun
  | .bl i => some i
  | _ => none
theorem boolsD_rd : ∀ {xs : List V} {ds : List D} {ns : List Bool}, RDs K ρ H xs ds → boolsD ds = some ns → xs = ns.map V.bl
  | [], [], ns, _, h => by cases h; rfl
  | [], _ :: _, _, q, _ => by have := q.len; simp at this
  | _ :: _, [], _, q, _ => by have := q.len; simp at this
  | x :: xs, d :: ds, ns, q, h => by
    obtain ⟨y, ys, h1, h2, rfl⟩ := mapO_cons h
    have e := boolsD_rd (xs := xs) (ds := ds) ⟨by have := q.len; simpa using this, fun i x' d' a b => q.at_ (i + 1) x' d' a b⟩ h2
    have hx := q.at_ 0 x d rfl rfl
    split at h1
    · cases h1
      cases hx
      rw [e]
      rfl
    · cases h1
def listOf (S : Sto) : D → Option (List D)
  | .kl ds => some ds
  | .vl ds => some ds
  | .ref k => match S[k]? with
    | some c => some c.items
    | none => none
  | _ => none
theorem list_rd (r : Rel K ρ H S) {y : V} {e : D} {ds : List D} (hy : RD K ρ H y e) (h : listOf S e = some ds) : ∃ p xs, y = .ref p ∧ SqL K H p xs ∧ RDs K ρ H xs ds := by
  cases hy with
  | kl hs hl ha => cases h; exact ⟨_, _, rfl, hs _, hl, ha⟩
  | vl hs hl ha => cases h; exact ⟨_, _, rfl, hs.sq, hl, ha⟩
  | ref hr =>
    simp only [listOf] at h
    split at h
    · rename_i c hc
      cases h
      obtain ⟨xs, h1, h2⟩ := r.seq hr hc
      exact ⟨_, xs, rfl, h1, h2⟩
    · cases h
  | _ => cases h
def cSum : CF := fun ds S => match ds with
  | [d] => match listOf S d with
    | some es => match intsD es with
      | some ns => some (.int ns.sum, S)
      | none => none
    | none => none
  | _ => none
theorem ok_sum : OkCall K (rSum K) cSum := by
  intro ρ H S S' vs ds z Q r hv hg q
  unfold cSum at hg
  split at hg
  · split at hg
    · rename_i es he
      split at hg
      · rename_i ns hns
        cases hg
        obtain ⟨v, rfl, hw⟩ := rds1 hv
        obtain ⟨p, xs, rfl, hs, hr⟩ := list_rd r hw he
        rw [intsD_rd hr hns] at hs
        exact ⟨p, ns, rfl, hs, q ρ H _ (Ext.refl ρ H) r (.int _)⟩
      · cases hg
    · cases hg
  · cases hg
def cBools (f : List Bool → Bool) : CF := fun ds S => match ds with
  | [d] => match listOf S d with
    | some es => match boolsD es with
      | some ns => some (.bl (f ns), S)
      | none => none
    | none => none
  | _ => none
theorem ok_bools {f : List Bool → Bool} : OkCall K (fun vs H Q => ∃ (a : Addr) (bs : List Bool), vs = [V.ref a] ∧ SqL K H a (bs.map V.bl) ∧ Q (.bl (f bs)) H) (cBools f) := by
  intro ρ H S S' vs ds z Q r hv hg q
  unfold cBools at hg
  split at hg
  · split at hg
    · rename_i es he
      split at hg
      · rename_i ns hns
        cases hg
        obtain ⟨v, rfl, hw⟩ := rds1 hv
        obtain ⟨p, xs, rfl, hs, hr⟩ := list_rd r hw he
        rw [boolsD_rd hr hns] at hs
        exact ⟨p, ns, rfl, hs, q ρ H _ (Ext.refl ρ H) r (.bl _)⟩
      · cases hg
    · cases hg
  · cases hg
def cMin : CF := fun ds S => match ds with
  | [.int i, .int j] => some (.int (if j < i then j else i), S)
  | _ => none
def cMax : CF := fun ds S => match ds with
  | [.int i, .int j] => some (.int (if j > i then j else i), S)
  | _ => none
theorem ok_min : OkCall K (fun xs H Q => ∃ i j, xs = [.int i, .int j] ∧ Q (.int (if j < i then j else i)) H) cMin := by
  intro ρ H S S' vs ds z Q r hv hg q
  unfold cMin at hg
  split at hg
  · cases hg
    obtain ⟨v, u, rfl, hw, hu⟩ := rds2 hv
    cases hw; cases hu
    exact ⟨_, _, rfl, q ρ H _ (Ext.refl ρ H) r (.int _)⟩
  · cases hg
theorem ok_max : OkCall K (fun xs H Q => ∃ i j, xs = [.int i, .int j] ∧ Q (.int (if j > i then j else i)) H) cMax := by
  intro ρ H S S' vs ds z Q r hv hg q
  unfold cMax at hg
  split at hg
  · cases hg
    obtain ⟨v, u, rfl, hw, hu⟩ := rds2 hv
    cases hw; cases hu
    exact ⟨_, _, rfl, q ρ H _ (Ext.refl ρ H) r (.int _)⟩
  · cases hg
def cInt : CF := fun ds S => match ds with
  | [.int i] => some (.int i, S)
  | [.bl k] => some (.int (if k then 1 else 0), S)
  | _ => none
theorem ok_int : OkCall K (fun xs H Q => (∃ i, xs = [.int i] ∧ Q (.int i) H) ∨ ∃ k, xs = [.bl k] ∧ Q (.int (if k then 1 else 0)) H) cInt := by
  intro ρ H S S' vs ds z Q r hv hg q
  unfold cInt at hg
  split at hg
  · cases hg
    obtain ⟨v, rfl, hw⟩ := rds1 hv
    cases hw
    exact .inl ⟨_, rfl, q ρ H _ (Ext.refl ρ H) r (.int _)⟩
  · cases hg
    obtain ⟨v, rfl, hw⟩ := rds1 hv
    cases hw
    exact .inr ⟨_, rfl, q ρ H _ (Ext.refl ρ H) r (.int _)⟩
  · cases hg
def cListOf (rm : Bool) : CF := fun ds S => match ds with
  | [d] => match itemsOf S d with
    | some es => some (mkV rm es S)
    | none => none
  | _ => none
theorem ok_list {rm : Bool} : OkCall K (fun xs H Q => ∃ p ys, xs = [.ref p] ∧ (SqL K H p ys ∨ SqT K H p ys) ∧ ∀ l, H l = none → Q (.ref l) (upd H l (.lst ys))) (cListOf rm) := by
  intro ρ H S S' vs ds z Q r hv hg q
  unfold cListOf at hg
  split at hg
  · split at hg
    · rename_i es he
      obtain ⟨v, rfl, hw⟩ := rds1 hv
      obtain ⟨p, xs, rfl, hs, hr⟩ := items_rd r hw he
      exact ⟨p, xs, rfl, hs, fun l hl => mkV_ok r hr (Option.some.inj hg) hl q⟩
    · cases hg
  · cases hg
def cTupleOf : CF := fun ds S => match ds with
  | [d] => match itemsOf S d with
    | some es => some (.tup es, S)
    | none => none
  | _ => none
def tyN (S : Sto) : D → Option String
  | .non => some "NoneType"
  | .bl _ => some "bool"
  | .int _ => some "int"
  | .str _ => some "str"
  | .tup _ => some "tuple"
  | .ref k => match S[k]? with
    | some _ => some "list"
    | none => none
  | .ty _ => none
  | .kl _ => none
  | .vl _ => some "list"
theorem tyN_rd (r : Rel K ρ H S) {v : V} {d : D} {n : String} (h : RD K ρ H v d) (hn : tyN S d = some n) : TyX K H v (.type n) := by
  cases h with
  | ty n => cases hn
  | kl hs hl ha => cases hn
  | vl hs hl ha => cases hn; exact .base (.lst hs.1)
  | non => cases hn; exact .base .non
  | bl b => cases hn; exact .base (.bl b)
  | int i => cases hn; exact .base (.int i)
  | str x => cases hn; exact .base (.str x)
  | tup hs hl ha =>
    cases hn
    rcases hs with (hs | ⟨o, hs⟩) | ⟨o, its, m, h1, h2, _⟩
    · exact .base (.tup hs)
    · exact .fTuple hs
    · exact .kTuple h1 h2
  | ref hr =>
    simp only [tyN] at hn
    split at hn
    · rename_i c hc
      cases hn
      have q := r.cell _ _ c hr hc
      cases c with
      | lst ds => obtain ⟨xs, e, _⟩ := q; exact .base (.lst e)
      | frz ds => obtain ⟨xs, o, e, _⟩ := q; exact .base (.frz e)
    · cases hn
def cIsi : CF := fun ds S => match ds with
  | [d, .ty n] => match tyN S d with
    | some m => match kitB m n with
      | some b => some (.bl b, S)
      | none => none
    | none => none
  | _ => none
theorem ok_isi : OkCall K (rIsi K) cIsi := by
  intro ρ H S S' vs ds z Q r hv hg q
  unfold cIsi at hg
  split at hg
  · rename_i d n
    split at hg
    · rename_i m hm
      split at hg
      · rename_i b hb
        cases hg
        obtain ⟨v, u, rfl, hw, hu⟩ := rds2 hv
        cases hu
        exact ⟨v, .ty n, _, _, b, rfl, .ty n, tyN_rd r hw hm, kit_ty hb, q ρ H _ (Ext.refl ρ H) r (.bl _)⟩
      · cases hg
    · cases hg
  · cases hg
end
end Lv
namespace Lv
open PySem PySem.Spec PyProof.Rows L2
mutual
def noDict : PyData → Bool
  | .list xs => noDictAll xs
  | .tuple xs => noDictAll xs
  | .dict _ => false
  | _ => true
def noDictAll : List PyData → Bool
  | [] => true
  | x :: xs => noDict x && noDictAll xs
end
def sizeP (p : PyData) : Bool := decide (p.shown.length ≤ lim)
def cRepr : CF := fun ds S => match ds with
  | [d] => match toP 60 S d with
    | some p => if p.showable && !p.hasDict && decide (p.depth ≤ 60) && sizeP p then some (.str p.shown, S) else none
    | none => none
  | _ => none
def rRepr (K : PySem.W.Frag) : List V → Hp → VK → Prop := fun xs H Q => ∃ v p, xs = [v] ∧ Dp K H v p ∧ p.showable = true ∧ p.hasDict = false ∧ p.depth ≤ 60 ∧ p.shown.length ≤ sizeLine ∧ Q (.str p.shown) H
section
variable {X : Cx} {K : PySem.W.Frag} {ρ : List Addr} {H : Hp} {S : Sto}
theorem call_repr (hG : X.A.guards = some []) (hu : X.A.units + 64 < cLine) : CallR X (.builtin "repr") (rRepr X.K) := by
  intro pins s σ H xs us Q I rv h
  obtain ⟨v, p, rfl, hd, h1, h2, h3, h4, q⟩ := h
  cases rv with
  | cons r1 rn =>
    rename_i u us'
    cases rn
    obtain ⟨as, hr⟩ := Dp.reads I p v u hd r1
    have go : ∀ a, u = .ref a → wpAny (model X.prog X.w) X.A (call (.builtin "repr") [u]) (EP X pins σ Q) X.xe s := fun a e => by
      subst e
      exact repr_of_reads' hr h1 (by rw [h2]; intro z; cases z) hG (by omega) (fun b o e => e) (fun h' t tk k => ⟨.str p.shown, H, I.kept k, ⟨t, rfl⟩, q⟩) h4
    cases hr with
    | none =>
      simp only [PyData.shown] at q
      exact PySem.P.repr_of_none ⟨.str _, H, I.tok _, ⟨_, rfl⟩, q⟩
    | bool b =>
      simp only [PyData.shown] at q
      exact PySem.P.repr_of_bool ⟨.str _, H, I.tok _, ⟨_, rfl⟩, q⟩
    | int i t =>
      simp only [PyData.shown] at q
      exact PySem.P.repr_of_int (by simpa [PyData.showable] using h1) ⟨.str _, H, I.tok _, ⟨_, rfl⟩, q⟩
    | str x t =>
      simp only [PyData.shown] at q h4
      exact PySem.P.repr_of_str ⟨.str _, H, I.tok _, ⟨_, rfl⟩, q⟩ h4
    | list a1 a2 a3 a4 => exact go _ rfl
    | tuple a1 a2 a3 a4 => exact go _ rfl
    | dict a1 a2 a3 a4 a5 => exact go _ rfl
theorem ok_repr : OkCall K (rRepr K) cRepr := by
  intro ρ H S S' vs ds z Q r hv hg q
  unfold cRepr at hg
  split at hg
  · split at hg
    · rename_i p hp
      split at hg
      · rename_i hc
        cases hg
        obtain ⟨v, rfl, hw⟩ := rds1 hv
        simp only [Bool.and_eq_true, Bool.not_eq_true', decide_eq_true_eq, sizeP] at hc
        obtain ⟨⟨⟨c1, c2⟩, c3⟩, c4⟩ := hc
        exact ⟨v, p, rfl, dp_of r _ v _ p hw hp, c1, c2, c3, lim_le c4, q ρ H _ (Ext.refl ρ H) r (.str _)⟩
      · cases hg
    · cases hg
  · cases hg
end
def gIx : OF := fun x y S => match y with
  | .int i => match x with
    | .str z => if z.length ≤ lim then (match atI z.cps.toList i with
      | some c => some (.str ⟨#[c]⟩, S)
      | none => none) else none
    | d => match itemsOf S d with
      | some ds => match atI ds i with
        | some e => some (e, S)
        | none => none
      | none => none
  | _ => none
def rIx (K : PySem.W.Frag) : R2 := fun x y H Q => (rIxL K x y H Q ∨ rIxT K x y H Q) ∨ rIxS x y H Q
section
variable {X : Cx} {K : PySem.W.Frag} {ρ : List Addr} {H : Hp} {S : Sto}
theorem ix_any : IxR X (rIx X.K) := IxR.or (IxR.or ix_list ix_tup) ix_str
theorem atI_rd {xs : List V} {ds : List D} {i : Int} {e : D} (h : RDs K ρ H xs ds) (he : atI ds i = some e) : ∃ v, atI xs i = some v ∧ RD K ρ H v e := by
  unfold atI at he ⊢
  rw [h.len]
  cases q : ixN ds.length i with
  | none => rw [q] at he; cases he
  | some j =>
    rw [q] at he
    exact h.get he
theorem ok_ix : OkOp K (rIx K) gIx := by
  intro ρ H S S' x y d e z Q r hx hy hg q
  unfold gIx at hg
  split at hg
  · rename_i i
    cases hy
    split at hg
    · split at hg
      · rename_i hl
        split at hg
        · rename_i c hc
          cases hg
          cases hx
          exact .inr ⟨_, _, c, rfl, rfl, lim_le hl, hc, q ρ H _ (Ext.refl ρ H) r (.str _)⟩
        · cases hg
      · cases hg
    · split at hg
      · rename_i ds hds
        split at hg
        · rename_i e' he
          cases hg
          obtain ⟨p, xs, rfl, hs, hr⟩ := items_rd r hx hds
          obtain ⟨v, hv, hvd⟩ := atI_rd hr he
          rcases hs with hs | hs
          · exact .inl (.inl ⟨p, xs, i, v, rfl, rfl, hs, hv, q ρ H _ (Ext.refl ρ H) r hvd⟩)
          · exact .inl (.inr ⟨p, xs, i, v, rfl, rfl, hs, hv, q ρ H _ (Ext.refl ρ H) r hvd⟩)
        · cases hg
      · cases hg
  · cases hg
theorem l_ix {a b : Expr} {fa fb : EF} {pos : Pos} (ha : PE X a (tE X.K fa)) (hb : PE X b (tE X.K fb)) (hs : PlainIx b := by exact fun _ _ => rfl) : PE X (.Subscript a b pos) (tE X.K (eBin gIx fa fb)) :=
  (pe_ix ix_any ha hb hs).imp (bin_imp ok_ix)
end
abbrev OPF := Env → Sto → Option (Option Int × Sto)
def oNone : OPF := fun _ S => some (none, S)
def oSome (f : EF) : OPF := fun env S => match f env S with
  | some (.int i, S1) => some (some i, S1)
  | _ => none
def cutD (xs : List D) (lo hi : Option Int) : List D := (xs.drop (HT.sIx xs.length 0 lo)).take (HT.sIx xs.length xs.length hi - HT.sIx xs.length 0 lo)
def gSl (rm : Bool) (x : D) (lo hi : Option Int) (S : Sto) : Option (D × Sto) := match x with
  | .str z => if z.length ≤ lim then some (.str (cutS z lo hi), S) else none
  | .tup ds => some (.tup (cutD ds lo hi), S)
  | d => match listOf S d with
    | some ds => some (mkV rm (cutD ds lo hi) S)
    | none => none
def eSl (rm : Bool) (f : EF) (l h : OPF) : EF := fun env S => match f env S with
  | none => none
  | some (x, S1) => match l env S1 with
    | none => none
    | some (lo, S2) => match h env S2 with
      | none => none
      | some (hi, S3) => gSl rm x lo hi S3
def tO (K : PySem.W.Frag) (f : OPF) : TO := fun σ H Q => ∃ ρ S env o S', Rel K ρ H S ∧ EnvR K ρ H σ env ∧ f env S = some (o, S') ∧
  ∀ ρ' H', Ext ρ H ρ' H' → Rel K ρ' H' S' → Q o H'
def rSl (K : PySem.W.Frag) : V → Option Int → Option Int → Hp → VK → Prop := fun x lo hi H Q => (rSlL K x lo hi H Q ∨ rSlA K x lo hi H Q) ∨ rSlS x lo hi H Q
section
variable {X : Cx} {K : PySem.W.Frag} {ρ : List Addr} {H : Hp} {S : Sto} {e : Expr} {fe : EF} {lo hi : Option Expr} {fl fh : OPF} {pos p2 : Pos}
theorem lo_none : PO X none (tO X.K oNone) := ⟨fun pins s σ H Q I h => po_none.run pins s σ H Q I (by
  obtain ⟨ρ, S, env, o, S', r, en, hf, q⟩ := h
  cases hf
  exact q ρ H (Ext.refl ρ H) r)⟩
theorem lo_some (h : PE X e (tE X.K fe)) : PO X (some e) (tO X.K (oSome fe)) := ⟨fun pins s σ H Q I hw => (po_some h).run pins s σ H Q I (by
  obtain ⟨ρ, S, env, o, S', r, en, hf, q⟩ := hw
  unfold oSome at hf
  split at hf
  · rename_i i S1 h1
    cases hf
    refine run_e r en h1 fun ρ1 H1 v1 e1 r1 hv1 en1 => ?_
    cases hv1
    exact ⟨_, rfl, q ρ1 H1 e1 r1⟩
  · cases hf)⟩
theorem sl_any : SlR X (rSl X.K) := SlR.or (SlR.or sl_list sl_tupA) sl_str
theorem cut_rd {xs : List V} {ds : List D} (h : RDs K ρ H xs ds) (lo hi : Option Int) : RDs K ρ H (cutV xs lo hi) (cutD ds lo hi) := by
  unfold cutV cutD
  rw [h.len]
  exact (h.drop _).take _
theorem ok_sl {rm : Bool} {x : V} {d z : D} {lo hi : Option Int} {S S' : Sto} {Q : VK} (r : Rel K ρ H S) (hx : RD K ρ H x d) (hg : gSl rm d lo hi S = some (z, S')) (q : ∀ ρ' H' v, Ext ρ H ρ' H' → Rel K ρ' H' S' → RD K ρ' H' v z → Q v H') : rSl K x lo hi H Q := by
  unfold gSl at hg
  split at hg
  · split at hg
    · rename_i hl
      cases hg
      cases hx
      exact .inr ⟨_, rfl, lim_le hl, q ρ H _ (Ext.refl ρ H) r (.str _)⟩
    · cases hg
  · rename_i ds
    cases hg
    cases hx with
    | tup hs hl ha =>
      rename_i a xs
      have R := RDs.mk hl ha
      refine .inl (.inr ⟨a, xs, rfl, hs, fun hw => ?_, fun _ p hp => ?_⟩)
      · refine q ρ H _ (Ext.refl ρ H) r ?_
        have e1 : cutD ds lo hi = ds := by
          unfold cutD
          rw [← hl, hw.1, hw.2, List.drop_zero, Nat.sub_zero, hl, List.take_length]
        rw [e1]
        exact .tup hs hl ha
      · have e := ext_new (ρ := ρ) (o := .tup (cutV xs lo hi)) hp
        have RR := (cut_rd R lo hi).ext r e
        exact q ρ _ _ e (r.newT hp) (.tup (SqT.of upd_same) RR.len RR.at_)
  · split at hg
    · rename_i ds hds
      obtain ⟨p, xs, rfl, hs, hr⟩ := list_rd r hx hds
      exact .inl (.inl ⟨p, xs, rfl, hs, fun l hl => mkV_ok r (cut_rd hr lo hi) (Option.some.inj hg) hl q⟩)
    · cases hg
theorem l_sl {rm : Bool} (he : PE X e (tE X.K fe)) (hl : PO X lo (tO X.K fl)) (hh : PO X hi (tO X.K fh)) : PE X (.Subscript e (.Slice lo hi none p2) pos) (tE X.K (eSl rm fe fl fh)) := by
  refine (pe_slice sl_any he hl hh).imp fun σ H Q h => ?_
  obtain ⟨ρ, S, env, d, S', r, en, hf, q⟩ := h
  unfold eSl at hf
  split at hf
  · cases hf
  · rename_i x S1 h1
    split at hf
    · cases hf
    · rename_i o1 S2 h2
      split at hf
      · cases hf
      · rename_i o2 S3 h3
        refine run_e r en h1 fun ρ1 H1 v1 e1 r1 hv1 en1 => ?_
        refine ⟨ρ1, S1, env, o1, S2, r1, en1, h2, fun ρ2 H2 e2 r2 => ⟨ρ2, S2, env, o2, S3, r2, en1.ext r1 e2, h3, fun ρ3 H3 e3 r3 => ?_⟩⟩
        exact ok_sl r3 (hv1.ext r1 (e2.trans e3)) hf fun ρ4 H4 v e4 r4 hv => q ρ4 H4 v ((e1.trans (e2.trans e3)).trans e4) r4 hv
end
abbrev MF := D → List D → Sto → Option (D × Sto)
def OkM (K : PySem.W.Frag) (r : V → List V → Hp → VK → Prop) (g : MF) : Prop := ∀ ρ H S S' x vs d ds z (Q : VK), Rel K ρ H S → RD K ρ H x d → RDs K ρ H vs ds → g d ds S = some (z, S') →
  (∀ ρ' H' v, Ext ρ H ρ' H' → Rel K ρ' H' S' → RD K ρ' H' v z → Q v H') → r x vs H Q
def isRef (S : Sto) : D → Bool
  | .vl _ => true
  | .ref k => decide (k < S.length)
  | _ => false
def eMethL (g : MF) (fo : EF) (fa : AF) : EF := fun env S => match fo env S with
  | none => none
  | some (x, S1) => if isRef S1 x then (match fa env S1 with
    | none => none
    | some (ds, S2) => g x ds S2) else none
def isStr : D → Bool
  | .str _ => true
  | _ => false
section
variable {X : Cx} {K : PySem.W.Frag} {ρ : List Addr} {H : Hp} {S : Sto} {o e : Expr} {es : List Expr} {fo : EF} {fs : AF} {name : Str} {apos cpos : Pos} {T id : String} {r : V → List V → Hp → VK → Prop} {g : MF}
theorem ref_rd (r : Rel K ρ H S) {x : V} {d : D} (hx : RD K ρ H x d) (h : isRef S d = true) : tyV K "list" x H := by
  cases hx with
  | ref hr =>
    obtain ⟨c, hc, hk⟩ := r.of hr
    obtain ⟨xs, hs, _⟩ := r.seq hr hc
    exact .inl ⟨rfl, xs, hs⟩
  | vl hs hl ha => exact .inl ⟨rfl, _, hs.sq⟩
  | _ => cases h
theorem methL_imp (ho : OkM X.K r g) (σ : L2.St) (H : Hp) (Q : VK) (h : tE X.K (eMethL g fo fs) σ H Q) : tBM X.K "list" r (tE X.K fo) (tA X.K fs) σ H Q := by
  obtain ⟨ρ, S, env, d, S', rl, en, hf, q⟩ := h
  unfold eMethL at hf
  split at hf
  · cases hf
  · rename_i x S1 h1
    split at hf
    · rename_i hk
      split at hf
      · cases hf
      · rename_i ds S2 h2
        refine run_e rl en h1 fun ρ1 H1 v1 e1 r1 hv1 en1 => ⟨ref_rd r1 hv1 hk, run_a r1 en1 h2 fun ρ2 H2 vs2 e2 r2 hv2 en2 => ?_⟩
        exact ho ρ2 H2 S2 S' v1 vs2 x ds d Q r2 (hv1.ext r1 e2) hv2 hf fun ρ3 H3 v3 e3 r3 hv3 => q ρ3 H3 v3 ((e1.trans e2).trans e3) r3 hv3
    · cases hf
theorem l_methL (slot : Slot "list" name id) (hty : typeOf (.builtin id) = pure (.type "method_descriptor")) (hm : MtR X id r) (hok : OkM X.K r g) (ho : PE X o (tE X.K fo)) (ha : PA X (e :: es) (tA X.K fs))
    (hbase : attributeBase o name X.env (eval o X.env) = eval o X.env := by rfl)
    (hfew : ((backTo cpos (starEach (e :: es) X.env)).all (fun x => !x.1) && (backToKw cpos (keywordEach [] X.env)).all (fun x => x.1.isSome)
      && decide ((e :: es).length + ([] : List Keyword).length + (if ([] : List Keyword).isEmpty then 0 else 1) < 30)) = true := by rfl)
    (hline : (apos.endLine == cpos.line) = true := by rfl) (hs : starEach (e :: es) X.env = (false, eval e X.env) :: starEach es X.env := by rfl) (hplain : (backTo cpos (starEach es X.env)).any (·.1) = false := by rfl) :
    PE X (.Call (.Attribute o name apos) (e :: es) [] cpos) (tE X.K (eMethL g fo fs)) :=
  (pe_bm PySem.F.plainAttrs_list slot hty hm ho ha hbase hfew hline hs hplain).imp (methL_imp hok)
def mAppend : MF := fun x ds S => match x, ds with
  | .ref k, [d] => match S[k]? with
    | some (.lst es) => if es.length < lim then some (.non, S.set k (.lst (es ++ [d]))) else none
    | _ => none
  | _, _ => none
theorem ok_append : OkM K rAppend mAppend := by
  intro ρ H S S' x vs d ds z Q r hx hv hg q
  unfold mAppend at hg
  split at hg
  · rename_i k d'
    split at hg
    · rename_i es hc
      split at hg
      · rename_i hl
        cases hg
        obtain ⟨y, rfl, hy⟩ := rds1 hv
        cases hx with
        | ref hr =>
          rename_i a
          obtain ⟨xs, h1, h2⟩ := r.cell _ _ _ hr hc
          refine ⟨a, xs, y, rfl, rfl, h1, lim_lt (by rw [h2.len]; omega), ?_⟩
          have hw : RDs K ρ H [y] [d'] := .cons hy .nil
          exact q ρ _ _ (ext_mut (List.mem_of_getElem? hr)) (r.mutL hr (h2.append hw)) .non
      · cases hg
    · cases hg
  · cases hg
def mPopAt : MF := fun x ds S => match x, ds with
  | .ref k, [.int i] => match S[k]? with
    | some (.lst es) => if -(2 ^ 63) ≤ i ∧ i < 2 ^ 63 then (match seqIndex? i es.length with
      | some j => match es[j]? with
        | some y => some (y, S.set k (.lst (es.eraseIdx j)))
        | none => none
      | none => none) else none
    | _ => none
  | _, _ => none
theorem RDs.eraseIdx {xs : List V} {ds : List D} (h : RDs K ρ H xs ds) (k : Nat) : RDs K ρ H (xs.eraseIdx k) (ds.eraseIdx k) := by
  rw [List.eraseIdx_eq_take_drop_succ, List.eraseIdx_eq_take_drop_succ]
  exact (h.take _).append (h.drop _)
theorem ok_popAt : OkM K rPopAt mPopAt := by
  intro ρ H S S' x vs d ds z Q r hx hv hg q
  unfold mPopAt at hg
  split at hg
  · rename_i k i
    split at hg
    · rename_i es hc
      split at hg
      · rename_i hb
        split at hg
        · rename_i j hj
          split at hg
          · rename_i y hy
            cases hg
            obtain ⟨w, rfl, hw⟩ := rds1 hv
            cases hw
            cases hx with
            | ref hr =>
              rename_i a
              obtain ⟨xs, h1, h2⟩ := r.cell _ _ _ hr hc
              obtain ⟨u, hu, hud⟩ := h2.get hy
              have e := ext_mut (H := H) (o := .lst (xs.eraseIdx j)) (List.mem_of_getElem? hr)
              refine ⟨a, xs, i, j, u, rfl, rfl, h1, hb.1, hb.2, by rw [h2.len]; exact hj, hu, ?_⟩
              exact q ρ _ _ e (r.mutL hr (h2.eraseIdx j)) (hud.ext r e)
          · cases hg
        · cases hg
      · cases hg
    · cases hg
  · cases hg
def eBits (f : EF) : EF := fun env S => match f env S with
  | some (.int i, S1) => some (.int (Builtin.Int.intBits i : Nat), S1)
  | _ => none
theorem l_bits {apos pos : Pos} (ho : PE X o (tE X.K fo)) (hbase : attributeBase o "bit_length" X.env (eval o X.env) = eval o X.env := by rfl) (hline : (apos.endLine == pos.line) = true := by rfl) : PE X (.Call (.Attribute o "bit_length" apos) [] [] pos) (tE X.K (eBits fo)) := by
  refine (pe_bits ho hbase hline).imp fun σ H Q h => ?_
  obtain ⟨ρ, S, env, d, S', r, en, hf, q⟩ := h
  unfold eBits at hf
  split at hf
  · rename_i i S1 h1
    cases hf
    refine run_e r en h1 fun ρ1 H1 v1 e1 r1 hv1 en1 => ?_
    cases hv1
    exact ⟨_, rfl, q ρ1 H1 _ e1 r1 (.int _)⟩
  · cases hf
end
def eNeg (f : EF) : EF := fun env S => match f env S with
  | some (.int i, S1) => some (.int (-i), S1)
  | _ => none
section
variable {X : Cx} {a b c : Expr} {rest : List Expr} {fa fb fc : EF} {ga gb : TF} {pos : Pos}
theorem l_neg (h : PE X a (tE X.K fa)) : PE X (.UnaryOp .USub a pos) (tE X.K (eNeg fa)) := (pe_un un_neg h).imp fun σ H Q h => by
  obtain ⟨ρ, S, env, d, S', r, en, hf, q⟩ := h
  unfold eNeg at hf
  split at hf
  · rename_i i S1 h1
    cases hf
    refine run_e r en h1 fun ρ1 H1 v1 e1 r1 hv1 en1 => ?_
    cases hv1
    exact ⟨_, rfl, q ρ1 H1 _ e1 r1 (.int _)⟩
  · cases hf
def truD (S : Sto) : D → Option Bool
  | .non => some false
  | .bl b => some b
  | .int i => some (i != 0)
  | .str x => if x.length ≤ lim then some ((x.length : Int) != 0) else none
  | .ty _ => none
  | d => match itemsOf S d with
    | some ds => some (!ds.isEmpty)
    | none => none
def truF (f : EF) : TF := fun env S => match f env S with
  | some (d, S1) => match truD S1 d with
    | some b => some (b, S1)
    | none => none
  | none => none
theorem isEmpty_rd {K : PySem.W.Frag} {ρ : List Addr} {H : Hp} {xs : List V} {ds : List D} (h : RDs K ρ H xs ds) : xs.isEmpty = ds.isEmpty := by
  have := h.len
  cases xs <;> cases ds <;> simp_all
theorem tru_rd {K : PySem.W.Frag} {ρ : List Addr} {H : Hp} {S : Sto} {x : V} {d : D} {b : Bool} (r : Rel K ρ H S) (hx : RD K ρ H x d) (h : truD S d = some b) : TruV K x H b := by
  cases hx with
  | ty n => cases h
  | non => cases h; rfl
  | bl k => cases h; rfl
  | int i => cases h; rfl
  | str y =>
    simp only [truD] at h
    split at h
    · rename_i hl
      cases h
      exact ⟨lim_le hl, rfl⟩
    · cases h
  | tup hs hl ha =>
    cases h
    exact .inr (.inl ⟨_, hs, by rw [isEmpty_rd (RDs.mk hl ha)]⟩)
  | kl hs hl ha =>
    cases h
    exact .inl ⟨_, hs _, by rw [isEmpty_rd (RDs.mk hl ha)]⟩
  | vl hs hl ha =>
    cases h
    exact .inl ⟨_, hs.sq, by rw [isEmpty_rd (RDs.mk hl ha)]⟩
  | ref hr =>
    simp only [truD] at h
    split at h
    · rename_i ds hd
      cases h
      obtain ⟨p, xs, e, hs, hq⟩ := items_rd r (.ref hr) hd
      cases e
      rcases hs with hs | hs
      · exact .inl ⟨_, hs, by rw [isEmpty_rd hq]⟩
      · exact .inr (.inl ⟨_, hs, by rw [isEmpty_rd hq]⟩)
    · cases h
theorem lt_tru (h : PE X a (tE X.K fa)) (he : ∀ whole, isTrue a X.env whole = (do let v ← whole; standAt a.pos; holding [v] (truthy v)) := by intro _; rfl) : PT X a (tT X.K (truF fa)) := (pt_truth h he).imp fun σ H Q h => by
  obtain ⟨ρ, S, env, b, S', r, en, hf, q⟩ := h
  unfold truF at hf
  split at hf
  · rename_i d S1 h1
    split at hf
    · rename_i b' hb
      cases hf
      refine run_e r en h1 fun ρ1 H1 v1 e1 r1 hv1 en1 => ?_
      exact ⟨_, tru_rd r1 hv1 hb, q ρ1 H1 e1 r1⟩
    · cases hf
  · cases hf
def tAndF (f g : TF) : TF := fun env S => match f env S with
  | some (true, S1) => g env S1
  | some (false, S1) => some (false, S1)
  | none => none
def tOrF (f g : TF) : TF := fun env S => match f env S with
  | some (true, S1) => some (true, S1)
  | some (false, S1) => g env S1
  | none => none
def tNotF (f : TF) : TF := fun env S => match f env S with
  | some (b, S1) => some (!b, S1)
  | none => none
theorem _root_.L2.PW.imp {X : Cx} {e : Expr} {t t' : TT} (h : PW X e t) (i : ∀ σ H Q, t' σ H Q → t σ H Q) : PW X e t' := ⟨fun wh pins s σ H Q I q => h.run wh pins s σ H Q I (i σ H Q q)⟩
theorem lw_and (ha : PT X a (tT X.K ga)) (hb : PW X (.BoolOp .And (b :: rest) pos) (tT X.K gb)) : PW X (.BoolOp .And (a :: b :: rest) pos) (tT X.K (tAndF ga gb)) := (pw_and ha hb).imp fun σ H Q h => by
  obtain ⟨ρ, S, env, d, S', r, en, hf, q⟩ := h
  unfold tAndF at hf
  split at hf
  · rename_i S1 h1
    refine run_t r en h1 fun ρ1 H1 e1 r1 en1 => iteT ?_
    exact run_t r1 en1 hf fun ρ2 H2 e2 r2 en2 => q ρ2 H2 (e1.trans e2) r2
  · rename_i S1 h1
    cases hf
    refine run_t r en h1 fun ρ1 H1 e1 r1 en1 => iteF ?_
    exact q ρ1 H1 e1 r1
  · cases hf
theorem lw_or (ha : PT X a (tT X.K ga)) (hb : PW X (.BoolOp .Or (b :: rest) pos) (tT X.K gb)) : PW X (.BoolOp .Or (a :: b :: rest) pos) (tT X.K (tOrF ga gb)) := (pw_or ha hb).imp fun σ H Q h => by
  obtain ⟨ρ, S, env, d, S', r, en, hf, q⟩ := h
  unfold tOrF at hf
  split at hf
  · rename_i S1 h1
    cases hf
    refine run_t r en h1 fun ρ1 H1 e1 r1 en1 => iteT ?_
    exact q ρ1 H1 e1 r1
  · rename_i S1 h1
    refine run_t r en h1 fun ρ1 H1 e1 r1 en1 => iteF ?_
    exact run_t r1 en1 hf fun ρ2 H2 e2 r2 en2 => q ρ2 H2 (e1.trans e2) r2
  · cases hf
theorem lw_and1 (ha : PT X a (tT X.K ga)) : PW X (.BoolOp .And [a] pos) (tT X.K ga) := pw_and1 ha
theorem lw_or1 (ha : PT X a (tT X.K ga)) : PW X (.BoolOp .Or [a] pos) (tT X.K ga) := pw_or1 ha
theorem lt_not (ha : PT X a (tT X.K ga)) : PT X (.UnaryOp .Not a pos) (tT X.K (tNotF ga)) := (pt_not ha).imp fun σ H Q h => by
  obtain ⟨ρ, S, env, d, S', r, en, hf, q⟩ := h
  unfold tNotF at hf
  split at hf
  · rename_i b S1 h1
    cases hf
    exact run_t r en h1 fun ρ1 H1 e1 r1 en1 => q ρ1 H1 e1 r1
  · cases hf
def eAnd (f g : EF) : EF := fun env S => match f env S with
  | some (.bl true, S1) => g env S1
  | some (.bl false, S1) => some (.bl false, S1)
  | _ => none
def eOr (f g : EF) : EF := fun env S => match f env S with
  | some (.bl true, S1) => some (.bl true, S1)
  | some (.bl false, S1) => g env S1
  | _ => none
theorem l_one {op} (h : PE X a (tE X.K fa)) : PE X (.BoolOp op [a] pos) (tE X.K fa) := pe_one h
theorem l_and (ha : PE X a (tE X.K fa)) (hb : PE X (.BoolOp .And (b :: rest) pos) (tE X.K fb)) : PE X (.BoolOp .And (a :: b :: rest) pos) (tE X.K (eAnd fa fb)) := (pe_and ha hb).imp fun σ H Q h => by
  obtain ⟨ρ, S, env, d, S', r, en, hf, q⟩ := h
  unfold eAnd at hf
  split at hf
  · rename_i S1 h1
    refine run_e r en h1 fun ρ1 H1 v1 e1 r1 hv1 en1 => ?_
    cases hv1
    exact ⟨true, rfl, iteT (run_e r1 en1 hf fun ρ2 H2 v2 e2 r2 hv2 en2 => q ρ2 H2 v2 (e1.trans e2) r2 hv2)⟩
  · rename_i S1 h1
    cases hf
    refine run_e r en h1 fun ρ1 H1 v1 e1 r1 hv1 en1 => ?_
    cases hv1
    exact ⟨false, rfl, iteF (q ρ1 H1 _ e1 r1 (.bl false))⟩
  · cases hf
theorem l_or (ha : PE X a (tE X.K fa)) (hb : PE X (.BoolOp .Or (b :: rest) pos) (tE X.K fb)) : PE X (.BoolOp .Or (a :: b :: rest) pos) (tE X.K (eOr fa fb)) := (pe_or ha hb).imp fun σ H Q h => by
  obtain ⟨ρ, S, env, d, S', r, en, hf, q⟩ := h
  unfold eOr at hf
  split at hf
  · rename_i S1 h1
    cases hf
    refine run_e r en h1 fun ρ1 H1 v1 e1 r1 hv1 en1 => ?_
    cases hv1
    exact ⟨true, rfl, iteT (q ρ1 H1 _ e1 r1 (.bl true))⟩
  · rename_i S1 h1
    refine run_e r en h1 fun ρ1 H1 v1 e1 r1 hv1 en1 => ?_
    cases hv1
    exact ⟨false, rfl, iteF (run_e r1 en1 hf fun ρ2 H2 v2 e2 r2 hv2 en2 => q ρ2 H2 v2 (e1.trans e2) r2 hv2)⟩
  · cases hf
def eIf (t : TF) (f g : EF) : EF := fun env S => match t env S with
  | some (true, S1) => f env S1
  | some (false, S1) => g env S1
  | none => none
theorem l_if (hc : PT X c (tT X.K ga)) (ha : PE X a (tE X.K fa)) (hb : PE X b (tE X.K fb)) : PE X (.IfExp c a b pos) (tE X.K (eIf ga fa fb)) := (pe_ifExp hc ha hb).imp fun σ H Q h => by
  obtain ⟨ρ, S, env, d, S', r, en, hf, q⟩ := h
  unfold eIf at hf
  split at hf
  · rename_i S1 h1
    refine run_t r en h1 fun ρ1 H1 e1 r1 en1 => iteT ?_
    exact run_e r1 en1 hf fun ρ2 H2 v2 e2 r2 hv2 en2 => q ρ2 H2 v2 (e1.trans e2) r2 hv2
  · rename_i S1 h1
    refine run_t r en h1 fun ρ1 H1 e1 r1 en1 => iteF ?_
    exact run_e r1 en1 hf fun ρ2 H2 v2 e2 r2 hv2 en2 => q ρ2 H2 v2 (e1.trans e2) r2 hv2
  · cases hf
def eChain (g g' : OF) (fa fb fc : EF) : EF := fun env S => match fa env S with
  | none => none
  | some (x, S1) => match fb env S1 with
    | none => none
    | some (y, S2) => match g x y S2 with
      | some (.bl true, S3) => (match fc env S3 with
        | none => none
        | some (z, S4) => g' y z S4)
      | some (.bl false, S3) => some (.bl false, S3)
      | _ => none
theorem chain_imp {r r' : R2} {g g' : OF} (ho : OkOp X.K r g) (ho' : OkOp X.K r' g') (σ : L2.St) (H : Hp) (Q : VK) (h : tE X.K (eChain g g' fa fb fc) σ H Q) : tChain r r' (tE X.K fa) (tE X.K fb) (tE X.K fc) σ H Q := by
  obtain ⟨ρ, S, env, d, S', rl, en, hf, q⟩ := h
  unfold eChain at hf
  split at hf
  · cases hf
  · rename_i x S1 h1
    split at hf
    · cases hf
    · rename_i y S2 h2
      refine run_e rl en h1 fun ρ1 H1 v1 e1 r1 hv1 en1 => run_e r1 en1 h2 fun ρ2 H2 v2 e2 r2 hv2 en2 => ?_
      split at hf
      · rename_i S3 h3
        split at hf
        · cases hf
        · rename_i z S4 h4
          refine ho ρ2 H2 S2 S3 v1 v2 x y _ _ r2 (hv1.ext r1 e2) hv2 h3 fun ρ3 H3 v3 e3 r3 hv3 => ?_
          cases hv3
          refine ⟨true, rfl, iteT ?_⟩
          refine run_e r3 (en2.ext r2 e3) h4 fun ρ4 H4 v4 e4 r4 hv4 en4 => ?_
          exact ho' ρ4 H4 S4 S' v2 v4 y z d Q r4 (hv2.ext r2 (e3.trans e4)) hv4 hf fun ρ5 H5 v5 e5 r5 hv5 => q ρ5 H5 v5 ((e1.trans e2).trans ((e3.trans e4).trans e5)) r5 hv5
      · rename_i S3 h3
        cases hf
        refine ho ρ2 H2 S2 _ v1 v2 x y _ _ r2 (hv1.ext r1 e2) hv2 h3 fun ρ3 H3 v3 e3 r3 hv3 => ?_
        cases hv3
        exact ⟨false, rfl, iteF (q ρ3 H3 _ ((e1.trans e2).trans e3) r3 (.bl false))⟩
      · cases hf
theorem l_chain {op op' : CmpOp} {r r' : R2} {g g' : OF} (hop : OpR X (compareOp op) r) (hop' : OpR X (compareOp op') r') (ho : OkOp X.K r g) (ho' : OkOp X.K r' g') (ha : PE X a (tE X.K fa)) (hb : PE X b (tE X.K fb)) (hc : PE X c (tE X.K fc))
    (hm : lastMarks [op, op'] [b, c] = false := by with_unfolding_all rfl) : PE X (.Compare a [op, op'] [b, c] pos) (tE X.K (eChain g g' fa fb fc)) := (pe_chain hop hop' ha hb hc hm).imp (chain_imp ho ho')
theorem lt_chain {op op' : CmpOp} {r r' : R2} {g g' : OF} (hop : OpR X (compareOp op) r) (hop' : OpR X (compareOp op') r') (ho : OkOp X.K r g) (ho' : OkOp X.K r' g') (ha : PE X a (tE X.K fa)) (hb : PE X b (tE X.K fb)) (hc : PE X c (tE X.K fc))
    (hm : lastMarks [op, op'] [b, c] = false := by with_unfolding_all rfl) : PT X (.Compare a [op, op'] [b, c] pos) (tT X.K (truB (eChain g g' fa fb fc))) := (pt_chain hop hop' ha hb hc hm).imp fun σ H Q h => chain_imp ho ho' σ H _ (truB_imp σ H Q h)
end
end Lv
namespace Lv
open PySem PySem.Spec PyProof.Rows L2
inductive Out where
  | nx (env : Env) | rt (d : D) | bk (env : Env) | ct (env : Env)
abbrev SF := Env → Sto → Option (Out × Sto)
def OutOk (K : PySem.W.Frag) (ρ : List Addr) (H : Hp) (E : Ends) : Out → Prop
  | .nx env => ∀ σ, EnvR K ρ H σ env → E.nx σ H
  | .rt d => ∀ v, RD K ρ H v d → E.rt v H
  | .bk env => ∀ σ, EnvR K ρ H σ env → E.bk σ H
  | .ct env => ∀ σ, EnvR K ρ H σ env → E.ct σ H
def tS (K : PySem.W.Frag) (f : SF) : TS := fun E σ H => ∃ ρ S env o S', Rel K ρ H S ∧ EnvR K ρ H σ env ∧ f env S = some (o, S') ∧
  ∀ ρ' H', Ext ρ H ρ' H' → Rel K ρ' H' S' → OutOk K ρ' H' E o
theorem run_s {K : PySem.W.Frag} {f : SF} {ρ : List Addr} {H : Hp} {S S' : Sto} {σ : L2.St} {env : Env} {o : Out} {E : Ends} (r : Rel K ρ H S) (en : EnvR K ρ H σ env) (hf : f env S = some (o, S'))
    (h : ∀ ρ' H', Ext ρ H ρ' H' → Rel K ρ' H' S' → OutOk K ρ' H' E o) : tS K f E σ H := ⟨ρ, S, env, o, S', r, en, hf, h⟩
def sStuck : SF := fun _ _ => none
def sNil : SF := fun env S => some (.nx env, S)
def sCons (f g : SF) : SF := fun env S => match f env S with
  | some (.nx e1, S1) => g e1 S1
  | r => r
def sDrop (f : EF) : SF := fun env S => match f env S with
  | some (_, S1) => some (.nx env, S1)
  | none => none
def sRet (f : EF) : SF := fun env S => match f env S with
  | some (d, S1) => some (.rt d, S1)
  | none => none
def sIf (t : TF) (f g : SF) : SF := fun env S => match t env S with
  | some (true, S1) => f env S1
  | some (false, S1) => g env S1
  | none => none
def sSet (i : Nat) (f : EF) : SF := fun env S => match f env S with
  | some (d, S1) => some (.nx (env.set i (some d)), S1)
  | none => none
section
variable {X : Cx} {st : Stmt} {rest : List Stmt} {f g : SF} {e c : Expr} {fe : EF} {gt : TF} {pos : Pos}
theorem ls_stuck : PS X st (tS X.K sStuck) := ⟨fun _ _ _ _ _ _ h => by
  obtain ⟨_, _, _, _, _, _, _, h, _⟩ := h
  cases h⟩
theorem ls_nil : PSs X [] (tS X.K sNil) := pss_nil.imp fun E σ H h => by
  obtain ⟨ρ, S, env, o, S', r, en, hf, q⟩ := h
  cases hf
  exact q ρ H (Ext.refl ρ H) r σ en
theorem ls_cons (h1 : PS X st (tS X.K f)) (h2 : PSs X rest (tS X.K g)) : PSs X (st :: rest) (tS X.K (sCons f g)) := (pss_cons h1 h2).imp fun E σ H h => by
  obtain ⟨ρ, S, env, o, S', r, en, hf, q⟩ := h
  unfold sCons at hf
  split at hf
  · rename_i e1 S1 h1
    refine run_s r en h1 fun ρ1 H1 x1 r1 σ1 en1 => ?_
    exact run_s r1 en1 hf fun ρ2 H2 x2 r2 => q ρ2 H2 (x1.trans x2) r2
  · rename_i hn
    refine run_s r en hf fun ρ1 H1 x1 r1 => ?_
    have q1 := q ρ1 H1 x1 r1
    cases o with
    | nx e1 => exact (hn e1 S' hf).elim
    | rt d => exact q1
    | bk e1 => exact q1
    | ct e1 => exact q1
theorem ls_expr (he : PE X e (tE X.K fe)) (hs : swapsWith e none pos.line X.env = pure false := by rfl) : PS X (.Expr e pos) (tS X.K (sDrop fe)) := (ps_expr he hs).imp fun E σ H h => by
  obtain ⟨ρ, S, env, o, S', r, en, hf, q⟩ := h
  unfold sDrop at hf
  split at hf
  · rename_i d S1 h1
    cases hf
    exact run_e r en h1 fun ρ1 H1 v1 e1 r1 hv1 en1 => q ρ1 H1 e1 r1 σ en1
  · cases hf
theorem ls_ret (he : PE X e (tE X.K fe)) : PS X (.Return (some e) pos) (tS X.K (sRet fe)) := (ps_ret he).imp fun E σ H h => by
  obtain ⟨ρ, S, env, o, S', r, en, hf, q⟩ := h
  unfold sRet at hf
  split at hf
  · rename_i d S1 h1
    cases hf
    exact run_e r en h1 fun ρ1 H1 v1 e1 r1 hv1 en1 => q ρ1 H1 e1 r1 v1 hv1
  · cases hf
theorem ls_if {a b : List Stmt} (hc : PT X c (tT X.K gt)) (ha : PSs X a (tS X.K f)) (hb : PSs X b (tS X.K g)) : PS X (.If c a b pos) (tS X.K (sIf gt f g)) := (ps_if hc ha hb).imp fun E σ H h => by
  obtain ⟨ρ, S, env, o, S', r, en, hf, q⟩ := h
  unfold sIf at hf
  split at hf
  · rename_i S1 h1
    refine run_t r en h1 fun ρ1 H1 e1 r1 en1 => iteT ?_
    exact run_s r1 en1 hf fun ρ2 H2 e2 r2 => q ρ2 H2 (e1.trans e2) r2
  · rename_i S1 h1
    refine run_t r en h1 fun ρ1 H1 e1 r1 en1 => iteF ?_
    exact run_s r1 en1 hf fun ρ2 H2 e2 r2 => q ρ2 H2 (e1.trans e2) r2
  · cases hf
theorem ls_set (i : Nat) {x : Str} {pos' : Pos} (hN : X.N.Nodup) (he : PE X e (tE X.K fe)) (hi : X.N[i]? = some x := by rfl) (hx : Loc X.env.scope x := by first | exact Or.inl rfl | exact Or.inr rfl) (hs : swapsWith e (some (.Name x pos')) pos.line X.env = pure false := by rfl)
    (hf : X.fn x = true ∨ X.env.scope.names.lookup x = some .local := by first | exact .inl rfl | exact .inr rfl | assumption) : PS X (.Assign [.Name x pos'] e pos) (tS X.K (sSet i fe)) := (ps_set hN hi hx he hs hf).imp fun E σ H h => by
  obtain ⟨ρ, S, env, o, S', r, en, hf, q⟩ := h
  unfold sSet at hf
  split at hf
  · rename_i d S1 h1
    cases hf
    exact run_e r en h1 fun ρ1 H1 v1 e1 r1 hv1 en1 => q ρ1 H1 e1 r1 _ (en1.set hv1)
  · cases hf
end
inductive Tg where
  | nm (i : Nat) | tp (l : List Nat)
def setsE : List Nat → List D → Env → Env
  | i :: l, d :: ds, env => setsE l ds (env.set i (some d))
  | _, _, env => env
def setsV : List Nat → List V → L2.St → L2.St
  | i :: l, d :: ds, env => setsV l ds (env.set i (some d))
  | _, _, env => env
def setTg (t : Tg) (d : D) (env : Env) : Option Env := match t with
  | .nm i => some (env.set i (some d))
  | .tp l => match d with
    | .tup ds => if ds.length = l.length then some (setsE l ds env) else none
    | .vl ds => if ds.length = l.length then some (setsE l ds env) else none
    | _ => none
def gNames : List Nat → TGs
  | [] => gNil
  | i :: l => gCons (gName i) (gNames l)
def tgOf (K : PySem.W.Frag) : Tg → TG
  | .nm i => gName i
  | .tp l => fun v σ H Q => gTup K l.length (gNames l) v σ H Q ∨ gLst K l.length (gNames l) v σ H Q
def Tg.ix : Tg → List Nat
  | .nm i => [i]
  | .tp l => l
section
variable {K : PySem.W.Frag} {ρ : List Addr} {H : Hp} {S : Sto} {σ : L2.St} {env env' : Env}
theorem EnvR.sets : ∀ {l : List Nat} {xs : List V} {ds : List D} {σ : L2.St} {env : Env}, EnvR K ρ H σ env → RDs K ρ H xs ds → EnvR K ρ H (setsV l xs σ) (setsE l ds env)
  | [], xs, ds, σ, env, h, q => h
  | i :: l, [], [], σ, env, h, q => h
  | i :: l, [], _ :: _, σ, env, h, q => by have := q.len; simp at this
  | i :: l, _ :: _, [], σ, env, h, q => by have := q.len; simp at this
  | i :: l, x :: xs, d :: ds, σ, env, h, q => EnvR.sets (l := l) (h.set (q.at_ 0 x d rfl rfl)) ⟨by have := q.len; simpa using this, fun j x' d' a b => q.at_ (j + 1) x' d' a b⟩
theorem run_names : ∀ {l : List Nat} {xs : List V} {σ : L2.St} {Q : L2.St → Hp → Prop}, xs.length = l.length → Q (setsV l xs σ) H → gNames l xs σ H Q
  | [], [], σ, Q, _, h => ⟨rfl, h⟩
  | i :: l, x :: xs, σ, Q, e, h => ⟨x, xs, rfl, run_names (l := l) (by simpa using e) h⟩
theorem run_tg {t : Tg} {v : V} {d : D} {Q : L2.St → Hp → Prop} (r : Rel K ρ H S) (en : EnvR K ρ H σ env) (hv : RD K ρ H v d) (h : setTg t d env = some env')
    (q : ∀ xs, EnvR K ρ H (setsV t.ix xs σ) env' → Q (setsV t.ix xs σ) H) : tgOf K t v σ H Q := by
  cases t with
  | nm i =>
    cases h
    exact q [v] (en.set hv)
  | tp l =>
    unfold setTg at h
    dsimp only at h
    split at h
    · rename_i ds
      split at h
      · rename_i hl
        cases h
        cases hv with
        | tup hs hlen ha =>
          rename_i a xs
          exact .inl ⟨a, xs, rfl, hs, hlen.trans hl, run_names (hlen.trans hl) (q xs (en.sets ⟨hlen, ha⟩))⟩
      · cases h
    · rename_i ds
      split at h
      · rename_i hl
        cases h
        cases hv with
        | vl hs hlen ha =>
          rename_i a xs
          exact .inr ⟨a, xs, rfl, hs.sq, hlen.trans hl, run_names (hlen.trans hl) (q xs (en.sets ⟨hlen, ha⟩))⟩
      · cases h
    · cases h
theorem wipe_set {vs : List Nat} {i : Nat} {v : Option V} (hi : i ∈ vs) : ∀ σ : L2.St, wipe (σ.set i v) vs = wipe σ vs := by
  intro σ
  refine List.ext_getElem? fun j => ?_
  by_cases hj : j ∈ vs
  · by_cases h1 : j < σ.length
    · have e1 : ∀ τ : L2.St, j < τ.length → (wipe τ vs)[j]? = some none := fun τ hτ => by
        have hl : j < (wipe τ vs).length := by rw [wipe_length]; exact hτ
        cases q : (wipe τ vs)[j]? with
        | none => rw [List.getElem?_eq_none_iff] at q; omega
        | some o =>
          cases o with
          | none => rfl
          | some x => exact absurd hj (wipe_some q).2
      rw [e1 _ (by simpa using h1), e1 _ h1]
    · rw [List.getElem?_eq_none (by rw [wipe_length]; simp; omega), List.getElem?_eq_none (by rw [wipe_length]; omega)]
  · rw [wipe_out hj, wipe_out hj, List.getElem?_set_ne (fun z => hj (by rw [← z]; exact hi))]
theorem wipe_sets {vs : List Nat} : ∀ {l : List Nat} {xs : List V} {σ : L2.St}, (∀ i ∈ l, i ∈ vs) → wipe (setsV l xs σ) vs = wipe σ vs
  | [], xs, σ, _ => rfl
  | i :: l, [], σ, _ => rfl
  | i :: l, x :: xs, σ, h => by
    show wipe (setsV l xs (σ.set i (some x))) vs = _
    rw [wipe_sets (fun j hj => h j (List.mem_cons_of_mem _ hj)), wipe_set (h i List.mem_cons_self)]
def wipeE (env : Env) : List Nat → Env
  | [] => env
  | i :: vs => (wipeE env vs).set i none
theorem wipeE_length (env : Env) : ∀ vs, (wipeE env vs).length = env.length
  | [] => rfl
  | i :: vs => by
    show ((wipeE env vs).set i none).length = _
    rw [List.length_set, wipeE_length env vs]
theorem wipeE_some {env : Env} {i : Nat} {d : D} : ∀ {vs : List Nat}, (wipeE env vs)[i]? = some (some d) → env[i]? = some (some d) ∧ i ∉ vs
  | [], h => ⟨h, by simp⟩
  | j :: vs, h => by
    have h' : ((wipeE env vs).set j none)[i]? = some (some d) := h
    rw [List.getElem?_set] at h'
    by_cases hj : j = i
    · rw [if_pos hj] at h'
      split at h' <;> cases h'
    · rw [if_neg hj] at h'
      obtain ⟨a, b⟩ := wipeE_some h'
      exact ⟨a, by simp [Ne.symm hj, b]⟩
theorem EnvR.wipe (h : EnvR K ρ H σ env) (vs : List Nat) : EnvR K ρ H (L2.wipe σ vs) (wipeE env vs) := by
  refine ⟨by rw [wipe_length, wipeE_length, h.len], fun i d e => ?_⟩
  obtain ⟨e1, e2⟩ := wipeE_some e
  obtain ⟨v, h1, h2⟩ := h.at_ i d e1
  exact ⟨v, by rw [wipe_out e2]; exact h1, h2⟩
end
section
variable {X : Cx} {e a b : Expr} {es : List Expr} {fe : EF} {fs : AF} {pos : Pos}
theorem lg_nm (i : Nat) {x : Str} (hN : X.N.Nodup) (hi : X.N[i]? = some x := by rfl) (hx : Loc X.env.scope x := by first | exact Or.inl rfl | exact Or.inr rfl) (hf : X.fn x = true ∨ X.env.scope.names.lookup x = some .local := by first | exact .inl rfl | exact .inr rfl | assumption) : PG X (.Name x pos) (tgOf X.K (.nm i)) := pg_name hN hi hx hf
theorem lgs_nil : PGs X [] (gNames []) := pgs_nil
theorem lgs_cons {i : Nat} {l : List Nat} (h1 : PG X e (tgOf X.K (.nm i))) (h2 : PGs X es (gNames l)) (hs : (assignEach (e :: es) X.env).map (·.2) = assign e X.env :: (assignEach es X.env).map (·.2) := by rfl) : PGs X (e :: es) (gNames (i :: l)) := pgs_cons h1 h2 hs
theorem lg_tp {k : Nat} {l : List Nat} (hc : X.calm = true) (h : PGs X es (gNames l)) (hn : (assignEach es X.env).length = l.length := by rfl) (hst : (assignEach es X.env).findIdx? (·.1) = none := by rfl) : PG X (.Tuple es k pos) (tgOf X.K (.tp l)) := ⟨fun pins s σ H v u Q I r hw => hw.elim ((pg_tup hc h hn hst).run pins s σ H v u Q I r) ((pg_lst hc h hn hst).run pins s σ H v u Q I r)⟩
def sAsg (t : Tg) (f : EF) : SF := fun env S => match f env S with
  | some (d, S1) => match setTg t d env with
    | some e1 => some (.nx e1, S1)
    | none => none
  | none => none
theorem ls_asg {t : Tg} (he : PE X e (tE X.K fe)) (hg : PG X a (tgOf X.K t)) (hs : swapsWithSole [a] e pos.line X.env = pure false := by rfl) (hw : swappedStores [a] e X.env = pure none := by rfl) (h1 : (assignEach [a] X.env).map (·.2) = [assign a X.env] := by rfl) : PS X (.Assign [a] e pos) (tS X.K (sAsg t fe)) := (ps_asg he hg (hs := hs) (hw := hw) (h1 := h1)).imp fun E σ H h => by
  obtain ⟨ρ, S, env, o, S', r, en, hf, q⟩ := h
  unfold sAsg at hf
  split at hf
  · rename_i d S1 h1
    split at hf
    · rename_i e1 h2
      cases hf
      refine run_e r en h1 fun ρ1 H1 v1 x1 r1 hv1 en1 => ?_
      exact run_tg r1 en1 hv1 h2 fun xs q2 => q ρ1 H1 x1 r1 _ q2
    · cases hf
  · cases hf
def sPar (l : List Nat) (f : AF) : SF := fun env S => match f env S with
  | some (ds, S1) => if ds.length = l.length then some (.nx (setsE l ds env), S1) else none
  | none => none
theorem ls_par (i j : Nat) {x y : Str} {px py pt : Pos} {kt k2 pt2} (hc : X.calm = true) (hN : X.N.Nodup) (hij : i ≠ j) (ha : PA X [a, b] (tA X.K fs)) (hi : X.N[i]? = some x := by rfl) (hj : X.N[j]? = some y := by rfl)
    (hx : X.env.scope.names.lookup x = some .local := by rfl) (hy : X.env.scope.names.lookup y = some .local := by rfl)
    (hw : swappedStores [.Tuple [.Name x px, .Name y py] kt pt] (.Tuple [a, b] k2 pt2) X.env = pure (some [x, y]) := by rfl)
    (hs : swapsWithSole [.Tuple [.Name x px, .Name y py] kt pt] (.Tuple [a, b] k2 pt2) pos.line X.env = pure false := by rfl) :
    PS X (.Assign [.Tuple [.Name x px, .Name y py] kt pt] (.Tuple [a, b] k2 pt2) pos) (tS X.K (sPar [i, j] fs)) := (ps_par hc hN hi hj hij hx hy ha hw hs).imp fun E σ H h => by
  obtain ⟨ρ, S, env, o, S', r, en, hf, q⟩ := h
  unfold sPar at hf
  split at hf
  · rename_i ds S1 h1
    split at hf
    · rename_i hl
      cases hf
      refine run_a r en h1 fun ρ1 H1 vs x1 r1 hv1 en1 => ?_
      match ds, hl with
      | [d1, d2], _ =>
        obtain ⟨v, u, rfl, hw1, hw2⟩ := rds2 hv1
        exact ⟨v, u, rfl, q ρ1 H1 x1 r1 _ ((en1.set hw1).set hw2)⟩
    · cases hf
  · cases hf
def sSub (fo fi fe : EF) : SF := fun env S => match fe env S with
  | none => none
  | some (d, S1) => match fo env S1 with
    | some (.ref k, S2) => (match fi env S2 with
      | some (.int i, S3) => (match S3[k]? with
        | some (.lst es) => (match ixN es.length i with
          | some j => some (.nx env, S3.set k (.lst (es.set j d)))
          | none => none)
        | _ => none)
      | _ => none)
    | _ => none
theorem ls_sub {fo fi : EF} {o i : Expr} {ps : Pos} (he : PE X e (tE X.K fe)) (ho : PE X o (tE X.K fo)) (hi : PE X i (tE X.K fi)) (hg : ∀ {to ti : TE} {t : TSet}, PE X o to → PE X i ti → PSet X t → PG X (.Subscript o i ps) (gSub to ti t))
    (hs : swapsWithSole [.Subscript o i ps] e pos.line X.env = pure false := by rfl) (hw : swappedStores [.Subscript o i ps] e X.env = pure none := by rfl) (h1 : (assignEach [.Subscript o i ps] X.env).map (·.2) = [assign (.Subscript o i ps) X.env] := by rfl) : PS X (.Assign [.Subscript o i ps] e pos) (tS X.K (sSub fo fi fe)) :=
  (ps_asg he (hg ho hi set_list) (hs := hs) (hw := hw) (h1 := h1)).imp fun E σ H h => by
  obtain ⟨ρ, S, env, o, S', r, en, hf, q⟩ := h
  unfold sSub at hf
  split at hf
  · cases hf
  · rename_i d S1 h1
    split at hf
    · rename_i k S2 h2
      split at hf
      · rename_i i' S3 h3
        split at hf
        · rename_i es hc
          split at hf
          · rename_i j hj
            cases hf
            refine run_e r en h1 fun ρ1 H1 v1 x1 r1 hv1 en1 => run_e r1 en1 h2 fun ρ2 H2 v2 x2 r2 hv2 en2 => run_e r2 en2 h3 fun ρ3 H3 v3 x3 r3 hv3 en3 => ?_
            cases hv3
            have hv2' := hv2.ext r2 x3
            cases hv2' with
            | ref hr =>
              rename_i p
              obtain ⟨xs, k1, k2⟩ := r3.cell _ _ _ hr hc
              refine ⟨p, xs, i', j, rfl, rfl, k1, by rw [k2.len]; exact hj, ?_⟩
              have hd := hv1.ext r1 (x2.trans x3)
              have xm := ext_mut (H := H3) (o := .lst (xs.set j v1)) (List.mem_of_getElem? hr)
              exact q ρ3 _ ((x1.trans (x2.trans x3)).trans xm) (r3.mutL hr (k2.set j hd)) σ (en3.ext r3 xm)
          · cases hf
        · cases hf
      · cases hf
    · cases hf
def sAug (i : Nat) (h : Int → Int → Int) (f : EF) : SF := fun env S => match env[i]? with
  | some (some (.int n)) => match f env S with
    | some (.int m, S1) => some (.nx (env.set i (some (.int (h n m)))), S1)
    | _ => none
  | _ => none
theorem ls_aug (i : Nat) {h : Int → Int → Int} {op : Operator} {x : Str} {pos' : Pos} (hop : PIp X op (ipI h)) (hN : X.N.Nodup) (he : PE X e (tE X.K fe)) (hi : X.N[i]? = some x := by rfl) (hx : Loc X.env.scope x := by first | exact Or.inl rfl | exact Or.inr rfl)
    (hf : X.fn x = true ∨ X.env.scope.names.lookup x = some .local := by first | exact .inl rfl | exact .inr rfl | assumption) : PS X (.AugAssign (.Name x pos') op e pos) (tS X.K (sAug i h fe)) := (ps_aug hN hi hx he hop hf).imp fun E σ H q0 => by
  obtain ⟨ρ, S, env, o, S', r, en, hf, q⟩ := q0
  unfold sAug at hf
  split at hf
  · rename_i n h0
    split at hf
    · rename_i m S1 h1
      cases hf
      obtain ⟨v, k1, k2⟩ := en.at_ i _ h0
      cases k2
      refine ⟨_, k1, run_e r en h1 fun ρ1 H1 v1 x1 r1 hv1 en1 => ?_⟩
      cases hv1
      exact ⟨_, _, rfl, rfl, q ρ1 H1 x1 r1 _ (en1.set (.int _))⟩
    · cases hf
  · cases hf
end
inductive Sq where
  | fix (ds : List D) | cell (n : Nat)
def Sq.get (S : Sto) : Sq → Option (List D)
  | .fix ds => some ds
  | .cell n => match S[n]? with
    | some c => some c.items
    | none => none
def sqOf : D → Option Sq
  | .vl ds => some (.fix ds)
  | .ref n => some (.cell n)
  | _ => none
inductive Src where
  | fix (ds : List D) | cell (n : Nat) | zip (a b : Sq) | enum (a : Sq)
def nextD (S : Sto) (i : Nat) : Src → Option (Option D)
  | .fix ds => some ds[i]?
  | .cell n => match S[n]? with
    | some c => some c.items[i]?
    | none => none
  | .zip a b => match a.get S, b.get S with
    | some c, some e => (match c[i]?, e[i]? with
      | some x, some y => some (some (.tup [x, y]))
      | _, _ => some none)
    | _, _ => none
  | .enum a => match a.get S with
    | some c => (match c[i]? with
      | some x => some (some (.tup [.int i, x]))
      | _ => some none)
    | none => none
def SrcOk (K : PySem.W.Frag) (ρ : List Addr) (H : Hp) (J : It) (src : Src) : Prop := ∀ ρ2 H2 S2 i, Ext ρ H ρ2 H2 → Rel K ρ2 H2 S2 → match nextD S2 i src with
  | none => True
  | some none => J.stop i H2
  | some (some d) => J.go i H2 ∧ ∀ x H3, J.yld i H2 x H3 → Ext ρ2 H2 ρ2 H3 ∧ Rel K ρ2 H3 S2 ∧ RD K ρ2 H3 x d
abbrev IFn := Env → Sto → Option (Src × Sto)
def tI (K : PySem.W.Frag) (f : IFn) : TI := fun σ H R => ∃ ρ S env src S', Rel K ρ H S ∧ EnvR K ρ H σ env ∧ f env S = some (src, S') ∧
  ∀ ρ' H' J, Ext ρ H ρ' H' → Rel K ρ' H' S' → SrcOk K ρ' H' J src → R J H'
theorem _root_.L2.PI.imp {X : Cx} {tg e : Expr} {t t' : TI} (h : PI X tg e t) (i : ∀ σ H Q, t' σ H Q → t σ H Q) : PI X tg e t' := ⟨fun pins s σ H Q I q => h.run pins s σ H Q I (i σ H Q q)⟩
theorem _root_.L2.PI.or {X : Cx} {tg e : Expr} {t t' : TI} (h : PI X tg e t) (h' : PI X tg e t') : PI X tg e (fun σ H R => t σ H R ∨ t' σ H R) := ⟨fun pins s σ H Q I q => q.elim (h.run pins s σ H Q I) (h'.run pins s σ H Q I)⟩
def iSeq (f : EF) : IFn := fun env S => match f env S with
  | some (.ref n, S1) => some (.cell n, S1)
  | some (.tup ds, S1) => some (.fix ds, S1)
  | some (.vl ds, S1) => some (.fix ds, S1)
  | _ => none
def SqOk (K : PySem.W.Frag) (ρ : List Addr) (H : Hp) (p : Addr) (s : Sq) : Prop := ∀ ρ2 H2 S2 ds, Ext ρ H ρ2 H2 → Rel K ρ2 H2 S2 → s.get S2 = some ds → ∃ xs, SqL K H2 p xs ∧ RDs K ρ2 H2 xs ds
theorem sq_of {K : PySem.W.Frag} {ρ : List Addr} {H : Hp} {S : Sto} (r : Rel K ρ H S) {v : V} {d : D} {s : Sq} (hv : RD K ρ H v d) (h : sqOf d = some s) : ∃ p, v = .ref p ∧ SqOk K ρ H p s ∧ ∃ ds, s.get S = some ds := by
  cases hv with
  | vl hs hl ha =>
    cases h
    refine ⟨_, rfl, fun ρ2 H2 S2 ds x r2 hg => ?_, _, rfl⟩
    cases hg
    have h2 := RD.ext r x (.vl hs hl ha)
    cases h2 with
    | vl hs2 hl2 ha2 => exact ⟨_, hs2.sq, hl2, ha2⟩
  | ref hr =>
    cases h
    obtain ⟨c, hc, _⟩ := r.of hr
    refine ⟨_, rfl, fun ρ2 H2 S2 ds x r2 hg => ?_, c.items, ?_⟩
    · simp only [Sq.get] at hg
      split at hg
      · rename_i c2 hc2
        cases hg
        exact r2.seq (x.get hr) hc2
      · cases hg
    · simp only [Sq.get, hc]
  | _ => cases h
section
variable {X : Cx} {K : PySem.W.Frag} {tg e a b : Expr} {fe : EF} {fs : AF} {p pos : Pos}
theorem src_cell {ρ : List Addr} {H : Hp} {n : Nat} {q : Addr} (hq : ρ[n]? = some q) : SrcOk K ρ H (Itl K q) (.cell n) := fun ρ2 H2 S2 i x r => by
  have h2 := x.get hq
  obtain ⟨c, hc, _⟩ := r.of h2
  obtain ⟨xs, hs, hr⟩ := r.seq h2 hc
  simp only [nextD, hc]
  cases h : c.items[i]? with
  | none =>
    refine ⟨xs, hs, ?_⟩
    rw [hr.len]
    exact List.getElem?_eq_none_iff.mp h
  | some d =>
    obtain ⟨v, hv, hd⟩ := hr.get h
    refine ⟨⟨xs, v, hs, hv⟩, fun y H3 hy => ?_⟩
    obtain ⟨rfl, hy⟩ := hy
    have e : y = v := Option.some.inj ((hy xs hs).symm.trans hv)
    rw [e]
    exact ⟨Ext.refl _ _, r, hd⟩
theorem src_tup {ρ : List Addr} {H : Hp} {S : Sto} {q : Addr} {xs : List V} {ds : List D} (r0 : Rel K ρ H S) (hq : SqT K H q xs) (hx : RDs K ρ H xs ds) : SrcOk K ρ H (Itt K q) (.fix ds) := fun ρ2 H2 S2 i x r => by
  have hs := SqT.ext r0 x hq
  have hr := hx.ext r0 x
  simp only [nextD]
  cases h : ds[i]? with
  | none =>
    refine ⟨xs, hs, ?_⟩
    rw [hr.len]
    exact List.getElem?_eq_none_iff.mp h
  | some d =>
    obtain ⟨v, hv, hd⟩ := hr.get h
    refine ⟨⟨xs, v, hs, hv⟩, fun y H3 hy => ?_⟩
    obtain ⟨rfl, hy⟩ := hy
    have e : y = v := Option.some.inj ((hy xs hs).symm.trans hv)
    rw [e]
    exact ⟨Ext.refl _ _, r, hd⟩
theorem src_vl {ρ : List Addr} {H : Hp} {S : Sto} {q : Addr} {ds : List D} (r0 : Rel K ρ H S) (hq : RD K ρ H (.ref q) (.vl ds)) : SrcOk K ρ H (Itl K q) (.fix ds) := fun ρ2 H2 S2 i x r => by
  have hq2 := RD.ext r0 x hq
  cases hq2 with
  | vl hs hl ha =>
    rename_i xs
    have hr : RDs K ρ2 H2 xs ds := ⟨hl, ha⟩
    have hsq : SqL K H2 q xs := hs.sq
    simp only [nextD]
    cases h : ds[i]? with
    | none =>
      refine ⟨xs, hsq, ?_⟩
      rw [hr.len]
      exact List.getElem?_eq_none_iff.mp h
    | some d =>
      obtain ⟨v, hv, hd⟩ := hr.get h
      refine ⟨⟨xs, v, hsq, hv⟩, fun y H3 hy => ?_⟩
      obtain ⟨rfl, hy⟩ := hy
      have e : y = v := Option.some.inj ((hy xs hsq).symm.trans hv)
      rw [e]
      exact ⟨Ext.refl _ _, r, hd⟩
theorem li_seq (h : PE X e (tE X.K fe)) : PI X tg e (tI X.K (iSeq fe)) := (PI.or (pi_list h) (pi_tup h)).imp fun σ H R q0 => by
  obtain ⟨ρ, S, env, src, S', r, en, hf, q⟩ := q0
  unfold iSeq at hf
  split at hf
  · rename_i n S1 h1
    cases hf
    refine .inl (run_e r en h1 fun ρ1 H1 v1 x1 r1 hv1 en1 => ?_)
    cases hv1 with
    | ref hr =>
      rename_i p
      obtain ⟨c, hc, _⟩ := r1.of hr
      obtain ⟨xs, hs, _⟩ := r1.seq hr hc
      exact ⟨p, rfl, ⟨xs, hs⟩, q ρ1 H1 _ x1 r1 (src_cell hr)⟩
  · rename_i ds S1 h1
    cases hf
    refine .inr (run_e r en h1 fun ρ1 H1 v1 x1 r1 hv1 en1 => ?_)
    cases hv1 with
    | tup hs hl ha =>
      rename_i p xs
      exact ⟨p, rfl, ⟨xs, hs⟩, q ρ1 H1 _ x1 r1 (src_tup r1 hs ⟨hl, ha⟩)⟩
  · rename_i ds S1 h1
    cases hf
    refine .inl (run_e r en h1 fun ρ1 H1 v1 x1 r1 hv1 en1 => ?_)
    have hv2 := hv1
    cases hv1 with
    | vl hs hl ha =>
      rename_i p xs
      exact ⟨p, rfl, ⟨xs, hs.sq⟩, q ρ1 H1 _ x1 r1 (src_vl r1 hv2)⟩
  · cases hf
end
end Lv
namespace Lv
open PySem PySem.Spec PyProof.Rows L2
mutual
def noRef : D → Bool
  | .ty _ => true
  | .kl ds => noRefs ds
  | .vl ds => noRefs ds
  | .non => true
  | .bl _ => true
  | .int _ => true
  | .str _ => true
  | .tup ds => noRefs ds
  | .ref _ => false
def noRefs : List D → Bool
  | [] => true
  | d :: ds => noRef d && noRefs ds
end
inductive Below (n : Nat) : D → Prop
  | ty (s : String) : Below n (.ty s)
  | kl (ds : List D) : (∀ d ∈ ds, Below n d) → Below n (.kl ds)
  | vl (ds : List D) : (∀ d ∈ ds, Below n d) → Below n (.vl ds)
  | non : Below n .non
  | bl (b : Bool) : Below n (.bl b)
  | int (i : Int) : Below n (.int i)
  | str (x : Str) : Below n (.str x)
  | tup (ds : List D) : (∀ d ∈ ds, Below n d) → Below n (.tup ds)
  | ref (k : Nat) : k < n → Below n (.ref k)
mutual
theorem nr_below {n : Nat} : ∀ d : D, noRef d = true → Below n d
  | .ty s, _ => .ty s
  | .kl ds, h => .kl ds (nrs_below ds h)
  | .vl ds, h => .vl ds (nrs_below ds h)
  | .non, _ => .non
  | .bl b, _ => .bl b
  | .int i, _ => .int i
  | .str x, _ => .str x
  | .tup ds, h => .tup ds (nrs_below ds h)
  | .ref k, h => by cases h
theorem nrs_below {n : Nat} : ∀ ds : List D, noRefs ds = true → ∀ d ∈ ds, Below n d
  | [], _ => fun d hd => by cases hd
  | e :: es, h => fun d hd => by
    have h' : noRef e = true ∧ noRefs es = true := by
      rw [← Bool.and_eq_true]; exact h
    have h1 := nr_below (n := n) e h'.1
    have h2 := nrs_below (n := n) es h'.2
    rcases List.mem_cons.mp hd with rfl | hd
    · exact h1
    · exact h2 d hd
end
theorem noRefs_mem : ∀ {ds : List D}, noRefs ds = true → ∀ d ∈ ds, noRef d = true
  | [], _, d, hd => by cases hd
  | e :: es, h, d, hd => by
    unfold noRefs at h
    rw [Bool.and_eq_true] at h
    rcases List.mem_cons.mp hd with rfl | hd
    · exact h.1
    · exact noRefs_mem h.2 d hd
theorem noRefs_of : ∀ {ds : List D}, (∀ d ∈ ds, noRef d = true) → noRefs ds = true
  | [], _ => rfl
  | e :: es, h => by
    unfold noRefs
    rw [h e List.mem_cons_self, noRefs_of fun d hd => h d (List.mem_cons_of_mem _ hd)]
    rfl
section
variable {K : PySem.W.Frag} {ρ ρ' more : List Addr} {H H' : Hp} {S S' S0 : Sto}
theorem all_at {xs : List V} {ds : List D} {p : D → Prop} (hl : xs.length = ds.length) (h : ∀ (i : Nat) x d, xs[i]? = some x → ds[i]? = some d → p d) : ∀ d ∈ ds, p d := by
  intro d hd
  obtain ⟨i, hi⟩ := List.getElem?_of_mem hd
  have hx : i < xs.length := by rw [hl]; exact (List.getElem?_eq_some_iff.mp hi).1
  exact h i _ d (List.getElem?_eq_getElem hx) hi
theorem below_rd {v : V} {d : D} (h : RD K ρ H v d) : Below ρ.length d := by
  induction h with
  | ty n => exact .ty n
  | kl hs hl ha ih => exact .kl _ (all_at hl ih)
  | vl hs hl ha ih => exact .vl _ (all_at hl ih)
  | non => exact .non
  | bl b => exact .bl b
  | int i => exact .int i
  | str x => exact .str x
  | tup hs hl ha ih => exact .tup _ (all_at hl ih)
  | ref h => exact .ref _ (List.getElem?_eq_some_iff.mp h).1
theorem RD.change {ρ1 ρ2 : List Addr} {n : Nat} {v : V} {d : D} (h : RD K ρ1 H v d) (hb : ∀ (k : Nat) a, k < n → ρ1[k]? = some a → ρ2[k]? = some a) (hs : ∀ a, a ∈ ρ2 → a ∈ ρ1) : Below n d → RD K ρ2 H v d := by
  induction h with
  | ty n => exact fun _ => .ty n
  | kl hs hl ha ih => exact fun b => by cases b with | kl _ b => exact .kl hs hl fun i x d h1 h2 => ih i x d h1 h2 (b d (List.mem_of_getElem? h2))
  | vl hf hl ha ih => exact fun b => by cases b with | vl _ b => exact .vl ⟨hf.1, fun hm => hf.2 (hs _ hm)⟩ hl fun i x d h1 h2 => ih i x d h1 h2 (b d (List.mem_of_getElem? h2))
  | non => exact fun _ => .non
  | bl b => exact fun _ => .bl b
  | int i => exact fun _ => .int i
  | str x => exact fun _ => .str x
  | tup hs hl ha ih => exact fun b => by cases b with | tup _ b => exact .tup hs hl fun i x d h1 h2 => ih i x d h1 h2 (b d (List.mem_of_getElem? h2))
  | ref h => exact fun b => by cases b with | ref _ b => exact .ref (hb _ _ b h)
theorem RD.shrink {v : V} {d : D} (h : RD K (ρ ++ more) H v d) (b : Below ρ.length d) : RD K ρ H v d :=
  h.change (fun k a hk e => by rw [List.getElem?_append_left hk] at e; exact e) (fun a ha => List.mem_append_left _ ha) b
theorem FL.shrink {a : Addr} {xs : List V} (h : FL (ρ ++ more) H a xs) : FL ρ H a xs := ⟨h.1, fun hm => h.2 (List.mem_append_left _ hm)⟩
end
def fz (n0 : Nat) (S : Sto) : Nat → D → Option D
  | 0, d => if noRef d then some d else none
  | k + 1, d => if noRef d then some d else match d with
    | .ref n => if n < n0 then some (.ref n) else (match S[n]? with
      | some (.lst ds) => (match mapO (fz n0 S k) ds with
        | some es => some (.vl es)
        | none => none)
      | _ => none)
    | .tup ds => (match mapO (fz n0 S k) ds with
      | some es => some (.tup es)
      | none => none)
    | .vl ds => (match mapO (fz n0 S k) ds with
      | some es => some (.vl es)
      | none => none)
    | _ => none
theorem mapO_len {α β : Type} {f : α → Option β} : ∀ {xs : List α} {ys : List β}, mapO f xs = some ys → xs.length = ys.length
  | [], ys, h => by cases h; rfl
  | x :: xs, zs, h => by
    obtain ⟨y, ys, h1, h2, rfl⟩ := mapO_cons h
    simp [mapO_len h2]
theorem mapO_at {α β : Type} {f : α → Option β} : ∀ {xs : List α} {ys : List β}, mapO f xs = some ys → ∀ (i : Nat) y, ys[i]? = some y → ∃ x, xs[i]? = some x ∧ f x = some y
  | [], ys, h, i, y, hy => by cases h; simp at hy
  | x :: xs, zs, h, i, y, hy => by
    obtain ⟨y0, ys, h1, h2, rfl⟩ := mapO_cons h
    cases i with
    | zero => cases hy; exact ⟨x, rfl, h1⟩
    | succ i => exact mapO_at h2 i y hy
theorem nodup_app_notin {ρ more : List Addr} (h : (ρ ++ more).Nodup) {n : Nat} {a : Addr} (hn : ρ.length ≤ n) (ha : (ρ ++ more)[n]? = some a) : a ∉ ρ := by
  intro hm
  rw [List.getElem?_append_right hn] at ha
  exact (List.nodup_append.mp h).2.2 a hm a (List.mem_of_getElem? ha) rfl
theorem fz_rd {K : PySem.W.Frag} {ρ more : List Addr} {H : Hp} {S : Sto} (r : Rel K (ρ ++ more) H S) : ∀ (k : Nat) (v : V) (d d' : D), RD K (ρ ++ more) H v d → fz ρ.length S k d = some d' → RD K ρ H v d'
  | 0, v, d, d', hv, h => by
    unfold fz at h
    split at h
    · rename_i hn
      cases h
      exact hv.shrink (nr_below _ hn)
    · cases h
  | k + 1, v, d, d', hv, h => by
    unfold fz at h
    split at h
    · rename_i hn
      cases h
      exact hv.shrink (nr_below _ hn)
    · have go : ∀ {xs : List V} {ds es : List D}, RDs K (ρ ++ more) H xs ds → mapO (fz ρ.length S k) ds = some es → RDs K ρ H xs es := fun q hm => by
        refine ⟨q.len.trans (mapO_len hm), fun i x e hx he => ?_⟩
        obtain ⟨d0, h1, h2⟩ := mapO_at hm i e he
        exact fz_rd r k x d0 e (q.at_ i x d0 hx h1) h2
      split at h
      · rename_i n
        split at h
        · rename_i hlt
          cases h
          exact hv.shrink (.ref _ hlt)
        · rename_i hge
          split at h
          · rename_i ds hc
            split at h
            · rename_i es hm
              cases h
              cases hv with
              | ref hr =>
                rename_i a
                obtain ⟨xs, h1, h2⟩ := r.cell _ _ _ hr hc
                have q := go h2 hm
                exact .vl ⟨h1, nodup_app_notin r.nd (Nat.le_of_not_lt hge) hr⟩ q.len q.at_
            · cases h
          · cases h
      · split at h
        · rename_i es hm
          cases h
          cases hv with
          | tup hs hl ha =>
            have q := go ⟨hl, ha⟩ hm
            exact .tup hs q.len q.at_
        · cases h
      · split at h
        · rename_i es hm
          cases h
          cases hv with
          | vl hs hl ha =>
            have q := go ⟨hl, ha⟩ hm
            exact .vl hs.shrink q.len q.at_
        · cases h
      · cases h
def OldOk (S0 S : Sto) : Prop := S0.length ≤ S.length ∧ ∀ i, i < S0.length → S[i]? = S0[i]? ∨ ∃ ds, S[i]? = some (.lst ds) ∧ noRefs ds = true
open Classical in
noncomputable def shut (S0 : Sto) (z : D) (S : Sto) : Option (D × Sto) := if OldOk S0 S then (match fz S0.length S 20 z with
  | some z' => some (z', S.take S0.length)
  | none => none) else none

open Classical in
noncomputable def shutR (S0 : Sto) (z : D) (S : Sto) : Option (D × Sto) := if OldOk S0 S then (match z with
  | .ref n => if n < S0.length then none else (match S[n]? with
    | some (.lst ds) => if noRefs ds then some (.ref S0.length, S.take S0.length ++ [.lst ds]) else none
    | _ => none)
  | .vl _ => none
  | z => if noRef z then some (z, S.take S0.length) else none) else none
section
variable {K : PySem.W.Frag} {ρ ρ' : List Addr} {H H' : Hp} {S S' S0 : Sto} {v : V} {z z' : D}
theorem Ext.back (e : Ext ρ H ρ' H') : Ext ρ H ρ H' := ⟨⟨[], by simp⟩, fun p h n => absurd h n, e.keep⟩
theorem cells_take (r : Rel K ρ H S0) (e : Ext ρ H ρ' H') (r' : Rel K ρ' H' S) (ho : OldOk S0 S) {ρ2 : List Addr} (hb : ∀ (k : Nat) a, k < ρ.length → ρ'[k]? = some a → ρ2[k]? = some a) (hs : ∀ a, a ∈ ρ2 → a ∈ ρ') :
    ∀ (n : Nat) a c, ρ[n]? = some a → (S.take S0.length)[n]? = some c → CellOk K ρ2 H' a c := by
  intro n a c h1 h2
  have hn : n < ρ.length := (List.getElem?_eq_some_iff.mp h1).1
  have hn0 : n < S0.length := by rw [← r.len]; exact hn
  rw [List.getElem?_take, if_pos hn0] at h2
  have q := r'.cell n a c (e.get h1) h2
  have below : ∀ d ∈ c.items, Below ρ.length d := by
    rcases ho.2 n hn0 with h | ⟨ds, h, hr⟩
    · rw [h2] at h
      have q0 := r.cell n a c h1 h.symm
      cases c with
      | lst ds => obtain ⟨xs, _, q0⟩ := q0; exact all_at q0.len fun i x d a b => below_rd (q0.at_ i x d a b)
      | frz ds => obtain ⟨xs, _, _, q0⟩ := q0; exact all_at q0.len fun i x d a b => below_rd (q0.at_ i x d a b)
    · rw [h2] at h
      cases h
      exact nrs_below ds hr
  cases c with
  | lst ds => obtain ⟨xs, e1, q⟩ := q; exact ⟨xs, e1, q.len, fun i x d a b => (q.at_ i x d a b).change hb hs (below d (List.mem_of_getElem? b))⟩
  | frz ds => obtain ⟨xs, o, e1, q⟩ := q; exact ⟨xs, o, e1, q.len, fun i x d a b => (q.at_ i x d a b).change hb hs (below d (List.mem_of_getElem? b))⟩
theorem take_len (r : Rel K ρ H S0) (ho : OldOk S0 S) : (S.take S0.length).length = ρ.length := by rw [List.length_take, r.len]; exact Nat.min_eq_left ho.1
theorem rel_take (r : Rel K ρ H S0) (e : Ext ρ H ρ' H') (r' : Rel K ρ' H' S) (ho : OldOk S0 S) : Rel K ρ H' (S.take S0.length) := by
  have hc := cells_take r e r' ho (ρ2 := ρ)
  obtain ⟨more, rfl⟩ := e.pre
  exact ⟨(take_len r ho).symm, r.nd, hc (fun k a hk q => by rw [List.getElem?_append_left hk] at q; exact q) fun a ha => List.mem_append_left _ ha⟩
theorem seal_ok (r : Rel K ρ H S0) (e : Ext ρ H ρ' H') (r' : Rel K ρ' H' S) (hv : RD K ρ' H' v z) (hs : shut S0 z S = some (z', S')) : Ext ρ H ρ H' ∧ Rel K ρ H' S' ∧ RD K ρ H' v z' := by
  unfold shut at hs
  split at hs
  · rename_i ho
    split at hs
    · rename_i z2 hz
      cases hs
      refine ⟨e.back, rel_take r e r' ho, ?_⟩
      obtain ⟨more, rfl⟩ := e.pre
      rw [← r.len] at hz
      exact fz_rd r' _ v z z' hv hz
    · cases hs
  · cases hs
theorem sealR_ok (r : Rel K ρ H S0) (e : Ext ρ H ρ' H') (r' : Rel K ρ' H' S) (hv : RD K ρ' H' v z) (hs : shutR S0 z S = some (z', S')) : ∃ ρ2, Ext ρ H ρ2 H' ∧ Rel K ρ2 H' S' ∧ RD K ρ2 H' v z' := by
  unfold shutR at hs
  split at hs
  · rename_i ho
    split at hs
    · rename_i n
      split at hs
      · cases hs
      · rename_i hge
        split at hs
        · rename_i ds hc
          split at hs
          · rename_i hm
            cases hs
            cases hv with
            | ref hr =>
              rename_i p
              have hc2 := cells_take r e r' ho (ρ2 := ρ ++ [p])
              have hl := take_len r ho
              obtain ⟨more, rfl⟩ := e.pre
              have hp : p ∉ ρ := nodup_app_notin r'.nd (by rw [r.len]; exact Nat.le_of_not_lt hge) hr
              have hH : H p = none := e.new p (List.mem_of_getElem? hr) hp
              have hbk : ∀ (k : Nat) a, k < ρ.length → (ρ ++ more)[k]? = some a → (ρ ++ [p])[k]? = some a := fun k a hk q => by
                rw [List.getElem?_append_left hk] at q ⊢
                exact q
              have hmm : ∀ a, a ∈ ρ ++ [p] → a ∈ ρ ++ more := fun a ha => by
                rcases List.mem_append.mp ha with ha | ha
                · exact List.mem_append_left _ ha
                · rw [List.mem_singleton.mp ha]; exact List.mem_of_getElem? hr
              obtain ⟨xs, h1, h2⟩ := r'.cell _ _ _ hr hc
              refine ⟨ρ ++ [p], ⟨⟨[p], rfl⟩, fun b hb hn => ?_, fun b o hb hn => e.keep b o hb hn⟩, ⟨?_, ?_, fun n a c k1 k2 => ?_⟩, .ref ?_⟩
              · rcases List.mem_append.mp hb with hb | hb
                · exact absurd hb hn
                · rw [List.mem_singleton.mp hb]; exact hH
              · rw [List.length_append, List.length_append, hl]; rfl
              · rw [List.nodup_append]
                refine ⟨r.nd, by simp, fun a ha b hb z => ?_⟩
                rw [List.mem_singleton] at hb
                rw [z, hb] at ha
                exact hp ha
              · by_cases hi : n < ρ.length
                · rw [List.getElem?_append_left hi] at k1
                  rw [List.getElem?_append_left (by rw [hl]; exact hi)] at k2
                  exact hc2 hbk hmm n a c k1 k2
                · rw [List.getElem?_append_right (by omega)] at k1
                  rw [List.getElem?_append_right (by rw [hl]; omega), hl] at k2
                  have e0 : n - ρ.length = 0 := by
                    have := (List.getElem?_eq_some_iff.mp k1).1
                    simp at this
                    omega
                  rw [e0] at k1 k2
                  simp at k1 k2
                  subst k1; subst k2
                  exact ⟨xs, h1, h2.len, fun i x d a b => (h2.at_ i x d a b).change hbk hmm (nrs_below ds hm d (List.mem_of_getElem? b))⟩
              · rw [← r.len]; simp
          · cases hs
        · cases hs
    · cases hs
    · split at hs
      · rename_i hn
        cases hs
        have rt := rel_take r e r' ho
        obtain ⟨more, rfl⟩ := e.pre
        exact ⟨ρ, e.back, rt, hv.shrink (nr_below _ hn)⟩
      · cases hs
  · cases hs
end
end Lv
namespace Lv
open PySem PySem.Spec PyProof.Rows L2
def rangeD (lo : Int) (n : Nat) : List D := (List.range n).map fun i => D.int (lo + ((i : Nat) : Int))
def iRange1 (f : AF) : IFn := fun env S => match f env S with
  | some ([.int j], S1) => if -(2 ^ 62) ≤ j ∧ j < 2 ^ 62 then some (.fix (rangeD 0 j.toNat), S1) else none
  | _ => none
def zipD (ds es : List D) : List D := List.zipWith (fun x y => .tup [x, y]) ds es
def iZipF (f : AF) : IFn := fun env S => match f env S with
  | some ([x, y], S1) => (match sqOf x, sqOf y with
    | some (.fix ds), some (.fix es) => some (.fix (zipD ds es), S1)
    | some a, some b => some (.zip a b, S1)
    | _, _ => none)
  | _ => none
section
variable {X : Cx} {K : PySem.W.Frag} {tg e a b : Expr} {fe : EF} {fs : AF} {p pos : Pos}
theorem src_range {ρ : List Addr} {H : Hp} {lo : Int} {n : Nat} : SrcOk K ρ H (Itr lo n) (.fix (rangeD lo n)) := fun ρ2 H2 S2 i x r => by
  simp only [nextD, rangeD, List.getElem?_map]
  by_cases hi : i < n
  · rw [List.getElem?_range hi]
    refine ⟨hi, fun y H3 hy => ?_⟩
    obtain ⟨rfl, rfl⟩ := hy
    exact ⟨Ext.refl _ _, r, .int _⟩
  · rw [List.getElem?_eq_none (by simpa using hi)]
    show n ≤ i
    omega
theorem li_range1 (hg : Gl X "range") (hm : X.mg "range" = none) (ha : PA X [a] (tA X.K fs)) (hs : starEach [a] X.env = [(false, eval a X.env)] := by rfl) : PI X tg (.Call (.Name "range" p) [a] [] pos) (tI X.K (iRange1 fs)) := (pi_range1 hg hm ha hs).imp fun σ H R q0 => by
  obtain ⟨ρ, S, env, src, S', r, en, hf, q⟩ := q0
  unfold iRange1 at hf
  split at hf
  · rename_i j S1 h1
    split at hf
    · rename_i hc
      cases hf
      refine run_a r en h1 fun ρ1 H1 vs x1 r1 hv1 en1 => ?_
      obtain ⟨v, rfl, hw⟩ := rds1 hv1
      cases hw
      exact ⟨j, rfl, hc.1, hc.2, q ρ1 H1 _ x1 r1 src_range⟩
    · cases hf
  · cases hf
theorem pair_new {ρ2 : List Addr} {H2 : Hp} {S2 : Sto} {T : Addr} {x y : V} {d e : D} (r : Rel K ρ2 H2 S2) (hT : H2 T = none) (hx : RD K ρ2 H2 x d) (hy : RD K ρ2 H2 y e) : Ext ρ2 H2 ρ2 (upd H2 T (.tup [x, y])) ∧ Rel K ρ2 (upd H2 T (.tup [x, y])) S2 ∧ RD K ρ2 (upd H2 T (.tup [x, y])) (.ref T) (.tup [d, e]) := by
  have x1 := ext_new (ρ := ρ2) (o := .tup [x, y]) hT
  have hp : RDs K ρ2 H2 [x, y] [d, e] := .cons hx (.cons hy .nil)
  have h3 := hp.ext r x1
  exact ⟨x1, r.newT hT, .tup (SqT.of upd_same) h3.len h3.at_⟩
theorem SrcOk.eqv {ρ : List Addr} {H : Hp} {J : It} {s s' : Src} (h : SrcOk K ρ H J s) (e : ∀ S i, nextD S i s' = nextD S i s) : SrcOk K ρ H J s' := fun ρ2 H2 S2 i x r => by
  rw [e]
  exact h ρ2 H2 S2 i x r
theorem src_zip {ρ : List Addr} {H : Hp} {n m : Sq} {p q : Addr} (hp : SqOk K ρ H p n) (hq : SqOk K ρ H q m) : SrcOk K ρ H (Itz K p q) (.zip n m) := fun ρ2 H2 S2 i x r => by
  simp only [nextD]
  cases e1 : n.get S2 with
  | none => trivial
  | some ds =>
    cases e2 : m.get S2 with
    | none => trivial
    | some es =>
      obtain ⟨xs, hs, hr⟩ := hp ρ2 H2 S2 ds x r e1
      obtain ⟨ys, ht, hu⟩ := hq ρ2 H2 S2 es x r e2
      dsimp only
      cases h1 : ds[i]? with
      | none =>
        refine ⟨xs, ys, hs, ht, .inl ?_⟩
        rw [hr.len]
        exact List.getElem?_eq_none_iff.mp h1
      | some d =>
        cases h2 : es[i]? with
        | none =>
          refine ⟨xs, ys, hs, ht, .inr ?_⟩
          rw [hu.len]
          exact List.getElem?_eq_none_iff.mp h2
        | some e =>
          obtain ⟨v, hv, hd⟩ := hr.get h1
          obtain ⟨w, hw, he⟩ := hu.get h2
          refine ⟨⟨xs, ys, v, w, hs, ht, hv, hw⟩, fun y H3 hy => ?_⟩
          obtain ⟨T, z, z', rfl, hT, rfl, k1, k2⟩ := hy
          have e1 : z = v := Option.some.inj ((k1 xs hs).symm.trans hv)
          have e2 : z' = w := Option.some.inj ((k2 ys ht).symm.trans hw)
          rw [e1, e2]
          exact pair_new r hT hd he
theorem zip_fix {ds es : List D} (S : Sto) (i : Nat) : nextD S i (.fix (zipD ds es)) = nextD S i (.zip (.fix ds) (.fix es)) := by
  simp only [nextD, Sq.get, zipD, List.getElem?_zipWith]
  cases ds[i]? <;> cases es[i]? <;> rfl
theorem li_zip {elts : List Expr} {kk : Nat} {tpos : Pos} (hg : Gl X "zip") (hm : X.mg "zip" = none) (ha : PA X [a, b] (tA X.K fs)) (hs : starEach [a, b] X.env = (false, eval a X.env) :: starEach [b] X.env := by rfl) (hpl : (backTo pos (starEach [b] X.env)).any (·.1) = false := by rfl) :
    PI X (.Tuple elts kk tpos) (.Call (.Name "zip" p) [a, b] [] pos) (tI X.K (iZipF fs)) := (pi_zip hg hm ha hs hpl).imp fun σ H R q0 => by
  obtain ⟨ρ, S, env, src, S', r, en, hf, q⟩ := q0
  unfold iZipF at hf
  split at hf
  · rename_i xd yd S1 h1
    refine run_a r en h1 fun ρ1 H1 vs x1 r1 hv1 en1 => ?_
    obtain ⟨v, u, rfl, hw, hu⟩ := rds2 hv1
    have go : ∀ a b, sqOf xd = some a → sqOf yd = some b → S1 = S' → (∀ S i, nextD S i src = nextD S i (.zip a b)) → ∃ p q xs ys, [v, u] = [V.ref p, V.ref q] ∧ SqL X.K H1 p xs ∧ SqL X.K H1 q ys ∧ R (Itz X.K p q) H1 := by
      rintro a b ha hb rfl he
      obtain ⟨p1, rfl, k1, dd, g1⟩ := sq_of r1 hw ha
      obtain ⟨p2, rfl, k2, ee, g2⟩ := sq_of r1 hu hb
      obtain ⟨xs, hxs, _⟩ := k1 _ _ _ _ (Ext.refl _ _) r1 g1
      obtain ⟨ys, hys, _⟩ := k2 _ _ _ _ (Ext.refl _ _) r1 g2
      exact ⟨p1, p2, xs, ys, rfl, hxs, hys, q ρ1 H1 _ x1 r1 ((src_zip k1 k2).eqv he)⟩
    split at hf
    · rename_i ds es ha hb
      cases hf
      exact go _ _ ha hb rfl fun S i => zip_fix S i
    · rename_i a b _ ha hb
      cases hf
      exact go _ _ ha hb rfl fun S i => rfl
    · cases hf
  · cases hf
end
def forL (b : SF) (t : Tg) (src : Src) : Nat → Nat → SF
  | 0, _ => fun _ _ => none
  | n + 1, i => fun env S => match nextD S i src with
    | none => none
    | some none => some (.nx env, S)
    | some (some d) => match setTg t d env with
      | none => none
      | some e1 => match b e1 S with
        | none => none
        | some (.nx e2, S2) => forL b t src n (i + 1) e2 S2
        | some (.ct e2, S2) => forL b t src n (i + 1) e2 S2
        | some (.bk e2, S2) => some (.nx e2, S2)
        | some (.rt d, S2) => some (.rt d, S2)
def sFor (n : Nat) (t : Tg) (it : IFn) (b : SF) : SF := fun env S => match it env S with
  | none => none
  | some (src, S1) => forL b t src n 0 env S1
def whileL (c : TF) (b : SF) : Nat → SF
  | 0 => fun _ _ => none
  | n + 1 => fun env S => match c env S with
    | none => none
    | some (false, S1) => some (.nx env, S1)
    | some (true, S1) => match b env S1 with
      | none => none
      | some (.nx e2, S2) => whileL c b n e2 S2
      | some (.ct e2, S2) => whileL c b n e2 S2
      | some (.bk e2, S2) => some (.nx e2, S2)
      | some (.rt d, S2) => some (.rt d, S2)
section
variable {X : Cx} {tg iter c : Expr} {body : List Stmt} {it : IFn} {b : SF} {t : Tg} {gc : TF} {pos : Pos}
theorem out_loop {K : PySem.W.Frag} {ρ : List Addr} {H : Hp} {E : Ends} {N : L2.St → Hp → Prop} {o : Out} (h : match o with
    | .nx e => ∀ σ, EnvR K ρ H σ e → N σ H
    | .ct e => ∀ σ, EnvR K ρ H σ e → N σ H
    | .bk e => ∀ σ, EnvR K ρ H σ e → E.nx σ H
    | .rt d => ∀ v, RD K ρ H v d → E.rt v H) : OutOk K ρ H { E with nx := N, ct := N, bk := E.nx } o := by
  cases o <;> exact h
theorem ls_for (n : Nat) (hp : PassesOwn (model X.prog X.w) X.A X.env X.xe) (hc : X.calm = true) (hi : PI X tg iter (tI X.K it)) (hg : PG X tg (tgOf X.K t)) (hb : PSs X body (tS X.K b))
    (hs : ∀ x, foldedSetIterable iter X.env x = pure x := by intro _; rfl) : PS X (.For tg iter body [] pos) (tS X.K (sFor n t it b)) := (ps_for hp hc hi hg hb hs).imp fun E σ H q0 => by
  obtain ⟨ρ, S, env, o, S', r, en, hf, q⟩ := q0
  unfold sFor at hf
  split at hf
  · cases hf
  · rename_i src S1 h1
    refine ⟨ρ, S, env, src, S1, r, en, h1, fun ρ1 H1 J x1 r1 hJ => ?_⟩
    refine ⟨fun i m σ2 H2 => ∃ ρ2 S2 env2, Rel X.K ρ2 H2 S2 ∧ EnvR X.K ρ2 H2 σ2 env2 ∧ Ext ρ1 H1 ρ2 H2 ∧ forL b t src m i env2 S2 = some (o, S'), ⟨n, ρ1, S1, env, r1, en.ext r x1, Ext.refl _ _, hf⟩, ?_⟩
    rintro i m σ2 H2 ⟨ρ2, S2, env2, r2, en2, x2, h2⟩
    cases m with
    | zero => cases h2
    | succ m =>
      unfold forL at h2
      have hJ2 := hJ ρ2 H2 S2 i x2 r2
      split at h2
      · cases h2
      · rename_i hn
        cases h2
        rw [hn] at hJ2
        exact .inl ⟨hJ2, q ρ2 H2 (x1.trans x2) r2 σ2 en2⟩
      · rename_i d hn
        rw [hn] at hJ2
        obtain ⟨go, yl⟩ := hJ2
        refine .inr ⟨go, _, fun σ' H' h => h, fun x H3 hy => ?_⟩
        obtain ⟨x3, r3, hx⟩ := yl x H3 hy
        have en3 := en2.ext r2 x3
        split at h2
        · cases h2
        · rename_i e1 ht
          refine run_tg r3 en3 hx ht fun xs en4 => ?_
          split at h2
          · cases h2
          · rename_i e2 S4 hb4
            exact run_s r3 en4 hb4 fun ρ5 H5 x5 r5 => out_loop fun σ5 en5 => ⟨m, Nat.lt_succ_self m, ρ5, S4, e2, r5, en5, (x2.trans x3).trans x5, h2⟩
          · rename_i e2 S4 hb4
            exact run_s r3 en4 hb4 fun ρ5 H5 x5 r5 => out_loop fun σ5 en5 => ⟨m, Nat.lt_succ_self m, ρ5, S4, e2, r5, en5, (x2.trans x3).trans x5, h2⟩
          · rename_i e2 S4 hb4
            cases h2
            exact run_s r3 en4 hb4 fun ρ5 H5 x5 r5 => out_loop fun σ5 en5 => q ρ5 H5 (x1.trans ((x2.trans x3).trans x5)) r5 σ5 en5
          · rename_i d2 S4 hb4
            cases h2
            exact run_s r3 en4 hb4 fun ρ5 H5 x5 r5 => out_loop fun v hv => q ρ5 H5 (x1.trans ((x2.trans x3).trans x5)) r5 v hv
theorem ls_while (n : Nat) (hp : PassesOwn (model X.prog X.w) X.A X.env X.xe) (hc : PT X c (tT X.K gc)) (hb : PSs X body (tS X.K b)) : PS X (.While c body [] pos) (tS X.K (whileL gc b n)) := (ps_while hp hc hb).imp fun E σ H q0 => by
  obtain ⟨ρ, S, env, o, S', r, en, hf, q⟩ := q0
  refine ⟨fun m σ2 H2 => ∃ ρ2 S2 env2, Rel X.K ρ2 H2 S2 ∧ EnvR X.K ρ2 H2 σ2 env2 ∧ Ext ρ H ρ2 H2 ∧ whileL gc b m env2 S2 = some (o, S'), ⟨n, ρ, S, env, r, en, Ext.refl _ _, hf⟩, ?_⟩
  rintro m σ2 H2 ⟨ρ2, S2, env2, r2, en2, x2, h2⟩
  cases m with
  | zero => cases h2
  | succ m =>
    unfold whileL at h2
    split at h2
    · cases h2
    · rename_i S3 h3
      cases h2
      exact run_t r2 en2 h3 fun ρ3 H3 x3 r3 en3 => iteF (q ρ3 H3 (x2.trans x3) r3 σ2 en3)
    · rename_i S3 h3
      refine run_t r2 en2 h3 fun ρ3 H3 x3 r3 en3 => iteT ⟨_, fun σ' H' h => h, ?_⟩
      split at h2
      · cases h2
      · rename_i e2 S4 hb4
        exact run_s r3 en3 hb4 fun ρ5 H5 x5 r5 => out_loop fun σ5 en5 => ⟨m, Nat.lt_succ_self m, ρ5, S4, e2, r5, en5, (x2.trans x3).trans x5, h2⟩
      · rename_i e2 S4 hb4
        exact run_s r3 en3 hb4 fun ρ5 H5 x5 r5 => out_loop fun σ5 en5 => ⟨m, Nat.lt_succ_self m, ρ5, S4, e2, r5, en5, (x2.trans x3).trans x5, h2⟩
      · rename_i e2 S4 hb4
        cases h2
        exact run_s r3 en3 hb4 fun ρ5 H5 x5 r5 => out_loop fun σ5 en5 => q ρ5 H5 (x2.trans (x3.trans x5)) r5 σ5 en5
      · rename_i d2 S4 hb4
        cases h2
        exact run_s r3 en3 hb4 fun ρ5 H5 x5 r5 => out_loop fun v hv => q ρ5 H5 (x2.trans (x3.trans x5)) r5 v hv
end
def compL (t : Tg) (c : TF) (f : EF) (src : Src) (kC : Nat) (env : Env) : Nat → Nat → Sto → Option Sto
  | 0, _, _ => none
  | n + 1, i, S => match nextD S i src with
    | none => none
    | some none => some S
    | some (some d) => match setTg t d env with
      | none => none
      | some e1 => match c e1 S with
        | none => none
        | some (false, S2) => compL t c f src kC env n (i + 1) S2
        | some (true, S2) => match f e1 S2 with
          | none => none
          | some (y, S3) => match S3[kC]? with
            | some (.lst acc) => if acc.length < lim then compL t c f src kC env n (i + 1) (S3.set kC (.lst (acc ++ [y]))) else none
            | _ => none
noncomputable def finC (rm : Bool) (S1 Se : Sto) : Option (D × Sto) := if rm then some (.ref S1.length, Se) else shut S1 (.ref S1.length) Se
noncomputable def eComp (rm : Bool) (n : Nat) (own : List Nat) (it : IFn) (t : Tg) (c : TF) (f : EF) : EF := fun env S => match it env S with
  | none => none
  | some (src, S1) => match compL t c f src S1.length (wipeE env own) n 0 (S1 ++ [.lst []]) with
    | none => none
    | some Se => finC rm S1 Se
def tYesF : TF := fun _ S => some (true, S)
section
variable {X : Cx} {it : IFn} {t : Tg} {gc : TF} {fe : EF}
theorem lp_nil : PTs X [] (tT X.K tYesF) := ⟨fun pins s σ H Q I h => pts_nil.run pins s σ H Q I (by
  obtain ⟨ρ, S, env, b, S', r, en, hf, q⟩ := h
  cases hf
  exact q ρ H (Ext.refl ρ H) r)⟩
theorem comp_imp {own : List Nat} {rm : Bool} (n : Nat) (ht : ∀ i ∈ t.ix, i ∈ own) (σ : L2.St) (H : Hp) (Q : VK) (q0 : tE X.K (eComp rm n own it t gc fe) σ H Q) : tLc (tI X.K it) (tgOf X.K t) (tT X.K gc) (tE X.K fe) own σ H Q := by
  obtain ⟨ρ, S, env, d, S', r, en, hf, q⟩ := q0
  unfold eComp at hf
  split at hf
  · cases hf
  · rename_i src S1 h1
    split at hf
    · cases hf
    · rename_i Se h2
      refine ⟨ρ, S, env, src, S1, r, en, h1, fun ρ1 H1 J x1 r1 hJ Da nD => ?_⟩
      have xN : Ext ρ1 H1 (ρ1 ++ [Da]) (upd H1 Da (.lst [])) := ext_newL nD
      have kD : (ρ1 ++ [Da])[S1.length]? = some Da := by rw [← r1.len]; simp
      refine ⟨fun i m H2 => ∃ ρ2 S3, Rel X.K ρ2 H2 S3 ∧ Ext (ρ1 ++ [Da]) (upd H1 Da (.lst [])) ρ2 H2 ∧ compL t gc fe src S1.length (wipeE env own) m i S3 = some Se, ?_, ?_⟩
      · exact ⟨n, ρ1 ++ [Da], _, r1.newL nD .nil, Ext.refl _ _, h2⟩
      · rintro i m H2 ⟨ρ2, S3, r2, x2, h3⟩
        cases m with
        | zero => cases h3
        | succ m =>
          unfold compL at h3
          have x12 := xN.trans x2
          have hJ2 := hJ ρ2 H2 S3 i x12 r2
          have en2 : EnvR X.K ρ2 H2 (L2.wipe σ own) (wipeE env own) := ((en.ext r x1).ext r1 x12).wipe own
          split at h3
          · cases h3
          · rename_i hn
            cases h3
            rw [hn] at hJ2
            refine .inl ⟨hJ2, ?_⟩
            unfold finC at hf
            split at hf
            · cases hf
              exact q ρ2 H2 (.ref Da) (x1.trans x12) r2 (.ref (x2.get kD))
            · obtain ⟨x4, r4, v4⟩ := seal_ok r1 x12 r2 (.ref (x2.get kD)) hf
              exact q ρ1 H2 (.ref Da) (x1.trans x4) r4 v4
          · rename_i d hn
            rw [hn] at hJ2
            obtain ⟨go, yl⟩ := hJ2
            refine .inr ⟨go, _, fun H' h => h, fun x H3 hy => ?_⟩
            obtain ⟨x3, r3, hx⟩ := yl x H3 hy
            split at h3
            · cases h3
            · rename_i e1 hte
              refine run_tg r3 (en2.ext r2 x3) hx hte fun ys en4 => ⟨?_, ?_⟩
              · rw [wipe_sets ht, wipe_wipe]
              · split at h3
                · cases h3
                · rename_i S5 h5
                  refine run_t r3 en4 h5 fun ρ5 H5 x5 r5 en5 => iteF ?_
                  exact ⟨m, Nat.lt_succ_self m, ρ5, S5, r5, x2.trans (x3.trans x5), h3⟩
                · rename_i S5 h5
                  refine run_t r3 en4 h5 fun ρ5 H5 x5 r5 en5 => iteT ?_
                  split at h3
                  · cases h3
                  · rename_i y S6 h6
                    split at h3
                    · rename_i acc hacc
                      split at h3
                      · rename_i hl
                        refine run_e r5 en5 h6 fun ρ6 H6 v6 x6 r6 hv6 en6 => ?_
                        have x26 := (x3.trans x5).trans x6
                        have kk := x26.get (x2.get kD)
                        obtain ⟨xs, hD6, ha6⟩ := r6.cell _ _ _ kk hacc
                        have hw6 : RDs X.K ρ6 H6 [v6] [y] := .cons hv6 .nil
                        exact ⟨xs, hD6, lim_lt (by rw [ha6.len]; omega), m, Nat.lt_succ_self m, ρ6, _, r6.mutL kk (ha6.append hw6), (x2.trans x26).trans (ext_mut (List.mem_of_getElem? kk)), h3⟩
                      · cases h3
                    · cases h3
where
  wipe_in {τ : L2.St} {own : List Nat} {j : Nat} (hj : j ∈ own) (hτ : j < τ.length) : (L2.wipe τ own)[j]? = some none := by
    have hl : j < (L2.wipe τ own).length := by rw [wipe_length]; exact hτ
    cases q : (L2.wipe τ own)[j]? with
    | none => rw [List.getElem?_eq_none_iff] at q; omega
    | some o =>
      cases o with
      | none => rfl
      | some x => exact absurd hj (wipe_some q).2
  wipe_wipe {σ : L2.St} {own : List Nat} : L2.wipe (L2.wipe σ own) own = L2.wipe σ own := by
    refine List.ext_getElem? fun j => ?_
    by_cases hj : j ∈ own
    · by_cases h1 : j < σ.length
      · rw [wipe_in hj (by rw [wipe_length]; exact h1), wipe_in hj h1]
      · rw [List.getElem?_eq_none (by rw [wipe_length, wipe_length]; omega), List.getElem?_eq_none (by rw [wipe_length]; omega)]
    · rw [wipe_out hj]
end
end Lv
namespace Lv
open PySem PySem.Spec PyProof.Rows L2
section
variable {X : Cx} {it : IFn} {t : Tg} {gc : TF} {fe : EF}
theorem l_lc {rm : Bool} (n : Nat) {elt tg iter : Expr} {ifs : List Expr} {scope : Scope} {own : List (Str × Nat)} {pos : Pos} (hc : X.calm = true) (hN : X.N.Nodup) (hi : PI X tg iter (tI X.K it)) (ok : BlkOk X.N X.env.scope scope own) (hix : ∀ i ∈ t.ix, i ∈ own.map (·.2))
    (hg : ∀ (s : Shared) (H : Hp) (C : Addr) (cl : List (Str × Addr)) (fp : List Addr), PG (X.blk s H scope (compEnvC scope cl C X.env) fp) tg (tgOf X.K t)) (ht : ∀ (s : Shared) (H : Hp) (C : Addr) (cl : List (Str × Addr)) (fp : List Addr), PTs (X.blk s H scope (compEnvC scope cl C X.env) fp) ifs (tT X.K gc))
    (he : ∀ (s : Shared) (H : Hp) (C : Addr) (cl : List (Str × Addr)) (fp : List Addr), PE (X.blk s H scope (compEnvC scope cl C X.env) fp) elt (tE X.K fe)) (hs : ∀ x, foldedSetIterable iter X.env x = pure x := by intro _; rfl) :
    PE X (.ListComp elt [⟨tg, iter, ifs, 0⟩] scope pos) (tE X.K (eComp rm n (own.map (·.2)) it t gc fe)) := (pe_lc hc hN hi ok hg ht he hs).imp (comp_imp n hix)
theorem ls_setLc {rm : Bool} (n i : Nat) {y : Str} {py : Pos} {elt tg iter : Expr} {ifs : List Expr} {scope : Scope} {own : List (Str × Nat)} {pos spos : Pos} (hc : X.calm = true) (hN : X.N.Nodup) (hi : PI X tg iter (tI X.K it)) (ok : BlkOk X.N X.env.scope scope own) (hix : ∀ i ∈ t.ix, i ∈ own.map (·.2))
    (hg : ∀ (s : Shared) (H : Hp) (C : Addr) (cl : List (Str × Addr)) (fp : List Addr), PG (X.blk s H scope (compEnvC scope cl C X.env) fp) tg (tgOf X.K t)) (ht : ∀ (s : Shared) (H : Hp) (C : Addr) (cl : List (Str × Addr)) (fp : List Addr), PTs (X.blk s H scope (compEnvC scope cl C X.env) fp) ifs (tT X.K gc))
    (he : ∀ (s : Shared) (H : Hp) (C : Addr) (cl : List (Str × Addr)) (fp : List Addr), PE (X.blk s H scope (compEnvC scope cl C X.env) fp) elt (tE X.K fe))
    (hy : X.N[i]? = some y := by rfl) (hyl : X.env.scope.names.lookup y = some .local := by rfl) (hsw : swapsWith (.ListComp elt [⟨tg, iter, ifs, 0⟩] scope pos) (some (.Name y py)) spos.line X.env = pure true) (hs : ∀ x, foldedSetIterable iter X.env x = pure x := by intro _; rfl) :
    PS X (.Assign [.Name y py] (.ListComp elt [⟨tg, iter, ifs, 0⟩] scope pos) spos) (tS X.K (sSet i (eComp rm n (own.map (·.2)) it t gc fe))) :=
  (ps_setLc (i := i) hc hN hy hyl hsw hi ok hg ht he hs).imp fun E σ H h => by
    obtain ⟨ρ, S, env, o, S', r, en, hf, q⟩ := h
    unfold sSet at hf
    split at hf
    · rename_i d S1 h1
      cases hf
      exact comp_imp n hix σ H _ (run_e r en h1 fun ρ1 H1 v1 e1 r1 hv1 en1 => q ρ1 H1 e1 r1 _ (en1.set hv1))
    · cases hf
theorem lp_one {c : Expr} (h : PT X c (tT X.K gc)) : PTs X [c] (tT X.K gc) := pts_one h
end
structure FnG (P : Program) (w : World) (K : PySem.W.Frag) (mg : Str → Option Value) (base : Heap) (k : Nat) (f : Addr) (fd : FuncData) (ps : List Str) (sp : Sp) : Prop where
  len : ∀ vs H Q E, sp vs H Q E → vs.length = ps.length
  run : ∀ (A : Around) (outer : List PySem.Env) (s : Shared) (H : Hp) (args : Args) (us : List Value) (vs : List V) (Q : VK), Room k A → A.guards = some [] → Env0 P w K mg base A outer s H → BindsTo s fd args (ps.zip us) → Vals vs us → sp vs H Q E0 →
    codeAny (model P w) A (.call (.ref f) args) (CR CX0 outer P w H s Q E0) s
def spOf (K : PySem.W.Frag) (n : Nat) (g : CF) : Sp := fun vs H Q _ => vs.length = n ∧ ∃ ρ S ds z S', Rel K ρ H S ∧ RDs K ρ H vs ds ∧ g ds S = some (z, S') ∧ ∀ ρ' H' v, Ext ρ H ρ' H' → Rel K ρ' H' S' → RD K ρ' H' v z → Q v H'
def startE (nn : Nat) (ds : List D) : Env := ds.map some ++ List.replicate (nn - ds.length) none
def fnF (np nn : Nat) (body : SF) : CF := fun ds S => if ds.length = np then (match body (startE nn ds) S with
  | some (.rt d, S1) => some (d, S1)
  | some (.nx _, S1) => some (.non, S1)
  | _ => none) else none
theorem start_rd {K : PySem.W.Frag} {ρ : List Addr} {H : Hp} {N : List Str} {vs : List V} {ds : List D} (h : RDs K ρ H vs ds) : EnvR K ρ H (L2.start N vs) (startE N.length ds) := by
  refine ⟨by simp [L2.start, startE, h.len], fun i d e => ?_⟩
  unfold startE at e
  unfold L2.start
  by_cases hi : i < ds.length
  · rw [List.getElem?_append_left (by simpa using hi)] at e
    rw [List.getElem?_append_left (by simpa [h.len] using hi)]
    rw [List.getElem?_map] at e
    cases q : ds[i]? with
    | none => rw [q] at e; cases e
    | some d' =>
      rw [q] at e
      cases e
      obtain ⟨x, hx, hd⟩ := h.get q
      exact ⟨x, by rw [List.getElem?_map, hx]; rfl, hd⟩
  · rw [List.getElem?_append_right (by simpa using hi)] at e
    rw [List.getElem?_replicate] at e
    split at e <;> cases e
section
variable {P : Program} {w : World} {K : PySem.W.Frag} {mg : Str → Option Value} {base : Heap}
theorem fn_g {x qual : Str} {st : Stmt} {f : Addr} {fd : FuncData} {N ps : List Str} {k : Nat} {body : SF} (F : Fun K x qual st f fd) (S : FnScope N ps (defScope st))
    (hbody : ∀ (cdv : Value) (A : Around) (outer : List PySem.Env) (s : Shared) (H : Hp), Room k (A.deeper (envOfC qual (defScope st) s.heap.objs.size f cdv)) → (A.deeper (envOfC qual (defScope st) s.heap.objs.size f cdv)).guards = some [] →
      PSs (cxOf CX0 P w K mg base N qual (defScope st) f cdv A outer s H E0).nox (defBody st) (tS K body)) : FnG P w K mg base (k + 1) f fd ps (spOf K ps.length (fnF ps.length N.length body)) := by
  obtain ⟨oc, od, kV, doc, pm, an, cdv, ct, osl, rfl, lk, hcd⟩ := F.ex
  refine ⟨fun vs H Q E h => h.1, fun A outer s H args us vs Q hr hg e0 hb rv hsp => ?_⟩
  obtain ⟨hl, ρ, S0, ds, z, S', r, hd, hf, q⟩ := hsp
  refine LamX.run_ofS (N := N) (ps := ps) (us := us) (vs := vs) lk hcd S hr e0 hb rv hl fun hr' => ?_
  refine ⟨_, (hbody cdv A outer s H hr' hg).nox, ?_⟩
  unfold fnF at hf
  split at hf
  · split at hf
    · rename_i d S1 h1
      cases hf
      exact run_s r (start_rd hd) h1 fun ρ1 H1 x1 r1 v hv => q ρ1 H1 v x1 r1 hv
    · rename_i e1 S1 h1
      cases hf
      exact run_s r (start_rd hd) h1 fun ρ1 H1 x1 r1 σ en => q ρ1 H1 .non x1 r1 .non
    · cases hf
  · cases hf
noncomputable def sealed (g : CF) : CF := fun ds S => match g ds S with
  | some (z, S') => shut S z S'
  | none => none
noncomputable def sealedR (g : CF) : CF := fun ds S => match g ds S with
  | some (z, S') => shutR S z S'
  | none => none
theorem FnG.sealed {f : Addr} {fd : FuncData} {ps : List Str} {k n : Nat} {g : CF} (F : FnG P w K mg base k f fd ps (spOf K n g)) : FnG P w K mg base k f fd ps (spOf K n (sealed g)) := by
  have i : ∀ vs H Q E, spOf K n (Lv.sealed g) vs H Q E → spOf K n g vs H Q E := fun vs H Q E q => by
    obtain ⟨hl, ρ, S0, ds, z, S', r, hd, hf, q⟩ := q
    unfold Lv.sealed at hf
    split at hf
    · rename_i z1 S1 h1
      refine ⟨hl, ρ, S0, ds, z1, S1, r, hd, h1, fun ρ' H' v e r' hv => ?_⟩
      obtain ⟨e2, r2, v2⟩ := seal_ok r e r' hv hf
      exact q ρ H' v e2 r2 v2
    · cases hf
  exact ⟨fun vs H Q E q => F.len vs H Q E (i _ _ _ _ q), fun A outer s H args us vs Q a b c d e q => F.run A outer s H args us vs Q a b c d e (i _ _ _ _ q)⟩
theorem FnG.sealedR {f : Addr} {fd : FuncData} {ps : List Str} {k n : Nat} {g : CF} (F : FnG P w K mg base k f fd ps (spOf K n g)) : FnG P w K mg base k f fd ps (spOf K n (sealedR g)) := by
  have i : ∀ vs H Q E, spOf K n (Lv.sealedR g) vs H Q E → spOf K n g vs H Q E := fun vs H Q E q => by
    obtain ⟨hl, ρ, S0, ds, z, S', r, hd, hf, q⟩ := q
    unfold Lv.sealedR at hf
    split at hf
    · rename_i z1 S1 h1
      refine ⟨hl, ρ, S0, ds, z1, S1, r, hd, h1, fun ρ' H' v e r' hv => ?_⟩
      obtain ⟨p, e2, r2, v2⟩ := sealR_ok r e r' hv hf
      exact q _ H' v e2 r2 v2
    · cases hf
  exact ⟨fun vs H Q E q => F.len vs H Q E (i _ _ _ _ q), fun A outer s H args us vs Q a b c d e q => F.run A outer s H args us vs Q a b c d e (i _ _ _ _ q)⟩
theorem FnG.mono {f : Addr} {fd : FuncData} {ps : List Str} {k j : Nat} {sp : Sp} (F : FnG P w K mg base j f fd ps sp) (h : j ≤ k) : FnG P w K mg base k f fd ps sp := ⟨F.len, fun A outer s H args us vs Q a => F.run A outer s H args us vs Q (a.mono h)⟩
end
section
variable {X : Cx} {k n : Nat} {f : Addr} {fd : FuncData} {ps ks : List Str} {g : CF} {x : Str} {p pos : Pos} {e : Expr} {es : List Expr} {kws : List Keyword} {fs fk : AF}
theorem run_g {pins : List (Addr × Obj)} {σ : L2.St} {H : Hp} {s : Shared} {Q : VK} {us : List Value} {kw : List (Str × Value)} {vs : List V} {ws : List Value} (F : FnG X.prog X.w X.K X.mg X.base k f fd ps (spOf X.K n g)) (hr : Room k X.A) (hG : X.A.guards = some [])
    (hb : BindsTo s fd ⟨us, kw⟩ (ps.zip ws)) (I : Inv X pins σ H s) (r : Vals vs ws) (h : spOf X.K n g vs H Q E0) : wpAny (model X.prog X.w) X.A (call (.ref f) us kw) (EP X pins σ Q) X.xe s := by
  refine wpAny_call (codeAny_mono (F.run X.A X.stack s H ⟨us, kw⟩ ws vs Q hr hG I.env0 hb r h) fun r s' hq => ?_)
  cases r with
  | error e => exact False.elim hq
  | ok fl =>
    cases fl with
    | ret u => exact I.after hq
    | next => exact False.elim hq
    | brk => exact False.elim hq
    | cont => exact False.elim hq
def Ar (g : CF) (n : Nat) : Prop := ∀ ds S z, g ds S = some z → ds.length = n
theorem ar_fn {np nn : Nat} {body : SF} : Ar (fnF np nn body) np := fun ds S z h => by
  unfold fnF at h
  split at h
  · assumption
  · cases h
theorem ar_sealed (h : Ar g n) : Ar (sealed g) n := fun ds S z q => by
  unfold sealed at q
  split at q
  · rename_i z1 S1 h1; exact h _ _ _ h1
  · cases q
theorem ar_sealedR (h : Ar g n) : Ar (sealedR g) n := fun ds S z q => by
  unfold sealedR at q
  split at q
  · rename_i z1 S1 h1; exact h _ _ _ h1
  · cases q
theorem ok_sp {K : PySem.W.Frag} (hn : Ar g n) : OkCall K (fun vs H Q => spOf K n g vs H Q E0) g := fun ρ H S S' vs ds z Q r hv hg q => ⟨by rw [hv.len]; exact hn _ _ _ hg, ρ, S, ds, z, S', r, hv, hg, q⟩
theorem l_call (F : FnG X.prog X.w X.K X.mg X.base k f fd ps (spOf X.K n g)) (hn : Ar g n) (hr : Room k X.A) (hG : X.A.guards = some []) (hg : Gl X x) (hm : X.mg x = some (.ref f)) (hk : PySem.W.keepIn X.K (.ref f) = true) (hb : Binds X.K fd ps []) (hps : ps.length = n)
    (ha : PA X (e :: es) (tA X.K fs)) (hdb : (x == ("__debug__" : Str)) = false := by decide) (he : starEach (e :: es) X.env = (false, eval e X.env) :: starEach es X.env := by rfl) (hpl : (backTo pos (starEach es X.env)).any (·.1) = false := by rfl) :
    PE X (.Call (.Name x p) (e :: es) [] pos) (tE X.K (eCall g fs)) := by
  refine ⟨fun pins s σ H Q I h => ?_⟩
  refine wpAny_Call_Name_kw (ld_glob I hg hm ?_ hdb)
  refine PySem.W.callWith_K (h₀ := X.base) I.ok.mod.kin hk (thn (ha.run pos pins s σ H _ I (call_imp (ok_sp hn) σ H Q h)) fun us s1 ⟨vs, H1, I1, r, q⟩ => ⟨I1.kIn, ?_⟩) he hpl
  refine run_g (ws := us) F hr hG ?_ I1 r q
  have := hb s1 us I1.kIn (by rw [List.append_nil, ← r.length, q.1, hps])
  rw [List.append_nil] at this
  exact this
def pick {α : Type} (l : List α) : List Nat → List α
  | [] => []
  | i :: r => match l[i]? with
    | some x => x :: pick l r
    | none => pick l r
theorem pick_vals {vs : List V} {us : List Value} (r : Vals vs us) : ∀ perm : List Nat, Vals (pick vs perm) (pick us perm)
  | [] => .nil
  | i :: perm => by
    unfold pick
    cases q : vs[i]? with
    | none =>
      rw [r.none_of q]
      exact pick_vals r perm
    | some x =>
      obtain ⟨u, hu, hr⟩ := r.get q
      rw [hu]
      exact .cons hr (pick_vals r perm)
theorem pick_rds {K : PySem.W.Frag} {ρ : List Addr} {H : Hp} {vs : List V} {ds : List D} (r : RDs K ρ H vs ds) : ∀ perm : List Nat, RDs K ρ H (pick vs perm) (pick ds perm)
  | [] => .nil
  | i :: perm => by
    unfold pick
    cases q : ds[i]? with
    | none =>
      have : vs[i]? = none := by
        rw [List.getElem?_eq_none_iff] at q ⊢
        rw [r.len]
        exact q
      rw [this]
      exact pick_rds r perm
    | some d =>
      obtain ⟨x, hx, hd⟩ := r.get q
      rw [hx]
      exact .cons hd (pick_rds r perm)
def KB (K : PySem.W.Frag) (fd : FuncData) (ps ks : List Str) (np : Nat) (perm : List Nat) : Prop := ∀ (s : Shared) (us ws : List Value), us.length = np → ws.length = ks.length → BindsTo s fd ⟨us, ks.zip ws⟩ (ps.zip (pick (us ++ ws) perm))
def eCallK (g : CF) (np nk : Nat) (perm : List Nat) (fa fk : AF) : EF := fun env S => match fa env S with
  | none => none
  | some (ds, S1) => match fk env S1 with
    | none => none
    | some (es, S2) => if ds.length = np ∧ es.length = nk then g (pick (ds ++ es) perm) S2 else none
theorem lk_nil : PK X [] (tA X.K aNil) := ⟨fun pos pins s σ H Q I h => pk_nil.run pos pins s σ H Q I (by
  obtain ⟨ρ, S, env, ds, S', r, en, hf, q⟩ := h
  cases hf
  exact q ρ H [] (Ext.refl ρ H) r RDs.nil)⟩
theorem lk_cons {fe : EF} {nm : Option Str} {kpos : Pos} (ha : PE X e (tE X.K fe)) (hr : PK X kws (tA X.K fs)) : PK X (⟨nm, e, kpos⟩ :: kws) (tA X.K (aCons fe fs)) := ⟨fun pos pins s σ H Q I h => (pk_cons ha hr).run pos pins s σ H Q I (cons_imp σ H Q h)⟩
theorem callK_imp {np nk : Nat} {perm : List Nat} (hn : Ar g n) (σ : L2.St) (H : Hp) (Q : VK) (h : tE X.K (eCallK g np nk perm fs fk) σ H Q) :
    tA X.K fs σ H fun vs H1 => tA X.K fk σ H1 fun zs H2 => vs.length = np ∧ zs.length = nk ∧ spOf X.K n g (pick (vs ++ zs) perm) H2 Q E0 := by
  obtain ⟨ρ, S, env, d, S', rl, en, hf, q⟩ := h
  unfold eCallK at hf
  split at hf
  · cases hf
  · rename_i ds S1 h1
    split at hf
    · cases hf
    · rename_i es S2 h2
      split at hf
      · rename_i hl
        refine run_a rl en h1 fun ρ1 H1 vs x1 r1 hv1 en1 => run_a r1 en1 h2 fun ρ2 H2 zs x2 r2 hv2 en2 => ?_
        have hv := pick_rds ((hv1.ext r1 x2).append hv2) perm
        exact ⟨hv1.len.trans hl.1, hv2.len.trans hl.2, ok_sp hn ρ2 H2 S2 S' _ _ d Q r2 hv hf fun ρ3 H3 v x3 r3 hv3 => q ρ3 H3 v ((x1.trans x2).trans x3) r3 hv3⟩
      · cases hf
theorem l_callK0 {perm : List Nat} (F : FnG X.prog X.w X.K X.mg X.base k f fd ps (spOf X.K n g)) (hn : Ar g n) (hr : Room k X.A) (hG : X.A.guards = some []) (hg : Gl X x) (hm : X.mg x = some (.ref f)) (hk : PySem.W.keepIn X.K (.ref f) = true) (hb : KB X.K fd ps ks 0 perm)
    (hkw : PK X kws (tA X.K fk)) (hall : (backToKw pos (keywordEach kws X.env)).all (·.1.isSome) = true := by rfl) (hks : (backToKw pos (keywordEach kws X.env)).filterMap (·.1) = ks := by rfl)
    (hdb : (x == ("__debug__" : Str)) = false := by decide)
    (hpl : ((backTo pos (starEach [] X.env)).any (·.1) || (backToKw pos (keywordEach kws X.env)).any (·.1.isNone)) = false := by rfl) :
    PE X (.Call (.Name x p) [] kws pos) (tE X.K (eCallK g 0 ks.length perm aNil fk)) := by
  refine ⟨fun pins s σ H Q I h => ?_⟩
  refine wpAny_Call_Name_kw (ld_glob I hg hm ?_ hdb)
  have h2 : tA X.K fk σ H fun zs H2 => zs.length = ks.length ∧ spOf X.K n g (pick ([] ++ zs) perm) H2 Q E0 := by
    obtain ⟨ρ, S, env, ds, S', r, en, hf, q⟩ := callK_imp hn σ H Q h
    cases hf
    obtain ⟨ρ1, S1, env1, ds1, S1', r1, en1, hf1, q1⟩ := q ρ H [] (Ext.refl ρ H) r RDs.nil
    exact ⟨ρ1, S1, env1, ds1, S1', r1, en1, hf1, fun ρ' H' vs a b c => (q1 ρ' H' vs a b c).2⟩
  refine PySem.W.callWith_KW0 (h₀ := X.base) I.ok.mod.kin hk hall (thn (hkw.run pos pins s σ H _ I h2) fun ws s2 ⟨zs, H2, I2, rz, q1, q3⟩ => ⟨I2.kIn, ?_⟩) hpl
  rw [hks]
  exact run_g (us := []) F hr hG (hb s2 [] ws rfl (by rw [← rz.length]; exact q1)) I2 (pick_vals (vs := [] ++ zs) (us := [] ++ ws) rz perm) q3
end
def Scr (g : CF) (ns : List Int) : Prop := ∀ (d : D) (S : Sto), listOf S d = some (ns.map D.int) → ∃ S', g [d] S = some (.bl true, S')
theorem ints_rd {K : PySem.W.Frag} {ρ : List Addr} {H : Hp} : ∀ ns : List Int, RDs K ρ H (ns.map V.int) (ns.map D.int)
  | [] => .nil
  | n :: ns => .cons (.int n) (ints_rd ns)
theorem sp_law {K : PySem.W.Frag} {g : CF} {H : Hp} {a : Addr} {ns : List Int} (h : Scr g ns) (hS : (∃ o, H a = some (.frz o (.lst (ns.map V.int)))) ∨ KLst K a (ns.map V.int)) : spOf K 1 g [.ref a] H (fun v _ => v = .bl true) E0 := by
  rcases hS with ⟨o, hS⟩ | hS
  · obtain ⟨S', e⟩ := h (.ref 0) [.frz (ns.map D.int)] rfl
    refine ⟨rfl, [a], [.frz (ns.map D.int)], [.ref 0], .bl true, S', ⟨rfl, by simp, fun n b c h1 h2 => ?_⟩, .cons (.ref rfl) .nil, e, fun ρ' H' v _ _ hv => by cases hv; rfl⟩
    cases n with
    | zero =>
      cases h1; cases h2
      exact ⟨_, o, hS, ints_rd ns⟩
    | succ n => simp at h1
  · have q := ints_rd (K := K) (ρ := []) (H := H) ns
    obtain ⟨S', e⟩ := h (.kl (ns.map D.int)) [] rfl
    exact ⟨rfl, [], [], [.kl (ns.map D.int)], .bl true, S', ⟨rfl, by simp, fun n b c h1 h2 => by simp at h1⟩, .cons (.kl hS q.len q.at_) .nil, e, fun ρ' H' v _ _ hv => by cases hv; rfl⟩
end Lv
namespace Lv
open PySem PySem.Spec PyProof.Rows L2
section
variable {P : Program} {w : World} {K : PySem.W.Frag} {mg mb : Str → Option Value} {k : Nat} {fa a : Addr} {fd : FuncData} {x : Str} {sp : Sp} {s₁ : Shared} {vs : List Value} {ns : List Int}
theorem call_g (KX : K.In s₁.heap) (hns : s₁.heap.Ns mainGlobals mg) (hb : s₁.heap.Ns builtinsNs mb) (hbb : ∀ x : Str, x ≠ "__name__" → mb x = bootBuiltins x) (hlim : s₁.heap.NoLimit) (hgen : s₁.gens = #[])
    (hobj : s₁.heap.get? a = some { cls := .type "list", data := .seq vs.toArray }) (hr : Room k callerA)
    (F : ∀ base : Heap, K.In base → base.Ns mainGlobals mg → FnG P w K mg base k fa fd [x] sp) (hbind : ∀ (s : Shared) (u : Value), BindsTo s fd ⟨[u], []⟩ [(x, u)])
    (H : Hp) (only : ∀ b u, H b = some u → b = a ∧ K.lookup b = none ∧ ∃ ob ys, u = .frz ob (.lst ys)) (hok : HOk P w H s₁.heap) (hsp : sp [.ref a] H (fun v _ => v = .bl true) E0) :
    codeAny (model P w) callerA (.call (.ref fa) ⟨[.ref a], []⟩) (fun r s' => r = .ok (.ret (.bool true)) ∧ OldK s₁.heap s'.heap ∧ s'.os = s₁.os ∧ AllBare s'.gens) s₁ := by
  have free : ∀ {b : Addr} {ob : Obj} {es : Array DictEntry} {ep : Nat}, s₁.heap.get? b = some ob → ob.data = .dict es ep → H b = none := by
    intro b ob es ep e1 e2
    cases q : H b with
    | none => rfl
    | some u =>
      obtain ⟨rfl, _⟩ := only b u q
      rw [hobj] at e1
      cases e1
      cases (show Data.seq vs.toArray _ = Data.dict es ep from e2)
  have ns2 : ∀ {b : Addr} {m : Str → Option Value}, s₁.heap.Ns b m → (hidT s₁.heap H).Ns b m := by
    rintro b m ⟨ob, es, ep, e1, e2, e3⟩
    exact ⟨ob, es, ep, hidT_get e1 (free e1 e2), e2, e3⟩
  have kb : K.In (hidT s₁.heap H) := by
    intro b ob e1
    refine hidT_get (KX b ob e1) ?_
    cases q : H b with
    | none => rfl
    | some u =>
      obtain ⟨_, e2, _⟩ := only b u q
      rw [e2] at e1
      cases e1
  have e0 : Env0 P w K mg (hidT s₁.heap H) callerA [] s₁ H := by
    refine ⟨rfl, ⟨kb, ns2 hns, ⟨mb, ns2 hb, hbb⟩, ?_⟩, fun b ob e1 => of_hidT e1, Nat.le_of_eq (hidT_size _ _), trivial, fun b hm => (nomatch (show b ∈ ([] : List Addr) from hm)), hok, AllBare.of_eq hgen⟩
    obtain ⟨mc, e1, e2⟩ := hlim
    exact ⟨mc, ns2 e1, e2⟩
  have run := (F _ kb (ns2 hns)).run callerA [] s₁ H ⟨[.ref a], []⟩ [.ref a] [.ref a] _ hr rfl e0 (hbind s₁ (.ref a)) (.cons rfl .nil) hsp
  refine codeAny_mono run fun res s' hres => ?_
  cases res with
  | error e => exact False.elim hres
  | ok fl =>
    cases fl with
    | ret u =>
      obtain ⟨v, H', hos, hbare, hun, hok', rv, hv⟩ := hres
      obtain rfl : v = .bl true := hv
      obtain rfl : u = Value.bool true := rv
      refine ⟨rfl, OldK.of_keep fun b ob e1 => ?_, hos, hbare⟩
      cases q : H b with
      | none => exact hun.keep b ob e1 q (fun z => (nomatch (show b ∈ ([] : List Addr) from z))) (by simp)
      | some u =>
        obtain ⟨_, _, ob2, ys, rfl⟩ := only b u q
        obtain ⟨e2, _⟩ := hok b _ q
        obtain ⟨e3, _⟩ := hok' b _ (hun.frzs b ob2 _ q)
        rw [e1] at e2
        cases e2
        exact e3
    | next => exact False.elim hres
    | brk => exact False.elim hres
    | cont => exact False.elim hres
end
theorem end_g {l : PySem.W.OpenLaw} {n k : Nat} {q : Program} {loose : List Str} {XP : (Str → Option Value) → Heap → Prop} {YP : World → Heap → Prop} {d : DefRec} {K : Params → PySem.W.Frag} {x : Str} {g : CF}
    (hn : l.most = some n) (hn2 : n ≤ sizeLine) (hdf : d.params.defaults = []) (hr : Room k callerA) (hY : ∀ (w : World) (h : Heap), YP w h → (K w.params).In h)
    (F : ∀ (w : World) (mg : Str → Option Value) (fa : Addr) (h : Heap), (K w.params).In h → h.Ns mainGlobals mg → mg d.name = some (.ref fa) →
      ∃ fd : FuncData, (∀ (s : Shared) (u : Value), BindsTo s fd ⟨[u], []⟩ [(x, u)]) ∧ ∀ base : Heap, (K w.params).In base → base.Ns mainGlobals mg → FnG l.prog w (K w.params) mg base k fa fd [x] (spOf (K w.params) 1 g))
    (hg : ∀ ns : List Int, ns.length ≤ n → Scr g ns) : PySem.W.WalkO q loose XP YP l.row.toRowW d [] (fun f vs => PySem.call f vs) := by
  refine Att.attach_call hn hdf fun w s₀ s₁ mg mb fa o pm cd doc a vs ns G Y ho hd hcd hmg hobj hints hlen hgen => ?_
  have KX := hY w _ Y
  obtain ⟨fd, hb, hF⟩ := F w mg fa _ KX G.T.g hmg
  have rv := vals_ints hints
  cases hk : (K w.params).lookup a with
  | some ob =>
    refine call_g KX G.T.g G.T.b G.T.builtins G.T.nolimit hgen hobj hr hF hb (fun _ => none) (fun b u z => by cases z) (fun b u z => by cases z) (sp_law (hg ns hlen) (.inr fun H => .inr ?_))
    have e1 := KX a ob hk
    rw [hobj] at e1
    cases e1
    have e2 := rv.length
    rw [List.length_map] at e2
    exact ⟨_, vs.toArray, _, hk, rfl, rfl, rfl, by rw [List.size_toArray, ← e2]; exact Nat.le_trans hlen hn2, by simpa using rv⟩
  | none =>
    refine call_g KX G.T.g G.T.b G.T.builtins G.T.nolimit hgen hobj hr hF hb (fun b => if b = a then some (.frz { cls := .type "list", data := .seq vs.toArray } (.lst (ns.map V.int))) else none) (fun b u z => ?_) (fun b u z => ?_) (sp_law (hg ns hlen) (.inl ⟨_, if_pos rfl⟩))
    · by_cases hba : b = a
      · subst hba
        have z2 := (if_pos rfl).symm.trans z
        cases z2
        exact ⟨rfl, hk, _, _, rfl⟩
      · have z2 := (if_neg hba).symm.trans z
        cases z2
    · by_cases hba : b = a
      · subst hba
        have z2 := (if_pos rfl).symm.trans z
        cases z2
        exact ⟨hobj, by rw [List.length_map]; exact Nat.le_trans hlen hn2, vs, _, rv, hobj⟩
      · have z2 := (if_neg hba).symm.trans z
        cases z2
end Lv
namespace Lv
open PySem PySem.Spec PyProof.Rows L2
def gSub : OF := gArith fun i j => some (i - j)
def eNotT (f : EF) : EF := fun env S => match f env S with
  | some (d, S1) => match truD S1 d with
    | some b => some (.bl !b, S1)
    | none => none
  | none => none
section
variable {X : Cx} {a b c : Expr} {fa fb fc : EF} {gt : TF} {fs : AF} {pos : Pos}
theorem l_notT (h : PE X a (tE X.K fa)) : PE X (.UnaryOp .Not a pos) (tE X.K (eNotT fa)) := (pe_notT h).imp fun σ H Q h => by
  obtain ⟨ρ, S, env, d, S', r, en, hf, q⟩ := h
  unfold eNotT at hf
  split at hf
  · rename_i d1 S1 h1
    split at hf
    · rename_i b' hb
      cases hf
      refine run_e r en h1 fun ρ1 H1 v1 e1 r1 hv1 en1 => ?_
      exact ⟨_, tru_rd r1 hv1 hb, q ρ1 H1 _ e1 r1 (.bl _)⟩
    · cases hf
  · cases hf
end
theorem _root_.L2.Fun.kbs {K : PySem.W.Frag} {x qual : Str} {st : Stmt} {f : Addr} {fd : FuncData} {ps ks : List Str} {np : Nat} {perm : List Nat} (F : Fun K x qual st f fd)
    (h : ∀ (kV doc pm : Value) (an : Option Addr) (cdv ct : Value) (us ws : List Value), us.length = np → ws.length = ks.length → bindArgs (PySem.W.fnOf x qual (defArgs st) (defBody st) (defScope st) .none kV doc pm an cdv ct) ⟨us, ks.zip ws⟩ = pure (ps.zip (pick (us ++ ws) perm))) : KB K fd ps ks np perm := by
  obtain ⟨oc, od, kV, doc, pm, an, cdv, ct, osl, rfl, lk, hcd⟩ := F.ex
  exact fun s us ws h1 h2 => .of_eq (h kV doc pm an cdv ct us ws h1 h2)
end Lv
namespace Lv
open PySem PySem.Spec PyProof.Rows L2
section
variable {P : Program} {w : World} {A : Around} {E : Value → Shared → Prop} {s : Shared}
end
end Lv
namespace Lv
open PySem PySem.Spec PyProof.Rows L2
section
variable {X : Cx} {a b e : Expr} {fa fb : EF} {pos p p2 p3 q : Pos}
end
end Lv
namespace Lv
open PySem PySem.Spec PyProof.Rows L2
section
variable {K : PySem.W.Frag} {X : Cx}
def idxD (y : D) : List D → Option Nat
  | [] => none
  | d :: ds => if eqD d y = true then some 0 else match idxD y ds with
    | some j => some (j + 1)
    | none => none
def mIndex : MF := fun x ds S => match ds with
  | [y] => match listOf S x with
    | some es => if flatD y && es.all flatD then (match idxD y es with
      | some j => some (.int (j : Nat), S)
      | none => none) else none
    | none => none
  | _ => none
end
end Lv
namespace Lv
open PySem PySem.Spec PyProof.Rows L2
def CTup (K : PySem.W.Frag) (mg : Str → Option Value) (x : Str) (zs : List Str) : Prop :=
  ∃ (a : Addr) (o : Obj) (its : Array Value) (n : Nat), mg x = some (.ref a) ∧ K.lookup a = some o ∧ o.cls = .type "tuple" ∧ o.data = .seq its n ∧ its.size ≤ sizeLine ∧ Vals (zs.map V.str) its.toList
theorem strs_rds {K : PySem.W.Frag} {ρ : List Addr} {H : Hp} : ∀ zs : List Str, RDs K ρ H (zs.map V.str) (zs.map D.str)
  | [] => .nil
  | z :: zs => .cons (.str z) (strs_rds zs)
def CDic (K : PySem.W.Frag) (w : World) (mg : Str → Option Value) (x : Str) (kvs : List (Str × Str)) : Prop :=
  ∃ (d : Addr) (es : Array DictEntry) (n : Nat), mg x = some (.ref d) ∧ KDict K w d es n ∧ ∀ z, ∃ r, PySem.W.nsIn K d z = some r ∧ (match kvs.lookup z with
    | some y => ∃ t, r = some (.str y t)
    | none => r = none)
section
variable {X : Cx} {x : Str} {zs : List Str} {kvs : List (Str × Str)} {e : Expr} {fe : EF} {pos px apos cpos : Pos}
theorem l_ctup (c : CTup X.K X.mg x zs) (hg : Gl X x) (hd : (x == ("__debug__" : Str)) = false := by decide) : PE X (.Name x pos) (tE X.K (eC (.tup (zs.map D.str)))) := by
  obtain ⟨a, o, its, n, hm, hl, hc, hdt, hz, hv⟩ := c
  exact l_c (pe_glob (v := .ref a) hg hm rfl hd) fun ρ H => .tup (.inr ⟨o, its, n, hl, hc, hdt, hz, hv⟩) (strs_rds (K := X.K) (ρ := ρ) (H := H) zs).len (strs_rds (K := X.K) (ρ := ρ) (H := H) zs).at_
def eKGet (kvs : List (Str × Str)) (f : EF) : EF := fun env S => match f env S with
  | some (.str z, S1) => some (match kvs.lookup z with
    | some y => .str y
    | none => .non, S1)
  | _ => none
theorem kd_get {pins : List (Addr × Obj)} {σ : L2.St} {H : Hp} {s : Shared} {d : Addr} {es : Array DictEntry} {n : Nat} {z : Str} {u : Value} {r : Option Value} {A : Around} {E : Value → Shared → Prop} {Q : Value → Shared → Prop}
    (D : KDict X.K X.w d es n) (I : Inv X pins σ H s) (ry : RelV (.str z) u) (he : PySem.W.nsIn X.K d z = some r) (h : ∀ s', Inv X pins σ H s' → Q (r.getD .none) s') : wpAny (model X.prog X.w) A (call (.builtin "dict.get") [.ref d, u]) Q E s := by
  obtain ⟨t, rfl⟩ := ry
  refine call_meetsIn PySem.F.slot_dict_get (kd_type D I) PySem.F.entry_dict_get (PySem.F.args_dict_get_2 _ _) (meets_dict_get (strKind X.prog X.w) d (PySem.strKind_is X.prog X.w z t) D.low) ⟨_, PySem.W.mapOf_K (prog := X.prog) I.kIn D.at_ D.lit, ?_⟩
  rw [PySem.W.find_K D.at_ he]
  exact h _ (I.tok _)
theorem l_kget (c : CDic X.K X.w X.mg x kvs) (hg : Gl X x) (he : PE X e (tE X.K fe)) (m : M1 X (.Name x px) "get" apos e cpos) (hd : (x == ("__debug__" : Str)) = false := by decide) :
    PE X (.Call (.Attribute (.Name x px) "get" apos) [e] [] cpos) (tE X.K (eKGet kvs fe)) := by
  obtain ⟨d, es, n, hm, D, hz⟩ := c
  refine ⟨fun pins s σ H Q I h => ?_⟩
  obtain ⟨ρ, S, env, dd, S', r, en, hf, q⟩ := h
  unfold eKGet at hf
  split at hf
  · rename_i z S1 h1
    cases hf
    have hr := (pe_glob (X := X) (v := .ref d) (pos := px) hg hm rfl hd).run pins s σ H (fun v H1 => v = .ref d ∧ H1 = H) I ⟨rfl, rfl⟩
    refine wpAny_Call_method m.base m.few m.line PySem.F.plainAttrs_dict PySem.F.slot_dict_get PySem.F.type_dict_get (thn hr fun u s1 ⟨v, H1, I1, rx, ev, eh⟩ => ?_)
    subst ev; subst eh
    obtain rfl : u = Value.ref d := rx
    refine ⟨kd_type D I1, fun b hb => ?_, ?_⟩
    · cases hb
      exact ⟨_, I1.kIn _ _ D.at_, rfl⟩
    rw [m.trees]
    have ha := he.run pins s1 σ H1 (fun v H2 => ∃ ρ', Ext ρ H1 ρ' H2 ∧ Rel X.K ρ' H2 S' ∧ v = .str z) I1 (run_e r en h1 fun ρ1 H2 v1 e1 r1 hv1 en1 => by
      cases hv1
      exact ⟨ρ1, e1, r1, rfl⟩)
    refine Calls.callWith_builtin rfl (Calls.evalArgs_plain (Calls.spliced_cons (thn ha fun iv s2 ⟨y, H2, I2, ry, ρ1, e1, r1, ey⟩ => Calls.spliced_nil ?_)))
    subst ey
    obtain ⟨rr, hn, hc⟩ := hz z
    refine kd_get D I2 ry hn fun s3 I3 => ?_
    cases hk : kvs.lookup z with
    | some y =>
      rw [hk] at hc q
      obtain ⟨t, rfl⟩ := hc
      exact ⟨.str y, H2, I3, ⟨t, rfl⟩, q ρ1 H2 _ e1 r1 (.str y)⟩
    | none =>
      rw [hk] at hc q
      subst hc
      exact ⟨.non, H2, I3, rfl, q ρ1 H2 _ e1 r1 .non⟩
  · cases hf
end
end Lv
namespace Lv
open PySem PySem.Spec PyProof.Rows L2
def LeS (a b : Str) : Prop := a.cps.toList ≤ b.cps.toList
theorem leS_trans {a b c : Str} (h : LeS a b) (h' : LeS b c) : LeS a c := List.le_trans h h'
theorem leS_anti {a b : Str} (h : LeS a b) (h' : LeS b a) : a = b := by
  have e := List.le_antisymm h h'
  obtain ⟨⟨l⟩⟩ := a
  obtain ⟨⟨m⟩⟩ := b
  cases e
  rfl
theorem leS_of_not {a b : Str} (h : ltCps b.cps.toList a.cps.toList = false) : LeS a b := by
  rw [ltCps_eq] at h
  exact List.not_lt.mp (of_decide_eq_false h)
theorem leS_of_lt {a b : Str} (h : ltCps a.cps.toList b.cps.toList = true) : LeS a b := by
  rw [ltCps_eq] at h
  exact List.le_of_lt (of_decide_eq_true h)
def insS (x : Str) : List Str → List Str
  | [] => [x]
  | y :: l => if ltCps x.cps.toList y.cps.toList = true then x :: y :: l else y :: insS x l
def sortS (l : List Str) : List Str := l.foldr insS []
theorem insS_perm (x : Str) : ∀ l : List Str, (insS x l).Perm (x :: l)
  | [] => .refl _
  | y :: l => by
    unfold insS
    split
    · exact .refl _
    · exact ((insS_perm x l).cons y).trans (.swap x y l)
theorem sortS_perm : ∀ l : List Str, (sortS l).Perm l
  | [] => .refl _
  | x :: l => (insS_perm x (sortS l)).trans ((sortS_perm l).cons x)
theorem insS_rise {x : Str} : ∀ {l : List Str}, l.Pairwise LeS → (insS x l).Pairwise LeS
  | [], _ => by simp [insS]
  | y :: l, h => by
    have h' := List.pairwise_cons.mp h
    unfold insS
    split
    · rename_i hx
      have hxy := leS_of_lt hx
      refine List.pairwise_cons.mpr ⟨fun k hk => ?_, h⟩
      rcases List.mem_cons.mp hk with rfl | hk
      · exact hxy
      · exact leS_trans hxy (h'.1 k hk)
    · rename_i hx
      have hyx : LeS y x := leS_of_not (by simpa using hx)
      refine List.pairwise_cons.mpr ⟨fun k hk => ?_, insS_rise h'.2⟩
      rcases List.mem_cons.mp ((insS_perm x l).mem_iff.mp hk) with rfl | hk
      · exact hyx
      · exact h'.1 k hk
theorem sortS_rise : ∀ {l : List Str}, (sortS l).Pairwise LeS
  | [] => .nil
  | x :: l => insS_rise (sortS_rise (l := l))
theorem rising_pw : ∀ {p : Str} {l : List Str}, risingS p l = true → (p :: l).Pairwise LeS
  | p, [], _ => by simp
  | p, x :: r, h => by
    have h' : (!ltCps x.cps.toList p.cps.toList && risingS x r) = true := h
    rw [Bool.and_eq_true] at h'
    have h1 : LeS p x := leS_of_not (by simpa using h'.1)
    have h2 := rising_pw h'.2
    refine List.pairwise_cons.mpr ⟨fun k hk => ?_, h2⟩
    rcases List.mem_cons.mp hk with rfl | hk
    · exact h1
    · exact leS_trans h1 ((List.pairwise_cons.mp h2).1 k hk)
theorem sorted_pw : ∀ {l : List Str}, sortedS l = true → l.Pairwise LeS
  | [], _ => .nil
  | x :: r, h => rising_pw h
theorem sortS_uniq {ys xs : List Str} (h : ys.Perm xs) (hs : sortedS ys = true) : ys = sortS xs :=
  (h.trans (sortS_perm xs).symm).eq_of_pairwise (fun a b _ _ h1 h2 => leS_anti h1 h2) (sorted_pw hs) sortS_rise
def strsD : List D → Option (List Str) := mapO fun d => match d with
  | .str x => some x
  | _ => none
section
variable {K : PySem.W.Frag} {ρ : List Addr} {H : Hp} {S : Sto}
theorem strsD_rd : ∀ {xs : List V} {ds : List D} {ns : List Str}, RDs K ρ H xs ds → strsD ds = some ns → xs = ns.map V.str
  | [], [], ns, _, h => by cases h; rfl
  | [], _ :: _, ns, q, _ => by have := q.len; simp at this
  | _ :: _, [], ns, q, _ => by have := q.len; simp at this
  | x :: xs, d :: ds, ns, q, h => by
    have qs : RDs K ρ H xs ds := ⟨by have := q.len; simpa using this, fun i x' d' a b => q.at_ (i + 1) x' d' a b⟩
    have q0 := q.at_ 0 x d rfl rfl
    unfold strsD mapO at h
    cases d with
    | str z =>
      dsimp only at h
      cases hq : strsD ds with
      | none => unfold strsD at hq; rw [hq] at h; cases h
      | some ms =>
        have hq' := hq
        unfold strsD at hq
        rw [hq] at h
        cases h
        cases q0
        rw [strsD_rd qs hq']
        rfl
    | _ => cases h
def cSortS (rm : Bool) : CF := fun ds S => match ds with
  | [d] => match listOf S d with
    | some es => match strsD es with
      | some ns => if ns.length < 64 then some (mkV rm ((sortS ns).map D.str) S) else none
      | none => none
    | none => none
  | _ => none
theorem ok_sortS {rm : Bool} : OkCall K (rSortedS K) (cSortS rm) := by
  intro ρ H S S' vs ds z Q r hv hg q
  unfold cSortS at hg
  split at hg
  · split at hg
    · rename_i es he
      split at hg
      · rename_i ns hns
        split at hg
        · rename_i hl
          obtain ⟨v, rfl, hw⟩ := rds1 hv
          obtain ⟨p, xs, rfl, hs, hr⟩ := list_rd r hw he
          rw [strsD_rd hr hns] at hs
          refine ⟨p, ns, rfl, hs, hl, fun ys l h1 h2 h3 => ?_⟩
          rw [sortS_uniq h1 h2]
          exact mkV_ok r (strs_rds _) (Option.some.inj hg) h3 q
        · cases hg
      · cases hg
    · cases hg
  · cases hg
end
def textOf : Value → Option Str
  | .str x _ => some x
  | _ => none
def TupIs (o : Obj) (zs : List Str) : Prop := o.cls = .type "tuple" ∧ ∃ (its : Array Value) (n : Nat), o.data = .seq its n ∧ its.size ≤ sizeLine ∧ its.toList.map textOf = zs.map some
theorem texts_vals : ∀ {us : List Value} {zs : List Str}, us.map textOf = zs.map some → Vals (zs.map V.str) us
  | [], [], _ => .nil
  | [], _ :: _, h => by cases h
  | _ :: _, [], h => by cases h
  | u :: us, z :: zs, h => by
    have h1 : textOf u = some z := (List.cons.inj h).1
    have h2 : us.map textOf = zs.map some := (List.cons.inj h).2
    refine .cons ?_ (texts_vals h2)
    cases u with
    | str x t => cases h1; exact ⟨t, rfl⟩
    | _ => cases h1
theorem ctup_mk {K : PySem.W.Frag} {h : Heap} {mg : Str → Option Value} {x : Str} {zs : List Str} {a : Addr} {o : Obj} (X : K.In h) (G : h.Ns mainGlobals mg) (hm : PySem.W.nsIn K mainGlobals x = some (some (.ref a))) (hl : K.lookup a = some o) (ht : TupIs o zs) : CTup K mg x zs := by
  obtain ⟨hc, its, n, hd, hz, hv⟩ := ht
  exact ⟨a, o, its, n, PySem.W.mg_of X G hm, hl, hc, hd, hz, texts_vals hv⟩
def EntsIs (l : List DictEntry) (kvs : List (Str × Str)) : Prop := l.map (fun e => (textOf e.key, textOf e.val)) = kvs.map fun p => (some p.1, some p.2)
theorem ents_find {z : Str} : ∀ {l : List DictEntry} {kvs : List (Str × Str)}, EntsIs l kvs → (match kvs.lookup z with
    | some y => ∃ e t, l.find? (fun e => e.key.isStr z) = some e ∧ e.val = .str y t
    | none => l.find? (fun e => e.key.isStr z) = none ∧ l.any (fun e => e.refKey) = false)
  | [], [], _ => ⟨rfl, rfl⟩
  | [], _ :: _, h => by cases h
  | _ :: _, [], h => by cases h
  | e :: l, (k, v) :: kvs, h => by
    have h1 := (List.cons.inj h).1
    have h2 : EntsIs l kvs := (List.cons.inj h).2
    have h3 : textOf e.key = some k := (Prod.mk.inj h1).1
    have h4 : textOf e.val = some v := (Prod.mk.inj h1).2
    obtain ⟨eh, ek, ev⟩ := e
    have ih := ents_find (z := z) h2
    cases ek with
    | str x t =>
      cases h3
      cases ev with
      | str y t' =>
        cases h4
        by_cases hz : z = k
        · subst hz
          have e1 : (((z, v) :: kvs : List (Str × Str)).lookup z) = some v := by simp [List.lookup]
          have e2 : ({ hash := eh, key := .str z t, val := .str v t' } : DictEntry).key.isStr z = true := by simp [Value.isStr]
          rw [e1]
          exact ⟨_, t', List.find?_cons_of_pos (p := fun e : DictEntry => e.key.isStr z) e2, rfl⟩
        · have e1 : (((k, v) :: kvs : List (Str × Str)).lookup z) = kvs.lookup z := by
            have : (z == k) = false := by simpa using hz
            simp [List.lookup, this]
          have e2 : ¬ (({ hash := eh, key := .str k t, val := .str v t' } : DictEntry).key.isStr z = true) := by
            simp [Value.isStr]
            exact fun q => hz q.symm
          have e3 := List.find?_cons_of_neg (l := l) (p := fun e : DictEntry => e.key.isStr z) e2
          rw [e1, e3]
          cases hq : kvs.lookup z with
          | some y => rw [hq] at ih; exact ih
          | none =>
            rw [hq] at ih
            refine ⟨ih.1, ?_⟩
            rw [List.any_cons, ih.2]
            rfl
      | _ => cases h4
    | _ => cases h3
theorem cdic_mk {K : PySem.W.Frag} {w : World} {h : Heap} {mg : Str → Option Value} {x : Str} {kvs : List (Str × Str)} {a : Addr} {es : Array DictEntry} {n : Nat} (X : K.In h) (G : h.Ns mainGlobals mg) (hm : PySem.W.nsIn K mainGlobals x = some (some (.ref a))) (hl : K.lookup a = some ⟨.type "dict", none, .dict es n, #[]⟩) (lo : (a == sysModules) = false) (lit : PySem.W.KeysLit w.params es.toList) (he : EntsIs es.toList kvs) : CDic K w mg x kvs := by
  refine ⟨a, es, n, PySem.W.mg_of X G hm, ⟨hl, lit, lo⟩, fun z => ?_⟩
  have q := ents_find (z := z) he
  unfold PySem.W.nsIn
  rw [hl]
  dsimp only
  cases hk : kvs.lookup z with
  | some y =>
    rw [hk] at q
    obtain ⟨e, t, h1, h2⟩ := q
    rw [h1]
    exact ⟨_, rfl, t, by rw [h2]⟩
  | none =>
    rw [hk] at q
    obtain ⟨h1, h2⟩ := q
    rw [h1]
    dsimp only
    rw [h2]
    exact ⟨none, rfl, rfl⟩
theorem l_dead {X : Cx} {e : Expr} {f : EF} (h : ∀ env S, f env S = none) : PE X e (tE X.K f) := ⟨fun _ _ _ _ _ _ q => by
  obtain ⟨ρ, S, env, d, S', r, en, hf, _⟩ := q
  rw [h] at hf
  cases hf⟩
theorem dead_call (f : AF) (env : Env) (S : Sto) : eCall (fun _ _ => none) f env S = none := by
  unfold eCall
  split <;> rfl
end Lv
namespace Lv
open PySem PySem.Spec PyProof.Rows L2
def gCmp2 (f : Int → Int → Bool) (g : List Nat → List Nat → Bool) : OF := fun x y S => match x, y with
  | .int i, .int j => some (.bl (f i j), S)
  | .str i, .str j => some (.bl (g i.cps.toList j.cps.toList), S)
  | _, _ => none
def rCmp2 (f : Int → Int → Bool) (g : List Nat → List Nat → Bool) : R2 := fun x y H Q => rI0 (fun i j => .bl (f i j)) x y H Q ∨ ∃ i j, x = .str i ∧ y = .str j ∧ Q (.bl (g i.cps.toList j.cps.toList)) H
theorem ok_cmp2 {K : PySem.W.Frag} {f : Int → Int → Bool} {g : List Nat → List Nat → Bool} : OkOp K (rCmp2 f g) (gCmp2 f g) := by
  intro ρ H S S' x y d e z Q r hx hy hg q
  unfold gCmp2 at hg
  split at hg
  · rename_i i j
    cases hg
    exact .inl (ok_cmpI (K := K) (f := f) ρ H S S x y _ _ _ Q r hx hy rfl q)
  · rename_i i j
    cases hx; cases hy; cases hg
    exact .inr ⟨i, j, rfl, rfl, q ρ H _ (Ext.refl ρ H) r (.bl _)⟩
  · cases hg
def fLt : List Nat → List Nat → Bool := fun a b => decide (a < b)
def fLe : List Nat → List Nat → Bool := fun a b => !decide (b < a)
def fGt : List Nat → List Nat → Bool := fun a b => decide (b < a)
section
variable {X : Cx}
theorem op_lt2 : OpR X (compareOp .Lt) (rCmp2 (fun i j => decide (i < j)) fLt) := OpR.or op_lt op_lt_str
theorem op_le2 : OpR X (compareOp .LtE) (rCmp2 (fun i j => decide (i ≤ j)) fLe) := OpR.or op_le op_le_str
theorem op_gt2 : OpR X (compareOp .Gt) (rCmp2 (fun i j => decide (j < i)) fGt) := OpR.or op_gt op_gt_str
end
def signsD (x : Str) : List D := x.cps.toList.map fun c => D.str ⟨#[c]⟩
def iStrF (f : EF) : IFn := fun env S => match f env S with
  | some (.str x, S1) => some (.fix (signsD x), S1)
  | _ => none
def iAny (f : EF) : IFn := fun env S => match f env S with
  | some (.str x, S1) => some (.fix (signsD x), S1)
  | some (.ref n, S1) => some (.cell n, S1)
  | some (.tup ds, S1) => some (.fix ds, S1)
  | some (.vl ds, S1) => some (.fix ds, S1)
  | _ => none
section
variable {X : Cx} {K : PySem.W.Frag} {tg e : Expr} {fe : EF}
theorem src_str {ρ : List Addr} {H : Hp} {x : Str} : SrcOk K ρ H (Its x) (.fix (signsD x)) := fun ρ2 H2 S2 i w r => by
  simp only [nextD, signsD, List.getElem?_map]
  cases h : x.cps.toList[i]? with
  | none =>
    show x.cps.size ≤ i
    have := List.getElem?_eq_none_iff.mp h
    simpa using this
  | some c =>
    have hc : x.cps[i]? = some c := by rw [← Array.getElem?_toList]; exact h
    refine ⟨?_, fun y H3 hy => ?_⟩
    · show i < x.cps.size
      exact (Array.getElem?_eq_some_iff.mp hc).1
    · obtain ⟨rfl, c', h1, rfl⟩ := hy
      rw [hc] at h1
      cases h1
      exact ⟨Ext.refl _ _, r, .str _⟩
theorem li_str (he : PE X e (tE X.K fe)) : PI X tg e (tI X.K (iStrF fe)) := (pi_str he).imp fun σ H R q0 => by
  obtain ⟨ρ, S, env, src, S', r, en, hf, q⟩ := q0
  unfold iStrF at hf
  split at hf
  · rename_i x S1 h1
    cases hf
    refine run_e r en h1 fun ρ1 H1 v1 e1 r1 hv1 en1 => ?_
    cases hv1
    exact ⟨x, rfl, q ρ1 H1 _ e1 r1 src_str⟩
  · cases hf
theorem li_any (he : PE X e (tE X.K fe)) : PI X tg e (tI X.K (iAny fe)) := (PI.or (li_seq he) (li_str he)).imp fun σ H R q0 => by
  obtain ⟨ρ, S, env, src, S', r, en, hf, q⟩ := q0
  unfold iAny at hf
  split at hf
  · rename_i x S1 h1
    cases hf
    refine .inr ⟨ρ, S, env, _, S', r, en, ?_, q⟩
    unfold iStrF
    rw [h1]
  · rename_i n S1 h1
    cases hf
    refine .inl ⟨ρ, S, env, _, S', r, en, ?_, q⟩
    unfold iSeq
    rw [h1]
  · rename_i ds S1 h1
    cases hf
    refine .inl ⟨ρ, S, env, _, S', r, en, ?_, q⟩
    unfold iSeq
    rw [h1]
  · rename_i ds S1 h1
    cases hf
    refine .inl ⟨ρ, S, env, _, S', r, en, ?_, q⟩
    unfold iSeq
    rw [h1]
  · cases hf
end
end Lv
namespace Lv
open PySem PySem.Spec PyProof.Rows L2
def ItzS (K : PySem.W.Frag) (x : Str) (b : Addr) (n : Nat) : It :=
  ⟨fun i H => ∃ (ys : List V) (c : Nat) (y : V), SqT K H b ys ∧ ys.length = n ∧ x.cps[i]? = some c ∧ ys[i]? = some y,
    fun i H v H' => ∃ T c y, v = .ref T ∧ H T = none ∧ H' = upd H T (.tup [.str ⟨#[c]⟩, y]) ∧ x.cps[i]? = some c ∧ ∀ ys, SqT K H b ys → ys[i]? = some y,
    fun i H => ∃ ys : List V, SqT K H b ys ∧ ys.length = n ∧ (x.cps.size ≤ i ∨ n ≤ i)⟩
theorem sep_of {z TI TO i1 i2 b : Addr} (D : ZipApart z TI TO i1 i2 b b) : ZipSep2 z TI TO i1 i2 [i1] [i2, b] where
  TIz := D.TIz
  TOz := D.TOz
  TITO := D.TITO
  TIi1 := D.TIi1
  mem1 := by simp
  zf1 := by simpa using Ne.symm D.i1z
  Tf1 := by simpa using D.TOi1
  TIi2 := D.TIi2
  mem2 := by simp
  zf2 := by
    simp only [List.mem_cons, List.not_mem_nil, or_false, not_or]
    exact ⟨Ne.symm D.i2z, Ne.symm D.l1z⟩
  Tf2 := by
    simp only [List.mem_cons, List.not_mem_nil, or_false, not_or]
    exact ⟨D.TOi2, Ne.symm D.l1TO⟩
  sep1_2 := by
    simp only [List.mem_cons, List.not_mem_nil, or_false, not_or]
    exact ⟨D.i12, Ne.symm D.l1i1⟩
  sep2_1 := by simpa using Ne.symm D.i12
theorem turn_zipS {P : Program} {w : World} {K : PySem.W.Frag} {elts : List Expr} {kk : Nat} {tpos : Pos} {x : Str} {t : Tok} {n : Nat} {b z TI TO i1 i2 : Addr} (D : ZipApart z TI TO i1 i2 b b) :
    Turn P w K (.Tuple elts kk tpos) (ItzS K x b n) [z, TI, TO, i1, i2] z (fun i h => (IsZip h z TI TO .none ∧ IsTupOf2 h TI (.ref i1) (.ref i2) ∧ (∃ p q, IsTupOf2 h TO p q) ∧ h.IsStrIter i1 (strIterType x) x t i ∧ h.IsTupleIter i2 b i) ∧ i ≤ x.cps.size ∧ i ≤ n) where
  mem := by simp
  obj := fun i h st c hc => by
    obtain ⟨⟨hz, hTI, ⟨p, q, hTO⟩, ⟨o1, e1, _, d1⟩, ⟨o2, e2, _, d2⟩⟩, _⟩ := st
    have e' : c = z ∨ c = TI ∨ c = TO ∨ c = i1 ∨ c = i2 := by simpa using hc
    rcases e' with rfl | rfl | rfl | rfl | rfl
    · exact ⟨_, hz, fun v q => nomatch q⟩
    · exact ⟨_, hTI, fun v q => nomatch q⟩
    · exact ⟨_, hTO, fun v q => nomatch q⟩
    · exact ⟨o1, e1, fun v q => by rw [d1] at q; cases q⟩
    · exact ⟨o2, e2, fun v q => by rw [d2] at q; cases q⟩
  keep := fun i h h' st k => by
    obtain ⟨⟨hz, hTI, ⟨p, q, hTO⟩, ⟨o1, e1, r1⟩, h2⟩, hi⟩ := st
    exact ⟨⟨k z (by simp) _ hz, k TI (by simp) _ hTI, ⟨p, q, k TO (by simp) _ hTO⟩, ⟨o1, k i1 (by simp) _ e1, r1⟩, h2.at fun o q => k i2 (by simp) o q⟩, hi⟩
  item := by
    intro X hP hw hK hc i pins s σ H E I hf st hg
    subst hP hw hK
    obtain ⟨⟨hz, hTI, ⟨p0, q0, hTO⟩, h1, h2⟩, hi1, hi2⟩ := st
    obtain ⟨ys, c, y, hqy, hn, hcx, hy⟩ := hg
    obtain ⟨its, rv, p2, _⟩ := I.tuple hqy
    obtain ⟨u2, hu2, ru2⟩ := rv.get hy
    have hzl : z < s.heap.objs.size := Heap.lt_size hz
    have l1 : i < x.cps.size := (Array.getElem?_eq_some_iff.mp hcx).1
    have l2 : i < its.toArray.size := by
      have := (List.getElem?_eq_some_iff.mp hu2).1
      simpa using this
    have hin : X.A.in1.handled = none := by simp [I.ok.hd hc]
    refine wpAny_pyNext_zipD2_item (sep_of D) (Draws.text hin i1 x t) (Draws.tuple hin i2 b D.l2i2 its.toArray) hz hTI hTO h1 ⟨h2, show s.heap.IsTuple b its.toArray from p2⟩ l1 l2 fun x1 x2 h' tk q1 q2 z' TO' st1 st2 hT hsz hk => ?_
    obtain ⟨c', u1, hc', rfl⟩ := q1
    have ec : c' = c := Option.some.inj (hc'.symm.trans hcx)
    subst ec
    have e2 : x2 = u2 := by
      have : its[i]? = some x2 := by simpa using q2
      exact Option.some.inj (this.symm.trans hu2)
    subst e2
    refine ⟨_, rfl, wpAny_letOwnedTupleGo_zip (s := { s with heap := h', toks := tk }) z' fun h'' z'' sb => ?_⟩
    have hT2 : h''.get? s.heap.objs.size = some { cls := .type "tuple", data := .seq #[.str ⟨#[c']⟩ u1, x2] } := (sb.2 _ (Nat.ne_of_gt hzl)).trans hT
    have new : ObjOk X.prog X.w (upd H s.heap.objs.size (.tup [.str ⟨#[c']⟩, y])) h'' s.heap.objs.size (.tup [.str ⟨#[c']⟩, y]) :=
      ⟨by show 2 ≤ sizeLine; decide, [.str ⟨#[c']⟩ u1, x2], .cons ⟨u1, rfl⟩ (.cons ru2 .nil), ⟨_, hT2, rfl, _, rfl⟩⟩
    have I1 : Inv X pins σ (upd H s.heap.objs.size (.tup [.str ⟨#[c']⟩, y])) { s with heap := h'', toks := tk } :=
      I.turnedNew (t' := tk) (ch := [z, TI, TO, i1, i2]) (fun a o hb q => (sb.2 a (fun q' => hb (by simp [q']))).trans (hk a o (fun q' => hb (by simp [q'])) (fun q' => hb (by simp [q'])) (fun q' => hb (by simp [q'])) (fun q' => hb (by simp [q'])) q)) hf (Nat.le_refl _) new
    refine ⟨.ref s.heap.objs.size, _, I1, rfl, ⟨_, c', y, rfl, I.hok.fresh (Nat.le_refl _), rfl, hcx, fun l hl => by rw [I.tuple_inj hl hqy]; exact hy⟩, ⟨⟨z'', ?_, ⟨_, _, (sb.2 _ D.TOz).trans TO'⟩, ?_, ?_⟩, by omega, ?_⟩, fun a ham => ?_⟩
    · exact (sb.2 _ D.TIz).trans (hk _ _ D.TIz D.TITO D.TIi1 D.TIi2 hTI)
    · obtain ⟨o, e, r⟩ := st1
      exact ⟨o, (sb.2 _ D.i1z).trans e, r⟩
    · exact st2.1.at fun o q => (sb.2 _ D.i2z).trans q
    · have := (List.getElem?_eq_some_iff.mp hy).1
      omega
    · have e' : a = z ∨ a = TI ∨ a = TO ∨ a = i1 ∨ a = i2 := by simpa using ham
      have hlt : a < s.heap.objs.size := by
        rcases e' with rfl | rfl | rfl | rfl | rfl
        · exact hzl
        · exact Heap.lt_size hTI
        · exact Heap.lt_size hTO
        · obtain ⟨_, e1, _⟩ := h1; exact Heap.lt_size e1
        · obtain ⟨_, e2, _⟩ := h2; exact Heap.lt_size e2
      rw [upd_ne (Nat.ne_of_lt hlt)]
      exact (hf a ham).1
  done := by
    intro X hP hw hK hc i pins s σ H E I hf st hg
    subst hP hw hK
    obtain ⟨⟨hz, hTI, ⟨p0, q0, hTO⟩, h1, h2⟩, hi1, hi2⟩ := st
    obtain ⟨ys, hqy, hn, hend⟩ := hg
    obtain ⟨its, rv, p2, _⟩ := I.tuple hqy
    have ln : its.toArray.size = n := by rw [List.size_toArray, ← rv.length]; exact hn
    have hin : X.A.in1.handled = none := by simp [I.ok.hd hc]
    exact wpAny_pyNext_zipD2_end (sep_of D) (Draws.text hin i1 x t) (Draws.tuple hin i2 b D.l2i2 its.toArray) hz hTI hTO h1 ⟨h2, show s.heap.IsTuple b its.toArray from p2⟩ hi1 (by omega) (by omega) fun h' tk hk => ⟨rfl, I.turnedL (t' := tk) (ch := [z, TI, TO, i1, i2]) (fun a o hb q =>
      hk a o (fun q' => hb (by simp [q'])) (fun q' => hb (by simp [q'])) (fun q' => hb (by simp [q'])) (fun q' => hb (by simp [q'])) q) hf⟩
  self := fun A i s Q E st h => wpAny_pyIter_zip st.1.1 h
end Lv
namespace Lv
open PySem PySem.Spec PyProof.Rows L2
def iZipSt (K : PySem.W.Frag) (ta : TA) : TI := fun σ H R => ta σ H fun vs H1 => ∃ x b ys, vs = [.str x, .ref b] ∧ SqT K H1 b ys ∧ R (ItzS K x b ys.length) H1
theorem pi_zipSt {X : Cx} {e e2 : Expr} {ta : TA} {p pos tpos : Pos} {elts : List Expr} {kk : Nat} (hg : Gl X "zip") (hm : X.mg "zip" = none) (ha : PA X [e, e2] ta) (hs : starEach [e, e2] X.env = (false, eval e X.env) :: starEach [e2] X.env := by rfl) (hpl : (backTo pos (starEach [e2] X.env)).any (·.1) = false := by rfl) :
    PI X (.Tuple elts kk tpos) (.Call (.Name "zip" p) [e, e2] [] pos) (iZipSt X.K ta) := by
  refine ⟨fun pins s σ H R I h => ?_⟩
  refine Call_ (ld_blt I hg hm PyProof.Rows.boot_zip (PyProof.Rows.callWith_type1 (thn (ha.run pos pins s σ H _ I h) fun us s1 ⟨vs, H1, I1, r1, q1⟩ => ?_) hs hpl))
  obtain ⟨x, b, ys, ex, hq, q1⟩ := q1
  subst ex
  cases r1 with
  | cons r rr =>
    cases rr with
    | cons r' rr =>
      cases rr
      obtain ⟨t, rfl⟩ := r
      cases r'
      obtain ⟨its, rv, p2, _⟩ := I1.tuple hq
      have fresh5 : ∀ c, c ∈ [s1.heap.objs.size + 4, s1.heap.objs.size + 2, s1.heap.objs.size + 3, s1.heap.objs.size, s1.heap.objs.size + 1] → FpOk X pins H1 c := fun c hcm => by
        have e' : c = s1.heap.objs.size + 4 ∨ c = s1.heap.objs.size + 2 ∨ c = s1.heap.objs.size + 3 ∨ c = s1.heap.objs.size ∨ c = s1.heap.objs.size + 1 := by simpa using hcm
        have hle : s1.heap.objs.size ≤ c := by
          rcases e' with z | z | z | z | z
          · rw [z]; exact Nat.le_add_right _ _
          · rw [z]; exact Nat.le_add_right _ _
          · rw [z]; exact Nat.le_add_right _ _
          · rw [z]; exact Nat.le_refl _
          · rw [z]; exact Nat.le_add_right _ _
        exact I1.fpOk hle (I1.hok.fresh hle)
      obtain ⟨o2, ho2, _⟩ := id p2
      have ap := PySem.W.ktu_apart s1.heap.objs.size b b (Heap.lt_size ho2) (Heap.lt_size ho2)
      refine zip_begins2 (begins_text x t) (begins_tuple b its.toArray) trivial (show s1.heap.IsTuple b its.toArray from p2) fun h' hz hTI hTO g1 g2 hsz hk => wpAny_pyIter_zip hz ?_
      have I2 : Inv X pins σ H1 { s1 with heap := h' } := I1.kept (t' := s1.toks) hk
      have T := turn_zipS (P := X.prog) (w := X.w) (K := X.K) (elts := elts) (kk := kk) (tpos := tpos) (x := x) (t := t) (n := ys.length) ap
      have h1 : h'.IsStrIter s1.heap.objs.size (strIterType x) x t 0 := ⟨_, g1, rfl, rfl⟩
      have h2 : h'.IsTupleIter (s1.heap.objs.size + 1) b 0 := ⟨_, g2, rfl, rfl⟩
      exact ⟨_, _, _, _, H1, rfl, I2, T, ⟨⟨hz, hTI, ⟨_, _, hTO⟩, h1, h2⟩, Nat.zero_le _, Nat.zero_le _⟩, fresh5, q1⟩
end Lv
namespace Lv
open PySem PySem.Spec PyProof.Rows L2
theorem zipD_at {xs ys : List D} {i : Nat} : (zipD xs ys)[i]? = (match xs[i]?, ys[i]? with
    | some x, some y => some (.tup [x, y])
    | _, _ => none) := by
  unfold zipD
  rw [List.getElem?_zipWith]
  cases xs[i]? <;> cases ys[i]? <;> rfl
def iZipA2 (f : AF) : IFn := fun env S => match f env S with
  | some ([.str x, .tup ds], S1) => some (.fix (zipD (signsD x) ds), S1)
  | _ => iZipF f env S
section
variable {X : Cx} {K : PySem.W.Frag} {tg e a b : Expr} {fs : AF} {p pos : Pos}
theorem signs_at {x : Str} {i : Nat} : (signsD x)[i]? = (x.cps[i]?).map fun c => D.str ⟨#[c]⟩ := by
  unfold signsD
  rw [List.getElem?_map, Array.getElem?_toList]
theorem src_zipS {ρ : List Addr} {H : Hp} {S : Sto} {x : Str} {q : Addr} {ds : List D} {n : Nat} (r0 : Rel K ρ H S) (hn : ds.length = n) (hr : RD K ρ H (.ref q) (.tup ds)) : SrcOk K ρ H (ItzS K x q n) (.fix (zipD (signsD x) ds)) := fun ρ2 H2 S2 i w r => by
  have h2 := hr.ext r0 w
  have h3 : ∃ xs, SqT K H2 q xs ∧ RDs K ρ2 H2 xs ds := by
    cases h2 with
    | tup hs hl ha => exact ⟨_, hs, ⟨hl, ha⟩⟩
  obtain ⟨xs, hs, hrd⟩ := h3
  have hx := hrd.len
  show (match some ((zipD (signsD x) ds)[i]?) with
    | none => True
    | some none => (ItzS K x q n).stop i H2
    | some (some d) => (ItzS K x q n).go i H2 ∧ ∀ y H3, (ItzS K x q n).yld i H2 y H3 → Ext ρ2 H2 ρ2 H3 ∧ Rel K ρ2 H3 S2 ∧ RD K ρ2 H3 y d)
  rw [zipD_at, signs_at]
  cases h1 : x.cps[i]? with
  | none => exact ⟨xs, hs, by omega, .inl (Array.getElem?_eq_none_iff.mp h1)⟩
  | some c =>
    cases h4 : ds[i]? with
    | none => exact ⟨xs, hs, by omega, .inr (by have := List.getElem?_eq_none_iff.mp h4; omega)⟩
    | some d =>
      obtain ⟨v, hv, hd⟩ := hrd.get h4
      refine ⟨⟨xs, c, v, hs, by omega, h1, hv⟩, fun y H3 hy => ?_⟩
      obtain ⟨T, c', z, rfl, hT, rfl, k1, k2⟩ := hy
      have e1 : c' = c := Option.some.inj (k1.symm.trans h1)
      have e2 : z = v := Option.some.inj ((k2 xs hs).symm.trans hv)
      rw [e1, e2]
      exact pair_new r hT (.str _) hd
theorem li_zipA {elts : List Expr} {kk : Nat} {tpos : Pos} (hg : Gl X "zip") (hm : X.mg "zip" = none) (ha : PA X [a, b] (tA X.K fs)) (hs : starEach [a, b] X.env = (false, eval a X.env) :: starEach [b] X.env := by rfl) (hpl : (backTo pos (starEach [b] X.env)).any (·.1) = false := by rfl) :
    PI X (.Tuple elts kk tpos) (.Call (.Name "zip" p) [a, b] [] pos) (tI X.K (iZipA2 fs)) := (PI.or (li_zip (fs := fs) hg hm ha hs hpl) (pi_zipSt hg hm ha hs hpl)).imp fun σ H R q0 => by
  obtain ⟨ρ, S, env, src, S', r, en, hf, q⟩ := q0
  unfold iZipA2 at hf
  split at hf
  · rename_i x ds S1 h1
    cases hf
    refine .inr (run_a r en h1 fun ρ1 H1 vs x1 r1 hv1 en1 => ?_)
    obtain ⟨v, u, rfl, hw, hu⟩ := rds2 hv1
    cases hw
    have hu' := hu
    cases hu with
    | tup hs2 hl ha2 => exact ⟨x, _, _, rfl, hs2, q ρ1 H1 _ x1 r1 (src_zipS r1 hl.symm hu')⟩
  · exact .inl ⟨ρ, S, env, _, S', r, en, hf, q⟩
end
end Lv
namespace Lv
open PySem PySem.Spec PyProof.Rows L2
section
variable {K : PySem.W.Frag}
end
end Lv
namespace Lv
open PySem PySem.Spec PyProof.Rows L2
def gInD (neg : Bool) : OF := fun x y S => match toP 60 S x, toP 60 S y with
  | some d, some (.list ds) => if SeqAt.shaped d && SeqAt.shaped (.list ds) then some (.bl (if neg then !(ds.any fun z => PyData.eqv z d) else ds.any fun z => PyData.eqv z d), S) else none
  | _, _ => none
def gIn2 (neg : Bool) : OF := fun x y S => match gIn neg x y S with
  | some z => some z
  | none => gInD neg x y S
section
variable {X : Cx} {K : PySem.W.Frag}
theorem op_in2 (hu : X.A.units + 65 < cLine) : OpR X (compareOp .In) (fun x y H Q => rIn X.K false x y H Q ∨ rInD X.K x y H Q) := OpR.or op_in_seq (op_inD hu)
theorem op_notIn2 (hu : X.A.units + 65 < cLine) : OpR X (compareOp .NotIn) (fun x y H Q => rIn X.K true x y H Q ∨ rNotInD X.K x y H Q) := OpR.or op_notIn_seq (op_notInD hu)
theorem _root_.L2.Room.units1 {k : Nat} {A : Around} (r : Room k A) : A.units + 65 < cLine := by have := r.un; omega
theorem ok_inD : OkOp K (rInD K) (gInD false) := by
  intro ρ H S S' x y d e z Q r hx hy hg q
  unfold gInD at hg
  split at hg
  · rename_i p ps h1 h2
    split at hg
    · rename_i hs
      cases hg
      rw [Bool.and_eq_true] at hs
      exact ⟨p, ps, dp_of r _ x d p hx h1, dp_of r _ y e _ hy h2, hs.1, hs.2, q ρ H _ (Ext.refl ρ H) r (.bl _)⟩
    · cases hg
  · cases hg
theorem ok_notInD : OkOp K (rNotInD K) (gInD true) := by
  intro ρ H S S' x y d e z Q r hx hy hg q
  unfold gInD at hg
  split at hg
  · rename_i p ps h1 h2
    split at hg
    · rename_i hs
      cases hg
      rw [Bool.and_eq_true] at hs
      exact ⟨p, ps, dp_of r _ x d p hx h1, dp_of r _ y e _ hy h2, hs.1, hs.2, q ρ H _ (Ext.refl ρ H) r (.bl _)⟩
    · cases hg
  · cases hg
theorem ok_in2 : OkOp K (fun x y H Q => rIn K false x y H Q ∨ rInD K x y H Q) (gIn2 false) := ok_or (ok_in false) ok_inD
theorem ok_notIn2 : OkOp K (fun x y H Q => rIn K true x y H Q ∨ rNotInD K x y H Q) (gIn2 true) := ok_or (ok_in true) ok_notInD
end
end Lv
namespace Lv
open PySem PySem.Spec PyProof.Rows L2
section
variable {env : Env} {S S1 S2 : Sto} {d x y : D} {ds : List D}
@[simp] theorem r_eVar {i : Nat} : eVar i env S = (match env[i]? with
  | some (some d) => some (d, S)
  | _ => none) := rfl
@[simp] theorem r_eC : eC d env S = some (d, S) := rfl
@[simp] theorem r_eBin {g : OF} {f h : EF} : eBin g f h env S = (match f env S with
  | none => none
  | some (x, S1) => match h env S1 with
    | none => none
    | some (y, S2) => g x y S2) := rfl
@[simp] theorem r_truB {f : EF} : truB f env S = (match f env S with
  | some (.bl k, S') => some (k, S')
  | _ => none) := rfl
@[simp] theorem r_truF {f : EF} : truF f env S = (match f env S with
  | some (d, S1) => match truD S1 d with
    | some b => some (b, S1)
    | none => none
  | none => none) := rfl
@[simp] theorem r_truD_bl {b : Bool} : truD S (.bl b) = some b := rfl
@[simp] theorem r_truD_int {i : Int} : truD S (.int i) = some (i != 0) := rfl
@[simp] theorem r_truD_non : truD S .non = some false := rfl
@[simp] theorem r_tAnd {f g : TF} : tAndF f g env S = (match f env S with
  | some (true, S1) => g env S1
  | some (false, S1) => some (false, S1)
  | none => none) := rfl
@[simp] theorem r_tOr {f g : TF} : tOrF f g env S = (match f env S with
  | some (true, S1) => some (true, S1)
  | some (false, S1) => g env S1
  | none => none) := rfl
@[simp] theorem r_tNot {f : TF} : tNotF f env S = (match f env S with
  | some (b, S1) => some (!b, S1)
  | none => none) := rfl
@[simp] theorem r_eAnd {f g : EF} : eAnd f g env S = (match f env S with
  | some (.bl true, S1) => g env S1
  | some (.bl false, S1) => some (.bl false, S1)
  | _ => none) := rfl
@[simp] theorem r_eOr {f g : EF} : eOr f g env S = (match f env S with
  | some (.bl true, S1) => some (.bl true, S1)
  | some (.bl false, S1) => g env S1
  | _ => none) := rfl
@[simp] theorem r_eNotT {f : EF} : eNotT f env S = (match f env S with
  | some (d, S1) => match truD S1 d with
    | some b => some (.bl !b, S1)
    | none => none
  | none => none) := rfl
@[simp] theorem r_eIf {t : TF} {f g : EF} : eIf t f g env S = (match t env S with
  | some (true, S1) => f env S1
  | some (false, S1) => g env S1
  | none => none) := rfl
@[simp] theorem r_eNeg {f : EF} : eNeg f env S = (match f env S with
  | some (.int i, S1) => some (.int (-i), S1)
  | _ => none) := rfl
@[simp] theorem r_eBits {f : EF} : eBits f env S = (match f env S with
  | some (.int i, S1) => some (.int (Builtin.Int.intBits i : Nat), S1)
  | _ => none) := rfl
@[simp] theorem r_eChain {g g' : OF} {f h k : EF} : eChain g g' f h k env S = (match f env S with
  | none => none
  | some (x, S1) => match h env S1 with
    | none => none
    | some (y, S2) => match g x y S2 with
      | some (.bl true, S3) => (match k env S3 with
        | none => none
        | some (z, S4) => g' y z S4)
      | some (.bl false, S3) => some (.bl false, S3)
      | _ => none) := rfl
@[simp] theorem r_aNil : aNil env S = some ([], S) := rfl
@[simp] theorem r_aCons {f : EF} {g : AF} : aCons f g env S = (match f env S with
  | none => none
  | some (d, S1) => match g env S1 with
    | none => none
    | some (ds, S2) => some (d :: ds, S2)) := rfl
@[simp] theorem r_eCall {g : CF} {f : AF} : eCall g f env S = (match f env S with
  | none => none
  | some (ds, S1) => g ds S1) := rfl
@[simp] theorem r_eCallK {g : CF} {np nk : Nat} {perm : List Nat} {f h : AF} : eCallK g np nk perm f h env S = (match f env S with
  | none => none
  | some (ds, S1) => match h env S1 with
    | none => none
    | some (es, S2) => if ds.length = np ∧ es.length = nk then g (pick (ds ++ es) perm) S2 else none) := rfl
@[simp] theorem r_sNil : sNil env S = some (.nx env, S) := rfl
@[simp] theorem r_sDrop {f : EF} : sDrop f env S = (match f env S with
  | some (_, S1) => some (.nx env, S1)
  | none => none) := rfl
@[simp] theorem r_sRet {f : EF} : sRet f env S = (match f env S with
  | some (d, S1) => some (.rt d, S1)
  | none => none) := rfl
@[simp] theorem r_sSet {i : Nat} {f : EF} : sSet i f env S = (match f env S with
  | some (d, S1) => some (.nx (env.set i (some d)), S1)
  | none => none) := rfl
@[simp] theorem r_sAsg {t : Tg} {f : EF} : sAsg t f env S = (match f env S with
  | some (d, S1) => match setTg t d env with
    | some e1 => some (.nx e1, S1)
    | none => none
  | none => none) := rfl
@[simp] theorem r_sPar {l : List Nat} {f : AF} : sPar l f env S = (match f env S with
  | some (ds, S1) => if ds.length = l.length then some (.nx (setsE l ds env), S1) else none
  | none => none) := rfl
@[simp] theorem r_sIf {t : TF} {f g : SF} : sIf t f g env S = (match t env S with
  | some (true, S1) => f env S1
  | some (false, S1) => g env S1
  | none => none) := rfl
@[simp] theorem r_sCons {f g : SF} : sCons f g env S = (match f env S with
  | some (.nx e1, S1) => g e1 S1
  | r => r) := rfl
@[simp] theorem r_sSub {fo fi fe : EF} : sSub fo fi fe env S = (match fe env S with
  | none => none
  | some (d, S1) => match fo env S1 with
    | some (.ref k, S2) => (match fi env S2 with
      | some (.int i, S3) => (match S3[k]? with
        | some (.lst es) => (match ixN es.length i with
          | some j => some (.nx env, S3.set k (.lst (es.set j d)))
          | none => none)
        | _ => none)
      | _ => none)
    | _ => none) := rfl
@[simp] theorem r_nm {i : Nat} : setTg (.nm i) d env = some (env.set i (some d)) := rfl
@[simp] theorem r_tp {l : List Nat} : setTg (.tp l) (.tup ds) env = (if ds.length = l.length then some (setsE l ds env) else none) := rfl
@[simp] theorem r_sets0 : setsE [] ds env = env := by cases ds <;> rfl
@[simp] theorem r_sets {i : Nat} {l : List Nat} : setsE (i :: l) (d :: ds) env = setsE l ds (env.set i (some d)) := rfl
@[simp] theorem r_arith {f : Int → Int → Option Int} {i j : Int} : gArith f (.int i) (.int j) S = (match f i j with
  | some k => some (.int k, S)
  | none => none) := rfl
@[simp] theorem r_add {rm : Bool} {i j : Int} : gAdd rm (.int i) (.int j) S = some (.int (i + j), S) := rfl
@[simp] theorem r_sub {i j : Int} : gSub (.int i) (.int j) S = some (.int (i - j), S) := rfl
@[simp] theorem r_cmpI {f : Int → Int → Bool} {i j : Int} : gCmpI f (.int i) (.int j) S = some (.bl (f i j), S) := rfl
@[simp] theorem r_isN {n : Bool} : gIsN n x .non S = some (.bl (if n then !isNon x else isNon x), S) := rfl
@[simp] theorem r_non0 : isNon .non = true := rfl
@[simp] theorem r_non1 {i : Int} : isNon (.int i) = false := rfl
@[simp] theorem r_non2 : isNon (.tup ds) = false := rfl
@[simp] theorem r_non3 {n : Nat} : isNon (.ref n) = false := rfl
@[simp] theorem r_cInt {i : Int} : cInt [.int i] S = some (.int i, S) := rfl
@[simp] theorem r_cMin {i j : Int} : cMin [.int i, .int j] S = some (.int (if j < i then j else i), S) := rfl
@[simp] theorem r_cMax {i j : Int} : cMax [.int i, .int j] S = some (.int (if j > i then j else i), S) := rfl
@[simp] theorem r_items_tup : itemsOf S (.tup ds) = some ds := rfl
@[simp] theorem r_len_tup : cLen [.tup ds] S = some (.int ds.length, S) := rfl
@[simp] theorem r_eqv_int {i j : Int} {neg : Bool} : gEqv neg (.int i) (.int j) S = some (.bl (if neg then !(i == j) else (i == j)), S) := rfl
@[simp] theorem r_ix_tup {i : Int} : gIx (.tup ds) (.int i) S = (match atI ds i with
  | some e => some (e, S)
  | none => none) := rfl
@[simp] theorem r_mkV : mkV false ds S = (.vl ds, S) := rfl
@[simp] theorem r_mkR : mkV true ds S = (.ref S.length, S ++ [.lst ds]) := rfl
@[simp] theorem r_fnF {np nn : Nat} {body : SF} : fnF np nn body ds S = (if ds.length = np then (match body (startE nn ds) S with
  | some (.rt d, S1) => some (d, S1)
  | some (.nx _, S1) => some (.non, S1)
  | _ => none) else none) := rfl
@[simp] theorem r_start {nn : Nat} : startE nn ds = ds.map some ++ List.replicate (nn - ds.length) none := rfl
@[simp] theorem r_tpl {l : List Nat} : setTg (.tp l) (.vl ds) env = (if ds.length = l.length then some (setsE l ds env) else none) := rfl
theorem lim_pos {n : Nat} (h : n ≤ 1000) : n ≤ lim := Nat.le_trans h (by decide)
@[simp] theorem t_tup0 : cTup [] S = some (.tup [], S) := rfl
@[simp] theorem t_tup1 {a : D} : cTup [a] S = some (.tup [a], S) := rfl
@[simp] theorem t_tup2 {a b : D} : cTup [a, b] S = some (.tup [a, b], S) := rfl
@[simp] theorem t_tup3 {a b c : D} : cTup [a, b, c] S = some (.tup [a, b, c], S) := rfl
@[simp] theorem t_tup4 {a b c d : D} : cTup [a, b, c, d] S = some (.tup [a, b, c, d], S) := rfl
@[simp] theorem t_lst0 {rm : Bool} : cLst rm [] S = some (mkV rm [] S) := rfl
@[simp] theorem t_lst1 {rm : Bool} {a : D} : cLst rm [a] S = some (mkV rm [a] S) := rfl
@[simp] theorem t_lst2 {rm : Bool} {a b : D} : cLst rm [a, b] S = some (mkV rm [a, b] S) := rfl
@[simp] theorem t_lst3 {rm : Bool} {a b c : D} : cLst rm [a, b, c] S = some (mkV rm [a, b, c] S) := rfl
@[simp] theorem t_lst4 {rm : Bool} {a b c d : D} : cLst rm [a, b, c, d] S = some (mkV rm [a, b, c, d] S) := rfl
@[simp] theorem t_lst5 {rm : Bool} {a b c d e : D} : cLst rm [a, b, c, d, e] S = some (mkV rm [a, b, c, d, e] S) := rfl
@[simp] theorem t_lst6 {rm : Bool} {a b c d e f : D} : cLst rm [a, b, c, d, e, f] S = some (mkV rm [a, b, c, d, e, f] S) := rfl
@[simp] theorem t_lst7 {rm : Bool} {a b c d e f g : D} : cLst rm [a, b, c, d, e, f, g] S = some (mkV rm [a, b, c, d, e, f, g] S) := rfl
@[simp] theorem t_lst8 {rm : Bool} {a b c d e f g h : D} : cLst rm [a, b, c, d, e, f, g, h] S = some (mkV rm [a, b, c, d, e, f, g, h] S) := rfl
@[simp] theorem t_lst9 {rm : Bool} {a b c d e f g h i : D} : cLst rm [a, b, c, d, e, f, g, h, i] S = some (mkV rm [a, b, c, d, e, f, g, h, i] S) := rfl
@[simp] theorem t_lst10 {rm : Bool} {a b c d e f g h i j : D} : cLst rm [a, b, c, d, e, f, g, h, i, j] S = some (mkV rm [a, b, c, d, e, f, g, h, i, j] S) := rfl
@[simp] theorem r_items_vl : itemsOf S (.vl ds) = some ds := rfl
@[simp] theorem r_list_vl : listOf S (.vl ds) = some ds := rfl
@[simp] theorem r_live_vl : liveOf S (.vl ds) = some ds := rfl
@[simp] theorem r_sq_vl : sqOf (.vl ds) = some (.fix ds) := rfl
@[simp] theorem r_sq_ref {n : Nat} : sqOf (.ref n) = some (.cell n) := rfl
@[simp] theorem r_non4 : isNon (.vl ds) = false := rfl
@[simp] theorem r_non5 {b : Bool} : isNon (.bl b) = false := rfl
@[simp] theorem r_non6 {x : Str} : isNon (.str x) = false := rfl
@[simp] theorem r_truD_vl : truD S (.vl ds) = some (!ds.isEmpty) := rfl
@[simp] theorem r_truD_tup : truD S (.tup ds) = some (!ds.isEmpty) := rfl
@[simp] theorem r_len_vl : cLen [.vl ds] S = some (.int ds.length, S) := rfl
theorem r_len_ref {k : Nat} {es : List D} (h : S[k]? = some (.lst es)) : cLen [.ref k] S = some (.int es.length, S) := by
  simp only [cLen, itemsOf, h, Cell.items]
@[simp] theorem r_ix_vl {i : Int} : gIx (.vl ds) (.int i) S = (match atI ds i with
  | some e => some (e, S)
  | none => none) := rfl
theorem r_ix_ref {k : Nat} {i : Int} {c : Cell} (h : S[k]? = some c) : gIx (.ref k) (.int i) S = (match atI c.items i with
  | some e => some (e, S)
  | none => none) := by
  simp only [gIx, itemsOf, h]
  all_goals (cases atI c.items i <;> rfl)
@[simp] theorem r_addl {rm : Bool} {es : List D} : gAdd rm (.vl ds) (.vl es) S = (if ds.length + es.length ≤ lim then some (mkV rm (ds ++ es) S) else none) := rfl
@[simp] theorem r_addt {rm : Bool} {es : List D} : gAdd rm (.tup ds) (.tup es) S = (if ds.length + es.length ≤ lim then some (.tup (ds ++ es), S) else none) := rfl
@[simp] theorem r_adds {rm : Bool} {a b : Str} : gAdd rm (.str a) (.str b) S = (if a.length + b.length ≤ lim then some (.str (a ++ b), S) else none) := rfl
@[simp] theorem r_lof_vl {rm : Bool} : cListOf rm [.vl ds] S = some (mkV rm ds S) := rfl
@[simp] theorem r_lof_tup {rm : Bool} : cListOf rm [.tup ds] S = some (mkV rm ds S) := rfl
@[simp] theorem r_tof_vl : cTupleOf [.vl ds] S = some (.tup ds, S) := rfl
@[simp] theorem r_tof_tup : cTupleOf [.tup ds] S = some (.tup ds, S) := rfl
@[simp] theorem r_eqv_str {a b : Str} {neg : Bool} : gEqv neg (.str a) (.str b) S = some (.bl (if neg then !decide (a = b) else decide (a = b)), S) := rfl
@[simp] theorem r_cmp2i {f : Int → Int → Bool} {g : List Nat → List Nat → Bool} {i j : Int} : gCmp2 f g (.int i) (.int j) S = some (.bl (f i j), S) := rfl
@[simp] theorem r_cmp2t {f : Int → Int → Bool} {g : List Nat → List Nat → Bool} {i j : Str} : gCmp2 f g (.str i) (.str j) S = some (.bl (g i.cps.toList j.cps.toList), S) := rfl
@[simp] theorem r_eMethL {g : MF} {fo : EF} {fa : AF} : eMethL g fo fa env S = (match fo env S with
  | none => none
  | some (x, S1) => if isRef S1 x then (match fa env S1 with
    | none => none
    | some (ds, S2) => g x ds S2) else none) := rfl
@[simp] theorem r_isRef_vl : isRef S (.vl ds) = true := rfl
@[simp] theorem r_isRef {n : Nat} : isRef S (.ref n) = decide (n < S.length) := rfl
@[simp] theorem r_mIndex_vl {y : D} : mIndex (.vl ds) [y] S = (match listOf S (.vl ds) with
  | some ds => if flatD y && ds.all flatD then (match idxD y ds with
    | some j => some (.int (j : Nat), S)
    | none => none) else none
  | none => none) := by
  unfold mIndex
  rfl
@[simp] theorem r_eSl {rm : Bool} {f : EF} {l h : OPF} : eSl rm f l h env S = (match f env S with
  | none => none
  | some (x, S1) => match l env S1 with
    | none => none
    | some (lo, S2) => match h env S2 with
      | none => none
      | some (hi, S3) => gSl rm x lo hi S3) := rfl
@[simp] theorem r_oNone : oNone env S = some (none, S) := rfl
@[simp] theorem r_oSome {f : EF} : oSome f env S = (match f env S with
  | some (.int i, S1) => some (some i, S1)
  | _ => none) := rfl
@[simp] theorem r_sl_vl {rm : Bool} {lo hi : Option Int} : gSl rm (.vl ds) lo hi S = some (mkV rm (cutD ds lo hi) S) := rfl
@[simp] theorem r_sl_tup {rm : Bool} {lo hi : Option Int} : gSl rm (.tup ds) lo hi S = some (.tup (cutD ds lo hi), S) := rfl
@[simp] theorem r_iAny {f : EF} : iAny f env S = (match f env S with
  | some (.str x, S1) => some (.fix (signsD x), S1)
  | some (.ref n, S1) => some (.cell n, S1)
  | some (.tup ds, S1) => some (.fix ds, S1)
  | some (.vl ds, S1) => some (.fix ds, S1)
  | _ => none) := rfl
@[simp] theorem r_sDropE {f : EF} : sDrop f env S = (match f env S with
  | some (_, S1) => some (.nx env, S1)
  | none => none) := rfl
@[simp] theorem isi_int {i : Int} : cIsi [.int i, .ty "int"] S = some (.bl true, S) := rfl
@[simp] theorem isi_intb {i : Int} : cIsi [.int i, .ty "bool"] S = some (.bl false, S) := rfl
@[simp] theorem isi_tup : cIsi [.tup ds, .ty "tuple"] S = some (.bl true, S) := rfl
@[simp] theorem isi_str {x : Str} : cIsi [.str x, .ty "str"] S = some (.bl true, S) := rfl
@[simp] theorem isi_vl : cIsi [.vl ds, .ty "list"] S = some (.bl true, S) := rfl
@[simp] theorem isi_ints {i : Int} : cIsi [.int i, .ty "str"] S = some (.bl false, S) := rfl
@[simp] theorem isi_tups : cIsi [.tup ds, .ty "str"] S = some (.bl false, S) := rfl
@[simp] theorem nr_int {i : Int} : noRef (.int i) = true := by first | rw [noRef] | rw [noRefs]
@[simp] theorem nr_bl {b : Bool} : noRef (.bl b) = true := by first | rw [noRef] | rw [noRefs]
@[simp] theorem nr_non : noRef .non = true := by first | rw [noRef] | rw [noRefs]
@[simp] theorem nr_str {x : Str} : noRef (.str x) = true := by first | rw [noRef] | rw [noRefs]
@[simp] theorem nr_tup : noRef (.tup ds) = noRefs ds := by first | rw [noRef] | rw [noRefs]
@[simp] theorem nr_vl : noRef (.vl ds) = noRefs ds := by first | rw [noRef] | rw [noRefs]
@[simp] theorem nrs_nil : noRefs [] = true := by first | rw [noRef] | rw [noRefs]
@[simp] theorem nrs_cons {d : D} : noRefs (d :: ds) = (noRef d && noRefs ds) := by first | rw [noRef] | rw [noRefs]
theorem nrs_map {α : Type} {f : α → D} {xs : List α} (h : ∀ x ∈ xs, noRef (f x) = true) : noRefs (xs.map f) = true := noRefs_of fun d hd => by
  obtain ⟨x, hx, rfl⟩ := List.mem_map.mp hd
  exact h x hx
theorem oldok_app {T : Sto} : OldOk S (S ++ T) := ⟨by simp, fun i hi => .inl (List.getElem?_append_left hi)⟩
theorem fz_nr {n k : Nat} {z : D} (h : noRef z = true) : fz n S k z = some z := by
  cases k <;> (unfold fz; rw [if_pos h])
theorem mapO_nr {n k : Nat} : ∀ {ds : List D}, noRefs ds = true → mapO (fz n S k) ds = some ds
  | [], _ => rfl
  | d :: ds, h => by
    rw [nrs_cons, Bool.and_eq_true] at h
    unfold mapO
    rw [fz_nr h.1]
    dsimp only
    rw [mapO_nr h.2]
theorem shut_app {T : Sto} {z : D} (h : noRef z = true) : shut S z (S ++ T) = some (z, S) := by
  unfold shut
  rw [if_pos oldok_app, fz_nr h]
  dsimp only
  rw [List.take_left']
  rfl
theorem shut_same {z : D} (h : noRef z = true) : shut S z S = some (z, S) := by
  have := shut_app (S := S) (T := []) h
  rwa [List.append_nil] at this
theorem shut_ref {T : Sto} {es : List D} (h : noRefs es = true) : shut S (.ref S.length) (S ++ .lst es :: T) = some (.vl es, S) := by
  unfold shut
  rw [if_pos oldok_app]
  have e : fz S.length (S ++ .lst es :: T) 20 (.ref S.length) = some (.vl es) := by
    unfold fz
    rw [if_neg (by simp [noRef])]
    dsimp only
    rw [if_neg (Nat.lt_irrefl _), List.getElem?_append_right (Nat.le_refl _), Nat.sub_self]
    dsimp only [List.getElem?_cons_zero]
    rw [mapO_nr h]
  rw [e]
  dsimp only
  rw [List.take_left']
  rfl
theorem oldok_set {T : Sto} {g : Nat} {es : List D} (h : noRefs es = true) : OldOk S (S.set g (.lst es) ++ T) := ⟨by simp, fun i hi => by
  rw [List.getElem?_append_left (by simpa using hi)]
  by_cases e : g = i
  · subst e
    exact .inr ⟨es, by rw [List.getElem?_set_self hi], h⟩
  · exact .inl (by rw [List.getElem?_set_ne e])⟩
theorem take_set {T : Sto} {g : Nat} {c : Cell} : (S.set g c ++ T).take S.length = S.set g c := by
  rw [List.take_append_of_le_length (by simp)]
  rw [List.take_of_length_le (by simp)]
theorem shut_set {T : Sto} {g : Nat} {es : List D} {z : D} (h : noRefs es = true) (hz : noRef z = true) : shut S z (S.set g (.lst es) ++ T) = some (z, S.set g (.lst es)) := by
  unfold shut
  rw [if_pos (oldok_set h), fz_nr hz]
  dsimp only
  rw [take_set]
theorem shut_set0 {g : Nat} {es : List D} {z : D} (h : noRefs es = true) (hz : noRef z = true) : shut S z (S.set g (.lst es)) = some (z, S.set g (.lst es)) := by
  have := shut_set (S := S) (T := []) (g := g) h hz
  rwa [List.append_nil] at this
theorem shut_setr {T : Sto} {g : Nat} {es xs : List D} (h : noRefs es = true) (hz : noRefs xs = true) : shut S (.ref S.length) (S.set g (.lst es) ++ .lst xs :: T) = some (.vl xs, S.set g (.lst es)) := by
  unfold shut
  rw [if_pos (oldok_set h)]
  have e : fz S.length (S.set g (.lst es) ++ .lst xs :: T) 20 (.ref S.length) = some (.vl xs) := by
    unfold fz
    rw [if_neg (by simp [noRef])]
    dsimp only
    rw [if_neg (Nat.lt_irrefl _), List.getElem?_append_right (by simp)]
    simp only [List.length_set, Nat.sub_self, List.getElem?_cons_zero]
    rw [mapO_nr hz]
  rw [e]
  dsimp only
  rw [take_set]
@[simp] theorem r_sealed {g : CF} : sealed g ds S = (match g ds S with
  | some (z, S') => shut S z S'
  | none => none) := rfl
theorem r_sealedR {g : CF} : sealedR g ds S = (match g ds S with
  | some (z, S') => shutR S z S'
  | none => none) := rfl
theorem shutR_vl {T : Sto} {es : List D} (h : noRefs es = true) : shutR S (.ref S.length) (S ++ .lst es :: T) = some (.ref S.length, S ++ [.lst es]) := by
  unfold shutR
  rw [if_pos oldok_app]
  dsimp only
  rw [if_neg (Nat.lt_irrefl _), List.getElem?_append_right (Nat.le_refl _), Nat.sub_self]
  dsimp only [List.getElem?_cons_zero]
  rw [if_pos h, List.take_left']
  rfl
theorem in2_of {neg : Bool} {x y : D} {z : D × Sto} (h : gIn neg x y S = some z) : gIn2 neg x y S = some z := by
  unfold gIn2
  rw [h]
end
end Lv
namespace Lv
open PySem PySem.Spec PyProof.Rows L2
theorem forL_fix {b : SF} {t : Tg} {ds : List D} (P : Nat → Env → Sto → Prop) : ∀ (n i : Nat) (env : Env) (S : Sto), P i env S → i ≤ ds.length → ds.length < n + i →
    (∀ i d env S, ds[i]? = some d → P i env S → ∃ e1, setTg t d env = some e1 ∧ ∃ e2 S2, b e1 S = some (.nx e2, S2) ∧ P (i + 1) e2 S2) →
    ∃ e' S', forL b t (.fix ds) n i env S = some (.nx e', S') ∧ P ds.length e' S'
  | 0, i, env, S, h0, hi, hn, hs => by omega
  | n + 1, i, env, S, h0, hi, hn, hs => by
    unfold forL
    simp only [nextD]
    cases q : ds[i]? with
    | none =>
      have : ds.length ≤ i := List.getElem?_eq_none_iff.mp q
      have e : i = ds.length := by omega
      subst e
      exact ⟨env, S, rfl, h0⟩
    | some d =>
      obtain ⟨e1, h1, e2, S2, h2, h3⟩ := hs i d env S q h0
      have hl := (List.getElem?_eq_some_iff.mp q).1
      simp only [h1, h2]
      exact forL_fix P n (i + 1) e2 S2 h3 (by omega) (by omega) hs

theorem compL_fix {t : Tg} {c : TF} {f : EF} {kC : Nat} {env : Env} {ds : List D} (P : Nat → List D → Sto → Prop) (hk : ∀ i acc S, P i acc S → S[kC]? = some (.lst acc)) : ∀ (n i : Nat) (acc : List D) (S : Sto), P i acc S → i ≤ ds.length → ds.length < n + i →
    (∀ i d acc S, ds[i]? = some d → P i acc S → ∃ e1, setTg t d env = some e1 ∧ ∃ b S2, c e1 S = some (b, S2) ∧ (b = false → P (i + 1) acc S2) ∧ (b = true → ∃ y S3, f e1 S2 = some (y, S3) ∧ S3[kC]? = some (.lst acc) ∧ acc.length < lim ∧ P (i + 1) (acc ++ [y]) (S3.set kC (.lst (acc ++ [y]))))) →
    ∃ acc' S', compL t c f (.fix ds) kC env n i S = some S' ∧ P ds.length acc' S'
  | 0, i, acc, S, h0, hi, hn, hs => by omega
  | n + 1, i, acc, S, h0, hi, hn, hs => by
    unfold compL
    simp only [nextD]
    cases q : ds[i]? with
    | none =>
      have : ds.length ≤ i := List.getElem?_eq_none_iff.mp q
      have e : i = ds.length := by omega
      subst e
      exact ⟨acc, S, rfl, h0⟩
    | some d =>
      obtain ⟨e1, h1, b, S2, h2, h3, h4⟩ := hs i d acc S q h0
      have hl := (List.getElem?_eq_some_iff.mp q).1
      simp only [h1, h2]
      cases b with
      | false => exact compL_fix P hk n (i + 1) acc S2 (h3 rfl) (by omega) (by omega) hs
      | true =>
        obtain ⟨y, S3, h5, h6, h7, h8⟩ := h4 rfl
        simp only [h5, h6, if_pos h7]
        exact compL_fix P hk n (i + 1) (acc ++ [y]) _ h8 (by omega) (by omega) hs
theorem new_last {S : Sto} {c : Cell} : (S ++ [c])[S.length]? = some c := by simp
theorem set_last {S : Sto} {c c' : Cell} : (S ++ [c]).set S.length c' = S ++ [c'] := by
  rw [List.set_append_right _ _ (Nat.le_refl _), Nat.sub_self]
  rfl
theorem filter_take {α β : Type} {p : α → Bool} {h : α → β} {ds : List α} {i : Nat} {d : α} (e : ds[i]? = some d) : ((ds.take (i + 1)).filter p).map h = ((ds.take i).filter p).map h ++ (if p d = true then [h d] else []) := by
  rw [List.take_add_one, e]
  simp only [Option.toList_some, List.filter_append, List.map_append]
  congr 1
  cases q : p d <;> simp [q]
theorem filter_len {α β : Type} {p : α → Bool} {h : α → β} (ds : List α) (i : Nat) : (((ds.take i).filter p).map h).length ≤ ds.length := by
  rw [List.length_map]
  exact Nat.le_trans (List.length_filter_le _ _) (by rw [List.length_take]; exact Nat.min_le_right _ _)
theorem comp_if {α : Type} {n : Nat} {own : List Nat} {it : IFn} {t : Tg} {c : TF} {f : EF} {env : Env} {S S1 : Sto} {xs : List α} {enc : α → D} (p : α → Bool) (h : α → D) (hit : it env S = some (.fix (xs.map enc), S1)) (hn : xs.length < n) (hl : xs.length ≤ 1000000)
    (hb : ∀ x ∈ xs, ∀ S' : Sto, ∃ e1, setTg t (enc x) (wipeE env own) = some e1 ∧ c e1 S' = some (p x, S') ∧ (p x = true → f e1 S' = some (h x, S'))) (hr : ∀ x ∈ xs, p x = true → noRef (h x) = true) :
    eComp false n own it t c f env S = some (.vl ((xs.filter p).map h), S1) := by
  unfold eComp
  rw [hit]
  dsimp only
  have hlen : (xs.map enc).length = xs.length := List.length_map _
  obtain ⟨acc, S', e, h1, h2⟩ := compL_fix (t := t) (c := c) (f := f) (kC := S1.length) (env := wipeE env own) (ds := xs.map enc) (fun i acc S' => S' = S1 ++ [.lst acc] ∧ acc = ((xs.take i).filter p).map h)
    (by rintro i acc S' ⟨rfl, _⟩; exact new_last) n 0 [] (S1 ++ [.lst []]) ⟨rfl, by simp⟩ (Nat.zero_le _) (by omega) (by
      rintro i d acc S' hd ⟨rfl, rfl⟩
      rw [List.getElem?_map] at hd
      cases hx : xs[i]? with
      | none => rw [hx] at hd; cases hd
      | some x =>
        rw [hx] at hd
        cases hd
        obtain ⟨e1, k1, k2, k3⟩ := hb x (List.mem_of_getElem? hx) (S1 ++ [.lst (((xs.take i).filter p).map h)])
        refine ⟨e1, k1, p x, _, k2, fun hp => ⟨rfl, ?_⟩, fun hp => ⟨h x, _, k3 hp, new_last, Nat.lt_of_le_of_lt (Nat.le_trans (filter_len xs i) hl) (by decide), ?_, ?_⟩⟩
        · rw [filter_take hx, hp]; simp
        · rw [set_last]
        · rw [filter_take hx, hp]; simp)
  rw [e, h1]
  dsimp only
  rw [hlen, List.take_length] at h2
  subst h2
  unfold finC
  rw [if_neg (by decide)]
  refine shut_ref (T := []) (noRefs_of fun d hd => ?_)
  obtain ⟨x, hx, rfl⟩ := List.mem_map.mp hd
  rw [List.mem_filter] at hx
  exact hr x hx.1 hx.2
theorem comp_all {α : Type} {n : Nat} {own : List Nat} {it : IFn} {t : Tg} {f : EF} {env : Env} {S S1 : Sto} {xs : List α} {enc : α → D} (h : α → D) (hit : it env S = some (.fix (xs.map enc), S1)) (hn : xs.length < n) (hl : xs.length ≤ 1000000)
    (hb : ∀ x ∈ xs, ∀ S' : Sto, ∃ e1, setTg t (enc x) (wipeE env own) = some e1 ∧ f e1 S' = some (h x, S')) (hr : ∀ x ∈ xs, noRef (h x) = true) :
    eComp false n own it t tYesF f env S = some (.vl (xs.map h), S1) := by
  have := comp_if (own := own) (c := tYesF) (f := f) (fun _ => true) h hit hn hl (fun x hx S' => by
    obtain ⟨e1, k1, k2⟩ := hb x hx S'
    exact ⟨e1, k1, rfl, fun _ => k2⟩) (fun x hx _ => hr x hx)
  rw [this, List.filter_eq_self.mpr (fun _ _ => rfl)]
theorem bools_of {α : Type} {q : α → Bool} : ∀ xs : List α, boolsD (xs.map fun x => D.bl (q x)) = some (xs.map q)
  | [] => rfl
  | x :: xs => by
    have ih := bools_of (q := q) xs
    unfold boolsD at ih ⊢
    simp only [List.map_cons, mapO]
    rw [ih]
theorem all_vl {α : Type} {q : α → Bool} {xs : List α} {S : Sto} : cBools (fun bs => bs.all id) [.vl (xs.map fun x => D.bl (q x))] S = some (.bl (xs.all q), S) := by
  unfold cBools
  simp only [r_list_vl, bools_of, List.all_map]
  rfl
def Sm (k : Nat) (i : Int) : Prop := i.natAbs < 2 ^ k
theorem Sm.mono {a b : Nat} {i : Int} (h : Sm a i) (hb : a ≤ b) : Sm b i := Nat.lt_of_lt_of_le h (Nat.pow_le_pow_right (by decide) hb)
theorem Sm.mul {a b : Nat} {i j : Int} (h : Sm a i) (h' : Sm b j) : Sm (a + b) (i * j) := by
  unfold Sm at *
  rw [Int.natAbs_mul, Nat.pow_add]
  exact Nat.mul_lt_mul'' h h'
theorem Sm.add {a : Nat} {i j : Int} (h : Sm a i) (h' : Sm a j) : Sm (a + 1) (i + j) := by
  unfold Sm at *
  rw [Nat.pow_succ]
  omega
theorem Sm.of {k : Nat} {i : Int} (h0 : 0 ≤ i) (h : i < 2 ^ k) : Sm k i := by
  unfold Sm
  have : ((2 ^ k : Nat) : Int) = 2 ^ k := by simp
  omega
theorem Sm.log {k : Nat} {i : Int} (h : Sm k i) : i.natAbs.log2 ≤ k := by
  by_cases h0 : i.natAbs = 0
  · rw [h0]; exact Nat.zero_le _
  · exact Nat.le_of_lt ((Nat.log2_lt h0).mpr h)
theorem mul_ok {a b : Nat} {i j : Int} (h : Sm a i) (h' : Sm b j) (hl : a + b < 1000000) : fMul i j = some (i * j) := by
  unfold fMul
  rw [if_pos]
  have := h.log
  have := h'.log
  omega
theorem mod_ok {i j : Int} (h : 0 < j) : fMod i j = some (i % j) := if_pos h
theorem div_ok {k : Nat} {i j : Int} (h : 0 < j) (hj : Sm k j) (hk : k < 9000) : fDiv i j = some (i / j) := if_pos ⟨h, Nat.lt_of_le_of_lt hj.log hk⟩
theorem cons_eq {f g : SF} {env e1 : Env} {S S1 : Sto} (h : f env S = some (.nx e1, S1)) : sCons f g env S = g e1 S1 := by
  unfold sCons
  rw [h]
theorem cons_rt {f g : SF} {env : Env} {S S1 : Sto} {d : D} (h : f env S = some (.rt d, S1)) : sCons f g env S = some (.rt d, S1) := by
  unfold sCons
  rw [h]
theorem fn_eq {np nn : Nat} {body : SF} {ds : List D} {S S1 : Sto} {d : D} (hl : ds.length = np) (h : body (startE nn ds) S = some (.rt d, S1)) : fnF np nn body ds S = some (d, S1) := by
  unfold fnF
  rw [if_pos hl, h]
theorem for_eq {n : Nat} {t : Tg} {it : IFn} {b : SF} {env : Env} {S S1 : Sto} {src : Src} {r : Option (Out × Sto)} (h : it env S = some (src, S1)) (hl : forL b t src n 0 env S1 = r) : sFor n t it b env S = r := by
  unfold sFor
  rw [h]
  exact hl

theorem at0 {a b c : D} : atI [a, b, c] 0 = some a := rfl
theorem at1 {a b c : D} : atI [a, b, c] 1 = some b := rfl
theorem at2 {a b c : D} : atI [a, b, c] 2 = some c := rfl
@[simp] theorem ix20 {x y : D} : atI [x, y] 0 = some x := rfl
@[simp] theorem ix21 {x y : D} : atI [x, y] 1 = some y := rfl
theorem ix0 : ixN 3 0 = some 0 := rfl
theorem ix2 : ixN 3 2 = some 2 := rfl
noncomputable def b_hash : SF := (sCons (sSet 2 (eBin (gArith fMod) (eCall cInt (aCons (eBin (gAdd false) (eBin (gAdd false) (eBin (gAdd false) (eBin (gArith fMul) (eVar 0) (eC (.int 1140671))) (eBin (gArith fMul) (eBin (gArith fMul) (eC (.int 27644437)) (eVar 1)) (eVar 1))) (eBin (gArith fMul) (eC (.int 131)) (eVar 1))) (eC (.int 19))) aNil)) (eC (.int 2147483629)))) (sCons (sSet 2 (eBin (gArith fMod) (eCall cInt (aCons (eBin (gAdd false) (eBin (gAdd false) (eBin (gArith fMul) (eVar 2) (eVar 2)) (eBin (gArith fMul) (eC (.int 62089)) (eVar 1))) (eC (.int 32416187))) aNil)) (eC (.int 2147483587)))) (sCons (sRet (eBin (gArith fMod) (eCall cInt (aCons (eBin (gArith fMul) (eVar 2) (eC (.int 48271))) aNil)) (eC (.int 2147483647)))) sNil)))
noncomputable def c_hash : CF := sealed (fnF 2 3 b_hash)
noncomputable def b_random (fu : Nat) : SF := (sCons (sIf (truB (eBin (gCmpI fun i j => decide (j < i)) (eBin gIx (eVar 0) (eC (.int 0))) (eC (.int 0)))) (sCons (sSet 2 (eBin (gArith fMod) (eCall cInt (aCons (eBin gIx (eVar 0) (eC (.int 0))) aNil)) (eVar 1))) (sCons (sSub (eVar 0) (eC (.int 0)) (eBin (gArith fDiv) (eBin gIx (eVar 0) (eC (.int 0))) (eVar 1))) (sCons (sRet (eVar 2)) sNil))) sNil) (sCons (sSet 2 (eC (.int 0))) (sCons (sFor fu (.nm 3) (iRange1 (aCons (eBin (gAdd false) (eC (.int 1)) (eBin (gArith fDiv) (eBits (eVar 1)) (eC (.int 30)))) aNil)) (sCons (sSub (eVar 0) (eC (.int 2)) (eBin (gAdd false) (eBin gIx (eVar 0) (eC (.int 2))) (eC (.int 1)))) (sCons (sSet 2 (eBin (gAdd false) (eBin (gArith fMul) (eVar 2) (eC (.int 2147483587))) (eCall c_hash (aCons (eBin gIx (eVar 0) (eC (.int 1))) (aCons (eBin gIx (eVar 0) (eC (.int 2))) aNil))))) sNil))) (sCons (sRet (eBin (gArith fMod) (eCall cInt (aCons (eVar 2) aNil)) (eVar 1))) sNil))))
noncomputable def u_random (fu : Nat) : CF := fnF 2 4 (b_random fu)
noncomputable def c_random (fu : Nat) : CF := sealed (u_random fu)
theorem hash_ok {S : Sto} {a b : Int} (ha : 0 ≤ a ∧ a < 2 ^ 31) (hb : 0 ≤ b ∧ b < 2 ^ 64) : ∃ h : Int, c_hash [.int a, .int b] S = some (.int h, S) ∧ 0 ≤ h ∧ h < 2 ^ 31 := by
  have sa : Sm 31 a := .of ha.1 ha.2
  have sb : Sm 64 b := .of hb.1 hb.2
  have k1 := mul_ok sa (show Sm 21 1140671 by unfold Sm; decide) (by decide)
  have k2 := mul_ok (show Sm 25 27644437 by unfold Sm; decide) sb (by decide)
  have k3 := mul_ok ((show Sm 25 27644437 by unfold Sm; decide).mul sb) sb (by decide)
  have k4 := mul_ok (show Sm 8 131 by unfold Sm; decide) sb (by decide)
  have k5 : ∀ z : Int, fMod z 2147483629 = some (z % 2147483629) := fun z => mod_ok (by decide)
  have k6 : ∀ z : Int, fMod z 2147483587 = some (z % 2147483587) := fun z => mod_ok (by decide)
  have k7 : ∀ z : Int, fMod z 2147483647 = some (z % 2147483647) := fun z => mod_ok (by decide)
  have sm : ∀ z m : Int, 0 < m → m ≤ 2 ^ 31 → Sm 31 (z % m) := fun z m h0 h1 => .of (Int.emod_nonneg z (by omega)) (Int.lt_of_lt_of_le (Int.emod_lt_of_pos z h0) h1)
  have k8 : ∀ z : Int, fMul (z % 2147483629) (z % 2147483629) = some (z % 2147483629 * (z % 2147483629)) := fun z => mul_ok (sm z _ (by decide) (by decide)) (sm z _ (by decide) (by decide)) (by decide)
  have k9 := mul_ok (show Sm 16 62089 by unfold Sm; decide) sb (by decide)
  have k10 : ∀ z : Int, fMul (z % 2147483587) 48271 = some (z % 2147483587 * 48271) := fun z => mul_ok (sm z _ (by decide) (by decide)) (show Sm 16 48271 by unfold Sm; decide) (by decide)
  refine ⟨((((a * 1140671 + 27644437 * b * b + 131 * b + 19) % 2147483629 * ((a * 1140671 + 27644437 * b * b + 131 * b + 19) % 2147483629) + 62089 * b + 32416187) % 2147483587) * 48271) % 2147483647, ?_, Int.emod_nonneg _ (by decide), Int.lt_trans (Int.emod_lt_of_pos _ (by decide)) (by decide)⟩
  simp [c_hash, b_hash, shut_same, k1, k2, k3, k4, k5, k6, k7, k8, k9, k10]
theorem bits_le {k : Nat} {i : Int} (h : Sm k i) : Builtin.Int.intBits i ≤ k + 1 := by
  have := h.log
  unfold Builtin.Int.intBits
  split <;> omega

structure Gn where
  a : Int
  b : Int
  c : Int
def gc (G : Gn) : Cell := .lst [.int G.a, .int G.b, .int G.c]
def OkG (B : Int) (G : Gn) : Prop := Sm 2000 G.a ∧ (0 ≤ G.b ∧ G.b < 2 ^ 31) ∧ 0 ≤ G.c ∧ G.c ≤ B
theorem OkG.mono {B C : Int} {G : Gn} (h : OkG B G) (hc : B ≤ C) : OkG C G := ⟨h.1, h.2.1, h.2.2.1, Int.le_trans h.2.2.2 hc⟩
noncomputable def bRand (fu : Nat) : SF := (sCons (sSub (eVar 0) (eC (.int 2)) (eBin (gAdd false) (eBin gIx (eVar 0) (eC (.int 2))) (eC (.int 1)))) (sCons (sSet 2 (eBin (gAdd false) (eBin (gArith fMul) (eVar 2) (eC (.int 2147483587))) (eCall c_hash (aCons (eBin gIx (eVar 0) (eC (.int 1))) (aCons (eBin gIx (eVar 0) (eC (.int 2))) aNil))))) sNil))
theorem random_pos {fu : Nat} {S : Sto} {g : Nat} {b : Int} {G : Gn} (eg : S[g]? = some (gc G)) (hp : 0 < G.a) (h1 : 1 ≤ b) (h2 : b < 2 ^ 120) :
    u_random fu [.ref g, .int b] S = some (.int (G.a % b), S.set g (gc ⟨G.a / b, G.b, G.c⟩)) := by
  have sb : Sm 120 b := .of (by omega) h2
  have e1 := mod_ok (i := G.a) (j := b) (by omega)
  have e2 := div_ok (i := G.a) (j := b) (by omega) sb (by decide)
  unfold gc at eg ⊢
  simp [u_random, b_random, r_ix_ref eg, Cell.items, at0, hp, e1, e2, eg, ix0]
theorem rand_turn {fu : Nat} {S : Sto} {g : Nat} {b g0 g1 g2 dr : Int} {k : Nat} {d : D} (eg : S[g]? = some (.lst [.int g0, .int g1, .int g2])) (s1 : 0 ≤ g1 ∧ g1 < 2 ^ 31) (s2 : 0 ≤ g2 ∧ g2 + 1 < 2 ^ 64) (hdr : Sm k dr) (hk : k < 900000) :
    ∃ h : Int, 0 ≤ h ∧ h < 2 ^ 31 ∧ bRand fu [some (.ref g), some (.int b), some (.int dr), some d] S = some (.nx [some (.ref g), some (.int b), some (.int (dr * 2147483587 + h)), some d], S.set g (.lst [.int g0, .int g1, .int (g2 + 1)])) := by
  have hgl := (List.getElem?_eq_some_iff.mp eg).1
  have es2 : (S.set g (.lst [.int g0, .int g1, .int (g2 + 1)]))[g]? = some (.lst [.int g0, .int g1, .int (g2 + 1)]) := List.getElem?_set_self hgl
  obtain ⟨h, hh, h0, h9⟩ := hash_ok (S := S.set g (.lst [.int g0, .int g1, .int (g2 + 1)])) (a := g1) (b := g2 + 1) s1 ⟨by omega, s2.2⟩
  have em := mul_ok hdr (show Sm 31 2147483587 by unfold Sm; decide) (by omega)
  refine ⟨h, h0, h9, ?_⟩
  simp only [bRand, r_sCons, r_sSub, r_sSet, r_eBin, r_eCall, r_aCons, r_aNil, r_eC, r_eVar, r_ix_ref eg, r_ix_ref es2, Cell.items, at1, at2, eg, ix2, hh, em, r_add, r_arith, r_sNil, List.getElem?_cons_zero, List.getElem?_cons_succ, List.length_cons, List.length_nil, List.set_cons_zero, List.set_cons_succ, Nat.zero_add, Nat.reduceAdd]
theorem rand_loop {fu : Nat} (hf : 10000 ≤ fu) {S : Sto} {g : Nat} {b g0 g1 g2 : Int} {n : Nat} (eg : S[g]? = some (.lst [.int g0, .int g1, .int g2])) (s1 : 0 ≤ g1 ∧ g1 < 2 ^ 31) (s2 : 0 ≤ g2 ∧ g2 ≤ 2 ^ 60) (hn : n ≤ 5) :
    ∃ (dr : Int) (tv : Option D) (g2' : Int), forL (bRand fu) (.nm 3) (.fix (rangeD 0 n)) fu 0 [some (.ref g), some (.int b), some (.int 0), none] S = some (.nx [some (.ref g), some (.int b), some (.int dr), tv], S.set g (.lst [.int g0, .int g1, .int g2'])) ∧ g2 ≤ g2' ∧ g2' ≤ g2 + 5 := by
  have hgl := (List.getElem?_eq_some_iff.mp eg).1
  have hlen : (rangeD 0 n).length = n := by simp [rangeD]
  have e0 : S = S.set g (.lst [.int g0, .int g1, .int g2]) := by
    refine (List.ext_getElem? fun k => ?_)
    by_cases hk : g = k
    · subst hk
      rw [List.getElem?_set_self hgl, eg]
    · rw [List.getElem?_set_ne hk]
  obtain ⟨e', S', hl, dr, tv, g2', rfl, hdr, rfl, q1, q2⟩ := forL_fix (b := bRand fu) (t := .nm 3) (ds := rangeD 0 n)
      (fun i env S' => ∃ (dr : Int) (tv : Option D) (g2' : Int), env = [some (.ref g), some (.int b), some (.int dr), tv] ∧ Sm (32 * i + 1) dr ∧ S' = S.set g (.lst [.int g0, .int g1, .int g2']) ∧ g2 ≤ g2' ∧ g2' ≤ g2 + i)
      fu 0 [some (.ref g), some (.int b), some (.int 0), none] S ⟨0, none, g2, rfl, by unfold Sm; decide, e0, by omega, by omega⟩ (Nat.zero_le _) (by omega) (by
        rintro i d env S2 hd ⟨dr, tv, g2', rfl, hdr, rfl, q1, q2⟩
        have hi : i < n := by
          have := (List.getElem?_eq_some_iff.mp hd).1
          omega
        have es : (S.set g (.lst [.int g0, .int g1, .int g2']))[g]? = some (.lst [.int g0, .int g1, .int g2']) := List.getElem?_set_self hgl
        obtain ⟨h, h0, h9, hh⟩ := rand_turn (fu := fu) (b := b) (d := d)  es s1 ⟨by omega, by omega⟩ hdr (by omega)
        rw [List.set_set] at hh
        refine ⟨_, rfl, _, _, hh, dr * 2147483587 + h, some d, g2' + 1, rfl, ?_, rfl, by omega, by push_cast; omega⟩
        have m1 : Sm (32 * i + 1 + 31) (dr * 2147483587) := hdr.mul (show Sm 31 2147483587 by unfold Sm; decide)
        have m2 : Sm (32 * i + 1 + 31) h := (Sm.of h0 h9).mono (by omega)
        exact (m1.add m2).mono (by omega))
  exact ⟨dr, tv, g2', hl, q1, by omega⟩
theorem rand_it {S : Sto} {g n : Nat} {b : Int} (hn : (1 + ((Builtin.Int.intBits b : Nat) : Int) / 30).toNat = n) (h0 : 0 ≤ ((Builtin.Int.intBits b : Nat) : Int) / 30) (h4 : ((Builtin.Int.intBits b : Nat) : Int) / 30 ≤ 4) :
    iRange1 (aCons (eBin (gAdd false) (eC (.int 1)) (eBin (gArith fDiv) (eBits (eVar 1)) (eC (.int 30)))) aNil) [some (.ref g), some (.int b), some (.int 0), none] S = some (.fix (rangeD 0 n), S) := by
  have hb30 : fDiv ((Builtin.Int.intBits b : Nat) : Int) 30 = some (((Builtin.Int.intBits b : Nat) : Int) / 30) := div_ok (by decide) (show Sm 5 30 by unfold Sm; decide) (by decide)
  unfold iRange1
  simp only [r_aCons, r_eBin, r_eC, r_eBits, r_eVar, List.getElem?_cons_succ, List.getElem?_cons_zero, r_arith, hb30, r_add, r_aNil]
  rw [if_pos ⟨by omega, by omega⟩, hn]
theorem random_neg {fu : Nat} {S S' : Sto} {g n : Nat} {b g0 g1 g2 dr : Int} {tv : Option D} (eg : S[g]? = some (.lst [.int g0, .int g1, .int g2])) (hp : ¬ 0 < g0) (h1 : 1 ≤ b)
    (hit : iRange1 (aCons (eBin (gAdd false) (eC (.int 1)) (eBin (gArith fDiv) (eBits (eVar 1)) (eC (.int 30)))) aNil) [some (.ref g), some (.int b), some (.int 0), none] S = some (.fix (rangeD 0 n), S))
    (hl : forL (bRand fu) (.nm 3) (.fix (rangeD 0 n)) fu 0 [some (.ref g), some (.int b), some (.int 0), none] S = some (.nx [some (.ref g), some (.int b), some (.int dr), tv], S')) :
    u_random fu [.ref g, .int b] S = some (.int (dr % b), S') := by
  have e1 := mod_ok (i := dr) (j := b) (by omega)
  refine fn_eq rfl ((cons_eq (e1 := [some (.ref g), some (.int b), none, none]) ?_).trans ((cons_eq (e1 := [some (.ref g), some (.int b), some (.int 0), none]) rfl).trans ((cons_eq (for_eq hit hl)).trans (cons_rt ?_))))
  · simp [r_ix_ref eg, Cell.items, at0, hp]
  · simp [e1]
theorem random_ok {fu : Nat} (hf : 10000 ≤ fu) {S : Sto} {g : Nat} {B b : Int} {G : Gn} (eg : S[g]? = some (gc G)) (hG : OkG B G) (hB : B ≤ 2 ^ 60) (h1 : 1 ≤ b) (h2 : b < 2 ^ 120) :
    ∃ (r : Int) (G' : Gn), c_random fu [.ref g, .int b] S = some (.int r, S.set g (gc G')) ∧ 0 ≤ r ∧ r < b ∧ OkG (B + 5) G' := by
  obtain ⟨s0, s1, s2, s3⟩ := hG
  have hgl := (List.getElem?_eq_some_iff.mp eg).1
  have sb : Sm 120 b := .of (by omega) h2
  have hs : ∀ (r : Int) (G' : Gn), u_random fu [.ref g, .int b] S = some (.int r, S.set g (gc G')) → c_random fu [.ref g, .int b] S = some (.int r, S.set g (gc G')) := fun r G' h => by
    unfold c_random
    rw [r_sealed, h]
    exact shut_set0 rfl rfl
  by_cases hp : 0 < G.a
  · refine ⟨G.a % b, _, hs _ _ (random_pos eg hp h1 h2), Int.emod_nonneg _ (by omega), Int.emod_lt_of_pos _ (by omega), ?_, s1, s2, by show G.c ≤ _; omega⟩
    show Sm 2000 (G.a / b)
    unfold Sm at s0 ⊢
    have q1 : 0 ≤ G.a / b := Int.ediv_nonneg (by omega) (by omega)
    have q2 : G.a / b ≤ G.a := Int.ediv_le_self b (by omega)
    omega
  · have hbits := bits_le sb
    have hn0 : 0 ≤ ((Builtin.Int.intBits b : Nat) : Int) / 30 := by omega
    have hn1 : ((Builtin.Int.intBits b : Nat) : Int) / 30 ≤ 4 := by omega
    obtain ⟨n, hn⟩ : ∃ n : Nat, (1 + ((Builtin.Int.intBits b : Nat) : Int) / 30).toNat = n := ⟨_, rfl⟩
    obtain ⟨dr, tv, g2', hl, q1, q2⟩ := rand_loop hf (b := b) (n := n) eg s1 ⟨s2, by omega⟩ (by omega)
    exact ⟨dr % b, ⟨G.a, G.b, g2'⟩, hs _ _ (random_neg eg hp h1 (rand_it hn hn0 hn1) hl), Int.emod_nonneg _ (by omega), Int.emod_lt_of_pos _ (by omega), s0, s1, by show 0 ≤ g2'; omega, by show g2' ≤ _; omega⟩
end Lv
namespace Com
open PySem PySem.Spec PyProof.Rows L2 Lv
def k_DEED_FORMS : List (Str × Str) := [("go", ""), ("set", "nc"), ("add", "nnc"), ("turn", "nnc"), ("input", "nr"), ("least", "nnn"), ("greatest", "nnn"), ("upto", "nc"), ("from", "nc"), ("below", "nnc"), ("equal", "nnc")]
def k_PAIR_TESTS : List Str := ["below", "equal"]
-- _law_cell: 0 script, 1 index
noncomputable def b__law_cell (fu : Nat) : SF := (sCons (sIf (truB (eBin (gCmpI fun i j => decide (i < j)) (eVar 1) (eCall cLen (aCons (eVar 0) aNil)))) (sCons (sRet (eBin gIx (eVar 0) (eVar 1))) sNil) sNil) (sCons (sRet (eBin (gArith fMod) (eCall cSum (aCons (eSl false (eVar 0) oNone (oSome (eC (.int 1)))) aNil)) (eC (.int 1000003)))) sNil))
noncomputable def u__law_cell (fu : Nat) : CF := fnF 2 2 (b__law_cell fu)
noncomputable def c__law_cell (fu : Nat) : CF := sealed (u__law_cell fu)
-- _law_generator: 0 script, 1 index, 2 seed
noncomputable def bv__law_generator (fu : Nat) : SF := (sCons (sSet 2 (eCall (Com.c__law_cell fu) (aCons (eVar 0) (aCons (eVar 1) aNil)))) (sCons (sRet (eCall (cLst true) (aCons (eBin (gArith fMod) (eCall cInt (aCons (eCall cMax (aCons (eBin gSub (eVar 2) (eBin (gArith fPow) (eC (.int 10)) (eC (.int 18)))) (aCons (eC (.int 0)) aNil))) aNil)) (eBin (gArith fPow) (eBin (gArith fPow) (eC (.int 10)) (eC (.int 60))) (eC (.int 10)))) (aCons (eBin (gArith fMod) (eCall cInt (aCons (eVar 2) aNil)) (eC (.int 2147483647))) (aCons (eBin (gArith fMul) (eC (.int 1000)) (eVar 1)) aNil))))) sNil))
noncomputable def uv__law_generator (fu : Nat) : CF := fnF 2 3 (bv__law_generator fu)
noncomputable def v__law_generator (fu : Nat) : CF := sealedR (uv__law_generator fu)
-- _law_pairs: 0 row, 1 low, 2 high
noncomputable def b__law_pairs (fu : Nat) : SF := (sCons (sRet (eComp false fu [1, 2] (iAny (eVar 0)) (.tp [1, 2]) tYesF (eCall cTup (aCons (eIf (truB (eBin (gIsN false) (eVar 1) (eC .non))) (eNeg (eBin (gArith fPow) (eC (.int 10)) (eC (.int 60)))) (eVar 1)) (aCons (eIf (truB (eBin (gIsN false) (eVar 2) (eC .non))) (eBin (gArith fPow) (eC (.int 10)) (eC (.int 60))) (eVar 2)) aNil))))) sNil)
noncomputable def u__law_pairs (fu : Nat) : CF := fnF 1 3 (b__law_pairs fu)
noncomputable def c__law_pairs (fu : Nat) : CF := sealed (u__law_pairs fu)
-- _law_near: 0 low, 1 high
-- _law_put: 0 pairs, 1 at, 2 low, 3 high
-- _law_tested: 0 names, 1 deed, 2 pairs, 3 at, 4 number, 5 low, 6 high, 7 to, 8 down, 9 up, 10 cut, 11 mate
-- _law_comes: 0 names, 1 deed, 2 pairs, 3 low, 4 high, 5 down, 6 up, 7 under, 8 over
-- _law_hash: 0 seed, 1 index, 2 mixed
noncomputable def b__law_hash (fu : Nat) : SF := (sCons (sSet 2 (eBin (gArith fMod) (eCall cInt (aCons (eBin (gAdd false) (eBin (gAdd false) (eBin (gAdd false) (eBin (gArith fMul) (eVar 0) (eC (.int 1140671))) (eBin (gArith fMul) (eBin (gArith fMul) (eC (.int 27644437)) (eVar 1)) (eVar 1))) (eBin (gArith fMul) (eC (.int 131)) (eVar 1))) (eC (.int 19))) aNil)) (eC (.int 2147483629)))) (sCons (sSet 2 (eBin (gArith fMod) (eCall cInt (aCons (eBin (gAdd false) (eBin (gAdd false) (eBin (gArith fMul) (eVar 2) (eVar 2)) (eBin (gArith fMul) (eC (.int 62089)) (eVar 1))) (eC (.int 32416187))) aNil)) (eC (.int 2147483587)))) (sCons (sRet (eBin (gArith fMod) (eCall cInt (aCons (eBin (gArith fMul) (eVar 2) (eC (.int 48271))) aNil)) (eC (.int 2147483647)))) sNil)))
noncomputable def u__law_hash (fu : Nat) : CF := fnF 2 3 (b__law_hash fu)
noncomputable def c__law_hash (fu : Nat) : CF := sealed (u__law_hash fu)
-- _law_random: 0 generator, 1 bound, 2 drawn, 3 turn
noncomputable def b__law_random (fu : Nat) : SF := (sCons (sIf (truB (eBin (gCmpI fun i j => decide (j < i)) (eBin gIx (eVar 0) (eC (.int 0))) (eC (.int 0)))) (sCons (sSet 2 (eBin (gArith fMod) (eCall cInt (aCons (eBin gIx (eVar 0) (eC (.int 0))) aNil)) (eVar 1))) (sCons (sSub (eVar 0) (eC (.int 0)) (eBin (gArith fDiv) (eBin gIx (eVar 0) (eC (.int 0))) (eVar 1))) (sCons (sRet (eVar 2)) sNil))) sNil) (sCons (sSet 2 (eC (.int 0))) (sCons (sFor fu (.nm 3) (iRange1 (aCons (eBin (gAdd false) (eC (.int 1)) (eBin (gArith fDiv) (eBits (eVar 1)) (eC (.int 30)))) aNil)) (sCons (sSub (eVar 0) (eC (.int 2)) (eBin (gAdd false) (eBin gIx (eVar 0) (eC (.int 2))) (eC (.int 1)))) (sCons (sSet 2 (eBin (gAdd false) (eBin (gArith fMul) (eVar 2) (eC (.int 2147483587))) (eCall (Com.c__law_hash fu) (aCons (eBin gIx (eVar 0) (eC (.int 1))) (aCons (eBin gIx (eVar 0) (eC (.int 2))) aNil))))) sNil))) (sCons (sRet (eBin (gArith fMod) (eCall cInt (aCons (eVar 2) aNil)) (eVar 1))) sNil))))
noncomputable def u__law_random (fu : Nat) : CF := fnF 2 4 (b__law_random fu)
noncomputable def c__law_random (fu : Nat) : CF := sealed (u__law_random fu)
-- _law_number: 0 generator, 1 most
noncomputable def b__law_number (fu : Nat) : SF := (sCons (sRet (eBin gSub (eCall (Com.c__law_random fu) (aCons (eVar 0) (aCons (eBin (gAdd false) (eBin (gArith fMul) (eC (.int 2)) (eVar 1)) (eC (.int 1))) aNil))) (eVar 1))) sNil)
noncomputable def u__law_number (fu : Nat) : CF := fnF 2 2 (b__law_number fu)
noncomputable def c__law_number (fu : Nat) : CF := sealed (u__law_number fu)
-- _law_range: 0 generator, 1 most, 2 low, 3 high, 4 way
noncomputable def b__law_range (fu : Nat) : SF := (sCons (sSet 2 (eCall (Com.c__law_number fu) (aCons (eVar 0) (aCons (eVar 1) aNil)))) (sCons (sPar [3, 4] (aCons (eCall cMin (aCons (eBin (gAdd false) (eVar 2) (eCall (Com.c__law_random fu) (aCons (eVar 0) (aCons (eBin (gAdd false) (eVar 1) (eC (.int 1))) aNil)))) (aCons (eVar 1) aNil))) (aCons (eCall (Com.c__law_random fu) (aCons (eVar 0) (aCons (eC (.int 8)) aNil))) aNil))) (sCons (sRet (eCall cTup (aCons (eIf (truB (eBin (gIn2 false) (eVar 4) (eCall (cLst false) (aCons (eC (.int 0)) (aCons (eC (.int 2)) aNil))))) (eC .non) (eVar 2)) (aCons (eIf (truB (eBin (gIn2 false) (eVar 4) (eCall (cLst false) (aCons (eC (.int 1)) (aCons (eC (.int 2)) aNil))))) (eC .non) (eVar 3)) aNil)))) sNil)))
noncomputable def u__law_range (fu : Nat) : CF := fnF 2 5 (b__law_range fu)
noncomputable def c__law_range (fu : Nat) : CF := sealed (u__law_range fu)
-- _law_deed: 0 generator, 1 names, 2 most, 3 x, 4 y, 5 z, 6 number, 7 way, 8 menu, 9 other, 10 at, 11 name
-- _law_ends: 0 pairs, 1 low, 2 high
noncomputable def b__law_ends (fu : Nat) : SF := (sCons (sRet (eComp false fu [1, 2] (iAny (eVar 0)) (.tp [1, 2]) tYesF (eCall cTup (aCons (eIf (truB (eBin (gCmp2 (fun i j => decide (i < j)) fLt) (eVar 1) (eNeg (eBin (gArith fPow) (eC (.int 10)) (eC (.int 59)))))) (eC .non) (eVar 1)) (aCons (eIf (truB (eBin (gCmp2 (fun i j => decide (j < i)) fGt) (eVar 2) (eBin (gArith fPow) (eC (.int 10)) (eC (.int 59))))) (eC .non) (eVar 2)) aNil))))) sNil)
noncomputable def u__law_ends (fu : Nat) : CF := fnF 1 3 (b__law_ends fu)
noncomputable def c__law_ends (fu : Nat) : CF := sealed (u__law_ends fu)
-- _law_passes: 0 names, 1 deed, 2 numbers, 3 here, 4 there
-- _law_written: 0 names, 1 deed, 2 numbers, 3 read, 4 name
-- _law_behind: 0 names, 1 deed, 2 numbers, 3 at, 4 item
-- _law_states: 0 row, 1 found, 2 low, 3 high, 4 longer, 5 numbers, 6 item
-- _law_hull: 0 names, 1 deed, 2 row, 3 found, 4 numbers, 5 at
-- _law_names: 0 generator, 1 many, 2 menu, 3 found, 4 at
noncomputable def b__law_names (fu : Nat) : SF := (sCons (sPar [2, 3] (aCons (eCall (cLst true) (aCons (eC (.str "a")) (aCons (eC (.str "b")) (aCons (eC (.str "b1")) (aCons (eC (.str "b10")) (aCons (eC (.str "below")) (aCons (eC (.str "from")) (aCons (eC (.str "k0")) (aCons (eC (.str "least")) (aCons (eC (.str "x")) (aCons (eC (.str "zzzzzz999")) aNil))))))))))) (aCons (eCall (cLst true) aNil) aNil))) (sCons (sFor fu (.nm 4) (iRange1 (aCons (eVar 1) aNil)) (sCons (sDrop (eMethL mAppend (eVar 3) (aCons (eMethL mPopAt (eVar 2) (aCons (eCall (Com.c__law_random fu) (aCons (eVar 0) (aCons (eCall cLen (aCons (eVar 2) aNil)) aNil))) aNil)) aNil))) sNil)) (sCons (sRet (eCall (cSortS false) (aCons (eVar 3) aNil))) sNil)))
noncomputable def u__law_names (fu : Nat) : CF := fnF 2 5 (b__law_names fu)
noncomputable def c__law_names (fu : Nat) : CF := sealed (u__law_names fu)
-- a_whole: 0 value
noncomputable def b_a_whole (fu : Nat) : SF := (sCons (sRet (eAnd (eCall cIsi (aCons (eVar 0) (aCons (eC (.ty "int")) aNil))) (eNotT (eCall cIsi (aCons (eVar 0) (aCons (eC (.ty "bool")) aNil)))))) sNil)
noncomputable def u_a_whole (fu : Nat) : CF := fnF 1 1 (b_a_whole fu)
noncomputable def c_a_whole (fu : Nat) : CF := sealed (u_a_whole fu)
-- an_end: 0 value
noncomputable def b_an_end (fu : Nat) : SF := (sCons (sRet (eOr (eBin (gIsN false) (eVar 0) (eC .non)) (eCall (Com.c_a_whole fu) (aCons (eVar 0) aNil)))) sNil)
noncomputable def u_an_end (fu : Nat) : CF := fnF 1 1 (b_an_end fu)
noncomputable def c_an_end (fu : Nat) : CF := sealed (u_an_end fu)
-- a_range: 0 value, 1 low, 2 high
noncomputable def b_a_range (fu : Nat) : SF := (sCons (sIf (tOrF (tNotF (truF (eCall cIsi (aCons (eVar 0) (aCons (eC (.ty "tuple")) aNil))))) (truB (eBin (gEqv true) (eCall cLen (aCons (eVar 0) aNil)) (eC (.int 2))))) (sCons (sRet (eC (.bl false))) sNil) sNil) (sCons (sAsg (.tp [1, 2]) (eVar 0)) (sCons (sIf (tOrF (tNotF (truF (eCall (Com.c_an_end fu) (aCons (eVar 1) aNil)))) (tNotF (truF (eCall (Com.c_an_end fu) (aCons (eVar 2) aNil))))) (sCons (sRet (eC (.bl false))) sNil) sNil) (sCons (sRet (eOr (eBin (gIsN false) (eVar 1) (eC .non)) (eOr (eBin (gIsN false) (eVar 2) (eC .non)) (eBin (gCmp2 (fun i j => decide (i ≤ j)) fLe) (eVar 1) (eVar 2))))) sNil))))
noncomputable def u_a_range (fu : Nat) : CF := fnF 1 3 (b_a_range fu)
noncomputable def c_a_range (fu : Nat) : CF := sealed (u_a_range fu)
-- _a_part: 0 names, 1 form, 2 value
noncomputable def b__a_part (fu : Nat) : SF := (sCons (sIf (truB (eBin (gEqv false) (eVar 1) (eC (.str "n")))) (sCons (sRet (eAnd (eCall cIsi (aCons (eVar 2) (aCons (eC (.ty "str")) aNil))) (eBin (gIn2 false) (eVar 2) (eVar 0)))) sNil) sNil) (sCons (sIf (truB (eBin (gEqv false) (eVar 1) (eC (.str "c")))) (sCons (sRet (eCall (Com.c_a_whole fu) (aCons (eVar 2) aNil))) sNil) sNil) (sCons (sRet (eCall (Com.c_a_range fu) (aCons (eVar 2) aNil))) sNil)))
noncomputable def u__a_part (fu : Nat) : CF := fnF 3 3 (b__a_part fu)
noncomputable def c__a_part (fu : Nat) : CF := sealed (u__a_part fu)
-- a_deed: 0 names, 1 value, 2 forms, 3 form, 4 part
noncomputable def b_a_deed (fu : Nat) : SF := (sCons (sIf (tOrF (tNotF (truF (eCall cIsi (aCons (eVar 1) (aCons (eC (.ty "tuple")) aNil))))) (tOrF (tNotF (truF (eVar 1))) (tNotF (truF (eCall cIsi (aCons (eBin gIx (eVar 1) (eC (.int 0))) (aCons (eC (.ty "str")) aNil))))))) (sCons (sRet (eC (.bl false))) sNil) sNil) (sCons (sSet 2 (eKGet Com.k_DEED_FORMS (eBin gIx (eVar 1) (eC (.int 0))))) (sCons (sIf (tOrF (truB (eBin (gIsN false) (eVar 2) (eC .non))) (truB (eBin (gEqv true) (eCall cLen (aCons (eVar 1) aNil)) (eBin (gAdd false) (eCall cLen (aCons (eVar 2) aNil)) (eC (.int 1)))))) (sCons (sRet (eC (.bl false))) sNil) sNil) (sCons (sIf (tNotF (truF (eCall (cBools fun bs => bs.all id) (aCons (eComp false fu [3, 4] (iZipA2 (aCons (eVar 2) (aCons (eSl false (eVar 1) (oSome (eC (.int 1))) oNone) aNil))) (.tp [3, 4]) tYesF (eCall (Com.c__a_part fu) (aCons (eVar 0) (aCons (eVar 3) (aCons (eVar 4) aNil))))) aNil)))) (sCons (sRet (eC (.bl false))) sNil) sNil) (sCons (sRet (eOr (eBin (gIn2 true) (eBin gIx (eVar 1) (eC (.int 0))) (eC (.tup (Com.k_PAIR_TESTS.map D.str)))) (eBin (gEqv true) (eBin gIx (eVar 1) (eC (.int 1))) (eBin gIx (eVar 1) (eC (.int 2)))))) sNil)))))
noncomputable def u_a_deed (fu : Nat) : CF := fnF 2 5 (b_a_deed fu)
noncomputable def c_a_deed (fu : Nat) : CF := sealed (u_a_deed fu)
-- need_deed: 0 names, 1 deed
-- a_number_below: 0 many, 1 value
noncomputable def b_a_number_below (fu : Nat) : SF := (sCons (sRet (eAnd (eCall (Com.c_a_whole fu) (aCons (eVar 1) aNil)) (eChain (gCmp2 (fun i j => decide (i ≤ j)) fLe) (gCmp2 (fun i j => decide (i < j)) fLt) (eC (.int 0)) (eVar 1) (eVar 0)))) sNil)
noncomputable def u_a_number_below (fu : Nat) : CF := fnF 2 2 (b_a_number_below fu)
noncomputable def c_a_number_below (fu : Nat) : CF := sealed (u_a_number_below fu)
-- a_step: 0 names, 1 many, 2 value, 3 source, 4 target, 5 deed
noncomputable def b_a_step (fu : Nat) : SF := (sCons (sIf (tOrF (tNotF (truF (eCall cIsi (aCons (eVar 2) (aCons (eC (.ty "tuple")) aNil))))) (truB (eBin (gEqv true) (eCall cLen (aCons (eVar 2) aNil)) (eC (.int 3))))) (sCons (sRet (eC (.bl false))) sNil) sNil) (sCons (sAsg (.tp [3, 4, 5]) (eVar 2)) (sCons (sRet (eAnd (eCall (Com.c_a_number_below fu) (aCons (eVar 1) (aCons (eVar 3) aNil))) (eAnd (eCall (Com.c_a_number_below fu) (aCons (eVar 1) (aCons (eVar 4) aNil))) (eCall (Com.c_a_deed fu) (aCons (eVar 0) (aCons (eVar 5) aNil)))))) sNil)))
noncomputable def u_a_step (fu : Nat) : CF := fnF 3 6 (b_a_step fu)
noncomputable def c_a_step (fu : Nat) : CF := sealed (u_a_step fu)
-- _a_short_count: 0 word, 1 sign
noncomputable def b__a_short_count (fu : Nat) : SF := (sCons (sIf (tOrF (truB (eBin (gCmp2 (fun i j => decide (j < i)) fGt) (eCall cLen (aCons (eVar 0) aNil)) (eC (.int 3)))) (tAndF (truB (eBin (gCmp2 (fun i j => decide (j < i)) fGt) (eCall cLen (aCons (eVar 0) aNil)) (eC (.int 1)))) (truB (eBin (gEqv false) (eBin gIx (eVar 0) (eC (.int 0))) (eC (.str "0")))))) (sCons (sRet (eC (.bl false))) sNil) sNil) (sCons (sRet (eCall (cBools fun bs => bs.all id) (aCons (eComp false fu [1] (iAny (eVar 0)) (.nm 1) tYesF (eChain (gCmp2 (fun i j => decide (i ≤ j)) fLe) (gCmp2 (fun i j => decide (i ≤ j)) fLe) (eC (.str "0")) (eVar 1) (eC (.str "9")))) aNil))) sNil))
noncomputable def u__a_short_count (fu : Nat) : CF := fnF 1 2 (b__a_short_count fu)
noncomputable def c__a_short_count (fu : Nat) : CF := sealed (u__a_short_count fu)
-- a_name: 0 value, 1 letters
noncomputable def b_a_name (fu : Nat) : SF := (sCons (sIf (tNotF (truF (eCall cIsi (aCons (eVar 0) (aCons (eC (.ty "str")) aNil))))) (sCons (sRet (eC (.bl false))) sNil) sNil) (sCons (sSet 1 (eC (.int 0))) (sCons (whileL (tAndF (truB (eBin (gCmp2 (fun i j => decide (i < j)) fLt) (eVar 1) (eCall cLen (aCons (eVar 0) aNil)))) (truB (eChain (gCmp2 (fun i j => decide (i ≤ j)) fLe) (gCmp2 (fun i j => decide (i ≤ j)) fLe) (eC (.str "a")) (eBin gIx (eVar 0) (eVar 1)) (eC (.str "z"))))) (sCons (sAug 1 (fun i j => i + j) (eC (.int 1))) sNil) fu) (sCons (sRet (eAnd (eChain (gCmp2 (fun i j => decide (i ≤ j)) fLe) (gCmp2 (fun i j => decide (i ≤ j)) fLe) (eC (.int 1)) (eVar 1) (eC (.int 6))) (eCall (Com.c__a_short_count fu) (aCons (eSl false (eVar 0) (oSome (eVar 1)) oNone) aNil)))) sNil))))
noncomputable def u_a_name (fu : Nat) : CF := fnF 1 2 (b_a_name fu)
noncomputable def c_a_name (fu : Nat) : CF := sealed (u_a_name fu)
-- ascending: 0 values, 1 one, 2 other
noncomputable def b_ascending (fu : Nat) : SF := (sCons (sRet (eCall (cBools fun bs => bs.all id) (aCons (eComp false fu [1, 2] (iZipA2 (aCons (eVar 0) (aCons (eSl false (eVar 0) (oSome (eC (.int 1))) oNone) aNil))) (.tp [1, 2]) tYesF (eBin (gCmp2 (fun i j => decide (i < j)) fLt) (eVar 1) (eVar 2))) aNil))) sNil)
noncomputable def u_ascending (fu : Nat) : CF := fnF 1 3 (b_ascending fu)
noncomputable def c_ascending (fu : Nat) : CF := sealed (u_ascending fu)
-- some_names: 0 value, 1 name
noncomputable def b_some_names (fu : Nat) : SF := (sCons (sIf (tOrF (tNotF (truF (eCall cIsi (aCons (eVar 0) (aCons (eC (.ty "list")) aNil))))) (tNotF (truF (eVar 0)))) (sCons (sRet (eC (.bl false))) sNil) sNil) (sCons (sRet (eAnd (eCall (cBools fun bs => bs.all id) (aCons (eComp false fu [1] (iAny (eVar 0)) (.nm 1) tYesF (eCall (Com.c_a_name fu) (aCons (eVar 1) aNil))) aNil)) (eCall (Com.c_ascending fu) (aCons (eVar 0) aNil)))) sNil))
noncomputable def u_some_names (fu : Nat) : CF := fnF 1 2 (b_some_names fu)
noncomputable def c_some_names (fu : Nat) : CF := sealed (u_some_names fu)
-- some_ranges: 0 names, 1 value, 2 span
noncomputable def b_some_ranges (fu : Nat) : SF := (sCons (sIf (tOrF (tNotF (truF (eCall cIsi (aCons (eVar 1) (aCons (eC (.ty "list")) aNil))))) (truB (eBin (gEqv true) (eCall cLen (aCons (eVar 1) aNil)) (eCall cLen (aCons (eVar 0) aNil))))) (sCons (sRet (eC (.bl false))) sNil) sNil) (sCons (sRet (eCall (cBools fun bs => bs.all id) (aCons (eComp false fu [2] (iAny (eVar 1)) (.nm 2) tYesF (eCall (Com.c_a_range fu) (aCons (eVar 2) aNil))) aNil))) sNil))
noncomputable def u_some_ranges (fu : Nat) : CF := fnF 2 3 (b_some_ranges fu)
noncomputable def c_some_ranges (fu : Nat) : CF := sealed (u_some_ranges fu)
-- a_program: 0 value, 1 names, 2 many, 3 start, 4 steps, 5 step
noncomputable def b_a_program (fu : Nat) : SF := (sCons (sIf (tOrF (tNotF (truF (eCall cIsi (aCons (eVar 0) (aCons (eC (.ty "tuple")) aNil))))) (truB (eBin (gEqv true) (eCall cLen (aCons (eVar 0) aNil)) (eC (.int 4))))) (sCons (sRet (eC (.bl false))) sNil) sNil) (sCons (sAsg (.tp [1, 2, 3, 4]) (eVar 0)) (sCons (sIf (tOrF (tNotF (truF (eCall (Com.c_some_names fu) (aCons (eVar 1) aNil)))) (tOrF (tNotF (truF (eCall (Com.c_a_whole fu) (aCons (eVar 2) aNil)))) (tOrF (truB (eBin (gCmp2 (fun i j => decide (i < j)) fLt) (eVar 2) (eC (.int 1)))) (tNotF (truF (eCall (Com.c_some_ranges fu) (aCons (eVar 1) (aCons (eVar 3) aNil)))))))) (sCons (sRet (eC (.bl false))) sNil) sNil) (sCons (sRet (eAnd (eCall cIsi (aCons (eVar 4) (aCons (eC (.ty "list")) aNil))) (eCall (cBools fun bs => bs.all id) (aCons (eComp false fu [5] (iAny (eVar 4)) (.nm 5) tYesF (eCall (Com.c_a_step fu) (aCons (eVar 1) (aCons (eVar 2) (aCons (eVar 5) aNil))))) aNil)))) sNil))))
noncomputable def u_a_program (fu : Nat) : CF := fnF 1 6 (b_a_program fu)
noncomputable def c_a_program (fu : Nat) : CF := sealed (u_a_program fu)
-- need_program: 0 program
noncomputable def b_need_program (fu : Nat) : SF := (sCons (sIf (tNotF (truF (eCall (Com.c_a_program fu) (aCons (eVar 0) aNil)))) (sCons sStuck sNil) sNil) sNil)
noncomputable def u_need_program (fu : Nat) : CF := fnF 1 1 (b_need_program fu)
noncomputable def c_need_program (fu : Nat) : CF := sealed (u_need_program fu)
-- a_row: 0 program, 1 value
noncomputable def b_a_row (fu : Nat) : SF := (sCons (sRet (eCall (Com.c_some_ranges fu) (aCons (eBin gIx (eVar 0) (eC (.int 0))) (aCons (eVar 1) aNil)))) sNil)
noncomputable def u_a_row (fu : Nat) : CF := fnF 2 2 (b_a_row fu)
noncomputable def c_a_row (fu : Nat) : CF := sealed (u_a_row fu)
-- need_row: 0 program, 1 row
noncomputable def b_need_row (fu : Nat) : SF := (sCons (sIf (tNotF (truF (eCall (Com.c_a_row fu) (aCons (eVar 0) (aCons (eVar 1) aNil))))) (sCons sStuck sNil) sNil) sNil)
noncomputable def u_need_row (fu : Nat) : CF := fnF 2 2 (b_need_row fu)
noncomputable def c_need_row (fu : Nat) : CF := sealed (u_need_row fu)
-- _need_deed_and_row: 0 program, 1 deed, 2 row
-- _greater_low: 0 one, 1 other
noncomputable def b__greater_low (fu : Nat) : SF := (sCons (sIf (tOrF (truB (eBin (gIsN false) (eVar 0) (eC .non))) (truB (eBin (gIsN false) (eVar 1) (eC .non)))) (sCons (sRet (eIf (truB (eBin (gIsN false) (eVar 0) (eC .non))) (eVar 1) (eVar 0))) sNil) sNil) (sCons (sRet (eCall cMax (aCons (eVar 0) (aCons (eVar 1) aNil)))) sNil))
noncomputable def u__greater_low (fu : Nat) : CF := fnF 2 2 (b__greater_low fu)
noncomputable def c__greater_low (fu : Nat) : CF := sealed (u__greater_low fu)
-- _lesser_high: 0 one, 1 other
noncomputable def b__lesser_high (fu : Nat) : SF := (sCons (sIf (tOrF (truB (eBin (gIsN false) (eVar 0) (eC .non))) (truB (eBin (gIsN false) (eVar 1) (eC .non)))) (sCons (sRet (eIf (truB (eBin (gIsN false) (eVar 0) (eC .non))) (eVar 1) (eVar 0))) sNil) sNil) (sCons (sRet (eCall cMin (aCons (eVar 0) (aCons (eVar 1) aNil)))) sNil))
noncomputable def u__lesser_high (fu : Nat) : CF := fnF 2 2 (b__lesser_high fu)
noncomputable def c__lesser_high (fu : Nat) : CF := sealed (u__lesser_high fu)
-- met: 0 span, 1 other, 2 low, 3 high
noncomputable def b_met (fu : Nat) : SF := (sCons (sSet 2 (eCall (Com.c__greater_low fu) (aCons (eBin gIx (eVar 0) (eC (.int 0))) (aCons (eBin gIx (eVar 1) (eC (.int 0))) aNil)))) (sCons (sSet 3 (eCall (Com.c__lesser_high fu) (aCons (eBin gIx (eVar 0) (eC (.int 1))) (aCons (eBin gIx (eVar 1) (eC (.int 1))) aNil)))) (sCons (sIf (tAndF (truB (eBin (gIsN true) (eVar 2) (eC .non))) (tAndF (truB (eBin (gIsN true) (eVar 3) (eC .non))) (truB (eBin (gCmp2 (fun i j => decide (j < i)) fGt) (eVar 2) (eVar 3))))) (sCons (sRet (eC .non)) sNil) sNil) (sCons (sRet (eCall cTup (aCons (eVar 2) (aCons (eVar 3) aNil)))) sNil))))
noncomputable def u_met (fu : Nat) : CF := fnF 2 4 (b_met fu)
noncomputable def c_met (fu : Nat) : CF := sealed (u_met fu)
-- _cut_by_number: 0 names, 1 deed, 2 row, 3 at, 4 cut
-- end_plus: 0 end, 1 number
-- plus: 0 span, 1 number
-- _cut_by_pair: 0 names, 1 deed, 2 row, 3 first, 4 second, 5 above, 6 beneath, 7 cut
-- cut_row: 0 names, 1 deed, 2 row
-- can_hold: 0 program, 1 deed, 2 row
-- _greater_high: 0 one, 1 other
noncomputable def b__greater_high (fu : Nat) : SF := (sCons (sRet (eIf (tOrF (truB (eBin (gIsN false) (eVar 0) (eC .non))) (truB (eBin (gIsN false) (eVar 1) (eC .non)))) (eC .non) (eCall cMax (aCons (eVar 0) (aCons (eVar 1) aNil))))) sNil)
noncomputable def u__greater_high (fu : Nat) : CF := fnF 2 2 (b__greater_high fu)
noncomputable def c__greater_high (fu : Nat) : CF := sealed (u__greater_high fu)
-- greatest_of: 0 span, 1 other
-- has_sum: 0 deed
-- _lesser_low: 0 one, 1 other
noncomputable def b__lesser_low (fu : Nat) : SF := (sCons (sRet (eIf (tOrF (truB (eBin (gIsN false) (eVar 0) (eC .non))) (truB (eBin (gIsN false) (eVar 1) (eC .non)))) (eC .non) (eCall cMin (aCons (eVar 0) (aCons (eVar 1) aNil))))) sNil)
noncomputable def u__lesser_low (fu : Nat) : CF := fnF 2 2 (b__lesser_low fu)
noncomputable def c__lesser_low (fu : Nat) : CF := sealed (u__lesser_low fu)
-- least_of: 0 span, 1 other
-- _end_turned: 0 end, 1 number
-- turned_about: 0 span, 1 number
-- sum_span: 0 names, 1 deed, 2 row, 3 word, 4 second
-- _span_made: 0 names, 1 deed, 2 row, 3 second, 4 third
-- row_behind: 0 names, 1 deed, 2 row, 3 behind
-- comes_of: 0 program, 1 deed, 2 row
-- _law_wider: 0 generator, 1 row, 2 found, 3 low, 4 high, 5 way
noncomputable def b__law_wider (fu : Nat) : SF := (sCons (sSet 2 (eCall (cLst true) aNil)) (sCons (sFor fu (.tp [3, 4]) (iAny (eVar 1)) (sCons (sSet 5 (eCall (Com.c__law_random fu) (aCons (eVar 0) (aCons (eC (.int 5)) aNil)))) (sCons (sDrop (eMethL mAppend (eVar 2) (aCons (eCall cTup (aCons (eIf (tOrF (truB (eBin (gEqv false) (eVar 5) (eC (.int 0)))) (truB (eBin (gIsN false) (eVar 3) (eC .non)))) (eC .non) (eBin gSub (eVar 3) (eBin (gArith fDiv) (eVar 5) (eC (.int 3))))) (aCons (eIf (tOrF (truB (eBin (gEqv false) (eVar 5) (eC (.int 1)))) (truB (eBin (gIsN false) (eVar 4) (eC .non)))) (eC .non) (eBin (gAdd false) (eVar 4) (eBin (gArith fDiv) (eVar 5) (eC (.int 4))))) aNil))) aNil))) sNil))) (sCons (sRet (eVar 2)) sNil)))
noncomputable def u__law_wider (fu : Nat) : CF := fnF 2 6 (b__law_wider fu)
noncomputable def c__law_wider (fu : Nat) : CF := sealed (u__law_wider fu)
-- _need_rows: 0 program, 1 row, 2 other
noncomputable def b__need_rows (fu : Nat) : SF := (sCons (sDrop (eCall (Com.c_need_program fu) (aCons (eVar 0) aNil))) (sCons (sDrop (eCall (Com.c_need_row fu) (aCons (eVar 0) (aCons (eVar 1) aNil)))) (sCons (sDrop (eCall (Com.c_need_row fu) (aCons (eVar 0) (aCons (eVar 2) aNil)))) sNil)))
noncomputable def u__need_rows (fu : Nat) : CF := fnF 3 3 (b__need_rows fu)
noncomputable def c__need_rows (fu : Nat) : CF := sealed (u__need_rows fu)
-- joined: 0 span, 1 other
noncomputable def b_joined (fu : Nat) : SF := (sCons (sRet (eCall cTup (aCons (eCall (Com.c__lesser_low fu) (aCons (eBin gIx (eVar 0) (eC (.int 0))) (aCons (eBin gIx (eVar 1) (eC (.int 0))) aNil))) (aCons (eCall (Com.c__greater_high fu) (aCons (eBin gIx (eVar 0) (eC (.int 1))) (aCons (eBin gIx (eVar 1) (eC (.int 1))) aNil))) aNil)))) sNil)
noncomputable def u_joined (fu : Nat) : CF := fnF 2 2 (b_joined fu)
noncomputable def c_joined (fu : Nat) : CF := sealed (u_joined fu)
-- joined_rows: 0 row, 1 other, 2 span, 3 beside
noncomputable def b_joined_rows (fu : Nat) : SF := (sCons (sRet (eComp false fu [2, 3] (iZipA2 (aCons (eVar 0) (aCons (eVar 1) aNil))) (.tp [2, 3]) tYesF (eCall (Com.c_joined fu) (aCons (eVar 2) (aCons (eVar 3) aNil))))) sNil)
noncomputable def u_joined_rows (fu : Nat) : CF := fnF 2 4 (b_joined_rows fu)
noncomputable def c_joined_rows (fu : Nat) : CF := sealed (u_joined_rows fu)
-- row_joined: 0 program, 1 row, 2 other
noncomputable def b_row_joined (fu : Nat) : SF := (sCons (sDrop (eCall (Com.c__need_rows fu) (aCons (eVar 0) (aCons (eVar 1) (aCons (eVar 2) aNil))))) (sCons (sRet (eCall (Com.c_joined_rows fu) (aCons (eVar 1) (aCons (eVar 2) aNil)))) sNil))
noncomputable def u_row_joined (fu : Nat) : CF := fnF 3 3 (b_row_joined fu)
noncomputable def c_row_joined (fu : Nat) : CF := sealed (u_row_joined fu)
-- met_rows: 0 row, 1 other, 2 both, 3 span, 4 beside
noncomputable def b_met_rows (fu : Nat) : SF := (sCons (sSet 2 (eComp false fu [3, 4] (iZipA2 (aCons (eVar 0) (aCons (eVar 1) aNil))) (.tp [3, 4]) tYesF (eCall (Com.c_met fu) (aCons (eVar 3) (aCons (eVar 4) aNil))))) (sCons (sRet (eIf (truB (eBin (gIn2 false) (eC .non) (eVar 2))) (eC .non) (eVar 2))) sNil))
noncomputable def u_met_rows (fu : Nat) : CF := fnF 2 5 (b_met_rows fu)
noncomputable def c_met_rows (fu : Nat) : CF := sealed (u_met_rows fu)
-- row_met: 0 program, 1 row, 2 other
noncomputable def b_row_met (fu : Nat) : SF := (sCons (sDrop (eCall (Com.c__need_rows fu) (aCons (eVar 0) (aCons (eVar 1) (aCons (eVar 2) aNil))))) (sCons (sRet (eCall (Com.c_met_rows fu) (aCons (eVar 1) (aCons (eVar 2) aNil)))) sNil))
noncomputable def u_row_met (fu : Nat) : CF := fnF 3 3 (b_row_met fu)
noncomputable def c_row_met (fu : Nat) : CF := sealed (u_row_met fu)
-- lies_within: 0 span, 1 other, 2 low, 3 high
noncomputable def b_lies_within (fu : Nat) : SF := (sCons (sAsg (.tp [2, 3]) (eVar 1)) (sCons (sIf (tAndF (truB (eBin (gIsN true) (eVar 2) (eC .non))) (tOrF (truB (eBin (gIsN false) (eBin gIx (eVar 0) (eC (.int 0))) (eC .non))) (truB (eBin (gCmp2 (fun i j => decide (i < j)) fLt) (eBin gIx (eVar 0) (eC (.int 0))) (eVar 2))))) (sCons (sRet (eC (.bl false))) sNil) sNil) (sCons (sRet (eOr (eBin (gIsN false) (eVar 3) (eC .non)) (eAnd (eBin (gIsN true) (eBin gIx (eVar 0) (eC (.int 1))) (eC .non)) (eBin (gCmp2 (fun i j => decide (i ≤ j)) fLe) (eBin gIx (eVar 0) (eC (.int 1))) (eVar 3))))) sNil)))
noncomputable def u_lies_within (fu : Nat) : CF := fnF 2 4 (b_lies_within fu)
noncomputable def c_lies_within (fu : Nat) : CF := sealed (u_lies_within fu)
-- within_row: 0 row, 1 other, 2 span, 3 beside
noncomputable def b_within_row (fu : Nat) : SF := (sCons (sRet (eCall (cBools fun bs => bs.all id) (aCons (eComp false fu [2, 3] (iZipA2 (aCons (eVar 0) (aCons (eVar 1) aNil))) (.tp [2, 3]) tYesF (eCall (Com.c_lies_within fu) (aCons (eVar 2) (aCons (eVar 3) aNil)))) aNil))) sNil)
noncomputable def u_within_row (fu : Nat) : CF := fnF 2 4 (b_within_row fu)
noncomputable def c_within_row (fu : Nat) : CF := sealed (u_within_row fu)
-- row_within: 0 program, 1 row, 2 other
noncomputable def b_row_within (fu : Nat) : SF := (sCons (sDrop (eCall (Com.c__need_rows fu) (aCons (eVar 0) (aCons (eVar 1) (aCons (eVar 2) aNil))))) (sCons (sRet (eCall (Com.c_within_row fu) (aCons (eVar 1) (aCons (eVar 2) aNil)))) sNil))
noncomputable def u_row_within (fu : Nat) : CF := fnF 3 3 (b_row_within fu)
noncomputable def c_row_within (fu : Nat) : CF := sealed (u_row_within fu)
-- a_table: 0 program, 1 value, 2 row
noncomputable def b_a_table (fu : Nat) : SF := (sCons (sIf (tOrF (tNotF (truF (eCall cIsi (aCons (eVar 1) (aCons (eC (.ty "list")) aNil))))) (truB (eBin (gEqv true) (eCall cLen (aCons (eVar 1) aNil)) (eBin gIx (eVar 0) (eC (.int 1)))))) (sCons (sRet (eC (.bl false))) sNil) sNil) (sCons (sRet (eCall (cBools fun bs => bs.all id) (aCons (eComp false fu [2] (iAny (eVar 1)) (.nm 2) tYesF (eOr (eBin (gIsN false) (eVar 2) (eC .non)) (eCall (Com.c_a_row fu) (aCons (eVar 0) (aCons (eVar 2) aNil))))) aNil))) sNil))
noncomputable def u_a_table (fu : Nat) : CF := fnF 2 3 (b_a_table fu)
noncomputable def c_a_table (fu : Nat) : CF := sealed (u_a_table fu)
-- need_table: 0 program, 1 table
noncomputable def b_need_table (fu : Nat) : SF := (sCons (sIf (tNotF (truF (eCall (Com.c_a_table fu) (aCons (eVar 0) (aCons (eVar 1) aNil))))) (sCons sStuck sNil) sNil) sNil)
noncomputable def u_need_table (fu : Nat) : CF := fnF 2 2 (b_need_table fu)
noncomputable def c_need_table (fu : Nat) : CF := sealed (u_need_table fu)
-- _need_tables: 0 program, 1 table, 2 other
noncomputable def b__need_tables (fu : Nat) : SF := (sCons (sDrop (eCall (Com.c_need_program fu) (aCons (eVar 0) aNil))) (sCons (sDrop (eCall (Com.c_need_table fu) (aCons (eVar 0) (aCons (eVar 1) aNil)))) (sCons (sDrop (eCall (Com.c_need_table fu) (aCons (eVar 0) (aCons (eVar 2) aNil)))) sNil)))
noncomputable def u__need_tables (fu : Nat) : CF := fnF 3 3 (b__need_tables fu)
noncomputable def c__need_tables (fu : Nat) : CF := sealed (u__need_tables fu)
-- copied_row: 0 row
-- joined_at_place: 0 row, 1 other
-- table_joined: 0 program, 1 table, 2 other, 3 row, 4 beside
-- met_at_place: 0 row, 1 other
-- table_met: 0 program, 1 table, 2 other, 3 row, 4 beside
-- within_at_place: 0 row, 1 other
noncomputable def b_within_at_place (fu : Nat) : SF := (sCons (sRet (eOr (eBin (gIsN false) (eVar 0) (eC .non)) (eAnd (eBin (gIsN true) (eVar 1) (eC .non)) (eCall (Com.c_within_row fu) (aCons (eVar 0) (aCons (eVar 1) aNil)))))) sNil)
noncomputable def u_within_at_place (fu : Nat) : CF := fnF 2 2 (b_within_at_place fu)
noncomputable def c_within_at_place (fu : Nat) : CF := sealed (u_within_at_place fu)
-- within_table: 0 table, 1 other, 2 row, 3 beside
noncomputable def b_within_table (fu : Nat) : SF := (sCons (sRet (eCall (cBools fun bs => bs.all id) (aCons (eComp false fu [2, 3] (iZipA2 (aCons (eVar 0) (aCons (eVar 1) aNil))) (.tp [2, 3]) tYesF (eCall (Com.c_within_at_place fu) (aCons (eVar 2) (aCons (eVar 3) aNil)))) aNil))) sNil)
noncomputable def u_within_table (fu : Nat) : CF := fnF 2 4 (b_within_table fu)
noncomputable def c_within_table (fu : Nat) : CF := sealed (u_within_table fu)
-- table_within: 0 program, 1 table, 2 other
noncomputable def b_table_within (fu : Nat) : SF := (sCons (sDrop (eCall (Com.c__need_tables fu) (aCons (eVar 0) (aCons (eVar 1) (aCons (eVar 2) aNil))))) (sCons (sRet (eCall (Com.c_within_table fu) (aCons (eVar 1) (aCons (eVar 2) aNil)))) sNil))
noncomputable def u_table_within (fu : Nat) : CF := fnF 3 3 (b_table_within fu)
noncomputable def c_table_within (fu : Nat) : CF := sealed (u_table_within fu)
-- _law_cut: 0 pairs, 1 limit, 2 low, 3 high
-- _law_numbers: 0 program, 1 spans, 2 found, 3 source, 4 target, 5 deed, 6 low, 7 high, 8 part, 9 end
-- _law_greatest: 0 program
-- _law_join: 0 one, 1 two, 2 at
-- _law_closed: 0 program, 1 table, 2 ends, 3 row, 4 low, 5 high, 6 limit, 7 found, 8 turn, 9 before, 10 source, 11 target, 12 deed, 13 item, 14 end
-- _law_inside: 0 one, 1 two, 2 at
-- _law_led: 0 program, 1 table, 2 found, 3 source, 4 target, 5 deed
-- _law_told: 0 table, 1 pairs
-- _law_judged: 0 program, 1 table, 2 comes, 3 loose, 4 begins, 5 holding, 6 step, 7 at
-- _law_moved: 0 generator, 1 table, 2 place, 3 pairs, 4 at, 5 low, 6 high
-- _law_range__1: 0 generator, 1 most, 2 low, 3 high, 4 way
-- _law_deed__1: 0 generator, 1 names, 2 most, 3 x, 4 y, 5 z, 6 number, 7 way, 8 menu, 9 other, 10 at, 11 name
-- _law_program: 0 generator, 1 most, 2 wide, 3 long, 4 names, 5 many, 6 start, 7 steps, 8 reached, 9 at, 10 source, 11 target, 12 name
-- _law_table: 0 generator, 1 program, 2 found, 3 place, 4 row, 5 name
-- a_step_number: 0 program, 1 value
-- need_step: 0 program, 1 step
-- row_by_step: 0 program, 1 step, 2 table, 3 source, 4 _, 5 deed
-- comes_by: 0 program, 1 step, 2 table
-- steps_holding: 0 program, 1 table, 2 step
-- holding_at: 0 program, 1 table
-- holds_start_row: 0 program, 1 table
-- holds_start: 0 program, 1 table
-- steps_not_kept: 0 program, 1 table, 2 amiss, 3 step, 4 target
-- kept_table: 0 program, 1 table
-- is_kept: 0 program, 1 table
-- table_led: 0 program, 1 table, 2 led, 3 step, 4 target
-- led_by: 0 program, 1 table
-- not_kept: 0 program, 1 table
-- end_of: 0 program, 1 table, 2 bound, 3 place, 4 name, 5 side, 6 low, 7 high
-- a_name_of: 0 program, 1 value
-- a_place: 0 program, 1 value
-- a_side: 0 value
-- a_bound: 0 program, 1 value, 2 place, 3 name, 4 side
-- need_bound: 0 program, 1 bound
-- end_at: 0 program, 1 table, 2 bound
-- _law_number__1: 0 generator
-- _law_end: 0 generator, 1 way
-- _law_range__2: 0 generator, 1 low, 2 high
-- _law_deed__2: 0 generator, 1 names, 2 word, 3 one, 4 two, 5 three, 6 turn
-- _law_names__1: 0 generator
-- _law_program__1: 0 generator, 1 names, 2 many, 3 start, 4 steps, 5 turn, 6 name
-- is_test: 0 program, 1 step
-- written_name: 0 deed
-- written_by: 0 program, 1 step
-- _law_table__1: 0 generator, 1 program, 2 found, 3 place, 4 row, 5 name
-- need_place: 0 program, 1 place
-- steps_into: 0 program, 1 place, 2 number, 3 step
-- steps_out: 0 program, 1 place, 2 number, 3 step
-- _law_lies: 0 span, 1 number
-- _law_comes_to: 0 names, 1 deed, 2 numbers, 3 name, 4 number, 5 read, 6 part
-- _law_whole: 0 value
-- _law_judged__1: 0 names, 1 deed, 2 row, 3 name, 4 number, 5 value, 6 item, 7 span
-- need_name: 0 program, 1 name
-- need_number: 0 number
-- any_number: 0 span, 1 low, 2 high
-- holds: 0 span, 1 number, 2 low, 3 high
-- number_made: 0 names, 1 deed, 2 numbers, 3 given, 4 word, 5 second, 6 third
-- width_needed: 0 number
-- row_holds: 0 row, 1 numbers, 2 span, 3 number
-- some_numbers: 0 program, 1 value, 2 number
-- _law_deed__3: 0 generator, 1 names, 2 way, 3 x, 4 y, 5 c, 6 small
-- _law_program__2: 0 generator, 1 most, 2 places, 3 most_steps, 4 names, 5 steps, 6 many, 7 start, 8 name, 9 low, 10 x, 11 y, 12 turn, 13 sources, 14 step
-- _law_made: 0 names, 1 numbers, 2 deed, 3 number, 4 found, 5 other, 6 pair
-- _law_behind__1: 0 program, 1 state, 2 move, 3 source, 4 target, 5 deed
-- _law_same: 0 told, 1 due
-- a_state: 0 program, 1 value
-- need_state: 0 program, 1 state
-- _law_firsts: 0 program, 1 found, 2 low, 3 high, 4 longer, 5 row, 6 number
-- _law_table__2: 0 generator, 1 program, 2 states, 3 table, 4 place, 5 here, 6 row, 7 at, 8 low, 9 high, 10 mate, 11 numbers
-- table_holds: 0 table, 1 state, 2 place, 3 numbers
-- holds_state: 0 program, 1 table, 2 state
end Com
namespace Lv
open PySem PySem.Spec PyProof.Rows L2
mutual
def below (n : Nat) : D → Bool
  | .ty _ => true
  | .kl ds => belows n ds
  | .vl ds => belows n ds
  | .non => true
  | .bl _ => true
  | .int _ => true
  | .str _ => true
  | .tup ds => belows n ds
  | .ref k => decide (k < n)
def belows (n : Nat) : List D → Bool
  | [] => true
  | d :: ds => below n d && belows n ds
end
mutual
theorem below_is {n : Nat} : ∀ d : D, below n d = true → Below n d
  | .ty s, _ => .ty s
  | .kl ds, h => .kl ds (belows_is ds h)
  | .vl ds, h => .vl ds (belows_is ds h)
  | .non, _ => .non
  | .bl b, _ => .bl b
  | .int i, _ => .int i
  | .str x, _ => .str x
  | .tup ds, h => .tup ds (belows_is ds h)
  | .ref k, h => .ref k (of_decide_eq_true h)
theorem belows_is {n : Nat} : ∀ ds : List D, belows n ds = true → ∀ d ∈ ds, Below n d
  | [], _ => fun d hd => by cases hd
  | e :: es, h => fun d hd => by
    have h' : below n e = true ∧ belows n es = true := by
      rw [← Bool.and_eq_true]; exact h
    have h1 := below_is (n := n) e h'.1
    have h2 := belows_is (n := n) es h'.2
    rcases List.mem_cons.mp hd with rfl | hd
    · exact h1
    · exact h2 d hd
end
mutual
theorem below_nr {n : Nat} : ∀ d : D, noRef d = true → below n d = true
  | .ty s, _ => rfl
  | .kl ds, h => belows_nr ds h
  | .vl ds, h => belows_nr ds h
  | .non, _ => rfl
  | .bl b, _ => rfl
  | .int i, _ => rfl
  | .str x, _ => rfl
  | .tup ds, h => belows_nr ds h
  | .ref k, h => by cases h
theorem belows_nr {n : Nat} : ∀ ds : List D, noRefs ds = true → belows n ds = true
  | [], _ => rfl
  | e :: es, h => by
    have h' : noRef e = true ∧ noRefs es = true := by
      rw [← Bool.and_eq_true]; exact h
    show (below n e && belows n es) = true
    rw [below_nr e h'.1, belows_nr es h'.2]
    rfl
end
def OldB (S0 S : Sto) : Prop := S0.length ≤ S.length ∧ ∀ i, i < S0.length → S[i]? = S0[i]? ∨ ∃ ds, S[i]? = some (.lst ds) ∧ belows S0.length ds = true
def reach (n0 : Nat) (S : Sto) : Nat → D → List Nat → List Nat
  | 0, _, acc => acc
  | k + 1, d, acc => match d with
    | .ref n => if n < n0 ∨ n ∈ acc then acc else (match S[n]? with
      | some (.lst ds) => ds.foldl (fun a e => reach n0 S k e a) (acc ++ [n])
      | _ => acc)
    | .tup ds => if noRefs ds then acc else ds.foldl (fun a e => reach n0 S k e a) acc
    | _ => acc
mutual
def ren (n0 : Nat) (π : List Nat) : D → Option D
  | .ref n => if n < n0 then some (.ref n) else (match π.idxOf? n with
    | some j => some (.ref (n0 + j))
    | none => none)
  | .tup ds => (match rens n0 π ds with
    | some es => some (.tup es)
    | none => none)
  | .vl ds => if noRefs ds then some (.vl ds) else none
  | .kl ds => if noRefs ds then some (.kl ds) else none
  | .ty s => some (.ty s)
  | .non => some .non
  | .bl b => some (.bl b)
  | .int i => some (.int i)
  | .str x => some (.str x)
def rens (n0 : Nat) (π : List Nat) : List D → Option (List D)
  | [] => some []
  | d :: ds => (match ren n0 π d with
    | some e => (match rens n0 π ds with
      | some es => some (e :: es)
      | none => none)
    | none => none)
end
def renC (n0 : Nat) (π : List Nat) (S : Sto) (n : Nat) : Option Cell := match S[n]? with
  | some (.lst ds) => (match rens n0 π ds with
    | some es => some (.lst es)
    | none => none)
  | _ => none
open Classical in
noncomputable def shutB (S0 : Sto) (z : D) (S : Sto) : Option (D × Sto) := if OldB S0 S then (match fz S0.length S 20 z with
  | some z' => some (z', S.take S0.length)
  | none => none) else none
open Classical in
noncomputable def shutW (S0 : Sto) (z : D) (S : Sto) : Option (D × Sto) := if OldB S0 S ∧ (reach S0.length S 20 z []).Nodup ∧ ∀ n ∈ reach S0.length S 20 z [], S0.length ≤ n then (match ren S0.length (reach S0.length S 20 z []) z, mapO (renC S0.length (reach S0.length S 20 z []) S) (reach S0.length S 20 z []) with
  | some z', some cs => some (z', S.take S0.length ++ cs)
  | _, _ => none) else none
section
variable {K : PySem.W.Frag} {ρ ρ' : List Addr} {H H' : Hp} {S S' S0 : Sto} {v : V} {z z' : D}
theorem cells_takeB (r : Rel K ρ H S0) (e : Ext ρ H ρ' H') (r' : Rel K ρ' H' S) (ho : OldB S0 S) {ρ2 : List Addr} (hb : ∀ (k : Nat) a, k < ρ.length → ρ'[k]? = some a → ρ2[k]? = some a) (hs : ∀ a, a ∈ ρ2 → a ∈ ρ') :
    ∀ (n : Nat) a c, ρ[n]? = some a → (S.take S0.length)[n]? = some c → CellOk K ρ2 H' a c := by
  intro n a c h1 h2
  have hn : n < ρ.length := (List.getElem?_eq_some_iff.mp h1).1
  have hn0 : n < S0.length := by rw [← r.len]; exact hn
  rw [List.getElem?_take, if_pos hn0] at h2
  have q := r'.cell n a c (e.get h1) h2
  have below : ∀ d ∈ c.items, Below ρ.length d := by
    rcases ho.2 n hn0 with h | ⟨ds, h, hr⟩
    · rw [h2] at h
      have q0 := r.cell n a c h1 h.symm
      cases c with
      | lst ds => obtain ⟨xs, _, q0⟩ := q0; exact all_at q0.len fun i x d a b => below_rd (q0.at_ i x d a b)
      | frz ds => obtain ⟨xs, _, _, q0⟩ := q0; exact all_at q0.len fun i x d a b => below_rd (q0.at_ i x d a b)
    · rw [h2] at h
      cases h
      rw [← r.len] at hr
      exact belows_is ds hr
  cases c with
  | lst ds => obtain ⟨xs, e1, q⟩ := q; exact ⟨xs, e1, q.len, fun i x d a b => (q.at_ i x d a b).change hb hs (below d (List.mem_of_getElem? b))⟩
  | frz ds => obtain ⟨xs, o, e1, q⟩ := q; exact ⟨xs, o, e1, q.len, fun i x d a b => (q.at_ i x d a b).change hb hs (below d (List.mem_of_getElem? b))⟩
theorem take_lenB (r : Rel K ρ H S0) (ho : OldB S0 S) : (S.take S0.length).length = ρ.length := by rw [List.length_take, r.len]; exact Nat.min_eq_left ho.1
theorem rel_takeB (r : Rel K ρ H S0) (e : Ext ρ H ρ' H') (r' : Rel K ρ' H' S) (ho : OldB S0 S) : Rel K ρ H' (S.take S0.length) := by
  have hc := cells_takeB r e r' ho (ρ2 := ρ)
  obtain ⟨more, rfl⟩ := e.pre
  exact ⟨(take_lenB r ho).symm, r.nd, hc (fun k a hk q => by rw [List.getElem?_append_left hk] at q; exact q) fun a ha => List.mem_append_left _ ha⟩
theorem sealB_ok (r : Rel K ρ H S0) (e : Ext ρ H ρ' H') (r' : Rel K ρ' H' S) (hv : RD K ρ' H' v z) (hs : shutB S0 z S = some (z', S')) : Ext ρ H ρ H' ∧ Rel K ρ H' S' ∧ RD K ρ H' v z' := by
  unfold shutB at hs
  split at hs
  · rename_i ho
    split at hs
    · rename_i z2 hz
      cases hs
      refine ⟨e.back, rel_takeB r e r' ho, ?_⟩
      obtain ⟨more, rfl⟩ := e.pre
      rw [← r.len] at hz
      exact fz_rd r' _ v z z' hv hz
    · cases hs
  · cases hs
theorem idx_get {π : List Nat} {n j : Nat} (h : π.idxOf? n = some j) : π[j]? = some n := by
  unfold List.idxOf? at h
  obtain ⟨h1, h2, _⟩ := List.findIdx?_eq_some_iff_getElem.mp h
  rw [List.getElem?_eq_getElem h1]
  exact congrArg some (eq_of_beq h2)
mutual
theorem ren_rd {π : List Nat} {ρ2 : List Addr} {n0 : Nat} (h1 : ∀ (k : Nat) a, k < n0 → ρ'[k]? = some a → ρ2[k]? = some a) (h2 : ∀ (j n : Nat) a, π[j]? = some n → ρ'[n]? = some a → ρ2[n0 + j]? = some a) (hs : ∀ a, a ∈ ρ2 → a ∈ ρ') : ∀ (d : D) (v : V) (d' : D), RD K ρ' H v d → ren n0 π d = some d' → RD K ρ2 H v d'
  | .ref n, v, d', hv, h => by
    unfold ren at h
    cases hv with
    | ref hr =>
      split at h
      · rename_i hlt
        cases h
        exact .ref (h1 _ _ hlt hr)
      · split at h
        · rename_i j hj
          cases h
          exact .ref (h2 _ _ _ (idx_get hj) hr)
        · cases h
  | .tup ds, v, d', hv, h => by
    unfold ren at h
    split at h
    · rename_i es he
      cases h
      cases hv with
      | tup hq hl ha =>
        have q := rens_rd h1 h2 hs ds _ es ⟨hl, ha⟩ he
        exact .tup hq q.len q.at_
    · cases h
  | .vl ds, v, d', hv, h => by
    unfold ren at h
    split at h
    · rename_i hn
      cases h
      exact hv.change (n := 0) (fun k a hk => by omega) hs (nr_below (.vl ds) hn)
    · cases h
  | .kl ds, v, d', hv, h => by
    unfold ren at h
    split at h
    · rename_i hn
      cases h
      exact hv.change (n := 0) (fun k a hk => by omega) hs (nr_below (.kl ds) hn)
    · cases h
  | .ty s, v, d', hv, h => by cases h; cases hv; exact .ty _
  | .non, v, d', hv, h => by cases h; cases hv; exact .non
  | .bl b, v, d', hv, h => by cases h; cases hv; exact .bl _
  | .int i, v, d', hv, h => by cases h; cases hv; exact .int _
  | .str x, v, d', hv, h => by cases h; cases hv; exact .str _
theorem rens_rd {π : List Nat} {ρ2 : List Addr} {n0 : Nat} (h1 : ∀ (k : Nat) a, k < n0 → ρ'[k]? = some a → ρ2[k]? = some a) (h2 : ∀ (j n : Nat) a, π[j]? = some n → ρ'[n]? = some a → ρ2[n0 + j]? = some a) (hs : ∀ a, a ∈ ρ2 → a ∈ ρ') : ∀ (ds : List D) (vs : List V) (es : List D), RDs K ρ' H vs ds → rens n0 π ds = some es → RDs K ρ2 H vs es
  | [], vs, es, hv, h => by
    cases h
    exact ⟨hv.len, fun i x d _ hd => by simp at hd⟩
  | d :: ds, vs, es, hv, h => by
    unfold rens at h
    split at h
    · rename_i e0 he
      split at h
      · rename_i es0 hes
        cases h
        cases vs with
        | nil => have := hv.len; simp at this
        | cons x xs =>
          have q0 := ren_rd h1 h2 hs d x e0 (hv.at_ 0 x d rfl rfl) he
          have q1 := rens_rd h1 h2 hs ds xs es0 ⟨by have := hv.len; simpa using this, fun i y d hy hd => hv.at_ (i + 1) y d hy hd⟩ hes
          refine ⟨by simp [q1.len], fun i y d hy hd => ?_⟩
          cases i with
          | zero => cases hy; cases hd; exact q0
          | succ i => exact q1.at_ i y d hy hd
      · cases h
    · cases h
end
theorem mapO_get {α β : Type} {f : α → Option β} : ∀ {xs : List α} {ys : List β}, mapO f xs = some ys → ∀ (i : Nat) x, xs[i]? = some x → ∃ y, ys[i]? = some y ∧ f x = some y
  | [], ys, h, i, x, hx => by simp at hx
  | x0 :: xs, zs, h, i, x, hx => by
    obtain ⟨y0, ys, h1, h2, rfl⟩ := mapO_cons h
    cases i with
    | zero => cases hx; exact ⟨y0, rfl, h1⟩
    | succ i => exact mapO_get h2 i x hx
theorem sealW_ok (r : Rel K ρ H S0) (e : Ext ρ H ρ' H') (r' : Rel K ρ' H' S) (hv : RD K ρ' H' v z) (hs : shutW S0 z S = some (z', S')) : ∃ ρ2, Ext ρ H ρ2 H' ∧ Rel K ρ2 H' S' ∧ RD K ρ2 H' v z' := by
  unfold shutW at hs
  split at hs
  · rename_i hc
    obtain ⟨ho, hnd, hge⟩ := hc
    generalize reach S0.length S 20 z [] = π at *
    split at hs
    · rename_i z2 cs hz hcs
      cases hs
      have hl := take_lenB r ho
      have hlt : ∀ n ∈ π, n < ρ'.length := fun n hn => by
        obtain ⟨i, hi⟩ := List.getElem?_of_mem hn
        obtain ⟨c, _, hc⟩ := mapO_get hcs i n hi
        unfold renC at hc
        split at hc
        · rename_i ds hd
          rw [r'.len]
          exact (List.getElem?_eq_some_iff.mp hd).1
        · cases hc
      let q : List Addr := π.pmap (fun n (h : n < ρ'.length) => ρ'[n]) hlt
      have hq : ∀ (j n : Nat) a, π[j]? = some n → ρ'[n]? = some a → q[j]? = some a := fun j n a hj ha => by
        have hj' := (List.getElem?_eq_some_iff.mp hj)
        have hj2 : j < q.length := by rw [show q.length = π.length from List.length_pmap]; exact hj'.1
        rw [List.getElem?_eq_getElem hj2]
        have hn : n < ρ'.length := (List.getElem?_eq_some_iff.mp ha).1
        have h3 := (List.getElem?_eq_some_iff.mp ha).2
        congr 1
        have hj1 : j < π.length := hj'.1
        have h4 : q[j] = ρ'[π[j]]'(hlt _ (List.getElem_mem hj1)) := List.getElem_pmap ..
        rw [h4, ← h3]
        congr 1
        exact hj'.2
      have hql : q.length = π.length := List.length_pmap
      have hqm : ∀ a ∈ q, ∃ n ∈ π, ρ'[n]? = some a := fun a ha => by
        obtain ⟨n, hn, he⟩ := List.mem_pmap.mp ha
        exact ⟨n, hn, by rw [List.getElem?_eq_getElem (hlt n hn), he]⟩
      have hqn : q.Nodup := by
        have hnd' : π.Pairwise (· ≠ ·) := hnd
        show (π.pmap _ hlt).Pairwise (· ≠ ·)
        rw [List.pairwise_pmap]
        exact hnd'.imp fun hab _ _ he => hab ((List.getElem_inj r'.nd).mp he)
      have hdj : ∀ a ∈ q, a ∉ ρ := fun a ha hm => by
        obtain ⟨n, hn, he⟩ := hqm a ha
        obtain ⟨more, rfl⟩ := e.pre
        exact nodup_app_notin r'.nd (by rw [r.len]; exact hge n hn) he hm
      have hsub : ∀ a, a ∈ ρ ++ q → a ∈ ρ' := fun a ha => by
        rcases List.mem_append.mp ha with h0 | h0
        · obtain ⟨more, he⟩ := e.pre
          rw [he]
          exact List.mem_append_left _ h0
        · obtain ⟨n, hn, he⟩ := hqm a h0
          exact List.mem_of_getElem? he
      have hb : ∀ (k : Nat) a, k < ρ.length → ρ'[k]? = some a → (ρ ++ q)[k]? = some a := fun k a hk hk2 => by
        obtain ⟨more, rfl⟩ := e.pre
        rw [List.getElem?_append_left hk] at hk2 ⊢
        exact hk2
      have hb0 : ∀ (k : Nat) a, k < S0.length → ρ'[k]? = some a → (ρ ++ q)[k]? = some a := fun k a hk => hb k a (by rw [r.len]; exact hk)
      have hp : ∀ (j n : Nat) a, π[j]? = some n → ρ'[n]? = some a → (ρ ++ q)[S0.length + j]? = some a := fun j n a hj ha => by
        rw [← r.len, List.getElem?_append_right (by omega), Nat.add_sub_cancel_left]
        exact hq j n a hj ha
      have hct := cells_takeB r e r' ho hb hsub
      have hcl := mapO_len hcs
      refine ⟨ρ ++ q, ⟨⟨q, rfl⟩, fun p hp' hn => e.new p (hsub p hp') hn, fun b o hbo hn => e.keep b o hbo hn⟩, ⟨?_, ?_, fun n a c k1 k2 => ?_⟩, ren_rd hb0 hp hsub z v _ hv hz⟩
      · rw [List.length_append, List.length_append, hl, hql, hcl]
      · rw [List.nodup_append]
        exact ⟨r.nd, hqn, fun a ha b hb' hab => hdj b hb' (hab ▸ ha)⟩
      · by_cases hi : n < ρ.length
        · rw [List.getElem?_append_left hi] at k1
          rw [List.getElem?_append_left (by rw [hl]; exact hi)] at k2
          exact hct n a c k1 k2
        · rw [List.getElem?_append_right (by omega)] at k1
          rw [List.getElem?_append_right (by rw [hl]; omega), hl] at k2
          have hj : n - ρ.length < π.length := by rw [← hql]; exact (List.getElem?_eq_some_iff.mp k1).1
          obtain ⟨c', e1, e2⟩ := mapO_get hcs _ _ (List.getElem?_eq_getElem hj)
          rw [k2] at e1
          cases e1
          unfold renC at e2
          split at e2
          · rename_i ds hd
            split at e2
            · rename_i es hes
              cases e2
              have hm := hlt _ (List.getElem_mem hj)
              have hra := List.getElem?_eq_getElem hm
              have := hq _ _ _ (List.getElem?_eq_getElem hj) hra
              rw [k1] at this
              cases this
              obtain ⟨xs, e3, e4⟩ := r'.cell _ _ _ hra hd
              exact ⟨xs, e3, rens_rd hb0 hp hsub ds xs es e4 hes⟩
            · cases e2
          · cases e2
    · cases hs
  · cases hs
end
noncomputable def sealedB (g : CF) : CF := fun ds S => match g ds S with
  | some (z, S') => shutB S z S'
  | none => none
noncomputable def sealedW (g : CF) : CF := fun ds S => match g ds S with
  | some (z, S') => shutW S z S'
  | none => none
section
variable {P : Program} {w : World} {K : PySem.W.Frag} {mg : Str → Option Value} {base : Heap}
theorem FnG.sealedB {f : Addr} {fd : FuncData} {ps : List Str} {k n : Nat} {g : CF} (F : FnG P w K mg base k f fd ps (spOf K n g)) : FnG P w K mg base k f fd ps (spOf K n (sealedB g)) := by
  have i : ∀ vs H Q E, spOf K n (Lv.sealedB g) vs H Q E → spOf K n g vs H Q E := fun vs H Q E q => by
    obtain ⟨hl, ρ, S0, ds, z, S', r, hd, hf, q⟩ := q
    unfold Lv.sealedB at hf
    split at hf
    · rename_i z1 S1 h1
      refine ⟨hl, ρ, S0, ds, z1, S1, r, hd, h1, fun ρ' H' v e r' hv => ?_⟩
      obtain ⟨e2, r2, v2⟩ := sealB_ok r e r' hv hf
      exact q ρ H' v e2 r2 v2
    · cases hf
  exact ⟨fun vs H Q E q => F.len vs H Q E (i _ _ _ _ q), fun A outer s H args us vs Q a b c d e q => F.run A outer s H args us vs Q a b c d e (i _ _ _ _ q)⟩
theorem FnG.sealedW {f : Addr} {fd : FuncData} {ps : List Str} {k n : Nat} {g : CF} (F : FnG P w K mg base k f fd ps (spOf K n g)) : FnG P w K mg base k f fd ps (spOf K n (sealedW g)) := by
  have i : ∀ vs H Q E, spOf K n (Lv.sealedW g) vs H Q E → spOf K n g vs H Q E := fun vs H Q E q => by
    obtain ⟨hl, ρ, S0, ds, z, S', r, hd, hf, q⟩ := q
    unfold Lv.sealedW at hf
    split at hf
    · rename_i z1 S1 h1
      refine ⟨hl, ρ, S0, ds, z1, S1, r, hd, h1, fun ρ' H' v e r' hv => ?_⟩
      obtain ⟨p, e2, r2, v2⟩ := sealW_ok r e r' hv hf
      exact q _ H' v e2 r2 v2
    · cases hf
  exact ⟨fun vs H Q E q => F.len vs H Q E (i _ _ _ _ q), fun A outer s H args us vs Q a b c d e q => F.run A outer s H args us vs Q a b c d e (i _ _ _ _ q)⟩
end
theorem ar_sealedB {g : CF} {n : Nat} (h : Ar g n) : Ar (sealedB g) n := fun ds S z q => by
  unfold sealedB at q
  split at q
  · rename_i z1 S1 h1; exact h _ _ _ h1
  · cases q
theorem ar_sealedW {g : CF} {n : Nat} (h : Ar g n) : Ar (sealedW g) n := fun ds S z q => by
  unfold sealedW at q
  split at q
  · rename_i z1 S1 h1; exact h _ _ _ h1
  · cases q
noncomputable def eShutB (f : EF) : EF := fun env S => match f env S with
  | some (z, S') => shutB S z S'
  | none => none
theorem shutB_imp {K : PySem.W.Frag} {f : EF} {σ : L2.St} {H : Hp} {Q : VK} (h : tE K (eShutB f) σ H Q) : tE K f σ H Q := by
  obtain ⟨ρ, S, env, d, S', r, en, hf, q⟩ := h
  unfold eShutB at hf
  split at hf
  · rename_i z1 S1 h1
    refine ⟨ρ, S, env, z1, S1, r, en, h1, fun ρ' H' v e r' hv => ?_⟩
    obtain ⟨e2, r2, v2⟩ := sealB_ok r e r' hv hf
    exact q ρ H' v e2 r2 v2
  · cases hf
section
variable {X : Cx} {it : IFn} {t : Tg} {gc : TF} {fe : EF}
theorem l_shutB {e : Expr} {f : EF} (h : PE X e (tE X.K f)) : PE X e (tE X.K (eShutB f)) := h.imp fun σ H Q q => shutB_imp q
theorem ls_setLcB {rm : Bool} (n i : Nat) {y : Str} {py : Pos} {elt tg iter : Expr} {ifs : List Expr} {scope : Scope} {own : List (Str × Nat)} {pos spos : Pos} (hc : X.calm = true) (hN : X.N.Nodup) (hi : PI X tg iter (tI X.K it)) (ok : BlkOk X.N X.env.scope scope own) (hix : ∀ i ∈ t.ix, i ∈ own.map (·.2))
    (hg : ∀ (s : Shared) (H : Hp) (C : Addr) (cl : List (Str × Addr)) (fp : List Addr), PG (X.blk s H scope (compEnvC scope cl C X.env) fp) tg (tgOf X.K t)) (ht : ∀ (s : Shared) (H : Hp) (C : Addr) (cl : List (Str × Addr)) (fp : List Addr), PTs (X.blk s H scope (compEnvC scope cl C X.env) fp) ifs (tT X.K gc))
    (he : ∀ (s : Shared) (H : Hp) (C : Addr) (cl : List (Str × Addr)) (fp : List Addr), PE (X.blk s H scope (compEnvC scope cl C X.env) fp) elt (tE X.K fe))
    (hy : X.N[i]? = some y := by rfl) (hyl : X.env.scope.names.lookup y = some .local := by rfl) (hsw : swapsWith (.ListComp elt [⟨tg, iter, ifs, 0⟩] scope pos) (some (.Name y py)) spos.line X.env = pure true) (hs : ∀ x, foldedSetIterable iter X.env x = pure x := by intro _; rfl) :
    PS X (.Assign [.Name y py] (.ListComp elt [⟨tg, iter, ifs, 0⟩] scope pos) spos) (tS X.K (sSet i (eShutB (eComp rm n (own.map (·.2)) it t gc fe)))) :=
  (ps_setLc (i := i) hc hN hy hyl hsw hi ok hg ht he hs).imp fun E σ H h => by
    obtain ⟨ρ, S, env, o, S', r, en, hf, q⟩ := h
    unfold sSet at hf
    split at hf
    · rename_i d S1 h1
      cases hf
      exact comp_imp n hix σ H _ (shutB_imp (run_e r en h1 fun ρ1 H1 v1 e1 r1 hv1 en1 => q ρ1 H1 e1 r1 _ (en1.set hv1)))
    · cases hf
end
end Lv
namespace Lv
open PySem PySem.Spec PyProof.Rows L2
section
variable {prog : Program} {w : World} {A : Around} {E : Value → Shared → Prop} {s : Shared}
abbrev ZipB (h : Heap) (z TI TO : Addr) (f0 : Value) (b : Bool) : Prop := h.get? z = some { cls := .type "zip", dict := none, data := .fields #[f0, .bool b, .bool false, .ref TI, .ref TO], slots := #[] }
theorem any_alive {a : Addr} {Q : Option Obj → Shared → Prop} (h : Q (s.heap.get? a) s) : wpAny (model prog w) A (loadIfAlive a) Q E s := fun Γ p hΓ => by
  unfold loadIfAlive
  rw [Sem.wp_loadIfAlive]
  exact h
theorem not_free {z TI TO T : Addr} {b : Bool} {Q : Bool → Shared → Prop} (hz : ZipB s.heap z TI TO (rawInt T) b) (hT : ∃ o, s.heap.get? T = some o)
    (hQ : ∀ h', ZipB h' z TI TO (rawInt T) true → Heap.SameBut z s.heap h' → Q false { s with heap := h' }) : wpAny (model prog w) A (Builtin.SmallTypes.ownedTupleIsFree (.ref z)) Q E s := by
  obtain ⟨o, hT⟩ := hT
  unfold Builtin.SmallTypes.ownedTupleIsFree
  refine wpAny_bind (wpAny_field hz rfl (x := rawInt T) rfl ?_)
  show wpAny _ _ (loadIfAlive ((T : Int).toNat) >>= _) _ _ _
  refine wpAny_bind (any_alive ?_)
  rw [show ((T : Int).toNat) = T from Int.toNat_natCast T, hT]
  show wpAny _ _ (field (.ref z) 1 >>= _) _ _ _
  refine wpAny_bind (wpAny_field hz rfl (x := .bool b) rfl ?_)
  cases b with
  | true => exact wpAny_pure (hQ s.heap hz ⟨rfl, fun _ _ => rfl⟩)
  | false =>
    show wpAny _ _ (setField (.ref z) 1 (.bool true) >>= _) _ _ _
    refine wpAny_bind (wpAny_setField_rec hz (by simp) fun h1 z1 k1 => wpAny_pure (hQ h1 z1 k1))
theorem zip_more {z TI TO i1 i2 l1 l2 T : Addr} {b : Bool} {k1 k2 : Nat} {xs ys : Array Value} {x y : Value} {Q : Value → Shared → Prop} (D : ZipApart z TI TO i1 i2 l1 l2)
    (hz : ZipB s.heap z TI TO (rawInt T) b) (hT : ∃ o, s.heap.get? T = some o) (hTI : IsPair s.heap TI (.ref i1) (.ref i2))
    (h1 : s.heap.IsListIter i1 l1 k1) (h2 : s.heap.IsListIter i2 l2 k2) (hl1 : s.heap.IsList l1 xs) (hl2 : s.heap.IsList l2 ys) (hx : xs[k1]? = some x) (hy : ys[k2]? = some y)
    (hQ : ∀ h', ZipB h' z TI TO (rawInt T) true → h'.IsListIter i1 l1 (k1 + 1) → h'.IsListIter i2 l2 (k2 + 1) → IsPair h' s.heap.objs.size x y → h'.objs.size = s.heap.objs.size + 1 → (∀ c o, c ≠ z → c ≠ i1 → c ≠ i2 → s.heap.get? c = some o → h'.get? c = some o) → Q (.ref s.heap.objs.size) { s with heap := h' }) :
    wpAny (model prog w) A (Builtin.«zip.__next__» ⟨[.ref z], []⟩) (fun fin s' => ∃ v, fin = .done (.ret v) ∧ Q v s') E s := by
  show wpAny _ _ (field (.ref z) 2 >>= _) _ _ _
  refine wpAny_bind (wpAny_field hz rfl (x := .bool false) rfl ?_)
  show wpAny _ _ (field (.ref z) 3 >>= _) _ _ _
  refine wpAny_bind (wpAny_field hz rfl (x := .ref TI) rfl (wpAny_bind (wpAny_seqItems hTI rfl ?_)))
  show wpAny _ _ (Builtin.SmallTypes.ownedTupleIsFree (.ref z) >>= _) _ _ _
  refine wpAny_bind (not_free hz hT fun ha za ka => ?_)
  simp only [Bool.false_eq_true, if_false]
  simp only [← Array.forIn_toList, List.forIn_cons, List.forIn_nil]
  have one := (h1.extBut ka.extBut D.i1z)
  refine wpAny_bind (wpAny_bind (wpAny_bind (wpAny_holding ?_)))
  show wpAny _ _ (Builtin.SmallTypes.nextOf (.ref i1) >>= fun v => _) _ _ _
  refine wpAny_bind (wpAny_nextOf_list_item one (hl1.extBut ka.extBut D.l1z) hx fun hb tb kb => wpAny_pure (wpAny_pure ?_))
  refine wpAny_bind (wpAny_bind (wpAny_holding ?_))
  show wpAny _ _ (Builtin.SmallTypes.nextOf (.ref i2) >>= fun v => _) _ _ _
  refine wpAny_bind (wpAny_nextOf_list_item ((h2.extBut ka.extBut D.i2z).extBut kb.extBut D.i12.symm) ((hl2.extBut ka.extBut D.l2z).extBut kb.extBut D.l2i1) hy fun hc tc kc => wpAny_pure (wpAny_pure ?_))
  refine wpAny_pure (wpAny_bind (wpAny_newTuple (hsz := (show (2 : Nat) ≤ sizeLine by rw [sizeLine_eq]; decide)) ?_))
  have sz : hc.objs.size = s.heap.objs.size := by rw [kc.1, kb.1, ka.1]
  have zc : ZipB hc z TI TO (rawInt T) true := kc.extBut _ _ D.i2z.symm (kb.extBut _ _ D.i1z.symm za)
  have oc : hc.IsListIter i1 l1 (k1 + 1) := tb.extBut kc.extBut D.i12
  have q := hQ (hc.push { cls := .type "tuple", data := .seq #[x, y] }) (Heap.get?_push_of_some _ zc) (oc.at fun o e => Heap.get?_push_of_some _ e) (tc.at fun o e => Heap.get?_push_of_some _ e) (by rw [← sz]; exact Heap.get?_push_size _ rfl) (by rw [Heap.size_push, sz])
    fun c o c1 c2 c3 e => Heap.get?_push_of_some _ (kc.extBut _ _ c3 (kb.extBut _ _ c2 (ka.extBut _ _ c1 e)))
  rw [← sz] at q
  exact wpAny_pure ⟨_, rfl, q⟩
theorem zip_more_end {z TI TO i1 i2 l1 l2 T : Addr} {b : Bool} {k1 k2 : Nat} {xs ys : Array Value} {Q : Fin → Shared → Prop} (hA : A.handled = none) (D : ZipApart z TI TO i1 i2 l1 l2)
    (hz : ZipB s.heap z TI TO (rawInt T) b) (hT : ∃ o, s.heap.get? T = some o) (hTI : IsPair s.heap TI (.ref i1) (.ref i2))
    (h1 : s.heap.IsListIter i1 l1 k1) (h2 : s.heap.IsListIter i2 l2 k2) (hl1 : s.heap.IsList l1 xs) (hl2 : s.heap.IsList l2 ys) (no : xs[k1]? = none ∨ ys[k2]? = none)
    (hE : ∀ h' e, (∀ c o, c ≠ z → c ≠ i1 → c ≠ i2 → s.heap.get? c = some o → h'.get? c = some o) → (∃ o, h'.get? e = some o ∧ o.cls = .type "StopIteration") → E (.ref e) { s with heap := h' }) :
    wpAny (model prog w) A (Builtin.«zip.__next__» ⟨[.ref z], []⟩) Q E s := by
  show wpAny _ A (field (.ref z) 2 >>= _) _ _ _
  refine wpAny_bind (wpAny_field hz rfl (x := .bool false) rfl (?_ : wpAny _ A (field (.ref z) 3 >>= _) _ _ _))
  refine wpAny_bind (wpAny_field hz rfl (x := .ref TI) rfl (wpAny_bind (wpAny_seqItems hTI rfl ?_)))
  show wpAny _ A (Builtin.SmallTypes.ownedTupleIsFree (.ref z) >>= _) _ _ _
  refine wpAny_bind (not_free hz hT fun ha za ka => ?_)
  simp only [Bool.false_eq_true, if_false, ← Array.forIn_toList, List.forIn_cons, List.forIn_nil]
  have one := (h1.extBut ka.extBut D.i1z)
  refine wpAny_bind (wpAny_bind (wpAny_bind (wpAny_holding ?_)))
  show wpAny _ A (Builtin.SmallTypes.nextOf (.ref i1) >>= fun v => _) _ _ _
  cases hx : xs[k1]? with
  | none => exact wpAny_bind (wpAny_nextOf_list_end hA one (hl1.extBut ka.extBut D.l1z) hx fun hb e kb he => hE hb e (fun c o c1 c2 c3 q => kb _ _ c2 (ka.extBut _ _ c1 q)) he)
  | some x =>
    have hy : ys[k2]? = none := by
      rcases no with q | q
      · rw [hx] at q; cases q
      · exact q
    refine wpAny_bind (wpAny_nextOf_list_item one (hl1.extBut ka.extBut D.l1z) hx fun hb tb kb => wpAny_pure (wpAny_pure ?_))
    refine wpAny_bind (wpAny_bind (wpAny_holding ?_))
    show wpAny _ A (Builtin.SmallTypes.nextOf (.ref i2) >>= fun v => _) _ _ _
    exact wpAny_bind (wpAny_nextOf_list_end hA ((h2.extBut ka.extBut D.i2z).extBut kb.extBut D.i12.symm) ((hl2.extBut ka.extBut D.l2z).extBut kb.extBut D.l2i1) hy fun hc e kc he => hE hc e (fun c o c1 c2 c3 q => kc _ _ c3 (kb.extBut _ _ c2 (ka.extBut _ _ c1 q))) he)
theorem next_more {z TI TO i1 i2 l1 l2 T : Addr} {b : Bool} {k1 k2 : Nat} {xs ys : Array Value} {x y : Value} {Q : Option Value → Shared → Prop} (D : ZipApart z TI TO i1 i2 l1 l2)
    (hz : ZipB s.heap z TI TO (rawInt T) b) (hT : ∃ o, s.heap.get? T = some o) (hTI : IsPair s.heap TI (.ref i1) (.ref i2))
    (h1 : s.heap.IsListIter i1 l1 k1) (h2 : s.heap.IsListIter i2 l2 k2) (hl1 : s.heap.IsList l1 xs) (hl2 : s.heap.IsList l2 ys) (hx : xs[k1]? = some x) (hy : ys[k2]? = some y)
    (hQ : ∀ h', ZipB h' z TI TO (rawInt T) true → h'.IsListIter i1 l1 (k1 + 1) → h'.IsListIter i2 l2 (k2 + 1) → IsPair h' s.heap.objs.size x y → h'.objs.size = s.heap.objs.size + 1 → (∀ c o, c ≠ z → c ≠ i1 → c ≠ i2 → s.heap.get? c = some o → h'.get? c = some o) → Q (some (.ref s.heap.objs.size)) { s with heap := h' }) :
    wpAny (model prog w) A (pyNext (.ref z)) Q E s := by
  have ty : s.TypeIs (.ref z) "zip" := ⟨_, hz, rfl⟩
  unfold pyNext
  exact wpAny_bind (wpAny_attempt (wpAny_callSpecial?_slot (name := Str.ofString "__next__") ty F.slot_zip_next (wpAny_call_entry F.slot_zip_next ty F.entry_zip_next (zip_more D hz hT hTI h1 h2 hl1 hl2 hx hy fun h' b1 b2 b3 b4 b5 b6 => wpAny_pure (hQ h' b1 b2 b3 b4 b5 b6)) (F.args_zip_next_1 _))))
theorem next_more_end {z TI TO i1 i2 l1 l2 T : Addr} {b : Bool} {k1 k2 : Nat} {xs ys : Array Value} {Q : Option Value → Shared → Prop} (hA : A.handled = none) (D : ZipApart z TI TO i1 i2 l1 l2)
    (hz : ZipB s.heap z TI TO (rawInt T) b) (hT : ∃ o, s.heap.get? T = some o) (hTI : IsPair s.heap TI (.ref i1) (.ref i2))
    (h1 : s.heap.IsListIter i1 l1 k1) (h2 : s.heap.IsListIter i2 l2 k2) (hl1 : s.heap.IsList l1 xs) (hl2 : s.heap.IsList l2 ys) (no : xs[k1]? = none ∨ ys[k2]? = none)
    (hQ : ∀ h', (∀ c o, c ≠ z → c ≠ i1 → c ≠ i2 → s.heap.get? c = some o → h'.get? c = some o) → Q none { s with heap := h' }) : wpAny (model prog w) A (pyNext (.ref z)) Q E s := by
  have ty : s.TypeIs (.ref z) "zip" := ⟨_, hz, rfl⟩
  unfold pyNext
  refine wpAny_bind (wpAny_attempt (wpAny_callSpecial?_slot (name := Str.ofString "__next__") ty F.slot_zip_next (wpAny_call_entry F.slot_zip_next ty F.entry_zip_next (zip_more_end hA D hz hT hTI h1 h2 hl1 hl2 no fun h' e k he => ?_) (F.args_zip_next_1 _))))
  obtain ⟨o, ho, hc⟩ := he
  exact wpAny_bind (wpAny_isInstance (T := "StopIteration") (b := true) ⟨o, ho, hc⟩ isSubtype_stop (wpAny_pure (hQ _ k)))
end
end Lv
namespace Lv
open PySem PySem.Spec PyProof.Rows L2
theorem zip_no_len : typeLookup (.type "zip") "__len__" = pure none := by rw [typeLookup_type, builtinLookup_eq_fast]; kernel_rfl
theorem zip_no_hint : typeLookup (.type "zip") "__length_hint__" = pure none := by rw [typeLookup_type, builtinLookup_eq_fast]; kernel_rfl
abbrev LstAt (h : Heap) (L : Addr) (Ts : List Addr) (c : Nat) : Prop := h.get? L = some { cls := .type "list", dict := none, data := .seq (Ts.map Value.ref).toArray c, slots := #[] }
structure ZL (h0 h : Heap) (z TI TO i1 i2 l1 l2 L : Addr) (xs ys : Array Value) (B i : Nat) (Ts : List Addr) (c : Nat) : Prop where
  zp : (i = 0 ∧ IsZip h z TI TO .none ∧ ∃ a b, IsPair h TO a b) ∨ ∃ (T : Addr) (b : Bool), ZipB h z TI TO (rawInt T) b ∧ ∃ o, h.get? T = some o
  ti : IsPair h TI (.ref i1) (.ref i2)
  a1 : h.IsListIter i1 l1 i
  a2 : h.IsListIter i2 l2 i
  s1 : h.IsList l1 xs
  s2 : h.IsList l2 ys
  ls : LstAt h L Ts c
  ln : Ts.length = i
  tp : ∀ (j : Nat) T, Ts[j]? = some T → ∃ x y, xs[j]? = some x ∧ ys[j]? = some y ∧ IsPair h T x y
  nw : ∀ T ∈ Ts, B ≤ T
  nd : Ts.Nodup
  bs : B ≤ h.objs.size
  lt : z < B ∧ TI < B ∧ TO < B ∧ i1 < B ∧ i2 < B ∧ l1 < B ∧ l2 < B ∧ L < B
  kp : ∀ e o, e ≠ z → e ≠ TO → e ≠ i1 → e ≠ i2 → e ≠ L → h0.get? e = some o → h.get? e = some o
section
variable {prog : Program} {w : World} {A : Around} {R : Result → Shared → Prop} {z TI TO i1 i2 l1 l2 L : Addr} {xs ys : Array Value}
theorem pair_lt {h : Heap} {T : Addr} {x y : Value} (e : IsPair h T x y) : T < h.objs.size := Heap.lt_size e
theorem ZL.next {h0 h h' h'' : Heap} {B i : Nat} {Ts : List Addr} {c c' : Nat} {x y : Value} {b : Bool} (Z : ZL h0 h z TI TO i1 i2 l1 l2 L xs ys B i Ts c) (D : ZipApart z TI TO i1 i2 l1 l2) (ne : L ≠ z ∧ L ≠ TI ∧ L ≠ TO ∧ L ≠ i1 ∧ L ≠ i2 ∧ L ≠ l1 ∧ L ≠ l2)
    {T : Addr} (hz : ZipB h' z TI TO (rawInt T) b) (hT : ∃ o, h'.get? T = some o) (b1 : h'.IsListIter i1 l1 (i + 1)) (b2 : h'.IsListIter i2 l2 (i + 1)) (pr : IsPair h' h.objs.size x y) (sz : h'.objs.size = h.objs.size + 1)
    (k : ∀ e o, e ≠ z → e ≠ TO → e ≠ i1 → e ≠ i2 → h.get? e = some o → h'.get? e = some o) (hx : xs[i]? = some x) (hy : ys[i]? = some y) (szz : h''.objs.size = h'.objs.size)
    (k2 : ∀ e o, e ≠ L → h'.get? e = some o → h''.get? e = some o) (ls : LstAt h'' L (Ts ++ [h.objs.size]) c') : ZL h0 h'' z TI TO i1 i2 l1 l2 L xs ys B (i + 1) (Ts ++ [h.objs.size]) c' := by
  obtain ⟨n1, n2, n3, n4, n5, n6, n7⟩ := ne
  obtain ⟨m1, m2, m3, m4, m5, m6, m7, m8⟩ := Z.lt
  have bs := Z.bs
  have far : ∀ T, B ≤ T → T ≠ z ∧ T ≠ TO ∧ T ≠ i1 ∧ T ≠ i2 ∧ T ≠ L := fun T h => ⟨Nat.ne_of_gt (Nat.lt_of_lt_of_le m1 h), Nat.ne_of_gt (Nat.lt_of_lt_of_le m3 h), Nat.ne_of_gt (Nat.lt_of_lt_of_le m4 h), Nat.ne_of_gt (Nat.lt_of_lt_of_le m5 h), Nat.ne_of_gt (Nat.lt_of_lt_of_le m8 h)⟩
  refine ⟨.inr ⟨T, b, k2 _ _ n1.symm hz, ?_⟩, k2 _ _ n2.symm (k _ _ D.TIz D.TITO D.TIi1 D.TIi2 Z.ti), b1.at fun o e => k2 _ _ n4.symm e, b2.at fun o e => k2 _ _ n5.symm e, Z.s1.at fun o e => k2 _ _ n6.symm (k _ _ D.l1z D.l1TO D.l1i1 D.l1i2 e), Z.s2.at fun o e => k2 _ _ n7.symm (k _ _ D.l2z D.l2TO D.l2i1 D.l2i2 e), ls, by rw [List.length_append, Z.ln]; rfl, fun j T' e => ?_, fun T' e => ?_, ?_, by rw [szz, sz]; omega, Z.lt, fun e o e1 e2 e3 e4 e5 q => k2 _ _ e5 (k _ _ e1 e2 e3 e4 (Z.kp e o e1 e2 e3 e4 e5 q))⟩
  · obtain ⟨o, ho⟩ := hT
    by_cases q : T = L
    · exact ⟨_, by rw [q]; exact ls⟩
    · exact ⟨o, k2 _ _ q ho⟩
  · by_cases hj : j < Ts.length
    · rw [List.getElem?_append_left hj] at e
      obtain ⟨x', y', q1, q2, q3⟩ := Z.tp j T' e
      obtain ⟨f1, f2, f3, f4, f5⟩ := far T' (Z.nw T' (List.mem_of_getElem? e))
      exact ⟨x', y', q1, q2, k2 _ _ f5 (k _ _ f1 f2 f3 f4 q3)⟩
    · rw [List.getElem?_append_right (by omega)] at e
      have hj2 : j - Ts.length = 0 := by
        have := (List.getElem?_eq_some_iff.mp e).1
        rw [List.length_singleton] at this
        omega
      rw [hj2] at e
      cases e
      have hji : j = i := by have := Z.ln; omega
      subst hji
      exact ⟨x, y, hx, hy, k2 _ _ (far _ bs).2.2.2.2 pr⟩
  · rcases List.mem_append.mp e with e | e
    · exact Z.nw T' e
    · rw [List.mem_singleton.mp e]; exact bs
  · refine List.nodup_append.mpr ⟨Z.nd, by simp, fun a ha b' hb e => ?_⟩
    rw [List.mem_singleton.mp hb] at e
    obtain ⟨j, hj⟩ := List.getElem?_of_mem ha
    obtain ⟨x', y', _, _, q3⟩ := Z.tp j a hj
    have q4 := pair_lt q3
    rw [e] at q4
    exact Nat.lt_irrefl _ q4
theorem extend_zip (hA : A.handled = none) (D : ZipApart z TI TO i1 i2 l1 l2) (ne : L ≠ z ∧ L ≠ TI ∧ L ≠ TO ∧ L ≠ i1 ∧ L ≠ i2 ∧ L ≠ l1 ∧ L ≠ l2) (hn : min xs.size ys.size ≤ sizeLine) (res : Value) (h0 : Heap) (B : Nat) : ∀ (k i : Nat) (s : Shared) (Ts : List Addr) (c : Nat), min xs.size ys.size - i = k → i ≤ min xs.size ys.size → ZL h0 s.heap z TI TO i1 i2 l1 l2 L xs ys B i Ts c →
    (∀ h' i' Ts' c', ZL h0 h' z TI TO i1 i2 l1 l2 L xs ys B i' Ts' c' → i' = min xs.size ys.size → ∀ h'', (∀ e o, e ≠ z → e ≠ TO → e ≠ i1 → e ≠ i2 → h'.get? e = some o → h''.get? e = some o) → R (.ok (.ret res)) { s with heap := h'' }) → codeAny (model prog w) A (.builtin "list.extend.loop" ⟨[.ref L, .ref z, res], []⟩) R s := by
  intro k
  induction k with
  | zero =>
    intro i s Ts c hk hi Z hR
    have hin : i = min xs.size ys.size := by omega
    have no : xs[i]? = none ∨ ys[i]? = none := by
      rcases Nat.le_total xs.size ys.size with q | q
      · exact .inl (Array.getElem?_eq_none (by omega))
      · exact .inr (Array.getElem?_eq_none (by omega))
    refine codeAny_builtin F.entry_extend_loop ?_
    rw [Around.under_plainId F.plain_extend_loop _]
    show wpAny _ A.in1 (pyNext (.ref z) >>= fun v => _) _ _ s
    rcases Z.zp with ⟨_, q1, a, b, q2⟩ | ⟨T, b, q1, q2⟩
    · exact wpAny_bind (wpAny_pyNext_zip_end hA D q1 Z.ti q2 Z.a1 Z.a2 Z.s1 Z.s2 no fun h' k' => wpAny_pure (hR s.heap i Ts c Z hin h' k'))
    · exact wpAny_bind (next_more_end hA D q1 q2 Z.ti Z.a1 Z.a2 Z.s1 Z.s2 no fun h' k' => wpAny_pure (hR s.heap i Ts c Z hin h' fun e o e1 _ e3 e4 q => k' e o e1 e3 e4 q))
  | succ k ih =>
    intro i s Ts c hk hi Z hR
    have hlt : i < min xs.size ys.size := by omega
    have hx := Array.getElem?_eq_getElem (xs := xs) (i := i) (by omega)
    have hy := Array.getElem?_eq_getElem (xs := ys) (i := i) (by omega)
    refine codeAny_builtin F.entry_extend_loop ?_
    rw [Around.under_plainId F.plain_extend_loop _]
    show wpAny _ A.in1 (pyNext (.ref z) >>= fun v => _) _ _ s
    obtain ⟨n1, n2, n3, n4, n5, n6, n7⟩ := id ne
    have put : ∀ (h' : Heap) (b : Bool) (T : Addr), ZipB h' z TI TO (rawInt T) b → (∃ o, h'.get? T = some o) → h'.IsListIter i1 l1 (i + 1) → h'.IsListIter i2 l2 (i + 1) → IsPair h' s.heap.objs.size xs[i] ys[i] → h'.objs.size = s.heap.objs.size + 1 → (∀ e o, e ≠ z → e ≠ TO → e ≠ i1 → e ≠ i2 → s.heap.get? e = some o → h'.get? e = some o) →
        wpAny (model prog w) A.in1 (updateSeq L (·.push (.ref s.heap.objs.size)) >>= fun _ => again (.builtin "list.extend.loop" ⟨[.ref L, .ref z, res], []⟩))
          (fun fin s' => match fin with | .done f => R (.ok f) s' | .again c' => c'.quiet = true ∧ codeAny (model prog w) A c' R s') (fun e s' => R (.error e) s') { s with heap := h' } := by
      intro h' b T q1 q2 q3 q4 q5 q6 q7
      have hL' : LstAt h' L Ts c := q7 _ _ n1 n3 n4 n5 Z.ls
      have hsz : (Ts.map Value.ref).toArray.size = i := by rw [List.size_toArray, List.length_map, Z.ln]
      obtain ⟨c2, hc2⟩ : ∃ c2, LstAt (h'.update L (Obj.mapSeq (·.push (Value.ref s.heap.objs.size)))) L (Ts ++ [s.heap.objs.size]) c2 := by
        have q8 := Heap.get?_update_self (Obj.mapSeq (·.push (Value.ref s.heap.objs.size))) hL' rfl
        have q9 : (Ts.map Value.ref).toArray.push (Value.ref s.heap.objs.size) = ((Ts ++ [s.heap.objs.size]).map Value.ref).toArray := by simp
        simp only [Obj.mapSeq, q9] at q8
        exact ⟨_, q8⟩
      refine wpAny_bind ?_
      refine wpAny_updateSeq hL' rfl (wpAny_pure ⟨plainId_quiet F.plain_extend_loop _, ih (i + 1) _ (Ts ++ [s.heap.objs.size]) _ (by omega) (by omega) (Z.next D ne q1 q2 q3 q4 q5 q6 q7 hx hy (Heap.size_update ..) (fun e o e1 q => (Heap.get?_update_other _ _ (Ne.symm e1)).trans q) hc2) fun h'' i' Ts' c' Z' e1 => hR h'' i' Ts' c' Z' e1⟩) (by rw [hsz]; omega) (by show ((Ts.map Value.ref).toArray.push _).size ≤ sizeLine + 1; rw [Array.size_push, hsz]; omega)
    rcases Z.zp with ⟨_, q1, a, b, q2⟩ | ⟨T, b, q1, q2⟩
    · refine wpAny_bind (wpAny_pyNext_zip_item D q1 Z.ti q2 Z.a1 Z.a2 Z.s1 Z.s2 hx hy fun h' b1 b2 b3 b4 b5 b6 b7 => ?_)
      exact put h' false s.heap.objs.size b1 ⟨_, b5⟩ b3 b4 b5 b6 b7
    · refine wpAny_bind (next_more D q1 q2 Z.ti Z.a1 Z.a2 Z.s1 Z.s2 hx hy fun h' b1 b2 b3 b4 b5 b6 => ?_)
      obtain ⟨o, ho⟩ := q2
      refine put h' true T b1 ?_ b2 b3 b4 b5 fun e o e1 _ e3 e4 q => b6 e o e1 e3 e4 q
      by_cases e1 : T = z
      · exact ⟨_, by rw [e1]; exact b1⟩
      · by_cases e2 : T = i1
        · obtain ⟨o', e, _⟩ := b2
          exact ⟨o', by rw [e2]; exact e⟩
        · by_cases e3 : T = i2
          · obtain ⟨o', e, _⟩ := b3
            exact ⟨o', by rw [e3]; exact e⟩
          · exact ⟨o, b6 _ _ e1 e2 e3 ho⟩
end
end Lv
namespace Lv
open PySem PySem.Spec PyProof.Rows L2
section
variable {prog : Program} {w : World} {A : Around} {E : Value → Shared → Prop} {s : Shared} {R : Result → Shared → Prop} {z TI TO i1 i2 l1 l2 L : Addr} {xs ys : Array Value}
structure ZEnd (h0 h : Heap) (z TO i1 i2 L : Addr) (xs ys : Array Value) (B : Nat) (Ts : List Addr) (c : Nat) : Prop where
  ls : LstAt h L Ts c
  ln : Ts.length = min xs.size ys.size
  tp : ∀ (j : Nat) T, Ts[j]? = some T → ∃ x y, xs[j]? = some x ∧ ys[j]? = some y ∧ IsPair h T x y
  nw : ∀ T ∈ Ts, B ≤ T
  nd : Ts.Nodup
  kp : ∀ e o, e ≠ z → e ≠ TO → e ≠ i1 → e ≠ i2 → e ≠ L → h0.get? e = some o → h.get? e = some o
theorem ZL.fin {h0 h h' : Heap} {B i : Nat} {Ts : List Addr} {c : Nat} (Z : ZL h0 h z TI TO i1 i2 l1 l2 L xs ys B i Ts c) (hi : i = min xs.size ys.size) (ne : L ≠ z ∧ L ≠ TI ∧ L ≠ TO ∧ L ≠ i1 ∧ L ≠ i2 ∧ L ≠ l1 ∧ L ≠ l2)
    (k : ∀ e o, e ≠ z → e ≠ TO → e ≠ i1 → e ≠ i2 → h.get? e = some o → h'.get? e = some o) : ZEnd h0 h' z TO i1 i2 L xs ys B Ts c := by
  obtain ⟨n1, n2, n3, n4, n5, n6, n7⟩ := ne
  obtain ⟨m1, m2, m3, m4, m5, m6, m7, m8⟩ := Z.lt
  refine ⟨k _ _ n1 n3 n4 n5 Z.ls, by rw [Z.ln, hi], fun j T e => ?_, Z.nw, Z.nd, fun e o e1 e2 e3 e4 e5 q => k _ _ e1 e2 e3 e4 (Z.kp e o e1 e2 e3 e4 e5 q)⟩
  obtain ⟨x, y, q1, q2, q3⟩ := Z.tp j T e
  have hB := Z.nw T (List.mem_of_getElem? e)
  exact ⟨x, y, q1, q2, k _ _ (Nat.ne_of_gt (Nat.lt_of_lt_of_le m1 hB)) (Nat.ne_of_gt (Nat.lt_of_lt_of_le m3 hB)) (Nat.ne_of_gt (Nat.lt_of_lt_of_le m4 hB)) (Nat.ne_of_gt (Nat.lt_of_lt_of_le m5 hB)) q3⟩
theorem init_zip (hA : A.handled = none) (D : ZipApart z TI TO i1 i2 l1 l2) (ne : L ≠ z ∧ L ≠ TI ∧ L ≠ TO ∧ L ≠ i1 ∧ L ≠ i2 ∧ L ≠ l1 ∧ L ≠ l2) (hn : min xs.size ys.size ≤ sizeLine)
    (hz : IsZip s.heap z TI TO .none) (hTI : IsPair s.heap TI (.ref i1) (.ref i2)) (hTO : ∃ a b, IsPair s.heap TO a b) (a1 : s.heap.IsListIter i1 l1 0) (a2 : s.heap.IsListIter i2 l2 0) (s1 : s.heap.IsList l1 xs) (s2 : s.heap.IsList l2 ys)
    (hS : s.heap.get? L = some { cls := .type "list", data := .seq #[] })
    (hR : ∀ h' Ts c, ZEnd s.heap h' z TO i1 i2 L xs ys s.heap.objs.size Ts c → R (.ok (.ret .none)) { s with heap := h' }) :
    wpAny (model prog w) A.in1 (Builtin.«list.__init__» ⟨[.ref L, .ref z], []⟩)
      (fun fin s' => match fin with | .done f => R (.ok f) s' | .again c' => c'.quiet = true ∧ codeAny (model prog w) A c' R s') (fun e s' => R (.error e) s') s := by
  obtain ⟨n1, n2, n3, n4, n5, n6, n7⟩ := id ne
  obtain ⟨ta, tb, hTO⟩ := hTO
  show wpAny _ A.in1 (do let o0 ← Builtin.List.listItems (.ref L); Builtin.List.listUpdate (.ref L) (fun _ => #[]); letGo o0.toList.reverse; Builtin.List.listExtendWith (.ref L) (.ref z) .none) _ _ s
  refine wpAny_bind ?_
  unfold Builtin.List.listItems
  refine wpAny_bind (wpAny_seqItems hS rfl (wpAny_pure ?_))
  show wpAny _ A.in1 (updateSeq L (fun _ => #[]) >>= fun _ => letGo (#[] : Array Value).toList.reverse >>= fun _ => Builtin.List.listExtendWith (.ref L) (.ref z) .none) _ _ s
  refine wpAny_bind (wpAny_updateSeq hS rfl ?_)
  have g1 := Heap.get?_update_self (Obj.mapSeq (fun _ => (#[] : Array Value))) hS rfl
  have k1 : ∀ e o, e ≠ L → s.heap.get? e = some o → (s.heap.update L (Obj.mapSeq (fun _ => (#[] : Array Value)))).get? e = some o := fun e o e1 q => (Heap.get?_update_other _ _ (Ne.symm e1)).trans q
  refine wpAny_bind (wpAny_letGo ?_)
  unfold Builtin.List.listExtendWith
  refine wpAny_bind (wpAny_typeOf (T := "zip") ⟨_, k1 _ _ n1.symm hz, rfl⟩ ?_)
  have d1 : Builtin.List.listSameRef (.ref L) (.ref z) = false := by simp [Builtin.List.listSameRef, n1]
  have d2 : (Value.type "zip" == Value.type "list") = false := by decide
  have d3 : (Value.type "zip" == Value.type "tuple") = false := by decide
  simp only [d1, d2, d3, Bool.or_false, Bool.false_eq_true, if_false]
  refine wpAny_bind (wpAny_pyIter_zip (k1 _ _ n1.symm hz) ?_)
  refine wpAny_bind (wpAny_holding ?_)
  unfold Builtin.List.listLengthHint
  refine wpAny_bind (wpAny_specialOf (T := "zip") ⟨_, k1 _ _ n1.symm hz, rfl⟩ zip_no_len ?_)
  show wpAny _ A.in1 (specialOf (Value.ref z) (Str.ofString "__length_hint__") >>= _) _ _ _
  refine wpAny_bind (wpAny_specialOf (T := "zip") ⟨_, k1 _ _ n1.symm hz, rfl⟩ zip_no_hint (wpAny_pure ?_))
  show wpAny _ A.in1 (rule "list.extend.makes-room" >>= fun _ => Builtin.List.listTouch (.ref L) >>= fun _ => again (.builtin "list.extend.loop" ⟨[.ref L, .ref z, .none], []⟩)) _ _ _
  refine wpAny_bind (wpAny_rule (wpAny_bind ?_))
  show wpAny _ A.in1 (updateSeq L (·.push .none) >>= fun _ => updateSeq L (·.pop)) _ _ _
  refine wpAny_bind (wpAny_updateSeq (hz := by seq_fits) g1 rfl ?_)
  have g2 := Heap.get?_update_self (Obj.mapSeq (·.push Value.none)) g1 rfl
  refine wpAny_updateSeq (hz := by seq_fits) g2 rfl ?_
  have g3 := Heap.get?_update_self (Obj.mapSeq (·.pop)) g2 rfl
  have k3 : ∀ e o, e ≠ L → s.heap.get? e = some o → (((s.heap.update L (Obj.mapSeq (fun _ => (#[] : Array Value)))).update L (Obj.mapSeq (·.push Value.none))).update L (Obj.mapSeq (·.pop))).get? e = some o :=
    fun e o e1 q => (Heap.get?_update_other _ _ (Ne.symm e1)).trans ((Heap.get?_update_other _ _ (Ne.symm e1)).trans (k1 e o e1 q))
  have sz : (((s.heap.update L (Obj.mapSeq (fun _ => (#[] : Array Value)))).update L (Obj.mapSeq (·.push Value.none))).update L (Obj.mapSeq (·.pop))).objs.size = s.heap.objs.size := by
    rw [Heap.size_update, Heap.size_update, Heap.size_update]
  have g4 : ∃ c, LstAt (((s.heap.update L (Obj.mapSeq (fun _ => (#[] : Array Value)))).update L (Obj.mapSeq (·.push Value.none))).update L (Obj.mapSeq (·.pop))) L [] c := by
    simp only [Obj.mapSeq] at g3
    exact ⟨_, g3⟩
  obtain ⟨c, g4⟩ := g4
  have Z : ZL s.heap (((s.heap.update L (Obj.mapSeq (fun _ => (#[] : Array Value)))).update L (Obj.mapSeq (·.push Value.none))).update L (Obj.mapSeq (·.pop))) z TI TO i1 i2 l1 l2 L xs ys s.heap.objs.size 0 [] c :=
    ⟨.inl ⟨rfl, k3 _ _ n1.symm hz, ta, tb, k3 _ _ n3.symm hTO⟩, k3 _ _ n2.symm hTI, a1.at fun o e => k3 _ _ n4.symm e, a2.at fun o e => k3 _ _ n5.symm e, s1.at fun o e => k3 _ _ n6.symm e, s2.at fun o e => k3 _ _ n7.symm e, g4, rfl, fun j T e => (by cases e), fun T e => (by cases e), List.nodup_nil, (by rw [sz]; exact Nat.le_refl _),
      ⟨Heap.lt_size hz, Heap.lt_size hTI, Heap.lt_size hTO, (by obtain ⟨o, e, _⟩ := a1; exact Heap.lt_size e), (by obtain ⟨o, e, _⟩ := a2; exact Heap.lt_size e), (by obtain ⟨o, e, _⟩ := s1; exact Heap.lt_size e), (by obtain ⟨o, e, _⟩ := s2; exact Heap.lt_size e), Heap.lt_size hS⟩, fun e o _ _ _ _ e5 q => k3 e o e5 q⟩
  exact wpAny_pure ⟨plainId_quiet F.plain_extend_loop _, extend_zip hA D ne hn .none s.heap s.heap.objs.size _ 0 _ [] c rfl (Nat.zero_le _) Z fun h' i' Ts' c' Z' e1 h'' k => hR h'' Ts' c' (Z'.fin e1 ne k)⟩
theorem call_list_zip {Q : Value → Shared → Prop} (hA : A.handled = none) (D : ZipApart z TI TO i1 i2 l1 l2) (hn : min xs.size ys.size ≤ sizeLine)
    (hz : IsZip s.heap z TI TO .none) (hTI : IsPair s.heap TI (.ref i1) (.ref i2)) (hTO : ∃ a b, IsPair s.heap TO a b) (a1 : s.heap.IsListIter i1 l1 0) (a2 : s.heap.IsListIter i2 l2 0) (s1 : s.heap.IsList l1 xs) (s2 : s.heap.IsList l2 ys)
    (hQ : ∀ h' Ts c, ZEnd s.heap h' z TO i1 i2 s.heap.objs.size xs ys (s.heap.objs.size + 1) Ts c → Q (.ref s.heap.objs.size) { s with heap := h' }) :
    wpAny (model prog w) A (call (.type "list") [.ref z]) Q E s := by
  obtain ⟨ta, tb, hTO⟩ := hTO
  have up : ∀ e o, s.heap.get? e = some o → (s.heap.push { cls := .type "list", data := .seq #[] }).get? e = some o := fun e o q => Heap.get?_push_of_some _ q
  refine callType_codes (Q₁ := fun obj s1 => obj = .ref s.heap.objs.size ∧ s1 = { s with heap := s.heap.push { cls := .type "list", data := .seq #[] } }) F.called_list (F.typeCall_list_1 _) F.entry_list_init (code_list_new _ ⟨rfl, rfl⟩) fun obj s1' h1 => ?_
  obtain ⟨rfl, rfl⟩ := h1
  have hS : (s.heap.push { cls := .type "list", data := .seq #[] }).get? s.heap.objs.size = some { cls := .type "list", data := .seq #[] } := Heap.get?_push_size _ rfl
  have lt1 : l1 < s.heap.objs.size := by obtain ⟨o, e, _⟩ := s1; exact Heap.lt_size e
  have lt2 : l2 < s.heap.objs.size := by obtain ⟨o, e, _⟩ := s2; exact Heap.lt_size e
  have lt3 : i1 < s.heap.objs.size := by obtain ⟨o, e, _⟩ := a1; exact Heap.lt_size e
  have lt4 : i2 < s.heap.objs.size := by obtain ⟨o, e, _⟩ := a2; exact Heap.lt_size e
  refine ⟨⟨_, hS, rfl⟩, F.args_list_init_2 _ _, init_zip (A := A.in1) (L := s.heap.objs.size) hA D ⟨Nat.ne_of_gt (Heap.lt_size hz), Nat.ne_of_gt (Heap.lt_size hTI), Nat.ne_of_gt (Heap.lt_size hTO), Nat.ne_of_gt lt3, Nat.ne_of_gt lt4, Nat.ne_of_gt lt1, Nat.ne_of_gt lt2⟩ hn
    (up _ _ hz) (up _ _ hTI) ⟨ta, tb, up _ _ hTO⟩ (a1.at fun o e => up _ _ e) (a2.at fun o e => up _ _ e) (s1.at fun o e => up _ _ e) (s2.at fun o e => up _ _ e) hS fun h' Ts c z' => ?_⟩
  refine ⟨rfl, hQ h' Ts c ⟨z'.ls, z'.ln, z'.tp, fun T e => ?_, z'.nd, fun e o e1 e2 e3 e4 e5 q => z'.kp e o e1 e2 e3 e4 e5 (up e o q)⟩⟩
  have := z'.nw T e
  rw [Heap.size_push] at this
  exact this
end
end Lv
namespace Lv
open PySem PySem.Spec PyProof.Rows L2
def updT : Hp → List Addr → List V → List V → Hp
  | H, T :: Ts, x :: xs, y :: ys => updT (upd H T (.tup [x, y])) Ts xs ys
  | H, _, _, _ => H
theorem updT_out : ∀ {Ts : List Addr} {xs ys : List V} {H : Hp} {b : Addr}, b ∉ Ts → updT H Ts xs ys b = H b
  | T :: Ts, x :: xs, y :: ys, H, b, h => by
    unfold updT
    rw [updT_out (fun m => h (List.mem_cons_of_mem _ m)), upd_ne (fun e => h (by rw [e]; exact List.mem_cons_self))]
  | [], _, _, H, b, _ => by unfold updT; rfl
  | T :: Ts, [], _, H, b, _ => by unfold updT; rfl
  | T :: Ts, x :: xs, [], H, b, _ => by unfold updT; rfl
theorem updT_in : ∀ {Ts : List Addr} {xs ys : List V} {H : Hp} {j : Nat} {T : Addr} {x y : V}, Ts.Nodup → Ts[j]? = some T → xs[j]? = some x → ys[j]? = some y → updT H Ts xs ys T = some (.tup [x, y])
  | T0 :: Ts, x0 :: xs, y0 :: ys, H, 0, T, x, y, nd, h1, h2, h3 => by
    cases h1
    cases h2
    cases h3
    unfold updT
    rw [updT_out (List.nodup_cons.mp nd).1, upd_same]
  | T0 :: Ts, x0 :: xs, y0 :: ys, H, j + 1, T, x, y, nd, h1, h2, h3 => by
    unfold updT
    exact updT_in (List.nodup_cons.mp nd).2 h1 h2 h3
  | [], _, _, _, j, _, _, _, _, h1, _, _ => by cases h1
  | _ :: _, [], _, _, j, _, _, _, _, _, h2, _ => by cases h2
  | _ :: _, _ :: _, [], _, j, _, _, _, _, _, _, h3 => by cases h3
def tLstZip (K : PySem.W.Frag) (ta : TA) : TE := fun σ H Q => ta σ H fun vs H1 => ∃ a b xs ys, vs = [.ref a, .ref b] ∧ SqL K H1 a xs ∧ SqL K H1 b ys ∧
  ∀ (Ts : List Addr) (L : Addr), Ts.length = min xs.length ys.length → Ts.Nodup → (∀ T ∈ Ts, H1 T = none) → H1 L = none → L ∉ Ts → Q (.ref L) (upd (updT H1 Ts xs ys) L (.lst (Ts.map V.ref)))
section
variable {X : Cx} {pins : List (Addr × Obj)} {σ : L2.St} {H : Hp} {s : Shared} {a b : Expr} {ta : TA}
theorem inv_zip {h' : Heap} {Ts : List Addr} {L : Addr} {c : Nat} {xs ys : List V} {us vs : List Value} (I : Inv X pins σ H s) (k : ∀ b u, s.heap.get? b = some u → h'.get? b = some u) (hL : s.heap.objs.size ≤ L) (hT : ∀ T ∈ Ts, s.heap.objs.size ≤ T) (nL : L ∉ Ts) (nd : Ts.Nodup)
    (rx : Vals xs us) (ry : Vals ys vs) (hn : min xs.length ys.length ≤ sizeLine) (ls : LstAt h' L Ts c) (ln : Ts.length = min us.length vs.length) (tp : ∀ (j : Nat) T, Ts[j]? = some T → ∃ x y, us[j]? = some x ∧ vs[j]? = some y ∧ IsPair h' T x y) :
    Inv X pins σ (upd (updT H Ts xs ys) L (.lst (Ts.map V.ref))) { s with heap := h' } := by
  have lx := rx.length
  have ly := ry.length
  have old : ∀ b, b < s.heap.objs.size → (upd (updT H Ts xs ys) L (.lst (Ts.map V.ref))) b = H b := fun b hb => by
    rw [upd_ne (fun e => by rw [e] at hb; exact absurd (Nat.lt_of_lt_of_le hb hL) (Nat.lt_irrefl _)), updT_out (fun m => absurd (Nat.lt_of_lt_of_le hb (hT b m)) (Nat.lt_irrefl _))]
  have oldH : ∀ b u, H b = some u → (upd (updT H Ts xs ys) L (.lst (Ts.map V.ref))) b = some u := fun b u e => by rw [old b (I.hok.lt e)]; exact e
  refine I.un (t' := s.toks) ⟨fun b o q _ _ _ => k b o q, fun b o q _ _ _ => ⟨o.slots, k b o q⟩, fun b o q n _ => by rw [old b (Heap.lt_size q)]; exact n, fun b o q _ => ⟨o, k b o q⟩, fun b zs e => oldH b _ e, fun b o u e => oldH b _ e, fun b ps e => ⟨#[], by rw [oldH b _ e]; simp⟩⟩ ?_
  intro b o e
  by_cases h1 : b = L
  · subst h1
    rw [upd_same] at e
    cases e
    refine ⟨by rw [List.length_map, ln]; omega, Ts.map Value.ref, c, ?_, ls⟩
    have : ∀ l : List Addr, Vals (l.map V.ref) (l.map Value.ref) := fun l => by
      induction l with
      | nil => exact .nil
      | cons t l ih => exact .cons rfl ih
    exact this Ts
  · rw [upd_ne h1] at e
    by_cases h2 : b ∈ Ts
    · obtain ⟨j, hj⟩ := List.getElem?_of_mem h2
      obtain ⟨x, y, q1, q2, q3⟩ := tp j b hj
      have hjl := (List.getElem?_eq_some_iff.mp hj).1
      have hx : xs[j]? = some (xs[j]'(by omega)) := List.getElem?_eq_getElem (by omega)
      have hy : ys[j]? = some (ys[j]'(by omega)) := List.getElem?_eq_getElem (by omega)
      rw [updT_in nd hj hx hy] at e
      cases e
      obtain ⟨u1, w1, r1⟩ := rx.get hx
      obtain ⟨u2, w2, r2⟩ := ry.get hy
      rw [q1] at w1
      rw [q2] at w2
      cases w1
      cases w2
      exact ⟨by show 2 ≤ sizeLine; decide, [x, y], .cons r1 (.cons r2 .nil), ⟨_, q3, rfl, _, rfl⟩⟩
    · rw [updT_out h2] at e
      exact (I.hok b o e).stay (fun c' v _ q => k c' v q) (fun c' q => oldH c' _ q) fun c' zs q => oldH c' _ q
theorem pe_listZip {p pos p2 q : Pos} (hc : X.calm = true) (hg : Gl X "list") (hm : X.mg "list" = none) (hg2 : Gl X "zip") (hm2 : X.mg "zip" = none) (ha : PA X [a, b] ta)
    (n1 : starEach [.Call (.Name "zip" p2) [a, b] [] q] X.env = (false, eval (.Call (.Name "zip" p2) [a, b] [] q) X.env) :: starEach [] X.env := by rfl) (hs : starEach [a, b] X.env = (false, eval a X.env) :: starEach [b] X.env := by rfl) (hpl : (backTo q (starEach [b] X.env)).any (·.1) = false := by rfl) :
    PE X (.Call (.Name "list" p) [.Call (.Name "zip" p2) [a, b] [] q] [] pos) (tLstZip X.K ta) := by
  refine ⟨fun pins s σ H Q I h => ?_⟩
  refine Call_ (ld_blt I hg hm boot_list (PyProof.Rows.callWith_type1 (args_cons (thn (Q := fun x s2 => ∃ (s1 : Shared) (h' : Heap) (H1 : Hp) (l1 l2 : Addr) (xs ys : List V) (us vs : List Value), x = .ref (s1.heap.objs.size + 4) ∧ s2 = { s1 with heap := h' } ∧ Inv X pins σ H1 s1 ∧ (∀ c o, s1.heap.get? c = some o → h'.get? c = some o) ∧ Vals xs us ∧ Vals ys vs ∧ xs.length ≤ sizeLine ∧ l1 < s1.heap.objs.size ∧ l2 < s1.heap.objs.size ∧ h'.IsList l1 us.toArray ∧ h'.IsList l2 vs.toArray ∧
      IsZip h' (s1.heap.objs.size + 4) (s1.heap.objs.size + 2) (s1.heap.objs.size + 3) .none ∧ IsPair h' (s1.heap.objs.size + 2) (.ref s1.heap.objs.size) (.ref (s1.heap.objs.size + 1)) ∧ IsPair h' (s1.heap.objs.size + 3) .none .none ∧ h'.IsListIter s1.heap.objs.size l1 0 ∧ h'.IsListIter (s1.heap.objs.size + 1) l2 0 ∧
      ∀ (Ts : List Addr) (L : Addr), Ts.length = min xs.length ys.length → Ts.Nodup → (∀ T ∈ Ts, H1 T = none) → H1 L = none → L ∉ Ts → Q (.ref L) (upd (updT H1 Ts xs ys) L (.lst (Ts.map V.ref)))) ?_ fun x s2 hx => args_nil ?_) n1) n1))
  · refine Call_ (ld_blt I hg2 hm2 PyProof.Rows.boot_zip (PyProof.Rows.callWith_type1 (thn (ha.run q pins s σ H _ I h) fun us s1 ⟨vs, H1, I1, r1, q1⟩ => ?_) hs hpl))
    obtain ⟨l1, l2, xs, ys, ex, hqx, hqy, q2⟩ := q1
    subst ex
    cases r1 with
    | cons r rr =>
      cases rr with
      | cons r' rr =>
        cases rr
        cases r
        cases r'
        obtain ⟨its, rv, p1, z1⟩ := I1.list hqx
        obtain ⟨its2, rv2, p2', _⟩ := I1.list hqy
        refine call_zip_2 p1.isList p2'.isList fun h' hz hTI hTO h1 h2 hsz hk => ?_
        exact ⟨s1, h', H1, l1, l2, xs, ys, its, its2, rfl, rfl, I1, hk, rv, rv2, z1, p1.lt, p2'.lt, p1.isList.at fun o e => hk _ o e, p2'.isList.at fun o e => hk _ o e, hz, hTI, hTO, h1, h2, q2⟩
  · obtain ⟨s1, h', H1, l1, l2, xs, ys, us, vs, rfl, rfl, I1, hk, rx, ry, zx, lt1, lt2, g1, g2, hz, hTI, hTO, a1, a2, q2⟩ := hx
    have lx := rx.length
    have ly := ry.length
    have hs4 : s1.heap.objs.size + 4 < h'.objs.size := Heap.lt_size hz
    refine call_list_zip (I1.ok.hd hc) (PySem.W.ktu_apart s1.heap.objs.size l1 l2 lt1 lt2) (xs := us.toArray) (ys := vs.toArray) (by rw [List.size_toArray]; omega) hz hTI ⟨_, _, hTO⟩ a1 a2 g1 g2 fun h'' Ts c Z => ?_
    have hsz : s1.heap.objs.size ≤ h'.objs.size := by omega
    have keep : ∀ b u, s1.heap.get? b = some u → h''.get? b = some u := fun b u e => by
      have hb := Heap.lt_size e
      exact Z.kp b u (Nat.ne_of_lt (Nat.lt_of_lt_of_le hb (Nat.le_add_right _ _))) (Nat.ne_of_lt (Nat.lt_of_lt_of_le hb (Nat.le_add_right _ _))) (Nat.ne_of_lt hb) (Nat.ne_of_lt (Nat.lt_of_lt_of_le hb (Nat.le_add_right _ _))) (by intro z; rw [z] at hb; exact absurd (Nat.lt_of_lt_of_le hb hsz) (Nat.lt_irrefl _)) (hk b u e)
    have nT : ∀ T ∈ Ts, s1.heap.objs.size ≤ T := fun T hT => Nat.le_trans hsz (Nat.le_trans (Nat.le_succ _) (Z.nw T hT))
    have nL : h'.objs.size ∉ Ts := fun m => Nat.lt_irrefl _ (Z.nw _ m)
    have hln := Z.ln
    rw [List.size_toArray, List.size_toArray] at hln
    have I3 : Inv X pins σ (upd (updT H1 Ts xs ys) h'.objs.size (.lst (Ts.map V.ref))) { s1 with heap := h'' } := by
      refine inv_zip I1 keep hsz nT nL Z.nd rx ry (by omega) Z.ls hln fun j T e => ?_
      obtain ⟨x, y, e1, e2, e3⟩ := Z.tp j T e
      exact ⟨x, y, by simpa using e1, by simpa using e2, e3⟩
    exact ⟨.ref h'.objs.size, _, I3, rfl, q2 Ts _ (by omega) Z.nd (fun T hT => I1.hok.fresh (nT T hT)) (I1.hok.fresh hsz) nL⟩
end
end Lv
namespace Lv
open PySem PySem.Spec PyProof.Rows L2
def eLzip (rm : Bool) (f : AF) : EF := fun env S => match f env S with
  | some ([x, y], S1) => (match listOf S1 x, listOf S1 y with
    | some ds, some es => some (mkV rm (zipD ds es) S1)
    | _, _ => none)
  | _ => none
theorem zip_rds {K : PySem.W.Frag} {ρ : List Addr} {S : Sto} : ∀ {Ts : List Addr} {xs ys : List V} {ds es : List D} {H : Hp}, Rel K ρ H S → RDs K ρ H xs ds → RDs K ρ H ys es → Ts.length = min xs.length ys.length → Ts.Nodup → (∀ T ∈ Ts, H T = none) →
    Ext ρ H ρ (updT H Ts xs ys) ∧ Rel K ρ (updT H Ts xs ys) S ∧ RDs K ρ (updT H Ts xs ys) (Ts.map V.ref) (zipD ds es)
  | [], xs, ys, ds, es, H, r, hx, hy, hl, nd, hf => by
    have e : updT H [] xs ys = H := by unfold updT; rfl
    have z : zipD ds es = [] := by
      have l1 := hx.len
      have l2 := hy.len
      unfold zipD
      refine List.eq_nil_of_length_eq_zero ?_
      rw [List.length_zipWith]
      rw [List.length_nil] at hl
      omega
    rw [e, z]
    exact ⟨Ext.refl ρ H, r, .nil⟩
  | T :: Ts, [], ys, ds, es, H, r, hx, hy, hl, nd, hf => by simp at hl
  | T :: Ts, x :: xs, [], ds, es, H, r, hx, hy, hl, nd, hf => by simp at hl
  | T :: Ts, x :: xs, y :: ys, [], es, H, r, hx, hy, hl, nd, hf => by have := hx.len; simp at this
  | T :: Ts, x :: xs, y :: ys, d :: ds, [], H, r, hx, hy, hl, nd, hf => by have := hy.len; simp at this
  | T :: Ts, x :: xs, y :: ys, d :: ds, e :: es, H, r, hx, hy, hl, nd, hf => by
    have hT := hf T List.mem_cons_self
    obtain ⟨x1, r1, p1⟩ := pair_new r hT (hx.at_ 0 x d rfl rfl) (hy.at_ 0 y e rfl rfl)
    have tx : RDs K ρ H xs ds := ⟨by simpa using hx.len, fun i a c h1 h2 => hx.at_ (i + 1) a c h1 h2⟩
    have ty : RDs K ρ H ys es := ⟨by simpa using hy.len, fun i a c h1 h2 => hy.at_ (i + 1) a c h1 h2⟩
    obtain ⟨x2, r2, p2⟩ := zip_rds (Ts := Ts) (xs := xs) (ys := ys) (ds := ds) (es := es) r1 (tx.ext r x1) (ty.ext r x1) (by simp only [List.length_cons] at hl; omega) (List.nodup_cons.mp nd).2 (fun T' h => by
      rw [upd_ne (fun q => (List.nodup_cons.mp nd).1 (by rw [← q]; exact h))]
      exact hf T' (List.mem_cons_of_mem _ h))
    have u : updT H (T :: Ts) (x :: xs) (y :: ys) = updT (upd H T (.tup [x, y])) Ts xs ys := by
      conv => lhs; unfold updT
    rw [u]
    exact ⟨x1.trans x2, r2, .cons (p1.ext r1 x2) p2⟩
section
variable {X : Cx} {a b : Expr} {fs : AF}
theorem l_lzip {p pos p2 q : Pos} {rm : Bool} (hc : X.calm = true) (hg : Gl X "list") (hm : X.mg "list" = none) (hg2 : Gl X "zip") (hm2 : X.mg "zip" = none) (ha : PA X [a, b] (tA X.K fs))
    (n1 : starEach [.Call (.Name "zip" p2) [a, b] [] q] X.env = (false, eval (.Call (.Name "zip" p2) [a, b] [] q) X.env) :: starEach [] X.env := by rfl) (hs : starEach [a, b] X.env = (false, eval a X.env) :: starEach [b] X.env := by rfl) (hpl : (backTo q (starEach [b] X.env)).any (·.1) = false := by rfl) :
    PE X (.Call (.Name "list" p) [.Call (.Name "zip" p2) [a, b] [] q] [] pos) (tE X.K (eLzip rm fs)) := (pe_listZip hc hg hm hg2 hm2 ha n1 hs hpl).imp fun σ H Q h => by
  obtain ⟨ρ, S, env, d, S', r, en, hf, q⟩ := h
  unfold eLzip at hf
  split at hf
  · rename_i x y S1 h1
    split at hf
    · rename_i ds es k1 k2
      refine run_a r en h1 fun ρ1 H1 vs e1 r1 hv1 en1 => ?_
      obtain ⟨v, u, rfl, hv, hu⟩ := rds2 hv1
      obtain ⟨l1, xs, rfl, s1, rx⟩ := list_rd r1 hv k1
      obtain ⟨l2, ys, rfl, s2, ry⟩ := list_rd r1 hu k2
      refine ⟨l1, l2, xs, ys, rfl, s1, s2, fun Ts L ln nd fT fL nL => ?_⟩
      obtain ⟨x2, r2, p2⟩ := zip_rds r1 rx ry ln nd fT
      exact mkV_ok r2 p2 (Option.some.inj hf) (by rw [updT_out nL]; exact fL) fun ρ' H' v e' r' hv' => q ρ' H' v ((e1.trans x2).trans e') r' hv'
    · cases hf
  · cases hf
@[simp] theorem r_eLzip {rm : Bool} {env : Lv.Env} {S : Sto} : eLzip rm fs env S = (match fs env S with
  | some ([x, y], S1) => (match listOf S1 x, listOf S1 y with
    | some ds, some es => some (mkV rm (zipD ds es) S1)
    | _, _ => none)
  | _ => none) := rfl
end
end Lv
namespace K16
open PySem PySem.Spec PyProof.Rows L2 Lv
def topS (i : Nat) : Stmt := PySem.Challenge.pw_stillranges_k16_rows_and_tables_within_j.main.body.getD i (.Pass ⟨0, 0, 0, 0⟩)
abbrev s__law_cell : Stmt := topS 56
abbrev N__law_cell : List Str := ["script", "index"]
abbrev P__law_cell : List Str := ["script", "index"]
theorem sc__law_cell : FnScope N__law_cell P__law_cell (defScope s__law_cell) := ⟨rfl, rfl, rfl, by decide +kernel, rfl, by decide +kernel, by decide +kernel⟩
theorem bi__law_cell {K : PySem.W.Frag} {f : Addr} {fd : FuncData} (F : Fun K "_law_cell" "_law_cell" s__law_cell f fd) : Binds K fd P__law_cell [] := F.binds (ps := P__law_cell) fun _ _ _ _ _ _ us hl => match us, hl with | [_, _], _ => rfl
abbrev s__law_generator : Stmt := topS 57
abbrev N__law_generator : List Str := ["script", "index", "seed"]
abbrev P__law_generator : List Str := ["script", "index"]
theorem sc__law_generator : FnScope N__law_generator P__law_generator (defScope s__law_generator) := ⟨rfl, rfl, rfl, by decide +kernel, rfl, by decide +kernel, by decide +kernel⟩
theorem bi__law_generator {K : PySem.W.Frag} {f : Addr} {fd : FuncData} (F : Fun K "_law_generator" "_law_generator" s__law_generator f fd) : Binds K fd P__law_generator [] := F.binds (ps := P__law_generator) fun _ _ _ _ _ _ us hl => match us, hl with | [_, _], _ => rfl
abbrev s__law_ends : Stmt := topS 61
abbrev N__law_ends : List Str := ["pairs", "low", "high"]
abbrev P__law_ends : List Str := ["pairs"]
theorem sc__law_ends : FnScope N__law_ends P__law_ends (defScope s__law_ends) := ⟨rfl, rfl, rfl, by decide +kernel, rfl, by decide +kernel, by decide +kernel⟩
theorem bi__law_ends {K : PySem.W.Frag} {f : Addr} {fd : FuncData} (F : Fun K "_law_ends" "_law_ends" s__law_ends f fd) : Binds K fd P__law_ends [] := F.binds (ps := P__law_ends) fun _ _ _ _ _ _ us hl => match us, hl with | [_], _ => rfl
abbrev s__law_pairs : Stmt := topS 60
abbrev N__law_pairs : List Str := ["row", "low", "high"]
abbrev P__law_pairs : List Str := ["row"]
theorem sc__law_pairs : FnScope N__law_pairs P__law_pairs (defScope s__law_pairs) := ⟨rfl, rfl, rfl, by decide +kernel, rfl, by decide +kernel, by decide +kernel⟩
theorem bi__law_pairs {K : PySem.W.Frag} {f : Addr} {fd : FuncData} (F : Fun K "_law_pairs" "_law_pairs" s__law_pairs f fd) : Binds K fd P__law_pairs [] := F.binds (ps := P__law_pairs) fun _ _ _ _ _ _ us hl => match us, hl with | [_], _ => rfl
abbrev s__law_joined : Stmt := topS 65
abbrev N__law_joined : List Str := ["one", "two", "pairs", "low", "high"]
abbrev P__law_joined : List Str := ["one", "two"]
theorem sc__law_joined : FnScope N__law_joined P__law_joined (defScope s__law_joined) := ⟨rfl, rfl, rfl, by decide +kernel, rfl, by decide +kernel, by decide +kernel⟩
noncomputable def b__law_joined (fu : Nat) : SF := (sCons (sIf (tOrF (truB (eBin (gIsN false) (eVar 0) (eC .non))) (truB (eBin (gIsN false) (eVar 1) (eC .non)))) (sCons (sRet (eIf (truB (eBin (gIsN false) (eVar 0) (eC .non))) (eVar 1) (eVar 0))) sNil) sNil) (sCons (sSet 2 (eLzip false (aCons (eCall (Com.c__law_pairs fu) (aCons (eVar 0) aNil)) (aCons (eCall (Com.c__law_pairs fu) (aCons (eVar 1) aNil)) aNil)))) (sCons (sRet (eCall (Com.c__law_ends fu) (aCons (eComp false fu [3, 4] (iAny (eVar 2)) (.tp [3, 4]) tYesF (eCall cTup (aCons (eCall cMin (aCons (eBin gIx (eVar 3) (eC (.int 0))) (aCons (eBin gIx (eVar 4) (eC (.int 0))) aNil))) (aCons (eCall cMax (aCons (eBin gIx (eVar 3) (eC (.int 1))) (aCons (eBin gIx (eVar 4) (eC (.int 1))) aNil))) aNil)))) aNil))) sNil)))
noncomputable def u__law_joined (fu : Nat) : CF := fnF 2 5 (b__law_joined fu)
noncomputable def c__law_joined (fu : Nat) : CF := sealed (u__law_joined fu)
theorem bi__law_joined {K : PySem.W.Frag} {f : Addr} {fd : FuncData} (F : Fun K "_law_joined" "_law_joined" s__law_joined f fd) : Binds K fd P__law_joined [] := F.binds (ps := P__law_joined) fun _ _ _ _ _ _ us hl => match us, hl with | [_, _], _ => rfl
abbrev s__law_marked : Stmt := topS 67
abbrev N__law_marked : List Str := ["told", "kept", "item"]
abbrev P__law_marked : List Str := ["told"]
theorem sc__law_marked : FnScope N__law_marked P__law_marked (defScope s__law_marked) := ⟨rfl, rfl, rfl, by decide +kernel, rfl, by decide +kernel, by decide +kernel⟩
noncomputable def b__law_marked (fu : Nat) (gs : CF) : SF := (sCons (sIf (truF (eCall cIsi (aCons (eVar 0) (aCons (eC (.ty "list")) aNil)))) (sCons (sIf (tAndF (truB (eBin (gEqv true) (eVar 0) (eCall (cLst false) aNil))) (truB (eBin (gEqv false) (eBin gIx (eVar 0) (eNeg (eC (.int 1)))) (eC (.str "marked"))))) (sCons (sRet (eC (.bl false))) sNil) sNil) (sCons (sSet 1 (eShutB (eComp true fu [2] (iAny (eVar 0)) (.nm 2) tYesF (eCall gs (aCons (eVar 2) aNil))))) (sCons (sDrop (eMethL mAppend (eVar 0) (aCons (eC (.str "marked")) aNil))) (sCons (sRet (eBin (gIn2 true) (eC (.bl false)) (eVar 1))) sNil)))) sNil) (sCons (sRet (eOr (eNotT (eCall cIsi (aCons (eVar 0) (aCons (eC (.ty "tuple")) aNil)))) (eBin (gIn2 true) (eC (.bl false)) (eShutB (eComp true fu [2] (iAny (eVar 0)) (.nm 2) tYesF (eCall gs (aCons (eVar 2) aNil))))))) sNil))
noncomputable def cr__law_marked (fu : Nat) : Nat → CF
  | 0 => sealedB (fnF 1 3 (b__law_marked fu fun _ _ => none))
  | n + 1 => sealedB (fnF 1 3 (b__law_marked fu (cr__law_marked fu n)))
noncomputable def c__law_marked (fu : Nat) : CF := cr__law_marked fu 40
theorem arr__law_marked {fu : Nat} : ∀ n : Nat, Ar (cr__law_marked fu n) 1
  | 0 => ar_sealedB ar_fn
  | _ + 1 => ar_sealedB ar_fn
theorem bi__law_marked {K : PySem.W.Frag} {f : Addr} {fd : FuncData} (F : Fun K "_law_marked" "_law_marked" s__law_marked f fd) : Binds K fd P__law_marked [] := F.binds (ps := P__law_marked) fun _ _ _ _ _ _ us hl => match us, hl with | [_], _ => rfl
abbrev s__law_met : Stmt := topS 66
abbrev N__law_met : List Str := ["one", "two", "pairs", "found", "low", "high"]
abbrev P__law_met : List Str := ["one", "two"]
theorem sc__law_met : FnScope N__law_met P__law_met (defScope s__law_met) := ⟨rfl, rfl, rfl, by decide +kernel, rfl, by decide +kernel, by decide +kernel⟩
noncomputable def b__law_met (fu : Nat) : SF := (sCons (sIf (tOrF (truB (eBin (gIsN false) (eVar 0) (eC .non))) (truB (eBin (gIsN false) (eVar 1) (eC .non)))) (sCons (sRet (eC .non)) sNil) sNil) (sCons (sSet 2 (eLzip false (aCons (eCall (Com.c__law_pairs fu) (aCons (eVar 0) aNil)) (aCons (eCall (Com.c__law_pairs fu) (aCons (eVar 1) aNil)) aNil)))) (sCons (sSet 3 (eComp false fu [4, 5] (iAny (eVar 2)) (.tp [4, 5]) tYesF (eCall cTup (aCons (eCall cMax (aCons (eBin gIx (eVar 4) (eC (.int 0))) (aCons (eBin gIx (eVar 5) (eC (.int 0))) aNil))) (aCons (eCall cMin (aCons (eBin gIx (eVar 4) (eC (.int 1))) (aCons (eBin gIx (eVar 5) (eC (.int 1))) aNil))) aNil))))) (sCons (sRet (eIf (truB (eBin (gEqv true) (eComp false fu [4, 5] (iAny (eVar 3)) (.tp [4, 5]) (truB (eBin (gCmp2 (fun i j => decide (j < i)) fGt) (eVar 4) (eVar 5))) (eC (.int 1))) (eCall (cLst false) aNil))) (eC .non) (eCall (Com.c__law_ends fu) (aCons (eVar 3) aNil)))) sNil))))
noncomputable def u__law_met (fu : Nat) : CF := fnF 2 6 (b__law_met fu)
noncomputable def c__law_met (fu : Nat) : CF := sealed (u__law_met fu)
theorem bi__law_met {K : PySem.W.Frag} {f : Addr} {fd : FuncData} (F : Fun K "_law_met" "_law_met" s__law_met f fd) : Binds K fd P__law_met [] := F.binds (ps := P__law_met) fun _ _ _ _ _ _ us hl => match us, hl with | [_, _], _ => rfl
abbrev s__law_hash : Stmt := topS 54
abbrev N__law_hash : List Str := ["seed", "index", "mixed"]
abbrev P__law_hash : List Str := ["seed", "index"]
theorem sc__law_hash : FnScope N__law_hash P__law_hash (defScope s__law_hash) := ⟨rfl, rfl, rfl, by decide +kernel, rfl, by decide +kernel, by decide +kernel⟩
theorem bi__law_hash {K : PySem.W.Frag} {f : Addr} {fd : FuncData} (F : Fun K "_law_hash" "_law_hash" s__law_hash f fd) : Binds K fd P__law_hash [] := F.binds (ps := P__law_hash) fun _ _ _ _ _ _ us hl => match us, hl with | [_, _], _ => rfl
abbrev s__law_random : Stmt := topS 55
abbrev N__law_random : List Str := ["generator", "bound", "drawn", "turn"]
abbrev P__law_random : List Str := ["generator", "bound"]
theorem sc__law_random : FnScope N__law_random P__law_random (defScope s__law_random) := ⟨rfl, rfl, rfl, by decide +kernel, rfl, by decide +kernel, by decide +kernel⟩
theorem bi__law_random {K : PySem.W.Frag} {f : Addr} {fd : FuncData} (F : Fun K "_law_random" "_law_random" s__law_random f fd) : Binds K fd P__law_random [] := F.binds (ps := P__law_random) fun _ _ _ _ _ _ us hl => match us, hl with | [_, _], _ => rfl
abbrev s__law_names : Stmt := topS 62
abbrev N__law_names : List Str := ["generator", "many", "menu", "found", "at"]
abbrev P__law_names : List Str := ["generator", "many"]
theorem sc__law_names : FnScope N__law_names P__law_names (defScope s__law_names) := ⟨rfl, rfl, rfl, by decide +kernel, rfl, by decide +kernel, by decide +kernel⟩
theorem bi__law_names {K : PySem.W.Frag} {f : Addr} {fd : FuncData} (F : Fun K "_law_names" "_law_names" s__law_names f fd) : Binds K fd P__law_names [] := F.binds (ps := P__law_names) fun _ _ _ _ _ _ us hl => match us, hl with | [_, _], _ => rfl
abbrev s__law_number : Stmt := topS 58
abbrev N__law_number : List Str := ["generator", "most"]
abbrev P__law_number : List Str := ["generator", "most"]
theorem sc__law_number : FnScope N__law_number P__law_number (defScope s__law_number) := ⟨rfl, rfl, rfl, by decide +kernel, rfl, by decide +kernel, by decide +kernel⟩
theorem bi__law_number {K : PySem.W.Frag} {f : Addr} {fd : FuncData} (F : Fun K "_law_number" "_law_number" s__law_number f fd) : Binds K fd P__law_number [] := F.binds (ps := P__law_number) fun _ _ _ _ _ _ us hl => match us, hl with | [_, _], _ => rfl
abbrev s__law_range : Stmt := topS 59
abbrev N__law_range : List Str := ["generator", "most", "low", "high", "way"]
abbrev P__law_range : List Str := ["generator", "most"]
theorem sc__law_range : FnScope N__law_range P__law_range (defScope s__law_range) := ⟨rfl, rfl, rfl, by decide +kernel, rfl, by decide +kernel, by decide +kernel⟩
theorem bi__law_range {K : PySem.W.Frag} {f : Addr} {fd : FuncData} (F : Fun K "_law_range" "_law_range" s__law_range f fd) : Binds K fd P__law_range [] := F.binds (ps := P__law_range) fun _ _ _ _ _ _ us hl => match us, hl with | [_, _], _ => rfl
abbrev s__law_wider : Stmt := topS 63
abbrev N__law_wider : List Str := ["generator", "row", "found", "low", "high", "way"]
abbrev P__law_wider : List Str := ["generator", "row"]
theorem sc__law_wider : FnScope N__law_wider P__law_wider (defScope s__law_wider) := ⟨rfl, rfl, rfl, by decide +kernel, rfl, by decide +kernel, by decide +kernel⟩
theorem bi__law_wider {K : PySem.W.Frag} {f : Addr} {fd : FuncData} (F : Fun K "_law_wider" "_law_wider" s__law_wider f fd) : Binds K fd P__law_wider [] := F.binds (ps := P__law_wider) fun _ _ _ _ _ _ us hl => match us, hl with | [_, _], _ => rfl
abbrev s__law_within : Stmt := topS 64
abbrev N__law_within : List Str := ["one", "two", "pairs", "low", "high"]
abbrev P__law_within : List Str := ["one", "two"]
theorem sc__law_within : FnScope N__law_within P__law_within (defScope s__law_within) := ⟨rfl, rfl, rfl, by decide +kernel, rfl, by decide +kernel, by decide +kernel⟩
noncomputable def b__law_within (fu : Nat) : SF := (sCons (sIf (tOrF (truB (eBin (gIsN false) (eVar 0) (eC .non))) (truB (eBin (gIsN false) (eVar 1) (eC .non)))) (sCons (sRet (eBin (gIsN false) (eVar 0) (eC .non))) sNil) sNil) (sCons (sSet 2 (eLzip false (aCons (eCall (Com.c__law_pairs fu) (aCons (eVar 0) aNil)) (aCons (eCall (Com.c__law_pairs fu) (aCons (eVar 1) aNil)) aNil)))) (sCons (sRet (eBin (gEqv false) (eComp false fu [3, 4] (iAny (eVar 2)) (.tp [3, 4]) (tOrF (truB (eBin (gCmp2 (fun i j => decide (i < j)) fLt) (eBin gIx (eVar 3) (eC (.int 0))) (eBin gIx (eVar 4) (eC (.int 0))))) (truB (eBin (gCmp2 (fun i j => decide (j < i)) fGt) (eBin gIx (eVar 3) (eC (.int 1))) (eBin gIx (eVar 4) (eC (.int 1)))))) (eC (.int 1))) (eCall (cLst false) aNil))) sNil)))
noncomputable def u__law_within (fu : Nat) : CF := fnF 2 5 (b__law_within fu)
noncomputable def c__law_within (fu : Nat) : CF := sealed (u__law_within fu)
theorem bi__law_within {K : PySem.W.Frag} {f : Addr} {fd : FuncData} (F : Fun K "_law_within" "_law_within" s__law_within f fd) : Binds K fd P__law_within [] := F.binds (ps := P__law_within) fun _ _ _ _ _ _ us hl => match us, hl with | [_, _], _ => rfl
abbrev s_a_whole : Stmt := topS 8
abbrev N_a_whole : List Str := ["value"]
abbrev P_a_whole : List Str := ["value"]
theorem sc_a_whole : FnScope N_a_whole P_a_whole (defScope s_a_whole) := ⟨rfl, rfl, rfl, by decide +kernel, rfl, by decide +kernel, by decide +kernel⟩
theorem bi_a_whole {K : PySem.W.Frag} {f : Addr} {fd : FuncData} (F : Fun K "a_whole" "a_whole" s_a_whole f fd) : Binds K fd P_a_whole [] := F.binds (ps := P_a_whole) fun _ _ _ _ _ _ us hl => match us, hl with | [_], _ => rfl
abbrev s_an_end : Stmt := topS 9
abbrev N_an_end : List Str := ["value"]
abbrev P_an_end : List Str := ["value"]
theorem sc_an_end : FnScope N_an_end P_an_end (defScope s_an_end) := ⟨rfl, rfl, rfl, by decide +kernel, rfl, by decide +kernel, by decide +kernel⟩
theorem bi_an_end {K : PySem.W.Frag} {f : Addr} {fd : FuncData} (F : Fun K "an_end" "an_end" s_an_end f fd) : Binds K fd P_an_end [] := F.binds (ps := P_an_end) fun _ _ _ _ _ _ us hl => match us, hl with | [_], _ => rfl
abbrev s_a_range : Stmt := topS 10
abbrev N_a_range : List Str := ["value", "low", "high"]
abbrev P_a_range : List Str := ["value"]
theorem sc_a_range : FnScope N_a_range P_a_range (defScope s_a_range) := ⟨rfl, rfl, rfl, by decide +kernel, rfl, by decide +kernel, by decide +kernel⟩
theorem bi_a_range {K : PySem.W.Frag} {f : Addr} {fd : FuncData} (F : Fun K "a_range" "a_range" s_a_range f fd) : Binds K fd P_a_range [] := F.binds (ps := P_a_range) fun _ _ _ _ _ _ us hl => match us, hl with | [_], _ => rfl
abbrev s__a_part : Stmt := topS 15
abbrev N__a_part : List Str := ["names", "form", "value"]
abbrev P__a_part : List Str := ["names", "form", "value"]
theorem sc__a_part : FnScope N__a_part P__a_part (defScope s__a_part) := ⟨rfl, rfl, rfl, by decide +kernel, rfl, by decide +kernel, by decide +kernel⟩
theorem bi__a_part {K : PySem.W.Frag} {f : Addr} {fd : FuncData} (F : Fun K "_a_part" "_a_part" s__a_part f fd) : Binds K fd P__a_part [] := F.binds (ps := P__a_part) fun _ _ _ _ _ _ us hl => match us, hl with | [_, _, _], _ => rfl
abbrev s_a_deed : Stmt := topS 16
abbrev N_a_deed : List Str := ["names", "value", "forms", "form", "part"]
abbrev P_a_deed : List Str := ["names", "value"]
theorem sc_a_deed : FnScope N_a_deed P_a_deed (defScope s_a_deed) := ⟨rfl, rfl, rfl, by decide +kernel, rfl, by decide +kernel, by decide +kernel⟩
theorem bi_a_deed {K : PySem.W.Frag} {f : Addr} {fd : FuncData} (F : Fun K "a_deed" "a_deed" s_a_deed f fd) : Binds K fd P_a_deed [] := F.binds (ps := P_a_deed) fun _ _ _ _ _ _ us hl => match us, hl with | [_, _], _ => rfl
abbrev s_a_number_below : Stmt := topS 17
abbrev N_a_number_below : List Str := ["many", "value"]
abbrev P_a_number_below : List Str := ["many", "value"]
theorem sc_a_number_below : FnScope N_a_number_below P_a_number_below (defScope s_a_number_below) := ⟨rfl, rfl, rfl, by decide +kernel, rfl, by decide +kernel, by decide +kernel⟩
theorem bi_a_number_below {K : PySem.W.Frag} {f : Addr} {fd : FuncData} (F : Fun K "a_number_below" "a_number_below" s_a_number_below f fd) : Binds K fd P_a_number_below [] := F.binds (ps := P_a_number_below) fun _ _ _ _ _ _ us hl => match us, hl with | [_, _], _ => rfl
abbrev s_a_step : Stmt := topS 18
abbrev N_a_step : List Str := ["names", "many", "value", "source", "target", "deed"]
abbrev P_a_step : List Str := ["names", "many", "value"]
theorem sc_a_step : FnScope N_a_step P_a_step (defScope s_a_step) := ⟨rfl, rfl, rfl, by decide +kernel, rfl, by decide +kernel, by decide +kernel⟩
theorem bi_a_step {K : PySem.W.Frag} {f : Addr} {fd : FuncData} (F : Fun K "a_step" "a_step" s_a_step f fd) : Binds K fd P_a_step [] := F.binds (ps := P_a_step) fun _ _ _ _ _ _ us hl => match us, hl with | [_, _, _], _ => rfl
abbrev s__a_short_count : Stmt := topS 11
abbrev N__a_short_count : List Str := ["word", "sign"]
abbrev P__a_short_count : List Str := ["word"]
theorem sc__a_short_count : FnScope N__a_short_count P__a_short_count (defScope s__a_short_count) := ⟨rfl, rfl, rfl, by decide +kernel, rfl, by decide +kernel, by decide +kernel⟩
theorem bi__a_short_count {K : PySem.W.Frag} {f : Addr} {fd : FuncData} (F : Fun K "_a_short_count" "_a_short_count" s__a_short_count f fd) : Binds K fd P__a_short_count [] := F.binds (ps := P__a_short_count) fun _ _ _ _ _ _ us hl => match us, hl with | [_], _ => rfl
abbrev s_a_name : Stmt := topS 12
abbrev N_a_name : List Str := ["value", "letters"]
abbrev P_a_name : List Str := ["value"]
theorem sc_a_name : FnScope N_a_name P_a_name (defScope s_a_name) := ⟨rfl, rfl, rfl, by decide +kernel, rfl, by decide +kernel, by decide +kernel⟩
theorem bi_a_name {K : PySem.W.Frag} {f : Addr} {fd : FuncData} (F : Fun K "a_name" "a_name" s_a_name f fd) : Binds K fd P_a_name [] := F.binds (ps := P_a_name) fun _ _ _ _ _ _ us hl => match us, hl with | [_], _ => rfl
abbrev s_ascending : Stmt := topS 13
abbrev N_ascending : List Str := ["values", "one", "other"]
abbrev P_ascending : List Str := ["values"]
theorem sc_ascending : FnScope N_ascending P_ascending (defScope s_ascending) := ⟨rfl, rfl, rfl, by decide +kernel, rfl, by decide +kernel, by decide +kernel⟩
theorem bi_ascending {K : PySem.W.Frag} {f : Addr} {fd : FuncData} (F : Fun K "ascending" "ascending" s_ascending f fd) : Binds K fd P_ascending [] := F.binds (ps := P_ascending) fun _ _ _ _ _ _ us hl => match us, hl with | [_], _ => rfl
abbrev s_some_names : Stmt := topS 14
abbrev N_some_names : List Str := ["value", "name"]
abbrev P_some_names : List Str := ["value"]
theorem sc_some_names : FnScope N_some_names P_some_names (defScope s_some_names) := ⟨rfl, rfl, rfl, by decide +kernel, rfl, by decide +kernel, by decide +kernel⟩
theorem bi_some_names {K : PySem.W.Frag} {f : Addr} {fd : FuncData} (F : Fun K "some_names" "some_names" s_some_names f fd) : Binds K fd P_some_names [] := F.binds (ps := P_some_names) fun _ _ _ _ _ _ us hl => match us, hl with | [_], _ => rfl
abbrev s_some_ranges : Stmt := topS 19
abbrev N_some_ranges : List Str := ["names", "value", "span"]
abbrev P_some_ranges : List Str := ["names", "value"]
theorem sc_some_ranges : FnScope N_some_ranges P_some_ranges (defScope s_some_ranges) := ⟨rfl, rfl, rfl, by decide +kernel, rfl, by decide +kernel, by decide +kernel⟩
theorem bi_some_ranges {K : PySem.W.Frag} {f : Addr} {fd : FuncData} (F : Fun K "some_ranges" "some_ranges" s_some_ranges f fd) : Binds K fd P_some_ranges [] := F.binds (ps := P_some_ranges) fun _ _ _ _ _ _ us hl => match us, hl with | [_, _], _ => rfl
abbrev s_a_program : Stmt := topS 20
abbrev N_a_program : List Str := ["value", "names", "many", "start", "steps", "step"]
abbrev P_a_program : List Str := ["value"]
theorem sc_a_program : FnScope N_a_program P_a_program (defScope s_a_program) := ⟨rfl, rfl, rfl, by decide +kernel, rfl, by decide +kernel, by decide +kernel⟩
theorem bi_a_program {K : PySem.W.Frag} {f : Addr} {fd : FuncData} (F : Fun K "a_program" "a_program" s_a_program f fd) : Binds K fd P_a_program [] := F.binds (ps := P_a_program) fun _ _ _ _ _ _ us hl => match us, hl with | [_], _ => rfl
abbrev s_need_program : Stmt := topS 24
abbrev N_need_program : List Str := ["program"]
abbrev P_need_program : List Str := ["program"]
theorem sc_need_program : FnScope N_need_program P_need_program (defScope s_need_program) := ⟨rfl, rfl, rfl, by decide +kernel, rfl, by decide +kernel, by decide +kernel⟩
theorem bi_need_program {K : PySem.W.Frag} {f : Addr} {fd : FuncData} (F : Fun K "need_program" "need_program" s_need_program f fd) : Binds K fd P_need_program [] := F.binds (ps := P_need_program) fun _ _ _ _ _ _ us hl => match us, hl with | [_], _ => rfl
abbrev s_a_row : Stmt := topS 21
abbrev N_a_row : List Str := ["program", "value"]
abbrev P_a_row : List Str := ["program", "value"]
theorem sc_a_row : FnScope N_a_row P_a_row (defScope s_a_row) := ⟨rfl, rfl, rfl, by decide +kernel, rfl, by decide +kernel, by decide +kernel⟩
theorem bi_a_row {K : PySem.W.Frag} {f : Addr} {fd : FuncData} (F : Fun K "a_row" "a_row" s_a_row f fd) : Binds K fd P_a_row [] := F.binds (ps := P_a_row) fun _ _ _ _ _ _ us hl => match us, hl with | [_, _], _ => rfl
abbrev s_need_row : Stmt := topS 25
abbrev N_need_row : List Str := ["program", "row"]
abbrev P_need_row : List Str := ["program", "row"]
theorem sc_need_row : FnScope N_need_row P_need_row (defScope s_need_row) := ⟨rfl, rfl, rfl, by decide +kernel, rfl, by decide +kernel, by decide +kernel⟩
theorem bi_need_row {K : PySem.W.Frag} {f : Addr} {fd : FuncData} (F : Fun K "need_row" "need_row" s_need_row f fd) : Binds K fd P_need_row [] := F.binds (ps := P_need_row) fun _ _ _ _ _ _ us hl => match us, hl with | [_, _], _ => rfl
abbrev s__need_rows : Stmt := topS 45
abbrev N__need_rows : List Str := ["program", "row", "other"]
abbrev P__need_rows : List Str := ["program", "row", "other"]
theorem sc__need_rows : FnScope N__need_rows P__need_rows (defScope s__need_rows) := ⟨rfl, rfl, rfl, by decide +kernel, rfl, by decide +kernel, by decide +kernel⟩
theorem bi__need_rows {K : PySem.W.Frag} {f : Addr} {fd : FuncData} (F : Fun K "_need_rows" "_need_rows" s__need_rows f fd) : Binds K fd P__need_rows [] := F.binds (ps := P__need_rows) fun _ _ _ _ _ _ us hl => match us, hl with | [_, _, _], _ => rfl
abbrev s__greater_high : Stmt := topS 29
abbrev N__greater_high : List Str := ["one", "other"]
abbrev P__greater_high : List Str := ["one", "other"]
theorem sc__greater_high : FnScope N__greater_high P__greater_high (defScope s__greater_high) := ⟨rfl, rfl, rfl, by decide +kernel, rfl, by decide +kernel, by decide +kernel⟩
theorem bi__greater_high {K : PySem.W.Frag} {f : Addr} {fd : FuncData} (F : Fun K "_greater_high" "_greater_high" s__greater_high f fd) : Binds K fd P__greater_high [] := F.binds (ps := P__greater_high) fun _ _ _ _ _ _ us hl => match us, hl with | [_, _], _ => rfl
abbrev s__lesser_low : Stmt := topS 28
abbrev N__lesser_low : List Str := ["one", "other"]
abbrev P__lesser_low : List Str := ["one", "other"]
theorem sc__lesser_low : FnScope N__lesser_low P__lesser_low (defScope s__lesser_low) := ⟨rfl, rfl, rfl, by decide +kernel, rfl, by decide +kernel, by decide +kernel⟩
theorem bi__lesser_low {K : PySem.W.Frag} {f : Addr} {fd : FuncData} (F : Fun K "_lesser_low" "_lesser_low" s__lesser_low f fd) : Binds K fd P__lesser_low [] := F.binds (ps := P__lesser_low) fun _ _ _ _ _ _ us hl => match us, hl with | [_, _], _ => rfl
abbrev s_joined : Stmt := topS 33
abbrev N_joined : List Str := ["span", "other"]
abbrev P_joined : List Str := ["span", "other"]
theorem sc_joined : FnScope N_joined P_joined (defScope s_joined) := ⟨rfl, rfl, rfl, by decide +kernel, rfl, by decide +kernel, by decide +kernel⟩
theorem bi_joined {K : PySem.W.Frag} {f : Addr} {fd : FuncData} (F : Fun K "joined" "joined" s_joined f fd) : Binds K fd P_joined [] := F.binds (ps := P_joined) fun _ _ _ _ _ _ us hl => match us, hl with | [_, _], _ => rfl
abbrev s_joined_rows : Stmt := topS 37
abbrev N_joined_rows : List Str := ["row", "other", "span", "beside"]
abbrev P_joined_rows : List Str := ["row", "other"]
theorem sc_joined_rows : FnScope N_joined_rows P_joined_rows (defScope s_joined_rows) := ⟨rfl, rfl, rfl, by decide +kernel, rfl, by decide +kernel, by decide +kernel⟩
noncomputable def bw_joined_rows (fu : Nat) : SF := (sCons (sRet (eComp true fu [2, 3] (iZipA2 (aCons (eVar 0) (aCons (eVar 1) aNil))) (.tp [2, 3]) tYesF (eCall (Com.c_joined fu) (aCons (eVar 2) (aCons (eVar 3) aNil))))) sNil)
noncomputable def uw_joined_rows (fu : Nat) : CF := fnF 2 4 (bw_joined_rows fu)
noncomputable def w_joined_rows (fu : Nat) : CF := sealedW (uw_joined_rows fu)
theorem bi_joined_rows {K : PySem.W.Frag} {f : Addr} {fd : FuncData} (F : Fun K "joined_rows" "joined_rows" s_joined_rows f fd) : Binds K fd P_joined_rows [] := F.binds (ps := P_joined_rows) fun _ _ _ _ _ _ us hl => match us, hl with | [_, _], _ => rfl
abbrev s_row_joined : Stmt := topS 48
abbrev N_row_joined : List Str := ["program", "row", "other"]
abbrev P_row_joined : List Str := ["program", "row", "other"]
theorem sc_row_joined : FnScope N_row_joined P_row_joined (defScope s_row_joined) := ⟨rfl, rfl, rfl, by decide +kernel, rfl, by decide +kernel, by decide +kernel⟩
noncomputable def bw_row_joined (fu : Nat) : SF := (sCons (sDrop (eCall (Com.c__need_rows fu) (aCons (eVar 0) (aCons (eVar 1) (aCons (eVar 2) aNil))))) (sCons (sRet (eCall (w_joined_rows fu) (aCons (eVar 1) (aCons (eVar 2) aNil)))) sNil))
noncomputable def uw_row_joined (fu : Nat) : CF := fnF 3 3 (bw_row_joined fu)
noncomputable def w_row_joined (fu : Nat) : CF := sealedW (uw_row_joined fu)
theorem bi_row_joined {K : PySem.W.Frag} {f : Addr} {fd : FuncData} (F : Fun K "row_joined" "row_joined" s_row_joined f fd) : Binds K fd P_row_joined [] := F.binds (ps := P_row_joined) fun _ _ _ _ _ _ us hl => match us, hl with | [_, _, _], _ => rfl
abbrev s__greater_low : Stmt := topS 30
abbrev N__greater_low : List Str := ["one", "other"]
abbrev P__greater_low : List Str := ["one", "other"]
theorem sc__greater_low : FnScope N__greater_low P__greater_low (defScope s__greater_low) := ⟨rfl, rfl, rfl, by decide +kernel, rfl, by decide +kernel, by decide +kernel⟩
theorem bi__greater_low {K : PySem.W.Frag} {f : Addr} {fd : FuncData} (F : Fun K "_greater_low" "_greater_low" s__greater_low f fd) : Binds K fd P__greater_low [] := F.binds (ps := P__greater_low) fun _ _ _ _ _ _ us hl => match us, hl with | [_, _], _ => rfl
abbrev s__lesser_high : Stmt := topS 31
abbrev N__lesser_high : List Str := ["one", "other"]
abbrev P__lesser_high : List Str := ["one", "other"]
theorem sc__lesser_high : FnScope N__lesser_high P__lesser_high (defScope s__lesser_high) := ⟨rfl, rfl, rfl, by decide +kernel, rfl, by decide +kernel, by decide +kernel⟩
theorem bi__lesser_high {K : PySem.W.Frag} {f : Addr} {fd : FuncData} (F : Fun K "_lesser_high" "_lesser_high" s__lesser_high f fd) : Binds K fd P__lesser_high [] := F.binds (ps := P__lesser_high) fun _ _ _ _ _ _ us hl => match us, hl with | [_, _], _ => rfl
abbrev s_met : Stmt := topS 34
abbrev N_met : List Str := ["span", "other", "low", "high"]
abbrev P_met : List Str := ["span", "other"]
theorem sc_met : FnScope N_met P_met (defScope s_met) := ⟨rfl, rfl, rfl, by decide +kernel, rfl, by decide +kernel, by decide +kernel⟩
theorem bi_met {K : PySem.W.Frag} {f : Addr} {fd : FuncData} (F : Fun K "met" "met" s_met f fd) : Binds K fd P_met [] := F.binds (ps := P_met) fun _ _ _ _ _ _ us hl => match us, hl with | [_, _], _ => rfl
abbrev s_met_rows : Stmt := topS 38
abbrev N_met_rows : List Str := ["row", "other", "both", "span", "beside"]
abbrev P_met_rows : List Str := ["row", "other"]
theorem sc_met_rows : FnScope N_met_rows P_met_rows (defScope s_met_rows) := ⟨rfl, rfl, rfl, by decide +kernel, rfl, by decide +kernel, by decide +kernel⟩
noncomputable def bw_met_rows (fu : Nat) : SF := (sCons (sSet 2 (eComp true fu [3, 4] (iZipA2 (aCons (eVar 0) (aCons (eVar 1) aNil))) (.tp [3, 4]) tYesF (eCall (Com.c_met fu) (aCons (eVar 3) (aCons (eVar 4) aNil))))) (sCons (sRet (eIf (truB (eBin (gIn2 false) (eC .non) (eVar 2))) (eC .non) (eVar 2))) sNil))
noncomputable def uw_met_rows (fu : Nat) : CF := fnF 2 5 (bw_met_rows fu)
noncomputable def w_met_rows (fu : Nat) : CF := sealedW (uw_met_rows fu)
theorem bi_met_rows {K : PySem.W.Frag} {f : Addr} {fd : FuncData} (F : Fun K "met_rows" "met_rows" s_met_rows f fd) : Binds K fd P_met_rows [] := F.binds (ps := P_met_rows) fun _ _ _ _ _ _ us hl => match us, hl with | [_, _], _ => rfl
abbrev s_row_met : Stmt := topS 49
abbrev N_row_met : List Str := ["program", "row", "other"]
abbrev P_row_met : List Str := ["program", "row", "other"]
theorem sc_row_met : FnScope N_row_met P_row_met (defScope s_row_met) := ⟨rfl, rfl, rfl, by decide +kernel, rfl, by decide +kernel, by decide +kernel⟩
noncomputable def bw_row_met (fu : Nat) : SF := (sCons (sDrop (eCall (Com.c__need_rows fu) (aCons (eVar 0) (aCons (eVar 1) (aCons (eVar 2) aNil))))) (sCons (sRet (eCall (w_met_rows fu) (aCons (eVar 1) (aCons (eVar 2) aNil)))) sNil))
noncomputable def uw_row_met (fu : Nat) : CF := fnF 3 3 (bw_row_met fu)
noncomputable def w_row_met (fu : Nat) : CF := sealedW (uw_row_met fu)
theorem bi_row_met {K : PySem.W.Frag} {f : Addr} {fd : FuncData} (F : Fun K "row_met" "row_met" s_row_met f fd) : Binds K fd P_row_met [] := F.binds (ps := P_row_met) fun _ _ _ _ _ _ us hl => match us, hl with | [_, _, _], _ => rfl
abbrev s_lies_within : Stmt := topS 32
abbrev N_lies_within : List Str := ["span", "other", "low", "high"]
abbrev P_lies_within : List Str := ["span", "other"]
theorem sc_lies_within : FnScope N_lies_within P_lies_within (defScope s_lies_within) := ⟨rfl, rfl, rfl, by decide +kernel, rfl, by decide +kernel, by decide +kernel⟩
theorem bi_lies_within {K : PySem.W.Frag} {f : Addr} {fd : FuncData} (F : Fun K "lies_within" "lies_within" s_lies_within f fd) : Binds K fd P_lies_within [] := F.binds (ps := P_lies_within) fun _ _ _ _ _ _ us hl => match us, hl with | [_, _], _ => rfl
abbrev s_within_row : Stmt := topS 36
abbrev N_within_row : List Str := ["row", "other", "span", "beside"]
abbrev P_within_row : List Str := ["row", "other"]
theorem sc_within_row : FnScope N_within_row P_within_row (defScope s_within_row) := ⟨rfl, rfl, rfl, by decide +kernel, rfl, by decide +kernel, by decide +kernel⟩
theorem bi_within_row {K : PySem.W.Frag} {f : Addr} {fd : FuncData} (F : Fun K "within_row" "within_row" s_within_row f fd) : Binds K fd P_within_row [] := F.binds (ps := P_within_row) fun _ _ _ _ _ _ us hl => match us, hl with | [_, _], _ => rfl
abbrev s_row_within : Stmt := topS 47
abbrev N_row_within : List Str := ["program", "row", "other"]
abbrev P_row_within : List Str := ["program", "row", "other"]
theorem sc_row_within : FnScope N_row_within P_row_within (defScope s_row_within) := ⟨rfl, rfl, rfl, by decide +kernel, rfl, by decide +kernel, by decide +kernel⟩
theorem bi_row_within {K : PySem.W.Frag} {f : Addr} {fd : FuncData} (F : Fun K "row_within" "row_within" s_row_within f fd) : Binds K fd P_row_within [] := F.binds (ps := P_row_within) fun _ _ _ _ _ _ us hl => match us, hl with | [_, _, _], _ => rfl
abbrev s_a_table : Stmt := topS 22
abbrev N_a_table : List Str := ["program", "value", "row"]
abbrev P_a_table : List Str := ["program", "value"]
theorem sc_a_table : FnScope N_a_table P_a_table (defScope s_a_table) := ⟨rfl, rfl, rfl, by decide +kernel, rfl, by decide +kernel, by decide +kernel⟩
theorem bi_a_table {K : PySem.W.Frag} {f : Addr} {fd : FuncData} (F : Fun K "a_table" "a_table" s_a_table f fd) : Binds K fd P_a_table [] := F.binds (ps := P_a_table) fun _ _ _ _ _ _ us hl => match us, hl with | [_, _], _ => rfl
abbrev s_need_table : Stmt := topS 26
abbrev N_need_table : List Str := ["program", "table"]
abbrev P_need_table : List Str := ["program", "table"]
theorem sc_need_table : FnScope N_need_table P_need_table (defScope s_need_table) := ⟨rfl, rfl, rfl, by decide +kernel, rfl, by decide +kernel, by decide +kernel⟩
theorem bi_need_table {K : PySem.W.Frag} {f : Addr} {fd : FuncData} (F : Fun K "need_table" "need_table" s_need_table f fd) : Binds K fd P_need_table [] := F.binds (ps := P_need_table) fun _ _ _ _ _ _ us hl => match us, hl with | [_, _], _ => rfl
abbrev s__need_tables : Stmt := topS 46
abbrev N__need_tables : List Str := ["program", "table", "other"]
abbrev P__need_tables : List Str := ["program", "table", "other"]
theorem sc__need_tables : FnScope N__need_tables P__need_tables (defScope s__need_tables) := ⟨rfl, rfl, rfl, by decide +kernel, rfl, by decide +kernel, by decide +kernel⟩
theorem bi__need_tables {K : PySem.W.Frag} {f : Addr} {fd : FuncData} (F : Fun K "_need_tables" "_need_tables" s__need_tables f fd) : Binds K fd P__need_tables [] := F.binds (ps := P__need_tables) fun _ _ _ _ _ _ us hl => match us, hl with | [_, _, _], _ => rfl
abbrev s_copied_row : Stmt := topS 39
abbrev N_copied_row : List Str := ["row"]
abbrev P_copied_row : List Str := ["row"]
theorem sc_copied_row : FnScope N_copied_row P_copied_row (defScope s_copied_row) := ⟨rfl, rfl, rfl, by decide +kernel, rfl, by decide +kernel, by decide +kernel⟩
noncomputable def bw_copied_row (fu : Nat) : SF := (sCons (sRet (eIf (truB (eBin (gIsN false) (eVar 0) (eC .non))) (eC .non) (eCall (cListOf true) (aCons (eVar 0) aNil)))) sNil)
noncomputable def uw_copied_row (fu : Nat) : CF := fnF 1 1 (bw_copied_row fu)
noncomputable def w_copied_row (fu : Nat) : CF := sealedW (uw_copied_row fu)
theorem bi_copied_row {K : PySem.W.Frag} {f : Addr} {fd : FuncData} (F : Fun K "copied_row" "copied_row" s_copied_row f fd) : Binds K fd P_copied_row [] := F.binds (ps := P_copied_row) fun _ _ _ _ _ _ us hl => match us, hl with | [_], _ => rfl
abbrev s_joined_at_place : Stmt := topS 40
abbrev N_joined_at_place : List Str := ["row", "other"]
abbrev P_joined_at_place : List Str := ["row", "other"]
theorem sc_joined_at_place : FnScope N_joined_at_place P_joined_at_place (defScope s_joined_at_place) := ⟨rfl, rfl, rfl, by decide +kernel, rfl, by decide +kernel, by decide +kernel⟩
noncomputable def bw_joined_at_place (fu : Nat) : SF := (sCons (sIf (tOrF (truB (eBin (gIsN false) (eVar 0) (eC .non))) (truB (eBin (gIsN false) (eVar 1) (eC .non)))) (sCons (sRet (eCall (w_copied_row fu) (aCons (eIf (truB (eBin (gIsN false) (eVar 0) (eC .non))) (eVar 1) (eVar 0)) aNil))) sNil) sNil) (sCons (sRet (eCall (w_joined_rows fu) (aCons (eVar 0) (aCons (eVar 1) aNil)))) sNil))
noncomputable def uw_joined_at_place (fu : Nat) : CF := fnF 2 2 (bw_joined_at_place fu)
noncomputable def w_joined_at_place (fu : Nat) : CF := sealedW (uw_joined_at_place fu)
theorem bi_joined_at_place {K : PySem.W.Frag} {f : Addr} {fd : FuncData} (F : Fun K "joined_at_place" "joined_at_place" s_joined_at_place f fd) : Binds K fd P_joined_at_place [] := F.binds (ps := P_joined_at_place) fun _ _ _ _ _ _ us hl => match us, hl with | [_, _], _ => rfl
abbrev s_table_joined : Stmt := topS 51
abbrev N_table_joined : List Str := ["program", "table", "other", "row", "beside"]
abbrev P_table_joined : List Str := ["program", "table", "other"]
theorem sc_table_joined : FnScope N_table_joined P_table_joined (defScope s_table_joined) := ⟨rfl, rfl, rfl, by decide +kernel, rfl, by decide +kernel, by decide +kernel⟩
noncomputable def bw_table_joined (fu : Nat) : SF := (sCons (sDrop (eCall (Com.c__need_tables fu) (aCons (eVar 0) (aCons (eVar 1) (aCons (eVar 2) aNil))))) (sCons (sRet (eComp true fu [3, 4] (iZipA2 (aCons (eVar 1) (aCons (eVar 2) aNil))) (.tp [3, 4]) tYesF (eCall (w_joined_at_place fu) (aCons (eVar 3) (aCons (eVar 4) aNil))))) sNil))
noncomputable def uw_table_joined (fu : Nat) : CF := fnF 3 5 (bw_table_joined fu)
noncomputable def w_table_joined (fu : Nat) : CF := sealedW (uw_table_joined fu)
theorem bi_table_joined {K : PySem.W.Frag} {f : Addr} {fd : FuncData} (F : Fun K "table_joined" "table_joined" s_table_joined f fd) : Binds K fd P_table_joined [] := F.binds (ps := P_table_joined) fun _ _ _ _ _ _ us hl => match us, hl with | [_, _, _], _ => rfl
abbrev s_met_at_place : Stmt := topS 41
abbrev N_met_at_place : List Str := ["row", "other"]
abbrev P_met_at_place : List Str := ["row", "other"]
theorem sc_met_at_place : FnScope N_met_at_place P_met_at_place (defScope s_met_at_place) := ⟨rfl, rfl, rfl, by decide +kernel, rfl, by decide +kernel, by decide +kernel⟩
noncomputable def bw_met_at_place (fu : Nat) : SF := (sCons (sRet (eIf (tOrF (truB (eBin (gIsN false) (eVar 0) (eC .non))) (truB (eBin (gIsN false) (eVar 1) (eC .non)))) (eC .non) (eCall (w_met_rows fu) (aCons (eVar 0) (aCons (eVar 1) aNil))))) sNil)
noncomputable def uw_met_at_place (fu : Nat) : CF := fnF 2 2 (bw_met_at_place fu)
noncomputable def w_met_at_place (fu : Nat) : CF := sealedW (uw_met_at_place fu)
theorem bi_met_at_place {K : PySem.W.Frag} {f : Addr} {fd : FuncData} (F : Fun K "met_at_place" "met_at_place" s_met_at_place f fd) : Binds K fd P_met_at_place [] := F.binds (ps := P_met_at_place) fun _ _ _ _ _ _ us hl => match us, hl with | [_, _], _ => rfl
abbrev s_table_met : Stmt := topS 52
abbrev N_table_met : List Str := ["program", "table", "other", "row", "beside"]
abbrev P_table_met : List Str := ["program", "table", "other"]
theorem sc_table_met : FnScope N_table_met P_table_met (defScope s_table_met) := ⟨rfl, rfl, rfl, by decide +kernel, rfl, by decide +kernel, by decide +kernel⟩
noncomputable def bw_table_met (fu : Nat) : SF := (sCons (sDrop (eCall (Com.c__need_tables fu) (aCons (eVar 0) (aCons (eVar 1) (aCons (eVar 2) aNil))))) (sCons (sRet (eComp true fu [3, 4] (iZipA2 (aCons (eVar 1) (aCons (eVar 2) aNil))) (.tp [3, 4]) tYesF (eCall (w_met_at_place fu) (aCons (eVar 3) (aCons (eVar 4) aNil))))) sNil))
noncomputable def uw_table_met (fu : Nat) : CF := fnF 3 5 (bw_table_met fu)
noncomputable def w_table_met (fu : Nat) : CF := sealedW (uw_table_met fu)
theorem bi_table_met {K : PySem.W.Frag} {f : Addr} {fd : FuncData} (F : Fun K "table_met" "table_met" s_table_met f fd) : Binds K fd P_table_met [] := F.binds (ps := P_table_met) fun _ _ _ _ _ _ us hl => match us, hl with | [_, _, _], _ => rfl
abbrev s_within_at_place : Stmt := topS 42
abbrev N_within_at_place : List Str := ["row", "other"]
abbrev P_within_at_place : List Str := ["row", "other"]
theorem sc_within_at_place : FnScope N_within_at_place P_within_at_place (defScope s_within_at_place) := ⟨rfl, rfl, rfl, by decide +kernel, rfl, by decide +kernel, by decide +kernel⟩
theorem bi_within_at_place {K : PySem.W.Frag} {f : Addr} {fd : FuncData} (F : Fun K "within_at_place" "within_at_place" s_within_at_place f fd) : Binds K fd P_within_at_place [] := F.binds (ps := P_within_at_place) fun _ _ _ _ _ _ us hl => match us, hl with | [_, _], _ => rfl
abbrev s_within_table : Stmt := topS 43
abbrev N_within_table : List Str := ["table", "other", "row", "beside"]
abbrev P_within_table : List Str := ["table", "other"]
theorem sc_within_table : FnScope N_within_table P_within_table (defScope s_within_table) := ⟨rfl, rfl, rfl, by decide +kernel, rfl, by decide +kernel, by decide +kernel⟩
theorem bi_within_table {K : PySem.W.Frag} {f : Addr} {fd : FuncData} (F : Fun K "within_table" "within_table" s_within_table f fd) : Binds K fd P_within_table [] := F.binds (ps := P_within_table) fun _ _ _ _ _ _ us hl => match us, hl with | [_, _], _ => rfl
abbrev s_table_within : Stmt := topS 50
abbrev N_table_within : List Str := ["program", "table", "other"]
abbrev P_table_within : List Str := ["program", "table", "other"]
theorem sc_table_within : FnScope N_table_within P_table_within (defScope s_table_within) := ⟨rfl, rfl, rfl, by decide +kernel, rfl, by decide +kernel, by decide +kernel⟩
theorem bi_table_within {K : PySem.W.Frag} {f : Addr} {fd : FuncData} (F : Fun K "table_within" "table_within" s_table_within f fd) : Binds K fd P_table_within [] := F.binds (ps := P_table_within) fun _ _ _ _ _ _ us hl => match us, hl with | [_, _, _], _ => rfl
abbrev s__law_right : Stmt := topS 68
abbrev N__law_right : List Str := ["generator", "most", "names", "many", "program", "one", "two", "row", "other", "kept", "told", "due", "again", "pairs", "name", "place", "item", "low", "high"]
abbrev P__law_right : List Str := ["generator"]
theorem sc__law_right : FnScope N__law_right P__law_right (defScope s__law_right) := ⟨rfl, rfl, rfl, by decide +kernel, rfl, by decide +kernel, by decide +kernel⟩
noncomputable def b__law_right (fu : Nat) : SF := (sCons (sSet 1 (eBin gIx (eCall (cLst false) (aCons (eC (.int 4)) (aCons (eC (.int 6)) (aCons (eBin gSub (eBin (gArith fPow) (eC (.int 10)) (eC (.int 30))) (eC (.int 9))) aNil)))) (eCall (Com.c__law_random fu) (aCons (eVar 0) (aCons (eC (.int 3)) aNil))))) (sCons (sAsg (.tp [2, 3]) (eCall cTup (aCons (eCall (Com.c__law_names fu) (aCons (eVar 0) (aCons (eBin (gAdd false) (eC (.int 1)) (eCall (Com.c__law_random fu) (aCons (eVar 0) (aCons (eC (.int 3)) aNil)))) aNil))) (aCons (eBin (gAdd false) (eC (.int 1)) (eCall (Com.c__law_random fu) (aCons (eVar 0) (aCons (eC (.int 4)) aNil)))) aNil)))) (sCons (sSet 4 (eCall cTup (aCons (eVar 2) (aCons (eVar 3) (aCons (eComp false fu [14] (iAny (eVar 2)) (.nm 14) tYesF (eCall cTup (aCons (eC (.int 0)) (aCons (eC (.int 0)) aNil)))) (aCons (eCall (cLst false) (aCons (eCall cTup (aCons (eC (.int 0)) (aCons (eBin gSub (eVar 3) (eC (.int 1))) (aCons (eCall cTup (aCons (eC (.str "go")) aNil)) aNil)))) aNil)) aNil)))))) (sCons (sSet 5 (eComp false fu [15] (iRange1 (aCons (eVar 3) aNil)) (.nm 15) tYesF (eComp false fu [14] (iAny (eVar 2)) (.nm 14) tYesF (eCall (Com.c__law_range fu) (aCons (eVar 0) (aCons (eVar 1) aNil)))))) (sCons (sSet 6 (eComp false fu [15] (iRange1 (aCons (eVar 3) aNil)) (.nm 15) tYesF (eComp false fu [14] (iAny (eVar 2)) (.nm 14) tYesF (eCall (Com.c__law_range fu) (aCons (eVar 0) (aCons (eVar 1) aNil)))))) (sCons (sIf (truB (eBin (gEqv false) (eCall (Com.c__law_random fu) (aCons (eVar 0) (aCons (eC (.int 2)) aNil))) (eC (.int 0)))) (sCons (sSet 6 (eComp false fu [7] (iAny (eVar 5)) (.nm 7) tYesF (eCall (Com.c__law_wider fu) (aCons (eVar 0) (aCons (eVar 7) aNil))))) sNil) sNil) (sCons (sPar [7, 8] (aCons (eBin gIx (eVar 5) (eC (.int 0))) (aCons (eBin gIx (eVar 6) (eC (.int 0))) aNil))) (sCons (sSet 9 (eCall cRepr (aCons (eCall (cLst false) (aCons (eVar 4) (aCons (eVar 7) (aCons (eVar 8) aNil)))) aNil))) (sCons (sSet 10 (eCall (cLst true) (aCons (eCall (Com.c_row_within fu) (aCons (eVar 4) (aCons (eVar 7) (aCons (eVar 8) aNil)))) (aCons (eCall (w_row_joined fu) (aCons (eVar 4) (aCons (eVar 7) (aCons (eVar 8) aNil)))) (aCons (eCall (w_row_met fu) (aCons (eVar 4) (aCons (eVar 7) (aCons (eVar 8) aNil)))) aNil))))) (sCons (sSet 11 (eCall (cLst false) (aCons (eCall (c__law_within fu) (aCons (eVar 7) (aCons (eVar 8) aNil))) (aCons (eCall (c__law_joined fu) (aCons (eVar 7) (aCons (eVar 8) aNil))) (aCons (eCall (c__law_met fu) (aCons (eVar 7) (aCons (eVar 8) aNil))) aNil))))) (sCons (sSet 12 (eCall (cLst true) (aCons (eCallK (Com.c_row_within fu) 0 3 [0, 2, 1] aNil (aCons (eVar 4) (aCons (eVar 7) (aCons (eVar 8) aNil)))) (aCons (eCallK (w_row_joined fu) 0 3 [2, 1, 0] aNil (aCons (eVar 7) (aCons (eVar 8) (aCons (eVar 4) aNil)))) (aCons (eCallK (w_row_met fu) 0 3 [0, 2, 1] aNil (aCons (eVar 4) (aCons (eVar 7) (aCons (eVar 8) aNil)))) aNil))))) (sCons (sIf (tOrF (truB (eBin (gEqv true) (eCall cRepr (aCons (eVar 10) aNil)) (eCall cRepr (aCons (eVar 11) aNil)))) (tOrF (truB (eBin (gEqv true) (eCall cRepr (aCons (eVar 12) aNil)) (eCall cRepr (aCons (eBin (gAdd false) (eCall (cLst false) (aCons (eCall (c__law_within fu) (aCons (eVar 8) (aCons (eVar 7) aNil))) aNil)) (eSl false (eVar 11) (oSome (eC (.int 1))) oNone)) aNil)))) (truB (eBin (gEqv true) (eCall cRepr (aCons (eCall (cLst false) (aCons (eVar 4) (aCons (eVar 7) (aCons (eVar 8) aNil)))) aNil)) (eVar 9))))) (sCons (sRet (eC (.bl false))) sNil) sNil) (sCons (sIf (tOrF (tNotF (truF (eCall (c__law_marked fu) (aCons (eCall (cLst true) (aCons (eVar 10) (aCons (eVar 12) aNil))) aNil)))) (truB (eBin (gEqv true) (eCall cRepr (aCons (eCall (cLst false) (aCons (eVar 4) (aCons (eVar 7) (aCons (eVar 8) aNil)))) aNil)) (eVar 9)))) (sCons (sRet (eC (.bl false))) sNil) sNil) (sCons (sSet 5 (eComp false fu [16] (iAny (eVar 5)) (.nm 16) tYesF (eIf (truB (eBin (gEqv false) (eCall (Com.c__law_random fu) (aCons (eVar 0) (aCons (eC (.int 4)) aNil))) (eC (.int 0)))) (eC .non) (eVar 16)))) (sCons (sSet 6 (eComp false fu [16] (iAny (eVar 6)) (.nm 16) tYesF (eIf (truB (eBin (gEqv false) (eCall (Com.c__law_random fu) (aCons (eVar 0) (aCons (eC (.int 4)) aNil))) (eC (.int 0)))) (eC .non) (eVar 16)))) (sCons (sPar [9, 13] (aCons (eCall cRepr (aCons (eCall (cLst false) (aCons (eVar 4) (aCons (eVar 5) (aCons (eVar 6) aNil)))) aNil)) (aCons (eLzip false (aCons (eVar 5) (aCons (eVar 6) aNil))) aNil))) (sCons (sSet 11 (eCall (cLst false) (aCons (eBin (gEqv false) (eComp false fu [17, 18] (iAny (eVar 13)) (.tp [17, 18]) (tNotF (truF (eCall (c__law_within fu) (aCons (eVar 17) (aCons (eVar 18) aNil))))) (eVar 17)) (eCall (cLst false) aNil)) (aCons (eComp false fu [17, 18] (iAny (eVar 13)) (.tp [17, 18]) tYesF (eCall (c__law_joined fu) (aCons (eVar 17) (aCons (eVar 18) aNil)))) (aCons (eComp false fu [17, 18] (iAny (eVar 13)) (.tp [17, 18]) tYesF (eCall (c__law_met fu) (aCons (eVar 17) (aCons (eVar 18) aNil)))) aNil))))) (sCons (sSet 10 (eCall (cLst true) (aCons (eCall (Com.c_table_within fu) (aCons (eVar 4) (aCons (eVar 5) (aCons (eVar 6) aNil)))) (aCons (eCall (w_table_joined fu) (aCons (eVar 4) (aCons (eVar 5) (aCons (eVar 6) aNil)))) (aCons (eCall (w_table_met fu) (aCons (eVar 4) (aCons (eVar 5) (aCons (eVar 6) aNil)))) aNil))))) (sCons (sIf (tOrF (truB (eBin (gEqv true) (eCall cRepr (aCons (eVar 10) aNil)) (eCall cRepr (aCons (eVar 11) aNil)))) (truB (eBin (gEqv true) (eCallK (Com.c_table_within fu) 0 3 [0, 2, 1] aNil (aCons (eVar 4) (aCons (eVar 5) (aCons (eVar 6) aNil)))) (eBin (gEqv false) (eComp false fu [18, 17] (iAny (eVar 13)) (.tp [18, 17]) (tNotF (truF (eCall (c__law_within fu) (aCons (eVar 17) (aCons (eVar 18) aNil))))) (eVar 17)) (eCall (cLst false) aNil))))) (sCons (sRet (eC (.bl false))) sNil) sNil) (sCons (sIf (tOrF (tNotF (truF (eCall (c__law_marked fu) (aCons (eVar 10) aNil)))) (truB (eBin (gEqv true) (eCall cRepr (aCons (eCall (cLst false) (aCons (eVar 4) (aCons (eVar 5) (aCons (eVar 6) aNil)))) aNil)) (eVar 9)))) (sCons (sRet (eC (.bl false))) sNil) sNil) (sCons (sSet 12 (eCall (cLst true) (aCons (eCallK (Com.c_table_within fu) 0 3 [0, 2, 1] aNil (aCons (eVar 4) (aCons (eVar 6) (aCons (eVar 5) aNil)))) (aCons (eCallK (w_table_joined fu) 0 3 [0, 2, 1] aNil (aCons (eVar 4) (aCons (eVar 5) (aCons (eVar 6) aNil)))) (aCons (eCallK (w_table_met fu) 0 3 [2, 1, 0] aNil (aCons (eVar 5) (aCons (eVar 6) (aCons (eVar 4) aNil)))) aNil))))) (sCons (sRet (eAnd (eBin (gEqv false) (eCall cRepr (aCons (eVar 12) aNil)) (eCall cRepr (aCons (eVar 11) aNil))) (eBin (gEqv false) (eCall cRepr (aCons (eCall (cLst false) (aCons (eVar 4) (aCons (eVar 5) (aCons (eVar 6) aNil)))) aNil)) (eVar 9)))) sNil))))))))))))))))))))))
noncomputable def u__law_right (fu : Nat) : CF := fnF 1 19 (b__law_right fu)
noncomputable def c__law_right (fu : Nat) : CF := sealed (u__law_right fu)
theorem bi__law_right {K : PySem.W.Frag} {f : Addr} {fd : FuncData} (F : Fun K "_law_right" "_law_right" s__law_right f fd) : Binds K fd P__law_right [] := F.binds (ps := P__law_right) fun _ _ _ _ _ _ us hl => match us, hl with | [_], _ => rfl
abbrev s_law : Stmt := topS 69
abbrev N_law : List Str := ["script", "index", "two", "told"]
abbrev P_law : List Str := ["script"]
theorem sc_law : FnScope N_law P_law (defScope s_law) := ⟨rfl, rfl, rfl, by decide +kernel, rfl, by decide +kernel, by decide +kernel⟩
noncomputable def b_law (fu : Nat) : SF := (sCons (sFor fu (.nm 1) (iRange1 (aCons (eC (.int 4)) aNil)) (sCons (sIf (tNotF (truF (eCall (c__law_right fu) (aCons (eCall (Com.v__law_generator fu) (aCons (eVar 0) (aCons (eVar 1) aNil))) aNil)))) (sCons (sRet (eC (.bl false))) sNil) sNil) sNil)) (sCons (sSet 2 (eCall cTup (aCons (eCall (cLst false) (aCons (eC (.str "x")) (aCons (eC (.str "y")) aNil))) (aCons (eC (.int 2)) (aCons (eCall (cLst false) (aCons (eCall cTup (aCons (eC (.int 0)) (aCons (eC (.int 0)) aNil))) (aCons (eCall cTup (aCons (eC (.int 0)) (aCons (eC (.int 0)) aNil))) aNil))) (aCons (eCall (cLst false) aNil) aNil)))))) (sCons (sSet 3 (eCall (cLst false) (aCons (eCall (Com.c_row_within fu) (aCons (eVar 2) (aCons (eCall (cLst false) (aCons (eCall cTup (aCons (eC (.int 0)) (aCons (eC (.int 1)) aNil))) (aCons (eCall cTup (aCons (eC (.int 2)) (aCons (eC (.int 2)) aNil))) aNil))) (aCons (eCall (cLst false) (aCons (eCall cTup (aCons (eC (.int 0)) (aCons (eC .non) aNil))) (aCons (eCall cTup (aCons (eC (.int 2)) (aCons (eC (.int 2)) aNil))) aNil))) aNil)))) (aCons (eCall (Com.c_row_joined fu) (aCons (eVar 2) (aCons (eCall (cLst false) (aCons (eCall cTup (aCons (eC (.int 0)) (aCons (eC (.int 1)) aNil))) (aCons (eCall cTup (aCons (eC (.int 2)) (aCons (eC (.int 2)) aNil))) aNil))) (aCons (eCall (cLst false) (aCons (eCall cTup (aCons (eC (.int 3)) (aCons (eC (.int 3)) aNil))) (aCons (eCall cTup (aCons (eC (.int 1)) (aCons (eC (.int 2)) aNil))) aNil))) aNil)))) (aCons (eCall (Com.c_row_met fu) (aCons (eVar 2) (aCons (eCall (cLst false) (aCons (eCall cTup (aCons (eC (.int 0)) (aCons (eC (.int 4)) aNil))) (aCons (eCall cTup (aCons (eC (.int 2)) (aCons (eC (.int 2)) aNil))) aNil))) (aCons (eCall (cLst false) (aCons (eCall cTup (aCons (eC (.int 3)) (aCons (eC (.int 6)) aNil))) (aCons (eCall cTup (aCons (eC (.int 1)) (aCons (eC (.int 2)) aNil))) aNil))) aNil)))) aNil))))) (sCons (sSet 3 (eBin (gAdd false) (eVar 3) (eCall (cLst false) (aCons (eCall (Com.c_row_met fu) (aCons (eVar 2) (aCons (eCall (cLst false) (aCons (eCall cTup (aCons (eC (.int 0)) (aCons (eC (.int 4)) aNil))) (aCons (eCall cTup (aCons (eC (.int 2)) (aCons (eC (.int 2)) aNil))) aNil))) (aCons (eCall (cLst false) (aCons (eCall cTup (aCons (eC (.int 3)) (aCons (eC (.int 6)) aNil))) (aCons (eCall cTup (aCons (eC (.int 3)) (aCons (eC (.int 4)) aNil))) aNil))) aNil)))) (aCons (eCall (Com.c_table_within fu) (aCons (eVar 2) (aCons (eCall (cLst false) (aCons (eC .non) (aCons (eC .non) aNil))) (aCons (eCall (cLst false) (aCons (eC .non) (aCons (eCall (cLst false) (aCons (eCall cTup (aCons (eC (.int 0)) (aCons (eC (.int 0)) aNil))) (aCons (eCall cTup (aCons (eC (.int 1)) (aCons (eC (.int 1)) aNil))) aNil))) aNil))) aNil)))) (aCons (eCall (Com.c_table_within fu) (aCons (eVar 2) (aCons (eCall (cLst false) (aCons (eC .non) (aCons (eCall (cLst false) (aCons (eCall cTup (aCons (eC (.int 0)) (aCons (eC (.int 0)) aNil))) (aCons (eCall cTup (aCons (eC (.int 1)) (aCons (eC (.int 1)) aNil))) aNil))) aNil))) (aCons (eCall (cLst false) (aCons (eC .non) (aCons (eC .non) aNil))) aNil)))) aNil)))))) (sCons (sRet (eBin (gEqv false) (eCall cRepr (aCons (eVar 3) aNil)) (eCall cRepr (aCons (eCall (cLst false) (aCons (eC (.bl true)) (aCons (eCall (cLst false) (aCons (eCall cTup (aCons (eC (.int 0)) (aCons (eC (.int 3)) aNil))) (aCons (eCall cTup (aCons (eC (.int 1)) (aCons (eC (.int 2)) aNil))) aNil))) (aCons (eCall (cLst false) (aCons (eCall cTup (aCons (eC (.int 3)) (aCons (eC (.int 4)) aNil))) (aCons (eCall cTup (aCons (eC (.int 2)) (aCons (eC (.int 2)) aNil))) aNil))) (aCons (eC .non) (aCons (eC (.bl true)) (aCons (eC (.bl false)) aNil))))))) aNil)))) sNil)))))
noncomputable def u_law (fu : Nat) : CF := fnF 1 4 (b_law fu)
noncomputable def c_law (fu : Nat) : CF := sealed (u_law fu)
theorem kb0 {K : PySem.W.Frag} {f : Addr} {fd : FuncData} (F : Fun K "row_within" "row_within" s_row_within f fd) : KB K fd P_row_within ["program", "other", "row"] 0 [0, 2, 1] := F.kbs fun _ _ _ _ _ _ us ws h1 h2 => match us, ws, h1, h2 with | [], [_, _, _], _, _ => rfl
theorem kb1 {K : PySem.W.Frag} {f : Addr} {fd : FuncData} (F : Fun K "row_joined" "row_joined" s_row_joined f fd) : KB K fd P_row_joined ["other", "row", "program"] 0 [2, 1, 0] := F.kbs fun _ _ _ _ _ _ us ws h1 h2 => match us, ws, h1, h2 with | [], [_, _, _], _, _ => rfl
theorem kb2 {K : PySem.W.Frag} {f : Addr} {fd : FuncData} (F : Fun K "row_met" "row_met" s_row_met f fd) : KB K fd P_row_met ["program", "other", "row"] 0 [0, 2, 1] := F.kbs fun _ _ _ _ _ _ us ws h1 h2 => match us, ws, h1, h2 with | [], [_, _, _], _, _ => rfl
theorem kb3 {K : PySem.W.Frag} {f : Addr} {fd : FuncData} (F : Fun K "table_within" "table_within" s_table_within f fd) : KB K fd P_table_within ["program", "other", "table"] 0 [0, 2, 1] := F.kbs fun _ _ _ _ _ _ us ws h1 h2 => match us, ws, h1, h2 with | [], [_, _, _], _, _ => rfl
theorem kb4 {K : PySem.W.Frag} {f : Addr} {fd : FuncData} (F : Fun K "table_joined" "table_joined" s_table_joined f fd) : KB K fd P_table_joined ["program", "other", "table"] 0 [0, 2, 1] := F.kbs fun _ _ _ _ _ _ us ws h1 h2 => match us, ws, h1, h2 with | [], [_, _, _], _, _ => rfl
theorem kb5 {K : PySem.W.Frag} {f : Addr} {fd : FuncData} (F : Fun K "table_met" "table_met" s_table_met f fd) : KB K fd P_table_met ["other", "table", "program"] 0 [2, 1, 0] := F.kbs fun _ _ _ _ _ _ us ws h1 h2 => match us, ws, h1, h2 with | [], [_, _, _], _, _ => rfl
structure Facts (w : World) (K : PySem.W.Frag) (mg : Str → Option Value) where
  c_DEED_FORMS : CDic K w mg "DEED_FORMS" Com.k_DEED_FORMS
  c_PAIR_TESTS : CTup K mg "PAIR_TESTS" Com.k_PAIR_TESTS
  a__law_cell : Addr
  fd__law_cell : FuncData
  F__law_cell : Fun K "_law_cell" "_law_cell" s__law_cell a__law_cell fd__law_cell
  m__law_cell : mg "_law_cell" = some (.ref a__law_cell)
  a__law_generator : Addr
  fd__law_generator : FuncData
  F__law_generator : Fun K "_law_generator" "_law_generator" s__law_generator a__law_generator fd__law_generator
  m__law_generator : mg "_law_generator" = some (.ref a__law_generator)
  a__law_ends : Addr
  fd__law_ends : FuncData
  F__law_ends : Fun K "_law_ends" "_law_ends" s__law_ends a__law_ends fd__law_ends
  m__law_ends : mg "_law_ends" = some (.ref a__law_ends)
  a__law_pairs : Addr
  fd__law_pairs : FuncData
  F__law_pairs : Fun K "_law_pairs" "_law_pairs" s__law_pairs a__law_pairs fd__law_pairs
  m__law_pairs : mg "_law_pairs" = some (.ref a__law_pairs)
  a__law_joined : Addr
  fd__law_joined : FuncData
  F__law_joined : Fun K "_law_joined" "_law_joined" s__law_joined a__law_joined fd__law_joined
  m__law_joined : mg "_law_joined" = some (.ref a__law_joined)
  a__law_marked : Addr
  fd__law_marked : FuncData
  F__law_marked : Fun K "_law_marked" "_law_marked" s__law_marked a__law_marked fd__law_marked
  m__law_marked : mg "_law_marked" = some (.ref a__law_marked)
  a__law_met : Addr
  fd__law_met : FuncData
  F__law_met : Fun K "_law_met" "_law_met" s__law_met a__law_met fd__law_met
  m__law_met : mg "_law_met" = some (.ref a__law_met)
  a__law_hash : Addr
  fd__law_hash : FuncData
  F__law_hash : Fun K "_law_hash" "_law_hash" s__law_hash a__law_hash fd__law_hash
  m__law_hash : mg "_law_hash" = some (.ref a__law_hash)
  a__law_random : Addr
  fd__law_random : FuncData
  F__law_random : Fun K "_law_random" "_law_random" s__law_random a__law_random fd__law_random
  m__law_random : mg "_law_random" = some (.ref a__law_random)
  a__law_names : Addr
  fd__law_names : FuncData
  F__law_names : Fun K "_law_names" "_law_names" s__law_names a__law_names fd__law_names
  m__law_names : mg "_law_names" = some (.ref a__law_names)
  a__law_number : Addr
  fd__law_number : FuncData
  F__law_number : Fun K "_law_number" "_law_number" s__law_number a__law_number fd__law_number
  m__law_number : mg "_law_number" = some (.ref a__law_number)
  a__law_range : Addr
  fd__law_range : FuncData
  F__law_range : Fun K "_law_range" "_law_range" s__law_range a__law_range fd__law_range
  m__law_range : mg "_law_range" = some (.ref a__law_range)
  a__law_wider : Addr
  fd__law_wider : FuncData
  F__law_wider : Fun K "_law_wider" "_law_wider" s__law_wider a__law_wider fd__law_wider
  m__law_wider : mg "_law_wider" = some (.ref a__law_wider)
  a__law_within : Addr
  fd__law_within : FuncData
  F__law_within : Fun K "_law_within" "_law_within" s__law_within a__law_within fd__law_within
  m__law_within : mg "_law_within" = some (.ref a__law_within)
  a_a_whole : Addr
  fd_a_whole : FuncData
  F_a_whole : Fun K "a_whole" "a_whole" s_a_whole a_a_whole fd_a_whole
  m_a_whole : mg "a_whole" = some (.ref a_a_whole)
  a_an_end : Addr
  fd_an_end : FuncData
  F_an_end : Fun K "an_end" "an_end" s_an_end a_an_end fd_an_end
  m_an_end : mg "an_end" = some (.ref a_an_end)
  a_a_range : Addr
  fd_a_range : FuncData
  F_a_range : Fun K "a_range" "a_range" s_a_range a_a_range fd_a_range
  m_a_range : mg "a_range" = some (.ref a_a_range)
  a__a_part : Addr
  fd__a_part : FuncData
  F__a_part : Fun K "_a_part" "_a_part" s__a_part a__a_part fd__a_part
  m__a_part : mg "_a_part" = some (.ref a__a_part)
  a_a_deed : Addr
  fd_a_deed : FuncData
  F_a_deed : Fun K "a_deed" "a_deed" s_a_deed a_a_deed fd_a_deed
  m_a_deed : mg "a_deed" = some (.ref a_a_deed)
  a_a_number_below : Addr
  fd_a_number_below : FuncData
  F_a_number_below : Fun K "a_number_below" "a_number_below" s_a_number_below a_a_number_below fd_a_number_below
  m_a_number_below : mg "a_number_below" = some (.ref a_a_number_below)
  a_a_step : Addr
  fd_a_step : FuncData
  F_a_step : Fun K "a_step" "a_step" s_a_step a_a_step fd_a_step
  m_a_step : mg "a_step" = some (.ref a_a_step)
  a__a_short_count : Addr
  fd__a_short_count : FuncData
  F__a_short_count : Fun K "_a_short_count" "_a_short_count" s__a_short_count a__a_short_count fd__a_short_count
  m__a_short_count : mg "_a_short_count" = some (.ref a__a_short_count)
  a_a_name : Addr
  fd_a_name : FuncData
  F_a_name : Fun K "a_name" "a_name" s_a_name a_a_name fd_a_name
  m_a_name : mg "a_name" = some (.ref a_a_name)
  a_ascending : Addr
  fd_ascending : FuncData
  F_ascending : Fun K "ascending" "ascending" s_ascending a_ascending fd_ascending
  m_ascending : mg "ascending" = some (.ref a_ascending)
  a_some_names : Addr
  fd_some_names : FuncData
  F_some_names : Fun K "some_names" "some_names" s_some_names a_some_names fd_some_names
  m_some_names : mg "some_names" = some (.ref a_some_names)
  a_some_ranges : Addr
  fd_some_ranges : FuncData
  F_some_ranges : Fun K "some_ranges" "some_ranges" s_some_ranges a_some_ranges fd_some_ranges
  m_some_ranges : mg "some_ranges" = some (.ref a_some_ranges)
  a_a_program : Addr
  fd_a_program : FuncData
  F_a_program : Fun K "a_program" "a_program" s_a_program a_a_program fd_a_program
  m_a_program : mg "a_program" = some (.ref a_a_program)
  a_need_program : Addr
  fd_need_program : FuncData
  F_need_program : Fun K "need_program" "need_program" s_need_program a_need_program fd_need_program
  m_need_program : mg "need_program" = some (.ref a_need_program)
  a_a_row : Addr
  fd_a_row : FuncData
  F_a_row : Fun K "a_row" "a_row" s_a_row a_a_row fd_a_row
  m_a_row : mg "a_row" = some (.ref a_a_row)
  a_need_row : Addr
  fd_need_row : FuncData
  F_need_row : Fun K "need_row" "need_row" s_need_row a_need_row fd_need_row
  m_need_row : mg "need_row" = some (.ref a_need_row)
  a__need_rows : Addr
  fd__need_rows : FuncData
  F__need_rows : Fun K "_need_rows" "_need_rows" s__need_rows a__need_rows fd__need_rows
  m__need_rows : mg "_need_rows" = some (.ref a__need_rows)
  a__greater_high : Addr
  fd__greater_high : FuncData
  F__greater_high : Fun K "_greater_high" "_greater_high" s__greater_high a__greater_high fd__greater_high
  m__greater_high : mg "_greater_high" = some (.ref a__greater_high)
  a__lesser_low : Addr
  fd__lesser_low : FuncData
  F__lesser_low : Fun K "_lesser_low" "_lesser_low" s__lesser_low a__lesser_low fd__lesser_low
  m__lesser_low : mg "_lesser_low" = some (.ref a__lesser_low)
  a_joined : Addr
  fd_joined : FuncData
  F_joined : Fun K "joined" "joined" s_joined a_joined fd_joined
  m_joined : mg "joined" = some (.ref a_joined)
  a_joined_rows : Addr
  fd_joined_rows : FuncData
  F_joined_rows : Fun K "joined_rows" "joined_rows" s_joined_rows a_joined_rows fd_joined_rows
  m_joined_rows : mg "joined_rows" = some (.ref a_joined_rows)
  a_row_joined : Addr
  fd_row_joined : FuncData
  F_row_joined : Fun K "row_joined" "row_joined" s_row_joined a_row_joined fd_row_joined
  m_row_joined : mg "row_joined" = some (.ref a_row_joined)
  a__greater_low : Addr
  fd__greater_low : FuncData
  F__greater_low : Fun K "_greater_low" "_greater_low" s__greater_low a__greater_low fd__greater_low
  m__greater_low : mg "_greater_low" = some (.ref a__greater_low)
  a__lesser_high : Addr
  fd__lesser_high : FuncData
  F__lesser_high : Fun K "_lesser_high" "_lesser_high" s__lesser_high a__lesser_high fd__lesser_high
  m__lesser_high : mg "_lesser_high" = some (.ref a__lesser_high)
  a_met : Addr
  fd_met : FuncData
  F_met : Fun K "met" "met" s_met a_met fd_met
  m_met : mg "met" = some (.ref a_met)
  a_met_rows : Addr
  fd_met_rows : FuncData
  F_met_rows : Fun K "met_rows" "met_rows" s_met_rows a_met_rows fd_met_rows
  m_met_rows : mg "met_rows" = some (.ref a_met_rows)
  a_row_met : Addr
  fd_row_met : FuncData
  F_row_met : Fun K "row_met" "row_met" s_row_met a_row_met fd_row_met
  m_row_met : mg "row_met" = some (.ref a_row_met)
  a_lies_within : Addr
  fd_lies_within : FuncData
  F_lies_within : Fun K "lies_within" "lies_within" s_lies_within a_lies_within fd_lies_within
  m_lies_within : mg "lies_within" = some (.ref a_lies_within)
  a_within_row : Addr
  fd_within_row : FuncData
  F_within_row : Fun K "within_row" "within_row" s_within_row a_within_row fd_within_row
  m_within_row : mg "within_row" = some (.ref a_within_row)
  a_row_within : Addr
  fd_row_within : FuncData
  F_row_within : Fun K "row_within" "row_within" s_row_within a_row_within fd_row_within
  m_row_within : mg "row_within" = some (.ref a_row_within)
  a_a_table : Addr
  fd_a_table : FuncData
  F_a_table : Fun K "a_table" "a_table" s_a_table a_a_table fd_a_table
  m_a_table : mg "a_table" = some (.ref a_a_table)
  a_need_table : Addr
  fd_need_table : FuncData
  F_need_table : Fun K "need_table" "need_table" s_need_table a_need_table fd_need_table
  m_need_table : mg "need_table" = some (.ref a_need_table)
  a__need_tables : Addr
  fd__need_tables : FuncData
  F__need_tables : Fun K "_need_tables" "_need_tables" s__need_tables a__need_tables fd__need_tables
  m__need_tables : mg "_need_tables" = some (.ref a__need_tables)
  a_copied_row : Addr
  fd_copied_row : FuncData
  F_copied_row : Fun K "copied_row" "copied_row" s_copied_row a_copied_row fd_copied_row
  m_copied_row : mg "copied_row" = some (.ref a_copied_row)
  a_joined_at_place : Addr
  fd_joined_at_place : FuncData
  F_joined_at_place : Fun K "joined_at_place" "joined_at_place" s_joined_at_place a_joined_at_place fd_joined_at_place
  m_joined_at_place : mg "joined_at_place" = some (.ref a_joined_at_place)
  a_table_joined : Addr
  fd_table_joined : FuncData
  F_table_joined : Fun K "table_joined" "table_joined" s_table_joined a_table_joined fd_table_joined
  m_table_joined : mg "table_joined" = some (.ref a_table_joined)
  a_met_at_place : Addr
  fd_met_at_place : FuncData
  F_met_at_place : Fun K "met_at_place" "met_at_place" s_met_at_place a_met_at_place fd_met_at_place
  m_met_at_place : mg "met_at_place" = some (.ref a_met_at_place)
  a_table_met : Addr
  fd_table_met : FuncData
  F_table_met : Fun K "table_met" "table_met" s_table_met a_table_met fd_table_met
  m_table_met : mg "table_met" = some (.ref a_table_met)
  a_within_at_place : Addr
  fd_within_at_place : FuncData
  F_within_at_place : Fun K "within_at_place" "within_at_place" s_within_at_place a_within_at_place fd_within_at_place
  m_within_at_place : mg "within_at_place" = some (.ref a_within_at_place)
  a_within_table : Addr
  fd_within_table : FuncData
  F_within_table : Fun K "within_table" "within_table" s_within_table a_within_table fd_within_table
  m_within_table : mg "within_table" = some (.ref a_within_table)
  a_table_within : Addr
  fd_table_within : FuncData
  F_table_within : Fun K "table_within" "table_within" s_table_within a_table_within fd_table_within
  m_table_within : mg "table_within" = some (.ref a_table_within)
  a__law_right : Addr
  fd__law_right : FuncData
  F__law_right : Fun K "_law_right" "_law_right" s__law_right a__law_right fd__law_right
  m__law_right : mg "_law_right" = some (.ref a__law_right)
  a_law : Addr
  fd_law : FuncData
  F_law : Fun K "law" "law" s_law a_law fd_law
  m_law : mg "law" = some (.ref a_law)
  z_all : mg "all" = none
  z_bool : mg "bool" = none
  z_int : mg "int" = none
  z_isinstance : mg "isinstance" = none
  z_len : mg "len" = none
  z_list : mg "list" = none
  z_max : mg "max" = none
  z_min : mg "min" = none
  z_range : mg "range" = none
  z_repr : mg "repr" = none
  z_sorted : mg "sorted" = none
  z_str : mg "str" = none
  z_sum : mg "sum" = none
  z_tuple : mg "tuple" = none
  z_zip : mg "zip" = none
section
variable {P : Program} {w : World} {K : PySem.W.Frag} {mg : Str → Option Value} {base : Heap} {fu : Nat}
theorem oku__law_cell (C : Facts w K mg) : FnG P w K mg base 1 C.a__law_cell C.fd__law_cell P__law_cell (spOf K 2 (Com.u__law_cell fu)) := fn_g C.F__law_cell sc__law_cell fun cdv A outer s H hr hG => by
  have nd := sc__law_cell.nd
  exact (ls_cons (ls_if (lt_cmp op_lt ok_cmpI (l_var 1) (l_callB cr_len ok_len (by rfl) C.z_len (by decide +kernel) (la_cons (l_var 0) la_nil)) (nomark _)) (ls_cons (ls_ret (l_ix (l_var 0) (l_var 1))) ls_nil) ls_nil) (ls_cons (ls_ret (l_bin op_mod ok_mod (l_callB (cr_sum rfl) ok_sum (by rfl) C.z_sum (by decide +kernel) (la_cons (l_sl (l_var 0) lo_none (lo_some l_int)) la_nil)) l_int)) ls_nil))
theorem ok__law_cell (C : Facts w K mg) : FnG P w K mg base 1 C.a__law_cell C.fd__law_cell P__law_cell (spOf K 2 (Com.c__law_cell fu)) := (oku__law_cell C).sealed
theorem okuv__law_generator (C : Facts w K mg) : FnG P w K mg base 2 C.a__law_generator C.fd__law_generator P__law_generator (spOf K 2 (Com.uv__law_generator fu)) := fn_g C.F__law_generator sc__law_generator fun cdv A outer s H hr hG => by
  have nd := sc__law_generator.nd
  exact (ls_cons (ls_set 2 nd (l_call (ok__law_cell C) (ar_sealed ar_fn) (hr.mono (by decide)) hG (by rfl) C.m__law_cell C.F__law_cell.kp (bi__law_cell C.F__law_cell) rfl (la_cons (l_var 0) (la_cons (l_var 1) la_nil)))) (ls_cons (ls_ret (l_lst (la_cons (l_bin op_mod ok_mod (l_callTy call_int1 ok_int (by rfl) C.z_int (by decide +kernel) (la_cons (l_callB (call_max2 rfl) ok_max (by rfl) C.z_max (by decide +kernel) (la_cons (l_bin op_sub ok_sub (l_var 2) (l_bin op_powW ok_pow l_int l_int)) (la_cons l_int la_nil))) la_nil)) (l_bin op_powW ok_pow (l_bin op_powW ok_pow l_int l_int) l_int)) (la_cons (l_bin op_mod ok_mod (l_callTy call_int1 ok_int (by rfl) C.z_int (by decide +kernel) (la_cons (l_var 2) la_nil)) l_int) (la_cons (l_bin op_mulW ok_mul l_int (l_var 1)) la_nil))))) ls_nil))
theorem okv__law_generator (C : Facts w K mg) : FnG P w K mg base 2 C.a__law_generator C.fd__law_generator P__law_generator (spOf K 2 (Com.v__law_generator fu)) := (okuv__law_generator C).sealedR
theorem oku__law_ends (C : Facts w K mg) : FnG P w K mg base 1 C.a__law_ends C.fd__law_ends P__law_ends (spOf K 1 (Com.u__law_ends fu)) := fn_g C.F__law_ends sc__law_ends fun cdv A outer s H hr hG => by
  have nd := sc__law_ends.nd
  exact (ls_cons (ls_ret (l_lc fu (own := [("low", 1), ("high", 2)]) rfl nd (li_any (l_var 0)) (blkOk_by (by kernel_rfl)) (by decide) (fun _ _ _ _ _ => (lg_tp rfl (lgs_cons (lg_nm 1 nd) (lgs_cons (lg_nm 2 nd) lgs_nil)))) (fun _ _ _ _ _ => lp_nil) (fun _ _ _ _ _ => (l_tup (la_cons (l_if (lt_cmp op_lt2 ok_cmp2 (l_var 1) (l_neg (l_bin op_powW ok_pow l_int l_int)) (nomark _)) l_non (l_var 1)) (la_cons (l_if (lt_cmp op_gt2 ok_cmp2 (l_var 2) (l_bin op_powW ok_pow l_int l_int) (nomark _)) l_non (l_var 2)) la_nil)))))) ls_nil)
theorem ok__law_ends (C : Facts w K mg) : FnG P w K mg base 1 C.a__law_ends C.fd__law_ends P__law_ends (spOf K 1 (Com.c__law_ends fu)) := (oku__law_ends C).sealed
theorem oku__law_pairs (C : Facts w K mg) : FnG P w K mg base 1 C.a__law_pairs C.fd__law_pairs P__law_pairs (spOf K 1 (Com.u__law_pairs fu)) := fn_g C.F__law_pairs sc__law_pairs fun cdv A outer s H hr hG => by
  have nd := sc__law_pairs.nd
  exact (ls_cons (ls_ret (l_lc fu (own := [("low", 1), ("high", 2)]) rfl nd (li_any (l_var 0)) (blkOk_by (by kernel_rfl)) (by decide) (fun _ _ _ _ _ => (lg_tp rfl (lgs_cons (lg_nm 1 nd) (lgs_cons (lg_nm 2 nd) lgs_nil)))) (fun _ _ _ _ _ => lp_nil) (fun _ _ _ _ _ => (l_tup (la_cons (l_if (lt_cmp op_isN ok_isN (l_var 1) l_non (nomark _)) (l_neg (l_bin op_powW ok_pow l_int l_int)) (l_var 1)) (la_cons (l_if (lt_cmp op_isN ok_isN (l_var 2) l_non (nomark _)) (l_bin op_powW ok_pow l_int l_int) (l_var 2)) la_nil)))))) ls_nil)
theorem ok__law_pairs (C : Facts w K mg) : FnG P w K mg base 1 C.a__law_pairs C.fd__law_pairs P__law_pairs (spOf K 1 (Com.c__law_pairs fu)) := (oku__law_pairs C).sealed
theorem oku__law_joined (C : Facts w K mg) : FnG P w K mg base 2 C.a__law_joined C.fd__law_joined P__law_joined (spOf K 2 (u__law_joined fu)) := fn_g C.F__law_joined sc__law_joined fun cdv A outer s H hr hG => by
  have nd := sc__law_joined.nd
  exact (ls_cons (ls_if (PW.pt (lw_or (lt_cmp op_isN ok_isN (l_var 0) l_non (nomark _)) (lw_or1 (lt_cmp op_isN ok_isN (l_var 1) l_non (nomark _))))) (ls_cons (ls_ret (l_if (lt_cmp op_isN ok_isN (l_var 0) l_non (nomark _)) (l_var 1) (l_var 0))) ls_nil) ls_nil) (ls_cons (ls_set 2 nd (l_lzip rfl (by rfl) C.z_list (by rfl) C.z_zip (la_cons (l_call (ok__law_pairs C) (ar_sealed ar_fn) (hr.mono (by decide)) hG (by rfl) C.m__law_pairs C.F__law_pairs.kp (bi__law_pairs C.F__law_pairs) rfl (la_cons (l_var 0) la_nil)) (la_cons (l_call (ok__law_pairs C) (ar_sealed ar_fn) (hr.mono (by decide)) hG (by rfl) C.m__law_pairs C.F__law_pairs.kp (bi__law_pairs C.F__law_pairs) rfl (la_cons (l_var 1) la_nil)) la_nil)))) (ls_cons (ls_ret (l_call (ok__law_ends C) (ar_sealed ar_fn) (hr.mono (by decide)) hG (by rfl) C.m__law_ends C.F__law_ends.kp (bi__law_ends C.F__law_ends) rfl (la_cons (l_lc fu (own := [("low", 3), ("high", 4)]) rfl nd (li_any (l_var 2)) (blkOk_by (by kernel_rfl)) (by decide) (fun _ _ _ _ _ => (lg_tp rfl (lgs_cons (lg_nm 3 nd) (lgs_cons (lg_nm 4 nd) lgs_nil)))) (fun _ _ _ _ _ => lp_nil) (fun _ _ _ _ _ => (l_tup (la_cons (l_callB (call_min2 rfl) ok_min (by rfl) C.z_min (by decide +kernel) (la_cons (l_ix (l_var 3) l_int) (la_cons (l_ix (l_var 4) l_int) la_nil))) (la_cons (l_callB (call_max2 rfl) ok_max (by rfl) C.z_max (by decide +kernel) (la_cons (l_ix (l_var 3) l_int) (la_cons (l_ix (l_var 4) l_int) la_nil))) la_nil))))) la_nil))) ls_nil)))
theorem ok__law_joined (C : Facts w K mg) : FnG P w K mg base 2 C.a__law_joined C.fd__law_joined P__law_joined (spOf K 2 (c__law_joined fu)) := (oku__law_joined C).sealed
theorem okr__law_marked (C : Facts w K mg) : ∀ n : Nat, FnG P w K mg base (0 + n + 1) C.a__law_marked C.fd__law_marked P__law_marked (spOf K 1 (cr__law_marked fu n))
  | 0 => FnG.sealedB <| fn_g C.F__law_marked sc__law_marked fun cdv A outer s H hr hG => by
    have nd := sc__law_marked.nd
    exact (ls_cons (ls_if (lt_tru (l_callB call_isi ok_isi (by rfl) C.z_isinstance (by decide +kernel) (la_cons (l_var 0) (la_cons (l_ty (by rfl) C.z_list (by decide +kernel)) la_nil)))) (ls_cons (ls_if (PW.pt (lw_and (lt_cmp (op_neA hr.units) ok_nev (l_var 0) (l_lst la_nil) (nomark _)) (lw_and1 (lt_cmp (op_eqA hr.units) ok_eqv (l_ix (l_var 0) (l_neg l_int)) l_str (nomark _))))) (ls_cons (ls_ret l_bl) ls_nil) ls_nil) (ls_cons (ls_setLcB fu 1 (own := [("item", 2)]) rfl nd (li_any (l_var 0)) (blkOk_by (by kernel_rfl)) (by decide) (fun _ _ _ _ _ => (lg_nm 2 nd)) (fun _ _ _ _ _ => lp_nil) (fun _ _ _ _ _ => (l_dead (dead_call _))) rfl rfl (sw_true rfl rfl rfl (by decide +kernel))) (ls_cons (ls_expr (l_methL PySem.F.slot_list_append PySem.F.type_list_append mt_append ok_append (l_var 0) (la_cons l_str la_nil))) (ls_cons (ls_ret (l_cmp (op_notIn2 hr.units1) ok_notIn2 l_bl (l_var 1) (by with_unfolding_all rfl))) ls_nil)))) ls_nil) (ls_cons (ls_ret (l_or (l_notT (l_callB call_isi ok_isi (by rfl) C.z_isinstance (by decide +kernel) (la_cons (l_var 0) (la_cons (l_ty (by rfl) C.z_tuple (by decide +kernel)) la_nil)))) (l_one (l_cmp (op_notIn2 hr.units1) ok_notIn2 l_bl (l_shutB (l_lc fu (own := [("item", 2)]) rfl nd (li_any (l_var 0)) (blkOk_by (by kernel_rfl)) (by decide) (fun _ _ _ _ _ => (lg_nm 2 nd)) (fun _ _ _ _ _ => lp_nil) (fun _ _ _ _ _ => (l_dead (dead_call _))))) (by with_unfolding_all rfl))))) ls_nil))
  | n + 1 => FnG.sealedB <| fn_g C.F__law_marked sc__law_marked fun cdv A outer s H hr hG => by
    have nd := sc__law_marked.nd
    exact (ls_cons (ls_if (lt_tru (l_callB call_isi ok_isi (by rfl) C.z_isinstance (by decide +kernel) (la_cons (l_var 0) (la_cons (l_ty (by rfl) C.z_list (by decide +kernel)) la_nil)))) (ls_cons (ls_if (PW.pt (lw_and (lt_cmp (op_neA hr.units) ok_nev (l_var 0) (l_lst la_nil) (nomark _)) (lw_and1 (lt_cmp (op_eqA hr.units) ok_eqv (l_ix (l_var 0) (l_neg l_int)) l_str (nomark _))))) (ls_cons (ls_ret l_bl) ls_nil) ls_nil) (ls_cons (ls_setLcB fu 1 (own := [("item", 2)]) rfl nd (li_any (l_var 0)) (blkOk_by (by kernel_rfl)) (by decide) (fun _ _ _ _ _ => (lg_nm 2 nd)) (fun _ _ _ _ _ => lp_nil) (fun _ _ _ _ _ => (l_call (okr__law_marked C n) (arr__law_marked n) (hr.mono (by omega)) hG (by rfl) C.m__law_marked C.F__law_marked.kp (bi__law_marked C.F__law_marked) rfl (la_cons (l_var 2) la_nil))) rfl rfl (sw_true rfl rfl rfl (by decide +kernel))) (ls_cons (ls_expr (l_methL PySem.F.slot_list_append PySem.F.type_list_append mt_append ok_append (l_var 0) (la_cons l_str la_nil))) (ls_cons (ls_ret (l_cmp (op_notIn2 hr.units1) ok_notIn2 l_bl (l_var 1) (by with_unfolding_all rfl))) ls_nil)))) ls_nil) (ls_cons (ls_ret (l_or (l_notT (l_callB call_isi ok_isi (by rfl) C.z_isinstance (by decide +kernel) (la_cons (l_var 0) (la_cons (l_ty (by rfl) C.z_tuple (by decide +kernel)) la_nil)))) (l_one (l_cmp (op_notIn2 hr.units1) ok_notIn2 l_bl (l_shutB (l_lc fu (own := [("item", 2)]) rfl nd (li_any (l_var 0)) (blkOk_by (by kernel_rfl)) (by decide) (fun _ _ _ _ _ => (lg_nm 2 nd)) (fun _ _ _ _ _ => lp_nil) (fun _ _ _ _ _ => (l_call (okr__law_marked C n) (arr__law_marked n) (hr.mono (by omega)) hG (by rfl) C.m__law_marked C.F__law_marked.kp (bi__law_marked C.F__law_marked) rfl (la_cons (l_var 2) la_nil))))) (by with_unfolding_all rfl))))) ls_nil))
theorem ok__law_marked (C : Facts w K mg) : FnG P w K mg base 41 C.a__law_marked C.fd__law_marked P__law_marked (spOf K 1 (c__law_marked fu)) := okr__law_marked C 40
theorem oku__law_met (C : Facts w K mg) : FnG P w K mg base 2 C.a__law_met C.fd__law_met P__law_met (spOf K 2 (u__law_met fu)) := fn_g C.F__law_met sc__law_met fun cdv A outer s H hr hG => by
  have nd := sc__law_met.nd
  exact (ls_cons (ls_if (PW.pt (lw_or (lt_cmp op_isN ok_isN (l_var 0) l_non (nomark _)) (lw_or1 (lt_cmp op_isN ok_isN (l_var 1) l_non (nomark _))))) (ls_cons (ls_ret l_non) ls_nil) ls_nil) (ls_cons (ls_set 2 nd (l_lzip rfl (by rfl) C.z_list (by rfl) C.z_zip (la_cons (l_call (ok__law_pairs C) (ar_sealed ar_fn) (hr.mono (by decide)) hG (by rfl) C.m__law_pairs C.F__law_pairs.kp (bi__law_pairs C.F__law_pairs) rfl (la_cons (l_var 0) la_nil)) (la_cons (l_call (ok__law_pairs C) (ar_sealed ar_fn) (hr.mono (by decide)) hG (by rfl) C.m__law_pairs C.F__law_pairs.kp (bi__law_pairs C.F__law_pairs) rfl (la_cons (l_var 1) la_nil)) la_nil)))) (ls_cons (ls_setLc fu 3 (own := [("low", 4), ("high", 5)]) rfl nd (li_any (l_var 2)) (blkOk_by (by kernel_rfl)) (by decide) (fun _ _ _ _ _ => (lg_tp rfl (lgs_cons (lg_nm 4 nd) (lgs_cons (lg_nm 5 nd) lgs_nil)))) (fun _ _ _ _ _ => lp_nil) (fun _ _ _ _ _ => (l_tup (la_cons (l_callB (call_max2 rfl) ok_max (by rfl) C.z_max (by decide +kernel) (la_cons (l_ix (l_var 4) l_int) (la_cons (l_ix (l_var 5) l_int) la_nil))) (la_cons (l_callB (call_min2 rfl) ok_min (by rfl) C.z_min (by decide +kernel) (la_cons (l_ix (l_var 4) l_int) (la_cons (l_ix (l_var 5) l_int) la_nil))) la_nil)))) rfl rfl (sw_true rfl rfl rfl (by decide +kernel))) (ls_cons (ls_ret (l_if (lt_cmp (op_neA hr.units) ok_nev (l_lc fu (own := [("low", 4), ("high", 5)]) rfl nd (li_any (l_var 3)) (blkOk_by (by kernel_rfl)) (by decide) (fun _ _ _ _ _ => (lg_tp rfl (lgs_cons (lg_nm 4 nd) (lgs_cons (lg_nm 5 nd) lgs_nil)))) (fun _ _ _ _ _ => (lp_one (lt_cmp op_gt2 ok_cmp2 (l_var 4) (l_var 5) (nomark _)))) (fun _ _ _ _ _ => l_int)) (l_lst la_nil) (nomark _)) l_non (l_call (ok__law_ends C) (ar_sealed ar_fn) (hr.mono (by decide)) hG (by rfl) C.m__law_ends C.F__law_ends.kp (bi__law_ends C.F__law_ends) rfl (la_cons (l_var 3) la_nil)))) ls_nil))))
theorem ok__law_met (C : Facts w K mg) : FnG P w K mg base 2 C.a__law_met C.fd__law_met P__law_met (spOf K 2 (c__law_met fu)) := (oku__law_met C).sealed
theorem oku__law_hash (C : Facts w K mg) : FnG P w K mg base 1 C.a__law_hash C.fd__law_hash P__law_hash (spOf K 2 (Com.u__law_hash fu)) := fn_g C.F__law_hash sc__law_hash fun cdv A outer s H hr hG => by
  have nd := sc__law_hash.nd
  exact (ls_cons (ls_set 2 nd (l_bin op_mod ok_mod (l_callTy call_int1 ok_int (by rfl) C.z_int (by decide +kernel) (la_cons (l_bin op_addL ok_add (l_bin op_addL ok_add (l_bin op_addL ok_add (l_bin op_mulW ok_mul (l_var 0) l_int) (l_bin op_mulW ok_mul (l_bin op_mulW ok_mul l_int (l_var 1)) (l_var 1))) (l_bin op_mulW ok_mul l_int (l_var 1))) l_int) la_nil)) l_int)) (ls_cons (ls_set 2 nd (l_bin op_mod ok_mod (l_callTy call_int1 ok_int (by rfl) C.z_int (by decide +kernel) (la_cons (l_bin op_addL ok_add (l_bin op_addL ok_add (l_bin op_mulW ok_mul (l_var 2) (l_var 2)) (l_bin op_mulW ok_mul l_int (l_var 1))) l_int) la_nil)) l_int)) (ls_cons (ls_ret (l_bin op_mod ok_mod (l_callTy call_int1 ok_int (by rfl) C.z_int (by decide +kernel) (la_cons (l_bin op_mulW ok_mul (l_var 2) l_int) la_nil)) l_int)) ls_nil)))
theorem ok__law_hash (C : Facts w K mg) : FnG P w K mg base 1 C.a__law_hash C.fd__law_hash P__law_hash (spOf K 2 (Com.c__law_hash fu)) := (oku__law_hash C).sealed
theorem oku__law_random (C : Facts w K mg) : FnG P w K mg base 2 C.a__law_random C.fd__law_random P__law_random (spOf K 2 (Com.u__law_random fu)) := fn_g C.F__law_random sc__law_random fun cdv A outer s H hr hG => by
  have nd := sc__law_random.nd
  exact (ls_cons (ls_if (lt_cmp op_gt ok_cmpI (l_ix (l_var 0) l_int) l_int (nomark _)) (ls_cons (ls_set 2 nd (l_bin op_mod ok_mod (l_callTy call_int1 ok_int (by rfl) C.z_int (by decide +kernel) (la_cons (l_ix (l_var 0) l_int) la_nil)) (l_var 1))) (ls_cons (ls_sub (l_bin op_fdivW ok_div (l_ix (l_var 0) l_int) (l_var 1)) (l_var 0) l_int (fun h1 h2 h3 => pg_sub h1 h2 h3)) (ls_cons (ls_ret (l_var 2)) ls_nil))) ls_nil) (ls_cons (ls_set 2 nd l_int) (ls_cons (ls_for fu PassesOwn.never rfl (li_range1 (by rfl) C.z_range (la_cons (l_bin op_addL ok_add l_int (l_bin op_fdivW ok_div (l_bits (l_var 1)) l_int)) la_nil)) (lg_nm 3 nd) (ls_cons (ls_sub (l_bin op_addL ok_add (l_ix (l_var 0) l_int) l_int) (l_var 0) l_int (fun h1 h2 h3 => pg_sub h1 h2 h3)) (ls_cons (ls_set 2 nd (l_bin op_addL ok_add (l_bin op_mulW ok_mul (l_var 2) l_int) (l_call (ok__law_hash C) (ar_sealed ar_fn) (hr.mono (by decide)) hG (by rfl) C.m__law_hash C.F__law_hash.kp (bi__law_hash C.F__law_hash) rfl (la_cons (l_ix (l_var 0) l_int) (la_cons (l_ix (l_var 0) l_int) la_nil))))) ls_nil))) (ls_cons (ls_ret (l_bin op_mod ok_mod (l_callTy call_int1 ok_int (by rfl) C.z_int (by decide +kernel) (la_cons (l_var 2) la_nil)) (l_var 1))) ls_nil))))
theorem ok__law_random (C : Facts w K mg) : FnG P w K mg base 2 C.a__law_random C.fd__law_random P__law_random (spOf K 2 (Com.c__law_random fu)) := (oku__law_random C).sealed
theorem oku__law_names (C : Facts w K mg) : FnG P w K mg base 3 C.a__law_names C.fd__law_names P__law_names (spOf K 2 (Com.u__law_names fu)) := fn_g C.F__law_names sc__law_names fun cdv A outer s H hr hG => by
  have nd := sc__law_names.nd
  exact (ls_cons (ls_par 2 3 rfl nd (by decide) (la_cons (l_lst (la_cons l_str (la_cons l_str (la_cons l_str (la_cons l_str (la_cons l_str (la_cons l_str (la_cons l_str (la_cons l_str (la_cons l_str (la_cons l_str la_nil))))))))))) (la_cons (l_lst la_nil) la_nil))) (ls_cons (ls_for fu PassesOwn.never rfl (li_range1 (by rfl) C.z_range (la_cons (l_var 1) la_nil)) (lg_nm 4 nd) (ls_cons (ls_expr (l_methL PySem.F.slot_list_append PySem.F.type_list_append mt_append ok_append (l_var 3) (la_cons (l_methL PySem.F.slot_list_pop PySem.F.type_list_pop mt_popAt ok_popAt (l_var 2) (la_cons (l_call (ok__law_random C) (ar_sealed ar_fn) (hr.mono (by decide)) hG (by rfl) C.m__law_random C.F__law_random.kp (bi__law_random C.F__law_random) rfl (la_cons (l_var 0) (la_cons (l_callB cr_len ok_len (by rfl) C.z_len (by decide +kernel) (la_cons (l_var 2) la_nil)) la_nil))) la_nil)) la_nil))) ls_nil)) (ls_cons (ls_ret (l_callB cr_sortedS ok_sortS (by rfl) C.z_sorted (by decide +kernel) (la_cons (l_var 3) la_nil))) ls_nil)))
theorem ok__law_names (C : Facts w K mg) : FnG P w K mg base 3 C.a__law_names C.fd__law_names P__law_names (spOf K 2 (Com.c__law_names fu)) := (oku__law_names C).sealed
theorem oku__law_number (C : Facts w K mg) : FnG P w K mg base 3 C.a__law_number C.fd__law_number P__law_number (spOf K 2 (Com.u__law_number fu)) := fn_g C.F__law_number sc__law_number fun cdv A outer s H hr hG => by
  have nd := sc__law_number.nd
  exact (ls_cons (ls_ret (l_bin op_sub ok_sub (l_call (ok__law_random C) (ar_sealed ar_fn) (hr.mono (by decide)) hG (by rfl) C.m__law_random C.F__law_random.kp (bi__law_random C.F__law_random) rfl (la_cons (l_var 0) (la_cons (l_bin op_addL ok_add (l_bin op_mulW ok_mul l_int (l_var 1)) l_int) la_nil))) (l_var 1))) ls_nil)
theorem ok__law_number (C : Facts w K mg) : FnG P w K mg base 3 C.a__law_number C.fd__law_number P__law_number (spOf K 2 (Com.c__law_number fu)) := (oku__law_number C).sealed
theorem oku__law_range (C : Facts w K mg) : FnG P w K mg base 4 C.a__law_range C.fd__law_range P__law_range (spOf K 2 (Com.u__law_range fu)) := fn_g C.F__law_range sc__law_range fun cdv A outer s H hr hG => by
  have nd := sc__law_range.nd
  exact (ls_cons (ls_set 2 nd (l_call (ok__law_number C) (ar_sealed ar_fn) (hr.mono (by decide)) hG (by rfl) C.m__law_number C.F__law_number.kp (bi__law_number C.F__law_number) rfl (la_cons (l_var 0) (la_cons (l_var 1) la_nil)))) (ls_cons (ls_par 3 4 rfl nd (by decide) (la_cons (l_callB (call_min2 rfl) ok_min (by rfl) C.z_min (by decide +kernel) (la_cons (l_bin op_addL ok_add (l_var 2) (l_call (ok__law_random C) (ar_sealed ar_fn) (hr.mono (by decide)) hG (by rfl) C.m__law_random C.F__law_random.kp (bi__law_random C.F__law_random) rfl (la_cons (l_var 0) (la_cons (l_bin op_addL ok_add (l_var 1) l_int) la_nil)))) (la_cons (l_var 1) la_nil))) (la_cons (l_call (ok__law_random C) (ar_sealed ar_fn) (hr.mono (by decide)) hG (by rfl) C.m__law_random C.F__law_random.kp (bi__law_random C.F__law_random) rfl (la_cons (l_var 0) (la_cons l_int la_nil))) la_nil))) (ls_cons (ls_ret (l_tup (la_cons (l_if (lt_cmp (op_in2 hr.units1) ok_in2 (l_var 4) (l_lst (la_cons l_int (la_cons l_int la_nil))) (by with_unfolding_all rfl)) l_non (l_var 2)) (la_cons (l_if (lt_cmp (op_in2 hr.units1) ok_in2 (l_var 4) (l_lst (la_cons l_int (la_cons l_int la_nil))) (by with_unfolding_all rfl)) l_non (l_var 3)) la_nil)))) ls_nil)))
theorem ok__law_range (C : Facts w K mg) : FnG P w K mg base 4 C.a__law_range C.fd__law_range P__law_range (spOf K 2 (Com.c__law_range fu)) := (oku__law_range C).sealed
theorem oku__law_wider (C : Facts w K mg) : FnG P w K mg base 3 C.a__law_wider C.fd__law_wider P__law_wider (spOf K 2 (Com.u__law_wider fu)) := fn_g C.F__law_wider sc__law_wider fun cdv A outer s H hr hG => by
  have nd := sc__law_wider.nd
  exact (ls_cons (ls_set 2 nd (l_lst la_nil)) (ls_cons (ls_for fu PassesOwn.never rfl (li_any (l_var 1)) (lg_tp rfl (lgs_cons (lg_nm 3 nd) (lgs_cons (lg_nm 4 nd) lgs_nil))) (ls_cons (ls_set 5 nd (l_call (ok__law_random C) (ar_sealed ar_fn) (hr.mono (by decide)) hG (by rfl) C.m__law_random C.F__law_random.kp (bi__law_random C.F__law_random) rfl (la_cons (l_var 0) (la_cons l_int la_nil)))) (ls_cons (ls_expr (l_methL PySem.F.slot_list_append PySem.F.type_list_append mt_append ok_append (l_var 2) (la_cons (l_tup (la_cons (l_if (PW.pt (lw_or (lt_cmp (op_eqA hr.units) ok_eqv (l_var 5) l_int (nomark _)) (lw_or1 (lt_cmp op_isN ok_isN (l_var 3) l_non (nomark _))))) l_non (l_bin op_sub ok_sub (l_var 3) (l_bin op_fdivW ok_div (l_var 5) l_int))) (la_cons (l_if (PW.pt (lw_or (lt_cmp (op_eqA hr.units) ok_eqv (l_var 5) l_int (nomark _)) (lw_or1 (lt_cmp op_isN ok_isN (l_var 4) l_non (nomark _))))) l_non (l_bin op_addL ok_add (l_var 4) (l_bin op_fdivW ok_div (l_var 5) l_int))) la_nil))) la_nil))) ls_nil))) (ls_cons (ls_ret (l_var 2)) ls_nil)))
theorem ok__law_wider (C : Facts w K mg) : FnG P w K mg base 3 C.a__law_wider C.fd__law_wider P__law_wider (spOf K 2 (Com.c__law_wider fu)) := (oku__law_wider C).sealed
theorem oku__law_within (C : Facts w K mg) : FnG P w K mg base 2 C.a__law_within C.fd__law_within P__law_within (spOf K 2 (u__law_within fu)) := fn_g C.F__law_within sc__law_within fun cdv A outer s H hr hG => by
  have nd := sc__law_within.nd
  exact (ls_cons (ls_if (PW.pt (lw_or (lt_cmp op_isN ok_isN (l_var 0) l_non (nomark _)) (lw_or1 (lt_cmp op_isN ok_isN (l_var 1) l_non (nomark _))))) (ls_cons (ls_ret (l_cmp op_isN ok_isN (l_var 0) l_non (nomark _))) ls_nil) ls_nil) (ls_cons (ls_set 2 nd (l_lzip rfl (by rfl) C.z_list (by rfl) C.z_zip (la_cons (l_call (ok__law_pairs C) (ar_sealed ar_fn) (hr.mono (by decide)) hG (by rfl) C.m__law_pairs C.F__law_pairs.kp (bi__law_pairs C.F__law_pairs) rfl (la_cons (l_var 0) la_nil)) (la_cons (l_call (ok__law_pairs C) (ar_sealed ar_fn) (hr.mono (by decide)) hG (by rfl) C.m__law_pairs C.F__law_pairs.kp (bi__law_pairs C.F__law_pairs) rfl (la_cons (l_var 1) la_nil)) la_nil)))) (ls_cons (ls_ret (l_cmp (op_eqA hr.units) ok_eqv (l_lc fu (own := [("low", 3), ("high", 4)]) rfl nd (li_any (l_var 2)) (blkOk_by (by kernel_rfl)) (by decide) (fun _ _ _ _ _ => (lg_tp rfl (lgs_cons (lg_nm 3 nd) (lgs_cons (lg_nm 4 nd) lgs_nil)))) (fun _ _ _ _ _ => (lp_one (PW.pt (lw_or (lt_cmp op_lt2 ok_cmp2 (l_ix (l_var 3) l_int) (l_ix (l_var 4) l_int) (nomark _)) (lw_or1 (lt_cmp op_gt2 ok_cmp2 (l_ix (l_var 3) l_int) (l_ix (l_var 4) l_int) (nomark _))))))) (fun _ _ _ _ _ => l_int)) (l_lst la_nil) (nomark _))) ls_nil)))
theorem ok__law_within (C : Facts w K mg) : FnG P w K mg base 2 C.a__law_within C.fd__law_within P__law_within (spOf K 2 (c__law_within fu)) := (oku__law_within C).sealed
theorem oku_a_whole (C : Facts w K mg) : FnG P w K mg base 1 C.a_a_whole C.fd_a_whole P_a_whole (spOf K 1 (Com.u_a_whole fu)) := fn_g C.F_a_whole sc_a_whole fun cdv A outer s H hr hG => by
  have nd := sc_a_whole.nd
  exact (ls_cons (ls_ret (l_and (l_callB call_isi ok_isi (by rfl) C.z_isinstance (by decide +kernel) (la_cons (l_var 0) (la_cons (l_ty (by rfl) C.z_int (by decide +kernel)) la_nil))) (l_one (l_notT (l_callB call_isi ok_isi (by rfl) C.z_isinstance (by decide +kernel) (la_cons (l_var 0) (la_cons (l_ty (by rfl) C.z_bool (by decide +kernel)) la_nil))))))) ls_nil)
theorem ok_a_whole (C : Facts w K mg) : FnG P w K mg base 1 C.a_a_whole C.fd_a_whole P_a_whole (spOf K 1 (Com.c_a_whole fu)) := (oku_a_whole C).sealed
theorem oku_an_end (C : Facts w K mg) : FnG P w K mg base 2 C.a_an_end C.fd_an_end P_an_end (spOf K 1 (Com.u_an_end fu)) := fn_g C.F_an_end sc_an_end fun cdv A outer s H hr hG => by
  have nd := sc_an_end.nd
  exact (ls_cons (ls_ret (l_or (l_cmp op_isN ok_isN (l_var 0) l_non (nomark _)) (l_one (l_call (ok_a_whole C) (ar_sealed ar_fn) (hr.mono (by decide)) hG (by rfl) C.m_a_whole C.F_a_whole.kp (bi_a_whole C.F_a_whole) rfl (la_cons (l_var 0) la_nil))))) ls_nil)
theorem ok_an_end (C : Facts w K mg) : FnG P w K mg base 2 C.a_an_end C.fd_an_end P_an_end (spOf K 1 (Com.c_an_end fu)) := (oku_an_end C).sealed
theorem oku_a_range (C : Facts w K mg) : FnG P w K mg base 3 C.a_a_range C.fd_a_range P_a_range (spOf K 1 (Com.u_a_range fu)) := fn_g C.F_a_range sc_a_range fun cdv A outer s H hr hG => by
  have nd := sc_a_range.nd
  exact (ls_cons (ls_if (PW.pt (lw_or (lt_not (lt_tru (l_callB call_isi ok_isi (by rfl) C.z_isinstance (by decide +kernel) (la_cons (l_var 0) (la_cons (l_ty (by rfl) C.z_tuple (by decide +kernel)) la_nil))))) (lw_or1 (lt_cmp (op_neA hr.units) ok_nev (l_callB cr_len ok_len (by rfl) C.z_len (by decide +kernel) (la_cons (l_var 0) la_nil)) l_int (nomark _))))) (ls_cons (ls_ret l_bl) ls_nil) ls_nil) (ls_cons (ls_asg (l_var 0) (lg_tp rfl (lgs_cons (lg_nm 1 nd) (lgs_cons (lg_nm 2 nd) lgs_nil)))) (ls_cons (ls_if (PW.pt (lw_or (lt_not (lt_tru (l_call (ok_an_end C) (ar_sealed ar_fn) (hr.mono (by decide)) hG (by rfl) C.m_an_end C.F_an_end.kp (bi_an_end C.F_an_end) rfl (la_cons (l_var 1) la_nil)))) (lw_or1 (lt_not (lt_tru (l_call (ok_an_end C) (ar_sealed ar_fn) (hr.mono (by decide)) hG (by rfl) C.m_an_end C.F_an_end.kp (bi_an_end C.F_an_end) rfl (la_cons (l_var 2) la_nil))))))) (ls_cons (ls_ret l_bl) ls_nil) ls_nil) (ls_cons (ls_ret (l_or (l_cmp op_isN ok_isN (l_var 1) l_non (nomark _)) (l_or (l_cmp op_isN ok_isN (l_var 2) l_non (nomark _)) (l_one (l_cmp op_le2 ok_cmp2 (l_var 1) (l_var 2) (nomark _)))))) ls_nil))))
theorem ok_a_range (C : Facts w K mg) : FnG P w K mg base 3 C.a_a_range C.fd_a_range P_a_range (spOf K 1 (Com.c_a_range fu)) := (oku_a_range C).sealed
theorem oku__a_part (C : Facts w K mg) : FnG P w K mg base 4 C.a__a_part C.fd__a_part P__a_part (spOf K 3 (Com.u__a_part fu)) := fn_g C.F__a_part sc__a_part fun cdv A outer s H hr hG => by
  have nd := sc__a_part.nd
  exact (ls_cons (ls_if (lt_cmp (op_eqA hr.units) ok_eqv (l_var 1) l_str (nomark _)) (ls_cons (ls_ret (l_and (l_callB call_isi ok_isi (by rfl) C.z_isinstance (by decide +kernel) (la_cons (l_var 2) (la_cons (l_ty (by rfl) C.z_str (by decide +kernel)) la_nil))) (l_one (l_cmp (op_in2 hr.units1) ok_in2 (l_var 2) (l_var 0) (by with_unfolding_all rfl))))) ls_nil) ls_nil) (ls_cons (ls_if (lt_cmp (op_eqA hr.units) ok_eqv (l_var 1) l_str (nomark _)) (ls_cons (ls_ret (l_call (ok_a_whole C) (ar_sealed ar_fn) (hr.mono (by decide)) hG (by rfl) C.m_a_whole C.F_a_whole.kp (bi_a_whole C.F_a_whole) rfl (la_cons (l_var 2) la_nil))) ls_nil) ls_nil) (ls_cons (ls_ret (l_call (ok_a_range C) (ar_sealed ar_fn) (hr.mono (by decide)) hG (by rfl) C.m_a_range C.F_a_range.kp (bi_a_range C.F_a_range) rfl (la_cons (l_var 2) la_nil))) ls_nil)))
theorem ok__a_part (C : Facts w K mg) : FnG P w K mg base 4 C.a__a_part C.fd__a_part P__a_part (spOf K 3 (Com.c__a_part fu)) := (oku__a_part C).sealed
theorem oku_a_deed (C : Facts w K mg) : FnG P w K mg base 5 C.a_a_deed C.fd_a_deed P_a_deed (spOf K 2 (Com.u_a_deed fu)) := fn_g C.F_a_deed sc_a_deed fun cdv A outer s H hr hG => by
  have nd := sc_a_deed.nd
  exact (ls_cons (ls_if (PW.pt (lw_or (lt_not (lt_tru (l_callB call_isi ok_isi (by rfl) C.z_isinstance (by decide +kernel) (la_cons (l_var 1) (la_cons (l_ty (by rfl) C.z_tuple (by decide +kernel)) la_nil))))) (lw_or (lt_not (lt_tru (l_var 1))) (lw_or1 (lt_not (lt_tru (l_callB call_isi ok_isi (by rfl) C.z_isinstance (by decide +kernel) (la_cons (l_ix (l_var 1) l_int) (la_cons (l_ty (by rfl) C.z_str (by decide +kernel)) la_nil))))))))) (ls_cons (ls_ret l_bl) ls_nil) ls_nil) (ls_cons (ls_set 2 nd (l_kget C.c_DEED_FORMS (by rfl) (l_ix (l_var 1) l_int) ⟨rfl, rfl, rfl, rfl⟩)) (ls_cons (ls_if (PW.pt (lw_or (lt_cmp op_isN ok_isN (l_var 2) l_non (nomark _)) (lw_or1 (lt_cmp (op_neA hr.units) ok_nev (l_callB cr_len ok_len (by rfl) C.z_len (by decide +kernel) (la_cons (l_var 1) la_nil)) (l_bin op_addL ok_add (l_callB cr_len ok_len (by rfl) C.z_len (by decide +kernel) (la_cons (l_var 2) la_nil)) l_int) (nomark _))))) (ls_cons (ls_ret l_bl) ls_nil) ls_nil) (ls_cons (ls_if (lt_not (lt_tru (l_callB (cr_all rfl) ok_bools (by rfl) C.z_all (by decide +kernel) (la_cons (l_lc fu (own := [("form", 3), ("part", 4)]) rfl nd (li_zipA (by rfl) C.z_zip (la_cons (l_var 2) (la_cons (l_sl (l_var 1) (lo_some l_int) lo_none) la_nil))) (blkOk_by (by kernel_rfl)) (by decide) (fun _ _ _ _ _ => (lg_tp rfl (lgs_cons (lg_nm 3 nd) (lgs_cons (lg_nm 4 nd) lgs_nil)))) (fun _ _ _ _ _ => lp_nil) (fun _ _ _ _ _ => (l_call (ok__a_part C) (ar_sealed ar_fn) (hr.mono (by decide)) hG (by rfl) C.m__a_part C.F__a_part.kp (bi__a_part C.F__a_part) rfl (la_cons (l_var 0) (la_cons (l_var 3) (la_cons (l_var 4) la_nil)))))) la_nil)))) (ls_cons (ls_ret l_bl) ls_nil) ls_nil) (ls_cons (ls_ret (l_or (l_cmp (op_notIn2 hr.units1) ok_notIn2 (l_ix (l_var 1) l_int) (l_ctup C.c_PAIR_TESTS (by rfl)) (by with_unfolding_all rfl)) (l_one (l_cmp (op_neA hr.units) ok_nev (l_ix (l_var 1) l_int) (l_ix (l_var 1) l_int) (nomark _))))) ls_nil)))))
theorem ok_a_deed (C : Facts w K mg) : FnG P w K mg base 5 C.a_a_deed C.fd_a_deed P_a_deed (spOf K 2 (Com.c_a_deed fu)) := (oku_a_deed C).sealed
theorem oku_a_number_below (C : Facts w K mg) : FnG P w K mg base 2 C.a_a_number_below C.fd_a_number_below P_a_number_below (spOf K 2 (Com.u_a_number_below fu)) := fn_g C.F_a_number_below sc_a_number_below fun cdv A outer s H hr hG => by
  have nd := sc_a_number_below.nd
  exact (ls_cons (ls_ret (l_and (l_call (ok_a_whole C) (ar_sealed ar_fn) (hr.mono (by decide)) hG (by rfl) C.m_a_whole C.F_a_whole.kp (bi_a_whole C.F_a_whole) rfl (la_cons (l_var 1) la_nil)) (l_one (l_chain op_le2 op_lt2 ok_cmp2 ok_cmp2 l_int (l_var 1) (l_var 0))))) ls_nil)
theorem ok_a_number_below (C : Facts w K mg) : FnG P w K mg base 2 C.a_a_number_below C.fd_a_number_below P_a_number_below (spOf K 2 (Com.c_a_number_below fu)) := (oku_a_number_below C).sealed
theorem oku_a_step (C : Facts w K mg) : FnG P w K mg base 6 C.a_a_step C.fd_a_step P_a_step (spOf K 3 (Com.u_a_step fu)) := fn_g C.F_a_step sc_a_step fun cdv A outer s H hr hG => by
  have nd := sc_a_step.nd
  exact (ls_cons (ls_if (PW.pt (lw_or (lt_not (lt_tru (l_callB call_isi ok_isi (by rfl) C.z_isinstance (by decide +kernel) (la_cons (l_var 2) (la_cons (l_ty (by rfl) C.z_tuple (by decide +kernel)) la_nil))))) (lw_or1 (lt_cmp (op_neA hr.units) ok_nev (l_callB cr_len ok_len (by rfl) C.z_len (by decide +kernel) (la_cons (l_var 2) la_nil)) l_int (nomark _))))) (ls_cons (ls_ret l_bl) ls_nil) ls_nil) (ls_cons (ls_asg (l_var 2) (lg_tp rfl (lgs_cons (lg_nm 3 nd) (lgs_cons (lg_nm 4 nd) (lgs_cons (lg_nm 5 nd) lgs_nil))))) (ls_cons (ls_ret (l_and (l_call (ok_a_number_below C) (ar_sealed ar_fn) (hr.mono (by decide)) hG (by rfl) C.m_a_number_below C.F_a_number_below.kp (bi_a_number_below C.F_a_number_below) rfl (la_cons (l_var 1) (la_cons (l_var 3) la_nil))) (l_and (l_call (ok_a_number_below C) (ar_sealed ar_fn) (hr.mono (by decide)) hG (by rfl) C.m_a_number_below C.F_a_number_below.kp (bi_a_number_below C.F_a_number_below) rfl (la_cons (l_var 1) (la_cons (l_var 4) la_nil))) (l_one (l_call (ok_a_deed C) (ar_sealed ar_fn) (hr.mono (by decide)) hG (by rfl) C.m_a_deed C.F_a_deed.kp (bi_a_deed C.F_a_deed) rfl (la_cons (l_var 0) (la_cons (l_var 5) la_nil))))))) ls_nil)))
theorem ok_a_step (C : Facts w K mg) : FnG P w K mg base 6 C.a_a_step C.fd_a_step P_a_step (spOf K 3 (Com.c_a_step fu)) := (oku_a_step C).sealed
theorem oku__a_short_count (C : Facts w K mg) : FnG P w K mg base 1 C.a__a_short_count C.fd__a_short_count P__a_short_count (spOf K 1 (Com.u__a_short_count fu)) := fn_g C.F__a_short_count sc__a_short_count fun cdv A outer s H hr hG => by
  have nd := sc__a_short_count.nd
  exact (ls_cons (ls_if (PW.pt (lw_or (lt_cmp op_gt2 ok_cmp2 (l_callB cr_len ok_len (by rfl) C.z_len (by decide +kernel) (la_cons (l_var 0) la_nil)) l_int (nomark _)) (lw_or1 (PW.pt (lw_and (lt_cmp op_gt2 ok_cmp2 (l_callB cr_len ok_len (by rfl) C.z_len (by decide +kernel) (la_cons (l_var 0) la_nil)) l_int (nomark _)) (lw_and1 (lt_cmp (op_eqA hr.units) ok_eqv (l_ix (l_var 0) l_int) l_str (nomark _)))))))) (ls_cons (ls_ret l_bl) ls_nil) ls_nil) (ls_cons (ls_ret (l_callB (cr_all rfl) ok_bools (by rfl) C.z_all (by decide +kernel) (la_cons (l_lc fu (own := [("sign", 1)]) rfl nd (li_any (l_var 0)) (blkOk_by (by kernel_rfl)) (by decide) (fun _ _ _ _ _ => (lg_nm 1 nd)) (fun _ _ _ _ _ => lp_nil) (fun _ _ _ _ _ => (l_chain op_le2 op_le2 ok_cmp2 ok_cmp2 l_str (l_var 1) l_str))) la_nil))) ls_nil))
theorem ok__a_short_count (C : Facts w K mg) : FnG P w K mg base 1 C.a__a_short_count C.fd__a_short_count P__a_short_count (spOf K 1 (Com.c__a_short_count fu)) := (oku__a_short_count C).sealed
theorem oku_a_name (C : Facts w K mg) : FnG P w K mg base 2 C.a_a_name C.fd_a_name P_a_name (spOf K 1 (Com.u_a_name fu)) := fn_g C.F_a_name sc_a_name fun cdv A outer s H hr hG => by
  have nd := sc_a_name.nd
  exact (ls_cons (ls_if (lt_not (lt_tru (l_callB call_isi ok_isi (by rfl) C.z_isinstance (by decide +kernel) (la_cons (l_var 0) (la_cons (l_ty (by rfl) C.z_str (by decide +kernel)) la_nil))))) (ls_cons (ls_ret l_bl) ls_nil) ls_nil) (ls_cons (ls_set 1 nd l_int) (ls_cons (ls_while fu PassesOwn.never (PW.pt (lw_and (lt_cmp op_lt2 ok_cmp2 (l_var 1) (l_callB cr_len ok_len (by rfl) C.z_len (by decide +kernel) (la_cons (l_var 0) la_nil)) (nomark _)) (lw_and1 (lt_chain op_le2 op_le2 ok_cmp2 ok_cmp2 l_str (l_ix (l_var 0) (l_var 1)) l_str)))) (ls_cons (ls_aug 1 ip_add nd l_int) ls_nil)) (ls_cons (ls_ret (l_and (l_chain op_le2 op_le2 ok_cmp2 ok_cmp2 l_int (l_var 1) l_int) (l_one (l_call (ok__a_short_count C) (ar_sealed ar_fn) (hr.mono (by decide)) hG (by rfl) C.m__a_short_count C.F__a_short_count.kp (bi__a_short_count C.F__a_short_count) rfl (la_cons (l_sl (l_var 0) (lo_some (l_var 1)) lo_none) la_nil))))) ls_nil))))
theorem ok_a_name (C : Facts w K mg) : FnG P w K mg base 2 C.a_a_name C.fd_a_name P_a_name (spOf K 1 (Com.c_a_name fu)) := (oku_a_name C).sealed
theorem oku_ascending (C : Facts w K mg) : FnG P w K mg base 1 C.a_ascending C.fd_ascending P_ascending (spOf K 1 (Com.u_ascending fu)) := fn_g C.F_ascending sc_ascending fun cdv A outer s H hr hG => by
  have nd := sc_ascending.nd
  exact (ls_cons (ls_ret (l_callB (cr_all rfl) ok_bools (by rfl) C.z_all (by decide +kernel) (la_cons (l_lc fu (own := [("one", 1), ("other", 2)]) rfl nd (li_zipA (by rfl) C.z_zip (la_cons (l_var 0) (la_cons (l_sl (l_var 0) (lo_some l_int) lo_none) la_nil))) (blkOk_by (by kernel_rfl)) (by decide) (fun _ _ _ _ _ => (lg_tp rfl (lgs_cons (lg_nm 1 nd) (lgs_cons (lg_nm 2 nd) lgs_nil)))) (fun _ _ _ _ _ => lp_nil) (fun _ _ _ _ _ => (l_cmp op_lt2 ok_cmp2 (l_var 1) (l_var 2) (nomark _)))) la_nil))) ls_nil)
theorem ok_ascending (C : Facts w K mg) : FnG P w K mg base 1 C.a_ascending C.fd_ascending P_ascending (spOf K 1 (Com.c_ascending fu)) := (oku_ascending C).sealed
theorem oku_some_names (C : Facts w K mg) : FnG P w K mg base 3 C.a_some_names C.fd_some_names P_some_names (spOf K 1 (Com.u_some_names fu)) := fn_g C.F_some_names sc_some_names fun cdv A outer s H hr hG => by
  have nd := sc_some_names.nd
  exact (ls_cons (ls_if (PW.pt (lw_or (lt_not (lt_tru (l_callB call_isi ok_isi (by rfl) C.z_isinstance (by decide +kernel) (la_cons (l_var 0) (la_cons (l_ty (by rfl) C.z_list (by decide +kernel)) la_nil))))) (lw_or1 (lt_not (lt_tru (l_var 0)))))) (ls_cons (ls_ret l_bl) ls_nil) ls_nil) (ls_cons (ls_ret (l_and (l_callB (cr_all rfl) ok_bools (by rfl) C.z_all (by decide +kernel) (la_cons (l_lc fu (own := [("name", 1)]) rfl nd (li_any (l_var 0)) (blkOk_by (by kernel_rfl)) (by decide) (fun _ _ _ _ _ => (lg_nm 1 nd)) (fun _ _ _ _ _ => lp_nil) (fun _ _ _ _ _ => (l_call (ok_a_name C) (ar_sealed ar_fn) (hr.mono (by decide)) hG (by rfl) C.m_a_name C.F_a_name.kp (bi_a_name C.F_a_name) rfl (la_cons (l_var 1) la_nil)))) la_nil)) (l_one (l_call (ok_ascending C) (ar_sealed ar_fn) (hr.mono (by decide)) hG (by rfl) C.m_ascending C.F_ascending.kp (bi_ascending C.F_ascending) rfl (la_cons (l_var 0) la_nil))))) ls_nil))
theorem ok_some_names (C : Facts w K mg) : FnG P w K mg base 3 C.a_some_names C.fd_some_names P_some_names (spOf K 1 (Com.c_some_names fu)) := (oku_some_names C).sealed
theorem oku_some_ranges (C : Facts w K mg) : FnG P w K mg base 4 C.a_some_ranges C.fd_some_ranges P_some_ranges (spOf K 2 (Com.u_some_ranges fu)) := fn_g C.F_some_ranges sc_some_ranges fun cdv A outer s H hr hG => by
  have nd := sc_some_ranges.nd
  exact (ls_cons (ls_if (PW.pt (lw_or (lt_not (lt_tru (l_callB call_isi ok_isi (by rfl) C.z_isinstance (by decide +kernel) (la_cons (l_var 1) (la_cons (l_ty (by rfl) C.z_list (by decide +kernel)) la_nil))))) (lw_or1 (lt_cmp (op_neA hr.units) ok_nev (l_callB cr_len ok_len (by rfl) C.z_len (by decide +kernel) (la_cons (l_var 1) la_nil)) (l_callB cr_len ok_len (by rfl) C.z_len (by decide +kernel) (la_cons (l_var 0) la_nil)) (nomark _))))) (ls_cons (ls_ret l_bl) ls_nil) ls_nil) (ls_cons (ls_ret (l_callB (cr_all rfl) ok_bools (by rfl) C.z_all (by decide +kernel) (la_cons (l_lc fu (own := [("span", 2)]) rfl nd (li_any (l_var 1)) (blkOk_by (by kernel_rfl)) (by decide) (fun _ _ _ _ _ => (lg_nm 2 nd)) (fun _ _ _ _ _ => lp_nil) (fun _ _ _ _ _ => (l_call (ok_a_range C) (ar_sealed ar_fn) (hr.mono (by decide)) hG (by rfl) C.m_a_range C.F_a_range.kp (bi_a_range C.F_a_range) rfl (la_cons (l_var 2) la_nil)))) la_nil))) ls_nil))
theorem ok_some_ranges (C : Facts w K mg) : FnG P w K mg base 4 C.a_some_ranges C.fd_some_ranges P_some_ranges (spOf K 2 (Com.c_some_ranges fu)) := (oku_some_ranges C).sealed
theorem oku_a_program (C : Facts w K mg) : FnG P w K mg base 7 C.a_a_program C.fd_a_program P_a_program (spOf K 1 (Com.u_a_program fu)) := fn_g C.F_a_program sc_a_program fun cdv A outer s H hr hG => by
  have nd := sc_a_program.nd
  exact (ls_cons (ls_if (PW.pt (lw_or (lt_not (lt_tru (l_callB call_isi ok_isi (by rfl) C.z_isinstance (by decide +kernel) (la_cons (l_var 0) (la_cons (l_ty (by rfl) C.z_tuple (by decide +kernel)) la_nil))))) (lw_or1 (lt_cmp (op_neA hr.units) ok_nev (l_callB cr_len ok_len (by rfl) C.z_len (by decide +kernel) (la_cons (l_var 0) la_nil)) l_int (nomark _))))) (ls_cons (ls_ret l_bl) ls_nil) ls_nil) (ls_cons (ls_asg (l_var 0) (lg_tp rfl (lgs_cons (lg_nm 1 nd) (lgs_cons (lg_nm 2 nd) (lgs_cons (lg_nm 3 nd) (lgs_cons (lg_nm 4 nd) lgs_nil)))))) (ls_cons (ls_if (PW.pt (lw_or (lt_not (lt_tru (l_call (ok_some_names C) (ar_sealed ar_fn) (hr.mono (by decide)) hG (by rfl) C.m_some_names C.F_some_names.kp (bi_some_names C.F_some_names) rfl (la_cons (l_var 1) la_nil)))) (lw_or (lt_not (lt_tru (l_call (ok_a_whole C) (ar_sealed ar_fn) (hr.mono (by decide)) hG (by rfl) C.m_a_whole C.F_a_whole.kp (bi_a_whole C.F_a_whole) rfl (la_cons (l_var 2) la_nil)))) (lw_or (lt_cmp op_lt2 ok_cmp2 (l_var 2) l_int (nomark _)) (lw_or1 (lt_not (lt_tru (l_call (ok_some_ranges C) (ar_sealed ar_fn) (hr.mono (by decide)) hG (by rfl) C.m_some_ranges C.F_some_ranges.kp (bi_some_ranges C.F_some_ranges) rfl (la_cons (l_var 1) (la_cons (l_var 3) la_nil)))))))))) (ls_cons (ls_ret l_bl) ls_nil) ls_nil) (ls_cons (ls_ret (l_and (l_callB call_isi ok_isi (by rfl) C.z_isinstance (by decide +kernel) (la_cons (l_var 4) (la_cons (l_ty (by rfl) C.z_list (by decide +kernel)) la_nil))) (l_one (l_callB (cr_all rfl) ok_bools (by rfl) C.z_all (by decide +kernel) (la_cons (l_lc fu (own := [("step", 5)]) rfl nd (li_any (l_var 4)) (blkOk_by (by kernel_rfl)) (by decide) (fun _ _ _ _ _ => (lg_nm 5 nd)) (fun _ _ _ _ _ => lp_nil) (fun _ _ _ _ _ => (l_call (ok_a_step C) (ar_sealed ar_fn) (hr.mono (by decide)) hG (by rfl) C.m_a_step C.F_a_step.kp (bi_a_step C.F_a_step) rfl (la_cons (l_var 1) (la_cons (l_var 2) (la_cons (l_var 5) la_nil)))))) la_nil))))) ls_nil))))
theorem ok_a_program (C : Facts w K mg) : FnG P w K mg base 7 C.a_a_program C.fd_a_program P_a_program (spOf K 1 (Com.c_a_program fu)) := (oku_a_program C).sealed
theorem oku_need_program (C : Facts w K mg) : FnG P w K mg base 8 C.a_need_program C.fd_need_program P_need_program (spOf K 1 (Com.u_need_program fu)) := fn_g C.F_need_program sc_need_program fun cdv A outer s H hr hG => by
  have nd := sc_need_program.nd
  exact (ls_cons (ls_if (lt_not (lt_tru (l_call (ok_a_program C) (ar_sealed ar_fn) (hr.mono (by decide)) hG (by rfl) C.m_a_program C.F_a_program.kp (bi_a_program C.F_a_program) rfl (la_cons (l_var 0) la_nil)))) (ls_cons ls_stuck ls_nil) ls_nil) ls_nil)
theorem ok_need_program (C : Facts w K mg) : FnG P w K mg base 8 C.a_need_program C.fd_need_program P_need_program (spOf K 1 (Com.c_need_program fu)) := (oku_need_program C).sealed
theorem oku_a_row (C : Facts w K mg) : FnG P w K mg base 5 C.a_a_row C.fd_a_row P_a_row (spOf K 2 (Com.u_a_row fu)) := fn_g C.F_a_row sc_a_row fun cdv A outer s H hr hG => by
  have nd := sc_a_row.nd
  exact (ls_cons (ls_ret (l_call (ok_some_ranges C) (ar_sealed ar_fn) (hr.mono (by decide)) hG (by rfl) C.m_some_ranges C.F_some_ranges.kp (bi_some_ranges C.F_some_ranges) rfl (la_cons (l_ix (l_var 0) l_int) (la_cons (l_var 1) la_nil)))) ls_nil)
theorem ok_a_row (C : Facts w K mg) : FnG P w K mg base 5 C.a_a_row C.fd_a_row P_a_row (spOf K 2 (Com.c_a_row fu)) := (oku_a_row C).sealed
theorem oku_need_row (C : Facts w K mg) : FnG P w K mg base 6 C.a_need_row C.fd_need_row P_need_row (spOf K 2 (Com.u_need_row fu)) := fn_g C.F_need_row sc_need_row fun cdv A outer s H hr hG => by
  have nd := sc_need_row.nd
  exact (ls_cons (ls_if (lt_not (lt_tru (l_call (ok_a_row C) (ar_sealed ar_fn) (hr.mono (by decide)) hG (by rfl) C.m_a_row C.F_a_row.kp (bi_a_row C.F_a_row) rfl (la_cons (l_var 0) (la_cons (l_var 1) la_nil))))) (ls_cons ls_stuck ls_nil) ls_nil) ls_nil)
theorem ok_need_row (C : Facts w K mg) : FnG P w K mg base 6 C.a_need_row C.fd_need_row P_need_row (spOf K 2 (Com.c_need_row fu)) := (oku_need_row C).sealed
theorem oku__need_rows (C : Facts w K mg) : FnG P w K mg base 9 C.a__need_rows C.fd__need_rows P__need_rows (spOf K 3 (Com.u__need_rows fu)) := fn_g C.F__need_rows sc__need_rows fun cdv A outer s H hr hG => by
  have nd := sc__need_rows.nd
  exact (ls_cons (ls_expr (l_call (ok_need_program C) (ar_sealed ar_fn) (hr.mono (by decide)) hG (by rfl) C.m_need_program C.F_need_program.kp (bi_need_program C.F_need_program) rfl (la_cons (l_var 0) la_nil))) (ls_cons (ls_expr (l_call (ok_need_row C) (ar_sealed ar_fn) (hr.mono (by decide)) hG (by rfl) C.m_need_row C.F_need_row.kp (bi_need_row C.F_need_row) rfl (la_cons (l_var 0) (la_cons (l_var 1) la_nil)))) (ls_cons (ls_expr (l_call (ok_need_row C) (ar_sealed ar_fn) (hr.mono (by decide)) hG (by rfl) C.m_need_row C.F_need_row.kp (bi_need_row C.F_need_row) rfl (la_cons (l_var 0) (la_cons (l_var 2) la_nil)))) ls_nil)))
theorem ok__need_rows (C : Facts w K mg) : FnG P w K mg base 9 C.a__need_rows C.fd__need_rows P__need_rows (spOf K 3 (Com.c__need_rows fu)) := (oku__need_rows C).sealed
theorem oku__greater_high (C : Facts w K mg) : FnG P w K mg base 1 C.a__greater_high C.fd__greater_high P__greater_high (spOf K 2 (Com.u__greater_high fu)) := fn_g C.F__greater_high sc__greater_high fun cdv A outer s H hr hG => by
  have nd := sc__greater_high.nd
  exact (ls_cons (ls_ret (l_if (PW.pt (lw_or (lt_cmp op_isN ok_isN (l_var 0) l_non (nomark _)) (lw_or1 (lt_cmp op_isN ok_isN (l_var 1) l_non (nomark _))))) l_non (l_callB (call_max2 rfl) ok_max (by rfl) C.z_max (by decide +kernel) (la_cons (l_var 0) (la_cons (l_var 1) la_nil))))) ls_nil)
theorem ok__greater_high (C : Facts w K mg) : FnG P w K mg base 1 C.a__greater_high C.fd__greater_high P__greater_high (spOf K 2 (Com.c__greater_high fu)) := (oku__greater_high C).sealed
theorem oku__lesser_low (C : Facts w K mg) : FnG P w K mg base 1 C.a__lesser_low C.fd__lesser_low P__lesser_low (spOf K 2 (Com.u__lesser_low fu)) := fn_g C.F__lesser_low sc__lesser_low fun cdv A outer s H hr hG => by
  have nd := sc__lesser_low.nd
  exact (ls_cons (ls_ret (l_if (PW.pt (lw_or (lt_cmp op_isN ok_isN (l_var 0) l_non (nomark _)) (lw_or1 (lt_cmp op_isN ok_isN (l_var 1) l_non (nomark _))))) l_non (l_callB (call_min2 rfl) ok_min (by rfl) C.z_min (by decide +kernel) (la_cons (l_var 0) (la_cons (l_var 1) la_nil))))) ls_nil)
theorem ok__lesser_low (C : Facts w K mg) : FnG P w K mg base 1 C.a__lesser_low C.fd__lesser_low P__lesser_low (spOf K 2 (Com.c__lesser_low fu)) := (oku__lesser_low C).sealed
theorem oku_joined (C : Facts w K mg) : FnG P w K mg base 2 C.a_joined C.fd_joined P_joined (spOf K 2 (Com.u_joined fu)) := fn_g C.F_joined sc_joined fun cdv A outer s H hr hG => by
  have nd := sc_joined.nd
  exact (ls_cons (ls_ret (l_tup (la_cons (l_call (ok__lesser_low C) (ar_sealed ar_fn) (hr.mono (by decide)) hG (by rfl) C.m__lesser_low C.F__lesser_low.kp (bi__lesser_low C.F__lesser_low) rfl (la_cons (l_ix (l_var 0) l_int) (la_cons (l_ix (l_var 1) l_int) la_nil))) (la_cons (l_call (ok__greater_high C) (ar_sealed ar_fn) (hr.mono (by decide)) hG (by rfl) C.m__greater_high C.F__greater_high.kp (bi__greater_high C.F__greater_high) rfl (la_cons (l_ix (l_var 0) l_int) (la_cons (l_ix (l_var 1) l_int) la_nil))) la_nil)))) ls_nil)
theorem ok_joined (C : Facts w K mg) : FnG P w K mg base 2 C.a_joined C.fd_joined P_joined (spOf K 2 (Com.c_joined fu)) := (oku_joined C).sealed
theorem oku_joined_rows (C : Facts w K mg) : FnG P w K mg base 3 C.a_joined_rows C.fd_joined_rows P_joined_rows (spOf K 2 (Com.u_joined_rows fu)) := fn_g C.F_joined_rows sc_joined_rows fun cdv A outer s H hr hG => by
  have nd := sc_joined_rows.nd
  exact (ls_cons (ls_ret (l_lc fu (own := [("span", 2), ("beside", 3)]) rfl nd (li_zipA (by rfl) C.z_zip (la_cons (l_var 0) (la_cons (l_var 1) la_nil))) (blkOk_by (by kernel_rfl)) (by decide) (fun _ _ _ _ _ => (lg_tp rfl (lgs_cons (lg_nm 2 nd) (lgs_cons (lg_nm 3 nd) lgs_nil)))) (fun _ _ _ _ _ => lp_nil) (fun _ _ _ _ _ => (l_call (ok_joined C) (ar_sealed ar_fn) (hr.mono (by decide)) hG (by rfl) C.m_joined C.F_joined.kp (bi_joined C.F_joined) rfl (la_cons (l_var 2) (la_cons (l_var 3) la_nil)))))) ls_nil)
theorem ok_joined_rows (C : Facts w K mg) : FnG P w K mg base 3 C.a_joined_rows C.fd_joined_rows P_joined_rows (spOf K 2 (Com.c_joined_rows fu)) := (oku_joined_rows C).sealed
theorem okuw_joined_rows (C : Facts w K mg) : FnG P w K mg base 3 C.a_joined_rows C.fd_joined_rows P_joined_rows (spOf K 2 (uw_joined_rows fu)) := fn_g C.F_joined_rows sc_joined_rows fun cdv A outer s H hr hG => by
  have nd := sc_joined_rows.nd
  exact (ls_cons (ls_ret (l_lc fu (own := [("span", 2), ("beside", 3)]) rfl nd (li_zipA (by rfl) C.z_zip (la_cons (l_var 0) (la_cons (l_var 1) la_nil))) (blkOk_by (by kernel_rfl)) (by decide) (fun _ _ _ _ _ => (lg_tp rfl (lgs_cons (lg_nm 2 nd) (lgs_cons (lg_nm 3 nd) lgs_nil)))) (fun _ _ _ _ _ => lp_nil) (fun _ _ _ _ _ => (l_call (ok_joined C) (ar_sealed ar_fn) (hr.mono (by decide)) hG (by rfl) C.m_joined C.F_joined.kp (bi_joined C.F_joined) rfl (la_cons (l_var 2) (la_cons (l_var 3) la_nil)))))) ls_nil)
theorem okw_joined_rows (C : Facts w K mg) : FnG P w K mg base 3 C.a_joined_rows C.fd_joined_rows P_joined_rows (spOf K 2 (w_joined_rows fu)) := (okuw_joined_rows C).sealedW
theorem oku_row_joined (C : Facts w K mg) : FnG P w K mg base 10 C.a_row_joined C.fd_row_joined P_row_joined (spOf K 3 (Com.u_row_joined fu)) := fn_g C.F_row_joined sc_row_joined fun cdv A outer s H hr hG => by
  have nd := sc_row_joined.nd
  exact (ls_cons (ls_expr (l_call (ok__need_rows C) (ar_sealed ar_fn) (hr.mono (by decide)) hG (by rfl) C.m__need_rows C.F__need_rows.kp (bi__need_rows C.F__need_rows) rfl (la_cons (l_var 0) (la_cons (l_var 1) (la_cons (l_var 2) la_nil))))) (ls_cons (ls_ret (l_call (ok_joined_rows C) (ar_sealed ar_fn) (hr.mono (by decide)) hG (by rfl) C.m_joined_rows C.F_joined_rows.kp (bi_joined_rows C.F_joined_rows) rfl (la_cons (l_var 1) (la_cons (l_var 2) la_nil)))) ls_nil))
theorem ok_row_joined (C : Facts w K mg) : FnG P w K mg base 10 C.a_row_joined C.fd_row_joined P_row_joined (spOf K 3 (Com.c_row_joined fu)) := (oku_row_joined C).sealed
theorem okuw_row_joined (C : Facts w K mg) : FnG P w K mg base 10 C.a_row_joined C.fd_row_joined P_row_joined (spOf K 3 (uw_row_joined fu)) := fn_g C.F_row_joined sc_row_joined fun cdv A outer s H hr hG => by
  have nd := sc_row_joined.nd
  exact (ls_cons (ls_expr (l_call (ok__need_rows C) (ar_sealed ar_fn) (hr.mono (by decide)) hG (by rfl) C.m__need_rows C.F__need_rows.kp (bi__need_rows C.F__need_rows) rfl (la_cons (l_var 0) (la_cons (l_var 1) (la_cons (l_var 2) la_nil))))) (ls_cons (ls_ret (l_call (okw_joined_rows C) (ar_sealedW ar_fn) (hr.mono (by decide)) hG (by rfl) C.m_joined_rows C.F_joined_rows.kp (bi_joined_rows C.F_joined_rows) rfl (la_cons (l_var 1) (la_cons (l_var 2) la_nil)))) ls_nil))
theorem okw_row_joined (C : Facts w K mg) : FnG P w K mg base 10 C.a_row_joined C.fd_row_joined P_row_joined (spOf K 3 (w_row_joined fu)) := (okuw_row_joined C).sealedW
theorem oku__greater_low (C : Facts w K mg) : FnG P w K mg base 1 C.a__greater_low C.fd__greater_low P__greater_low (spOf K 2 (Com.u__greater_low fu)) := fn_g C.F__greater_low sc__greater_low fun cdv A outer s H hr hG => by
  have nd := sc__greater_low.nd
  exact (ls_cons (ls_if (PW.pt (lw_or (lt_cmp op_isN ok_isN (l_var 0) l_non (nomark _)) (lw_or1 (lt_cmp op_isN ok_isN (l_var 1) l_non (nomark _))))) (ls_cons (ls_ret (l_if (lt_cmp op_isN ok_isN (l_var 0) l_non (nomark _)) (l_var 1) (l_var 0))) ls_nil) ls_nil) (ls_cons (ls_ret (l_callB (call_max2 rfl) ok_max (by rfl) C.z_max (by decide +kernel) (la_cons (l_var 0) (la_cons (l_var 1) la_nil)))) ls_nil))
theorem ok__greater_low (C : Facts w K mg) : FnG P w K mg base 1 C.a__greater_low C.fd__greater_low P__greater_low (spOf K 2 (Com.c__greater_low fu)) := (oku__greater_low C).sealed
theorem oku__lesser_high (C : Facts w K mg) : FnG P w K mg base 1 C.a__lesser_high C.fd__lesser_high P__lesser_high (spOf K 2 (Com.u__lesser_high fu)) := fn_g C.F__lesser_high sc__lesser_high fun cdv A outer s H hr hG => by
  have nd := sc__lesser_high.nd
  exact (ls_cons (ls_if (PW.pt (lw_or (lt_cmp op_isN ok_isN (l_var 0) l_non (nomark _)) (lw_or1 (lt_cmp op_isN ok_isN (l_var 1) l_non (nomark _))))) (ls_cons (ls_ret (l_if (lt_cmp op_isN ok_isN (l_var 0) l_non (nomark _)) (l_var 1) (l_var 0))) ls_nil) ls_nil) (ls_cons (ls_ret (l_callB (call_min2 rfl) ok_min (by rfl) C.z_min (by decide +kernel) (la_cons (l_var 0) (la_cons (l_var 1) la_nil)))) ls_nil))
theorem ok__lesser_high (C : Facts w K mg) : FnG P w K mg base 1 C.a__lesser_high C.fd__lesser_high P__lesser_high (spOf K 2 (Com.c__lesser_high fu)) := (oku__lesser_high C).sealed
theorem oku_met (C : Facts w K mg) : FnG P w K mg base 2 C.a_met C.fd_met P_met (spOf K 2 (Com.u_met fu)) := fn_g C.F_met sc_met fun cdv A outer s H hr hG => by
  have nd := sc_met.nd
  exact (ls_cons (ls_set 2 nd (l_call (ok__greater_low C) (ar_sealed ar_fn) (hr.mono (by decide)) hG (by rfl) C.m__greater_low C.F__greater_low.kp (bi__greater_low C.F__greater_low) rfl (la_cons (l_ix (l_var 0) l_int) (la_cons (l_ix (l_var 1) l_int) la_nil)))) (ls_cons (ls_set 3 nd (l_call (ok__lesser_high C) (ar_sealed ar_fn) (hr.mono (by decide)) hG (by rfl) C.m__lesser_high C.F__lesser_high.kp (bi__lesser_high C.F__lesser_high) rfl (la_cons (l_ix (l_var 0) l_int) (la_cons (l_ix (l_var 1) l_int) la_nil)))) (ls_cons (ls_if (PW.pt (lw_and (lt_cmp op_notN ok_notN (l_var 2) l_non (nomark _)) (lw_and (lt_cmp op_notN ok_notN (l_var 3) l_non (nomark _)) (lw_and1 (lt_cmp op_gt2 ok_cmp2 (l_var 2) (l_var 3) (nomark _)))))) (ls_cons (ls_ret l_non) ls_nil) ls_nil) (ls_cons (ls_ret (l_tup (la_cons (l_var 2) (la_cons (l_var 3) la_nil)))) ls_nil))))
theorem ok_met (C : Facts w K mg) : FnG P w K mg base 2 C.a_met C.fd_met P_met (spOf K 2 (Com.c_met fu)) := (oku_met C).sealed
theorem oku_met_rows (C : Facts w K mg) : FnG P w K mg base 3 C.a_met_rows C.fd_met_rows P_met_rows (spOf K 2 (Com.u_met_rows fu)) := fn_g C.F_met_rows sc_met_rows fun cdv A outer s H hr hG => by
  have nd := sc_met_rows.nd
  exact (ls_cons (ls_setLc fu 2 (own := [("span", 3), ("beside", 4)]) rfl nd (li_zipA (by rfl) C.z_zip (la_cons (l_var 0) (la_cons (l_var 1) la_nil))) (blkOk_by (by kernel_rfl)) (by decide) (fun _ _ _ _ _ => (lg_tp rfl (lgs_cons (lg_nm 3 nd) (lgs_cons (lg_nm 4 nd) lgs_nil)))) (fun _ _ _ _ _ => lp_nil) (fun _ _ _ _ _ => (l_call (ok_met C) (ar_sealed ar_fn) (hr.mono (by decide)) hG (by rfl) C.m_met C.F_met.kp (bi_met C.F_met) rfl (la_cons (l_var 3) (la_cons (l_var 4) la_nil)))) rfl rfl (sw_true rfl rfl rfl (by decide +kernel))) (ls_cons (ls_ret (l_if (lt_cmp (op_in2 hr.units1) ok_in2 l_non (l_var 2) (by with_unfolding_all rfl)) l_non (l_var 2))) ls_nil))
theorem ok_met_rows (C : Facts w K mg) : FnG P w K mg base 3 C.a_met_rows C.fd_met_rows P_met_rows (spOf K 2 (Com.c_met_rows fu)) := (oku_met_rows C).sealed
theorem okuw_met_rows (C : Facts w K mg) : FnG P w K mg base 3 C.a_met_rows C.fd_met_rows P_met_rows (spOf K 2 (uw_met_rows fu)) := fn_g C.F_met_rows sc_met_rows fun cdv A outer s H hr hG => by
  have nd := sc_met_rows.nd
  exact (ls_cons (ls_setLc fu 2 (own := [("span", 3), ("beside", 4)]) rfl nd (li_zipA (by rfl) C.z_zip (la_cons (l_var 0) (la_cons (l_var 1) la_nil))) (blkOk_by (by kernel_rfl)) (by decide) (fun _ _ _ _ _ => (lg_tp rfl (lgs_cons (lg_nm 3 nd) (lgs_cons (lg_nm 4 nd) lgs_nil)))) (fun _ _ _ _ _ => lp_nil) (fun _ _ _ _ _ => (l_call (ok_met C) (ar_sealed ar_fn) (hr.mono (by decide)) hG (by rfl) C.m_met C.F_met.kp (bi_met C.F_met) rfl (la_cons (l_var 3) (la_cons (l_var 4) la_nil)))) rfl rfl (sw_true rfl rfl rfl (by decide +kernel))) (ls_cons (ls_ret (l_if (lt_cmp (op_in2 hr.units1) ok_in2 l_non (l_var 2) (by with_unfolding_all rfl)) l_non (l_var 2))) ls_nil))
theorem okw_met_rows (C : Facts w K mg) : FnG P w K mg base 3 C.a_met_rows C.fd_met_rows P_met_rows (spOf K 2 (w_met_rows fu)) := (okuw_met_rows C).sealedW
theorem oku_row_met (C : Facts w K mg) : FnG P w K mg base 10 C.a_row_met C.fd_row_met P_row_met (spOf K 3 (Com.u_row_met fu)) := fn_g C.F_row_met sc_row_met fun cdv A outer s H hr hG => by
  have nd := sc_row_met.nd
  exact (ls_cons (ls_expr (l_call (ok__need_rows C) (ar_sealed ar_fn) (hr.mono (by decide)) hG (by rfl) C.m__need_rows C.F__need_rows.kp (bi__need_rows C.F__need_rows) rfl (la_cons (l_var 0) (la_cons (l_var 1) (la_cons (l_var 2) la_nil))))) (ls_cons (ls_ret (l_call (ok_met_rows C) (ar_sealed ar_fn) (hr.mono (by decide)) hG (by rfl) C.m_met_rows C.F_met_rows.kp (bi_met_rows C.F_met_rows) rfl (la_cons (l_var 1) (la_cons (l_var 2) la_nil)))) ls_nil))
theorem ok_row_met (C : Facts w K mg) : FnG P w K mg base 10 C.a_row_met C.fd_row_met P_row_met (spOf K 3 (Com.c_row_met fu)) := (oku_row_met C).sealed
theorem okuw_row_met (C : Facts w K mg) : FnG P w K mg base 10 C.a_row_met C.fd_row_met P_row_met (spOf K 3 (uw_row_met fu)) := fn_g C.F_row_met sc_row_met fun cdv A outer s H hr hG => by
  have nd := sc_row_met.nd
  exact (ls_cons (ls_expr (l_call (ok__need_rows C) (ar_sealed ar_fn) (hr.mono (by decide)) hG (by rfl) C.m__need_rows C.F__need_rows.kp (bi__need_rows C.F__need_rows) rfl (la_cons (l_var 0) (la_cons (l_var 1) (la_cons (l_var 2) la_nil))))) (ls_cons (ls_ret (l_call (okw_met_rows C) (ar_sealedW ar_fn) (hr.mono (by decide)) hG (by rfl) C.m_met_rows C.F_met_rows.kp (bi_met_rows C.F_met_rows) rfl (la_cons (l_var 1) (la_cons (l_var 2) la_nil)))) ls_nil))
theorem okw_row_met (C : Facts w K mg) : FnG P w K mg base 10 C.a_row_met C.fd_row_met P_row_met (spOf K 3 (w_row_met fu)) := (okuw_row_met C).sealedW
theorem oku_lies_within (C : Facts w K mg) : FnG P w K mg base 1 C.a_lies_within C.fd_lies_within P_lies_within (spOf K 2 (Com.u_lies_within fu)) := fn_g C.F_lies_within sc_lies_within fun cdv A outer s H hr hG => by
  have nd := sc_lies_within.nd
  exact (ls_cons (ls_asg (l_var 1) (lg_tp rfl (lgs_cons (lg_nm 2 nd) (lgs_cons (lg_nm 3 nd) lgs_nil)))) (ls_cons (ls_if (PW.pt (lw_and (lt_cmp op_notN ok_notN (l_var 2) l_non (nomark _)) (lw_and1 (PW.pt (lw_or (lt_cmp op_isN ok_isN (l_ix (l_var 0) l_int) l_non (nomark _)) (lw_or1 (lt_cmp op_lt2 ok_cmp2 (l_ix (l_var 0) l_int) (l_var 2) (nomark _)))))))) (ls_cons (ls_ret l_bl) ls_nil) ls_nil) (ls_cons (ls_ret (l_or (l_cmp op_isN ok_isN (l_var 3) l_non (nomark _)) (l_one (l_and (l_cmp op_notN ok_notN (l_ix (l_var 0) l_int) l_non (nomark _)) (l_one (l_cmp op_le2 ok_cmp2 (l_ix (l_var 0) l_int) (l_var 3) (nomark _))))))) ls_nil)))
theorem ok_lies_within (C : Facts w K mg) : FnG P w K mg base 1 C.a_lies_within C.fd_lies_within P_lies_within (spOf K 2 (Com.c_lies_within fu)) := (oku_lies_within C).sealed
theorem oku_within_row (C : Facts w K mg) : FnG P w K mg base 2 C.a_within_row C.fd_within_row P_within_row (spOf K 2 (Com.u_within_row fu)) := fn_g C.F_within_row sc_within_row fun cdv A outer s H hr hG => by
  have nd := sc_within_row.nd
  exact (ls_cons (ls_ret (l_callB (cr_all rfl) ok_bools (by rfl) C.z_all (by decide +kernel) (la_cons (l_lc fu (own := [("span", 2), ("beside", 3)]) rfl nd (li_zipA (by rfl) C.z_zip (la_cons (l_var 0) (la_cons (l_var 1) la_nil))) (blkOk_by (by kernel_rfl)) (by decide) (fun _ _ _ _ _ => (lg_tp rfl (lgs_cons (lg_nm 2 nd) (lgs_cons (lg_nm 3 nd) lgs_nil)))) (fun _ _ _ _ _ => lp_nil) (fun _ _ _ _ _ => (l_call (ok_lies_within C) (ar_sealed ar_fn) (hr.mono (by decide)) hG (by rfl) C.m_lies_within C.F_lies_within.kp (bi_lies_within C.F_lies_within) rfl (la_cons (l_var 2) (la_cons (l_var 3) la_nil))))) la_nil))) ls_nil)
theorem ok_within_row (C : Facts w K mg) : FnG P w K mg base 2 C.a_within_row C.fd_within_row P_within_row (spOf K 2 (Com.c_within_row fu)) := (oku_within_row C).sealed
theorem oku_row_within (C : Facts w K mg) : FnG P w K mg base 10 C.a_row_within C.fd_row_within P_row_within (spOf K 3 (Com.u_row_within fu)) := fn_g C.F_row_within sc_row_within fun cdv A outer s H hr hG => by
  have nd := sc_row_within.nd
  exact (ls_cons (ls_expr (l_call (ok__need_rows C) (ar_sealed ar_fn) (hr.mono (by decide)) hG (by rfl) C.m__need_rows C.F__need_rows.kp (bi__need_rows C.F__need_rows) rfl (la_cons (l_var 0) (la_cons (l_var 1) (la_cons (l_var 2) la_nil))))) (ls_cons (ls_ret (l_call (ok_within_row C) (ar_sealed ar_fn) (hr.mono (by decide)) hG (by rfl) C.m_within_row C.F_within_row.kp (bi_within_row C.F_within_row) rfl (la_cons (l_var 1) (la_cons (l_var 2) la_nil)))) ls_nil))
theorem ok_row_within (C : Facts w K mg) : FnG P w K mg base 10 C.a_row_within C.fd_row_within P_row_within (spOf K 3 (Com.c_row_within fu)) := (oku_row_within C).sealed
theorem oku_a_table (C : Facts w K mg) : FnG P w K mg base 6 C.a_a_table C.fd_a_table P_a_table (spOf K 2 (Com.u_a_table fu)) := fn_g C.F_a_table sc_a_table fun cdv A outer s H hr hG => by
  have nd := sc_a_table.nd
  exact (ls_cons (ls_if (PW.pt (lw_or (lt_not (lt_tru (l_callB call_isi ok_isi (by rfl) C.z_isinstance (by decide +kernel) (la_cons (l_var 1) (la_cons (l_ty (by rfl) C.z_list (by decide +kernel)) la_nil))))) (lw_or1 (lt_cmp (op_neA hr.units) ok_nev (l_callB cr_len ok_len (by rfl) C.z_len (by decide +kernel) (la_cons (l_var 1) la_nil)) (l_ix (l_var 0) l_int) (nomark _))))) (ls_cons (ls_ret l_bl) ls_nil) ls_nil) (ls_cons (ls_ret (l_callB (cr_all rfl) ok_bools (by rfl) C.z_all (by decide +kernel) (la_cons (l_lc fu (own := [("row", 2)]) rfl nd (li_any (l_var 1)) (blkOk_by (by kernel_rfl)) (by decide) (fun _ _ _ _ _ => (lg_nm 2 nd)) (fun _ _ _ _ _ => lp_nil) (fun _ _ _ _ _ => (l_or (l_cmp op_isN ok_isN (l_var 2) l_non (nomark _)) (l_one (l_call (ok_a_row C) (ar_sealed ar_fn) (hr.mono (by decide)) hG (by rfl) C.m_a_row C.F_a_row.kp (bi_a_row C.F_a_row) rfl (la_cons (l_var 0) (la_cons (l_var 2) la_nil))))))) la_nil))) ls_nil))
theorem ok_a_table (C : Facts w K mg) : FnG P w K mg base 6 C.a_a_table C.fd_a_table P_a_table (spOf K 2 (Com.c_a_table fu)) := (oku_a_table C).sealed
theorem oku_need_table (C : Facts w K mg) : FnG P w K mg base 7 C.a_need_table C.fd_need_table P_need_table (spOf K 2 (Com.u_need_table fu)) := fn_g C.F_need_table sc_need_table fun cdv A outer s H hr hG => by
  have nd := sc_need_table.nd
  exact (ls_cons (ls_if (lt_not (lt_tru (l_call (ok_a_table C) (ar_sealed ar_fn) (hr.mono (by decide)) hG (by rfl) C.m_a_table C.F_a_table.kp (bi_a_table C.F_a_table) rfl (la_cons (l_var 0) (la_cons (l_var 1) la_nil))))) (ls_cons ls_stuck ls_nil) ls_nil) ls_nil)
theorem ok_need_table (C : Facts w K mg) : FnG P w K mg base 7 C.a_need_table C.fd_need_table P_need_table (spOf K 2 (Com.c_need_table fu)) := (oku_need_table C).sealed
theorem oku__need_tables (C : Facts w K mg) : FnG P w K mg base 9 C.a__need_tables C.fd__need_tables P__need_tables (spOf K 3 (Com.u__need_tables fu)) := fn_g C.F__need_tables sc__need_tables fun cdv A outer s H hr hG => by
  have nd := sc__need_tables.nd
  exact (ls_cons (ls_expr (l_call (ok_need_program C) (ar_sealed ar_fn) (hr.mono (by decide)) hG (by rfl) C.m_need_program C.F_need_program.kp (bi_need_program C.F_need_program) rfl (la_cons (l_var 0) la_nil))) (ls_cons (ls_expr (l_call (ok_need_table C) (ar_sealed ar_fn) (hr.mono (by decide)) hG (by rfl) C.m_need_table C.F_need_table.kp (bi_need_table C.F_need_table) rfl (la_cons (l_var 0) (la_cons (l_var 1) la_nil)))) (ls_cons (ls_expr (l_call (ok_need_table C) (ar_sealed ar_fn) (hr.mono (by decide)) hG (by rfl) C.m_need_table C.F_need_table.kp (bi_need_table C.F_need_table) rfl (la_cons (l_var 0) (la_cons (l_var 2) la_nil)))) ls_nil)))
theorem ok__need_tables (C : Facts w K mg) : FnG P w K mg base 9 C.a__need_tables C.fd__need_tables P__need_tables (spOf K 3 (Com.c__need_tables fu)) := (oku__need_tables C).sealed
theorem okuw_copied_row (C : Facts w K mg) : FnG P w K mg base 1 C.a_copied_row C.fd_copied_row P_copied_row (spOf K 1 (uw_copied_row fu)) := fn_g C.F_copied_row sc_copied_row fun cdv A outer s H hr hG => by
  have nd := sc_copied_row.nd
  exact (ls_cons (ls_ret (l_if (lt_cmp op_isN ok_isN (l_var 0) l_non (nomark _)) l_non (l_callTy call_list_of ok_list (by rfl) C.z_list (by decide +kernel) (la_cons (l_var 0) la_nil)))) ls_nil)
theorem okw_copied_row (C : Facts w K mg) : FnG P w K mg base 1 C.a_copied_row C.fd_copied_row P_copied_row (spOf K 1 (w_copied_row fu)) := (okuw_copied_row C).sealedW
theorem okuw_joined_at_place (C : Facts w K mg) : FnG P w K mg base 4 C.a_joined_at_place C.fd_joined_at_place P_joined_at_place (spOf K 2 (uw_joined_at_place fu)) := fn_g C.F_joined_at_place sc_joined_at_place fun cdv A outer s H hr hG => by
  have nd := sc_joined_at_place.nd
  exact (ls_cons (ls_if (PW.pt (lw_or (lt_cmp op_isN ok_isN (l_var 0) l_non (nomark _)) (lw_or1 (lt_cmp op_isN ok_isN (l_var 1) l_non (nomark _))))) (ls_cons (ls_ret (l_call (okw_copied_row C) (ar_sealedW ar_fn) (hr.mono (by decide)) hG (by rfl) C.m_copied_row C.F_copied_row.kp (bi_copied_row C.F_copied_row) rfl (la_cons (l_if (lt_cmp op_isN ok_isN (l_var 0) l_non (nomark _)) (l_var 1) (l_var 0)) la_nil))) ls_nil) ls_nil) (ls_cons (ls_ret (l_call (okw_joined_rows C) (ar_sealedW ar_fn) (hr.mono (by decide)) hG (by rfl) C.m_joined_rows C.F_joined_rows.kp (bi_joined_rows C.F_joined_rows) rfl (la_cons (l_var 0) (la_cons (l_var 1) la_nil)))) ls_nil))
theorem okw_joined_at_place (C : Facts w K mg) : FnG P w K mg base 4 C.a_joined_at_place C.fd_joined_at_place P_joined_at_place (spOf K 2 (w_joined_at_place fu)) := (okuw_joined_at_place C).sealedW
theorem okuw_table_joined (C : Facts w K mg) : FnG P w K mg base 10 C.a_table_joined C.fd_table_joined P_table_joined (spOf K 3 (uw_table_joined fu)) := fn_g C.F_table_joined sc_table_joined fun cdv A outer s H hr hG => by
  have nd := sc_table_joined.nd
  exact (ls_cons (ls_expr (l_call (ok__need_tables C) (ar_sealed ar_fn) (hr.mono (by decide)) hG (by rfl) C.m__need_tables C.F__need_tables.kp (bi__need_tables C.F__need_tables) rfl (la_cons (l_var 0) (la_cons (l_var 1) (la_cons (l_var 2) la_nil))))) (ls_cons (ls_ret (l_lc fu (own := [("row", 3), ("beside", 4)]) rfl nd (li_zipA (by rfl) C.z_zip (la_cons (l_var 1) (la_cons (l_var 2) la_nil))) (blkOk_by (by kernel_rfl)) (by decide) (fun _ _ _ _ _ => (lg_tp rfl (lgs_cons (lg_nm 3 nd) (lgs_cons (lg_nm 4 nd) lgs_nil)))) (fun _ _ _ _ _ => lp_nil) (fun _ _ _ _ _ => (l_call (okw_joined_at_place C) (ar_sealedW ar_fn) (hr.mono (by decide)) hG (by rfl) C.m_joined_at_place C.F_joined_at_place.kp (bi_joined_at_place C.F_joined_at_place) rfl (la_cons (l_var 3) (la_cons (l_var 4) la_nil)))))) ls_nil))
theorem okw_table_joined (C : Facts w K mg) : FnG P w K mg base 10 C.a_table_joined C.fd_table_joined P_table_joined (spOf K 3 (w_table_joined fu)) := (okuw_table_joined C).sealedW
theorem okuw_met_at_place (C : Facts w K mg) : FnG P w K mg base 4 C.a_met_at_place C.fd_met_at_place P_met_at_place (spOf K 2 (uw_met_at_place fu)) := fn_g C.F_met_at_place sc_met_at_place fun cdv A outer s H hr hG => by
  have nd := sc_met_at_place.nd
  exact (ls_cons (ls_ret (l_if (PW.pt (lw_or (lt_cmp op_isN ok_isN (l_var 0) l_non (nomark _)) (lw_or1 (lt_cmp op_isN ok_isN (l_var 1) l_non (nomark _))))) l_non (l_call (okw_met_rows C) (ar_sealedW ar_fn) (hr.mono (by decide)) hG (by rfl) C.m_met_rows C.F_met_rows.kp (bi_met_rows C.F_met_rows) rfl (la_cons (l_var 0) (la_cons (l_var 1) la_nil))))) ls_nil)
theorem okw_met_at_place (C : Facts w K mg) : FnG P w K mg base 4 C.a_met_at_place C.fd_met_at_place P_met_at_place (spOf K 2 (w_met_at_place fu)) := (okuw_met_at_place C).sealedW
theorem okuw_table_met (C : Facts w K mg) : FnG P w K mg base 10 C.a_table_met C.fd_table_met P_table_met (spOf K 3 (uw_table_met fu)) := fn_g C.F_table_met sc_table_met fun cdv A outer s H hr hG => by
  have nd := sc_table_met.nd
  exact (ls_cons (ls_expr (l_call (ok__need_tables C) (ar_sealed ar_fn) (hr.mono (by decide)) hG (by rfl) C.m__need_tables C.F__need_tables.kp (bi__need_tables C.F__need_tables) rfl (la_cons (l_var 0) (la_cons (l_var 1) (la_cons (l_var 2) la_nil))))) (ls_cons (ls_ret (l_lc fu (own := [("row", 3), ("beside", 4)]) rfl nd (li_zipA (by rfl) C.z_zip (la_cons (l_var 1) (la_cons (l_var 2) la_nil))) (blkOk_by (by kernel_rfl)) (by decide) (fun _ _ _ _ _ => (lg_tp rfl (lgs_cons (lg_nm 3 nd) (lgs_cons (lg_nm 4 nd) lgs_nil)))) (fun _ _ _ _ _ => lp_nil) (fun _ _ _ _ _ => (l_call (okw_met_at_place C) (ar_sealedW ar_fn) (hr.mono (by decide)) hG (by rfl) C.m_met_at_place C.F_met_at_place.kp (bi_met_at_place C.F_met_at_place) rfl (la_cons (l_var 3) (la_cons (l_var 4) la_nil)))))) ls_nil))
theorem okw_table_met (C : Facts w K mg) : FnG P w K mg base 10 C.a_table_met C.fd_table_met P_table_met (spOf K 3 (w_table_met fu)) := (okuw_table_met C).sealedW
theorem oku_within_at_place (C : Facts w K mg) : FnG P w K mg base 3 C.a_within_at_place C.fd_within_at_place P_within_at_place (spOf K 2 (Com.u_within_at_place fu)) := fn_g C.F_within_at_place sc_within_at_place fun cdv A outer s H hr hG => by
  have nd := sc_within_at_place.nd
  exact (ls_cons (ls_ret (l_or (l_cmp op_isN ok_isN (l_var 0) l_non (nomark _)) (l_one (l_and (l_cmp op_notN ok_notN (l_var 1) l_non (nomark _)) (l_one (l_call (ok_within_row C) (ar_sealed ar_fn) (hr.mono (by decide)) hG (by rfl) C.m_within_row C.F_within_row.kp (bi_within_row C.F_within_row) rfl (la_cons (l_var 0) (la_cons (l_var 1) la_nil)))))))) ls_nil)
theorem ok_within_at_place (C : Facts w K mg) : FnG P w K mg base 3 C.a_within_at_place C.fd_within_at_place P_within_at_place (spOf K 2 (Com.c_within_at_place fu)) := (oku_within_at_place C).sealed
theorem oku_within_table (C : Facts w K mg) : FnG P w K mg base 4 C.a_within_table C.fd_within_table P_within_table (spOf K 2 (Com.u_within_table fu)) := fn_g C.F_within_table sc_within_table fun cdv A outer s H hr hG => by
  have nd := sc_within_table.nd
  exact (ls_cons (ls_ret (l_callB (cr_all rfl) ok_bools (by rfl) C.z_all (by decide +kernel) (la_cons (l_lc fu (own := [("row", 2), ("beside", 3)]) rfl nd (li_zipA (by rfl) C.z_zip (la_cons (l_var 0) (la_cons (l_var 1) la_nil))) (blkOk_by (by kernel_rfl)) (by decide) (fun _ _ _ _ _ => (lg_tp rfl (lgs_cons (lg_nm 2 nd) (lgs_cons (lg_nm 3 nd) lgs_nil)))) (fun _ _ _ _ _ => lp_nil) (fun _ _ _ _ _ => (l_call (ok_within_at_place C) (ar_sealed ar_fn) (hr.mono (by decide)) hG (by rfl) C.m_within_at_place C.F_within_at_place.kp (bi_within_at_place C.F_within_at_place) rfl (la_cons (l_var 2) (la_cons (l_var 3) la_nil))))) la_nil))) ls_nil)
theorem ok_within_table (C : Facts w K mg) : FnG P w K mg base 4 C.a_within_table C.fd_within_table P_within_table (spOf K 2 (Com.c_within_table fu)) := (oku_within_table C).sealed
theorem oku_table_within (C : Facts w K mg) : FnG P w K mg base 10 C.a_table_within C.fd_table_within P_table_within (spOf K 3 (Com.u_table_within fu)) := fn_g C.F_table_within sc_table_within fun cdv A outer s H hr hG => by
  have nd := sc_table_within.nd
  exact (ls_cons (ls_expr (l_call (ok__need_tables C) (ar_sealed ar_fn) (hr.mono (by decide)) hG (by rfl) C.m__need_tables C.F__need_tables.kp (bi__need_tables C.F__need_tables) rfl (la_cons (l_var 0) (la_cons (l_var 1) (la_cons (l_var 2) la_nil))))) (ls_cons (ls_ret (l_call (ok_within_table C) (ar_sealed ar_fn) (hr.mono (by decide)) hG (by rfl) C.m_within_table C.F_within_table.kp (bi_within_table C.F_within_table) rfl (la_cons (l_var 1) (la_cons (l_var 2) la_nil)))) ls_nil))
theorem ok_table_within (C : Facts w K mg) : FnG P w K mg base 10 C.a_table_within C.fd_table_within P_table_within (spOf K 3 (Com.c_table_within fu)) := (oku_table_within C).sealed
theorem oku__law_right (C : Facts w K mg) : FnG P w K mg base 42 C.a__law_right C.fd__law_right P__law_right (spOf K 1 (u__law_right fu)) := fn_g C.F__law_right sc__law_right fun cdv A outer s H hr hG => by
  have nd := sc__law_right.nd
  exact (ls_cons (ls_set 1 nd (l_ix (l_lst (la_cons l_int (la_cons l_int (la_cons (l_bin op_sub ok_sub (l_bin op_powW ok_pow l_int l_int) l_int) la_nil)))) (l_call (ok__law_random C) (ar_sealed ar_fn) (hr.mono (by decide)) hG (by rfl) C.m__law_random C.F__law_random.kp (bi__law_random C.F__law_random) rfl (la_cons (l_var 0) (la_cons l_int la_nil))))) (ls_cons (ls_asg (l_tup (la_cons (l_call (ok__law_names C) (ar_sealed ar_fn) (hr.mono (by decide)) hG (by rfl) C.m__law_names C.F__law_names.kp (bi__law_names C.F__law_names) rfl (la_cons (l_var 0) (la_cons (l_bin op_addL ok_add l_int (l_call (ok__law_random C) (ar_sealed ar_fn) (hr.mono (by decide)) hG (by rfl) C.m__law_random C.F__law_random.kp (bi__law_random C.F__law_random) rfl (la_cons (l_var 0) (la_cons l_int la_nil)))) la_nil))) (la_cons (l_bin op_addL ok_add l_int (l_call (ok__law_random C) (ar_sealed ar_fn) (hr.mono (by decide)) hG (by rfl) C.m__law_random C.F__law_random.kp (bi__law_random C.F__law_random) rfl (la_cons (l_var 0) (la_cons l_int la_nil)))) la_nil))) (lg_tp rfl (lgs_cons (lg_nm 2 nd) (lgs_cons (lg_nm 3 nd) lgs_nil)))) (ls_cons (ls_set 4 nd (l_tup (la_cons (l_var 2) (la_cons (l_var 3) (la_cons (l_lc fu (own := [("name", 14)]) rfl nd (li_any (l_var 2)) (blkOk_by (by kernel_rfl)) (by decide) (fun _ _ _ _ _ => (lg_nm 14 nd)) (fun _ _ _ _ _ => lp_nil) (fun _ _ _ _ _ => (l_tup (la_cons l_int (la_cons l_int la_nil))))) (la_cons (l_lst (la_cons (l_tup (la_cons l_int (la_cons (l_bin op_sub ok_sub (l_var 3) l_int) (la_cons (l_tup (la_cons l_str la_nil)) la_nil)))) la_nil)) la_nil)))))) (ls_cons (ls_setLc fu 5 (own := [("place", 15)]) rfl nd (li_range1 (by rfl) C.z_range (la_cons (l_var 3) la_nil)) (blkOk_by (by kernel_rfl)) (by decide) (fun _ _ _ _ _ => (lg_nm 15 nd)) (fun _ _ _ _ _ => lp_nil) (fun _ _ _ _ _ => (l_lc fu (own := [("name", 14)]) rfl nd (li_any (l_var 2)) (blkOk_by (by kernel_rfl)) (by decide) (fun _ _ _ _ _ => (lg_nm 14 nd)) (fun _ _ _ _ _ => lp_nil) (fun _ _ _ _ _ => (l_call (ok__law_range C) (ar_sealed ar_fn) (hr.mono (by decide)) hG (by rfl) C.m__law_range C.F__law_range.kp (bi__law_range C.F__law_range) rfl (la_cons (l_var 0) (la_cons (l_var 1) la_nil)))))) rfl rfl (sw_true rfl rfl rfl (by decide +kernel))) (ls_cons (ls_setLc fu 6 (own := [("place", 15)]) rfl nd (li_range1 (by rfl) C.z_range (la_cons (l_var 3) la_nil)) (blkOk_by (by kernel_rfl)) (by decide) (fun _ _ _ _ _ => (lg_nm 15 nd)) (fun _ _ _ _ _ => lp_nil) (fun _ _ _ _ _ => (l_lc fu (own := [("name", 14)]) rfl nd (li_any (l_var 2)) (blkOk_by (by kernel_rfl)) (by decide) (fun _ _ _ _ _ => (lg_nm 14 nd)) (fun _ _ _ _ _ => lp_nil) (fun _ _ _ _ _ => (l_call (ok__law_range C) (ar_sealed ar_fn) (hr.mono (by decide)) hG (by rfl) C.m__law_range C.F__law_range.kp (bi__law_range C.F__law_range) rfl (la_cons (l_var 0) (la_cons (l_var 1) la_nil)))))) rfl rfl (sw_true rfl rfl rfl (by decide +kernel))) (ls_cons (ls_if (lt_cmp (op_eqA hr.units) ok_eqv (l_call (ok__law_random C) (ar_sealed ar_fn) (hr.mono (by decide)) hG (by rfl) C.m__law_random C.F__law_random.kp (bi__law_random C.F__law_random) rfl (la_cons (l_var 0) (la_cons l_int la_nil))) l_int (nomark _)) (ls_cons (ls_setLc fu 6 (own := [("row", 7)]) rfl nd (li_any (l_var 5)) (blkOk_by (by kernel_rfl)) (by decide) (fun _ _ _ _ _ => (lg_nm 7 nd)) (fun _ _ _ _ _ => lp_nil) (fun _ _ _ _ _ => (l_call (ok__law_wider C) (ar_sealed ar_fn) (hr.mono (by decide)) hG (by rfl) C.m__law_wider C.F__law_wider.kp (bi__law_wider C.F__law_wider) rfl (la_cons (l_var 0) (la_cons (l_var 7) la_nil)))) rfl rfl (sw_true rfl rfl rfl (by decide +kernel))) ls_nil) ls_nil) (ls_cons (ls_par 7 8 rfl nd (by decide) (la_cons (l_ix (l_var 5) l_int) (la_cons (l_ix (l_var 6) l_int) la_nil))) (ls_cons (ls_set 9 nd (l_callB (call_repr hG hr.units) ok_repr (by rfl) C.z_repr (by decide +kernel) (la_cons (l_lst (la_cons (l_var 4) (la_cons (l_var 7) (la_cons (l_var 8) la_nil)))) la_nil))) (ls_cons (ls_set 10 nd (l_lst (la_cons (l_call (ok_row_within C) (ar_sealed ar_fn) (hr.mono (by decide)) hG (by rfl) C.m_row_within C.F_row_within.kp (bi_row_within C.F_row_within) rfl (la_cons (l_var 4) (la_cons (l_var 7) (la_cons (l_var 8) la_nil)))) (la_cons (l_call (okw_row_joined C) (ar_sealedW ar_fn) (hr.mono (by decide)) hG (by rfl) C.m_row_joined C.F_row_joined.kp (bi_row_joined C.F_row_joined) rfl (la_cons (l_var 4) (la_cons (l_var 7) (la_cons (l_var 8) la_nil)))) (la_cons (l_call (okw_row_met C) (ar_sealedW ar_fn) (hr.mono (by decide)) hG (by rfl) C.m_row_met C.F_row_met.kp (bi_row_met C.F_row_met) rfl (la_cons (l_var 4) (la_cons (l_var 7) (la_cons (l_var 8) la_nil)))) la_nil))))) (ls_cons (ls_set 11 nd (l_lst (la_cons (l_call (ok__law_within C) (ar_sealed ar_fn) (hr.mono (by decide)) hG (by rfl) C.m__law_within C.F__law_within.kp (bi__law_within C.F__law_within) rfl (la_cons (l_var 7) (la_cons (l_var 8) la_nil))) (la_cons (l_call (ok__law_joined C) (ar_sealed ar_fn) (hr.mono (by decide)) hG (by rfl) C.m__law_joined C.F__law_joined.kp (bi__law_joined C.F__law_joined) rfl (la_cons (l_var 7) (la_cons (l_var 8) la_nil))) (la_cons (l_call (ok__law_met C) (ar_sealed ar_fn) (hr.mono (by decide)) hG (by rfl) C.m__law_met C.F__law_met.kp (bi__law_met C.F__law_met) rfl (la_cons (l_var 7) (la_cons (l_var 8) la_nil))) la_nil))))) (ls_cons (ls_set 12 nd (l_lst (la_cons (l_callK0 (ok_row_within C) (ar_sealed ar_fn) (hr.mono (by decide)) hG (by rfl) C.m_row_within C.F_row_within.kp (kb0 C.F_row_within) (lk_cons (l_var 4) (lk_cons (l_var 7) (lk_cons (l_var 8) lk_nil)))) (la_cons (l_callK0 (okw_row_joined C) (ar_sealedW ar_fn) (hr.mono (by decide)) hG (by rfl) C.m_row_joined C.F_row_joined.kp (kb1 C.F_row_joined) (lk_cons (l_var 7) (lk_cons (l_var 8) (lk_cons (l_var 4) lk_nil)))) (la_cons (l_callK0 (okw_row_met C) (ar_sealedW ar_fn) (hr.mono (by decide)) hG (by rfl) C.m_row_met C.F_row_met.kp (kb2 C.F_row_met) (lk_cons (l_var 4) (lk_cons (l_var 7) (lk_cons (l_var 8) lk_nil)))) la_nil))))) (ls_cons (ls_if (PW.pt (lw_or (lt_cmp (op_neA hr.units) ok_nev (l_callB (call_repr hG hr.units) ok_repr (by rfl) C.z_repr (by decide +kernel) (la_cons (l_var 10) la_nil)) (l_callB (call_repr hG hr.units) ok_repr (by rfl) C.z_repr (by decide +kernel) (la_cons (l_var 11) la_nil)) (nomark _)) (lw_or (lt_cmp (op_neA hr.units) ok_nev (l_callB (call_repr hG hr.units) ok_repr (by rfl) C.z_repr (by decide +kernel) (la_cons (l_var 12) la_nil)) (l_callB (call_repr hG hr.units) ok_repr (by rfl) C.z_repr (by decide +kernel) (la_cons (l_bin op_addL ok_add (l_lst (la_cons (l_call (ok__law_within C) (ar_sealed ar_fn) (hr.mono (by decide)) hG (by rfl) C.m__law_within C.F__law_within.kp (bi__law_within C.F__law_within) rfl (la_cons (l_var 8) (la_cons (l_var 7) la_nil))) la_nil)) (l_sl (l_var 11) (lo_some l_int) lo_none)) la_nil)) (nomark _)) (lw_or1 (lt_cmp (op_neA hr.units) ok_nev (l_callB (call_repr hG hr.units) ok_repr (by rfl) C.z_repr (by decide +kernel) (la_cons (l_lst (la_cons (l_var 4) (la_cons (l_var 7) (la_cons (l_var 8) la_nil)))) la_nil)) (l_var 9) (nomark _)))))) (ls_cons (ls_ret l_bl) ls_nil) ls_nil) (ls_cons (ls_if (PW.pt (lw_or (lt_not (lt_tru (l_call (ok__law_marked C) (arr__law_marked 40) (hr.mono (by decide)) hG (by rfl) C.m__law_marked C.F__law_marked.kp (bi__law_marked C.F__law_marked) rfl (la_cons (l_lst (la_cons (l_var 10) (la_cons (l_var 12) la_nil))) la_nil)))) (lw_or1 (lt_cmp (op_neA hr.units) ok_nev (l_callB (call_repr hG hr.units) ok_repr (by rfl) C.z_repr (by decide +kernel) (la_cons (l_lst (la_cons (l_var 4) (la_cons (l_var 7) (la_cons (l_var 8) la_nil)))) la_nil)) (l_var 9) (nomark _))))) (ls_cons (ls_ret l_bl) ls_nil) ls_nil) (ls_cons (ls_setLc fu 5 (own := [("item", 16)]) rfl nd (li_any (l_var 5)) (blkOk_by (by kernel_rfl)) (by decide) (fun _ _ _ _ _ => (lg_nm 16 nd)) (fun _ _ _ _ _ => lp_nil) (fun _ _ _ _ _ => (l_if (lt_cmp (op_eqA hr.units) ok_eqv (l_call (ok__law_random C) (ar_sealed ar_fn) (hr.mono (by decide)) hG (by rfl) C.m__law_random C.F__law_random.kp (bi__law_random C.F__law_random) rfl (la_cons (l_var 0) (la_cons l_int la_nil))) l_int (nomark _)) l_non (l_var 16))) rfl rfl (sw_true rfl rfl rfl (by decide +kernel))) (ls_cons (ls_setLc fu 6 (own := [("item", 16)]) rfl nd (li_any (l_var 6)) (blkOk_by (by kernel_rfl)) (by decide) (fun _ _ _ _ _ => (lg_nm 16 nd)) (fun _ _ _ _ _ => lp_nil) (fun _ _ _ _ _ => (l_if (lt_cmp (op_eqA hr.units) ok_eqv (l_call (ok__law_random C) (ar_sealed ar_fn) (hr.mono (by decide)) hG (by rfl) C.m__law_random C.F__law_random.kp (bi__law_random C.F__law_random) rfl (la_cons (l_var 0) (la_cons l_int la_nil))) l_int (nomark _)) l_non (l_var 16))) rfl rfl (sw_true rfl rfl rfl (by decide +kernel))) (ls_cons (ls_par 9 13 rfl nd (by decide) (la_cons (l_callB (call_repr hG hr.units) ok_repr (by rfl) C.z_repr (by decide +kernel) (la_cons (l_lst (la_cons (l_var 4) (la_cons (l_var 5) (la_cons (l_var 6) la_nil)))) la_nil)) (la_cons (l_lzip rfl (by rfl) C.z_list (by rfl) C.z_zip (la_cons (l_var 5) (la_cons (l_var 6) la_nil))) la_nil))) (ls_cons (ls_set 11 nd (l_lst (la_cons (l_cmp (op_eqA hr.units) ok_eqv (l_lc fu (own := [("low", 17), ("high", 18)]) rfl nd (li_any (l_var 13)) (blkOk_by (by kernel_rfl)) (by decide) (fun _ _ _ _ _ => (lg_tp rfl (lgs_cons (lg_nm 17 nd) (lgs_cons (lg_nm 18 nd) lgs_nil)))) (fun _ _ _ _ _ => (lp_one (lt_not (lt_tru (l_call (ok__law_within C) (ar_sealed ar_fn) (hr.mono (by decide)) hG (by rfl) C.m__law_within C.F__law_within.kp (bi__law_within C.F__law_within) rfl (la_cons (l_var 17) (la_cons (l_var 18) la_nil))))))) (fun _ _ _ _ _ => (l_var 17))) (l_lst la_nil) (nomark _)) (la_cons (l_lc fu (own := [("low", 17), ("high", 18)]) rfl nd (li_any (l_var 13)) (blkOk_by (by kernel_rfl)) (by decide) (fun _ _ _ _ _ => (lg_tp rfl (lgs_cons (lg_nm 17 nd) (lgs_cons (lg_nm 18 nd) lgs_nil)))) (fun _ _ _ _ _ => lp_nil) (fun _ _ _ _ _ => (l_call (ok__law_joined C) (ar_sealed ar_fn) (hr.mono (by decide)) hG (by rfl) C.m__law_joined C.F__law_joined.kp (bi__law_joined C.F__law_joined) rfl (la_cons (l_var 17) (la_cons (l_var 18) la_nil))))) (la_cons (l_lc fu (own := [("low", 17), ("high", 18)]) rfl nd (li_any (l_var 13)) (blkOk_by (by kernel_rfl)) (by decide) (fun _ _ _ _ _ => (lg_tp rfl (lgs_cons (lg_nm 17 nd) (lgs_cons (lg_nm 18 nd) lgs_nil)))) (fun _ _ _ _ _ => lp_nil) (fun _ _ _ _ _ => (l_call (ok__law_met C) (ar_sealed ar_fn) (hr.mono (by decide)) hG (by rfl) C.m__law_met C.F__law_met.kp (bi__law_met C.F__law_met) rfl (la_cons (l_var 17) (la_cons (l_var 18) la_nil))))) la_nil))))) (ls_cons (ls_set 10 nd (l_lst (la_cons (l_call (ok_table_within C) (ar_sealed ar_fn) (hr.mono (by decide)) hG (by rfl) C.m_table_within C.F_table_within.kp (bi_table_within C.F_table_within) rfl (la_cons (l_var 4) (la_cons (l_var 5) (la_cons (l_var 6) la_nil)))) (la_cons (l_call (okw_table_joined C) (ar_sealedW ar_fn) (hr.mono (by decide)) hG (by rfl) C.m_table_joined C.F_table_joined.kp (bi_table_joined C.F_table_joined) rfl (la_cons (l_var 4) (la_cons (l_var 5) (la_cons (l_var 6) la_nil)))) (la_cons (l_call (okw_table_met C) (ar_sealedW ar_fn) (hr.mono (by decide)) hG (by rfl) C.m_table_met C.F_table_met.kp (bi_table_met C.F_table_met) rfl (la_cons (l_var 4) (la_cons (l_var 5) (la_cons (l_var 6) la_nil)))) la_nil))))) (ls_cons (ls_if (PW.pt (lw_or (lt_cmp (op_neA hr.units) ok_nev (l_callB (call_repr hG hr.units) ok_repr (by rfl) C.z_repr (by decide +kernel) (la_cons (l_var 10) la_nil)) (l_callB (call_repr hG hr.units) ok_repr (by rfl) C.z_repr (by decide +kernel) (la_cons (l_var 11) la_nil)) (nomark _)) (lw_or1 (lt_cmp (op_neA hr.units) ok_nev (l_callK0 (ok_table_within C) (ar_sealed ar_fn) (hr.mono (by decide)) hG (by rfl) C.m_table_within C.F_table_within.kp (kb3 C.F_table_within) (lk_cons (l_var 4) (lk_cons (l_var 5) (lk_cons (l_var 6) lk_nil)))) (l_cmp (op_eqA hr.units) ok_eqv (l_lc fu (own := [("high", 18), ("low", 17)]) rfl nd (li_any (l_var 13)) (blkOk_by (by kernel_rfl)) (by decide) (fun _ _ _ _ _ => (lg_tp rfl (lgs_cons (lg_nm 18 nd) (lgs_cons (lg_nm 17 nd) lgs_nil)))) (fun _ _ _ _ _ => (lp_one (lt_not (lt_tru (l_call (ok__law_within C) (ar_sealed ar_fn) (hr.mono (by decide)) hG (by rfl) C.m__law_within C.F__law_within.kp (bi__law_within C.F__law_within) rfl (la_cons (l_var 17) (la_cons (l_var 18) la_nil))))))) (fun _ _ _ _ _ => (l_var 17))) (l_lst la_nil) (nomark _)) (nomark _))))) (ls_cons (ls_ret l_bl) ls_nil) ls_nil) (ls_cons (ls_if (PW.pt (lw_or (lt_not (lt_tru (l_call (ok__law_marked C) (arr__law_marked 40) (hr.mono (by decide)) hG (by rfl) C.m__law_marked C.F__law_marked.kp (bi__law_marked C.F__law_marked) rfl (la_cons (l_var 10) la_nil)))) (lw_or1 (lt_cmp (op_neA hr.units) ok_nev (l_callB (call_repr hG hr.units) ok_repr (by rfl) C.z_repr (by decide +kernel) (la_cons (l_lst (la_cons (l_var 4) (la_cons (l_var 5) (la_cons (l_var 6) la_nil)))) la_nil)) (l_var 9) (nomark _))))) (ls_cons (ls_ret l_bl) ls_nil) ls_nil) (ls_cons (ls_set 12 nd (l_lst (la_cons (l_callK0 (ok_table_within C) (ar_sealed ar_fn) (hr.mono (by decide)) hG (by rfl) C.m_table_within C.F_table_within.kp (kb3 C.F_table_within) (lk_cons (l_var 4) (lk_cons (l_var 6) (lk_cons (l_var 5) lk_nil)))) (la_cons (l_callK0 (okw_table_joined C) (ar_sealedW ar_fn) (hr.mono (by decide)) hG (by rfl) C.m_table_joined C.F_table_joined.kp (kb4 C.F_table_joined) (lk_cons (l_var 4) (lk_cons (l_var 5) (lk_cons (l_var 6) lk_nil)))) (la_cons (l_callK0 (okw_table_met C) (ar_sealedW ar_fn) (hr.mono (by decide)) hG (by rfl) C.m_table_met C.F_table_met.kp (kb5 C.F_table_met) (lk_cons (l_var 5) (lk_cons (l_var 6) (lk_cons (l_var 4) lk_nil)))) la_nil))))) (ls_cons (ls_ret (l_and (l_cmp (op_eqA hr.units) ok_eqv (l_callB (call_repr hG hr.units) ok_repr (by rfl) C.z_repr (by decide +kernel) (la_cons (l_var 12) la_nil)) (l_callB (call_repr hG hr.units) ok_repr (by rfl) C.z_repr (by decide +kernel) (la_cons (l_var 11) la_nil)) (nomark _)) (l_one (l_cmp (op_eqA hr.units) ok_eqv (l_callB (call_repr hG hr.units) ok_repr (by rfl) C.z_repr (by decide +kernel) (la_cons (l_lst (la_cons (l_var 4) (la_cons (l_var 5) (la_cons (l_var 6) la_nil)))) la_nil)) (l_var 9) (nomark _))))) ls_nil))))))))))))))))))))))
theorem ok__law_right (C : Facts w K mg) : FnG P w K mg base 42 C.a__law_right C.fd__law_right P__law_right (spOf K 1 (c__law_right fu)) := (oku__law_right C).sealed
theorem oku_law (C : Facts w K mg) : FnG P w K mg base 43 C.a_law C.fd_law P_law (spOf K 1 (u_law fu)) := fn_g C.F_law sc_law fun cdv A outer s H hr hG => by
  have nd := sc_law.nd
  exact (ls_cons (ls_for fu PassesOwn.never rfl (li_range1 (by rfl) C.z_range (la_cons l_int la_nil)) (lg_nm 1 nd) (ls_cons (ls_if (lt_not (lt_tru (l_call (ok__law_right C) (ar_sealed ar_fn) (hr.mono (by decide)) hG (by rfl) C.m__law_right C.F__law_right.kp (bi__law_right C.F__law_right) rfl (la_cons (l_call (okv__law_generator C) (ar_sealedR ar_fn) (hr.mono (by decide)) hG (by rfl) C.m__law_generator C.F__law_generator.kp (bi__law_generator C.F__law_generator) rfl (la_cons (l_var 0) (la_cons (l_var 1) la_nil))) la_nil)))) (ls_cons (ls_ret l_bl) ls_nil) ls_nil) ls_nil)) (ls_cons (ls_set 2 nd (l_tup (la_cons (l_lst (la_cons l_str (la_cons l_str la_nil))) (la_cons l_int (la_cons (l_lst (la_cons (l_tup (la_cons l_int (la_cons l_int la_nil))) (la_cons (l_tup (la_cons l_int (la_cons l_int la_nil))) la_nil))) (la_cons (l_lst la_nil) la_nil)))))) (ls_cons (ls_set 3 nd (l_lst (la_cons (l_call (ok_row_within C) (ar_sealed ar_fn) (hr.mono (by decide)) hG (by rfl) C.m_row_within C.F_row_within.kp (bi_row_within C.F_row_within) rfl (la_cons (l_var 2) (la_cons (l_lst (la_cons (l_tup (la_cons l_int (la_cons l_int la_nil))) (la_cons (l_tup (la_cons l_int (la_cons l_int la_nil))) la_nil))) (la_cons (l_lst (la_cons (l_tup (la_cons l_int (la_cons l_non la_nil))) (la_cons (l_tup (la_cons l_int (la_cons l_int la_nil))) la_nil))) la_nil)))) (la_cons (l_call (ok_row_joined C) (ar_sealed ar_fn) (hr.mono (by decide)) hG (by rfl) C.m_row_joined C.F_row_joined.kp (bi_row_joined C.F_row_joined) rfl (la_cons (l_var 2) (la_cons (l_lst (la_cons (l_tup (la_cons l_int (la_cons l_int la_nil))) (la_cons (l_tup (la_cons l_int (la_cons l_int la_nil))) la_nil))) (la_cons (l_lst (la_cons (l_tup (la_cons l_int (la_cons l_int la_nil))) (la_cons (l_tup (la_cons l_int (la_cons l_int la_nil))) la_nil))) la_nil)))) (la_cons (l_call (ok_row_met C) (ar_sealed ar_fn) (hr.mono (by decide)) hG (by rfl) C.m_row_met C.F_row_met.kp (bi_row_met C.F_row_met) rfl (la_cons (l_var 2) (la_cons (l_lst (la_cons (l_tup (la_cons l_int (la_cons l_int la_nil))) (la_cons (l_tup (la_cons l_int (la_cons l_int la_nil))) la_nil))) (la_cons (l_lst (la_cons (l_tup (la_cons l_int (la_cons l_int la_nil))) (la_cons (l_tup (la_cons l_int (la_cons l_int la_nil))) la_nil))) la_nil)))) la_nil))))) (ls_cons (ls_set 3 nd (l_bin op_addL ok_add (l_var 3) (l_lst (la_cons (l_call (ok_row_met C) (ar_sealed ar_fn) (hr.mono (by decide)) hG (by rfl) C.m_row_met C.F_row_met.kp (bi_row_met C.F_row_met) rfl (la_cons (l_var 2) (la_cons (l_lst (la_cons (l_tup (la_cons l_int (la_cons l_int la_nil))) (la_cons (l_tup (la_cons l_int (la_cons l_int la_nil))) la_nil))) (la_cons (l_lst (la_cons (l_tup (la_cons l_int (la_cons l_int la_nil))) (la_cons (l_tup (la_cons l_int (la_cons l_int la_nil))) la_nil))) la_nil)))) (la_cons (l_call (ok_table_within C) (ar_sealed ar_fn) (hr.mono (by decide)) hG (by rfl) C.m_table_within C.F_table_within.kp (bi_table_within C.F_table_within) rfl (la_cons (l_var 2) (la_cons (l_lst (la_cons l_non (la_cons l_non la_nil))) (la_cons (l_lst (la_cons l_non (la_cons (l_lst (la_cons (l_tup (la_cons l_int (la_cons l_int la_nil))) (la_cons (l_tup (la_cons l_int (la_cons l_int la_nil))) la_nil))) la_nil))) la_nil)))) (la_cons (l_call (ok_table_within C) (ar_sealed ar_fn) (hr.mono (by decide)) hG (by rfl) C.m_table_within C.F_table_within.kp (bi_table_within C.F_table_within) rfl (la_cons (l_var 2) (la_cons (l_lst (la_cons l_non (la_cons (l_lst (la_cons (l_tup (la_cons l_int (la_cons l_int la_nil))) (la_cons (l_tup (la_cons l_int (la_cons l_int la_nil))) la_nil))) la_nil))) (la_cons (l_lst (la_cons l_non (la_cons l_non la_nil))) la_nil)))) la_nil)))))) (ls_cons (ls_ret (l_cmp (op_eqA hr.units) ok_eqv (l_callB (call_repr hG hr.units) ok_repr (by rfl) C.z_repr (by decide +kernel) (la_cons (l_var 3) la_nil)) (l_callB (call_repr hG hr.units) ok_repr (by rfl) C.z_repr (by decide +kernel) (la_cons (l_lst (la_cons l_bl (la_cons (l_lst (la_cons (l_tup (la_cons l_int (la_cons l_int la_nil))) (la_cons (l_tup (la_cons l_int (la_cons l_int la_nil))) la_nil))) (la_cons (l_lst (la_cons (l_tup (la_cons l_int (la_cons l_int la_nil))) (la_cons (l_tup (la_cons l_int (la_cons l_int la_nil))) la_nil))) (la_cons l_non (la_cons l_bl (la_cons l_bl la_nil))))))) la_nil)) (nomark _))) ls_nil)))))
theorem ok_law (C : Facts w K mg) : FnG P w K mg base 43 C.a_law C.fd_law P_law (spOf K 1 (c_law fu)) := (oku_law C).sealed
end
theorem all_mk {fu : Nat} {P : Program} {w : World} {K : PySem.W.Frag} {h : Heap} {mg : Str → Option Value} {fa : Addr} (X : K.In h) (G : h.Ns mainGlobals mg) (hfa : mg "law" = some (.ref fa))
    {f0 : Addr} {od0 an0 : Option Addr} {sl0 : Array (Option Value)} {oc0 kV0 dc0 pm0 cd0 ct0 : Value}
    {f1 : Addr} {od1 an1 : Option Addr} {sl1 : Array (Option Value)} {oc1 kV1 dc1 pm1 cd1 ct1 : Value}
    {f2 : Addr} {od2 an2 : Option Addr} {sl2 : Array (Option Value)} {oc2 kV2 dc2 pm2 cd2 ct2 : Value}
    {f3 : Addr} {od3 an3 : Option Addr} {sl3 : Array (Option Value)} {oc3 kV3 dc3 pm3 cd3 ct3 : Value}
    {f4 : Addr} {od4 an4 : Option Addr} {sl4 : Array (Option Value)} {oc4 kV4 dc4 pm4 cd4 ct4 : Value}
    {f5 : Addr} {od5 an5 : Option Addr} {sl5 : Array (Option Value)} {oc5 kV5 dc5 pm5 cd5 ct5 : Value}
    {f6 : Addr} {od6 an6 : Option Addr} {sl6 : Array (Option Value)} {oc6 kV6 dc6 pm6 cd6 ct6 : Value}
    {f7 : Addr} {od7 an7 : Option Addr} {sl7 : Array (Option Value)} {oc7 kV7 dc7 pm7 cd7 ct7 : Value}
    {f8 : Addr} {od8 an8 : Option Addr} {sl8 : Array (Option Value)} {oc8 kV8 dc8 pm8 cd8 ct8 : Value}
    {f9 : Addr} {od9 an9 : Option Addr} {sl9 : Array (Option Value)} {oc9 kV9 dc9 pm9 cd9 ct9 : Value}
    {f10 : Addr} {od10 an10 : Option Addr} {sl10 : Array (Option Value)} {oc10 kV10 dc10 pm10 cd10 ct10 : Value}
    {f11 : Addr} {od11 an11 : Option Addr} {sl11 : Array (Option Value)} {oc11 kV11 dc11 pm11 cd11 ct11 : Value}
    {f12 : Addr} {od12 an12 : Option Addr} {sl12 : Array (Option Value)} {oc12 kV12 dc12 pm12 cd12 ct12 : Value}
    {f13 : Addr} {od13 an13 : Option Addr} {sl13 : Array (Option Value)} {oc13 kV13 dc13 pm13 cd13 ct13 : Value}
    {f14 : Addr} {od14 an14 : Option Addr} {sl14 : Array (Option Value)} {oc14 kV14 dc14 pm14 cd14 ct14 : Value}
    {f15 : Addr} {od15 an15 : Option Addr} {sl15 : Array (Option Value)} {oc15 kV15 dc15 pm15 cd15 ct15 : Value}
    {f16 : Addr} {od16 an16 : Option Addr} {sl16 : Array (Option Value)} {oc16 kV16 dc16 pm16 cd16 ct16 : Value}
    {f17 : Addr} {od17 an17 : Option Addr} {sl17 : Array (Option Value)} {oc17 kV17 dc17 pm17 cd17 ct17 : Value}
    {f18 : Addr} {od18 an18 : Option Addr} {sl18 : Array (Option Value)} {oc18 kV18 dc18 pm18 cd18 ct18 : Value}
    {f19 : Addr} {od19 an19 : Option Addr} {sl19 : Array (Option Value)} {oc19 kV19 dc19 pm19 cd19 ct19 : Value}
    {f20 : Addr} {od20 an20 : Option Addr} {sl20 : Array (Option Value)} {oc20 kV20 dc20 pm20 cd20 ct20 : Value}
    {f21 : Addr} {od21 an21 : Option Addr} {sl21 : Array (Option Value)} {oc21 kV21 dc21 pm21 cd21 ct21 : Value}
    {f22 : Addr} {od22 an22 : Option Addr} {sl22 : Array (Option Value)} {oc22 kV22 dc22 pm22 cd22 ct22 : Value}
    {f23 : Addr} {od23 an23 : Option Addr} {sl23 : Array (Option Value)} {oc23 kV23 dc23 pm23 cd23 ct23 : Value}
    {f24 : Addr} {od24 an24 : Option Addr} {sl24 : Array (Option Value)} {oc24 kV24 dc24 pm24 cd24 ct24 : Value}
    {f25 : Addr} {od25 an25 : Option Addr} {sl25 : Array (Option Value)} {oc25 kV25 dc25 pm25 cd25 ct25 : Value}
    {f26 : Addr} {od26 an26 : Option Addr} {sl26 : Array (Option Value)} {oc26 kV26 dc26 pm26 cd26 ct26 : Value}
    {f27 : Addr} {od27 an27 : Option Addr} {sl27 : Array (Option Value)} {oc27 kV27 dc27 pm27 cd27 ct27 : Value}
    {f28 : Addr} {od28 an28 : Option Addr} {sl28 : Array (Option Value)} {oc28 kV28 dc28 pm28 cd28 ct28 : Value}
    {f29 : Addr} {od29 an29 : Option Addr} {sl29 : Array (Option Value)} {oc29 kV29 dc29 pm29 cd29 ct29 : Value}
    {f30 : Addr} {od30 an30 : Option Addr} {sl30 : Array (Option Value)} {oc30 kV30 dc30 pm30 cd30 ct30 : Value}
    {f31 : Addr} {od31 an31 : Option Addr} {sl31 : Array (Option Value)} {oc31 kV31 dc31 pm31 cd31 ct31 : Value}
    {f32 : Addr} {od32 an32 : Option Addr} {sl32 : Array (Option Value)} {oc32 kV32 dc32 pm32 cd32 ct32 : Value}
    {f33 : Addr} {od33 an33 : Option Addr} {sl33 : Array (Option Value)} {oc33 kV33 dc33 pm33 cd33 ct33 : Value}
    {f34 : Addr} {od34 an34 : Option Addr} {sl34 : Array (Option Value)} {oc34 kV34 dc34 pm34 cd34 ct34 : Value}
    {f35 : Addr} {od35 an35 : Option Addr} {sl35 : Array (Option Value)} {oc35 kV35 dc35 pm35 cd35 ct35 : Value}
    {f36 : Addr} {od36 an36 : Option Addr} {sl36 : Array (Option Value)} {oc36 kV36 dc36 pm36 cd36 ct36 : Value}
    {f37 : Addr} {od37 an37 : Option Addr} {sl37 : Array (Option Value)} {oc37 kV37 dc37 pm37 cd37 ct37 : Value}
    {f38 : Addr} {od38 an38 : Option Addr} {sl38 : Array (Option Value)} {oc38 kV38 dc38 pm38 cd38 ct38 : Value}
    {f39 : Addr} {od39 an39 : Option Addr} {sl39 : Array (Option Value)} {oc39 kV39 dc39 pm39 cd39 ct39 : Value}
    {f40 : Addr} {od40 an40 : Option Addr} {sl40 : Array (Option Value)} {oc40 kV40 dc40 pm40 cd40 ct40 : Value}
    {f41 : Addr} {od41 an41 : Option Addr} {sl41 : Array (Option Value)} {oc41 kV41 dc41 pm41 cd41 ct41 : Value}
    {f42 : Addr} {od42 an42 : Option Addr} {sl42 : Array (Option Value)} {oc42 kV42 dc42 pm42 cd42 ct42 : Value}
    {f43 : Addr} {od43 an43 : Option Addr} {sl43 : Array (Option Value)} {oc43 kV43 dc43 pm43 cd43 ct43 : Value}
    {f44 : Addr} {od44 an44 : Option Addr} {sl44 : Array (Option Value)} {oc44 kV44 dc44 pm44 cd44 ct44 : Value}
    {f45 : Addr} {od45 an45 : Option Addr} {sl45 : Array (Option Value)} {oc45 kV45 dc45 pm45 cd45 ct45 : Value}
    {f46 : Addr} {od46 an46 : Option Addr} {sl46 : Array (Option Value)} {oc46 kV46 dc46 pm46 cd46 ct46 : Value}
    {f47 : Addr} {od47 an47 : Option Addr} {sl47 : Array (Option Value)} {oc47 kV47 dc47 pm47 cd47 ct47 : Value}
    {f48 : Addr} {od48 an48 : Option Addr} {sl48 : Array (Option Value)} {oc48 kV48 dc48 pm48 cd48 ct48 : Value}
    {f49 : Addr} {od49 an49 : Option Addr} {sl49 : Array (Option Value)} {oc49 kV49 dc49 pm49 cd49 ct49 : Value}
    {f50 : Addr} {od50 an50 : Option Addr} {sl50 : Array (Option Value)} {oc50 kV50 dc50 pm50 cd50 ct50 : Value}
    {f51 : Addr} {od51 an51 : Option Addr} {sl51 : Array (Option Value)} {oc51 kV51 dc51 pm51 cd51 ct51 : Value}
    {f52 : Addr} {od52 an52 : Option Addr} {sl52 : Array (Option Value)} {oc52 kV52 dc52 pm52 cd52 ct52 : Value}
    {f53 : Addr} {od53 an53 : Option Addr} {sl53 : Array (Option Value)} {oc53 kV53 dc53 pm53 cd53 ct53 : Value}
    {f54 : Addr} {od54 an54 : Option Addr} {sl54 : Array (Option Value)} {oc54 kV54 dc54 pm54 cd54 ct54 : Value}
    {f55 : Addr} {od55 an55 : Option Addr} {sl55 : Array (Option Value)} {oc55 kV55 dc55 pm55 cd55 ct55 : Value}
    {f56 : Addr} {od56 an56 : Option Addr} {sl56 : Array (Option Value)} {oc56 kV56 dc56 pm56 cd56 ct56 : Value}
    {g0 : Addr} {es0 : Array DictEntry} {n0 : Nat}
    {g1 : Addr} {to1 : Obj}
    (a0 : PySem.W.nsIn K mainGlobals "_law_cell" = some (some (.ref f0))) (l0 : K.lookup f0 = some ⟨oc0, od0, .func (PySem.W.fnOf "_law_cell" "_law_cell" (defArgs s__law_cell) (defBody s__law_cell) (defScope s__law_cell) .none kV0 dc0 pm0 an0 cd0 ct0), sl0⟩) (c0 : PySem.W.codeIn K cd0 "_law_cell" = true) (k0 : PySem.W.keepIn K (.ref f0) = true)
    (a1 : PySem.W.nsIn K mainGlobals "_law_generator" = some (some (.ref f1))) (l1 : K.lookup f1 = some ⟨oc1, od1, .func (PySem.W.fnOf "_law_generator" "_law_generator" (defArgs s__law_generator) (defBody s__law_generator) (defScope s__law_generator) .none kV1 dc1 pm1 an1 cd1 ct1), sl1⟩) (c1 : PySem.W.codeIn K cd1 "_law_generator" = true) (k1 : PySem.W.keepIn K (.ref f1) = true)
    (a2 : PySem.W.nsIn K mainGlobals "_law_ends" = some (some (.ref f2))) (l2 : K.lookup f2 = some ⟨oc2, od2, .func (PySem.W.fnOf "_law_ends" "_law_ends" (defArgs s__law_ends) (defBody s__law_ends) (defScope s__law_ends) .none kV2 dc2 pm2 an2 cd2 ct2), sl2⟩) (c2 : PySem.W.codeIn K cd2 "_law_ends" = true) (k2 : PySem.W.keepIn K (.ref f2) = true)
    (a3 : PySem.W.nsIn K mainGlobals "_law_pairs" = some (some (.ref f3))) (l3 : K.lookup f3 = some ⟨oc3, od3, .func (PySem.W.fnOf "_law_pairs" "_law_pairs" (defArgs s__law_pairs) (defBody s__law_pairs) (defScope s__law_pairs) .none kV3 dc3 pm3 an3 cd3 ct3), sl3⟩) (c3 : PySem.W.codeIn K cd3 "_law_pairs" = true) (k3 : PySem.W.keepIn K (.ref f3) = true)
    (a4 : PySem.W.nsIn K mainGlobals "_law_joined" = some (some (.ref f4))) (l4 : K.lookup f4 = some ⟨oc4, od4, .func (PySem.W.fnOf "_law_joined" "_law_joined" (defArgs s__law_joined) (defBody s__law_joined) (defScope s__law_joined) .none kV4 dc4 pm4 an4 cd4 ct4), sl4⟩) (c4 : PySem.W.codeIn K cd4 "_law_joined" = true) (k4 : PySem.W.keepIn K (.ref f4) = true)
    (a5 : PySem.W.nsIn K mainGlobals "_law_marked" = some (some (.ref f5))) (l5 : K.lookup f5 = some ⟨oc5, od5, .func (PySem.W.fnOf "_law_marked" "_law_marked" (defArgs s__law_marked) (defBody s__law_marked) (defScope s__law_marked) .none kV5 dc5 pm5 an5 cd5 ct5), sl5⟩) (c5 : PySem.W.codeIn K cd5 "_law_marked" = true) (k5 : PySem.W.keepIn K (.ref f5) = true)
    (a6 : PySem.W.nsIn K mainGlobals "_law_met" = some (some (.ref f6))) (l6 : K.lookup f6 = some ⟨oc6, od6, .func (PySem.W.fnOf "_law_met" "_law_met" (defArgs s__law_met) (defBody s__law_met) (defScope s__law_met) .none kV6 dc6 pm6 an6 cd6 ct6), sl6⟩) (c6 : PySem.W.codeIn K cd6 "_law_met" = true) (k6 : PySem.W.keepIn K (.ref f6) = true)
    (a7 : PySem.W.nsIn K mainGlobals "_law_hash" = some (some (.ref f7))) (l7 : K.lookup f7 = some ⟨oc7, od7, .func (PySem.W.fnOf "_law_hash" "_law_hash" (defArgs s__law_hash) (defBody s__law_hash) (defScope s__law_hash) .none kV7 dc7 pm7 an7 cd7 ct7), sl7⟩) (c7 : PySem.W.codeIn K cd7 "_law_hash" = true) (k7 : PySem.W.keepIn K (.ref f7) = true)
    (a8 : PySem.W.nsIn K mainGlobals "_law_random" = some (some (.ref f8))) (l8 : K.lookup f8 = some ⟨oc8, od8, .func (PySem.W.fnOf "_law_random" "_law_random" (defArgs s__law_random) (defBody s__law_random) (defScope s__law_random) .none kV8 dc8 pm8 an8 cd8 ct8), sl8⟩) (c8 : PySem.W.codeIn K cd8 "_law_random" = true) (k8 : PySem.W.keepIn K (.ref f8) = true)
    (a9 : PySem.W.nsIn K mainGlobals "_law_names" = some (some (.ref f9))) (l9 : K.lookup f9 = some ⟨oc9, od9, .func (PySem.W.fnOf "_law_names" "_law_names" (defArgs s__law_names) (defBody s__law_names) (defScope s__law_names) .none kV9 dc9 pm9 an9 cd9 ct9), sl9⟩) (c9 : PySem.W.codeIn K cd9 "_law_names" = true) (k9 : PySem.W.keepIn K (.ref f9) = true)
    (a10 : PySem.W.nsIn K mainGlobals "_law_number" = some (some (.ref f10))) (l10 : K.lookup f10 = some ⟨oc10, od10, .func (PySem.W.fnOf "_law_number" "_law_number" (defArgs s__law_number) (defBody s__law_number) (defScope s__law_number) .none kV10 dc10 pm10 an10 cd10 ct10), sl10⟩) (c10 : PySem.W.codeIn K cd10 "_law_number" = true) (k10 : PySem.W.keepIn K (.ref f10) = true)
    (a11 : PySem.W.nsIn K mainGlobals "_law_range" = some (some (.ref f11))) (l11 : K.lookup f11 = some ⟨oc11, od11, .func (PySem.W.fnOf "_law_range" "_law_range" (defArgs s__law_range) (defBody s__law_range) (defScope s__law_range) .none kV11 dc11 pm11 an11 cd11 ct11), sl11⟩) (c11 : PySem.W.codeIn K cd11 "_law_range" = true) (k11 : PySem.W.keepIn K (.ref f11) = true)
    (a12 : PySem.W.nsIn K mainGlobals "_law_wider" = some (some (.ref f12))) (l12 : K.lookup f12 = some ⟨oc12, od12, .func (PySem.W.fnOf "_law_wider" "_law_wider" (defArgs s__law_wider) (defBody s__law_wider) (defScope s__law_wider) .none kV12 dc12 pm12 an12 cd12 ct12), sl12⟩) (c12 : PySem.W.codeIn K cd12 "_law_wider" = true) (k12 : PySem.W.keepIn K (.ref f12) = true)
    (a13 : PySem.W.nsIn K mainGlobals "_law_within" = some (some (.ref f13))) (l13 : K.lookup f13 = some ⟨oc13, od13, .func (PySem.W.fnOf "_law_within" "_law_within" (defArgs s__law_within) (defBody s__law_within) (defScope s__law_within) .none kV13 dc13 pm13 an13 cd13 ct13), sl13⟩) (c13 : PySem.W.codeIn K cd13 "_law_within" = true) (k13 : PySem.W.keepIn K (.ref f13) = true)
    (a14 : PySem.W.nsIn K mainGlobals "a_whole" = some (some (.ref f14))) (l14 : K.lookup f14 = some ⟨oc14, od14, .func (PySem.W.fnOf "a_whole" "a_whole" (defArgs s_a_whole) (defBody s_a_whole) (defScope s_a_whole) .none kV14 dc14 pm14 an14 cd14 ct14), sl14⟩) (c14 : PySem.W.codeIn K cd14 "a_whole" = true) (k14 : PySem.W.keepIn K (.ref f14) = true)
    (a15 : PySem.W.nsIn K mainGlobals "an_end" = some (some (.ref f15))) (l15 : K.lookup f15 = some ⟨oc15, od15, .func (PySem.W.fnOf "an_end" "an_end" (defArgs s_an_end) (defBody s_an_end) (defScope s_an_end) .none kV15 dc15 pm15 an15 cd15 ct15), sl15⟩) (c15 : PySem.W.codeIn K cd15 "an_end" = true) (k15 : PySem.W.keepIn K (.ref f15) = true)
    (a16 : PySem.W.nsIn K mainGlobals "a_range" = some (some (.ref f16))) (l16 : K.lookup f16 = some ⟨oc16, od16, .func (PySem.W.fnOf "a_range" "a_range" (defArgs s_a_range) (defBody s_a_range) (defScope s_a_range) .none kV16 dc16 pm16 an16 cd16 ct16), sl16⟩) (c16 : PySem.W.codeIn K cd16 "a_range" = true) (k16 : PySem.W.keepIn K (.ref f16) = true)
    (a17 : PySem.W.nsIn K mainGlobals "_a_part" = some (some (.ref f17))) (l17 : K.lookup f17 = some ⟨oc17, od17, .func (PySem.W.fnOf "_a_part" "_a_part" (defArgs s__a_part) (defBody s__a_part) (defScope s__a_part) .none kV17 dc17 pm17 an17 cd17 ct17), sl17⟩) (c17 : PySem.W.codeIn K cd17 "_a_part" = true) (k17 : PySem.W.keepIn K (.ref f17) = true)
    (a18 : PySem.W.nsIn K mainGlobals "a_deed" = some (some (.ref f18))) (l18 : K.lookup f18 = some ⟨oc18, od18, .func (PySem.W.fnOf "a_deed" "a_deed" (defArgs s_a_deed) (defBody s_a_deed) (defScope s_a_deed) .none kV18 dc18 pm18 an18 cd18 ct18), sl18⟩) (c18 : PySem.W.codeIn K cd18 "a_deed" = true) (k18 : PySem.W.keepIn K (.ref f18) = true)
    (a19 : PySem.W.nsIn K mainGlobals "a_number_below" = some (some (.ref f19))) (l19 : K.lookup f19 = some ⟨oc19, od19, .func (PySem.W.fnOf "a_number_below" "a_number_below" (defArgs s_a_number_below) (defBody s_a_number_below) (defScope s_a_number_below) .none kV19 dc19 pm19 an19 cd19 ct19), sl19⟩) (c19 : PySem.W.codeIn K cd19 "a_number_below" = true) (k19 : PySem.W.keepIn K (.ref f19) = true)
    (a20 : PySem.W.nsIn K mainGlobals "a_step" = some (some (.ref f20))) (l20 : K.lookup f20 = some ⟨oc20, od20, .func (PySem.W.fnOf "a_step" "a_step" (defArgs s_a_step) (defBody s_a_step) (defScope s_a_step) .none kV20 dc20 pm20 an20 cd20 ct20), sl20⟩) (c20 : PySem.W.codeIn K cd20 "a_step" = true) (k20 : PySem.W.keepIn K (.ref f20) = true)
    (a21 : PySem.W.nsIn K mainGlobals "_a_short_count" = some (some (.ref f21))) (l21 : K.lookup f21 = some ⟨oc21, od21, .func (PySem.W.fnOf "_a_short_count" "_a_short_count" (defArgs s__a_short_count) (defBody s__a_short_count) (defScope s__a_short_count) .none kV21 dc21 pm21 an21 cd21 ct21), sl21⟩) (c21 : PySem.W.codeIn K cd21 "_a_short_count" = true) (k21 : PySem.W.keepIn K (.ref f21) = true)
    (a22 : PySem.W.nsIn K mainGlobals "a_name" = some (some (.ref f22))) (l22 : K.lookup f22 = some ⟨oc22, od22, .func (PySem.W.fnOf "a_name" "a_name" (defArgs s_a_name) (defBody s_a_name) (defScope s_a_name) .none kV22 dc22 pm22 an22 cd22 ct22), sl22⟩) (c22 : PySem.W.codeIn K cd22 "a_name" = true) (k22 : PySem.W.keepIn K (.ref f22) = true)
    (a23 : PySem.W.nsIn K mainGlobals "ascending" = some (some (.ref f23))) (l23 : K.lookup f23 = some ⟨oc23, od23, .func (PySem.W.fnOf "ascending" "ascending" (defArgs s_ascending) (defBody s_ascending) (defScope s_ascending) .none kV23 dc23 pm23 an23 cd23 ct23), sl23⟩) (c23 : PySem.W.codeIn K cd23 "ascending" = true) (k23 : PySem.W.keepIn K (.ref f23) = true)
    (a24 : PySem.W.nsIn K mainGlobals "some_names" = some (some (.ref f24))) (l24 : K.lookup f24 = some ⟨oc24, od24, .func (PySem.W.fnOf "some_names" "some_names" (defArgs s_some_names) (defBody s_some_names) (defScope s_some_names) .none kV24 dc24 pm24 an24 cd24 ct24), sl24⟩) (c24 : PySem.W.codeIn K cd24 "some_names" = true) (k24 : PySem.W.keepIn K (.ref f24) = true)
    (a25 : PySem.W.nsIn K mainGlobals "some_ranges" = some (some (.ref f25))) (l25 : K.lookup f25 = some ⟨oc25, od25, .func (PySem.W.fnOf "some_ranges" "some_ranges" (defArgs s_some_ranges) (defBody s_some_ranges) (defScope s_some_ranges) .none kV25 dc25 pm25 an25 cd25 ct25), sl25⟩) (c25 : PySem.W.codeIn K cd25 "some_ranges" = true) (k25 : PySem.W.keepIn K (.ref f25) = true)
    (a26 : PySem.W.nsIn K mainGlobals "a_program" = some (some (.ref f26))) (l26 : K.lookup f26 = some ⟨oc26, od26, .func (PySem.W.fnOf "a_program" "a_program" (defArgs s_a_program) (defBody s_a_program) (defScope s_a_program) .none kV26 dc26 pm26 an26 cd26 ct26), sl26⟩) (c26 : PySem.W.codeIn K cd26 "a_program" = true) (k26 : PySem.W.keepIn K (.ref f26) = true)
    (a27 : PySem.W.nsIn K mainGlobals "need_program" = some (some (.ref f27))) (l27 : K.lookup f27 = some ⟨oc27, od27, .func (PySem.W.fnOf "need_program" "need_program" (defArgs s_need_program) (defBody s_need_program) (defScope s_need_program) .none kV27 dc27 pm27 an27 cd27 ct27), sl27⟩) (c27 : PySem.W.codeIn K cd27 "need_program" = true) (k27 : PySem.W.keepIn K (.ref f27) = true)
    (a28 : PySem.W.nsIn K mainGlobals "a_row" = some (some (.ref f28))) (l28 : K.lookup f28 = some ⟨oc28, od28, .func (PySem.W.fnOf "a_row" "a_row" (defArgs s_a_row) (defBody s_a_row) (defScope s_a_row) .none kV28 dc28 pm28 an28 cd28 ct28), sl28⟩) (c28 : PySem.W.codeIn K cd28 "a_row" = true) (k28 : PySem.W.keepIn K (.ref f28) = true)
    (a29 : PySem.W.nsIn K mainGlobals "need_row" = some (some (.ref f29))) (l29 : K.lookup f29 = some ⟨oc29, od29, .func (PySem.W.fnOf "need_row" "need_row" (defArgs s_need_row) (defBody s_need_row) (defScope s_need_row) .none kV29 dc29 pm29 an29 cd29 ct29), sl29⟩) (c29 : PySem.W.codeIn K cd29 "need_row" = true) (k29 : PySem.W.keepIn K (.ref f29) = true)
    (a30 : PySem.W.nsIn K mainGlobals "_need_rows" = some (some (.ref f30))) (l30 : K.lookup f30 = some ⟨oc30, od30, .func (PySem.W.fnOf "_need_rows" "_need_rows" (defArgs s__need_rows) (defBody s__need_rows) (defScope s__need_rows) .none kV30 dc30 pm30 an30 cd30 ct30), sl30⟩) (c30 : PySem.W.codeIn K cd30 "_need_rows" = true) (k30 : PySem.W.keepIn K (.ref f30) = true)
    (a31 : PySem.W.nsIn K mainGlobals "_greater_high" = some (some (.ref f31))) (l31 : K.lookup f31 = some ⟨oc31, od31, .func (PySem.W.fnOf "_greater_high" "_greater_high" (defArgs s__greater_high) (defBody s__greater_high) (defScope s__greater_high) .none kV31 dc31 pm31 an31 cd31 ct31), sl31⟩) (c31 : PySem.W.codeIn K cd31 "_greater_high" = true) (k31 : PySem.W.keepIn K (.ref f31) = true)
    (a32 : PySem.W.nsIn K mainGlobals "_lesser_low" = some (some (.ref f32))) (l32 : K.lookup f32 = some ⟨oc32, od32, .func (PySem.W.fnOf "_lesser_low" "_lesser_low" (defArgs s__lesser_low) (defBody s__lesser_low) (defScope s__lesser_low) .none kV32 dc32 pm32 an32 cd32 ct32), sl32⟩) (c32 : PySem.W.codeIn K cd32 "_lesser_low" = true) (k32 : PySem.W.keepIn K (.ref f32) = true)
    (a33 : PySem.W.nsIn K mainGlobals "joined" = some (some (.ref f33))) (l33 : K.lookup f33 = some ⟨oc33, od33, .func (PySem.W.fnOf "joined" "joined" (defArgs s_joined) (defBody s_joined) (defScope s_joined) .none kV33 dc33 pm33 an33 cd33 ct33), sl33⟩) (c33 : PySem.W.codeIn K cd33 "joined" = true) (k33 : PySem.W.keepIn K (.ref f33) = true)
    (a34 : PySem.W.nsIn K mainGlobals "joined_rows" = some (some (.ref f34))) (l34 : K.lookup f34 = some ⟨oc34, od34, .func (PySem.W.fnOf "joined_rows" "joined_rows" (defArgs s_joined_rows) (defBody s_joined_rows) (defScope s_joined_rows) .none kV34 dc34 pm34 an34 cd34 ct34), sl34⟩) (c34 : PySem.W.codeIn K cd34 "joined_rows" = true) (k34 : PySem.W.keepIn K (.ref f34) = true)
    (a35 : PySem.W.nsIn K mainGlobals "row_joined" = some (some (.ref f35))) (l35 : K.lookup f35 = some ⟨oc35, od35, .func (PySem.W.fnOf "row_joined" "row_joined" (defArgs s_row_joined) (defBody s_row_joined) (defScope s_row_joined) .none kV35 dc35 pm35 an35 cd35 ct35), sl35⟩) (c35 : PySem.W.codeIn K cd35 "row_joined" = true) (k35 : PySem.W.keepIn K (.ref f35) = true)
    (a36 : PySem.W.nsIn K mainGlobals "_greater_low" = some (some (.ref f36))) (l36 : K.lookup f36 = some ⟨oc36, od36, .func (PySem.W.fnOf "_greater_low" "_greater_low" (defArgs s__greater_low) (defBody s__greater_low) (defScope s__greater_low) .none kV36 dc36 pm36 an36 cd36 ct36), sl36⟩) (c36 : PySem.W.codeIn K cd36 "_greater_low" = true) (k36 : PySem.W.keepIn K (.ref f36) = true)
    (a37 : PySem.W.nsIn K mainGlobals "_lesser_high" = some (some (.ref f37))) (l37 : K.lookup f37 = some ⟨oc37, od37, .func (PySem.W.fnOf "_lesser_high" "_lesser_high" (defArgs s__lesser_high) (defBody s__lesser_high) (defScope s__lesser_high) .none kV37 dc37 pm37 an37 cd37 ct37), sl37⟩) (c37 : PySem.W.codeIn K cd37 "_lesser_high" = true) (k37 : PySem.W.keepIn K (.ref f37) = true)
    (a38 : PySem.W.nsIn K mainGlobals "met" = some (some (.ref f38))) (l38 : K.lookup f38 = some ⟨oc38, od38, .func (PySem.W.fnOf "met" "met" (defArgs s_met) (defBody s_met) (defScope s_met) .none kV38 dc38 pm38 an38 cd38 ct38), sl38⟩) (c38 : PySem.W.codeIn K cd38 "met" = true) (k38 : PySem.W.keepIn K (.ref f38) = true)
    (a39 : PySem.W.nsIn K mainGlobals "met_rows" = some (some (.ref f39))) (l39 : K.lookup f39 = some ⟨oc39, od39, .func (PySem.W.fnOf "met_rows" "met_rows" (defArgs s_met_rows) (defBody s_met_rows) (defScope s_met_rows) .none kV39 dc39 pm39 an39 cd39 ct39), sl39⟩) (c39 : PySem.W.codeIn K cd39 "met_rows" = true) (k39 : PySem.W.keepIn K (.ref f39) = true)
    (a40 : PySem.W.nsIn K mainGlobals "row_met" = some (some (.ref f40))) (l40 : K.lookup f40 = some ⟨oc40, od40, .func (PySem.W.fnOf "row_met" "row_met" (defArgs s_row_met) (defBody s_row_met) (defScope s_row_met) .none kV40 dc40 pm40 an40 cd40 ct40), sl40⟩) (c40 : PySem.W.codeIn K cd40 "row_met" = true) (k40 : PySem.W.keepIn K (.ref f40) = true)
    (a41 : PySem.W.nsIn K mainGlobals "lies_within" = some (some (.ref f41))) (l41 : K.lookup f41 = some ⟨oc41, od41, .func (PySem.W.fnOf "lies_within" "lies_within" (defArgs s_lies_within) (defBody s_lies_within) (defScope s_lies_within) .none kV41 dc41 pm41 an41 cd41 ct41), sl41⟩) (c41 : PySem.W.codeIn K cd41 "lies_within" = true) (k41 : PySem.W.keepIn K (.ref f41) = true)
    (a42 : PySem.W.nsIn K mainGlobals "within_row" = some (some (.ref f42))) (l42 : K.lookup f42 = some ⟨oc42, od42, .func (PySem.W.fnOf "within_row" "within_row" (defArgs s_within_row) (defBody s_within_row) (defScope s_within_row) .none kV42 dc42 pm42 an42 cd42 ct42), sl42⟩) (c42 : PySem.W.codeIn K cd42 "within_row" = true) (k42 : PySem.W.keepIn K (.ref f42) = true)
    (a43 : PySem.W.nsIn K mainGlobals "row_within" = some (some (.ref f43))) (l43 : K.lookup f43 = some ⟨oc43, od43, .func (PySem.W.fnOf "row_within" "row_within" (defArgs s_row_within) (defBody s_row_within) (defScope s_row_within) .none kV43 dc43 pm43 an43 cd43 ct43), sl43⟩) (c43 : PySem.W.codeIn K cd43 "row_within" = true) (k43 : PySem.W.keepIn K (.ref f43) = true)
    (a44 : PySem.W.nsIn K mainGlobals "a_table" = some (some (.ref f44))) (l44 : K.lookup f44 = some ⟨oc44, od44, .func (PySem.W.fnOf "a_table" "a_table" (defArgs s_a_table) (defBody s_a_table) (defScope s_a_table) .none kV44 dc44 pm44 an44 cd44 ct44), sl44⟩) (c44 : PySem.W.codeIn K cd44 "a_table" = true) (k44 : PySem.W.keepIn K (.ref f44) = true)
    (a45 : PySem.W.nsIn K mainGlobals "need_table" = some (some (.ref f45))) (l45 : K.lookup f45 = some ⟨oc45, od45, .func (PySem.W.fnOf "need_table" "need_table" (defArgs s_need_table) (defBody s_need_table) (defScope s_need_table) .none kV45 dc45 pm45 an45 cd45 ct45), sl45⟩) (c45 : PySem.W.codeIn K cd45 "need_table" = true) (k45 : PySem.W.keepIn K (.ref f45) = true)
    (a46 : PySem.W.nsIn K mainGlobals "_need_tables" = some (some (.ref f46))) (l46 : K.lookup f46 = some ⟨oc46, od46, .func (PySem.W.fnOf "_need_tables" "_need_tables" (defArgs s__need_tables) (defBody s__need_tables) (defScope s__need_tables) .none kV46 dc46 pm46 an46 cd46 ct46), sl46⟩) (c46 : PySem.W.codeIn K cd46 "_need_tables" = true) (k46 : PySem.W.keepIn K (.ref f46) = true)
    (a47 : PySem.W.nsIn K mainGlobals "copied_row" = some (some (.ref f47))) (l47 : K.lookup f47 = some ⟨oc47, od47, .func (PySem.W.fnOf "copied_row" "copied_row" (defArgs s_copied_row) (defBody s_copied_row) (defScope s_copied_row) .none kV47 dc47 pm47 an47 cd47 ct47), sl47⟩) (c47 : PySem.W.codeIn K cd47 "copied_row" = true) (k47 : PySem.W.keepIn K (.ref f47) = true)
    (a48 : PySem.W.nsIn K mainGlobals "joined_at_place" = some (some (.ref f48))) (l48 : K.lookup f48 = some ⟨oc48, od48, .func (PySem.W.fnOf "joined_at_place" "joined_at_place" (defArgs s_joined_at_place) (defBody s_joined_at_place) (defScope s_joined_at_place) .none kV48 dc48 pm48 an48 cd48 ct48), sl48⟩) (c48 : PySem.W.codeIn K cd48 "joined_at_place" = true) (k48 : PySem.W.keepIn K (.ref f48) = true)
    (a49 : PySem.W.nsIn K mainGlobals "table_joined" = some (some (.ref f49))) (l49 : K.lookup f49 = some ⟨oc49, od49, .func (PySem.W.fnOf "table_joined" "table_joined" (defArgs s_table_joined) (defBody s_table_joined) (defScope s_table_joined) .none kV49 dc49 pm49 an49 cd49 ct49), sl49⟩) (c49 : PySem.W.codeIn K cd49 "table_joined" = true) (k49 : PySem.W.keepIn K (.ref f49) = true)
    (a50 : PySem.W.nsIn K mainGlobals "met_at_place" = some (some (.ref f50))) (l50 : K.lookup f50 = some ⟨oc50, od50, .func (PySem.W.fnOf "met_at_place" "met_at_place" (defArgs s_met_at_place) (defBody s_met_at_place) (defScope s_met_at_place) .none kV50 dc50 pm50 an50 cd50 ct50), sl50⟩) (c50 : PySem.W.codeIn K cd50 "met_at_place" = true) (k50 : PySem.W.keepIn K (.ref f50) = true)
    (a51 : PySem.W.nsIn K mainGlobals "table_met" = some (some (.ref f51))) (l51 : K.lookup f51 = some ⟨oc51, od51, .func (PySem.W.fnOf "table_met" "table_met" (defArgs s_table_met) (defBody s_table_met) (defScope s_table_met) .none kV51 dc51 pm51 an51 cd51 ct51), sl51⟩) (c51 : PySem.W.codeIn K cd51 "table_met" = true) (k51 : PySem.W.keepIn K (.ref f51) = true)
    (a52 : PySem.W.nsIn K mainGlobals "within_at_place" = some (some (.ref f52))) (l52 : K.lookup f52 = some ⟨oc52, od52, .func (PySem.W.fnOf "within_at_place" "within_at_place" (defArgs s_within_at_place) (defBody s_within_at_place) (defScope s_within_at_place) .none kV52 dc52 pm52 an52 cd52 ct52), sl52⟩) (c52 : PySem.W.codeIn K cd52 "within_at_place" = true) (k52 : PySem.W.keepIn K (.ref f52) = true)
    (a53 : PySem.W.nsIn K mainGlobals "within_table" = some (some (.ref f53))) (l53 : K.lookup f53 = some ⟨oc53, od53, .func (PySem.W.fnOf "within_table" "within_table" (defArgs s_within_table) (defBody s_within_table) (defScope s_within_table) .none kV53 dc53 pm53 an53 cd53 ct53), sl53⟩) (c53 : PySem.W.codeIn K cd53 "within_table" = true) (k53 : PySem.W.keepIn K (.ref f53) = true)
    (a54 : PySem.W.nsIn K mainGlobals "table_within" = some (some (.ref f54))) (l54 : K.lookup f54 = some ⟨oc54, od54, .func (PySem.W.fnOf "table_within" "table_within" (defArgs s_table_within) (defBody s_table_within) (defScope s_table_within) .none kV54 dc54 pm54 an54 cd54 ct54), sl54⟩) (c54 : PySem.W.codeIn K cd54 "table_within" = true) (k54 : PySem.W.keepIn K (.ref f54) = true)
    (a55 : PySem.W.nsIn K mainGlobals "_law_right" = some (some (.ref f55))) (l55 : K.lookup f55 = some ⟨oc55, od55, .func (PySem.W.fnOf "_law_right" "_law_right" (defArgs s__law_right) (defBody s__law_right) (defScope s__law_right) .none kV55 dc55 pm55 an55 cd55 ct55), sl55⟩) (c55 : PySem.W.codeIn K cd55 "_law_right" = true) (k55 : PySem.W.keepIn K (.ref f55) = true)
    (a56 : PySem.W.nsIn K mainGlobals "law" = some (some (.ref f56))) (l56 : K.lookup f56 = some ⟨oc56, od56, .func (PySem.W.fnOf "law" "law" (defArgs s_law) (defBody s_law) (defScope s_law) .none kV56 dc56 pm56 an56 cd56 ct56), sl56⟩) (c56 : PySem.W.codeIn K cd56 "law" = true) (k56 : PySem.W.keepIn K (.ref f56) = true)
    (z_all : PySem.W.nsIn K mainGlobals "all" = some none)
    (z_bool : PySem.W.nsIn K mainGlobals "bool" = some none)
    (z_int : PySem.W.nsIn K mainGlobals "int" = some none)
    (z_isinstance : PySem.W.nsIn K mainGlobals "isinstance" = some none)
    (z_len : PySem.W.nsIn K mainGlobals "len" = some none)
    (z_list : PySem.W.nsIn K mainGlobals "list" = some none)
    (z_max : PySem.W.nsIn K mainGlobals "max" = some none)
    (z_min : PySem.W.nsIn K mainGlobals "min" = some none)
    (z_range : PySem.W.nsIn K mainGlobals "range" = some none)
    (z_repr : PySem.W.nsIn K mainGlobals "repr" = some none)
    (z_sorted : PySem.W.nsIn K mainGlobals "sorted" = some none)
    (z_str : PySem.W.nsIn K mainGlobals "str" = some none)
    (z_sum : PySem.W.nsIn K mainGlobals "sum" = some none)
    (z_tuple : PySem.W.nsIn K mainGlobals "tuple" = some none)
    (z_zip : PySem.W.nsIn K mainGlobals "zip" = some none)
    (t0 : PySem.W.nsIn K mainGlobals "DEED_FORMS" = some (some (.ref g0))) (tl0 : K.lookup g0 = some ⟨.type "dict", none, .dict es0 n0, #[]⟩) (to0 : (g0 == sysModules) = false) (tk0 : PySem.W.KeysLit w.params es0.toList) (te0 : EntsIs es0.toList Com.k_DEED_FORMS)
    (t1 : PySem.W.nsIn K mainGlobals "PAIR_TESTS" = some (some (.ref g1))) (tl1 : K.lookup g1 = some to1) (tk1 : TupIs to1 Com.k_PAIR_TESTS)
    : ∃ fd : FuncData, (∀ (s : Shared) (v : Value), BindsTo s fd ⟨[v], []⟩ [("script", v)]) ∧ ∀ base : Heap, K.In base → base.Ns mainGlobals mg → FnG P w K mg base 43 fa fd ["script"] (spOf K 1 (c_law fu)) := by
  have e := hfa.symm.trans (PySem.W.mg_of X G a56)
  cases e
  let C : Facts w K mg := { a__law_cell := f0, fd__law_cell := _, F__law_cell := fun_mk (st := s__law_cell) l0 c0 k0, m__law_cell := PySem.W.mg_of X G a0, a__law_generator := f1, fd__law_generator := _, F__law_generator := fun_mk (st := s__law_generator) l1 c1 k1, m__law_generator := PySem.W.mg_of X G a1, a__law_ends := f2, fd__law_ends := _, F__law_ends := fun_mk (st := s__law_ends) l2 c2 k2, m__law_ends := PySem.W.mg_of X G a2, a__law_pairs := f3, fd__law_pairs := _, F__law_pairs := fun_mk (st := s__law_pairs) l3 c3 k3, m__law_pairs := PySem.W.mg_of X G a3, a__law_joined := f4, fd__law_joined := _, F__law_joined := fun_mk (st := s__law_joined) l4 c4 k4, m__law_joined := PySem.W.mg_of X G a4, a__law_marked := f5, fd__law_marked := _, F__law_marked := fun_mk (st := s__law_marked) l5 c5 k5, m__law_marked := PySem.W.mg_of X G a5, a__law_met := f6, fd__law_met := _, F__law_met := fun_mk (st := s__law_met) l6 c6 k6, m__law_met := PySem.W.mg_of X G a6, a__law_hash := f7, fd__law_hash := _, F__law_hash := fun_mk (st := s__law_hash) l7 c7 k7, m__law_hash := PySem.W.mg_of X G a7, a__law_random := f8, fd__law_random := _, F__law_random := fun_mk (st := s__law_random) l8 c8 k8, m__law_random := PySem.W.mg_of X G a8, a__law_names := f9, fd__law_names := _, F__law_names := fun_mk (st := s__law_names) l9 c9 k9, m__law_names := PySem.W.mg_of X G a9, a__law_number := f10, fd__law_number := _, F__law_number := fun_mk (st := s__law_number) l10 c10 k10, m__law_number := PySem.W.mg_of X G a10, a__law_range := f11, fd__law_range := _, F__law_range := fun_mk (st := s__law_range) l11 c11 k11, m__law_range := PySem.W.mg_of X G a11, a__law_wider := f12, fd__law_wider := _, F__law_wider := fun_mk (st := s__law_wider) l12 c12 k12, m__law_wider := PySem.W.mg_of X G a12, a__law_within := f13, fd__law_within := _, F__law_within := fun_mk (st := s__law_within) l13 c13 k13, m__law_within := PySem.W.mg_of X G a13, a_a_whole := f14, fd_a_whole := _, F_a_whole := fun_mk (st := s_a_whole) l14 c14 k14, m_a_whole := PySem.W.mg_of X G a14, a_an_end := f15, fd_an_end := _, F_an_end := fun_mk (st := s_an_end) l15 c15 k15, m_an_end := PySem.W.mg_of X G a15, a_a_range := f16, fd_a_range := _, F_a_range := fun_mk (st := s_a_range) l16 c16 k16, m_a_range := PySem.W.mg_of X G a16, a__a_part := f17, fd__a_part := _, F__a_part := fun_mk (st := s__a_part) l17 c17 k17, m__a_part := PySem.W.mg_of X G a17, a_a_deed := f18, fd_a_deed := _, F_a_deed := fun_mk (st := s_a_deed) l18 c18 k18, m_a_deed := PySem.W.mg_of X G a18, a_a_number_below := f19, fd_a_number_below := _, F_a_number_below := fun_mk (st := s_a_number_below) l19 c19 k19, m_a_number_below := PySem.W.mg_of X G a19, a_a_step := f20, fd_a_step := _, F_a_step := fun_mk (st := s_a_step) l20 c20 k20, m_a_step := PySem.W.mg_of X G a20, a__a_short_count := f21, fd__a_short_count := _, F__a_short_count := fun_mk (st := s__a_short_count) l21 c21 k21, m__a_short_count := PySem.W.mg_of X G a21, a_a_name := f22, fd_a_name := _, F_a_name := fun_mk (st := s_a_name) l22 c22 k22, m_a_name := PySem.W.mg_of X G a22, a_ascending := f23, fd_ascending := _, F_ascending := fun_mk (st := s_ascending) l23 c23 k23, m_ascending := PySem.W.mg_of X G a23, a_some_names := f24, fd_some_names := _, F_some_names := fun_mk (st := s_some_names) l24 c24 k24, m_some_names := PySem.W.mg_of X G a24, a_some_ranges := f25, fd_some_ranges := _, F_some_ranges := fun_mk (st := s_some_ranges) l25 c25 k25, m_some_ranges := PySem.W.mg_of X G a25, a_a_program := f26, fd_a_program := _, F_a_program := fun_mk (st := s_a_program) l26 c26 k26, m_a_program := PySem.W.mg_of X G a26, a_need_program := f27, fd_need_program := _, F_need_program := fun_mk (st := s_need_program) l27 c27 k27, m_need_program := PySem.W.mg_of X G a27, a_a_row := f28, fd_a_row := _, F_a_row := fun_mk (st := s_a_row) l28 c28 k28, m_a_row := PySem.W.mg_of X G a28, a_need_row := f29, fd_need_row := _, F_need_row := fun_mk (st := s_need_row) l29 c29 k29, m_need_row := PySem.W.mg_of X G a29, a__need_rows := f30, fd__need_rows := _, F__need_rows := fun_mk (st := s__need_rows) l30 c30 k30, m__need_rows := PySem.W.mg_of X G a30, a__greater_high := f31, fd__greater_high := _, F__greater_high := fun_mk (st := s__greater_high) l31 c31 k31, m__greater_high := PySem.W.mg_of X G a31, a__lesser_low := f32, fd__lesser_low := _, F__lesser_low := fun_mk (st := s__lesser_low) l32 c32 k32, m__lesser_low := PySem.W.mg_of X G a32, a_joined := f33, fd_joined := _, F_joined := fun_mk (st := s_joined) l33 c33 k33, m_joined := PySem.W.mg_of X G a33, a_joined_rows := f34, fd_joined_rows := _, F_joined_rows := fun_mk (st := s_joined_rows) l34 c34 k34, m_joined_rows := PySem.W.mg_of X G a34, a_row_joined := f35, fd_row_joined := _, F_row_joined := fun_mk (st := s_row_joined) l35 c35 k35, m_row_joined := PySem.W.mg_of X G a35, a__greater_low := f36, fd__greater_low := _, F__greater_low := fun_mk (st := s__greater_low) l36 c36 k36, m__greater_low := PySem.W.mg_of X G a36, a__lesser_high := f37, fd__lesser_high := _, F__lesser_high := fun_mk (st := s__lesser_high) l37 c37 k37, m__lesser_high := PySem.W.mg_of X G a37, a_met := f38, fd_met := _, F_met := fun_mk (st := s_met) l38 c38 k38, m_met := PySem.W.mg_of X G a38, a_met_rows := f39, fd_met_rows := _, F_met_rows := fun_mk (st := s_met_rows) l39 c39 k39, m_met_rows := PySem.W.mg_of X G a39, a_row_met := f40, fd_row_met := _, F_row_met := fun_mk (st := s_row_met) l40 c40 k40, m_row_met := PySem.W.mg_of X G a40, a_lies_within := f41, fd_lies_within := _, F_lies_within := fun_mk (st := s_lies_within) l41 c41 k41, m_lies_within := PySem.W.mg_of X G a41, a_within_row := f42, fd_within_row := _, F_within_row := fun_mk (st := s_within_row) l42 c42 k42, m_within_row := PySem.W.mg_of X G a42, a_row_within := f43, fd_row_within := _, F_row_within := fun_mk (st := s_row_within) l43 c43 k43, m_row_within := PySem.W.mg_of X G a43, a_a_table := f44, fd_a_table := _, F_a_table := fun_mk (st := s_a_table) l44 c44 k44, m_a_table := PySem.W.mg_of X G a44, a_need_table := f45, fd_need_table := _, F_need_table := fun_mk (st := s_need_table) l45 c45 k45, m_need_table := PySem.W.mg_of X G a45, a__need_tables := f46, fd__need_tables := _, F__need_tables := fun_mk (st := s__need_tables) l46 c46 k46, m__need_tables := PySem.W.mg_of X G a46, a_copied_row := f47, fd_copied_row := _, F_copied_row := fun_mk (st := s_copied_row) l47 c47 k47, m_copied_row := PySem.W.mg_of X G a47, a_joined_at_place := f48, fd_joined_at_place := _, F_joined_at_place := fun_mk (st := s_joined_at_place) l48 c48 k48, m_joined_at_place := PySem.W.mg_of X G a48, a_table_joined := f49, fd_table_joined := _, F_table_joined := fun_mk (st := s_table_joined) l49 c49 k49, m_table_joined := PySem.W.mg_of X G a49, a_met_at_place := f50, fd_met_at_place := _, F_met_at_place := fun_mk (st := s_met_at_place) l50 c50 k50, m_met_at_place := PySem.W.mg_of X G a50, a_table_met := f51, fd_table_met := _, F_table_met := fun_mk (st := s_table_met) l51 c51 k51, m_table_met := PySem.W.mg_of X G a51, a_within_at_place := f52, fd_within_at_place := _, F_within_at_place := fun_mk (st := s_within_at_place) l52 c52 k52, m_within_at_place := PySem.W.mg_of X G a52, a_within_table := f53, fd_within_table := _, F_within_table := fun_mk (st := s_within_table) l53 c53 k53, m_within_table := PySem.W.mg_of X G a53, a_table_within := f54, fd_table_within := _, F_table_within := fun_mk (st := s_table_within) l54 c54 k54, m_table_within := PySem.W.mg_of X G a54, a__law_right := f55, fd__law_right := _, F__law_right := fun_mk (st := s__law_right) l55 c55 k55, m__law_right := PySem.W.mg_of X G a55, a_law := fa, fd_law := _, F_law := fun_mk (st := s_law) l56 c56 k56, m_law := PySem.W.mg_of X G a56, z_all := PySem.W.mg_none_of X G z_all, z_bool := PySem.W.mg_none_of X G z_bool, z_int := PySem.W.mg_none_of X G z_int, z_isinstance := PySem.W.mg_none_of X G z_isinstance, z_len := PySem.W.mg_none_of X G z_len, z_list := PySem.W.mg_none_of X G z_list, z_max := PySem.W.mg_none_of X G z_max, z_min := PySem.W.mg_none_of X G z_min, z_range := PySem.W.mg_none_of X G z_range, z_repr := PySem.W.mg_none_of X G z_repr, z_sorted := PySem.W.mg_none_of X G z_sorted, z_str := PySem.W.mg_none_of X G z_str, z_sum := PySem.W.mg_none_of X G z_sum, z_tuple := PySem.W.mg_none_of X G z_tuple, z_zip := PySem.W.mg_none_of X G z_zip, c_DEED_FORMS := cdic_mk X G t0 tl0 to0 tk0 te0, c_PAIR_TESTS := ctup_mk X G t1 tl1 tk1 }
  exact ⟨C.fd_law, fun s v => .of_eq rfl, fun base _ _ => ok_law C⟩
end K16
namespace Sp
open PySem PySem.Spec PyProof.Rows L2 Lv Com
theorem pick_nil {α : Type} {l : List α} : pick l [] = [] := rfl
theorem pick_cons {α : Type} {l : List α} {i : Nat} {r : List Nat} : pick l (i :: r) = (match l[i]? with
    | some x => x :: pick l r
    | none => pick l r) := rfl
abbrev End := Option Int
abbrev Rg := End × End
def dO : End → D
  | none => .non
  | some i => .int i
def dR (r : Rg) : D := .tup [dO r.1, dO r.2]
def dN (zs : List Str) : D := .vl (zs.map D.str)
def dRow (rs : List Rg) : D := .vl (rs.map dR)
@[simp] theorem dO_none : dO none = .non := rfl
@[simp] theorem dO_some {i : Int} : dO (some i) = .int i := rfl
@[simp] theorem nr_dO {e : End} : noRef (dO e) = true := by cases e <;> simp [dO]
@[simp] theorem nr_dR {r : Rg} : noRef (dR r) = true := by simp [dR]
@[simp] theorem nr_dN {zs : List Str} : noRef (dN zs) = true := by
  unfold dN
  rw [nr_vl]
  exact nrs_map fun _ _ => by simp
@[simp] theorem nrs_rows {rs : List Rg} : noRefs (rs.map dR) = true := nrs_map fun _ _ => by simp
@[simp] theorem nrs_strs {rs : List Str} : noRefs (rs.map D.str) = true := nrs_map fun _ _ => by simp
@[simp] theorem nrs_ints {rs : List Int} : noRefs (rs.map D.int) = true := nrs_map fun _ _ => by simp
@[simp] theorem nr_dRow {rs : List Rg} : noRef (dRow rs) = true := by simp [dRow]
@[simp] theorem non_dR {r : Rg} : isNon (dR r) = false := rfl
section
variable {fu : Nat} {S : Sto}
@[simp] theorem whole_int {i : Int} : c_a_whole fu [.int i] S = some (.bl true, S) := by
  simp [c_a_whole, u_a_whole, b_a_whole, shut_same]
@[simp] theorem end_dO {e : End} : c_an_end fu [dO e] S = some (.bl true, S) := by
  cases e <;> simp [c_an_end, u_an_end, b_an_end, shut_same]
def okR : Rg → Bool
  | (some a, some b) => decide (a ≤ b)
  | _ => true
theorem range_dR {r : Rg} : c_a_range fu [dR r] S = some (.bl (okR r), S) := by
  have h1 := end_dO (fu := fu) (S := S) (e := r.1)
  have h2 := end_dO (fu := fu) (S := S) (e := r.2)
  obtain ⟨lo, hi⟩ := r
  cases lo <;> cases hi <;> simp only [dO] at h1 h2 <;> simp [c_a_range, u_a_range, b_a_range, shut_same, dR, okR, h1, h2]
def isLet (c : Nat) : Bool := fLe [97] [c] && fLe [c] [122]
def isDig (c : Nat) : Bool := fLe [48] [c] && fLe [c] [57]
def lets : List Nat → Nat
  | [] => 0
  | c :: r => if isLet c then lets r + 1 else 0
def shortC (cs : List Nat) : Bool := !(decide (3 < cs.length) || (decide (1 < cs.length) && cs.head? == some 48)) && cs.all isDig
def isName (z : Str) : Bool := decide (1 ≤ lets z.cps.toList) && decide (lets z.cps.toList ≤ 6) && shortC (z.cps.toList.drop (lets z.cps.toList))
theorem lets_le : ∀ cs : List Nat, lets cs ≤ cs.length
  | [] => Nat.le_refl _
  | c :: r => by
    unfold lets
    split
    · have := lets_le r
      simp only [List.length_cons]; omega
    · exact Nat.zero_le _
theorem r_ix_str {z : Str} {i : Int} (h : z.length ≤ lim) : gIx (.str z) (.int i) S = (match atI z.cps.toList i with
      | some c => some (.str ⟨#[c]⟩, S)
      | none => none) := by
  show (if z.length ≤ lim then _ else _) = _
  rw [if_pos h]
  all_goals (cases atI z.cps.toList i <;> rfl)
theorem r_len_str {z : Str} (h : z.length ≤ lim) : cLen [.str z] S = some (.int z.length, S) := if_pos h
theorem len_str {z : Str} : z.length = z.cps.toList.length := by simp [Str.length]
theorem r_sl_str {rm : Bool} {z : Str} {lo hi : Option Int} (h : z.length ≤ lim) : gSl rm (.str z) lo hi S = some (.str (cutS z lo hi), S) := if_pos h
theorem cutS_from {z : Str} {n : Nat} (h : n ≤ z.length) : (cutS z (some (n : Int)) none).cps.toList = z.cps.toList.drop n := by
  unfold cutS
  rw [HT.sIx_nat, HT.sIx_none, Nat.min_eq_left h]
  simp only []
  rw [List.take_of_length_le (by rw [List.length_drop, len_str]; exact Nat.le_refl _)]
theorem name_loop {z : Str} (hz : z.length ≤ lim) : ∀ (cs : List Nat) (k n : Nat), z.cps.toList.drop k = cs → cs.length < n →
    whileL (tAndF (truB (eBin (gCmp2 (fun i j => decide (i < j)) fLt) (eVar 1) (eCall cLen (aCons (eVar 0) aNil)))) (truB (eChain (gCmp2 (fun i j => decide (i ≤ j)) fLe) (gCmp2 (fun i j => decide (i ≤ j)) fLe) (eC (.str "a")) (eBin gIx (eVar 0) (eVar 1)) (eC (.str "z"))))) (sCons (sAug 1 (fun i j => i + j) (eC (.int 1))) sNil) n [some (.str z), some (.int (k : Nat))] S = some (.nx [some (.str z), some (.int ((k + lets cs : Nat) : Int))], S)
  | cs, k, 0, h, hn => by omega
  | [], k, n + 1, h, hn => by
    have hk : z.cps.toList.length ≤ k := by
      have := congrArg List.length h
      rw [List.length_drop] at this
      simp only [List.length_nil] at this
      omega
    unfold whileL
    have e1 : decide ((k : Int) < (z.length : Int)) = false := decide_eq_false (by rw [len_str]; omega)
    simp only [r_tAnd, r_truB, r_eBin, r_eVar, r_eCall, r_aCons, r_aNil, List.getElem?_cons_zero, List.getElem?_cons_succ, r_len_str hz, r_cmp2i, e1, lets, Nat.add_zero]
  | c :: r, k, n + 1, h, hn => by
    have hk : k < z.cps.toList.length := by
      have := congrArg List.length h
      rw [List.length_drop] at this
      simp only [List.length_cons] at this
      omega
    have hc : z.cps.toList[k]? = some c := by
      have := congrArg (·[0]?) h
      simpa using this
    have hr : z.cps.toList.drop (k + 1) = r := by
      have := congrArg List.tail h
      rwa [List.tail_drop, List.tail_cons] at this
    have e1 : decide ((k : Int) < (z.length : Int)) = true := decide_eq_true (by rw [len_str]; omega)
    have e2 : atI z.cps.toList (k : Int) = some c := atI_nat hc
    have ih := name_loop hz r (k + 1) n hr (by simp only [List.length_cons] at hn; omega)
    unfold whileL
    have ea : ("a" : Str).cps.toList = [97] := by decide +kernel
    have ez : ("z" : Str).cps.toList = [122] := by decide +kernel
    have eg : gCmp2 (fun i j => decide (i ≤ j)) fLe (.str "a") (.str ⟨#[c]⟩) S = some (.bl (fLe [97] [c]), S) := by rw [r_cmp2t, ea]
    have eh : gCmp2 (fun i j => decide (i ≤ j)) fLe (.str ⟨#[c]⟩) (.str "z") S = some (.bl (fLe [c] [122]), S) := by rw [r_cmp2t, ez]
    cases q1 : fLe [97] [c] <;> cases q2 : fLe [c] [122] <;>
      simp only [r_tAnd, r_truB, r_eBin, r_eVar, r_eC, r_eChain, r_eCall, r_aCons, r_aNil, List.getElem?_cons_zero, List.getElem?_cons_succ, r_len_str hz, r_cmp2i, e1, r_ix_str hz, e2, eg, eh, q1, q2, lets, isLet, Bool.false_and, Bool.and_false, Bool.true_and, if_false, Bool.false_eq_true, Nat.add_zero, if_true, Bool.and_true]
    rw [r_sCons]
    have e3 : sAug 1 (fun i j => i + j) (eC (.int 1)) [some (.str z), some (.int (k : Nat))] S = some (.nx [some (.str z), some (.int ((k + 1 : Nat) : Int))], S) := rfl
    rw [e3]
    simp only [r_sNil]
    rw [ih]
    rw [show k + 1 + lets r = k + (lets r + 1) by omega]
theorem short_ok (hf : 10000 ≤ fu) {z : Str} (hz : z.length ≤ 1000) : c__a_short_count fu [.str z] S = some (.bl (shortC z.cps.toList), S) := by
  have hl := lim_pos hz
  have e0 : ("0" : Str).cps.toList = [48] := by decide +kernel
  have e9 : ("9" : Str).cps.toList = [57] := by decide +kernel
  have hll := r_len_str (S := S) hl
  have hix := fun i => r_ix_str (S := S) (i := i) hl
  have e : ∀ S : Sto, eComp false fu [1] (iAny (eVar 0)) (.nm 1) tYesF (eChain (gCmp2 (fun i j => decide (i ≤ j)) fLe) (gCmp2 (fun i j => decide (i ≤ j)) fLe) (eC (.str "0")) (eVar 1) (eC (.str "9"))) [some (.str z), none] S = some (.vl (z.cps.toList.map fun c => .bl (isDig c)), S) := fun S =>
    comp_all (enc := fun c => D.str ⟨#[c]⟩) (xs := z.cps.toList) (S1 := S) (fun c => .bl (isDig c)) rfl (by rw [len_str] at hz; omega) (by rw [len_str] at hz; omega) (fun c hc S' => ⟨_, rfl, by
      have eg : gCmp2 (fun i j => decide (i ≤ j)) fLe (.str "0") (.str ⟨#[c]⟩) S' = some (.bl (fLe [48] [c]), S') := by rw [r_cmp2t, e0]
      have eh : gCmp2 (fun i j => decide (i ≤ j)) fLe (.str ⟨#[c]⟩) (.str "9") S' = some (.bl (fLe [c] [57]), S') := by rw [r_cmp2t, e9]
      have k1 : (List.set (wipeE [some (D.str z), none] [1]) 1 (some (D.str ⟨#[c]⟩)) : Lv.Env)[1]? = some (some (D.str ⟨#[c]⟩)) := rfl
      cases q1 : fLe [48] [c] <;> cases q2 : fLe [c] [57] <;> simp only [r_eChain, r_eC, r_eVar, k1, eg, eh, q1, q2, isDig, Bool.false_and, Bool.and_false, Bool.true_and]⟩) (fun c _ => by simp)
  have ea : ∀ S : Sto, cBools (fun bs => bs.all id) [D.vl (z.cps.toList.map fun c => .bl (isDig c))] S = some (.bl (z.cps.toList.all isDig), S) := fun S => all_vl
  rw [len_str] at hll
  generalize z.cps.toList = cs at *
  unfold c__a_short_count u__a_short_count b__a_short_count
  by_cases h3 : 3 < cs.length
  · have d1 : decide ((3 : Int) < (cs.length : Int)) = true := decide_eq_true (by omega)
    simp only [r_sCons, r_sIf, r_tAnd, r_tOr, r_tNot, r_truB, r_truF, r_truD_bl, r_eBin, r_eVar, r_eC, r_eCall, r_eCallK, r_aCons, r_aNil, r_eAnd, r_eOr, r_eNotT, r_eIf, r_eNeg, r_eChain, r_sNil, r_sDrop, r_sRet, r_sSet, r_sAsg, r_sPar, r_nm, r_tp, r_sets, r_sets0, List.getElem?_cons_zero, List.getElem?_cons_succ, List.set_cons_zero, List.set_cons_succ, List.length_cons, List.length_nil, List.map_cons, List.map_nil, List.cons_append, List.nil_append, Nat.zero_add, Nat.reduceAdd, Nat.sub_self, Nat.reduceSub, Nat.add_zero, List.reduceReplicate, List.replicate_zero, List.append_nil, if_true, if_false, Bool.false_eq_true, Bool.not_true, Bool.not_false, Bool.true_and, Bool.and_true, Bool.false_and, Bool.and_false, Bool.or_true, Bool.true_or, Bool.false_or, Bool.or_false, reduceIte, r_fnF, r_sealed, r_start, t_tup0, t_tup1, t_tup2, t_tup3, t_tup4, t_lst0, t_lst1, t_lst2, t_lst3, t_lst4, t_lst5, t_lst6, t_lst7, t_lst8, t_lst9, t_lst10, r_mkV, r_mkR, r_isN, r_non0, r_non1, r_non2, r_non3, r_non4, r_non5, r_non6, isi_int, isi_intb, isi_tup, isi_str, isi_vl, isi_ints, isi_tups, r_cmp2i, r_cmp2t, r_cmpI, r_eqv_int, r_eqv_str, r_add, r_sub, r_arith, r_ix_tup, r_ix_vl, r_len_tup, r_len_vl, r_cInt, r_cMin, r_cMax, r_lof_vl, r_lof_tup, r_tof_vl, r_tof_tup, r_truD_vl, r_truD_tup, r_truD_int, r_truD_non, r_oSome, r_oNone, r_eSl, r_sl_vl, r_sl_tup, r_iAny, r_eMethL, r_isRef_vl, ix20, ix21, nr_int, nr_bl, nr_non, nr_str, nr_tup, nr_vl, nrs_nil, nrs_cons, shut_same, pick_nil, pick_cons, decide_true, decide_false, hll, d1, shortC, decide_eq_true h3]
  · have d1 : decide ((3 : Int) < (cs.length : Int)) = false := decide_eq_false (by omega)
    by_cases h1 : 1 < cs.length
    · have d2 : decide ((1 : Int) < (cs.length : Int)) = true := decide_eq_true (by omega)
      obtain ⟨c, r, rfl⟩ : ∃ c r, cs = c :: r := by
        cases cs with
        | nil => simp at h1
        | cons c r => exact ⟨c, r, rfl⟩
      have ix : atI (c :: r) 0 = some c := atI_nat (j := 0) rfl
      have st : decide ((⟨#[c]⟩ : Str) = "0") = (c == 48) := by
        rw [Bool.eq_iff_iff]
        constructor
        · intro h
          have h := of_decide_eq_true h
          have := congrArg (·.cps.toList) h
          dsimp only at this
          rw [e0] at this
          simpa using this
        · intro h
          have h : c = 48 := by simpa using h
          subst h
          decide +kernel
      have hd : ((c :: r).head? == some 48) = (c == 48) := by simp
      simp only [List.length_cons, List.map_cons] at hll d1 d2 h1 h3 e ea
      cases qc : (c == 48) <;> simp only [r_sCons, r_sIf, r_tAnd, r_tOr, r_tNot, r_truB, r_truF, r_truD_bl, r_eBin, r_eVar, r_eC, r_eCall, r_eCallK, r_aCons, r_aNil, r_eAnd, r_eOr, r_eNotT, r_eIf, r_eNeg, r_eChain, r_sNil, r_sDrop, r_sRet, r_sSet, r_sAsg, r_sPar, r_nm, r_tp, r_sets, r_sets0, List.getElem?_cons_zero, List.getElem?_cons_succ, List.set_cons_zero, List.set_cons_succ, List.length_cons, List.length_nil, List.map_cons, List.map_nil, List.cons_append, List.nil_append, Nat.zero_add, Nat.reduceAdd, Nat.sub_self, Nat.reduceSub, Nat.add_zero, List.reduceReplicate, List.replicate_zero, List.append_nil, if_true, if_false, Bool.false_eq_true, Bool.not_true, Bool.not_false, Bool.true_and, Bool.and_true, Bool.false_and, Bool.and_false, Bool.or_true, Bool.true_or, Bool.false_or, Bool.or_false, reduceIte, r_fnF, r_sealed, r_start, t_tup0, t_tup1, t_tup2, t_tup3, t_tup4, t_lst0, t_lst1, t_lst2, t_lst3, t_lst4, t_lst5, t_lst6, t_lst7, t_lst8, t_lst9, t_lst10, r_mkV, r_mkR, r_isN, r_non0, r_non1, r_non2, r_non3, r_non4, r_non5, r_non6, isi_int, isi_intb, isi_tup, isi_str, isi_vl, isi_ints, isi_tups, r_cmp2i, r_cmp2t, r_cmpI, r_eqv_int, r_eqv_str, r_add, r_sub, r_arith, r_ix_tup, r_ix_vl, r_len_tup, r_len_vl, r_cInt, r_cMin, r_cMax, r_lof_vl, r_lof_tup, r_tof_vl, r_tof_tup, r_truD_vl, r_truD_tup, r_truD_int, r_truD_non, r_oSome, r_oNone, r_eSl, r_sl_vl, r_sl_tup, r_iAny, r_eMethL, r_isRef_vl, ix20, ix21, nr_int, nr_bl, nr_non, nr_str, nr_tup, nr_vl, nrs_nil, nrs_cons, shut_same, pick_nil, pick_cons, decide_true, decide_false, hll, d1, d2, hix, ix, st, qc, e, ea, shortC, decide_eq_false h3, decide_eq_true h1, hd]
    · have d2 : decide ((1 : Int) < (cs.length : Int)) = false := decide_eq_false (by omega)
      simp only [r_sCons, r_sIf, r_tAnd, r_tOr, r_tNot, r_truB, r_truF, r_truD_bl, r_eBin, r_eVar, r_eC, r_eCall, r_eCallK, r_aCons, r_aNil, r_eAnd, r_eOr, r_eNotT, r_eIf, r_eNeg, r_eChain, r_sNil, r_sDrop, r_sRet, r_sSet, r_sAsg, r_sPar, r_nm, r_tp, r_sets, r_sets0, List.getElem?_cons_zero, List.getElem?_cons_succ, List.set_cons_zero, List.set_cons_succ, List.length_cons, List.length_nil, List.map_cons, List.map_nil, List.cons_append, List.nil_append, Nat.zero_add, Nat.reduceAdd, Nat.sub_self, Nat.reduceSub, Nat.add_zero, List.reduceReplicate, List.replicate_zero, List.append_nil, if_true, if_false, Bool.false_eq_true, Bool.not_true, Bool.not_false, Bool.true_and, Bool.and_true, Bool.false_and, Bool.and_false, Bool.or_true, Bool.true_or, Bool.false_or, Bool.or_false, reduceIte, r_fnF, r_sealed, r_start, t_tup0, t_tup1, t_tup2, t_tup3, t_tup4, t_lst0, t_lst1, t_lst2, t_lst3, t_lst4, t_lst5, t_lst6, t_lst7, t_lst8, t_lst9, t_lst10, r_mkV, r_mkR, r_isN, r_non0, r_non1, r_non2, r_non3, r_non4, r_non5, r_non6, isi_int, isi_intb, isi_tup, isi_str, isi_vl, isi_ints, isi_tups, r_cmp2i, r_cmp2t, r_cmpI, r_eqv_int, r_eqv_str, r_add, r_sub, r_arith, r_ix_tup, r_ix_vl, r_len_tup, r_len_vl, r_cInt, r_cMin, r_cMax, r_lof_vl, r_lof_tup, r_tof_vl, r_tof_tup, r_truD_vl, r_truD_tup, r_truD_int, r_truD_non, r_oSome, r_oNone, r_eSl, r_sl_vl, r_sl_tup, r_iAny, r_eMethL, r_isRef_vl, ix20, ix21, nr_int, nr_bl, nr_non, nr_str, nr_tup, nr_vl, nrs_nil, nrs_cons, shut_same, pick_nil, pick_cons, decide_true, decide_false, hll, d1, d2, e, ea, shortC, decide_eq_false h3, decide_eq_false h1]
theorem name_ok (hf : 10000 ≤ fu) {z : Str} (hz : z.length ≤ 1000) : c_a_name fu [.str z] S = some (.bl (isName z), S) := by
  have hl := lim_pos hz
  have hn := name_loop (S := S) hl z.cps.toList 0 fu rfl (by rw [len_str] at hz; omega)
  rw [Nat.zero_add] at hn
  have hn' : whileL (tAndF (truB (eBin (gCmp2 (fun i j => decide (i < j)) fLt) (eVar 1) (eCall cLen (aCons (eVar 0) aNil)))) (truB (eChain (gCmp2 (fun i j => decide (i ≤ j)) fLe) (gCmp2 (fun i j => decide (i ≤ j)) fLe) (eC (.str "a")) (eBin gIx (eVar 0) (eVar 1)) (eC (.str "z"))))) (sCons (sAug 1 (fun i j => i + j) (eC (.int 1))) sNil) fu [some (.str z), some (.int 0)] S = _ := hn
  have hle := lets_le z.cps.toList
  have hsl := r_sl_str (S := S) (rm := false) (lo := some ((lets z.cps.toList : Nat) : Int)) (hi := none) hl
  have hc := cutS_from (z := z) (n := lets z.cps.toList) (by rw [len_str]; exact hle)
  have hsh := short_ok (S := S) hf (z := cutS z (some ((lets z.cps.toList : Nat) : Int)) none) (Nat.le_trans (cutS_length _ _ _) hz)
  rw [hc] at hsh
  unfold c_a_name u_a_name b_a_name
  have k1 : decide ((1 : Int) ≤ ((lets z.cps.toList : Nat) : Int)) = decide (1 ≤ lets z.cps.toList) := by
    rw [Bool.eq_iff_iff, decide_eq_true_iff, decide_eq_true_iff]; omega
  have k6 : decide (((lets z.cps.toList : Nat) : Int) ≤ (6 : Int)) = decide (lets z.cps.toList ≤ 6) := by
    rw [Bool.eq_iff_iff, decide_eq_true_iff, decide_eq_true_iff]; omega
  cases q1 : decide (1 ≤ lets z.cps.toList) <;> cases q2 : decide (lets z.cps.toList ≤ 6) <;> simp only [r_sCons, r_sIf, r_tAnd, r_tOr, r_tNot, r_truB, r_truF, r_truD_bl, r_eBin, r_eVar, r_eC, r_eCall, r_eCallK, r_aCons, r_aNil, r_eAnd, r_eOr, r_eNotT, r_eIf, r_eNeg, r_eChain, r_sNil, r_sDrop, r_sRet, r_sSet, r_sAsg, r_sPar, r_nm, r_tp, r_sets, r_sets0, List.getElem?_cons_zero, List.getElem?_cons_succ, List.set_cons_zero, List.set_cons_succ, List.length_cons, List.length_nil, List.map_cons, List.map_nil, List.cons_append, List.nil_append, Nat.zero_add, Nat.reduceAdd, Nat.sub_self, Nat.reduceSub, Nat.add_zero, List.reduceReplicate, List.replicate_zero, List.append_nil, if_true, if_false, Bool.false_eq_true, Bool.not_true, Bool.not_false, Bool.true_and, Bool.and_true, Bool.false_and, Bool.and_false, Bool.or_true, Bool.true_or, Bool.false_or, Bool.or_false, reduceIte, r_fnF, r_sealed, r_start, t_tup0, t_tup1, t_tup2, t_tup3, t_tup4, t_lst0, t_lst1, t_lst2, t_lst3, t_lst4, t_lst5, t_lst6, t_lst7, t_lst8, t_lst9, t_lst10, r_mkV, r_mkR, r_isN, r_non0, r_non1, r_non2, r_non3, r_non4, r_non5, r_non6, isi_int, isi_intb, isi_tup, isi_str, isi_vl, isi_ints, isi_tups, r_cmp2i, r_cmp2t, r_cmpI, r_eqv_int, r_eqv_str, r_add, r_sub, r_arith, r_ix_tup, r_ix_vl, r_len_tup, r_len_vl, r_cInt, r_cMin, r_cMax, r_lof_vl, r_lof_tup, r_tof_vl, r_tof_tup, r_truD_vl, r_truD_tup, r_truD_int, r_truD_non, r_oSome, r_oNone, r_eSl, r_sl_vl, r_sl_tup, r_iAny, r_eMethL, r_isRef_vl, ix20, ix21, nr_int, nr_bl, nr_non, nr_str, nr_tup, nr_vl, nrs_nil, nrs_cons, shut_same, pick_nil, pick_cons, decide_true, decide_false, hn', hsl, hsh, k1, k6, q1, q2, isName]
end
end Sp
namespace Sp
open PySem PySem.Spec PyProof.Rows L2 Lv Com
section
variable {fu : Nat} {S : Sto}
def LtS (a b : Str) : Prop := fLt a.cps.toList b.cps.toList = true
def ascB : List Str → Bool
  | a :: b :: r => fLt a.cps.toList b.cps.toList && ascB (b :: r)
  | _ => true
theorem cut_tail (xs : List D) : Lv.cutD xs (some 1) none = xs.drop 1 := by
  unfold Lv.cutD
  rw [show HT.sIx xs.length 0 (some 1) = min 1 xs.length from HT.sIx_nat _ _ 1, HT.sIx_none]
  by_cases h : 1 ≤ xs.length
  · rw [Nat.min_eq_left h, List.take_of_length_le (by rw [List.length_drop]; exact Nat.le_refl _)]
  · rw [Nat.min_eq_right (by omega), List.drop_eq_nil_of_le (Nat.le_refl _), List.drop_eq_nil_of_le (by omega)]
    simp
def pairs : List Str → List (Str × Str)
  | a :: b :: r => (a, b) :: pairs (b :: r)
  | _ => []
theorem pairs_zip : ∀ zs : List Str, zipD (zs.map D.str) ((zs.map D.str).drop 1) = (pairs zs).map fun p => .tup [.str p.1, .str p.2]
  | [] => rfl
  | [a] => rfl
  | a :: b :: r => by
    have ih := pairs_zip (b :: r)
    unfold zipD at ih ⊢
    simp only [List.map_cons, List.drop_succ_cons, List.drop_zero, List.zipWith_cons_cons, pairs] at ih ⊢
    rw [ih]
theorem pairs_asc : ∀ zs : List Str, ((pairs zs).all fun p => fLt p.1.cps.toList p.2.cps.toList) = ascB zs
  | [] => rfl
  | [a] => rfl
  | a :: b :: r => by
    simp only [pairs, List.all_cons, ascB, pairs_asc (b :: r)]
theorem pairs_len : ∀ zs : List Str, (pairs zs).length ≤ zs.length
  | [] => Nat.le_refl _
  | [a] => by simp [pairs]
  | a :: b :: r => by
    have := pairs_len (b :: r)
    simp only [pairs, List.length_cons] at this ⊢
    omega
theorem ascending_ok (hf : 10000 ≤ fu) {zs : List Str} (hl : zs.length ≤ 1000) : c_ascending fu [dN zs] S = some (.bl (ascB zs), S) := by
  have hp := pairs_len zs
  have e := comp_all (n := fu) (own := [1, 2]) (it := iZipA2 (aCons (eVar 0) (aCons (eSl false (eVar 0) (oSome (eC (.int 1))) oNone) aNil))) (t := .tp [1, 2]) (f := eBin (gCmp2 (fun i j => decide (i < j)) fLt) (eVar 1) (eVar 2)) (env := [some (dN zs), none, none]) (S := S) (S1 := S) (xs := pairs zs) (enc := fun p => .tup [.str p.1, .str p.2]) (fun p => .bl (fLt p.1.cps.toList p.2.cps.toList)) (by
      unfold iZipA2 iZipF
      simp only [r_sCons, r_sIf, r_tAnd, r_tOr, r_tNot, r_truB, r_truF, r_truD_bl, r_eBin, r_eVar, r_eC, r_eCall, r_eCallK, r_aCons, r_aNil, r_eAnd, r_eOr, r_eNotT, r_eIf, r_eNeg, r_eChain, r_sNil, r_sDrop, r_sRet, r_sSet, r_sAsg, r_sPar, r_nm, r_tp, r_sets, r_sets0, List.getElem?_cons_zero, List.getElem?_cons_succ, List.set_cons_zero, List.set_cons_succ, List.length_cons, List.length_nil, List.map_cons, List.map_nil, List.cons_append, List.nil_append, Nat.zero_add, Nat.reduceAdd, Nat.sub_self, Nat.reduceSub, Nat.add_zero, List.reduceReplicate, List.replicate_zero, List.append_nil, if_true, if_false, Bool.false_eq_true, Bool.not_true, Bool.not_false, Bool.true_and, Bool.and_true, Bool.false_and, Bool.and_false, Bool.or_true, Bool.true_or, Bool.false_or, Bool.or_false, reduceIte, r_fnF, r_sealed, r_start, t_tup0, t_tup1, t_tup2, t_tup3, t_tup4, t_lst0, t_lst1, t_lst2, t_lst3, t_lst4, t_lst5, t_lst6, t_lst7, t_lst8, t_lst9, t_lst10, r_mkV, r_mkR, r_isN, r_non0, r_non1, r_non2, r_non3, r_non4, r_non5, r_non6, isi_int, isi_intb, isi_tup, isi_str, isi_vl, isi_ints, isi_tups, r_cmp2i, r_cmp2t, r_cmpI, r_eqv_int, r_eqv_str, r_add, r_sub, r_arith, r_ix_tup, r_ix_vl, r_len_tup, r_len_vl, r_cInt, r_cMin, r_cMax, r_lof_vl, r_lof_tup, r_tof_vl, r_tof_tup, r_truD_vl, r_truD_tup, r_truD_int, r_truD_non, r_oSome, r_oNone, r_eSl, r_sl_vl, r_sl_tup, r_iAny, r_eMethL, r_isRef_vl, ix20, ix21, nr_int, nr_bl, nr_non, nr_str, nr_tup, nr_vl, nrs_nil, nrs_cons, shut_same, pick_nil, pick_cons, decide_true, decide_false, dN, cut_tail, r_sq_vl, pairs_zip]) (by omega) (by omega) (fun p hp S' => ⟨_, rfl, rfl⟩) (fun c _ => by simp)
  have ea := all_vl (q := fun p : Str × Str => fLt p.1.cps.toList p.2.cps.toList) (xs := pairs zs) (S := S)
  rw [pairs_asc] at ea
  unfold c_ascending u_ascending b_ascending
  simp only [r_sCons, r_sIf, r_tAnd, r_tOr, r_tNot, r_truB, r_truF, r_truD_bl, r_eBin, r_eVar, r_eC, r_eCall, r_eCallK, r_aCons, r_aNil, r_eAnd, r_eOr, r_eNotT, r_eIf, r_eNeg, r_eChain, r_sNil, r_sDrop, r_sRet, r_sSet, r_sAsg, r_sPar, r_nm, r_tp, r_sets, r_sets0, List.getElem?_cons_zero, List.getElem?_cons_succ, List.set_cons_zero, List.set_cons_succ, List.length_cons, List.length_nil, List.map_cons, List.map_nil, List.cons_append, List.nil_append, Nat.zero_add, Nat.reduceAdd, Nat.sub_self, Nat.reduceSub, Nat.add_zero, List.reduceReplicate, List.replicate_zero, List.append_nil, if_true, if_false, Bool.false_eq_true, Bool.not_true, Bool.not_false, Bool.true_and, Bool.and_true, Bool.false_and, Bool.and_false, Bool.or_true, Bool.true_or, Bool.false_or, Bool.or_false, reduceIte, r_fnF, r_sealed, r_start, t_tup0, t_tup1, t_tup2, t_tup3, t_tup4, t_lst0, t_lst1, t_lst2, t_lst3, t_lst4, t_lst5, t_lst6, t_lst7, t_lst8, t_lst9, t_lst10, r_mkV, r_mkR, r_isN, r_non0, r_non1, r_non2, r_non3, r_non4, r_non5, r_non6, isi_int, isi_intb, isi_tup, isi_str, isi_vl, isi_ints, isi_tups, r_cmp2i, r_cmp2t, r_cmpI, r_eqv_int, r_eqv_str, r_add, r_sub, r_arith, r_ix_tup, r_ix_vl, r_len_tup, r_len_vl, r_cInt, r_cMin, r_cMax, r_lof_vl, r_lof_tup, r_tof_vl, r_tof_tup, r_truD_vl, r_truD_tup, r_truD_int, r_truD_non, r_oSome, r_oNone, r_eSl, r_sl_vl, r_sl_tup, r_iAny, r_eMethL, r_isRef_vl, ix20, ix21, nr_int, nr_bl, nr_non, nr_str, nr_tup, nr_vl, nrs_nil, nrs_cons, shut_same, pick_nil, pick_cons, decide_true, decide_false, e, ea]
def namesB (zs : List Str) : Bool := !zs.isEmpty && (zs.all isName && ascB zs)
theorem some_names_ok (hf : 10000 ≤ fu) {zs : List Str} (hl : zs.length ≤ 1000) (hz : ∀ z ∈ zs, z.length ≤ 1000) : c_some_names fu [dN zs] S = some (.bl (namesB zs), S) := by
  have e := comp_all (n := fu) (own := [1]) (it := iAny (eVar 0)) (t := .nm 1) (f := eCall (c_a_name fu) (aCons (eVar 1) aNil)) (env := [some (dN zs), none]) (S := S) (S1 := S) (xs := zs) (enc := D.str) (fun p => .bl (isName p)) rfl (by omega) (by omega) (fun p hp S' => ⟨_, rfl, by
    have k : (List.set (wipeE [some (dN zs), none] [1]) 1 (some (D.str p)) : Lv.Env)[1]? = some (some (.str p)) := rfl
    simp only [r_sCons, r_sIf, r_tAnd, r_tOr, r_tNot, r_truB, r_truF, r_truD_bl, r_eBin, r_eVar, r_eC, r_eCall, r_eCallK, r_aCons, r_aNil, r_eAnd, r_eOr, r_eNotT, r_eIf, r_eNeg, r_eChain, r_sNil, r_sDrop, r_sRet, r_sSet, r_sAsg, r_sPar, r_nm, r_tp, r_sets, r_sets0, List.getElem?_cons_zero, List.getElem?_cons_succ, List.set_cons_zero, List.set_cons_succ, List.length_cons, List.length_nil, List.map_cons, List.map_nil, List.cons_append, List.nil_append, Nat.zero_add, Nat.reduceAdd, Nat.sub_self, Nat.reduceSub, Nat.add_zero, List.reduceReplicate, List.replicate_zero, List.append_nil, if_true, if_false, Bool.false_eq_true, Bool.not_true, Bool.not_false, Bool.true_and, Bool.and_true, Bool.false_and, Bool.and_false, Bool.or_true, Bool.true_or, Bool.false_or, Bool.or_false, reduceIte, r_fnF, r_sealed, r_start, t_tup0, t_tup1, t_tup2, t_tup3, t_tup4, t_lst0, t_lst1, t_lst2, t_lst3, t_lst4, t_lst5, t_lst6, t_lst7, t_lst8, t_lst9, t_lst10, r_mkV, r_mkR, r_isN, r_non0, r_non1, r_non2, r_non3, r_non4, r_non5, r_non6, isi_int, isi_intb, isi_tup, isi_str, isi_vl, isi_ints, isi_tups, r_cmp2i, r_cmp2t, r_cmpI, r_eqv_int, r_eqv_str, r_add, r_sub, r_arith, r_ix_tup, r_ix_vl, r_len_tup, r_len_vl, r_cInt, r_cMin, r_cMax, r_lof_vl, r_lof_tup, r_tof_vl, r_tof_tup, r_truD_vl, r_truD_tup, r_truD_int, r_truD_non, r_oSome, r_oNone, r_eSl, r_sl_vl, r_sl_tup, r_iAny, r_eMethL, r_isRef_vl, ix20, ix21, nr_int, nr_bl, nr_non, nr_str, nr_tup, nr_vl, nrs_nil, nrs_cons, shut_same, pick_nil, pick_cons, decide_true, decide_false, k, name_ok hf (hz p hp)]⟩) (fun c _ => by simp)
  have ea := all_vl (q := isName) (xs := zs) (S := S)
  have easc := ascending_ok (S := S) hf hl
  have em : (zs.map D.str).isEmpty = zs.isEmpty := by cases zs <;> rfl
  unfold c_some_names u_some_names b_some_names
  have i1 : cIsi [dN zs, .ty "list"] S = some (.bl true, S) := rfl
  have i2 : truD S (dN zs) = some (!zs.isEmpty) := by rw [← em]; rfl
  cases q0 : zs.isEmpty <;> cases q : zs.all isName <;> cases q2 : ascB zs <;> simp only [r_sCons, r_sIf, r_tAnd, r_tOr, r_tNot, r_truB, r_truF, r_truD_bl, r_eBin, r_eVar, r_eC, r_eCall, r_eCallK, r_aCons, r_aNil, r_eAnd, r_eOr, r_eNotT, r_eIf, r_eNeg, r_eChain, r_sNil, r_sDrop, r_sRet, r_sSet, r_sAsg, r_sPar, r_nm, r_tp, r_sets, r_sets0, List.getElem?_cons_zero, List.getElem?_cons_succ, List.set_cons_zero, List.set_cons_succ, List.length_cons, List.length_nil, List.map_cons, List.map_nil, List.cons_append, List.nil_append, Nat.zero_add, Nat.reduceAdd, Nat.sub_self, Nat.reduceSub, Nat.add_zero, List.reduceReplicate, List.replicate_zero, List.append_nil, if_true, if_false, Bool.false_eq_true, Bool.not_true, Bool.not_false, Bool.true_and, Bool.and_true, Bool.false_and, Bool.and_false, Bool.or_true, Bool.true_or, Bool.false_or, Bool.or_false, reduceIte, r_fnF, r_sealed, r_start, t_tup0, t_tup1, t_tup2, t_tup3, t_tup4, t_lst0, t_lst1, t_lst2, t_lst3, t_lst4, t_lst5, t_lst6, t_lst7, t_lst8, t_lst9, t_lst10, r_mkV, r_mkR, r_isN, r_non0, r_non1, r_non2, r_non3, r_non4, r_non5, r_non6, isi_int, isi_intb, isi_tup, isi_str, isi_vl, isi_ints, isi_tups, r_cmp2i, r_cmp2t, r_cmpI, r_eqv_int, r_eqv_str, r_add, r_sub, r_arith, r_ix_tup, r_ix_vl, r_len_tup, r_len_vl, r_cInt, r_cMin, r_cMax, r_lof_vl, r_lof_tup, r_tof_vl, r_tof_tup, r_truD_vl, r_truD_tup, r_truD_int, r_truD_non, r_oSome, r_oNone, r_eSl, r_sl_vl, r_sl_tup, r_iAny, r_eMethL, r_isRef_vl, ix20, ix21, nr_int, nr_bl, nr_non, nr_str, nr_tup, nr_vl, nrs_nil, nrs_cons, shut_same, pick_nil, pick_cons, decide_true, decide_false, i1, i2, e, ea, easc, namesB, q0, q, q2]
theorem in_names {neg : Bool} {zs : List Str} {x : Str} : gIn2 neg (.str x) (dN zs) S = some (.bl (if neg then !zs.contains x else zs.contains x), S) := in2_of <| by
  have h1 : (zs.map D.str).all flatD = true := by
    rw [List.all_map]
    exact List.all_eq_true.mpr fun z _ => rfl
  have h2 : ((zs.map D.str).any fun d => eqD d (.str x)) = zs.contains x := by
    rw [List.any_map]
    have : ((fun d => eqD d (.str x)) ∘ D.str) = fun z => z == x := by funext z; rfl
    rw [this]
    induction zs with
    | nil => rfl
    | cons z r ih => 
      rw [List.any_cons, List.contains_cons, ih (by rw [List.all_map]; exact List.all_eq_true.mpr fun z _ => rfl)]
      congr 1
      rw [Bool.eq_iff_iff]
      simp only [beq_iff_eq]
      exact eq_comm
  unfold gIn
  rw [show itemsOf S (dN zs) = some (zs.map D.str) from rfl]
  dsimp only
  rw [h1, h2]
  rfl
inductive Part where
  | pn (x : Str) | pc (i : Int) | pr (r : Rg)
def Part.form : Part → Str
  | .pn _ => "n"
  | .pc _ => "c"
  | .pr _ => "r"
def Part.val : Part → D
  | .pn x => .str x
  | .pc i => .int i
  | .pr r => dR r
def Part.ok (zs : List Str) : Part → Bool
  | .pn x => zs.contains x
  | .pc _ => true
  | .pr r => okR r
theorem part_ok {zs : List Str} (p : Part) : c__a_part fu [dN zs, .str p.form, p.val] S = some (.bl (p.ok zs), S) := by
  unfold c__a_part u__a_part b__a_part
  have e1 : decide (("c" : Str) = "n") = false := by decide +kernel
  have e2 : decide (("r" : Str) = "n") = false := by decide +kernel
  have e3 : decide (("r" : Str) = "c") = false := by decide +kernel
  have e4 : decide (("n" : Str) = "n") = true := by decide +kernel
  have e5 : decide (("c" : Str) = "c") = true := by decide +kernel
  cases p with
  | pn x => simp only [r_sCons, r_sIf, r_tAnd, r_tOr, r_tNot, r_truB, r_truF, r_truD_bl, r_eBin, r_eVar, r_eC, r_eCall, r_eCallK, r_aCons, r_aNil, r_eAnd, r_eOr, r_eNotT, r_eIf, r_eNeg, r_eChain, r_sNil, r_sDrop, r_sRet, r_sSet, r_sAsg, r_sPar, r_nm, r_tp, r_sets, r_sets0, List.getElem?_cons_zero, List.getElem?_cons_succ, List.set_cons_zero, List.set_cons_succ, List.length_cons, List.length_nil, List.map_cons, List.map_nil, List.cons_append, List.nil_append, Nat.zero_add, Nat.reduceAdd, Nat.sub_self, Nat.reduceSub, Nat.add_zero, List.reduceReplicate, List.replicate_zero, List.append_nil, if_true, if_false, Bool.false_eq_true, Bool.not_true, Bool.not_false, Bool.true_and, Bool.and_true, Bool.false_and, Bool.and_false, Bool.or_true, Bool.true_or, Bool.false_or, Bool.or_false, reduceIte, r_fnF, r_sealed, r_start, t_tup0, t_tup1, t_tup2, t_tup3, t_tup4, t_lst0, t_lst1, t_lst2, t_lst3, t_lst4, t_lst5, t_lst6, t_lst7, t_lst8, t_lst9, t_lst10, r_mkV, r_mkR, r_isN, r_non0, r_non1, r_non2, r_non3, r_non4, r_non5, r_non6, isi_int, isi_intb, isi_tup, isi_str, isi_vl, isi_ints, isi_tups, r_cmp2i, r_cmp2t, r_cmpI, r_eqv_int, r_eqv_str, r_add, r_sub, r_arith, r_ix_tup, r_ix_vl, r_len_tup, r_len_vl, r_cInt, r_cMin, r_cMax, r_lof_vl, r_lof_tup, r_tof_vl, r_tof_tup, r_truD_vl, r_truD_tup, r_truD_int, r_truD_non, r_oSome, r_oNone, r_eSl, r_sl_vl, r_sl_tup, r_iAny, r_eMethL, r_isRef_vl, ix20, ix21, nr_int, nr_bl, nr_non, nr_str, nr_tup, nr_vl, nrs_nil, nrs_cons, shut_same, pick_nil, pick_cons, decide_true, decide_false, Part.form, Part.val, Part.ok, e1, e2, e3, e4, e5, in_names]
  | pc i => simp only [r_sCons, r_sIf, r_tAnd, r_tOr, r_tNot, r_truB, r_truF, r_truD_bl, r_eBin, r_eVar, r_eC, r_eCall, r_eCallK, r_aCons, r_aNil, r_eAnd, r_eOr, r_eNotT, r_eIf, r_eNeg, r_eChain, r_sNil, r_sDrop, r_sRet, r_sSet, r_sAsg, r_sPar, r_nm, r_tp, r_sets, r_sets0, List.getElem?_cons_zero, List.getElem?_cons_succ, List.set_cons_zero, List.set_cons_succ, List.length_cons, List.length_nil, List.map_cons, List.map_nil, List.cons_append, List.nil_append, Nat.zero_add, Nat.reduceAdd, Nat.sub_self, Nat.reduceSub, Nat.add_zero, List.reduceReplicate, List.replicate_zero, List.append_nil, if_true, if_false, Bool.false_eq_true, Bool.not_true, Bool.not_false, Bool.true_and, Bool.and_true, Bool.false_and, Bool.and_false, Bool.or_true, Bool.true_or, Bool.false_or, Bool.or_false, reduceIte, r_fnF, r_sealed, r_start, t_tup0, t_tup1, t_tup2, t_tup3, t_tup4, t_lst0, t_lst1, t_lst2, t_lst3, t_lst4, t_lst5, t_lst6, t_lst7, t_lst8, t_lst9, t_lst10, r_mkV, r_mkR, r_isN, r_non0, r_non1, r_non2, r_non3, r_non4, r_non5, r_non6, isi_int, isi_intb, isi_tup, isi_str, isi_vl, isi_ints, isi_tups, r_cmp2i, r_cmp2t, r_cmpI, r_eqv_int, r_eqv_str, r_add, r_sub, r_arith, r_ix_tup, r_ix_vl, r_len_tup, r_len_vl, r_cInt, r_cMin, r_cMax, r_lof_vl, r_lof_tup, r_tof_vl, r_tof_tup, r_truD_vl, r_truD_tup, r_truD_int, r_truD_non, r_oSome, r_oNone, r_eSl, r_sl_vl, r_sl_tup, r_iAny, r_eMethL, r_isRef_vl, ix20, ix21, nr_int, nr_bl, nr_non, nr_str, nr_tup, nr_vl, nrs_nil, nrs_cons, shut_same, pick_nil, pick_cons, decide_true, decide_false, Part.form, Part.val, Part.ok, e1, e2, e3, e4, e5, whole_int]
  | pr r => simp only [r_sCons, r_sIf, r_tAnd, r_tOr, r_tNot, r_truB, r_truF, r_truD_bl, r_eBin, r_eVar, r_eC, r_eCall, r_eCallK, r_aCons, r_aNil, r_eAnd, r_eOr, r_eNotT, r_eIf, r_eNeg, r_eChain, r_sNil, r_sDrop, r_sRet, r_sSet, r_sAsg, r_sPar, r_nm, r_tp, r_sets, r_sets0, List.getElem?_cons_zero, List.getElem?_cons_succ, List.set_cons_zero, List.set_cons_succ, List.length_cons, List.length_nil, List.map_cons, List.map_nil, List.cons_append, List.nil_append, Nat.zero_add, Nat.reduceAdd, Nat.sub_self, Nat.reduceSub, Nat.add_zero, List.reduceReplicate, List.replicate_zero, List.append_nil, if_true, if_false, Bool.false_eq_true, Bool.not_true, Bool.not_false, Bool.true_and, Bool.and_true, Bool.false_and, Bool.and_false, Bool.or_true, Bool.true_or, Bool.false_or, Bool.or_false, reduceIte, r_fnF, r_sealed, r_start, t_tup0, t_tup1, t_tup2, t_tup3, t_tup4, t_lst0, t_lst1, t_lst2, t_lst3, t_lst4, t_lst5, t_lst6, t_lst7, t_lst8, t_lst9, t_lst10, r_mkV, r_mkR, r_isN, r_non0, r_non1, r_non2, r_non3, r_non4, r_non5, r_non6, isi_int, isi_intb, isi_tup, isi_str, isi_vl, isi_ints, isi_tups, r_cmp2i, r_cmp2t, r_cmpI, r_eqv_int, r_eqv_str, r_add, r_sub, r_arith, r_ix_tup, r_ix_vl, r_len_tup, r_len_vl, r_cInt, r_cMin, r_cMax, r_lof_vl, r_lof_tup, r_tof_vl, r_tof_tup, r_truD_vl, r_truD_tup, r_truD_int, r_truD_non, r_oSome, r_oNone, r_eSl, r_sl_vl, r_sl_tup, r_iAny, r_eMethL, r_isRef_vl, ix20, ix21, nr_int, nr_bl, nr_non, nr_str, nr_tup, nr_vl, nrs_nil, nrs_cons, shut_same, pick_nil, pick_cons, decide_true, decide_false, Part.form, Part.val, Part.ok, e1, e2, e3, e4, e5, range_dR]
inductive Deed where
  | dgo
  | dset (x : Str) (n : Int)
  | dadd (x : Str) (y : Str) (n : Int)
  | dturn (x : Str) (y : Str) (n : Int)
  | dinput (x : Str) (r : Rg)
  | dleast (x : Str) (y : Str) (z : Str)
  | dgreatest (x : Str) (y : Str) (z : Str)
  | dupto (x : Str) (n : Int)
  | dfrom (x : Str) (n : Int)
  | dbelow (x : Str) (y : Str) (n : Int)
  | dequal (x : Str) (y : Str) (n : Int)
def dParts : Deed → List Part
  | .dgo => []
  | .dset x n => [.pn x, .pc n]
  | .dadd x y n => [.pn x, .pn y, .pc n]
  | .dturn x y n => [.pn x, .pn y, .pc n]
  | .dinput x r => [.pn x, .pr r]
  | .dleast x y z => [.pn x, .pn y, .pn z]
  | .dgreatest x y z => [.pn x, .pn y, .pn z]
  | .dupto x n => [.pn x, .pc n]
  | .dfrom x n => [.pn x, .pc n]
  | .dbelow x y n => [.pn x, .pn y, .pc n]
  | .dequal x y n => [.pn x, .pn y, .pc n]
def dArgs : Deed → List D
  | .dgo => []
  | .dset x n => [.str x, .int n]
  | .dadd x y n => [.str x, .str y, .int n]
  | .dturn x y n => [.str x, .str y, .int n]
  | .dinput x r => [.str x, dR r]
  | .dleast x y z => [.str x, .str y, .str z]
  | .dgreatest x y z => [.str x, .str y, .str z]
  | .dupto x n => [.str x, .int n]
  | .dfrom x n => [.str x, .int n]
  | .dbelow x y n => [.str x, .str y, .int n]
  | .dequal x y n => [.str x, .str y, .int n]
def dWord : Deed → Str
  | .dgo => "go"
  | .dset _ _ => "set"
  | .dadd _ _ _ => "add"
  | .dturn _ _ _ => "turn"
  | .dinput _ _ => "input"
  | .dleast _ _ _ => "least"
  | .dgreatest _ _ _ => "greatest"
  | .dupto _ _ => "upto"
  | .dfrom _ _ => "from"
  | .dbelow _ _ _ => "below"
  | .dequal _ _ _ => "equal"
def dForm : Deed → Str
  | .dgo => ""
  | .dset _ _ => "nc"
  | .dadd _ _ _ => "nnc"
  | .dturn _ _ _ => "nnc"
  | .dinput _ _ => "nr"
  | .dleast _ _ _ => "nnn"
  | .dgreatest _ _ _ => "nnn"
  | .dupto _ _ => "nc"
  | .dfrom _ _ => "nc"
  | .dbelow _ _ _ => "nnc"
  | .dequal _ _ _ => "nnc"
def dD (d : Deed) : D := .tup (.str (dWord d) :: dArgs d)
theorem args_val (d : Deed) : dArgs d = (dParts d).map Part.val := by cases d <;> rfl
theorem args_form (d : Deed) : signsD (dForm d) = (dParts d).map fun p => .str p.form := by cases d <;> kernel_rfl
theorem form_len (d : Deed) : (dForm d).length = (dArgs d).length := by cases d <;> kernel_rfl
theorem form_get (d : Deed) : k_DEED_FORMS.lookup (dWord d) = some (dForm d) := by cases d <;> kernel_rfl
def dPair : Deed → Bool
  | .dbelow x y _ => decide (x ≠ y)
  | .dequal x y _ => decide (x ≠ y)
  | _ => true
def okD (zs : List Str) (d : Deed) : Bool := (dParts d).all (Part.ok zs) && dPair d
@[simp] theorem nr_dD {d : Deed} : noRef (dD d) = true := by
  cases d <;> simp [dD, dArgs]
theorem zip_map {α : Type} (f g : α → D) : ∀ xs : List α, zipD (xs.map f) (xs.map g) = xs.map fun x => .tup [f x, g x]
  | [] => rfl
  | x :: xs => by
    have ih := zip_map f g xs
    unfold zipD at ih ⊢
    simp only [List.map_cons, List.zipWith_cons_cons, ih]
theorem not_pair (d : Deed) : gIn2 true (.str (dWord d)) (.tup (k_PAIR_TESTS.map D.str)) S = some (.bl (match d with
    | .dbelow _ _ _ => false
    | .dequal _ _ _ => false
    | _ => true), S) := in2_of (by cases d <;> kernel_rfl)
theorem deed_ok (hf : 10000 ≤ fu) {zs : List Str} (d : Deed) : c_a_deed fu [dN zs, dD d] S = some (.bl (okD zs d), S) := by
  have hlen : (dParts d).length ≤ 3 := by cases d <;> exact Nat.le_of_ble_eq_true rfl
  have i0 : atI (D.str (dWord d) :: dArgs d) 0 = some (.str (dWord d)) := atI_nat (xs := D.str (dWord d) :: dArgs d) (j := 0) rfl
  have i1 : eKGet k_DEED_FORMS (eBin gIx (eVar 1) (eC (.int 0))) [some (dN zs), some (dD d), none, none, none] S = some (.str (dForm d), S) := by
    unfold eKGet
    simp only [r_sCons, r_sIf, r_tAnd, r_tOr, r_tNot, r_truB, r_truF, r_truD_bl, r_eBin, r_eVar, r_eC, r_eCall, r_eCallK, r_aCons, r_aNil, r_eAnd, r_eOr, r_eNotT, r_eIf, r_eNeg, r_eChain, r_sNil, r_sDrop, r_sRet, r_sSet, r_sAsg, r_sPar, r_nm, r_tp, r_sets, r_sets0, List.getElem?_cons_zero, List.getElem?_cons_succ, List.set_cons_zero, List.set_cons_succ, List.length_cons, List.length_nil, List.map_cons, List.map_nil, List.cons_append, List.nil_append, Nat.zero_add, Nat.reduceAdd, Nat.sub_self, Nat.reduceSub, Nat.add_zero, List.reduceReplicate, List.replicate_zero, List.append_nil, if_true, if_false, Bool.false_eq_true, Bool.not_true, Bool.not_false, Bool.true_and, Bool.and_true, Bool.false_and, Bool.and_false, Bool.or_true, Bool.true_or, Bool.false_or, Bool.or_false, reduceIte, r_fnF, r_sealed, r_start, t_tup0, t_tup1, t_tup2, t_tup3, t_tup4, t_lst0, t_lst1, t_lst2, t_lst3, t_lst4, t_lst5, t_lst6, t_lst7, t_lst8, t_lst9, t_lst10, r_mkV, r_mkR, r_isN, r_non0, r_non1, r_non2, r_non3, r_non4, r_non5, r_non6, isi_int, isi_intb, isi_tup, isi_str, isi_vl, isi_ints, isi_tups, r_cmp2i, r_cmp2t, r_cmpI, r_eqv_int, r_eqv_str, r_add, r_sub, r_arith, r_ix_tup, r_ix_vl, r_len_tup, r_len_vl, r_cInt, r_cMin, r_cMax, r_lof_vl, r_lof_tup, r_tof_vl, r_tof_tup, r_truD_vl, r_truD_tup, r_truD_int, r_truD_non, r_oSome, r_oNone, r_eSl, r_sl_vl, r_sl_tup, r_iAny, r_eMethL, r_isRef_vl, ix20, ix21, nr_int, nr_bl, nr_non, nr_str, nr_tup, nr_vl, nrs_nil, nrs_cons, shut_same, pick_nil, pick_cons, decide_true, decide_false, dD, i0, form_get]
  have i2 : cLen [.str (dForm d)] S = some (.int (dForm d).length, S) := r_len_str (by rw [form_len, args_val, List.length_map]; exact lim_pos (by omega))
  have e := comp_all (n := fu) (own := [3, 4]) (it := iZipA2 (aCons (eVar 2) (aCons (eSl false (eVar 1) (oSome (eC (.int 1))) oNone) aNil))) (t := .tp [3, 4]) (f := eCall (c__a_part fu) (aCons (eVar 0) (aCons (eVar 3) (aCons (eVar 4) aNil)))) (env := [some (dN zs), some (dD d), some (.str (dForm d)), none, none]) (S := S) (S1 := S) (xs := dParts d) (enc := fun p => .tup [.str p.form, p.val]) (fun p => .bl (p.ok zs)) (by
      unfold iZipA2
      simp only [r_sCons, r_sIf, r_tAnd, r_tOr, r_tNot, r_truB, r_truF, r_truD_bl, r_eBin, r_eVar, r_eC, r_eCall, r_eCallK, r_aCons, r_aNil, r_eAnd, r_eOr, r_eNotT, r_eIf, r_eNeg, r_eChain, r_sNil, r_sDrop, r_sRet, r_sSet, r_sAsg, r_sPar, r_nm, r_tp, r_sets, r_sets0, List.getElem?_cons_zero, List.getElem?_cons_succ, List.set_cons_zero, List.set_cons_succ, List.length_cons, List.length_nil, List.map_cons, List.map_nil, List.cons_append, List.nil_append, Nat.zero_add, Nat.reduceAdd, Nat.sub_self, Nat.reduceSub, Nat.add_zero, List.reduceReplicate, List.replicate_zero, List.append_nil, if_true, if_false, Bool.false_eq_true, Bool.not_true, Bool.not_false, Bool.true_and, Bool.and_true, Bool.false_and, Bool.and_false, Bool.or_true, Bool.true_or, Bool.false_or, Bool.or_false, reduceIte, r_fnF, r_sealed, r_start, t_tup0, t_tup1, t_tup2, t_tup3, t_tup4, t_lst0, t_lst1, t_lst2, t_lst3, t_lst4, t_lst5, t_lst6, t_lst7, t_lst8, t_lst9, t_lst10, r_mkV, r_mkR, r_isN, r_non0, r_non1, r_non2, r_non3, r_non4, r_non5, r_non6, isi_int, isi_intb, isi_tup, isi_str, isi_vl, isi_ints, isi_tups, r_cmp2i, r_cmp2t, r_cmpI, r_eqv_int, r_eqv_str, r_add, r_sub, r_arith, r_ix_tup, r_ix_vl, r_len_tup, r_len_vl, r_cInt, r_cMin, r_cMax, r_lof_vl, r_lof_tup, r_tof_vl, r_tof_tup, r_truD_vl, r_truD_tup, r_truD_int, r_truD_non, r_oSome, r_oNone, r_eSl, r_sl_vl, r_sl_tup, r_iAny, r_eMethL, r_isRef_vl, ix20, ix21, nr_int, nr_bl, nr_non, nr_str, nr_tup, nr_vl, nrs_nil, nrs_cons, shut_same, pick_nil, pick_cons, decide_true, decide_false, dD, cut_tail, List.drop_succ_cons, List.drop_zero, args_val, args_form, zip_map]) (by omega) (by omega) (fun p hp S' => ⟨_, rfl, by
      have k0 : (setsE [3, 4] [.str p.form, p.val] (wipeE [some (dN zs), some (dD d), some (.str (dForm d)), none, none] [3, 4]))[0]? = some (some (dN zs)) := rfl
      have k3 : (setsE [3, 4] [.str p.form, p.val] (wipeE [some (dN zs), some (dD d), some (.str (dForm d)), none, none] [3, 4]))[3]? = some (some (.str p.form)) := rfl
      have k4 : (setsE [3, 4] [.str p.form, p.val] (wipeE [some (dN zs), some (dD d), some (.str (dForm d)), none, none] [3, 4]))[4]? = some (some p.val) := rfl
      simp only [r_eCall, r_aCons, r_aNil, r_eVar, k0, k3, k4, part_ok]⟩) (fun c _ => by simp)
  have ea := all_vl (q := Part.ok zs) (xs := dParts d) (S := S)
  have hl : (((dForm d).length : Int) + 1 == ((dArgs d).length + 1 : Nat)) = true := by rw [form_len]; simp
  have hl2 : ((((dArgs d).length + 1 : Nat) : Int) == ((dForm d).length : Int) + 1) = true := by rw [form_len]; simp
  have np := not_pair (S := S) d
  have t1 : cIsi [dD d, .ty "tuple"] S = some (.bl true, S) := rfl
  have t2 : truD S (dD d) = some true := rfl
  have t3 : gIx (dD d) (.int 0) S = some (.str (dWord d), S) := by
    simp only [dD, r_ix_tup, i0]
  have t4 : cLen [dD d] S = some (.int ((dArgs d).length + 1 : Nat), S) := rfl
  unfold c_a_deed u_a_deed b_a_deed
  cases q : (dParts d).all (Part.ok zs) with
  | false => simp only [r_sCons, r_sIf, r_tAnd, r_tOr, r_tNot, r_truB, r_truF, r_truD_bl, r_eBin, r_eVar, r_eC, r_eCall, r_eCallK, r_aCons, r_aNil, r_eAnd, r_eOr, r_eNotT, r_eIf, r_eNeg, r_eChain, r_sNil, r_sDrop, r_sRet, r_sSet, r_sAsg, r_sPar, r_nm, r_tp, r_sets, r_sets0, List.getElem?_cons_zero, List.getElem?_cons_succ, List.set_cons_zero, List.set_cons_succ, List.length_cons, List.length_nil, List.map_cons, List.map_nil, List.cons_append, List.nil_append, Nat.zero_add, Nat.reduceAdd, Nat.sub_self, Nat.reduceSub, Nat.add_zero, List.reduceReplicate, List.replicate_zero, List.append_nil, if_true, if_false, Bool.false_eq_true, Bool.not_true, Bool.not_false, Bool.true_and, Bool.and_true, Bool.false_and, Bool.and_false, Bool.or_true, Bool.true_or, Bool.false_or, Bool.or_false, reduceIte, r_fnF, r_sealed, r_start, t_tup0, t_tup1, t_tup2, t_tup3, t_tup4, t_lst0, t_lst1, t_lst2, t_lst3, t_lst4, t_lst5, t_lst6, t_lst7, t_lst8, t_lst9, t_lst10, r_mkV, r_mkR, r_isN, r_non0, r_non1, r_non2, r_non3, r_non4, r_non5, r_non6, isi_int, isi_intb, isi_tup, isi_str, isi_vl, isi_ints, isi_tups, r_cmp2i, r_cmp2t, r_cmpI, r_eqv_int, r_eqv_str, r_add, r_sub, r_arith, r_ix_tup, r_ix_vl, r_len_tup, r_len_vl, r_cInt, r_cMin, r_cMax, r_lof_vl, r_lof_tup, r_tof_vl, r_tof_tup, r_truD_vl, r_truD_tup, r_truD_int, r_truD_non, r_oSome, r_oNone, r_eSl, r_sl_vl, r_sl_tup, r_iAny, r_eMethL, r_isRef_vl, ix20, ix21, nr_int, nr_bl, nr_non, nr_str, nr_tup, nr_vl, nrs_nil, nrs_cons, shut_same, pick_nil, pick_cons, decide_true, decide_false, t1, t2, t3, t4, i1, i2, hl2, e, ea, q, okD]
  | true =>
    simp only [r_sCons, r_sIf, r_tAnd, r_tOr, r_tNot, r_truB, r_truF, r_truD_bl, r_eBin, r_eVar, r_eC, r_eCall, r_eCallK, r_aCons, r_aNil, r_eAnd, r_eOr, r_eNotT, r_eIf, r_eNeg, r_eChain, r_sNil, r_sDrop, r_sRet, r_sSet, r_sAsg, r_sPar, r_nm, r_tp, r_sets, r_sets0, List.getElem?_cons_zero, List.getElem?_cons_succ, List.set_cons_zero, List.set_cons_succ, List.length_cons, List.length_nil, List.map_cons, List.map_nil, List.cons_append, List.nil_append, Nat.zero_add, Nat.reduceAdd, Nat.sub_self, Nat.reduceSub, Nat.add_zero, List.reduceReplicate, List.replicate_zero, List.append_nil, if_true, if_false, Bool.false_eq_true, Bool.not_true, Bool.not_false, Bool.true_and, Bool.and_true, Bool.false_and, Bool.and_false, Bool.or_true, Bool.true_or, Bool.false_or, Bool.or_false, reduceIte, r_fnF, r_sealed, r_start, t_tup0, t_tup1, t_tup2, t_tup3, t_tup4, t_lst0, t_lst1, t_lst2, t_lst3, t_lst4, t_lst5, t_lst6, t_lst7, t_lst8, t_lst9, t_lst10, r_mkV, r_mkR, r_isN, r_non0, r_non1, r_non2, r_non3, r_non4, r_non5, r_non6, isi_int, isi_intb, isi_tup, isi_str, isi_vl, isi_ints, isi_tups, r_cmp2i, r_cmp2t, r_cmpI, r_eqv_int, r_eqv_str, r_add, r_sub, r_arith, r_ix_tup, r_ix_vl, r_len_tup, r_len_vl, r_cInt, r_cMin, r_cMax, r_lof_vl, r_lof_tup, r_tof_vl, r_tof_tup, r_truD_vl, r_truD_tup, r_truD_int, r_truD_non, r_oSome, r_oNone, r_eSl, r_sl_vl, r_sl_tup, r_iAny, r_eMethL, r_isRef_vl, ix20, ix21, nr_int, nr_bl, nr_non, nr_str, nr_tup, nr_vl, nrs_nil, nrs_cons, shut_same, pick_nil, pick_cons, decide_true, decide_false, t1, t2, t3, t4, i1, i2, hl2, e, ea, q, okD, np]
    cases d <;> simp only [r_sCons, r_sIf, r_tAnd, r_tOr, r_tNot, r_truB, r_truF, r_truD_bl, r_eBin, r_eVar, r_eC, r_eCall, r_eCallK, r_aCons, r_aNil, r_eAnd, r_eOr, r_eNotT, r_eIf, r_eNeg, r_eChain, r_sNil, r_sDrop, r_sRet, r_sSet, r_sAsg, r_sPar, r_nm, r_tp, r_sets, r_sets0, List.getElem?_cons_zero, List.getElem?_cons_succ, List.set_cons_zero, List.set_cons_succ, List.length_cons, List.length_nil, List.map_cons, List.map_nil, List.cons_append, List.nil_append, Nat.zero_add, Nat.reduceAdd, Nat.sub_self, Nat.reduceSub, Nat.add_zero, List.reduceReplicate, List.replicate_zero, List.append_nil, if_true, if_false, Bool.false_eq_true, Bool.not_true, Bool.not_false, Bool.true_and, Bool.and_true, Bool.false_and, Bool.and_false, Bool.or_true, Bool.true_or, Bool.false_or, Bool.or_false, reduceIte, r_fnF, r_sealed, r_start, t_tup0, t_tup1, t_tup2, t_tup3, t_tup4, t_lst0, t_lst1, t_lst2, t_lst3, t_lst4, t_lst5, t_lst6, t_lst7, t_lst8, t_lst9, t_lst10, r_mkV, r_mkR, r_isN, r_non0, r_non1, r_non2, r_non3, r_non4, r_non5, r_non6, isi_int, isi_intb, isi_tup, isi_str, isi_vl, isi_ints, isi_tups, r_cmp2i, r_cmp2t, r_cmpI, r_eqv_int, r_eqv_str, r_add, r_sub, r_arith, r_ix_tup, r_ix_vl, r_len_tup, r_len_vl, r_cInt, r_cMin, r_cMax, r_lof_vl, r_lof_tup, r_tof_vl, r_tof_tup, r_truD_vl, r_truD_tup, r_truD_int, r_truD_non, r_oSome, r_oNone, r_eSl, r_sl_vl, r_sl_tup, r_iAny, r_eMethL, r_isRef_vl, ix20, ix21, nr_int, nr_bl, nr_non, nr_str, nr_tup, nr_vl, nrs_nil, nrs_cons, shut_same, pick_nil, pick_cons, decide_true, decide_false, dPair, dD, dArgs]
    all_goals (
      have j1 : ∀ (w x y : Str) (n : Int), atI [D.str w, .str x, .str y, .int n] 1 = some (.str x) := fun w x y n => atI_nat (j := 1) rfl
      have j2 : ∀ (w x y : Str) (n : Int), atI [D.str w, .str x, .str y, .int n] 2 = some (.str y) := fun w x y n => atI_nat (j := 2) rfl
      simp only [j1, j2, r_eqv_str, if_true, shut_same, nr_bl, decide_not])
theorem below_ok {m i : Int} : c_a_number_below fu [.int m, .int i] S = some (.bl (decide (0 ≤ i) && decide (i < m)), S) := by
  unfold c_a_number_below u_a_number_below b_a_number_below
  cases q : decide (0 ≤ i) <;> cases q2 : decide (i < m) <;> simp only [r_sCons, r_sIf, r_tAnd, r_tOr, r_tNot, r_truB, r_truF, r_truD_bl, r_eBin, r_eVar, r_eC, r_eCall, r_eCallK, r_aCons, r_aNil, r_eAnd, r_eOr, r_eNotT, r_eIf, r_eNeg, r_eChain, r_sNil, r_sDrop, r_sRet, r_sSet, r_sAsg, r_sPar, r_nm, r_tp, r_sets, r_sets0, List.getElem?_cons_zero, List.getElem?_cons_succ, List.set_cons_zero, List.set_cons_succ, List.length_cons, List.length_nil, List.map_cons, List.map_nil, List.cons_append, List.nil_append, Nat.zero_add, Nat.reduceAdd, Nat.sub_self, Nat.reduceSub, Nat.add_zero, List.reduceReplicate, List.replicate_zero, List.append_nil, if_true, if_false, Bool.false_eq_true, Bool.not_true, Bool.not_false, Bool.true_and, Bool.and_true, Bool.false_and, Bool.and_false, Bool.or_true, Bool.true_or, Bool.false_or, Bool.or_false, reduceIte, r_fnF, r_sealed, r_start, t_tup0, t_tup1, t_tup2, t_tup3, t_tup4, t_lst0, t_lst1, t_lst2, t_lst3, t_lst4, t_lst5, t_lst6, t_lst7, t_lst8, t_lst9, t_lst10, r_mkV, r_mkR, r_isN, r_non0, r_non1, r_non2, r_non3, r_non4, r_non5, r_non6, isi_int, isi_intb, isi_tup, isi_str, isi_vl, isi_ints, isi_tups, r_cmp2i, r_cmp2t, r_cmpI, r_eqv_int, r_eqv_str, r_add, r_sub, r_arith, r_ix_tup, r_ix_vl, r_len_tup, r_len_vl, r_cInt, r_cMin, r_cMax, r_lof_vl, r_lof_tup, r_tof_vl, r_tof_tup, r_truD_vl, r_truD_tup, r_truD_int, r_truD_non, r_oSome, r_oNone, r_eSl, r_sl_vl, r_sl_tup, r_iAny, r_eMethL, r_isRef_vl, ix20, ix21, nr_int, nr_bl, nr_non, nr_str, nr_tup, nr_vl, nrs_nil, nrs_cons, shut_same, pick_nil, pick_cons, decide_true, decide_false, whole_int, q, q2]
structure Stp where
  src : Int
  tgt : Int
  deed : Deed
def dS (s : Stp) : D := .tup [.int s.src, .int s.tgt, dD s.deed]
def inM (m i : Int) : Bool := decide (0 ≤ i) && decide (i < m)
def okS (zs : List Str) (m : Int) (s : Stp) : Bool := inM m s.src && (inM m s.tgt && okD zs s.deed)
@[simp] theorem nr_dS {s : Stp} : noRef (dS s) = true := by simp [dS]
theorem step_ok (hf : 10000 ≤ fu) {zs : List Str} {m : Int} (s : Stp) : c_a_step fu [dN zs, .int m, dS s] S = some (.bl (okS zs m s), S) := by
  have t1 : cIsi [dS s, .ty "tuple"] S = some (.bl true, S) := rfl
  have t2 : cLen [dS s] S = some (.int 3, S) := rfl
  have t3 : setTg (.tp [3, 4, 5]) (dS s) [some (dN zs), some (.int m), some (dS s), none, none, none] = some [some (dN zs), some (.int m), some (dS s), some (.int s.src), some (.int s.tgt), some (dD s.deed)] := rfl
  have h3 : ((3 : Int) == 3) = true := rfl
  unfold c_a_step u_a_step b_a_step
  cases q1 : inM m s.src <;> cases q2 : inM m s.tgt <;> simp only [inM] at q1 q2 <;> simp only [r_sCons, r_sIf, r_tAnd, r_tOr, r_tNot, r_truB, r_truF, r_truD_bl, r_eBin, r_eVar, r_eC, r_eCall, r_eCallK, r_aCons, r_aNil, r_eAnd, r_eOr, r_eNotT, r_eIf, r_eNeg, r_eChain, r_sNil, r_sDrop, r_sRet, r_sSet, r_sAsg, r_sPar, r_nm, r_tp, r_sets, r_sets0, List.getElem?_cons_zero, List.getElem?_cons_succ, List.set_cons_zero, List.set_cons_succ, List.length_cons, List.length_nil, List.map_cons, List.map_nil, List.cons_append, List.nil_append, Nat.zero_add, Nat.reduceAdd, Nat.sub_self, Nat.reduceSub, Nat.add_zero, List.reduceReplicate, List.replicate_zero, List.append_nil, if_true, if_false, Bool.false_eq_true, Bool.not_true, Bool.not_false, Bool.true_and, Bool.and_true, Bool.false_and, Bool.and_false, Bool.or_true, Bool.true_or, Bool.false_or, Bool.or_false, reduceIte, r_fnF, r_sealed, r_start, t_tup0, t_tup1, t_tup2, t_tup3, t_tup4, t_lst0, t_lst1, t_lst2, t_lst3, t_lst4, t_lst5, t_lst6, t_lst7, t_lst8, t_lst9, t_lst10, r_mkV, r_mkR, r_isN, r_non0, r_non1, r_non2, r_non3, r_non4, r_non5, r_non6, isi_int, isi_intb, isi_tup, isi_str, isi_vl, isi_ints, isi_tups, r_cmp2i, r_cmp2t, r_cmpI, r_eqv_int, r_eqv_str, r_add, r_sub, r_arith, r_ix_tup, r_ix_vl, r_len_tup, r_len_vl, r_cInt, r_cMin, r_cMax, r_lof_vl, r_lof_tup, r_tof_vl, r_tof_tup, r_truD_vl, r_truD_tup, r_truD_int, r_truD_non, r_oSome, r_oNone, r_eSl, r_sl_vl, r_sl_tup, r_iAny, r_eMethL, r_isRef_vl, ix20, ix21, nr_int, nr_bl, nr_non, nr_str, nr_tup, nr_vl, nrs_nil, nrs_cons, shut_same, pick_nil, pick_cons, decide_true, decide_false, t1, t2, t3, h3, below_ok, deed_ok hf, q1, q2, okS, inM]
theorem ranges_ok (hf : 10000 ≤ fu) {n : Nat} {zs : List Str} {rs : List Rg} (hl : rs.length ≤ 1000) : c_some_ranges fu [dN zs, dRow rs] S = some (.bl (decide (rs.length = zs.length) && rs.all okR), S) := by
  have t1 : cIsi [dRow rs, .ty "list"] S = some (.bl true, S) := rfl
  have t2 : cLen [dRow rs] S = some (.int rs.length, S) := by rw [show dRow rs = .vl (rs.map dR) from rfl, r_len_vl, List.length_map]
  have t3 : cLen [dN zs] S = some (.int zs.length, S) := by rw [show dN zs = .vl (zs.map D.str) from rfl, r_len_vl, List.length_map]
  have e := comp_all (n := fu) (own := [2]) (it := iAny (eVar 1)) (t := .nm 2) (f := eCall (c_a_range fu) (aCons (eVar 2) aNil)) (env := [some (dN zs), some (dRow rs), none]) (S := S) (S1 := S) (xs := rs) (enc := dR) (fun p => .bl (okR p)) rfl (by omega) (by omega) (fun p hp S' => ⟨_, rfl, by
    have k : (List.set (wipeE [some (dN zs), some (dRow rs), none] [2]) 2 (some (dR p)) : Lv.Env)[2]? = some (some (dR p)) := rfl
    simp only [r_eCall, r_aCons, r_aNil, r_eVar, k, range_dR]⟩) (fun c _ => by simp)
  have ea := all_vl (q := okR) (xs := rs) (S := S)
  have hq : (((rs.length : Int)) == (zs.length : Int)) = decide (rs.length = zs.length) := by
    rw [Bool.eq_iff_iff]; simp only [beq_iff_eq, decide_eq_true_eq]; omega
  unfold c_some_ranges u_some_ranges b_some_ranges
  cases q : decide (rs.length = zs.length) <;> simp only [r_sCons, r_sIf, r_tAnd, r_tOr, r_tNot, r_truB, r_truF, r_truD_bl, r_eBin, r_eVar, r_eC, r_eCall, r_eCallK, r_aCons, r_aNil, r_eAnd, r_eOr, r_eNotT, r_eIf, r_eNeg, r_eChain, r_sNil, r_sDrop, r_sRet, r_sSet, r_sAsg, r_sPar, r_nm, r_tp, r_sets, r_sets0, List.getElem?_cons_zero, List.getElem?_cons_succ, List.set_cons_zero, List.set_cons_succ, List.length_cons, List.length_nil, List.map_cons, List.map_nil, List.cons_append, List.nil_append, Nat.zero_add, Nat.reduceAdd, Nat.sub_self, Nat.reduceSub, Nat.add_zero, List.reduceReplicate, List.replicate_zero, List.append_nil, if_true, if_false, Bool.false_eq_true, Bool.not_true, Bool.not_false, Bool.true_and, Bool.and_true, Bool.false_and, Bool.and_false, Bool.or_true, Bool.true_or, Bool.false_or, Bool.or_false, reduceIte, r_fnF, r_sealed, r_start, t_tup0, t_tup1, t_tup2, t_tup3, t_tup4, t_lst0, t_lst1, t_lst2, t_lst3, t_lst4, t_lst5, t_lst6, t_lst7, t_lst8, t_lst9, t_lst10, r_mkV, r_mkR, r_isN, r_non0, r_non1, r_non2, r_non3, r_non4, r_non5, r_non6, isi_int, isi_intb, isi_tup, isi_str, isi_vl, isi_ints, isi_tups, r_cmp2i, r_cmp2t, r_cmpI, r_eqv_int, r_eqv_str, r_add, r_sub, r_arith, r_ix_tup, r_ix_vl, r_len_tup, r_len_vl, r_cInt, r_cMin, r_cMax, r_lof_vl, r_lof_tup, r_tof_vl, r_tof_tup, r_truD_vl, r_truD_tup, r_truD_int, r_truD_non, r_oSome, r_oNone, r_eSl, r_sl_vl, r_sl_tup, r_iAny, r_eMethL, r_isRef_vl, ix20, ix21, nr_int, nr_bl, nr_non, nr_str, nr_tup, nr_vl, nrs_nil, nrs_cons, shut_same, pick_nil, pick_cons, decide_true, decide_false, t1, t2, t3, hq, q, e, ea]
structure Prg where
  names : List Str
  many : Int
  start : List Rg
  steps : List Stp
def dP (p : Prg) : D := .tup [dN p.names, .int p.many, dRow p.start, .vl (p.steps.map dS)]
@[simp] theorem nrs_steps {ss : List Stp} : noRefs (ss.map dS) = true := nrs_map fun _ _ => by simp
@[simp] theorem nr_dP {p : Prg} : noRef (dP p) = true := by simp [dP]
def okP (p : Prg) : Bool := (namesB p.names && (decide (1 ≤ p.many) && (decide (p.start.length = p.names.length) && p.start.all okR))) && p.steps.all (okS p.names p.many)
structure SmP (p : Prg) : Prop where
  n : p.names.length ≤ 1000
  z : ∀ z ∈ p.names, z.length ≤ 1000
  s : p.start.length ≤ 1000
  t : p.steps.length ≤ 1000
theorem program_ok (hf : 10000 ≤ fu) {p : Prg} (h : SmP p) : c_a_program fu [dP p] S = some (.bl (okP p), S) := by
  have t1 : cIsi [dP p, .ty "tuple"] S = some (.bl true, S) := rfl
  have t2 : cLen [dP p] S = some (.int 4, S) := rfl
  have t3 : setTg (.tp [1, 2, 3, 4]) (dP p) [some (dP p), none, none, none, none, none] = some [some (dP p), some (dN p.names), some (.int p.many), some (dRow p.start), some (.vl (p.steps.map dS)), none] := rfl
  have h4 : ((4 : Int) == 4) = true := rfl
  have e := comp_all (n := fu) (own := [5]) (it := iAny (eVar 4)) (t := .nm 5) (f := eCall (c_a_step fu) (aCons (eVar 1) (aCons (eVar 2) (aCons (eVar 5) aNil)))) (env := [some (dP p), some (dN p.names), some (.int p.many), some (dRow p.start), some (.vl (p.steps.map dS)), none]) (S := S) (S1 := S) (xs := p.steps) (enc := dS) (fun s => .bl (okS p.names p.many s)) rfl (by have := h.t; omega) (by have := h.t; omega) (fun s hs S' => ⟨_, rfl, by
    have k1 : (List.set (wipeE [some (dP p), some (dN p.names), some (.int p.many), some (dRow p.start), some (.vl (p.steps.map dS)), none] [5]) 5 (some (dS s)) : Lv.Env)[1]? = some (some (dN p.names)) := rfl
    have k2 : (List.set (wipeE [some (dP p), some (dN p.names), some (.int p.many), some (dRow p.start), some (.vl (p.steps.map dS)), none] [5]) 5 (some (dS s)) : Lv.Env)[2]? = some (some (.int p.many)) := rfl
    have k5 : (List.set (wipeE [some (dP p), some (dN p.names), some (.int p.many), some (dRow p.start), some (.vl (p.steps.map dS)), none] [5]) 5 (some (dS s)) : Lv.Env)[5]? = some (some (dS s)) := rfl
    simp only [r_eCall, r_aCons, r_aNil, r_eVar, k1, k2, k5, step_ok hf]⟩) (fun c _ => by simp)
  have ea := all_vl (q := okS p.names p.many) (xs := p.steps) (S := S)
  have hn := some_names_ok (S := S) hf h.n h.z
  have hr := ranges_ok (S := S) (n := 0) (zs := p.names) hf h.s
  have hm : decide (p.many < 1) = !decide (1 ≤ p.many) := by
    by_cases h : 1 ≤ p.many
    · rw [decide_eq_true h, decide_eq_false (by omega)]; rfl
    · rw [decide_eq_false h, decide_eq_true (by omega)]; rfl
  unfold c_a_program u_a_program b_a_program
  cases q1 : namesB p.names <;> cases q2 : decide (1 ≤ p.many) <;> cases q3 : (decide (p.start.length = p.names.length) && p.start.all okR) <;> simp only [r_sCons, r_sIf, r_tAnd, r_tOr, r_tNot, r_truB, r_truF, r_truD_bl, r_eBin, r_eVar, r_eC, r_eCall, r_eCallK, r_aCons, r_aNil, r_eAnd, r_eOr, r_eNotT, r_eIf, r_eNeg, r_eChain, r_sNil, r_sDrop, r_sRet, r_sSet, r_sAsg, r_sPar, r_nm, r_tp, r_sets, r_sets0, List.getElem?_cons_zero, List.getElem?_cons_succ, List.set_cons_zero, List.set_cons_succ, List.length_cons, List.length_nil, List.map_cons, List.map_nil, List.cons_append, List.nil_append, Nat.zero_add, Nat.reduceAdd, Nat.sub_self, Nat.reduceSub, Nat.add_zero, List.reduceReplicate, List.replicate_zero, List.append_nil, if_true, if_false, Bool.false_eq_true, Bool.not_true, Bool.not_false, Bool.true_and, Bool.and_true, Bool.false_and, Bool.and_false, Bool.or_true, Bool.true_or, Bool.false_or, Bool.or_false, reduceIte, r_fnF, r_sealed, r_start, t_tup0, t_tup1, t_tup2, t_tup3, t_tup4, t_lst0, t_lst1, t_lst2, t_lst3, t_lst4, t_lst5, t_lst6, t_lst7, t_lst8, t_lst9, t_lst10, r_mkV, r_mkR, r_isN, r_non0, r_non1, r_non2, r_non3, r_non4, r_non5, r_non6, isi_int, isi_intb, isi_tup, isi_str, isi_vl, isi_ints, isi_tups, r_cmp2i, r_cmp2t, r_cmpI, r_eqv_int, r_eqv_str, r_add, r_sub, r_arith, r_ix_tup, r_ix_vl, r_len_tup, r_len_vl, r_cInt, r_cMin, r_cMax, r_lof_vl, r_lof_tup, r_tof_vl, r_tof_tup, r_truD_vl, r_truD_tup, r_truD_int, r_truD_non, r_oSome, r_oNone, r_eSl, r_sl_vl, r_sl_tup, r_iAny, r_eMethL, r_isRef_vl, ix20, ix21, nr_int, nr_bl, nr_non, nr_str, nr_tup, nr_vl, nrs_nil, nrs_cons, shut_same, pick_nil, pick_cons, decide_true, decide_false, t1, t2, t3, h4, hn, hr, hm, whole_int, q1, q2, q3, e, ea, okP]
theorem row_ok (hf : 10000 ≤ fu) {p : Prg} {rs : List Rg} (hl : rs.length ≤ 1000) : c_a_row fu [dP p, dRow rs] S = some (.bl (decide (rs.length = p.names.length) && rs.all okR), S) := by
  have t0 : gIx (dP p) (.int 0) S = some (dN p.names, S) := rfl
  unfold c_a_row u_a_row b_a_row
  simp only [r_sCons, r_sIf, r_tAnd, r_tOr, r_tNot, r_truB, r_truF, r_truD_bl, r_eBin, r_eVar, r_eC, r_eCall, r_eCallK, r_aCons, r_aNil, r_eAnd, r_eOr, r_eNotT, r_eIf, r_eNeg, r_eChain, r_sNil, r_sDrop, r_sRet, r_sSet, r_sAsg, r_sPar, r_nm, r_tp, r_sets, r_sets0, List.getElem?_cons_zero, List.getElem?_cons_succ, List.set_cons_zero, List.set_cons_succ, List.length_cons, List.length_nil, List.map_cons, List.map_nil, List.cons_append, List.nil_append, Nat.zero_add, Nat.reduceAdd, Nat.sub_self, Nat.reduceSub, Nat.add_zero, List.reduceReplicate, List.replicate_zero, List.append_nil, if_true, if_false, Bool.false_eq_true, Bool.not_true, Bool.not_false, Bool.true_and, Bool.and_true, Bool.false_and, Bool.and_false, Bool.or_true, Bool.true_or, Bool.false_or, Bool.or_false, reduceIte, r_fnF, r_sealed, r_start, t_tup0, t_tup1, t_tup2, t_tup3, t_tup4, t_lst0, t_lst1, t_lst2, t_lst3, t_lst4, t_lst5, t_lst6, t_lst7, t_lst8, t_lst9, t_lst10, r_mkV, r_mkR, r_isN, r_non0, r_non1, r_non2, r_non3, r_non4, r_non5, r_non6, isi_int, isi_intb, isi_tup, isi_str, isi_vl, isi_ints, isi_tups, r_cmp2i, r_cmp2t, r_cmpI, r_eqv_int, r_eqv_str, r_add, r_sub, r_arith, r_ix_tup, r_ix_vl, r_len_tup, r_len_vl, r_cInt, r_cMin, r_cMax, r_lof_vl, r_lof_tup, r_tof_vl, r_tof_tup, r_truD_vl, r_truD_tup, r_truD_int, r_truD_non, r_oSome, r_oNone, r_eSl, r_sl_vl, r_sl_tup, r_iAny, r_eMethL, r_isRef_vl, ix20, ix21, nr_int, nr_bl, nr_non, nr_str, nr_tup, nr_vl, nrs_nil, nrs_cons, shut_same, pick_nil, pick_cons, decide_true, decide_false, t0, ranges_ok (n := 0) hf hl]
end
end Sp
namespace Sp
open PySem PySem.Spec PyProof.Rows L2 Lv Com
section
variable {fu : Nat} {S : Sto}
theorem listOf_cases {S : Sto} {d : D} {xs : List D} (h : Lv.listOf S d = some xs) : d = .kl xs ∨ d = .vl xs ∨ ∃ k c, d = .ref k ∧ S[k]? = some c ∧ c.items = xs := by
  cases d with
  | kl ds => cases h; exact .inl rfl
  | vl ds => cases h; exact .inr (.inl rfl)
  | ref k =>
    simp only [Lv.listOf] at h
    split at h
    · rename_i c hc
      cases h
      exact .inr (.inr ⟨k, c, rfl, hc, rfl⟩)
    · cases h
  | _ => cases h
theorem items_of_list {d : D} {xs : List D} (h : Lv.listOf S d = some xs) : itemsOf S d = some xs := by
  rcases listOf_cases h with rfl | rfl | ⟨k, c, rfl, hc, rfl⟩
  · rfl
  · rfl
  · simp only [itemsOf, hc]
theorem len_list {d : D} {xs : List D} (h : Lv.listOf S d = some xs) : cLen [d] S = some (.int xs.length, S) := by
  have h2 := items_of_list h
  rcases listOf_cases h with rfl | rfl | ⟨k, c, rfl, hc, rfl⟩
  · rfl
  · rfl
  · simp only [cLen, h2]
theorem ix_list' {d : D} {xs : List D} {i : Int} (h : Lv.listOf S d = some xs) : gIx d (.int i) S = (match atI xs i with
  | some e => some (e, S)
  | none => none) := by
  rcases listOf_cases h with rfl | rfl | ⟨k, c, rfl, hc, rfl⟩
  · rfl
  · rfl
  · exact r_ix_ref hc
theorem sl_list' {d : D} {xs : List D} {lo hi : Option Int} (h : Lv.listOf S d = some xs) : gSl false d lo hi S = some (.vl (Lv.cutD xs lo hi), S) := by
  rcases listOf_cases h with rfl | rfl | ⟨k, c, rfl, hc, rfl⟩
  · rfl
  · rfl
  · simp only [gSl, Lv.listOf, hc]; rfl
theorem ints_of : ∀ ns : List Int, intsD (ns.map D.int) = some ns
  | [] => rfl
  | n :: ns => by
    have ih := ints_of ns
    unfold intsD at ih ⊢
    simp only [List.map_cons, mapO]
    rw [ih]
theorem cut_map {ns : List Int} {lo hi : Option Int} : ∃ ms : List Int, Lv.cutD (ns.map D.int) lo hi = ms.map D.int := by
  unfold Lv.cutD
  rw [← List.map_drop, ← List.map_take]
  exact ⟨_, rfl⟩
theorem cell_ok {d : D} {ns : List Int} {i : Nat} (h : Lv.listOf S d = some (ns.map D.int)) : ∃ z : Int, c__law_cell fu [d, .int i] S = some (.int z, S) := by
  unfold c__law_cell u__law_cell b__law_cell
  have hlen := len_list h
  rw [List.length_map] at hlen
  by_cases hi : i < ns.length
  · refine ⟨ns[i], ?_⟩
    have e : atI (ns.map D.int) (i : Int) = some (.int ns[i]) := atI_nat (by rw [List.getElem?_map, List.getElem?_eq_getElem hi]; rfl)
    have hi' : decide ((i : Int) < (ns.length : Int)) = true := decide_eq_true (by omega)
    simp only [r_sCons, r_sIf, r_tAnd, r_tOr, r_tNot, r_truB, r_truF, r_truD_bl, r_eBin, r_eVar, r_eC, r_eCall, r_eCallK, r_aCons, r_aNil, r_eAnd, r_eOr, r_eNotT, r_eIf, r_eNeg, r_eChain, r_sNil, r_sDrop, r_sRet, r_sSet, r_sAsg, r_sPar, r_nm, r_tp, r_sets, r_sets0, List.getElem?_cons_zero, List.getElem?_cons_succ, List.set_cons_zero, List.set_cons_succ, List.length_cons, List.length_nil, List.map_cons, List.map_nil, List.cons_append, List.nil_append, Nat.zero_add, Nat.reduceAdd, Nat.sub_self, Nat.reduceSub, Nat.add_zero, List.reduceReplicate, List.replicate_zero, List.append_nil, if_true, if_false, Bool.false_eq_true, Bool.not_true, Bool.not_false, Bool.true_and, Bool.and_true, Bool.false_and, Bool.and_false, Bool.or_true, Bool.true_or, Bool.false_or, Bool.or_false, reduceIte, r_fnF, r_sealed, r_start, t_tup0, t_tup1, t_tup2, t_tup3, t_tup4, t_lst0, t_lst1, t_lst2, t_lst3, t_lst4, t_lst5, t_lst6, t_lst7, t_lst8, t_lst9, t_lst10, r_mkV, r_mkR, r_isN, r_non0, r_non1, r_non2, r_non3, r_non4, r_non5, r_non6, isi_int, isi_intb, isi_tup, isi_str, isi_vl, isi_ints, isi_tups, r_cmp2i, r_cmp2t, r_cmpI, r_eqv_int, r_eqv_str, r_add, r_sub, r_arith, r_ix_tup, r_ix_vl, r_len_tup, r_len_vl, r_cInt, r_cMin, r_cMax, r_lof_vl, r_lof_tup, r_tof_vl, r_tof_tup, r_truD_vl, r_truD_tup, r_truD_int, r_truD_non, r_oSome, r_oNone, r_eSl, r_sl_vl, r_sl_tup, r_iAny, r_eMethL, r_isRef_vl, ix20, ix21, nr_int, nr_bl, nr_non, nr_str, nr_tup, nr_vl, nrs_nil, nrs_cons, shut_same, pick_nil, pick_cons, decide_true, decide_false, hlen, hi', ix_list' h, e]
  · obtain ⟨ms, hm⟩ := cut_map (ns := ns) (lo := none) (hi := some 1)
    refine ⟨ms.sum % 1000003, ?_⟩
    have hi' : decide ((i : Int) < (ns.length : Int)) = false := decide_eq_false (by omega)
    have e1 : cSum [.vl (ms.map D.int)] S = some (.int ms.sum, S) := by
      simp only [cSum, r_list_vl, ints_of]
    have e2 := mod_ok (i := ms.sum) (j := 1000003) (by decide)
    simp only [r_sCons, r_sIf, r_tAnd, r_tOr, r_tNot, r_truB, r_truF, r_truD_bl, r_eBin, r_eVar, r_eC, r_eCall, r_eCallK, r_aCons, r_aNil, r_eAnd, r_eOr, r_eNotT, r_eIf, r_eNeg, r_eChain, r_sNil, r_sDrop, r_sRet, r_sSet, r_sAsg, r_sPar, r_nm, r_tp, r_sets, r_sets0, List.getElem?_cons_zero, List.getElem?_cons_succ, List.set_cons_zero, List.set_cons_succ, List.length_cons, List.length_nil, List.map_cons, List.map_nil, List.cons_append, List.nil_append, Nat.zero_add, Nat.reduceAdd, Nat.sub_self, Nat.reduceSub, Nat.add_zero, List.reduceReplicate, List.replicate_zero, List.append_nil, if_true, if_false, Bool.false_eq_true, Bool.not_true, Bool.not_false, Bool.true_and, Bool.and_true, Bool.false_and, Bool.and_false, Bool.or_true, Bool.true_or, Bool.false_or, Bool.or_false, reduceIte, r_fnF, r_sealed, r_start, t_tup0, t_tup1, t_tup2, t_tup3, t_tup4, t_lst0, t_lst1, t_lst2, t_lst3, t_lst4, t_lst5, t_lst6, t_lst7, t_lst8, t_lst9, t_lst10, r_mkV, r_mkR, r_isN, r_non0, r_non1, r_non2, r_non3, r_non4, r_non5, r_non6, isi_int, isi_intb, isi_tup, isi_str, isi_vl, isi_ints, isi_tups, r_cmp2i, r_cmp2t, r_cmpI, r_eqv_int, r_eqv_str, r_add, r_sub, r_arith, r_ix_tup, r_ix_vl, r_len_tup, r_len_vl, r_cInt, r_cMin, r_cMax, r_lof_vl, r_lof_tup, r_tof_vl, r_tof_tup, r_truD_vl, r_truD_tup, r_truD_int, r_truD_non, r_oSome, r_oNone, r_eSl, r_sl_vl, r_sl_tup, r_iAny, r_eMethL, r_isRef_vl, ix20, ix21, nr_int, nr_bl, nr_non, nr_str, nr_tup, nr_vl, nrs_nil, nrs_cons, shut_same, pick_nil, pick_cons, decide_true, decide_false, hlen, hi', sl_list' h, hm, e1, e2]
theorem pow18 : fPow 10 18 = some (10 ^ 18) := by decide +kernel
theorem pow59 : fPow 10 59 = some (10 ^ 59) := by decide +kernel
theorem pow30 : fPow 10 30 = some (10 ^ 30) := by decide +kernel
theorem pow60 : fPow 10 60 = some (10 ^ 60) := by decide +kernel
theorem pow600 : fPow (10 ^ 60) 10 = some (10 ^ 600) := by decide +kernel
theorem pow600' : (0 : Int) < 10 ^ 600 := by decide +kernel
theorem pow600b : (10 : Int) ^ 600 < 2 ^ 2000 := by decide +kernel
theorem generator_ok {d : D} {ns : List Int} {i : Nat} (h : Lv.listOf S d = some (ns.map D.int)) (hi : i < 1000) : ∃ G : Gn, v__law_generator fu [d, .int i] S = some (.ref S.length, S ++ [gc G]) ∧ OkG (1000 * i) G := by
  obtain ⟨z, hz⟩ := cell_ok (fu := fu) (i := i) h
  have e2 : ∀ x : Int, fMod x (10 ^ 600) = some (x % 10 ^ 600) := fun x => mod_ok pow600'
  have e3 := mod_ok (i := z) (j := 2147483647) (by decide)
  have e4 : fMul 1000 (i : Int) = some (1000 * (i : Int)) := mul_ok (show Sm 10 1000 by unfold Sm; decide) (show Sm 10 (i : Int) from .of (by omega) (by omega)) (by decide)
  refine ⟨⟨(if (0 : Int) > z - 10 ^ 18 then 0 else z - 10 ^ 18) % 10 ^ 600, z % 2147483647, 1000 * i⟩, ?_, .of (Int.emod_nonneg _ (Int.ne_of_gt pow600')) (Int.lt_trans (Int.emod_lt_of_pos _ pow600') pow600b), ⟨Int.emod_nonneg _ (by decide), Int.lt_trans (Int.emod_lt_of_pos _ (by decide)) (by decide)⟩, by show (0 : Int) ≤ 1000 * i; omega, Int.le_refl _⟩
  unfold v__law_generator uv__law_generator bv__law_generator
  rw [r_sealedR]
  simp only [r_sCons, r_sIf, r_tAnd, r_tOr, r_tNot, r_truB, r_truF, r_truD_bl, r_eBin, r_eVar, r_eC, r_eCall, r_eCallK, r_aCons, r_aNil, r_eAnd, r_eOr, r_eNotT, r_eIf, r_eNeg, r_eChain, r_sNil, r_sDrop, r_sRet, r_sSet, r_sAsg, r_sPar, r_nm, r_tp, r_sets, r_sets0, List.getElem?_cons_zero, List.getElem?_cons_succ, List.set_cons_zero, List.set_cons_succ, List.length_cons, List.length_nil, List.map_cons, List.map_nil, List.cons_append, List.nil_append, Nat.zero_add, Nat.reduceAdd, Nat.sub_self, Nat.reduceSub, Nat.add_zero, List.reduceReplicate, List.replicate_zero, List.append_nil, if_true, if_false, Bool.false_eq_true, Bool.not_true, Bool.not_false, Bool.true_and, Bool.and_true, Bool.false_and, Bool.and_false, Bool.or_true, Bool.true_or, Bool.false_or, Bool.or_false, reduceIte, r_fnF, r_sealed, r_start, t_tup0, t_tup1, t_tup2, t_tup3, t_tup4, t_lst0, t_lst1, t_lst2, t_lst3, t_lst4, t_lst5, t_lst6, t_lst7, t_lst8, t_lst9, t_lst10, r_mkV, r_mkR, r_isN, r_non0, r_non1, r_non2, r_non3, r_non4, r_non5, r_non6, isi_int, isi_intb, isi_tup, isi_str, isi_vl, isi_ints, isi_tups, r_cmp2i, r_cmp2t, r_cmpI, r_eqv_int, r_eqv_str, r_add, r_sub, r_arith, r_ix_tup, r_ix_vl, r_len_tup, r_len_vl, r_cInt, r_cMin, r_cMax, r_lof_vl, r_lof_tup, r_tof_vl, r_tof_tup, r_truD_vl, r_truD_tup, r_truD_int, r_truD_non, r_oSome, r_oNone, r_eSl, r_sl_vl, r_sl_tup, r_iAny, r_eMethL, r_isRef_vl, ix20, ix21, nr_int, nr_bl, nr_non, nr_str, nr_tup, nr_vl, nrs_nil, nrs_cons, shut_same, pick_nil, pick_cons, decide_true, decide_false, hz, pow18, pow60, pow600, e2, e3, e4, r_arith]
  exact shutR_vl (T := []) rfl
theorem number_ok (hf : 10000 ≤ fu) {g : Nat} {B m : Int} {G : Gn} (eg : S[g]? = some (gc G)) (hG : OkG B G) (hB : B ≤ 2 ^ 60) (h1 : 0 ≤ m) (h2 : m < 2 ^ 110) :
    ∃ (r : Int) (G' : Gn), c__law_number fu [.ref g, .int m] S = some (.int r, S.set g (gc G')) ∧ -m ≤ r ∧ r ≤ m ∧ OkG (B + 5) G' := by
  obtain ⟨r, G', hr, r0, r1, hg'⟩ := random_ok hf (b := 2 * m + 1) eg hG hB (by omega) (by omega)
  refine ⟨r - m, G', ?_, by omega, by omega, hg'⟩
  have e1 : fMul 2 m = some (2 * m) := mul_ok (show Sm 2 2 by unfold Sm; decide) (show Sm 110 m from .of h1 h2) (by decide)
  have hr' : c__law_random fu [.ref g, .int (2 * m + 1)] S = _ := hr
  unfold c__law_number u__law_number b__law_number
  simp only [r_sCons, r_sIf, r_tAnd, r_tOr, r_tNot, r_truB, r_truF, r_truD_bl, r_eBin, r_eVar, r_eC, r_eCall, r_eCallK, r_aCons, r_aNil, r_eAnd, r_eOr, r_eNotT, r_eIf, r_eNeg, r_eChain, r_sNil, r_sDrop, r_sRet, r_sSet, r_sAsg, r_sPar, r_nm, r_tp, r_sets, r_sets0, List.getElem?_cons_zero, List.getElem?_cons_succ, List.set_cons_zero, List.set_cons_succ, List.length_cons, List.length_nil, List.map_cons, List.map_nil, List.cons_append, List.nil_append, Nat.zero_add, Nat.reduceAdd, Nat.sub_self, Nat.reduceSub, Nat.add_zero, List.reduceReplicate, List.replicate_zero, List.append_nil, if_true, if_false, Bool.false_eq_true, Bool.not_true, Bool.not_false, Bool.true_and, Bool.and_true, Bool.false_and, Bool.and_false, Bool.or_true, Bool.true_or, Bool.false_or, Bool.or_false, reduceIte, r_fnF, r_sealed, r_start, t_tup0, t_tup1, t_tup2, t_tup3, t_tup4, t_lst0, t_lst1, t_lst2, t_lst3, t_lst4, t_lst5, t_lst6, t_lst7, t_lst8, t_lst9, t_lst10, r_mkV, r_mkR, r_isN, r_non0, r_non1, r_non2, r_non3, r_non4, r_non5, r_non6, isi_int, isi_intb, isi_tup, isi_str, isi_vl, isi_ints, isi_tups, r_cmp2i, r_cmp2t, r_cmpI, r_eqv_int, r_eqv_str, r_add, r_sub, r_arith, r_ix_tup, r_ix_vl, r_len_tup, r_len_vl, r_cInt, r_cMin, r_cMax, r_lof_vl, r_lof_tup, r_tof_vl, r_tof_tup, r_truD_vl, r_truD_tup, r_truD_int, r_truD_non, r_oSome, r_oNone, r_eSl, r_sl_vl, r_sl_tup, r_iAny, r_eMethL, r_isRef_vl, ix20, ix21, nr_int, nr_bl, nr_non, nr_str, nr_tup, nr_vl, nrs_nil, nrs_cons, shut_same, pick_nil, pick_cons, decide_true, decide_false, e1, hr', r_arith]
  exact shut_set0 rfl rfl
theorem in_two {w a b : Int} : gIn2 false (.int w) (.vl [.int a, .int b]) S = some (.bl (a == w || b == w), S) := in2_of <| by
  simp [gIn, flatD, eqD]
def BdO (m : Int) (e : End) : Prop := ∀ i, e = some i → -m ≤ i ∧ i ≤ m
def BdR (m : Int) (r : Rg) : Prop := BdO m r.1 ∧ BdO m r.2
theorem range_ok (hf : 10000 ≤ fu) {g : Nat} {B m : Int} {G : Gn} (eg : S[g]? = some (gc G)) (hG : OkG B G) (hB : B ≤ 2 ^ 59) (h1 : 0 ≤ m) (h2 : m < 2 ^ 110) :
    ∃ (r : Rg) (G' : Gn), c__law_range fu [.ref g, .int m] S = some (dR r, S.set g (gc G')) ∧ okR r = true ∧ BdR m r ∧ OkG (B + 15) G' := by
  have hgl := (List.getElem?_eq_some_iff.mp eg).1
  obtain ⟨lo, G1, e1, l0, l1, g1⟩ := number_ok hf eg hG (by omega) h1 h2
  have eg1 : (S.set g (gc G1))[g]? = some (gc G1) := List.getElem?_set_self hgl
  obtain ⟨w1, G2, e2, w0, w2, g2⟩ := random_ok hf (b := m + 1) eg1 g1 (by omega) (by omega) (by omega)
  rw [List.set_set] at e2
  have eg2 : (S.set g (gc G2))[g]? = some (gc G2) := List.getElem?_set_self hgl
  obtain ⟨w, G3, e3, v0, v1, g3⟩ := random_ok hf (b := 8) eg2 g2 (by omega) (by omega) (by omega)
  rw [List.set_set] at e3
  have e2' : c__law_random fu [.ref g, .int (m + 1)] (S.set g (gc G1)) = _ := e2
  have e3' : c__law_random fu [.ref g, .int 8] (S.set g (gc G2)) = _ := e3
  obtain ⟨h, hh⟩ : ∃ h, h = (if m < lo + w1 then m else lo + w1) := ⟨_, rfl⟩
  have hlo : lo ≤ h := by rw [hh]; split <;> omega
  have hhi : h ≤ m := by rw [hh]; split <;> omega
  refine ⟨(if (0 == w || 2 == w) = true then none else some lo, if (1 == w || 2 == w) = true then none else some h), G3, ?_, ?_, ?_, g3.mono (by omega)⟩
  · unfold c__law_range u__law_range b__law_range
    simp only [r_sCons, r_sIf, r_tAnd, r_tOr, r_tNot, r_truB, r_truF, r_truD_bl, r_eBin, r_eVar, r_eC, r_eCall, r_eCallK, r_aCons, r_aNil, r_eAnd, r_eOr, r_eNotT, r_eIf, r_eNeg, r_eChain, r_sNil, r_sDrop, r_sRet, r_sSet, r_sAsg, r_sPar, r_nm, r_tp, r_sets, r_sets0, List.getElem?_cons_zero, List.getElem?_cons_succ, List.set_cons_zero, List.set_cons_succ, List.length_cons, List.length_nil, List.map_cons, List.map_nil, List.cons_append, List.nil_append, Nat.zero_add, Nat.reduceAdd, Nat.sub_self, Nat.reduceSub, Nat.add_zero, List.reduceReplicate, List.replicate_zero, List.append_nil, if_true, if_false, Bool.false_eq_true, Bool.not_true, Bool.not_false, Bool.true_and, Bool.and_true, Bool.false_and, Bool.and_false, Bool.or_true, Bool.true_or, Bool.false_or, Bool.or_false, reduceIte, r_fnF, r_sealed, r_start, t_tup0, t_tup1, t_tup2, t_tup3, t_tup4, t_lst0, t_lst1, t_lst2, t_lst3, t_lst4, t_lst5, t_lst6, t_lst7, t_lst8, t_lst9, t_lst10, r_mkV, r_mkR, r_isN, r_non0, r_non1, r_non2, r_non3, r_non4, r_non5, r_non6, isi_int, isi_intb, isi_tup, isi_str, isi_vl, isi_ints, isi_tups, r_cmp2i, r_cmp2t, r_cmpI, r_eqv_int, r_eqv_str, r_add, r_sub, r_arith, r_ix_tup, r_ix_vl, r_len_tup, r_len_vl, r_cInt, r_cMin, r_cMax, r_lof_vl, r_lof_tup, r_tof_vl, r_tof_tup, r_truD_vl, r_truD_tup, r_truD_int, r_truD_non, r_oSome, r_oNone, r_eSl, r_sl_vl, r_sl_tup, r_iAny, r_eMethL, r_isRef_vl, ix20, ix21, nr_int, nr_bl, nr_non, nr_str, nr_tup, nr_vl, nrs_nil, nrs_cons, shut_same, pick_nil, pick_cons, decide_true, decide_false, e1, e2', e3', ← hh, in_two]
    cases c1 : (0 == w || 2 == w) <;> cases c2 : (1 == w || 2 == w) <;> simp only [r_sCons, r_sIf, r_tAnd, r_tOr, r_tNot, r_truB, r_truF, r_truD_bl, r_eBin, r_eVar, r_eC, r_eCall, r_eCallK, r_aCons, r_aNil, r_eAnd, r_eOr, r_eNotT, r_eIf, r_eNeg, r_eChain, r_sNil, r_sDrop, r_sRet, r_sSet, r_sAsg, r_sPar, r_nm, r_tp, r_sets, r_sets0, List.getElem?_cons_zero, List.getElem?_cons_succ, List.set_cons_zero, List.set_cons_succ, List.length_cons, List.length_nil, List.map_cons, List.map_nil, List.cons_append, List.nil_append, Nat.zero_add, Nat.reduceAdd, Nat.sub_self, Nat.reduceSub, Nat.add_zero, List.reduceReplicate, List.replicate_zero, List.append_nil, if_true, if_false, Bool.false_eq_true, Bool.not_true, Bool.not_false, Bool.true_and, Bool.and_true, Bool.false_and, Bool.and_false, Bool.or_true, Bool.true_or, Bool.false_or, Bool.or_false, reduceIte, r_fnF, r_sealed, r_start, t_tup0, t_tup1, t_tup2, t_tup3, t_tup4, t_lst0, t_lst1, t_lst2, t_lst3, t_lst4, t_lst5, t_lst6, t_lst7, t_lst8, t_lst9, t_lst10, r_mkV, r_mkR, r_isN, r_non0, r_non1, r_non2, r_non3, r_non4, r_non5, r_non6, isi_int, isi_intb, isi_tup, isi_str, isi_vl, isi_ints, isi_tups, r_cmp2i, r_cmp2t, r_cmpI, r_eqv_int, r_eqv_str, r_add, r_sub, r_arith, r_ix_tup, r_ix_vl, r_len_tup, r_len_vl, r_cInt, r_cMin, r_cMax, r_lof_vl, r_lof_tup, r_tof_vl, r_tof_tup, r_truD_vl, r_truD_tup, r_truD_int, r_truD_non, r_oSome, r_oNone, r_eSl, r_sl_vl, r_sl_tup, r_iAny, r_eMethL, r_isRef_vl, ix20, ix21, nr_int, nr_bl, nr_non, nr_str, nr_tup, nr_vl, nrs_nil, nrs_cons, shut_same, pick_nil, pick_cons, decide_true, decide_false, in_two, c1, c2, dR, dO] <;> exact shut_set0 rfl rfl
  · split
    · split <;> rfl
    · split
      · rfl
      · exact decide_eq_true hlo
  · constructor
    · intro a ha
      dsimp only at ha
      split at ha <;> cases ha
      omega
    · intro a ha
      dsimp only at ha
      split at ha <;> cases ha
      omega
end
end Sp
namespace Sp
open PySem PySem.Spec PyProof.Rows L2 Lv Com
section
variable {fu : Nat} {S : Sto}
def mn (a b : Int) : Int := if b < a then b else a
def mx (a b : Int) : Int := if b > a then b else a
def gl : End → End → End
  | none, x => x
  | some x, none => some x
  | some x, some y => some (mx x y)
def lh : End → End → End
  | none, x => x
  | some x, none => some x
  | some x, some y => some (mn x y)
def ll : End → End → End
  | some x, some y => some (mn x y)
  | _, _ => none
def gh : End → End → End
  | some x, some y => some (mx x y)
  | _, _ => none
theorem gl_ok {a b : End} : c__greater_low fu [dO a, dO b] S = some (dO (gl a b), S) := by
  unfold c__greater_low u__greater_low b__greater_low
  rcases a with _ | a <;> rcases b with _ | b <;> simp only [r_sCons, r_sIf, r_tAnd, r_tOr, r_tNot, r_truB, r_truF, r_truD_bl, r_eBin, r_eVar, r_eC, r_eCall, r_eCallK, r_aCons, r_aNil, r_eAnd, r_eOr, r_eNotT, r_eIf, r_eNeg, r_eChain, r_sNil, r_sDrop, r_sRet, r_sSet, r_sAsg, r_sPar, r_nm, r_tp, r_sets, r_sets0, List.getElem?_cons_zero, List.getElem?_cons_succ, List.set_cons_zero, List.set_cons_succ, List.length_cons, List.length_nil, List.map_cons, List.map_nil, List.cons_append, List.nil_append, Nat.zero_add, Nat.reduceAdd, Nat.sub_self, Nat.reduceSub, Nat.add_zero, List.reduceReplicate, List.replicate_zero, List.append_nil, if_true, if_false, Bool.false_eq_true, Bool.not_true, Bool.not_false, Bool.true_and, Bool.and_true, Bool.false_and, Bool.and_false, Bool.or_true, Bool.true_or, Bool.false_or, Bool.or_false, reduceIte, r_fnF, r_sealed, r_start, t_tup0, t_tup1, t_tup2, t_tup3, t_tup4, t_lst0, t_lst1, t_lst2, t_lst3, t_lst4, t_lst5, t_lst6, t_lst7, t_lst8, t_lst9, t_lst10, r_mkV, r_mkR, r_isN, r_non0, r_non1, r_non2, r_non3, r_non4, r_non5, r_non6, isi_int, isi_intb, isi_tup, isi_str, isi_vl, isi_ints, isi_tups, r_cmp2i, r_cmp2t, r_cmpI, r_eqv_int, r_eqv_str, r_add, r_sub, r_arith, r_ix_tup, r_ix_vl, r_len_tup, r_len_vl, r_cInt, r_cMin, r_cMax, r_lof_vl, r_lof_tup, r_tof_vl, r_tof_tup, r_truD_vl, r_truD_tup, r_truD_int, r_truD_non, r_oSome, r_oNone, r_eSl, r_sl_vl, r_sl_tup, r_iAny, r_eMethL, r_isRef_vl, ix20, ix21, nr_int, nr_bl, nr_non, nr_str, nr_tup, nr_vl, nrs_nil, nrs_cons, shut_same, pick_nil, pick_cons, decide_true, decide_false, dO, gl, mx]
theorem lh_ok {a b : End} : c__lesser_high fu [dO a, dO b] S = some (dO (lh a b), S) := by
  unfold c__lesser_high u__lesser_high b__lesser_high
  rcases a with _ | a <;> rcases b with _ | b <;> simp only [r_sCons, r_sIf, r_tAnd, r_tOr, r_tNot, r_truB, r_truF, r_truD_bl, r_eBin, r_eVar, r_eC, r_eCall, r_eCallK, r_aCons, r_aNil, r_eAnd, r_eOr, r_eNotT, r_eIf, r_eNeg, r_eChain, r_sNil, r_sDrop, r_sRet, r_sSet, r_sAsg, r_sPar, r_nm, r_tp, r_sets, r_sets0, List.getElem?_cons_zero, List.getElem?_cons_succ, List.set_cons_zero, List.set_cons_succ, List.length_cons, List.length_nil, List.map_cons, List.map_nil, List.cons_append, List.nil_append, Nat.zero_add, Nat.reduceAdd, Nat.sub_self, Nat.reduceSub, Nat.add_zero, List.reduceReplicate, List.replicate_zero, List.append_nil, if_true, if_false, Bool.false_eq_true, Bool.not_true, Bool.not_false, Bool.true_and, Bool.and_true, Bool.false_and, Bool.and_false, Bool.or_true, Bool.true_or, Bool.false_or, Bool.or_false, reduceIte, r_fnF, r_sealed, r_start, t_tup0, t_tup1, t_tup2, t_tup3, t_tup4, t_lst0, t_lst1, t_lst2, t_lst3, t_lst4, t_lst5, t_lst6, t_lst7, t_lst8, t_lst9, t_lst10, r_mkV, r_mkR, r_isN, r_non0, r_non1, r_non2, r_non3, r_non4, r_non5, r_non6, isi_int, isi_intb, isi_tup, isi_str, isi_vl, isi_ints, isi_tups, r_cmp2i, r_cmp2t, r_cmpI, r_eqv_int, r_eqv_str, r_add, r_sub, r_arith, r_ix_tup, r_ix_vl, r_len_tup, r_len_vl, r_cInt, r_cMin, r_cMax, r_lof_vl, r_lof_tup, r_tof_vl, r_tof_tup, r_truD_vl, r_truD_tup, r_truD_int, r_truD_non, r_oSome, r_oNone, r_eSl, r_sl_vl, r_sl_tup, r_iAny, r_eMethL, r_isRef_vl, ix20, ix21, nr_int, nr_bl, nr_non, nr_str, nr_tup, nr_vl, nrs_nil, nrs_cons, shut_same, pick_nil, pick_cons, decide_true, decide_false, dO, lh, mn]
theorem ll_ok {a b : End} : c__lesser_low fu [dO a, dO b] S = some (dO (ll a b), S) := by
  unfold c__lesser_low u__lesser_low b__lesser_low
  rcases a with _ | a <;> rcases b with _ | b <;> simp only [r_sCons, r_sIf, r_tAnd, r_tOr, r_tNot, r_truB, r_truF, r_truD_bl, r_eBin, r_eVar, r_eC, r_eCall, r_eCallK, r_aCons, r_aNil, r_eAnd, r_eOr, r_eNotT, r_eIf, r_eNeg, r_eChain, r_sNil, r_sDrop, r_sRet, r_sSet, r_sAsg, r_sPar, r_nm, r_tp, r_sets, r_sets0, List.getElem?_cons_zero, List.getElem?_cons_succ, List.set_cons_zero, List.set_cons_succ, List.length_cons, List.length_nil, List.map_cons, List.map_nil, List.cons_append, List.nil_append, Nat.zero_add, Nat.reduceAdd, Nat.sub_self, Nat.reduceSub, Nat.add_zero, List.reduceReplicate, List.replicate_zero, List.append_nil, if_true, if_false, Bool.false_eq_true, Bool.not_true, Bool.not_false, Bool.true_and, Bool.and_true, Bool.false_and, Bool.and_false, Bool.or_true, Bool.true_or, Bool.false_or, Bool.or_false, reduceIte, r_fnF, r_sealed, r_start, t_tup0, t_tup1, t_tup2, t_tup3, t_tup4, t_lst0, t_lst1, t_lst2, t_lst3, t_lst4, t_lst5, t_lst6, t_lst7, t_lst8, t_lst9, t_lst10, r_mkV, r_mkR, r_isN, r_non0, r_non1, r_non2, r_non3, r_non4, r_non5, r_non6, isi_int, isi_intb, isi_tup, isi_str, isi_vl, isi_ints, isi_tups, r_cmp2i, r_cmp2t, r_cmpI, r_eqv_int, r_eqv_str, r_add, r_sub, r_arith, r_ix_tup, r_ix_vl, r_len_tup, r_len_vl, r_cInt, r_cMin, r_cMax, r_lof_vl, r_lof_tup, r_tof_vl, r_tof_tup, r_truD_vl, r_truD_tup, r_truD_int, r_truD_non, r_oSome, r_oNone, r_eSl, r_sl_vl, r_sl_tup, r_iAny, r_eMethL, r_isRef_vl, ix20, ix21, nr_int, nr_bl, nr_non, nr_str, nr_tup, nr_vl, nrs_nil, nrs_cons, shut_same, pick_nil, pick_cons, decide_true, decide_false, dO, ll, mn]
theorem gh_ok {a b : End} : c__greater_high fu [dO a, dO b] S = some (dO (gh a b), S) := by
  unfold c__greater_high u__greater_high b__greater_high
  rcases a with _ | a <;> rcases b with _ | b <;> simp only [r_sCons, r_sIf, r_tAnd, r_tOr, r_tNot, r_truB, r_truF, r_truD_bl, r_eBin, r_eVar, r_eC, r_eCall, r_eCallK, r_aCons, r_aNil, r_eAnd, r_eOr, r_eNotT, r_eIf, r_eNeg, r_eChain, r_sNil, r_sDrop, r_sRet, r_sSet, r_sAsg, r_sPar, r_nm, r_tp, r_sets, r_sets0, List.getElem?_cons_zero, List.getElem?_cons_succ, List.set_cons_zero, List.set_cons_succ, List.length_cons, List.length_nil, List.map_cons, List.map_nil, List.cons_append, List.nil_append, Nat.zero_add, Nat.reduceAdd, Nat.sub_self, Nat.reduceSub, Nat.add_zero, List.reduceReplicate, List.replicate_zero, List.append_nil, if_true, if_false, Bool.false_eq_true, Bool.not_true, Bool.not_false, Bool.true_and, Bool.and_true, Bool.false_and, Bool.and_false, Bool.or_true, Bool.true_or, Bool.false_or, Bool.or_false, reduceIte, r_fnF, r_sealed, r_start, t_tup0, t_tup1, t_tup2, t_tup3, t_tup4, t_lst0, t_lst1, t_lst2, t_lst3, t_lst4, t_lst5, t_lst6, t_lst7, t_lst8, t_lst9, t_lst10, r_mkV, r_mkR, r_isN, r_non0, r_non1, r_non2, r_non3, r_non4, r_non5, r_non6, isi_int, isi_intb, isi_tup, isi_str, isi_vl, isi_ints, isi_tups, r_cmp2i, r_cmp2t, r_cmpI, r_eqv_int, r_eqv_str, r_add, r_sub, r_arith, r_ix_tup, r_ix_vl, r_len_tup, r_len_vl, r_cInt, r_cMin, r_cMax, r_lof_vl, r_lof_tup, r_tof_vl, r_tof_tup, r_truD_vl, r_truD_tup, r_truD_int, r_truD_non, r_oSome, r_oNone, r_eSl, r_sl_vl, r_sl_tup, r_iAny, r_eMethL, r_isRef_vl, ix20, ix21, nr_int, nr_bl, nr_non, nr_str, nr_tup, nr_vl, nrs_nil, nrs_cons, shut_same, pick_nil, pick_cons, decide_true, decide_false, dO, gh, mx]
def ep (a : End) (n : Int) : End := a.map (· + n)
theorem r0 {r : Rg} : gIx (dR r) (.int 0) S = some (dO r.1, S) := rfl
theorem r1 {r : Rg} : gIx (dR r) (.int 1) S = some (dO r.2, S) := rfl
def dOR : Option Rg → D
  | none => .non
  | some r => dR r
@[simp] theorem nr_dOR {r : Option Rg} : noRef (dOR r) = true := by cases r <;> simp [dOR]
theorem non_dO {a : End} : Lv.isNon (dO a) = a.isNone := by cases a <;> rfl
def metR (r q : Rg) : Option Rg := if okR (gl r.1 q.1, lh r.2 q.2) then some (gl r.1 q.1, lh r.2 q.2) else none
theorem met_ok {r q : Rg} : c_met fu [dR r, dR q] S = some (dOR (metR r q), S) := by
  unfold c_met u_met b_met metR
  simp only [r_sCons, r_sIf, r_tAnd, r_tOr, r_tNot, r_truB, r_truF, r_truD_bl, r_eBin, r_eVar, r_eC, r_eCall, r_eCallK, r_aCons, r_aNil, r_eAnd, r_eOr, r_eNotT, r_eIf, r_eNeg, r_eChain, r_sNil, r_sDrop, r_sRet, r_sSet, r_sAsg, r_sPar, r_nm, r_tp, r_sets, r_sets0, List.getElem?_cons_zero, List.getElem?_cons_succ, List.set_cons_zero, List.set_cons_succ, List.length_cons, List.length_nil, List.map_cons, List.map_nil, List.cons_append, List.nil_append, Nat.zero_add, Nat.reduceAdd, Nat.sub_self, Nat.reduceSub, Nat.add_zero, List.reduceReplicate, List.replicate_zero, List.append_nil, if_true, if_false, Bool.false_eq_true, Bool.not_true, Bool.not_false, Bool.true_and, Bool.and_true, Bool.false_and, Bool.and_false, Bool.or_true, Bool.true_or, Bool.false_or, Bool.or_false, reduceIte, r_fnF, r_sealed, r_start, t_tup0, t_tup1, t_tup2, t_tup3, t_tup4, t_lst0, t_lst1, t_lst2, t_lst3, t_lst4, t_lst5, t_lst6, t_lst7, t_lst8, t_lst9, t_lst10, r_mkV, r_mkR, r_isN, r_non0, r_non1, r_non2, r_non3, r_non4, r_non5, r_non6, isi_int, isi_intb, isi_tup, isi_str, isi_vl, isi_ints, isi_tups, r_cmp2i, r_cmp2t, r_cmpI, r_eqv_int, r_eqv_str, r_add, r_sub, r_arith, r_ix_tup, r_ix_vl, r_len_tup, r_len_vl, r_cInt, r_cMin, r_cMax, r_lof_vl, r_lof_tup, r_tof_vl, r_tof_tup, r_truD_vl, r_truD_tup, r_truD_int, r_truD_non, r_oSome, r_oNone, r_eSl, r_sl_vl, r_sl_tup, r_iAny, r_eMethL, r_isRef_vl, ix20, ix21, nr_int, nr_bl, nr_non, nr_str, nr_tup, nr_vl, nrs_nil, nrs_cons, shut_same, pick_nil, pick_cons, decide_true, decide_false, r0, r1, gl_ok, lh_ok, non_dO]
  generalize gl r.1 q.1 = lo
  generalize lh r.2 q.2 = hi
  cases lo with
  | none => simp only [r_sCons, r_sIf, r_tAnd, r_tOr, r_tNot, r_truB, r_truF, r_truD_bl, r_eBin, r_eVar, r_eC, r_eCall, r_eCallK, r_aCons, r_aNil, r_eAnd, r_eOr, r_eNotT, r_eIf, r_eNeg, r_eChain, r_sNil, r_sDrop, r_sRet, r_sSet, r_sAsg, r_sPar, r_nm, r_tp, r_sets, r_sets0, List.getElem?_cons_zero, List.getElem?_cons_succ, List.set_cons_zero, List.set_cons_succ, List.length_cons, List.length_nil, List.map_cons, List.map_nil, List.cons_append, List.nil_append, Nat.zero_add, Nat.reduceAdd, Nat.sub_self, Nat.reduceSub, Nat.add_zero, List.reduceReplicate, List.replicate_zero, List.append_nil, if_true, if_false, Bool.false_eq_true, Bool.not_true, Bool.not_false, Bool.true_and, Bool.and_true, Bool.false_and, Bool.and_false, Bool.or_true, Bool.true_or, Bool.false_or, Bool.or_false, reduceIte, r_fnF, r_sealed, r_start, t_tup0, t_tup1, t_tup2, t_tup3, t_tup4, t_lst0, t_lst1, t_lst2, t_lst3, t_lst4, t_lst5, t_lst6, t_lst7, t_lst8, t_lst9, t_lst10, r_mkV, r_mkR, r_isN, r_non0, r_non1, r_non2, r_non3, r_non4, r_non5, r_non6, isi_int, isi_intb, isi_tup, isi_str, isi_vl, isi_ints, isi_tups, r_cmp2i, r_cmp2t, r_cmpI, r_eqv_int, r_eqv_str, r_add, r_sub, r_arith, r_ix_tup, r_ix_vl, r_len_tup, r_len_vl, r_cInt, r_cMin, r_cMax, r_lof_vl, r_lof_tup, r_tof_vl, r_tof_tup, r_truD_vl, r_truD_tup, r_truD_int, r_truD_non, r_oSome, r_oNone, r_eSl, r_sl_vl, r_sl_tup, r_iAny, r_eMethL, r_isRef_vl, ix20, ix21, nr_int, nr_bl, nr_non, nr_str, nr_tup, nr_vl, nrs_nil, nrs_cons, shut_same, pick_nil, pick_cons, decide_true, decide_false, Option.isNone, okR, dOR, dR, nr_dO]
  | some a =>
    cases hi with
    | none => simp only [r_sCons, r_sIf, r_tAnd, r_tOr, r_tNot, r_truB, r_truF, r_truD_bl, r_eBin, r_eVar, r_eC, r_eCall, r_eCallK, r_aCons, r_aNil, r_eAnd, r_eOr, r_eNotT, r_eIf, r_eNeg, r_eChain, r_sNil, r_sDrop, r_sRet, r_sSet, r_sAsg, r_sPar, r_nm, r_tp, r_sets, r_sets0, List.getElem?_cons_zero, List.getElem?_cons_succ, List.set_cons_zero, List.set_cons_succ, List.length_cons, List.length_nil, List.map_cons, List.map_nil, List.cons_append, List.nil_append, Nat.zero_add, Nat.reduceAdd, Nat.sub_self, Nat.reduceSub, Nat.add_zero, List.reduceReplicate, List.replicate_zero, List.append_nil, if_true, if_false, Bool.false_eq_true, Bool.not_true, Bool.not_false, Bool.true_and, Bool.and_true, Bool.false_and, Bool.and_false, Bool.or_true, Bool.true_or, Bool.false_or, Bool.or_false, reduceIte, r_fnF, r_sealed, r_start, t_tup0, t_tup1, t_tup2, t_tup3, t_tup4, t_lst0, t_lst1, t_lst2, t_lst3, t_lst4, t_lst5, t_lst6, t_lst7, t_lst8, t_lst9, t_lst10, r_mkV, r_mkR, r_isN, r_non0, r_non1, r_non2, r_non3, r_non4, r_non5, r_non6, isi_int, isi_intb, isi_tup, isi_str, isi_vl, isi_ints, isi_tups, r_cmp2i, r_cmp2t, r_cmpI, r_eqv_int, r_eqv_str, r_add, r_sub, r_arith, r_ix_tup, r_ix_vl, r_len_tup, r_len_vl, r_cInt, r_cMin, r_cMax, r_lof_vl, r_lof_tup, r_tof_vl, r_tof_tup, r_truD_vl, r_truD_tup, r_truD_int, r_truD_non, r_oSome, r_oNone, r_eSl, r_sl_vl, r_sl_tup, r_iAny, r_eMethL, r_isRef_vl, ix20, ix21, nr_int, nr_bl, nr_non, nr_str, nr_tup, nr_vl, nrs_nil, nrs_cons, shut_same, pick_nil, pick_cons, decide_true, decide_false, Option.isNone, okR, dOR, dR, nr_dO]
    | some b =>
      by_cases h : b < a
      · have h2 : ¬ a ≤ b := by omega
        simp only [r_sCons, r_sIf, r_tAnd, r_tOr, r_tNot, r_truB, r_truF, r_truD_bl, r_eBin, r_eVar, r_eC, r_eCall, r_eCallK, r_aCons, r_aNil, r_eAnd, r_eOr, r_eNotT, r_eIf, r_eNeg, r_eChain, r_sNil, r_sDrop, r_sRet, r_sSet, r_sAsg, r_sPar, r_nm, r_tp, r_sets, r_sets0, List.getElem?_cons_zero, List.getElem?_cons_succ, List.set_cons_zero, List.set_cons_succ, List.length_cons, List.length_nil, List.map_cons, List.map_nil, List.cons_append, List.nil_append, Nat.zero_add, Nat.reduceAdd, Nat.sub_self, Nat.reduceSub, Nat.add_zero, List.reduceReplicate, List.replicate_zero, List.append_nil, if_true, if_false, Bool.false_eq_true, Bool.not_true, Bool.not_false, Bool.true_and, Bool.and_true, Bool.false_and, Bool.and_false, Bool.or_true, Bool.true_or, Bool.false_or, Bool.or_false, reduceIte, r_fnF, r_sealed, r_start, t_tup0, t_tup1, t_tup2, t_tup3, t_tup4, t_lst0, t_lst1, t_lst2, t_lst3, t_lst4, t_lst5, t_lst6, t_lst7, t_lst8, t_lst9, t_lst10, r_mkV, r_mkR, r_isN, r_non0, r_non1, r_non2, r_non3, r_non4, r_non5, r_non6, isi_int, isi_intb, isi_tup, isi_str, isi_vl, isi_ints, isi_tups, r_cmp2i, r_cmp2t, r_cmpI, r_eqv_int, r_eqv_str, r_add, r_sub, r_arith, r_ix_tup, r_ix_vl, r_len_tup, r_len_vl, r_cInt, r_cMin, r_cMax, r_lof_vl, r_lof_tup, r_tof_vl, r_tof_tup, r_truD_vl, r_truD_tup, r_truD_int, r_truD_non, r_oSome, r_oNone, r_eSl, r_sl_vl, r_sl_tup, r_iAny, r_eMethL, r_isRef_vl, ix20, ix21, nr_int, nr_bl, nr_non, nr_str, nr_tup, nr_vl, nrs_nil, nrs_cons, shut_same, pick_nil, pick_cons, decide_true, decide_false, Option.isNone, okR, dOR, dR, dO, nr_dO, decide_eq_true h, decide_eq_false h2]
      · have h2 : a ≤ b := by omega
        simp only [r_sCons, r_sIf, r_tAnd, r_tOr, r_tNot, r_truB, r_truF, r_truD_bl, r_eBin, r_eVar, r_eC, r_eCall, r_eCallK, r_aCons, r_aNil, r_eAnd, r_eOr, r_eNotT, r_eIf, r_eNeg, r_eChain, r_sNil, r_sDrop, r_sRet, r_sSet, r_sAsg, r_sPar, r_nm, r_tp, r_sets, r_sets0, List.getElem?_cons_zero, List.getElem?_cons_succ, List.set_cons_zero, List.set_cons_succ, List.length_cons, List.length_nil, List.map_cons, List.map_nil, List.cons_append, List.nil_append, Nat.zero_add, Nat.reduceAdd, Nat.sub_self, Nat.reduceSub, Nat.add_zero, List.reduceReplicate, List.replicate_zero, List.append_nil, if_true, if_false, Bool.false_eq_true, Bool.not_true, Bool.not_false, Bool.true_and, Bool.and_true, Bool.false_and, Bool.and_false, Bool.or_true, Bool.true_or, Bool.false_or, Bool.or_false, reduceIte, r_fnF, r_sealed, r_start, t_tup0, t_tup1, t_tup2, t_tup3, t_tup4, t_lst0, t_lst1, t_lst2, t_lst3, t_lst4, t_lst5, t_lst6, t_lst7, t_lst8, t_lst9, t_lst10, r_mkV, r_mkR, r_isN, r_non0, r_non1, r_non2, r_non3, r_non4, r_non5, r_non6, isi_int, isi_intb, isi_tup, isi_str, isi_vl, isi_ints, isi_tups, r_cmp2i, r_cmp2t, r_cmpI, r_eqv_int, r_eqv_str, r_add, r_sub, r_arith, r_ix_tup, r_ix_vl, r_len_tup, r_len_vl, r_cInt, r_cMin, r_cMax, r_lof_vl, r_lof_tup, r_tof_vl, r_tof_tup, r_truD_vl, r_truD_tup, r_truD_int, r_truD_non, r_oSome, r_oNone, r_eSl, r_sl_vl, r_sl_tup, r_iAny, r_eMethL, r_isRef_vl, ix20, ix21, nr_int, nr_bl, nr_non, nr_str, nr_tup, nr_vl, nrs_nil, nrs_cons, shut_same, pick_nil, pick_cons, decide_true, decide_false, Option.isNone, okR, dOR, dR, dO, nr_dO, decide_eq_false h, decide_eq_true h2]
def at_ (zs : List Str) (x : Str) (rs : List Rg) : Rg := rs.getD (zs.idxOf x) (none, none)
def pO : End → PyData
  | none => .none
  | some i => .int i
def pR (r : Rg) : PyData := .tuple [pO r.1, pO r.2]
def pOR : Option Rg → PyData
  | none => .none
  | some r => pR r
theorem toP_dO {n : Nat} {a : End} : toP (n + 1) S (dO a) = some (pO a) := by cases a <;> rfl
theorem toP_dR {n : Nat} {r : Rg} : toP (n + 2) S (dR r) = some (pR r) := by
  unfold dR toP
  simp only [mapO, toP_dO]
  rfl
theorem toP_dOR {n : Nat} {r : Option Rg} : toP (n + 2) S (dOR r) = some (pOR r) := by
  cases r with
  | none => rfl
  | some r => exact toP_dR
theorem mapO_map {α : Type} {n : Nat} {enc : α → D} {pe : α → PyData} (h : ∀ x, toP n S (enc x) = some (pe x)) : ∀ xs : List α, mapO (toP n S) (xs.map enc) = some (xs.map pe)
  | [] => rfl
  | x :: xs => by
    simp only [List.map_cons, mapO, h x, mapO_map h xs]
theorem lay_pOR (r : Option Rg) : (pOR r).canLay0 = true := by
  rcases r with _ | ⟨a, b⟩
  · rfl
  · cases a <;> cases b <;> rfl
theorem dep_pOR (r : Option Rg) : (pOR r).depth ≤ 1 := by
  rcases r with _ | ⟨a, b⟩
  · exact Nat.zero_le _
  · cases a <;> cases b <;> exact Nat.le_of_ble_eq_true rfl
theorem layAll {ps : List PyData} (h : ∀ p ∈ ps, p.canLay0 = true) : PyData.canLayAll0 ps = true := by
  induction ps with
  | nil => rfl
  | cons p ps ih =>
    unfold PyData.canLayAll0
    rw [h p List.mem_cons_self, ih fun q hq => h q (List.mem_cons_of_mem _ hq)]
    rfl
theorem depAll {ps : List PyData} {k : Nat} (h : ∀ p ∈ ps, p.depth ≤ k) : PyData.depthAll ps ≤ k := by
  induction ps with
  | nil => exact Nat.zero_le _
  | cons p ps ih =>
    unfold PyData.depthAll
    exact Nat.max_le.mpr ⟨h p List.mem_cons_self, ih fun q hq => h q (List.mem_cons_of_mem _ hq)⟩
theorem shaped_of {p : PyData} {k : Nat} (h1 : p.canLay0 = true) (h2 : p.depth ≤ k) (h3 : k ≤ 64) : SeqAt.shaped p = true := by
  unfold SeqAt.shaped
  rw [h1, Bool.true_and]
  exact decide_eq_true (by omega)
theorem none_in {k : Nat} {os : List (Option Rg)} (hk : S[k]? = some (.lst (os.map dOR))) : gIn2 false .non (.ref k) S = some (.bl (os.any Option.isNone), S) := by
  have hi : itemsOf S (.ref k) = some (os.map dOR) := by simp only [itemsOf, hk, Cell.items]
  have he : ((os.map dOR).any fun d => eqD d .non) = os.any Option.isNone := by
    rw [List.any_map]
    congr 1
    funext r
    cases r <;> rfl
  cases q : (os.map dOR).all flatD with
  | true =>
    refine in2_of ?_
    unfold gIn
    rw [hi]
    dsimp only
    rw [q, he]
    rfl
  | false =>
    have h1 : gIn false .non (.ref k) S = none := by
      unfold gIn
      rw [hi]
      dsimp only
      rw [q, Bool.and_false]
      rfl
    unfold gIn2
    rw [h1]
    dsimp only
    have h2 : toP 60 S (.ref k) = some (.list (os.map pOR)) := by
      unfold toP
      rw [hk]
      dsimp only
      rw [show (Cell.lst (os.map dOR)).items = os.map dOR from rfl, mapO_map (n := 59) (fun r => toP_dOR (n := 57))]
    have h3 : SeqAt.shaped (.list (os.map pOR)) = true := shaped_of (k := 2) (by
      show PyData.canLayAll0 _ = true
      exact layAll fun p hp => by
        obtain ⟨r, _, rfl⟩ := List.mem_map.mp hp
        exact lay_pOR r) (by
      unfold PyData.depth
      have := depAll (ps := os.map pOR) (k := 1) fun p hp => by
        obtain ⟨r, _, rfl⟩ := List.mem_map.mp hp
        exact dep_pOR r
      omega) (by decide)
    have h4 : ((os.map pOR).any fun z => PyData.eqv z .none) = os.any Option.isNone := by
      rw [List.any_map]
      congr 1
      funext r
      rcases r with _ | ⟨a, b⟩ <;> rfl
    unfold gInD
    rw [h2]
    rw [show toP 60 S .non = some .none from rfl]
    dsimp only
    rw [h3, h4]
    rfl
end
end Sp
namespace Sp
open PySem PySem.Spec PyProof.Rows L2 Lv Com
section
variable {fu : Nat} {S : Sto}
def dORow : Option (List Rg) → D
  | none => .non
  | some rs => dRow rs
@[simp] theorem nr_dORow {o : Option (List Rg)} : noRef (dORow o) = true := by cases o <;> simp [dORow]
def cRow : Option (List Rg) → Sto → D × Sto
  | none, S => (.non, S)
  | some rs, S => (.ref S.length, S ++ [.lst (rs.map dR)])
def InD (zs : List Str) : Deed → Prop
  | .dgo => True
  | .dset x _ => x ∈ zs
  | .dadd x y _ => x ∈ zs ∧ y ∈ zs
  | .dturn x y _ => x ∈ zs ∧ y ∈ zs
  | .dinput x _ => x ∈ zs
  | .dleast x y z => x ∈ zs ∧ y ∈ zs ∧ z ∈ zs
  | .dgreatest x y z => x ∈ zs ∧ y ∈ zs ∧ z ∈ zs
  | .dupto x _ => x ∈ zs
  | .dfrom x _ => x ∈ zs
  | .dbelow x y _ => x ∈ zs ∧ y ∈ zs ∧ x ≠ y
  | .dequal x y _ => x ∈ zs ∧ y ∈ zs ∧ x ≠ y
theorem in_of_ok {zs : List Str} {d : Deed} (h : okD zs d = true) : InD zs d := by
  unfold okD at h
  rw [Bool.and_eq_true] at h
  obtain ⟨h1, h2⟩ := h
  cases d <;> simp only [dParts, List.all_cons, List.all_nil, Part.ok, Bool.and_true, Bool.and_eq_true, List.contains_iff_mem, dPair, decide_eq_true_eq] at h1 h2 <;> simp only [InD]
  all_goals (first | exact h1 | exact h1.1 | exact ⟨h1.1, h1.2.1⟩ | exact ⟨h1.1, h1.2, h2⟩ | exact ⟨h1.1, h1.2.1, h2⟩ | trivial)
end
end Sp
namespace Sp
open PySem PySem.Spec PyProof.Rows L2 Lv Com
section
variable {fu : Nat} {S : Sto}
abbrev Pr := Int × Int
def dPr (p : Pr) : D := .tup [.int p.1, .int p.2]
def dPs (ps : List Pr) : D := .vl (ps.map dPr)
def F59 : Int := 10 ^ 59
def F60 : Int := 10 ^ 60
theorem p59 : fPow 10 59 = some F59 := pow59
theorem p60 : fPow 10 60 = some F60 := pow60
@[simp] theorem nr_dPr {p : Pr} : noRef (dPr p) = true := by simp [dPr]
@[simp] theorem nrs_dPr {ps : List Pr} : noRefs (ps.map dPr) = true := nrs_map fun _ _ => by simp
@[simp] theorem nr_dPs {ps : List Pr} : noRef (dPs ps) = true := by simp [dPs]
def pr (r : Rg) : Pr := (r.1.getD (-F60), r.2.getD F60)
theorem pairs_ok (hf : 10000 ≤ fu) {rs : List Rg} (hl : rs.length ≤ 1000) : c__law_pairs fu [dRow rs] S = some (dPs (rs.map pr), S) := by
  have e := comp_all (n := fu) (own := [1, 2]) (it := iAny (eVar 0)) (t := .tp [1, 2]) (f := (eCall cTup (aCons (eIf (truB (eBin (gIsN false) (eVar 1) (eC .non))) (eNeg (eBin (gArith fPow) (eC (.int 10)) (eC (.int 60)))) (eVar 1)) (aCons (eIf (truB (eBin (gIsN false) (eVar 2) (eC .non))) (eBin (gArith fPow) (eC (.int 10)) (eC (.int 60))) (eVar 2)) aNil)))) (env := [some (dRow rs), none, none]) (S := S) (S1 := S) (xs := rs) (enc := dR) (fun r => dPr (pr r)) rfl (by omega) (by omega) (fun r hr S' => ⟨[some (dRow rs), some (dO r.1), some (dO r.2)], rfl, by
    obtain ⟨a, b⟩ := r
    cases a <;> cases b <;> simp only [r_sCons, r_sIf, r_tAnd, r_tOr, r_tNot, r_truB, r_truF, r_truD_bl, r_eBin, r_eVar, r_eC, r_eCall, r_eCallK, r_aCons, r_aNil, r_eAnd, r_eOr, r_eNotT, r_eIf, r_eNeg, r_eChain, r_sNil, r_sDrop, r_sRet, r_sSet, r_sAsg, r_sPar, r_nm, r_tp, r_sets, r_sets0, List.getElem?_cons_zero, List.getElem?_cons_succ, List.set_cons_zero, List.set_cons_succ, List.length_cons, List.length_nil, List.map_cons, List.map_nil, List.cons_append, List.nil_append, Nat.zero_add, Nat.reduceAdd, Nat.sub_self, Nat.reduceSub, Nat.add_zero, List.reduceReplicate, List.replicate_zero, List.append_nil, if_true, if_false, Bool.false_eq_true, Bool.not_true, Bool.not_false, Bool.true_and, Bool.and_true, Bool.false_and, Bool.and_false, Bool.or_true, Bool.true_or, Bool.false_or, Bool.or_false, reduceIte, r_fnF, r_sealed, r_start, t_tup0, t_tup1, t_tup2, t_tup3, t_tup4, t_lst0, t_lst1, t_lst2, t_lst3, t_lst4, t_lst5, t_lst6, t_lst7, t_lst8, t_lst9, t_lst10, r_mkV, r_mkR, r_isN, r_non0, r_non1, r_non2, r_non3, r_non4, r_non5, r_non6, isi_int, isi_intb, isi_tup, isi_str, isi_vl, isi_ints, isi_tups, r_cmp2i, r_cmp2t, r_cmpI, r_eqv_int, r_eqv_str, r_add, r_sub, r_arith, r_ix_tup, r_ix_vl, r_len_tup, r_len_vl, r_cInt, r_cMin, r_cMax, r_lof_vl, r_lof_tup, r_tof_vl, r_tof_tup, r_truD_vl, r_truD_tup, r_truD_int, r_truD_non, r_oSome, r_oNone, r_eSl, r_sl_vl, r_sl_tup, r_iAny, r_eMethL, r_isRef_vl, ix20, ix21, nr_int, nr_bl, nr_non, nr_str, nr_tup, nr_vl, nrs_nil, nrs_cons, shut_same, pick_nil, pick_cons, decide_true, decide_false, dO_none, dO_some, p60, pr, dPr, Option.getD]⟩) (fun r _ => by simp)
  unfold c__law_pairs u__law_pairs b__law_pairs
  simp only [r_sCons, r_sIf, r_tAnd, r_tOr, r_tNot, r_truB, r_truF, r_truD_bl, r_eBin, r_eVar, r_eC, r_eCall, r_eCallK, r_aCons, r_aNil, r_eAnd, r_eOr, r_eNotT, r_eIf, r_eNeg, r_eChain, r_sNil, r_sDrop, r_sRet, r_sSet, r_sAsg, r_sPar, r_nm, r_tp, r_sets, r_sets0, List.getElem?_cons_zero, List.getElem?_cons_succ, List.set_cons_zero, List.set_cons_succ, List.length_cons, List.length_nil, List.map_cons, List.map_nil, List.cons_append, List.nil_append, Nat.zero_add, Nat.reduceAdd, Nat.sub_self, Nat.reduceSub, Nat.add_zero, List.reduceReplicate, List.replicate_zero, List.append_nil, if_true, if_false, Bool.false_eq_true, Bool.not_true, Bool.not_false, Bool.true_and, Bool.and_true, Bool.false_and, Bool.and_false, Bool.or_true, Bool.true_or, Bool.false_or, Bool.or_false, reduceIte, r_fnF, r_sealed, r_start, t_tup0, t_tup1, t_tup2, t_tup3, t_tup4, t_lst0, t_lst1, t_lst2, t_lst3, t_lst4, t_lst5, t_lst6, t_lst7, t_lst8, t_lst9, t_lst10, r_mkV, r_mkR, r_isN, r_non0, r_non1, r_non2, r_non3, r_non4, r_non5, r_non6, isi_int, isi_intb, isi_tup, isi_str, isi_vl, isi_ints, isi_tups, r_cmp2i, r_cmp2t, r_cmpI, r_eqv_int, r_eqv_str, r_add, r_sub, r_arith, r_ix_tup, r_ix_vl, r_len_tup, r_len_vl, r_cInt, r_cMin, r_cMax, r_lof_vl, r_lof_tup, r_tof_vl, r_tof_tup, r_truD_vl, r_truD_tup, r_truD_int, r_truD_non, r_oSome, r_oNone, r_eSl, r_sl_vl, r_sl_tup, r_iAny, r_eMethL, r_isRef_vl, ix20, ix21, nr_int, nr_bl, nr_non, nr_str, nr_tup, nr_vl, nrs_nil, nrs_cons, shut_same, pick_nil, pick_cons, decide_true, decide_false, e, dPs, List.map_map]
  exact shut_same (by rw [nr_vl]; exact nrs_map fun r _ => nr_dPr)
def en (p : Pr) : Rg := (if p.1 < -F59 then none else some p.1, if F59 < p.2 then none else some p.2)
theorem ends_ok (hf : 10000 ≤ fu) {ps : List Pr} (hl : ps.length ≤ 1000) : c__law_ends fu [dPs ps] S = some (dRow (ps.map en), S) := by
  have e := comp_all (n := fu) (own := [1, 2]) (it := iAny (eVar 0)) (t := .tp [1, 2]) (f := (eCall cTup (aCons (eIf (truB (eBin (gCmp2 (fun i j => decide (i < j)) fLt) (eVar 1) (eNeg (eBin (gArith fPow) (eC (.int 10)) (eC (.int 59)))))) (eC .non) (eVar 1)) (aCons (eIf (truB (eBin (gCmp2 (fun i j => decide (j < i)) fGt) (eVar 2) (eBin (gArith fPow) (eC (.int 10)) (eC (.int 59))))) (eC .non) (eVar 2)) aNil)))) (env := [some (dPs ps), none, none]) (S := S) (S1 := S) (xs := ps) (enc := dPr) (fun p => dR (en p)) rfl (by omega) (by omega) (fun p hr S' => ⟨[some (dPs ps), some (.int p.1), some (.int p.2)], rfl, by
    unfold en
    by_cases h1 : p.1 < -F59 <;> by_cases h2 : F59 < p.2 <;> simp only [r_sCons, r_sIf, r_tAnd, r_tOr, r_tNot, r_truB, r_truF, r_truD_bl, r_eBin, r_eVar, r_eC, r_eCall, r_eCallK, r_aCons, r_aNil, r_eAnd, r_eOr, r_eNotT, r_eIf, r_eNeg, r_eChain, r_sNil, r_sDrop, r_sRet, r_sSet, r_sAsg, r_sPar, r_nm, r_tp, r_sets, r_sets0, List.getElem?_cons_zero, List.getElem?_cons_succ, List.set_cons_zero, List.set_cons_succ, List.length_cons, List.length_nil, List.map_cons, List.map_nil, List.cons_append, List.nil_append, Nat.zero_add, Nat.reduceAdd, Nat.sub_self, Nat.reduceSub, Nat.add_zero, List.reduceReplicate, List.replicate_zero, List.append_nil, if_true, if_false, Bool.false_eq_true, Bool.not_true, Bool.not_false, Bool.true_and, Bool.and_true, Bool.false_and, Bool.and_false, Bool.or_true, Bool.true_or, Bool.false_or, Bool.or_false, reduceIte, r_fnF, r_sealed, r_start, t_tup0, t_tup1, t_tup2, t_tup3, t_tup4, t_lst0, t_lst1, t_lst2, t_lst3, t_lst4, t_lst5, t_lst6, t_lst7, t_lst8, t_lst9, t_lst10, r_mkV, r_mkR, r_isN, r_non0, r_non1, r_non2, r_non3, r_non4, r_non5, r_non6, isi_int, isi_intb, isi_tup, isi_str, isi_vl, isi_ints, isi_tups, r_cmp2i, r_cmp2t, r_cmpI, r_eqv_int, r_eqv_str, r_add, r_sub, r_arith, r_ix_tup, r_ix_vl, r_len_tup, r_len_vl, r_cInt, r_cMin, r_cMax, r_lof_vl, r_lof_tup, r_tof_vl, r_tof_tup, r_truD_vl, r_truD_tup, r_truD_int, r_truD_non, r_oSome, r_oNone, r_eSl, r_sl_vl, r_sl_tup, r_iAny, r_eMethL, r_isRef_vl, ix20, ix21, nr_int, nr_bl, nr_non, nr_str, nr_tup, nr_vl, nrs_nil, nrs_cons, shut_same, pick_nil, pick_cons, decide_true, decide_false, dR, dO_none, dO_some, p59, h1, h2]⟩) (fun r _ => by simp)
  unfold c__law_ends u__law_ends b__law_ends
  simp only [r_sCons, r_sIf, r_tAnd, r_tOr, r_tNot, r_truB, r_truF, r_truD_bl, r_eBin, r_eVar, r_eC, r_eCall, r_eCallK, r_aCons, r_aNil, r_eAnd, r_eOr, r_eNotT, r_eIf, r_eNeg, r_eChain, r_sNil, r_sDrop, r_sRet, r_sSet, r_sAsg, r_sPar, r_nm, r_tp, r_sets, r_sets0, List.getElem?_cons_zero, List.getElem?_cons_succ, List.set_cons_zero, List.set_cons_succ, List.length_cons, List.length_nil, List.map_cons, List.map_nil, List.cons_append, List.nil_append, Nat.zero_add, Nat.reduceAdd, Nat.sub_self, Nat.reduceSub, Nat.add_zero, List.reduceReplicate, List.replicate_zero, List.append_nil, if_true, if_false, Bool.false_eq_true, Bool.not_true, Bool.not_false, Bool.true_and, Bool.and_true, Bool.false_and, Bool.and_false, Bool.or_true, Bool.true_or, Bool.false_or, Bool.or_false, reduceIte, r_fnF, r_sealed, r_start, t_tup0, t_tup1, t_tup2, t_tup3, t_tup4, t_lst0, t_lst1, t_lst2, t_lst3, t_lst4, t_lst5, t_lst6, t_lst7, t_lst8, t_lst9, t_lst10, r_mkV, r_mkR, r_isN, r_non0, r_non1, r_non2, r_non3, r_non4, r_non5, r_non6, isi_int, isi_intb, isi_tup, isi_str, isi_vl, isi_ints, isi_tups, r_cmp2i, r_cmp2t, r_cmpI, r_eqv_int, r_eqv_str, r_add, r_sub, r_arith, r_ix_tup, r_ix_vl, r_len_tup, r_len_vl, r_cInt, r_cMin, r_cMax, r_lof_vl, r_lof_tup, r_tof_vl, r_tof_tup, r_truD_vl, r_truD_tup, r_truD_int, r_truD_non, r_oSome, r_oNone, r_eSl, r_sl_vl, r_sl_tup, r_iAny, r_eMethL, r_isRef_vl, ix20, ix21, nr_int, nr_bl, nr_non, nr_str, nr_tup, nr_vl, nrs_nil, nrs_cons, shut_same, pick_nil, pick_cons, decide_true, decide_false, e, dRow, List.map_map]
  exact shut_same (by rw [nr_vl]; exact nrs_map fun r _ => nr_dR)
def dOP : Option (List Pr) → D
  | none => .non
  | some ps => dPs ps
@[simp] theorem nr_dOP {o : Option (List Pr)} : noRef (dOP o) = true := by cases o <;> simp [dOP]
theorem p0 {p : Pr} : gIx (dPr p) (.int 0) S = some (.int p.1, S) := rfl
theorem p1 {p : Pr} : gIx (dPr p) (.int 1) S = some (.int p.2, S) := rfl
end
end Sp
namespace Sp
open PySem PySem.Spec PyProof.Rows L2 Lv Com
section
variable {fu : Nat} {S : Sto}
end
end Sp
namespace Sp
open PySem PySem.Spec PyProof.Rows L2 Lv Com
theorem f6059 : F60 = 10 * F59 := by unfold F59 F60; decide +kernel
def M : Int := 10 ^ 40
section
variable {r q : Rg} {n a b : Int}
theorem fcts : 10 * M < F59 ∧ F60 = 10 * F59 ∧ 0 < M := by
  refine ⟨?_, f6059, by decide +kernel⟩
  unfold M F59
  decide +kernel
theorem en_pr (h : BdR M r) : en (pr r) = r := by
  obtain ⟨f1, f2, f3⟩ := fcts
  obtain ⟨lo, hi⟩ := r
  have h1 := h.1
  have h2 := h.2
  unfold en pr
  rcases lo with _ | lo <;> rcases hi with _ | hi
  · rw [if_pos (by show -F60 < -F59; omega), if_pos (by show F59 < F60; omega)]
  · have := h2 _ rfl
    rw [if_pos (by show -F60 < -F59; omega), if_neg (by show ¬ F59 < hi; omega)]; rfl
  · have := h1 _ rfl
    rw [if_neg (by show ¬ lo < -F59; omega), if_pos (by show F59 < F60; omega)]; rfl
  · have := h1 _ rfl
    have := h2 _ rfl
    rw [if_neg (by show ¬ lo < -F59; omega), if_neg (by show ¬ F59 < hi; omega)]; rfl
end
end Sp
namespace Sp
open PySem PySem.Spec PyProof.Rows L2 Lv Com
section
variable {zs : List Str} {rs : List Rg}
end
end Sp
namespace Sp
open PySem PySem.Spec PyProof.Rows L2 Lv Com
section
variable {fu : Nat} {S : Sto}
def dNs (ns : List Int) : D := .vl (ns.map D.int)
@[simp] theorem nr_dNs {ns : List Int} : noRef (dNs ns) = true := by simp [dNs]
@[simp] theorem nrs_dNs {F : List (List Int)} : noRefs (F.map dNs) = true := nrs_map fun _ _ => by simp
def rgI (i j : Int) : List Int := (List.range (j - i).toNat).map fun k => i + (k : Nat)
end
end Sp
namespace Sp
open PySem PySem.Spec PyProof.Rows L2 Lv Com
section
variable {fu : Nat} {S : Sto}
def fin (p : Pr) : Rg := (some p.1, some p.2)
def more (F : List (List Int)) (p : Pr) : List (List Int) := F.flatMap fun ns => (rgI p.1 (p.2 + 1)).map fun i => ns ++ [i]
end
end Sp
namespace Sp
open PySem PySem.Spec PyProof.Rows L2 Lv Com
theorem getD_set {α : Type} {v : List α} {i j : Nat} {a z : α} (hi : i < v.length) : (v.set i a).getD j z = if i = j then a else v.getD j z := by
  rw [List.getD_eq_getElem?_getD, List.getD_eq_getElem?_getD]
  by_cases h : i = j
  · subst h
    rw [if_pos rfl, List.getElem?_set_self hi]
    rfl
  · rw [if_neg h, List.getElem?_set_ne h]
def InR (p : Pr) (i : Int) : Prop := p.1 ≤ i ∧ i ≤ p.2
def St (ps : List Pr) (v : List Int) : Prop := v.length = ps.length ∧ ∀ i, i < ps.length → InR (ps.getD i (0, 0)) (v.getD i 0)
theorem St.set {ps : List Pr} {v : List Int} {i : Nat} {a : Int} (h : St ps v) (ha : i < ps.length → InR (ps.getD i (0, 0)) a) : St ps (v.set i a) := by
  refine ⟨by rw [List.length_set]; exact h.1, fun j hj => ?_⟩
  by_cases hi : i < v.length
  · rw [getD_set hi]
    split
    · rename_i e; subst e; exact ha hj
    · exact h.2 j hj
  · rw [List.set_eq_of_length_le (by omega)]
    exact h.2 j hj
section
variable {zs : List Str} {ps : List Pr}
end
end Sp
namespace Sp
open PySem PySem.Spec PyProof.Rows L2 Lv Com
section
variable {fu : Nat} {S : Sto}
def pNs (ns : List Int) : PyData := .list (ns.map PyData.int)
theorem toP_dNs {n : Nat} {ns : List Int} : toP (n + 2) S (dNs ns) = some (pNs ns) := by
  unfold dNs toP
  rw [mapO_map (n := n + 1) (enc := D.int) (pe := PyData.int) (fun x => rfl)]
  rfl
theorem lay_pNs (ns : List Int) : (pNs ns).canLay0 = true := by
  show PyData.canLayAll0 _ = true
  exact layAll fun p hp => by
    obtain ⟨i, _, rfl⟩ := List.mem_map.mp hp
    rfl
theorem dep_pNs (ns : List Int) : (pNs ns).depth ≤ 1 := by
  unfold pNs PyData.depth
  have := depAll (ps := ns.map PyData.int) (k := 0) fun p hp => by
    obtain ⟨i, _, rfl⟩ := List.mem_map.mp hp
    exact Nat.le_refl _
  omega
end
end Sp
namespace Sp
open PySem PySem.Spec PyProof.Rows L2 Lv Com
theorem pop_at {S : Sto} {k j : Nat} {ms : List Str} {i : Int} (hk : S[k]? = some (.lst (ms.map D.str))) (hi : (j : Int) = i) (hj : j < ms.length) (h63 : ms.length ≤ 1000) : mPopAt (.ref k) [.int i] S = some (.str ms[j], S.set k (.lst ((ms.eraseIdx j).map D.str))) := by
  have e1 : seqIndex? i (ms.map D.str).length = some j := by
    subst hi
    unfold seqIndex?
    rw [List.length_map]
    have h0 : ¬ ((j : Int) < 0) := by omega
    simp only [if_neg h0]
    have h1 : (decide ((0 : Int) ≤ (j : Int)) && decide ((j : Int) < (ms.length : Int))) = true := by
      rw [Bool.and_eq_true]
      exact ⟨decide_eq_true (by omega), decide_eq_true (by omega)⟩
    simp [hj]
  have e2 : (ms.map D.str)[j]? = some (.str ms[j]) := by rw [List.getElem?_map, List.getElem?_eq_getElem hj]; rfl
  have e3 : (ms.map D.str).eraseIdx j = (ms.eraseIdx j).map D.str := by
    rw [List.eraseIdx_eq_take_drop_succ, List.eraseIdx_eq_take_drop_succ, List.map_append, List.map_take, List.map_drop]
  simp only [mPopAt, hk]
  rw [if_pos (by omega), e1]
  dsimp only
  rw [e2]
  dsimp only
  rw [e3]
theorem app_at {S : Sto} {k : Nat} {ms : List Str} {z : Str} (hk : S[k]? = some (.lst (ms.map D.str))) (hl : ms.length ≤ 100) : mAppend (.ref k) [.str z] S = some (.non, S.set k (.lst ((ms ++ [z]).map D.str))) := by
  simp only [mAppend, hk]
  rw [if_pos (by rw [List.length_map]; exact Nat.lt_of_le_of_lt hl (by decide)), List.map_append]
  rfl
theorem lt_of_le_ne {a b : Str} (h : LeS a b) (hn : a ≠ b) : LtS a b := by
  unfold LtS fLt
  refine decide_eq_true ?_
  by_cases q : a.cps.toList < b.cps.toList
  · exact q
  · exact absurd (leS_anti h (List.not_lt.mp q)) hn
theorem rise_lt : ∀ {l : List Str}, l.Pairwise LeS → l.Nodup → l.Pairwise LtS
  | [], _, _ => .nil
  | x :: l, h, hn => by
    have h' := List.pairwise_cons.mp h
    have n' := List.nodup_cons.mp hn
    exact List.pairwise_cons.mpr ⟨fun y hy => lt_of_le_ne (h'.1 y hy) fun e => n'.1 (e ▸ hy), rise_lt h'.2 n'.2⟩
theorem strs_of : ∀ fs : List Str, strsD (fs.map D.str) = some fs
  | [] => rfl
  | a :: l => by
    have ih := strs_of l
    unfold strsD at ih ⊢
    simp only [List.map_cons, mapO]
    rw [ih]

def menu : List Str := ["a", "b", "b1", "b10", "below", "from", "k0", "least", "x", "zzzzzz999"]
theorem menu_nd : menu.Nodup := by unfold menu; decide +kernel
theorem menu_nm : ∀ z ∈ menu, isName z = true ∧ z.length ≤ 1000 := by
  have h : menu.all (fun z => isName z && decide (z.length ≤ 1000)) = true := by unfold menu; decide +kernel
  intro z hz
  have := List.all_eq_true.mp h z hz
  rw [Bool.and_eq_true] at this
  exact ⟨this.1, of_decide_eq_true this.2⟩
section
variable {fu : Nat} {S : Sto}
theorem app_get {T : Sto} {k : Nat} {c : Cell} (h : S[k]? = some c) : (S ++ T)[k]? = some c := by
  rw [List.getElem?_append_left (List.getElem?_eq_some_iff.mp h).1]
  exact h
theorem app_set {T : Sto} {k : Nat} {c : Cell} (h : k < S.length) : (S ++ T).set k c = S.set k c ++ T := List.set_append_left _ _ h
theorem two0 {a b : Cell} : (S ++ [a, b])[S.length]? = some a := by
  rw [List.getElem?_append_right (Nat.le_refl _), Nat.sub_self]; rfl
theorem two1 {a b : Cell} : (S ++ [a, b])[S.length + 1]? = some b := by
  rw [List.getElem?_append_right (by omega), show S.length + 1 - S.length = 1 by omega]; rfl
theorem sets0 {a b c : Cell} : (S ++ [a, b]).set S.length c = S ++ [c, b] := by
  rw [List.set_append_right _ _ (Nat.le_refl _), Nat.sub_self]; rfl
theorem sets1 {a b c : Cell} : (S ++ [a, b]).set (S.length + 1) c = S ++ [a, c] := by
  rw [List.set_append_right _ _ (by omega), show S.length + 1 - S.length = 1 by omega]; rfl
noncomputable def nmb (fu : Nat) : SF := (sCons (sDrop (eMethL mAppend (eVar 3) (aCons (eMethL mPopAt (eVar 2) (aCons (eCall (Com.c__law_random fu) (aCons (eVar 0) (aCons (eCall cLen (aCons (eVar 2) aNil)) aNil))) aNil)) aNil))) sNil)
theorem nmb_ok (hf : 10000 ≤ fu) {g : Nat} {B : Int} {G : Gn} {many tv : Option D} {ms fs : List Str} (hgl : g < S.length) (hG : OkG B G) (hB : B ≤ 2 ^ 50) (hl : 1 ≤ ms.length) (h10 : ms.length ≤ 10) (hf10 : fs.length ≤ 10) :
    ∃ (j : Nat) (hj : j < ms.length) (G' : Gn), nmb fu [some (.ref g), many, some (.ref S.length), some (.ref (S.length + 1)), tv] (S.set g (gc G) ++ [.lst (ms.map D.str), .lst (fs.map D.str)]) = some (.nx [some (.ref g), many, some (.ref S.length), some (.ref (S.length + 1)), tv], S.set g (gc G') ++ [.lst ((ms.eraseIdx j).map D.str), .lst ((fs ++ [ms[j]]).map D.str)]) ∧ OkG (B + 5) G' := by
  have hS : ∀ G : Gn, (S.set g (gc G)).length = S.length := fun G => List.length_set
  have hm0 : ∀ (G : Gn) (a b : Cell), (S.set g (gc G) ++ [a, b])[S.length]? = some a := fun G a b => by have := two0 (S := S.set g (gc G)) (a := a) (b := b); rwa [hS] at this
  have hm1 : ∀ (G : Gn) (a b : Cell), (S.set g (gc G) ++ [a, b])[S.length + 1]? = some b := fun G a b => by have := two1 (S := S.set g (gc G)) (a := a) (b := b); rwa [hS] at this
  have st0 : ∀ (G : Gn) (a b c : Cell), (S.set g (gc G) ++ [a, b]).set S.length c = S.set g (gc G) ++ [c, b] := fun G a b c => by have := sets0 (S := S.set g (gc G)) (a := a) (b := b) (c := c); rwa [hS] at this
  have st1 : ∀ (G : Gn) (a b c : Cell), (S.set g (gc G) ++ [a, b]).set (S.length + 1) c = S.set g (gc G) ++ [a, c] := fun G a b c => by have := sets1 (S := S.set g (gc G)) (a := a) (b := b) (c := c); rwa [hS] at this
  have el : cLen [.ref S.length] (S.set g (gc G) ++ [.lst (ms.map D.str), .lst (fs.map D.str)]) = some (.int (ms.length : Nat), S.set g (gc G) ++ [.lst (ms.map D.str), .lst (fs.map D.str)]) := by
    rw [r_len_ref (hm0 G _ _), List.length_map]
  obtain ⟨i, G', e1, i0, i1, g1⟩ := random_ok hf (S := S.set g (gc G) ++ [.lst (ms.map D.str), .lst (fs.map D.str)]) (b := ((ms.length : Nat) : Int)) (app_get (List.getElem?_set_self hgl)) hG (by omega) (by omega) (by omega)
  have e1' : c__law_random fu [.ref g, .int (ms.length : Nat)] (S.set g (gc G) ++ [.lst (ms.map D.str), .lst (fs.map D.str)]) = some (.int i, S.set g (gc G') ++ [.lst (ms.map D.str), .lst (fs.map D.str)]) := by
    rw [app_set (by rw [hS]; exact hgl), List.set_set] at e1
    exact e1
  obtain ⟨j, hji⟩ : ∃ j : Nat, (j : Int) = i := ⟨i.toNat, by omega⟩
  have hj : j < ms.length := by omega
  have p1 := pop_at (hm0 G' (.lst (ms.map D.str)) (.lst (fs.map D.str))) hji hj (by omega)
  rw [st0] at p1
  have p2 := app_at (z := ms[j]) (hm1 G' (.lst ((ms.eraseIdx j).map D.str)) (.lst (fs.map D.str))) (by omega)
  rw [st1] at p2
  have t1 : isRef (S.set g (gc G) ++ [.lst (ms.map D.str), .lst (fs.map D.str)]) (.ref S.length) = true := decide_eq_true (by rw [List.length_append, hS]; simp)
  have t2 : isRef (S.set g (gc G) ++ [.lst (ms.map D.str), .lst (fs.map D.str)]) (.ref (S.length + 1)) = true := decide_eq_true (by rw [List.length_append, hS]; simp)
  refine ⟨j, hj, G', ?_, g1⟩
  simp only [nmb, r_sCons, r_sDrop, r_eMethL, r_eVar, List.getElem?_cons_zero, List.getElem?_cons_succ, t1, t2, if_true, r_aCons, r_aNil, r_eCall, el, e1', p1, p2, r_sNil]
theorem names_ok (hf : 10000 ≤ fu) {g n : Nat} {B : Int} {G : Gn} (eg : S[g]? = some (gc G)) (hG : OkG B G) (hB : B ≤ 2 ^ 40) (h1 : 1 ≤ n) (h5 : n ≤ 5) :
    ∃ (zs : List Str) (G' : Gn), c__law_names fu [.ref g, .int (n : Nat)] S = some (dN zs, S.set g (gc G')) ∧ zs.length = n ∧ (∀ z ∈ zs, z ∈ menu) ∧ zs.Pairwise LtS ∧ OkG (B + 5 * n) G' := by
  have hgl : g < S.length := (List.getElem?_eq_some_iff.mp eg).1
  have e0 : S = S.set g (gc G) := by
    refine List.ext_getElem? fun k => ?_
    by_cases hk : g = k
    · subst hk; rw [List.getElem?_set_self hgl, eg]
    · rw [List.getElem?_set_ne hk]
  have hrl : (rangeD 0 n).length = n := by simp [rangeD]
  obtain ⟨e', S1, hl, ms, fs, tv, G', rfl, rfl, hp, hlen, g1⟩ := forL_fix (b := nmb fu) (t := .nm 4) (ds := rangeD 0 n)
    (fun i env S' => ∃ (ms fs : List Str) (tv : Option D) (G' : Gn), env = [some (.ref g), some (.int (n : Nat)), some (.ref S.length), some (.ref (S.length + 1)), tv] ∧ S' = S.set g (gc G') ++ [.lst (ms.map D.str), .lst (fs.map D.str)] ∧ (fs ++ ms).Perm menu ∧ fs.length = i ∧ OkG (B + 5 * i) G')
    fu 0 [some (.ref g), some (.int (n : Nat)), some (.ref S.length), some (.ref (S.length + 1)), none] (S.set g (gc G) ++ [.lst (menu.map D.str), .lst (([] : List Str).map D.str)]) ⟨menu, [], none, G, rfl, rfl, .refl _, rfl, hG.mono (by omega)⟩ (Nat.zero_le _) (by omega) (by
      rintro i x env S2 hx ⟨ms, fs, tv, G1, rfl, rfl, hp, hlen, g1⟩
      have hi : i < n := by
        have := (List.getElem?_eq_some_iff.mp hx).1
        omega
      have hpl := hp.length_eq
      rw [List.length_append, show menu.length = 10 from rfl] at hpl
      obtain ⟨j, hj, G2, e, g2⟩ := nmb_ok (S := S) hf (many := some (.int (n : Nat))) (tv := some x) (ms := ms) (fs := fs) hgl g1 (by omega) (by omega) (by omega) (by omega)
      refine ⟨_, rfl, _, _, e, ms.eraseIdx j, fs ++ [ms[j]], some x, G2, rfl, rfl, ?_, by rw [List.length_append, hlen]; rfl, g2.mono (by push_cast; omega)⟩
      rw [List.append_assoc]
      exact ((L2.erase_perm ms j ms[j] (List.getElem?_eq_getElem hj)).append_left fs).trans hp)
  rw [hrl] at hlen g1
  have nd : fs.Nodup := (List.nodup_append.mp (hp.nodup_iff.mpr menu_nd)).1
  have hS : (S.set g (gc G')).length = S.length := List.length_set
  have hm1 : (S.set g (gc G') ++ [.lst (ms.map D.str), .lst (fs.map D.str)])[S.length + 1]? = some (.lst (fs.map D.str)) := by have := two1 (S := S.set g (gc G')) (a := .lst (ms.map D.str)) (b := .lst (fs.map D.str)); rwa [hS] at this
  have so : cSortS false [.ref (S.length + 1)] (S.set g (gc G') ++ [.lst (ms.map D.str), .lst (fs.map D.str)]) = some (dN (sortS fs), S.set g (gc G') ++ [.lst (ms.map D.str), .lst (fs.map D.str)]) := by
    have hs := strs_of fs
    unfold cSortS
    dsimp only
    rw [show Lv.listOf (S.set g (gc G') ++ [.lst (ms.map D.str), .lst (fs.map D.str)]) (.ref (S.length + 1)) = some (fs.map D.str) by simp only [Lv.listOf, hm1, Cell.items]]
    dsimp only
    rw [hs]
    dsimp only
    rw [if_pos (by omega)]
    rfl
  refine ⟨sortS fs, G', ?_, ?_, ?_, ?_, g1⟩
  · have t1 : ∀ S : Sto, aCons (eCall (cLst true) (aCons (eC (.str "a")) (aCons (eC (.str "b")) (aCons (eC (.str "b1")) (aCons (eC (.str "b10")) (aCons (eC (.str "below")) (aCons (eC (.str "from")) (aCons (eC (.str "k0")) (aCons (eC (.str "least")) (aCons (eC (.str "x")) (aCons (eC (.str "zzzzzz999")) aNil))))))))))) (aCons (eCall (cLst true) aNil) aNil) [some (.ref g), some (.int (n : Nat)), none, none, none] S = some ([.ref S.length, .ref (S.length + 1)], S ++ [.lst (menu.map D.str), .lst (([] : List Str).map D.str)]) := fun S => by
      simp only [r_sCons, r_sIf, r_tAnd, r_tOr, r_tNot, r_truB, r_truF, r_truD_bl, r_eBin, r_eVar, r_eC, r_eCall, r_eCallK, r_aCons, r_aNil, r_eAnd, r_eOr, r_eNotT, r_eIf, r_eNeg, r_eChain, r_sNil, r_sDrop, r_sRet, r_sSet, r_sAsg, r_sPar, r_nm, r_tp, r_sets, r_sets0, List.getElem?_cons_zero, List.getElem?_cons_succ, List.set_cons_zero, List.set_cons_succ, List.length_cons, List.length_nil, List.map_cons, List.map_nil, List.cons_append, List.nil_append, Nat.zero_add, Nat.reduceAdd, Nat.sub_self, Nat.reduceSub, Nat.add_zero, List.reduceReplicate, List.replicate_zero, List.append_nil, if_true, if_false, Bool.false_eq_true, Bool.not_true, Bool.not_false, Bool.true_and, Bool.and_true, Bool.false_and, Bool.and_false, Bool.or_true, Bool.true_or, Bool.false_or, Bool.or_false, reduceIte, r_fnF, r_sealed, r_start, t_tup0, t_tup1, t_tup2, t_tup3, t_tup4, t_lst0, t_lst1, t_lst2, t_lst3, t_lst4, t_lst5, t_lst6, t_lst7, t_lst8, t_lst9, t_lst10, r_mkV, r_mkR, r_isN, r_non0, r_non1, r_non2, r_non3, r_non4, r_non5, r_non6, isi_int, isi_intb, isi_tup, isi_str, isi_vl, isi_ints, isi_tups, r_cmp2i, r_cmp2t, r_cmpI, r_eqv_int, r_eqv_str, r_add, r_sub, r_arith, r_ix_tup, r_ix_vl, r_len_tup, r_len_vl, r_cInt, r_cMin, r_cMax, r_lof_vl, r_lof_tup, r_tof_vl, r_tof_tup, r_truD_vl, r_truD_tup, r_truD_int, r_truD_non, r_oSome, r_oNone, r_eSl, r_sl_vl, r_sl_tup, r_iAny, r_eMethL, r_isRef_vl, ix20, ix21, nr_int, nr_bl, nr_non, nr_str, nr_tup, nr_vl, nrs_nil, nrs_cons, shut_same, pick_nil, pick_cons, decide_true, decide_false, List.append_assoc, List.length_append]
      rfl
    have hit : iRange1 (aCons (eVar 1) aNil) [some (.ref g), some (.int (n : Nat)), some (.ref S.length), some (.ref (S.length + 1)), none] (S.set g (gc G) ++ [.lst (menu.map D.str), .lst (([] : List Str).map D.str)]) = some (.fix (rangeD 0 n), S.set g (gc G) ++ [.lst (menu.map D.str), .lst (([] : List Str).map D.str)]) := by
      unfold iRange1
      simp only [r_aCons, r_eVar, List.getElem?_cons_succ, List.getElem?_cons_zero, r_aNil]
      rw [if_pos ⟨by omega, by omega⟩, Int.toNat_natCast]
    have hu : u__law_names fu [.ref g, .int (n : Nat)] S = some (dN (sortS fs), S.set g (gc G') ++ [.lst (ms.map D.str), .lst (fs.map D.str)]) := by
      have s2 : sFor fu (.nm 4) (iRange1 (aCons (eVar 1) aNil)) (nmb fu) [some (.ref g), some (.int (n : Nat)), some (.ref S.length), some (.ref (S.length + 1)), none] (S.set g (gc G) ++ [.lst (menu.map D.str), .lst (([] : List Str).map D.str)]) = some (.nx [some (.ref g), some (.int (n : Nat)), some (.ref S.length), some (.ref (S.length + 1)), tv], S.set g (gc G') ++ [.lst (ms.map D.str), .lst (fs.map D.str)]) := for_eq hit hl
      have s1 : sPar [2, 3] (aCons (eCall (cLst true) (aCons (eC (.str "a")) (aCons (eC (.str "b")) (aCons (eC (.str "b1")) (aCons (eC (.str "b10")) (aCons (eC (.str "below")) (aCons (eC (.str "from")) (aCons (eC (.str "k0")) (aCons (eC (.str "least")) (aCons (eC (.str "x")) (aCons (eC (.str "zzzzzz999")) aNil))))))))))) (aCons (eCall (cLst true) aNil) aNil)) [some (.ref g), some (.int (n : Nat)), none, none, none] S = some (.nx [some (.ref g), some (.int (n : Nat)), some (.ref S.length), some (.ref (S.length + 1)), none], S.set g (gc G) ++ [.lst (menu.map D.str), .lst (([] : List Str).map D.str)]) := by
        have t2 := t1 S
        unfold sPar
        rw [t2, ← e0]
        rfl
      have s3 : sRet (eCall (cSortS false) (aCons (eVar 3) aNil)) [some (.ref g), some (.int (n : Nat)), some (.ref S.length), some (.ref (S.length + 1)), tv] (S.set g (gc G') ++ [.lst (ms.map D.str), .lst (fs.map D.str)]) = some (.rt (dN (sortS fs)), S.set g (gc G') ++ [.lst (ms.map D.str), .lst (fs.map D.str)]) := by
        simp only [r_sRet, r_eCall, r_aCons, r_aNil, r_eVar, List.getElem?_cons_zero, List.getElem?_cons_succ, so]
      have s4 := (cons_eq (g := sCons (sFor fu (.nm 4) (iRange1 (aCons (eVar 1) aNil)) (nmb fu)) (sCons (sRet (eCall (cSortS false) (aCons (eVar 3) aNil))) sNil)) s1).trans ((cons_eq (g := sCons (sRet (eCall (cSortS false) (aCons (eVar 3) aNil))) sNil) s2).trans (cons_rt (g := sNil) s3))
      exact fn_eq (np := 2) (nn := 5) (ds := [.ref g, .int (n : Nat)]) rfl s4
    unfold c__law_names
    rw [r_sealed, hu]
    exact shut_set rfl nr_dN
  · rw [(sortS_perm fs).length_eq, hlen]
  · intro z hz
    exact hp.mem_iff.mp (List.mem_append_left _ ((sortS_perm fs).mem_iff.mp hz))
  · exact rise_lt sortS_rise ((sortS_perm fs).nodup_iff.mpr nd)
theorem asc_of : ∀ {zs : List Str}, zs.Pairwise LtS → ascB zs = true
  | [], _ => rfl
  | [a], _ => rfl
  | a :: b :: r, h => by
    have h' := List.pairwise_cons.mp h
    unfold ascB
    rw [show fLt a.cps.toList b.cps.toList = true from h'.1 b List.mem_cons_self, asc_of h'.2]
    rfl
theorem namesB_of {zs : List Str} (h1 : 1 ≤ zs.length) (hm : ∀ z ∈ zs, z ∈ menu) (hp : zs.Pairwise LtS) : namesB zs = true := by
  unfold namesB
  rw [asc_of hp, List.all_eq_true.mpr fun z hz => (menu_nm z (hm z hz)).1]
  cases zs with
  | nil => simp at h1
  | cons _ _ => rfl
end
end Sp
namespace Sp
open PySem PySem.Spec PyProof.Rows L2 Lv Com
section
variable {fu : Nat} {S : Sto}
theorem sto_self {g : Nat} {c : Cell} (eg : S[g]? = some c) : S.set g c = S := by
  have hgl := (List.getElem?_eq_some_iff.mp eg).1
  refine List.ext_getElem? fun k => ?_
  by_cases hk : g = k
  · subst hk; rw [List.getElem?_set_self hgl, eg]
  · rw [List.getElem?_set_ne hk]
def BdD (m : Int) : Deed → Prop
  | .dset _ n => -m ≤ n ∧ n ≤ m
  | .dadd _ _ n => -m ≤ n ∧ n ≤ m
  | .dturn _ _ n => -m ≤ n ∧ n ≤ m
  | .dinput _ r => okR r = true ∧ BdR m r
  | .dupto _ n => -m ≤ n ∧ n ≤ m
  | .dfrom _ n => -m ≤ n ∧ n ≤ m
  | .dbelow _ _ n => -m ≤ n ∧ n ≤ m
  | .dequal _ _ n => -m ≤ n ∧ n ≤ m
  | _ => True
end
end Sp
namespace Sp
open PySem PySem.Spec PyProof.Rows L2 Lv Com
structure Fi (k L : Nat) (p : PyData) : Prop where
  sh : p.showable = true
  nd : p.hasDict = false
  dp : p.depth ≤ k
  ln : p.shown.length ≤ L
theorem fi_non : Fi 0 4 .none := ⟨rfl, rfl, Nat.le_refl _, by decide +kernel⟩
theorem fi_bl (b : Bool) : Fi 0 5 (.bool b) := ⟨rfl, rfl, Nat.le_refl _, by cases b <;> decide +kernel⟩
theorem fi_int {i : Int} (h : Sm 1000 i) : Fi 0 1010 (.int i) := by
  refine ⟨?_, rfl, Nat.le_refl _, ?_⟩
  · show decide (i.natAbs.log2 < 1920) = true
    have := h.log
    exact decide_eq_true (by omega)
  · unfold PyData.shown
    have h1 := int_text_length_le (a := i) (k := 1001) (by decide) (Nat.lt_succ_of_le h.log)
    rw [PySem.ofString_length]
    omega
theorem Fi.mono {k L k' L' : Nat} {p : PyData} (h : Fi k L p) (hk : k ≤ k') (hL : L ≤ L') : Fi k' L' p := ⟨h.sh, h.nd, Nat.le_trans h.dp hk, Nat.le_trans h.ln hL⟩
theorem sh_all : ∀ {ps : List PyData}, (∀ p ∈ ps, p.showable = true) → PyData.showableAll ps = true
  | [], _ => rfl
  | p :: ps, h => by
    unfold PyData.showableAll
    rw [h p List.mem_cons_self, sh_all fun q hq => h q (List.mem_cons_of_mem _ hq)]
    rfl
theorem nd_all : ∀ {ps : List PyData}, (∀ p ∈ ps, p.hasDict = false) → PyData.hasDictAll ps = false
  | [], _ => rfl
  | p :: ps, h => by
    unfold PyData.hasDictAll
    rw [h p List.mem_cons_self, nd_all fun q hq => h q (List.mem_cons_of_mem _ hq)]
    rfl
theorem dp_all {k : Nat} : ∀ {ps : List PyData}, (∀ p ∈ ps, p.depth ≤ k) → PyData.depthAll ps ≤ k
  | [], _ => Nat.zero_le _
  | p :: ps, h => by
    unfold PyData.depthAll
    have h1 := h p List.mem_cons_self
    have h2 := dp_all fun q hq => h q (List.mem_cons_of_mem _ hq)
    omega
theorem ln_all {L : Nat} : ∀ {ps : List PyData}, (∀ p ∈ ps, p.shown.length ≤ L) → ((PyData.shownAll ps).map (·.length)).sum ≤ L * ps.length ∧ (PyData.shownAll ps).length = ps.length
  | [], _ => ⟨Nat.zero_le _, rfl⟩
  | p :: ps, h => by
    unfold PyData.shownAll
    have h1 := h p List.mem_cons_self
    obtain ⟨h2, h3⟩ := ln_all fun q hq => h q (List.mem_cons_of_mem _ hq)
    simp only [List.map_cons, List.sum_cons, List.length_cons, h3, Nat.mul_succ, and_true]
    omega
theorem fi_list {k L n : Nat} {ps : List PyData} (h : ∀ p ∈ ps, Fi k L p) (hn : ps.length ≤ n) : Fi (k + 1) ((L + 2) * n + 3) (.list ps) := by
  refine ⟨sh_all fun p hp => (h p hp).sh, nd_all fun p hp => (h p hp).nd, Nat.succ_le_succ (dp_all fun p hp => (h p hp).dp), ?_⟩
  obtain ⟨h1, h2⟩ := ln_all fun p hp => (h p hp).ln
  have h3 := listText_len_le (PyData.shownAll ps)
  rw [h2] at h3
  show (listText (PyData.shownAll ps)).length ≤ _
  have h4 : (L + 2) * ps.length ≤ (L + 2) * n := Nat.mul_le_mul_left _ hn
  rw [Nat.add_mul] at h4
  omega
theorem fi_tuple {k L n : Nat} {ps : List PyData} (h : ∀ p ∈ ps, Fi k L p) (hn : ps.length ≤ n) : Fi (k + 1) ((L + 2) * n + 3) (.tuple ps) := by
  refine ⟨sh_all fun p hp => (h p hp).sh, nd_all fun p hp => (h p hp).nd, Nat.succ_le_succ (dp_all fun p hp => (h p hp).dp), ?_⟩
  obtain ⟨h1, h2⟩ := ln_all fun p hp => (h p hp).ln
  have h3 := tupleText_len_le (PyData.shownAll ps)
  rw [h2] at h3
  show (tupleText (PyData.shownAll ps)).length ≤ _
  have h4 : (L + 2) * ps.length ≤ (L + 2) * n := Nat.mul_le_mul_left _ hn
  rw [Nat.add_mul] at h4
  omega
theorem repr_ok {S : Sto} {d : D} {p : PyData} {k L : Nat} (e : toP 60 S d = some p) (hf : Fi k L p) (hk : k ≤ 50) (hL : L ≤ 10000000) : cRepr [d] S = some (.str p.shown, S) := by
  have c3 : decide (p.depth ≤ 60) = true := decide_eq_true (by have := hf.dp; omega)
  have c4 : sizeP p = true := decide_eq_true (Nat.le_trans (Nat.le_trans hf.ln hL) (by decide))
  show (match toP 60 S d with
    | some p => if p.showable && !p.hasDict && decide (p.depth ≤ 60) && sizeP p then some (D.str p.shown, S) else none
    | none => none) = _
  rw [e]
  dsimp only
  rw [hf.sh, hf.nd, c3, c4]
  rfl
def kinds : List Str := ["go", "set", "add", "turn", "input", "least", "greatest", "upto", "from", "below", "equal"]
def words : List Str := menu ++ kinds
theorem fi_words : ∀ z ∈ words, Fi 0 100 (.str z) := by
  have h : words.all (fun z => (PyData.str z).showable && !(PyData.str z).hasDict && decide ((PyData.str z).depth ≤ 0) && decide ((PyData.str z).shown.length ≤ 100)) = true := by unfold words menu kinds; decide +kernel
  intro z hz
  have := List.all_eq_true.mp h z hz
  simp only [Bool.and_eq_true, decide_eq_true_eq, Bool.not_eq_true'] at this
  exact ⟨this.1.1.1, this.1.1.2, this.1.2, this.2⟩
theorem word_in_words (d : Deed) : dWord d ∈ words := by
  unfold words
  refine List.mem_append_right _ ?_
  cases d <;> simp [dWord, kinds]
def SmE (e : End) : Prop := ∀ i, e = some i → Sm 1000 i
def SmG (r : Rg) : Prop := SmE r.1 ∧ SmE r.2
theorem fi_pO {e : End} (h : SmE e) : Fi 0 1010 (pO e) := by
  cases e with
  | none => exact fi_non.mono (Nat.le_refl _) (by decide)
  | some i => exact fi_int (h i rfl)
theorem fi_pR {r : Rg} (h : SmG r) : Fi 1 2100 (pR r) := (fi_tuple (n := 2) (ps := [pO r.1, pO r.2]) (k := 0) (L := 1010) (fun p hp => by
  simp only [List.mem_cons, List.not_mem_nil, or_false] at hp
  rcases hp with rfl | rfl
  · exact fi_pO h.1
  · exact fi_pO h.2) (Nat.le_refl 2)).mono (Nat.le_refl _) (by decide)
def pRow (rs : List Rg) : PyData := .list (rs.map pR)
theorem fi_row {rs : List Rg} (h : ∀ r ∈ rs, SmG r) (hl : rs.length ≤ 5) : Fi 2 11000 (pRow rs) := (fi_list (n := 5) (k := 1) (L := 2100) (fun p hp => by
  obtain ⟨r, hr, rfl⟩ := List.mem_map.mp hp
  exact fi_pR (h r hr)) (by rw [List.length_map]; exact hl)).mono (Nat.le_refl _) (by decide)
section
variable {S : Sto}
theorem toP_row {n : Nat} {rs : List Rg} : toP (n + 3) S (dRow rs) = some (pRow rs) := by
  unfold dRow toP
  rw [mapO_map (n := n + 2) (fun r => toP_dR (n := n))]
  rfl
def pORow : Option (List Rg) → PyData
  | none => .none
  | some rs => pRow rs
theorem toP_orow {n : Nat} {o : Option (List Rg)} : toP (n + 3) S (dORow o) = some (pORow o) := by
  cases o with
  | none => rfl
  | some rs => exact toP_row
theorem fi_orow {o : Option (List Rg)} (h : ∀ rs, o = some rs → (∀ r ∈ rs, SmG r) ∧ rs.length ≤ 5) : Fi 2 11000 (pORow o) := by
  cases o with
  | none => exact fi_non.mono (by decide) (by decide)
  | some rs => exact fi_row (h rs rfl).1 (h rs rfl).2
def pPart : Part → PyData
  | .pn x => .str x
  | .pc i => .int i
  | .pr r => pR r
theorem toP_part {n : Nat} {p : Part} : toP (n + 2) S p.val = some (pPart p) := by
  cases p with
  | pn x => rfl
  | pc i => rfl
  | pr r => exact toP_dR
def pDeed (d : Deed) : PyData := .tuple (.str (dWord d) :: (dParts d).map pPart)
theorem toP_deed {n : Nat} {d : Deed} : toP (n + 3) S (dD d) = some (pDeed d) := by
  unfold dD toP
  rw [args_val]
  simp only [mapO]
  rw [show toP (n + 2) S (.str (dWord d)) = some (.str (dWord d)) from rfl, mapO_map (n := n + 2) (fun p => toP_part (n := n))]
  rfl
def SmPart : Part → Prop
  | .pn x => x ∈ words
  | .pc i => Sm 1000 i
  | .pr r => SmG r
theorem fi_part {p : Part} (h : SmPart p) : Fi 1 2100 (pPart p) := by
  cases p with
  | pn x => exact (fi_words x h).mono (by decide) (by decide)
  | pc i => exact (fi_int h).mono (by decide) (by decide)
  | pr r => exact fi_pR h
theorem fi_deed {d : Deed} (h : ∀ p ∈ dParts d, SmPart p) : Fi 2 9000 (pDeed d) := (fi_tuple (n := 4) (k := 1) (L := 2100) (fun p hp => by
  rcases List.mem_cons.mp hp with rfl | hp
  · exact (fi_words _ (word_in_words d)).mono (by decide) (by decide)
  · obtain ⟨q, hq, rfl⟩ := List.mem_map.mp hp
    exact fi_part (h q hq)) (by rw [List.length_cons, List.length_map]; cases d <;> exact Nat.le_of_ble_eq_true rfl)).mono (Nat.le_refl _) (by decide)
def pNames (zs : List Str) : PyData := .list (zs.map PyData.str)
theorem toP_names {n : Nat} {zs : List Str} : toP (n + 2) S (dN zs) = some (pNames zs) := by
  unfold dN toP
  rw [mapO_map (n := n + 1) (enc := D.str) (pe := PyData.str) (fun r => rfl)]
  rfl
theorem fi_names {zs : List Str} (h : ∀ z ∈ zs, z ∈ words) (hl : zs.length ≤ 5) : Fi 1 600 (pNames zs) := (fi_list (n := 5) (k := 0) (L := 100) (fun p hp => by
  obtain ⟨r, hr, rfl⟩ := List.mem_map.mp hp
  exact fi_words r (h r hr)) (by rw [List.length_map]; exact hl)).mono (Nat.le_refl _) (by decide)
def pStp (s : Stp) : PyData := .tuple [.int s.src, .int s.tgt, pDeed s.deed]
theorem toP_stp {n : Nat} {s : Stp} : toP (n + 4) S (dS s) = some (pStp s) := by
  unfold dS toP
  simp only [mapO]
  rw [show toP (n + 3) S (.int s.src) = some (.int s.src) from rfl, show toP (n + 3) S (.int s.tgt) = some (.int s.tgt) from rfl, toP_deed]
  rfl
structure SmS (s : Stp) : Prop where
  a : Sm 1000 s.src
  b : Sm 1000 s.tgt
  c : ∀ p ∈ dParts s.deed, SmPart p
theorem fi_stp {s : Stp} (h : SmS s) : Fi 3 30000 (pStp s) := (fi_tuple (n := 3) (k := 2) (L := 9000) (ps := [.int s.src, .int s.tgt, pDeed s.deed]) (fun p hp => by
  simp only [List.mem_cons, List.not_mem_nil, or_false] at hp
  rcases hp with rfl | rfl | rfl
  · exact (fi_int h.a).mono (by decide) (by decide)
  · exact (fi_int h.b).mono (by decide) (by decide)
  · exact fi_deed h.c) (Nat.le_refl 3)).mono (Nat.le_refl _) (by decide)
def pPrg (p : Prg) : PyData := .tuple [pNames p.names, .int p.many, pRow p.start, .list (p.steps.map pStp)]
theorem toP_prg {n : Nat} {p : Prg} : toP (n + 6) S (dP p) = some (pPrg p) := by
  unfold dP toP
  simp only [mapO]
  rw [toP_names, toP_row, show toP (n + 5) S (.int p.many) = some (.int p.many) from rfl]
  have h : toP (n + 5) S (.vl (p.steps.map dS)) = some (.list (p.steps.map pStp)) := by
    unfold toP
    rw [mapO_map (n := n + 4) (fun s => toP_stp (n := n))]
  rw [h]
  rfl
structure SmPr (p : Prg) : Prop where
  n : ∀ z ∈ p.names, z ∈ words
  nl : p.names.length ≤ 5
  m : Sm 1000 p.many
  s : ∀ r ∈ p.start, SmG r
  sl : p.start.length ≤ 5
  t : ∀ s ∈ p.steps, SmS s
  tl : p.steps.length ≤ 30
end
end Sp
namespace Sp
open PySem PySem.Spec PyProof.Rows L2 Lv Com
section
variable {fu : Nat} {S : Sto}
theorem need_program_ok (hf : 10000 ≤ fu) {p : Prg} (h : SmP p) (hp : okP p = true) : c_need_program fu [dP p] S = some (.non, S) := by
  have e := program_ok (S := S) hf h
  rw [hp] at e
  unfold c_need_program u_need_program b_need_program
  simp only [r_sCons, r_sIf, r_tAnd, r_tOr, r_tNot, r_truB, r_truF, r_truD_bl, r_eBin, r_eVar, r_eC, r_eCall, r_eCallK, r_aCons, r_aNil, r_eAnd, r_eOr, r_eNotT, r_eIf, r_eNeg, r_eChain, r_sNil, r_sDrop, r_sRet, r_sSet, r_sAsg, r_sPar, r_nm, r_tp, r_sets, r_sets0, List.getElem?_cons_zero, List.getElem?_cons_succ, List.set_cons_zero, List.set_cons_succ, List.length_cons, List.length_nil, List.map_cons, List.map_nil, List.cons_append, List.nil_append, Nat.zero_add, Nat.reduceAdd, Nat.sub_self, Nat.reduceSub, Nat.add_zero, List.reduceReplicate, List.replicate_zero, List.append_nil, if_true, if_false, Bool.false_eq_true, Bool.not_true, Bool.not_false, Bool.true_and, Bool.and_true, Bool.false_and, Bool.and_false, Bool.or_true, Bool.true_or, Bool.false_or, Bool.or_false, reduceIte, r_fnF, r_sealed, r_start, t_tup0, t_tup1, t_tup2, t_tup3, t_tup4, t_lst0, t_lst1, t_lst2, t_lst3, t_lst4, t_lst5, t_lst6, t_lst7, t_lst8, t_lst9, t_lst10, r_mkV, r_mkR, r_isN, r_non0, r_non1, r_non2, r_non3, r_non4, r_non5, r_non6, isi_int, isi_intb, isi_tup, isi_str, isi_vl, isi_ints, isi_tups, r_cmp2i, r_cmp2t, r_cmpI, r_eqv_int, r_eqv_str, r_add, r_sub, r_arith, r_ix_tup, r_ix_vl, r_len_tup, r_len_vl, r_cInt, r_cMin, r_cMax, r_lof_vl, r_lof_tup, r_tof_vl, r_tof_tup, r_truD_vl, r_truD_tup, r_truD_int, r_truD_non, r_oSome, r_oNone, r_eSl, r_sl_vl, r_sl_tup, r_iAny, r_eMethL, r_isRef_vl, ix20, ix21, nr_int, nr_bl, nr_non, nr_str, nr_tup, nr_vl, nrs_nil, nrs_cons, shut_same, pick_nil, pick_cons, decide_true, decide_false, e]
theorem need_row_ok (hf : 10000 ≤ fu) {p : Prg} {rs : List Rg} (hl : rs.length = p.names.length) (hn : p.names.length ≤ 1000) (hr : ∀ r ∈ rs, okR r = true) : c_need_row fu [dP p, dRow rs] S = some (.non, S) := by
  have e := row_ok (S := S) (p := p) (rs := rs) hf (by omega)
  rw [decide_eq_true hl, List.all_eq_true.mpr hr] at e
  unfold c_need_row u_need_row b_need_row
  simp only [r_sCons, r_sIf, r_tAnd, r_tOr, r_tNot, r_truB, r_truF, r_truD_bl, r_eBin, r_eVar, r_eC, r_eCall, r_eCallK, r_aCons, r_aNil, r_eAnd, r_eOr, r_eNotT, r_eIf, r_eNeg, r_eChain, r_sNil, r_sDrop, r_sRet, r_sSet, r_sAsg, r_sPar, r_nm, r_tp, r_sets, r_sets0, List.getElem?_cons_zero, List.getElem?_cons_succ, List.set_cons_zero, List.set_cons_succ, List.length_cons, List.length_nil, List.map_cons, List.map_nil, List.cons_append, List.nil_append, Nat.zero_add, Nat.reduceAdd, Nat.sub_self, Nat.reduceSub, Nat.add_zero, List.reduceReplicate, List.replicate_zero, List.append_nil, if_true, if_false, Bool.false_eq_true, Bool.not_true, Bool.not_false, Bool.true_and, Bool.and_true, Bool.false_and, Bool.and_false, Bool.or_true, Bool.true_or, Bool.false_or, Bool.or_false, reduceIte, r_fnF, r_sealed, r_start, t_tup0, t_tup1, t_tup2, t_tup3, t_tup4, t_lst0, t_lst1, t_lst2, t_lst3, t_lst4, t_lst5, t_lst6, t_lst7, t_lst8, t_lst9, t_lst10, r_mkV, r_mkR, r_isN, r_non0, r_non1, r_non2, r_non3, r_non4, r_non5, r_non6, isi_int, isi_intb, isi_tup, isi_str, isi_vl, isi_ints, isi_tups, r_cmp2i, r_cmp2t, r_cmpI, r_eqv_int, r_eqv_str, r_add, r_sub, r_arith, r_ix_tup, r_ix_vl, r_len_tup, r_len_vl, r_cInt, r_cMin, r_cMax, r_lof_vl, r_lof_tup, r_tof_vl, r_tof_tup, r_truD_vl, r_truD_tup, r_truD_int, r_truD_non, r_oSome, r_oNone, r_eSl, r_sl_vl, r_sl_tup, r_iAny, r_eMethL, r_isRef_vl, ix20, ix21, nr_int, nr_bl, nr_non, nr_str, nr_tup, nr_vl, nrs_nil, nrs_cons, shut_same, pick_nil, pick_cons, decide_true, decide_false, e]
end
section
variable {m : Int} {a b : End} {r q : Rg}
theorem BdO.mono {k : Int} (h : BdO m a) (hk : m ≤ k) : BdO k a := fun i e => by have := h i e; omega
theorem BdR.mono {k : Int} (h : BdR m r) (hk : m ≤ k) : BdR k r := ⟨h.1.mono hk, h.2.mono hk⟩
theorem bd_non : BdO m none := fun i e => by cases e
theorem bd_some {i : Int} (h : -m ≤ i ∧ i ≤ m) : BdO m (some i) := fun j e => by cases e; exact h
theorem bd_gl (h : BdO m a) (k : BdO m b) : BdO m (gl a b) := by
  rcases a with _ | a <;> rcases b with _ | b
  · exact bd_non
  · exact k
  · exact h
  · refine bd_some ?_
    unfold mx
    split
    · exact k b rfl
    · exact h a rfl
theorem bd_lh (h : BdO m a) (k : BdO m b) : BdO m (lh a b) := by
  rcases a with _ | a <;> rcases b with _ | b
  · exact bd_non
  · exact k
  · exact h
  · refine bd_some ?_
    unfold mn
    split
    · exact k b rfl
    · exact h a rfl
theorem bd_ll (h : BdO m a) (k : BdO m b) : BdO m (ll a b) := by
  rcases a with _ | a <;> rcases b with _ | b
  · exact bd_non
  · exact bd_non
  · exact bd_non
  · refine bd_some ?_
    unfold mn
    split
    · exact k b rfl
    · exact h a rfl
theorem bd_gh (h : BdO m a) (k : BdO m b) : BdO m (gh a b) := by
  rcases a with _ | a <;> rcases b with _ | b
  · exact bd_non
  · exact bd_non
  · exact bd_non
  · refine bd_some ?_
    unfold mx
    split
    · exact k b rfl
    · exact h a rfl
variable {zs : List Str} {rs us : List Rg}
end
end Sp
namespace Sp
open PySem PySem.Spec PyProof.Rows L2 Lv
noncomputable def bM (fu : Nat) (gs : CF) : SF := (sCons (sIf (truF (eCall cIsi (aCons (eVar 0) (aCons (eC (.ty "list")) aNil)))) (sCons (sIf (tAndF (truB (eBin (gEqv true) (eVar 0) (eCall (cLst false) aNil))) (truB (eBin (gEqv false) (eBin gIx (eVar 0) (eNeg (eC (.int 1)))) (eC (.str "marked"))))) (sCons (sRet (eC (.bl false))) sNil) sNil) (sCons (sSet 1 (eShutB (eComp true fu [2] (iAny (eVar 0)) (.nm 2) tYesF (eCall gs (aCons (eVar 2) aNil))))) (sCons (sDrop (eMethL mAppend (eVar 0) (aCons (eC (.str "marked")) aNil))) (sCons (sRet (eBin (gIn2 true) (eC (.bl false)) (eVar 1))) sNil)))) sNil) (sCons (sRet (eOr (eNotT (eCall cIsi (aCons (eVar 0) (aCons (eC (.ty "tuple")) aNil)))) (eBin (gIn2 true) (eC (.bl false)) (eShutB (eComp true fu [2] (iAny (eVar 0)) (.nm 2) tYesF (eCall gs (aCons (eVar 2) aNil))))))) sNil))
noncomputable def crM (fu : Nat) : Nat → CF
  | 0 => sealedB (fnF 1 3 (bM fu fun _ _ => none))
  | n + 1 => sealedB (fnF 1 3 (bM fu (crM fu n)))
noncomputable def cM (fu : Nat) : CF := crM fu 40
end Sp
namespace Sp
open PySem PySem.Spec PyProof.Rows L2 Lv
def mk : Str := "marked"
def LL (P : D → List Nat → Prop) : List D → List Nat → Prop
  | [], α => α = []
  | d :: ds, α => ∃ β γ, P d β ∧ LL P ds γ ∧ α = β ++ γ ∧ ∀ i ∈ β, i ∉ γ
def Tr : Nat → Sto → D → List Nat → Prop
  | 0, _, _, _ => False
  | k + 1, S, d, α => match d with
    | .ref n => ∃ ds β, S[n]? = some (.lst ds) ∧ LL (Tr k S) ds β ∧ n ∉ β ∧ α = n :: β ∧ ds.length ≤ 1000 ∧ ds.getLast? ≠ some (.str mk)
    | .tup ds => LL (Tr k S) ds α ∧ ds.length ≤ 1000
    | .str x => α = [] ∧ (PyData.str x).canLay0 = true
    | .non => α = []
    | .bl _ => α = []
    | .int _ => α = []
    | _ => False
theorem LL.imp {P Q : D → List Nat → Prop} : ∀ {ds : List D} {α : List Nat}, LL P ds α → (∀ d ∈ ds, ∀ β, (∀ i ∈ β, i ∈ α) → P d β → Q d β) → LL Q ds α
  | [], α, h, _ => h
  | d :: ds, α, h, hi => by
    obtain ⟨β, γ, h1, h2, rfl, h4⟩ := h
    exact ⟨β, γ, hi d List.mem_cons_self β (fun i hi => List.mem_append_left _ hi) h1, h2.imp (fun e he δ hd => hi e (List.mem_cons_of_mem _ he) δ fun i hm => List.mem_append_right _ (hd i hm)), rfl, h4⟩
theorem Tr.out {S S' : Sto} : ∀ {k : Nat} {d : D} {α : List Nat}, Tr k S d α → (∀ i ∈ α, S'[i]? = S[i]?) → Tr k S' d α
  | 0, d, α, h, _ => h.elim
  | k + 1, d, α, h, ho => by
    unfold Tr at h ⊢
    cases d with
    | ref n =>
      obtain ⟨ds, β, h1, h2, h3, rfl, h5, h6⟩ := h
      refine ⟨ds, β, by rw [ho n List.mem_cons_self]; exact h1, h2.imp (fun e _ γ hg he => he.out fun i hi => ho i (List.mem_cons_of_mem _ (hg i hi))), h3, rfl, h5, h6⟩
    | tup ds => exact ⟨h.1.imp fun e _ γ hg he => he.out fun i hi => ho i (hg i hi), h.2⟩
    | _ => exact h
theorem LL.mem {P : D → List Nat → Prop} : ∀ {ds : List D} {α : List Nat}, LL P ds α → ∀ d ∈ ds, ∃ β, P d β ∧ ∀ i ∈ β, i ∈ α
  | [], α, h, d, hd => by cases hd
  | e :: ds, α, h, d, hd => by
    obtain ⟨β, γ, h1, h2, rfl, h4⟩ := h
    rcases List.mem_cons.mp hd with rfl | hd
    · exact ⟨β, h1, fun i hi => List.mem_append_left _ hi⟩
    · obtain ⟨δ, k1, k2⟩ := h2.mem d hd
      exact ⟨δ, k1, fun i hi => List.mem_append_right _ (k2 i hi)⟩
theorem belows_of {n : Nat} : ∀ {ds : List D}, (∀ d ∈ ds, below n d = true) → belows n ds = true
  | [], _ => rfl
  | d :: ds, h => by
    show (below n d && belows n ds) = true
    rw [h d List.mem_cons_self, belows_of fun e he => h e (List.mem_cons_of_mem _ he)]
    rfl
theorem Tr.bel {S : Sto} : ∀ {k : Nat} {d : D} {α : List Nat}, Tr k S d α → below S.length d = true
  | 0, d, α, h => h.elim
  | k + 1, d, α, h => by
    unfold Tr at h
    cases d with
    | ref n =>
      obtain ⟨ds, β, h1, _⟩ := h
      exact decide_eq_true (List.getElem?_eq_some_iff.mp h1).1
    | tup ds =>
      refine belows_of (ds := ds) fun e he => ?_
      obtain ⟨β, h1, _⟩ := h.1.mem e he
      exact h1.bel
    | kl ds => exact h.elim
    | vl ds => exact h.elim
    | _ => rfl
theorem mapO_ex {α β : Type} {f : α → Option β} {p : β → Prop} : ∀ {xs : List α}, (∀ x ∈ xs, ∃ y, f x = some y ∧ p y) → ∃ ys, mapO f xs = some ys ∧ (∀ y ∈ ys, p y) ∧ ys.length = xs.length
  | [], _ => ⟨[], rfl, fun y hy => (by cases hy), rfl⟩
  | x :: xs, h => by
    obtain ⟨y, h1, h2⟩ := h x List.mem_cons_self
    obtain ⟨ys, k1, k2, k3⟩ := mapO_ex fun z hz => h z (List.mem_cons_of_mem _ hz)
    refine ⟨y :: ys, by simp only [mapO, h1, k1], fun z hz => ?_, by simp [k3]⟩
    rcases List.mem_cons.mp hz with rfl | hz
    · exact h2
    · exact k2 z hz
theorem Tr.dat {S : Sto} : ∀ {k m : Nat} {d : D} {α : List Nat}, Tr k S d α → k ≤ m → ∃ p, toP m S d = some p ∧ p.canLay0 = true ∧ p.depth ≤ k
  | 0, m, d, α, h, _ => h.elim
  | k + 1, 0, d, α, h, hm => by omega
  | k + 1, m + 1, d, α, h, hm => by
    have go : ∀ {ds : List D} {β : List Nat}, LL (Tr k S) ds β → ∃ ps, mapO (toP m S) ds = some ps ∧ (∀ p ∈ ps, p.canLay0 = true ∧ p.depth ≤ k) ∧ ps.length = ds.length := fun hl => mapO_ex fun e he => by
      obtain ⟨γ, h1, _⟩ := hl.mem e he
      obtain ⟨p, k1, k2, k3⟩ := h1.dat (m := m) (by omega)
      exact ⟨p, k1, k2, k3⟩
    unfold Tr at h
    cases d with
    | ref n =>
      obtain ⟨ds, β, h1, h2, _⟩ := h
      obtain ⟨ps, k1, k2, k3⟩ := go h2
      refine ⟨.list ps, ?_, layAll fun p hp => (k2 p hp).1, Nat.succ_le_succ (depAll fun p hp => (k2 p hp).2)⟩
      unfold toP
      rw [h1]
      dsimp only
      rw [show (Cell.lst ds).items = ds from rfl, k1]
    | tup ds =>
      obtain ⟨ps, k1, k2, k3⟩ := go h.1
      refine ⟨.tuple ps, ?_, layAll fun p hp => (k2 p hp).1, Nat.succ_le_succ (depAll fun p hp => (k2 p hp).2)⟩
      unfold toP
      rw [k1]
    | kl ds => exact h.elim
    | vl ds => exact h.elim
    | ty s => exact h.elim
    | str x => exact ⟨.str x, rfl, h.2, Nat.zero_le _⟩
    | non => exact ⟨.none, rfl, rfl, Nat.zero_le _⟩
    | bl b => exact ⟨.bool b, rfl, rfl, Nat.zero_le _⟩
    | int i => exact ⟨.int i, rfl, rfl, Nat.zero_le _⟩
theorem LL.inv {P : D → List Nat → Prop} : ∀ {ds : List D} {α : List Nat}, LL P ds α → ∀ i ∈ α, ∃ d ∈ ds, ∃ β, P d β ∧ i ∈ β
  | [], α, h, i, hi => by cases h; cases hi
  | e :: ds, α, h, i, hi => by
    obtain ⟨β, γ, h1, h2, rfl, h4⟩ := h
    rcases List.mem_append.mp hi with hi | hi
    · exact ⟨e, List.mem_cons_self, β, h1, hi⟩
    · obtain ⟨d, k1, k2⟩ := h2.inv i hi
      exact ⟨d, List.mem_cons_of_mem _ k1, k2⟩
theorem Tr.cells {S : Sto} : ∀ {k : Nat} {d : D} {α : List Nat}, Tr k S d α → ∀ i ∈ α, ∃ ds, S[i]? = some (.lst ds) ∧ belows S.length ds = true
  | 0, d, α, h, i, hi => h.elim
  | k + 1, d, α, h, i, hi => by
    unfold Tr at h
    cases d with
    | ref n =>
      obtain ⟨ds, β, h1, h2, h3, rfl, _⟩ := h
      rcases List.mem_cons.mp hi with rfl | hi
      · exact ⟨ds, h1, belows_of fun e he => by
          obtain ⟨γ, k1, _⟩ := h2.mem e he
          exact k1.bel⟩
      · obtain ⟨e, he, γ, k1, k2⟩ := h2.inv i hi
        exact k1.cells i k2
    | tup ds =>
      obtain ⟨e, he, γ, k1, k2⟩ := h.1.inv i hi
      exact k1.cells i k2
    | kl ds => exact h.elim
    | vl ds => exact h.elim
    | ty s => exact h.elim
    | str x => rw [h.1] at hi; cases hi
    | non => cases h; cases hi
    | bl b => cases h; cases hi
    | int i => cases h; cases hi
theorem Tr.lt {S : Sto} {k : Nat} {d : D} {α : List Nat} (h : Tr k S d α) : ∀ i ∈ α, i < S.length := fun i hi => by
  obtain ⟨ds, h1, _⟩ := h.cells i hi
  exact (List.getElem?_eq_some_iff.mp h1).1
structure Fra (S S' : Sto) (α : List Nat) : Prop where
  len : S'.length = S.length
  out : ∀ i, i ∉ α → S'[i]? = S[i]?
  inn : ∀ i ∈ α, ∃ ds, S[i]? = some (.lst ds) ∧ S'[i]? = some (.lst (ds ++ [.str mk]))
theorem belows_app {n : Nat} : ∀ {a b : List D}, belows n (a ++ b) = (belows n a && belows n b)
  | [], b => by rw [List.nil_append]; rfl
  | d :: a, b => by
    show (below n d && belows n (a ++ b)) = ((below n d && belows n a) && belows n b)
    rw [belows_app, Bool.and_assoc]
theorem Fra.old {S S' : Sto} {α : List Nat} (h : Fra S S' α) (hc : ∀ i ∈ α, ∃ ds, S[i]? = some (.lst ds) ∧ belows S.length ds = true) : OldB S S' := by
  refine ⟨by rw [h.len]; exact Nat.le_refl _, fun i hi => ?_⟩
  by_cases hm : i ∈ α
  · obtain ⟨ds, h1, h2⟩ := h.inn i hm
    obtain ⟨es, h3, h4⟩ := hc i hm
    rw [h1] at h3
    cases h3
    exact .inr ⟨_, h2, by rw [belows_app, h4]; rfl⟩
  · exact .inl (h.out i hm)
theorem take_self {S S' : Sto} (h : S'.length = S.length) : S'.take S.length = S' := by rw [← h, List.take_length]
theorem shutB_bl {S S' : Sto} {α : List Nat} {b : Bool} (h : Fra S S' α) (hc : ∀ i ∈ α, ∃ ds, S[i]? = some (.lst ds) ∧ belows S.length ds = true) : shutB S (.bl b) S' = some (.bl b, S') := by
  unfold shutB
  rw [if_pos (h.old hc)]
  show some (D.bl b, S'.take S.length) = _
  rw [take_self h.len]
section
variable {fu : Nat}
theorem marks {gs : CF} {k : Nat} (IH : ∀ (d : D) (β : List Nat) (X : Sto), Tr k X d β → ∃ X', gs [d] X = some (.bl true, X') ∧ Fra X X' β) {src : Src} {full : List D} {kC n : Nat} {a b : Option D} (hsrc : ∀ (X : Sto) (i : Nat), (∃ c, X[n]? = some (.lst c) ∧ c = full) ∨ src = .fix full → nextD X i src = some full[i]?) :
    ∀ (ds : List D) (i fuel : Nat) (γ : List Nat) (X : Sto) (acc : List D), full.drop i = ds → ds.length < fuel → LL (Tr k X) ds γ → ((X[n]? = some (.lst full) ∧ n ∉ γ ∧ n ≠ kC) ∨ src = .fix full) → kC ∉ γ → X[kC]? = some (.lst acc) → acc.length + ds.length ≤ 2000 → noRefs acc = true →
    ∃ X', compL (.nm 2) tYesF (eCall gs (aCons (eVar 2) aNil)) src kC [a, b, none] fuel i X = some X' ∧ X'.length = X.length ∧ X'[kC]? = some (.lst (acc ++ List.replicate ds.length (.bl true))) ∧ (∀ j, j ∉ γ → j ≠ kC → X'[j]? = X[j]?) ∧ ∀ j ∈ γ, ∃ es, X[j]? = some (.lst es) ∧ X'[j]? = some (.lst (es ++ [.str mk]))
  | [], i, fuel + 1, γ, X, acc, hd, hf, hl, hs, hk, hacc, hb, hnr => by
    cases hl
    have hn : full[i]? = none := by
      rw [List.getElem?_eq_none_iff]
      have := congrArg List.length hd
      rw [List.length_drop] at this
      simp at this
      omega
    refine ⟨X, ?_, rfl, by simpa using hacc, fun _ _ _ => rfl, fun j hj => by cases hj⟩
    unfold compL
    rw [hsrc X i (by rcases hs with h | h; exact .inl ⟨_, h.1, rfl⟩; exact .inr h), hn]
  | d :: ds, i, fuel + 1, γ, X, acc, hd, hf, hl, hs, hk, hacc, hb, hnr => by
    obtain ⟨β, δ, h1, h2, rfl, h4⟩ := hl
    have hil : i < full.length := by
      have := congrArg List.length hd
      rw [List.length_drop, List.length_cons] at this
      omega
    have hn : full[i]? = some d := by
      have := congrArg (fun l : List D => l[0]?) hd
      simpa using this
    have hd2 : full.drop (i + 1) = ds := by
      have := congrArg (List.drop 1) hd
      simpa [List.drop_drop] using this
    obtain ⟨X1, e1, f1⟩ := IH d β X h1
    have hkb : kC ∉ β := fun h => hk (List.mem_append_left _ h)
    have hkd : kC ∉ δ := fun h => hk (List.mem_append_right _ h)
    have hkl : kC < X.length := (List.getElem?_eq_some_iff.mp hacc).1
    have hacc1 : X1[kC]? = some (.lst acc) := by rw [f1.out kC hkb]; exact hacc
    have hacc2 : (X1.set kC (.lst (acc ++ [.bl true])))[kC]? = some (.lst (acc ++ [.bl true])) := List.getElem?_set_self (by rw [f1.len]; exact hkl)
    have hst : ∀ j, j ≠ kC → (X1.set kC (.lst (acc ++ [.bl true])))[j]? = X1[j]? := fun j hj => List.getElem?_set_ne (Ne.symm hj)
    have h2' : LL (Tr k (X1.set kC (.lst (acc ++ [.bl true])))) ds δ := h2.imp fun e _ η hη he => he.out fun j hj => by
      have hjd := hη j hj
      rw [hst j fun q => hkd (q ▸ hjd), f1.out j fun q => h4 j q hjd]
    obtain ⟨X', e2, k1, k2, k3, k4⟩ := marks IH hsrc ds (i + 1) fuel δ (X1.set kC (.lst (acc ++ [.bl true]))) (acc ++ [.bl true]) hd2 (by simp only [List.length_cons] at hf; omega) h2' (by
      rcases hs with ⟨q1, q2, q3⟩ | q
      · refine .inl ⟨?_, fun h => q2 (List.mem_append_right _ h), q3⟩
        rw [hst n q3, f1.out n fun h => q2 (List.mem_append_left _ h)]
        exact q1
      · exact .inr q) hkd hacc2 (by simp only [List.length_cons, List.length_append, List.length_nil] at hb ⊢; omega) (by
      refine noRefs_of fun z hz => ?_
      rcases List.mem_append.mp hz with hz | hz
      · exact noRefs_mem hnr z hz
      · rw [List.mem_singleton.mp hz]; rfl)
    have hlen : (X1.set kC (.lst (acc ++ [.bl true]))).length = X.length := by rw [List.length_set, f1.len]
    refine ⟨X', ?_, by rw [k1, hlen], ?_, fun j hj hjk => ?_, fun j hj => ?_⟩
    · unfold compL
      rw [hsrc X i (by rcases hs with h | h; exact .inl ⟨_, h.1, rfl⟩; exact .inr h), hn]
      have ec : eCall gs (aCons (eVar 2) aNil) [a, b, some d] X = some (.bl true, X1) := by
        simp only [r_eCall, r_aCons, r_aNil, r_eVar, List.getElem?_cons_zero, List.getElem?_cons_succ, e1]
      show (match setTg (.nm 2) d [a, b, none] with
        | none => none
        | some e1 => match tYesF e1 X with
          | none => none
          | some (false, S2) => compL (.nm 2) tYesF (eCall gs (aCons (eVar 2) aNil)) src kC [a, b, none] fuel (i + 1) S2
          | some (true, S2) => match eCall gs (aCons (eVar 2) aNil) e1 S2 with
            | none => none
            | some (y, S3) => match S3[kC]? with
              | some (.lst acc) => if acc.length < lim then compL (.nm 2) tYesF (eCall gs (aCons (eVar 2) aNil)) src kC [a, b, none] fuel (i + 1) (S3.set kC (.lst (acc ++ [y]))) else none
              | _ => none) = some X'
      show (match eCall gs (aCons (eVar 2) aNil) [a, b, some d] X with
            | none => none
            | some (y, S3) => match S3[kC]? with
              | some (.lst acc) => if acc.length < lim then compL (.nm 2) tYesF (eCall gs (aCons (eVar 2) aNil)) src kC [a, b, none] fuel (i + 1) (S3.set kC (.lst (acc ++ [y]))) else none
              | _ => none) = some X'
      rw [ec]
      dsimp only
      rw [hacc1]
      dsimp only
      rw [if_pos (Nat.lt_of_lt_of_le (show acc.length < 2001 by omega) (by decide))]
      exact e2
    · rw [k2, List.append_assoc]
      rfl
    · rw [k3 j (fun h => hj (List.mem_append_right _ h)) hjk, hst j hjk, f1.out j fun h => hj (List.mem_append_left _ h)]
    · by_cases hjd : j ∈ δ
      · obtain ⟨es, q1, q2⟩ := k4 j hjd
        rw [hst j fun q => hkd (q ▸ hjd), f1.out j fun q => h4 j q hjd] at q1
        exact ⟨es, q1, q2⟩
      · have hjb : j ∈ β := by rcases List.mem_append.mp hj with h | h; exact h; exact absurd h hjd
        have hjk : j ≠ kC := fun q => hkb (q ▸ hjb)
        obtain ⟨es, q1, q2⟩ := f1.inn j hjb
        exact ⟨es, q1, by rw [k3 j hjd hjk, hst j hjk]; exact q2⟩
  | ds, i, 0, γ, X, acc, hd, hf, hl, hs, hk, hacc, hb, hnr => by omega
end
end Sp
namespace Sp
open PySem PySem.Spec PyProof.Rows L2 Lv
section
variable {fu : Nat} {S : Sto}
theorem fz_bls {n0 k : Nat} {X : Sto} : ∀ {n : Nat}, mapO (fz n0 X k) (List.replicate n (.bl true)) = some (List.replicate n (.bl true))
  | 0 => rfl
  | n + 1 => by
    have h1 : fz n0 X k (.bl true) = some (.bl true) := by cases k <;> rfl
    rw [List.replicate_succ]
    simp only [mapO, h1, fz_bls]
theorem comp_marks {gs : CF} {k : Nat} (IH : ∀ (d : D) (β : List Nat) (X : Sto), Tr k X d β → ∃ X', gs [d] X = some (.bl true, X') ∧ Fra X X' β) (hf : 10000 ≤ fu) {d : D} {ds : List D} {src : Src} {γ : List Nat} {b : Option D} (hit : iAny (eVar 0) [some d, b, none] S = some (src, S)) (hs : (∃ n, src = .cell n ∧ S[n]? = some (.lst ds) ∧ n ∉ γ) ∨ src = .fix ds) (hl : LL (Tr k S) ds γ) (h1 : ds.length ≤ 1000) :
    ∃ S', eShutB (eComp true fu [2] (iAny (eVar 0)) (.nm 2) tYesF (eCall gs (aCons (eVar 2) aNil))) [some d, b, none] S = some (.vl (List.replicate ds.length (.bl true)), S') ∧ Fra S S' γ := by
  have hlt : ∀ i ∈ γ, i < S.length := fun i hi => by
    obtain ⟨e, _, β, k1, k2⟩ := hl.inv i hi
    exact k1.lt i k2
  have hcell : ∀ i ∈ γ, ∃ es, S[i]? = some (.lst es) ∧ belows S.length es = true := fun i hi => by
    obtain ⟨e, _, β, k1, k2⟩ := hl.inv i hi
    exact k1.cells i k2
  have happ : ∀ i, i < S.length → (S ++ [Cell.lst []])[i]? = S[i]? := fun i hi => List.getElem?_append_left hi
  have hl' : LL (Tr k (S ++ [.lst []])) ds γ := hl.imp fun e _ β hβ he => he.out fun i hi => happ i (he.lt i hi)
  have hkC : S.length ∉ γ := fun h => Nat.lt_irrefl _ (hlt _ h)
  obtain ⟨X', e, k1, k2, k3, k4⟩ : ∃ X', compL (.nm 2) tYesF (eCall gs (aCons (eVar 2) aNil)) src S.length [some d, b, none] fu 0 (S ++ [.lst []]) = some X' ∧ X'.length = (S ++ [Cell.lst []]).length ∧ X'[S.length]? = some (.lst ([] ++ List.replicate ds.length (.bl true))) ∧ (∀ j, j ∉ γ → j ≠ S.length → X'[j]? = (S ++ [Cell.lst []])[j]?) ∧ ∀ j ∈ γ, ∃ es, (S ++ [Cell.lst []])[j]? = some (.lst es) ∧ X'[j]? = some (.lst (es ++ [.str mk])) := by
    rcases hs with ⟨n, rfl, hn, hnγ⟩ | rfl
    · have hnl : n < S.length := (List.getElem?_eq_some_iff.mp hn).1
      refine marks (n := n) (full := ds) IH (fun X i h => ?_) ds 0 fu γ (S ++ [.lst []]) [] rfl (by omega) hl' (.inl ⟨by rw [happ n hnl]; exact hn, hnγ, by omega⟩) hkC new_last (by simp; omega) rfl
      rcases h with ⟨c, hh, rfl⟩ | h
      · show (match X[n]? with
          | some c => some c.items[i]?
          | none => none) = _
        rw [hh]
        rfl
      · cases h
    · exact marks (n := 0) (full := ds) IH (fun X i h => rfl) ds 0 fu γ (S ++ [.lst []]) [] rfl (by omega) hl' (.inr rfl) hkC new_last (by simp; omega) rfl
  rw [List.nil_append] at k2
  rw [List.length_append] at k1
  have k1' : X'.length = S.length + 1 := k1
  have hout : ∀ i, i < S.length → i ∉ γ → X'[i]? = S[i]? := fun i hi hn => by rw [k3 i hn (by omega), happ i hi]
  have hinn : ∀ i ∈ γ, ∃ es, S[i]? = some (.lst es) ∧ X'[i]? = some (.lst (es ++ [.str mk])) := fun i hi => by
    obtain ⟨es, q1, q2⟩ := k4 i hi
    exact ⟨es, by rw [← happ i (hlt i hi)]; exact q1, q2⟩
  have hold : OldB S X' := by
    refine ⟨by omega, fun i hi => ?_⟩
    by_cases hm : i ∈ γ
    · obtain ⟨es, q1, q2⟩ := hinn i hm
      obtain ⟨es', q3, q4⟩ := hcell i hm
      rw [q1] at q3
      cases q3
      exact .inr ⟨_, q2, by rw [belows_app, q4]; rfl⟩
    · exact .inl (hout i hi hm)
  have htake : ∀ i, i < S.length → (X'.take S.length)[i]? = X'[i]? := fun i hi => by rw [List.getElem?_take, if_pos hi]
  have htl : (X'.take S.length).length = S.length := by rw [List.length_take, k1']; omega
  refine ⟨X'.take S.length, ?_, htl, fun i hi => ?_, fun i hi => ?_⟩
  · unfold eShutB eComp
    rw [hit]
    dsimp only
    rw [show wipeE [some d, b, none] [2] = [some d, b, none] from rfl, e]
    dsimp only
    unfold finC
    rw [if_pos rfl]
    dsimp only
    unfold shutB
    rw [if_pos hold]
    have hz : fz S.length X' 20 (.ref S.length) = some (.vl (List.replicate ds.length (.bl true))) := by
      unfold fz
      rw [if_neg (by rw [noRef]; decide)]
      dsimp only
      rw [if_neg (Nat.lt_irrefl _), k2]
      dsimp only
      rw [fz_bls]
    rw [hz]
  · by_cases hi2 : i < S.length
    · rw [htake i hi2, hout i hi2 hi]
    · rw [List.getElem?_eq_none (by omega), List.getElem?_eq_none (by omega)]
  · obtain ⟨es, q1, q2⟩ := hinn i hi
    exact ⟨es, q1, by rw [htake i (hlt i hi)]; exact q2⟩
theorem not_in {n : Nat} : gIn2 true (.bl false) (.vl (List.replicate n (.bl true))) S = some (.bl true, S) := in2_of (by
  show (if flatD (.bl false) && (List.replicate n (D.bl true)).all flatD then some (D.bl (!((List.replicate n (D.bl true)).any fun d => eqD d (.bl false))), S) else none) = _
  have h1 : (List.replicate n (D.bl true)).all flatD = true := List.all_eq_true.mpr fun d hd => by rw [(List.mem_replicate.mp hd).2]; rfl
  have h2 : ((List.replicate n (D.bl true)).any fun d => eqD d (.bl false)) = false := List.any_eq_false.mpr fun d hd => by rw [(List.mem_replicate.mp hd).2]; decide
  rw [h1, h2]
  rfl)
theorem last_ref {n : Nat} {ds : List D} {x : D} (hn : S[n]? = some (.lst ds)) (hx : ds.getLast? = some x) : gIx (.ref n) (.int (-1)) S = some (x, S) := by
  rw [r_ix_ref hn]
  have : atI ds (-1) = some x := by
    unfold atI
    have hne : ds ≠ [] := fun h => by rw [h] at hx; cases hx
    have hl : 0 < ds.length := List.length_pos_iff.mpr hne
    rw [List.getLast?_eq_getElem?] at hx
    have hi : ixN ds.length (-1) = some (ds.length - 1) := by
      unfold ixN
      rw [if_neg (by decide), if_pos (by omega)]
      congr 1
      omega
    show ((ixN ds.length (-1)).bind fun j => ds[j]?) = some x
    rw [hi]
    exact hx
  rw [show (Cell.lst ds).items = ds from rfl, this]
theorem neq_nil {n : Nat} {ds : List D} {ps : List PyData} (hn : S[n]? = some (.lst ds)) (hp : toP 60 S (.ref n) = some (.list ps)) (hl : ps.length = ds.length) (h1 : (PyData.list ps).canLay0 = true) (h2 : (PyData.list ps).depth ≤ 60) : gEqv true (.ref n) (.vl []) S = some (.bl (!ds.isEmpty), S) := by
  have hs := shaped_of h1 h2 (by decide)
  have h3 : SeqAt.shaped (.list []) = true := by decide +kernel
  show gEqd true (.ref n) (.vl []) S = _
  unfold gEqd
  rw [hp, show toP 60 S (.vl []) = some (.list []) from rfl]
  dsimp only
  rw [hs, h3]
  have h4 : (PyData.list ps).eqv (.list []) = ds.isEmpty := by
    cases ps with
    | nil => cases ds with
      | nil => rfl
      | cons _ _ => simp at hl
    | cons _ _ => cases ds with
      | nil => simp at hl
      | cons _ _ => rfl
  rw [h4]
  rfl
theorem eqv_d {x y : D} {neg : Bool} (h : ∀ a b, ¬(x = .str a ∧ y = .str b)) : gEqv neg x y S = gEqd neg x y S := by
  unfold gEqv
  split
  · rename_i a b
    exact absurd ⟨rfl, rfl⟩ (h a b)
  · rfl
theorem neq_mk {x : D} {p : PyData} (hx : x ≠ .str mk) (hp : toP 60 S x = some p) (h1 : p.canLay0 = true) (h2 : p.depth ≤ 60) : gEqv false x (.str mk) S = some (.bl false, S) := by
  have hs := shaped_of h1 h2 (by decide)
  have h3 : SeqAt.shaped (.str mk) = true := by unfold mk; decide +kernel
  cases x with
  | str z =>
    rw [r_eqv_str, if_neg (by decide), decide_eq_false (fun h => hx (by rw [h]))]
  | _ =>
    rw [eqv_d (by rintro a b ⟨h, _⟩; cases h)]
    unfold gEqd
    rw [hp, show toP 60 S (.str mk) = some (.str mk) from rfl]
    dsimp only
    rw [hs, h3]
    have h4 : p.eqv (.str mk) = false := by
      unfold toP at hp
      first
        | (cases hp; rfl)
        | (split at hp <;> first | (cases hp; rfl) | (split at hp <;> first | (cases hp; rfl) | cases hp) | cases hp)
        | cases hp
    rw [h4]
    rfl
theorem body_ok {gs : CF} {k : Nat} (IH : ∀ (d : D) (β : List Nat) (X : Sto), Tr k X d β → ∃ X', gs [d] X = some (.bl true, X') ∧ Fra X X' β) (hf : 10000 ≤ fu) (hk : k ≤ 50) {d : D} {α : List Nat} (h : Tr (k + 1) S d α) : ∃ S', bM fu gs [some d, none, none] S = some (.rt (.bl true), S') ∧ Fra S S' α := by
  obtain ⟨p, hp, hp1, hp2⟩ := h.dat (m := 60) (by omega)
  have h0 := h
  unfold Tr at h
  cases d with
  | kl ds => exact h.elim
  | vl ds => exact h.elim
  | ty s => exact h.elim
  | str x => rw [h.1]; exact ⟨S, rfl, ⟨rfl, fun _ _ => rfl, fun i hi => by cases hi⟩⟩
  | non => cases h; exact ⟨S, rfl, ⟨rfl, fun _ _ => rfl, fun i hi => by cases hi⟩⟩
  | bl b => cases h; exact ⟨S, rfl, ⟨rfl, fun _ _ => rfl, fun i hi => by cases hi⟩⟩
  | int i => cases h; exact ⟨S, rfl, ⟨rfl, fun _ _ => rfl, fun i hi => by cases hi⟩⟩
  | tup ds =>
    obtain ⟨S', e, f⟩ := comp_marks IH hf (S := S) (d := .tup ds) (ds := ds) (src := .fix ds) (b := none) rfl (.inr rfl) h.1 h.2
    refine ⟨S', ?_, f⟩
    have t1 : cIsi [.tup ds, .ty "list"] S = some (.bl false, S) := rfl
    have ni := not_in (S := S') (n := ds.length)
    have hc : ∀ c : EF, c [some (.tup ds), none, none] S = some (.vl (List.replicate ds.length (.bl true)), S') → (sCons (sIf (truF (eCall cIsi (aCons (eVar 0) (aCons (eC (.ty "list")) aNil)))) (sCons (sIf (tAndF (truB (eBin (gEqv true) (eVar 0) (eCall (cLst false) aNil))) (truB (eBin (gEqv false) (eBin gIx (eVar 0) (eNeg (eC (.int 1)))) (eC (.str "marked"))))) (sCons (sRet (eC (.bl false))) sNil) sNil) (sCons (sSet 1 c) (sCons (sDrop (eMethL mAppend (eVar 0) (aCons (eC (.str "marked")) aNil))) (sCons (sRet (eBin (gIn2 true) (eC (.bl false)) (eVar 1))) sNil)))) sNil) (sCons (sRet (eOr (eNotT (eCall cIsi (aCons (eVar 0) (aCons (eC (.ty "tuple")) aNil)))) (eBin (gIn2 true) (eC (.bl false)) c))) sNil)) [some (.tup ds), none, none] S = some (.rt (.bl true), S') := fun c hc => by
      simp only [r_sCons, r_sIf, r_tAnd, r_tOr, r_tNot, r_truB, r_truF, r_truD_bl, r_eBin, r_eVar, r_eC, r_eCall, r_eCallK, r_aCons, r_aNil, r_eAnd, r_eOr, r_eNotT, r_eIf, r_eNeg, r_eChain, r_sNil, r_sDrop, r_sRet, r_sSet, r_sAsg, r_sPar, r_nm, r_tp, r_sets, r_sets0, List.getElem?_cons_zero, List.getElem?_cons_succ, List.set_cons_zero, List.set_cons_succ, List.length_cons, List.length_nil, List.map_cons, List.map_nil, List.cons_append, List.nil_append, Nat.zero_add, Nat.reduceAdd, Nat.sub_self, Nat.reduceSub, Nat.add_zero, List.reduceReplicate, List.replicate_zero, List.append_nil, if_true, if_false, Bool.false_eq_true, Bool.not_true, Bool.not_false, Bool.true_and, Bool.and_true, Bool.false_and, Bool.and_false, Bool.or_true, Bool.true_or, Bool.false_or, Bool.or_false, reduceIte, r_fnF, r_sealed, r_start, t_tup0, t_tup1, t_tup2, t_tup3, t_tup4, t_lst0, t_lst1, t_lst2, t_lst3, t_lst4, t_lst5, t_lst6, t_lst7, t_lst8, t_lst9, t_lst10, r_mkV, r_mkR, r_isN, r_non0, r_non1, r_non2, r_non3, r_non4, r_non5, r_non6, isi_int, isi_intb, isi_tup, isi_str, isi_vl, isi_ints, isi_tups, r_cmp2i, r_cmp2t, r_cmpI, r_eqv_int, r_eqv_str, r_add, r_sub, r_arith, r_ix_tup, r_ix_vl, r_len_tup, r_len_vl, r_cInt, r_cMin, r_cMax, r_lof_vl, r_lof_tup, r_tof_vl, r_tof_tup, r_truD_vl, r_truD_tup, r_truD_int, r_truD_non, r_oSome, r_oNone, r_eSl, r_sl_vl, r_sl_tup, r_iAny, r_eMethL, r_isRef_vl, ix20, ix21, nr_int, nr_bl, nr_non, nr_str, nr_tup, nr_vl, nrs_nil, nrs_cons, shut_same, pick_nil, pick_cons, decide_true, decide_false, t1, hc, ni]
    exact hc _ e
  | ref n =>
    obtain ⟨ds, β, hn, hl, hnb, rfl, h1, hm⟩ := h
    obtain ⟨S', e, f⟩ := comp_marks IH hf (S := S) (d := .ref n) (ds := ds) (src := .cell n) (b := none) rfl (.inl ⟨n, rfl, hn, hnb⟩) hl h1
    have hn' : S'[n]? = some (.lst ds) := by rw [f.out n hnb]; exact hn
    have hnl : n < S.length := (List.getElem?_eq_some_iff.mp hn).1
    have t1 : cIsi [.ref n, .ty "list"] S = some (.bl true, S) := by
      show (match tyN S (.ref n) with
        | some m => match kitB m "list" with
          | some b => some (D.bl b, S)
          | none => none
        | none => none) = _
      rw [show tyN S (.ref n) = some "list" by simp only [tyN, hn]]
      rfl
    have ni := not_in (S := S'.set n (.lst (ds ++ [.str mk]))) (n := ds.length)
    have ap : mAppend (.ref n) [.str "marked"] S' = some (.non, S'.set n (.lst (ds ++ [.str mk]))) := by
      unfold mAppend
      dsimp only
      rw [hn']
      dsimp only
      rw [if_pos (Nat.lt_of_le_of_lt h1 (by decide))]
      rfl
    have ir : isRef S' (.ref n) = true := decide_eq_true (by rw [f.len]; exact hnl)
    -- what it is asked
    obtain ⟨ps, hps, hpl⟩ : ∃ ps, p = .list ps ∧ ps.length = ds.length := by
      unfold toP at hp
      rw [hn] at hp
      dsimp only at hp
      split at hp
      · rename_i qs hqs
        cases hp
        exact ⟨qs, rfl, (mapO_len hqs).symm⟩
      · cases hp
    subst hps
    have q1 := neq_nil hn hp hpl hp1 (by omega)
    have q2 : tAndF (truB (eBin (gEqv true) (eVar 0) (eCall (cLst false) aNil))) (truB (eBin (gEqv false) (eBin gIx (eVar 0) (eNeg (eC (.int 1)))) (eC (.str "marked")))) [some (.ref n), none, none] S = some (false, S) := by
      cases hq : ds.isEmpty with
      | true =>
        rw [hq] at q1
        simp only [r_sCons, r_sIf, r_tAnd, r_tOr, r_tNot, r_truB, r_truF, r_truD_bl, r_eBin, r_eVar, r_eC, r_eCall, r_eCallK, r_aCons, r_aNil, r_eAnd, r_eOr, r_eNotT, r_eIf, r_eNeg, r_eChain, r_sNil, r_sDrop, r_sRet, r_sSet, r_sAsg, r_sPar, r_nm, r_tp, r_sets, r_sets0, List.getElem?_cons_zero, List.getElem?_cons_succ, List.set_cons_zero, List.set_cons_succ, List.length_cons, List.length_nil, List.map_cons, List.map_nil, List.cons_append, List.nil_append, Nat.zero_add, Nat.reduceAdd, Nat.sub_self, Nat.reduceSub, Nat.add_zero, List.reduceReplicate, List.replicate_zero, List.append_nil, if_true, if_false, Bool.false_eq_true, Bool.not_true, Bool.not_false, Bool.true_and, Bool.and_true, Bool.false_and, Bool.and_false, Bool.or_true, Bool.true_or, Bool.false_or, Bool.or_false, reduceIte, r_fnF, r_sealed, r_start, t_tup0, t_tup1, t_tup2, t_tup3, t_tup4, t_lst0, t_lst1, t_lst2, t_lst3, t_lst4, t_lst5, t_lst6, t_lst7, t_lst8, t_lst9, t_lst10, r_mkV, r_mkR, r_isN, r_non0, r_non1, r_non2, r_non3, r_non4, r_non5, r_non6, isi_int, isi_intb, isi_tup, isi_str, isi_vl, isi_ints, isi_tups, r_cmp2i, r_cmp2t, r_cmpI, r_eqv_int, r_eqv_str, r_add, r_sub, r_arith, r_ix_tup, r_ix_vl, r_len_tup, r_len_vl, r_cInt, r_cMin, r_cMax, r_lof_vl, r_lof_tup, r_tof_vl, r_tof_tup, r_truD_vl, r_truD_tup, r_truD_int, r_truD_non, r_oSome, r_oNone, r_eSl, r_sl_vl, r_sl_tup, r_iAny, r_eMethL, r_isRef_vl, ix20, ix21, nr_int, nr_bl, nr_non, nr_str, nr_tup, nr_vl, nrs_nil, nrs_cons, shut_same, pick_nil, pick_cons, decide_true, decide_false, q1]
      | false =>
        rw [hq] at q1
        have hne : ds ≠ [] := fun z => by rw [z] at hq; cases hq
        have hx := List.getLast?_eq_some_getLast hne
        have hx2 := last_ref hn hx
        obtain ⟨γ, hg, _⟩ := hl.mem (ds.getLast hne) (List.getLast_mem hne)
        obtain ⟨p', r1, r2, r3⟩ := hg.dat (m := 60) (by omega)
        have q3 : gEqv false (ds.getLast hne) (.str "marked") S = some (.bl false, S) := neq_mk (fun z => hm (by rw [hx, z])) r1 r2 (by omega)
        simp only [r_sCons, r_sIf, r_tAnd, r_tOr, r_tNot, r_truB, r_truF, r_truD_bl, r_eBin, r_eVar, r_eC, r_eCall, r_eCallK, r_aCons, r_aNil, r_eAnd, r_eOr, r_eNotT, r_eIf, r_eNeg, r_eChain, r_sNil, r_sDrop, r_sRet, r_sSet, r_sAsg, r_sPar, r_nm, r_tp, r_sets, r_sets0, List.getElem?_cons_zero, List.getElem?_cons_succ, List.set_cons_zero, List.set_cons_succ, List.length_cons, List.length_nil, List.map_cons, List.map_nil, List.cons_append, List.nil_append, Nat.zero_add, Nat.reduceAdd, Nat.sub_self, Nat.reduceSub, Nat.add_zero, List.reduceReplicate, List.replicate_zero, List.append_nil, if_true, if_false, Bool.false_eq_true, Bool.not_true, Bool.not_false, Bool.true_and, Bool.and_true, Bool.false_and, Bool.and_false, Bool.or_true, Bool.true_or, Bool.false_or, Bool.or_false, reduceIte, r_fnF, r_sealed, r_start, t_tup0, t_tup1, t_tup2, t_tup3, t_tup4, t_lst0, t_lst1, t_lst2, t_lst3, t_lst4, t_lst5, t_lst6, t_lst7, t_lst8, t_lst9, t_lst10, r_mkV, r_mkR, r_isN, r_non0, r_non1, r_non2, r_non3, r_non4, r_non5, r_non6, isi_int, isi_intb, isi_tup, isi_str, isi_vl, isi_ints, isi_tups, r_cmp2i, r_cmp2t, r_cmpI, r_eqv_int, r_eqv_str, r_add, r_sub, r_arith, r_ix_tup, r_ix_vl, r_len_tup, r_len_vl, r_cInt, r_cMin, r_cMax, r_lof_vl, r_lof_tup, r_tof_vl, r_tof_tup, r_truD_vl, r_truD_tup, r_truD_int, r_truD_non, r_oSome, r_oNone, r_eSl, r_sl_vl, r_sl_tup, r_iAny, r_eMethL, r_isRef_vl, ix20, ix21, nr_int, nr_bl, nr_non, nr_str, nr_tup, nr_vl, nrs_nil, nrs_cons, shut_same, pick_nil, pick_cons, decide_true, decide_false, q1, hx2, q3]
    have hc : ∀ c : EF, c [some (.ref n), none, none] S = some (.vl (List.replicate ds.length (.bl true)), S') → (sCons (sIf (truF (eCall cIsi (aCons (eVar 0) (aCons (eC (.ty "list")) aNil)))) (sCons (sIf (tAndF (truB (eBin (gEqv true) (eVar 0) (eCall (cLst false) aNil))) (truB (eBin (gEqv false) (eBin gIx (eVar 0) (eNeg (eC (.int 1)))) (eC (.str "marked"))))) (sCons (sRet (eC (.bl false))) sNil) sNil) (sCons (sSet 1 c) (sCons (sDrop (eMethL mAppend (eVar 0) (aCons (eC (.str "marked")) aNil))) (sCons (sRet (eBin (gIn2 true) (eC (.bl false)) (eVar 1))) sNil)))) sNil) (sCons (sRet (eOr (eNotT (eCall cIsi (aCons (eVar 0) (aCons (eC (.ty "tuple")) aNil)))) (eBin (gIn2 true) (eC (.bl false)) c))) sNil)) [some (.ref n), none, none] S = some (.rt (.bl true), S'.set n (.lst (ds ++ [.str mk]))) := fun c hc => by
      generalize tAndF (truB (eBin (gEqv true) (eVar 0) (eCall (cLst false) aNil))) (truB (eBin (gEqv false) (eBin gIx (eVar 0) (eNeg (eC (.int 1)))) (eC (.str "marked")))) = tt at q2
      simp only [r_sCons, r_sIf, r_tAnd, r_tOr, r_tNot, r_truB, r_truF, r_truD_bl, r_eBin, r_eVar, r_eC, r_eCall, r_eCallK, r_aCons, r_aNil, r_eAnd, r_eOr, r_eNotT, r_eIf, r_eNeg, r_eChain, r_sNil, r_sDrop, r_sRet, r_sSet, r_sAsg, r_sPar, r_nm, r_tp, r_sets, r_sets0, List.getElem?_cons_zero, List.getElem?_cons_succ, List.set_cons_zero, List.set_cons_succ, List.length_cons, List.length_nil, List.map_cons, List.map_nil, List.cons_append, List.nil_append, Nat.zero_add, Nat.reduceAdd, Nat.sub_self, Nat.reduceSub, Nat.add_zero, List.reduceReplicate, List.replicate_zero, List.append_nil, if_true, if_false, Bool.false_eq_true, Bool.not_true, Bool.not_false, Bool.true_and, Bool.and_true, Bool.false_and, Bool.and_false, Bool.or_true, Bool.true_or, Bool.false_or, Bool.or_false, reduceIte, r_fnF, r_sealed, r_start, t_tup0, t_tup1, t_tup2, t_tup3, t_tup4, t_lst0, t_lst1, t_lst2, t_lst3, t_lst4, t_lst5, t_lst6, t_lst7, t_lst8, t_lst9, t_lst10, r_mkV, r_mkR, r_isN, r_non0, r_non1, r_non2, r_non3, r_non4, r_non5, r_non6, isi_int, isi_intb, isi_tup, isi_str, isi_vl, isi_ints, isi_tups, r_cmp2i, r_cmp2t, r_cmpI, r_eqv_int, r_eqv_str, r_add, r_sub, r_arith, r_ix_tup, r_ix_vl, r_len_tup, r_len_vl, r_cInt, r_cMin, r_cMax, r_lof_vl, r_lof_tup, r_tof_vl, r_tof_tup, r_truD_vl, r_truD_tup, r_truD_int, r_truD_non, r_oSome, r_oNone, r_eSl, r_sl_vl, r_sl_tup, r_iAny, r_eMethL, r_isRef_vl, ix20, ix21, nr_int, nr_bl, nr_non, nr_str, nr_tup, nr_vl, nrs_nil, nrs_cons, shut_same, pick_nil, pick_cons, decide_true, decide_false, t1, q2, hc, ir, ap, ni]
    refine ⟨_, hc _ e, by rw [List.length_set]; exact f.len, fun i hi => ?_, fun i hi => ?_⟩
    · have h1 : n ≠ i := fun z => hi (z ▸ List.mem_cons_self)
      rw [List.getElem?_set_ne h1]
      exact f.out i fun z => hi (List.mem_cons_of_mem _ z)
    · by_cases hin : i = n
      · subst hin
        exact ⟨ds, hn, List.getElem?_set_self (by rw [f.len]; exact hnl)⟩
      · have : i ∈ β := by
          rcases List.mem_cons.mp hi with h | h
          · exact absurd h hin
          · exact h
        obtain ⟨es, k1, k2⟩ := f.inn i this
        exact ⟨es, k1, by rw [List.getElem?_set_ne (Ne.symm hin)]; exact k2⟩
theorem crM_ok (hf : 10000 ≤ fu) : ∀ (m k : Nat) (d : D) (α : List Nat) (S : Sto), Tr (k + 1) S d α → k ≤ m → m ≤ 50 → ∃ S', crM fu m [d] S = some (.bl true, S') ∧ Fra S S' α
  | 0, k, d, α, S, h, hk, hm => by
    have hk0 : k = 0 := by omega
    subst hk0
    obtain ⟨S', e, f⟩ := body_ok (gs := fun _ _ => none) (k := 0) (fun d β X hh => hh.elim) hf (by omega) h
    refine ⟨S', ?_, f⟩
    unfold crM sealedB
    rw [fn_eq (np := 1) (nn := 3) (ds := [d]) rfl e]
    exact shutB_bl f h.cells
  | m + 1, k, d, α, S, h, hk, hm => by
    obtain ⟨S', e, f⟩ := body_ok (gs := crM fu m) (k := k) (fun d β X hh => by
      cases k with
      | zero => exact hh.elim
      | succ k => exact crM_ok hf m k d β X hh (by omega) (by omega)) hf (by omega) h
    refine ⟨S', ?_, f⟩
    unfold crM sealedB
    rw [fn_eq (np := 1) (nn := 3) (ds := [d]) rfl e]
    exact shutB_bl f h.cells
theorem marked_ok (hf : 10000 ≤ fu) {k : Nat} {d : D} {α : List Nat} (h : Tr (k + 1) S d α) (hk : k ≤ 40) : ∃ S', cM fu [d] S = some (.bl true, S') ∧ Fra S S' α := crM_ok hf 40 k d α S h hk (by decide)
end
end Sp
namespace Sp
open PySem PySem.Spec PyProof.Rows L2 Lv Com
abbrev Tb := List (Option (List Rg))
def dT (T : Tb) : D := .vl (T.map dORow)
@[simp] theorem nrs_dT {T : Tb} : noRefs (T.map dORow) = true := nrs_map fun _ _ => by simp
@[simp] theorem nr_dT {T : Tb} : noRef (dT T) = true := by simp [dT]
def wL (a b : End) : Bool := match b with
  | none => true
  | some y => match a with
    | none => false
    | some x => decide (y ≤ x)
def wH (a b : End) : Bool := match b with
  | none => true
  | some y => match a with
    | none => false
    | some x => decide (x ≤ y)
def wR (r q : Rg) : Bool := wL r.1 q.1 && wH r.2 q.2
def joinR (r q : Rg) : Rg := (ll r.1 q.1, gh r.2 q.2)
def wRow (rs qs : List Rg) : Bool := (rs.zip qs).all fun p => wR p.1 p.2
def joinRow (rs qs : List Rg) : List Rg := (rs.zip qs).map fun p => joinR p.1 p.2
def wO (a b : Option (List Rg)) : Bool := match a with
  | none => true
  | some rs => match b with
    | none => false
    | some qs => wRow rs qs
def joinO (a b : Option (List Rg)) : Option (List Rg) := match a, b with
  | none, b => b
  | some rs, none => some rs
  | some rs, some qs => some (joinRow rs qs)
section
variable {fu : Nat} {S : Sto}
theorem lies_ok {r q : Rg} : c_lies_within fu [dR r, dR q] S = some (.bl (wR r q), S) := by
  unfold c_lies_within u_lies_within b_lies_within
  rcases r with ⟨a, b⟩
  rcases q with ⟨c, d⟩
  have t0 : setTg (.tp [2, 3]) (dR (c, d)) [some (dR (a, b)), some (dR (c, d)), none, none] = some [some (dR (a, b)), some (dR (c, d)), some (dO c), some (dO d)] := rfl
  have g0 : gIx (dR (a, b)) (.int 0) S = some (dO a, S) := rfl
  have g1 : gIx (dR (a, b)) (.int 1) S = some (dO b, S) := rfl
  rcases c with _ | c <;> rcases a with _ | a <;> rcases d with _ | d <;> rcases b with _ | b
  all_goals first
    | (simp only [r_sCons, r_sIf, r_tAnd, r_tOr, r_tNot, r_truB, r_truF, r_truD_bl, r_eBin, r_eVar, r_eC, r_eCall, r_eCallK, r_aCons, r_aNil, r_eAnd, r_eOr, r_eNotT, r_eIf, r_eNeg, r_eChain, r_sNil, r_sDrop, r_sRet, r_sSet, r_sAsg, r_sPar, r_nm, r_tp, r_sets, r_sets0, List.getElem?_cons_zero, List.getElem?_cons_succ, List.set_cons_zero, List.set_cons_succ, List.length_cons, List.length_nil, List.map_cons, List.map_nil, List.cons_append, List.nil_append, Nat.zero_add, Nat.reduceAdd, Nat.sub_self, Nat.reduceSub, Nat.add_zero, List.reduceReplicate, List.replicate_zero, List.append_nil, if_true, if_false, Bool.false_eq_true, Bool.not_true, Bool.not_false, Bool.true_and, Bool.and_true, Bool.false_and, Bool.and_false, Bool.or_true, Bool.true_or, Bool.false_or, Bool.or_false, reduceIte, r_fnF, r_sealed, r_start, t_tup0, t_tup1, t_tup2, t_tup3, t_tup4, t_lst0, t_lst1, t_lst2, t_lst3, t_lst4, t_lst5, t_lst6, t_lst7, t_lst8, t_lst9, t_lst10, r_mkV, r_mkR, r_isN, r_non0, r_non1, r_non2, r_non3, r_non4, r_non5, r_non6, isi_int, isi_intb, isi_tup, isi_str, isi_vl, isi_ints, isi_tups, r_cmp2i, r_cmp2t, r_cmpI, r_eqv_int, r_eqv_str, r_add, r_sub, r_arith, r_ix_tup, r_ix_vl, r_len_tup, r_len_vl, r_cInt, r_cMin, r_cMax, r_lof_vl, r_lof_tup, r_tof_vl, r_tof_tup, r_truD_vl, r_truD_tup, r_truD_int, r_truD_non, r_oSome, r_oNone, r_eSl, r_sl_vl, r_sl_tup, r_iAny, r_eMethL, r_isRef_vl, ix20, ix21, nr_int, nr_bl, nr_non, nr_str, nr_tup, nr_vl, nrs_nil, nrs_cons, shut_same, pick_nil, pick_cons, decide_true, decide_false, t0, g0, g1, dO, wR, wL, wH]; done)
    | (have hc : decide (a < c) = !decide (c ≤ a) := by
        rw [Bool.eq_iff_iff]; simp
       cases q : decide (c ≤ a) <;> simp only [r_sCons, r_sIf, r_tAnd, r_tOr, r_tNot, r_truB, r_truF, r_truD_bl, r_eBin, r_eVar, r_eC, r_eCall, r_eCallK, r_aCons, r_aNil, r_eAnd, r_eOr, r_eNotT, r_eIf, r_eNeg, r_eChain, r_sNil, r_sDrop, r_sRet, r_sSet, r_sAsg, r_sPar, r_nm, r_tp, r_sets, r_sets0, List.getElem?_cons_zero, List.getElem?_cons_succ, List.set_cons_zero, List.set_cons_succ, List.length_cons, List.length_nil, List.map_cons, List.map_nil, List.cons_append, List.nil_append, Nat.zero_add, Nat.reduceAdd, Nat.sub_self, Nat.reduceSub, Nat.add_zero, List.reduceReplicate, List.replicate_zero, List.append_nil, if_true, if_false, Bool.false_eq_true, Bool.not_true, Bool.not_false, Bool.true_and, Bool.and_true, Bool.false_and, Bool.and_false, Bool.or_true, Bool.true_or, Bool.false_or, Bool.or_false, reduceIte, r_fnF, r_sealed, r_start, t_tup0, t_tup1, t_tup2, t_tup3, t_tup4, t_lst0, t_lst1, t_lst2, t_lst3, t_lst4, t_lst5, t_lst6, t_lst7, t_lst8, t_lst9, t_lst10, r_mkV, r_mkR, r_isN, r_non0, r_non1, r_non2, r_non3, r_non4, r_non5, r_non6, isi_int, isi_intb, isi_tup, isi_str, isi_vl, isi_ints, isi_tups, r_cmp2i, r_cmp2t, r_cmpI, r_eqv_int, r_eqv_str, r_add, r_sub, r_arith, r_ix_tup, r_ix_vl, r_len_tup, r_len_vl, r_cInt, r_cMin, r_cMax, r_lof_vl, r_lof_tup, r_tof_vl, r_tof_tup, r_truD_vl, r_truD_tup, r_truD_int, r_truD_non, r_oSome, r_oNone, r_eSl, r_sl_vl, r_sl_tup, r_iAny, r_eMethL, r_isRef_vl, ix20, ix21, nr_int, nr_bl, nr_non, nr_str, nr_tup, nr_vl, nrs_nil, nrs_cons, shut_same, pick_nil, pick_cons, decide_true, decide_false, t0, g0, g1, dO, wR, wL, wH, hc, q])
theorem zip_rows {rs qs : List Rg} : zipD (rs.map dR) (qs.map dR) = (rs.zip qs).map fun p => .tup [dR p.1, dR p.2] := by
  unfold zipD
  rw [List.zip, List.map_zipWith, List.zipWith_map]
theorem zip_tabs {T U : Tb} : zipD (T.map dORow) (U.map dORow) = (T.zip U).map fun p => .tup [dORow p.1, dORow p.2] := by
  unfold zipD
  rw [List.zip, List.map_zipWith, List.zipWith_map]
theorem zip_len {α β : Type} {a : List α} {b : List β} : (a.zip b).length ≤ a.length := by
  rw [List.length_zip]
  exact Nat.min_le_left _ _
theorem row_within_ok (hf : 10000 ≤ fu) {rs qs : List Rg} (hl : rs.length ≤ 1000) : c_within_row fu [dRow rs, dRow qs] S = some (.bl (wRow rs qs), S) := by
  have hz := zip_len (a := rs) (b := qs)
  have e := comp_all (n := fu) (own := [2, 3]) (it := iZipA2 (aCons (eVar 0) (aCons (eVar 1) aNil))) (t := .tp [2, 3]) (f := eCall (c_lies_within fu) (aCons (eVar 2) (aCons (eVar 3) aNil))) (env := [some (dRow rs), some (dRow qs), none, none]) (S := S) (S1 := S) (xs := rs.zip qs) (enc := fun p => .tup [dR p.1, dR p.2]) (fun p => .bl (wR p.1 p.2)) (by
      unfold iZipA2 iZipF
      simp only [r_sCons, r_sIf, r_tAnd, r_tOr, r_tNot, r_truB, r_truF, r_truD_bl, r_eBin, r_eVar, r_eC, r_eCall, r_eCallK, r_aCons, r_aNil, r_eAnd, r_eOr, r_eNotT, r_eIf, r_eNeg, r_eChain, r_sNil, r_sDrop, r_sRet, r_sSet, r_sAsg, r_sPar, r_nm, r_tp, r_sets, r_sets0, List.getElem?_cons_zero, List.getElem?_cons_succ, List.set_cons_zero, List.set_cons_succ, List.length_cons, List.length_nil, List.map_cons, List.map_nil, List.cons_append, List.nil_append, Nat.zero_add, Nat.reduceAdd, Nat.sub_self, Nat.reduceSub, Nat.add_zero, List.reduceReplicate, List.replicate_zero, List.append_nil, if_true, if_false, Bool.false_eq_true, Bool.not_true, Bool.not_false, Bool.true_and, Bool.and_true, Bool.false_and, Bool.and_false, Bool.or_true, Bool.true_or, Bool.false_or, Bool.or_false, reduceIte, r_fnF, r_sealed, r_start, t_tup0, t_tup1, t_tup2, t_tup3, t_tup4, t_lst0, t_lst1, t_lst2, t_lst3, t_lst4, t_lst5, t_lst6, t_lst7, t_lst8, t_lst9, t_lst10, r_mkV, r_mkR, r_isN, r_non0, r_non1, r_non2, r_non3, r_non4, r_non5, r_non6, isi_int, isi_intb, isi_tup, isi_str, isi_vl, isi_ints, isi_tups, r_cmp2i, r_cmp2t, r_cmpI, r_eqv_int, r_eqv_str, r_add, r_sub, r_arith, r_ix_tup, r_ix_vl, r_len_tup, r_len_vl, r_cInt, r_cMin, r_cMax, r_lof_vl, r_lof_tup, r_tof_vl, r_tof_tup, r_truD_vl, r_truD_tup, r_truD_int, r_truD_non, r_oSome, r_oNone, r_eSl, r_sl_vl, r_sl_tup, r_iAny, r_eMethL, r_isRef_vl, ix20, ix21, nr_int, nr_bl, nr_non, nr_str, nr_tup, nr_vl, nrs_nil, nrs_cons, shut_same, pick_nil, pick_cons, decide_true, decide_false, dRow, r_sq_vl, zip_rows]) (by omega) (by omega) (fun p hp S' => ⟨[some (dRow rs), some (dRow qs), some (dR p.1), some (dR p.2)], rfl, by simp only [r_eCall, r_aCons, r_aNil, r_eVar, List.getElem?_cons_zero, List.getElem?_cons_succ, lies_ok]⟩) (fun c _ => by simp)
  have ea := all_vl (q := fun p : Rg × Rg => wR p.1 p.2) (xs := rs.zip qs) (S := S)
  unfold c_within_row u_within_row b_within_row
  simp only [r_sCons, r_sIf, r_tAnd, r_tOr, r_tNot, r_truB, r_truF, r_truD_bl, r_eBin, r_eVar, r_eC, r_eCall, r_eCallK, r_aCons, r_aNil, r_eAnd, r_eOr, r_eNotT, r_eIf, r_eNeg, r_eChain, r_sNil, r_sDrop, r_sRet, r_sSet, r_sAsg, r_sPar, r_nm, r_tp, r_sets, r_sets0, List.getElem?_cons_zero, List.getElem?_cons_succ, List.set_cons_zero, List.set_cons_succ, List.length_cons, List.length_nil, List.map_cons, List.map_nil, List.cons_append, List.nil_append, Nat.zero_add, Nat.reduceAdd, Nat.sub_self, Nat.reduceSub, Nat.add_zero, List.reduceReplicate, List.replicate_zero, List.append_nil, if_true, if_false, Bool.false_eq_true, Bool.not_true, Bool.not_false, Bool.true_and, Bool.and_true, Bool.false_and, Bool.and_false, Bool.or_true, Bool.true_or, Bool.false_or, Bool.or_false, reduceIte, r_fnF, r_sealed, r_start, t_tup0, t_tup1, t_tup2, t_tup3, t_tup4, t_lst0, t_lst1, t_lst2, t_lst3, t_lst4, t_lst5, t_lst6, t_lst7, t_lst8, t_lst9, t_lst10, r_mkV, r_mkR, r_isN, r_non0, r_non1, r_non2, r_non3, r_non4, r_non5, r_non6, isi_int, isi_intb, isi_tup, isi_str, isi_vl, isi_ints, isi_tups, r_cmp2i, r_cmp2t, r_cmpI, r_eqv_int, r_eqv_str, r_add, r_sub, r_arith, r_ix_tup, r_ix_vl, r_len_tup, r_len_vl, r_cInt, r_cMin, r_cMax, r_lof_vl, r_lof_tup, r_tof_vl, r_tof_tup, r_truD_vl, r_truD_tup, r_truD_int, r_truD_non, r_oSome, r_oNone, r_eSl, r_sl_vl, r_sl_tup, r_iAny, r_eMethL, r_isRef_vl, ix20, ix21, nr_int, nr_bl, nr_non, nr_str, nr_tup, nr_vl, nrs_nil, nrs_cons, shut_same, pick_nil, pick_cons, decide_true, decide_false, e, ea, wRow]
theorem join_ok {r q : Rg} : c_joined fu [dR r, dR q] S = some (dR (joinR r q), S) := by
  unfold c_joined u_joined b_joined
  simp only [r_sCons, r_sIf, r_tAnd, r_tOr, r_tNot, r_truB, r_truF, r_truD_bl, r_eBin, r_eVar, r_eC, r_eCall, r_eCallK, r_aCons, r_aNil, r_eAnd, r_eOr, r_eNotT, r_eIf, r_eNeg, r_eChain, r_sNil, r_sDrop, r_sRet, r_sSet, r_sAsg, r_sPar, r_nm, r_tp, r_sets, r_sets0, List.getElem?_cons_zero, List.getElem?_cons_succ, List.set_cons_zero, List.set_cons_succ, List.length_cons, List.length_nil, List.map_cons, List.map_nil, List.cons_append, List.nil_append, Nat.zero_add, Nat.reduceAdd, Nat.sub_self, Nat.reduceSub, Nat.add_zero, List.reduceReplicate, List.replicate_zero, List.append_nil, if_true, if_false, Bool.false_eq_true, Bool.not_true, Bool.not_false, Bool.true_and, Bool.and_true, Bool.false_and, Bool.and_false, Bool.or_true, Bool.true_or, Bool.false_or, Bool.or_false, reduceIte, r_fnF, r_sealed, r_start, t_tup0, t_tup1, t_tup2, t_tup3, t_tup4, t_lst0, t_lst1, t_lst2, t_lst3, t_lst4, t_lst5, t_lst6, t_lst7, t_lst8, t_lst9, t_lst10, r_mkV, r_mkR, r_isN, r_non0, r_non1, r_non2, r_non3, r_non4, r_non5, r_non6, isi_int, isi_intb, isi_tup, isi_str, isi_vl, isi_ints, isi_tups, r_cmp2i, r_cmp2t, r_cmpI, r_eqv_int, r_eqv_str, r_add, r_sub, r_arith, r_ix_tup, r_ix_vl, r_len_tup, r_len_vl, r_cInt, r_cMin, r_cMax, r_lof_vl, r_lof_tup, r_tof_vl, r_tof_tup, r_truD_vl, r_truD_tup, r_truD_int, r_truD_non, r_oSome, r_oNone, r_eSl, r_sl_vl, r_sl_tup, r_iAny, r_eMethL, r_isRef_vl, ix20, ix21, nr_int, nr_bl, nr_non, nr_str, nr_tup, nr_vl, nrs_nil, nrs_cons, shut_same, pick_nil, pick_cons, decide_true, decide_false, r0, r1, ll_ok, gh_ok, dR, joinR, nr_dO]
theorem row_joined_ok (hf : 10000 ≤ fu) {rs qs : List Rg} (hl : rs.length ≤ 1000) : c_joined_rows fu [dRow rs, dRow qs] S = some (dRow (joinRow rs qs), S) := by
  have hz := zip_len (a := rs) (b := qs)
  have e := comp_all (n := fu) (own := [2, 3]) (it := iZipA2 (aCons (eVar 0) (aCons (eVar 1) aNil))) (t := .tp [2, 3]) (f := eCall (c_joined fu) (aCons (eVar 2) (aCons (eVar 3) aNil))) (env := [some (dRow rs), some (dRow qs), none, none]) (S := S) (S1 := S) (xs := rs.zip qs) (enc := fun p => .tup [dR p.1, dR p.2]) (fun p => dR (joinR p.1 p.2)) (by
      unfold iZipA2 iZipF
      simp only [r_sCons, r_sIf, r_tAnd, r_tOr, r_tNot, r_truB, r_truF, r_truD_bl, r_eBin, r_eVar, r_eC, r_eCall, r_eCallK, r_aCons, r_aNil, r_eAnd, r_eOr, r_eNotT, r_eIf, r_eNeg, r_eChain, r_sNil, r_sDrop, r_sRet, r_sSet, r_sAsg, r_sPar, r_nm, r_tp, r_sets, r_sets0, List.getElem?_cons_zero, List.getElem?_cons_succ, List.set_cons_zero, List.set_cons_succ, List.length_cons, List.length_nil, List.map_cons, List.map_nil, List.cons_append, List.nil_append, Nat.zero_add, Nat.reduceAdd, Nat.sub_self, Nat.reduceSub, Nat.add_zero, List.reduceReplicate, List.replicate_zero, List.append_nil, if_true, if_false, Bool.false_eq_true, Bool.not_true, Bool.not_false, Bool.true_and, Bool.and_true, Bool.false_and, Bool.and_false, Bool.or_true, Bool.true_or, Bool.false_or, Bool.or_false, reduceIte, r_fnF, r_sealed, r_start, t_tup0, t_tup1, t_tup2, t_tup3, t_tup4, t_lst0, t_lst1, t_lst2, t_lst3, t_lst4, t_lst5, t_lst6, t_lst7, t_lst8, t_lst9, t_lst10, r_mkV, r_mkR, r_isN, r_non0, r_non1, r_non2, r_non3, r_non4, r_non5, r_non6, isi_int, isi_intb, isi_tup, isi_str, isi_vl, isi_ints, isi_tups, r_cmp2i, r_cmp2t, r_cmpI, r_eqv_int, r_eqv_str, r_add, r_sub, r_arith, r_ix_tup, r_ix_vl, r_len_tup, r_len_vl, r_cInt, r_cMin, r_cMax, r_lof_vl, r_lof_tup, r_tof_vl, r_tof_tup, r_truD_vl, r_truD_tup, r_truD_int, r_truD_non, r_oSome, r_oNone, r_eSl, r_sl_vl, r_sl_tup, r_iAny, r_eMethL, r_isRef_vl, ix20, ix21, nr_int, nr_bl, nr_non, nr_str, nr_tup, nr_vl, nrs_nil, nrs_cons, shut_same, pick_nil, pick_cons, decide_true, decide_false, dRow, r_sq_vl, zip_rows]) (by omega) (by omega) (fun p hp S' => ⟨[some (dRow rs), some (dRow qs), some (dR p.1), some (dR p.2)], rfl, by simp only [r_eCall, r_aCons, r_aNil, r_eVar, List.getElem?_cons_zero, List.getElem?_cons_succ, join_ok]⟩) (fun c _ => nr_dR)
  have hm : (rs.zip qs).map (fun p => dR (joinR p.1 p.2)) = (joinRow rs qs).map dR := by unfold joinRow; rw [List.map_map]; rfl
  rw [hm] at e
  unfold c_joined_rows u_joined_rows b_joined_rows
  simp only [r_sCons, r_sIf, r_tAnd, r_tOr, r_tNot, r_truB, r_truF, r_truD_bl, r_eBin, r_eVar, r_eC, r_eCall, r_eCallK, r_aCons, r_aNil, r_eAnd, r_eOr, r_eNotT, r_eIf, r_eNeg, r_eChain, r_sNil, r_sDrop, r_sRet, r_sSet, r_sAsg, r_sPar, r_nm, r_tp, r_sets, r_sets0, List.getElem?_cons_zero, List.getElem?_cons_succ, List.set_cons_zero, List.set_cons_succ, List.length_cons, List.length_nil, List.map_cons, List.map_nil, List.cons_append, List.nil_append, Nat.zero_add, Nat.reduceAdd, Nat.sub_self, Nat.reduceSub, Nat.add_zero, List.reduceReplicate, List.replicate_zero, List.append_nil, if_true, if_false, Bool.false_eq_true, Bool.not_true, Bool.not_false, Bool.true_and, Bool.and_true, Bool.false_and, Bool.and_false, Bool.or_true, Bool.true_or, Bool.false_or, Bool.or_false, reduceIte, r_fnF, r_sealed, r_start, t_tup0, t_tup1, t_tup2, t_tup3, t_tup4, t_lst0, t_lst1, t_lst2, t_lst3, t_lst4, t_lst5, t_lst6, t_lst7, t_lst8, t_lst9, t_lst10, r_mkV, r_mkR, r_isN, r_non0, r_non1, r_non2, r_non3, r_non4, r_non5, r_non6, isi_int, isi_intb, isi_tup, isi_str, isi_vl, isi_ints, isi_tups, r_cmp2i, r_cmp2t, r_cmpI, r_eqv_int, r_eqv_str, r_add, r_sub, r_arith, r_ix_tup, r_ix_vl, r_len_tup, r_len_vl, r_cInt, r_cMin, r_cMax, r_lof_vl, r_lof_tup, r_tof_vl, r_tof_tup, r_truD_vl, r_truD_tup, r_truD_int, r_truD_non, r_oSome, r_oNone, r_eSl, r_sl_vl, r_sl_tup, r_iAny, r_eMethL, r_isRef_vl, ix20, ix21, nr_int, nr_bl, nr_non, nr_str, nr_tup, nr_vl, nrs_nil, nrs_cons, shut_same, pick_nil, pick_cons, decide_true, decide_false, e]
  simp only [r_sCons, r_sIf, r_tAnd, r_tOr, r_tNot, r_truB, r_truF, r_truD_bl, r_eBin, r_eVar, r_eC, r_eCall, r_eCallK, r_aCons, r_aNil, r_eAnd, r_eOr, r_eNotT, r_eIf, r_eNeg, r_eChain, r_sNil, r_sDrop, r_sRet, r_sSet, r_sAsg, r_sPar, r_nm, r_tp, r_sets, r_sets0, List.getElem?_cons_zero, List.getElem?_cons_succ, List.set_cons_zero, List.set_cons_succ, List.length_cons, List.length_nil, List.map_cons, List.map_nil, List.cons_append, List.nil_append, Nat.zero_add, Nat.reduceAdd, Nat.sub_self, Nat.reduceSub, Nat.add_zero, List.reduceReplicate, List.replicate_zero, List.append_nil, if_true, if_false, Bool.false_eq_true, Bool.not_true, Bool.not_false, Bool.true_and, Bool.and_true, Bool.false_and, Bool.and_false, Bool.or_true, Bool.true_or, Bool.false_or, Bool.or_false, reduceIte, r_fnF, r_sealed, r_start, t_tup0, t_tup1, t_tup2, t_tup3, t_tup4, t_lst0, t_lst1, t_lst2, t_lst3, t_lst4, t_lst5, t_lst6, t_lst7, t_lst8, t_lst9, t_lst10, r_mkV, r_mkR, r_isN, r_non0, r_non1, r_non2, r_non3, r_non4, r_non5, r_non6, isi_int, isi_intb, isi_tup, isi_str, isi_vl, isi_ints, isi_tups, r_cmp2i, r_cmp2t, r_cmpI, r_eqv_int, r_eqv_str, r_add, r_sub, r_arith, r_ix_tup, r_ix_vl, r_len_tup, r_len_vl, r_cInt, r_cMin, r_cMax, r_lof_vl, r_lof_tup, r_tof_vl, r_tof_tup, r_truD_vl, r_truD_tup, r_truD_int, r_truD_non, r_oSome, r_oNone, r_eSl, r_sl_vl, r_sl_tup, r_iAny, r_eMethL, r_isRef_vl, ix20, ix21, nr_int, nr_bl, nr_non, nr_str, nr_tup, nr_vl, nrs_nil, nrs_cons, shut_same, pick_nil, pick_cons, decide_true, decide_false, nrs_rows]
  rfl
theorem within_at_ok (hf : 10000 ≤ fu) {a b : Option (List Rg)} (hl : ∀ rs, a = some rs → rs.length ≤ 1000) : c_within_at_place fu [dORow a, dORow b] S = some (.bl (wO a b), S) := by
  unfold c_within_at_place u_within_at_place b_within_at_place
  cases a with
  | none =>
    have n : isNon (dORow none) = true := rfl
    simp only [r_sCons, r_sIf, r_tAnd, r_tOr, r_tNot, r_truB, r_truF, r_truD_bl, r_eBin, r_eVar, r_eC, r_eCall, r_eCallK, r_aCons, r_aNil, r_eAnd, r_eOr, r_eNotT, r_eIf, r_eNeg, r_eChain, r_sNil, r_sDrop, r_sRet, r_sSet, r_sAsg, r_sPar, r_nm, r_tp, r_sets, r_sets0, List.getElem?_cons_zero, List.getElem?_cons_succ, List.set_cons_zero, List.set_cons_succ, List.length_cons, List.length_nil, List.map_cons, List.map_nil, List.cons_append, List.nil_append, Nat.zero_add, Nat.reduceAdd, Nat.sub_self, Nat.reduceSub, Nat.add_zero, List.reduceReplicate, List.replicate_zero, List.append_nil, if_true, if_false, Bool.false_eq_true, Bool.not_true, Bool.not_false, Bool.true_and, Bool.and_true, Bool.false_and, Bool.and_false, Bool.or_true, Bool.true_or, Bool.false_or, Bool.or_false, reduceIte, r_fnF, r_sealed, r_start, t_tup0, t_tup1, t_tup2, t_tup3, t_tup4, t_lst0, t_lst1, t_lst2, t_lst3, t_lst4, t_lst5, t_lst6, t_lst7, t_lst8, t_lst9, t_lst10, r_mkV, r_mkR, r_isN, r_non0, r_non1, r_non2, r_non3, r_non4, r_non5, r_non6, isi_int, isi_intb, isi_tup, isi_str, isi_vl, isi_ints, isi_tups, r_cmp2i, r_cmp2t, r_cmpI, r_eqv_int, r_eqv_str, r_add, r_sub, r_arith, r_ix_tup, r_ix_vl, r_len_tup, r_len_vl, r_cInt, r_cMin, r_cMax, r_lof_vl, r_lof_tup, r_tof_vl, r_tof_tup, r_truD_vl, r_truD_tup, r_truD_int, r_truD_non, r_oSome, r_oNone, r_eSl, r_sl_vl, r_sl_tup, r_iAny, r_eMethL, r_isRef_vl, ix20, ix21, nr_int, nr_bl, nr_non, nr_str, nr_tup, nr_vl, nrs_nil, nrs_cons, shut_same, pick_nil, pick_cons, decide_true, decide_false, n, wO]
  | some rs =>
    have n : isNon (dORow (some rs)) = false := rfl
    cases b with
    | none =>
      have n2 : isNon (dORow none) = true := rfl
      simp only [r_sCons, r_sIf, r_tAnd, r_tOr, r_tNot, r_truB, r_truF, r_truD_bl, r_eBin, r_eVar, r_eC, r_eCall, r_eCallK, r_aCons, r_aNil, r_eAnd, r_eOr, r_eNotT, r_eIf, r_eNeg, r_eChain, r_sNil, r_sDrop, r_sRet, r_sSet, r_sAsg, r_sPar, r_nm, r_tp, r_sets, r_sets0, List.getElem?_cons_zero, List.getElem?_cons_succ, List.set_cons_zero, List.set_cons_succ, List.length_cons, List.length_nil, List.map_cons, List.map_nil, List.cons_append, List.nil_append, Nat.zero_add, Nat.reduceAdd, Nat.sub_self, Nat.reduceSub, Nat.add_zero, List.reduceReplicate, List.replicate_zero, List.append_nil, if_true, if_false, Bool.false_eq_true, Bool.not_true, Bool.not_false, Bool.true_and, Bool.and_true, Bool.false_and, Bool.and_false, Bool.or_true, Bool.true_or, Bool.false_or, Bool.or_false, reduceIte, r_fnF, r_sealed, r_start, t_tup0, t_tup1, t_tup2, t_tup3, t_tup4, t_lst0, t_lst1, t_lst2, t_lst3, t_lst4, t_lst5, t_lst6, t_lst7, t_lst8, t_lst9, t_lst10, r_mkV, r_mkR, r_isN, r_non0, r_non1, r_non2, r_non3, r_non4, r_non5, r_non6, isi_int, isi_intb, isi_tup, isi_str, isi_vl, isi_ints, isi_tups, r_cmp2i, r_cmp2t, r_cmpI, r_eqv_int, r_eqv_str, r_add, r_sub, r_arith, r_ix_tup, r_ix_vl, r_len_tup, r_len_vl, r_cInt, r_cMin, r_cMax, r_lof_vl, r_lof_tup, r_tof_vl, r_tof_tup, r_truD_vl, r_truD_tup, r_truD_int, r_truD_non, r_oSome, r_oNone, r_eSl, r_sl_vl, r_sl_tup, r_iAny, r_eMethL, r_isRef_vl, ix20, ix21, nr_int, nr_bl, nr_non, nr_str, nr_tup, nr_vl, nrs_nil, nrs_cons, shut_same, pick_nil, pick_cons, decide_true, decide_false, n, n2, wO]
    | some qs =>
      have c : c_within_row fu [dORow (some rs), dORow (some qs)] S = some (.bl (wRow rs qs), S) := row_within_ok hf (hl rs rfl)
      have n2 : isNon (dORow (some qs)) = false := rfl
      simp only [r_sCons, r_sIf, r_tAnd, r_tOr, r_tNot, r_truB, r_truF, r_truD_bl, r_eBin, r_eVar, r_eC, r_eCall, r_eCallK, r_aCons, r_aNil, r_eAnd, r_eOr, r_eNotT, r_eIf, r_eNeg, r_eChain, r_sNil, r_sDrop, r_sRet, r_sSet, r_sAsg, r_sPar, r_nm, r_tp, r_sets, r_sets0, List.getElem?_cons_zero, List.getElem?_cons_succ, List.set_cons_zero, List.set_cons_succ, List.length_cons, List.length_nil, List.map_cons, List.map_nil, List.cons_append, List.nil_append, Nat.zero_add, Nat.reduceAdd, Nat.sub_self, Nat.reduceSub, Nat.add_zero, List.reduceReplicate, List.replicate_zero, List.append_nil, if_true, if_false, Bool.false_eq_true, Bool.not_true, Bool.not_false, Bool.true_and, Bool.and_true, Bool.false_and, Bool.and_false, Bool.or_true, Bool.true_or, Bool.false_or, Bool.or_false, reduceIte, r_fnF, r_sealed, r_start, t_tup0, t_tup1, t_tup2, t_tup3, t_tup4, t_lst0, t_lst1, t_lst2, t_lst3, t_lst4, t_lst5, t_lst6, t_lst7, t_lst8, t_lst9, t_lst10, r_mkV, r_mkR, r_isN, r_non0, r_non1, r_non2, r_non3, r_non4, r_non5, r_non6, isi_int, isi_intb, isi_tup, isi_str, isi_vl, isi_ints, isi_tups, r_cmp2i, r_cmp2t, r_cmpI, r_eqv_int, r_eqv_str, r_add, r_sub, r_arith, r_ix_tup, r_ix_vl, r_len_tup, r_len_vl, r_cInt, r_cMin, r_cMax, r_lof_vl, r_lof_tup, r_tof_vl, r_tof_tup, r_truD_vl, r_truD_tup, r_truD_int, r_truD_non, r_oSome, r_oNone, r_eSl, r_sl_vl, r_sl_tup, r_iAny, r_eMethL, r_isRef_vl, ix20, ix21, nr_int, nr_bl, nr_non, nr_str, nr_tup, nr_vl, nrs_nil, nrs_cons, shut_same, pick_nil, pick_cons, decide_true, decide_false, n, n2, c, wO]
end
end Sp
namespace Sp
open PySem PySem.Spec PyProof.Rows L2 Lv Com
def okTR (n : Nat) : Option (List Rg) → Bool
  | none => true
  | some rs => decide (rs.length = n) && rs.all okR
def okT (p : Prg) (T : Tb) : Bool := decide ((T.length : Int) = p.many) && T.all (okTR p.names.length)
section
variable {fu : Nat} {S : Sto} {p : Prg} {T : Tb}
theorem okT_len (h : okT p T = true) : (T.length : Int) = p.many := by
  unfold okT at h
  rw [Bool.and_eq_true] at h
  exact of_decide_eq_true h.1
theorem okT_row (h : okT p T = true) {rs : List Rg} (hm : some rs ∈ T) : rs.length = p.names.length ∧ ∀ r ∈ rs, okR r = true := by
  unfold okT at h
  rw [Bool.and_eq_true] at h
  have := List.all_eq_true.mp h.2 _ hm
  unfold okTR at this
  rw [Bool.and_eq_true] at this
  exact ⟨of_decide_eq_true this.1, fun r hr => List.all_eq_true.mp this.2 r hr⟩
theorem table_ok (hf : 10000 ≤ fu) (hl : T.length ≤ 1000) (hr : ∀ rs, some rs ∈ T → rs.length ≤ 1000) : c_a_table fu [dP p, dT T] S = some (.bl (okT p T), S) := by
  have t1 : cIsi [dT T, .ty "list"] S = some (.bl true, S) := rfl
  have t2 : cLen [dT T] S = some (.int T.length, S) := by rw [show dT T = .vl (T.map dORow) from rfl, r_len_vl, List.length_map]
  have t3 : gIx (dP p) (.int 1) S = some (.int p.many, S) := rfl
  have e := comp_all (n := fu) (own := [2]) (it := iAny (eVar 1)) (t := .nm 2) (f := eOr (eBin (gIsN false) (eVar 2) (eC .non)) (eCall (c_a_row fu) (aCons (eVar 0) (aCons (eVar 2) aNil)))) (env := [some (dP p), some (dT T), none]) (S := S) (S1 := S) (xs := T) (enc := dORow) (fun o => .bl (okTR p.names.length o)) rfl (by omega) (by omega) (fun o ho S' => ⟨[some (dP p), some (dT T), some (dORow o)], rfl, by
    cases o with
    | none => rfl
    | some rs =>
      have n : isNon (dORow (some rs)) = false := rfl
      have c : c_a_row fu [dP p, dORow (some rs)] S' = some (.bl (decide (rs.length = p.names.length) && rs.all okR), S') := row_ok hf (hr rs ho)
      simp only [r_sCons, r_sIf, r_tAnd, r_tOr, r_tNot, r_truB, r_truF, r_truD_bl, r_eBin, r_eVar, r_eC, r_eCall, r_eCallK, r_aCons, r_aNil, r_eAnd, r_eOr, r_eNotT, r_eIf, r_eNeg, r_eChain, r_sNil, r_sDrop, r_sRet, r_sSet, r_sAsg, r_sPar, r_nm, r_tp, r_sets, r_sets0, List.getElem?_cons_zero, List.getElem?_cons_succ, List.set_cons_zero, List.set_cons_succ, List.length_cons, List.length_nil, List.map_cons, List.map_nil, List.cons_append, List.nil_append, Nat.zero_add, Nat.reduceAdd, Nat.sub_self, Nat.reduceSub, Nat.add_zero, List.reduceReplicate, List.replicate_zero, List.append_nil, if_true, if_false, Bool.false_eq_true, Bool.not_true, Bool.not_false, Bool.true_and, Bool.and_true, Bool.false_and, Bool.and_false, Bool.or_true, Bool.true_or, Bool.false_or, Bool.or_false, reduceIte, r_fnF, r_sealed, r_start, t_tup0, t_tup1, t_tup2, t_tup3, t_tup4, t_lst0, t_lst1, t_lst2, t_lst3, t_lst4, t_lst5, t_lst6, t_lst7, t_lst8, t_lst9, t_lst10, r_mkV, r_mkR, r_isN, r_non0, r_non1, r_non2, r_non3, r_non4, r_non5, r_non6, isi_int, isi_intb, isi_tup, isi_str, isi_vl, isi_ints, isi_tups, r_cmp2i, r_cmp2t, r_cmpI, r_eqv_int, r_eqv_str, r_add, r_sub, r_arith, r_ix_tup, r_ix_vl, r_len_tup, r_len_vl, r_cInt, r_cMin, r_cMax, r_lof_vl, r_lof_tup, r_tof_vl, r_tof_tup, r_truD_vl, r_truD_tup, r_truD_int, r_truD_non, r_oSome, r_oNone, r_eSl, r_sl_vl, r_sl_tup, r_iAny, r_eMethL, r_isRef_vl, ix20, ix21, nr_int, nr_bl, nr_non, nr_str, nr_tup, nr_vl, nrs_nil, nrs_cons, shut_same, pick_nil, pick_cons, decide_true, decide_false, n, c, okTR]⟩) (fun c _ => by simp)
  have ea := all_vl (q := okTR p.names.length) (xs := T) (S := S)
  have hq : ((T.length : Int) == p.many) = decide ((T.length : Int) = p.many) := by rw [Bool.eq_iff_iff]; simp
  unfold c_a_table u_a_table b_a_table
  cases q : decide ((T.length : Int) = p.many) <;> simp only [r_sCons, r_sIf, r_tAnd, r_tOr, r_tNot, r_truB, r_truF, r_truD_bl, r_eBin, r_eVar, r_eC, r_eCall, r_eCallK, r_aCons, r_aNil, r_eAnd, r_eOr, r_eNotT, r_eIf, r_eNeg, r_eChain, r_sNil, r_sDrop, r_sRet, r_sSet, r_sAsg, r_sPar, r_nm, r_tp, r_sets, r_sets0, List.getElem?_cons_zero, List.getElem?_cons_succ, List.set_cons_zero, List.set_cons_succ, List.length_cons, List.length_nil, List.map_cons, List.map_nil, List.cons_append, List.nil_append, Nat.zero_add, Nat.reduceAdd, Nat.sub_self, Nat.reduceSub, Nat.add_zero, List.reduceReplicate, List.replicate_zero, List.append_nil, if_true, if_false, Bool.false_eq_true, Bool.not_true, Bool.not_false, Bool.true_and, Bool.and_true, Bool.false_and, Bool.and_false, Bool.or_true, Bool.true_or, Bool.false_or, Bool.or_false, reduceIte, r_fnF, r_sealed, r_start, t_tup0, t_tup1, t_tup2, t_tup3, t_tup4, t_lst0, t_lst1, t_lst2, t_lst3, t_lst4, t_lst5, t_lst6, t_lst7, t_lst8, t_lst9, t_lst10, r_mkV, r_mkR, r_isN, r_non0, r_non1, r_non2, r_non3, r_non4, r_non5, r_non6, isi_int, isi_intb, isi_tup, isi_str, isi_vl, isi_ints, isi_tups, r_cmp2i, r_cmp2t, r_cmpI, r_eqv_int, r_eqv_str, r_add, r_sub, r_arith, r_ix_tup, r_ix_vl, r_len_tup, r_len_vl, r_cInt, r_cMin, r_cMax, r_lof_vl, r_lof_tup, r_tof_vl, r_tof_tup, r_truD_vl, r_truD_tup, r_truD_int, r_truD_non, r_oSome, r_oNone, r_eSl, r_sl_vl, r_sl_tup, r_iAny, r_eMethL, r_isRef_vl, ix20, ix21, nr_int, nr_bl, nr_non, nr_str, nr_tup, nr_vl, nrs_nil, nrs_cons, shut_same, pick_nil, pick_cons, decide_true, decide_false, t1, t2, t3, hq, q, e, ea, okT]
theorem need_table_ok (hf : 10000 ≤ fu) (hl : T.length ≤ 1000) (hn : p.names.length ≤ 1000) (h : okT p T = true) : c_need_table fu [dP p, dT T] S = some (.non, S) := by
  have e := table_ok (S := S) (p := p) hf hl (fun rs hm => by rw [(okT_row h hm).1]; exact hn)
  rw [h] at e
  unfold c_need_table u_need_table b_need_table
  simp only [r_sCons, r_sIf, r_tAnd, r_tOr, r_tNot, r_truB, r_truF, r_truD_bl, r_eBin, r_eVar, r_eC, r_eCall, r_eCallK, r_aCons, r_aNil, r_eAnd, r_eOr, r_eNotT, r_eIf, r_eNeg, r_eChain, r_sNil, r_sDrop, r_sRet, r_sSet, r_sAsg, r_sPar, r_nm, r_tp, r_sets, r_sets0, List.getElem?_cons_zero, List.getElem?_cons_succ, List.set_cons_zero, List.set_cons_succ, List.length_cons, List.length_nil, List.map_cons, List.map_nil, List.cons_append, List.nil_append, Nat.zero_add, Nat.reduceAdd, Nat.sub_self, Nat.reduceSub, Nat.add_zero, List.reduceReplicate, List.replicate_zero, List.append_nil, if_true, if_false, Bool.false_eq_true, Bool.not_true, Bool.not_false, Bool.true_and, Bool.and_true, Bool.false_and, Bool.and_false, Bool.or_true, Bool.true_or, Bool.false_or, Bool.or_false, reduceIte, r_fnF, r_sealed, r_start, t_tup0, t_tup1, t_tup2, t_tup3, t_tup4, t_lst0, t_lst1, t_lst2, t_lst3, t_lst4, t_lst5, t_lst6, t_lst7, t_lst8, t_lst9, t_lst10, r_mkV, r_mkR, r_isN, r_non0, r_non1, r_non2, r_non3, r_non4, r_non5, r_non6, isi_int, isi_intb, isi_tup, isi_str, isi_vl, isi_ints, isi_tups, r_cmp2i, r_cmp2t, r_cmpI, r_eqv_int, r_eqv_str, r_add, r_sub, r_arith, r_ix_tup, r_ix_vl, r_len_tup, r_len_vl, r_cInt, r_cMin, r_cMax, r_lof_vl, r_lof_tup, r_tof_vl, r_tof_tup, r_truD_vl, r_truD_tup, r_truD_int, r_truD_non, r_oSome, r_oNone, r_eSl, r_sl_vl, r_sl_tup, r_iAny, r_eMethL, r_isRef_vl, ix20, ix21, nr_int, nr_bl, nr_non, nr_str, nr_tup, nr_vl, nrs_nil, nrs_cons, shut_same, pick_nil, pick_cons, decide_true, decide_false, e]
theorem ix_tab {i : Int} (h0 : 0 ≤ i) (h1 : i < T.length) : gIx (dT T) (.int i) S = some (dORow (T.getD i.toNat none), S) := by
  obtain ⟨j, rfl⟩ : ∃ j : Nat, (j : Int) = i := ⟨i.toNat, by omega⟩
  have hj : j < T.length := by omega
  have e : atI (T.map dORow) (j : Int) = some (dORow (T.getD j none)) := atI_nat (by
    rw [List.getElem?_map, List.getD_eq_getElem?_getD, List.getElem?_eq_getElem hj]; rfl)
  rw [Int.toNat_natCast]
  unfold dT
  rw [r_ix_vl, e]
end
end Sp
namespace Sp
open PySem PySem.Spec PyProof.Rows L2 Lv Com
section
variable {fu : Nat} {S : Sto} {p : Prg} {T : Tb}
end
end Sp
namespace Sp
open PySem PySem.Spec PyProof.Rows L2 Lv Com
structure OkPT2 (p : Prg) (T : Tb) : Prop where
  s : SmP p
  ok : okP p = true
  t : okT p T = true
  m : p.many ≤ 1000
section
variable {fu : Nat} {S : Sto} {p : Prg} {T : Tb}
theorem npt (hf : 10000 ≤ fu) (h : OkPT2 p T) : c_need_program fu [dP p] S = some (.non, S) ∧ c_need_table fu [dP p, dT T] S = some (.non, S) :=
  ⟨need_program_ok hf h.s h.ok, need_table_ok hf (by have := okT_len h.t; have := h.m; omega) h.s.n h.t⟩
end
end Sp
namespace Sp
open PySem PySem.Spec PyProof.Rows L2 Lv Com
theorem f59_60 : F59 < F60 := by decide +kernel
theorem m_f59 : M < F59 := by decide +kernel
section
variable {zs : List Str} {rs : List Rg}
end
theorem w_pr {r q : Rg} (hr : BdR M r) (hq : BdR M q) : wR r q = (decide ((pr q).1 ≤ (pr r).1) && decide ((pr r).2 ≤ (pr q).2)) := by
  have h1 := m_f59
  have h2 := f59_60
  rcases r with ⟨a, b⟩
  rcases q with ⟨c, d⟩
  have ha : ∀ i, a = some i → -M ≤ i ∧ i ≤ M := hr.1
  have hb : ∀ i, b = some i → -M ≤ i ∧ i ≤ M := hr.2
  have hc : ∀ i, c = some i → -M ≤ i ∧ i ≤ M := hq.1
  have hd : ∀ i, d = some i → -M ≤ i ∧ i ≤ M := hq.2
  have el : wL a c = decide (c.getD (-F60) ≤ a.getD (-F60)) := by
    rcases a with _ | a <;> rcases c with _ | c
    · rfl
    · have := hc c rfl
      exact (decide_eq_false (by show ¬ c ≤ -F60; omega)).symm
    · have := ha a rfl
      exact (decide_eq_true (by show -F60 ≤ a; omega)).symm
    · rfl
  have eh : wH b d = decide (b.getD F60 ≤ d.getD F60) := by
    rcases b with _ | b <;> rcases d with _ | d
    · rfl
    · have := hd d rfl
      exact (decide_eq_false (by show ¬ F60 ≤ d; omega)).symm
    · have := hb b rfl
      exact (decide_eq_true (by show b ≤ F60; omega)).symm
    · rfl
  show (wL a c && wH b d) = _
  rw [el, eh]
  rfl
theorem join_pr {r q : Rg} (hr : BdR M r) (hq : BdR M q) : pr (joinR r q) = (mn (pr r).1 (pr q).1, mx (pr r).2 (pr q).2) := by
  have h1 := m_f59
  have h2 := f59_60
  rcases r with ⟨a, b⟩
  rcases q with ⟨c, d⟩
  have ha : ∀ i, a = some i → -M ≤ i ∧ i ≤ M := hr.1
  have hb : ∀ i, b = some i → -M ≤ i ∧ i ≤ M := hr.2
  have hc : ∀ i, c = some i → -M ≤ i ∧ i ≤ M := hq.1
  have hd : ∀ i, d = some i → -M ≤ i ∧ i ≤ M := hq.2
  have el : (ll a c).getD (-F60) = mn (a.getD (-F60)) (c.getD (-F60)) := by
    rcases a with _ | a <;> rcases c with _ | c
    · rfl
    · have := hc c rfl
      show -F60 = mn (-F60) c
      unfold mn; split <;> omega
    · have := ha a rfl
      show -F60 = mn a (-F60)
      unfold mn; split <;> omega
    · rfl
  have eh : (gh b d).getD F60 = mx (b.getD F60) (d.getD F60) := by
    rcases b with _ | b <;> rcases d with _ | d
    · rfl
    · have := hd d rfl
      show F60 = mx F60 d
      unfold mx; split <;> omega
    · have := hb b rfl
      show F60 = mx b F60
      unfold mx; split <;> omega
    · rfl
  show ((ll a c).getD (-F60), (gh b d).getD F60) = _
  rw [el, eh]
  rfl
theorem mem_zip {α β : Type} {a : List α} {b : List β} {p : α × β} (h : p ∈ a.zip b) : p.1 ∈ a ∧ p.2 ∈ b := List.of_mem_zip h
end Sp
namespace Sp
open PySem PySem.Spec PyProof.Rows L2 Lv Com
section
variable {fu : Nat} {S : Sto}
theorem eq_nil_ns {ns : List Int} {neg : Bool} : gEqv neg (dNs ns) (.vl []) S = some (.bl (if neg then !ns.isEmpty else ns.isEmpty), S) := by
  rw [eqv_d (by rintro a b ⟨h, _⟩; cases h)]
  unfold gEqd
  have h2 : SeqAt.shaped (pNs ns) = true := shaped_of (k := 1) (lay_pNs ns) (dep_pNs ns) (by decide)
  have h3 : SeqAt.shaped (.list []) = true := by decide +kernel
  rw [show toP 60 S (dNs ns) = some (pNs ns) from toP_dNs (n := 58), show toP 60 S (.vl []) = some (.list []) from rfl]
  dsimp only
  rw [h2, h3]
  have h4 : (pNs ns).eqv (.list []) = ns.isEmpty := by cases ns <;> rfl
  rw [h4]
  rfl
end
end Sp
namespace Sp
open PySem PySem.Spec PyProof.Rows L2 Lv Com
abbrev Tp := List (Option (List Pr))
def dTP (U : Tp) : D := .vl (U.map dOP)
@[simp] theorem nr_dTP {U : Tp} : noRef (dTP U) = true := by unfold dTP; rw [nr_vl]; exact nrs_map fun _ _ => nr_dOP
section
variable {fu : Nat} {S : Sto}
end
end Sp
namespace Sp
open PySem PySem.Spec PyProof.Rows L2 Lv Com
section
variable {fu : Nat} {S : Sto} {p : Prg} {U : Tp}
end
end Sp
namespace Sp
open PySem PySem.Spec PyProof.Rows L2 Lv Com
section
variable {p : Prg} {T : Tb} {m : Int}
theorem join_bd {k : Int} {r q : Rg} (h : BdR k r) (h' : BdR k q) : BdR k (joinR r q) := ⟨bd_ll h.1 h'.1, bd_gh h.2 h'.2⟩
end
end Sp
namespace Sp
open PySem PySem.Spec PyProof.Rows L2 Lv
theorem mapO_imp {α β : Type} {f g : α → Option β} : ∀ {xs : List α} {ys : List β}, mapO f xs = some ys → (∀ x ∈ xs, ∀ y, f x = some y → g x = some y) → mapO g xs = some ys
  | [], ys, h, _ => by cases h; rfl
  | x :: xs, zs, h, i => by
    obtain ⟨y, ys, h1, h2, rfl⟩ := mapO_cons h
    unfold mapO
    rw [i x List.mem_cons_self y h1]
    dsimp only
    rw [mapO_imp h2 fun z hz => i z (List.mem_cons_of_mem _ hz)]
theorem toP_grow {S S' : Sto} (hs : ∀ (i : Nat) (c : Cell), S[i]? = some c → S'[i]? = some c) : ∀ {n m : Nat} {d : D} {p : PyData}, toP n S d = some p → n ≤ m → toP m S' d = some p
  | 0, m, d, p, h, _ => by cases h
  | n + 1, 0, d, p, h, hm => by omega
  | n + 1, m + 1, d, p, h, hm => by
    have ih : ∀ {ds : List D} {ps : List PyData}, mapO (toP n S) ds = some ps → mapO (toP m S') ds = some ps := fun h => mapO_imp h fun x _ y hy => toP_grow hs hy (by omega)
    cases d with
    | ty s => cases h
    | kl ds => cases h
    | vl ds =>
      unfold toP at h ⊢
      split at h
      · rename_i ps hp
        cases h
        rw [ih hp]
      · cases h
    | non => exact h
    | bl b => exact h
    | int i => exact h
    | str x => exact h
    | tup ds =>
      unfold toP at h ⊢
      split at h
      · rename_i ps hp
        cases h
        rw [ih hp]
      · cases h
    | ref k =>
      unfold toP at h ⊢
      split at h
      · cases h
      · rename_i c hc
        rw [hs k c hc]
        dsimp only
        split at h
        · rename_i ps hp
          cases h
          rw [ih hp]
        · cases h
theorem app_keep {S T : Sto} : ∀ (i : Nat) (c : Cell), S[i]? = some c → (S ++ T)[i]? = some c := fun i c h => by rw [List.getElem?_append_left (List.getElem?_eq_some_iff.mp h).1]; exact h
theorem Tr.up {S : Sto} : ∀ {k m : Nat} {d : D} {α : List Nat}, Tr k S d α → k ≤ m → Tr m S d α
  | 0, m, d, α, h, _ => h.elim
  | k + 1, 0, d, α, h, hm => by omega
  | k + 1, m + 1, d, α, h, hm => by
    unfold Tr at h ⊢
    cases d with
    | ref n =>
      obtain ⟨ds, β, h1, h2, h3, h4⟩ := h
      exact ⟨ds, β, h1, h2.imp (fun e _ γ _ he => he.up (by omega)), h3, h4⟩
    | tup ds => exact ⟨h.1.imp fun e _ γ _ he => he.up (by omega), h.2⟩
    | _ => exact h
theorem Tr.grow {S T : Sto} {k : Nat} {d : D} {α : List Nat} (h : Tr k S d α) : Tr k (S ++ T) d α := h.out fun i hi => List.getElem?_append_left (h.lt i hi)
def Told (k n0 : Nat) (S : Sto) (d : D) (p : PyData) : Prop := ∃ α, Tr k S d α ∧ toP k S d = some p ∧ ∀ i ∈ α, n0 ≤ i
def Tolds (k n0 : Nat) (S : Sto) (ds : List D) (ps : List PyData) : Prop := ∃ α, LL (Tr k S) ds α ∧ mapO (toP k S) ds = some ps ∧ ∀ i ∈ α, n0 ≤ i
theorem Told.up {k m n0 : Nat} {S : Sto} {d : D} {p : PyData} (h : Told k n0 S d p) (hk : k ≤ m) : Told m n0 S d p := by
  obtain ⟨α, h1, h2, h3⟩ := h
  exact ⟨α, h1.up hk, toP_grow (fun _ _ e => e) h2 hk, h3⟩
theorem Told.low {k n0 n1 : Nat} {S : Sto} {d : D} {p : PyData} (h : Told k n0 S d p) (hn : n1 ≤ n0) : Told k n1 S d p := by
  obtain ⟨α, h1, h2, h3⟩ := h
  exact ⟨α, h1, h2, fun i hi => Nat.le_trans hn (h3 i hi)⟩
theorem Told.grow {k n0 : Nat} {S T : Sto} {d : D} {p : PyData} (h : Told k n0 S d p) : Told k n0 (S ++ T) d p := by
  obtain ⟨α, h1, h2, h3⟩ := h
  exact ⟨α, h1.grow, toP_grow app_keep h2 (Nat.le_refl _), h3⟩
theorem Tolds.low {k n0 n1 : Nat} {S : Sto} {ds : List D} {ps : List PyData} (h : Tolds k n0 S ds ps) (hn : n1 ≤ n0) : Tolds k n1 S ds ps := by
  obtain ⟨α, h1, h2, h3⟩ := h
  exact ⟨α, h1, h2, fun i hi => Nat.le_trans hn (h3 i hi)⟩
theorem LL.grow {S T : Sto} {k : Nat} {ds : List D} {α : List Nat} (h : LL (Tr k S) ds α) : LL (Tr k (S ++ T)) ds α := h.imp fun _ _ _ _ he => he.grow
theorem Tolds.grow {k n0 : Nat} {S T : Sto} {ds : List D} {ps : List PyData} (h : Tolds k n0 S ds ps) : Tolds k n0 (S ++ T) ds ps := by
  obtain ⟨α, h1, h2, h3⟩ := h
  exact ⟨α, h1.grow, mapO_imp h2 fun _ _ _ hy => toP_grow app_keep hy (Nat.le_refl _), h3⟩
theorem Tolds.up {k m n0 : Nat} {S : Sto} {ds : List D} {ps : List PyData} (h : Tolds k n0 S ds ps) (hk : k ≤ m) : Tolds m n0 S ds ps := by
  obtain ⟨α, h1, h2, h3⟩ := h
  exact ⟨α, h1.imp fun _ _ _ _ he => he.up hk, mapO_imp h2 fun _ _ _ hy => toP_grow (fun _ _ e => e) hy hk, h3⟩
theorem LL.lt {S : Sto} {k : Nat} {ds : List D} {α : List Nat} (h : LL (Tr k S) ds α) : ∀ i ∈ α, i < S.length := fun i hi => by
  obtain ⟨d, _, β, h1, h2⟩ := h.inv i hi
  exact h1.lt i h2
theorem Tolds.nil {k n0 : Nat} {S : Sto} : Tolds k n0 S [] [] := ⟨[], rfl, rfl, fun i hi => by cases hi⟩
theorem Tolds.cons {k n0 : Nat} {S T : Sto} {d : D} {p : PyData} {ds : List D} {ps : List PyData} (h : Told k n0 S d p) (hs : Tolds k S.length (S ++ T) ds ps) (hn : n0 ≤ S.length) : Tolds k n0 (S ++ T) (d :: ds) (p :: ps) := by
  obtain ⟨α, h1, h2, h3⟩ := h
  obtain ⟨β, k1, k2, k3⟩ := hs
  refine ⟨α ++ β, ⟨α, β, h1.grow, k1, rfl, fun i hi hb => ?_⟩, ?_, fun i hi => ?_⟩
  · have := h1.lt i hi
    have := k3 i hb
    omega
  · unfold mapO
    rw [toP_grow app_keep h2 (Nat.le_refl _)]
    dsimp only
    rw [k2]
  · rcases List.mem_append.mp hi with hi | hi
    · exact h3 i hi
    · exact Nat.le_trans hn (k3 i hi)
theorem LL.snoc {P : D → List Nat → Prop} : ∀ {ds : List D} {α : List Nat} {d : D} {β : List Nat}, LL P ds α → P d β → (∀ i ∈ α, i ∉ β) → LL P (ds ++ [d]) (α ++ β)
  | [], α, d, β, h, hd, hn => by
    cases h
    exact ⟨β, [], hd, rfl, by simp, fun i _ hi => by cases hi⟩
  | e :: ds, α, d, β, h, hd, hn => by
    obtain ⟨γ, δ, h1, h2, rfl, h4⟩ := h
    refine ⟨γ, δ ++ β, h1, h2.snoc hd fun i hi => hn i (List.mem_append_right _ hi), by rw [List.append_assoc], fun i hi hm => ?_⟩
    rcases List.mem_append.mp hm with hm | hm
    · exact h4 i hi hm
    · exact hn i (List.mem_append_left _ hi) hm
theorem mapO_snoc {α β : Type} {f : α → Option β} {x : α} {y : β} : ∀ {xs : List α} {ys : List β}, mapO f xs = some ys → f x = some y → mapO f (xs ++ [x]) = some (ys ++ [y])
  | [], ys, h, hx => by
    cases h
    simp only [List.nil_append, mapO, hx]
  | z :: xs, zs, h, hx => by
    obtain ⟨w, ws, h1, h2, rfl⟩ := mapO_cons h
    rw [List.cons_append]
    unfold mapO
    rw [h1]
    dsimp only
    rw [mapO_snoc h2 hx]
    rfl
theorem Tolds.snoc {k n0 : Nat} {S T : Sto} {d : D} {p : PyData} {ds : List D} {ps : List PyData} (h : Tolds k n0 S ds ps) (hd : Told k S.length (S ++ T) d p) (hn : n0 ≤ S.length) : Tolds k n0 (S ++ T) (ds ++ [d]) (ps ++ [p]) := by
  obtain ⟨α, h1, h2, h3⟩ := h
  obtain ⟨β, k1, k2, k3⟩ := hd
  refine ⟨α ++ β, h1.grow.snoc k1 fun i hi hb => ?_, mapO_snoc (mapO_imp h2 fun _ _ _ hy => toP_grow app_keep hy (Nat.le_refl _)) k2, fun i hi => ?_⟩
  · have := h1.lt i hi
    have := k3 i hb
    omega
  · rcases List.mem_append.mp hi with hi | hi
    · exact h3 i hi
    · exact Nat.le_trans hn (k3 i hi)
theorem Tolds.list {k n0 : Nat} {S : Sto} {ds : List D} {ps : List PyData} (h : Tolds k n0 S ds ps) (hn : n0 ≤ S.length) (hl : ds.length ≤ 1000) (hm : ds.getLast? ≠ some (.str mk)) : Told (k + 1) n0 (S ++ [.lst ds]) (.ref S.length) (.list ps) := by
  obtain ⟨α, h1, h2, h3⟩ := h
  refine ⟨S.length :: α, ⟨ds, α, new_last, h1.grow, fun hi => Nat.lt_irrefl _ (h1.lt _ hi), rfl, hl, hm⟩, ?_, fun i hi => ?_⟩
  · unfold toP
    rw [new_last]
    dsimp only
    rw [show (Cell.lst ds).items = ds from rfl, mapO_imp h2 fun _ _ _ hy => toP_grow app_keep hy (Nat.le_refl _)]
  · rcases List.mem_cons.mp hi with rfl | hi
    · exact hn
    · exact h3 i hi
theorem Tolds.tup {k n0 : Nat} {S : Sto} {ds : List D} {ps : List PyData} (h : Tolds k n0 S ds ps) (hl : ds.length ≤ 1000) : Told (k + 1) n0 S (.tup ds) (.tuple ps) := by
  obtain ⟨α, h1, h2, h3⟩ := h
  refine ⟨α, ⟨h1, hl⟩, ?_, h3⟩
  unfold toP
  rw [h2]
def Flt (k : Nat) (S : Sto) (d : D) (p : PyData) : Prop := Tr k S d [] ∧ toP k S d = some p
theorem Flt.told {k n0 : Nat} {S : Sto} {d : D} {p : PyData} (h : Flt k S d p) : Told k n0 S d p := ⟨[], h.1, h.2, fun i hi => by cases hi⟩
theorem flt_all {k : Nat} {S : Sto} {α : Type} {enc : α → D} {pe : α → PyData} : ∀ {xs : List α}, (∀ x ∈ xs, Flt k S (enc x) (pe x)) → LL (Tr k S) (xs.map enc) [] ∧ mapO (toP k S) (xs.map enc) = some (xs.map pe)
  | [], _ => ⟨rfl, rfl⟩
  | x :: xs, h => by
    have h1 := h x List.mem_cons_self
    have h2 := flt_all (xs := xs) fun y hy => h y (List.mem_cons_of_mem _ hy)
    refine ⟨⟨[], [], h1.1, h2.1, rfl, fun i hi => by cases hi⟩, ?_⟩
    rw [List.map_cons, List.map_cons]
    unfold mapO
    rw [h1.2]
    dsimp only
    rw [h2.2]
theorem flts {k n0 : Nat} {S : Sto} {α : Type} {enc : α → D} {pe : α → PyData} {xs : List α} (h : ∀ x ∈ xs, Flt k S (enc x) (pe x)) : Tolds k n0 S (xs.map enc) (xs.map pe) := ⟨[], (flt_all h).1, (flt_all h).2, fun i hi => by cases hi⟩
theorem flt_bl {k : Nat} {S : Sto} {b : Bool} : Flt (k + 1) S (.bl b) (.bool b) := ⟨rfl, rfl⟩
theorem flt_int {k : Nat} {S : Sto} {i : Int} : Flt (k + 1) S (.int i) (.int i) := ⟨rfl, rfl⟩
theorem flt_non {k : Nat} {S : Sto} : Flt (k + 1) S .non .none := ⟨rfl, rfl⟩
theorem flt_dO {k : Nat} {S : Sto} {e : End} : Flt (k + 1) S (dO e) (pO e) := by
  cases e with
  | none => exact flt_non
  | some i => exact flt_int
theorem flt_dR {k : Nat} {S : Sto} {r : Rg} : Flt (k + 2) S (dR r) (pR r) := by
  have h := flt_all (k := k + 1) (S := S) (enc := dO) (pe := pO) (xs := [r.1, r.2]) fun x _ => flt_dO
  refine ⟨⟨h.1, by simp [dR]⟩, ?_⟩
  show toP (k + 2) S (.tup [dO r.1, dO r.2]) = _
  unfold toP
  rw [show [dO r.1, dO r.2] = [r.1, r.2].map dO from rfl, h.2]
  rfl
theorem reach_flat {S : Sto} : ∀ {k : Nat} {d : D} {α : List Nat}, Tr k S d α → noRef d = true → α = []
  | 0, d, α, h, _ => h.elim
  | k + 1, d, α, h, hn => by
    unfold Tr at h
    cases d with
    | ref n => cases hn
    | tup ds =>
      have go : ∀ {ds : List D} {α : List Nat}, LL (Tr k S) ds α → noRefs ds = true → α = [] := by
        intro ds
        induction ds with
        | nil => intro α h _; exact h
        | cons d ds ih =>
          intro α h hn
          obtain ⟨β, γ, h1, h2, rfl, _⟩ := h
          rw [nrs_cons, Bool.and_eq_true] at hn
          rw [reach_flat h1 hn.1, ih h2 hn.2]
          rfl
      exact go h.1 (by simpa using hn)
    | kl ds => exact h.elim
    | vl ds => exact h.elim
    | ty s => exact h.elim
    | str x => exact h.1
    | non => exact h
    | bl b => exact h
    | int i => exact h
theorem reach_is {n0 : Nat} {S : Sto} : ∀ {k K : Nat} {d : D} {α acc : List Nat}, Tr k S d α → k ≤ K → (∀ i ∈ α, n0 ≤ i ∧ i ∉ acc) → reach n0 S K d acc = acc ++ α
  | 0, K, d, α, acc, h, _, _ => h.elim
  | k + 1, 0, d, α, acc, h, hk, _ => by omega
  | k + 1, K + 1, d, α, acc, h, hk, ha => by
    have go : ∀ {ds : List D} {α acc : List Nat}, LL (Tr k S) ds α → (∀ i ∈ α, n0 ≤ i ∧ i ∉ acc) → ds.foldl (fun a e => reach n0 S K e a) acc = acc ++ α := by
      intro ds
      induction ds with
      | nil => intro α acc h _; cases h; simp
      | cons d ds ih =>
        intro α acc h ha
        obtain ⟨β, γ, h1, h2, rfl, h4⟩ := h
        rw [List.foldl_cons, reach_is h1 (by omega) fun i hi => ha i (List.mem_append_left _ hi), ih h2 fun i hi => ⟨(ha i (List.mem_append_right _ hi)).1, fun hm => ?_⟩, List.append_assoc]
        rcases List.mem_append.mp hm with hm | hm
        · exact (ha i (List.mem_append_right _ hi)).2 hm
        · exact h4 i hm hi
    have h0 := h
    unfold Tr at h
    unfold reach
    cases d with
    | ref n =>
      obtain ⟨ds, β, h1, h2, h3, rfl, _⟩ := h
      have hn := ha n List.mem_cons_self
      dsimp only
      rw [if_neg (fun z => z.elim (fun z => by omega) hn.2), h1]
      dsimp only
      rw [go h2 fun i hi => ⟨(ha i (List.mem_cons_of_mem _ hi)).1, fun hm => ?_⟩, List.append_assoc]
      · rfl
      · rcases List.mem_append.mp hm with hm | hm
        · exact (ha i (List.mem_cons_of_mem _ hi)).2 hm
        · rw [List.mem_singleton.mp hm] at hi
          exact h3 hi
    | tup ds =>
      dsimp only
      cases q : noRefs ds with
      | true =>
        rw [if_pos rfl, reach_flat h0 (by simpa using q)]
        simp
      | false =>
        rw [if_neg (by simp)]
        exact go h.1 ha
    | kl ds => exact h.elim
    | vl ds => exact h.elim
    | ty s => exact h.elim
    | str x => rw [h.1]; simp
    | non => cases h; simp
    | bl b => cases h; simp
    | int i => cases h; simp
theorem LL.nodup {P : D → List Nat → Prop} : ∀ {ds : List D} {α : List Nat}, LL P ds α → (∀ d ∈ ds, ∀ β, P d β → β.Nodup) → α.Nodup
  | [], α, h, _ => by cases h; exact .nil
  | d :: ds, α, h, i => by
    obtain ⟨β, γ, h1, h2, rfl, h4⟩ := h
    rw [List.nodup_append]
    exact ⟨i d List.mem_cons_self β h1, h2.nodup fun e he => i e (List.mem_cons_of_mem _ he), fun a ha b hb e => h4 a ha (e ▸ hb)⟩
theorem Tr.nodup {S : Sto} : ∀ {k : Nat} {d : D} {α : List Nat}, Tr k S d α → α.Nodup
  | 0, d, α, h => h.elim
  | k + 1, d, α, h => by
    unfold Tr at h
    cases d with
    | ref n =>
      obtain ⟨ds, β, h1, h2, h3, rfl, _⟩ := h
      exact List.nodup_cons.mpr ⟨h3, h2.nodup fun _ _ _ hb => hb.nodup⟩
    | tup ds => exact h.1.nodup fun _ _ _ hb => hb.nodup
    | kl ds => exact h.elim
    | vl ds => exact h.elim
    | ty s => exact h.elim
    | str x => rw [h.1]; exact .nil
    | non => cases h; exact .nil
    | bl b => cases h; exact .nil
    | int i => cases h; exact .nil
end Sp
namespace Sp
open PySem PySem.Spec PyProof.Rows L2 Lv
theorem idxOf?_of {n : Nat} : ∀ {π : List Nat}, n ∈ π → ∃ j, π.idxOf? n = some j ∧ π[j]? = some n
  | [], h => by cases h
  | m :: π, h => by
    rw [List.idxOf?_cons]
    by_cases e : m = n
    · subst e
      exact ⟨0, by simp, rfl⟩
    · have hn : n ∈ π := by
        rcases List.mem_cons.mp h with h | h
        · exact absurd h.symm e
        · exact h
      obtain ⟨j, h1, h2⟩ := idxOf?_of hn
      refine ⟨j + 1, ?_, h2⟩
      have : (m == n) = false := by simpa using e
      rw [this, h1]
      rfl
def at_π (π : List Nat) (n : Nat) : Nat := (π.idxOf? n).getD 0
theorem at_π_some {π : List Nat} {n : Nat} (h : n ∈ π) : π.idxOf? n = some (at_π π n) ∧ π[at_π π n]? = some n := by
  obtain ⟨j, h1, h2⟩ := idxOf?_of h
  unfold at_π
  rw [h1]
  exact ⟨rfl, h2⟩
theorem ren_some {n0 : Nat} {S : Sto} {π : List Nat} : ∀ {k : Nat} {d : D} {β : List Nat}, Tr k S d β → (∀ i ∈ β, i ∈ π) → ∃ d', ren n0 π d = some d'
  | 0, d, β, h, _ => h.elim
  | k + 1, d, β, h, hi => by
    unfold Tr at h
    cases d with
    | ref n =>
      obtain ⟨ds, γ, h1, h2, h3, rfl, _⟩ := h
      unfold ren
      split
      · exact ⟨_, rfl⟩
      · rw [(at_π_some (hi n List.mem_cons_self)).1]
        exact ⟨_, rfl⟩
    | tup ds =>
      have go : ∀ {ds : List D} {β : List Nat}, LL (Tr k S) ds β → (∀ i ∈ β, i ∈ π) → ∃ es, rens n0 π ds = some es := by
        intro ds
        induction ds with
        | nil => intro β _ _; exact ⟨[], by unfold rens; rfl⟩
        | cons d ds ih =>
          intro β h hi
          obtain ⟨γ, δ, h1, h2, rfl, _⟩ := h
          obtain ⟨e, he⟩ := ren_some h1 fun i hm => hi i (List.mem_append_left _ hm)
          obtain ⟨es, hes⟩ := ih h2 fun i hm => hi i (List.mem_append_right _ hm)
          exact ⟨e :: es, by unfold rens; rw [he]; dsimp only; rw [hes]⟩
      obtain ⟨es, he⟩ := go h.1 hi
      exact ⟨.tup es, by unfold ren; rw [he]⟩
    | kl ds => exact h.elim
    | vl ds => exact h.elim
    | ty s => exact h.elim
    | str x => exact ⟨_, by unfold ren; rfl⟩
    | non => exact ⟨_, by unfold ren; rfl⟩
    | bl b => exact ⟨_, by unfold ren; rfl⟩
    | int i => exact ⟨_, by unfold ren; rfl⟩
theorem rens_some {n0 k : Nat} {S : Sto} {π : List Nat} : ∀ {ds : List D} {β : List Nat}, LL (Tr k S) ds β → (∀ i ∈ β, i ∈ π) → ∃ es, rens n0 π ds = some es
  | [], β, _, _ => ⟨[], by unfold rens; rfl⟩
  | d :: ds, β, h, hi => by
    obtain ⟨γ, δ, h1, h2, rfl, _⟩ := h
    obtain ⟨e, he⟩ := ren_some (n0 := n0) h1 fun i hm => hi i (List.mem_append_left _ hm)
    obtain ⟨es, hes⟩ := rens_some h2 fun i hm => hi i (List.mem_append_right _ hm)
    exact ⟨e :: es, by unfold rens; rw [he]; dsimp only; rw [hes]⟩
theorem Tr.sub {S : Sto} : ∀ {k : Nat} {d : D} {α : List Nat}, Tr k S d α → ∀ i ∈ α, ∃ ds γ, S[i]? = some (.lst ds) ∧ LL (Tr k S) ds γ ∧ ∀ j ∈ γ, j ∈ α
  | 0, d, α, h, i, hi => h.elim
  | k + 1, d, α, h, i, hi => by
    have h0 := h
    unfold Tr at h
    have go : ∀ {ds : List D} {β : List Nat}, LL (Tr k S) ds β → i ∈ β → ∃ es γ, S[i]? = some (.lst es) ∧ LL (Tr (k + 1) S) es γ ∧ ∀ j ∈ γ, j ∈ β := fun hl hm => by
      obtain ⟨ds2, β2, hm2⟩ : ∃ e ∈ _, ∃ γ, Tr k S e γ ∧ i ∈ γ ∧ ∀ j ∈ γ, j ∈ _ := LL.inv2 hl i hm
      obtain ⟨γ, k1, k2, k3⟩ := hm2
      obtain ⟨es, δ, q1, q2, q3⟩ := k1.sub i k2
      exact ⟨es, δ, q1, q2.imp fun _ _ _ _ he => he.up (by omega), fun j hj => k3 j (q3 j hj)⟩
    cases d with
    | ref n =>
      obtain ⟨ds, β, h1, h2, h3, rfl, _⟩ := h
      rcases List.mem_cons.mp hi with rfl | hi
      · exact ⟨ds, β, h1, h2.imp fun _ _ _ _ he => he.up (by omega), fun j hj => List.mem_cons_of_mem _ hj⟩
      · obtain ⟨es, γ, q1, q2, q3⟩ := go h2 hi
        exact ⟨es, γ, q1, q2, fun j hj => List.mem_cons_of_mem _ (q3 j hj)⟩
    | tup ds => exact go h.1 hi
    | kl ds => exact h.elim
    | vl ds => exact h.elim
    | ty s => exact h.elim
    | str x => rw [h.1] at hi; cases hi
    | non => cases h; cases hi
    | bl b => cases h; cases hi
    | int i => cases h; cases hi
where
  LL.inv2 {P : D → List Nat → Prop} : ∀ {ds : List D} {α : List Nat}, LL P ds α → ∀ i ∈ α, ∃ d ∈ ds, ∃ β, P d β ∧ i ∈ β ∧ ∀ j ∈ β, j ∈ α
    | [], α, h, i, hi => by cases h; cases hi
    | e :: ds, α, h, i, hi => by
      obtain ⟨β, γ, h1, h2, rfl, h4⟩ := h
      rcases List.mem_append.mp hi with hi | hi
      · exact ⟨e, List.mem_cons_self, β, h1, hi, fun j hj => List.mem_append_left _ hj⟩
      · obtain ⟨d, k1, δ, k2, k3, k4⟩ := LL.inv2 h2 i hi
        exact ⟨d, List.mem_cons_of_mem _ k1, δ, k2, k3, fun j hj => List.mem_append_right _ (k4 j hj)⟩
theorem ren_tr {n0 : Nat} {S S2 : Sto} {π : List Nat} (hS : ∀ i ∈ π, ∀ ds es, S[i]? = some (.lst ds) → rens n0 π ds = some es → S2[n0 + at_π π i]? = some (.lst es)) :
    ∀ {k : Nat} {d d' : D} {β : List Nat} {p : PyData}, Tr k S d β → (∀ i ∈ β, n0 ≤ i ∧ i ∈ π) → ren n0 π d = some d' → toP k S d = some p → Tr k S2 d' (β.map fun i => n0 + at_π π i) ∧ toP k S2 d' = some p ∧ (d' = .str mk → d = .str mk)
  | 0, d, d', β, p, h, _, _, _ => h.elim
  | k + 1, d, d', β, p, h, hi, hr, hp => by
    have inj : ∀ i ∈ π, ∀ j ∈ π, at_π π i = at_π π j → i = j := fun i h1 j h2 e => by
      have q1 := (at_π_some h1).2
      rw [e, (at_π_some h2).2] at q1
      exact (Option.some.inj q1).symm
    have go : ∀ {ds es : List D} {β : List Nat} {ps : List PyData}, LL (Tr k S) ds β → (∀ i ∈ β, n0 ≤ i ∧ i ∈ π) → rens n0 π ds = some es → mapO (toP k S) ds = some ps → LL (Tr k S2) es (β.map fun i => n0 + at_π π i) ∧ mapO (toP k S2) es = some ps ∧ es.length = ds.length ∧ (es.getLast? = some (.str mk) → ds.getLast? = some (.str mk)) := by
      intro ds
      induction ds with
      | nil =>
        intro es β ps h _ hr hp
        unfold rens at hr
        cases h; cases hr; cases hp
        exact ⟨rfl, rfl, rfl, fun z => by cases z⟩
      | cons d ds ih =>
        intro es β ps h hi hr hp
        obtain ⟨γ, δ, h1, h2, rfl, h4⟩ := h
        unfold rens at hr
        split at hr
        · rename_i e he
          split at hr
          · rename_i es' hes
            cases hr
            obtain ⟨y, ys, p1, p2, rfl⟩ := mapO_cons hp
            obtain ⟨k1, k2, k3⟩ := ren_tr hS h1 (fun i hm => hi i (List.mem_append_left _ hm)) he p1
            obtain ⟨q1, q2, q3, q4⟩ := ih h2 (fun i hm => hi i (List.mem_append_right _ hm)) hes p2
            refine ⟨⟨_, _, k1, q1, List.map_append, fun i hm hm2 => ?_⟩, ?_, by simp [q3], fun z => ?_⟩
            · obtain ⟨a, ha, rfl⟩ := List.mem_map.mp hm
              obtain ⟨b, hb, e2⟩ := List.mem_map.mp hm2
              have := inj b (hi b (List.mem_append_right _ hb)).2 a (hi a (List.mem_append_left _ ha)).2 (by omega)
              exact h4 a ha (this ▸ hb)
            · unfold mapO
              rw [k2]
              dsimp only
              rw [q2]
            · cases ds with
              | nil =>
                have : es' = [] := List.eq_nil_of_length_eq_zero q3
                subst this
                have z' : some e = some (.str mk) := z
                have := k3 (Option.some.inj z')
                rw [this]
                rfl
              | cons d2 ds2 =>
                cases es' with
                | nil => cases q3
                | cons e2 es2 =>
                  rw [List.getLast?_cons_cons] at z ⊢
                  exact q4 z
          · cases hr
        · cases hr
    unfold Tr at h
    cases d with
    | ref n =>
      obtain ⟨ds, γ, h1, h2, h3, rfl, h5, h6⟩ := h
      have hn := hi n List.mem_cons_self
      unfold ren at hr
      rw [if_neg (by omega), (at_π_some hn.2).1] at hr
      cases hr
      unfold toP at hp
      rw [h1] at hp
      dsimp only at hp
      split at hp
      · rename_i ps hps
        cases hp
        obtain ⟨es, hes⟩ := rens_some (n0 := n0) h2 fun i hm => (hi i (List.mem_cons_of_mem _ hm)).2
        obtain ⟨q1, q2, q3, q4⟩ := go h2 (fun i hm => hi i (List.mem_cons_of_mem _ hm)) hes hps
        have hc := hS n hn.2 ds es h1 hes
        refine ⟨⟨es, γ.map fun i => n0 + at_π π i, hc, q1, fun hm => ?_, by rw [List.map_cons], by rw [q3]; exact h5, fun z => h6 (q4 z)⟩, ?_, fun z => by cases z⟩
        · obtain ⟨b, hb, e2⟩ := List.mem_map.mp hm
          have := inj b (hi b (List.mem_cons_of_mem _ hb)).2 n hn.2 (by omega)
          exact h3 (this ▸ hb)
        · unfold toP
          rw [hc]
          dsimp only
          rw [show (Cell.lst es).items = es from rfl, q2]
      · cases hp
    | tup ds =>
      unfold ren at hr
      split at hr
      · rename_i es hes
        cases hr
        unfold toP at hp
        split at hp
        · rename_i ps hps
          cases hp
          obtain ⟨q1, q2, q3, q4⟩ := go h.1 hi hes hps
          refine ⟨⟨q1, by rw [q3]; exact h.2⟩, ?_, fun z => by cases z⟩
          unfold toP
          rw [q2]
        · cases hp
      · cases hr
    | kl ds => exact h.elim
    | vl ds => exact h.elim
    | ty s => exact h.elim
    | str x =>
      unfold ren at hr
      cases hr
      obtain ⟨rfl, h2⟩ := h
      exact ⟨⟨rfl, h2⟩, hp, fun z => z⟩
    | non => unfold ren at hr; cases hr; cases h; exact ⟨rfl, hp, fun z => z⟩
    | bl b => unfold ren at hr; cases hr; cases h; exact ⟨rfl, hp, fun z => z⟩
    | int i => unfold ren at hr; cases hr; cases h; exact ⟨rfl, hp, fun z => z⟩
theorem oldB_app {S T : Sto} : OldB S (S ++ T) := ⟨by simp, fun i hi => .inl (List.getElem?_append_left hi)⟩
theorem mapO_get {α β : Type} {f : α → Option β} : ∀ {xs : List α} {ys : List β}, mapO f xs = some ys → ∀ (i : Nat) x, xs[i]? = some x → ∃ y, ys[i]? = some y ∧ f x = some y
  | [], ys, h, i, x, hx => by simp at hx
  | x0 :: xs, zs, h, i, x, hx => by
    obtain ⟨y0, ys, h1, h2, rfl⟩ := mapO_cons h
    cases i with
    | zero => cases hx; exact ⟨y0, rfl, h1⟩
    | succ i => exact mapO_get h2 i x hx
theorem shutW_told {k : Nat} {S T : Sto} {z : D} {p : PyData} (h : Told k S.length (S ++ T) z p) (hk : k ≤ 20) : ∃ z' T', shutW S z (S ++ T) = some (z', S ++ T') ∧ Told k S.length (S ++ T') z' p := by
  obtain ⟨α, h1, h2, h3⟩ := h
  have hr : reach S.length (S ++ T) 20 z [] = α := by
    have := reach_is (n0 := S.length) (acc := []) h1 hk fun i hi => ⟨h3 i hi, by simp⟩
    simpa using this
  obtain ⟨z', hz⟩ := ren_some (n0 := S.length) (π := α) h1 fun i hi => hi
  obtain ⟨cs, c1, c2, c3⟩ := mapO_ex (f := renC S.length α (S ++ T)) (p := fun _ => True) (xs := α) fun i hi => by
    obtain ⟨ds, γ, q1, q2, q3⟩ := h1.sub i hi
    obtain ⟨es, q4⟩ := rens_some (n0 := S.length) q2 q3
    exact ⟨.lst es, by unfold renC; rw [q1]; dsimp only; rw [q4], trivial⟩
  have ht : (S ++ T).take S.length = S := List.take_left
  refine ⟨z', cs, ?_, ?_⟩
  · unfold shutW
    rw [hr, if_pos ⟨oldB_app, h1.nodup, h3⟩, hz, c1, ht]
  · obtain ⟨q1, q2, q3⟩ := ren_tr (n0 := S.length) (S := S ++ T) (S2 := S ++ cs) (π := α) (fun i hi ds es e1 e2 => by
      obtain ⟨y, y1, y2⟩ := mapO_get c1 _ i (at_π_some hi).2
      unfold renC at y2
      rw [e1] at y2
      dsimp only at y2
      rw [e2] at y2
      cases y2
      rw [List.getElem?_append_right (by omega), Nat.add_sub_cancel_left]
      exact y1) h1 (fun i hi => ⟨h3 i hi, hi⟩) hz h2
    exact ⟨_, q1, q2, fun i hi => by
      obtain ⟨a, _, rfl⟩ := List.mem_map.mp hi
      omega⟩
theorem sealedW_told {k : Nat} {g : CF} {ds : List D} {S T : Sto} {z : D} {p : PyData} (e : g ds S = some (z, S ++ T)) (h : Told k S.length (S ++ T) z p) (hk : k ≤ 20) : ∃ z' T', sealedW g ds S = some (z', S ++ T') ∧ Told k S.length (S ++ T') z' p := by
  unfold sealedW
  rw [e]
  exact shutW_told h hk
end Sp
namespace Sp
open PySem PySem.Spec PyProof.Rows L2 Lv
theorem mapO_congr {α β : Type} {f g : α → Option β} : ∀ {xs : List α}, (∀ x ∈ xs, f x = g x) → mapO f xs = mapO g xs
  | [], _ => rfl
  | x :: xs, h => by
    unfold mapO
    rw [h x List.mem_cons_self, mapO_congr fun y hy => h y (List.mem_cons_of_mem _ hy)]
theorem Tr.toP_out {S S' : Sto} : ∀ {k m : Nat} {d : D} {α : List Nat}, Tr k S d α → (∀ i ∈ α, S'[i]? = S[i]?) → toP m S' d = toP m S d
  | 0, m, d, α, h, _ => h.elim
  | k + 1, 0, d, α, h, ho => rfl
  | k + 1, m + 1, d, α, h, ho => by
    have go : ∀ {ds : List D} {β : List Nat}, LL (Tr k S) ds β → (∀ i ∈ β, S'[i]? = S[i]?) → mapO (toP m S') ds = mapO (toP m S) ds := fun hl hb => mapO_congr fun e he => by
      obtain ⟨γ, k1, k2⟩ := hl.mem e he
      exact k1.toP_out fun i hi => hb i (k2 i hi)
    unfold Tr at h
    cases d with
    | ref n =>
      obtain ⟨ds, β, h1, h2, h3, rfl, _⟩ := h
      unfold toP
      rw [ho n List.mem_cons_self, h1]
      dsimp only
      rw [show (Cell.lst ds).items = ds from rfl, go h2 fun i hi => ho i (List.mem_cons_of_mem _ hi)]
    | tup ds =>
      unfold toP
      rw [go h.1 ho]
    | kl ds => exact h.elim
    | vl ds => exact h.elim
    | ty s => exact h.elim
    | _ => rfl
theorem Told.out {k n0 : Nat} {S S' : Sto} {d : D} {p : PyData} (h : Told k n0 S d p) (ho : ∀ i, n0 ≤ i → S'[i]? = S[i]?) : Told k n0 S' d p := by
  obtain ⟨α, h1, h2, h3⟩ := h
  have hc : ∀ i ∈ α, S'[i]? = S[i]? := fun i hi => ho i (h3 i hi)
  exact ⟨α, h1.out hc, by rw [h1.toP_out hc]; exact h2, h3⟩
theorem Tolds.out {k n0 : Nat} {S S' : Sto} {ds : List D} {ps : List PyData} (h : Tolds k n0 S ds ps) (ho : ∀ i, n0 ≤ i → S'[i]? = S[i]?) : Tolds k n0 S' ds ps := by
  obtain ⟨α, h1, h2, h3⟩ := h
  have hc : ∀ i ∈ α, S'[i]? = S[i]? := fun i hi => ho i (h3 i hi)
  refine ⟨α, h1.imp fun e _ β hb he => he.out fun i hi => hc i (hb i hi), ?_, h3⟩
  rw [← h2]
  exact mapO_congr fun e he => by
    obtain ⟨γ, k1, k2⟩ := h1.mem e he
    exact k1.toP_out fun i hi => hc i (k2 i hi)
theorem last_mk {k : Nat} {S : Sto} {ds : List D} {ps : List PyData} (h : mapO (toP k S) ds = some ps) (hm : ∀ p ∈ ps, p ≠ .str mk) : ds.getLast? ≠ some (.str mk) := fun e => by
  have hmem := List.mem_of_getLast? e
  obtain ⟨i, hi⟩ := List.getElem?_of_mem hmem
  obtain ⟨y, y1, y2⟩ := mapO_get h i _ hi
  cases k with
  | zero => cases y2
  | succ k =>
    cases y2
    exact hm _ (List.mem_of_getElem? y1) rfl
theorem comp_told {α : Type} {k n : Nat} {own : List Nat} {it : IFn} {t : Tg} {f : EF} {env : Lv.Env} {S S1 : Sto} {xs : List α} {enc : α → D} (pe : α → PyData) (hit : it env S = some (.fix (xs.map enc), S1)) (hn : xs.length < n) (hl : xs.length ≤ 1000)
    (hb : ∀ x ∈ xs, ∃ e1, setTg t (enc x) (wipeE env own) = some e1 ∧ ∀ X : Sto, S1.length ≤ X.length → (∀ i, i < S1.length → X[i]? = S1[i]?) → ∃ z T, f e1 X = some (z, X ++ T) ∧ Told k X.length (X ++ T) z (pe x)) (hm : ∀ x ∈ xs, pe x ≠ .str mk) :
    ∃ z T, eComp true n own it t tYesF f env S = some (z, S1 ++ T) ∧ Told (k + 1) S1.length (S1 ++ T) z (.list (xs.map pe)) := by
  unfold eComp
  rw [hit]
  dsimp only
  have hlen : (xs.map enc).length = xs.length := List.length_map _
  obtain ⟨acc, S', e, T, rfl, h1, h2⟩ := compL_fix (t := t) (c := tYesF) (f := f) (kC := S1.length) (env := wipeE env own) (ds := xs.map enc)
    (fun i acc X => ∃ T, X = S1 ++ .lst acc :: T ∧ Tolds k (S1.length + 1) X acc ((xs.take i).map pe) ∧ acc.length = i)
    (by rintro i acc X ⟨T, rfl, _⟩; rw [List.getElem?_append_right (Nat.le_refl _), Nat.sub_self]; rfl) n 0 [] (S1 ++ [.lst []]) ⟨[], rfl, by rw [List.take_zero]; exact .nil, rfl⟩ (Nat.zero_le _) (by omega) (by
      rintro i d acc X hd ⟨T, rfl, h1, h2⟩
      rw [List.getElem?_map] at hd
      cases hx : xs[i]? with
      | none => rw [hx] at hd; cases hd
      | some x =>
        rw [hx] at hd
        cases hd
        have hil := (List.getElem?_eq_some_iff.mp hx).1
        obtain ⟨e1, k1, k2⟩ := hb x (List.mem_of_getElem? hx)
        obtain ⟨z, U, k3, k4⟩ := k2 (S1 ++ .lst acc :: T) (by simp) fun j hj => List.getElem?_append_left hj
        have hset : (S1 ++ .lst acc :: T ++ U).set S1.length (.lst (acc ++ [z])) = S1 ++ .lst (acc ++ [z]) :: (T ++ U) := by
          rw [List.append_assoc, List.set_append_right _ _ (Nat.le_refl _), Nat.sub_self]
          rfl
        have hget : (S1 ++ .lst acc :: T ++ U)[S1.length]? = some (.lst acc) := by
          rw [List.append_assoc, List.getElem?_append_right (Nat.le_refl _), Nat.sub_self]
          rfl
        refine ⟨e1, k1, true, _, rfl, fun z => (by cases z), fun _ => ⟨z, _, k3, hget, Nat.lt_of_le_of_lt (show acc.length ≤ 1000 by omega) (by decide), T ++ U, hset, ?_, by simp [h2]⟩⟩
        have hs := (h1.snoc k4 (by simp)).out (S' := (S1 ++ .lst acc :: T ++ U).set S1.length (.lst (acc ++ [z]))) fun j hj => List.getElem?_set_ne (by omega)
        rw [List.take_add_one, hx, Option.toList_some, List.map_append]
        exact hs)
  rw [e]
  refine ⟨.ref S1.length, .lst acc :: T, rfl, ?_⟩
  rw [hlen, List.take_length] at h1
  have hlast := last_mk (by obtain ⟨α, _, q, _⟩ := h1; exact q) fun p hp => by
    obtain ⟨x, hx, rfl⟩ := List.mem_map.mp hp
    exact hm x hx
  obtain ⟨α, q1, q2, q3⟩ := h1
  have hg : (S1 ++ .lst acc :: T)[S1.length]? = some (.lst acc) := by
    rw [List.getElem?_append_right (Nat.le_refl _), Nat.sub_self]
    rfl
  refine ⟨S1.length :: α, ⟨acc, α, hg, q1, fun hi => by have := q3 _ hi; omega, rfl, by omega, hlast⟩, ?_, fun i hi => ?_⟩
  · unfold toP
    rw [hg]
    dsimp only
    rw [show (Cell.lst acc).items = acc from rfl, q2]
  · rcases List.mem_cons.mp hi with rfl | hi
    · exact Nat.le_refl _
    · have := q3 i hi
      omega
theorem told_repr {k n0 k' L : Nat} {S : Sto} {d : D} {p : PyData} (h : Told k n0 S d p) (hk : k ≤ 60) (hf : Fi k' L p) (h1 : k' ≤ 50) (h2 : L ≤ 10000000) : cRepr [d] S = some (.str p.shown, S) := by
  obtain ⟨α, _, q, _⟩ := h
  exact repr_ok (toP_grow (fun _ _ e => e) q hk) hf h1 h2
theorem told_marked {fu k n0 : Nat} {S : Sto} {d : D} {p : PyData} (hf : 10000 ≤ fu) (h : Told (k + 1) n0 S d p) (hk : k ≤ 40) : ∃ S', cM fu [d] S = some (.bl true, S') ∧ S'.length = S.length ∧ ∀ i, i < n0 → S'[i]? = S[i]? := by
  obtain ⟨α, h1, _, h3⟩ := h
  obtain ⟨S', e, f⟩ := marked_ok hf h1 hk
  exact ⟨S', e, f.len, fun i hi => f.out i fun hm => by have := h3 i hm; omega⟩
end Sp
namespace Cw
open PySem PySem.Spec PyProof.Rows L2 Lv
noncomputable def bw_copied_row (fu : Nat) : SF := (sCons (sRet (eIf (truB (eBin (gIsN false) (eVar 0) (eC .non))) (eC .non) (eCall (cListOf true) (aCons (eVar 0) aNil)))) sNil)
noncomputable def uw_copied_row (fu : Nat) : CF := fnF 1 1 (bw_copied_row fu)
noncomputable def w_copied_row (fu : Nat) : CF := sealedW (uw_copied_row fu)
noncomputable def bw_joined_rows (fu : Nat) : SF := (sCons (sRet (eComp true fu [2, 3] (iZipA2 (aCons (eVar 0) (aCons (eVar 1) aNil))) (.tp [2, 3]) tYesF (eCall (Com.c_joined fu) (aCons (eVar 2) (aCons (eVar 3) aNil))))) sNil)
noncomputable def uw_joined_rows (fu : Nat) : CF := fnF 2 4 (bw_joined_rows fu)
noncomputable def w_joined_rows (fu : Nat) : CF := sealedW (uw_joined_rows fu)
noncomputable def bw_joined_at_place (fu : Nat) : SF := (sCons (sIf (tOrF (truB (eBin (gIsN false) (eVar 0) (eC .non))) (truB (eBin (gIsN false) (eVar 1) (eC .non)))) (sCons (sRet (eCall (w_copied_row fu) (aCons (eIf (truB (eBin (gIsN false) (eVar 0) (eC .non))) (eVar 1) (eVar 0)) aNil))) sNil) sNil) (sCons (sRet (eCall (w_joined_rows fu) (aCons (eVar 0) (aCons (eVar 1) aNil)))) sNil))
noncomputable def uw_joined_at_place (fu : Nat) : CF := fnF 2 2 (bw_joined_at_place fu)
noncomputable def w_joined_at_place (fu : Nat) : CF := sealedW (uw_joined_at_place fu)
noncomputable def bw_row_joined (fu : Nat) : SF := (sCons (sDrop (eCall (Com.c__need_rows fu) (aCons (eVar 0) (aCons (eVar 1) (aCons (eVar 2) aNil))))) (sCons (sRet (eCall (w_joined_rows fu) (aCons (eVar 1) (aCons (eVar 2) aNil)))) sNil))
noncomputable def uw_row_joined (fu : Nat) : CF := fnF 3 3 (bw_row_joined fu)
noncomputable def w_row_joined (fu : Nat) : CF := sealedW (uw_row_joined fu)
noncomputable def bw_met_rows (fu : Nat) : SF := (sCons (sSet 2 (eComp true fu [3, 4] (iZipA2 (aCons (eVar 0) (aCons (eVar 1) aNil))) (.tp [3, 4]) tYesF (eCall (Com.c_met fu) (aCons (eVar 3) (aCons (eVar 4) aNil))))) (sCons (sRet (eIf (truB (eBin (gIn2 false) (eC .non) (eVar 2))) (eC .non) (eVar 2))) sNil))
noncomputable def uw_met_rows (fu : Nat) : CF := fnF 2 5 (bw_met_rows fu)
noncomputable def w_met_rows (fu : Nat) : CF := sealedW (uw_met_rows fu)
noncomputable def bw_row_met (fu : Nat) : SF := (sCons (sDrop (eCall (Com.c__need_rows fu) (aCons (eVar 0) (aCons (eVar 1) (aCons (eVar 2) aNil))))) (sCons (sRet (eCall (w_met_rows fu) (aCons (eVar 1) (aCons (eVar 2) aNil)))) sNil))
noncomputable def uw_row_met (fu : Nat) : CF := fnF 3 3 (bw_row_met fu)
noncomputable def w_row_met (fu : Nat) : CF := sealedW (uw_row_met fu)
noncomputable def bw_table_joined (fu : Nat) : SF := (sCons (sDrop (eCall (Com.c__need_tables fu) (aCons (eVar 0) (aCons (eVar 1) (aCons (eVar 2) aNil))))) (sCons (sRet (eComp true fu [3, 4] (iZipA2 (aCons (eVar 1) (aCons (eVar 2) aNil))) (.tp [3, 4]) tYesF (eCall (w_joined_at_place fu) (aCons (eVar 3) (aCons (eVar 4) aNil))))) sNil))
noncomputable def uw_table_joined (fu : Nat) : CF := fnF 3 5 (bw_table_joined fu)
noncomputable def w_table_joined (fu : Nat) : CF := sealedW (uw_table_joined fu)
noncomputable def bw_met_at_place (fu : Nat) : SF := (sCons (sRet (eIf (tOrF (truB (eBin (gIsN false) (eVar 0) (eC .non))) (truB (eBin (gIsN false) (eVar 1) (eC .non)))) (eC .non) (eCall (w_met_rows fu) (aCons (eVar 0) (aCons (eVar 1) aNil))))) sNil)
noncomputable def uw_met_at_place (fu : Nat) : CF := fnF 2 2 (bw_met_at_place fu)
noncomputable def w_met_at_place (fu : Nat) : CF := sealedW (uw_met_at_place fu)
noncomputable def bw_table_met (fu : Nat) : SF := (sCons (sDrop (eCall (Com.c__need_tables fu) (aCons (eVar 0) (aCons (eVar 1) (aCons (eVar 2) aNil))))) (sCons (sRet (eComp true fu [3, 4] (iZipA2 (aCons (eVar 1) (aCons (eVar 2) aNil))) (.tp [3, 4]) tYesF (eCall (w_met_at_place fu) (aCons (eVar 3) (aCons (eVar 4) aNil))))) sNil))
noncomputable def uw_table_met (fu : Nat) : CF := fnF 3 5 (bw_table_met fu)
noncomputable def w_table_met (fu : Nat) : CF := sealedW (uw_table_met fu)
end Cw
namespace Sp
open PySem PySem.Spec PyProof.Rows L2 Lv Com
def metL (rs qs : List Rg) : List (Option Rg) := (rs.zip qs).map fun p => metR p.1 p.2
def metRow (rs qs : List Rg) : Option (List Rg) := if (metL rs qs).any Option.isNone then none else some ((metL rs qs).map fun o => o.getD (none, none))
def metO (a b : Option (List Rg)) : Option (List Rg) := match a, b with
  | some rs, some qs => metRow rs qs
  | _, _ => none
def joinT (T U : Tb) : Tb := (T.zip U).map fun p => joinO p.1 p.2
def metT (T U : Tb) : Tb := (T.zip U).map fun p => metO p.1 p.2
def wT (T U : Tb) : Bool := (T.zip U).all fun p => wO p.1 p.2
section
variable {fu : Nat} {S : Sto}
theorem none_in_vl {os : List (Option Rg)} : gIn2 false .non (.vl (os.map dOR)) S = some (.bl (os.any Option.isNone), S) := by
  have hi : itemsOf S (.vl (os.map dOR)) = some (os.map dOR) := rfl
  have he : ((os.map dOR).any fun d => eqD d .non) = os.any Option.isNone := by
    rw [List.any_map]
    congr 1
    funext r
    cases r <;> rfl
  cases q : (os.map dOR).all flatD with
  | true =>
    refine in2_of ?_
    unfold gIn
    rw [hi]
    dsimp only
    rw [q, he]
    rfl
  | false =>
    have h1 : gIn false .non (.vl (os.map dOR)) S = none := by
      unfold gIn
      rw [hi]
      dsimp only
      rw [q, Bool.and_false]
      rfl
    unfold gIn2
    rw [h1]
    dsimp only
    have h2 : toP 60 S (.vl (os.map dOR)) = some (.list (os.map pOR)) := by
      unfold toP
      rw [mapO_map (n := 59) (fun r => toP_dOR (n := 57))]
    have h3 : SeqAt.shaped (.list (os.map pOR)) = true := shaped_of (k := 2) (by
      show PyData.canLayAll0 _ = true
      exact layAll fun p hp => by
        obtain ⟨r, _, rfl⟩ := List.mem_map.mp hp
        exact lay_pOR r) (by
      unfold PyData.depth
      have := depAll (ps := os.map pOR) (k := 1) fun p hp => by
        obtain ⟨r, _, rfl⟩ := List.mem_map.mp hp
        exact dep_pOR r
      omega) (by decide)
    have h4 : ((os.map pOR).any fun z => PyData.eqv z .none) = os.any Option.isNone := by
      rw [List.any_map]
      congr 1
      funext r
      rcases r with _ | ⟨a, b⟩ <;> rfl
    unfold gInD
    rw [h2]
    rw [show toP 60 S .non = some .none from rfl]
    dsimp only
    rw [h3, h4]
    rfl
theorem met_list {os : List (Option Rg)} (h : os.any Option.isNone = false) : os.map dOR = (os.map fun o => o.getD (none, none)).map dR := by
  rw [List.map_map]
  refine List.map_congr_left fun o ho => ?_
  cases o with
  | none => exact absurd (show os.any Option.isNone = true from List.any_eq_true.mpr ⟨none, ho, rfl⟩) (by rw [h]; simp)
  | some r => rfl
theorem metL_len {rs qs : List Rg} : (metL rs qs).length ≤ rs.length := by unfold metL; rw [List.length_map]; exact zip_len
theorem met_comp (hf : 10000 ≤ fu) {rs qs : List Rg} (hl : rs.length ≤ 1000) : eComp false fu [3, 4] (iZipA2 (aCons (eVar 0) (aCons (eVar 1) aNil))) (.tp [3, 4]) tYesF (eCall (c_met fu) (aCons (eVar 3) (aCons (eVar 4) aNil))) [some (dRow rs), some (dRow qs), none, none, none] S = some (.vl ((metL rs qs).map dOR), S) := by
  have hz := zip_len (a := rs) (b := qs)
  have e := comp_all (n := fu) (own := [3, 4]) (it := iZipA2 (aCons (eVar 0) (aCons (eVar 1) aNil))) (t := .tp [3, 4]) (f := eCall (c_met fu) (aCons (eVar 3) (aCons (eVar 4) aNil))) (env := [some (dRow rs), some (dRow qs), none, none, none]) (S := S) (S1 := S) (xs := rs.zip qs) (enc := fun p => .tup [dR p.1, dR p.2]) (fun p => dOR (metR p.1 p.2)) (by
      unfold iZipA2 iZipF
      simp only [r_sCons, r_sIf, r_tAnd, r_tOr, r_tNot, r_truB, r_truF, r_truD_bl, r_eBin, r_eVar, r_eC, r_eCall, r_eCallK, r_aCons, r_aNil, r_eAnd, r_eOr, r_eNotT, r_eIf, r_eNeg, r_eChain, r_sNil, r_sDrop, r_sRet, r_sSet, r_sAsg, r_sPar, r_nm, r_tp, r_sets, r_sets0, List.getElem?_cons_zero, List.getElem?_cons_succ, List.set_cons_zero, List.set_cons_succ, List.length_cons, List.length_nil, List.map_cons, List.map_nil, List.cons_append, List.nil_append, Nat.zero_add, Nat.reduceAdd, Nat.sub_self, Nat.reduceSub, Nat.add_zero, List.reduceReplicate, List.replicate_zero, List.append_nil, if_true, if_false, Bool.false_eq_true, Bool.not_true, Bool.not_false, Bool.true_and, Bool.and_true, Bool.false_and, Bool.and_false, Bool.or_true, Bool.true_or, Bool.false_or, Bool.or_false, reduceIte, r_fnF, r_sealed, r_start, t_tup0, t_tup1, t_tup2, t_tup3, t_tup4, t_lst0, t_lst1, t_lst2, t_lst3, t_lst4, t_lst5, t_lst6, t_lst7, t_lst8, t_lst9, t_lst10, r_mkV, r_mkR, r_isN, r_non0, r_non1, r_non2, r_non3, r_non4, r_non5, r_non6, isi_int, isi_intb, isi_tup, isi_str, isi_vl, isi_ints, isi_tups, r_cmp2i, r_cmp2t, r_cmpI, r_eqv_int, r_eqv_str, r_add, r_sub, r_arith, r_ix_tup, r_ix_vl, r_len_tup, r_len_vl, r_cInt, r_cMin, r_cMax, r_lof_vl, r_lof_tup, r_tof_vl, r_tof_tup, r_truD_vl, r_truD_tup, r_truD_int, r_truD_non, r_oSome, r_oNone, r_eSl, r_sl_vl, r_sl_tup, r_iAny, r_eMethL, r_isRef_vl, ix20, ix21, nr_int, nr_bl, nr_non, nr_str, nr_tup, nr_vl, nrs_nil, nrs_cons, shut_same, pick_nil, pick_cons, decide_true, decide_false, dRow, r_sq_vl, zip_rows]) (by omega) (by omega) (fun p hp S' => ⟨[some (dRow rs), some (dRow qs), none, some (dR p.1), some (dR p.2)], rfl, by simp only [r_eCall, r_aCons, r_aNil, r_eVar, List.getElem?_cons_zero, List.getElem?_cons_succ, met_ok]⟩) (fun c _ => nr_dOR)
  rw [e]
  unfold metL
  rw [List.map_map]
  rfl
theorem met_rows_ok (hf : 10000 ≤ fu) {rs qs : List Rg} (hl : rs.length ≤ 1000) : c_met_rows fu [dRow rs, dRow qs] S = some (dORow (metRow rs qs), S) := by
  have e := met_comp (fu := fu) (S := S) (qs := qs) hf hl
  have ni := none_in_vl (S := S) (os := metL rs qs)
  unfold c_met_rows u_met_rows b_met_rows metRow
  cases q : (metL rs qs).any Option.isNone with
  | true =>
    rw [q] at ni
    simp only [r_sCons, r_sIf, r_tAnd, r_tOr, r_tNot, r_truB, r_truF, r_truD_bl, r_eBin, r_eVar, r_eC, r_eCall, r_eCallK, r_aCons, r_aNil, r_eAnd, r_eOr, r_eNotT, r_eIf, r_eNeg, r_eChain, r_sNil, r_sDrop, r_sRet, r_sSet, r_sAsg, r_sPar, r_nm, r_tp, r_sets, r_sets0, List.getElem?_cons_zero, List.getElem?_cons_succ, List.set_cons_zero, List.set_cons_succ, List.length_cons, List.length_nil, List.map_cons, List.map_nil, List.cons_append, List.nil_append, Nat.zero_add, Nat.reduceAdd, Nat.sub_self, Nat.reduceSub, Nat.add_zero, List.reduceReplicate, List.replicate_zero, List.append_nil, if_true, if_false, Bool.false_eq_true, Bool.not_true, Bool.not_false, Bool.true_and, Bool.and_true, Bool.false_and, Bool.and_false, Bool.or_true, Bool.true_or, Bool.false_or, Bool.or_false, reduceIte, r_fnF, r_sealed, r_start, t_tup0, t_tup1, t_tup2, t_tup3, t_tup4, t_lst0, t_lst1, t_lst2, t_lst3, t_lst4, t_lst5, t_lst6, t_lst7, t_lst8, t_lst9, t_lst10, r_mkV, r_mkR, r_isN, r_non0, r_non1, r_non2, r_non3, r_non4, r_non5, r_non6, isi_int, isi_intb, isi_tup, isi_str, isi_vl, isi_ints, isi_tups, r_cmp2i, r_cmp2t, r_cmpI, r_eqv_int, r_eqv_str, r_add, r_sub, r_arith, r_ix_tup, r_ix_vl, r_len_tup, r_len_vl, r_cInt, r_cMin, r_cMax, r_lof_vl, r_lof_tup, r_tof_vl, r_tof_tup, r_truD_vl, r_truD_tup, r_truD_int, r_truD_non, r_oSome, r_oNone, r_eSl, r_sl_vl, r_sl_tup, r_iAny, r_eMethL, r_isRef_vl, ix20, ix21, nr_int, nr_bl, nr_non, nr_str, nr_tup, nr_vl, nrs_nil, nrs_cons, shut_same, pick_nil, pick_cons, decide_true, decide_false, e, ni, dORow]
  | false =>
    rw [q] at ni
    rw [met_list q] at e ni
    simp only [r_sCons, r_sIf, r_tAnd, r_tOr, r_tNot, r_truB, r_truF, r_truD_bl, r_eBin, r_eVar, r_eC, r_eCall, r_eCallK, r_aCons, r_aNil, r_eAnd, r_eOr, r_eNotT, r_eIf, r_eNeg, r_eChain, r_sNil, r_sDrop, r_sRet, r_sSet, r_sAsg, r_sPar, r_nm, r_tp, r_sets, r_sets0, List.getElem?_cons_zero, List.getElem?_cons_succ, List.set_cons_zero, List.set_cons_succ, List.length_cons, List.length_nil, List.map_cons, List.map_nil, List.cons_append, List.nil_append, Nat.zero_add, Nat.reduceAdd, Nat.sub_self, Nat.reduceSub, Nat.add_zero, List.reduceReplicate, List.replicate_zero, List.append_nil, if_true, if_false, Bool.false_eq_true, Bool.not_true, Bool.not_false, Bool.true_and, Bool.and_true, Bool.false_and, Bool.and_false, Bool.or_true, Bool.true_or, Bool.false_or, Bool.or_false, reduceIte, r_fnF, r_sealed, r_start, t_tup0, t_tup1, t_tup2, t_tup3, t_tup4, t_lst0, t_lst1, t_lst2, t_lst3, t_lst4, t_lst5, t_lst6, t_lst7, t_lst8, t_lst9, t_lst10, r_mkV, r_mkR, r_isN, r_non0, r_non1, r_non2, r_non3, r_non4, r_non5, r_non6, isi_int, isi_intb, isi_tup, isi_str, isi_vl, isi_ints, isi_tups, r_cmp2i, r_cmp2t, r_cmpI, r_eqv_int, r_eqv_str, r_add, r_sub, r_arith, r_ix_tup, r_ix_vl, r_len_tup, r_len_vl, r_cInt, r_cMin, r_cMax, r_lof_vl, r_lof_tup, r_tof_vl, r_tof_tup, r_truD_vl, r_truD_tup, r_truD_int, r_truD_non, r_oSome, r_oNone, r_eSl, r_sl_vl, r_sl_tup, r_iAny, r_eMethL, r_isRef_vl, ix20, ix21, nr_int, nr_bl, nr_non, nr_str, nr_tup, nr_vl, nrs_nil, nrs_cons, shut_same, pick_nil, pick_cons, decide_true, decide_false, e, ni, dORow]
    simp only [r_sCons, r_sIf, r_tAnd, r_tOr, r_tNot, r_truB, r_truF, r_truD_bl, r_eBin, r_eVar, r_eC, r_eCall, r_eCallK, r_aCons, r_aNil, r_eAnd, r_eOr, r_eNotT, r_eIf, r_eNeg, r_eChain, r_sNil, r_sDrop, r_sRet, r_sSet, r_sAsg, r_sPar, r_nm, r_tp, r_sets, r_sets0, List.getElem?_cons_zero, List.getElem?_cons_succ, List.set_cons_zero, List.set_cons_succ, List.length_cons, List.length_nil, List.map_cons, List.map_nil, List.cons_append, List.nil_append, Nat.zero_add, Nat.reduceAdd, Nat.sub_self, Nat.reduceSub, Nat.add_zero, List.reduceReplicate, List.replicate_zero, List.append_nil, if_true, if_false, Bool.false_eq_true, Bool.not_true, Bool.not_false, Bool.true_and, Bool.and_true, Bool.false_and, Bool.and_false, Bool.or_true, Bool.true_or, Bool.false_or, Bool.or_false, reduceIte, r_fnF, r_sealed, r_start, t_tup0, t_tup1, t_tup2, t_tup3, t_tup4, t_lst0, t_lst1, t_lst2, t_lst3, t_lst4, t_lst5, t_lst6, t_lst7, t_lst8, t_lst9, t_lst10, r_mkV, r_mkR, r_isN, r_non0, r_non1, r_non2, r_non3, r_non4, r_non5, r_non6, isi_int, isi_intb, isi_tup, isi_str, isi_vl, isi_ints, isi_tups, r_cmp2i, r_cmp2t, r_cmpI, r_eqv_int, r_eqv_str, r_add, r_sub, r_arith, r_ix_tup, r_ix_vl, r_len_tup, r_len_vl, r_cInt, r_cMin, r_cMax, r_lof_vl, r_lof_tup, r_tof_vl, r_tof_tup, r_truD_vl, r_truD_tup, r_truD_int, r_truD_non, r_oSome, r_oNone, r_eSl, r_sl_vl, r_sl_tup, r_iAny, r_eMethL, r_isRef_vl, ix20, ix21, nr_int, nr_bl, nr_non, nr_str, nr_tup, nr_vl, nrs_nil, nrs_cons, shut_same, pick_nil, pick_cons, decide_true, decide_false, nrs_rows]
    rfl
structure OkPTT (p : Prg) (T U : Tb) : Prop where
  t : OkPT2 p T
  u : okT p U = true
theorem OkPTT.swap {p : Prg} {T U : Tb} (h : OkPTT p T U) : OkPTT p U T := ⟨⟨h.t.s, h.t.ok, h.u, h.t.m⟩, h.t.t⟩
theorem OkPTT.second {p : Prg} {T U : Tb} (h : OkPTT p T U) : OkPT2 p U := h.swap.t
theorem row_lens {p : Prg} {T : Tb} (h : OkPT2 p T) : ∀ o ∈ T, ∀ rs, o = some rs → rs.length ≤ 1000 := fun o ho rs e => by
  subst e
  rw [(okT_row h.t ho).1]
  exact h.s.n
theorem tab_len {p : Prg} {T : Tb} (h : OkPT2 p T) : T.length ≤ 1000 := by have := okT_len h.t; have := h.m; omega
theorem need_tables_ok (hf : 10000 ≤ fu) {p : Prg} {T U : Tb} (h : OkPTT p T U) : c__need_tables fu [dP p, dT T, dT U] S = some (.non, S) := by
  obtain ⟨n1, n2⟩ := npt (S := S) hf h.t
  obtain ⟨_, n3⟩ := npt (S := S) hf h.second
  unfold c__need_tables u__need_tables b__need_tables
  simp only [r_sCons, r_sIf, r_tAnd, r_tOr, r_tNot, r_truB, r_truF, r_truD_bl, r_eBin, r_eVar, r_eC, r_eCall, r_eCallK, r_aCons, r_aNil, r_eAnd, r_eOr, r_eNotT, r_eIf, r_eNeg, r_eChain, r_sNil, r_sDrop, r_sRet, r_sSet, r_sAsg, r_sPar, r_nm, r_tp, r_sets, r_sets0, List.getElem?_cons_zero, List.getElem?_cons_succ, List.set_cons_zero, List.set_cons_succ, List.length_cons, List.length_nil, List.map_cons, List.map_nil, List.cons_append, List.nil_append, Nat.zero_add, Nat.reduceAdd, Nat.sub_self, Nat.reduceSub, Nat.add_zero, List.reduceReplicate, List.replicate_zero, List.append_nil, if_true, if_false, Bool.false_eq_true, Bool.not_true, Bool.not_false, Bool.true_and, Bool.and_true, Bool.false_and, Bool.and_false, Bool.or_true, Bool.true_or, Bool.false_or, Bool.or_false, reduceIte, r_fnF, r_sealed, r_start, t_tup0, t_tup1, t_tup2, t_tup3, t_tup4, t_lst0, t_lst1, t_lst2, t_lst3, t_lst4, t_lst5, t_lst6, t_lst7, t_lst8, t_lst9, t_lst10, r_mkV, r_mkR, r_isN, r_non0, r_non1, r_non2, r_non3, r_non4, r_non5, r_non6, isi_int, isi_intb, isi_tup, isi_str, isi_vl, isi_ints, isi_tups, r_cmp2i, r_cmp2t, r_cmpI, r_eqv_int, r_eqv_str, r_add, r_sub, r_arith, r_ix_tup, r_ix_vl, r_len_tup, r_len_vl, r_cInt, r_cMin, r_cMax, r_lof_vl, r_lof_tup, r_tof_vl, r_tof_tup, r_truD_vl, r_truD_tup, r_truD_int, r_truD_non, r_oSome, r_oNone, r_eSl, r_sl_vl, r_sl_tup, r_iAny, r_eMethL, r_isRef_vl, ix20, ix21, nr_int, nr_bl, nr_non, nr_str, nr_tup, nr_vl, nrs_nil, nrs_cons, shut_same, pick_nil, pick_cons, decide_true, decide_false, n1, n2, n3]
theorem need_rows_ok (hf : 10000 ≤ fu) {p : Prg} {rs qs : List Rg} (h : SmP p) (hp : okP p = true) (h1 : rs.length = p.names.length) (h2 : ∀ r ∈ rs, okR r = true) (h3 : qs.length = p.names.length) (h4 : ∀ r ∈ qs, okR r = true) : c__need_rows fu [dP p, dRow rs, dRow qs] S = some (.non, S) := by
  have n1 := need_program_ok (S := S) hf h hp
  have n2 := need_row_ok (fu := fu) (S := S) hf h1 h.n h2
  have n3 := need_row_ok (fu := fu) (S := S) hf h3 h.n h4
  unfold c__need_rows u__need_rows b__need_rows
  simp only [r_sCons, r_sIf, r_tAnd, r_tOr, r_tNot, r_truB, r_truF, r_truD_bl, r_eBin, r_eVar, r_eC, r_eCall, r_eCallK, r_aCons, r_aNil, r_eAnd, r_eOr, r_eNotT, r_eIf, r_eNeg, r_eChain, r_sNil, r_sDrop, r_sRet, r_sSet, r_sAsg, r_sPar, r_nm, r_tp, r_sets, r_sets0, List.getElem?_cons_zero, List.getElem?_cons_succ, List.set_cons_zero, List.set_cons_succ, List.length_cons, List.length_nil, List.map_cons, List.map_nil, List.cons_append, List.nil_append, Nat.zero_add, Nat.reduceAdd, Nat.sub_self, Nat.reduceSub, Nat.add_zero, List.reduceReplicate, List.replicate_zero, List.append_nil, if_true, if_false, Bool.false_eq_true, Bool.not_true, Bool.not_false, Bool.true_and, Bool.and_true, Bool.false_and, Bool.and_false, Bool.or_true, Bool.true_or, Bool.false_or, Bool.or_false, reduceIte, r_fnF, r_sealed, r_start, t_tup0, t_tup1, t_tup2, t_tup3, t_tup4, t_lst0, t_lst1, t_lst2, t_lst3, t_lst4, t_lst5, t_lst6, t_lst7, t_lst8, t_lst9, t_lst10, r_mkV, r_mkR, r_isN, r_non0, r_non1, r_non2, r_non3, r_non4, r_non5, r_non6, isi_int, isi_intb, isi_tup, isi_str, isi_vl, isi_ints, isi_tups, r_cmp2i, r_cmp2t, r_cmpI, r_eqv_int, r_eqv_str, r_add, r_sub, r_arith, r_ix_tup, r_ix_vl, r_len_tup, r_len_vl, r_cInt, r_cMin, r_cMax, r_lof_vl, r_lof_tup, r_tof_vl, r_tof_tup, r_truD_vl, r_truD_tup, r_truD_int, r_truD_non, r_oSome, r_oNone, r_eSl, r_sl_vl, r_sl_tup, r_iAny, r_eMethL, r_isRef_vl, ix20, ix21, nr_int, nr_bl, nr_non, nr_str, nr_tup, nr_vl, nrs_nil, nrs_cons, shut_same, pick_nil, pick_cons, decide_true, decide_false, n1, n2, n3]
theorem within_table_ok (hf : 10000 ≤ fu) {T U : Tb} (hl : T.length ≤ 1000) (hr : ∀ o ∈ T, ∀ rs, o = some rs → rs.length ≤ 1000) : c_within_table fu [dT T, dT U] S = some (.bl (wT T U), S) := by
  have hz := zip_len (a := T) (b := U)
  have e := comp_all (n := fu) (own := [2, 3]) (it := iZipA2 (aCons (eVar 0) (aCons (eVar 1) aNil))) (t := .tp [2, 3]) (f := eCall (c_within_at_place fu) (aCons (eVar 2) (aCons (eVar 3) aNil))) (env := [some (dT T), some (dT U), none, none]) (S := S) (S1 := S) (xs := T.zip U) (enc := fun p => .tup [dORow p.1, dORow p.2]) (fun p => .bl (wO p.1 p.2)) (by
      unfold iZipA2 iZipF
      simp only [r_sCons, r_sIf, r_tAnd, r_tOr, r_tNot, r_truB, r_truF, r_truD_bl, r_eBin, r_eVar, r_eC, r_eCall, r_eCallK, r_aCons, r_aNil, r_eAnd, r_eOr, r_eNotT, r_eIf, r_eNeg, r_eChain, r_sNil, r_sDrop, r_sRet, r_sSet, r_sAsg, r_sPar, r_nm, r_tp, r_sets, r_sets0, List.getElem?_cons_zero, List.getElem?_cons_succ, List.set_cons_zero, List.set_cons_succ, List.length_cons, List.length_nil, List.map_cons, List.map_nil, List.cons_append, List.nil_append, Nat.zero_add, Nat.reduceAdd, Nat.sub_self, Nat.reduceSub, Nat.add_zero, List.reduceReplicate, List.replicate_zero, List.append_nil, if_true, if_false, Bool.false_eq_true, Bool.not_true, Bool.not_false, Bool.true_and, Bool.and_true, Bool.false_and, Bool.and_false, Bool.or_true, Bool.true_or, Bool.false_or, Bool.or_false, reduceIte, r_fnF, r_sealed, r_start, t_tup0, t_tup1, t_tup2, t_tup3, t_tup4, t_lst0, t_lst1, t_lst2, t_lst3, t_lst4, t_lst5, t_lst6, t_lst7, t_lst8, t_lst9, t_lst10, r_mkV, r_mkR, r_isN, r_non0, r_non1, r_non2, r_non3, r_non4, r_non5, r_non6, isi_int, isi_intb, isi_tup, isi_str, isi_vl, isi_ints, isi_tups, r_cmp2i, r_cmp2t, r_cmpI, r_eqv_int, r_eqv_str, r_add, r_sub, r_arith, r_ix_tup, r_ix_vl, r_len_tup, r_len_vl, r_cInt, r_cMin, r_cMax, r_lof_vl, r_lof_tup, r_tof_vl, r_tof_tup, r_truD_vl, r_truD_tup, r_truD_int, r_truD_non, r_oSome, r_oNone, r_eSl, r_sl_vl, r_sl_tup, r_iAny, r_eMethL, r_isRef_vl, ix20, ix21, nr_int, nr_bl, nr_non, nr_str, nr_tup, nr_vl, nrs_nil, nrs_cons, shut_same, pick_nil, pick_cons, decide_true, decide_false, dT, r_sq_vl, zip_tabs]) (by omega) (by omega) (fun p hp S' => ⟨[some (dT T), some (dT U), some (dORow p.1), some (dORow p.2)], rfl, by
        have c := within_at_ok (fu := fu) (S := S') (a := p.1) (b := p.2) hf (hr _ (mem_zip hp).1)
        generalize dORow p.1 = d1 at *
        generalize dORow p.2 = d2 at *
        simp only [r_eCall, r_aCons, r_aNil, r_eVar, List.getElem?_cons_zero, List.getElem?_cons_succ, c]⟩) (fun c _ => by simp)
  have ea := all_vl (q := fun p : Option (List Rg) × Option (List Rg) => wO p.1 p.2) (xs := T.zip U) (S := S)
  unfold c_within_table u_within_table b_within_table
  simp only [r_sCons, r_sIf, r_tAnd, r_tOr, r_tNot, r_truB, r_truF, r_truD_bl, r_eBin, r_eVar, r_eC, r_eCall, r_eCallK, r_aCons, r_aNil, r_eAnd, r_eOr, r_eNotT, r_eIf, r_eNeg, r_eChain, r_sNil, r_sDrop, r_sRet, r_sSet, r_sAsg, r_sPar, r_nm, r_tp, r_sets, r_sets0, List.getElem?_cons_zero, List.getElem?_cons_succ, List.set_cons_zero, List.set_cons_succ, List.length_cons, List.length_nil, List.map_cons, List.map_nil, List.cons_append, List.nil_append, Nat.zero_add, Nat.reduceAdd, Nat.sub_self, Nat.reduceSub, Nat.add_zero, List.reduceReplicate, List.replicate_zero, List.append_nil, if_true, if_false, Bool.false_eq_true, Bool.not_true, Bool.not_false, Bool.true_and, Bool.and_true, Bool.false_and, Bool.and_false, Bool.or_true, Bool.true_or, Bool.false_or, Bool.or_false, reduceIte, r_fnF, r_sealed, r_start, t_tup0, t_tup1, t_tup2, t_tup3, t_tup4, t_lst0, t_lst1, t_lst2, t_lst3, t_lst4, t_lst5, t_lst6, t_lst7, t_lst8, t_lst9, t_lst10, r_mkV, r_mkR, r_isN, r_non0, r_non1, r_non2, r_non3, r_non4, r_non5, r_non6, isi_int, isi_intb, isi_tup, isi_str, isi_vl, isi_ints, isi_tups, r_cmp2i, r_cmp2t, r_cmpI, r_eqv_int, r_eqv_str, r_add, r_sub, r_arith, r_ix_tup, r_ix_vl, r_len_tup, r_len_vl, r_cInt, r_cMin, r_cMax, r_lof_vl, r_lof_tup, r_tof_vl, r_tof_tup, r_truD_vl, r_truD_tup, r_truD_int, r_truD_non, r_oSome, r_oNone, r_eSl, r_sl_vl, r_sl_tup, r_iAny, r_eMethL, r_isRef_vl, ix20, ix21, nr_int, nr_bl, nr_non, nr_str, nr_tup, nr_vl, nrs_nil, nrs_cons, shut_same, pick_nil, pick_cons, decide_true, decide_false, e, ea, wT]
theorem table_within_ok (hf : 10000 ≤ fu) {p : Prg} {T U : Tb} (h : OkPTT p T U) : c_table_within fu [dP p, dT T, dT U] S = some (.bl (wT T U), S) := by
  have n := need_tables_ok (S := S) hf h
  have e := within_table_ok (fu := fu) (S := S) (U := U) hf (tab_len h.t) (row_lens h.t)
  unfold c_table_within u_table_within b_table_within
  simp only [r_sCons, r_sIf, r_tAnd, r_tOr, r_tNot, r_truB, r_truF, r_truD_bl, r_eBin, r_eVar, r_eC, r_eCall, r_eCallK, r_aCons, r_aNil, r_eAnd, r_eOr, r_eNotT, r_eIf, r_eNeg, r_eChain, r_sNil, r_sDrop, r_sRet, r_sSet, r_sAsg, r_sPar, r_nm, r_tp, r_sets, r_sets0, List.getElem?_cons_zero, List.getElem?_cons_succ, List.set_cons_zero, List.set_cons_succ, List.length_cons, List.length_nil, List.map_cons, List.map_nil, List.cons_append, List.nil_append, Nat.zero_add, Nat.reduceAdd, Nat.sub_self, Nat.reduceSub, Nat.add_zero, List.reduceReplicate, List.replicate_zero, List.append_nil, if_true, if_false, Bool.false_eq_true, Bool.not_true, Bool.not_false, Bool.true_and, Bool.and_true, Bool.false_and, Bool.and_false, Bool.or_true, Bool.true_or, Bool.false_or, Bool.or_false, reduceIte, r_fnF, r_sealed, r_start, t_tup0, t_tup1, t_tup2, t_tup3, t_tup4, t_lst0, t_lst1, t_lst2, t_lst3, t_lst4, t_lst5, t_lst6, t_lst7, t_lst8, t_lst9, t_lst10, r_mkV, r_mkR, r_isN, r_non0, r_non1, r_non2, r_non3, r_non4, r_non5, r_non6, isi_int, isi_intb, isi_tup, isi_str, isi_vl, isi_ints, isi_tups, r_cmp2i, r_cmp2t, r_cmpI, r_eqv_int, r_eqv_str, r_add, r_sub, r_arith, r_ix_tup, r_ix_vl, r_len_tup, r_len_vl, r_cInt, r_cMin, r_cMax, r_lof_vl, r_lof_tup, r_tof_vl, r_tof_tup, r_truD_vl, r_truD_tup, r_truD_int, r_truD_non, r_oSome, r_oNone, r_eSl, r_sl_vl, r_sl_tup, r_iAny, r_eMethL, r_isRef_vl, ix20, ix21, nr_int, nr_bl, nr_non, nr_str, nr_tup, nr_vl, nrs_nil, nrs_cons, shut_same, pick_nil, pick_cons, decide_true, decide_false, n, e]
structure OkPRR (p : Prg) (rs qs : List Rg) : Prop where
  s : SmP p
  ok : okP p = true
  r : rs.length = p.names.length
  ro : ∀ r ∈ rs, okR r = true
  q : qs.length = p.names.length
  qo : ∀ r ∈ qs, okR r = true
theorem OkPRR.swap {p : Prg} {rs qs : List Rg} (h : OkPRR p rs qs) : OkPRR p qs rs := ⟨h.s, h.ok, h.q, h.qo, h.r, h.ro⟩
theorem OkPRR.need {p : Prg} {rs qs : List Rg} (h : OkPRR p rs qs) (hf : 10000 ≤ fu) : c__need_rows fu [dP p, dRow rs, dRow qs] S = some (.non, S) := need_rows_ok hf h.s h.ok h.r h.ro h.q h.qo
theorem OkPRR.len {p : Prg} {rs qs : List Rg} (h : OkPRR p rs qs) : rs.length ≤ 1000 := by rw [h.r]; exact h.s.n
theorem row_within_p (hf : 10000 ≤ fu) {p : Prg} {rs qs : List Rg} (h : OkPRR p rs qs) : c_row_within fu [dP p, dRow rs, dRow qs] S = some (.bl (wRow rs qs), S) := by
  have n := h.need (S := S) hf
  have e := row_within_ok (fu := fu) (S := S) (qs := qs) hf h.len
  unfold c_row_within u_row_within b_row_within
  simp only [r_sCons, r_sIf, r_tAnd, r_tOr, r_tNot, r_truB, r_truF, r_truD_bl, r_eBin, r_eVar, r_eC, r_eCall, r_eCallK, r_aCons, r_aNil, r_eAnd, r_eOr, r_eNotT, r_eIf, r_eNeg, r_eChain, r_sNil, r_sDrop, r_sRet, r_sSet, r_sAsg, r_sPar, r_nm, r_tp, r_sets, r_sets0, List.getElem?_cons_zero, List.getElem?_cons_succ, List.set_cons_zero, List.set_cons_succ, List.length_cons, List.length_nil, List.map_cons, List.map_nil, List.cons_append, List.nil_append, Nat.zero_add, Nat.reduceAdd, Nat.sub_self, Nat.reduceSub, Nat.add_zero, List.reduceReplicate, List.replicate_zero, List.append_nil, if_true, if_false, Bool.false_eq_true, Bool.not_true, Bool.not_false, Bool.true_and, Bool.and_true, Bool.false_and, Bool.and_false, Bool.or_true, Bool.true_or, Bool.false_or, Bool.or_false, reduceIte, r_fnF, r_sealed, r_start, t_tup0, t_tup1, t_tup2, t_tup3, t_tup4, t_lst0, t_lst1, t_lst2, t_lst3, t_lst4, t_lst5, t_lst6, t_lst7, t_lst8, t_lst9, t_lst10, r_mkV, r_mkR, r_isN, r_non0, r_non1, r_non2, r_non3, r_non4, r_non5, r_non6, isi_int, isi_intb, isi_tup, isi_str, isi_vl, isi_ints, isi_tups, r_cmp2i, r_cmp2t, r_cmpI, r_eqv_int, r_eqv_str, r_add, r_sub, r_arith, r_ix_tup, r_ix_vl, r_len_tup, r_len_vl, r_cInt, r_cMin, r_cMax, r_lof_vl, r_lof_tup, r_tof_vl, r_tof_tup, r_truD_vl, r_truD_tup, r_truD_int, r_truD_non, r_oSome, r_oNone, r_eSl, r_sl_vl, r_sl_tup, r_iAny, r_eMethL, r_isRef_vl, ix20, ix21, nr_int, nr_bl, nr_non, nr_str, nr_tup, nr_vl, nrs_nil, nrs_cons, shut_same, pick_nil, pick_cons, decide_true, decide_false, n, e]
theorem row_met_p (hf : 10000 ≤ fu) {p : Prg} {rs qs : List Rg} (h : OkPRR p rs qs) : c_row_met fu [dP p, dRow rs, dRow qs] S = some (dORow (metRow rs qs), S) := by
  have n := h.need (S := S) hf
  have e := met_rows_ok (fu := fu) (S := S) (qs := qs) hf h.len
  unfold c_row_met u_row_met b_row_met
  simp only [r_sCons, r_sIf, r_tAnd, r_tOr, r_tNot, r_truB, r_truF, r_truD_bl, r_eBin, r_eVar, r_eC, r_eCall, r_eCallK, r_aCons, r_aNil, r_eAnd, r_eOr, r_eNotT, r_eIf, r_eNeg, r_eChain, r_sNil, r_sDrop, r_sRet, r_sSet, r_sAsg, r_sPar, r_nm, r_tp, r_sets, r_sets0, List.getElem?_cons_zero, List.getElem?_cons_succ, List.set_cons_zero, List.set_cons_succ, List.length_cons, List.length_nil, List.map_cons, List.map_nil, List.cons_append, List.nil_append, Nat.zero_add, Nat.reduceAdd, Nat.sub_self, Nat.reduceSub, Nat.add_zero, List.reduceReplicate, List.replicate_zero, List.append_nil, if_true, if_false, Bool.false_eq_true, Bool.not_true, Bool.not_false, Bool.true_and, Bool.and_true, Bool.false_and, Bool.and_false, Bool.or_true, Bool.true_or, Bool.false_or, Bool.or_false, reduceIte, r_fnF, r_sealed, r_start, t_tup0, t_tup1, t_tup2, t_tup3, t_tup4, t_lst0, t_lst1, t_lst2, t_lst3, t_lst4, t_lst5, t_lst6, t_lst7, t_lst8, t_lst9, t_lst10, r_mkV, r_mkR, r_isN, r_non0, r_non1, r_non2, r_non3, r_non4, r_non5, r_non6, isi_int, isi_intb, isi_tup, isi_str, isi_vl, isi_ints, isi_tups, r_cmp2i, r_cmp2t, r_cmpI, r_eqv_int, r_eqv_str, r_add, r_sub, r_arith, r_ix_tup, r_ix_vl, r_len_tup, r_len_vl, r_cInt, r_cMin, r_cMax, r_lof_vl, r_lof_tup, r_tof_vl, r_tof_tup, r_truD_vl, r_truD_tup, r_truD_int, r_truD_non, r_oSome, r_oNone, r_eSl, r_sl_vl, r_sl_tup, r_iAny, r_eMethL, r_isRef_vl, ix20, ix21, nr_int, nr_bl, nr_non, nr_str, nr_tup, nr_vl, nrs_nil, nrs_cons, shut_same, pick_nil, pick_cons, decide_true, decide_false, n, e]
  simp only [r_sCons, r_sIf, r_tAnd, r_tOr, r_tNot, r_truB, r_truF, r_truD_bl, r_eBin, r_eVar, r_eC, r_eCall, r_eCallK, r_aCons, r_aNil, r_eAnd, r_eOr, r_eNotT, r_eIf, r_eNeg, r_eChain, r_sNil, r_sDrop, r_sRet, r_sSet, r_sAsg, r_sPar, r_nm, r_tp, r_sets, r_sets0, List.getElem?_cons_zero, List.getElem?_cons_succ, List.set_cons_zero, List.set_cons_succ, List.length_cons, List.length_nil, List.map_cons, List.map_nil, List.cons_append, List.nil_append, Nat.zero_add, Nat.reduceAdd, Nat.sub_self, Nat.reduceSub, Nat.add_zero, List.reduceReplicate, List.replicate_zero, List.append_nil, if_true, if_false, Bool.false_eq_true, Bool.not_true, Bool.not_false, Bool.true_and, Bool.and_true, Bool.false_and, Bool.and_false, Bool.or_true, Bool.true_or, Bool.false_or, Bool.or_false, reduceIte, r_fnF, r_sealed, r_start, t_tup0, t_tup1, t_tup2, t_tup3, t_tup4, t_lst0, t_lst1, t_lst2, t_lst3, t_lst4, t_lst5, t_lst6, t_lst7, t_lst8, t_lst9, t_lst10, r_mkV, r_mkR, r_isN, r_non0, r_non1, r_non2, r_non3, r_non4, r_non5, r_non6, isi_int, isi_intb, isi_tup, isi_str, isi_vl, isi_ints, isi_tups, r_cmp2i, r_cmp2t, r_cmpI, r_eqv_int, r_eqv_str, r_add, r_sub, r_arith, r_ix_tup, r_ix_vl, r_len_tup, r_len_vl, r_cInt, r_cMin, r_cMax, r_lof_vl, r_lof_tup, r_tof_vl, r_tof_tup, r_truD_vl, r_truD_tup, r_truD_int, r_truD_non, r_oSome, r_oNone, r_eSl, r_sl_vl, r_sl_tup, r_iAny, r_eMethL, r_isRef_vl, ix20, ix21, nr_int, nr_bl, nr_non, nr_str, nr_tup, nr_vl, nrs_nil, nrs_cons, shut_same, pick_nil, pick_cons, decide_true, decide_false, nr_dORow]
theorem row_joined_p (hf : 10000 ≤ fu) {p : Prg} {rs qs : List Rg} (h : OkPRR p rs qs) : c_row_joined fu [dP p, dRow rs, dRow qs] S = some (dRow (joinRow rs qs), S) := by
  have n := h.need (S := S) hf
  have e := row_joined_ok (fu := fu) (S := S) (qs := qs) hf h.len
  unfold c_row_joined u_row_joined b_row_joined
  simp only [r_sCons, r_sIf, r_tAnd, r_tOr, r_tNot, r_truB, r_truF, r_truD_bl, r_eBin, r_eVar, r_eC, r_eCall, r_eCallK, r_aCons, r_aNil, r_eAnd, r_eOr, r_eNotT, r_eIf, r_eNeg, r_eChain, r_sNil, r_sDrop, r_sRet, r_sSet, r_sAsg, r_sPar, r_nm, r_tp, r_sets, r_sets0, List.getElem?_cons_zero, List.getElem?_cons_succ, List.set_cons_zero, List.set_cons_succ, List.length_cons, List.length_nil, List.map_cons, List.map_nil, List.cons_append, List.nil_append, Nat.zero_add, Nat.reduceAdd, Nat.sub_self, Nat.reduceSub, Nat.add_zero, List.reduceReplicate, List.replicate_zero, List.append_nil, if_true, if_false, Bool.false_eq_true, Bool.not_true, Bool.not_false, Bool.true_and, Bool.and_true, Bool.false_and, Bool.and_false, Bool.or_true, Bool.true_or, Bool.false_or, Bool.or_false, reduceIte, r_fnF, r_sealed, r_start, t_tup0, t_tup1, t_tup2, t_tup3, t_tup4, t_lst0, t_lst1, t_lst2, t_lst3, t_lst4, t_lst5, t_lst6, t_lst7, t_lst8, t_lst9, t_lst10, r_mkV, r_mkR, r_isN, r_non0, r_non1, r_non2, r_non3, r_non4, r_non5, r_non6, isi_int, isi_intb, isi_tup, isi_str, isi_vl, isi_ints, isi_tups, r_cmp2i, r_cmp2t, r_cmpI, r_eqv_int, r_eqv_str, r_add, r_sub, r_arith, r_ix_tup, r_ix_vl, r_len_tup, r_len_vl, r_cInt, r_cMin, r_cMax, r_lof_vl, r_lof_tup, r_tof_vl, r_tof_tup, r_truD_vl, r_truD_tup, r_truD_int, r_truD_non, r_oSome, r_oNone, r_eSl, r_sl_vl, r_sl_tup, r_iAny, r_eMethL, r_isRef_vl, ix20, ix21, nr_int, nr_bl, nr_non, nr_str, nr_tup, nr_vl, nrs_nil, nrs_cons, shut_same, pick_nil, pick_cons, decide_true, decide_false, n, e]
  simp only [r_sCons, r_sIf, r_tAnd, r_tOr, r_tNot, r_truB, r_truF, r_truD_bl, r_eBin, r_eVar, r_eC, r_eCall, r_eCallK, r_aCons, r_aNil, r_eAnd, r_eOr, r_eNotT, r_eIf, r_eNeg, r_eChain, r_sNil, r_sDrop, r_sRet, r_sSet, r_sAsg, r_sPar, r_nm, r_tp, r_sets, r_sets0, List.getElem?_cons_zero, List.getElem?_cons_succ, List.set_cons_zero, List.set_cons_succ, List.length_cons, List.length_nil, List.map_cons, List.map_nil, List.cons_append, List.nil_append, Nat.zero_add, Nat.reduceAdd, Nat.sub_self, Nat.reduceSub, Nat.add_zero, List.reduceReplicate, List.replicate_zero, List.append_nil, if_true, if_false, Bool.false_eq_true, Bool.not_true, Bool.not_false, Bool.true_and, Bool.and_true, Bool.false_and, Bool.and_false, Bool.or_true, Bool.true_or, Bool.false_or, Bool.or_false, reduceIte, r_fnF, r_sealed, r_start, t_tup0, t_tup1, t_tup2, t_tup3, t_tup4, t_lst0, t_lst1, t_lst2, t_lst3, t_lst4, t_lst5, t_lst6, t_lst7, t_lst8, t_lst9, t_lst10, r_mkV, r_mkR, r_isN, r_non0, r_non1, r_non2, r_non3, r_non4, r_non5, r_non6, isi_int, isi_intb, isi_tup, isi_str, isi_vl, isi_ints, isi_tups, r_cmp2i, r_cmp2t, r_cmpI, r_eqv_int, r_eqv_str, r_add, r_sub, r_arith, r_ix_tup, r_ix_vl, r_len_tup, r_len_vl, r_cInt, r_cMin, r_cMax, r_lof_vl, r_lof_tup, r_tof_vl, r_tof_tup, r_truD_vl, r_truD_tup, r_truD_int, r_truD_non, r_oSome, r_oNone, r_eSl, r_sl_vl, r_sl_tup, r_iAny, r_eMethL, r_isRef_vl, ix20, ix21, nr_int, nr_bl, nr_non, nr_str, nr_tup, nr_vl, nrs_nil, nrs_cons, shut_same, pick_nil, pick_cons, decide_true, decide_false, nr_dRow]
end
end Sp
namespace Sp
open PySem PySem.Spec PyProof.Rows L2 Lv Com
def Tells (k : Nat) (S : Sto) (p : PyData) (r : Option (D × Sto)) : Prop := ∃ z T, r = some (z, S ++ T) ∧ Told k S.length (S ++ T) z p
theorem Tells.up {k m : Nat} {S : Sto} {p : PyData} {r : Option (D × Sto)} (h : Tells k S p r) (hk : k ≤ m) : Tells m S p r := by
  obtain ⟨z, T, e, t⟩ := h
  exact ⟨z, T, e, t.up hk⟩
theorem tells_flt {k : Nat} {S : Sto} {d : D} {p : PyData} (h : Flt k S d p) : Tells k S p (some (d, S)) := ⟨d, [], by rw [List.append_nil], by rw [List.append_nil]; exact h.told⟩
theorem tells_sealedW {k : Nat} {g : CF} {ds : List D} {S : Sto} {p : PyData} (h : Tells k S p (g ds S)) (hk : k ≤ 20) : Tells k S p (sealedW g ds S) := by
  obtain ⟨z, T, e, t⟩ := h
  exact sealedW_told e t hk
theorem fn_ret {np nn : Nat} {f : EF} {ds : List D} {S : Sto} {k : Nat} {p : PyData} (hl : ds.length = np) (h : Tells k S p (f (startE nn ds) S)) : Tells k S p (fnF np nn (sCons (sRet f) sNil) ds S) := by
  obtain ⟨z, T, e, t⟩ := h
  exact ⟨z, T, fn_eq hl (cons_rt (by rw [r_sRet, e])), t⟩
theorem fn_ret1 {np nn : Nat} {s : SF} {f : EF} {ds : List D} {S : Sto} {k : Nat} {p : PyData} (hl : ds.length = np) (hs : s (startE nn ds) S = some (.nx (startE nn ds), S)) (h : Tells k S p (f (startE nn ds) S)) : Tells k S p (fnF np nn (sCons s (sCons (sRet f) sNil)) ds S) := by
  obtain ⟨z, T, e, t⟩ := h
  exact ⟨z, T, fn_eq hl ((cons_eq hs).trans (cons_rt (by rw [r_sRet, e]))), t⟩
theorem comp_refs {α : Type} {n : Nat} {own : List Nat} {it : IFn} {t : Tg} {f : EF} {env : Lv.Env} {S S1 : Sto} {xs : List α} {enc : α → D} (h : α → D) (hit : it env S = some (.fix (xs.map enc), S1)) (hn : xs.length < n) (hl : xs.length ≤ 1000000)
    (hb : ∀ x ∈ xs, ∀ S' : Sto, ∃ e1, setTg t (enc x) (wipeE env own) = some e1 ∧ f e1 S' = some (h x, S')) : eComp true n own it t tYesF f env S = some (.ref S1.length, S1 ++ [.lst (xs.map h)]) := by
  unfold eComp
  rw [hit]
  dsimp only
  have hlen : (xs.map enc).length = xs.length := List.length_map _
  obtain ⟨acc, S', e, rfl, h1⟩ := compL_fix (t := t) (c := tYesF) (f := f) (kC := S1.length) (env := wipeE env own) (ds := xs.map enc)
    (fun i acc X => X = S1 ++ [.lst acc] ∧ acc = (xs.take i).map h)
    (by rintro i acc X ⟨rfl, _⟩; exact new_last) n 0 [] (S1 ++ [.lst []]) ⟨rfl, by simp⟩ (Nat.zero_le _) (by omega) (by
      rintro i d acc X hd ⟨rfl, h1⟩
      rw [List.getElem?_map] at hd
      cases hx : xs[i]? with
      | none => rw [hx] at hd; cases hd
      | some x =>
        rw [hx] at hd
        cases hd
        obtain ⟨e1, k1, k2⟩ := hb x (List.mem_of_getElem? hx) (S1 ++ [.lst acc])
        have hil := (List.getElem?_eq_some_iff.mp hx).1
        refine ⟨e1, k1, true, _, rfl, fun z => (by cases z), fun _ => ⟨h x, _, k2, new_last, Nat.lt_of_le_of_lt (show acc.length ≤ 1000000 by rw [h1, List.length_map, List.length_take]; omega) (by decide), set_last, ?_⟩⟩
        rw [List.take_add_one, hx, Option.toList_some, List.map_append, h1]
        rfl)
  rw [e, h1, hlen, List.take_length]
  rfl
theorem pRow_ne {rs : List Rg} : pRow rs ≠ .str mk := fun e => by cases e
theorem pORow_ne {o : Option (List Rg)} : pORow o ≠ .str mk := fun e => by cases o <;> cases e
theorem row_tells {S : Sto} {rs : List Rg} (hl : rs.length ≤ 1000) : Tells 3 S (pRow rs) (some (.ref S.length, S ++ [.lst (rs.map dR)])) := ⟨_, _, rfl, (flts (k := 2) (n0 := S.length) fun r _ => flt_dR).list (Nat.le_refl _) (by rw [List.length_map]; exact hl) (fun e => by
  have := List.mem_of_getLast? e
  obtain ⟨r, _, h⟩ := List.mem_map.mp this
  cases h)⟩
section
variable {fu : Nat} {S : Sto}
theorem w_copied (o : Option (List Rg)) (hl : ∀ rs, o = some rs → rs.length ≤ 1000) : Tells 3 S (pORow o) (Cw.w_copied_row fu [dORow o] S) := by
  refine tells_sealedW (fn_ret rfl ?_) (by decide)
  cases o with
  | none =>
    have e : ∀ g : EF, eIf (truB (eBin (gIsN false) (eVar 0) (eC .non))) (eC .non) g (startE 1 [dORow none]) S = some (.non, S) := fun g => rfl
    rw [e]
    exact tells_flt flt_non
  | some rs =>
    have e : ∀ g : EF, eIf (truB (eBin (gIsN false) (eVar 0) (eC .non))) g (eCall (cListOf true) (aCons (eVar 0) aNil)) (startE 1 [dORow (some rs)]) S = some (.ref S.length, S ++ [.lst (rs.map dR)]) := fun g => rfl
    rw [e]
    exact row_tells (hl rs rfl)
theorem w_joined_rows_t (hf : 10000 ≤ fu) {rs qs : List Rg} (hl : rs.length ≤ 1000) : Tells 3 S (pRow (joinRow rs qs)) (Cw.w_joined_rows fu [dRow rs, dRow qs] S) := by
  refine tells_sealedW (fn_ret rfl ?_) (by decide)
  have hz := zip_len (a := rs) (b := qs)
  have e := comp_refs (n := fu) (own := [2, 3]) (it := iZipA2 (aCons (eVar 0) (aCons (eVar 1) aNil))) (t := .tp [2, 3]) (f := eCall (c_joined fu) (aCons (eVar 2) (aCons (eVar 3) aNil))) (env := startE 4 [dRow rs, dRow qs]) (S := S) (S1 := S) (xs := rs.zip qs) (enc := fun p => .tup [dR p.1, dR p.2]) (fun p => dR (joinR p.1 p.2)) (by
      unfold iZipA2 iZipF
      simp only [r_sCons, r_sIf, r_tAnd, r_tOr, r_tNot, r_truB, r_truF, r_truD_bl, r_eBin, r_eVar, r_eC, r_eCall, r_eCallK, r_aCons, r_aNil, r_eAnd, r_eOr, r_eNotT, r_eIf, r_eNeg, r_eChain, r_sNil, r_sDrop, r_sRet, r_sSet, r_sAsg, r_sPar, r_nm, r_tp, r_sets, r_sets0, List.getElem?_cons_zero, List.getElem?_cons_succ, List.set_cons_zero, List.set_cons_succ, List.length_cons, List.length_nil, List.map_cons, List.map_nil, List.cons_append, List.nil_append, Nat.zero_add, Nat.reduceAdd, Nat.sub_self, Nat.reduceSub, Nat.add_zero, List.reduceReplicate, List.replicate_zero, List.append_nil, if_true, if_false, Bool.false_eq_true, Bool.not_true, Bool.not_false, Bool.true_and, Bool.and_true, Bool.false_and, Bool.and_false, Bool.or_true, Bool.true_or, Bool.false_or, Bool.or_false, reduceIte, r_fnF, r_sealed, r_start, t_tup0, t_tup1, t_tup2, t_tup3, t_tup4, t_lst0, t_lst1, t_lst2, t_lst3, t_lst4, t_lst5, t_lst6, t_lst7, t_lst8, t_lst9, t_lst10, r_mkV, r_mkR, r_isN, r_non0, r_non1, r_non2, r_non3, r_non4, r_non5, r_non6, isi_int, isi_intb, isi_tup, isi_str, isi_vl, isi_ints, isi_tups, r_cmp2i, r_cmp2t, r_cmpI, r_eqv_int, r_eqv_str, r_add, r_sub, r_arith, r_ix_tup, r_ix_vl, r_len_tup, r_len_vl, r_cInt, r_cMin, r_cMax, r_lof_vl, r_lof_tup, r_tof_vl, r_tof_tup, r_truD_vl, r_truD_tup, r_truD_int, r_truD_non, r_oSome, r_oNone, r_eSl, r_sl_vl, r_sl_tup, r_iAny, r_eMethL, r_isRef_vl, ix20, ix21, nr_int, nr_bl, nr_non, nr_str, nr_tup, nr_vl, nrs_nil, nrs_cons, shut_same, pick_nil, pick_cons, decide_true, decide_false, dRow, r_sq_vl, zip_rows]) (by omega) (by omega) (fun p hp S' => ⟨[some (dRow rs), some (dRow qs), some (dR p.1), some (dR p.2)], rfl, by simp only [r_eCall, r_aCons, r_aNil, r_eVar, List.getElem?_cons_zero, List.getElem?_cons_succ, join_ok]⟩)
  have hm : (rs.zip qs).map (fun p => dR (joinR p.1 p.2)) = (joinRow rs qs).map dR := by unfold joinRow; rw [List.map_map]; rfl
  rw [hm] at e
  have := row_tells (S := S) (rs := joinRow rs qs) (by unfold joinRow; rw [List.length_map]; omega)
  rwa [← e] at this
theorem w_row_joined_t (hf : 10000 ≤ fu) {p : Prg} {rs qs : List Rg} (h : OkPRR p rs qs) : Tells 3 S (pRow (joinRow rs qs)) (Cw.w_row_joined fu [dP p, dRow rs, dRow qs] S) := by
  have n := h.need (S := S) hf
  have e := w_joined_rows_t (S := S) (qs := qs) hf h.len
  refine tells_sealedW (fn_ret1 rfl (by simp only [r_sCons, r_sIf, r_tAnd, r_tOr, r_tNot, r_truB, r_truF, r_truD_bl, r_eBin, r_eVar, r_eC, r_eCall, r_eCallK, r_aCons, r_aNil, r_eAnd, r_eOr, r_eNotT, r_eIf, r_eNeg, r_eChain, r_sNil, r_sDrop, r_sRet, r_sSet, r_sAsg, r_sPar, r_nm, r_tp, r_sets, r_sets0, List.getElem?_cons_zero, List.getElem?_cons_succ, List.set_cons_zero, List.set_cons_succ, List.length_cons, List.length_nil, List.map_cons, List.map_nil, List.cons_append, List.nil_append, Nat.zero_add, Nat.reduceAdd, Nat.sub_self, Nat.reduceSub, Nat.add_zero, List.reduceReplicate, List.replicate_zero, List.append_nil, if_true, if_false, Bool.false_eq_true, Bool.not_true, Bool.not_false, Bool.true_and, Bool.and_true, Bool.false_and, Bool.and_false, Bool.or_true, Bool.true_or, Bool.false_or, Bool.or_false, reduceIte, r_fnF, r_sealed, r_start, t_tup0, t_tup1, t_tup2, t_tup3, t_tup4, t_lst0, t_lst1, t_lst2, t_lst3, t_lst4, t_lst5, t_lst6, t_lst7, t_lst8, t_lst9, t_lst10, r_mkV, r_mkR, r_isN, r_non0, r_non1, r_non2, r_non3, r_non4, r_non5, r_non6, isi_int, isi_intb, isi_tup, isi_str, isi_vl, isi_ints, isi_tups, r_cmp2i, r_cmp2t, r_cmpI, r_eqv_int, r_eqv_str, r_add, r_sub, r_arith, r_ix_tup, r_ix_vl, r_len_tup, r_len_vl, r_cInt, r_cMin, r_cMax, r_lof_vl, r_lof_tup, r_tof_vl, r_tof_tup, r_truD_vl, r_truD_tup, r_truD_int, r_truD_non, r_oSome, r_oNone, r_eSl, r_sl_vl, r_sl_tup, r_iAny, r_eMethL, r_isRef_vl, ix20, ix21, nr_int, nr_bl, nr_non, nr_str, nr_tup, nr_vl, nrs_nil, nrs_cons, shut_same, pick_nil, pick_cons, decide_true, decide_false, n]) ?_) (by decide)
  have : eCall (Cw.w_joined_rows fu) (aCons (eVar 1) (aCons (eVar 2) aNil)) (startE 3 [dP p, dRow rs, dRow qs]) S = Cw.w_joined_rows fu [dRow rs, dRow qs] S := rfl
  rw [this]
  exact e
theorem w_met_rows_t (hf : 10000 ≤ fu) {rs qs : List Rg} (hl : rs.length ≤ 1000) : Tells 3 S (pORow (metRow rs qs)) (Cw.w_met_rows fu [dRow rs, dRow qs] S) := by
  refine tells_sealedW ?_ (by decide)
  have hz := zip_len (a := rs) (b := qs)
  have e := comp_refs (n := fu) (own := [3, 4]) (it := iZipA2 (aCons (eVar 0) (aCons (eVar 1) aNil))) (t := .tp [3, 4]) (f := eCall (c_met fu) (aCons (eVar 3) (aCons (eVar 4) aNil))) (env := startE 5 [dRow rs, dRow qs]) (S := S) (S1 := S) (xs := rs.zip qs) (enc := fun p => .tup [dR p.1, dR p.2]) (fun p => dOR (metR p.1 p.2)) (by
      unfold iZipA2 iZipF
      simp only [r_sCons, r_sIf, r_tAnd, r_tOr, r_tNot, r_truB, r_truF, r_truD_bl, r_eBin, r_eVar, r_eC, r_eCall, r_eCallK, r_aCons, r_aNil, r_eAnd, r_eOr, r_eNotT, r_eIf, r_eNeg, r_eChain, r_sNil, r_sDrop, r_sRet, r_sSet, r_sAsg, r_sPar, r_nm, r_tp, r_sets, r_sets0, List.getElem?_cons_zero, List.getElem?_cons_succ, List.set_cons_zero, List.set_cons_succ, List.length_cons, List.length_nil, List.map_cons, List.map_nil, List.cons_append, List.nil_append, Nat.zero_add, Nat.reduceAdd, Nat.sub_self, Nat.reduceSub, Nat.add_zero, List.reduceReplicate, List.replicate_zero, List.append_nil, if_true, if_false, Bool.false_eq_true, Bool.not_true, Bool.not_false, Bool.true_and, Bool.and_true, Bool.false_and, Bool.and_false, Bool.or_true, Bool.true_or, Bool.false_or, Bool.or_false, reduceIte, r_fnF, r_sealed, r_start, t_tup0, t_tup1, t_tup2, t_tup3, t_tup4, t_lst0, t_lst1, t_lst2, t_lst3, t_lst4, t_lst5, t_lst6, t_lst7, t_lst8, t_lst9, t_lst10, r_mkV, r_mkR, r_isN, r_non0, r_non1, r_non2, r_non3, r_non4, r_non5, r_non6, isi_int, isi_intb, isi_tup, isi_str, isi_vl, isi_ints, isi_tups, r_cmp2i, r_cmp2t, r_cmpI, r_eqv_int, r_eqv_str, r_add, r_sub, r_arith, r_ix_tup, r_ix_vl, r_len_tup, r_len_vl, r_cInt, r_cMin, r_cMax, r_lof_vl, r_lof_tup, r_tof_vl, r_tof_tup, r_truD_vl, r_truD_tup, r_truD_int, r_truD_non, r_oSome, r_oNone, r_eSl, r_sl_vl, r_sl_tup, r_iAny, r_eMethL, r_isRef_vl, ix20, ix21, nr_int, nr_bl, nr_non, nr_str, nr_tup, nr_vl, nrs_nil, nrs_cons, shut_same, pick_nil, pick_cons, decide_true, decide_false, dRow, r_sq_vl, zip_rows]) (by omega) (by omega) (fun p hp S' => ⟨[some (dRow rs), some (dRow qs), none, some (dR p.1), some (dR p.2)], rfl, by simp only [r_eCall, r_aCons, r_aNil, r_eVar, List.getElem?_cons_zero, List.getElem?_cons_succ, met_ok]⟩)
  have hm : (rs.zip qs).map (fun p => dOR (metR p.1 p.2)) = (metL rs qs).map dOR := by unfold metL; rw [List.map_map]; rfl
  rw [hm] at e
  have ni := none_in (S := S ++ [.lst ((metL rs qs).map dOR)]) (os := metL rs qs) (k := S.length) new_last
  have s1 := cons_eq (f := sSet 2 (eComp true fu [3, 4] (iZipA2 (aCons (eVar 0) (aCons (eVar 1) aNil))) (.tp [3, 4]) tYesF (eCall (c_met fu) (aCons (eVar 3) (aCons (eVar 4) aNil))))) (g := sCons (sRet (eIf (truB (eBin (gIn2 false) (eC .non) (eVar 2))) (eC .non) (eVar 2))) sNil) (env := startE 5 [dRow rs, dRow qs]) (S := S) (by rw [r_sSet, e])
  unfold metRow
  cases q : (metL rs qs).any Option.isNone with
  | true =>
    rw [q] at ni
    refine ⟨.non, [.lst ((metL rs qs).map dOR)], fn_eq rfl (s1.trans (cons_rt ?_)), (flt_non (k := 2)).told⟩
    have t : eBin (gIn2 false) (eC .non) (eVar 2) ((startE 5 [dRow rs, dRow qs]).set 2 (some (.ref S.length))) (S ++ [.lst ((metL rs qs).map dOR)]) = some (.bl true, S ++ [.lst ((metL rs qs).map dOR)]) := ni
    rw [r_sRet, r_eIf, r_truB, t]
    rfl
  | false =>
    rw [q] at ni
    have hr := row_tells (S := S) (rs := (metL rs qs).map fun o => o.getD (none, none)) (by rw [List.length_map]; exact Nat.le_trans metL_len hl)
    rw [← met_list q] at hr
    obtain ⟨z, T, e1, t1⟩ := hr
    refine ⟨z, T, fn_eq rfl (s1.trans (cons_rt ?_)), t1⟩
    have t : eBin (gIn2 false) (eC .non) (eVar 2) ((startE 5 [dRow rs, dRow qs]).set 2 (some (.ref S.length))) (S ++ [.lst ((metL rs qs).map dOR)]) = some (.bl false, S ++ [.lst ((metL rs qs).map dOR)]) := ni
    have t2 : eVar 2 ((startE 5 [dRow rs, dRow qs]).set 2 (some (.ref S.length))) (S ++ [.lst ((metL rs qs).map dOR)]) = some (.ref S.length, S ++ [.lst ((metL rs qs).map dOR)]) := rfl
    rw [r_sRet, r_eIf, r_truB, t]
    dsimp only
    rw [t2]
    obtain ⟨e2, e3⟩ := Prod.mk.inj (Option.some.inj e1)
    rw [← e2]
    dsimp only
    rw [e3]
theorem w_row_met_t (hf : 10000 ≤ fu) {p : Prg} {rs qs : List Rg} (h : OkPRR p rs qs) : Tells 3 S (pORow (metRow rs qs)) (Cw.w_row_met fu [dP p, dRow rs, dRow qs] S) := by
  have n := h.need (S := S) hf
  have e := w_met_rows_t (S := S) (qs := qs) hf h.len
  refine tells_sealedW (fn_ret1 rfl (by simp only [r_sCons, r_sIf, r_tAnd, r_tOr, r_tNot, r_truB, r_truF, r_truD_bl, r_eBin, r_eVar, r_eC, r_eCall, r_eCallK, r_aCons, r_aNil, r_eAnd, r_eOr, r_eNotT, r_eIf, r_eNeg, r_eChain, r_sNil, r_sDrop, r_sRet, r_sSet, r_sAsg, r_sPar, r_nm, r_tp, r_sets, r_sets0, List.getElem?_cons_zero, List.getElem?_cons_succ, List.set_cons_zero, List.set_cons_succ, List.length_cons, List.length_nil, List.map_cons, List.map_nil, List.cons_append, List.nil_append, Nat.zero_add, Nat.reduceAdd, Nat.sub_self, Nat.reduceSub, Nat.add_zero, List.reduceReplicate, List.replicate_zero, List.append_nil, if_true, if_false, Bool.false_eq_true, Bool.not_true, Bool.not_false, Bool.true_and, Bool.and_true, Bool.false_and, Bool.and_false, Bool.or_true, Bool.true_or, Bool.false_or, Bool.or_false, reduceIte, r_fnF, r_sealed, r_start, t_tup0, t_tup1, t_tup2, t_tup3, t_tup4, t_lst0, t_lst1, t_lst2, t_lst3, t_lst4, t_lst5, t_lst6, t_lst7, t_lst8, t_lst9, t_lst10, r_mkV, r_mkR, r_isN, r_non0, r_non1, r_non2, r_non3, r_non4, r_non5, r_non6, isi_int, isi_intb, isi_tup, isi_str, isi_vl, isi_ints, isi_tups, r_cmp2i, r_cmp2t, r_cmpI, r_eqv_int, r_eqv_str, r_add, r_sub, r_arith, r_ix_tup, r_ix_vl, r_len_tup, r_len_vl, r_cInt, r_cMin, r_cMax, r_lof_vl, r_lof_tup, r_tof_vl, r_tof_tup, r_truD_vl, r_truD_tup, r_truD_int, r_truD_non, r_oSome, r_oNone, r_eSl, r_sl_vl, r_sl_tup, r_iAny, r_eMethL, r_isRef_vl, ix20, ix21, nr_int, nr_bl, nr_non, nr_str, nr_tup, nr_vl, nrs_nil, nrs_cons, shut_same, pick_nil, pick_cons, decide_true, decide_false, n]) ?_) (by decide)
  have : eCall (Cw.w_met_rows fu) (aCons (eVar 1) (aCons (eVar 2) aNil)) (startE 3 [dP p, dRow rs, dRow qs]) S = Cw.w_met_rows fu [dRow rs, dRow qs] S := rfl
  rw [this]
  exact e
theorem w_joined_at_t (hf : 10000 ≤ fu) {a b : Option (List Rg)} (ha : ∀ rs, a = some rs → rs.length ≤ 1000) (hb : ∀ rs, b = some rs → rs.length ≤ 1000) : Tells 3 S (pORow (joinO a b)) (Cw.w_joined_at_place fu [dORow a, dORow b] S) := by
  refine tells_sealedW ?_ (by decide)
  have one : ∀ (o : Option (List Rg)), (∀ rs, o = some rs → rs.length ≤ 1000) → eIf (truB (eBin (gIsN false) (eVar 0) (eC .non))) (eVar 1) (eVar 0) (startE 2 [dORow a, dORow b]) S = some (dORow o, S) → (tOrF (truB (eBin (gIsN false) (eVar 0) (eC .non))) (truB (eBin (gIsN false) (eVar 1) (eC .non)))) (startE 2 [dORow a, dORow b]) S = some (true, S) → Tells 3 S (pORow o) (Cw.uw_joined_at_place fu [dORow a, dORow b] S) := fun o ho e t => by
    obtain ⟨z, T, e1, t1⟩ := w_copied (fu := fu) (S := S) o ho
    refine ⟨z, T, fn_eq rfl (cons_rt ?_), t1⟩
    rw [r_sIf, t]
    dsimp only
    refine cons_rt ?_
    rw [r_sRet, r_eCall, r_aCons, e]
    dsimp only
    rw [r_aNil]
    dsimp only
    rw [e1]
  cases a with
  | none => exact one b hb rfl rfl
  | some rs =>
    cases b with
    | none => exact one (some rs) ha rfl rfl
    | some qs =>
      obtain ⟨z, T, e1, t1⟩ := w_joined_rows_t (S := S) (rs := rs) (qs := qs) hf (ha rs rfl)
      have t : (tOrF (truB (eBin (gIsN false) (eVar 0) (eC .non))) (truB (eBin (gIsN false) (eVar 1) (eC .non)))) (startE 2 [dORow (some rs), dORow (some qs)]) S = some (false, S) := rfl
      refine ⟨z, T, fn_eq rfl ((cons_eq (S1 := S) (e1 := startE 2 [dORow (some rs), dORow (some qs)]) ?_).trans (cons_rt ?_)), t1⟩
      · rw [r_sIf, t]
        rfl
      · have c : eCall (Cw.w_joined_rows fu) (aCons (eVar 0) (aCons (eVar 1) aNil)) (startE 2 [dORow (some rs), dORow (some qs)]) S = Cw.w_joined_rows fu [dRow rs, dRow qs] S := rfl
        rw [r_sRet, c, e1]
theorem w_met_at_t (hf : 10000 ≤ fu) {a b : Option (List Rg)} (ha : ∀ rs, a = some rs → rs.length ≤ 1000) : Tells 3 S (pORow (metO a b)) (Cw.w_met_at_place fu [dORow a, dORow b] S) := by
  refine tells_sealedW (fn_ret rfl ?_) (by decide)
  cases a with
  | none => exact tells_flt (flt_non (k := 2))
  | some rs =>
    cases b with
    | none => exact tells_flt (flt_non (k := 2))
    | some qs =>
      have c : ∀ g : EF, eIf (tOrF (truB (eBin (gIsN false) (eVar 0) (eC .non))) (truB (eBin (gIsN false) (eVar 1) (eC .non)))) g (eCall (Cw.w_met_rows fu) (aCons (eVar 0) (aCons (eVar 1) aNil))) (startE 2 [dORow (some rs), dORow (some qs)]) S = Cw.w_met_rows fu [dRow rs, dRow qs] S := fun g => rfl
      rw [c]
      exact w_met_rows_t hf (ha rs rfl)
def pTab (T : Tb) : PyData := .list (T.map pORow)
theorem tabs_told (hf : 10000 ≤ fu) {f : CF} {g : Option (List Rg) → Option (List Rg) → Option (List Rg)} {T U : Tb} {a : Option D} (hl : T.length ≤ 1000) (hc : ∀ p ∈ T.zip U, ∀ S, Tells 3 S (pORow (g p.1 p.2)) (f [dORow p.1, dORow p.2] S)) :
    Tells 4 S (pTab ((T.zip U).map fun p => g p.1 p.2)) (eComp true fu [3, 4] (iZipA2 (aCons (eVar 1) (aCons (eVar 2) aNil))) (.tp [3, 4]) tYesF (eCall f (aCons (eVar 3) (aCons (eVar 4) aNil))) [a, some (dT T), some (dT U), none, none] S) := by
  have hz := zip_len (a := T) (b := U)
  have e := comp_told (k := 3) (n := fu) (own := [3, 4]) (it := iZipA2 (aCons (eVar 1) (aCons (eVar 2) aNil))) (t := .tp [3, 4]) (f := eCall f (aCons (eVar 3) (aCons (eVar 4) aNil))) (env := [a, some (dT T), some (dT U), none, none]) (S := S) (S1 := S) (xs := T.zip U) (enc := fun p => .tup [dORow p.1, dORow p.2]) (fun p => pORow (g p.1 p.2)) (by
      unfold iZipA2 iZipF
      simp only [r_sCons, r_sIf, r_tAnd, r_tOr, r_tNot, r_truB, r_truF, r_truD_bl, r_eBin, r_eVar, r_eC, r_eCall, r_eCallK, r_aCons, r_aNil, r_eAnd, r_eOr, r_eNotT, r_eIf, r_eNeg, r_eChain, r_sNil, r_sDrop, r_sRet, r_sSet, r_sAsg, r_sPar, r_nm, r_tp, r_sets, r_sets0, List.getElem?_cons_zero, List.getElem?_cons_succ, List.set_cons_zero, List.set_cons_succ, List.length_cons, List.length_nil, List.map_cons, List.map_nil, List.cons_append, List.nil_append, Nat.zero_add, Nat.reduceAdd, Nat.sub_self, Nat.reduceSub, Nat.add_zero, List.reduceReplicate, List.replicate_zero, List.append_nil, if_true, if_false, Bool.false_eq_true, Bool.not_true, Bool.not_false, Bool.true_and, Bool.and_true, Bool.false_and, Bool.and_false, Bool.or_true, Bool.true_or, Bool.false_or, Bool.or_false, reduceIte, r_fnF, r_sealed, r_start, t_tup0, t_tup1, t_tup2, t_tup3, t_tup4, t_lst0, t_lst1, t_lst2, t_lst3, t_lst4, t_lst5, t_lst6, t_lst7, t_lst8, t_lst9, t_lst10, r_mkV, r_mkR, r_isN, r_non0, r_non1, r_non2, r_non3, r_non4, r_non5, r_non6, isi_int, isi_intb, isi_tup, isi_str, isi_vl, isi_ints, isi_tups, r_cmp2i, r_cmp2t, r_cmpI, r_eqv_int, r_eqv_str, r_add, r_sub, r_arith, r_ix_tup, r_ix_vl, r_len_tup, r_len_vl, r_cInt, r_cMin, r_cMax, r_lof_vl, r_lof_tup, r_tof_vl, r_tof_tup, r_truD_vl, r_truD_tup, r_truD_int, r_truD_non, r_oSome, r_oNone, r_eSl, r_sl_vl, r_sl_tup, r_iAny, r_eMethL, r_isRef_vl, ix20, ix21, nr_int, nr_bl, nr_non, nr_str, nr_tup, nr_vl, nrs_nil, nrs_cons, shut_same, pick_nil, pick_cons, decide_true, decide_false, dT, r_sq_vl, zip_tabs]) (by omega) (by omega) (fun p hp => ⟨[a, some (dT T), some (dT U), some (dORow p.1), some (dORow p.2)], rfl, fun X _ _ => hc p hp X⟩) (fun p _ => pORow_ne)
  unfold pTab
  rw [List.map_map]
  exact e
theorem w_table_met_t (hf : 10000 ≤ fu) {p : Prg} {T U : Tb} (h : OkPTT p T U) : Tells 4 S (pTab (metT T U)) (Cw.w_table_met fu [dP p, dT T, dT U] S) := by
  have n := need_tables_ok (S := S) hf h
  exact tells_sealedW (fn_ret1 rfl (by simp only [r_sCons, r_sIf, r_tAnd, r_tOr, r_tNot, r_truB, r_truF, r_truD_bl, r_eBin, r_eVar, r_eC, r_eCall, r_eCallK, r_aCons, r_aNil, r_eAnd, r_eOr, r_eNotT, r_eIf, r_eNeg, r_eChain, r_sNil, r_sDrop, r_sRet, r_sSet, r_sAsg, r_sPar, r_nm, r_tp, r_sets, r_sets0, List.getElem?_cons_zero, List.getElem?_cons_succ, List.set_cons_zero, List.set_cons_succ, List.length_cons, List.length_nil, List.map_cons, List.map_nil, List.cons_append, List.nil_append, Nat.zero_add, Nat.reduceAdd, Nat.sub_self, Nat.reduceSub, Nat.add_zero, List.reduceReplicate, List.replicate_zero, List.append_nil, if_true, if_false, Bool.false_eq_true, Bool.not_true, Bool.not_false, Bool.true_and, Bool.and_true, Bool.false_and, Bool.and_false, Bool.or_true, Bool.true_or, Bool.false_or, Bool.or_false, reduceIte, r_fnF, r_sealed, r_start, t_tup0, t_tup1, t_tup2, t_tup3, t_tup4, t_lst0, t_lst1, t_lst2, t_lst3, t_lst4, t_lst5, t_lst6, t_lst7, t_lst8, t_lst9, t_lst10, r_mkV, r_mkR, r_isN, r_non0, r_non1, r_non2, r_non3, r_non4, r_non5, r_non6, isi_int, isi_intb, isi_tup, isi_str, isi_vl, isi_ints, isi_tups, r_cmp2i, r_cmp2t, r_cmpI, r_eqv_int, r_eqv_str, r_add, r_sub, r_arith, r_ix_tup, r_ix_vl, r_len_tup, r_len_vl, r_cInt, r_cMin, r_cMax, r_lof_vl, r_lof_tup, r_tof_vl, r_tof_tup, r_truD_vl, r_truD_tup, r_truD_int, r_truD_non, r_oSome, r_oNone, r_eSl, r_sl_vl, r_sl_tup, r_iAny, r_eMethL, r_isRef_vl, ix20, ix21, nr_int, nr_bl, nr_non, nr_str, nr_tup, nr_vl, nrs_nil, nrs_cons, shut_same, pick_nil, pick_cons, decide_true, decide_false, n]) (tabs_told (a := some (dP p)) hf (tab_len h.t) fun q hq S => w_met_at_t hf (row_lens h.t _ (mem_zip hq).1))) (by decide)
theorem w_table_joined_t (hf : 10000 ≤ fu) {p : Prg} {T U : Tb} (h : OkPTT p T U) : Tells 4 S (pTab (joinT T U)) (Cw.w_table_joined fu [dP p, dT T, dT U] S) := by
  have n := need_tables_ok (S := S) hf h
  exact tells_sealedW (fn_ret1 rfl (by simp only [r_sCons, r_sIf, r_tAnd, r_tOr, r_tNot, r_truB, r_truF, r_truD_bl, r_eBin, r_eVar, r_eC, r_eCall, r_eCallK, r_aCons, r_aNil, r_eAnd, r_eOr, r_eNotT, r_eIf, r_eNeg, r_eChain, r_sNil, r_sDrop, r_sRet, r_sSet, r_sAsg, r_sPar, r_nm, r_tp, r_sets, r_sets0, List.getElem?_cons_zero, List.getElem?_cons_succ, List.set_cons_zero, List.set_cons_succ, List.length_cons, List.length_nil, List.map_cons, List.map_nil, List.cons_append, List.nil_append, Nat.zero_add, Nat.reduceAdd, Nat.sub_self, Nat.reduceSub, Nat.add_zero, List.reduceReplicate, List.replicate_zero, List.append_nil, if_true, if_false, Bool.false_eq_true, Bool.not_true, Bool.not_false, Bool.true_and, Bool.and_true, Bool.false_and, Bool.and_false, Bool.or_true, Bool.true_or, Bool.false_or, Bool.or_false, reduceIte, r_fnF, r_sealed, r_start, t_tup0, t_tup1, t_tup2, t_tup3, t_tup4, t_lst0, t_lst1, t_lst2, t_lst3, t_lst4, t_lst5, t_lst6, t_lst7, t_lst8, t_lst9, t_lst10, r_mkV, r_mkR, r_isN, r_non0, r_non1, r_non2, r_non3, r_non4, r_non5, r_non6, isi_int, isi_intb, isi_tup, isi_str, isi_vl, isi_ints, isi_tups, r_cmp2i, r_cmp2t, r_cmpI, r_eqv_int, r_eqv_str, r_add, r_sub, r_arith, r_ix_tup, r_ix_vl, r_len_tup, r_len_vl, r_cInt, r_cMin, r_cMax, r_lof_vl, r_lof_tup, r_tof_vl, r_tof_tup, r_truD_vl, r_truD_tup, r_truD_int, r_truD_non, r_oSome, r_oNone, r_eSl, r_sl_vl, r_sl_tup, r_iAny, r_eMethL, r_isRef_vl, ix20, ix21, nr_int, nr_bl, nr_non, nr_str, nr_tup, nr_vl, nrs_nil, nrs_cons, shut_same, pick_nil, pick_cons, decide_true, decide_false, n]) (tabs_told (a := some (dP p)) hf (tab_len h.t) fun q hq S => w_joined_at_t hf (row_lens h.t _ (mem_zip hq).1) (row_lens h.second _ (mem_zip hq).2))) (by decide)
end
end Sp
namespace Sp
open PySem PySem.Spec PyProof.Rows L2 Lv Com
section
variable {fu : Nat} {S : Sto} {p : Prg} {U : Tp} {T : Tb}
end
end Sp
namespace Sp
open PySem PySem.Spec PyProof.Rows L2 Lv Com
section
variable {fu : Nat} {S : Sto} {p : Prg} {T : Tb} {m : Int}
end
end Sp
namespace Sp
open PySem PySem.Spec PyProof.Rows L2 Lv Com
section
variable {fu : Nat} {S : Sto}
end
end Sp
namespace Sp
open PySem PySem.Spec PyProof.Rows L2 Lv Com
section
variable {fu : Nat} {S : Sto}
end
end Sp
namespace Sp
open PySem PySem.Spec PyProof.Rows L2 Lv Com
structure Drawn (m : Int) (p : Prg) : Prop where
  n1 : 1 ≤ p.names.length
  n5 : p.names.length ≤ 5
  nm : ∀ z ∈ p.names, z ∈ menu
  ns : p.names.Pairwise LtS
  m1 : 1 ≤ p.many
  m9 : p.many ≤ 100
  sl : p.start.length = p.names.length
  s : ∀ r ∈ p.start, okR r = true ∧ BdR m r
  t : ∀ s ∈ p.steps, okS p.names p.many s = true ∧ BdD m s.deed
  tl : p.steps.length ≤ 30
theorem Drawn.ok {m : Int} {p : Prg} (h : Drawn m p) : okP p = true := by
  unfold okP
  simp only [Bool.and_eq_true, decide_eq_true_eq, List.all_eq_true]
  exact ⟨⟨namesB_of h.n1 h.nm h.ns, h.m1, h.sl, fun r hr => (h.s r hr).1⟩, fun s hs => (h.t s hs).1⟩
theorem Drawn.sm {m : Int} {p : Prg} (h : Drawn m p) : SmP p :=
  ⟨by have := h.n5; omega, fun z hz => (menu_nm z (h.nm z hz)).2, by have := h.sl; have := h.n5; omega, by have := h.tl; omega⟩
theorem sm_of {m i : Int} (h : -m ≤ i ∧ i ≤ m) (hm : m < 2 ^ 900) : Sm 1000 i := by
  unfold Sm
  omega
theorem smG_of {m : Int} {r : Rg} (h : BdR m r) (hm : m < 2 ^ 900) : SmG r := ⟨fun i e => sm_of (h.1 i e) hm, fun i e => sm_of (h.2 i e) hm⟩
theorem menu_words {z : Str} (h : z ∈ menu) : z ∈ words := List.mem_append_left _ h
theorem smDeed_of {m : Int} {zs : List Str} {d : Deed} (h : BdD m d) (hm : m < 2 ^ 900) (hd : okD zs d = true) (hz : ∀ z ∈ zs, z ∈ menu) : ∀ p ∈ dParts d, SmPart p := by
  have hi := in_of_ok hd
  have wd : ∀ {z : Str}, z ∈ zs → z ∈ words := fun h => menu_words (hz _ h)
  intro p hp
  cases d with
  | dgo => cases hp
  | dset x n =>
    simp only [dParts, List.mem_cons, List.not_mem_nil, or_false] at hp
    rcases hp with rfl | rfl
    · exact wd hi
    · exact sm_of h hm
  | dadd x y n =>
    simp only [dParts, List.mem_cons, List.not_mem_nil, or_false] at hp
    rcases hp with rfl | rfl | rfl
    · exact wd hi.1
    · exact wd hi.2
    · exact sm_of h hm
  | dturn x y n =>
    simp only [dParts, List.mem_cons, List.not_mem_nil, or_false] at hp
    rcases hp with rfl | rfl | rfl
    · exact wd hi.1
    · exact wd hi.2
    · exact sm_of h hm
  | dinput x r =>
    simp only [dParts, List.mem_cons, List.not_mem_nil, or_false] at hp
    rcases hp with rfl | rfl
    · exact wd hi
    · exact smG_of h.2 hm
  | dleast x y z =>
    simp only [dParts, List.mem_cons, List.not_mem_nil, or_false] at hp
    rcases hp with rfl | rfl | rfl
    · exact wd hi.1
    · exact wd hi.2.1
    · exact wd hi.2.2
  | dgreatest x y z =>
    simp only [dParts, List.mem_cons, List.not_mem_nil, or_false] at hp
    rcases hp with rfl | rfl | rfl
    · exact wd hi.1
    · exact wd hi.2.1
    · exact wd hi.2.2
  | dupto x n =>
    simp only [dParts, List.mem_cons, List.not_mem_nil, or_false] at hp
    rcases hp with rfl | rfl
    · exact wd hi
    · exact sm_of h hm
  | dfrom x n =>
    simp only [dParts, List.mem_cons, List.not_mem_nil, or_false] at hp
    rcases hp with rfl | rfl
    · exact wd hi
    · exact sm_of h hm
  | dbelow x y n =>
    simp only [dParts, List.mem_cons, List.not_mem_nil, or_false] at hp
    rcases hp with rfl | rfl | rfl
    · exact wd hi.1
    · exact wd hi.2.1
    · exact sm_of h hm
  | dequal x y n =>
    simp only [dParts, List.mem_cons, List.not_mem_nil, or_false] at hp
    rcases hp with rfl | rfl | rfl
    · exact wd hi.1
    · exact wd hi.2.1
    · exact sm_of h hm
theorem Drawn.smPr {m : Int} {p : Prg} (h : Drawn m p) (hm : m < 2 ^ 900) : SmPr p := by
  have hm9 := h.m9
  have hm1 := h.m1
  refine ⟨fun z hz => menu_words (h.nm z hz), h.n5, by unfold Sm; omega, fun r hr => smG_of (h.s r hr).2 hm, by rw [h.sl]; exact h.n5, fun s hs => ?_, h.tl⟩
  have hs' := h.t s hs
  have ho := hs'.1
  unfold okS inM at ho
  simp only [Bool.and_eq_true, decide_eq_true_eq] at ho
  exact ⟨by unfold Sm; omega, by unfold Sm; omega, smDeed_of hs'.2 hm ho.2.2 h.nm⟩
section
variable {fu : Nat} {S : Sto}
end
end Sp
namespace Sp
open PySem PySem.Spec PyProof.Rows L2 Lv Com
section
variable {fu : Nat} {S : Sto}
end
end Sp
namespace Sp
open PySem PySem.Spec PyProof.Rows L2 Lv Com
def absI (i : Int) : Int := if i < 0 then -i else i
section
variable {fu : Nat} {S : Sto}
def CovP (sp : List Rg) (ns : List Int) : Part → Prop
  | .pc i => absI i ∈ ns
  | .pr r => r ∈ sp
  | .pn _ => True
theorem CovP.mono {sp sp' : List Rg} {ns ns' : List Int} {p : Part} (h : CovP sp ns p) (h1 : ∀ r ∈ sp, r ∈ sp') (h2 : ∀ n ∈ ns, n ∈ ns') : CovP sp' ns' p := by
  cases p with
  | pc i => exact h2 _ h
  | pr r => exact h1 _ h
  | pn x => trivial
end
end Sp
namespace Sp
open PySem PySem.Spec PyProof.Rows L2 Lv Com
def Ul (u : Int) (e : End) : Prop := ∀ a, e = some a → a ≤ u
def Uh (u : Int) (e : End) : Prop := ∀ b, e = some b → -u ≤ b
def UB (u : Int) (r : Rg) : Prop := Ul u r.1 ∧ Uh u r.2
section
variable {u v : Int} {a b : End}
theorem Ul.mono (h : Ul u a) (hv : u ≤ v) : Ul v a := fun i e => by have := h i e; omega
theorem Uh.mono (h : Uh u a) (hv : u ≤ v) : Uh v a := fun i e => by have := h i e; omega
theorem UB.mono {r : Rg} (h : UB u r) (hv : u ≤ v) : UB v r := ⟨h.1.mono hv, h.2.mono hv⟩
end
section
variable {u G : Int} {zs : List Str} {rs us : List Rg} {r q : Rg}
theorem ok_met {x : Rg} (e : metR r q = some x) : okR x = true := by
  unfold metR at e
  split at e
  · rename_i h; cases e; exact h
  · cases e
end
end Sp
namespace Sp
open PySem PySem.Spec PyProof.Rows L2 Lv Com
def one : Option (List Rg) → Nat
  | none => 0
  | some _ => 1
theorem join_comm {r q : Rg} : joinR r q = joinR q r := by
  rcases r with ⟨a, b⟩
  rcases q with ⟨c, d⟩
  unfold joinR
  congr 1
  · rcases a with _ | a <;> rcases c with _ | c <;> try rfl
    simp only [ll, mn]
    congr 1
    split <;> split <;> omega
  · rcases b with _ | b <;> rcases d with _ | d <;> try rfl
    simp only [gh, mx]
    congr 1
    split <;> split <;> omega
end Sp
namespace Sp
open PySem PySem.Spec PyProof.Rows L2 Lv Com
section
variable {fu : Nat} {S : Sto}
end
end Sp
namespace Sp
open PySem PySem.Spec PyProof.Rows L2 Lv Com
section
variable {fu : Nat} {S : Sto}
end
end Sp
namespace Sp
open PySem PySem.Spec PyProof.Rows L2 Lv Com
section
variable {fu : Nat} {S : Sto}
def lim_ (n : Nat) (many E s : Int) : Int := mn ((2 * n * many + 1) * E) (4 * s + E) + 1
theorem lim_le {n : Nat} {many E G s : Int} (hn : 1 ≤ n) (hm : 1 ≤ many) (hm4 : many ≤ 4) (hG : 0 ≤ G) (hE : G ≤ E) (hs : G ≤ s) : E + many * G ≤ lim_ n many E s := by
  have e1 : many * G ≤ many * E := Int.mul_le_mul_of_nonneg_left hE (by omega)
  have e2 : many * G ≤ 4 * G := Int.mul_le_mul_of_nonneg_right hm4 hG
  have e3 : (2 * (n : Int) * many + 1) * E = 2 * ((n : Int) * (many * E)) + E := by
    rw [Int.add_mul, Int.one_mul, Int.mul_assoc, Int.mul_assoc]
  have hmE : 0 ≤ many * E := Int.mul_nonneg (by omega) (by omega)
  have e4 : 1 * (many * E) ≤ (n : Int) * (many * E) := Int.mul_le_mul_of_nonneg_right (by omega) hmE
  unfold lim_ mn
  split <;> omega
theorem lim_pos {n : Nat} {many E s : Int} (hm : 1 ≤ many) (hE : 0 ≤ E) (hs : 0 ≤ s) : 1 ≤ lim_ n many E s := by
  have h1 : 0 ≤ (2 * (n : Int) * many + 1) * E := Int.mul_nonneg (by have := Int.mul_nonneg (show (0 : Int) ≤ 2 * n by omega) (show 0 ≤ many by omega); omega) hE
  unfold lim_ mn
  split <;> omega
end
end Sp
namespace Sp
open PySem PySem.Spec PyProof.Rows L2 Lv Com
section
variable {a b c d : End} {n : Int}
end
section
variable {r q x y o : Rg} {n : Int}
end
section
variable {rs qs us : List Rg} {zs : List Str}
end
section
variable {p : Prg} {T U : Tb}
theorem joinRow_comm : ∀ {rs qs : List Rg}, joinRow rs qs = joinRow qs rs
  | [], [] => rfl
  | [], _ :: _ => rfl
  | _ :: _, [] => rfl
  | r :: rs, q :: qs => by
    show joinR r q :: joinRow rs qs = joinR q r :: joinRow qs rs
    rw [join_comm, joinRow_comm]
end
end Sp
namespace Sp
open PySem PySem.Spec PyProof.Rows L2 Lv Com
mutual
theorem ren_nr {n0 : Nat} {π : List Nat} : ∀ (d : D), noRef d = true → ren n0 π d = some d
  | .ref n, h => by cases h
  | .tup ds, h => by
    unfold ren
    rw [rens_nr ds (by simpa using h)]
  | .vl ds, h => by
    unfold ren
    rw [if_pos (by simpa using h)]
  | .kl ds, h => by
    unfold ren
    rw [if_pos (show noRefs ds = true from h)]
  | .ty s, _ => by unfold ren; rfl
  | .non, _ => by unfold ren; rfl
  | .bl b, _ => by unfold ren; rfl
  | .int i, _ => by unfold ren; rfl
  | .str x, _ => by unfold ren; rfl
theorem rens_nr {n0 : Nat} {π : List Nat} : ∀ (ds : List D), noRefs ds = true → rens n0 π ds = some ds
  | [], _ => by unfold rens; rfl
  | d :: ds, h => by
    rw [nrs_cons, Bool.and_eq_true] at h
    unfold rens
    rw [ren_nr d h.1]
    dsimp only
    rw [rens_nr ds h.2]
end
section
variable {fu : Nat} {S : Sto}
end
end Sp
namespace Sp
open PySem PySem.Spec PyProof.Rows L2 Lv Com
section
variable {fu : Nat} {S : Sto} {p : Prg} {T : Tb}
end
end Sp
namespace Sp
open PySem PySem.Spec PyProof.Rows L2 Lv Com
def Sh (X : Sto) (m : Nat) (d : D) (a : Option (List Rg)) : Prop := match a with
  | none => d = .non
  | some rs => ∃ n, d = .ref n ∧ m < n ∧ X[n]? = some (.lst (rs.map dR)) ∧ rs.length ≤ 1000
theorem Sh.grow {X T : Sto} {m : Nat} {d : D} {a : Option (List Rg)} (h : Sh X m d a) : Sh (X ++ T) m d a := by
  cases a with
  | none => exact h
  | some rs =>
    obtain ⟨n, h1, h2, h3, h4⟩ := h
    exact ⟨n, h1, h2, app_keep _ _ h3, h4⟩
theorem Sh.set {X : Sto} {m : Nat} {c : Cell} {d : D} {a : Option (List Rg)} (h : Sh X m d a) : Sh (X.set m c) m d a := by
  cases a with
  | none => exact h
  | some rs =>
    obtain ⟨n, h1, h2, h3, h4⟩ := h
    exact ⟨n, h1, h2, by rw [List.getElem?_set_ne (by omega)]; exact h3, h4⟩
theorem Sh.isNon {X : Sto} {m : Nat} {d : D} {a : Option (List Rg)} (h : Sh X m d a) : isNon d = a.isNone := by
  cases a with
  | none => cases h; rfl
  | some rs => obtain ⟨n, rfl, _⟩ := h; rfl
section
variable {fu : Nat} {S : Sto} {p : Prg} {T : Tb}
def Shs (X : Sto) (m : Nat) : List D → Tb → Prop
  | [], [] => True
  | d :: ds, a :: A => Sh X m d a ∧ Shs X m ds A ∧ (∀ n, d = .ref n → D.ref n ∉ ds)
  | _, _ => False
theorem Shs.len {X : Sto} {m : Nat} : ∀ {ds : List D} {A : Tb}, Shs X m ds A → ds.length = A.length
  | [], [], _ => rfl
  | d :: ds, a :: A, h => by rw [List.length_cons, List.length_cons, h.2.1.len]
  | [], _ :: _, h => h.elim
  | _ :: _, [], h => h.elim
theorem Shs.imp {X Y : Sto} {m : Nat} (hi : ∀ d a, Sh X m d a → Sh Y m d a) : ∀ {ds : List D} {A : Tb}, Shs X m ds A → Shs Y m ds A
  | [], [], _ => trivial
  | d :: ds, a :: A, h => ⟨hi d a h.1, Shs.imp hi h.2.1, h.2.2⟩
  | [], _ :: _, h => h.elim
  | _ :: _, [], h => h.elim
theorem Shs.get {X : Sto} {m : Nat} : ∀ {ds : List D} {A : Tb} {j : Nat}, Shs X m ds A → j < A.length → ∃ d, ds[j]? = some d ∧ Sh X m d (A.getD j none)
  | d :: ds, a :: A, 0, h, _ => ⟨d, rfl, h.1⟩
  | d :: ds, a :: A, j + 1, h, hj => by
    obtain ⟨e, h1, h2⟩ := h.2.1.get (j := j) (by rw [List.length_cons] at hj; omega)
    exact ⟨e, by rw [List.getElem?_cons_succ]; exact h1, by rw [List.getD_cons_succ]; exact h2⟩
  | [], [], j, _, hj => by cases hj
  | [], _ :: _, _, h, _ => h.elim
  | _ :: _, [], _, h, _ => h.elim
theorem Shs.lt {X : Sto} {m : Nat} : ∀ {ds : List D} {A : Tb}, Shs X m ds A → ∀ n, D.ref n ∈ ds → m < n ∧ n < X.length
  | d :: ds, a :: A, h, n, hn => by
    rcases List.mem_cons.mp hn with e | hn
    · subst e
      have h1 := h.1
      cases a with
      | none => cases h1
      | some rs =>
        obtain ⟨k, e, h2, h3, _⟩ := h1
        cases e
        exact ⟨h2, (List.getElem?_eq_some_iff.mp h3).1⟩
    · exact h.2.1.lt n hn
  | [], [], _, n, hn => by cases hn
  | [], _ :: _, h, _, _ => h.elim
  | _ :: _, [], h, _, _ => h.elim
theorem Shs.put {X : Sto} {m : Nat} {z : D} {o : Option (List Rg)} (hz : Sh X m z o) : ∀ {ds : List D} {A : Tb} {j : Nat}, Shs X m ds A → (∀ n, z = .ref n → D.ref n ∉ ds) → Shs X m (ds.set j z) (A.set j o)
  | [], [], _, _, _ => trivial
  | d :: ds, a :: A, 0, h, hn => ⟨hz, h.2.1, fun n e hm => hn n e (List.mem_cons_of_mem _ hm)⟩
  | d :: ds, a :: A, j + 1, h, hn => ⟨h.1, h.2.1.put hz fun n e hm => hn n e (List.mem_cons_of_mem _ hm), fun n e hm => by
    rcases List.mem_or_eq_of_mem_set hm with h1 | h1
    · exact h.2.2 n e h1
    · exact hn n h1.symm (by rw [e]; exact List.mem_cons_self)⟩
  | [], _ :: _, _, h, _ => h.elim
  | _ :: _, [], _, h, _ => h.elim
theorem Shs.told {X : Sto} {m : Nat} : ∀ {ds : List D} {A : Tb}, Shs X m ds A → ∃ α, LL (Tr 3 X) ds α ∧ mapO (toP 3 X) ds = some (A.map pORow) ∧ ∀ i ∈ α, m < i ∧ D.ref i ∈ ds
  | [], [], _ => ⟨[], rfl, rfl, fun i hi => by cases hi⟩
  | d :: ds, a :: A, h => by
    obtain ⟨γ, g1, g2, g3⟩ := h.2.1.told
    have h1 := h.1
    have h3 := h.2.2
    cases a with
    | none =>
      cases h1
      refine ⟨γ, ⟨[], γ, rfl, g1, rfl, fun i hi => by cases hi⟩, ?_, fun i hi => ⟨(g3 i hi).1, List.mem_cons_of_mem _ (g3 i hi).2⟩⟩
      unfold mapO
      rw [g2]
      rfl
    | some rs =>
      obtain ⟨n, rfl, k2, k3, k4⟩ := h1
      have fl := flt_all (k := 2) (S := X) (xs := rs) (enc := dR) (pe := pR) fun r _ => flt_dR
      refine ⟨n :: γ, ⟨[n], γ, ⟨rs.map dR, [], k3, fl.1, by simp, rfl, by rw [List.length_map]; exact k4, fun e => by
        have := List.mem_of_getLast? e
        obtain ⟨r, _, h⟩ := List.mem_map.mp this
        cases h⟩, g1, rfl, fun i hi hg => ?_⟩, ?_, fun i hi => ?_⟩
      · have := (g3 i hg).2
        cases List.mem_singleton.mp hi
        exact h3 _ rfl this
      · have e : toP 3 X (.ref n) = some (pRow rs) := by
          unfold toP
          rw [k3]
          dsimp only
          rw [show (Cell.lst (rs.map dR)).items = rs.map dR from rfl, fl.2]
          rfl
        unfold mapO
        rw [e, g2]
        rfl
      · rcases List.mem_cons.mp hi with rfl | hi
        · exact ⟨k2, List.mem_cons_self⟩
        · exact ⟨(g3 i hi).1, List.mem_cons_of_mem _ (g3 i hi).2⟩
  | [], _ :: _, h => h.elim
  | _ :: _, [], h => h.elim
end
end Sp
namespace Sp
open PySem PySem.Spec PyProof.Rows L2 Lv Com
section
variable {fu : Nat} {S : Sto} {p : Prg} {T : Tb}
structure Way (S X : Sto) (xs : List D) (A : Tb) : Prop where
  le : S.length < X.length
  tk : X.take S.length = S
  at_ : X[S.length]? = some (.lst xs)
  sh : Shs X S.length xs A
theorem Way.step {X : Sto} {xs : List D} {A : Tb} (w : Way S X xs A) {j : Nat} {o : Option (List Rg)} (ho : ∀ rs, o = some rs → rs.length ≤ 1000) : Way S ((cRow o X).2.set S.length (.lst (xs.set j (cRow o X).1))) (xs.set j (cRow o X).1) (A.set j o) := by
  obtain ⟨h1, h2, h3, h4⟩ := w
  have hT : ∃ T, (cRow o X).2 = X ++ T := by cases o with
    | none => exact ⟨[], (List.append_nil _).symm⟩
    | some rs => exact ⟨_, rfl⟩
  obtain ⟨T, hT⟩ := hT
  have hz : Sh (cRow o X).2 S.length (cRow o X).1 o := by
    cases o with
    | none => rfl
    | some rs => exact ⟨X.length, rfl, h1, new_last, ho rs rfl⟩
  have hf : ∀ n, (cRow o X).1 = .ref n → D.ref n ∉ xs := by
    intro n e hm
    cases o with
    | none => cases e
    | some rs =>
      cases e
      exact Nat.lt_irrefl _ (h4.lt _ hm).2
  rw [hT] at hz
  rw [hT]
  refine ⟨by rw [List.length_set, List.length_append]; omega, ?_, ?_, ?_⟩
  · rw [List.take_set_of_le (Nat.le_refl _), List.take_append_of_le_length (Nat.le_of_lt h1)]
    exact h2
  · rw [List.getElem?_set_self (by rw [List.length_append]; omega)]
  · exact (Shs.put hz (h4.imp fun d a h => h.grow) hf).imp fun d a h => h.set
theorem Way.told {X : Sto} {xs : List D} {A : Tb} (w : Way S X xs A) (hl : A.length ≤ 1000) : Told 4 S.length X (.ref S.length) (pTab A) := by
  obtain ⟨α, h1, h2, h3⟩ := w.sh.told
  refine ⟨S.length :: α, ⟨xs, α, w.at_, h1, fun hm => Nat.lt_irrefl _ (h3 _ hm).1, rfl, by rw [w.sh.len]; exact hl, ?_⟩, ?_, fun i hi => ?_⟩
  · exact last_mk h2 fun q hq e => by
      obtain ⟨o, _, rfl⟩ := List.mem_map.mp hq
      exact pORow_ne e
  · unfold toP
    rw [w.at_]
    dsimp only
    rw [show (Cell.lst xs).items = xs from rfl, h2]
    rfl
  · rcases List.mem_cons.mp hi with rfl | hi
    · exact Nat.le_refl _
    · exact Nat.le_of_lt (h3 i hi).1
end
end Sp
namespace Sp
open PySem PySem.Spec PyProof.Rows L2 Lv Com
section
variable {fu : Nat} {S : Sto}
end
end Sp
namespace Cz
open PySem PySem.Spec PyProof.Rows L2 Lv
noncomputable def b__law_within (fu : Nat) : SF := (sCons (sIf (tOrF (truB (eBin (gIsN false) (eVar 0) (eC .non))) (truB (eBin (gIsN false) (eVar 1) (eC .non)))) (sCons (sRet (eBin (gIsN false) (eVar 0) (eC .non))) sNil) sNil) (sCons (sSet 2 (eLzip false (aCons (eCall (Com.c__law_pairs fu) (aCons (eVar 0) aNil)) (aCons (eCall (Com.c__law_pairs fu) (aCons (eVar 1) aNil)) aNil)))) (sCons (sRet (eBin (gEqv false) (eComp false fu [3, 4] (iAny (eVar 2)) (.tp [3, 4]) (tOrF (truB (eBin (gCmp2 (fun i j => decide (i < j)) fLt) (eBin gIx (eVar 3) (eC (.int 0))) (eBin gIx (eVar 4) (eC (.int 0))))) (truB (eBin (gCmp2 (fun i j => decide (j < i)) fGt) (eBin gIx (eVar 3) (eC (.int 1))) (eBin gIx (eVar 4) (eC (.int 1)))))) (eC (.int 1))) (eCall (cLst false) aNil))) sNil)))
noncomputable def u__law_within (fu : Nat) : CF := fnF 2 5 (b__law_within fu)
noncomputable def c__law_within (fu : Nat) : CF := sealed (u__law_within fu)
noncomputable def b__law_joined (fu : Nat) : SF := (sCons (sIf (tOrF (truB (eBin (gIsN false) (eVar 0) (eC .non))) (truB (eBin (gIsN false) (eVar 1) (eC .non)))) (sCons (sRet (eIf (truB (eBin (gIsN false) (eVar 0) (eC .non))) (eVar 1) (eVar 0))) sNil) sNil) (sCons (sSet 2 (eLzip false (aCons (eCall (Com.c__law_pairs fu) (aCons (eVar 0) aNil)) (aCons (eCall (Com.c__law_pairs fu) (aCons (eVar 1) aNil)) aNil)))) (sCons (sRet (eCall (Com.c__law_ends fu) (aCons (eComp false fu [3, 4] (iAny (eVar 2)) (.tp [3, 4]) tYesF (eCall cTup (aCons (eCall cMin (aCons (eBin gIx (eVar 3) (eC (.int 0))) (aCons (eBin gIx (eVar 4) (eC (.int 0))) aNil))) (aCons (eCall cMax (aCons (eBin gIx (eVar 3) (eC (.int 1))) (aCons (eBin gIx (eVar 4) (eC (.int 1))) aNil))) aNil)))) aNil))) sNil)))
noncomputable def u__law_joined (fu : Nat) : CF := fnF 2 5 (b__law_joined fu)
noncomputable def c__law_joined (fu : Nat) : CF := sealed (u__law_joined fu)
noncomputable def b__law_met (fu : Nat) : SF := (sCons (sIf (tOrF (truB (eBin (gIsN false) (eVar 0) (eC .non))) (truB (eBin (gIsN false) (eVar 1) (eC .non)))) (sCons (sRet (eC .non)) sNil) sNil) (sCons (sSet 2 (eLzip false (aCons (eCall (Com.c__law_pairs fu) (aCons (eVar 0) aNil)) (aCons (eCall (Com.c__law_pairs fu) (aCons (eVar 1) aNil)) aNil)))) (sCons (sSet 3 (eComp false fu [4, 5] (iAny (eVar 2)) (.tp [4, 5]) tYesF (eCall cTup (aCons (eCall cMax (aCons (eBin gIx (eVar 4) (eC (.int 0))) (aCons (eBin gIx (eVar 5) (eC (.int 0))) aNil))) (aCons (eCall cMin (aCons (eBin gIx (eVar 4) (eC (.int 1))) (aCons (eBin gIx (eVar 5) (eC (.int 1))) aNil))) aNil))))) (sCons (sRet (eIf (truB (eBin (gEqv true) (eComp false fu [4, 5] (iAny (eVar 3)) (.tp [4, 5]) (truB (eBin (gCmp2 (fun i j => decide (j < i)) fGt) (eVar 4) (eVar 5))) (eC (.int 1))) (eCall (cLst false) aNil))) (eC .non) (eCall (Com.c__law_ends fu) (aCons (eVar 3) aNil)))) sNil))))
noncomputable def u__law_met (fu : Nat) : CF := fnF 2 6 (b__law_met fu)
noncomputable def c__law_met (fu : Nat) : CF := sealed (u__law_met fu)
end Cz
namespace Sp
open PySem PySem.Spec PyProof.Rows L2 Lv Com
section
variable {fu : Nat} {S : Sto} {rs qs : List Rg}
def BdL (k : Int) (rs : List Rg) : Prop := ∀ r ∈ rs, BdR k r
def dPP (p : Rg × Rg) : D := .tup [dPr (pr p.1), dPr (pr p.2)]
theorem zip_pp : ∀ {rs qs : List Rg}, zipD ((rs.map pr).map dPr) ((qs.map pr).map dPr) = (rs.zip qs).map dPP
  | [], _ => by simp [zipD]
  | _ :: _, [] => by simp [zipD]
  | r :: rs, q :: qs => by
    have := zip_pp (rs := rs) (qs := qs)
    unfold zipD at this ⊢
    simp only [List.map_cons, List.zipWith_cons_cons, List.zip_cons_cons, this]
    rfl
theorem lzip_ok (hf : 10000 ≤ fu) {env : Lv.Env} (h0 : env[0]? = some (some (dRow rs))) (h1 : env[1]? = some (some (dRow qs))) (l1 : rs.length ≤ 1000) (l2 : qs.length ≤ 1000) :
    eLzip false (aCons (eCall (Com.c__law_pairs fu) (aCons (eVar 0) aNil)) (aCons (eCall (Com.c__law_pairs fu) (aCons (eVar 1) aNil)) aNil)) env S = some (.vl ((rs.zip qs).map dPP), S) := by
  have c1 := pairs_ok (fu := fu) (S := S) (rs := rs) hf l1
  have c2 := pairs_ok (fu := fu) (S := S) (rs := qs) hf l2
  have v0 : eVar 0 env S = some (dRow rs, S) := by rw [r_eVar, h0]
  have v1 : eVar 1 env S = some (dRow qs, S) := by rw [r_eVar, h1]
  have k : ∀ ps : List Pr, Lv.listOf S (dPs ps) = some (ps.map dPr) := fun ps => rfl
  rw [r_eLzip]
  simp only [r_aCons, r_aNil, r_eCall, v0, v1, c1, c2, k, zip_pp]
  rfl
theorem fin_sealed {g : CF} {ds : List D} {z : D} (h : g ds S = some (z, S)) (hz : noRef z = true) : sealed g ds S = some (z, S) := by
  rw [r_sealed, h]
  exact shut_same hz
theorem pp_ix {p : Rg × Rg} : gIx (dPr (pr p.1)) (.int 0) S = some (.int (pr p.1).1, S) ∧ gIx (dPr (pr p.1)) (.int 1) S = some (.int (pr p.1).2, S) ∧ gIx (dPr (pr p.2)) (.int 0) S = some (.int (pr p.2).1, S) ∧ gIx (dPr (pr p.2)) (.int 1) S = some (.int (pr p.2).2, S) := ⟨rfl, rfl, rfl, rfl⟩
theorem zip_mem2 {p : Rg × Rg} (h : p ∈ rs.zip qs) : p.1 ∈ rs ∧ p.2 ∈ qs := List.of_mem_zip h
theorem ones_empty {α : Type} {xs : List α} {f : α → Bool} : gEqv false (.vl ((xs.filter fun p => !f p).map fun _ => D.int 1)) (.vl []) S = some (.bl (xs.all f), S) := by
  have := eq_nil_ns (S := S) (ns := (xs.filter fun p => !f p).map fun _ => (1 : Int)) (neg := false)
  unfold dNs at this
  rw [List.map_map] at this
  have e : ((xs.filter fun p => !f p).map fun _ => (1 : Int)).isEmpty = xs.all f := by
    rw [List.isEmpty_map, Bool.eq_iff_iff, List.isEmpty_iff, List.filter_eq_nil_iff, List.all_eq_true]
    exact ⟨fun h x hx => by simpa using h x hx, fun h x hx => by simpa using h x hx⟩
  rw [e] at this
  exact this
theorem lw_ok (hf : 10000 ≤ fu) {a b : Option (List Rg)} (ha : ∀ rs, a = some rs → BdL M rs ∧ rs.length ≤ 1000) (hb : ∀ rs, b = some rs → BdL M rs ∧ rs.length ≤ 1000) : Cz.c__law_within fu [dORow a, dORow b] S = some (.bl (wO a b), S) := by
  unfold Cz.c__law_within Cz.u__law_within Cz.b__law_within
  cases a with
  | none =>
    have n : isNon (dORow none) = true := rfl
    simp only [r_sCons, r_sIf, r_tAnd, r_tOr, r_tNot, r_truB, r_truF, r_truD_bl, r_eBin, r_eVar, r_eC, r_eCall, r_eCallK, r_aCons, r_aNil, r_eAnd, r_eOr, r_eNotT, r_eIf, r_eNeg, r_eChain, r_sNil, r_sDrop, r_sRet, r_sSet, r_sAsg, r_sPar, r_nm, r_tp, r_sets, r_sets0, List.getElem?_cons_zero, List.getElem?_cons_succ, List.set_cons_zero, List.set_cons_succ, List.length_cons, List.length_nil, List.map_cons, List.map_nil, List.cons_append, List.nil_append, Nat.zero_add, Nat.reduceAdd, Nat.sub_self, Nat.reduceSub, Nat.add_zero, List.reduceReplicate, List.replicate_zero, List.append_nil, if_true, if_false, Bool.false_eq_true, Bool.not_true, Bool.not_false, Bool.true_and, Bool.and_true, Bool.false_and, Bool.and_false, Bool.or_true, Bool.true_or, Bool.false_or, Bool.or_false, reduceIte, r_fnF, r_sealed, r_start, t_tup0, t_tup1, t_tup2, t_tup3, t_tup4, t_lst0, t_lst1, t_lst2, t_lst3, t_lst4, t_lst5, t_lst6, t_lst7, t_lst8, t_lst9, t_lst10, r_mkV, r_mkR, r_isN, r_non0, r_non1, r_non2, r_non3, r_non4, r_non5, r_non6, isi_int, isi_intb, isi_tup, isi_str, isi_vl, isi_ints, isi_tups, r_cmp2i, r_cmp2t, r_cmpI, r_eqv_int, r_eqv_str, r_add, r_sub, r_arith, r_ix_tup, r_ix_vl, r_len_tup, r_len_vl, r_cInt, r_cMin, r_cMax, r_lof_vl, r_lof_tup, r_tof_vl, r_tof_tup, r_truD_vl, r_truD_tup, r_truD_int, r_truD_non, r_oSome, r_oNone, r_eSl, r_sl_vl, r_sl_tup, r_iAny, r_eMethL, r_isRef_vl, ix20, ix21, nr_int, nr_bl, nr_non, nr_str, nr_tup, nr_vl, nrs_nil, nrs_cons, shut_same, pick_nil, pick_cons, decide_true, decide_false, n, wO]
  | some rs =>
    have n : isNon (dORow (some rs)) = false := rfl
    cases b with
    | none =>
      have n2 : isNon (dORow none) = true := rfl
      simp only [r_sCons, r_sIf, r_tAnd, r_tOr, r_tNot, r_truB, r_truF, r_truD_bl, r_eBin, r_eVar, r_eC, r_eCall, r_eCallK, r_aCons, r_aNil, r_eAnd, r_eOr, r_eNotT, r_eIf, r_eNeg, r_eChain, r_sNil, r_sDrop, r_sRet, r_sSet, r_sAsg, r_sPar, r_nm, r_tp, r_sets, r_sets0, List.getElem?_cons_zero, List.getElem?_cons_succ, List.set_cons_zero, List.set_cons_succ, List.length_cons, List.length_nil, List.map_cons, List.map_nil, List.cons_append, List.nil_append, Nat.zero_add, Nat.reduceAdd, Nat.sub_self, Nat.reduceSub, Nat.add_zero, List.reduceReplicate, List.replicate_zero, List.append_nil, if_true, if_false, Bool.false_eq_true, Bool.not_true, Bool.not_false, Bool.true_and, Bool.and_true, Bool.false_and, Bool.and_false, Bool.or_true, Bool.true_or, Bool.false_or, Bool.or_false, reduceIte, r_fnF, r_sealed, r_start, t_tup0, t_tup1, t_tup2, t_tup3, t_tup4, t_lst0, t_lst1, t_lst2, t_lst3, t_lst4, t_lst5, t_lst6, t_lst7, t_lst8, t_lst9, t_lst10, r_mkV, r_mkR, r_isN, r_non0, r_non1, r_non2, r_non3, r_non4, r_non5, r_non6, isi_int, isi_intb, isi_tup, isi_str, isi_vl, isi_ints, isi_tups, r_cmp2i, r_cmp2t, r_cmpI, r_eqv_int, r_eqv_str, r_add, r_sub, r_arith, r_ix_tup, r_ix_vl, r_len_tup, r_len_vl, r_cInt, r_cMin, r_cMax, r_lof_vl, r_lof_tup, r_tof_vl, r_tof_tup, r_truD_vl, r_truD_tup, r_truD_int, r_truD_non, r_oSome, r_oNone, r_eSl, r_sl_vl, r_sl_tup, r_iAny, r_eMethL, r_isRef_vl, ix20, ix21, nr_int, nr_bl, nr_non, nr_str, nr_tup, nr_vl, nrs_nil, nrs_cons, shut_same, pick_nil, pick_cons, decide_true, decide_false, n, n2, wO]
    | some qs =>
      have n2 : isNon (dORow (some qs)) = false := rfl
      obtain ⟨b1, l1⟩ := ha rs rfl
      obtain ⟨b2, l2⟩ := hb qs rfl
      have lz := zip_len (a := rs) (b := qs)
      have hz := lzip_ok (fu := fu) (S := S) (rs := rs) (qs := qs) (env := [some (dORow (some rs)), some (dORow (some qs)), none, none, none]) hf rfl rfl l1 l2
      have hc := comp_if (n := fu) (own := [3, 4]) (it := iAny (eVar 2)) (t := .tp [3, 4]) (c := (tOrF (truB (eBin (gCmp2 (fun i j => decide (i < j)) fLt) (eBin gIx (eVar 3) (eC (.int 0))) (eBin gIx (eVar 4) (eC (.int 0))))) (truB (eBin (gCmp2 (fun i j => decide (j < i)) fGt) (eBin gIx (eVar 3) (eC (.int 1))) (eBin gIx (eVar 4) (eC (.int 1))))))) (f := eC (.int 1)) (env := [some (dORow (some rs)), some (dORow (some qs)), some (.vl ((rs.zip qs).map dPP)), none, none]) (S := S) (S1 := S) (xs := rs.zip qs) (enc := dPP) (fun p => !wR p.1 p.2) (fun _ => .int 1) rfl (by omega) (by omega) (fun p hp S' => ⟨[some (dORow (some rs)), some (dORow (some qs)), some (.vl ((rs.zip qs).map dPP)), some (dPr (pr p.1)), some (dPr (pr p.2))], rfl, by
        obtain ⟨i1, i2, i3, i4⟩ := pp_ix (S := S') (p := p)
        have hw := w_pr (b1 p.1 (zip_mem2 hp).1) (b2 p.2 (zip_mem2 hp).2)
        have hw2 : (!wR p.1 p.2) = (decide ((pr p.1).1 < (pr p.2).1) || decide ((pr p.2).2 < (pr p.1).2)) := by
          rw [hw, Bool.not_and, ← decide_not, ← decide_not]
          congr 1
          · exact decide_eq_decide.mpr Int.not_le
          · exact decide_eq_decide.mpr Int.not_le
        generalize dPr (pr p.1) = d1 at *
        generalize dPr (pr p.2) = d2 at *
        rw [hw2]
        cases q1 : decide ((pr p.1).1 < (pr p.2).1) <;> simp only [r_sCons, r_sIf, r_tAnd, r_tOr, r_tNot, r_truB, r_truF, r_truD_bl, r_eBin, r_eVar, r_eC, r_eCall, r_eCallK, r_aCons, r_aNil, r_eAnd, r_eOr, r_eNotT, r_eIf, r_eNeg, r_eChain, r_sNil, r_sDrop, r_sRet, r_sSet, r_sAsg, r_sPar, r_nm, r_tp, r_sets, r_sets0, List.getElem?_cons_zero, List.getElem?_cons_succ, List.set_cons_zero, List.set_cons_succ, List.length_cons, List.length_nil, List.map_cons, List.map_nil, List.cons_append, List.nil_append, Nat.zero_add, Nat.reduceAdd, Nat.sub_self, Nat.reduceSub, Nat.add_zero, List.reduceReplicate, List.replicate_zero, List.append_nil, if_true, if_false, Bool.false_eq_true, Bool.not_true, Bool.not_false, Bool.true_and, Bool.and_true, Bool.false_and, Bool.and_false, Bool.or_true, Bool.true_or, Bool.false_or, Bool.or_false, reduceIte, r_fnF, r_sealed, r_start, t_tup0, t_tup1, t_tup2, t_tup3, t_tup4, t_lst0, t_lst1, t_lst2, t_lst3, t_lst4, t_lst5, t_lst6, t_lst7, t_lst8, t_lst9, t_lst10, r_mkV, r_mkR, r_isN, r_non0, r_non1, r_non2, r_non3, r_non4, r_non5, r_non6, isi_int, isi_intb, isi_tup, isi_str, isi_vl, isi_ints, isi_tups, r_cmp2i, r_cmp2t, r_cmpI, r_eqv_int, r_eqv_str, r_add, r_sub, r_arith, r_ix_tup, r_ix_vl, r_len_tup, r_len_vl, r_cInt, r_cMin, r_cMax, r_lof_vl, r_lof_tup, r_tof_vl, r_tof_tup, r_truD_vl, r_truD_tup, r_truD_int, r_truD_non, r_oSome, r_oNone, r_eSl, r_sl_vl, r_sl_tup, r_iAny, r_eMethL, r_isRef_vl, ix20, ix21, nr_int, nr_bl, nr_non, nr_str, nr_tup, nr_vl, nrs_nil, nrs_cons, shut_same, pick_nil, pick_cons, decide_true, decide_false, i1, i2, i3, i4, q1], fun _ => rfl⟩) (fun _ _ _ => rfl)
      have he := ones_empty (S := S) (xs := rs.zip qs) (f := fun p => wR p.1 p.2)
      refine fin_sealed ?_ nr_bl
      refine fn_eq (np := 2) (nn := 5) rfl ?_
      rw [cons_eq (S1 := S) (e1 := startE 5 [dORow (some rs), dORow (some qs)]) (by rw [r_sIf]; rfl)]
      rw [cons_eq (S1 := S) (e1 := [some (dORow (some rs)), some (dORow (some qs)), some (.vl ((rs.zip qs).map dPP)), none, none]) (by
        rw [r_sSet]
        show (match eLzip false _ [some (dORow (some rs)), some (dORow (some qs)), none, none, none] S with
          | some (d, S1) => _
          | none => _) = _
        rw [hz]
        rfl)]
      refine cons_rt ?_
      rw [r_sRet, r_eBin, hc]
      dsimp only
      have hl : eCall (cLst false) aNil [some (dORow (some rs)), some (dORow (some qs)), some (.vl ((rs.zip qs).map dPP)), none, none] S = some (.vl [], S) := rfl
      rw [hl]
      dsimp only
      rw [he]
      rfl
end
end Sp
namespace Sp
open PySem PySem.Spec PyProof.Rows L2 Lv Com
theorem gl_pr {a b : End} (ha : BdO M a) (hb : BdO M b) : (gl a b).getD (-F60) = mx (a.getD (-F60)) (b.getD (-F60)) := by
  have h1 := m_f59
  have h2 := f59_60
  rcases a with _ | a <;> rcases b with _ | b <;> simp only [gl, Option.getD, mx]
  · rw [if_neg (by omega)]
  · have := hb b rfl
    rw [if_pos (by omega)]
  · have := ha a rfl
    rw [if_neg (by omega)]
theorem lh_pr {a b : End} (ha : BdO M a) (hb : BdO M b) : (lh a b).getD F60 = mn (a.getD F60) (b.getD F60) := by
  have h1 := m_f59
  have h2 := f59_60
  rcases a with _ | a <;> rcases b with _ | b <;> simp only [lh, Option.getD, mn]
  · rw [if_neg (by omega)]
  · have := hb b rfl
    rw [if_pos (by omega)]
  · have := ha a rfl
    rw [if_neg (by omega)]
def metQ (p : Rg × Rg) : Rg := (gl p.1.1 p.2.1, lh p.1.2 p.2.2)
theorem metQ_bd {p : Rg × Rg} (h : BdR M p.1) (k : BdR M p.2) : BdR M (metQ p) := ⟨bd_gl h.1 k.1, bd_lh h.2 k.2⟩
theorem metQ_pr {p : Rg × Rg} (h : BdR M p.1) (k : BdR M p.2) : pr (metQ p) = (mx (pr p.1).1 (pr p.2).1, mn (pr p.1).2 (pr p.2).2) := by
  show ((gl p.1.1 p.2.1).getD (-F60), (lh p.1.2 p.2.2).getD F60) = _
  rw [gl_pr h.1 k.1, lh_pr h.2 k.2]
  rfl
theorem ok_prle {r : Rg} (h : BdR M r) : okR r = decide ((pr r).1 ≤ (pr r).2) := by
  obtain ⟨_, _, h0⟩ := fcts
  have h1 := m_f59
  have h2 := f59_60
  obtain ⟨a, b⟩ := r
  have ha : ∀ i, a = some i → -M ≤ i ∧ i ≤ M := h.1
  have hb : ∀ i, b = some i → -M ≤ i ∧ i ≤ M := h.2
  rcases a with _ | a <;> rcases b with _ | b
  · exact (decide_eq_true (by show -F60 ≤ F60; omega)).symm
  · have := hb b rfl
    exact (decide_eq_true (by show -F60 ≤ b; omega)).symm
  · have := ha a rfl
    exact (decide_eq_true (by show a ≤ F60; omega)).symm
  · rfl
theorem metL_is {rs qs : List Rg} : metL rs qs = (rs.zip qs).map fun p => if okR (metQ p) then some (metQ p) else none := rfl
theorem metRow_is {rs qs : List Rg} : metRow rs qs = if (rs.zip qs).all (fun p => okR (metQ p)) then some ((rs.zip qs).map metQ) else none := by
  have ha : (metL rs qs).any Option.isNone = !(rs.zip qs).all (fun p => okR (metQ p)) := by
    rw [metL_is, List.any_map, Bool.eq_iff_iff, List.any_eq_true]
    constructor
    · rintro ⟨p, hp, h⟩
      rw [Bool.not_eq_true', ← Bool.not_eq_true, List.all_eq_true]
      intro hh
      have := hh p hp
      simp [this] at h
    · intro h
      rw [Bool.not_eq_true', ← Bool.not_eq_true, List.all_eq_true] at h
      apply Classical.byContradiction
      intro hn
      apply h
      intro p hp
      apply Classical.byContradiction
      intro ho
      exact hn ⟨p, hp, by simp [ho]⟩
  unfold metRow
  rw [ha]
  cases q : (rs.zip qs).all (fun p => okR (metQ p)) with
  | false => rfl
  | true =>
    rw [if_neg (by decide), if_pos rfl, metL_is, List.map_map]
    congr 1
    refine List.map_congr_left fun p hp => ?_
    have := List.all_eq_true.mp q p hp
    simp [this]
section
variable {fu : Nat} {S : Sto} {rs qs : List Rg}
theorem lj_ok (hf : 10000 ≤ fu) {a b : Option (List Rg)} (ha : ∀ rs, a = some rs → BdL M rs ∧ rs.length ≤ 1000) (hb : ∀ rs, b = some rs → BdL M rs ∧ rs.length ≤ 1000) : Cz.c__law_joined fu [dORow a, dORow b] S = some (dORow (joinO a b), S) := by
  cases a with
  | none =>
    have n : isNon (dORow none) = true := rfl
    unfold Cz.c__law_joined Cz.u__law_joined Cz.b__law_joined
    simp only [r_sCons, r_sIf, r_tAnd, r_tOr, r_tNot, r_truB, r_truF, r_truD_bl, r_eBin, r_eVar, r_eC, r_eCall, r_eCallK, r_aCons, r_aNil, r_eAnd, r_eOr, r_eNotT, r_eIf, r_eNeg, r_eChain, r_sNil, r_sDrop, r_sRet, r_sSet, r_sAsg, r_sPar, r_nm, r_tp, r_sets, r_sets0, List.getElem?_cons_zero, List.getElem?_cons_succ, List.set_cons_zero, List.set_cons_succ, List.length_cons, List.length_nil, List.map_cons, List.map_nil, List.cons_append, List.nil_append, Nat.zero_add, Nat.reduceAdd, Nat.sub_self, Nat.reduceSub, Nat.add_zero, List.reduceReplicate, List.replicate_zero, List.append_nil, if_true, if_false, Bool.false_eq_true, Bool.not_true, Bool.not_false, Bool.true_and, Bool.and_true, Bool.false_and, Bool.and_false, Bool.or_true, Bool.true_or, Bool.false_or, Bool.or_false, reduceIte, r_fnF, r_sealed, r_start, t_tup0, t_tup1, t_tup2, t_tup3, t_tup4, t_lst0, t_lst1, t_lst2, t_lst3, t_lst4, t_lst5, t_lst6, t_lst7, t_lst8, t_lst9, t_lst10, r_mkV, r_mkR, r_isN, r_non0, r_non1, r_non2, r_non3, r_non4, r_non5, r_non6, isi_int, isi_intb, isi_tup, isi_str, isi_vl, isi_ints, isi_tups, r_cmp2i, r_cmp2t, r_cmpI, r_eqv_int, r_eqv_str, r_add, r_sub, r_arith, r_ix_tup, r_ix_vl, r_len_tup, r_len_vl, r_cInt, r_cMin, r_cMax, r_lof_vl, r_lof_tup, r_tof_vl, r_tof_tup, r_truD_vl, r_truD_tup, r_truD_int, r_truD_non, r_oSome, r_oNone, r_eSl, r_sl_vl, r_sl_tup, r_iAny, r_eMethL, r_isRef_vl, ix20, ix21, nr_int, nr_bl, nr_non, nr_str, nr_tup, nr_vl, nrs_nil, nrs_cons, shut_same, pick_nil, pick_cons, decide_true, decide_false, n, joinO]
    exact shut_same nr_dORow
  | some rs =>
    have n : isNon (dORow (some rs)) = false := rfl
    cases b with
    | none =>
      have n2 : isNon (dORow none) = true := rfl
      unfold Cz.c__law_joined Cz.u__law_joined Cz.b__law_joined
      simp only [r_sCons, r_sIf, r_tAnd, r_tOr, r_tNot, r_truB, r_truF, r_truD_bl, r_eBin, r_eVar, r_eC, r_eCall, r_eCallK, r_aCons, r_aNil, r_eAnd, r_eOr, r_eNotT, r_eIf, r_eNeg, r_eChain, r_sNil, r_sDrop, r_sRet, r_sSet, r_sAsg, r_sPar, r_nm, r_tp, r_sets, r_sets0, List.getElem?_cons_zero, List.getElem?_cons_succ, List.set_cons_zero, List.set_cons_succ, List.length_cons, List.length_nil, List.map_cons, List.map_nil, List.cons_append, List.nil_append, Nat.zero_add, Nat.reduceAdd, Nat.sub_self, Nat.reduceSub, Nat.add_zero, List.reduceReplicate, List.replicate_zero, List.append_nil, if_true, if_false, Bool.false_eq_true, Bool.not_true, Bool.not_false, Bool.true_and, Bool.and_true, Bool.false_and, Bool.and_false, Bool.or_true, Bool.true_or, Bool.false_or, Bool.or_false, reduceIte, r_fnF, r_sealed, r_start, t_tup0, t_tup1, t_tup2, t_tup3, t_tup4, t_lst0, t_lst1, t_lst2, t_lst3, t_lst4, t_lst5, t_lst6, t_lst7, t_lst8, t_lst9, t_lst10, r_mkV, r_mkR, r_isN, r_non0, r_non1, r_non2, r_non3, r_non4, r_non5, r_non6, isi_int, isi_intb, isi_tup, isi_str, isi_vl, isi_ints, isi_tups, r_cmp2i, r_cmp2t, r_cmpI, r_eqv_int, r_eqv_str, r_add, r_sub, r_arith, r_ix_tup, r_ix_vl, r_len_tup, r_len_vl, r_cInt, r_cMin, r_cMax, r_lof_vl, r_lof_tup, r_tof_vl, r_tof_tup, r_truD_vl, r_truD_tup, r_truD_int, r_truD_non, r_oSome, r_oNone, r_eSl, r_sl_vl, r_sl_tup, r_iAny, r_eMethL, r_isRef_vl, ix20, ix21, nr_int, nr_bl, nr_non, nr_str, nr_tup, nr_vl, nrs_nil, nrs_cons, shut_same, pick_nil, pick_cons, decide_true, decide_false, n, n2, joinO]
      exact shut_same nr_dORow
    | some qs =>
      obtain ⟨b1, l1⟩ := ha rs rfl
      obtain ⟨b2, l2⟩ := hb qs rfl
      have lz := zip_len (a := rs) (b := qs)
      have hz := lzip_ok (fu := fu) (S := S) (rs := rs) (qs := qs) (env := [some (dORow (some rs)), some (dORow (some qs)), none, none, none]) hf rfl rfl l1 l2
      have hc := comp_all (n := fu) (own := [3, 4]) (it := iAny (eVar 2)) (t := .tp [3, 4]) (f := (eCall cTup (aCons (eCall cMin (aCons (eBin gIx (eVar 3) (eC (.int 0))) (aCons (eBin gIx (eVar 4) (eC (.int 0))) aNil))) (aCons (eCall cMax (aCons (eBin gIx (eVar 3) (eC (.int 1))) (aCons (eBin gIx (eVar 4) (eC (.int 1))) aNil))) aNil)))) (env := [some (dORow (some rs)), some (dORow (some qs)), some (.vl ((rs.zip qs).map dPP)), none, none]) (S := S) (S1 := S) (xs := rs.zip qs) (enc := dPP) (fun p => dPr (pr (joinR p.1 p.2))) rfl (by omega) (by omega) (fun p hp S' => ⟨[some (dORow (some rs)), some (dORow (some qs)), some (.vl ((rs.zip qs).map dPP)), some (dPr (pr p.1)), some (dPr (pr p.2))], rfl, by
        obtain ⟨i1, i2, i3, i4⟩ := pp_ix (S := S') (p := p)
        rw [join_pr (b1 p.1 (zip_mem2 hp).1) (b2 p.2 (zip_mem2 hp).2)]
        generalize hd1 : dPr (pr p.1) = d1 at *
        generalize hd2 : dPr (pr p.2) = d2 at *
        simp only [r_sCons, r_sIf, r_tAnd, r_tOr, r_tNot, r_truB, r_truF, r_truD_bl, r_eBin, r_eVar, r_eC, r_eCall, r_eCallK, r_aCons, r_aNil, r_eAnd, r_eOr, r_eNotT, r_eIf, r_eNeg, r_eChain, r_sNil, r_sDrop, r_sRet, r_sSet, r_sAsg, r_sPar, r_nm, r_tp, r_sets, r_sets0, List.getElem?_cons_zero, List.getElem?_cons_succ, List.set_cons_zero, List.set_cons_succ, List.length_cons, List.length_nil, List.map_cons, List.map_nil, List.cons_append, List.nil_append, Nat.zero_add, Nat.reduceAdd, Nat.sub_self, Nat.reduceSub, Nat.add_zero, List.reduceReplicate, List.replicate_zero, List.append_nil, if_true, if_false, Bool.false_eq_true, Bool.not_true, Bool.not_false, Bool.true_and, Bool.and_true, Bool.false_and, Bool.and_false, Bool.or_true, Bool.true_or, Bool.false_or, Bool.or_false, reduceIte, r_fnF, r_sealed, r_start, t_tup0, t_tup1, t_tup2, t_tup3, t_tup4, t_lst0, t_lst1, t_lst2, t_lst3, t_lst4, t_lst5, t_lst6, t_lst7, t_lst8, t_lst9, t_lst10, r_mkV, r_mkR, r_isN, r_non0, r_non1, r_non2, r_non3, r_non4, r_non5, r_non6, isi_int, isi_intb, isi_tup, isi_str, isi_vl, isi_ints, isi_tups, r_cmp2i, r_cmp2t, r_cmpI, r_eqv_int, r_eqv_str, r_add, r_sub, r_arith, r_ix_tup, r_ix_vl, r_len_tup, r_len_vl, r_cInt, r_cMin, r_cMax, r_lof_vl, r_lof_tup, r_tof_vl, r_tof_tup, r_truD_vl, r_truD_tup, r_truD_int, r_truD_non, r_oSome, r_oNone, r_eSl, r_sl_vl, r_sl_tup, r_iAny, r_eMethL, r_isRef_vl, ix20, ix21, nr_int, nr_bl, nr_non, nr_str, nr_tup, nr_vl, nrs_nil, nrs_cons, shut_same, pick_nil, pick_cons, decide_true, decide_false, i1, i2, i3, i4]
        rfl⟩) (fun _ _ => nr_dPr)
      have he := ends_ok (fu := fu) (S := S) (ps := (joinRow rs qs).map pr) hf (by rw [List.length_map]; unfold joinRow; rw [List.length_map]; omega)
      have hen : ((joinRow rs qs).map pr).map en = joinRow rs qs := by
        rw [List.map_map]
        conv => rhs; rw [← List.map_id (joinRow rs qs)]
        refine List.map_congr_left fun r hr => ?_
        obtain ⟨p, hp, rfl⟩ := List.mem_map.mp hr
        exact en_pr (join_bd (b1 _ (zip_mem2 hp).1) (b2 _ (zip_mem2 hp).2))
      rw [hen] at he
      have hm : (rs.zip qs).map (fun p => dPr (pr (joinR p.1 p.2))) = ((joinRow rs qs).map pr).map dPr := by
        unfold joinRow
        rw [List.map_map, List.map_map]
        rfl
      rw [hm] at hc
      refine fin_sealed (z := dORow (some (joinRow rs qs))) ?_ nr_dORow
      refine fn_eq (np := 2) (nn := 5) rfl ?_
      unfold Cz.b__law_joined
      rw [cons_eq (S1 := S) (e1 := startE 5 [dORow (some rs), dORow (some qs)]) (by rw [r_sIf]; rfl)]
      rw [cons_eq (S1 := S) (e1 := [some (dORow (some rs)), some (dORow (some qs)), some (.vl ((rs.zip qs).map dPP)), none, none]) (by
        rw [r_sSet]
        show (match eLzip false _ [some (dORow (some rs)), some (dORow (some qs)), none, none, none] S with
          | some (d, S1) => _
          | none => _) = _
        rw [hz]
        rfl)]
      refine cons_rt ?_
      rw [r_sRet, r_eCall, r_aCons, hc]
      dsimp only
      rw [r_aNil]
      dsimp only
      rw [show D.vl (((joinRow rs qs).map pr).map dPr) = dPs ((joinRow rs qs).map pr) from rfl, he]
      rfl
theorem lm_ok (hf : 10000 ≤ fu) {a b : Option (List Rg)} (ha : ∀ rs, a = some rs → BdL M rs ∧ rs.length ≤ 1000) (hb : ∀ rs, b = some rs → BdL M rs ∧ rs.length ≤ 1000) : Cz.c__law_met fu [dORow a, dORow b] S = some (dORow (metO a b), S) := by
  cases a with
  | none =>
    have n : isNon (dORow none) = true := rfl
    unfold Cz.c__law_met Cz.u__law_met Cz.b__law_met
    simp only [r_sCons, r_sIf, r_tAnd, r_tOr, r_tNot, r_truB, r_truF, r_truD_bl, r_eBin, r_eVar, r_eC, r_eCall, r_eCallK, r_aCons, r_aNil, r_eAnd, r_eOr, r_eNotT, r_eIf, r_eNeg, r_eChain, r_sNil, r_sDrop, r_sRet, r_sSet, r_sAsg, r_sPar, r_nm, r_tp, r_sets, r_sets0, List.getElem?_cons_zero, List.getElem?_cons_succ, List.set_cons_zero, List.set_cons_succ, List.length_cons, List.length_nil, List.map_cons, List.map_nil, List.cons_append, List.nil_append, Nat.zero_add, Nat.reduceAdd, Nat.sub_self, Nat.reduceSub, Nat.add_zero, List.reduceReplicate, List.replicate_zero, List.append_nil, if_true, if_false, Bool.false_eq_true, Bool.not_true, Bool.not_false, Bool.true_and, Bool.and_true, Bool.false_and, Bool.and_false, Bool.or_true, Bool.true_or, Bool.false_or, Bool.or_false, reduceIte, r_fnF, r_sealed, r_start, t_tup0, t_tup1, t_tup2, t_tup3, t_tup4, t_lst0, t_lst1, t_lst2, t_lst3, t_lst4, t_lst5, t_lst6, t_lst7, t_lst8, t_lst9, t_lst10, r_mkV, r_mkR, r_isN, r_non0, r_non1, r_non2, r_non3, r_non4, r_non5, r_non6, isi_int, isi_intb, isi_tup, isi_str, isi_vl, isi_ints, isi_tups, r_cmp2i, r_cmp2t, r_cmpI, r_eqv_int, r_eqv_str, r_add, r_sub, r_arith, r_ix_tup, r_ix_vl, r_len_tup, r_len_vl, r_cInt, r_cMin, r_cMax, r_lof_vl, r_lof_tup, r_tof_vl, r_tof_tup, r_truD_vl, r_truD_tup, r_truD_int, r_truD_non, r_oSome, r_oNone, r_eSl, r_sl_vl, r_sl_tup, r_iAny, r_eMethL, r_isRef_vl, ix20, ix21, nr_int, nr_bl, nr_non, nr_str, nr_tup, nr_vl, nrs_nil, nrs_cons, shut_same, pick_nil, pick_cons, decide_true, decide_false, n, metO]
    rfl
  | some rs =>
    have n : isNon (dORow (some rs)) = false := rfl
    cases b with
    | none =>
      have n2 : isNon (dORow none) = true := rfl
      unfold Cz.c__law_met Cz.u__law_met Cz.b__law_met
      simp only [r_sCons, r_sIf, r_tAnd, r_tOr, r_tNot, r_truB, r_truF, r_truD_bl, r_eBin, r_eVar, r_eC, r_eCall, r_eCallK, r_aCons, r_aNil, r_eAnd, r_eOr, r_eNotT, r_eIf, r_eNeg, r_eChain, r_sNil, r_sDrop, r_sRet, r_sSet, r_sAsg, r_sPar, r_nm, r_tp, r_sets, r_sets0, List.getElem?_cons_zero, List.getElem?_cons_succ, List.set_cons_zero, List.set_cons_succ, List.length_cons, List.length_nil, List.map_cons, List.map_nil, List.cons_append, List.nil_append, Nat.zero_add, Nat.reduceAdd, Nat.sub_self, Nat.reduceSub, Nat.add_zero, List.reduceReplicate, List.replicate_zero, List.append_nil, if_true, if_false, Bool.false_eq_true, Bool.not_true, Bool.not_false, Bool.true_and, Bool.and_true, Bool.false_and, Bool.and_false, Bool.or_true, Bool.true_or, Bool.false_or, Bool.or_false, reduceIte, r_fnF, r_sealed, r_start, t_tup0, t_tup1, t_tup2, t_tup3, t_tup4, t_lst0, t_lst1, t_lst2, t_lst3, t_lst4, t_lst5, t_lst6, t_lst7, t_lst8, t_lst9, t_lst10, r_mkV, r_mkR, r_isN, r_non0, r_non1, r_non2, r_non3, r_non4, r_non5, r_non6, isi_int, isi_intb, isi_tup, isi_str, isi_vl, isi_ints, isi_tups, r_cmp2i, r_cmp2t, r_cmpI, r_eqv_int, r_eqv_str, r_add, r_sub, r_arith, r_ix_tup, r_ix_vl, r_len_tup, r_len_vl, r_cInt, r_cMin, r_cMax, r_lof_vl, r_lof_tup, r_tof_vl, r_tof_tup, r_truD_vl, r_truD_tup, r_truD_int, r_truD_non, r_oSome, r_oNone, r_eSl, r_sl_vl, r_sl_tup, r_iAny, r_eMethL, r_isRef_vl, ix20, ix21, nr_int, nr_bl, nr_non, nr_str, nr_tup, nr_vl, nrs_nil, nrs_cons, shut_same, pick_nil, pick_cons, decide_true, decide_false, n, n2, metO]
      rfl
    | some qs =>
      obtain ⟨b1, l1⟩ := ha rs rfl
      obtain ⟨b2, l2⟩ := hb qs rfl
      have lz := zip_len (a := rs) (b := qs)
      have hz := lzip_ok (fu := fu) (S := S) (rs := rs) (qs := qs) (env := [some (dORow (some rs)), some (dORow (some qs)), none, none, none, none]) hf rfl rfl l1 l2
      have hc := comp_all (n := fu) (own := [4, 5]) (it := iAny (eVar 2)) (t := .tp [4, 5]) (f := (eCall cTup (aCons (eCall cMax (aCons (eBin gIx (eVar 4) (eC (.int 0))) (aCons (eBin gIx (eVar 5) (eC (.int 0))) aNil))) (aCons (eCall cMin (aCons (eBin gIx (eVar 4) (eC (.int 1))) (aCons (eBin gIx (eVar 5) (eC (.int 1))) aNil))) aNil)))) (env := [some (dORow (some rs)), some (dORow (some qs)), some (.vl ((rs.zip qs).map dPP)), none, none, none]) (S := S) (S1 := S) (xs := rs.zip qs) (enc := dPP) (fun p => dPr (pr (metQ p))) rfl (by omega) (by omega) (fun p hp S' => ⟨[some (dORow (some rs)), some (dORow (some qs)), some (.vl ((rs.zip qs).map dPP)), none, some (dPr (pr p.1)), some (dPr (pr p.2))], rfl, by
        obtain ⟨i1, i2, i3, i4⟩ := pp_ix (S := S') (p := p)
        rw [metQ_pr (b1 p.1 (zip_mem2 hp).1) (b2 p.2 (zip_mem2 hp).2)]
        generalize hd1 : dPr (pr p.1) = d1 at *
        generalize hd2 : dPr (pr p.2) = d2 at *
        simp only [r_sCons, r_sIf, r_tAnd, r_tOr, r_tNot, r_truB, r_truF, r_truD_bl, r_eBin, r_eVar, r_eC, r_eCall, r_eCallK, r_aCons, r_aNil, r_eAnd, r_eOr, r_eNotT, r_eIf, r_eNeg, r_eChain, r_sNil, r_sDrop, r_sRet, r_sSet, r_sAsg, r_sPar, r_nm, r_tp, r_sets, r_sets0, List.getElem?_cons_zero, List.getElem?_cons_succ, List.set_cons_zero, List.set_cons_succ, List.length_cons, List.length_nil, List.map_cons, List.map_nil, List.cons_append, List.nil_append, Nat.zero_add, Nat.reduceAdd, Nat.sub_self, Nat.reduceSub, Nat.add_zero, List.reduceReplicate, List.replicate_zero, List.append_nil, if_true, if_false, Bool.false_eq_true, Bool.not_true, Bool.not_false, Bool.true_and, Bool.and_true, Bool.false_and, Bool.and_false, Bool.or_true, Bool.true_or, Bool.false_or, Bool.or_false, reduceIte, r_fnF, r_sealed, r_start, t_tup0, t_tup1, t_tup2, t_tup3, t_tup4, t_lst0, t_lst1, t_lst2, t_lst3, t_lst4, t_lst5, t_lst6, t_lst7, t_lst8, t_lst9, t_lst10, r_mkV, r_mkR, r_isN, r_non0, r_non1, r_non2, r_non3, r_non4, r_non5, r_non6, isi_int, isi_intb, isi_tup, isi_str, isi_vl, isi_ints, isi_tups, r_cmp2i, r_cmp2t, r_cmpI, r_eqv_int, r_eqv_str, r_add, r_sub, r_arith, r_ix_tup, r_ix_vl, r_len_tup, r_len_vl, r_cInt, r_cMin, r_cMax, r_lof_vl, r_lof_tup, r_tof_vl, r_tof_tup, r_truD_vl, r_truD_tup, r_truD_int, r_truD_non, r_oSome, r_oNone, r_eSl, r_sl_vl, r_sl_tup, r_iAny, r_eMethL, r_isRef_vl, ix20, ix21, nr_int, nr_bl, nr_non, nr_str, nr_tup, nr_vl, nrs_nil, nrs_cons, shut_same, pick_nil, pick_cons, decide_true, decide_false, i1, i2, i3, i4]
        rfl⟩) (fun _ _ => nr_dPr)
      have bq : ∀ p ∈ rs.zip qs, BdR M (metQ p) := fun p hp => metQ_bd (b1 _ (zip_mem2 hp).1) (b2 _ (zip_mem2 hp).2)
      have hd := comp_if (n := fu) (own := [4, 5]) (it := iAny (eVar 3)) (t := .tp [4, 5]) (c := (truB (eBin (gCmp2 (fun i j => decide (j < i)) fGt) (eVar 4) (eVar 5)))) (f := eC (.int 1)) (env := [some (dORow (some rs)), some (dORow (some qs)), some (.vl ((rs.zip qs).map dPP)), some (.vl ((rs.zip qs).map fun p => dPr (pr (metQ p)))), none, none]) (S := S) (S1 := S) (xs := rs.zip qs) (enc := fun p => dPr (pr (metQ p))) (fun p => !okR (metQ p)) (fun _ => .int 1) rfl (by omega) (by omega) (fun p hp S' => ⟨[some (dORow (some rs)), some (dORow (some qs)), some (.vl ((rs.zip qs).map dPP)), some (.vl ((rs.zip qs).map fun p => dPr (pr (metQ p)))), some (.int (pr (metQ p)).1), some (.int (pr (metQ p)).2)], rfl, by
        rw [ok_prle (bq p hp), ← decide_not]
        have : decide (¬ (pr (metQ p)).1 ≤ (pr (metQ p)).2) = decide ((pr (metQ p)).2 < (pr (metQ p)).1) := decide_eq_decide.mpr Int.not_le
        rw [this]
        simp only [r_sCons, r_sIf, r_tAnd, r_tOr, r_tNot, r_truB, r_truF, r_truD_bl, r_eBin, r_eVar, r_eC, r_eCall, r_eCallK, r_aCons, r_aNil, r_eAnd, r_eOr, r_eNotT, r_eIf, r_eNeg, r_eChain, r_sNil, r_sDrop, r_sRet, r_sSet, r_sAsg, r_sPar, r_nm, r_tp, r_sets, r_sets0, List.getElem?_cons_zero, List.getElem?_cons_succ, List.set_cons_zero, List.set_cons_succ, List.length_cons, List.length_nil, List.map_cons, List.map_nil, List.cons_append, List.nil_append, Nat.zero_add, Nat.reduceAdd, Nat.sub_self, Nat.reduceSub, Nat.add_zero, List.reduceReplicate, List.replicate_zero, List.append_nil, if_true, if_false, Bool.false_eq_true, Bool.not_true, Bool.not_false, Bool.true_and, Bool.and_true, Bool.false_and, Bool.and_false, Bool.or_true, Bool.true_or, Bool.false_or, Bool.or_false, reduceIte, r_fnF, r_sealed, r_start, t_tup0, t_tup1, t_tup2, t_tup3, t_tup4, t_lst0, t_lst1, t_lst2, t_lst3, t_lst4, t_lst5, t_lst6, t_lst7, t_lst8, t_lst9, t_lst10, r_mkV, r_mkR, r_isN, r_non0, r_non1, r_non2, r_non3, r_non4, r_non5, r_non6, isi_int, isi_intb, isi_tup, isi_str, isi_vl, isi_ints, isi_tups, r_cmp2i, r_cmp2t, r_cmpI, r_eqv_int, r_eqv_str, r_add, r_sub, r_arith, r_ix_tup, r_ix_vl, r_len_tup, r_len_vl, r_cInt, r_cMin, r_cMax, r_lof_vl, r_lof_tup, r_tof_vl, r_tof_tup, r_truD_vl, r_truD_tup, r_truD_int, r_truD_non, r_oSome, r_oNone, r_eSl, r_sl_vl, r_sl_tup, r_iAny, r_eMethL, r_isRef_vl, ix20, ix21, nr_int, nr_bl, nr_non, nr_str, nr_tup, nr_vl, nrs_nil, nrs_cons, shut_same, pick_nil, pick_cons, decide_true, decide_false], fun _ => rfl⟩) (fun _ _ _ => rfl)
      have hne : gEqv true (.vl (((rs.zip qs).filter fun p => !okR (metQ p)).map fun _ => D.int 1)) (.vl []) S = some (.bl (!(rs.zip qs).all fun p => okR (metQ p)), S) := by
        have := ones_empty (S := S) (xs := rs.zip qs) (f := fun p => okR (metQ p))
        have h2 := eq_nil_ns (S := S) (ns := ((rs.zip qs).filter fun p => !okR (metQ p)).map fun _ => (1 : Int)) (neg := true)
        unfold dNs at h2
        rw [List.map_map] at h2
        have e : (((rs.zip qs).filter fun p => !okR (metQ p)).map fun _ => (1 : Int)).isEmpty = (rs.zip qs).all (fun p => okR (metQ p)) := by
          rw [List.isEmpty_map, Bool.eq_iff_iff, List.isEmpty_iff, List.filter_eq_nil_iff, List.all_eq_true]
          exact ⟨fun h x hx => by simpa using h x hx, fun h x hx => by simpa using h x hx⟩
        rw [e] at h2
        exact h2
      have he := ends_ok (fu := fu) (S := S) (ps := ((rs.zip qs).map metQ).map pr) hf (by rw [List.length_map, List.length_map]; omega)
      have hen : (((rs.zip qs).map metQ).map pr).map en = (rs.zip qs).map metQ := by
        rw [List.map_map]
        conv => rhs; rw [← List.map_id ((rs.zip qs).map metQ)]
        refine List.map_congr_left fun r hr => ?_
        obtain ⟨p, hp, rfl⟩ := List.mem_map.mp hr
        exact en_pr (bq p hp)
      rw [hen] at he
      have hm : D.vl ((rs.zip qs).map fun p => dPr (pr (metQ p))) = dPs (((rs.zip qs).map metQ).map pr) := by
        unfold dPs
        rw [List.map_map, List.map_map]
        rfl
      have hmt : metO (some rs) (some qs) = if (rs.zip qs).all (fun p => okR (metQ p)) then some ((rs.zip qs).map metQ) else none := metRow_is
      rw [hmt]
      refine fin_sealed (z := dORow (if (rs.zip qs).all (fun p => okR (metQ p)) then some ((rs.zip qs).map metQ) else none)) ?_ nr_dORow
      refine fn_eq (np := 2) (nn := 6) rfl ?_
      unfold Cz.b__law_met
      rw [cons_eq (S1 := S) (e1 := startE 6 [dORow (some rs), dORow (some qs)]) (by rw [r_sIf]; rfl)]
      rw [cons_eq (S1 := S) (e1 := [some (dORow (some rs)), some (dORow (some qs)), some (.vl ((rs.zip qs).map dPP)), none, none, none]) (by
        rw [r_sSet]
        show (match eLzip false _ [some (dORow (some rs)), some (dORow (some qs)), none, none, none, none] S with
          | some (d, S1) => _
          | none => _) = _
        rw [hz]
        rfl)]
      rw [cons_eq (S1 := S) (e1 := [some (dORow (some rs)), some (dORow (some qs)), some (.vl ((rs.zip qs).map dPP)), some (.vl ((rs.zip qs).map fun p => dPr (pr (metQ p)))), none, none]) (by
        rw [r_sSet, hc]
        rfl)]
      refine cons_rt ?_
      have hl : eCall (cLst false) aNil [some (dORow (some rs)), some (dORow (some qs)), some (.vl ((rs.zip qs).map dPP)), some (.vl ((rs.zip qs).map fun p => dPr (pr (metQ p)))), none, none] S = some (.vl [], S) := rfl
      rw [r_sRet, r_eIf, r_truB, r_eBin, hd]
      dsimp only
      rw [hl]
      dsimp only
      rw [hne]
      dsimp only
      cases qa : (rs.zip qs).all (fun p => okR (metQ p)) with
      | false => rfl
      | true =>
        show (match eCall (Com.c__law_ends fu) (aCons (eVar 3) aNil) [some (dORow (some rs)), some (dORow (some qs)), some (.vl ((rs.zip qs).map dPP)), some (.vl ((rs.zip qs).map fun p => dPr (pr (metQ p)))), none, none] S with
          | some (d, S1) => some (Out.rt d, S1)
          | none => none) = _
        have hv : eCall (Com.c__law_ends fu) (aCons (eVar 3) aNil) [some (dORow (some rs)), some (dORow (some qs)), some (.vl ((rs.zip qs).map dPP)), some (.vl ((rs.zip qs).map fun p => dPr (pr (metQ p)))), none, none] S = Com.c__law_ends fu [D.vl ((rs.zip qs).map fun p => dPr (pr (metQ p)))] S := rfl
        rw [hv, hm, he]
        rfl
end
end Sp
namespace K16
open PySem PySem.Spec PyProof.Rows L2 Lv Com Sp
noncomputable def q1 (fu : Nat) : SF := (sSet 1 (eBin gIx (eCall (cLst false) (aCons (eC (.int 4)) (aCons (eC (.int 6)) (aCons (eBin gSub (eBin (gArith fPow) (eC (.int 10)) (eC (.int 30))) (eC (.int 9))) aNil)))) (eCall (Com.c__law_random fu) (aCons (eVar 0) (aCons (eC (.int 3)) aNil)))))
noncomputable def q2 (fu : Nat) : SF := (sAsg (.tp [2, 3]) (eCall cTup (aCons (eCall (Com.c__law_names fu) (aCons (eVar 0) (aCons (eBin (gAdd false) (eC (.int 1)) (eCall (Com.c__law_random fu) (aCons (eVar 0) (aCons (eC (.int 3)) aNil)))) aNil))) (aCons (eBin (gAdd false) (eC (.int 1)) (eCall (Com.c__law_random fu) (aCons (eVar 0) (aCons (eC (.int 4)) aNil)))) aNil))))
noncomputable def q3 (fu : Nat) : SF := (sSet 4 (eCall cTup (aCons (eVar 2) (aCons (eVar 3) (aCons (eComp false fu [14] (iAny (eVar 2)) (.nm 14) tYesF (eCall cTup (aCons (eC (.int 0)) (aCons (eC (.int 0)) aNil)))) (aCons (eCall (cLst false) (aCons (eCall cTup (aCons (eC (.int 0)) (aCons (eBin gSub (eVar 3) (eC (.int 1))) (aCons (eCall cTup (aCons (eC (.str "go")) aNil)) aNil)))) aNil)) aNil))))))
noncomputable def q4 (fu : Nat) : SF := (sSet 5 (eComp false fu [15] (iRange1 (aCons (eVar 3) aNil)) (.nm 15) tYesF (eComp false fu [14] (iAny (eVar 2)) (.nm 14) tYesF (eCall (Com.c__law_range fu) (aCons (eVar 0) (aCons (eVar 1) aNil))))))
noncomputable def q5 (fu : Nat) : SF := (sSet 6 (eComp false fu [15] (iRange1 (aCons (eVar 3) aNil)) (.nm 15) tYesF (eComp false fu [14] (iAny (eVar 2)) (.nm 14) tYesF (eCall (Com.c__law_range fu) (aCons (eVar 0) (aCons (eVar 1) aNil))))))
noncomputable def q6 (fu : Nat) : SF := (sIf (truB (eBin (gEqv false) (eCall (Com.c__law_random fu) (aCons (eVar 0) (aCons (eC (.int 2)) aNil))) (eC (.int 0)))) (sCons (sSet 6 (eComp false fu [7] (iAny (eVar 5)) (.nm 7) tYesF (eCall (Com.c__law_wider fu) (aCons (eVar 0) (aCons (eVar 7) aNil))))) sNil) sNil)
noncomputable def q7 (fu : Nat) : SF := (sPar [7, 8] (aCons (eBin gIx (eVar 5) (eC (.int 0))) (aCons (eBin gIx (eVar 6) (eC (.int 0))) aNil)))
noncomputable def q8 (fu : Nat) : SF := (sSet 9 (eCall cRepr (aCons (eCall (cLst false) (aCons (eVar 4) (aCons (eVar 7) (aCons (eVar 8) aNil)))) aNil)))
noncomputable def q9 (fu : Nat) : SF := (sSet 10 (eCall (cLst true) (aCons (eCall (Com.c_row_within fu) (aCons (eVar 4) (aCons (eVar 7) (aCons (eVar 8) aNil)))) (aCons (eCall (Cw.w_row_joined fu) (aCons (eVar 4) (aCons (eVar 7) (aCons (eVar 8) aNil)))) (aCons (eCall (Cw.w_row_met fu) (aCons (eVar 4) (aCons (eVar 7) (aCons (eVar 8) aNil)))) aNil)))))
noncomputable def q10 (fu : Nat) : SF := (sSet 11 (eCall (cLst false) (aCons (eCall (c__law_within fu) (aCons (eVar 7) (aCons (eVar 8) aNil))) (aCons (eCall (c__law_joined fu) (aCons (eVar 7) (aCons (eVar 8) aNil))) (aCons (eCall (c__law_met fu) (aCons (eVar 7) (aCons (eVar 8) aNil))) aNil)))))
noncomputable def q11 (fu : Nat) : SF := (sSet 12 (eCall (cLst true) (aCons (eCallK (Com.c_row_within fu) 0 3 [0, 2, 1] aNil (aCons (eVar 4) (aCons (eVar 7) (aCons (eVar 8) aNil)))) (aCons (eCallK (Cw.w_row_joined fu) 0 3 [2, 1, 0] aNil (aCons (eVar 7) (aCons (eVar 8) (aCons (eVar 4) aNil)))) (aCons (eCallK (Cw.w_row_met fu) 0 3 [0, 2, 1] aNil (aCons (eVar 4) (aCons (eVar 7) (aCons (eVar 8) aNil)))) aNil)))))
noncomputable def q12 (fu : Nat) : SF := (sIf (tOrF (truB (eBin (gEqv true) (eCall cRepr (aCons (eVar 10) aNil)) (eCall cRepr (aCons (eVar 11) aNil)))) (tOrF (truB (eBin (gEqv true) (eCall cRepr (aCons (eVar 12) aNil)) (eCall cRepr (aCons (eBin (gAdd false) (eCall (cLst false) (aCons (eCall (c__law_within fu) (aCons (eVar 8) (aCons (eVar 7) aNil))) aNil)) (eSl false (eVar 11) (oSome (eC (.int 1))) oNone)) aNil)))) (truB (eBin (gEqv true) (eCall cRepr (aCons (eCall (cLst false) (aCons (eVar 4) (aCons (eVar 7) (aCons (eVar 8) aNil)))) aNil)) (eVar 9))))) (sCons (sRet (eC (.bl false))) sNil) sNil)
noncomputable def q13 (fu : Nat) : SF := (sIf (tOrF (tNotF (truF (eCall (c__law_marked fu) (aCons (eCall (cLst true) (aCons (eVar 10) (aCons (eVar 12) aNil))) aNil)))) (truB (eBin (gEqv true) (eCall cRepr (aCons (eCall (cLst false) (aCons (eVar 4) (aCons (eVar 7) (aCons (eVar 8) aNil)))) aNil)) (eVar 9)))) (sCons (sRet (eC (.bl false))) sNil) sNil)
noncomputable def q14 (fu : Nat) : SF := (sSet 5 (eComp false fu [16] (iAny (eVar 5)) (.nm 16) tYesF (eIf (truB (eBin (gEqv false) (eCall (Com.c__law_random fu) (aCons (eVar 0) (aCons (eC (.int 4)) aNil))) (eC (.int 0)))) (eC .non) (eVar 16))))
noncomputable def q15 (fu : Nat) : SF := (sSet 6 (eComp false fu [16] (iAny (eVar 6)) (.nm 16) tYesF (eIf (truB (eBin (gEqv false) (eCall (Com.c__law_random fu) (aCons (eVar 0) (aCons (eC (.int 4)) aNil))) (eC (.int 0)))) (eC .non) (eVar 16))))
noncomputable def q16 (fu : Nat) : SF := (sPar [9, 13] (aCons (eCall cRepr (aCons (eCall (cLst false) (aCons (eVar 4) (aCons (eVar 5) (aCons (eVar 6) aNil)))) aNil)) (aCons (eLzip false (aCons (eVar 5) (aCons (eVar 6) aNil))) aNil)))
noncomputable def q17 (fu : Nat) : SF := (sSet 11 (eCall (cLst false) (aCons (eBin (gEqv false) (eComp false fu [17, 18] (iAny (eVar 13)) (.tp [17, 18]) (tNotF (truF (eCall (c__law_within fu) (aCons (eVar 17) (aCons (eVar 18) aNil))))) (eVar 17)) (eCall (cLst false) aNil)) (aCons (eComp false fu [17, 18] (iAny (eVar 13)) (.tp [17, 18]) tYesF (eCall (c__law_joined fu) (aCons (eVar 17) (aCons (eVar 18) aNil)))) (aCons (eComp false fu [17, 18] (iAny (eVar 13)) (.tp [17, 18]) tYesF (eCall (c__law_met fu) (aCons (eVar 17) (aCons (eVar 18) aNil)))) aNil)))))
noncomputable def q18 (fu : Nat) : SF := (sSet 10 (eCall (cLst true) (aCons (eCall (Com.c_table_within fu) (aCons (eVar 4) (aCons (eVar 5) (aCons (eVar 6) aNil)))) (aCons (eCall (Cw.w_table_joined fu) (aCons (eVar 4) (aCons (eVar 5) (aCons (eVar 6) aNil)))) (aCons (eCall (Cw.w_table_met fu) (aCons (eVar 4) (aCons (eVar 5) (aCons (eVar 6) aNil)))) aNil)))))
noncomputable def q19 (fu : Nat) : SF := (sIf (tOrF (truB (eBin (gEqv true) (eCall cRepr (aCons (eVar 10) aNil)) (eCall cRepr (aCons (eVar 11) aNil)))) (truB (eBin (gEqv true) (eCallK (Com.c_table_within fu) 0 3 [0, 2, 1] aNil (aCons (eVar 4) (aCons (eVar 5) (aCons (eVar 6) aNil)))) (eBin (gEqv false) (eComp false fu [18, 17] (iAny (eVar 13)) (.tp [18, 17]) (tNotF (truF (eCall (c__law_within fu) (aCons (eVar 17) (aCons (eVar 18) aNil))))) (eVar 17)) (eCall (cLst false) aNil))))) (sCons (sRet (eC (.bl false))) sNil) sNil)
noncomputable def q20 (fu : Nat) : SF := (sIf (tOrF (tNotF (truF (eCall (c__law_marked fu) (aCons (eVar 10) aNil)))) (truB (eBin (gEqv true) (eCall cRepr (aCons (eCall (cLst false) (aCons (eVar 4) (aCons (eVar 5) (aCons (eVar 6) aNil)))) aNil)) (eVar 9)))) (sCons (sRet (eC (.bl false))) sNil) sNil)
noncomputable def q21 (fu : Nat) : SF := (sSet 12 (eCall (cLst true) (aCons (eCallK (Com.c_table_within fu) 0 3 [0, 2, 1] aNil (aCons (eVar 4) (aCons (eVar 6) (aCons (eVar 5) aNil)))) (aCons (eCallK (Cw.w_table_joined fu) 0 3 [0, 2, 1] aNil (aCons (eVar 4) (aCons (eVar 5) (aCons (eVar 6) aNil)))) (aCons (eCallK (Cw.w_table_met fu) 0 3 [2, 1, 0] aNil (aCons (eVar 5) (aCons (eVar 6) (aCons (eVar 4) aNil)))) aNil)))))
noncomputable def q22 (fu : Nat) : SF := (sRet (eAnd (eBin (gEqv false) (eCall cRepr (aCons (eVar 12) aNil)) (eCall cRepr (aCons (eVar 11) aNil))) (eBin (gEqv false) (eCall cRepr (aCons (eCall (cLst false) (aCons (eVar 4) (aCons (eVar 5) (aCons (eVar 6) aNil)))) aNil)) (eVar 9))))
noncomputable def qt22 (fu : Nat) : SF := sCons (q22 fu) sNil
noncomputable def qt21 (fu : Nat) : SF := sCons (q21 fu) (qt22 fu)
noncomputable def qt20 (fu : Nat) : SF := sCons (q20 fu) (qt21 fu)
noncomputable def qt19 (fu : Nat) : SF := sCons (q19 fu) (qt20 fu)
noncomputable def qt18 (fu : Nat) : SF := sCons (q18 fu) (qt19 fu)
noncomputable def qt17 (fu : Nat) : SF := sCons (q17 fu) (qt18 fu)
noncomputable def qt16 (fu : Nat) : SF := sCons (q16 fu) (qt17 fu)
noncomputable def qt15 (fu : Nat) : SF := sCons (q15 fu) (qt16 fu)
noncomputable def qt14 (fu : Nat) : SF := sCons (q14 fu) (qt15 fu)
noncomputable def qt13 (fu : Nat) : SF := sCons (q13 fu) (qt14 fu)
noncomputable def qt12 (fu : Nat) : SF := sCons (q12 fu) (qt13 fu)
noncomputable def qt11 (fu : Nat) : SF := sCons (q11 fu) (qt12 fu)
noncomputable def qt10 (fu : Nat) : SF := sCons (q10 fu) (qt11 fu)
noncomputable def qt9 (fu : Nat) : SF := sCons (q9 fu) (qt10 fu)
noncomputable def qt8 (fu : Nat) : SF := sCons (q8 fu) (qt9 fu)
noncomputable def qt7 (fu : Nat) : SF := sCons (q7 fu) (qt8 fu)
noncomputable def qt6 (fu : Nat) : SF := sCons (q6 fu) (qt7 fu)
noncomputable def qt5 (fu : Nat) : SF := sCons (q5 fu) (qt6 fu)
noncomputable def qt4 (fu : Nat) : SF := sCons (q4 fu) (qt5 fu)
noncomputable def qt3 (fu : Nat) : SF := sCons (q3 fu) (qt4 fu)
noncomputable def qt2 (fu : Nat) : SF := sCons (q2 fu) (qt3 fu)
noncomputable def qt1 (fu : Nat) : SF := sCons (q1 fu) (qt2 fu)
theorem b__law_right_is (fu : Nat) : b__law_right fu = qt1 fu := rfl
noncomputable def l1 (fu : Nat) : SF := (sFor fu (.nm 1) (iRange1 (aCons (eC (.int 4)) aNil)) (sCons (sIf (tNotF (truF (eCall (c__law_right fu) (aCons (eCall (Com.v__law_generator fu) (aCons (eVar 0) (aCons (eVar 1) aNil))) aNil)))) (sCons (sRet (eC (.bl false))) sNil) sNil) sNil))
noncomputable def l2 (fu : Nat) : SF := (sSet 2 (eCall cTup (aCons (eCall (cLst false) (aCons (eC (.str "x")) (aCons (eC (.str "y")) aNil))) (aCons (eC (.int 2)) (aCons (eCall (cLst false) (aCons (eCall cTup (aCons (eC (.int 0)) (aCons (eC (.int 0)) aNil))) (aCons (eCall cTup (aCons (eC (.int 0)) (aCons (eC (.int 0)) aNil))) aNil))) (aCons (eCall (cLst false) aNil) aNil))))))
noncomputable def l3 (fu : Nat) : SF := (sSet 3 (eCall (cLst false) (aCons (eCall (Com.c_row_within fu) (aCons (eVar 2) (aCons (eCall (cLst false) (aCons (eCall cTup (aCons (eC (.int 0)) (aCons (eC (.int 1)) aNil))) (aCons (eCall cTup (aCons (eC (.int 2)) (aCons (eC (.int 2)) aNil))) aNil))) (aCons (eCall (cLst false) (aCons (eCall cTup (aCons (eC (.int 0)) (aCons (eC .non) aNil))) (aCons (eCall cTup (aCons (eC (.int 2)) (aCons (eC (.int 2)) aNil))) aNil))) aNil)))) (aCons (eCall (Com.c_row_joined fu) (aCons (eVar 2) (aCons (eCall (cLst false) (aCons (eCall cTup (aCons (eC (.int 0)) (aCons (eC (.int 1)) aNil))) (aCons (eCall cTup (aCons (eC (.int 2)) (aCons (eC (.int 2)) aNil))) aNil))) (aCons (eCall (cLst false) (aCons (eCall cTup (aCons (eC (.int 3)) (aCons (eC (.int 3)) aNil))) (aCons (eCall cTup (aCons (eC (.int 1)) (aCons (eC (.int 2)) aNil))) aNil))) aNil)))) (aCons (eCall (Com.c_row_met fu) (aCons (eVar 2) (aCons (eCall (cLst false) (aCons (eCall cTup (aCons (eC (.int 0)) (aCons (eC (.int 4)) aNil))) (aCons (eCall cTup (aCons (eC (.int 2)) (aCons (eC (.int 2)) aNil))) aNil))) (aCons (eCall (cLst false) (aCons (eCall cTup (aCons (eC (.int 3)) (aCons (eC (.int 6)) aNil))) (aCons (eCall cTup (aCons (eC (.int 1)) (aCons (eC (.int 2)) aNil))) aNil))) aNil)))) aNil)))))
noncomputable def l4 (fu : Nat) : SF := (sSet 3 (eBin (gAdd false) (eVar 3) (eCall (cLst false) (aCons (eCall (Com.c_row_met fu) (aCons (eVar 2) (aCons (eCall (cLst false) (aCons (eCall cTup (aCons (eC (.int 0)) (aCons (eC (.int 4)) aNil))) (aCons (eCall cTup (aCons (eC (.int 2)) (aCons (eC (.int 2)) aNil))) aNil))) (aCons (eCall (cLst false) (aCons (eCall cTup (aCons (eC (.int 3)) (aCons (eC (.int 6)) aNil))) (aCons (eCall cTup (aCons (eC (.int 3)) (aCons (eC (.int 4)) aNil))) aNil))) aNil)))) (aCons (eCall (Com.c_table_within fu) (aCons (eVar 2) (aCons (eCall (cLst false) (aCons (eC .non) (aCons (eC .non) aNil))) (aCons (eCall (cLst false) (aCons (eC .non) (aCons (eCall (cLst false) (aCons (eCall cTup (aCons (eC (.int 0)) (aCons (eC (.int 0)) aNil))) (aCons (eCall cTup (aCons (eC (.int 1)) (aCons (eC (.int 1)) aNil))) aNil))) aNil))) aNil)))) (aCons (eCall (Com.c_table_within fu) (aCons (eVar 2) (aCons (eCall (cLst false) (aCons (eC .non) (aCons (eCall (cLst false) (aCons (eCall cTup (aCons (eC (.int 0)) (aCons (eC (.int 0)) aNil))) (aCons (eCall cTup (aCons (eC (.int 1)) (aCons (eC (.int 1)) aNil))) aNil))) aNil))) (aCons (eCall (cLst false) (aCons (eC .non) (aCons (eC .non) aNil))) aNil)))) aNil))))))
noncomputable def l5 (fu : Nat) : SF := (sRet (eBin (gEqv false) (eCall cRepr (aCons (eVar 3) aNil)) (eCall cRepr (aCons (eCall (cLst false) (aCons (eC (.bl true)) (aCons (eCall (cLst false) (aCons (eCall cTup (aCons (eC (.int 0)) (aCons (eC (.int 3)) aNil))) (aCons (eCall cTup (aCons (eC (.int 1)) (aCons (eC (.int 2)) aNil))) aNil))) (aCons (eCall (cLst false) (aCons (eCall cTup (aCons (eC (.int 3)) (aCons (eC (.int 4)) aNil))) (aCons (eCall cTup (aCons (eC (.int 2)) (aCons (eC (.int 2)) aNil))) aNil))) (aCons (eC .non) (aCons (eC (.bl true)) (aCons (eC (.bl false)) aNil))))))) aNil))))
noncomputable def lt5 (fu : Nat) : SF := sCons (l5 fu) sNil
noncomputable def lt4 (fu : Nat) : SF := sCons (l4 fu) (lt5 fu)
noncomputable def lt3 (fu : Nat) : SF := sCons (l3 fu) (lt4 fu)
noncomputable def lt2 (fu : Nat) : SF := sCons (l2 fu) (lt3 fu)
noncomputable def lt1 (fu : Nat) : SF := sCons (l1 fu) (lt2 fu)
theorem b_law_is (fu : Nat) : b_law fu = lt1 fu := rfl
end K16
namespace Sp
open PySem PySem.Spec PyProof.Rows L2 Lv Com
section
variable {fu : Nat} {S : Sto}
theorem comp_drawL {L : Int} {α : Type} {n : Nat} {own : List Nat} {it : IFn} {t : Tg} {f : EF} {env : Lv.Env} {g : Nat} {B k : Int} {G : Gn} {ds : List D} (enc : α → D) (Qp : α → Prop) (hit : it env S = some (.fix ds, S)) (eg : S[g]? = some (gc G)) (hG : OkG B G) (hk0 : 0 ≤ k) (hB : B + k * ds.length ≤ L) (hn : ds.length < n) (hl : ds.length ≤ 1000000) (hr : ∀ y, noRef (enc y) = true)
    (hb : ∀ d ∈ ds, ∃ e1, setTg t d (wipeE env own) = some e1 ∧ ∀ (X : Sto) (B' : Int) (G' : Gn), X[g]? = some (gc G') → OkG B' G' → B' ≤ L → ∃ y G2, f e1 X = some (enc y, X.set g (gc G2)) ∧ Qp y ∧ OkG (B' + k) G2) :
    ∃ (ys : List α) (G' : Gn), eComp false n own it t tYesF f env S = some (.vl (ys.map enc), S.set g (gc G')) ∧ ys.length = ds.length ∧ (∀ y ∈ ys, Qp y) ∧ OkG (B + k * ds.length) G' := by
  have hgl := (List.getElem?_eq_some_iff.mp eg).1
  have hS : ∀ G : Gn, (S.set g (gc G)).length = S.length := fun G => List.length_set
  obtain ⟨acc, S', e, ys, G', rfl, rfl, h1, h2, h3⟩ := compL_fix (t := t) (c := tYesF) (f := f) (kC := S.length) (env := wipeE env own) (ds := ds)
    (fun i acc X => ∃ (ys : List α) (G' : Gn), acc = ys.map enc ∧ X = S.set g (gc G') ++ [.lst acc] ∧ ys.length = i ∧ (∀ y ∈ ys, Qp y) ∧ OkG (B + k * i) G')
    (by rintro i acc X ⟨ys, G', rfl, rfl, _⟩; have := new_last (S := S.set g (gc G')) (c := .lst (ys.map enc)); rwa [hS] at this) n 0 [] (S ++ [.lst []]) ⟨[], G, rfl, by rw [sto_self eg], rfl, fun y hy => (by cases hy), hG.mono (by simp)⟩ (Nat.zero_le _) (by omega) (by
      rintro i d acc X hd ⟨ys, G1, rfl, rfl, hi, hQ, g1⟩
      obtain ⟨e1, k1, k2⟩ := hb d (List.mem_of_getElem? hd)
      have hil := (List.getElem?_eq_some_iff.mp hd).1
      have hkm : k * (i : Int) ≤ k * (ds.length : Int) := Int.mul_le_mul_of_nonneg_left (by omega) hk0
      obtain ⟨y, G2, k3, k4, k5⟩ := k2 (S.set g (gc G1) ++ [.lst (ys.map enc)]) (B + k * i) G1 (app_get (List.getElem?_set_self hgl)) g1 (by omega)
      rw [app_set (by rw [hS]; exact hgl), List.set_set] at k3
      have nl : (S.set g (gc G2) ++ [Cell.lst (ys.map enc)])[S.length]? = some (.lst (ys.map enc)) := by have := new_last (S := S.set g (gc G2)) (c := .lst (ys.map enc)); rwa [hS] at this
      have sl : (S.set g (gc G2) ++ [Cell.lst (ys.map enc)]).set S.length (.lst (ys.map enc ++ [enc y])) = S.set g (gc G2) ++ [.lst (ys.map enc ++ [enc y])] := by have := set_last (S := S.set g (gc G2)) (c := .lst (ys.map enc)) (c' := .lst (ys.map enc ++ [enc y])); rwa [hS] at this
      refine ⟨e1, k1, true, _, rfl, fun z => (by cases z), fun _ => ⟨enc y, _, k3, nl, ?_, ys ++ [y], G2, ?_, ?_, ?_, ?_, ?_⟩⟩
      · rw [List.length_map, hi]
        exact Nat.lt_of_lt_of_le (Nat.lt_of_lt_of_le hil hl) (by decide)
      · rw [List.map_append]; rfl
      · rw [sl]
      · rw [List.length_append, hi]; rfl
      · intro z hz
        rcases List.mem_append.mp hz with hz | hz
        · exact hQ z hz
        · rw [List.mem_singleton.mp hz]; exact k4
      · refine k5.mono ?_
        rw [show ((i + 1 : Nat) : Int) = (i : Int) + 1 by simp, Int.mul_add]
        omega)
  refine ⟨ys, G', ?_, h1, h2, h3⟩
  unfold eComp
  rw [hit]
  dsimp only
  rw [e]
  dsimp only
  unfold finC
  rw [if_neg (by decide)]
  exact shut_setr (T := []) rfl (noRefs_of fun d hd => by
    obtain ⟨y, _, rfl⟩ := List.mem_map.mp hd
    exact hr y)
def RwB (n : Nat) (m : Int) (rs : List Rg) : Prop := rs.length = n ∧ ∀ r ∈ rs, okR r = true ∧ BdR m r
theorem grid_drawn (hf : 10000 ≤ fu) {g : Nat} {B m : Int} {G : Gn} {zs : List Str} {c : Nat} {env : Lv.Env} {e0 e1 e2 e3 e4 e5 e6 e7 e8 e9 e10 e11 e12 e13 e14 e15 e16 e17 : Option D} (eg : S[g]? = some (gc G)) (hG : OkG B G) (hB : B ≤ 2 ^ 30) (hm0 : 0 ≤ m) (hm : m < 2 ^ 110) (h5 : zs.length ≤ 5) (hc : c ≤ 10) :
    ∃ (T : List (List Rg)) (G' : Gn), eComp false fu [15] (iRange1 (aCons (eVar 3) aNil)) (.nm 15) tYesF (eComp false fu [14] (iAny (eVar 2)) (.nm 14) tYesF (eCall (Com.c__law_range fu) (aCons (eVar 0) (aCons (eVar 1) aNil)))) [some (.ref g), some (.int m), some (dN zs), some (.int (c : Nat)), e4, e5, e6, e7, e8, e9, e10, e11, e12, e13, e14, e15, e16, e17, e0] S = some (.vl (T.map dRow), S.set g (gc G')) ∧ T.length = c ∧ (∀ rs ∈ T, RwB zs.length m rs) ∧ OkG (B + 1000) G' := by
  have hlen : (zs.map D.str).length = zs.length := List.length_map _
  have hrl : (rangeD 0 c).length = c := by unfold rangeD; rw [List.length_map, List.length_range]
  obtain ⟨T, G', e, l, q, g'⟩ := comp_drawL (L := 2 ^ 50) (n := fu) (own := [15]) (it := iRange1 (aCons (eVar 3) aNil)) (t := .nm 15) (f := eComp false fu [14] (iAny (eVar 2)) (.nm 14) tYesF (eCall (Com.c__law_range fu) (aCons (eVar 0) (aCons (eVar 1) aNil)))) (env := [some (.ref g), some (.int m), some (dN zs), some (.int (c : Nat)), e4, e5, e6, e7, e8, e9, e10, e11, e12, e13, e14, e15, e16, e17, e0]) (ds := rangeD 0 c) (k := 75) dRow (RwB zs.length m) (by
      unfold iRange1
      simp only [r_sCons, r_sIf, r_tAnd, r_tOr, r_tNot, r_truB, r_truF, r_truD_bl, r_eBin, r_eVar, r_eC, r_eCall, r_eCallK, r_aCons, r_aNil, r_eAnd, r_eOr, r_eNotT, r_eIf, r_eNeg, r_eChain, r_sNil, r_sDrop, r_sRet, r_sSet, r_sAsg, r_sPar, r_nm, r_tp, r_sets, r_sets0, List.getElem?_cons_zero, List.getElem?_cons_succ, List.set_cons_zero, List.set_cons_succ, List.length_cons, List.length_nil, List.map_cons, List.map_nil, List.cons_append, List.nil_append, Nat.zero_add, Nat.reduceAdd, Nat.sub_self, Nat.reduceSub, Nat.add_zero, List.reduceReplicate, List.replicate_zero, List.append_nil, if_true, if_false, Bool.false_eq_true, Bool.not_true, Bool.not_false, Bool.true_and, Bool.and_true, Bool.false_and, Bool.and_false, Bool.or_true, Bool.true_or, Bool.false_or, Bool.or_false, reduceIte, r_fnF, r_sealed, r_start, t_tup0, t_tup1, t_tup2, t_tup3, t_tup4, t_lst0, t_lst1, t_lst2, t_lst3, t_lst4, t_lst5, t_lst6, t_lst7, t_lst8, t_lst9, t_lst10, r_mkV, r_mkR, r_isN, r_non0, r_non1, r_non2, r_non3, r_non4, r_non5, r_non6, isi_int, isi_intb, isi_tup, isi_str, isi_vl, isi_ints, isi_tups, r_cmp2i, r_cmp2t, r_cmpI, r_eqv_int, r_eqv_str, r_add, r_sub, r_arith, r_ix_tup, r_ix_vl, r_len_tup, r_len_vl, r_cInt, r_cMin, r_cMax, r_lof_vl, r_lof_tup, r_tof_vl, r_tof_tup, r_truD_vl, r_truD_tup, r_truD_int, r_truD_non, r_oSome, r_oNone, r_eSl, r_sl_vl, r_sl_tup, r_iAny, r_eMethL, r_isRef_vl, ix20, ix21, nr_int, nr_bl, nr_non, nr_str, nr_tup, nr_vl, nrs_nil, nrs_cons, shut_same, pick_nil, pick_cons, decide_true, decide_false]
      rw [if_pos ⟨by omega, by omega⟩, Int.toNat_natCast]) eg hG (by decide) (by rw [hrl]; omega) (by rw [hrl]; omega) (by rw [hrl]; omega) (fun y => nr_dRow) (fun y hy => ⟨[some (.ref g), some (.int m), some (dN zs), some (.int (c : Nat)), e4, e5, e6, e7, e8, e9, e10, e11, e12, e13, e14, some y, e16, e17, e0], rfl, fun X B' G1 ex hX hB' => by
      obtain ⟨rs, G2, k1, k2, k3, k4⟩ := comp_drawL (L := 2 ^ 51) (n := fu) (own := [14]) (it := iAny (eVar 2)) (t := .nm 14) (f := eCall (c__law_range fu) (aCons (eVar 0) (aCons (eVar 1) aNil))) (env := [some (.ref g), some (.int m), some (dN zs), some (.int (c : Nat)), e4, e5, e6, e7, e8, e9, e10, e11, e12, e13, e14, some y, e16, e17, e0]) (ds := zs.map D.str) (k := 15) dR (fun r => okR r = true ∧ BdR m r) rfl ex hX (by decide) (by omega) (by omega) (by omega) (fun y => nr_dR) (fun z hz => ⟨[some (.ref g), some (.int m), some (dN zs), some (.int (c : Nat)), e4, e5, e6, e7, e8, e9, e10, e11, e12, e13, some z, some y, e16, e17, e0], rfl, fun X2 B2 G2 ex2 hX2 hB2 => by
        obtain ⟨r, G3, j1, j2, j3, j4⟩ := range_ok hf (m := m) ex2 hX2 (by omega) hm0 hm
        exact ⟨r, G3, by simp only [r_eVar, r_eCall, r_aCons, r_aNil, List.getElem?_cons_zero, List.getElem?_cons_succ, j1], ⟨j2, j3⟩, j4⟩⟩)
      exact ⟨rs, G2, k1, ⟨by rw [k2, hlen], k3⟩, k4.mono (by omega)⟩⟩)
  exact ⟨T, G', e, by rw [l, hrl], q, g'.mono (by rw [hrl]; omega)⟩
def wid (w : Int) (r : Rg) : Rg := (if w = 0 then none else r.1.map fun a => a - w / 3, if w = 1 then none else r.2.map fun b => b + w / 4)
theorem wid_ok {m w : Int} {r : Rg} (h0 : 0 ≤ w) (h5 : w < 5) (ho : okR r = true) (hb : BdR m r) : okR (wid w r) = true ∧ BdR (m + 1) (wid w r) := by
  have d3 : 0 ≤ w / 3 ∧ w / 3 ≤ 1 := by omega
  have d4 : 0 ≤ w / 4 ∧ w / 4 ≤ 1 := by omega
  obtain ⟨a, b⟩ := r
  have ha : ∀ i, a = some i → -m ≤ i ∧ i ≤ m := hb.1
  have hbb : ∀ i, b = some i → -m ≤ i ∧ i ≤ m := hb.2
  unfold wid
  constructor
  · by_cases c0 : w = 0
    · rw [if_pos c0]
      rfl
    · rw [if_neg c0]
      by_cases c1 : w = 1
      · rw [if_pos c1]
        cases a <;> rfl
      · rw [if_neg c1]
        rcases a with _ | a <;> rcases b with _ | b <;> try rfl
        have : a ≤ b := of_decide_eq_true ho
        exact decide_eq_true (by show a - w / 3 ≤ b + w / 4; omega)
  · constructor
    · intro i e
      dsimp only at e
      split at e
      · cases e
      · rcases a with _ | a
        · cases e
        · cases e
          have := ha a rfl
          show -(m + 1) ≤ a - w / 3 ∧ a - w / 3 ≤ m + 1
          omega
    · intro i e
      dsimp only at e
      split at e
      · cases e
      · rcases b with _ | b
        · cases e
        · cases e
          have := hbb b rfl
          show -(m + 1) ≤ b + w / 4 ∧ b + w / 4 ≤ m + 1
          omega
noncomputable def wdb (fu : Nat) : SF := (sCons (sSet 5 (eCall (Com.c__law_random fu) (aCons (eVar 0) (aCons (eC (.int 5)) aNil)))) (sCons (sDrop (eMethL mAppend (eVar 2) (aCons (eCall cTup (aCons (eIf (tOrF (truB (eBin (gEqv false) (eVar 5) (eC (.int 0)))) (truB (eBin (gIsN false) (eVar 3) (eC .non)))) (eC .non) (eBin gSub (eVar 3) (eBin (gArith fDiv) (eVar 5) (eC (.int 3))))) (aCons (eIf (tOrF (truB (eBin (gEqv false) (eVar 5) (eC (.int 1)))) (truB (eBin (gIsN false) (eVar 4) (eC .non)))) (eC .non) (eBin (gAdd false) (eVar 4) (eBin (gArith fDiv) (eVar 5) (eC (.int 4))))) aNil))) aNil))) sNil))
theorem wider_ok (hf : 10000 ≤ fu) {g : Nat} {B m : Int} {G : Gn} {n : Nat} {rs : List Rg} (eg : S[g]? = some (gc G)) (hG : OkG B G) (hB : B ≤ 2 ^ 52) (hn : n ≤ 5) (hr : RwB n m rs) :
    ∃ (us : List Rg) (G' : Gn), Com.c__law_wider fu [.ref g, dRow rs] S = some (dRow us, S.set g (gc G')) ∧ RwB n (m + 1) us ∧ OkG (B + 50) G' := by
  have hgl := (List.getElem?_eq_some_iff.mp eg).1
  obtain ⟨hrl, hrr⟩ := hr
  obtain ⟨e', S1, hl, us, G1, v3, v4, v5, rfl, rfl, hul, hU, g1⟩ := forL_fix (b := wdb fu) (t := .tp [3, 4]) (ds := rs.map dR)
    (fun i env S' => ∃ (us : List Rg) (G' : Gn) (v3 v4 v5 : Option D), env = [some (.ref g), some (dRow rs), some (.ref S.length), v3, v4, v5] ∧ S' = S.set g (gc G') ++ [.lst (us.map dR)] ∧ us.length = i ∧ (∀ r ∈ us, okR r = true ∧ BdR (m + 1) r) ∧ OkG (B + 5 * i) G')
    fu 0 [some (.ref g), some (dRow rs), some (.ref S.length), none, none, none] (S ++ [.lst []]) ⟨[], G, none, none, none, rfl, by rw [sto_self eg]; rfl, rfl, fun r hr => (by cases hr), hG.mono (by simp)⟩ (Nat.zero_le _) (by rw [List.length_map]; omega) (by
      rintro i x env S2 hx ⟨us, G2, v3, v4, v5, rfl, rfl, hul, hU, g2⟩
      rw [List.getElem?_map] at hx
      cases hq : rs[i]? with
      | none => rw [hq] at hx; cases hx
      | some r =>
        rw [hq] at hx
        cases hx
        have hil := (List.getElem?_eq_some_iff.mp hq).1
        obtain ⟨ho, hb⟩ := hrr r (List.mem_of_getElem? hq)
        have lenk : ∀ (G : Gn), (S.set g (gc G)).length = S.length := fun G => List.length_set
        have atk : ∀ (G : Gn) (c : Cell), ((S.set g (gc G)) ++ [c])[S.length]? = some c := fun G c => by
          have := new_last (S := S.set g (gc G)) (c := c)
          rwa [lenk] at this
        have setl : ∀ (G : Gn) (c c' : Cell), ((S.set g (gc G)) ++ [c]).set S.length c' = S.set g (gc G) ++ [c'] := fun G c c' => by
          have := set_last (S := S.set g (gc G)) (c := c) (c' := c')
          rwa [lenk] at this
        obtain ⟨w, G3, e3, w0, w5, g3⟩ := random_ok hf (b := 5) (S := S.set g (gc G2) ++ [.lst (us.map dR)]) (app_keep _ _ (List.getElem?_set_self hgl)) g2 (by omega) (by omega) (by omega)
        rw [List.set_append_left _ _ (by rw [lenk]; exact hgl), List.set_set] at e3
        have e3' : c__law_random fu [.ref g, .int 5] (S.set g (gc G2) ++ [.lst (us.map dR)]) = some (.int w, S.set g (gc G3) ++ [.lst (us.map dR)]) := e3
        have d3 : fDiv w 3 = some (w / 3) := if_pos ⟨by decide, by decide⟩
        have d4 : fDiv w 4 = some (w / 4) := if_pos ⟨by decide, by decide⟩
        have ap : mAppend (.ref S.length) [dR (wid w r)] (S.set g (gc G3) ++ [.lst (us.map dR)]) = some (.non, S.set g (gc G3) ++ [.lst ((us ++ [wid w r]).map dR)]) := by
          unfold mAppend
          dsimp only
          rw [atk]
          dsimp only
          rw [if_pos (Nat.lt_of_le_of_lt (show (us.map dR).length ≤ 1000 by rw [List.length_map]; omega) (by decide)), setl, List.map_append]
          rfl
        have ir : isRef (S.set g (gc G3) ++ [.lst (us.map dR)]) (.ref S.length) = true := decide_eq_true (by rw [List.length_append, lenk]; simp)
        obtain ⟨k1, k2⟩ := wid_ok w0 w5 ho hb
        refine ⟨[some (.ref g), some (dRow rs), some (.ref S.length), some (dO r.1), some (dO r.2), v5], rfl, [some (.ref g), some (dRow rs), some (.ref S.length), some (dO r.1), some (dO r.2), some (.int w)], S.set g (gc G3) ++ [.lst ((us ++ [wid w r]).map dR)], ?_, us ++ [wid w r], G3, _, _, _, rfl, rfl, by rw [List.length_append, hul]; rfl, fun z hz => ?_, g3.mono (by push_cast; omega)⟩
        · have n1 : isNon (dO r.1) = r.1.isNone := by cases r.1 <;> rfl
          have n2 : isNon (dO r.2) = r.2.isNone := by cases r.2 <;> rfl
          obtain ⟨a, b⟩ := r
          unfold wdb
          rw [cons_eq (e1 := [some (.ref g), some (dRow rs), some (.ref S.length), some (dO a), some (dO b), some (.int w)]) (S1 := S.set g (gc G3) ++ [.lst (us.map dR)]) (by simp only [r_sCons, r_sIf, r_tAnd, r_tOr, r_tNot, r_truB, r_truF, r_truD_bl, r_eBin, r_eVar, r_eC, r_eCall, r_eCallK, r_aCons, r_aNil, r_eAnd, r_eOr, r_eNotT, r_eIf, r_eNeg, r_eChain, r_sNil, r_sDrop, r_sRet, r_sSet, r_sAsg, r_sPar, r_nm, r_tp, r_sets, r_sets0, List.getElem?_cons_zero, List.getElem?_cons_succ, List.set_cons_zero, List.set_cons_succ, List.length_cons, List.length_nil, List.map_cons, List.map_nil, List.cons_append, List.nil_append, Nat.zero_add, Nat.reduceAdd, Nat.sub_self, Nat.reduceSub, Nat.add_zero, List.reduceReplicate, List.replicate_zero, List.append_nil, if_true, if_false, Bool.false_eq_true, Bool.not_true, Bool.not_false, Bool.true_and, Bool.and_true, Bool.false_and, Bool.and_false, Bool.or_true, Bool.true_or, Bool.false_or, Bool.or_false, reduceIte, r_fnF, r_sealed, r_start, t_tup0, t_tup1, t_tup2, t_tup3, t_tup4, t_lst0, t_lst1, t_lst2, t_lst3, t_lst4, t_lst5, t_lst6, t_lst7, t_lst8, t_lst9, t_lst10, r_mkV, r_mkR, r_isN, r_non0, r_non1, r_non2, r_non3, r_non4, r_non5, r_non6, isi_int, isi_intb, isi_tup, isi_str, isi_vl, isi_ints, isi_tups, r_cmp2i, r_cmp2t, r_cmpI, r_eqv_int, r_eqv_str, r_add, r_sub, r_arith, r_ix_tup, r_ix_vl, r_len_tup, r_len_vl, r_cInt, r_cMin, r_cMax, r_lof_vl, r_lof_tup, r_tof_vl, r_tof_tup, r_truD_vl, r_truD_tup, r_truD_int, r_truD_non, r_oSome, r_oNone, r_eSl, r_sl_vl, r_sl_tup, r_iAny, r_eMethL, r_isRef_vl, ix20, ix21, nr_int, nr_bl, nr_non, nr_str, nr_tup, nr_vl, nrs_nil, nrs_cons, shut_same, pick_nil, pick_cons, decide_true, decide_false, e3'])]
          have ht : eCall cTup (aCons (eIf (tOrF (truB (eBin (gEqv false) (eVar 5) (eC (.int 0)))) (truB (eBin (gIsN false) (eVar 3) (eC .non)))) (eC .non) (eBin gSub (eVar 3) (eBin (gArith fDiv) (eVar 5) (eC (.int 3))))) (aCons (eIf (tOrF (truB (eBin (gEqv false) (eVar 5) (eC (.int 1)))) (truB (eBin (gIsN false) (eVar 4) (eC .non)))) (eC .non) (eBin (gAdd false) (eVar 4) (eBin (gArith fDiv) (eVar 5) (eC (.int 4))))) aNil)) [some (.ref g), some (dRow rs), some (.ref S.length), some (dO a), some (dO b), some (.int w)] (S.set g (gc G3) ++ [.lst (us.map dR)]) = some (dR (wid w (a, b)), S.set g (gc G3) ++ [.lst (us.map dR)]) := by
            unfold wid
            by_cases c0 : w = 0 <;> by_cases c1 : w = 1
            · omega
            · have b0 : (w == 0) = true := beq_iff_eq.mpr c0
              have b1 : (w == 1) = false := beq_eq_false_iff_ne.mpr c1
              rw [if_pos c0, if_neg c1]
              cases a <;> cases b <;> simp only [r_sCons, r_sIf, r_tAnd, r_tOr, r_tNot, r_truB, r_truF, r_truD_bl, r_eBin, r_eVar, r_eC, r_eCall, r_eCallK, r_aCons, r_aNil, r_eAnd, r_eOr, r_eNotT, r_eIf, r_eNeg, r_eChain, r_sNil, r_sDrop, r_sRet, r_sSet, r_sAsg, r_sPar, r_nm, r_tp, r_sets, r_sets0, List.getElem?_cons_zero, List.getElem?_cons_succ, List.set_cons_zero, List.set_cons_succ, List.length_cons, List.length_nil, List.map_cons, List.map_nil, List.cons_append, List.nil_append, Nat.zero_add, Nat.reduceAdd, Nat.sub_self, Nat.reduceSub, Nat.add_zero, List.reduceReplicate, List.replicate_zero, List.append_nil, if_true, if_false, Bool.false_eq_true, Bool.not_true, Bool.not_false, Bool.true_and, Bool.and_true, Bool.false_and, Bool.and_false, Bool.or_true, Bool.true_or, Bool.false_or, Bool.or_false, reduceIte, r_fnF, r_sealed, r_start, t_tup0, t_tup1, t_tup2, t_tup3, t_tup4, t_lst0, t_lst1, t_lst2, t_lst3, t_lst4, t_lst5, t_lst6, t_lst7, t_lst8, t_lst9, t_lst10, r_mkV, r_mkR, r_isN, r_non0, r_non1, r_non2, r_non3, r_non4, r_non5, r_non6, isi_int, isi_intb, isi_tup, isi_str, isi_vl, isi_ints, isi_tups, r_cmp2i, r_cmp2t, r_cmpI, r_eqv_int, r_eqv_str, r_add, r_sub, r_arith, r_ix_tup, r_ix_vl, r_len_tup, r_len_vl, r_cInt, r_cMin, r_cMax, r_lof_vl, r_lof_tup, r_tof_vl, r_tof_tup, r_truD_vl, r_truD_tup, r_truD_int, r_truD_non, r_oSome, r_oNone, r_eSl, r_sl_vl, r_sl_tup, r_iAny, r_eMethL, r_isRef_vl, ix20, ix21, nr_int, nr_bl, nr_non, nr_str, nr_tup, nr_vl, nrs_nil, nrs_cons, shut_same, pick_nil, pick_cons, decide_true, decide_false, b0, b1, d3, d4, dO, Option.map, dR]
            · have b0 : (w == 0) = false := beq_eq_false_iff_ne.mpr c0
              have b1 : (w == 1) = true := beq_iff_eq.mpr c1
              rw [if_neg c0, if_pos c1]
              cases a <;> cases b <;> simp only [r_sCons, r_sIf, r_tAnd, r_tOr, r_tNot, r_truB, r_truF, r_truD_bl, r_eBin, r_eVar, r_eC, r_eCall, r_eCallK, r_aCons, r_aNil, r_eAnd, r_eOr, r_eNotT, r_eIf, r_eNeg, r_eChain, r_sNil, r_sDrop, r_sRet, r_sSet, r_sAsg, r_sPar, r_nm, r_tp, r_sets, r_sets0, List.getElem?_cons_zero, List.getElem?_cons_succ, List.set_cons_zero, List.set_cons_succ, List.length_cons, List.length_nil, List.map_cons, List.map_nil, List.cons_append, List.nil_append, Nat.zero_add, Nat.reduceAdd, Nat.sub_self, Nat.reduceSub, Nat.add_zero, List.reduceReplicate, List.replicate_zero, List.append_nil, if_true, if_false, Bool.false_eq_true, Bool.not_true, Bool.not_false, Bool.true_and, Bool.and_true, Bool.false_and, Bool.and_false, Bool.or_true, Bool.true_or, Bool.false_or, Bool.or_false, reduceIte, r_fnF, r_sealed, r_start, t_tup0, t_tup1, t_tup2, t_tup3, t_tup4, t_lst0, t_lst1, t_lst2, t_lst3, t_lst4, t_lst5, t_lst6, t_lst7, t_lst8, t_lst9, t_lst10, r_mkV, r_mkR, r_isN, r_non0, r_non1, r_non2, r_non3, r_non4, r_non5, r_non6, isi_int, isi_intb, isi_tup, isi_str, isi_vl, isi_ints, isi_tups, r_cmp2i, r_cmp2t, r_cmpI, r_eqv_int, r_eqv_str, r_add, r_sub, r_arith, r_ix_tup, r_ix_vl, r_len_tup, r_len_vl, r_cInt, r_cMin, r_cMax, r_lof_vl, r_lof_tup, r_tof_vl, r_tof_tup, r_truD_vl, r_truD_tup, r_truD_int, r_truD_non, r_oSome, r_oNone, r_eSl, r_sl_vl, r_sl_tup, r_iAny, r_eMethL, r_isRef_vl, ix20, ix21, nr_int, nr_bl, nr_non, nr_str, nr_tup, nr_vl, nrs_nil, nrs_cons, shut_same, pick_nil, pick_cons, decide_true, decide_false, b0, b1, d3, d4, dO, Option.map, dR]
            · have b0 : (w == 0) = false := beq_eq_false_iff_ne.mpr c0
              have b1 : (w == 1) = false := beq_eq_false_iff_ne.mpr c1
              rw [if_neg c0, if_neg c1]
              cases a <;> cases b <;> simp only [r_sCons, r_sIf, r_tAnd, r_tOr, r_tNot, r_truB, r_truF, r_truD_bl, r_eBin, r_eVar, r_eC, r_eCall, r_eCallK, r_aCons, r_aNil, r_eAnd, r_eOr, r_eNotT, r_eIf, r_eNeg, r_eChain, r_sNil, r_sDrop, r_sRet, r_sSet, r_sAsg, r_sPar, r_nm, r_tp, r_sets, r_sets0, List.getElem?_cons_zero, List.getElem?_cons_succ, List.set_cons_zero, List.set_cons_succ, List.length_cons, List.length_nil, List.map_cons, List.map_nil, List.cons_append, List.nil_append, Nat.zero_add, Nat.reduceAdd, Nat.sub_self, Nat.reduceSub, Nat.add_zero, List.reduceReplicate, List.replicate_zero, List.append_nil, if_true, if_false, Bool.false_eq_true, Bool.not_true, Bool.not_false, Bool.true_and, Bool.and_true, Bool.false_and, Bool.and_false, Bool.or_true, Bool.true_or, Bool.false_or, Bool.or_false, reduceIte, r_fnF, r_sealed, r_start, t_tup0, t_tup1, t_tup2, t_tup3, t_tup4, t_lst0, t_lst1, t_lst2, t_lst3, t_lst4, t_lst5, t_lst6, t_lst7, t_lst8, t_lst9, t_lst10, r_mkV, r_mkR, r_isN, r_non0, r_non1, r_non2, r_non3, r_non4, r_non5, r_non6, isi_int, isi_intb, isi_tup, isi_str, isi_vl, isi_ints, isi_tups, r_cmp2i, r_cmp2t, r_cmpI, r_eqv_int, r_eqv_str, r_add, r_sub, r_arith, r_ix_tup, r_ix_vl, r_len_tup, r_len_vl, r_cInt, r_cMin, r_cMax, r_lof_vl, r_lof_tup, r_tof_vl, r_tof_tup, r_truD_vl, r_truD_tup, r_truD_int, r_truD_non, r_oSome, r_oNone, r_eSl, r_sl_vl, r_sl_tup, r_iAny, r_eMethL, r_isRef_vl, ix20, ix21, nr_int, nr_bl, nr_non, nr_str, nr_tup, nr_vl, nrs_nil, nrs_cons, shut_same, pick_nil, pick_cons, decide_true, decide_false, b0, b1, d3, d4, dO, Option.map, dR]
          have hv : eVar 2 [some (.ref g), some (dRow rs), some (.ref S.length), some (dO a), some (dO b), some (.int w)] (S.set g (gc G3) ++ [.lst (us.map dR)]) = some (.ref S.length, S.set g (gc G3) ++ [.lst (us.map dR)]) := rfl
          rw [cons_eq (e1 := [some (.ref g), some (dRow rs), some (.ref S.length), some (dO a), some (dO b), some (.int w)]) (S1 := S.set g (gc G3) ++ [.lst ((us ++ [wid w (a, b)]).map dR)]) (by
            rw [r_sDrop, r_eMethL, hv]
            dsimp only
            rw [if_pos ir, r_aCons, ht]
            dsimp only
            rw [r_aNil]
            dsimp only
            rw [ap])]
          rfl
        · rcases List.mem_append.mp hz with hz | hz
          · exact hU z hz
          · rw [List.mem_singleton.mp hz]; exact ⟨k1, k2⟩)
  rw [List.length_map] at hul g1
  refine ⟨us, G1, ?_, ⟨by omega, hU⟩, g1.mono (by omega)⟩
  have s2 : sFor fu (.tp [3, 4]) (iAny (eVar 1)) (wdb fu) [some (.ref g), some (dRow rs), some (.ref S.length), none, none, none] (S ++ [.lst []]) = some (.nx [some (.ref g), some (dRow rs), some (.ref S.length), v3, v4, v5], S.set g (gc G1) ++ [.lst (us.map dR)]) := for_eq rfl hl
  have hu : Com.u__law_wider fu [.ref g, dRow rs] S = some (.ref S.length, S.set g (gc G1) ++ [.lst (us.map dR)]) := by
    refine fn_eq (np := 2) (nn := 6) (ds := [.ref g, dRow rs]) rfl ?_
    show sCons (sSet 2 (eCall (cLst true) aNil)) (sCons (sFor fu (.tp [3, 4]) (iAny (eVar 1)) (wdb fu)) (sCons (sRet (eVar 2)) sNil)) _ _ = _
    rw [cons_eq (e1 := [some (.ref g), some (dRow rs), some (.ref S.length), none, none, none]) (S1 := S ++ [.lst []]) rfl, cons_eq s2]
    exact cons_rt rfl
  unfold Com.c__law_wider
  rw [r_sealed, hu]
  exact shut_setr (T := []) rfl (nrs_map fun _ _ => nr_dR)
end
end Sp
namespace Sp
open PySem PySem.Spec PyProof.Rows L2 Lv Com
section
variable {fu : Nat} {S : Sto}
theorem lay_ORow (o : Option (List Rg)) : (pORow o).canLay0 = true ∧ (pORow o).depth ≤ 2 := by
  cases o with
  | none => exact ⟨rfl, by decide⟩
  | some rs =>
    have h1 : ∀ q ∈ rs.map pR, q.canLay0 = true := fun q hq => by
      obtain ⟨r, _, rfl⟩ := List.mem_map.mp hq
      exact lay_pOR (some r)
    have h2 : ∀ q ∈ rs.map pR, q.depth ≤ 1 := fun q hq => by
      obtain ⟨r, _, rfl⟩ := List.mem_map.mp hq
      exact dep_pOR (some r)
    refine ⟨layAll h1, ?_⟩
    have := depAll h2
    show PyData.depth (.list (rs.map pR)) ≤ 2
    unfold PyData.depth
    omega
theorem eq_nil_tab {T : Tb} {neg : Bool} : gEqv neg (dT T) (.vl []) S = some (.bl (if neg then !T.isEmpty else T.isEmpty), S) := by
  have p1 : toP 60 S (dT T) = some (pTab T) := by
    unfold dT toP
    rw [mapO_map (n := 59) (fun o => toP_orow (n := 56))]
    rfl
  have sh : SeqAt.shaped (pTab T) = true := shaped_of (k := 3) (by
    show PyData.canLayAll0 _ = true
    exact layAll fun q hq => by
      obtain ⟨o, _, rfl⟩ := List.mem_map.mp hq
      exact (lay_ORow o).1) (by
    have := depAll (ps := T.map pORow) (k := 2) fun q hq => by
      obtain ⟨o, _, rfl⟩ := List.mem_map.mp hq
      exact (lay_ORow o).2
    show PyData.depth (.list (T.map pORow)) ≤ 3
    unfold PyData.depth
    omega) (by decide)
  show gEqd neg (dT T) (.vl []) S = _
  unfold gEqd
  rw [p1, show toP 60 S (.vl []) = some (.list []) from rfl]
  dsimp only
  have h3 : SeqAt.shaped (.list []) = true := by decide +kernel
  rw [sh, h3]
  have h4 : (pTab T).eqv (.list []) = T.isEmpty := by cases T <;> rfl
  rw [h4]
  rfl
theorem eqv_bl {a b neg : Bool} : gEqv neg (.bl a) (.bl b) S = some (.bl (if neg then !(a == b) else (a == b)), S) := by
  have s : ∀ x : Bool, SeqAt.shaped (.bool x) = true := fun x => by cases x <;> decide +kernel
  have t : ∀ x : Bool, toP 60 S (.bl x) = some (.bool x) := fun x => rfl
  show gEqd neg (.bl a) (.bl b) S = _
  unfold gEqd
  rw [t, t]
  dsimp only
  rw [s, s]
  have h4 : PyData.eqv (.bool a) (.bool b) = (a == b) := by cases a <;> cases b <;> rfl
  rw [h4]
  rfl
theorem wT_filter {T U : Tb} : ((T.zip U).filter fun p => !wO p.1 p.2).isEmpty = wT T U := by
  unfold wT
  rw [Bool.eq_iff_iff, List.isEmpty_iff, List.filter_eq_nil_iff, List.all_eq_true]
  exact ⟨fun h x hx => by simpa using h x hx, fun h x hx => by simpa using h x hx⟩
theorem zip_orows {T U : Tb} : zipD (T.map dORow) (U.map dORow) = (T.zip U).map fun p => .tup [dORow p.1, dORow p.2] := zip_tabs
def TbM (T : Tb) : Prop := ∀ rs, some rs ∈ T → BdL M rs ∧ rs.length ≤ 1000
theorem TbM.l {T U : Tb} (h : TbM T) {p : Option (List Rg) × Option (List Rg)} (hp : p ∈ T.zip U) : ∀ rs, p.1 = some rs → BdL M rs ∧ rs.length ≤ 1000 := fun rs e => h rs (by rw [← e]; exact (List.of_mem_zip hp).1)
theorem TbM.r {T U : Tb} (h : TbM U) {p : Option (List Rg) × Option (List Rg)} (hp : p ∈ T.zip U) : ∀ rs, p.2 = some rs → BdL M rs ∧ rs.length ≤ 1000 := fun rs e => h rs (by rw [← e]; exact (List.of_mem_zip hp).2)
end
end Sp
namespace K16
open PySem PySem.Spec PyProof.Rows L2 Lv Com Sp
def H30 : Int := 10 ^ 30
theorem h30 : 1000 < H30 ∧ H30 < 2 ^ 105 ∧ H30 < M := by
  refine ⟨?_, ?_, ?_⟩
  · unfold H30; decide +kernel
  · unfold H30; decide +kernel
  · unfold H30 M; decide +kernel
structure RT (p : Prg) (T : Tb) : Prop where
  len : (T.length : Int) = p.many
  rows : ∀ rs, some rs ∈ T → RwB p.names.length H30 rs
def pg (zs : List Str) (c : Nat) : Prg := ⟨zs, (c : Nat), zs.map fun _ => (some 0, some 0), [⟨0, (c : Nat) - 1, .dgo⟩]⟩
theorem pg_drawn {zs : List Str} {c : Nat} (h1 : 1 ≤ zs.length) (h5 : zs.length ≤ 5) (hm : ∀ z ∈ zs, z ∈ menu) (hp : zs.Pairwise LtS) (c1 : 1 ≤ c) (c4 : c ≤ 4) : Drawn 6 (pg zs c) := by
  refine ⟨h1, h5, hm, hp, ?_, ?_, ?_, ?_, ?_, ?_⟩
  · show (1 : Int) ≤ (c : Nat); omega
  · show ((c : Nat) : Int) ≤ 100; omega
  · show (zs.map fun _ => ((some 0, some 0) : Rg)).length = zs.length
    rw [List.length_map]
  · intro r hr
    obtain ⟨z, _, rfl⟩ := List.mem_map.mp hr
    exact ⟨rfl, fun i e => (by cases e; omega), fun i e => (by cases e; omega)⟩
  · intro s hs
    have hs' : s ∈ [(⟨0, (c : Nat) - 1, .dgo⟩ : Stp)] := hs
    rw [List.mem_singleton.mp hs']
    refine ⟨?_, trivial⟩
    have a1 : inM ((c : Nat) : Int) 0 = true := by
      unfold inM
      rw [Bool.and_eq_true]
      exact ⟨decide_eq_true (by omega), decide_eq_true (by omega)⟩
    have a2 : inM ((c : Nat) : Int) ((c : Nat) - 1) = true := by
      unfold inM
      rw [Bool.and_eq_true]
      exact ⟨decide_eq_true (by omega), decide_eq_true (by omega)⟩
    unfold okS
    show (inM ((c : Nat) : Int) 0 && (inM ((c : Nat) : Int) ((c : Nat) - 1) && okD zs .dgo)) = true
    rw [a1, a2]
    rfl
  · show (1 : Nat) ≤ 30
    decide
section
variable {fu : Nat} {S : Sto} {g : Nat} {e0 e1 e2 e3 e4 e5 e6 e7 e8 e9 e10 e11 e12 e13 e14 e15 e16 e17 e18 : Option D}
theorem w1 {G : Gn} {B : Int} (hf : 10000 ≤ fu) (eg : S[g]? = some (gc G)) (hG : OkG B G) (hB : B ≤ 2 ^ 20) :
    ∃ (m : Int) (G' : Gn), q1 fu [some (.ref g), e1, e2, e3, e4, e5, e6, e7, e8, e9, e10, e11, e12, e13, e14, e15, e16, e17, e18] S = some (.nx [some (.ref g), some (.int m), e2, e3, e4, e5, e6, e7, e8, e9, e10, e11, e12, e13, e14, e15, e16, e17, e18], S.set g (gc G')) ∧ 0 ≤ m ∧ m + 1 ≤ H30 ∧ OkG (B + 5) G' := by
  obtain ⟨k1, k2, k3⟩ := h30
  obtain ⟨r, G1, q, r0, r1, g1⟩ := random_ok hf (b := 3) eg hG (by omega) (by omega) (by omega)
  have q' : c__law_random fu [.ref g, .int 3] S = some (.int r, S.set g (gc G1)) := q
  have p30 : fPow 10 30 = some H30 := pow30
  have ix : ∀ X, gIx (.vl [.int 4, .int 6, .int (H30 - 9)]) (.int r) X = some (.int (if r = 0 then 4 else if r = 1 then 6 else H30 - 9), X) := fun X => by
    have : r = 0 ∨ r = 1 ∨ r = 2 := by omega
    rcases this with rfl | rfl | rfl <;> rfl
  refine ⟨if r = 0 then 4 else if r = 1 then 6 else H30 - 9, G1, ?_, by split <;> (try split) <;> omega, by split <;> (try split) <;> omega, g1⟩
  unfold q1
  rw [r_sSet, r_eBin]
  have hl : eCall (cLst false) (aCons (eC (.int 4)) (aCons (eC (.int 6)) (aCons (eBin gSub (eBin (gArith fPow) (eC (.int 10)) (eC (.int 30))) (eC (.int 9))) aNil))) [some (.ref g), e1, e2, e3, e4, e5, e6, e7, e8, e9, e10, e11, e12, e13, e14, e15, e16, e17, e18] S = some (.vl [.int 4, .int 6, .int (H30 - 9)], S) := by
    simp only [r_eCall, r_aCons, r_aNil, r_eC, r_eBin, r_arith, p30, r_sub, t_lst3, r_mkV]
  rw [hl]
  dsimp only
  simp only [r_eCall, r_aCons, r_aNil, r_eC, r_eVar, List.getElem?_cons_zero, q', ix, List.set_cons_zero, List.set_cons_succ]
theorem w2 {G : Gn} {B : Int} (hf : 10000 ≤ fu) (eg : S[g]? = some (gc G)) (hG : OkG B G) (hB : B ≤ 2 ^ 22) :
    ∃ (zs : List Str) (c : Nat) (G' : Gn), q2 fu [some (.ref g), e1, e2, e3, e4, e5, e6, e7, e8, e9, e10, e11, e12, e13, e14, e15, e16, e17, e18] S = some (.nx [some (.ref g), e1, some (dN zs), some (.int (c : Nat)), e4, e5, e6, e7, e8, e9, e10, e11, e12, e13, e14, e15, e16, e17, e18], S.set g (gc G')) ∧ 1 ≤ zs.length ∧ zs.length ≤ 3 ∧ (∀ z ∈ zs, z ∈ menu) ∧ zs.Pairwise LtS ∧ 1 ≤ c ∧ c ≤ 4 ∧ OkG (B + 50) G' := by
  have hgl := (List.getElem?_eq_some_iff.mp eg).1
  have at_ : ∀ G : Gn, (S.set g (gc G))[g]? = some (gc G) := fun G => List.getElem?_set_self hgl
  obtain ⟨r, G1, q1', r0, r1, g1⟩ := random_ok hf (b := 3) eg hG (by omega) (by omega) (by omega)
  have a1 : c__law_random fu [.ref g, .int 3] S = some (.int r, S.set g (gc G1)) := q1'
  obtain ⟨k, hk⟩ : ∃ k : Nat, (k : Int) = 1 + r := ⟨(1 + r).toNat, by omega⟩
  obtain ⟨zs, G2, a2, z1, z2, z3, g2⟩ := names_ok hf (n := k) (at_ G1) g1 (by omega) (by omega) (by omega)
  rw [List.set_set, hk] at a2
  obtain ⟨r2, G3, q3', s0, s1, g3⟩ := random_ok hf (b := 4) (at_ G2) g2 (by omega) (by omega) (by omega)
  rw [List.set_set] at q3'
  have a3 : c__law_random fu [.ref g, .int 4] (S.set g (gc G2)) = some (.int r2, S.set g (gc G3)) := q3'
  obtain ⟨c, hc⟩ : ∃ c : Nat, (c : Int) = 1 + r2 := ⟨(1 + r2).toNat, by omega⟩
  refine ⟨zs, c, G3, ?_, by omega, by omega, z2, z3, by omega, by omega, g3.mono (by omega)⟩
  unfold q2
  rw [hc]
  simp only [r_sCons, r_sIf, r_tAnd, r_tOr, r_tNot, r_truB, r_truF, r_truD_bl, r_eBin, r_eVar, r_eC, r_eCall, r_eCallK, r_aCons, r_aNil, r_eAnd, r_eOr, r_eNotT, r_eIf, r_eNeg, r_eChain, r_sNil, r_sDrop, r_sRet, r_sSet, r_sAsg, r_sPar, r_nm, r_tp, r_sets, r_sets0, List.getElem?_cons_zero, List.getElem?_cons_succ, List.set_cons_zero, List.set_cons_succ, List.length_cons, List.length_nil, List.map_cons, List.map_nil, List.cons_append, List.nil_append, Nat.zero_add, Nat.reduceAdd, Nat.sub_self, Nat.reduceSub, Nat.add_zero, List.reduceReplicate, List.replicate_zero, List.append_nil, if_true, if_false, Bool.false_eq_true, Bool.not_true, Bool.not_false, Bool.true_and, Bool.and_true, Bool.false_and, Bool.and_false, Bool.or_true, Bool.true_or, Bool.false_or, Bool.or_false, reduceIte, r_fnF, r_sealed, r_start, t_tup0, t_tup1, t_tup2, t_tup3, t_tup4, t_lst0, t_lst1, t_lst2, t_lst3, t_lst4, t_lst5, t_lst6, t_lst7, t_lst8, t_lst9, t_lst10, r_mkV, r_mkR, r_isN, r_non0, r_non1, r_non2, r_non3, r_non4, r_non5, r_non6, isi_int, isi_intb, isi_tup, isi_str, isi_vl, isi_ints, isi_tups, r_cmp2i, r_cmp2t, r_cmpI, r_eqv_int, r_eqv_str, r_add, r_sub, r_arith, r_ix_tup, r_ix_vl, r_len_tup, r_len_vl, r_cInt, r_cMin, r_cMax, r_lof_vl, r_lof_tup, r_tof_vl, r_tof_tup, r_truD_vl, r_truD_tup, r_truD_int, r_truD_non, r_oSome, r_oNone, r_eSl, r_sl_vl, r_sl_tup, r_iAny, r_eMethL, r_isRef_vl, ix20, ix21, nr_int, nr_bl, nr_non, nr_str, nr_tup, nr_vl, nrs_nil, nrs_cons, shut_same, pick_nil, pick_cons, decide_true, decide_false, a1, a2, a3]
theorem w3 {zs : List Str} {c : Nat} (hf : 10000 ≤ fu) (h5 : zs.length ≤ 5) :
    q3 fu [e18, e1, some (dN zs), some (.int (c : Nat)), e4, e5, e6, e7, e8, e9, e10, e11, e12, e13, e14, e15, e16, e17, none] S = some (.nx [e18, e1, some (dN zs), some (.int (c : Nat)), some (dP (pg zs c)), e5, e6, e7, e8, e9, e10, e11, e12, e13, e14, e15, e16, e17, none], S) := by
  have e := comp_all (n := fu) (own := [14]) (it := iAny (eVar 2)) (t := .nm 14) (f := eCall cTup (aCons (eC (.int 0)) (aCons (eC (.int 0)) aNil))) (env := [e18, e1, some (dN zs), some (.int (c : Nat)), e4, e5, e6, e7, e8, e9, e10, e11, e12, e13, e14, e15, e16, e17, none]) (S := S) (S1 := S) (xs := zs) (enc := D.str) (fun _ => dR (some 0, some 0)) rfl (by omega) (by omega) (fun z hz S' => ⟨[e18, e1, some (dN zs), some (.int (c : Nat)), e4, e5, e6, e7, e8, e9, e10, e11, e12, e13, some (.str z), e15, e16, e17, none], rfl, rfl⟩) (fun _ _ => nr_dR)
  have hm : D.vl (zs.map fun _ => dR (some 0, some 0)) = dRow (zs.map fun _ => ((some 0, some 0) : Rg)) := by
    unfold dRow
    rw [List.map_map]
    rfl
  rw [hm] at e
  have hp : dP (pg zs c) = .tup [dN zs, .int (c : Nat), dRow (zs.map fun _ => ((some 0, some 0) : Rg)), .vl [.tup [.int 0, .int ((c : Nat) - 1), .tup [.str "go"]]]] := rfl
  rw [hp]
  have hq : ∀ F : EF, F [e18, e1, some (dN zs), some (.int (c : Nat)), e4, e5, e6, e7, e8, e9, e10, e11, e12, e13, e14, e15, e16, e17, none] S = some (dRow (zs.map fun _ => ((some 0, some 0) : Rg)), S) → sSet 4 (eCall cTup (aCons (eVar 2) (aCons (eVar 3) (aCons F (aCons (eCall (cLst false) (aCons (eCall cTup (aCons (eC (.int 0)) (aCons (eBin gSub (eVar 3) (eC (.int 1))) (aCons (eCall cTup (aCons (eC (.str "go")) aNil)) aNil)))) aNil)) aNil))))) [e18, e1, some (dN zs), some (.int (c : Nat)), e4, e5, e6, e7, e8, e9, e10, e11, e12, e13, e14, e15, e16, e17, none] S = some (.nx [e18, e1, some (dN zs), some (.int (c : Nat)), some (.tup [dN zs, .int (c : Nat), dRow (zs.map fun _ => ((some 0, some 0) : Rg)), .vl [.tup [.int 0, .int ((c : Nat) - 1), .tup [.str "go"]]]]), e5, e6, e7, e8, e9, e10, e11, e12, e13, e14, e15, e16, e17, none], S) := fun F eF => by
    generalize dRow (zs.map fun _ => ((some 0, some 0) : Rg)) = u at *
    simp only [r_sCons, r_sIf, r_tAnd, r_tOr, r_tNot, r_truB, r_truF, r_truD_bl, r_eBin, r_eVar, r_eC, r_eCall, r_eCallK, r_aCons, r_aNil, r_eAnd, r_eOr, r_eNotT, r_eIf, r_eNeg, r_eChain, r_sNil, r_sDrop, r_sRet, r_sSet, r_sAsg, r_sPar, r_nm, r_tp, r_sets, r_sets0, List.getElem?_cons_zero, List.getElem?_cons_succ, List.set_cons_zero, List.set_cons_succ, List.length_cons, List.length_nil, List.map_cons, List.map_nil, List.cons_append, List.nil_append, Nat.zero_add, Nat.reduceAdd, Nat.sub_self, Nat.reduceSub, Nat.add_zero, List.reduceReplicate, List.replicate_zero, List.append_nil, if_true, if_false, Bool.false_eq_true, Bool.not_true, Bool.not_false, Bool.true_and, Bool.and_true, Bool.false_and, Bool.and_false, Bool.or_true, Bool.true_or, Bool.false_or, Bool.or_false, reduceIte, r_fnF, r_sealed, r_start, t_tup0, t_tup1, t_tup2, t_tup3, t_tup4, t_lst0, t_lst1, t_lst2, t_lst3, t_lst4, t_lst5, t_lst6, t_lst7, t_lst8, t_lst9, t_lst10, r_mkV, r_mkR, r_isN, r_non0, r_non1, r_non2, r_non3, r_non4, r_non5, r_non6, isi_int, isi_intb, isi_tup, isi_str, isi_vl, isi_ints, isi_tups, r_cmp2i, r_cmp2t, r_cmpI, r_eqv_int, r_eqv_str, r_add, r_sub, r_arith, r_ix_tup, r_ix_vl, r_len_tup, r_len_vl, r_cInt, r_cMin, r_cMax, r_lof_vl, r_lof_tup, r_tof_vl, r_tof_tup, r_truD_vl, r_truD_tup, r_truD_int, r_truD_non, r_oSome, r_oNone, r_eSl, r_sl_vl, r_sl_tup, r_iAny, r_eMethL, r_isRef_vl, ix20, ix21, nr_int, nr_bl, nr_non, nr_str, nr_tup, nr_vl, nrs_nil, nrs_cons, shut_same, pick_nil, pick_cons, decide_true, decide_false, eF]
  exact hq _ e
theorem tab_rows {T : List (List Rg)} : D.vl (T.map dRow) = dT (T.map some) := by
  unfold dT
  rw [List.map_map]
  rfl
theorem rt_of {zs : List Str} {c : Nat} {m : Int} {T : List (List Rg)} (hl : T.length = c) (h : ∀ rs ∈ T, RwB zs.length m rs) (hm : m ≤ H30) : RT (pg zs c) (T.map some) := ⟨by
  show (((T.map some).length : Nat) : Int) = ((c : Nat) : Int)
  rw [List.length_map, hl], fun rs hr => by
  obtain ⟨x, hx, e⟩ := List.mem_map.mp hr
  cases e
  exact ⟨(h rs hx).1, fun r hrr => ⟨((h rs hx).2 r hrr).1, ⟨fun i e => by have := ((h rs hx).2 r hrr).2.1 i e; omega, fun i e => by have := ((h rs hx).2 r hrr).2.2 i e; omega⟩⟩⟩⟩
theorem w4 {G : Gn} {B m : Int} {zs : List Str} {c : Nat} (hf : 10000 ≤ fu) (eg : S[g]? = some (gc G)) (hG : OkG B G) (hB : B ≤ 2 ^ 30) (m0 : 0 ≤ m) (m1 : m + 1 ≤ H30) (h5 : zs.length ≤ 5) (hc : c ≤ 4) :
    ∃ (T : List (List Rg)) (G' : Gn), q4 fu [some (.ref g), some (.int m), some (dN zs), some (.int (c : Nat)), e4, e5, e6, e7, e8, e9, e10, e11, e12, e13, e14, e15, e16, e17, e18] S = some (.nx [some (.ref g), some (.int m), some (dN zs), some (.int (c : Nat)), e4, some (dT (T.map some)), e6, e7, e8, e9, e10, e11, e12, e13, e14, e15, e16, e17, e18], S.set g (gc G')) ∧ T.length = c ∧ (∀ rs ∈ T, RwB zs.length m rs) ∧ OkG (B + 1000) G' := by
  obtain ⟨k1, k2, k3⟩ := h30
  obtain ⟨T, G1, a, l, h, g1⟩ := grid_drawn (m := m) (env := []) (e1 := none) (e2 := none) (e3 := none) (e0 := e18) (e4 := e4) (e5 := e5) (e6 := e6) (e7 := e7) (e8 := e8) (e9 := e9) (e10 := e10) (e11 := e11) (e12 := e12) (e13 := e13) (e14 := e14) (e15 := e15) (e16 := e16) (e17 := e17) (zs := zs) (c := c) hf eg hG hB m0 (by omega) h5 (by omega)
  rw [tab_rows] at a
  refine ⟨T, G1, ?_, l, h, g1⟩
  unfold q4
  rw [r_sSet, a]
  rfl
theorem w5 {G : Gn} {B m : Int} {zs : List Str} {c : Nat} (hf : 10000 ≤ fu) (eg : S[g]? = some (gc G)) (hG : OkG B G) (hB : B ≤ 2 ^ 30) (m0 : 0 ≤ m) (m1 : m + 1 ≤ H30) (h5 : zs.length ≤ 5) (hc : c ≤ 4) :
    ∃ (T : List (List Rg)) (G' : Gn), q5 fu [some (.ref g), some (.int m), some (dN zs), some (.int (c : Nat)), e4, e5, e6, e7, e8, e9, e10, e11, e12, e13, e14, e15, e16, e17, e18] S = some (.nx [some (.ref g), some (.int m), some (dN zs), some (.int (c : Nat)), e4, e5, some (dT (T.map some)), e7, e8, e9, e10, e11, e12, e13, e14, e15, e16, e17, e18], S.set g (gc G')) ∧ T.length = c ∧ (∀ rs ∈ T, RwB zs.length m rs) ∧ OkG (B + 1000) G' := by
  obtain ⟨k1, k2, k3⟩ := h30
  obtain ⟨T, G1, a, l, h, g1⟩ := grid_drawn (m := m) (env := []) (e1 := none) (e2 := none) (e3 := none) (e0 := e18) (e4 := e4) (e5 := e5) (e6 := e6) (e7 := e7) (e8 := e8) (e9 := e9) (e10 := e10) (e11 := e11) (e12 := e12) (e13 := e13) (e14 := e14) (e15 := e15) (e16 := e16) (e17 := e17) (zs := zs) (c := c) hf eg hG hB m0 (by omega) h5 (by omega)
  rw [tab_rows] at a
  refine ⟨T, G1, ?_, l, h, g1⟩
  unfold q5
  rw [r_sSet, a]
  rfl
theorem w6 {G : Gn} {B m : Int} {zs : List Str} {c : Nat} {T U : List (List Rg)} (hf : 10000 ≤ fu) (eg : S[g]? = some (gc G)) (hG : OkG B G) (hB : B ≤ 2 ^ 30) (m1 : m + 1 ≤ H30) (h5 : zs.length ≤ 5) (hc : c ≤ 4) (lT : T.length = c) (hT : ∀ rs ∈ T, RwB zs.length m rs) (hU : RT (pg zs c) (U.map some)) :
    ∃ (V : List (List Rg)) (G' : Gn) (r : Option D), q6 fu [some (.ref g), e1, e2, e3, e4, some (dT (T.map some)), some (dT (U.map some)), none, e8, e9, e10, e11, e12, e13, e14, e15, e16, e17, e18] S = some (.nx [some (.ref g), e1, e2, e3, e4, some (dT (T.map some)), some (dT (V.map some)), r, e8, e9, e10, e11, e12, e13, e14, e15, e16, e17, e18], S.set g (gc G')) ∧ RT (pg zs c) (V.map some) ∧ OkG (B + 1000) G' := by
  have hgl := (List.getElem?_eq_some_iff.mp eg).1
  obtain ⟨r, G1, q, r0, r1, g1⟩ := random_ok hf (b := 2) eg hG (by omega) (by omega) (by omega)
  have q' : c__law_random fu [.ref g, .int 2] S = some (.int r, S.set g (gc G1)) := q
  unfold q6
  rw [r_sIf]
  have t : truB (eBin (gEqv false) (eCall (Com.c__law_random fu) (aCons (eVar 0) (aCons (eC (.int 2)) aNil))) (eC (.int 0))) [some (.ref g), e1, e2, e3, e4, some (dT (T.map some)), some (dT (U.map some)), none, e8, e9, e10, e11, e12, e13, e14, e15, e16, e17, e18] S = some (r == 0, S.set g (gc G1)) := by simp only [r_sCons, r_sIf, r_tAnd, r_tOr, r_tNot, r_truB, r_truF, r_truD_bl, r_eBin, r_eVar, r_eC, r_eCall, r_eCallK, r_aCons, r_aNil, r_eAnd, r_eOr, r_eNotT, r_eIf, r_eNeg, r_eChain, r_sNil, r_sDrop, r_sRet, r_sSet, r_sAsg, r_sPar, r_nm, r_tp, r_sets, r_sets0, List.getElem?_cons_zero, List.getElem?_cons_succ, List.set_cons_zero, List.set_cons_succ, List.length_cons, List.length_nil, List.map_cons, List.map_nil, List.cons_append, List.nil_append, Nat.zero_add, Nat.reduceAdd, Nat.sub_self, Nat.reduceSub, Nat.add_zero, List.reduceReplicate, List.replicate_zero, List.append_nil, if_true, if_false, Bool.false_eq_true, Bool.not_true, Bool.not_false, Bool.true_and, Bool.and_true, Bool.false_and, Bool.and_false, Bool.or_true, Bool.true_or, Bool.false_or, Bool.or_false, reduceIte, r_fnF, r_sealed, r_start, t_tup0, t_tup1, t_tup2, t_tup3, t_tup4, t_lst0, t_lst1, t_lst2, t_lst3, t_lst4, t_lst5, t_lst6, t_lst7, t_lst8, t_lst9, t_lst10, r_mkV, r_mkR, r_isN, r_non0, r_non1, r_non2, r_non3, r_non4, r_non5, r_non6, isi_int, isi_intb, isi_tup, isi_str, isi_vl, isi_ints, isi_tups, r_cmp2i, r_cmp2t, r_cmpI, r_eqv_int, r_eqv_str, r_add, r_sub, r_arith, r_ix_tup, r_ix_vl, r_len_tup, r_len_vl, r_cInt, r_cMin, r_cMax, r_lof_vl, r_lof_tup, r_tof_vl, r_tof_tup, r_truD_vl, r_truD_tup, r_truD_int, r_truD_non, r_oSome, r_oNone, r_eSl, r_sl_vl, r_sl_tup, r_iAny, r_eMethL, r_isRef_vl, ix20, ix21, nr_int, nr_bl, nr_non, nr_str, nr_tup, nr_vl, nrs_nil, nrs_cons, shut_same, pick_nil, pick_cons, decide_true, decide_false, q']
  rw [t]
  cases r == 0 with
  | false => exact ⟨U, G1, none, rfl, hU, g1.mono (by omega)⟩
  | true =>
    have lm : ((T.map some).map dORow).length = c := by rw [List.length_map, List.length_map, lT]
    obtain ⟨V, G2, a, l, h, g2⟩ := comp_drawL (L := 2 ^ 50) (n := fu) (own := [7]) (it := iAny (eVar 5)) (t := .nm 7) (f := eCall (Com.c__law_wider fu) (aCons (eVar 0) (aCons (eVar 7) aNil))) (env := [some (.ref g), e1, e2, e3, e4, some (dT (T.map some)), some (dT (U.map some)), none, e8, e9, e10, e11, e12, e13, e14, e15, e16, e17, e18]) (S := S.set g (gc G1)) (ds := (T.map some).map dORow) (k := 50) dRow (RwB zs.length (m + 1)) rfl (List.getElem?_set_self hgl) g1 (by decide) (by rw [lm]; omega) (by rw [lm]; omega) (by rw [lm]; omega) (fun y => nr_dRow) (fun y hy => by
        rw [List.map_map] at hy
        obtain ⟨rs, hrs, rfl⟩ := List.mem_map.mp hy
        refine ⟨[some (.ref g), e1, e2, e3, e4, some (dT (T.map some)), some (dT (U.map some)), some (dRow rs), e8, e9, e10, e11, e12, e13, e14, e15, e16, e17, e18], rfl, fun X B' G3 ex hX hB' => ?_⟩
        obtain ⟨us, G4, j1, j2, j3⟩ := wider_ok hf ex hX (by omega) h5 (hT rs hrs)
        exact ⟨us, G4, by simp only [r_eVar, r_eCall, r_aCons, r_aNil, List.getElem?_cons_zero, List.getElem?_cons_succ, j1], j2, j3⟩)
    rw [List.set_set, tab_rows] at a
    refine ⟨V, G2, none, ?_, rt_of (by rw [l, lm]) h m1, g2.mono (by rw [lm]; omega)⟩
    dsimp only
    rw [cons_eq (by rw [r_sSet, a])]
    rfl
theorem w7 {zs : List Str} {c : Nat} {T V : Tb} (c1 : 1 ≤ c) (hT : RT (pg zs c) T) (hV : RT (pg zs c) V) :
    q7 fu [e0, e1, e2, e3, e4, some (dT T), some (dT V), e7, e8, e9, e10, e11, e12, e13, e14, e15, e16, e17, e18] S = some (.nx [e0, e1, e2, e3, e4, some (dT T), some (dT V), some (dORow (T.getD 0 none)), some (dORow (V.getD 0 none)), e9, e10, e11, e12, e13, e14, e15, e16, e17, e18], S) := by
  have lT : ((T.length : Nat) : Int) = ((c : Nat) : Int) := hT.len
  have lV : ((V.length : Nat) : Int) = ((c : Nat) : Int) := hV.len
  have i1 := ix_tab (S := S) (T := T) (i := 0) (by omega) (by omega)
  have i2 := ix_tab (S := S) (T := V) (i := 0) (by omega) (by omega)
  have z : ((0 : Int).toNat) = 0 := rfl
  rw [z] at i1 i2
  unfold q7
  simp only [r_sCons, r_sIf, r_tAnd, r_tOr, r_tNot, r_truB, r_truF, r_truD_bl, r_eBin, r_eVar, r_eC, r_eCall, r_eCallK, r_aCons, r_aNil, r_eAnd, r_eOr, r_eNotT, r_eIf, r_eNeg, r_eChain, r_sNil, r_sDrop, r_sRet, r_sSet, r_sAsg, r_sPar, r_nm, r_tp, r_sets, r_sets0, List.getElem?_cons_zero, List.getElem?_cons_succ, List.set_cons_zero, List.set_cons_succ, List.length_cons, List.length_nil, List.map_cons, List.map_nil, List.cons_append, List.nil_append, Nat.zero_add, Nat.reduceAdd, Nat.sub_self, Nat.reduceSub, Nat.add_zero, List.reduceReplicate, List.replicate_zero, List.append_nil, if_true, if_false, Bool.false_eq_true, Bool.not_true, Bool.not_false, Bool.true_and, Bool.and_true, Bool.false_and, Bool.and_false, Bool.or_true, Bool.true_or, Bool.false_or, Bool.or_false, reduceIte, r_fnF, r_sealed, r_start, t_tup0, t_tup1, t_tup2, t_tup3, t_tup4, t_lst0, t_lst1, t_lst2, t_lst3, t_lst4, t_lst5, t_lst6, t_lst7, t_lst8, t_lst9, t_lst10, r_mkV, r_mkR, r_isN, r_non0, r_non1, r_non2, r_non3, r_non4, r_non5, r_non6, isi_int, isi_intb, isi_tup, isi_str, isi_vl, isi_ints, isi_tups, r_cmp2i, r_cmp2t, r_cmpI, r_eqv_int, r_eqv_str, r_add, r_sub, r_arith, r_ix_tup, r_ix_vl, r_len_tup, r_len_vl, r_cInt, r_cMin, r_cMax, r_lof_vl, r_lof_tup, r_tof_vl, r_tof_tup, r_truD_vl, r_truD_tup, r_truD_int, r_truD_non, r_oSome, r_oNone, r_eSl, r_sl_vl, r_sl_tup, r_iAny, r_eMethL, r_isRef_vl, ix20, ix21, nr_int, nr_bl, nr_non, nr_str, nr_tup, nr_vl, nrs_nil, nrs_cons, shut_same, pick_nil, pick_cons, decide_true, decide_false, i1, i2]
end
end K16
namespace K16
open PySem PySem.Spec PyProof.Rows L2 Lv Com Sp
theorem kw (fu : Nat) : c__law_within fu = Cz.c__law_within fu := rfl
theorem kj (fu : Nat) : c__law_joined fu = Cz.c__law_joined fu := rfl
theorem km (fu : Nat) : c__law_met fu = Cz.c__law_met fu := rfl
theorem cM_is (fu : Nat) : c__law_marked fu = cM fu := by
  have : ∀ n, cr__law_marked fu n = crM fu n := by
    intro n
    induction n with
    | zero => rfl
    | succ n ih =>
      show sealedB (fnF 1 3 (b__law_marked fu (cr__law_marked fu n))) = sealedB (fnF 1 3 (_))
      rw [ih]
      rfl
  exact this 40
theorem M900 : M < 2 ^ 900 := by unfold M; decide +kernel
theorem bd_M {r : Rg} (h : BdR H30 r) : BdR M r := by
  obtain ⟨_, _, k⟩ := h30
  exact ⟨fun i e => by have := h.1 i e; omega, fun i e => by have := h.2 i e; omega⟩
theorem sm_H {r : Rg} (h : BdR H30 r) : SmG r := smG_of (bd_M h) M900
theorem eqs_self {S : Sto} {a : Str} {neg : Bool} : gEqv neg (.str a) (.str a) S = some (.bl (!neg), S) := by
  rw [r_eqv_str, decide_eq_true rfl]
  cases neg <;> rfl
structure Pg (zs : List Str) (c : Nat) : Prop where
  z1 : 1 ≤ zs.length
  z3 : zs.length ≤ 3
  zm : ∀ z ∈ zs, z ∈ menu
  zp : zs.Pairwise LtS
  c1 : 1 ≤ c
  c4 : c ≤ 4
section
variable {zs : List Str} {c : Nat} {rs qs : List Rg} {T U : Tb}
theorem Pg.d (h : Pg zs c) : Drawn 6 (pg zs c) := pg_drawn h.z1 (by have := h.z3; omega) h.zm h.zp h.c1 h.c4
theorem fi_pg (h : Pg zs c) : Fi 5 200000 (pPrg (pg zs c)) := (fi_tuple (n := 4) (k := 4) (L := 30100) (ps := [pNames zs, .int ((c : Nat) : Int), pRow (pg zs c).start, .list ((pg zs c).steps.map pStp)]) (fun q hq => by
  have sp := h.d.smPr (by decide)
  simp only [List.mem_cons, List.not_mem_nil, or_false] at hq
  rcases hq with rfl | rfl | rfl | rfl
  · exact (fi_names sp.n sp.nl).mono (by decide) (by decide)
  · exact (fi_int sp.m).mono (by decide) (by decide)
  · exact (fi_row sp.s sp.sl).mono (by decide) (by decide)
  · exact (fi_list (n := 1) (k := 3) (L := 30000) (ps := (pg zs c).steps.map pStp) (fun q hq => by
      obtain ⟨s, hs, rfl⟩ := List.mem_map.mp hq
      exact fi_stp (sp.t s hs)) (show ((pg zs c).steps.map pStp).length ≤ 1 from Nat.le_refl 1)).mono (by decide) (by decide)) (Nat.le_refl 4)).mono (Nat.le_refl _) (by decide)
theorem OkR (h : Pg zs c) (hr : RwB zs.length H30 rs) (hq : RwB zs.length H30 qs) : OkPRR (pg zs c) rs qs := ⟨h.d.sm, h.d.ok, hr.1, fun r k => (hr.2 r k).1, hq.1, fun r k => (hq.2 r k).1⟩
theorem fi_rw (h : Pg zs c) (hr : RwB zs.length H30 rs) : Fi 2 11000 (pRow rs) := fi_row (fun r k => sm_H (hr.2 r k).2) (by rw [hr.1]; have := h.z3; omega)
theorem rw_M (h : Pg zs c) (hr : RwB zs.length H30 rs) : BdL M rs ∧ rs.length ≤ 1000 := ⟨fun r k => bd_M (hr.2 r k).2, by rw [hr.1]; have := h.z3; omega⟩
theorem rw_join (h : Pg zs c) (hr : RwB zs.length H30 rs) (hq : RwB zs.length H30 qs) : Fi 2 11000 (pRow (joinRow rs qs)) := fi_row (fun r k => by
  obtain ⟨p, hp, rfl⟩ := List.mem_map.mp k
  exact sm_H (join_bd (hr.2 _ (zip_mem2 hp).1).2 (hq.2 _ (zip_mem2 hp).2).2)) (by
  unfold joinRow
  rw [List.length_map, List.length_zip, hr.1, hq.1]
  have := h.z3
  omega)
theorem fi_met (h : Pg zs c) (hr : RwB zs.length H30 rs) (hq : RwB zs.length H30 qs) : Fi 2 11000 (pORow (metRow rs qs)) := fi_orow fun us e => by
  rw [metRow_is] at e
  split at e
  · cases e
    refine ⟨fun r k => ?_, ?_⟩
    · obtain ⟨p, hp, rfl⟩ := List.mem_map.mp k
      have b1 := (hr.2 _ (zip_mem2 hp).1).2
      have b2 := (hq.2 _ (zip_mem2 hp).2).2
      exact smG_of (metQ_bd (bd_M b1) (bd_M b2)) M900
    · rw [List.length_map, List.length_zip, hr.1, hq.1]
      have := h.z3
      omega
  · cases e
theorem metQ_comm {p q : Rg} : metQ (p, q) = metQ (q, p) := by
  obtain ⟨a, b⟩ := p
  obtain ⟨c, d⟩ := q
  show (gl a c, lh b d) = (gl c a, lh d b)
  have e1 : gl a c = gl c a := by
    rcases a with _ | a <;> rcases c with _ | c <;> simp only [gl]
    congr 1
    unfold mx
    split <;> split <;> omega
  have e2 : lh b d = lh d b := by
    rcases b with _ | b <;> rcases d with _ | d <;> simp only [lh]
    congr 1
    unfold mn
    split <;> split <;> omega
  rw [e1, e2]
theorem zip_swap {α β : Type} {f : α × α → β} (hf : ∀ a b, f (a, b) = f (b, a)) : ∀ {xs ys : List α}, (xs.zip ys).map f = (ys.zip xs).map f
  | [], ys => by simp
  | x :: xs, [] => by simp
  | x :: xs, y :: ys => by
    rw [List.zip_cons_cons, List.zip_cons_cons, List.map_cons, List.map_cons, hf x y, zip_swap hf]
theorem metRow_comm : metRow rs qs = metRow qs rs := by
  have e1 := zip_swap (f := fun p => okR (metQ p)) (fun a b => by rw [metQ_comm]) (xs := rs) (ys := qs)
  have e2 := zip_swap (f := metQ) (fun a b => metQ_comm) (xs := rs) (ys := qs)
  have e3 : (rs.zip qs).all (fun p => okR (metQ p)) = (qs.zip rs).all (fun p => okR (metQ p)) := by
    have : ∀ l : List (Rg × Rg), l.all (fun p => okR (metQ p)) = (l.map fun p => okR (metQ p)).all id := fun l => by rw [List.all_map]; rfl
    rw [this, this, e1]
  rw [metRow_is, metRow_is, e3, e2]
end
def pRT (rs qs : List Rg) (b : Bool) : PyData := .list [.bool b, pRow (joinRow rs qs), pORow (metRow rs qs)]
def dRT (rs qs : List Rg) (b : Bool) : D := .vl [.bl b, dRow (joinRow rs qs), dORow (metRow rs qs)]
def pK2 (zs : List Str) (c : Nat) (rs qs : List Rg) : PyData := .list [pPrg (pg zs c), pRow rs, pRow qs]
section
variable {fu : Nat} {S : Sto} {zs : List Str} {c : Nat} {rs qs : List Rg} {e0 e1 e2 e3 e4 e5 e6 e7 e8 e9 e10 e11 e12 e13 e14 e15 e16 e17 e18 : Option D}
theorem fi_rt (h : Pg zs c) (hr : RwB zs.length H30 rs) (hq : RwB zs.length H30 qs) {b : Bool} : Fi 3 34000 (pRT rs qs b) := (fi_list (n := 3) (k := 2) (L := 11000) (ps := [.bool b, pRow (joinRow rs qs), pORow (metRow rs qs)]) (fun q k => by
  simp only [List.mem_cons, List.not_mem_nil, or_false] at k
  rcases k with rfl | rfl | rfl
  · exact (fi_bl b).mono (by decide) (by decide)
  · exact rw_join h hr hq
  · exact fi_met h hr hq) (Nat.le_refl 3)).mono (Nat.le_refl _) (by decide)
theorem repr_rt (h : Pg zs c) (hr : RwB zs.length H30 rs) (hq : RwB zs.length H30 qs) {b : Bool} : cRepr [dRT rs qs b] S = some (.str (pRT rs qs b).shown, S) := by
  refine repr_ok (k := 3) (L := 34000) ?_ (fi_rt h hr hq) (by decide) (by decide)
  unfold dRT toP
  simp only [mapO]
  rw [toP_row, toP_orow]
  rfl
theorem repr_k2 (h : Pg zs c) (hr : RwB zs.length H30 rs) (hq : RwB zs.length H30 qs) : cRepr [.vl [dP (pg zs c), dRow rs, dRow qs]] S = some (.str (pK2 zs c rs qs).shown, S) := by
  refine repr_ok (k := 6) (L := 700000) ?_ ((fi_list (n := 3) (k := 5) (L := 200000) (ps := [pPrg (pg zs c), pRow rs, pRow qs]) (fun q k => ?_) (Nat.le_refl 3)).mono (Nat.le_refl _) (by decide)) (by decide) (by decide)
  · unfold toP
    simp only [mapO]
    rw [toP_prg, toP_row, toP_row]
    rfl
  · simp only [List.mem_cons, List.not_mem_nil, or_false] at k
    rcases k with rfl | rfl | rfl
    · exact fi_pg h
    · exact (fi_rw h hr).mono (by decide) (by decide)
    · exact (fi_rw h hq).mono (by decide) (by decide)
theorem w8 (h : Pg zs c) (hr : RwB zs.length H30 rs) (hq : RwB zs.length H30 qs) :
    q8 fu [e0, e1, e2, e3, some (dP (pg zs c)), e5, e6, some (dRow rs), some (dRow qs), e9, e10, e11, e12, e13, e14, e15, e16, e17, e18] S = some (.nx [e0, e1, e2, e3, some (dP (pg zs c)), e5, e6, some (dRow rs), some (dRow qs), some (.str (pK2 zs c rs qs).shown), e10, e11, e12, e13, e14, e15, e16, e17, e18], S) := by
  have a := repr_k2 (S := S) h hr hq
  unfold q8
  simp only [r_sCons, r_sIf, r_tAnd, r_tOr, r_tNot, r_truB, r_truF, r_truD_bl, r_eBin, r_eVar, r_eC, r_eCall, r_eCallK, r_aCons, r_aNil, r_eAnd, r_eOr, r_eNotT, r_eIf, r_eNeg, r_eChain, r_sNil, r_sDrop, r_sRet, r_sSet, r_sAsg, r_sPar, r_nm, r_tp, r_sets, r_sets0, List.getElem?_cons_zero, List.getElem?_cons_succ, List.set_cons_zero, List.set_cons_succ, List.length_cons, List.length_nil, List.map_cons, List.map_nil, List.cons_append, List.nil_append, Nat.zero_add, Nat.reduceAdd, Nat.sub_self, Nat.reduceSub, Nat.add_zero, List.reduceReplicate, List.replicate_zero, List.append_nil, if_true, if_false, Bool.false_eq_true, Bool.not_true, Bool.not_false, Bool.true_and, Bool.and_true, Bool.false_and, Bool.and_false, Bool.or_true, Bool.true_or, Bool.false_or, Bool.or_false, reduceIte, r_fnF, r_sealed, r_start, t_tup0, t_tup1, t_tup2, t_tup3, t_tup4, t_lst0, t_lst1, t_lst2, t_lst3, t_lst4, t_lst5, t_lst6, t_lst7, t_lst8, t_lst9, t_lst10, r_mkV, r_mkR, r_isN, r_non0, r_non1, r_non2, r_non3, r_non4, r_non5, r_non6, isi_int, isi_intb, isi_tup, isi_str, isi_vl, isi_ints, isi_tups, r_cmp2i, r_cmp2t, r_cmpI, r_eqv_int, r_eqv_str, r_add, r_sub, r_arith, r_ix_tup, r_ix_vl, r_len_tup, r_len_vl, r_cInt, r_cMin, r_cMax, r_lof_vl, r_lof_tup, r_tof_vl, r_tof_tup, r_truD_vl, r_truD_tup, r_truD_int, r_truD_non, r_oSome, r_oNone, r_eSl, r_sl_vl, r_sl_tup, r_iAny, r_eMethL, r_isRef_vl, ix20, ix21, nr_int, nr_bl, nr_non, nr_str, nr_tup, nr_vl, nrs_nil, nrs_cons, shut_same, pick_nil, pick_cons, decide_true, decide_false, a]
theorem three_told {k : Nat} {T2 T3 : Sto} {z2 z3 : D} {x : Bool} {p2 p3 : PyData} (t2 : Told (k + 1) S.length (S ++ T2) z2 p2) (t3 : Told (k + 1) (S ++ T2).length (S ++ T2 ++ T3) z3 p3) (n2 : p2 ≠ .str mk) (n3 : p3 ≠ .str mk) :
    Told (k + 2) S.length (S ++ T2 ++ T3 ++ [.lst [.bl x, z2, z3]]) (.ref (S ++ T2 ++ T3).length) (.list [.bool x, p2, p3]) := by
  have hle : ∀ (A B : Sto), A.length ≤ (A ++ B).length := fun A B => by rw [List.length_append]; omega
  have a1 : Tolds (k + 1) S.length S [.bl x] [.bool x] := by
    have := (Tolds.nil (k := k + 1) (n0 := S.length) (S := S)).snoc (T := []) (d := .bl x) (p := .bool x) (by rw [List.append_nil]; exact (flt_bl (k := k)).told) (Nat.le_refl _)
    rwa [List.append_nil] at this
  have a2 : Tolds (k + 1) S.length (S ++ T2) [.bl x, z2] [.bool x, p2] := a1.snoc t2 (Nat.le_refl _)
  have a3 : Tolds (k + 1) S.length (S ++ T2 ++ T3) [.bl x, z2, z3] [.bool x, p2, p3] := a2.snoc t3 (hle _ _)
  exact a3.list (Nat.le_trans (hle _ _) (hle _ _)) (show 3 ≤ 1000 by decide) (last_mk (by obtain ⟨α, _, q, _⟩ := a3; exact q) fun p hp => by
    simp only [List.mem_cons, List.not_mem_nil, or_false] at hp
    rcases hp with rfl | rfl | rfl
    · intro e; cases e
    · exact n2
    · exact n3)
theorem told3g {F G H : EF} {env : Lv.Env} {i : Nat} {T2 T3 : Sto} {z2 z3 : D} {x : Bool} (a1 : F env S = some (.bl x, S)) (a2 : G env S = some (z2, S ++ T2)) (a3 : H env (S ++ T2) = some (z3, S ++ T2 ++ T3)) :
    sSet i (eCall (cLst true) (aCons F (aCons G (aCons H aNil)))) env S = some (.nx (env.set i (some (.ref (S ++ T2 ++ T3).length))), S ++ T2 ++ T3 ++ [.lst [.bl x, z2, z3]]) := by
  simp only [r_sSet, r_eCall, r_aCons, r_aNil, a1, a2, a3, t_lst3, r_mkR]
theorem w9 (hf : 10000 ≤ fu) (h : Pg zs c) (hr : RwB zs.length H30 rs) (hq : RwB zs.length H30 qs) : ∃ (z : D) (T' : Sto),
    q9 fu [e0, e1, e2, e3, some (dP (pg zs c)), e5, e6, some (dRow rs), some (dRow qs), e9, e10, e11, e12, e13, e14, e15, e16, e17, e18] S = some (.nx [e0, e1, e2, e3, some (dP (pg zs c)), e5, e6, some (dRow rs), some (dRow qs), e9, some z, e11, e12, e13, e14, e15, e16, e17, e18], S ++ T') ∧ Told 4 S.length (S ++ T') z (pRT rs qs (wRow rs qs)) := by
  have ok := OkR h hr hq
  have a1 := row_within_p (S := S) hf ok
  obtain ⟨z2, T2, a2, t2⟩ := w_row_joined_t (S := S) hf ok
  obtain ⟨z3, T3, a3, t3⟩ := w_row_met_t (S := S ++ T2) hf ok
  have tt := three_told (x := wRow rs qs) t2 t3 pRow_ne pORow_ne
  refine ⟨.ref (S ++ T2 ++ T3).length, T2 ++ T3 ++ [.lst [.bl (wRow rs qs), z2, z3]], ?_, ?_⟩
  · rw [← List.append_assoc, ← List.append_assoc]
    exact told3g (F := eCall (Com.c_row_within fu) (aCons (eVar 4) (aCons (eVar 7) (aCons (eVar 8) aNil)))) (G := eCall (Cw.w_row_joined fu) (aCons (eVar 4) (aCons (eVar 7) (aCons (eVar 8) aNil)))) (H := eCall (Cw.w_row_met fu) (aCons (eVar 4) (aCons (eVar 7) (aCons (eVar 8) aNil)))) a1 a2 a3
  · rw [← List.append_assoc, ← List.append_assoc]
    exact tt
theorem w10 (hf : 10000 ≤ fu) (h : Pg zs c) (hr : RwB zs.length H30 rs) (hq : RwB zs.length H30 qs) :
    q10 fu [e0, e1, e2, e3, e4, e5, e6, some (dRow rs), some (dRow qs), e9, e10, e11, e12, e13, e14, e15, e16, e17, e18] S = some (.nx [e0, e1, e2, e3, e4, e5, e6, some (dRow rs), some (dRow qs), e9, e10, some (dRT rs qs (wRow rs qs)), e12, e13, e14, e15, e16, e17, e18], S) := by
  have ha : ∀ us, some rs = some us → BdL M us ∧ us.length ≤ 1000 := fun us e => by cases e; exact rw_M h hr
  have hb : ∀ us, some qs = some us → BdL M us ∧ us.length ≤ 1000 := fun us e => by cases e; exact rw_M h hq
  have a1 : Cz.c__law_within fu [dRow rs, dRow qs] S = some (.bl (wRow rs qs), S) := lw_ok (S := S) hf ha hb
  have a2 : Cz.c__law_joined fu [dRow rs, dRow qs] S = some (dRow (joinRow rs qs), S) := lj_ok (S := S) hf ha hb
  have a3 : Cz.c__law_met fu [dRow rs, dRow qs] S = some (dORow (metRow rs qs), S) := lm_ok (S := S) hf ha hb
  unfold q10 dRT
  rw [kw, kj, km]
  simp only [r_sSet, r_eCall, r_aCons, r_aNil, r_eVar, List.getElem?_cons_zero, List.getElem?_cons_succ, a1, a2, a3, t_lst3, r_mkV, List.set_cons_zero, List.set_cons_succ]
theorem w11 (hf : 10000 ≤ fu) (h : Pg zs c) (hr : RwB zs.length H30 rs) (hq : RwB zs.length H30 qs) : ∃ (z : D) (T' : Sto),
    q11 fu [e0, e1, e2, e3, some (dP (pg zs c)), e5, e6, some (dRow rs), some (dRow qs), e9, e10, e11, e12, e13, e14, e15, e16, e17, e18] S = some (.nx [e0, e1, e2, e3, some (dP (pg zs c)), e5, e6, some (dRow rs), some (dRow qs), e9, e10, e11, some z, e13, e14, e15, e16, e17, e18], S ++ T') ∧ Told 4 S.length (S ++ T') z (pRT rs qs (wRow qs rs)) := by
  have ok := OkR h hq hr
  have a1 := row_within_p (S := S) hf ok
  obtain ⟨z2, T2, a2, t2⟩ := w_row_joined_t (S := S) hf ok
  obtain ⟨z3, T3, a3, t3⟩ := w_row_met_t (S := S ++ T2) hf ok
  rw [joinRow_comm] at t2
  rw [metRow_comm] at t3
  have tt := three_told (x := wRow qs rs) t2 t3 pRow_ne pORow_ne
  refine ⟨.ref (S ++ T2 ++ T3).length, T2 ++ T3 ++ [.lst [.bl (wRow qs rs), z2, z3]], ?_, ?_⟩
  · rw [← List.append_assoc, ← List.append_assoc]
    refine told3g (F := eCallK (Com.c_row_within fu) 0 3 [0, 2, 1] aNil (aCons (eVar 4) (aCons (eVar 7) (aCons (eVar 8) aNil)))) (G := eCallK (Cw.w_row_joined fu) 0 3 [2, 1, 0] aNil (aCons (eVar 7) (aCons (eVar 8) (aCons (eVar 4) aNil)))) (H := eCallK (Cw.w_row_met fu) 0 3 [0, 2, 1] aNil (aCons (eVar 4) (aCons (eVar 7) (aCons (eVar 8) aNil)))) ?_ ?_ ?_
    · simp only [r_eCallK, r_aCons, r_aNil, r_eVar, List.getElem?_cons_zero, List.getElem?_cons_succ, pick_nil, pick_cons, a1, List.length_nil, List.length_cons, List.nil_append, Nat.sub_zero, Nat.reduceAdd, reduceIte, and_self]
    · simp only [r_eCallK, r_aCons, r_aNil, r_eVar, List.getElem?_cons_zero, List.getElem?_cons_succ, pick_nil, pick_cons, a2, List.length_nil, List.length_cons, List.nil_append, Nat.sub_zero, Nat.reduceAdd, reduceIte, and_self]
    · simp only [r_eCallK, r_aCons, r_aNil, r_eVar, List.getElem?_cons_zero, List.getElem?_cons_succ, pick_nil, pick_cons, a3, List.length_nil, List.length_cons, List.nil_append, Nat.sub_zero, Nat.reduceAdd, reduceIte, and_self]
  · rw [← List.append_assoc, ← List.append_assoc]
    exact tt
theorem w12 (hf : 10000 ≤ fu) (h : Pg zs c) (hr : RwB zs.length H30 rs) (hq : RwB zs.length H30 qs) {z z' : D} {n0 n1 : Nat} (t1 : Told 4 n0 S z (pRT rs qs (wRow rs qs))) (t2 : Told 4 n1 S z' (pRT rs qs (wRow qs rs))) :
    q12 fu [e0, e1, e2, e3, some (dP (pg zs c)), e5, e6, some (dRow rs), some (dRow qs), some (.str (pK2 zs c rs qs).shown), some z, some (dRT rs qs (wRow rs qs)), some z', e13, e14, e15, e16, e17, e18] S = some (.nx [e0, e1, e2, e3, some (dP (pg zs c)), e5, e6, some (dRow rs), some (dRow qs), some (.str (pK2 zs c rs qs).shown), some z, some (dRT rs qs (wRow rs qs)), some z', e13, e14, e15, e16, e17, e18], S) := by
  have ha : ∀ us, some rs = some us → BdL M us ∧ us.length ≤ 1000 := fun us e => by cases e; exact rw_M h hr
  have hb : ∀ us, some qs = some us → BdL M us ∧ us.length ≤ 1000 := fun us e => by cases e; exact rw_M h hq
  have b1 := told_repr t1 (by decide) (fi_rt h hr hq) (by decide) (by decide)
  have b2 := told_repr t2 (by decide) (fi_rt h hr hq) (by decide) (by decide)
  have b3 := repr_rt (S := S) h hr hq (b := wRow rs qs)
  have b4 := repr_rt (S := S) h hr hq (b := wRow qs rs)
  have b5 := repr_k2 (S := S) h hr hq
  have a1 : Cz.c__law_within fu [dRow qs, dRow rs] S = some (.bl (wRow qs rs), S) := lw_ok (S := S) hf hb ha
  have sl : gSl false (dRT rs qs (wRow rs qs)) (some 1) none S = some (.vl [dRow (joinRow rs qs), dORow (metRow rs qs)], S) := rfl
  have ad : gAdd false (.vl [.bl (wRow qs rs)]) (.vl [dRow (joinRow rs qs), dORow (metRow rs qs)]) S = some (dRT rs qs (wRow qs rs), S) := rfl
  unfold q12
  rw [kw]
  generalize dRT rs qs (wRow rs qs) = d1 at *
  generalize dRT rs qs (wRow qs rs) = d2 at *
  simp only [r_sIf, r_tOr, r_truB, r_eBin, r_eCall, r_aCons, r_aNil, r_eVar, r_eC, r_eSl, r_oSome, r_oNone, List.getElem?_cons_zero, List.getElem?_cons_succ, b1, b2, b3, b4, b5, eqs_self, a1, sl, ad, t_lst1, t_lst3, r_mkV, Bool.not_true, r_sNil]
theorem w13 (hf : 10000 ≤ fu) (h : Pg zs c) (hr : RwB zs.length H30 rs) (hq : RwB zs.length H30 qs) {T1 T2 : Sto} {z z' : D} (t1 : Told 4 S.length (S ++ T1) z (pRT rs qs (wRow rs qs))) (t2 : Told 4 (S ++ T1).length (S ++ T1 ++ T2) z' (pRT rs qs (wRow qs rs))) :
    ∃ X, q13 fu [e0, e1, e2, e3, some (dP (pg zs c)), e5, e6, some (dRow rs), some (dRow qs), some (.str (pK2 zs c rs qs).shown), some z, e11, some z', e13, e14, e15, e16, e17, e18] (S ++ T1 ++ T2) = some (.nx [e0, e1, e2, e3, some (dP (pg zs c)), e5, e6, some (dRow rs), some (dRow qs), some (.str (pK2 zs c rs qs).shown), some z, e11, some z', e13, e14, e15, e16, e17, e18], X) ∧ S.length ≤ X.length ∧ ∀ i, i < S.length → X[i]? = S[i]? := by
  have hle : ∀ (A B : Sto), A.length ≤ (A ++ B).length := fun A B => by rw [List.length_append]; omega
  have a1 : Tolds 4 S.length (S ++ T1) [z] [pRT rs qs (wRow rs qs)] := (Tolds.nil (k := 4) (n0 := S.length) (S := S)).snoc t1 (Nat.le_refl _)
  have a2 : Tolds 4 S.length (S ++ T1 ++ T2) [z, z'] [pRT rs qs (wRow rs qs), pRT rs qs (wRow qs rs)] := a1.snoc t2 (hle _ _)
  have a3 := a2.list (Nat.le_trans (hle _ _) (hle _ _)) (show 2 ≤ 1000 by decide) (last_mk (by obtain ⟨α, _, q, _⟩ := a2; exact q) fun p hp => by
    simp only [List.mem_cons, List.not_mem_nil, or_false] at hp
    rcases hp with rfl | rfl <;> (intro e; cases e))
  obtain ⟨X, b1, l1, l2⟩ := told_marked (fu := fu) (k := 4) hf a3 (by decide)
  have b5 := repr_k2 (S := X) h hr hq
  refine ⟨X, ?_, by rw [l1]; exact Nat.le_trans (Nat.le_trans (hle _ _) (hle _ _)) (hle _ _), fun i hi => ?_⟩
  · unfold q13
    rw [cM_is]
    simp only [r_sIf, r_tOr, r_tNot, r_truF, r_truD_bl, r_truB, r_eBin, r_eCall, r_aCons, r_aNil, r_eVar, r_eC, List.getElem?_cons_zero, List.getElem?_cons_succ, b1, b5, eqs_self, t_lst2, t_lst3, r_mkV, r_mkR, Bool.not_true, r_sNil]
  · rw [l2 i hi, List.getElem?_append_left (Nat.lt_of_lt_of_le hi (Nat.le_trans (hle _ _) (hle _ _))), List.append_assoc, List.getElem?_append_left hi]
end
end K16
namespace K16
open PySem PySem.Spec PyProof.Rows L2 Lv Com Sp
section
variable {zs : List Str} {c : Nat} {T U : Tb}
theorem RT.okT (h : RT (pg zs c) T) : okT (pg zs c) T = true := by
  unfold Sp.okT
  rw [Bool.and_eq_true]
  refine ⟨decide_eq_true h.len, List.all_eq_true.mpr fun o ho => ?_⟩
  cases o with
  | none => rfl
  | some rs =>
    unfold okTR
    rw [Bool.and_eq_true]
    exact ⟨decide_eq_true (h.rows rs ho).1, List.all_eq_true.mpr fun r hr => ((h.rows rs ho).2 r hr).1⟩
theorem RT.tb (hp : Pg zs c) (h : RT (pg zs c) T) : TbM T := fun rs hr => rw_M hp (h.rows rs hr)
theorem RT.two (hp : Pg zs c) (h : RT (pg zs c) T) (k : RT (pg zs c) U) : OkPTT (pg zs c) T U := ⟨⟨hp.d.sm, hp.d.ok, h.okT, by
  show ((c : Nat) : Int) ≤ 1000
  have := hp.c4
  omega⟩, k.okT⟩
theorem RT.le (hp : Pg zs c) (h : RT (pg zs c) T) : T.length ≤ 4 := by
  have e : ((T.length : Nat) : Int) = ((c : Nat) : Int) := h.len
  have := hp.c4
  omega
theorem fi_tab {T : Tb} (hb : ∀ rs, some rs ∈ T → rs.length ≤ 5 ∧ ∀ r ∈ rs, BdR M r) (hl : T.length ≤ 4) : Fi 3 44100 (pTab T) := (fi_list (n := 4) (k := 2) (L := 11000) (fun q hq => by
  obtain ⟨o, ho, rfl⟩ := List.mem_map.mp hq
  exact fi_orow fun rs e => by
    subst e
    exact ⟨fun r hr => smG_of ((hb rs ho).2 r hr) M900, (hb rs ho).1⟩) (by rw [List.length_map]; exact hl)).mono (Nat.le_refl _) (by decide)
theorem RT.rw5 (hp : Pg zs c) (h : RT (pg zs c) T) : ∀ rs, some rs ∈ T → rs.length ≤ 5 ∧ ∀ r ∈ rs, BdR M r := fun rs hr => ⟨by
  have e : rs.length = zs.length := (h.rows rs hr).1
  have := hp.z3
  omega, fun r k => bd_M ((h.rows rs hr).2 r k).2⟩
theorem join5 (hp : Pg zs c) (h : RT (pg zs c) T) (k : RT (pg zs c) U) : ∀ rs, some rs ∈ joinT T U → rs.length ≤ 5 ∧ ∀ r ∈ rs, BdR M r := fun rs hr => by
  obtain ⟨⟨a, b⟩, hp', e⟩ := List.mem_map.mp hr
  have h1 := (List.of_mem_zip hp').1
  have h2 := (List.of_mem_zip hp').2
  cases a with
  | none => exact k.rw5 hp rs (by rw [← (show b = some rs from e)]; exact h2)
  | some as =>
    cases b with
    | none => exact h.rw5 hp rs (by rw [← (show some as = some rs from e)]; exact h1)
    | some bs =>
      have e' : joinRow as bs = rs := Option.some.inj e
      subst e'
      obtain ⟨l1, b1⟩ := h.rw5 hp as h1
      obtain ⟨l2, b2⟩ := k.rw5 hp bs h2
      refine ⟨?_, fun r hr => ?_⟩
      · unfold joinRow
        rw [List.length_map, List.length_zip]
        omega
      · obtain ⟨p, hp2, rfl⟩ := List.mem_map.mp hr
        exact join_bd (b1 _ (zip_mem2 hp2).1) (b2 _ (zip_mem2 hp2).2)
theorem met5 (hp : Pg zs c) (h : RT (pg zs c) T) (k : RT (pg zs c) U) : ∀ rs, some rs ∈ metT T U → rs.length ≤ 5 ∧ ∀ r ∈ rs, BdR M r := fun rs hr => by
  obtain ⟨⟨a, b⟩, hp', e⟩ := List.mem_map.mp hr
  have h1 := (List.of_mem_zip hp').1
  have h2 := (List.of_mem_zip hp').2
  cases a with
  | none => cases e
  | some as =>
    cases b with
    | none => cases e
    | some bs =>
      have e' : metRow as bs = some rs := e
      rw [metRow_is] at e'
      split at e'
      · cases e'
        obtain ⟨l1, b1⟩ := h.rw5 hp as h1
        obtain ⟨l2, b2⟩ := k.rw5 hp bs h2
        refine ⟨?_, fun r hr => ?_⟩
        · rw [List.length_map, List.length_zip]
          omega
        · obtain ⟨p, hp2, rfl⟩ := List.mem_map.mp hr
          exact metQ_bd (b1 _ (zip_mem2 hp2).1) (b2 _ (zip_mem2 hp2).2)
      · cases e'
theorem joinT_comm : joinT T U = joinT U T := zip_swap (f := fun p => joinO p.1 p.2) fun a b => by
  cases a <;> cases b <;> try rfl
  exact congrArg some joinRow_comm
theorem metT_comm : metT T U = metT U T := zip_swap (f := fun p => metO p.1 p.2) fun a b => by
  cases a <;> cases b <;> try rfl
  exact metRow_comm
end
def pTT (T U : Tb) : PyData := .list [.bool (wT T U), pTab (joinT T U), pTab (metT T U)]
def dTT (T U : Tb) : D := .vl [.bl (wT T U), dT (joinT T U), dT (metT T U)]
def pKT (zs : List Str) (c : Nat) (T U : Tb) : PyData := .list [pPrg (pg zs c), pTab T, pTab U]
def dZ (T U : Tb) : D := .vl ((T.zip U).map fun p => .tup [dORow p.1, dORow p.2])
section
variable {fu : Nat} {S : Sto} {g : Nat} {zs : List Str} {c : Nat} {T U : Tb} {e0 e1 e2 e3 e4 e5 e6 e7 e8 e9 e10 e11 e12 e13 e14 e15 e16 e17 e18 : Option D}
theorem toP_tab {n : Nat} {T : Tb} : toP (n + 4) S (dT T) = some (pTab T) := by
  unfold dT toP
  rw [mapO_map (n := n + 3) (fun o => toP_orow (n := n))]
  rfl
theorem fi_tt (hp : Pg zs c) (h : RT (pg zs c) T) (k : RT (pg zs c) U) : Fi 4 200000 (pTT T U) := (fi_list (n := 3) (k := 3) (L := 44100) (ps := [.bool (wT T U), pTab (joinT T U), pTab (metT T U)]) (fun q kk => by
  have l1 := h.le hp
  simp only [List.mem_cons, List.not_mem_nil, or_false] at kk
  rcases kk with rfl | rfl | rfl
  · exact (fi_bl _).mono (by decide) (by decide)
  · exact fi_tab (join5 hp h k) (by unfold joinT; rw [List.length_map, List.length_zip]; omega)
  · exact fi_tab (met5 hp h k) (by unfold metT; rw [List.length_map, List.length_zip]; omega)) (Nat.le_refl 3)).mono (Nat.le_refl _) (by decide)
theorem repr_tt (hp : Pg zs c) (h : RT (pg zs c) T) (k : RT (pg zs c) U) : cRepr [dTT T U] S = some (.str (pTT T U).shown, S) := by
  refine repr_ok (k := 4) (L := 200000) ?_ (fi_tt hp h k) (by decide) (by decide)
  unfold dTT toP
  simp only [mapO]
  rw [toP_tab, toP_tab]
  rfl
theorem repr_kt (hp : Pg zs c) (h : RT (pg zs c) T) (k : RT (pg zs c) U) : cRepr [.vl [dP (pg zs c), dT T, dT U]] S = some (.str (pKT zs c T U).shown, S) := by
  refine repr_ok (k := 6) (L := 700000) ?_ ((fi_list (n := 3) (k := 5) (L := 200000) (ps := [pPrg (pg zs c), pTab T, pTab U]) (fun q kk => ?_) (Nat.le_refl 3)).mono (Nat.le_refl _) (by decide)) (by decide) (by decide)
  · unfold toP
    simp only [mapO]
    rw [toP_prg, toP_tab, toP_tab]
    rfl
  · simp only [List.mem_cons, List.not_mem_nil, or_false] at kk
    rcases kk with rfl | rfl | rfl
    · exact fi_pg hp
    · exact (fi_tab (h.rw5 hp) (h.le hp)).mono (by decide) (by decide)
    · exact (fi_tab (k.rw5 hp) (k.le hp)).mono (by decide) (by decide)
theorem drop_ok {i : Nat} {env : Lv.Env} {G : Gn} {B : Int} (hf : 10000 ≤ fu) (hp : Pg zs c) (eg : S[g]? = some (gc G)) (hG : OkG B G) (hB : B ≤ 2 ^ 40) (h : RT (pg zs c) T) (he : iAny (eVar i) env S = some (.fix (T.map dORow), S)) (hw : ∀ d, ∃ e1, setTg (.nm 16) d (wipeE env [16]) = some e1 ∧ e1[0]? = some (some (.ref g)) ∧ e1[16]? = some (some d)) :
    ∃ (V : Tb) (G' : Gn), eComp false fu [16] (iAny (eVar i)) (.nm 16) tYesF (eIf (truB (eBin (gEqv false) (eCall (Com.c__law_random fu) (aCons (eVar 0) (aCons (eC (.int 4)) aNil))) (eC (.int 0)))) (eC .non) (eVar 16)) env S = some (dT V, S.set g (gc G')) ∧ RT (pg zs c) V ∧ OkG (B + 50) G' := by
  have lm : (T.map dORow).length = T.length := List.length_map _
  have l4 := h.le hp
  obtain ⟨V, G', a, l, q, g'⟩ := comp_drawL (L := 2 ^ 50) (n := fu) (own := [16]) (it := iAny (eVar i)) (t := .nm 16) (f := (eIf (truB (eBin (gEqv false) (eCall (Com.c__law_random fu) (aCons (eVar 0) (aCons (eC (.int 4)) aNil))) (eC (.int 0)))) (eC .non) (eVar 16))) (env := env) (ds := T.map dORow) (k := 5) dORow (fun o => ∀ rs, o = some rs → RwB zs.length H30 rs) he eg hG (by decide) (by rw [lm]; omega) (by rw [lm]; omega) (by rw [lm]; omega) (fun y => nr_dORow) (fun d hd => by
    obtain ⟨o, ho, rfl⟩ := List.mem_map.mp hd
    obtain ⟨e1, k1, k2, k3⟩ := hw (dORow o)
    refine ⟨e1, k1, fun X B' G1 ex hX hB' => ?_⟩
    obtain ⟨r, G2, q1, r0, r1, g2⟩ := random_ok hf (b := 4) ex hX (by omega) (by omega) (by omega)
    have q' : c__law_random fu [.ref g, .int 4] X = some (.int r, X.set g (gc G2)) := q1
    have t : truB (eBin (gEqv false) (eCall (Com.c__law_random fu) (aCons (eVar 0) (aCons (eC (.int 4)) aNil))) (eC (.int 0))) e1 X = some (r == 0, X.set g (gc G2)) := by simp only [r_truB, r_eBin, r_eCall, r_aCons, r_aNil, r_eVar, r_eC, k2, q', r_eqv_int, Bool.false_eq_true, if_false]
    rw [r_eIf, t]
    cases r == 0 with
    | true => exact ⟨none, G2, rfl, fun rs e => (by cases e), g2⟩
    | false => exact ⟨o, G2, by simp only [r_eVar, k3], fun rs e => h.rows rs (by rw [← e]; exact ho), g2⟩)
  refine ⟨V, G', a, ⟨?_, fun rs hr => q (some rs) hr rs rfl⟩, g'.mono (by rw [lm]; omega)⟩
  have e := h.len
  rw [l, lm]
  exact e
theorem w14 {G : Gn} {B : Int} (hf : 10000 ≤ fu) (hp : Pg zs c) (eg : S[g]? = some (gc G)) (hG : OkG B G) (hB : B ≤ 2 ^ 40) (h : RT (pg zs c) T) :
    ∃ (V : Tb) (G' : Gn), q14 fu [some (.ref g), e1, e2, e3, e4, some (dT T), e6, e7, e8, e9, e10, e11, e12, e13, e14, e15, e16, e17, e18] S = some (.nx [some (.ref g), e1, e2, e3, e4, some (dT V), e6, e7, e8, e9, e10, e11, e12, e13, e14, e15, e16, e17, e18], S.set g (gc G')) ∧ RT (pg zs c) V ∧ OkG (B + 50) G' := by
  obtain ⟨V, G', a, b, d⟩ := drop_ok (i := 5) (env := [some (.ref g), e1, e2, e3, e4, some (dT T), e6, e7, e8, e9, e10, e11, e12, e13, e14, e15, e16, e17, e18]) hf hp eg hG hB h rfl (fun d => ⟨[some (.ref g), e1, e2, e3, e4, some (dT T), e6, e7, e8, e9, e10, e11, e12, e13, e14, e15, some d, e17, e18], rfl, rfl, rfl⟩)
  refine ⟨V, G', ?_, b, d⟩
  unfold q14
  rw [r_sSet, a]
  rfl
theorem w15 {G : Gn} {B : Int} (hf : 10000 ≤ fu) (hp : Pg zs c) (eg : S[g]? = some (gc G)) (hG : OkG B G) (hB : B ≤ 2 ^ 40) (h : RT (pg zs c) T) :
    ∃ (V : Tb) (G' : Gn), q15 fu [some (.ref g), e1, e2, e3, e4, e5, some (dT T), e7, e8, e9, e10, e11, e12, e13, e14, e15, e16, e17, e18] S = some (.nx [some (.ref g), e1, e2, e3, e4, e5, some (dT V), e7, e8, e9, e10, e11, e12, e13, e14, e15, e16, e17, e18], S.set g (gc G')) ∧ RT (pg zs c) V ∧ OkG (B + 50) G' := by
  obtain ⟨V, G', a, b, d⟩ := drop_ok (i := 6) (env := [some (.ref g), e1, e2, e3, e4, e5, some (dT T), e7, e8, e9, e10, e11, e12, e13, e14, e15, e16, e17, e18]) hf hp eg hG hB h rfl (fun d => ⟨[some (.ref g), e1, e2, e3, e4, e5, some (dT T), e7, e8, e9, e10, e11, e12, e13, e14, e15, some d, e17, e18], rfl, rfl, rfl⟩)
  refine ⟨V, G', ?_, b, d⟩
  unfold q15
  rw [r_sSet, a]
  rfl
theorem w16 (hp : Pg zs c) (h : RT (pg zs c) T) (k : RT (pg zs c) U) :
    q16 fu [e0, e1, e2, e3, some (dP (pg zs c)), some (dT T), some (dT U), e7, e8, e9, e10, e11, e12, e13, e14, e15, e16, e17, e18] S = some (.nx [e0, e1, e2, e3, some (dP (pg zs c)), some (dT T), some (dT U), e7, e8, some (.str (pKT zs c T U).shown), e10, e11, e12, some (dZ T U), e14, e15, e16, e17, e18], S) := by
  have a := repr_kt (S := S) hp h k
  have l : ∀ V : Tb, Lv.listOf S (dT V) = some (V.map dORow) := fun V => rfl
  unfold q16 dZ
  rw [← zip_orows]
  simp only [r_sPar, r_aCons, r_aNil, r_eCall, r_eVar, r_eLzip, List.getElem?_cons_zero, List.getElem?_cons_succ, t_lst3, r_mkV, a, l]
  rfl
theorem loose_c (hf : 10000 ≤ fu) (h : TbM T) (k : TbM U) (l4 : T.length ≤ 4) {env : Lv.Env} (a b : Nat) {own : List Nat} (he : env[13]? = some (some (dZ T U))) (hw : ∀ x y, ∃ e1, setTg (.tp [a, b]) (.tup [x, y]) (wipeE env own) = some e1 ∧ e1[a]? = some (some x) ∧ e1[b]? = some (some y)) :
    eComp false fu own (iAny (eVar 13)) (.tp [a, b]) (tNotF (truF (eCall (Cz.c__law_within fu) (aCons (eVar a) (aCons (eVar b) aNil))))) (eVar a) env S = some (dT (((T.zip U).filter fun p => !wO p.1 p.2).map (·.1)), S) := by
  have lz : (T.zip U).length ≤ T.length := by rw [List.length_zip]; omega
  have e := comp_if (n := fu) (own := own) (it := iAny (eVar 13)) (t := .tp [a, b]) (c := (tNotF (truF (eCall (Cz.c__law_within fu) (aCons (eVar a) (aCons (eVar b) aNil)))))) (f := eVar a) (env := env) (S := S) (S1 := S) (xs := T.zip U) (enc := fun p => .tup [dORow p.1, dORow p.2]) (fun p => !wO p.1 p.2) (fun p => dORow p.1) (by rw [r_iAny, r_eVar, he]; rfl) (by omega) (by omega) (fun p hp S' => by
    obtain ⟨e1, k1, k2, k3⟩ := hw (dORow p.1) (dORow p.2)
    have lw := lw_ok (fu := fu) (S := S') (a := p.1) (b := p.2) hf (h.l hp) (k.r hp)
    refine ⟨e1, k1, ?_, fun _ => by rw [r_eVar, k2]⟩
    simp only [r_tNot, r_truF, r_eCall, r_aCons, r_aNil, r_eVar, k2, k3, lw, r_truD_bl]) (fun p _ _ => nr_dORow)
  rw [e]
  unfold dT
  rw [List.map_map]
  rfl
theorem loose_c2 (hf : 10000 ≤ fu) (h : TbM T) (k : TbM U) (l4 : T.length ≤ 4) {env : Lv.Env} {own : List Nat} (he : env[13]? = some (some (dZ T U))) (hw : ∀ x y, ∃ e1, setTg (.tp [18, 17]) (.tup [x, y]) (wipeE env own) = some e1 ∧ e1[18]? = some (some x) ∧ e1[17]? = some (some y)) :
    eComp false fu own (iAny (eVar 13)) (.tp [18, 17]) (tNotF (truF (eCall (Cz.c__law_within fu) (aCons (eVar 17) (aCons (eVar 18) aNil))))) (eVar 17) env S = some (dT (((T.zip U).filter fun p => !wO p.2 p.1).map (·.2)), S) := by
  have lz : (T.zip U).length ≤ T.length := by rw [List.length_zip]; omega
  have e := comp_if (n := fu) (own := own) (it := iAny (eVar 13)) (t := .tp [18, 17]) (c := (tNotF (truF (eCall (Cz.c__law_within fu) (aCons (eVar 17) (aCons (eVar 18) aNil)))))) (f := eVar 17) (env := env) (S := S) (S1 := S) (xs := T.zip U) (enc := fun p => .tup [dORow p.1, dORow p.2]) (fun p => !wO p.2 p.1) (fun p => dORow p.2) (by rw [r_iAny, r_eVar, he]; rfl) (by omega) (by omega) (fun p hp S' => by
    obtain ⟨e1, k1, k2, k3⟩ := hw (dORow p.1) (dORow p.2)
    have lw := lw_ok (fu := fu) (S := S') (a := p.2) (b := p.1) hf (k.r hp) (h.l hp)
    refine ⟨e1, k1, ?_, fun _ => by rw [r_eVar, k3]⟩
    simp only [r_tNot, r_truF, r_eCall, r_aCons, r_aNil, r_eVar, k2, k3, lw, r_truD_bl]) (fun p _ _ => nr_dORow)
  rw [e]
  unfold dT
  rw [List.map_map]
  rfl
theorem pair_c {F : CF} {f : Option (List Rg) × Option (List Rg) → Option (List Rg)} (hf : 10000 ≤ fu) (l4 : T.length ≤ 4) (hF : ∀ p ∈ T.zip U, ∀ S', F [dORow p.1, dORow p.2] S' = some (dORow (f p), S')) {env : Lv.Env} {own : List Nat} (he : env[13]? = some (some (dZ T U))) (hw : ∀ x y, ∃ e1, setTg (.tp [17, 18]) (.tup [x, y]) (wipeE env own) = some e1 ∧ e1[17]? = some (some x) ∧ e1[18]? = some (some y)) :
    eComp false fu own (iAny (eVar 13)) (.tp [17, 18]) tYesF (eCall F (aCons (eVar 17) (aCons (eVar 18) aNil))) env S = some (dT ((T.zip U).map f), S) := by
  have lz : (T.zip U).length ≤ T.length := by rw [List.length_zip]; omega
  have e := comp_all (n := fu) (own := own) (it := iAny (eVar 13)) (t := .tp [17, 18]) (f := eCall F (aCons (eVar 17) (aCons (eVar 18) aNil))) (env := env) (S := S) (S1 := S) (xs := T.zip U) (enc := fun p => .tup [dORow p.1, dORow p.2]) (fun p => dORow (f p)) (by rw [r_iAny, r_eVar, he]; rfl) (by omega) (by omega) (fun p hp S' => by
    obtain ⟨e1, k1, k2, k3⟩ := hw (dORow p.1) (dORow p.2)
    exact ⟨e1, k1, by simp only [r_eCall, r_aCons, r_aNil, r_eVar, k2, k3, hF p hp S']⟩) (fun p _ => nr_dORow)
  rw [e]
  unfold dT
  rw [List.map_map]
  rfl
theorem emp1 {xs : Tb} {ys : Tb} : (((xs.zip ys).filter fun p => !wO p.1 p.2).map (·.1)).isEmpty = wT xs ys := by rw [List.isEmpty_map, wT_filter]
theorem emp2 {xs ys : Tb} : (((xs.zip ys).filter fun p => !wO p.2 p.1).map (·.2)).isEmpty = wT ys xs := by
  rw [List.isEmpty_map]
  have e : ∀ (xs ys : Tb), ((xs.zip ys).filter fun p => !wO p.2 p.1).isEmpty = ((ys.zip xs).filter fun p => !wO p.1 p.2).isEmpty := by
    intro xs
    induction xs with
    | nil => intro ys; cases ys <;> rfl
    | cons x xs ih =>
      intro ys
      cases ys with
      | nil => rfl
      | cons y ys =>
        rw [List.zip_cons_cons, List.zip_cons_cons, List.filter_cons, List.filter_cons]
        cases q : wO y x with
        | false => rfl
        | true => exact ih ys
  rw [e, wT_filter]
theorem w17 (hf : 10000 ≤ fu) (hp : Pg zs c) (h : RT (pg zs c) T) (k : RT (pg zs c) U) :
    q17 fu [e0, e1, e2, e3, e4, e5, e6, e7, e8, e9, e10, e11, e12, some (dZ T U), e14, e15, e16, e17, e18] S = some (.nx [e0, e1, e2, e3, e4, e5, e6, e7, e8, e9, e10, some (dTT T U), e12, some (dZ T U), e14, e15, e16, e17, e18], S) := by
  have l4 := h.le hp
  have hT := h.tb hp
  have hU := k.tb hp
  have a1 := loose_c (S := S) hf hT hU l4 (env := [e0, e1, e2, e3, e4, e5, e6, e7, e8, e9, e10, e11, e12, some (dZ T U), e14, e15, e16, e17, e18]) 17 18 (own := [17, 18]) rfl (fun x y => ⟨[e0, e1, e2, e3, e4, e5, e6, e7, e8, e9, e10, e11, e12, some (dZ T U), e14, e15, e16, some x, some y], rfl, rfl, rfl⟩)
  have a2 := pair_c (S := S) (F := Cz.c__law_joined fu) (f := fun p => joinO p.1 p.2) hf l4 (fun p hp' S' => lj_ok hf (hT.l hp') (hU.r hp')) (env := [e0, e1, e2, e3, e4, e5, e6, e7, e8, e9, e10, e11, e12, some (dZ T U), e14, e15, e16, e17, e18]) (own := [17, 18]) rfl (fun x y => ⟨[e0, e1, e2, e3, e4, e5, e6, e7, e8, e9, e10, e11, e12, some (dZ T U), e14, e15, e16, some x, some y], rfl, rfl, rfl⟩)
  have a3 := pair_c (S := S) (F := Cz.c__law_met fu) (f := fun p => metO p.1 p.2) hf l4 (fun p hp' S' => lm_ok hf (hT.l hp') (hU.r hp')) (env := [e0, e1, e2, e3, e4, e5, e6, e7, e8, e9, e10, e11, e12, some (dZ T U), e14, e15, e16, e17, e18]) (own := [17, 18]) rfl (fun x y => ⟨[e0, e1, e2, e3, e4, e5, e6, e7, e8, e9, e10, e11, e12, some (dZ T U), e14, e15, e16, some x, some y], rfl, rfl, rfl⟩)
  have q := eq_nil_tab (S := S) (T := ((T.zip U).filter fun p => !wO p.1 p.2).map (·.1)) (neg := false)
  rw [emp1] at q
  have hg : ∀ F G H : EF, F [e0, e1, e2, e3, e4, e5, e6, e7, e8, e9, e10, e11, e12, some (dZ T U), e14, e15, e16, e17, e18] S = some (dT (((T.zip U).filter fun p => !wO p.1 p.2).map (·.1)), S) → G [e0, e1, e2, e3, e4, e5, e6, e7, e8, e9, e10, e11, e12, some (dZ T U), e14, e15, e16, e17, e18] S = some (dT (joinT T U), S) → H [e0, e1, e2, e3, e4, e5, e6, e7, e8, e9, e10, e11, e12, some (dZ T U), e14, e15, e16, e17, e18] S = some (dT (metT T U), S) →
      sSet 11 (eCall (cLst false) (aCons (eBin (gEqv false) F (eCall (cLst false) aNil)) (aCons G (aCons H aNil)))) [e0, e1, e2, e3, e4, e5, e6, e7, e8, e9, e10, e11, e12, some (dZ T U), e14, e15, e16, e17, e18] S = some (.nx [e0, e1, e2, e3, e4, e5, e6, e7, e8, e9, e10, some (dTT T U), e12, some (dZ T U), e14, e15, e16, e17, e18], S) := fun F G H eF eG eH => by
    unfold dTT
    generalize dT (((T.zip U).filter fun p => !wO p.1 p.2).map (·.1)) = u1 at *
    generalize dT (joinT T U) = u2 at *
    generalize dT (metT T U) = u3 at *
    simp only [r_sSet, r_eBin, r_eCall, r_aCons, r_aNil, t_lst0, t_lst3, r_mkV, eF, eG, eH, q, Bool.false_eq_true, if_false, List.set_cons_zero, List.set_cons_succ]
  exact hg _ _ _ a1 a2 a3
theorem w18 (hf : 10000 ≤ fu) (hp : Pg zs c) (h : RT (pg zs c) T) (k : RT (pg zs c) U) : ∃ (z : D) (T' : Sto),
    q18 fu [e0, e1, e2, e3, some (dP (pg zs c)), some (dT T), some (dT U), e7, e8, e9, e10, e11, e12, e13, e14, e15, e16, e17, e18] S = some (.nx [e0, e1, e2, e3, some (dP (pg zs c)), some (dT T), some (dT U), e7, e8, e9, some z, e11, e12, e13, e14, e15, e16, e17, e18], S ++ T') ∧ Told 5 S.length (S ++ T') z (pTT T U) := by
  have ok := h.two hp k
  have a1 := table_within_ok (S := S) hf ok
  obtain ⟨z2, T2, a2, t2⟩ := w_table_joined_t (S := S) hf ok
  obtain ⟨z3, T3, a3, t3⟩ := w_table_met_t (S := S ++ T2) hf ok
  have tt := three_told (x := wT T U) t2 t3 (fun e => by cases e) (fun e => by cases e)
  refine ⟨.ref (S ++ T2 ++ T3).length, T2 ++ T3 ++ [.lst [.bl (wT T U), z2, z3]], ?_, ?_⟩
  · rw [← List.append_assoc, ← List.append_assoc]
    exact told3g (F := eCall (Com.c_table_within fu) (aCons (eVar 4) (aCons (eVar 5) (aCons (eVar 6) aNil)))) (G := eCall (Cw.w_table_joined fu) (aCons (eVar 4) (aCons (eVar 5) (aCons (eVar 6) aNil)))) (H := eCall (Cw.w_table_met fu) (aCons (eVar 4) (aCons (eVar 5) (aCons (eVar 6) aNil)))) a1 a2 a3
  · rw [← List.append_assoc, ← List.append_assoc]
    exact tt
theorem w19 (hf : 10000 ≤ fu) (hp : Pg zs c) (h : RT (pg zs c) T) (k : RT (pg zs c) U) {z : D} {n0 : Nat} (t1 : Told 5 n0 S z (pTT T U)) :
    q19 fu [e0, e1, e2, e3, some (dP (pg zs c)), some (dT T), some (dT U), e7, e8, e9, some z, some (dTT T U), e12, some (dZ T U), e14, e15, e16, e17, e18] S = some (.nx [e0, e1, e2, e3, some (dP (pg zs c)), some (dT T), some (dT U), e7, e8, e9, some z, some (dTT T U), e12, some (dZ T U), e14, e15, e16, e17, e18], S) := by
  have b1 := told_repr t1 (by decide) (fi_tt hp h k) (by decide) (by decide)
  have b2 := repr_tt (S := S) hp h k
  have a1 := table_within_ok (S := S) hf (k.two hp h)
  have a2 := loose_c2 (S := S) hf (h.tb hp) (k.tb hp) (h.le hp) (env := [e0, e1, e2, e3, some (dP (pg zs c)), some (dT T), some (dT U), e7, e8, e9, some z, some (dTT T U), e12, some (dZ T U), e14, e15, e16, e17, e18]) (own := [18, 17]) rfl (fun x y => ⟨[e0, e1, e2, e3, some (dP (pg zs c)), some (dT T), some (dT U), e7, e8, e9, some z, some (dTT T U), e12, some (dZ T U), e14, e15, e16, some y, some x], rfl, rfl, rfl⟩)
  have q := eq_nil_tab (S := S) (T := ((T.zip U).filter fun p => !wO p.2 p.1).map (·.2)) (neg := false)
  rw [emp2] at q
  have hg : ∀ F : EF, F [e0, e1, e2, e3, some (dP (pg zs c)), some (dT T), some (dT U), e7, e8, e9, some z, some (dTT T U), e12, some (dZ T U), e14, e15, e16, e17, e18] S = some (dT (((T.zip U).filter fun p => !wO p.2 p.1).map (·.2)), S) →
      sIf (tOrF (truB (eBin (gEqv true) (eCall cRepr (aCons (eVar 10) aNil)) (eCall cRepr (aCons (eVar 11) aNil)))) (truB (eBin (gEqv true) (eCallK (Com.c_table_within fu) 0 3 [0, 2, 1] aNil (aCons (eVar 4) (aCons (eVar 5) (aCons (eVar 6) aNil)))) (eBin (gEqv false) F (eCall (cLst false) aNil))))) (sCons (sRet (eC (.bl false))) sNil) sNil [e0, e1, e2, e3, some (dP (pg zs c)), some (dT T), some (dT U), e7, e8, e9, some z, some (dTT T U), e12, some (dZ T U), e14, e15, e16, e17, e18] S = some (.nx [e0, e1, e2, e3, some (dP (pg zs c)), some (dT T), some (dT U), e7, e8, e9, some z, some (dTT T U), e12, some (dZ T U), e14, e15, e16, e17, e18], S) := fun F eF => by
    have bb : (wT U T == wT U T) = true := by cases wT U T <;> rfl
    generalize dT (((T.zip U).filter fun p => !wO p.2 p.1).map (·.2)) = u1 at *
    simp only [r_sIf, r_tOr, r_truB, r_eBin, r_eCall, r_eCallK, r_aCons, r_aNil, r_eVar, List.getElem?_cons_zero, List.getElem?_cons_succ, pick_nil, pick_cons, List.length_nil, List.length_cons, List.nil_append, Nat.sub_zero, Nat.reduceAdd, reduceIte, and_self, b1, b2, a1, eF, q, eqs_self, eqv_bl, bb, t_lst0, r_mkV, Bool.false_eq_true, if_false, if_true, Bool.not_true, r_sNil]
  exact hg _ a2
theorem w20 (hf : 10000 ≤ fu) (hp : Pg zs c) (h : RT (pg zs c) T) (k : RT (pg zs c) U) {z : D} {n0 : Nat} (t1 : Told 5 n0 S z (pTT T U)) :
    ∃ X, q20 fu [e0, e1, e2, e3, some (dP (pg zs c)), some (dT T), some (dT U), e7, e8, some (.str (pKT zs c T U).shown), some z, e11, e12, e13, e14, e15, e16, e17, e18] S = some (.nx [e0, e1, e2, e3, some (dP (pg zs c)), some (dT T), some (dT U), e7, e8, some (.str (pKT zs c T U).shown), some z, e11, e12, e13, e14, e15, e16, e17, e18], X) ∧ X.length = S.length ∧ ∀ i, i < n0 → X[i]? = S[i]? := by
  obtain ⟨X, b1, l1, l2⟩ := told_marked (fu := fu) (k := 4) hf t1 (by decide)
  have b5 := repr_kt (S := X) hp h k
  refine ⟨X, ?_, l1, l2⟩
  unfold q20
  rw [cM_is]
  simp only [r_sIf, r_tOr, r_tNot, r_truF, r_truD_bl, r_truB, r_eBin, r_eCall, r_aCons, r_aNil, r_eVar, r_eC, List.getElem?_cons_zero, List.getElem?_cons_succ, b1, b5, eqs_self, t_lst3, r_mkV, Bool.not_true, r_sNil]
theorem w21 (hf : 10000 ≤ fu) (hp : Pg zs c) (h : RT (pg zs c) T) (k : RT (pg zs c) U) : ∃ (z : D) (T' : Sto),
    q21 fu [e0, e1, e2, e3, some (dP (pg zs c)), some (dT T), some (dT U), e7, e8, e9, e10, e11, e12, e13, e14, e15, e16, e17, e18] S = some (.nx [e0, e1, e2, e3, some (dP (pg zs c)), some (dT T), some (dT U), e7, e8, e9, e10, e11, some z, e13, e14, e15, e16, e17, e18], S ++ T') ∧ Told 5 S.length (S ++ T') z (pTT T U) := by
  have ok := h.two hp k
  have ok2 := k.two hp h
  have a1 := table_within_ok (S := S) hf ok
  obtain ⟨z2, T2, a2, t2⟩ := w_table_joined_t (S := S) hf ok2
  obtain ⟨z3, T3, a3, t3⟩ := w_table_met_t (S := S ++ T2) hf ok2
  rw [joinT_comm] at t2
  rw [metT_comm] at t3
  have tt := three_told (x := wT T U) t2 t3 (fun e => by cases e) (fun e => by cases e)
  refine ⟨.ref (S ++ T2 ++ T3).length, T2 ++ T3 ++ [.lst [.bl (wT T U), z2, z3]], ?_, ?_⟩
  · rw [← List.append_assoc, ← List.append_assoc]
    refine told3g (F := eCallK (Com.c_table_within fu) 0 3 [0, 2, 1] aNil (aCons (eVar 4) (aCons (eVar 6) (aCons (eVar 5) aNil)))) (G := eCallK (Cw.w_table_joined fu) 0 3 [0, 2, 1] aNil (aCons (eVar 4) (aCons (eVar 5) (aCons (eVar 6) aNil)))) (H := eCallK (Cw.w_table_met fu) 0 3 [2, 1, 0] aNil (aCons (eVar 5) (aCons (eVar 6) (aCons (eVar 4) aNil)))) ?_ ?_ ?_
    · simp only [r_eCallK, r_aCons, r_aNil, r_eVar, List.getElem?_cons_zero, List.getElem?_cons_succ, pick_nil, pick_cons, a1, List.length_nil, List.length_cons, List.nil_append, Nat.sub_zero, Nat.reduceAdd, reduceIte, and_self]
    · simp only [r_eCallK, r_aCons, r_aNil, r_eVar, List.getElem?_cons_zero, List.getElem?_cons_succ, pick_nil, pick_cons, a2, List.length_nil, List.length_cons, List.nil_append, Nat.sub_zero, Nat.reduceAdd, reduceIte, and_self]
    · simp only [r_eCallK, r_aCons, r_aNil, r_eVar, List.getElem?_cons_zero, List.getElem?_cons_succ, pick_nil, pick_cons, a3, List.length_nil, List.length_cons, List.nil_append, Nat.sub_zero, Nat.reduceAdd, reduceIte, and_self]
  · rw [← List.append_assoc, ← List.append_assoc]
    exact tt
theorem w22 (hp : Pg zs c) (h : RT (pg zs c) T) (k : RT (pg zs c) U) {z : D} {n0 : Nat} (t1 : Told 5 n0 S z (pTT T U)) :
    q22 fu [e0, e1, e2, e3, some (dP (pg zs c)), some (dT T), some (dT U), e7, e8, some (.str (pKT zs c T U).shown), e10, some (dTT T U), some z, e13, e14, e15, e16, e17, e18] S = some (.rt (.bl true), S) := by
  have b1 := told_repr t1 (by decide) (fi_tt hp h k) (by decide) (by decide)
  have b2 := repr_tt (S := S) hp h k
  have b5 := repr_kt (S := S) hp h k
  unfold q22
  simp only [r_sRet, r_eAnd, r_eBin, r_eCall, r_aCons, r_aNil, r_eVar, List.getElem?_cons_zero, List.getElem?_cons_succ, b1, b2, b5, eqs_self, t_lst3, r_mkV, Bool.not_false]
end
end K16
namespace K16
open PySem PySem.Spec PyProof.Rows L2 Lv Com Sp
section
variable {fu : Nat} {S : Sto}
theorem row0 {zs : List Str} {c : Nat} {T : List (List Rg)} (c1 : 1 ≤ c) (h : RT (pg zs c) (T.map some)) : ∃ rs, (T.map some).getD 0 none = some rs ∧ RwB zs.length H30 rs := by
  cases T with
  | nil =>
    have e : ((([] : List (List Rg)).map some).length : Int) = ((c : Nat) : Int) := h.len
    simp at e
    omega
  | cons r T => exact ⟨r, rfl, h.rows r List.mem_cons_self⟩
theorem right_ok (hf : 10000 ≤ fu) {g : Nat} {B : Int} {G : Gn} (eg : S[g]? = some (gc G)) (hG : OkG B G) (hB : B ≤ 2 ^ 20) : ∃ (G' : Gn), c__law_right fu [.ref g] S = some (.bl true, S.set g (gc G')) := by
  have hgl := (List.getElem?_eq_some_iff.mp eg).1
  have at_ : ∀ G : Gn, (S.set g (gc G))[g]? = some (gc G) := fun G => List.getElem?_set_self hgl
  obtain ⟨m, G1, s1, m0, m1, g1⟩ := w1 (e1 := none) (e2 := none) (e3 := none) (e4 := none) (e5 := none) (e6 := none) (e7 := none) (e8 := none) (e9 := none) (e10 := none) (e11 := none) (e12 := none) (e13 := none) (e14 := none) (e15 := none) (e16 := none) (e17 := none) (e18 := none) hf eg hG hB
  obtain ⟨zs, c, G2, s2, z1, z3, zm, zp, c1, c4, g2⟩ := w2 (e1 := some (.int m)) (e2 := none) (e3 := none) (e4 := none) (e5 := none) (e6 := none) (e7 := none) (e8 := none) (e9 := none) (e10 := none) (e11 := none) (e12 := none) (e13 := none) (e14 := none) (e15 := none) (e16 := none) (e17 := none) (e18 := none) hf (at_ G1) g1 (by omega)
  rw [List.set_set] at s2
  have hp : Pg zs c := ⟨z1, z3, zm, zp, c1, c4⟩
  have s3 := w3 (S := S.set g (gc G2)) (zs := zs) (c := c) (e18 := some (.ref g)) (e1 := some (.int m)) (e4 := none) (e5 := none) (e6 := none) (e7 := none) (e8 := none) (e9 := none) (e10 := none) (e11 := none) (e12 := none) (e13 := none) (e14 := none) (e15 := none) (e16 := none) (e17 := none) hf (by omega)
  obtain ⟨T, G3, s4, lT, hT, g3⟩ := w4 (zs := zs) (c := c) (m := m) (e4 := some (dP (pg zs c))) (e5 := none) (e6 := none) (e7 := none) (e8 := none) (e9 := none) (e10 := none) (e11 := none) (e12 := none) (e13 := none) (e14 := none) (e15 := none) (e16 := none) (e17 := none) (e18 := none) hf (at_ G2) g2 (by omega) m0 m1 (by omega) c4
  rw [List.set_set] at s4
  obtain ⟨U, G4, s5, lU, hU, g4⟩ := w5 (zs := zs) (c := c) (m := m) (e4 := some (dP (pg zs c))) (e5 := some (dT (T.map some))) (e6 := none) (e7 := none) (e8 := none) (e9 := none) (e10 := none) (e11 := none) (e12 := none) (e13 := none) (e14 := none) (e15 := none) (e16 := none) (e17 := none) (e18 := none) hf (at_ G3) g3 (by omega) m0 m1 (by omega) c4
  rw [List.set_set] at s5
  have rT : RT (pg zs c) (T.map some) := rt_of lT hT (by omega)
  have rU : RT (pg zs c) (U.map some) := rt_of lU hU (by omega)
  obtain ⟨V, G5, r5, s6, rV, g5⟩ := w6 (zs := zs) (c := c) (m := m) (T := T) (U := U) (e1 := some (.int m)) (e2 := some (dN zs)) (e3 := some (.int (c : Nat))) (e4 := some (dP (pg zs c))) (e8 := none) (e9 := none) (e10 := none) (e11 := none) (e12 := none) (e13 := none) (e14 := none) (e15 := none) (e16 := none) (e17 := none) (e18 := none) hf (at_ G4) g4 (by omega) m1 (by omega) c4 lT hT rU
  rw [List.set_set] at s6
  have s7 := w7 (fu := fu) (S := S.set g (gc G5)) (zs := zs) (c := c) (T := T.map some) (V := V.map some) (e0 := some (.ref g)) (e18 := none) (e1 := some (.int m)) (e2 := some (dN zs)) (e3 := some (.int (c : Nat))) (e4 := some (dP (pg zs c))) (e7 := r5) (e8 := none) (e9 := none) (e10 := none) (e11 := none) (e12 := none) (e13 := none) (e14 := none) (e15 := none) (e16 := none) (e17 := none) c1 rT rV
  obtain ⟨rs, hrs, Rr⟩ := row0 c1 rT
  obtain ⟨qs, hqs, Rq⟩ := row0 c1 rV
  rw [hrs, hqs] at s7
  have s8 := w8 (fu := fu) (S := S.set g (gc G5)) (e0 := some (.ref g)) (e1 := some (.int m)) (e2 := some (dN zs)) (e3 := some (.int (c : Nat))) (e5 := some (dT (T.map some))) (e6 := some (dT (V.map some))) (e9 := none) (e10 := none) (e11 := none) (e12 := none) (e13 := none) (e14 := none) (e15 := none) (e16 := none) (e17 := none) (e18 := none) hp Rr Rq
  obtain ⟨z, T1, s9, t9⟩ := w9 (S := S.set g (gc G5)) (e0 := some (.ref g)) (e1 := some (.int m)) (e2 := some (dN zs)) (e3 := some (.int (c : Nat))) (e5 := some (dT (T.map some))) (e6 := some (dT (V.map some))) (e9 := some (.str (pK2 zs c rs qs).shown)) (e10 := none) (e11 := none) (e12 := none) (e13 := none) (e14 := none) (e15 := none) (e16 := none) (e17 := none) (e18 := none) hf hp Rr Rq
  have s10 := w10 (S := S.set g (gc G5) ++ T1) (e0 := some (.ref g)) (e1 := some (.int m)) (e2 := some (dN zs)) (e3 := some (.int (c : Nat))) (e4 := some (dP (pg zs c))) (e5 := some (dT (T.map some))) (e6 := some (dT (V.map some))) (e9 := some (.str (pK2 zs c rs qs).shown)) (e10 := some z) (e11 := none) (e12 := none) (e13 := none) (e14 := none) (e15 := none) (e16 := none) (e17 := none) (e18 := none) hf hp Rr Rq
  obtain ⟨z', T2, s11, t11⟩ := w11 (S := S.set g (gc G5) ++ T1) (e0 := some (.ref g)) (e1 := some (.int m)) (e2 := some (dN zs)) (e3 := some (.int (c : Nat))) (e5 := some (dT (T.map some))) (e6 := some (dT (V.map some))) (e9 := some (.str (pK2 zs c rs qs).shown)) (e10 := some z) (e11 := some (dRT rs qs (wRow rs qs))) (e12 := none) (e13 := none) (e14 := none) (e15 := none) (e16 := none) (e17 := none) (e18 := none) hf hp Rr Rq
  have s12 := w12 (S := S.set g (gc G5) ++ T1 ++ T2) (e0 := some (.ref g)) (e1 := some (.int m)) (e2 := some (dN zs)) (e3 := some (.int (c : Nat))) (e5 := some (dT (T.map some))) (e6 := some (dT (V.map some))) (e13 := none) (e14 := none) (e15 := none) (e16 := none) (e17 := none) (e18 := none) hf hp Rr Rq t9.grow t11
  obtain ⟨X, s13, lX, kX⟩ := w13 (S := S.set g (gc G5)) (e0 := some (.ref g)) (e1 := some (.int m)) (e2 := some (dN zs)) (e3 := some (.int (c : Nat))) (e5 := some (dT (T.map some))) (e6 := some (dT (V.map some))) (e11 := some (dRT rs qs (wRow rs qs))) (e13 := none) (e14 := none) (e15 := none) (e16 := none) (e17 := none) (e18 := none) hf hp Rr Rq t9 t11
  have hSl : ∀ G : Gn, (S.set g (gc G)).length = S.length := fun G => List.length_set
  have hXl : g < X.length := by rw [hSl] at lX; omega
  have hXg : X[g]? = some (gc G5) := by
    rw [kX g (by rw [hSl]; exact hgl)]
    exact at_ G5
  obtain ⟨A, G6, s14, rA, g6⟩ := w14 (e1 := some (.int m)) (e2 := some (dN zs)) (e3 := some (.int (c : Nat))) (e4 := some (dP (pg zs c))) (e6 := some (dT (V.map some))) (e7 := some (dRow rs)) (e8 := some (dRow qs)) (e9 := some (.str (pK2 zs c rs qs).shown)) (e10 := some z) (e11 := some (dRT rs qs (wRow rs qs))) (e12 := some z') (e13 := none) (e14 := none) (e15 := none) (e16 := none) (e17 := none) (e18 := none) hf hp hXg g5 (by omega) rT
  obtain ⟨A2, G7, s15, rB, g7⟩ := w15 (S := X.set g (gc G6)) (e1 := some (.int m)) (e2 := some (dN zs)) (e3 := some (.int (c : Nat))) (e4 := some (dP (pg zs c))) (e5 := some (dT A)) (e7 := some (dRow rs)) (e8 := some (dRow qs)) (e9 := some (.str (pK2 zs c rs qs).shown)) (e10 := some z) (e11 := some (dRT rs qs (wRow rs qs))) (e12 := some z') (e13 := none) (e14 := none) (e15 := none) (e16 := none) (e17 := none) (e18 := none) hf hp (List.getElem?_set_self hXl) g6 (by omega) rV
  rw [List.set_set] at s15
  have s16 := w16 (fu := fu) (S := X.set g (gc G7)) (e0 := some (.ref g)) (e1 := some (.int m)) (e2 := some (dN zs)) (e3 := some (.int (c : Nat))) (e7 := some (dRow rs)) (e8 := some (dRow qs)) (e9 := some (.str (pK2 zs c rs qs).shown)) (e10 := some z) (e11 := some (dRT rs qs (wRow rs qs))) (e12 := some z') (e13 := none) (e14 := none) (e15 := none) (e16 := none) (e17 := none) (e18 := none) hp rA rB
  have s17 := w17 (S := X.set g (gc G7)) (e0 := some (.ref g)) (e1 := some (.int m)) (e2 := some (dN zs)) (e3 := some (.int (c : Nat))) (e4 := some (dP (pg zs c))) (e5 := some (dT A)) (e6 := some (dT A2)) (e7 := some (dRow rs)) (e8 := some (dRow qs)) (e9 := some (.str (pKT zs c A A2).shown)) (e10 := some z) (e11 := some (dRT rs qs (wRow rs qs))) (e12 := some z') (e14 := none) (e15 := none) (e16 := none) (e17 := none) (e18 := none) hf hp rA rB
  obtain ⟨z2, T8, s18, t18⟩ := w18 (S := X.set g (gc G7)) (e0 := some (.ref g)) (e1 := some (.int m)) (e2 := some (dN zs)) (e3 := some (.int (c : Nat))) (e7 := some (dRow rs)) (e8 := some (dRow qs)) (e9 := some (.str (pKT zs c A A2).shown)) (e10 := some z) (e11 := some (dTT A A2)) (e12 := some z') (e13 := some (dZ A A2)) (e14 := none) (e15 := none) (e16 := none) (e17 := none) (e18 := none) hf hp rA rB
  have s19 := w19 (S := X.set g (gc G7) ++ T8) (e0 := some (.ref g)) (e1 := some (.int m)) (e2 := some (dN zs)) (e3 := some (.int (c : Nat))) (e7 := some (dRow rs)) (e8 := some (dRow qs)) (e9 := some (.str (pKT zs c A A2).shown)) (e12 := some z') (e14 := none) (e15 := none) (e16 := none) (e17 := none) (e18 := none) hf hp rA rB t18
  obtain ⟨X2, s20, lX2, kX2⟩ := w20 (S := X.set g (gc G7) ++ T8) (e0 := some (.ref g)) (e1 := some (.int m)) (e2 := some (dN zs)) (e3 := some (.int (c : Nat))) (e7 := some (dRow rs)) (e8 := some (dRow qs)) (e11 := some (dTT A A2)) (e12 := some z') (e13 := some (dZ A A2)) (e14 := none) (e15 := none) (e16 := none) (e17 := none) (e18 := none) hf hp rA rB t18
  obtain ⟨z3, T9, s21, t21⟩ := w21 (S := X2) (e0 := some (.ref g)) (e1 := some (.int m)) (e2 := some (dN zs)) (e3 := some (.int (c : Nat))) (e7 := some (dRow rs)) (e8 := some (dRow qs)) (e9 := some (.str (pKT zs c A A2).shown)) (e10 := some z2) (e11 := some (dTT A A2)) (e12 := some z') (e13 := some (dZ A A2)) (e14 := none) (e15 := none) (e16 := none) (e17 := none) (e18 := none) hf hp rA rB
  have s22 := w22 (fu := fu) (S := X2 ++ T9) (e0 := some (.ref g)) (e1 := some (.int m)) (e2 := some (dN zs)) (e3 := some (.int (c : Nat))) (e7 := some (dRow rs)) (e8 := some (dRow qs)) (e10 := some z2) (e13 := some (dZ A A2)) (e14 := none) (e15 := none) (e16 := none) (e17 := none) (e18 := none) hp rA rB t21
  have lX' : S.length ≤ X.length := by rw [hSl] at lX; exact lX
  have hY : ∀ i, i < S.length → (X2 ++ T9)[i]? = (S.set g (gc G7))[i]? := fun i hi => by
    have h1 : i < (X.set g (gc G7)).length := by rw [List.length_set]; omega
    rw [List.getElem?_append_left (by rw [lX2, List.length_append]; omega), kX2 i h1, List.getElem?_append_left h1]
    by_cases e : g = i
    · subst e
      rw [List.getElem?_set_self hXl, List.getElem?_set_self hgl]
    · rw [List.getElem?_set_ne e, List.getElem?_set_ne e, kX i (by rw [hSl]; exact hi), List.getElem?_set_ne e]
  have hFl : S.length ≤ (X2 ++ T9).length := by
    rw [List.length_append, lX2, List.length_append, List.length_set]
    omega
  have hF : X2 ++ T9 = S.set g (gc G7) ++ (X2 ++ T9).drop S.length := by
    have ht : (X2 ++ T9).take S.length = S.set g (gc G7) := by
      refine List.ext_getElem? fun i => ?_
      by_cases hi : i < S.length
      · rw [List.getElem?_take, if_pos hi, hY i hi]
      · rw [List.getElem?_eq_none (by rw [List.length_take]; omega), List.getElem?_eq_none (by rw [hSl]; omega)]
    have := List.take_append_drop S.length (X2 ++ T9)
    rw [ht] at this
    exact this.symm
  refine ⟨G7, ?_⟩
  have hu : u__law_right fu [.ref g] S = some (.bl true, X2 ++ T9) := by
    unfold u__law_right
    rw [b__law_right_is]
    refine fn_eq (np := 1) (nn := 19) (ds := [.ref g]) rfl ?_
    refine (cons_eq (f := q1 fu) (g := qt2 fu) s1).trans <| (cons_eq (f := q2 fu) (g := qt3 fu) s2).trans <| (cons_eq (f := q3 fu) (g := qt4 fu) s3).trans <| (cons_eq (f := q4 fu) (g := qt5 fu) s4).trans <| (cons_eq (f := q5 fu) (g := qt6 fu) s5).trans <| (cons_eq (f := q6 fu) (g := qt7 fu) s6).trans <| (cons_eq (f := q7 fu) (g := qt8 fu) s7).trans <| (cons_eq (f := q8 fu) (g := qt9 fu) s8).trans <| (cons_eq (f := q9 fu) (g := qt10 fu) s9).trans <| (cons_eq (f := q10 fu) (g := qt11 fu) s10).trans <| (cons_eq (f := q11 fu) (g := qt12 fu) s11).trans <| (cons_eq (f := q12 fu) (g := qt13 fu) s12).trans <| (cons_eq (f := q13 fu) (g := qt14 fu) s13).trans <| (cons_eq (f := q14 fu) (g := qt15 fu) s14).trans <| (cons_eq (f := q15 fu) (g := qt16 fu) s15).trans <| (cons_eq (f := q16 fu) (g := qt17 fu) s16).trans <| (cons_eq (f := q17 fu) (g := qt18 fu) s17).trans <| (cons_eq (f := q18 fu) (g := qt19 fu) s18).trans <| (cons_eq (f := q19 fu) (g := qt20 fu) s19).trans <| (cons_eq (f := q20 fu) (g := qt21 fu) s20).trans <| (cons_eq (f := q21 fu) (g := qt22 fu) s21).trans <| cons_rt (g := sNil) s22
  unfold c__law_right
  rw [r_sealed, hu, hF]
  exact shut_set rfl rfl
end
end K16
namespace K16
open PySem PySem.Spec PyProof.Rows L2 Lv Com Sp
abbrev R (a b : Int) : Rg := (some a, some b)
def PX : Prg := ⟨["x", "y"], 2, [R 0 0, R 0 0], []⟩
def N2 : Tb := [none, none]
def M2 : Tb := [none, some [R 0 0, R 1 1]]
section
variable {fu : Nat} {S : Sto}
theorem list_app {T : Sto} {d : D} {xs : List D} (h : Lv.listOf S d = some xs) : Lv.listOf (S ++ T) d = some xs := by
  cases d with
  | ref k =>
    simp only [Lv.listOf] at h ⊢
    cases q : S[k]? with
    | none => rw [q] at h; cases h
    | some c => rw [q] at h; rw [app_keep _ _ q]; exact h
  | _ => first | exact h | cases h
theorem lp1 (hf : 10000 ≤ fu) {ns : List Int} {d : D} (h : Lv.listOf S d = some (ns.map D.int)) : ∃ (tv : Option D) (T : Sto), l1 fu [some d, none, none, none] S = some (.nx [some d, tv, none, none], S ++ T) := by
  obtain ⟨e', S1, hl, tv, T, rfl, rfl⟩ := forL_fix (b := sCons (sIf (tNotF (truF (eCall (c__law_right fu) (aCons (eCall (Com.v__law_generator fu) (aCons (eVar 0) (aCons (eVar 1) aNil))) aNil)))) (sCons (sRet (eC (.bl false))) sNil) sNil) sNil) (t := .nm 1) (ds := rangeD 0 4)
    (fun i env S' => ∃ (tv : Option D) (T : Sto), env = [some d, tv, none, none] ∧ S' = S ++ T)
    fu 0 [some d, none, none, none] S ⟨none, [], rfl, by rw [List.append_nil]⟩ (Nat.zero_le _) (by simp [rangeD]; omega) (by
      rintro i x env S2 hx ⟨tv, T, rfl, rfl⟩
      have hi : i < 4 := by
        have := (List.getElem?_eq_some_iff.mp hx).1
        simpa [rangeD] using this
      have hxi : x = .int (i : Int) := by
        have : (rangeD 0 4)[i]? = some (.int (i : Int)) := by
          match i, hi with
          | 0, _ => rfl
          | 1, _ => rfl
          | 2, _ => rfl
          | 3, _ => rfl
        rw [this] at hx
        exact (Option.some.inj hx).symm
      subst hxi
      obtain ⟨G, e1, g1⟩ := generator_ok (fu := fu) (i := i) (list_app (T := T) h) (by omega)
      obtain ⟨G', e2⟩ := right_ok hf (new_last (S := S ++ T) (c := gc G)) g1 (by omega)
      rw [set_last] at e2
      refine ⟨_, rfl, [some d, some (.int (i : Int)), none, none], (S ++ T) ++ [gc G'], ?_, some (.int (i : Int)), T ++ [gc G'], rfl, by rw [List.append_assoc]⟩
      simp only [r_sCons, r_sIf, r_tAnd, r_tOr, r_tNot, r_truB, r_truF, r_truD_bl, r_eBin, r_eVar, r_eC, r_eCall, r_eCallK, r_aCons, r_aNil, r_eAnd, r_eOr, r_eNotT, r_eIf, r_eNeg, r_eChain, r_sNil, r_sDrop, r_sRet, r_sSet, r_sAsg, r_sPar, r_nm, r_tp, r_sets, r_sets0, List.getElem?_cons_zero, List.getElem?_cons_succ, List.set_cons_zero, List.set_cons_succ, List.length_cons, List.length_nil, List.map_cons, List.map_nil, List.cons_append, List.nil_append, Nat.zero_add, Nat.reduceAdd, Nat.sub_self, Nat.reduceSub, Nat.add_zero, List.reduceReplicate, List.replicate_zero, List.append_nil, if_true, if_false, Bool.false_eq_true, Bool.not_true, Bool.not_false, Bool.true_and, Bool.and_true, Bool.false_and, Bool.and_false, Bool.or_true, Bool.true_or, Bool.false_or, Bool.or_false, reduceIte, r_fnF, r_sealed, r_start, t_tup0, t_tup1, t_tup2, t_tup3, t_tup4, t_lst0, t_lst1, t_lst2, t_lst3, t_lst4, t_lst5, t_lst6, t_lst7, t_lst8, t_lst9, t_lst10, r_mkV, r_mkR, r_isN, r_non0, r_non1, r_non2, r_non3, r_non4, r_non5, r_non6, isi_int, isi_intb, isi_tup, isi_str, isi_vl, isi_ints, isi_tups, r_cmp2i, r_cmp2t, r_cmpI, r_eqv_int, r_eqv_str, r_add, r_sub, r_arith, r_ix_tup, r_ix_vl, r_len_tup, r_len_vl, r_cInt, r_cMin, r_cMax, r_lof_vl, r_lof_tup, r_tof_vl, r_tof_tup, r_truD_vl, r_truD_tup, r_truD_int, r_truD_non, r_oSome, r_oNone, r_eSl, r_sl_vl, r_sl_tup, r_iAny, r_eMethL, r_isRef_vl, ix20, ix21, nr_int, nr_bl, nr_non, nr_str, nr_tup, nr_vl, nrs_nil, nrs_cons, shut_same, pick_nil, pick_cons, decide_true, decide_false, e1, e2])
  exact ⟨tv, T, for_eq rfl hl⟩
theorem smX : SmP PX := ⟨by decide, fun z hz => by
  have hz' : z ∈ (["x", "y"] : List Str) := hz
  simp only [List.mem_cons, List.not_mem_nil, or_false] at hz'
  rcases hz' with rfl | rfl <;> decide +kernel, by decide, by decide⟩
theorem okX : okP PX = true := by decide +kernel
theorem oR {rs qs : List Rg} (l1 : rs.length = 2) (l2 : qs.length = 2) (h1 : rs.all okR = true) (h2 : qs.all okR = true) : OkPRR PX rs qs := ⟨smX, okX, l1, List.all_eq_true.mp h1, l2, List.all_eq_true.mp h2⟩
theorem oT {T U : Tb} (h1 : okT PX T = true) (h2 : okT PX U = true) : OkPTT PX T U := ⟨⟨smX, okX, h1, by decide⟩, h2⟩
theorem rwi {rs qs : List Rg} {x : Bool} (hf : 10000 ≤ fu) (h : OkPRR PX rs qs) (e : wRow rs qs = x) : c_row_within fu [dP PX, dRow rs, dRow qs] S = some (.bl x, S) := by rw [← e]; exact row_within_p hf h
theorem rjo {rs qs us : List Rg} (hf : 10000 ≤ fu) (h : OkPRR PX rs qs) (e : joinRow rs qs = us) : c_row_joined fu [dP PX, dRow rs, dRow qs] S = some (dRow us, S) := by rw [← e]; exact row_joined_p hf h
theorem rme {rs qs : List Rg} {o : Option (List Rg)} (hf : 10000 ≤ fu) (h : OkPRR PX rs qs) (e : metRow rs qs = o) : c_row_met fu [dP PX, dRow rs, dRow qs] S = some (dORow o, S) := by rw [← e]; exact row_met_p hf h
theorem twi {T U : Tb} {x : Bool} (hf : 10000 ≤ fu) (h : OkPTT PX T U) (e : wT T U = x) : c_table_within fu [dP PX, dT T, dT U] S = some (.bl x, S) := by rw [← e]; exact table_within_ok hf h
theorem lp2 {a b d : Option D} : l2 fu [a, b, none, d] S = some (.nx [a, b, some (dP PX), d], S) := by
  unfold l2
  simp only [r_sCons, r_sIf, r_tAnd, r_tOr, r_tNot, r_truB, r_truF, r_truD_bl, r_eBin, r_eVar, r_eC, r_eCall, r_eCallK, r_aCons, r_aNil, r_eAnd, r_eOr, r_eNotT, r_eIf, r_eNeg, r_eChain, r_sNil, r_sDrop, r_sRet, r_sSet, r_sAsg, r_sPar, r_nm, r_tp, r_sets, r_sets0, List.getElem?_cons_zero, List.getElem?_cons_succ, List.set_cons_zero, List.set_cons_succ, List.length_cons, List.length_nil, List.map_cons, List.map_nil, List.cons_append, List.nil_append, Nat.zero_add, Nat.reduceAdd, Nat.sub_self, Nat.reduceSub, Nat.add_zero, List.reduceReplicate, List.replicate_zero, List.append_nil, if_true, if_false, Bool.false_eq_true, Bool.not_true, Bool.not_false, Bool.true_and, Bool.and_true, Bool.false_and, Bool.and_false, Bool.or_true, Bool.true_or, Bool.false_or, Bool.or_false, reduceIte, r_fnF, r_sealed, r_start, t_tup0, t_tup1, t_tup2, t_tup3, t_tup4, t_lst0, t_lst1, t_lst2, t_lst3, t_lst4, t_lst5, t_lst6, t_lst7, t_lst8, t_lst9, t_lst10, r_mkV, r_mkR, r_isN, r_non0, r_non1, r_non2, r_non3, r_non4, r_non5, r_non6, isi_int, isi_intb, isi_tup, isi_str, isi_vl, isi_ints, isi_tups, r_cmp2i, r_cmp2t, r_cmpI, r_eqv_int, r_eqv_str, r_add, r_sub, r_arith, r_ix_tup, r_ix_vl, r_len_tup, r_len_vl, r_cInt, r_cMin, r_cMax, r_lof_vl, r_lof_tup, r_tof_vl, r_tof_tup, r_truD_vl, r_truD_tup, r_truD_int, r_truD_non, r_oSome, r_oNone, r_eSl, r_sl_vl, r_sl_tup, r_iAny, r_eMethL, r_isRef_vl, ix20, ix21, nr_int, nr_bl, nr_non, nr_str, nr_tup, nr_vl, nrs_nil, nrs_cons, shut_same, pick_nil, pick_cons, decide_true, decide_false]
  rfl
def k3 : List D := [.bl true, .vl [.tup [.int 0, .int 3], .tup [.int 1, .int 2]], .vl [.tup [.int 3, .int 4], .tup [.int 2, .int 2]]]
def k6 : List D := [.bl true, .vl [.tup [.int 0, .int 3], .tup [.int 1, .int 2]], .vl [.tup [.int 3, .int 4], .tup [.int 2, .int 2]], .non, .bl true, .bl false]
theorem lp3 (hf : 10000 ≤ fu) {a b : Option D} : l3 fu [a, b, some (dP PX), none] S = some (.nx [a, b, some (dP PX), some (.vl k3)], S) := by
  have c1 : c_row_within fu [dP PX, .vl [.tup [.int 0, .int 1], .tup [.int 2, .int 2]], .vl [.tup [.int 0, .non], .tup [.int 2, .int 2]]] S = some (.bl true, S) := rwi (rs := [R 0 1, R 2 2]) (qs := [(some 0, none), R 2 2]) hf (oR rfl rfl (by decide +kernel) (by decide +kernel)) (by decide +kernel)
  have c2 : c_row_joined fu [dP PX, .vl [.tup [.int 0, .int 1], .tup [.int 2, .int 2]], .vl [.tup [.int 3, .int 3], .tup [.int 1, .int 2]]] S = some (.vl [.tup [.int 0, .int 3], .tup [.int 1, .int 2]], S) := rjo (rs := [R 0 1, R 2 2]) (qs := [R 3 3, R 1 2]) (us := [R 0 3, R 1 2]) hf (oR rfl rfl (by decide +kernel) (by decide +kernel)) (by decide +kernel)
  have c3 : c_row_met fu [dP PX, .vl [.tup [.int 0, .int 4], .tup [.int 2, .int 2]], .vl [.tup [.int 3, .int 6], .tup [.int 1, .int 2]]] S = some (.vl [.tup [.int 3, .int 4], .tup [.int 2, .int 2]], S) := rme (rs := [R 0 4, R 2 2]) (qs := [R 3 6, R 1 2]) (o := some [R 3 4, R 2 2]) hf (oR rfl rfl (by decide +kernel) (by decide +kernel)) (by decide +kernel)
  unfold l3 k3
  generalize dP PX = pb at *
  simp only [r_sSet, r_eCall, r_aCons, r_aNil, r_eC, r_eVar, t_tup2, t_lst2, t_lst3, r_mkV, c1, c2, c3, List.getElem?_cons_zero, List.getElem?_cons_succ, List.set_cons_zero, List.set_cons_succ]
theorem lp4 (hf : 10000 ≤ fu) {a b : Option D} : l4 fu [a, b, some (dP PX), some (.vl k3)] S = some (.nx [a, b, some (dP PX), some (.vl k6)], S) := by
  have c1 : c_row_met fu [dP PX, .vl [.tup [.int 0, .int 4], .tup [.int 2, .int 2]], .vl [.tup [.int 3, .int 6], .tup [.int 3, .int 4]]] S = some (.non, S) := rme (rs := [R 0 4, R 2 2]) (qs := [R 3 6, R 3 4]) (o := none) hf (oR rfl rfl (by decide +kernel) (by decide +kernel)) (by decide +kernel)
  have c2 : c_table_within fu [dP PX, .vl [.non, .non], .vl [.non, .vl [.tup [.int 0, .int 0], .tup [.int 1, .int 1]]]] S = some (.bl true, S) := twi (T := N2) (U := M2) hf (oT (by decide +kernel) (by decide +kernel)) (by decide +kernel)
  have c3 : c_table_within fu [dP PX, .vl [.non, .vl [.tup [.int 0, .int 0], .tup [.int 1, .int 1]]], .vl [.non, .non]] S = some (.bl false, S) := twi (T := M2) (U := N2) hf (oT (by decide +kernel) (by decide +kernel)) (by decide +kernel)
  have ad : ∀ x y z : D, gAdd false (.vl k3) (.vl [x, y, z]) S = some (.vl [.bl true, .vl [.tup [.int 0, .int 3], .tup [.int 1, .int 2]], .vl [.tup [.int 3, .int 4], .tup [.int 2, .int 2]], x, y, z], S) := fun x y z => rfl
  unfold l4 k6
  generalize dP PX = pb at *
  simp only [r_sSet, r_eBin, r_eCall, r_aCons, r_aNil, r_eC, r_eVar, t_tup2, t_lst2, t_lst3, r_mkV, c1, c2, c3, ad, List.getElem?_cons_zero, List.getElem?_cons_succ, List.set_cons_zero, List.set_cons_succ]
def pk6 : List PyData := [.bool true, pRow [R 0 3, R 1 2], pRow [R 3 4, R 2 2], .none, .bool true, .bool false]
def eB (e : Option Int) : Bool := match e with
  | none => true
  | some i => decide (-1000 ≤ i ∧ i ≤ 1000)
theorem rB {rs : List Rg} (h : rs.all (fun r => eB r.1 && eB r.2) = true) (l : rs.length ≤ 5) : Fi 2 11000 (pRow rs) := fi_row (fun r hr => by
  have hk := List.all_eq_true.mp h r hr
  rw [Bool.and_eq_true] at hk
  have b : ∀ e : Option Int, eB e = true → BdO M e := fun e he i q => by
    subst q
    have := of_decide_eq_true he
    have hM : (1000 : Int) < M := by unfold M; decide +kernel
    omega
  exact smG_of ⟨b _ hk.1, b _ hk.2⟩ M900) l
theorem repr_k6 : cRepr [.vl k6] S = some (.str (PyData.list pk6).shown, S) := by
  refine repr_ok (k := 3) (L := 70000) ?_ ((fi_list (n := 6) (k := 2) (L := 11000) (ps := pk6) (fun q hq => ?_) (Nat.le_refl 6)).mono (Nat.le_refl _) (by decide)) (by decide) (by decide)
  · have h1 : toP 59 S (.vl [.tup [.int 0, .int 3], .tup [.int 1, .int 2]]) = some (pRow [R 0 3, R 1 2]) := toP_row (n := 56) (rs := [R 0 3, R 1 2])
    have h2 : toP 59 S (.vl [.tup [.int 3, .int 4], .tup [.int 2, .int 2]]) = some (pRow [R 3 4, R 2 2]) := toP_row (n := 56) (rs := [R 3 4, R 2 2])
    unfold k6 toP
    simp only [mapO]
    rw [h1, h2]
    rfl
  · simp only [pk6, List.mem_cons, List.not_mem_nil, or_false] at hq
    have hb : ∀ b : Bool, Fi 2 11000 (.bool b) := fun b => (fi_bl b).mono (by decide) (by decide)
    rcases hq with rfl | rfl | rfl | rfl | rfl | rfl
    · exact hb _
    · exact rB (by decide +kernel) (by decide)
    · exact rB (by decide +kernel) (by decide)
    · exact fi_non.mono (by decide) (by decide)
    · exact hb _
    · exact hb _
theorem lp5 {a b c : Option D} : l5 fu [a, b, c, some (.vl k6)] S = some (.rt (.bl true), S) := by
  have e1 := repr_k6 (S := S)
  have t6 : ∀ {x1 x2 x3 x4 x5 x6 : D}, cLst false [x1, x2, x3, x4, x5, x6] S = some (.vl [x1, x2, x3, x4, x5, x6], S) := rfl
  unfold k6 at e1
  unfold l5 k6
  simp only [r_sRet, r_eBin, r_eCall, r_aCons, r_aNil, r_eC, r_eVar, t_tup2, t_lst2, r_mkV, t6, e1, eqs_self, List.getElem?_cons_zero, List.getElem?_cons_succ, Bool.not_false]
end
theorem scr (ns : List Int) (_ : ns.length ≤ 63) : Scr (c_law 10000) ns := by
  intro d S h
  have hf : 10000 ≤ 10000 := Nat.le_refl _
  obtain ⟨tv, T, s1⟩ := lp1 hf h
  have hu : u_law 10000 [d] S = some (.bl true, S ++ T) := by
    unfold u_law
    rw [b_law_is]
    refine fn_eq (np := 1) (nn := 4) (ds := [d]) rfl ?_
    exact (cons_eq (f := l1 10000) (g := lt2 10000) s1).trans <| (cons_eq (f := l2 10000) (g := lt3 10000) lp2).trans <| (cons_eq (f := l3 10000) (g := lt4 10000) (lp3 hf)).trans <| (cons_eq (f := l4 10000) (g := lt5 10000) (lp4 hf)).trans <| cons_rt (g := sNil) lp5
  refine ⟨S, ?_⟩
  unfold c_law
  rw [r_sealed, hu]
  exact shut_app nr_bl
end K16
open PySem PySem.W PyProof.Rows
set_option maxRecDepth 100000 in
set_option maxHeartbeats 0 in
theorem PySem.Challenge.cw_stillranges_k16_rows_and_tables_within_j_holds : PySem.Challenge.rw_stillranges_k16_rows_and_tables_within_j.Holds := by
  w_on; o_law; k_head; (case hw => w_witness2)
  k_fill
  refine Lv.end_g (l := PySem.Challenge.rw_stillranges_k16_rows_and_tables_within_j) (n := 63) (k := 43) (x := "script") (g := K16.c_law 10000) rfl (by decide) rfl ⟨rfl, by decide, by decide⟩ (fun w h Y => PySem.W.kIn_of Y) ?F K16.scr
  case F =>
    intro w mg fa h KX G hmg
    refine' K16.all_mk KX G hmg ?a0 ?l0 ?c0 ?k0 ?a1 ?l1 ?c1 ?k1 ?a2 ?l2 ?c2 ?k2 ?a3 ?l3 ?c3 ?k3 ?a4 ?l4 ?c4 ?k4 ?a5 ?l5 ?c5 ?k5 ?a6 ?l6 ?c6 ?k6 ?a7 ?l7 ?c7 ?k7 ?a8 ?l8 ?c8 ?k8 ?a9 ?l9 ?c9 ?k9 ?a10 ?l10 ?c10 ?k10 ?a11 ?l11 ?c11 ?k11 ?a12 ?l12 ?c12 ?k12 ?a13 ?l13 ?c13 ?k13 ?a14 ?l14 ?c14 ?k14 ?a15 ?l15 ?c15 ?k15 ?a16 ?l16 ?c16 ?k16 ?a17 ?l17 ?c17 ?k17 ?a18 ?l18 ?c18 ?k18 ?a19 ?l19 ?c19 ?k19 ?a20 ?l20 ?c20 ?k20 ?a21 ?l21 ?c21 ?k21 ?a22 ?l22 ?c22 ?k22 ?a23 ?l23 ?c23 ?k23 ?a24 ?l24 ?c24 ?k24 ?a25 ?l25 ?c25 ?k25 ?a26 ?l26 ?c26 ?k26 ?a27 ?l27 ?c27 ?k27 ?a28 ?l28 ?c28 ?k28 ?a29 ?l29 ?c29 ?k29 ?a30 ?l30 ?c30 ?k30 ?a31 ?l31 ?c31 ?k31 ?a32 ?l32 ?c32 ?k32 ?a33 ?l33 ?c33 ?k33 ?a34 ?l34 ?c34 ?k34 ?a35 ?l35 ?c35 ?k35 ?a36 ?l36 ?c36 ?k36 ?a37 ?l37 ?c37 ?k37 ?a38 ?l38 ?c38 ?k38 ?a39 ?l39 ?c39 ?k39 ?a40 ?l40 ?c40 ?k40 ?a41 ?l41 ?c41 ?k41 ?a42 ?l42 ?c42 ?k42 ?a43 ?l43 ?c43 ?k43 ?a44 ?l44 ?c44 ?k44 ?a45 ?l45 ?c45 ?k45 ?a46 ?l46 ?c46 ?k46 ?a47 ?l47 ?c47 ?k47 ?a48 ?l48 ?c48 ?k48 ?a49 ?l49 ?c49 ?k49 ?a50 ?l50 ?c50 ?k50 ?a51 ?l51 ?c51 ?k51 ?a52 ?l52 ?c52 ?k52 ?a53 ?l53 ?c53 ?k53 ?a54 ?l54 ?c54 ?k54 ?a55 ?l55 ?c55 ?k55 ?a56 ?l56 ?c56 ?k56 ?z_all ?z_bool ?z_int ?z_isinstance ?z_len ?z_list ?z_max ?z_min ?z_range ?z_repr ?z_sorted ?z_str ?z_sum ?z_tuple ?z_zip ?t0 ?tl0 ?to0 ?tk0 ?te0 ?t1 ?tl1 ?tk1
    (case a0 => k_is)
    (case l0 => k_is)
    (case c0 => k_is)
    (case k0 => k_is)
    (case a1 => k_is)
    (case l1 => k_is)
    (case c1 => k_is)
    (case k1 => k_is)
    (case a2 => k_is)
    (case l2 => k_is)
    (case c2 => k_is)
    (case k2 => k_is)
    (case a3 => k_is)
    (case l3 => k_is)
    (case c3 => k_is)
    (case k3 => k_is)
    (case a4 => k_is)
    (case l4 => k_is)
    (case c4 => k_is)
    (case k4 => k_is)
    (case a5 => k_is)
    (case l5 => k_is)
    (case c5 => k_is)
    (case k5 => k_is)
    (case a6 => k_is)
    (case l6 => k_is)
    (case c6 => k_is)
    (case k6 => k_is)
    (case a7 => k_is)
    (case l7 => k_is)
    (case c7 => k_is)
    (case k7 => k_is)
    (case a8 => k_is)
    (case l8 => k_is)
    (case c8 => k_is)
    (case k8 => k_is)
    (case a9 => k_is)
    (case l9 => k_is)
    (case c9 => k_is)
    (case k9 => k_is)
    (case a10 => k_is)
    (case l10 => k_is)
    (case c10 => k_is)
    (case k10 => k_is)
    (case a11 => k_is)
    (case l11 => k_is)
    (case c11 => k_is)
    (case k11 => k_is)
    (case a12 => k_is)
    (case l12 => k_is)
    (case c12 => k_is)
    (case k12 => k_is)
    (case a13 => k_is)
    (case l13 => k_is)
    (case c13 => k_is)
    (case k13 => k_is)
    (case a14 => k_is)
    (case l14 => k_is)
    (case c14 => k_is)
    (case k14 => k_is)
    (case a15 => k_is)
    (case l15 => k_is)
    (case c15 => k_is)
    (case k15 => k_is)
    (case a16 => k_is)
    (case l16 => k_is)
    (case c16 => k_is)
    (case k16 => k_is)
    (case a17 => k_is)
    (case l17 => k_is)
    (case c17 => k_is)
    (case k17 => k_is)
    (case a18 => k_is)
    (case l18 => k_is)
    (case c18 => k_is)
    (case k18 => k_is)
    (case a19 => k_is)
    (case l19 => k_is)
    (case c19 => k_is)
    (case k19 => k_is)
    (case a20 => k_is)
    (case l20 => k_is)
    (case c20 => k_is)
    (case k20 => k_is)
    (case a21 => k_is)
    (case l21 => k_is)
    (case c21 => k_is)
    (case k21 => k_is)
    (case a22 => k_is)
    (case l22 => k_is)
    (case c22 => k_is)
    (case k22 => k_is)
    (case a23 => k_is)
    (case l23 => k_is)
    (case c23 => k_is)
    (case k23 => k_is)
    (case a24 => k_is)
    (case l24 => k_is)
    (case c24 => k_is)
    (case k24 => k_is)
    (case a25 => k_is)
    (case l25 => k_is)
    (case c25 => k_is)
    (case k25 => k_is)
    (case a26 => k_is)
    (case l26 => k_is)
    (case c26 => k_is)
    (case k26 => k_is)
    (case a27 => k_is)
    (case l27 => k_is)
    (case c27 => k_is)
    (case k27 => k_is)
    (case a28 => k_is)
    (case l28 => k_is)
    (case c28 => k_is)
    (case k28 => k_is)
    (case a29 => k_is)
    (case l29 => k_is)
    (case c29 => k_is)
    (case k29 => k_is)
    (case a30 => k_is)
    (case l30 => k_is)
    (case c30 => k_is)
    (case k30 => k_is)
    (case a31 => k_is)
    (case l31 => k_is)
    (case c31 => k_is)
    (case k31 => k_is)
    (case a32 => k_is)
    (case l32 => k_is)
    (case c32 => k_is)
    (case k32 => k_is)
    (case a33 => k_is)
    (case l33 => k_is)
    (case c33 => k_is)
    (case k33 => k_is)
    (case a34 => k_is)
    (case l34 => k_is)
    (case c34 => k_is)
    (case k34 => k_is)
    (case a35 => k_is)
    (case l35 => k_is)
    (case c35 => k_is)
    (case k35 => k_is)
    (case a36 => k_is)
    (case l36 => k_is)
    (case c36 => k_is)
    (case k36 => k_is)
    (case a37 => k_is)
    (case l37 => k_is)
    (case c37 => k_is)
    (case k37 => k_is)
    (case a38 => k_is)
    (case l38 => k_is)
    (case c38 => k_is)
    (case k38 => k_is)
    (case a39 => k_is)
    (case l39 => k_is)
    (case c39 => k_is)
    (case k39 => k_is)
    (case a40 => k_is)
    (case l40 => k_is)
    (case c40 => k_is)
    (case k40 => k_is)
    (case a41 => k_is)
    (case l41 => k_is)
    (case c41 => k_is)
    (case k41 => k_is)
    (case a42 => k_is)
    (case l42 => k_is)
    (case c42 => k_is)
    (case k42 => k_is)
    (case a43 => k_is)
    (case l43 => k_is)
    (case c43 => k_is)
    (case k43 => k_is)
    (case a44 => k_is)
    (case l44 => k_is)
    (case c44 => k_is)
    (case k44 => k_is)
    (case a45 => k_is)
    (case l45 => k_is)
    (case c45 => k_is)
    (case k45 => k_is)
    (case a46 => k_is)
    (case l46 => k_is)
    (case c46 => k_is)
    (case k46 => k_is)
    (case a47 => k_is)
    (case l47 => k_is)
    (case c47 => k_is)
    (case k47 => k_is)
    (case a48 => k_is)
    (case l48 => k_is)
    (case c48 => k_is)
    (case k48 => k_is)
    (case a49 => k_is)
    (case l49 => k_is)
    (case c49 => k_is)
    (case k49 => k_is)
    (case a50 => k_is)
    (case l50 => k_is)
    (case c50 => k_is)
    (case k50 => k_is)
    (case a51 => k_is)
    (case l51 => k_is)
    (case c51 => k_is)
    (case k51 => k_is)
    (case a52 => k_is)
    (case l52 => k_is)
    (case c52 => k_is)
    (case k52 => k_is)
    (case a53 => k_is)
    (case l53 => k_is)
    (case c53 => k_is)
    (case k53 => k_is)
    (case a54 => k_is)
    (case l54 => k_is)
    (case c54 => k_is)
    (case k54 => k_is)
    (case a55 => k_is)
    (case l55 => k_is)
    (case c55 => k_is)
    (case k55 => k_is)
    (case a56 => k_is)
    (case l56 => k_is)
    (case c56 => k_is)
    (case k56 => k_is)
    (case z_all => k_is)
    (case z_bool => k_is)
    (case z_int => k_is)
    (case z_isinstance => k_is)
    (case z_len => k_is)
    (case z_list => k_is)
    (case z_max => k_is)
    (case z_min => k_is)
    (case z_range => k_is)
    (case z_repr => k_is)
    (case z_sorted => k_is)
    (case z_str => k_is)
    (case z_sum => k_is)
    (case z_tuple => k_is)
    (case z_zip => k_is)
    (case t0 => k_is)
    (case tl0 => k_is)
    (case to0 => rfl)
    (case tk0 => repeat' first | exact trivial | refine ⟨⟨_, _, rfl, rfl⟩, ?_⟩)
    (case te0 => rfl)
    (case t1 => k_is)
    (case tl1 => k_is)
    (case tk1 => exact ⟨rfl, _, _, rfl, by decide, rfl⟩)
