import PyProof.Rows.All
import Wide.All
import OpenK.AllK
import Wide.FinOn
import HandS.ForMost
import HandS.Wide
import HandS.Lambda
import HandS.TupMul
import HandS.TupAny
import HandS.WideBits
import HandS.SetFor
import HandS.Gcd
import HandS.IsInst
import KE.KTupSum
import HandS.Zip
import KE.GoesMore
import KE.KMathGC
import HandS.Style
import HandS.Conv
import KE.SortData
import KE.SortKeyHeap
import KE.KRevSl
import PyProof.Rows.TupMore
import HandS.SortKw
import HandS.EndTab
import PySem.Challenge.RW_facenumbers_k10_expansions_and_what_is_m
set_option Elab.async false
set_option linter.all false
set_option maxRecDepth 100000
set_option maxHeartbeats 4000000
set_option maxHeartbeats 1000000
/-! EvA: values and stores as plain data; how they stand in the hand layer's heap; readings by denotations. -/
namespace Ev
open PySem PySem.Spec PyProof.Rows L2

/-- a value as plain data; ref i: the i-th object of the store; fzl: a list that nobody writes; adr a: an object of the written part -/
inductive D where
  | non | bl (b : Bool) | int (i : Int) | str (x : Str) | ty (n : String) | adr (a : Addr) | tup (ds : List D) | fzl (ds : List D) | ref (i : Nat)
/-- an object of the store -/
inductive O where
  | lst (ds : List D)
  | tab (P : Addr) (q : Str)
abbrev Sto := List O
abbrev Rho := List (Option D)

/-- neither a tuple nor locked -/
def wr : HO → Bool
  | .tup _ => false
  | .frz _ _ => false
  | _ => true
section rel
variable (K : PySem.W.Frag)
/-- a list at a that nobody writes -/
def Fz (H : Hp) (a : Addr) (xs : List V) : Prop :=
  (∃ o, H a = some (.frz o (.lst xs))) ∨
    ∃ (o : Obj) (its : Array Value) (n : Nat), K.lookup a = some o ∧ o.cls = .type "list" ∧ o.dict = none ∧ o.data = .seq its n ∧ its.size ≤ sizeLine ∧ Vals xs its.toList
/-- no table at a -/
def NT (H : Hp) (a : Addr) : Prop := ∀ ps, H a ≠ some (.tbl ps)
theorem nt_upd {H : Hp} {a p : Addr} {o : HO} (h : NT H a) (n : ∀ ps, o ≠ .tbl ps) : NT (upd H p o) a := by
  intro ps z
  by_cases e : a = p
  · subst e
    rw [upd_same] at z
    exact n ps (Option.some.inj z)
  · rw [upd_ne e] at z
    exact h ps z
mutual
inductive Rl (H : Hp) (φ : List Addr) : V → D → Prop
  | non : Rl H φ .non .non
  | bl (b : Bool) : Rl H φ (.bl b) (.bl b)
  | int (i : Int) : Rl H φ (.int i) (.int i)
  | str (x : Str) : Rl H φ (.str x) (.str x)
  | ty (n : String) : Rl H φ (.ty n) (.ty n)
  | adr (a : Addr) : Rl H φ (.ref a) (.adr a)
  | tup {a : Addr} {vs : List V} {ds : List D} : SqT K H a vs → Rls H φ vs ds → Rl H φ (.ref a) (.tup ds)
  | fzl {a : Addr} {vs : List V} {ds : List D} : Fz K H a vs → Rls H φ vs ds → Rl H φ (.ref a) (.fzl ds)
  | ref {a : Addr} {i : Nat} : φ[i]? = some a → NT H a → Rl H φ (.ref a) (.ref i)
inductive Rls (H : Hp) (φ : List Addr) : List V → List D → Prop
  | nil : Rls H φ [] []
  | cons {v : V} {d : D} {vs : List V} {ds : List D} : Rl H φ v d → Rls H φ vs ds → Rls H φ (v :: vs) (d :: ds)
end
/-- what is kept and what is new -/
structure Ex (H : Hp) (φ : List Addr) (H' : Hp) (φ' : List Addr) : Prop where
  pre : ∃ m, φ' = φ ++ m ∧ ∀ b ∈ m, b ∉ φ ∧ H b = none
  tup : ∀ a vs, SqT K H a vs → SqT K H' a vs
  fz : ∀ a vs, Fz K H a vs → Fz K H' a vs
  oth : ∀ b o, H b = some o → b ∉ φ → H' b = some o
  nt : ∀ b, b ∈ φ → NT H b → NT H' b
def RO (H : Hp) (φ : List Addr) (a : Addr) : O → Prop
  | .lst ds => ∃ vs, H a = some (.lst vs) ∧ Rls K H φ vs ds
  | .tab P q => a = P ∧ LamX.TabS H P q
structure RS (H : Hp) (φ : List Addr) (S : Sto) : Prop where
  len : φ.length = S.length
  nd : φ.Nodup
  ob : ∀ (i : Nat) (a : Addr) (o : O), φ[i]? = some a → S[i]? = some o → RO K H φ a o
structure RE (H : Hp) (φ : List Addr) (σ : L2.St) (ρ : Rho) : Prop where
  len : σ.length = ρ.length
  vl : ∀ (i : Nat) (d : D), ρ[i]? = some (some d) → ∃ v, σ[i]? = some (some v) ∧ Rl K H φ v d
end rel

section
variable {K : PySem.W.Frag} {H H' H1 : Hp} {φ φ' φ1 : List Addr} {S S' : Sto} {σ : L2.St} {ρ : Rho}
theorem Ex.refl : Ex K H φ H φ := ⟨⟨[], by simp, by simp⟩, fun _ _ h => h, fun _ _ h => h, fun _ _ h _ => h, fun _ _ h => h⟩
theorem Ex.ix (e : Ex K H φ H' φ') {i : Nat} {a : Addr} (h : φ[i]? = some a) : φ'[i]? = some a := by
  obtain ⟨m, rfl, _⟩ := e.pre
  rw [List.getElem?_append_left (List.getElem?_eq_some_iff.mp h).1]
  exact h
theorem Ex.out (e : Ex K H φ H' φ') {b : Addr} {o : HO} (h : H b = some o) (n : b ∉ φ) : b ∉ φ' := by
  obtain ⟨m, rfl, hm⟩ := e.pre
  intro hb
  rcases List.mem_append.mp hb with hb | hb
  · exact n hb
  · rw [(hm b hb).2] at h; cases h
theorem Ex.trans (e : Ex K H φ H1 φ1) (e' : Ex K H1 φ1 H' φ') : Ex K H φ H' φ' := by
  obtain ⟨m, hm, hn⟩ := e.pre
  obtain ⟨m', hm', hn'⟩ := e'.pre
  refine ⟨⟨m ++ m', by rw [hm', hm, List.append_assoc], fun b hb => ?_⟩, fun a vs h => e'.tup _ _ (e.tup _ _ h), fun a vs h => e'.fz _ _ (e.fz _ _ h), fun b o h n => e'.oth b o (e.oth b o h n) (e.out h n), fun b hb h => e'.nt b (by rw [hm]; exact List.mem_append_left _ hb) (e.nt b hb h)⟩
  rcases List.mem_append.mp hb with hb | hb
  · exact hn b hb
  · obtain ⟨n1, n2⟩ := hn' b hb
    have n3 : b ∉ φ := fun z => n1 (by rw [hm]; exact List.mem_append_left _ z)
    refine ⟨n3, ?_⟩
    cases q : H b with
    | none => rfl
    | some o =>
      have := e.oth b o q n3
      rw [n2] at this; cases this
theorem Fz.sq {a : Addr} {xs : List V} (h : Fz K H a xs) : SqL K H a xs := by
  rcases h with ⟨o, h⟩ | h
  · exact .inl (.inr ⟨o, h⟩)
  · exact .inr h
section
variable (ht : ∀ a vs, SqT K H a vs → SqT K H' a vs) (hf : ∀ a vs, Fz K H a vs → Fz K H' a vs) (hi : ∀ (i : Nat) (a : Addr), φ[i]? = some a → φ'[i]? = some a) (hn : ∀ b, b ∈ φ → NT H b → NT H' b)
include ht hf hi hn
mutual
theorem Rl.to : ∀ (d : D) (v : V), Rl K H φ v d → Rl K H' φ' v d
  | .non, _, h => by cases h; exact .non
  | .bl _, _, h => by cases h; exact .bl _
  | .int _, _, h => by cases h; exact .int _
  | .str _, _, h => by cases h; exact .str _
  | .ty _, _, h => by cases h; exact .ty _
  | .adr _, _, h => by cases h; exact .adr _
  | .tup ds, _, h => by
    cases h with
    | tup h1 h2 => exact .tup (ht _ _ h1) (Rls.to ds _ h2)
  | .fzl ds, _, h => by
    cases h with
    | fzl h1 h2 => exact .fzl (hf _ _ h1) (Rls.to ds _ h2)
  | .ref _, _, h => by
    cases h with
    | ref h1 h2 => exact .ref (hi _ _ h1) (hn _ (List.mem_of_getElem? h1) h2)
theorem Rls.to : ∀ (ds : List D) (vs : List V), Rls K H φ vs ds → Rls K H' φ' vs ds
  | [], _, h => by cases h; exact .nil
  | d :: ds, _, h => by
    cases h with
    | cons h1 h2 => exact .cons (Rl.to d _ h1) (Rls.to ds _ h2)
end
end
theorem Rl.mono (e : Ex K H φ H' φ') (d : D) (v : V) (h : Rl K H φ v d) : Rl K H' φ' v d := Rl.to e.tup e.fz (fun _ _ h => e.ix h) e.nt d v h
theorem Rls.mono (e : Ex K H φ H' φ') (ds : List D) (vs : List V) (h : Rls K H φ vs ds) : Rls K H' φ' vs ds := Rls.to e.tup e.fz (fun _ _ h => e.ix h) e.nt ds vs h
theorem Rls.len : ∀ {vs : List V} {ds : List D}, Rls K H φ vs ds → vs.length = ds.length
  | _, [], h => by cases h; rfl
  | _, d :: ds, h => by
    cases h with
    | cons h1 h2 => simp [Rls.len h2]
theorem Rls.get : ∀ {vs : List V} {ds : List D} (i : Nat) {d : D}, Rls K H φ vs ds → ds[i]? = some d → ∃ v, vs[i]? = some v ∧ Rl K H φ v d
  | _, [], _, _, h, q => by simp at q
  | _, d :: ds, 0, _, h, q => by
    cases h with
    | cons h1 h2 => simp at q; subst q; exact ⟨_, rfl, h1⟩
  | _, d :: ds, i + 1, _, h, q => by
    cases h with
    | cons h1 h2 => simpa using Rls.get i h2 (by simpa using q)
theorem Rls.app : ∀ {vs ws : List V} {ds es : List D}, Rls K H φ vs ds → Rls K H φ ws es → Rls K H φ (vs ++ ws) (ds ++ es)
  | _, _, [], _, h, g => by cases h; exact g
  | _, _, d :: ds, _, h, g => by
    cases h with
    | cons h1 h2 => exact .cons h1 (Rls.app h2 g)
theorem Rls.one {v : V} {d : D} (h : Rl K H φ v d) : Rls K H φ [v] [d] := .cons h .nil
theorem Rls.set : ∀ {vs : List V} {ds : List D} (i : Nat) {v : V} {d : D}, Rls K H φ vs ds → Rl K H φ v d → Rls K H φ (vs.set i v) (ds.set i d)
  | _, [], _, _, _, h, _ => by cases h; exact .nil
  | _, d :: ds, 0, _, _, h, g => by
    cases h with
    | cons h1 h2 => exact .cons g h2
  | _, d :: ds, i + 1, _, _, h, g => by
    cases h with
    | cons h1 h2 => exact .cons h1 (Rls.set i h2 g)
theorem Rls.take : ∀ {vs : List V} {ds : List D} (n : Nat), Rls K H φ vs ds → Rls K H φ (vs.take n) (ds.take n)
  | _, [], n, h => by cases h; simp; exact .nil
  | _, d :: ds, 0, h => by simp; exact .nil
  | _, d :: ds, n + 1, h => by
    cases h with
    | cons h1 h2 => exact .cons h1 (Rls.take n h2)
theorem Rls.drop : ∀ {vs : List V} {ds : List D} (n : Nat), Rls K H φ vs ds → Rls K H φ (vs.drop n) (ds.drop n)
  | _, [], n, h => by cases h; simp; exact .nil
  | _, d :: ds, 0, h => h
  | _, d :: ds, n + 1, h => by
    cases h with
    | cons h1 h2 => exact Rls.drop n h2
theorem Rls.erase : ∀ {vs : List V} {ds : List D} (i : Nat), Rls K H φ vs ds → Rls K H φ (vs.eraseIdx i) (ds.eraseIdx i)
  | _, [], _, h => by cases h; exact .nil
  | _, d :: ds, 0, h => by
    cases h with
    | cons h1 h2 => exact h2
  | _, d :: ds, i + 1, h => by
    cases h with
    | cons h1 h2 => exact .cons h1 (Rls.erase i h2)
theorem Rls.ints : ∀ {vs : List V} {ns : List Int}, Rls K H φ vs (ns.map .int) → vs = ns.map .int
  | _, [], h => by cases h; rfl
  | _, n :: ns, h => by
    cases h with
    | cons h1 h2 => cases h1; rw [Rls.ints h2]; rfl
theorem Rls.of_ints : ∀ (ns : List Int), Rls K H φ (ns.map .int) (ns.map .int)
  | [] => .nil
  | n :: ns => .cons (.int n) (Rls.of_ints ns)
theorem RS.mem (r : RS K H φ S) {a : Addr} (h : a ∈ φ) : ∃ o, H a = some o ∧ wr o = true := by
  obtain ⟨i, hi⟩ := List.getElem?_of_mem h
  have hl : i < S.length := by rw [← r.len]; exact (List.getElem?_eq_some_iff.mp hi).1
  have := r.ob i a S[i] hi (List.getElem?_eq_getElem hl)
  cases q : S[i] with
  | lst ds =>
    rw [q] at this
    obtain ⟨vs, h1, _⟩ := this
    exact ⟨_, h1, rfl⟩
  | tab P q2 =>
    rw [q] at this
    obtain ⟨rfl, ps, h1, _⟩ := this
    exact ⟨_, h1, rfl⟩
/-- what stands at the store's places: no code object -/
theorem RS.noCode (r : RS K H φ S) {a c : Addr} {q : Str} (h : a ∈ φ) : H a ≠ some (LamX.CodeO c q) := by
  obtain ⟨i, hi⟩ := List.getElem?_of_mem h
  have hl : i < S.length := by rw [← r.len]; exact (List.getElem?_eq_some_iff.mp hi).1
  have := r.ob i a S[i] hi (List.getElem?_eq_getElem hl)
  intro z
  cases q2 : S[i] with
  | lst ds =>
    rw [q2] at this
    obtain ⟨vs, h1, _⟩ := this
    rw [z] at h1
    unfold LamX.CodeO at h1
    cases h1
  | tab P q3 =>
    rw [q2] at this
    obtain ⟨rfl, ps, h1, _⟩ := this
    rw [z] at h1
    unfold LamX.CodeO at h1
    cases h1
theorem tab_to {P : Addr} {q : Str} (t : LamX.TabS H P q) (h1 : H' P = H P) (h2 : ∀ c, H c = some (LamX.CodeO c q) → H' c = some (LamX.CodeO c q)) : LamX.TabS H' P q := by
  obtain ⟨ps, e1, e2, e3⟩ := t
  refine ⟨ps, h1.trans e1, e2, fun pos cv hc => ?_⟩
  obtain ⟨c, e4, e5⟩ := e3 pos cv hc
  exact ⟨c, e4, h2 c e5⟩
theorem RS.fresh (r : RS K H φ S) {p : Addr} (n : H p = none) : p ∉ φ := fun h => by
  obtain ⟨vs, q, _⟩ := r.mem h
  rw [n] at q; cases q
theorem RS.mono (r : RS K H φ S) (e : Ex K H φ H' φ) (k : ∀ a ∈ φ, H' a = H a) : RS K H' φ S := by
  refine ⟨r.len, r.nd, fun i a o h1 h2 => ?_⟩
  have q := r.ob i a o h1 h2
  cases o with
  | lst ds =>
    obtain ⟨vs, e1, e2⟩ := q
    exact ⟨vs, by rw [k a (List.mem_of_getElem? h1)]; exact e1, Rls.mono e _ _ e2⟩
  | tab P q2 =>
    obtain ⟨rfl, t⟩ := q
    refine ⟨rfl, tab_to t (k a (List.mem_of_getElem? h1)) fun c hc => ?_⟩
    by_cases hm : c ∈ φ
    · rw [k c hm]; exact hc
    · exact e.oth c _ hc hm
theorem RE.mono (r : RE K H φ σ ρ) (e : Ex K H φ H' φ') : RE K H' φ' σ ρ :=
  ⟨r.len, fun i d h => let ⟨v, h1, h2⟩ := r.vl i d h; ⟨v, h1, Rl.mono e _ _ h2⟩⟩
theorem RE.set (r : RE K H φ σ ρ) (i : Nat) {v : V} {d : D} (h : Rl K H φ v d) : RE K H φ (σ.set i (some v)) (ρ.set i (some d)) := by
  refine ⟨by simp [r.len], fun j e q => ?_⟩
  by_cases hj : i = j
  · subst hj
    have hl : i < ρ.length := by
      have := (List.getElem?_eq_some_iff.mp q).1
      simpa using this
    rw [List.getElem?_set_self hl] at q
    cases q
    exact ⟨v, List.getElem?_set_self (by rw [r.len]; exact hl), h⟩
  · rw [List.getElem?_set_ne hj] at q
    rw [List.getElem?_set_ne hj]
    exact r.vl j e q
theorem RE.clear (r : RE K H φ σ ρ) (i : Nat) : RE K H φ (σ.set i none) (ρ.set i none) := by
  refine ⟨by simp [r.len], fun j e q => ?_⟩
  by_cases hj : i = j
  · subst hj
    have hl : i < ρ.length := by
      have := (List.getElem?_eq_some_iff.mp q).1
      simpa using this
    rw [List.getElem?_set_self hl] at q
    cases q
  · rw [List.getElem?_set_ne hj] at q
    rw [List.getElem?_set_ne hj]
    exact r.vl j e q
/-- a tuple stays where another thing is laid or a list is written -/
theorem SqT.upd {a p : Addr} {vs : List V} {o : HO} (h : SqT K H a vs) (n : H p = none ∨ ∃ u, H p = some u ∧ wr u = true) : SqT K (upd H p o) a vs := by
  rcases h with (h | ⟨b, h⟩) | h
  · refine .inl (.inl ?_)
    rw [upd_ne]
    · exact h
    · rintro rfl
      rcases n with n | ⟨xs, n, k⟩ <;> · rw [n] at h; cases h; try cases k
  · refine .inl (.inr ⟨b, ?_⟩)
    rw [upd_ne]
    · exact h
    · rintro rfl
      rcases n with n | ⟨xs, n, k⟩ <;> · rw [n] at h; cases h; try cases k
  · exact .inr h
/-- .. and a list that nobody writes -/
theorem Fz.upd {a p : Addr} {vs : List V} {o : HO} (h : Fz K H a vs) (n : H p = none ∨ ∃ u, H p = some u ∧ wr u = true) : Fz K (upd H p o) a vs := by
  rcases h with ⟨b, h⟩ | h
  · refine .inl ⟨b, ?_⟩
    rw [upd_ne]
    · exact h
    · rintro rfl
      rcases n with n | ⟨xs, n, k⟩ <;> · rw [n] at h; cases h; try cases k
  · exact .inr h
/-- a new tuple -/
theorem ext_tup (r : RS K H φ S) {p : Addr} (n : H p = none) (vs : List V) : Ex K H φ (upd H p (.tup vs)) φ ∧ RS K (upd H p (.tup vs)) φ S := by
  have e : Ex K H φ (upd H p (.tup vs)) φ := ⟨⟨[], by simp, by simp⟩, fun a ws h => SqT.upd h (.inl n), fun a ws h => Fz.upd h (.inl n), fun b o h _ => by rw [upd_ne (ne_of_none h n)]; exact h, fun b _ h => nt_upd h fun ps z => nomatch z⟩
  refine ⟨e, r.mono e fun a ha => ?_⟩
  obtain ⟨ws, q, _⟩ := r.mem ha
  rw [upd_ne (ne_of_none q n)]
/-- a new list -/
theorem ext_lst (r : RS K H φ S) {p : Addr} (n : H p = none) {vs : List V} {ds : List D} (h : Rls K H φ vs ds) :
    Ex K H φ (upd H p (.lst vs)) (φ ++ [p]) ∧ RS K (upd H p (.lst vs)) (φ ++ [p]) (S ++ [.lst ds]) ∧ Rl K (upd H p (.lst vs)) (φ ++ [p]) (.ref p) (.ref S.length) := by
  have np : p ∉ φ := r.fresh n
  have e : Ex K H φ (upd H p (.lst vs)) (φ ++ [p]) := ⟨⟨[p], rfl, fun b hb => by
    have : b = p := by simpa using hb
    subst this; exact ⟨np, n⟩⟩, fun a ws h => SqT.upd h (.inl n), fun a ws h => Fz.upd h (.inl n), fun b o h _ => by rw [upd_ne (ne_of_none h n)]; exact h, fun b _ h => nt_upd h fun ps z => nomatch z⟩
  have hx : (φ ++ [p])[S.length]? = some p := by
    rw [← r.len, List.getElem?_append_right (Nat.le_refl _)]; simp
  refine ⟨e, ⟨by simp [r.len], ?_, fun i a o h1 h2 => ?_⟩, .ref hx (fun ps z => by rw [upd_same] at z; cases z)⟩
  · rw [List.nodup_append]
    refine ⟨r.nd, by simp, fun a ha b hb => ?_⟩
    have : b = p := by simpa using hb
    subst this
    rintro rfl
    exact np ha
  · by_cases hi : i < S.length
    · rw [List.getElem?_append_left hi] at h2
      rw [List.getElem?_append_left (by rw [r.len]; exact hi)] at h1
      have q := r.ob i a o h1 h2
      cases o with
      | lst es =>
        obtain ⟨ws, q1, q2⟩ := q
        exact ⟨ws, by rw [upd_ne (ne_of_none q1 n)]; exact q1, Rls.mono e _ _ q2⟩
      | tab P q2 =>
        obtain ⟨rfl, t⟩ := q
        exact ⟨rfl, t.ext fun b o hb => by rw [upd_ne (ne_of_none hb n)]; exact hb⟩
    · have hi2 : i = S.length := by
        have := (List.getElem?_eq_some_iff.mp h2).1
        simp at this
        omega
      subst hi2
      rw [hx] at h1
      cases h1
      rw [List.getElem?_append_right (Nat.le_refl _)] at h2
      simp at h2
      subst h2
      exact ⟨vs, upd_same, Rls.mono e _ _ h⟩
/-- a list of the store is written -/
theorem ext_set (r : RS K H φ S) {i : Nat} {p : Addr} (hi : φ[i]? = some p) {vs : List V} {ds : List D} (h : Rls K H φ vs ds) :
    Ex K H φ (upd H p (.lst vs)) φ ∧ RS K (upd H p (.lst vs)) φ (S.set i (.lst ds)) := by
  have hp := r.mem (List.mem_of_getElem? hi)
  have e : Ex K H φ (upd H p (.lst vs)) φ := ⟨⟨[], by simp, by simp⟩, fun a ws' h' => SqT.upd h' (.inr hp), fun a ws' h' => Fz.upd h' (.inr hp), fun b o h' nb => by
    rw [upd_ne]
    · exact h'
    · rintro rfl; exact nb (List.mem_of_getElem? hi), fun b _ h => nt_upd h fun ps z => nomatch z⟩
  refine ⟨e, ⟨by simp [r.len], r.nd, fun j a o h1 h2 => ?_⟩⟩
  by_cases hj : i = j
  · subst hj
    rw [hi] at h1
    cases h1
    have hl : i < S.length := by rw [← r.len]; exact (List.getElem?_eq_some_iff.mp hi).1
    rw [List.getElem?_set_self hl] at h2
    cases h2
    exact ⟨vs, upd_same, Rls.mono e _ _ h⟩
  · rw [List.getElem?_set_ne hj] at h2
    have q := r.ob j a o h1 h2
    cases o with
    | lst es =>
      obtain ⟨ws', q1, q2⟩ := q
      refine ⟨ws', ?_, Rls.mono e _ _ q2⟩
      rw [upd_ne]
      · exact q1
      · rintro rfl
        exact hj (by
          obtain ⟨l1, e1⟩ := List.getElem?_eq_some_iff.mp hi
          obtain ⟨l2, e2⟩ := List.getElem?_eq_some_iff.mp h1
          exact (List.getElem_inj r.nd).mp (e1.trans e2.symm))
    | tab P q2 =>
      obtain ⟨rfl, t⟩ := q
      refine ⟨rfl, tab_to t ?_ fun c hc => ?_⟩
      · rw [upd_ne]
        rintro rfl
        exact hj (by
          obtain ⟨l1, e1⟩ := List.getElem?_eq_some_iff.mp hi
          obtain ⟨l2, e2⟩ := List.getElem?_eq_some_iff.mp h1
          exact (List.getElem_inj r.nd).mp (e1.trans e2.symm))
      · rw [upd_ne]
        · exact hc
        · rintro rfl
          exact r.noCode (List.mem_of_getElem? hi) hc
/-- a value that refers to the store is a list -/
theorem RS.isList (r : RS K H φ S) {i : Nat} {v : V} (h : Rl K H φ v (.ref i)) : ∃ ds, S[i]? = some (.lst ds) := by
  cases h with
  | ref hi hn =>
    have hl : i < S.length := by rw [← r.len]; exact (List.getElem?_eq_some_iff.mp hi).1
    cases hq : S[i] with
    | lst ds => exact ⟨ds, (List.getElem?_eq_getElem hl).trans (congrArg some hq)⟩
    | tab P q =>
      obtain ⟨rfl, ps, h1, _⟩ := r.ob i _ _ hi ((List.getElem?_eq_getElem hl).trans (congrArg some hq))
      exact (hn ps h1).elim
theorem RS.list (r : RS K H φ S) {i : Nat} {v : V} {ds : List D} (h : Rl K H φ v (.ref i)) (hs : S[i]? = some (.lst ds)) : ∃ a vs, v = .ref a ∧ φ[i]? = some a ∧ H a = some (.lst vs) ∧ Rls K H φ vs ds := by
  cases h with
  | ref hi _ =>
    obtain ⟨vs, h1, h2⟩ := r.ob i _ _ hi hs
    exact ⟨_, vs, rfl, hi, h1, h2⟩
end
end Ev

set_option maxHeartbeats 1000000
/-! EvG: what a def keeps where nothing is being shown (no repr runs); a law's end over it. -/
namespace Ev
open PySem PySem.Spec PyProof.Rows L2

structure FnG (P : Program) (w : World) (K : PySem.W.Frag) (mg : Str → Option Value) (base : Heap) (k : Nat) (f : Addr) (fd : FuncData) (ps : List Str) (sp : Sp) : Prop where
  len : ∀ vs H Q E, sp vs H Q E → vs.length = ps.length
  run : ∀ (A : Around) (outer : List Env) (s : Shared) (H : Hp) (args : Args) (us : List Value) (vs : List V) (Q : VK), A.guards = some [] → Room k A → Env0 P w K mg base A outer s H →
    BindsTo s fd args (ps.zip us) → Vals vs us → sp vs H Q (fun _ _ _ => False) → codeAny (model P w) A (.call (.ref f) args) (CR CX0 outer P w H s Q fun _ _ _ => False) s
section
variable {P : Program} {w : World} {K : PySem.W.Frag} {mg : Str → Option Value} {base : Heap}
theorem FnG.mono {j k : Nat} {f : Addr} {fd : FuncData} {ps : List Str} {sp : Sp} (F : FnG P w K mg base j f fd ps sp) (h : j ≤ k) : FnG P w K mg base k f fd ps sp :=
  ⟨F.len, fun A outer s H args us vs Q hg hr => F.run A outer s H args us vs Q hg (hr.mono h)⟩
theorem FnG.imp {k : Nat} {f : Addr} {fd : FuncData} {ps : List Str} {sp sp' : Sp} (F : FnG P w K mg base k f fd ps sp) (h : ∀ vs H Q E, sp' vs H Q E → sp vs H Q E) : FnG P w K mg base k f fd ps sp' :=
  ⟨fun vs H Q E q => F.len vs H Q E (h _ _ _ _ q), fun A outer s H args us vs Q hg hr he hb hv hs => F.run A outer s H args us vs Q hg hr he hb hv (h _ _ _ _ hs)⟩
theorem FnG.ofOk {k : Nat} {f : Addr} {fd : FuncData} {ps : List Str} {sp : Sp} (F : FnOk P w K mg base CX0 k f fd ps sp) : FnG P w K mg base k f fd ps sp :=
  ⟨F.len, fun A outer s H args us vs Q _ hr he hb hv hs => F.run A outer s H args us vs Q _ hr he hb hv hs⟩
/-- a def by its body, walked where no repr runs -/
theorem FnG.of {x qual : Str} {st : Stmt} {f : Addr} {fd : FuncData} {N ps : List Str} {k : Nat} {sp : Sp} (F : Fun K x qual st f fd) (Sc : FnScope N ps (defScope st)) (len : ∀ vs H Q E, sp vs H Q E → vs.length = ps.length)
    (hbody : ∀ (cdv : Value) (A : Around) (outer : List Env) (s : Shared) (H : Hp) (vs : List V) (Q : VK), A.guards = some [] → Room k (A.deeper (envOfC qual (defScope st) s.heap.objs.size f cdv)) → sp vs H Q (fun _ _ _ => False) →
      ∃ t, PSs (cxOf CX0 P w K mg base N qual (defScope st) f cdv A outer s H fun _ _ _ => False).nox (defBody st) t ∧ t { nx := fun _ H' => Q .non H', rt := Q } (L2.start N vs) H) :
    FnG P w K mg base (k + 1) f fd ps sp := by
  obtain ⟨oc, od, kV, doc, pm, an, cdv, ct, osl, rfl, lk, hcd⟩ := F.ex
  refine ⟨len, ?_⟩
  intro A outer s H args us vs Q hg hr e0 hb rv hsp
  have lenV := len _ _ _ _ hsp
  have inK : K.In s.heap := e0.mod.kin.keeps fun b o q => (e0.bs b o q).1
  have limS : s.heap.NoLimit := e0.mod.nolimit.keeps fun b o q => (e0.bs b o q).1
  have kinds : ∀ y ∈ ps.zip us, (defScope st).names.lookup y.1 = some .local ∨ ((defScope st).names.lookup y.1 = some .cell ∧ ((cellsFrom (s.heap.objs.size + 1) (defScope st).names []).lookup y.1).isSome = true) := by
    rintro ⟨n, v⟩ hy
    cases Sc.par n (List.of_mem_zip hy).1 with
    | inl q => exact Or.inl q
    | inr q => exact Or.inr ⟨q, PySem.W.cellsFrom_some _ _ _ (Or.inl q)⟩
  refine codeAny_call_function hr.depth (inK _ _ lk) rfl Sc.co Sc.gen rfl (PySem.W.codeRec_of inK hcd) (hb _ _ _ _ (wpAny_newFunctionEnv_cells Sc.kind kinds ?_))
  intro env he s1 x
  subst he
  refine ⟨limS.keeps x.toInCall.keep, codeAny_func ?_⟩
  obtain ⟨t, ht, hq⟩ := hbody cdv A outer s H vs Q hg (hr.deeper _) hsp
  have I0 : Inv (cxOf CX0 P w K mg base N qual (defScope st) f cdv A outer s H fun _ _ _ => False) [] (L2.start N vs) H s1 := inv_start Sc hr.hd e0 lenV rv x
  refine wpAny_mono (ht.nox.run [] s1 (L2.start N vs) H _ I0 hq) ?_ fun e s' z => z
  intro fl s' z
  cases fl with
  | next =>
    obtain ⟨σ', H', J, q⟩ := z
    exact ⟨V.non, H', J.os, J.bare, J.base, J.hok, rfl, q⟩
  | ret u =>
    obtain ⟨v, σ', H', J, r1, q⟩ := z
    exact ⟨v, H', J.os, J.bare, J.base, J.hok, r1, q⟩
  | cont => exact z.elim fun _ q => q.elim fun _ q => (show False from q.2).elim
  | brk => exact z.elim fun _ q => q.elim fun _ q => (show False from q.2).elim
end
/-- the callee runs -/
theorem run_g {X : Cx} {k : Nat} {f : Addr} {fd : FuncData} {ps : List Str} {sp : Sp} {pins : List (Addr × Obj)} {σ : L2.St} {H : Hp} {s : Shared} {Q : VK} {args : Args} {us : List Value} {vs : List V} (F : FnG X.prog X.w X.K X.mg X.base k f fd ps sp) (hg : X.A.guards = some []) (hr : Room k X.A)
    (hb : BindsTo s fd args (ps.zip us)) (I : Inv X pins σ H s) (r : Vals vs us) (h : sp vs H Q fun _ _ _ => False) : wpAny (model X.prog X.w) X.A (PySem.call (.ref f) args.pos args.kw) (EP X pins σ Q) X.xe s := by
  refine wpAny_call (codeAny_mono (F.run X.A X.stack s H args us vs Q hg hr I.env0 hb r h) ?_)
  intro r s' z
  cases r with
  | error e => exact (show False from z).elim
  | ok fl =>
    cases fl with
    | ret u => exact I.after z
    | brk => exact z.elim
    | cont => exact z.elim
    | next => exact z.elim
end Ev

set_option maxHeartbeats 1000000
/-! EvB: expressions. -/
namespace Ev
open PySem PySem.Spec PyProof.Rows L2

abbrev DE := Rho → Sto → Option (D × Sto)
abbrev DT := Rho → Sto → Option (Bool × Sto)
abbrev DA := Rho → Sto → Option (List D × Sto)
abbrev D2 := D → D → Sto → Option (D × Sto)
abbrev D1 := D → Sto → Option (D × Sto)
abbrev DF := List D → Sto → Option (D × Sto)

/-- what is wanted of a value behind -/
def Wv (K : PySem.W.Frag) (H : Hp) (φ : List Addr) (d : D) (S : Sto) (Q : VK) : Prop := ∀ v H' φ', Ex K H φ H' φ' → RS K H' φ' S → Rl K H' φ' v d → Q v H'
def tD (K : PySem.W.Frag) (f : DE) : TE := fun σ H Q => ∃ φ ρ S d S', RE K H φ σ ρ ∧ RS K H φ S ∧ f ρ S = some (d, S') ∧ Wv K H φ d S' Q
def tT (K : PySem.W.Frag) (f : DT) : TT := fun σ H Q => ∃ φ ρ S b S', RE K H φ σ ρ ∧ RS K H φ S ∧ f ρ S = some (b, S') ∧ ∀ H' φ', Ex K H φ H' φ' → RS K H' φ' S' → Q b H'
def tA (K : PySem.W.Frag) (f : DA) : TA := fun σ H Q => ∃ φ ρ S ds S', RE K H φ σ ρ ∧ RS K H φ S ∧ f ρ S = some (ds, S') ∧ ∀ vs H' φ', Ex K H φ H' φ' → RS K H' φ' S' → Rls K H' φ' vs ds → Q vs H'
def r2D (K : PySem.W.Frag) (g : D2) : R2 := fun x y H Q => ∃ φ S a b d S', RS K H φ S ∧ Rl K H φ x a ∧ Rl K H φ y b ∧ g a b S = some (d, S') ∧ Wv K H φ d S' Q
def r1D (K : PySem.W.Frag) (g : D1) : V → Hp → VK → Prop := fun x H Q => ∃ φ S a d S', RS K H φ S ∧ Rl K H φ x a ∧ g a S = some (d, S') ∧ Wv K H φ d S' Q
def rFD (K : PySem.W.Frag) (g : DF) : List V → Hp → VK → Prop := fun xs H Q => ∃ φ S as d S', RS K H φ S ∧ Rls K H φ xs as ∧ g as S = some (d, S') ∧ Wv K H φ d S' Q

section
variable {X : Cx} {K : PySem.W.Frag} {H H' : Hp} {φ φ' : List Addr} {S S' : Sto} {σ : L2.St} {ρ : Rho} {e a b c : Expr} {es : List Expr} {pos : Pos}
theorem Wv.here {d : D} {Q : VK} (h : Wv K H φ d S Q) {v : V} (r : RS K H φ S) (l : Rl K H φ v d) : Q v H := h v H φ .refl r l
theorem Wv.mono {d : D} {Q : VK} (h : Wv K H φ d S' Q) (ex : Ex K H φ H' φ') : Wv K H' φ' d S' Q := fun v H2 φ2 e2 r l => h v H2 φ2 (ex.trans e2) r l
theorem PE.imp {t t' : TE} (h : PE X e t) (w : ∀ σ H Q, t' σ H Q → t σ H Q) : PE X e t' := ⟨fun pins s σ H Q I q => h.run pins s σ H Q I (w σ H Q q)⟩
theorem PT.imp {t t' : TT} (h : PT X e t) (w : ∀ σ H Q, t' σ H Q → t σ H Q) : PT X e t' := ⟨fun pins s σ H Q I q => h.run pins s σ H Q I (w σ H Q q)⟩
theorem PA.imp {t t' : TA} (h : PA X es t) (w : ∀ σ H Q, t' σ H Q → t σ H Q) : PA X es t' := ⟨fun pos pins s σ H Q I q => h.run pos pins s σ H Q I (w σ H Q q)⟩

/-! names, constants -/
def dV (i : Nat) : DE := fun ρ S => match ρ[i]? with | some (some d) => some (d, S) | _ => none
def dC (d : D) : DE := fun _ S => some (d, S)
theorem we_var {i : Nat} {x : Str} (h : PE X (.Name x pos) (tVar i)) : PE X (.Name x pos) (tD X.K (dV i)) := by
  refine PE.imp h fun σ H Q ⟨φ, ρ, S, d, S', re, rs, hd, w⟩ => ?_
  unfold dV at hd
  split at hd
  · rename_i d' hq
    cases hd
    obtain ⟨v, h1, h2⟩ := re.vl i d hq
    exact ⟨v, h1, w.here rs h2⟩
  · cases hd
theorem we_int {i : Int} {j} : PE X (.Constant (.int i) j pos) (tD X.K (dC (.int i))) :=
  PE.imp pe_int fun σ H Q ⟨φ, ρ, S, d, S', re, rs, hd, w⟩ => by cases hd; exact w.here rs (.int i)
theorem we_bl {b : Bool} {j} : PE X (.Constant (.bool b) j pos) (tD X.K (dC (.bl b))) :=
  PE.imp pe_bl fun σ H Q ⟨φ, ρ, S, d, S', re, rs, hd, w⟩ => by cases hd; exact w.here rs (.bl b)
theorem we_non {j} : PE X (.Constant .none j pos) (tD X.K (dC .non)) :=
  PE.imp pe_non fun σ H Q ⟨φ, ρ, S, d, S', re, rs, hd, w⟩ => by cases hd; exact w.here rs .non
theorem we_str {x : Str} {j} : PE X (.Constant (.str x) j pos) (tD X.K (dC (.str x))) :=
  PE.imp pe_str fun σ H Q ⟨φ, ρ, S, d, S', re, rs, hd, w⟩ => by cases hd; exact w.here rs (.str x)

/-! lists of expressions -/
def daNil : DA := fun _ S => some ([], S)
def daCons (f : DE) (g : DA) : DA := fun ρ S => match f ρ S with
  | some (d, S1) => match g ρ S1 with
    | some (ds, S2) => some (d :: ds, S2)
    | none => none
  | none => none
theorem wa_nil : PA X [] (tA X.K daNil) := PA.imp pa_nil fun σ H Q ⟨φ, ρ, S, d, S', re, rs, hd, w⟩ => by cases hd; exact w [] H φ .refl rs .nil
theorem wa_cons {f : DE} {g : DA} (ha : PE X e (tD X.K f)) (hr : PA X es (tA X.K g)) (hs : starEach (e :: es) X.env = (false, eval e X.env) :: starEach es X.env := by rfl) : PA X (e :: es) (tA X.K (daCons f g)) := by
  refine PA.imp (pa_cons ha hr hs) fun σ H Q ⟨φ, ρ, S, d, S', re, rs, hd, w⟩ => ?_
  unfold daCons at hd
  split at hd
  · rename_i d1 S1 h1
    split at hd
    · rename_i ds S2 h2
      cases hd
      refine ⟨φ, ρ, S, d1, _, re, rs, h1, fun v H1 φ1 e1 r1 l1 => ?_⟩
      refine ⟨φ1, ρ, _, ds, _, re.mono e1, r1, h2, fun vs H2 φ2 e2 r2 l2 => ?_⟩
      exact w _ _ _ (e1.trans e2) r2 (.cons (Rl.mono e2 _ _ l1) l2)
    · cases hd
  · cases hd
/-- a tuple, a list written -/
def dTup (g : DA) : DE := fun ρ S => match g ρ S with
  | some (ds, S1) => if ds.length ≤ sizeLine then some (.tup ds, S1) else none
  | none => none
def dLst (g : DA) : DE := fun ρ S => match g ρ S with
  | some (ds, S1) => if ds.length ≤ sizeLine then some (.ref S1.length, S1 ++ [.lst ds]) else none
  | none => none
theorem we_tup {g : DA} {x1} (h : PA X es (tA X.K g)) : PE X (.Tuple es x1 pos) (tD X.K (dTup g)) := by
  refine PE.imp (pe_tup h) fun σ H Q ⟨φ, ρ, S, d, S', re, rs, hd, w⟩ => ?_
  unfold dTup at hd
  split at hd
  · rename_i ds S1 h1
    split at hd
    · rename_i hz
      cases hd
      refine ⟨φ, ρ, S, ds, _, re, rs, h1, fun vs H1 φ1 e1 r1 l1 => ⟨by rw [l1.len]; exact hz, fun p np => ?_⟩⟩
      obtain ⟨e2, r2⟩ := ext_tup r1 np vs
      exact w _ _ _ (e1.trans e2) r2 (.tup (SqT.of upd_same) (Rls.mono e2 _ _ l1))
    · cases hd
  · cases hd
theorem we_lst {g : DA} (h : PA X es (tA X.K g)) : PE X (.List es pos) (tD X.K (dLst g)) := by
  refine PE.imp (pe_lst h) fun σ H Q ⟨φ, ρ, S, d, S', re, rs, hd, w⟩ => ?_
  unfold dLst at hd
  split at hd
  · rename_i ds S1 h1
    split at hd
    · rename_i hz
      cases hd
      refine ⟨φ, ρ, S, ds, _, re, rs, h1, fun vs H1 φ1 e1 r1 l1 => ⟨by rw [l1.len]; exact hz, fun p np => ?_⟩⟩
      obtain ⟨e2, r2, l2⟩ := ext_lst r1 np l1
      exact w _ _ _ (e1.trans e2) r2 l2
    · cases hd
  · cases hd

/-! operators by values -/
def dOp (g : D2) (f1 f2 : DE) : DE := fun ρ S => match f1 ρ S with
  | some (a, S1) => match f2 ρ S1 with
    | some (b, S2) => g a b S2
    | none => none
  | none => none
def dUn (g : D1) (f : DE) : DE := fun ρ S => match f ρ S with
  | some (a, S1) => g a S1
  | none => none
theorem tOp_D {g : D2} {f1 f2 : DE} {σ : L2.St} {H : Hp} {Q : VK} (h : tD K (dOp g f1 f2) σ H Q) : tOp (r2D K g) (tD K f1) (tD K f2) σ H Q := by
  obtain ⟨φ, ρ, S, d, S', re, rs, hd, w⟩ := h
  unfold dOp at hd
  split at hd
  · rename_i d1 S1 h1
    split at hd
    · rename_i d2 S2 h2
      refine ⟨φ, ρ, S, d1, _, re, rs, h1, fun v H1 φ1 e1 r1 l1 => ?_⟩
      refine ⟨φ1, ρ, S1, d2, S2, re.mono e1, r1, h2, fun u H2 φ2 e2 r2 l2 => ?_⟩
      exact ⟨φ2, S2, d1, d2, d, S', r2, Rl.mono e2 _ _ l1, l2, hd, w.mono (e1.trans e2)⟩
    · cases hd
  · cases hd
theorem we_op {op : Operator} {g : D2} {f1 f2 : DE} (ho : OpR X (binaryOp op) (r2D X.K g)) (ha : PE X a (tD X.K f1)) (hb : PE X b (tD X.K f2)) : PE X (.BinOp a op b pos) (tD X.K (dOp g f1 f2)) :=
  PE.imp (pe_op ho ha hb) fun _ _ _ h => tOp_D h
theorem we_cmp {op : CmpOp} {g : D2} {f1 f2 : DE} (ho : OpR X (compareOp op) (r2D X.K g)) (ha : PE X a (tD X.K f1)) (hb : PE X b (tD X.K f2)) (hm : behindInMarks op b = false) : PE X (.Compare a [op] [b] pos) (tD X.K (dOp g f1 f2)) :=
  PE.imp (pe_cmpR ho ha hb hm) fun _ _ _ h => tOp_D h
theorem we_ix {g : D2} {f1 f2 : DE} (ho : IxR X (r2D X.K g)) (ha : PE X a (tD X.K f1)) (hb : PE X b (tD X.K f2)) (hs : PlainIx b) : PE X (.Subscript a b pos) (tD X.K (dOp g f1 f2)) :=
  PE.imp (pe_ix ho ha hb hs) fun _ _ _ h => tOp_D h
theorem we_un {op : UnaryOp} {g : D1} {f : DE} (ho : UnR X (unaryOp op) (r1D X.K g)) (ha : PE X a (tD X.K f)) : PE X (.UnaryOp op a pos) (tD X.K (dUn g f)) := by
  refine PE.imp (pe_un ho ha) fun σ H Q ⟨φ, ρ, S, d, S', re, rs, hd, w⟩ => ?_
  unfold dUn at hd
  split at hd
  · rename_i d1 S1 h1
    refine ⟨φ, ρ, S, d1, _, re, rs, h1, fun v H1 φ1 e1 r1 l1 => ⟨φ1, S1, d1, d, S', r1, l1, hd, w.mono e1⟩⟩
  · cases hd
/-- a op b op' c -/
def dChain (g g' : D2) (f1 f2 f3 : DE) : DE := fun ρ S => match f1 ρ S with
  | some (a, S1) => match f2 ρ S1 with
    | some (b, S2) => match g a b S2 with
      | some (.bl true, S3) => match f3 ρ S3 with
        | some (c, S4) => g' b c S4
        | none => none
      | some (.bl false, S3) => some (.bl false, S3)
      | _ => none
    | none => none
  | none => none
theorem tChain_D {g g' : D2} {f1 f2 f3 : DE} {σ : L2.St} {H : Hp} {Q : VK} (h : tD K (dChain g g' f1 f2 f3) σ H Q) : tChain (r2D K g) (r2D K g') (tD K f1) (tD K f2) (tD K f3) σ H Q := by
  obtain ⟨φ, ρ, S, d, S', re, rs, hd, w⟩ := h
  unfold dChain at hd
  split at hd
  · rename_i d1 S1 h1
    split at hd
    · rename_i d2 S2 h2
      refine ⟨φ, ρ, S, d1, _, re, rs, h1, fun v H1 φ1 e1 r1 l1 => ?_⟩
      refine ⟨φ1, ρ, S1, d2, S2, re.mono e1, r1, h2, fun u H2 φ2 e2 r2 l2 => ?_⟩
      split at hd
      · rename_i S3 h3
        refine ⟨φ2, _, d1, d2, _, _, r2, Rl.mono e2 _ _ l1, l2, h3, fun z H3 φ3 e3 r3 l3 => ?_⟩
        cases l3
        refine ⟨true, rfl, ?_⟩
        refine iteT ?_
        split at hd
        · rename_i d4 S4 h4
          refine ⟨φ3, ρ, S3, d4, S4, re.mono (e1.trans (e2.trans e3)), r3, h4, fun y H4 φ4 e4 r4 l4 => ?_⟩
          exact ⟨φ4, S4, d2, d4, d, S', r4, Rl.mono (e3.trans e4) _ _ l2, l4, hd, w.mono (e1.trans (e2.trans (e3.trans e4)))⟩
        · cases hd
      · rename_i S3 h3
        cases hd
        refine ⟨φ2, _, d1, d2, _, _, r2, Rl.mono e2 _ _ l1, l2, h3, fun z H3 φ3 e3 r3 l3 => ?_⟩
        cases l3
        refine ⟨false, rfl, ?_⟩
        refine iteF ?_
        exact w _ _ _ (e1.trans (e2.trans e3)) r3 (.bl false)
      · cases hd
    · cases hd
  · cases hd
theorem we_chain {op op' : CmpOp} {g g' : D2} {f1 f2 f3 : DE} (ho : OpR X (compareOp op) (r2D X.K g)) (ho' : OpR X (compareOp op') (r2D X.K g')) (ha : PE X a (tD X.K f1)) (hb : PE X b (tD X.K f2)) (hc : PE X c (tD X.K f3))
    (hm : lastMarks [op, op'] [b, c] = false := by with_unfolding_all rfl) : PE X (.Compare a [op, op'] [b, c] pos) (tD X.K (dChain g g' f1 f2 f3)) :=
  PE.imp (pe_chain ho ho' ha hb hc hm) fun _ _ _ h => tChain_D h

/-! tests -/
/-- a value that is a bool, as a test -/
def dB (f : DE) : DT := fun ρ S => match f ρ S with
  | some (.bl b, S1) => some (b, S1)
  | _ => none
theorem tB_D {f : DE} {σ : L2.St} {H : Hp} {Q : Bool → Hp → Prop} (h : tT K (dB f) σ H Q) : tB (tD K f) σ H Q := by
  obtain ⟨φ, ρ, S, b, S', re, rs, hd, w⟩ := h
  unfold dB at hd
  split at hd
  · rename_i b1 S1 h1
    cases hd
    exact ⟨φ, ρ, S, _, _, re, rs, h1, fun v H1 φ1 e1 r1 l1 => by cases l1; exact ⟨_, rfl, w H1 φ1 e1 r1⟩⟩
  · cases hd
theorem wt_val {f : DE} (h : PE X e (tD X.K f)) (he : ∀ whole, isTrue e X.env whole = (do let v ← whole; standAt e.pos; holding [v] (truthy v)) := by intro _; rfl) : PT X e (tT X.K (dB f)) :=
  PT.imp (pt_val h he) fun _ _ _ h => tB_D h
theorem wt_cmp {op : CmpOp} {g : D2} {f1 f2 : DE} (ho : OpR X (compareOp op) (r2D X.K g)) (ha : PE X a (tD X.K f1)) (hb : PE X b (tD X.K f2)) (hm : behindInMarks op b = false) : PT X (.Compare a [op] [b] pos) (tT X.K (dB (dOp g f1 f2))) :=
  PT.imp (pt_cmpR ho ha hb hm) fun σ H Q h => by
    have q : tB (tOp (r2D X.K g) (tD X.K f1) (tD X.K f2)) σ H Q := by
      obtain ⟨φ, ρ, S, b, S', re, rs, hd, w⟩ := h
      refine tOp_D ?_
      unfold dB at hd
      split at hd
      · rename_i b1 S1 h1
        cases hd
        exact ⟨φ, ρ, S, _, _, re, rs, h1, fun v H1 φ1 e1 r1 l1 => by cases l1; exact ⟨_, rfl, w H1 φ1 e1 r1⟩⟩
      · cases hd
    exact q
theorem wt_chain {op op' : CmpOp} {g g' : D2} {f1 f2 f3 : DE} (ho : OpR X (compareOp op) (r2D X.K g)) (ho' : OpR X (compareOp op') (r2D X.K g')) (ha : PE X a (tD X.K f1)) (hb : PE X b (tD X.K f2)) (hc : PE X c (tD X.K f3))
    (hm : lastMarks [op, op'] [b, c] = false := by with_unfolding_all rfl) : PT X (.Compare a [op, op'] [b, c] pos) (tT X.K (dB (dChain g g' f1 f2 f3))) :=
  PT.imp (pt_chain ho ho' ha hb hc hm) fun σ H Q h => by
    have q : tB (tChain (r2D X.K g) (r2D X.K g') (tD X.K f1) (tD X.K f2) (tD X.K f3)) σ H Q := by
      obtain ⟨φ, ρ, S, b, S', re, rs, hd, w⟩ := h
      refine tChain_D ?_
      unfold dB at hd
      split at hd
      · rename_i b1 S1 h1
        cases hd
        exact ⟨φ, ρ, S, _, _, re, rs, h1, fun v H1 φ1 e1 r1 l1 => by cases l1; exact ⟨_, rfl, w H1 φ1 e1 r1⟩⟩
      · cases hd
    exact q
def dtNot (f : DT) : DT := fun ρ S => match f ρ S with
  | some (b, S1) => some (!b, S1)
  | none => none
def dtAnd (f g : DT) : DT := fun ρ S => match f ρ S with
  | some (true, S1) => g ρ S1
  | some (false, S1) => some (false, S1)
  | none => none
def dtOr (f g : DT) : DT := fun ρ S => match f ρ S with
  | some (true, S1) => some (true, S1)
  | some (false, S1) => g ρ S1
  | none => none
theorem PW.imp {t t' : TT} (h : PW X e t) (w : ∀ σ H Q, t' σ H Q → t σ H Q) : PW X e t' := ⟨fun wh pins s σ H Q I q => h.run wh pins s σ H Q I (w σ H Q q)⟩
theorem wt_not {f : DT} (h : PT X a (tT X.K f)) : PT X (.UnaryOp .Not a pos) (tT X.K (dtNot f)) := by
  refine PT.imp (pt_not h) fun σ H Q ⟨φ, ρ, S, b, S', re, rs, hd, w⟩ => ?_
  unfold dtNot at hd
  split at hd
  · rename_i b1 S1 h1
    cases hd
    exact ⟨φ, ρ, S, b1, _, re, rs, h1, fun H1 φ1 e1 r1 => w H1 φ1 e1 r1⟩
  · cases hd
theorem ww_and1 {f : DT} (h : PT X a (tT X.K f)) : PW X (.BoolOp .And [a] pos) (tT X.K f) := pw_and1 h
theorem ww_or1 {f : DT} (h : PT X a (tT X.K f)) : PW X (.BoolOp .Or [a] pos) (tT X.K f) := pw_or1 h
theorem ww_and {rest : List Expr} {f g : DT} (ha : PT X a (tT X.K f)) (hb : PW X (.BoolOp .And (b :: rest) pos) (tT X.K g)) : PW X (.BoolOp .And (a :: b :: rest) pos) (tT X.K (dtAnd f g)) := by
  refine PW.imp (pw_and ha hb) fun σ H Q ⟨φ, ρ, S, b, S', re, rs, hd, w⟩ => ?_
  unfold dtAnd at hd
  split at hd
  · rename_i S1 h1
    exact ⟨φ, ρ, S, true, _, re, rs, h1, fun H1 φ1 e1 r1 => by
      refine iteT ?_
      exact ⟨φ1, ρ, S1, b, S', re.mono e1, r1, hd, fun H2 φ2 e2 r2 => w H2 φ2 (e1.trans e2) r2⟩⟩
  · rename_i S1 h1
    cases hd
    exact ⟨φ, ρ, S, false, _, re, rs, h1, fun H1 φ1 e1 r1 => by
      refine iteF ?_
      exact w H1 φ1 e1 r1⟩
  · cases hd
theorem ww_or {rest : List Expr} {f g : DT} (ha : PT X a (tT X.K f)) (hb : PW X (.BoolOp .Or (b :: rest) pos) (tT X.K g)) : PW X (.BoolOp .Or (a :: b :: rest) pos) (tT X.K (dtOr f g)) := by
  refine PW.imp (pw_or ha hb) fun σ H Q ⟨φ, ρ, S, b, S', re, rs, hd, w⟩ => ?_
  unfold dtOr at hd
  split at hd
  · rename_i S1 h1
    cases hd
    exact ⟨φ, ρ, S, true, _, re, rs, h1, fun H1 φ1 e1 r1 => by
      refine iteT ?_
      exact w H1 φ1 e1 r1⟩
  · rename_i S1 h1
    exact ⟨φ, ρ, S, false, _, re, rs, h1, fun H1 φ1 e1 r1 => by
      refine iteF ?_
      exact ⟨φ1, ρ, S1, b, S', re.mono e1, r1, hd, fun H2 φ2 e2 r2 => w H2 φ2 (e1.trans e2) r2⟩⟩
  · cases hd
theorem wt_w {f : DT} (h : PW X e (tT X.K f)) : PT X e (tT X.K f) := h.pt
/-! and, or, not as values (bools) -/
def dAnd (f g : DE) : DE := fun ρ S => match f ρ S with
  | some (.bl true, S1) => g ρ S1
  | some (.bl false, S1) => some (.bl false, S1)
  | _ => none
def dOr (f g : DE) : DE := fun ρ S => match f ρ S with
  | some (.bl true, S1) => some (.bl true, S1)
  | some (.bl false, S1) => g ρ S1
  | _ => none
def dNot (f : DE) : DE := fun ρ S => match f ρ S with
  | some (.bl b, S1) => some (.bl (!b), S1)
  | _ => none
theorem we_one {op} {f : DE} (h : PE X a (tD X.K f)) : PE X (.BoolOp op [a] pos) (tD X.K f) := pe_one h
theorem we_and {rest : List Expr} {f g : DE} (ha : PE X a (tD X.K f)) (hb : PE X (.BoolOp .And (b :: rest) pos) (tD X.K g)) : PE X (.BoolOp .And (a :: b :: rest) pos) (tD X.K (dAnd f g)) := by
  refine PE.imp (pe_and ha hb) fun σ H Q ⟨φ, ρ, S, d, S', re, rs, hd, w⟩ => ?_
  unfold dAnd at hd
  split at hd
  · rename_i S1 h1
    exact ⟨φ, ρ, S, _, _, re, rs, h1, fun v H1 φ1 e1 r1 l1 => by
      cases l1
      refine ⟨true, rfl, ?_⟩
      refine iteT ?_
      exact ⟨φ1, ρ, S1, d, S', re.mono e1, r1, hd, w.mono e1⟩⟩
  · rename_i S1 h1
    cases hd
    exact ⟨φ, ρ, S, _, _, re, rs, h1, fun v H1 φ1 e1 r1 l1 => by
      cases l1
      refine ⟨false, rfl, ?_⟩
      refine iteF ?_
      exact w _ _ _ e1 r1 (.bl false)⟩
  · cases hd
theorem we_or {rest : List Expr} {f g : DE} (ha : PE X a (tD X.K f)) (hb : PE X (.BoolOp .Or (b :: rest) pos) (tD X.K g)) : PE X (.BoolOp .Or (a :: b :: rest) pos) (tD X.K (dOr f g)) := by
  refine PE.imp (pe_or ha hb) fun σ H Q ⟨φ, ρ, S, d, S', re, rs, hd, w⟩ => ?_
  unfold dOr at hd
  split at hd
  · rename_i S1 h1
    cases hd
    exact ⟨φ, ρ, S, _, _, re, rs, h1, fun v H1 φ1 e1 r1 l1 => by
      cases l1
      refine ⟨true, rfl, ?_⟩
      refine iteT ?_
      exact w _ _ _ e1 r1 (.bl true)⟩
  · rename_i S1 h1
    exact ⟨φ, ρ, S, _, _, re, rs, h1, fun v H1 φ1 e1 r1 l1 => by
      cases l1
      refine ⟨false, rfl, ?_⟩
      refine iteF ?_
      exact ⟨φ1, ρ, S1, d, S', re.mono e1, r1, hd, w.mono e1⟩⟩
  · cases hd
theorem we_not {f : DE} (ha : PE X a (tD X.K f)) : PE X (.UnaryOp .Not a pos) (tD X.K (dNot f)) := by
  refine PE.imp (pe_not ha) fun σ H Q ⟨φ, ρ, S, d, S', re, rs, hd, w⟩ => ?_
  unfold dNot at hd
  split at hd
  · rename_i b S1 h1
    cases hd
    exact ⟨φ, ρ, S, _, _, re, rs, h1, fun v H1 φ1 e1 r1 l1 => by
      cases l1
      exact ⟨b, rfl, w _ _ _ e1 r1 (.bl _)⟩⟩
  · cases hd
/-- a if t else b -/
def dIf (t : DT) (f g : DE) : DE := fun ρ S => match t ρ S with
  | some (true, S1) => f ρ S1
  | some (false, S1) => g ρ S1
  | none => none
theorem we_if {t : DT} {f g : DE} (hc : PT X c (tT X.K t)) (ha : PE X a (tD X.K f)) (hb : PE X b (tD X.K g)) : PE X (.IfExp c a b pos) (tD X.K (dIf t f g)) := by
  refine PE.imp (pe_ifExp hc ha hb) fun σ H Q ⟨φ, ρ, S, d, S', re, rs, hd, w⟩ => ?_
  unfold dIf at hd
  split at hd
  · rename_i S1 h1
    exact ⟨φ, ρ, S, true, _, re, rs, h1, fun H1 φ1 e1 r1 => by
      refine iteT ?_
      exact ⟨φ1, ρ, S1, d, S', re.mono e1, r1, hd, w.mono e1⟩⟩
  · rename_i S1 h1
    exact ⟨φ, ρ, S, false, _, re, rs, h1, fun H1 φ1 e1 r1 => by
      refine iteF ?_
      exact ⟨φ1, ρ, S1, d, S', re.mono e1, r1, hd, w.mono e1⟩⟩
  · cases hd

/-! calls -/
def dCall (g : DF) (f : DA) : DE := fun ρ S => match f ρ S with
  | some (ds, S1) => g ds S1
  | none => none
/-- a def's promise by what it is worth -/
def spD (K : PySem.W.Frag) (np : Nat) (g : DF) : Sp := fun vs H Q _ => vs.length = np ∧ rFD K g vs H Q
theorem da_len_nil : ∀ ρ S ds S', daNil ρ S = some (ds, S') → ds.length = 0 := fun ρ S ds S' h => by cases h; rfl
theorem da_len_cons {f : DE} {g : DA} {n : Nat} (hg : ∀ ρ S ds S', g ρ S = some (ds, S') → ds.length = n) : ∀ ρ S ds S', daCons f g ρ S = some (ds, S') → ds.length = n + 1 := fun ρ S ds S' h => by
  unfold daCons at h
  split at h
  · split at h
    · rename_i h2
      cases h
      simp [hg _ _ _ _ h2]
    · cases h
  · cases h
/-- a def as a callee: where it stands and what it is worth -/
structure Fd (P : Program) (w : World) (K : PySem.W.Frag) (mg : Str → Option Value) (base : Heap) (k : Nat) (x : Str) (ps : List Str) (g : DF) : Prop where
  ok : ∃ (f : Addr) (fd : FuncData), mg x = some (.ref f) ∧ PySem.W.keepIn K (.ref f) = true ∧ (∃ oc od osl, K.lookup f = some ⟨oc, od, .func fd, osl⟩) ∧ Binds K fd ps [] ∧ FnG P w K mg base k f fd ps (spD K ps.length g)
theorem we_call {k : Nat} {x : Str} {ps : List Str} {g : DF} {f : DA} {p : Pos} (F : Fd X.prog X.w X.K X.mg X.base k x ps g) (hgd : X.A.guards = some []) (hr : Room k X.A) (hg : Gl X x) (ha : PA X (e :: es) (tA X.K f)) (hl : ∀ ρ S ds S', f ρ S = some (ds, S') → ds.length = ps.length)
    (hdb : (x == ("__debug__" : Str)) = false := by decide) (he : starEach (e :: es) X.env = (false, eval e X.env) :: starEach es X.env := by rfl) (hpl : (backTo pos (starEach es X.env)).any (·.1) = false := by rfl) :
    PE X (.Call (.Name x p) (e :: es) [] pos) (tD X.K (dCall g f)) := by
  obtain ⟨fa, fd, hm, hk, _, hb, G⟩ := F.ok
  refine ⟨fun pins s σ H Q I h => ?_⟩
  obtain ⟨φ, ρ, S, d, S', re, rs, hd, w⟩ := h
  unfold dCall at hd
  split at hd
  · rename_i ds S1 h1
    refine wpAny_Call_Name_kw (ld_glob I hg hm ?_ hdb)
    refine PySem.W.callWith_K (h₀ := X.base) I.ok.mod.kin hk (thn (ha.run pos pins s σ H (fun vs H1 => ∃ φ1, Ex X.K H φ H1 φ1 ∧ RS X.K H1 φ1 S1 ∧ Rls X.K H1 φ1 vs ds) I ⟨φ, ρ, S, ds, S1, re, rs, h1, fun vs H1 φ1 e1 r1 l1 => ⟨φ1, e1, r1, l1⟩⟩) fun us s1 ⟨vs, H1, I1, rv, φ1, e1, r1, l1⟩ => ⟨I1.kIn, ?_⟩) he hpl
    have hlen : vs.length = ps.length := by rw [l1.len]; exact hl _ _ _ _ h1
    have hb1 := hb s1 us I1.kIn (by rw [List.append_nil, ← rv.length]; exact hlen)
    rw [List.append_nil] at hb1
    exact run_g (args := ⟨us, []⟩) G hgd hr hb1 I1 rv ⟨hlen, φ1, S1, ds, d, S', r1, l1, hd, w.mono e1⟩
  · cases hd
theorem we_call0 {k : Nat} {x : Str} {g : DF} {p : Pos} (F : Fd X.prog X.w X.K X.mg X.base k x [] g) (hgd : X.A.guards = some []) (hr : Room k X.A) (hg : Gl X x)
    (hdb : (x == ("__debug__" : Str)) = false := by decide) : PE X (.Call (.Name x p) [] [] pos) (tD X.K (dCall g daNil)) := by
  obtain ⟨fa, fd, hm, hk, _, hb, G⟩ := F.ok
  refine ⟨fun pins s σ H Q I h => ?_⟩
  obtain ⟨φ, ρ, S, d, S', re, rs, hd, w⟩ := h
  unfold dCall daNil at hd
  refine wpAny_Call_Name_kw (ld_glob I hg hm ?_ hdb)
  have hb1 := hb s [] I.kIn rfl
  exact PySem.W.callWith_K0 I.kIn hk (run_g (args := ⟨[], []⟩) G hgd hr hb1 I .nil ⟨rfl, φ, S, [], d, S', rs, .nil, hd, w⟩)
/-- a built-in by its name -/
theorem we_blt {id : String} {g : DF} {f : DA} {x : Str} {p : Pos} (hc : CallR X (.builtin id) (rFD X.K g)) (hg : Gl X x) (hm : X.mg x = none) (hv : bootBuiltins x = some (.builtin id)) (ha : PA X (e :: es) (tA X.K f))
    (hn : x ≠ "__name__" := by decide) (hdb : (x == ("__debug__" : Str)) = false := by decide) (he : starEach (e :: es) X.env = (false, eval e X.env) :: starEach es X.env := by rfl) (hpl : (backTo pos (starEach es X.env)).any (·.1) = false := by rfl) :
    PE X (.Call (.Name x p) (e :: es) [] pos) (tD X.K (dCall g f)) := by
  refine PE.imp (pe_callB hc hg hm hv ha hn hdb he hpl) fun σ H Q ⟨φ, ρ, S, d, S', re, rs, hd, w⟩ => ?_
  unfold dCall at hd
  split at hd
  · rename_i ds S1 h1
    exact ⟨φ, ρ, S, ds, _, re, rs, h1, fun vs H1 φ1 e1 r1 l1 => ⟨φ1, S1, ds, d, S', r1, l1, hd, w.mono e1⟩⟩
  · cases hd
theorem we_bty {T : String} {g : DF} {f : DA} {x : Str} {p : Pos} (hc : CallR X (.type T) (rFD X.K g)) (hg : Gl X x) (hm : X.mg x = none) (hv : bootBuiltins x = some (.type T)) (ha : PA X (e :: es) (tA X.K f))
    (hn : x ≠ "__name__" := by decide) (hdb : (x == ("__debug__" : Str)) = false := by decide) (he : starEach (e :: es) X.env = (false, eval e X.env) :: starEach es X.env := by rfl) (hpl : (backTo pos (starEach es X.env)).any (·.1) = false := by rfl) :
    PE X (.Call (.Name x p) (e :: es) [] pos) (tD X.K (dCall g f)) := by
  refine PE.imp (pe_callTy hc hg hm hv ha hn hdb he hpl) fun σ H Q ⟨φ, ρ, S, d, S', re, rs, hd, w⟩ => ?_
  unfold dCall at hd
  split at hd
  · rename_i ds S1 h1
    exact ⟨φ, ρ, S, ds, _, re, rs, h1, fun vs H1 φ1 e1 r1 l1 => ⟨φ1, S1, ds, d, S', r1, l1, hd, w.mono e1⟩⟩
  · cases hd
end
end Ev

set_option maxHeartbeats 1000000
/-! EvC: statements, loops, comprehensions, defs. -/
namespace Ev
open PySem PySem.Spec PyProof.Rows L2

inductive Out where
  | nx (ρ : Rho) (S : Sto) | rt (d : D) (S : Sto) | bk (ρ : Rho) (S : Sto) | ct (ρ : Rho) (S : Sto)
abbrev DS := Rho → Sto → Option Out
/-- a target: what is stored -/
abbrev DG := D → Rho → Sto → Option (Rho × Sto)
abbrev DGs := List D → Rho → Sto → Option (Rho × Sto)

def Ws (K : PySem.W.Frag) (H : Hp) (φ : List Addr) (ρ : Rho) (S : Sto) (Q : L2.St → Hp → Prop) : Prop := ∀ σ H' φ', Ex K H φ H' φ' → RE K H' φ' σ ρ → RS K H' φ' S → Q σ H'
def Po (K : PySem.W.Frag) (Dn : Ends) (H : Hp) (φ : List Addr) : Out → Prop
  | .nx ρ S => Ws K H φ ρ S Dn.nx
  | .rt d S => Wv K H φ d S Dn.rt
  | .bk ρ S => Ws K H φ ρ S Dn.bk
  | .ct ρ S => Ws K H φ ρ S Dn.ct
def tS (K : PySem.W.Frag) (f : DS) : TS := fun Dn σ H => ∃ φ ρ S o, RE K H φ σ ρ ∧ RS K H φ S ∧ f ρ S = some o ∧ Po K Dn H φ o
def tG (K : PySem.W.Frag) (g : DG) : TG := fun v σ H Q => ∃ φ ρ S d ρ' S', RE K H φ σ ρ ∧ RS K H φ S ∧ Rl K H φ v d ∧ g d ρ S = some (ρ', S') ∧ Ws K H φ ρ' S' Q
def tGs (K : PySem.W.Frag) (g : DGs) : TGs := fun vs σ H Q => ∃ φ ρ S ds ρ' S', RE K H φ σ ρ ∧ RS K H φ S ∧ Rls K H φ vs ds ∧ g ds ρ S = some (ρ', S') ∧ Ws K H φ ρ' S' Q

section
variable {X : Cx} {K : PySem.W.Frag} {H H' : Hp} {φ φ' : List Addr} {S S' : Sto} {σ : L2.St} {ρ ρ' : Rho} {e a b c tg iter : Expr} {es : List Expr} {pos : Pos} {st : Stmt} {rest body : List Stmt}
theorem Ws.here {Q : L2.St → Hp → Prop} (h : Ws K H φ ρ S Q) (re : RE K H φ σ ρ) (rs : RS K H φ S) : Q σ H := h σ H φ .refl re rs
theorem Ws.mono {Q : L2.St → Hp → Prop} (h : Ws K H φ ρ S Q) (ex : Ex K H φ H' φ') : Ws K H' φ' ρ S Q := fun σ H2 φ2 e2 re r => h σ H2 φ2 (ex.trans e2) re r
theorem Po.mono {Dn : Ends} {o : Out} (h : Po K Dn H φ o) (ex : Ex K H φ H' φ') : Po K Dn H' φ' o := by
  cases o with
  | nx ρ S => exact Ws.mono h ex
  | rt d S => exact Wv.mono h ex
  | bk ρ S => exact Ws.mono h ex
  | ct ρ S => exact Ws.mono h ex
theorem PS.imp {t t' : TS} (h : PS X st t) (w : ∀ Dn σ H, t' Dn σ H → t Dn σ H) : PS X st t' := ⟨fun pins s σ H Dn I q => h.run pins s σ H Dn I (w Dn σ H q)⟩
theorem PSs.imp {t t' : TS} (h : PSs X rest t) (w : ∀ Dn σ H, t' Dn σ H → t Dn σ H) : PSs X rest t' := ⟨fun pins s σ H Dn I q => h.run pins s σ H Dn I (w Dn σ H q)⟩
theorem PG.imp {t t' : TG} (h : PG X tg t) (w : ∀ v σ H Q, t' v σ H Q → t v σ H Q) : PG X tg t' := ⟨fun pins s σ H v u Q I r q => h.run pins s σ H v u Q I r (w v σ H Q q)⟩
theorem PGs.imp {t t' : TGs} (h : PGs X es t) (w : ∀ v σ H Q, t' v σ H Q → t v σ H Q) : PGs X es t' := ⟨fun pins s σ H v u Q I r q => h.run pins s σ H v u Q I r (w v σ H Q q)⟩

/-! blocks -/
def dNil : DS := fun ρ S => some (.nx ρ S)
def dSeq (f g : DS) : DS := fun ρ S => match f ρ S with
  | some (.nx ρ1 S1) => g ρ1 S1
  | r => r
theorem ws_nil : PSs X [] (tS X.K dNil) := PSs.imp pss_nil fun Dn σ H ⟨φ, ρ, S, o, re, rs, hd, w⟩ => by cases hd; exact Ws.here w re rs
theorem ws_cons {f g : DS} (h1 : PS X st (tS X.K f)) (h2 : PSs X rest (tS X.K g)) : PSs X (st :: rest) (tS X.K (dSeq f g)) := by
  refine PSs.imp (pss_cons h1 h2) fun Dn σ H ⟨φ, ρ, S, o, re, rs, hd, w⟩ => ?_
  unfold dSeq at hd
  split at hd
  · rename_i ρ1 S1 h1
    exact ⟨φ, ρ, S, _, re, rs, h1, fun σ1 H1 φ1 e1 re1 r1 => ⟨φ1, ρ1, S1, o, re1, r1, hd, w.mono e1⟩⟩
  · rename_i hn
    refine ⟨φ, ρ, S, o, re, rs, hd, ?_⟩
    cases o with
    | nx ρ1 S1 => exact absurd hd (hn ρ1 S1)
    | rt d S => exact w
    | bk ρ S => exact w
    | ct ρ S => exact w
theorem ws_one {f : DS} (h1 : PS X st (tS X.K f)) : PSs X [st] (tS X.K f) := PSs.imp (pss_one h1) fun _ _ _ h => h
def dBk : DS := fun ρ S => some (.bk ρ S)
def dCt : DS := fun ρ S => some (.ct ρ S)
def dNo : DS := fun _ _ => none
theorem ws_pass : PS X (.Pass pos) (tS X.K dNil) := PS.imp ps_pass fun Dn σ H ⟨φ, ρ, S, o, re, rs, hd, w⟩ => by cases hd; exact Ws.here w re rs
theorem ws_break : PS X (.Break pos) (tS X.K dBk) := PS.imp ps_break fun Dn σ H ⟨φ, ρ, S, o, re, rs, hd, w⟩ => by cases hd; exact Ws.here w re rs
theorem ws_continue : PS X (.Continue pos) (tS X.K dCt) := PS.imp ps_continue fun Dn σ H ⟨φ, ρ, S, o, re, rs, hd, w⟩ => by cases hd; exact Ws.here w re rs
/-- a statement that is not come to -/
theorem ws_no : PS X st (tS X.K dNo) := PS.imp ps_never fun Dn σ H ⟨φ, ρ, S, o, re, rs, hd, w⟩ => by cases hd
theorem ws_doc {x j pos'} : PS X (.Expr (.Constant (.str x) j pos) pos') (tS X.K dNil) := PS.imp ps_doc fun Dn σ H ⟨φ, ρ, S, o, re, rs, hd, w⟩ => by cases hd; exact Ws.here w re rs
def dDrop (f : DE) : DS := fun ρ S => match f ρ S with
  | some (_, S1) => some (.nx ρ S1)
  | none => none
theorem ws_expr {f : DE} (he : PE X e (tD X.K f)) (hs : swapsWith e none pos.line X.env = pure false := by rfl) : PS X (.Expr e pos) (tS X.K (dDrop f)) := by
  refine PS.imp (ps_expr he hs) fun Dn σ H ⟨φ, ρ, S, o, re, rs, hd, w⟩ => ?_
  unfold dDrop at hd
  split at hd
  · rename_i d1 S1 h1
    cases hd
    exact ⟨φ, ρ, S, _, _, re, rs, h1, fun v H1 φ1 e1 r1 l1 => w _ _ _ e1 (re.mono e1) r1⟩
  · cases hd
def dRet (f : DE) : DS := fun ρ S => match f ρ S with
  | some (d, S1) => some (.rt d S1)
  | none => none
theorem ws_ret {f : DE} (he : PE X e (tD X.K f)) : PS X (.Return (some e) pos) (tS X.K (dRet f)) := by
  refine PS.imp (ps_ret he) fun Dn σ H ⟨φ, ρ, S, o, re, rs, hd, w⟩ => ?_
  unfold dRet at hd
  split at hd
  · rename_i d1 S1 h1
    cases hd
    exact ⟨φ, ρ, S, _, _, re, rs, h1, w⟩
  · cases hd
def dRetN : DS := fun _ S => some (.rt .non S)
theorem ws_retN : PS X (.Return none pos) (tS X.K dRetN) := PS.imp ps_retN fun Dn σ H ⟨φ, ρ, S, o, re, rs, hd, w⟩ => by cases hd; exact Wv.here w rs .non
def dIfS (t : DT) (f g : DS) : DS := fun ρ S => match t ρ S with
  | some (true, S1) => f ρ S1
  | some (false, S1) => g ρ S1
  | none => none
theorem ws_if {b1 b2 : List Stmt} {t : DT} {f g : DS} (hc : PT X c (tT X.K t)) (ha : PSs X b1 (tS X.K f)) (hb : PSs X b2 (tS X.K g)) : PS X (.If c b1 b2 pos) (tS X.K (dIfS t f g)) := by
  refine PS.imp (ps_if hc ha hb) fun Dn σ H ⟨φ, ρ, S, o, re, rs, hd, w⟩ => ?_
  unfold dIfS at hd
  split at hd
  · rename_i S1 h1
    exact ⟨φ, ρ, S, true, _, re, rs, h1, fun H1 φ1 e1 r1 => by
      refine iteT ?_
      exact ⟨φ1, ρ, _, o, re.mono e1, r1, hd, w.mono e1⟩⟩
  · rename_i S1 h1
    exact ⟨φ, ρ, S, false, _, re, rs, h1, fun H1 φ1 e1 r1 => by
      refine iteF ?_
      exact ⟨φ1, ρ, _, o, re.mono e1, r1, hd, w.mono e1⟩⟩
  · cases hd

/-! targets, assignments -/
def dgN (i : Nat) : DG := fun d ρ S => some (ρ.set i (some d), S)
theorem wg_name {i : Nat} {tg : Expr} (h : PG X tg (gName i)) : PG X tg (tG X.K (dgN i)) :=
  PG.imp h fun v σ H Q ⟨φ, ρ, S, d, ρ', S', re, rs, rl, hd, w⟩ => by cases hd; exact Ws.here w (re.set i rl) rs
def dgsNil : DGs := fun ds ρ S => match ds with
  | [] => some (ρ, S)
  | _ => none
def dgsCons (g : DG) (h : DGs) : DGs := fun ds ρ S => match ds with
  | d :: ds => match g d ρ S with
    | some (ρ1, S1) => h ds ρ1 S1
    | none => none
  | [] => none
theorem wgs_nil : PGs X [] (tGs X.K dgsNil) := by
  refine PGs.imp pgs_nil fun vs σ H Q ⟨φ, ρ, S, ds, ρ', S', re, rs, rl, hd, w⟩ => ?_
  cases ds with
  | nil => cases hd; cases rl; exact ⟨rfl, w.here re rs⟩
  | cons d ds => cases hd
theorem wgs_cons {g : DG} {h : DGs} (h1 : PG X e (tG X.K g)) (h2 : PGs X es (tGs X.K h)) (hs : (assignEach (e :: es) X.env).map (·.2) = assign e X.env :: (assignEach es X.env).map (·.2) := by rfl) : PGs X (e :: es) (tGs X.K (dgsCons g h)) := by
  refine PGs.imp (pgs_cons h1 h2 hs) fun vs σ H Q ⟨φ, ρ, S, ds, ρ', S', re, rs, rl, hd, w⟩ => ?_
  cases ds with
  | nil => cases hd
  | cons d ds =>
    unfold dgsCons at hd
    cases rl with
    | cons l1 l2 =>
      simp only at hd
      split at hd
      · rename_i ρ1 S1 h1
        exact ⟨_, _, rfl, φ, ρ, S, d, ρ1, S1, re, rs, l1, h1, fun σ1 H1 φ1 e1 re1 r1 => ⟨φ1, ρ1, S1, ds, ρ', S', re1, r1, Rls.mono e1 _ _ l2, hd, w.mono e1⟩⟩
      · cases hd
def dgT (h : DGs) (n : Nat) : DG := fun d ρ S => match d with
  | .tup ds => if ds.length = n then h ds ρ S else none
  | _ => none
theorem wg_tup {k n : Nat} {h : DGs} (hc : X.calm = true) (hp : PGs X es (tGs X.K h)) (hn : (assignEach es X.env).length = n := by rfl) (hst : (assignEach es X.env).findIdx? (·.1) = none := by rfl) : PG X (.Tuple es k pos) (tG X.K (dgT h n)) := by
  refine PG.imp (pg_tup hc hp hn hst) fun v σ H Q ⟨φ, ρ, S, d, ρ', S', re, rs, rl, hd, w⟩ => ?_
  unfold dgT at hd
  split at hd
  · split at hd
    · rename_i hl
      cases rl with
      | tup h1 h2 => exact ⟨_, _, rfl, h1, by rw [h2.len]; exact hl, φ, ρ, S, _, ρ', S', re, rs, h2, hd, w⟩
    · cases hd
  · cases hd
/-- o[i] = v of a list of the store -/
def dgI (f1 f2 : DE) : DG := fun d ρ S => match f1 ρ S with
  | some (.ref j, S1) => match f2 ρ S1 with
    | some (.int k, S2) => match S2[j]? with
      | some (.lst ds) => match ixN ds.length k with
        | some m => some (ρ, S2.set j (.lst (ds.set m d)))
        | none => none
      | _ => none
    | _ => none
  | _ => none
theorem wg_sub {f1 f2 : DE} (ho : PE X a (tD X.K f1)) (hi : PE X b (tD X.K f2))
    (ha : ∀ v, assign (.Subscript a b pos) X.env v = (do
      let ov ← holding [v] (eval a X.env)
      let iv ← holding [v, ov] (eval b X.env)
      standAt pos
      holding [v, ov, iv] (setItem ov iv v)
      release [v, ov, iv] []) := by intro _; rfl) : PG X (.Subscript a b pos) (tG X.K (dgI f1 f2)) := by
  refine PG.imp (pg_sub ho hi set_list ha) fun v σ H Q ⟨φ, ρ, S, d, ρ', S', re, rs, rl, hd, w⟩ => ?_
  unfold dgI at hd
  split at hd
  · rename_i j S1 h1
    split at hd
    · rename_i k S2 h2
      split at hd
      · rename_i ds h3
        split at hd
        · rename_i m h4
          cases hd
          refine ⟨φ, ρ, S, _, _, re, rs, h1, fun o H1 φ1 e1 r1 l1 => ?_⟩
          refine ⟨φ1, ρ, _, _, _, re.mono e1, r1, h2, fun i H2 φ2 e2 r2 l2 => ?_⟩
          cases l2
          obtain ⟨p, vs, rfl, hp, hv, hr⟩ := r2.list (Rl.mono e2 _ _ l1) h3
          refine ⟨p, vs, k, m, rfl, rfl, hv, by rw [hr.len]; exact h4, ?_⟩
          have e12 := e1.trans e2
          obtain ⟨e3, r3⟩ := ext_set r2 hp (hr.set m (Rl.mono e12 _ _ rl))
          exact w _ _ _ (e12.trans e3) (re.mono (e12.trans e3)) r3
        · cases hd
      · cases hd
    · cases hd
  · cases hd
def dAsg (f : DE) (g : DG) : DS := fun ρ S => match f ρ S with
  | some (d, S1) => match g d ρ S1 with
    | some (ρ2, S2) => some (.nx ρ2 S2)
    | none => none
  | none => none
theorem tAsg_D {f : DE} {g : DG} {Dn : Ends} {σ : L2.St} {H : Hp} (h : tS K (dAsg f g) Dn σ H) : tAsg (tD K f) (tG K g) Dn σ H := by
  obtain ⟨φ, ρ, S, o, re, rs, hd, w⟩ := h
  unfold dAsg at hd
  split at hd
  · rename_i d1 S1 h1
    split at hd
    · rename_i ρ2 S2 h2
      cases hd
      exact ⟨φ, ρ, S, d1, S1, re, rs, h1, fun v H1 φ1 e1 r1 l1 => ⟨φ1, ρ, S1, d1, ρ2, S2, re.mono e1, r1, l1, h2, Ws.mono w e1⟩⟩
    · cases hd
  · cases hd
theorem ws_asg {f : DE} {g : DG} (he : PE X e (tD X.K f)) (hg : PG X tg (tG X.K g)) (hs : swapsWithSole [tg] e pos.line X.env = pure false := by rfl) (hw : swappedStores [tg] e X.env = pure none := by rfl)
    (h1 : (assignEach [tg] X.env).map (·.2) = [assign tg X.env] := by rfl) : PS X (.Assign [tg] e pos) (tS X.K (dAsg f g)) := PS.imp (ps_asg he hg hs hw h1) fun _ _ _ h => tAsg_D h
theorem ws_set {i : Nat} {x : Str} {f : DE} {pos' : Pos} (hN : X.N.Nodup) (hi : X.N[i]? = some x) (hx : Loc X.env.scope x) (he : PE X e (tD X.K f)) (hs : swapsWith e (some (.Name x pos')) pos.line X.env = pure false := by rfl) (hf : X.fn x = true ∨ X.env.scope.names.lookup x = some .local := by first | exact .inl rfl | exact .inr rfl | assumption) :
    PS X (.Assign [.Name x pos'] e pos) (tS X.K (dAsg f (dgN i))) :=
  PS.imp (ps_set hN hi hx he hs hf) fun Dn σ H h => by
    obtain ⟨φ, ρ, S, d, S', re, rs, hd, w⟩ := tAsg_D h
    exact ⟨φ, ρ, S, d, S', re, rs, hd, fun v H1 φ1 e1 r1 l1 => by
      obtain ⟨φ2, ρ2, S2, d2, ρ3, S3, re2, rs2, l2, h2, w2⟩ := w v H1 φ1 e1 r1 l1
      cases h2
      exact w2.here (re2.set i l2) rs2⟩
/-- a, b = x, y: plain local names -/
def dPar (i j : Nat) (f : DA) : DS := fun ρ S => match f ρ S with
  | some ([d1, d2], S1) => some (.nx ((ρ.set i (some d1)).set j (some d2)) S1)
  | _ => none
theorem ws_par {i j : Nat} {x y : Str} {f : DA} {px py pt : Pos} {kt k2 pt2} (hc : X.calm = true) (hN : X.N.Nodup) (hi : X.N[i]? = some x) (hj : X.N[j]? = some y) (hij : i ≠ j)
    (hx : X.env.scope.names.lookup x = some .local) (hy : X.env.scope.names.lookup y = some .local) (ha : PA X [a, b] (tA X.K f))
    (hw : swappedStores [.Tuple [.Name x px, .Name y py] kt pt] (.Tuple [a, b] k2 pt2) X.env = pure (some [x, y]))
    (hs : swapsWithSole [.Tuple [.Name x px, .Name y py] kt pt] (.Tuple [a, b] k2 pt2) pos.line X.env = pure false := by rfl) :
    PS X (.Assign [.Tuple [.Name x px, .Name y py] kt pt] (.Tuple [a, b] k2 pt2) pos) (tS X.K (dPar i j f)) := by
  refine PS.imp (ps_par hc hN hi hj hij hx hy ha hw hs) fun Dn σ H ⟨φ, ρ, S, o, re, rs, hd, w⟩ => ?_
  unfold dPar at hd
  split at hd
  · rename_i d1 d2 S1 h1
    cases hd
    refine ⟨φ, ρ, S, _, _, re, rs, h1, fun vs H1 φ1 e1 r1 l1 => ?_⟩
    cases l1 with
    | cons p q =>
      cases q with
      | cons p' q' =>
        cases q'
        exact ⟨_, _, rfl, w _ _ _ e1 (((re.mono e1).set i p).set j p') r1⟩
  · cases hd
/-- name op= e -/
def dAug (i : Nat) (g : D2) (f : DE) : DS := fun ρ S => match ρ[i]? with
  | some (some a) => match f ρ S with
    | some (b, S1) => match g a b S1 with
      | some (d, S2) => some (.nx (ρ.set i (some d)) S2)
      | none => none
    | none => none
  | _ => none
theorem ws_aug {i : Nat} {x : Str} {f : DE} {op : Operator} {g : D2} {pos' : Pos} (hN : X.N.Nodup) (hi : X.N[i]? = some x) (hx : Loc X.env.scope x) (he : PE X e (tD X.K f)) (ho : PIp X op (r2D X.K g)) (hf : X.fn x = true ∨ X.env.scope.names.lookup x = some .local := by first | exact .inl rfl | exact .inr rfl | assumption) :
    PS X (.AugAssign (.Name x pos') op e pos) (tS X.K (dAug i g f)) := by
  refine PS.imp (ps_aug hN hi hx he ho hf) fun Dn σ H ⟨φ, ρ, S, o, re, rs, hd, w⟩ => ?_
  unfold dAug at hd
  split at hd
  · rename_i a0 h0
    obtain ⟨v, hv, lv⟩ := re.vl i a0 h0
    refine ⟨v, hv, ?_⟩
    split at hd
    · rename_i b S1 h1
      split at hd
      · rename_i d S2 h2
        cases hd
        refine ⟨φ, ρ, S, b, S1, re, rs, h1, fun u H1 φ1 e1 r1 l1 => ?_⟩
        exact ⟨φ1, S1, a0, b, d, S2, r1, Rl.mono e1 _ _ lv, l1, h2, fun z H2 φ2 e2 r2 l2 => w _ _ _ (e1.trans e2) ((re.mono (e1.trans e2)).set i l2) r2⟩
      · cases hd
    · cases hd
  · cases hd

/-! what is walked -/
inductive Src where
  | fix (ds : List D) | lst (i : Nat) | zip (a b : Src) | enum (a : Src)
/-- the k-th item: none: it can't be told; some none: there is none -/
def Src.item : Src → Sto → Nat → Option (Option D)
  | .fix ds, _, k => some ds[k]?
  | .lst i, S, k => match S[i]? with
    | some (.lst ds) => some ds[k]?
    | _ => none
  | .zip a b, S, k => match a.item S k, b.item S k with
    | some (some x), some (some y) => some (some (.tup [x, y]))
    | some none, some _ => some none
    | some _, some none => some none
    | _, _ => none
  | .enum a, S, k => match a.item S k with
    | some (some x) => some (some (.tup [.int k, x]))
    | some none => some none
    | none => none
def Src.size : Src → Sto → Nat
  | .fix ds, _ => ds.length
  | .lst i, S => match S[i]? with
    | some (.lst ds) => ds.length
    | _ => 0
  | .zip a b, S => min (a.size S) (b.size S)
  | .enum a, S => a.size S
abbrev DI := Rho → Sto → Option (Src × Sto)
/-- what is walked can be walked -/
def Src.fit (src : Src) (S : Sto) : Prop := ∃ m, src.item (S ++ m) 0 ≠ none
theorem Src.fit_of {src : Src} {S : Sto} (h : src.item S 0 ≠ none) : src.fit S := ⟨[], by rw [List.append_nil]; exact h⟩
theorem Src.fit_z1 {a b : Src} {S : Sto} (h : (Src.zip a b).fit S) : a.fit S := by
  obtain ⟨m, h⟩ := h
  refine ⟨m, fun z => h ?_⟩
  unfold Src.item
  rw [z]
theorem Src.fit_z2 {a b : Src} {S : Sto} (h : (Src.zip a b).fit S) : b.fit S := by
  obtain ⟨m, h⟩ := h
  refine ⟨m, fun z => h ?_⟩
  unfold Src.item
  rw [z]
  split <;> rename_i e <;> first | rfl | cases e
theorem Src.fit_en {a : Src} {S : Sto} (h : (Src.enum a).fit S) : a.fit S := by
  obtain ⟨m, h⟩ := h
  refine ⟨m, fun z => h ?_⟩
  unfold Src.item
  rw [z]
theorem Src.fit_lst {j : Nat} {S : Sto} (h : (Src.lst j).fit S) (hj : j < S.length) : ∃ ds, S[j]? = some (.lst ds) := by
  obtain ⟨m, h⟩ := h
  unfold Src.item at h
  rw [List.getElem?_append_left hj] at h
  split at h
  · exact ⟨_, by assumption⟩
  · exact (h rfl).elim
structure Goes (K : PySem.W.Frag) (J : It) (H0 : Hp) (φ0 : List Addr) (src : Src) : Prop where
  go : ∀ H φ S i d, Ex K H0 φ0 H φ → RS K H φ S → src.item S i = some (some d) → J.go i H ∧ ∀ x H', J.yld i H x H' → Ex K H φ H' φ ∧ RS K H' φ S ∧ Rl K H' φ x d
  stop : ∀ H φ S i, Ex K H0 φ0 H φ → RS K H φ S → src.item S i = some none → J.stop i H
def tI (K : PySem.W.Frag) (f : DI) : TI := fun σ H R => ∃ φ ρ S src S', RE K H φ σ ρ ∧ RS K H φ S ∧ f ρ S = some (src, S') ∧ src.fit S' ∧ ∀ J H' φ', Ex K H φ H' φ' → RS K H' φ' S' → Goes K J H' φ' src → R J H'
theorem PI.imp {t t' : TI} (h : PI X tg iter t) (w : ∀ σ H R, t' σ H R → t σ H R) : PI X tg iter t' := ⟨fun pins s σ H R I q => h.run pins s σ H R I (w σ H R q)⟩

/-! for -/
def loop (src : Src) (g : DG) (b : DS) : Nat → Nat → Rho → Sto → Option Out
  | 0, _, _, _ => none
  | n + 1, i, ρ, S => match src.item S i with
    | some (some d) => match g d ρ S with
      | some (ρ1, S1) => match b ρ1 S1 with
        | some (.nx ρ2 S2) => loop src g b n (i + 1) ρ2 S2
        | some (.ct ρ2 S2) => loop src g b n (i + 1) ρ2 S2
        | some (.bk ρ2 S2) => some (.nx ρ2 S2)
        | some (.rt d S2) => some (.rt d S2)
        | none => none
      | none => none
    | some none => some (.nx ρ S)
    | none => none
def dFor (it : DI) (g : DG) (b : DS) : DS := fun ρ S => match it ρ S with
  | some (src, S1) => loop src g b (src.size S1 + 1) 0 ρ S1
  | none => none
theorem ws_for {it : DI} {g : DG} {b : DS} (hp : PassesOwn (model X.prog X.w) X.A X.env X.xe) (hc : X.calm = true) (hi : PI X tg iter (tI X.K it)) (hg : PG X tg (tG X.K g)) (hb : PSs X body (tS X.K b))
    (hs : ∀ x, foldedSetIterable iter X.env x = pure x := by intro _; rfl) : PS X (.For tg iter body [] pos) (tS X.K (dFor it g b)) := by
  refine PS.imp (ps_for hp hc hi hg hb hs) fun Dn σ H ⟨φ, ρ, S, o, re, rs, hd, w⟩ => ?_
  unfold dFor at hd
  split at hd
  · rename_i src S1 h1
    refine ⟨φ, ρ, S, src, S1, re, rs, h1, Src.fit_of (fun z => by unfold loop at hd; simp only [z] at hd; cases hd), fun J H1 φ1 e1 r1 go => ?_⟩
    refine ⟨fun i m σ2 H2 => ∃ φ2 ρ2 S2 o2, Ex X.K H1 φ1 H2 φ2 ∧ RE X.K H2 φ2 σ2 ρ2 ∧ RS X.K H2 φ2 S2 ∧ loop src g b m i ρ2 S2 = some o2 ∧ Po X.K Dn H2 φ2 o2,
      ⟨_, φ1, ρ, S1, o, .refl, re.mono e1, r1, hd, w.mono e1⟩, ?_⟩
    rintro i m σ2 H2 ⟨φ2, ρ2, S2, o2, e2, re2, r2, hl, w2⟩
    cases m with
    | zero => cases hl
    | succ n =>
      unfold loop at hl
      split at hl
      · rename_i d h3
        obtain ⟨g1, g2⟩ := go.go H2 φ2 S2 i d e2 r2 h3
        refine .inr ⟨g1, fun σ' H' => ∃ φ3 ρ3 S3 o3, Ex X.K H1 φ1 H' φ3 ∧ RE X.K H' φ3 σ' ρ3 ∧ RS X.K H' φ3 S3 ∧ loop src g b n (i + 1) ρ3 S3 = some o3 ∧ Po X.K Dn H' φ3 o3, fun σ' H' h => ⟨n, Nat.lt_succ_self n, h⟩, fun x H' y => ?_⟩
        obtain ⟨e3, r3, l3⟩ := g2 x H' y
        split at hl
        · rename_i ρ4 S4 h4
          refine ⟨φ2, ρ2, S2, d, ρ4, S4, re2.mono e3, r3, l3, h4, fun σ5 H5 φ5 e5 re5 r5 => ?_⟩
          have e25 := e2.trans (e3.trans e5)
          have w5 := w2.mono (e3.trans e5)
          split at hl
          · rename_i ρ6 S6 h6
            exact ⟨φ5, ρ4, S4, _, re5, r5, h6, fun σ7 H7 φ7 e7 re7 r7 => ⟨φ7, ρ6, S6, o2, e25.trans e7, re7, r7, hl, w5.mono e7⟩⟩
          · rename_i ρ6 S6 h6
            exact ⟨φ5, ρ4, S4, _, re5, r5, h6, fun σ7 H7 φ7 e7 re7 r7 => ⟨φ7, ρ6, S6, o2, e25.trans e7, re7, r7, hl, w5.mono e7⟩⟩
          · rename_i ρ6 S6 h6
            cases hl
            exact ⟨φ5, ρ4, S4, _, re5, r5, h6, fun σ7 H7 φ7 e7 re7 r7 => w5 σ7 H7 φ7 e7 re7 r7⟩
          · rename_i d6 S6 h6
            cases hl
            exact ⟨φ5, ρ4, S4, _, re5, r5, h6, fun v H7 φ7 e7 r7 l7 => w5 v H7 φ7 e7 r7 l7⟩
          · cases hl
        · cases hl
      · rename_i h3
        cases hl
        exact .inl ⟨go.stop H2 φ2 _ i e2 r2 h3, Ws.here w2 re2 r2⟩
      · cases hl
  · cases hd

/-! while -/
def dWhile (t : DT) (b : DS) : Nat → DS
  | 0, _, _ => none
  | n + 1, ρ, S => match t ρ S with
    | some (true, S1) => match b ρ S1 with
      | some (.nx ρ2 S2) => dWhile t b n ρ2 S2
      | some (.ct ρ2 S2) => dWhile t b n ρ2 S2
      | some (.bk ρ2 S2) => some (.nx ρ2 S2)
      | some (.rt d S2) => some (.rt d S2)
      | none => none
    | some (false, S1) => some (.nx ρ S1)
    | none => none
theorem ws_while {t : DT} {b : DS} (n : Nat) (hp : PassesOwn (model X.prog X.w) X.A X.env X.xe) (hc : PT X c (tT X.K t)) (hb : PSs X body (tS X.K b)) : PS X (.While c body [] pos) (tS X.K (dWhile t b n)) := by
  refine PS.imp (ps_while hp hc hb) fun Dn σ H ⟨φ, ρ, S, o, re, rs, hd, w⟩ => ?_
  refine ⟨fun m σ2 H2 => ∃ φ2 ρ2 S2 o2, RE X.K H2 φ2 σ2 ρ2 ∧ RS X.K H2 φ2 S2 ∧ dWhile t b m ρ2 S2 = some o2 ∧ Po X.K Dn H2 φ2 o2, ⟨n, φ, ρ, S, o, re, rs, hd, w⟩, ?_⟩
  rintro m σ2 H2 ⟨φ2, ρ2, S2, o2, re2, r2, hl, w2⟩
  cases m with
  | zero => cases hl
  | succ n =>
    unfold dWhile at hl
    split at hl
    · rename_i S3 h3
      refine ⟨φ2, ρ2, S2, true, S3, re2, r2, h3, fun H3 φ3 e3 r3 => ?_⟩
      refine iteT ?_
      refine ⟨fun σ' H' => ∃ φ3 ρ3 S3 o3, RE X.K H' φ3 σ' ρ3 ∧ RS X.K H' φ3 S3 ∧ dWhile t b n ρ3 S3 = some o3 ∧ Po X.K Dn H' φ3 o3, fun σ' H' h => ⟨n, Nat.lt_succ_self n, h⟩, ?_⟩
      have w3 := w2.mono e3
      split at hl
      · rename_i ρ6 S6 h6
        exact ⟨φ3, ρ2, S3, _, re2.mono e3, r3, h6, fun σ7 H7 φ7 e7 re7 r7 => ⟨φ7, ρ6, S6, o2, re7, r7, hl, w3.mono e7⟩⟩
      · rename_i ρ6 S6 h6
        exact ⟨φ3, ρ2, S3, _, re2.mono e3, r3, h6, fun σ7 H7 φ7 e7 re7 r7 => ⟨φ7, ρ6, S6, o2, re7, r7, hl, w3.mono e7⟩⟩
      · rename_i ρ6 S6 h6
        cases hl
        exact ⟨φ3, ρ2, S3, _, re2.mono e3, r3, h6, fun σ7 H7 φ7 e7 re7 r7 => w3 σ7 H7 φ7 e7 re7 r7⟩
      · rename_i d6 S6 h6
        cases hl
        exact ⟨φ3, ρ2, S3, _, re2.mono e3, r3, h6, fun v H7 φ7 e7 r7 l7 => w3 v H7 φ7 e7 r7 l7⟩
      · cases hl
    · rename_i S3 h3
      cases hl
      exact ⟨φ2, ρ2, S2, false, _, re2, r2, h3, fun H3 φ3 e3 r3 => iteF (w2 _ _ _ e3 (re2.mono e3) r3)⟩
    · cases hl
end
end Ev

set_option maxHeartbeats 1000000
/-! EvD: what is walked, comprehensions, defs, calls by keywords. -/
namespace Ev
open PySem PySem.Spec PyProof.Rows L2
section
variable {X : Cx} {K : PySem.W.Frag} {H H' : Hp} {φ φ' : List Addr} {S S' : Sto} {σ : L2.St} {ρ ρ' : Rho} {e a b c tg iter elt : Expr} {es ifs : List Expr} {pos : Pos}

/-! what is walked -/
theorem goes_list {p : Addr} {j : Nat} (hj : φ[j]? = some p) : Goes K (Itl K p) H φ (.lst j) := by
  refine ⟨fun H1 φ1 S i d e1 r1 h => ?_, fun H1 φ1 S i e1 r1 h => ?_⟩
  · have hj1 := e1.ix hj
    unfold Src.item at h
    split at h
    · rename_i ds hs
      have hd : ds[i]? = some d := Option.some.inj h
      obtain ⟨vs, q1, q2⟩ := r1.ob j p _ hj1 hs
      obtain ⟨v, hv, lv⟩ := q2.get i hd
      refine ⟨⟨vs, v, SqL.of q1, hv⟩, fun x H2 y => ?_⟩
      obtain ⟨rfl, y2⟩ := y
      have := y2 vs (SqL.of q1)
      rw [hv] at this
      cases this
      exact ⟨.refl, r1, lv⟩
    · cases h
  · have hj1 := e1.ix hj
    unfold Src.item at h
    split at h
    · rename_i ds hs
      have hd : ds[i]? = none := Option.some.inj h
      obtain ⟨vs, q1, q2⟩ := r1.ob j p _ hj1 hs
      exact ⟨vs, SqL.of q1, by rw [q2.len]; exact List.getElem?_eq_none_iff.mp hd⟩
    · cases h
theorem goes_fz {p : Addr} {vs : List V} {ds : List D} (hz : Fz K H p vs) (hr : Rls K H φ vs ds) : Goes K (Itl K p) H φ (.fix ds) := by
  refine ⟨fun H1 φ1 S i d e1 r1 h => ?_, fun H1 φ1 S i e1 r1 h => ?_⟩
  · have hd : ds[i]? = some d := Option.some.inj h
    obtain ⟨v, hv, lv⟩ := (Rls.mono e1 _ _ hr).get i hd
    have q1 := (e1.fz _ _ hz).sq
    refine ⟨⟨vs, v, q1, hv⟩, fun x H2 y => ?_⟩
    obtain ⟨rfl, y2⟩ := y
    have := y2 vs q1
    rw [hv] at this
    cases this
    exact ⟨.refl, r1, lv⟩
  · have hd : ds[i]? = none := Option.some.inj h
    exact ⟨vs, (e1.fz _ _ hz).sq, by rw [hr.len]; exact List.getElem?_eq_none_iff.mp hd⟩
theorem goes_tup {p : Addr} {vs : List V} {ds : List D} (hz : SqT K H p vs) (hr : Rls K H φ vs ds) : Goes K (Itt K p) H φ (.fix ds) := by
  refine ⟨fun H1 φ1 S i d e1 r1 h => ?_, fun H1 φ1 S i e1 r1 h => ?_⟩
  · have hd : ds[i]? = some d := Option.some.inj h
    obtain ⟨v, hv, lv⟩ := (Rls.mono e1 _ _ hr).get i hd
    have q1 := e1.tup _ _ hz
    refine ⟨⟨vs, v, q1, hv⟩, fun x H2 y => ?_⟩
    obtain ⟨rfl, y2⟩ := y
    have := y2 vs q1
    rw [hv] at this
    cases this
    exact ⟨.refl, r1, lv⟩
  · have hd : ds[i]? = none := Option.some.inj h
    exact ⟨vs, e1.tup _ _ hz, by rw [hr.len]; exact List.getElem?_eq_none_iff.mp hd⟩
/-- lo, lo + c, .. (n of them) -/
def rngs (lo c : Int) : Nat → List D
  | 0 => []
  | n + 1 => .int lo :: rngs (lo + c) c n
theorem rngs_len (lo c : Int) : ∀ n, (rngs lo c n).length = n := by
  intro n
  induction n generalizing lo with
  | zero => rfl
  | succ n ih => simp [rngs, ih]
theorem rngs_get (c : Int) : ∀ (n : Nat) (lo : Int) (i : Nat), (rngs lo c n)[i]? = if i < n then some (D.int (lo + (i : Int) * c)) else none
  | 0, lo, i => by simp [rngs]
  | n + 1, lo, 0 => by simp [rngs]
  | n + 1, lo, i + 1 => by
    show (rngs (lo + c) c n)[i]? = _
    rw [rngs_get c n (lo + c) i]
    by_cases h : i < n
    · rw [if_pos h, if_pos (by omega)]
      congr 2
      show lo + c + (i : Int) * c = lo + ((i : Int) + 1) * c
      rw [Int.add_mul]; omega
    · rw [if_neg h, if_neg (by omega)]
theorem goes_rng (lo : Int) (n : Nat) : Goes K (Itr lo n) H φ (.fix (rngs lo 1 n)) := by
  refine ⟨fun H1 φ1 S i d e1 r1 h => ?_, fun H1 φ1 S i e1 r1 h => ?_⟩
  · have hd : (rngs lo 1 n)[i]? = some d := Option.some.inj h
    rw [rngs_get] at hd
    split at hd
    · rename_i hi
      cases hd
      refine ⟨hi, fun x H2 y => ?_⟩
      obtain ⟨rfl, rfl⟩ := y
      rw [Int.mul_one]
      exact ⟨.refl, r1, .int _⟩
    · cases hd
  · have hd : (rngs lo 1 n)[i]? = none := Option.some.inj h
    rw [List.getElem?_eq_none_iff, rngs_len] at hd
    exact hd
theorem goes_rngC (lo c : Int) (n : Nat) : Goes K (Itc lo c n) H φ (.fix (rngs lo c n)) := by
  refine ⟨fun H1 φ1 S i d e1 r1 h => ?_, fun H1 φ1 S i e1 r1 h => ?_⟩
  · have hd : (rngs lo c n)[i]? = some d := Option.some.inj h
    rw [rngs_get] at hd
    split at hd
    · rename_i hi
      cases hd
      refine ⟨hi, fun x H2 y => ?_⟩
      obtain ⟨rfl, rfl⟩ := y
      exact ⟨.refl, r1, .int _⟩
    · cases hd
  · have hd : (rngs lo c n)[i]? = none := Option.some.inj h
    rw [List.getElem?_eq_none_iff, rngs_len] at hd
    exact hd
/-- over a list or a tuple -/
def diSeq (f : DE) : DI := fun ρ S => match f ρ S with
  | some (.ref j, S1) => some (.lst j, S1)
  | some (.fzl ds, S1) => some (.fix ds, S1)
  | some (.tup ds, S1) => some (.fix ds, S1)
  | _ => none
theorem wi_seq {f : DE} {l : Expr} (hl : PE X l (tD X.K f)) : PI X tg l (tI X.K (diSeq f)) := by
  refine ⟨fun pins s σ H R I h => ?_⟩
  obtain ⟨φ, ρ, S, src, S', re, rs, hd, ft, w⟩ := h
  unfold diSeq at hd
  split at hd
  · rename_i j S1 h1
    cases hd
    refine (pi_list hl).run pins s σ H R I ⟨φ, ρ, S, _, _, re, rs, h1, fun v H1 φ1 e1 r1 l1 => ?_⟩
    cases l1 with
    | ref hj _ =>
      have hl : j < S'.length := by rw [← r1.len]; exact (List.getElem?_eq_some_iff.mp hj).1
      obtain ⟨ds, hq⟩ := Src.fit_lst ft hl
      obtain ⟨vs, hv, _⟩ := r1.ob j _ _ hj hq
      exact ⟨_, rfl, ⟨vs, SqL.of hv⟩, w _ _ _ e1 r1 (goes_list hj)⟩
  · rename_i ds S1 h1
    cases hd
    refine (pi_list hl).run pins s σ H R I ⟨φ, ρ, S, _, _, re, rs, h1, fun v H1 φ1 e1 r1 l1 => ?_⟩
    cases l1 with
    | fzl hz hr => exact ⟨_, rfl, ⟨_, hz.sq⟩, w _ _ _ e1 r1 (goes_fz hz hr)⟩
  · rename_i ds S1 h1
    cases hd
    refine (pi_tup hl).run pins s σ H R I ⟨φ, ρ, S, _, _, re, rs, h1, fun v H1 φ1 e1 r1 l1 => ?_⟩
    cases l1 with
    | tup hz hr => exact ⟨_, rfl, ⟨_, hz⟩, w _ _ _ e1 r1 (goes_tup hz hr)⟩
  · cases hd
def in62 (i : Int) : Bool := decide (-(2 ^ 62) ≤ i) && decide (i < 2 ^ 62)
theorem in62_of {i : Int} (h : in62 i = true) : -(2 ^ 62) ≤ i ∧ i < 2 ^ 62 := by
  unfold in62 at h
  simpa using h
def diR1 (f : DA) : DI := fun ρ S => match f ρ S with
  | some ([.int j], S1) => if in62 j then some (.fix (rngs 0 1 j.toNat), S1) else none
  | _ => none
def diR2 (f : DA) : DI := fun ρ S => match f ρ S with
  | some ([.int i, .int j], S1) => if in62 i && in62 j then some (.fix (rngs i 1 (j - i).toNat), S1) else none
  | _ => none
/-- range(i, j, -1) -/
def diR3 (f : DA) : DI := fun ρ S => match f ρ S with
  | some ([.int i, .int j, .int c], S1) => if in62 i && in62 j && decide (c = -1) then some (.fix (rngs i (-1) (i - j).toNat), S1) else none
  | _ => none
theorem wi_r1 {f : DA} {p : Pos} (hg : Gl X "range") (hm : X.mg "range" = none) (ha : PA X [a] (tA X.K f)) (hs : starEach [a] X.env = [(false, eval a X.env)] := by rfl) : PI X tg (.Call (.Name "range" p) [a] [] pos) (tI X.K (diR1 f)) := by
  refine PI.imp (pi_range1 hg hm ha hs) fun σ H R ⟨φ, ρ, S, src, S', re, rs, hd, ft, w⟩ => ?_
  unfold diR1 at hd
  split at hd
  · rename_i j S1 h1
    split at hd
    · rename_i hz
      cases hd
      refine ⟨φ, ρ, S, _, _, re, rs, h1, fun vs H1 φ1 e1 r1 l1 => ?_⟩
      obtain rfl := Rls.ints (ns := [j]) l1
      exact ⟨j, rfl, (in62_of hz).1, (in62_of hz).2, w _ _ _ e1 r1 (goes_rng 0 j.toNat)⟩
    · cases hd
  · cases hd
theorem wi_r2 {f : DA} {p : Pos} (hg : Gl X "range") (hm : X.mg "range" = none) (ha : PA X [a, b] (tA X.K f)) (hs : starEach [a, b] X.env = [(false, eval a X.env), (false, eval b X.env)] := by rfl) (hs2 : starEach [b] X.env = [(false, eval b X.env)] := by rfl) :
    PI X tg (.Call (.Name "range" p) [a, b] [] pos) (tI X.K (diR2 f)) := by
  refine PI.imp (pi_range2 hg hm ha hs hs2) fun σ H R ⟨φ, ρ, S, src, S', re, rs, hd, ft, w⟩ => ?_
  unfold diR2 at hd
  split at hd
  · rename_i i j S1 h1
    split at hd
    · rename_i hz
      cases hd
      rw [Bool.and_eq_true] at hz
      refine ⟨φ, ρ, S, _, _, re, rs, h1, fun vs H1 φ1 e1 r1 l1 => ?_⟩
      obtain rfl := Rls.ints (ns := [i, j]) l1
      exact ⟨i, j, rfl, ⟨(in62_of hz.1).1, (in62_of hz.1).2, (in62_of hz.2).1, (in62_of hz.2).2⟩, w _ _ _ e1 r1 (goes_rng i (j - i).toNat)⟩
    · cases hd
  · cases hd
theorem wi_r3 {f : DA} {p : Pos} (hg : Gl X "range") (hm : X.mg "range" = none) (ha : PA X [a, b, c] (tA X.K f)) (hs : starEach [a, b, c] X.env = (false, eval a X.env) :: starEach [b, c] X.env := by rfl) (hpl : (backTo pos (starEach [b, c] X.env)).any (·.1) = false := by rfl) :
    PI X tg (.Call (.Name "range" p) [a, b, c] [] pos) (tI X.K (diR3 f)) := by
  refine PI.imp (pi_range3 hg hm ha hs hpl) fun σ H R ⟨φ, ρ, S, src, S', re, rs, hd, ft, w⟩ => ?_
  unfold diR3 at hd
  split at hd
  · rename_i i j k S1 h1
    split at hd
    · rename_i hz
      cases hd
      rw [Bool.and_eq_true, Bool.and_eq_true, decide_eq_true_eq] at hz
      obtain ⟨⟨z1, z2⟩, rfl⟩ := hz
      refine ⟨φ, ρ, S, _, _, re, rs, h1, fun vs H1 φ1 e1 r1 l1 => ?_⟩
      obtain rfl := Rls.ints (ns := [i, j, -1]) l1
      exact ⟨i, j, -1, (i - j).toNat, rfl, RgC.neg (in62_of z1).1 (in62_of z1).2 (in62_of z2).1 (in62_of z2).2, w _ _ _ e1 r1 (goes_rngC i (-1) (i - j).toNat)⟩
    · cases hd
  · cases hd

/-! list comprehensions -/
def wipeR (ρ : Rho) : List Nat → Rho
  | [] => ρ
  | v :: vs => (wipeR ρ vs).set v none
theorem RE.wipe (r : RE K H φ σ ρ) : ∀ vs : List Nat, RE K H φ (wipe σ vs) (wipeR ρ vs)
  | [] => r
  | v :: vs => (RE.wipe r vs).clear v
def dYes : DT := fun _ S => some (true, S)
theorem wts_nil : PTs X [] (tT X.K dYes) := ⟨fun pins s σ H Q I ⟨φ, ρ, S, b, S', re, rs, hd, w⟩ => by cases hd; exact pts_nil.run pins s σ H Q I (w H φ .refl rs)⟩
theorem wts_one {t : DT} (h : PT X c (tT X.K t)) : PTs X [c] (tT X.K t) := pts_one h
theorem wipe_set (vs : List Nat) (τ : L2.St) (i : Nat) (v : Option V) (h : i ∈ vs) : wipe (τ.set i v) vs = wipe τ vs := by
  induction vs with
  | nil => cases h
  | cons j js ih =>
    unfold wipe
    by_cases hj : i ∈ js
    · rw [ih hj]
    · have e : i = j := by
        rcases List.mem_cons.mp h with h | h
        · exact h
        · exact absurd h hj
      subst e
      have key : ∀ (ks : List Nat) (τ : L2.St), i ∉ ks → wipe (τ.set i v) ks = (wipe τ ks).set i v := by
        intro ks
        induction ks with
        | nil => intro τ _; rfl
        | cons k ks ih2 =>
          intro τ hn
          unfold wipe
          rw [ih2 τ (fun z => hn (List.mem_cons_of_mem _ z)), List.set_comm]
          intro z
          exact hn (by rw [z]; exact List.mem_cons_self)
      rw [key js τ hj]
      simp
theorem wipe_wipe (vs : List Nat) (τ : L2.St) : wipe (wipe τ vs) vs = wipe τ vs := by
  have key : ∀ ks : List Nat, (∀ k ∈ ks, k ∈ vs) → wipe (wipe τ ks) vs = wipe τ vs := by
    intro ks
    induction ks with
    | nil => intro _; rfl
    | cons k ks ih =>
      intro hk
      show wipe ((wipe τ ks).set k none) vs = wipe τ vs
      rw [wipe_set vs (wipe τ ks) k none (hk k List.mem_cons_self)]
      exact ih fun j hj => hk j (List.mem_cons_of_mem _ hj)
  exact key vs fun _ h => h
/-- a comprehension's target: names of its own -/
structure LcG (K : PySem.W.Frag) (g : TG) (gd : DG) (vs : List Nat) : Prop where
  run : ∀ (v : V) (τ σ : L2.St) (H : Hp) (Q : L2.St → Hp → Prop) (φ : List Addr) (ρ : Rho) (S : Sto) (d : D) (ρ' : Rho) (S' : Sto), wipe τ vs = wipe σ vs → RE K H φ τ ρ → RS K H φ S → Rl K H φ v d → gd d ρ S = some (ρ', S') →
    (∀ τ', wipe τ' vs = wipe σ vs → RE K H φ τ' ρ' → RS K H φ S' → Q τ' H) → g v τ H Q
theorem lcg_name {i : Nat} {vs : List Nat} (h : i ∈ vs) : LcG K (gName i) (dgN i) vs :=
  ⟨fun v τ σ H Q φ ρ S d ρ' S' hw re rs rl hd q => by
    cases hd
    exact q _ (by rw [wipe_set vs τ i _ h]; exact hw) (re.set i rl) rs⟩
theorem lcg_two {i j : Nat} {vs : List Nat} (hi : i ∈ vs) (hj : j ∈ vs) : LcG K (gTup K 2 (gCons (gName i) (gCons (gName j) gNil))) (dgT (dgsCons (dgN i) (dgsCons (dgN j) dgsNil)) 2) vs :=
  ⟨fun v τ σ H Q φ ρ S d ρ' S' hw re rs rl hd q => by
    unfold dgT at hd
    split at hd
    · split at hd
      · rename_i ds hl
        cases rl with
        | tup h1 h2 =>
          match ds, hl, hd with
          | [d1, d2], _, hd =>
            cases hd
            cases h2 with
            | cons l1 l2 =>
              cases l2 with
              | cons l2 l3 =>
                cases l3
                exact ⟨_, _, rfl, h1, rfl, _, _, rfl, _, _, rfl, rfl, q _ (by rw [wipe_set vs _ j _ hj, wipe_set vs _ i _ hi]; exact hw) ((re.set i l1).set j l2) rs⟩
      · cases hd
    · cases hd⟩
def lcLoop (k0 : Nat) (src : Src) (g : DG) (t : DT) (f : DE) (ρ : Rho) : Nat → Nat → Sto → Option Sto
  | 0, _, _ => none
  | n + 1, i, S => match src.item S i with
    | some (some d) => match g d ρ S with
      | some (ρ1, S1) => match t ρ1 S1 with
        | some (true, S2) => match f ρ1 S2 with
          | some (y, S3) => match S3[k0]? with
            | some (.lst acc) => if acc.length < sizeLine then lcLoop k0 src g t f ρ n (i + 1) (S3.set k0 (.lst (acc ++ [y]))) else none
            | _ => none
          | none => none
        | some (false, S2) => lcLoop k0 src g t f ρ n (i + 1) S2
        | none => none
      | none => none
    | some none => some S
    | none => none
def dLc (it : DI) (g : DG) (t : DT) (f : DE) (vs : List Nat) : DE := fun ρ S => match it ρ S with
  | some (src, S1) => match lcLoop S1.length src g t f (wipeR ρ vs) (src.size S1 + 1) 0 (S1 ++ [.lst []]) with
    | some S2 => some (.ref S1.length, S2)
    | none => none
  | none => none
theorem Goes.mono {J : It} {src : Src} (g : Goes K J H φ src) (e : Ex K H φ H' φ') : Goes K J H' φ' src :=
  ⟨fun H1 φ1 S i d e1 => g.go H1 φ1 S i d (e.trans e1), fun H1 φ1 S i e1 => g.stop H1 φ1 S i (e.trans e1)⟩
theorem tLc_D {it : DI} {g : TG} {gd : DG} {t : DT} {f : DE} {vs : List Nat} {σ : L2.St} {H : Hp} {Q : VK} (hg : LcG K g gd vs) (h : tD K (dLc it gd t f vs) σ H Q) : tLc (tI K it) g (tT K t) (tD K f) vs σ H Q := by
  obtain ⟨φ, ρ, S, d, S', re, rs, hd, w⟩ := h
  unfold dLc at hd
  split at hd
  · rename_i src S1 h1
    split at hd
    · rename_i S2 h2
      obtain ⟨rfl, rfl⟩ : d = .ref S1.length ∧ S' = S2 := by
        cases hd
        exact ⟨rfl, rfl⟩
      refine ⟨φ, ρ, S, src, S1, re, rs, h1, ⟨[.lst []], (fun z => by unfold lcLoop at h2; simp only [z] at h2; cases h2)⟩, fun J H1 φ1 e1 r1 go D nD => ?_⟩
      obtain ⟨eD, rD, lD⟩ := ext_lst r1 nD (vs := []) (ds := []) .nil
      have eb := e1.trans eD
      refine ⟨fun i m H2 => ∃ φ2 S3, Ex K (upd H1 D (.lst [])) (φ1 ++ [D]) H2 φ2 ∧ RS K H2 φ2 S3 ∧ lcLoop S1.length src gd t f (wipeR ρ vs) m i S3 = some S', ⟨_, _, _, .refl, rD, h2⟩, ?_⟩
      rintro i m H2 ⟨φ2, S3, e2, r2, hl⟩
      have lk : φ2[S1.length]? = some D := by
        cases lD with
        | ref hk _ => exact e2.ix hk
      have goX := go.mono eD
      cases m with
      | zero => cases hl
      | succ n =>
        unfold lcLoop at hl
        split at hl
        · rename_i d h3
          obtain ⟨g1, g2⟩ := goX.go H2 φ2 S3 i d e2 r2 h3
          refine .inr ⟨g1, fun H' => ∃ φ4 S4, Ex K (upd H1 D (.lst [])) (φ1 ++ [D]) H' φ4 ∧ RS K H' φ4 S4 ∧ lcLoop S1.length src gd t f (wipeR ρ vs) n (i + 1) S4 = some S', fun H' h => ⟨n, Nat.lt_succ_self n, h⟩, fun x H' y => ?_⟩
          obtain ⟨e3, r3, l3⟩ := g2 x H' y
          split at hl
          · rename_i ρ4 S4 h4
            have re3 : RE K H' φ2 (wipe σ vs) (wipeR ρ vs) := (re.wipe vs).mono (eb.trans (e2.trans e3))
            refine hg.run x (wipe σ vs) σ H' _ φ2 _ S3 d ρ4 S4 (wipe_wipe vs σ) re3 r3 l3 h4 fun τ hw re4 r4 => ⟨hw, ?_⟩
            split at hl
            · rename_i S5 h5
              refine ⟨φ2, ρ4, S4, true, S5, re4, r4, h5, fun H5 φ5 e5 r5 => ?_⟩
              refine iteT ?_
              split at hl
              · rename_i y6 S6 h6
                refine ⟨φ5, ρ4, S5, y6, S6, re4.mono e5, r5, h6, fun v H6 φ6 e6 r6 l6 => ?_⟩
                split at hl
                · rename_i acc h7
                  split at hl
                  · rename_i hz
                    have lk6 : φ6[S1.length]? = some D := e6.ix (e5.ix lk)
                    obtain ⟨vs6, q1, q2⟩ := r6.ob _ D _ lk6 h7
                    refine ⟨vs6, q1, by rw [q2.len]; exact hz, ?_⟩
                    obtain ⟨e7, r7⟩ := ext_set r6 lk6 (q2.app (Rls.one l6))
                    exact ⟨φ6, _, e2.trans (e3.trans (e5.trans (e6.trans e7))), r7, hl⟩
                  · cases hl
                · cases hl
              · cases hl
            · rename_i S5 h5
              refine ⟨φ2, ρ4, S4, false, S5, re4, r4, h5, fun H5 φ5 e5 r5 => ?_⟩
              refine iteF ?_
              exact ⟨φ5, S5, e2.trans (e3.trans e5), r5, hl⟩
            · cases hl
          · cases hl
        · rename_i h3
          cases hl
          exact .inl ⟨goX.stop H2 φ2 _ i e2 r2 h3, w _ _ _ (eb.trans e2) r2 (Rl.mono e2 _ _ lD)⟩
        · cases hl
    · cases hd
  · cases hd
theorem we_lc {scope : Scope} {own : List (Str × Nat)} {it : DI} {g : TG} {gd : DG} {t : DT} {f : DE} (hc : X.calm = true) (hN : X.N.Nodup) (hi : PI X tg iter (tI X.K it)) (ok : BlkOk X.N X.env.scope scope own) (lg : LcG X.K g gd (own.map (·.2)))
    (hg : ∀ (s : Shared) (H : Hp) (C : Addr) (cl : List (Str × Addr)) (fp : List Addr), PG (X.blk s H scope (compEnvC scope cl C X.env) fp) tg g) (ht : ∀ (s : Shared) (H : Hp) (C : Addr) (cl : List (Str × Addr)) (fp : List Addr), PTs (X.blk s H scope (compEnvC scope cl C X.env) fp) ifs (tT X.K t))
    (he : ∀ (s : Shared) (H : Hp) (C : Addr) (cl : List (Str × Addr)) (fp : List Addr), PE (X.blk s H scope (compEnvC scope cl C X.env) fp) elt (tD X.K f)) (hs : ∀ x, foldedSetIterable iter X.env x = pure x := by intro _; rfl) :
    PE X (.ListComp elt [⟨tg, iter, ifs, 0⟩] scope pos) (tD X.K (dLc it gd t f (own.map (·.2)))) :=
  PE.imp (pe_lc hc hN hi ok hg ht he hs) fun _ _ _ h => tLc_D lg h
theorem ws_setLc {i : Nat} {y : Str} {py : Pos} {spos : Pos} {scope : Scope} {own : List (Str × Nat)} {it : DI} {g : TG} {gd : DG} {t : DT} {f : DE} (hc : X.calm = true) (hN : X.N.Nodup) (hy : X.N[i]? = some y) (hyl : X.env.scope.names.lookup y = some .local)
    (hsw : swapsWith (.ListComp elt [⟨tg, iter, ifs, 0⟩] scope pos) (some (.Name y py)) spos.line X.env = pure true) (hi : PI X tg iter (tI X.K it)) (ok : BlkOk X.N X.env.scope scope own) (lg : LcG X.K g gd (own.map (·.2)))
    (hg : ∀ (s : Shared) (H : Hp) (C : Addr) (cl : List (Str × Addr)) (fp : List Addr), PG (X.blk s H scope (compEnvC scope cl C X.env) fp) tg g) (ht : ∀ (s : Shared) (H : Hp) (C : Addr) (cl : List (Str × Addr)) (fp : List Addr), PTs (X.blk s H scope (compEnvC scope cl C X.env) fp) ifs (tT X.K t))
    (he : ∀ (s : Shared) (H : Hp) (C : Addr) (cl : List (Str × Addr)) (fp : List Addr), PE (X.blk s H scope (compEnvC scope cl C X.env) fp) elt (tD X.K f)) (hs : ∀ x, foldedSetIterable iter X.env x = pure x := by intro _; rfl) :
    PS X (.Assign [.Name y py] (.ListComp elt [⟨tg, iter, ifs, 0⟩] scope pos) spos) (tS X.K (dAsg (dLc it gd t f (own.map (·.2))) (dgN i))) :=
  PS.imp (ps_setLc hc hN hy hyl hsw hi ok hg ht he hs) fun Dn σ H h => by
    obtain ⟨φ, ρ, S, d, S', re, rs, hd, w⟩ := tAsg_D h
    refine tLc_D lg ⟨φ, ρ, S, d, S', re, rs, hd, fun v H1 φ1 e1 r1 l1 => ?_⟩
    obtain ⟨φ2, ρ2, S2, d2, ρ3, S3, re2, rs2, l2, h2, w2⟩ := w v H1 φ1 e1 r1 l1
    cases h2
    exact w2.here (re2.set i l2) rs2
end

/-! defs -/
def start0 (N : Nat) (ds : List D) : Rho := ds.map some ++ List.replicate (N - ds.length) none
def run (N : Nat) (f : DS) : DF := fun ds S => match f (start0 N ds) S with
  | some (.rt d S1) => some (d, S1)
  | some (.nx _ S1) => some (.non, S1)
  | _ => none
section
variable {P : Program} {w : World} {K : PySem.W.Frag} {mg : Str → Option Value} {base : Heap} {H : Hp} {φ : List Addr}
theorem RE.start {N : List Str} : ∀ {vs : List V} {ds : List D}, Rls K H φ vs ds → RE K H φ (L2.start N vs) (start0 N.length ds) := by
  intro vs ds h
  have hl := h.len
  unfold L2.start start0
  refine ⟨by simp [hl], fun i d q => ?_⟩
  by_cases hi : i < ds.length
  · rw [List.getElem?_append_left (by simpa using hi)] at q
    rw [List.getElem?_append_left (by simpa [hl] using hi)]
    rw [List.getElem?_map] at q
    cases e : ds[i]? with
    | none => rw [e] at q; cases q
    | some d' =>
      rw [e] at q
      cases q
      obtain ⟨v, h1, h2⟩ := h.get i e
      exact ⟨v, by rw [List.getElem?_map, h1]; rfl, h2⟩
  · rw [List.getElem?_append_right (by simpa using hi)] at q
    have : ∀ (n j : Nat), (List.replicate n (none : Option D))[j]? ≠ some (some d) := fun n j z => by
      have := List.mem_of_getElem? z
      rw [List.mem_replicate] at this
      cases this.2
    exact absurd q (this _ _)
theorem fd_mk {x qual : Str} {st : Stmt} {f : Addr} {fd : FuncData} {N ps : List Str} {k : Nat} {den : DS} (F : Fun K x qual st f fd) (Sc : FnScope N ps (defScope st)) (hm : mg x = some (.ref f)) (hb : Binds K fd ps [])
    (hbody : ∀ (cdv : Value) (A : Around) (outer : List Env) (s : Shared) (H : Hp), A.guards = some [] → Room k (A.deeper (envOfC qual (defScope st) s.heap.objs.size f cdv)) → PSs (cxOf CX0 P w K mg base N qual (defScope st) f cdv A outer s H fun _ _ _ => False).nox (defBody st) (tS K den)) :
    Fd P w K mg base (k + 1) x ps (run N.length den) := by
  refine ⟨f, fd, hm, F.kp, (by obtain ⟨oc, od, kV, doc, pm, an, cdv, ct, osl, _, lk, _⟩ := F.ex; exact ⟨oc, od, osl, lk⟩), hb, FnG.of F Sc (fun vs H Q E h => h.1) fun cdv A outer s H vs Q hg hr h => ⟨_, hbody cdv A outer s H hg hr, ?_⟩⟩
  obtain ⟨hl, φ, S, ds, d, S', rs, rl, hd, w⟩ := h
  unfold run at hd
  split at hd
  · rename_i d1 S1 h1
    cases hd
    exact ⟨φ, _, S, _, RE.start rl, rs, h1, w⟩
  · rename_i ρ1 S1 h1
    cases hd
    exact ⟨φ, _, S, _, RE.start rl, rs, h1, fun σ' H' φ' e re r => w _ _ _ e r .non⟩
  · cases hd
theorem Fd.mono {j k : Nat} {x : Str} {ps : List Str} {g : DF} (F : Fd P w K mg base j x ps g) (h : j ≤ k) : Fd P w K mg base k x ps g := by
  obtain ⟨f, fd, h1, h2, h0, h3, h4⟩ := F.ok
  exact ⟨f, fd, h1, h2, h0, h3, h4.mono h⟩
/-- a def worth the same -/
theorem Fd.imp {k : Nat} {x : Str} {ps : List Str} {g g' : DF} (F : Fd P w K mg base k x ps g) (h : ∀ ds S r, g' ds S = some r → g ds S = some r) : Fd P w K mg base k x ps g' := by
  obtain ⟨f, fd, h1, h2, h0, h3, h4⟩ := F.ok
  refine ⟨f, fd, h1, h2, h0, h3, h4.imp fun vs H Q E q => ?_⟩
  obtain ⟨hl, φ, S, ds, d, S', rs, rl, hd, w⟩ := q
  exact ⟨hl, φ, S, ds, d, S', rs, rl, h _ _ _ hd, w⟩
end

/-! calls by keywords alone -/
def perm (π : List Nat) {α : Type} (xs : List α) : List α := π.filterMap (xs[·]?)
theorem perm_vals {π : List Nat} {zs : List V} {ws : List Value} (h : Vals zs ws) : Vals (perm π zs) (perm π ws) := by
  induction π with
  | nil => exact .nil
  | cons i is ih =>
    unfold perm at ih ⊢
    cases e : zs[i]? with
    | none =>
      have e2 := Vals.none_of h e
      simp only [List.filterMap_cons, e, e2]
      exact ih
    | some v =>
      obtain ⟨u, e2, r⟩ := Vals.get h e
      simp only [List.filterMap_cons, e, e2]
      exact .cons r ih
theorem perm_rls {K : PySem.W.Frag} {H : Hp} {φ : List Addr} {π : List Nat} {zs : List V} {ws : List D} (h : Rls K H φ zs ws) : Rls K H φ (perm π zs) (perm π ws) := by
  induction π with
  | nil => exact .nil
  | cons i is ih =>
    unfold perm at ih ⊢
    cases e : ws[i]? with
    | none =>
      have e2 : zs[i]? = none := by
        rw [List.getElem?_eq_none_iff, h.len]
        exact List.getElem?_eq_none_iff.mp e
      simp only [List.filterMap_cons, e, e2]
      exact ih
    | some v =>
      obtain ⟨u, e2, r⟩ := h.get i e
      simp only [List.filterMap_cons, e, e2]
      exact .cons r ih
theorem perm_len {α : Type} {π : List Nat} {zs : List α} (h : ∀ i ∈ π, i < zs.length) : (perm π zs).length = π.length := by
  unfold perm
  induction π with
  | nil => rfl
  | cons i is ih =>
    rw [List.filterMap_cons, List.getElem?_eq_getElem (h i List.mem_cons_self)]
    simp only [List.length_cons]
    rw [ih fun j hj => h j (List.mem_cons_of_mem _ hj)]
structure FdK (P : Program) (w : World) (K : PySem.W.Frag) (mg : Str → Option Value) (base : Heap) (k : Nat) (x : Str) (ps ks : List Str) (π : List Nat) (g : DF) : Prop where
  ok : ∃ (f : Addr) (fd : FuncData), mg x = some (.ref f) ∧ PySem.W.keepIn K (.ref f) = true ∧ (∀ (s : Shared) (ws : List Value), K.In s.heap → ws.length = ks.length → BindsTo s fd ⟨[], ks.zip ws⟩ (ps.zip (perm π ws))) ∧ FnG P w K mg base k f fd ps (spD K ps.length g)
section
variable {X : Cx} {pos : Pos} {kws : List Keyword}
theorem wk_nil : PK X [] (tA X.K daNil) := ⟨fun pos pins s σ H Q I ⟨φ, ρ, S, d, S', re, rs, hd, w⟩ => by cases hd; exact pk_nil.run pos pins s σ H Q I (w [] H φ .refl rs .nil)⟩
theorem wk_cons {e : Expr} {nm : Option Str} {kpos : Pos} {f : DE} {g : DA} (ha : PE X e (tD X.K f)) (hr : PK X kws (tA X.K g)) : PK X (⟨nm, e, kpos⟩ :: kws) (tA X.K (daCons f g)) := by
  refine ⟨fun pos pins s σ H Q I ⟨φ, ρ, S, d, S', re, rs, hd, w⟩ => (pk_cons ha hr).run pos pins s σ H Q I ?_⟩
  unfold daCons at hd
  split at hd
  · rename_i d1 S1 h1
    split at hd
    · rename_i ds S2 h2
      cases hd
      refine ⟨φ, ρ, S, d1, S1, re, rs, h1, fun v H1 φ1 e1 r1 l1 => ?_⟩
      refine ⟨φ1, ρ, _, ds, _, re.mono e1, r1, h2, fun vs H2 φ2 e2 r2 l2 => ?_⟩
      exact w _ _ _ (e1.trans e2) r2 (.cons (Rl.mono e2 _ _ l1) l2)
    · cases hd
  · cases hd
def dCallK (π : List Nat) (g : DF) (f : DA) : DE := fun ρ S => match f ρ S with
  | some (ds, S1) => g (perm π ds) S1
  | none => none
theorem we_callK {k : Nat} {x : Str} {ps ks : List Str} {π : List Nat} {g : DF} {f : DA} {p : Pos} (F : FdK X.prog X.w X.K X.mg X.base k x ps ks π g) (hgd : X.A.guards = some []) (hr : Room k X.A) (hg : Gl X x) (hkw : PK X kws (tA X.K f)) (hl : ∀ ρ S ds S', f ρ S = some (ds, S') → ds.length = ks.length) (hπ : (π.all (fun i => decide (i < ks.length)) && decide (π.length = ps.length)) = true)
    (hall : (backToKw pos (keywordEach kws X.env)).all (·.1.isSome) = true := by rfl) (hks : (backToKw pos (keywordEach kws X.env)).filterMap (·.1) = ks := by rfl) (hdb : (x == ("__debug__" : Str)) = false := by decide)
    (hpl : ((backTo pos (starEach [] X.env)).any (·.1) || (backToKw pos (keywordEach kws X.env)).any (·.1.isNone)) = false := by rfl) :
    PE X (.Call (.Name x p) [] kws pos) (tD X.K (dCallK π g f)) := by
  obtain ⟨fa, fd, hm, hk, hb, G⟩ := F.ok
  refine ⟨fun pins s σ H Q I h => ?_⟩
  obtain ⟨φ, ρ, S, d, S', re, rs, hd, w⟩ := h
  unfold dCallK at hd
  split at hd
  · rename_i ds S1 h1
    refine wpAny_Call_Name_kw (ld_glob I hg hm ?_ hdb)
    refine PySem.W.callWith_KW0 (h₀ := X.base) I.ok.mod.kin hk hall (thn (hkw.run pos pins s σ H (fun zs H1 => ∃ φ1, Ex X.K H φ H1 φ1 ∧ RS X.K H1 φ1 S1 ∧ Rls X.K H1 φ1 zs ds) I ⟨φ, ρ, S, ds, S1, re, rs, h1, fun vs H1 φ1 e1 r1 l1 => ⟨φ1, e1, r1, l1⟩⟩) fun ws s2 ⟨zs, H2, I2, rz, φ2, e2, r2, l2⟩ => ⟨I2.kIn, ?_⟩) hpl
    rw [hks]
    have hzs : zs.length = ks.length := by rw [l2.len]; exact hl _ _ _ _ h1
    have hlen : (perm π zs).length = ps.length := by
      rw [Bool.and_eq_true, List.all_eq_true, decide_eq_true_eq] at hπ
      rw [← hπ.2]
      exact perm_len fun i hi => by rw [hzs]; exact of_decide_eq_true (hπ.1 i hi)
    have hb1 := hb s2 ws I2.kIn (by rw [← rz.length]; exact hzs)
    exact run_g (args := ⟨[], ks.zip ws⟩) G hgd hr hb1 I2 (perm_vals rz) ⟨hlen, φ2, S1, _, d, S', r2, perm_rls l2, hd, w.mono e2⟩
  · cases hd
end
end Ev

set_option maxHeartbeats 4000000
/-! EvV: a tuple taken a number of times. -/
namespace Ev
open PySem PySem.Spec PyProof.Rows L2
open AutoSeq1 (wpAny_loadPart')
theorem tuple_mulSame (l : Addr) (items : Array Value) (n : Nat) (dd : Option Addr) (sl : Array (Option Value)) (x : Int) (u : Tok) (c0 : (decide (x < -(2 ^ 63)) || decide (x ≥ 2 ^ 63)) = false) (c1 : (items.isEmpty || x == 1) = true) :
    Meets (Builtin.«tuple.__mul__» ⟨[.ref l, .int x u], []⟩) (fun _ R s => s.heap.get? l = some { cls := .type "tuple", dict := dd, data := .seq items n, slots := sl } ∧
      R (.ok (.ret (Value.ref l))) s) :=
  .of_wp fun prog w A R s h => by
    obtain ⟨hp, g, d, tk, os⟩ := s
    obtain ⟨hl, h⟩ := h
    have f1 := AutoSeq1.idx_int
    wp_walk using wpAny_loadPart' hl
    repeat (first
      | (refine wpAny_ite_false (decide_eq_false (by rw [c0]; exact Bool.false_ne_true)) ?_; wp_walk using wpAny_loadPart' hl)
      | (refine wpAny_ite_true (decide_eq_true c1) ?_; wp_walk using wpAny_loadPart' hl))
    exact ⟨_, rfl, h⟩
theorem tuple_mulNone (l : Addr) (items : Array Value) (n : Nat) (dd : Option Addr) (sl : Array (Option Value)) (x : Int) (u : Tok) (c0 : (decide (x < -(2 ^ 63)) || decide (x ≥ 2 ^ 63)) = false) (c1 : (items.isEmpty || x == 1) = false) (c2 : (decide (x ≤ 0) || items.isEmpty) = true) :
    Meets (Builtin.«tuple.__mul__» ⟨[.ref l, .int x u], []⟩) (fun _ R s => s.heap.get? l = some { cls := .type "tuple", dict := dd, data := .seq items n, slots := sl } ∧
      R (.ok (.ret (Value.ref s.heap.objs.size))) { s with heap := s.heap.push { cls := Value.type "tuple", data := Data.seq #[] }, toks := s.toks }) :=
  .of_wp fun prog w A R s h => by
    obtain ⟨hp, g, d, tk, os⟩ := s
    obtain ⟨hl, h⟩ := h
    have f1 := AutoSeq1.idx_int
    wp_walk using wpAny_loadPart' hl
    repeat (first
      | (refine wpAny_ite_false (decide_eq_false (by rw [c0]; exact Bool.false_ne_true)) ?_; wp_walk using wpAny_loadPart' hl)
      | (refine wpAny_ite_false (decide_eq_false (by rw [c1]; exact Bool.false_ne_true)) ?_; wp_walk using wpAny_loadPart' hl)
      | (refine wpAny_ite_true (decide_eq_true c2) ?_; wp_walk using wpAny_loadPart' hl))
    exact ⟨_, rfl, h⟩
def rRepA (K : PySem.W.Frag) : R2 := fun x y H Q => ∃ l k xs, x = .ref l ∧ y = .int k ∧ SqT K H l xs ∧ -1000 ≤ k ∧ k ≤ 1000 ∧ xs.length ≤ 1000 ∧ ((xs = [] ∨ k = 1) → Q (.ref l) H) ∧ (xs ≠ [] → k ≠ 1 → ∀ p, H p = none → Q (.ref p) (upd H p (.tup (List.replicate k.toNat xs).flatten)))
section
variable {X : Cx}
theorem op_repA : OpR X (binaryOp .Mult) (rRepA X.K) := by
  intro pins s σ H x y v u Q I rx ry h
  obtain ⟨l, k, xs, rfl, rfl, hT, h1, h2, hz, q1, q2⟩ := h
  by_cases hne : xs = []
  · cases rx
    obtain ⟨t, rfl⟩ := ry
    obtain ⟨its, r, ⟨⟨cls, dd, data, sl⟩, ho, hc, n, hd⟩, hs⟩ := I.tuple hT
    simp only at hc hd
    subst hc hd
    have hn : its = [] := by
      have := r.length
      subst hne
      exact List.eq_nil_of_length_eq_zero this.symm
    have c0 : (decide (k < -(2 ^ 63)) || decide (k ≥ 2 ^ 63)) = false := by
      rw [decide_eq_false (by omega), decide_eq_false (by omega)] <;> rfl
    have c1 : (its.toArray.isEmpty || k == 1) = true := by subst hn; rfl
    exact wpAny_binaryOp_repeat_ref (T := "tuple") (U := "int") (by decide) ⟨_, ho, rfl⟩ (fun s' => typeIs_int s' k t) noFill_tuple_mul F.fills_int_mul F.slot_int_rmul repeat_tuple F.slot_int_index.lookup
      (call_meets F.slot_int_rmul (typeIs_int s k t) F.entry_int_rmul (F.args_int_rmul_2 _ _) (int_rmul_tuple k t l its.toArray n dd sl)
        ⟨ho, rfl, ⟨_, ho, rfl⟩, call_meets F.slot_tuple_mul ⟨_, ho, rfl⟩ F.entry_tuple_mul (F.args_tuple_mul_2 _ _) (tuple_mulSame l its.toArray n dd sl k t c0 c1) ⟨ho, ⟨.ref l, H, I, rfl, q1 (.inl hne)⟩⟩⟩)
  · by_cases hk1 : k = 1
    · cases rx
      obtain ⟨t, rfl⟩ := ry
      obtain ⟨its, r, ⟨⟨cls, dd, data, sl⟩, ho, hc, n, hd⟩, hs⟩ := I.tuple hT
      simp only at hc hd
      subst hc hd
      have c0 : (decide (k < -(2 ^ 63)) || decide (k ≥ 2 ^ 63)) = false := by
        rw [decide_eq_false (by omega), decide_eq_false (by omega)] <;> rfl
      have c1 : (its.toArray.isEmpty || k == 1) = true := by rw [hk1]; simp
      exact wpAny_binaryOp_repeat_ref (T := "tuple") (U := "int") (by decide) ⟨_, ho, rfl⟩ (fun s' => typeIs_int s' k t) noFill_tuple_mul F.fills_int_mul F.slot_int_rmul repeat_tuple F.slot_int_index.lookup
        (call_meets F.slot_int_rmul (typeIs_int s k t) F.entry_int_rmul (F.args_int_rmul_2 _ _) (int_rmul_tuple k t l its.toArray n dd sl)
          ⟨ho, rfl, ⟨_, ho, rfl⟩, call_meets F.slot_tuple_mul ⟨_, ho, rfl⟩ F.entry_tuple_mul (F.args_tuple_mul_2 _ _) (tuple_mulSame l its.toArray n dd sl k t c0 c1) ⟨ho, ⟨.ref l, H, I, rfl, q1 (.inr hk1)⟩⟩⟩)
    · by_cases hk2 : 2 ≤ k
      · exact op_repT pins s σ H _ _ v u Q I rx ry ⟨l, k, xs, rfl, rfl, hT, hne, hk2, h2, hz, q2 hne hk1⟩
      · have q3 := q2 hne hk1
        cases rx
        obtain ⟨t, rfl⟩ := ry
        obtain ⟨its, r, ⟨⟨cls, dd, data, sl⟩, ho, hc, n, hd⟩, hs⟩ := I.tuple hT
        simp only at hc hd
        subst hc hd
        have hn : its ≠ [] := fun e => hne (by
          have := r.length
          rw [e] at this
          exact List.eq_nil_of_length_eq_zero this)
        have hi : its.toArray.isEmpty = false := by
          cases its with
          | nil => exact absurd rfl hn
          | cons a b => rfl
        have c0 : (decide (k < -(2 ^ 63)) || decide (k ≥ 2 ^ 63)) = false := by
          rw [decide_eq_false (by omega), decide_eq_false (by omega)] <;> rfl
        have c1 : (its.toArray.isEmpty || k == 1) = false := by
          rw [hi, Bool.false_or]
          exact beq_eq_false_iff_ne.mpr hk1
        have c2 : (decide (k ≤ 0) || its.toArray.isEmpty) = true := by
          rw [decide_eq_true (by omega)]; rfl
        have hk0 : k.toNat = 0 := by omega
        rw [hk0] at q3
        refine wpAny_binaryOp_repeat_ref (T := "tuple") (U := "int") (by decide) ⟨_, ho, rfl⟩ (fun s' => typeIs_int s' k t) noFill_tuple_mul F.fills_int_mul F.slot_int_rmul repeat_tuple F.slot_int_index.lookup
          (call_meets F.slot_int_rmul (typeIs_int s k t) F.entry_int_rmul (F.args_int_rmul_2 _ _) (int_rmul_tuple k t l its.toArray n dd sl)
            ⟨ho, rfl, ⟨_, ho, rfl⟩, call_meets F.slot_tuple_mul ⟨_, ho, rfl⟩ F.entry_tuple_mul (F.args_tuple_mul_2 _ _) (tuple_mulNone l its.toArray n dd sl k t c0 c1 c2) ⟨ho, ?_⟩⟩)
        refine ⟨.ref s.heap.objs.size, _, I.laid (t' := s.toks) (o := .tup []) (fun b ob q => Heap.get?_push_of_some _ q) (Nat.le_refl _) ?_, rfl, q3 _ (I.hok.fresh (Nat.le_refl _))⟩
        exact ⟨by show 0 ≤ sizeLine; decide, [], .nil, IsTup.new _ _⟩
end
end Ev

set_option maxHeartbeats 1000000
/-! EvE: operators, subscripts, slices, built-ins by values. -/
namespace Ev
open PySem PySem.Spec PyProof.Rows L2
section
variable {X : Cx} {K : PySem.W.Frag} {H H' : Hp} {φ φ' : List Addr} {S S' : Sto} {σ : L2.St} {ρ ρ' : Rho} {e a b c : Expr} {es : List Expr} {pos : Pos}

/-! ints -/
def gI (C : Int → Int → Bool) (f : Int → Int → D) : D2 := fun x y S => match x, y with
  | .int i, .int j => if C i j then some (f i j, S) else none
  | _, _ => none
theorem Wv.int {i : Int} {Q : VK} (w : Wv K H φ (.int i) S Q) (r : RS K H φ S) : Q (.int i) H := w.here r (.int i)
theorem Wv.bl {b : Bool} {Q : VK} (w : Wv K H φ (.bl b) S Q) (r : RS K H φ S) : Q (.bl b) H := w.here r (.bl b)
theorem od_I {f : Value → Value → Sem Value} {C : Int → Int → Bool} {P : Int → Int → Prop} {g : Int → Int → Int} (h : OpR X f (rI P fun i j => .int (g i j))) (hc : ∀ i j, C i j = true → P i j) : OpR X f (r2D X.K (gI C fun i j => .int (g i j))) := by
  intro pins s σ H x y v u Q I rx ry q
  obtain ⟨φ, S, a, b, d, S', rs, la, lb, hd, w⟩ := q
  unfold gI at hd
  split at hd
  · rename_i i j
    split at hd
    · rename_i hz
      cases hd
      cases la
      cases lb
      exact h pins s σ H _ _ v u Q I rx ry ⟨i, j, rfl, rfl, hc _ _ hz, w.int rs⟩
    · cases hd
  · cases hd
theorem od_I0 {f : Value → Value → Sem Value} {g : Int → Int → Int} (h : OpR X f (rI0 fun i j => .int (g i j))) : OpR X f (r2D X.K (gI (fun _ _ => true) fun i j => .int (g i j))) := by
  intro pins s σ H x y v u Q I rx ry q
  obtain ⟨φ, S, a, b, d, S', rs, la, lb, hd, w⟩ := q
  unfold gI at hd
  split at hd
  · rename_i i j
    cases hd
    cases la
    cases lb
    exact h pins s σ H _ _ v u Q I rx ry ⟨i, j, rfl, rfl, w.int rs⟩
  · cases hd
theorem od_B0 {f : Value → Value → Sem Value} {g : Int → Int → Bool} (h : OpR X f (rI0 fun i j => .bl (g i j))) : OpR X f (r2D X.K (gI (fun _ _ => true) fun i j => .bl (g i j))) := by
  intro pins s σ H x y v u Q I rx ry q
  obtain ⟨φ, S, a, b, d, S', rs, la, lb, hd, w⟩ := q
  unfold gI at hd
  split at hd
  · rename_i i j
    cases hd
    cases la
    cases lb
    exact h pins s σ H _ _ v u Q I rx ry ⟨i, j, rfl, rfl, w.bl rs⟩
  · cases hd
abbrev gSub : D2 := gI (fun _ _ => true) fun i j => .int (i - j)
theorem od_sub : OpR X (binaryOp .Sub) (r2D X.K gSub) := od_I0 op_sub
abbrev gLt : D2 := gI (fun _ _ => true) fun i j => .bl (decide (i < j))
abbrev gLe : D2 := gI (fun _ _ => true) fun i j => .bl (decide (i ≤ j))
abbrev gGt : D2 := gI (fun _ _ => true) fun i j => .bl (decide (j < i))
abbrev gGe : D2 := gI (fun _ _ => true) fun i j => .bl (decide (j ≤ i))
theorem od_lt : OpR X (compareOp .Lt) (r2D X.K gLt) := od_B0 op_lt
theorem od_le : OpR X (compareOp .LtE) (r2D X.K gLe) := od_B0 op_le
theorem od_gt : OpR X (compareOp .Gt) (r2D X.K gGt) := od_B0 op_gt
theorem od_ge : OpR X (compareOp .GtE) (r2D X.K gGe) := od_B0 op_ge
/-- the divisor: not 0, below 2 ^ 9000 -/
def okDiv (_ j : Int) : Bool := decide (j ≠ 0) && decide (j.natAbs.log2 < 9000)
abbrev gFdiv : D2 := gI okDiv fun i j => .int (i.fdiv j)
theorem od_fdiv : OpR X (binaryOp .FloorDiv) (r2D X.K gFdiv) := od_I (P := fun i j => okDiv i j = true) (opI fun i j _ _ _ _ _ hc q => by
  unfold okDiv at hc
  rw [Bool.and_eq_true, decide_eq_true_eq, decide_eq_true_eq] at hc
  exact floordiv_int hc.1 q (.inl (PyProof.noPylong_of_log2 hc.2))) fun _ _ h => h
def okMod (_ j : Int) : Bool := decide (j ≠ 0)
abbrev gMod : D2 := gI okMod fun i j => .int (i.fmod j)
theorem od_mod : OpR X (binaryOp .Mod) (r2D X.K gMod) := od_I op_modN fun _ _ h => of_decide_eq_true h
def okPow (i j : Int) : Bool := decide (0 ≤ j) && (decide (j ≤ 1000000) && decide (i.natAbs < 2 ^ 64))
abbrev gPow : D2 := gI okPow fun i j => .int (i ^ j.toNat)
theorem od_pow : OpR X (binaryOp .Pow) (r2D X.K gPow) := od_I op_pow fun i j h => by
  unfold okPow at h
  rw [Bool.and_eq_true, Bool.and_eq_true, decide_eq_true_eq, decide_eq_true_eq, decide_eq_true_eq] at h
  exact h
/-- * : ints of together below a million bits, a list so many times, a tuple so many times -/
def okMul (i j : Int) : Bool := decide (i.natAbs.log2 + j.natAbs.log2 < 1000000)
theorem okMul_ok {i j : Int} (h : okMul i j = true) : CMulW i j := by
  unfold okMul at h
  rw [decide_eq_true_eq] at h
  exact h
def gMul : D2 := fun x y S => match x, y with
  | .int i, .int j => if okMul i j then some (.int (i * j), S) else none
  | .ref i, .int k => match S[i]? with
    | some (.lst ds) => if in62 k && decide (ds.length * k.toNat ≤ sizeLine) then some (.ref S.length, S ++ [.lst (List.replicate k.toNat ds).flatten]) else none
    | _ => none
  | .tup ds, .int k => if decide (-1000 ≤ k) && decide (k ≤ 1000) && decide (ds.length ≤ 1000) then some (.tup (List.replicate k.toNat ds).flatten, S) else none
  | _, _ => none
theorem in62_63 {k : Int} (h : in62 k = true) : -(2 ^ 63) ≤ k ∧ k < 2 ^ 63 := by
  have := in62_of h
  omega
theorem Rls.flat {vs : List V} {ds : List D} (h : Rls K H φ vs ds) : ∀ n : Nat, Rls K H φ (List.replicate n vs).flatten (List.replicate n ds).flatten
  | 0 => .nil
  | n + 1 => by
    rw [List.replicate_succ, List.replicate_succ, List.flatten_cons, List.flatten_cons]
    exact h.app (Rls.flat h n)
theorem od_mul : OpR X (binaryOp .Mult) (r2D X.K gMul) := by
  intro pins s σ H x y v u Q I rx ry q
  obtain ⟨φ, S, a, b, d, S', rs, la, lb, hd, w⟩ := q
  unfold gMul at hd
  split at hd
  · rename_i i j
    split at hd
    · rename_i hz
      cases hd
      cases la
      cases lb
      exact op_mulW pins s σ H _ _ v u Q I rx ry ⟨i, j, rfl, rfl, okMul_ok hz, w.int rs⟩
    · cases hd
  · rename_i i k
    split at hd
    · rename_i ds hs
      split at hd
      · rename_i hz
        rw [Bool.and_eq_true, decide_eq_true_eq] at hz
        cases hd
        obtain ⟨p, vs, rfl, hp, hv, hr⟩ := rs.list la hs
        cases lb
        refine op_rep pins s σ H _ _ v u Q I rx ry ⟨p, k, vs, rfl, rfl, hv, (in62_63 hz.1).1, (in62_63 hz.1).2, by rw [hr.len]; exact hz.2, fun q nq => ?_⟩
        obtain ⟨e2, r2, l2⟩ := ext_lst rs nq (hr.flat k.toNat)
        exact w _ _ _ e2 r2 l2
      · cases hd
    · cases hd
  · rename_i ds k
    split at hd
    · rename_i hz
      rw [Bool.and_eq_true, Bool.and_eq_true, decide_eq_true_eq, decide_eq_true_eq, decide_eq_true_eq] at hz
      cases hd
      cases la with
      | tup h1 h2 =>
        cases lb
        refine op_repA pins s σ H _ _ v u Q I rx ry ⟨_, k, _, rfl, rfl, h1, hz.1.1, hz.1.2, by rw [h2.len]; exact hz.2, fun e => ?_, fun _ _ p np => ?_⟩
        · refine w.here rs (.tup h1 ?_)
          rcases e with e | e
          · subst e
            cases h2
            have : (List.replicate k.toNat ([] : List D)).flatten = [] := by simp
            rw [this]
            exact .nil
          · subst e
            have : (List.replicate (Int.toNat 1) ds).flatten = ds := by simp
            rw [this]
            exact h2
        · obtain ⟨e2, r2⟩ := ext_tup rs np (List.replicate k.toNat _).flatten
          exact w _ _ _ e2 r2 (.tup (SqT.of upd_same) ((Rls.mono e2 _ _ h2).flat k.toNat))
    · cases hd
  · cases hd
/-- + : ints, texts, tuples, lists -/
def gAdd : D2 := fun x y S => match x, y with
  | .int i, .int j => some (.int (i + j), S)
  | .str x, .str y => if x.length + y.length ≤ sizeLine then some (.str (x ++ y), S) else none
  | .tup xs, .tup ys => if xs.length + ys.length ≤ sizeLine then some (.tup (xs ++ ys), S) else none
  | .ref i, .ref j => match S[i]?, S[j]? with
    | some (.lst xs), some (.lst ys) => if xs.length + ys.length ≤ sizeLine then some (.ref S.length, S ++ [.lst (xs ++ ys)]) else none
    | _, _ => none
  | _, _ => none
theorem Rls.nil_iff {vs : List V} {ds : List D} (h : Rls K H φ vs ds) : vs = [] ↔ ds = [] := by
  cases h with
  | nil => simp
  | cons _ _ => simp
theorem od_add : OpR X (binaryOp .Add) (r2D X.K gAdd) := by
  intro pins s σ H x y v u Q I rx ry q
  obtain ⟨φ, S, a, b, d, S', rs, la, lb, hd, w⟩ := q
  unfold gAdd at hd
  split at hd
  · rename_i i j
    cases hd
    cases la
    cases lb
    exact op_add pins s σ H _ _ v u Q I rx ry ⟨i, j, rfl, rfl, w.int rs⟩
  · rename_i i j
    split at hd
    · rename_i hz
      cases hd
      cases la
      cases lb
      exact op_add_str pins s σ H _ _ v u Q I rx ry ⟨i, j, rfl, rfl, hz, w.here rs (.str _)⟩
    · cases hd
  · rename_i xs ys
    split at hd
    · rename_i hz
      cases hd
      cases la with
      | tup h1 h2 =>
        cases lb with
        | tup h3 h4 =>
          refine op_catA pins s σ H _ _ v u Q I rx ry ⟨_, _, _, _, rfl, rfl, h1, h3, by rw [h2.len, h4.len]; exact hz, fun z => ?_, fun z1 z => ?_, fun z1 z2 p np => ?_⟩
          · obtain rfl := h2.nil_iff.mp z
            exact w.here rs (.tup h3 h4)
          · obtain rfl := h4.nil_iff.mp z
            rw [List.append_nil] at w
            exact w.here rs (.tup h1 h2)
          · obtain ⟨e2, r2⟩ := ext_tup rs np _
            exact w _ _ _ e2 r2 (.tup (SqT.of upd_same) (Rls.mono e2 _ _ (h2.app h4)))
    · cases hd
  · rename_i i j
    split at hd
    · rename_i xs ys hs ht
      split at hd
      · rename_i hz
        cases hd
        obtain ⟨p, vs, rfl, hp, hv, hr⟩ := rs.list la hs
        obtain ⟨p2, vs2, rfl, hp2, hv2, hr2⟩ := rs.list lb ht
        refine op_cat pins s σ H _ _ v u Q I rx ry ⟨p, p2, vs, vs2, rfl, rfl, hv, hv2, by rw [hr.len, hr2.len]; exact hz, fun q nq => ?_⟩
        obtain ⟨e2, r2, l2⟩ := ext_lst rs nq (hr.app hr2)
        exact w _ _ _ e2 r2 l2
      · cases hd
    · cases hd
  · cases hd
def gNeg : D1 := fun x S => match x with
  | .int i => some (.int (-i), S)
  | _ => none
theorem ud_neg : UnR X (unaryOp .USub) (r1D X.K gNeg) := by
  intro pins s σ H x v Q I rx q
  obtain ⟨φ, S, a, d, S', rs, la, hd, w⟩ := q
  unfold gNeg at hd
  split at hd
  · rename_i i
    cases hd
    cases la
    exact un_neg pins s σ H _ v Q I rx ⟨i, rfl, w.int rs⟩
  · cases hd

/-! in place, ints -/
theorem pd_add : PIp X .Add (r2D X.K (gI (fun _ _ => true) fun i j => .int (i + j))) := by
  intro pins s σ H x y v u Q I rx ry q
  obtain ⟨φ, S, a, b, d, S', rs, la, lb, hd, w⟩ := q
  unfold gI at hd
  split at hd
  · rename_i i j
    cases hd
    cases la
    cases lb
    exact ip_add pins s σ H _ _ v u Q I rx ry ⟨i, j, rfl, rfl, w.int rs⟩
  · cases hd

/-! ==, != -/
def pys (f : D → Option PyData) : List D → Option (List PyData)
  | [] => some []
  | d :: ds => match f d with
    | some e => match pys f ds with
      | some es => some (e :: es)
      | none => none
    | none => none
/-- data, read off the store: n deep -/
def py : Nat → Sto → D → Option PyData
  | 0, _, _ => none
  | n + 1, S, d => match d with
    | .non => some .none
    | .bl b => some (.bool b)
    | .int i => some (.int i)
    | .str x => some (.str x)
    | .tup ds => match pys (py n S) ds with
      | some es => some (.tuple es)
      | none => none
    | .fzl ds => match pys (py n S) ds with
      | some es => some (.list es)
      | none => none
    | .ref i => match S[i]? with
      | some (.lst ds) => match pys (py n S) ds with
        | some es => some (.list es)
        | none => none
      | _ => none
    | _ => none
theorem pys_dp {f : D → Option PyData} (hf : ∀ (d : D) (v : V) (e : PyData), Rl K H φ v d → f d = some e → Dp K H v e) : ∀ (ds : List D) (vs : List V) (es : List PyData), Rls K H φ vs ds → pys f ds = some es → DpAll K H vs es
  | [], _, _, l, h => by
    cases l
    cases h
    exact .nil
  | d :: ds, _, _, l, h => by
    cases l with
    | cons l1 l2 =>
      unfold pys at h
      split at h
      · rename_i e he
        split at h
        · rename_i es hes
          cases h
          exact .cons (hf d _ e l1 he) (pys_dp hf ds _ es l2 hes)
        · cases h
      · cases h
theorem py_dp (rs : RS K H φ S) : ∀ (n : Nat) (d : D) (v : V) (e : PyData), Rl K H φ v d → py n S d = some e → Dp K H v e
  | 0, _, _, _, _, h => by cases h
  | n + 1, d, v, e, l, h => by
    unfold py at h
    split at h
    · cases h; cases l; exact .non
    · cases h; cases l; exact .bl _
    · cases h; cases l; exact .int _
    · cases h; cases l; exact .str _
    · split at h
      · rename_i ds es he
        cases h
        cases l with
        | tup h1 h2 => exact .tup h1 (pys_dp (py_dp rs n) _ _ _ h2 he)
      · cases h
    · split at h
      · rename_i ds es he
        cases h
        cases l with
        | fzl h1 h2 => exact .lst h1.sq (pys_dp (py_dp rs n) _ _ _ h2 he)
      · cases h
    · split at h
      · rename_i i ds hs
        split at h
        · rename_i es he
          cases h
          obtain ⟨p, vs, rfl, hp, hv, hr⟩ := rs.list l hs
          exact .lst (SqL.of hv) (pys_dp (py_dp rs n) _ _ _ hr he)
        · cases h
      · cases h
    · cases h
/-- None, bools, ints, texts against each other (a bool against an int is left out) -/
def scalD : D → D → Option Bool
  | .non, .non => some true
  | .non, .int _ => some false
  | .int _, .non => some false
  | .non, .bl _ => some false
  | .bl _, .non => some false
  | .non, .str _ => some false
  | .str _, .non => some false
  | .int i, .int j => some (decide (i = j))
  | .bl i, .bl j => some (decide (i = j))
  | .str i, .str j => some (decide (i = j))
  | .int _, .str _ => some false
  | .str _, .int _ => some false
  | .bl _, .str _ => some false
  | .str _, .bl _ => some false
  | _, _ => none
theorem scalD_ok {x y : V} {d e : D} {b : Bool} (l1 : Rl K H φ x d) (l2 : Rl K H φ y e) (h : scalD d e = some b) : scal x y = true ∧ decide (x = y) = b := by
  unfold scalD at h
  split at h <;> first
    | (cases h; cases l1; cases l2; exact ⟨rfl, by simp⟩)
    | cases h
def gEq : D2 := fun x y S => match scalD x y with
  | some b => some (.bl b, S)
  | none => match py 40 S x, py 40 S y with
    | some d, some e => if SeqAt.shaped d && SeqAt.shaped e then some (.bl (PyData.eqv d e), S) else none
    | _, _ => none
def gNe : D2 := fun x y S => match scalD x y with
  | some b => some (.bl (!b), S)
  | none => match py 40 S x, py 40 S y with
    | some d, some e => if SeqAt.shaped d && SeqAt.shaped e then some (.bl (!PyData.eqv d e), S) else none
    | _, _ => none
theorem od_eq (hu : X.A.units + 64 < cLine) : OpR X (compareOp .Eq) (r2D X.K gEq) := by
  intro pins s σ H x y v u Q I rx ry q
  obtain ⟨φ, S, a, b, d, S', rs, la, lb, hd, w⟩ := q
  unfold gEq at hd
  split at hd
  · rename_i k hk
    cases hd
    obtain ⟨h1, h2⟩ := scalD_ok la lb hk
    exact op_eq pins s σ H _ _ v u Q I rx ry ⟨h1, by rw [h2]; exact w.bl rs⟩
  · split at hd
    · rename_i d e h1 h2
      split at hd
      · rename_i hz
        rw [Bool.and_eq_true] at hz
        cases hd
        exact op_eqD hu pins s σ H _ _ v u Q I rx ry ⟨d, e, py_dp rs _ _ _ _ la h1, py_dp rs _ _ _ _ lb h2, hz.1, hz.2, w.bl rs⟩
      · cases hd
    · cases hd
theorem od_ne (hu : X.A.units + 64 < cLine) : OpR X (compareOp .NotEq) (r2D X.K gNe) := by
  intro pins s σ H x y v u Q I rx ry q
  obtain ⟨φ, S, a, b, d, S', rs, la, lb, hd, w⟩ := q
  unfold gNe at hd
  split at hd
  · rename_i k hk
    cases hd
    obtain ⟨h1, h2⟩ := scalD_ok la lb hk
    exact op_ne pins s σ H _ _ v u Q I rx ry ⟨h1, by rw [h2]; exact w.bl rs⟩
  · split at hd
    · rename_i d e h1 h2
      split at hd
      · rename_i hz
        rw [Bool.and_eq_true] at hz
        cases hd
        exact op_neD hu pins s σ H _ _ v u Q I rx ry ⟨d, e, py_dp rs _ _ _ _ la h1, py_dp rs _ _ _ _ lb h2, hz.1, hz.2, w.bl rs⟩
      · cases hd
    · cases hd
/-- is None, is not None -/
def isN : D → Option Bool
  | .non => some true
  | .bl _ => some false
  | .int _ => some false
  | .str _ => some false
  | .tup _ => some false
  | .fzl _ => some false
  | .ref _ => some false
  | _ => none
theorem isN_ok {x : V} {d : D} {b : Bool} (l : Rl K H φ x d) (h : isN d = some b) : decide (x = .non) = b := by
  unfold isN at h
  split at h <;> first
    | (cases h; cases l; simp)
    | cases h
def gIs : D2 := fun x y S => match y with
  | .non => match isN x with
    | some b => some (.bl b, S)
    | none => none
  | _ => none
def gIsNot : D2 := fun x y S => match y with
  | .non => match isN x with
    | some b => some (.bl (!b), S)
    | none => none
  | _ => none
theorem od_is : OpR X (compareOp .Is) (r2D X.K gIs) := by
  intro pins s σ H x y v u Q I rx ry q
  obtain ⟨φ, S, a, b, d, S', rs, la, lb, hd, w⟩ := q
  unfold gIs at hd
  split at hd
  · split at hd
    · rename_i k hk
      cases hd
      cases lb
      exact op_isN pins s σ H _ _ v u Q I rx ry ⟨rfl, by rw [isN_ok la hk]; exact w.bl rs⟩
    · cases hd
  · cases hd
theorem od_isnot : OpR X (compareOp .IsNot) (r2D X.K gIsNot) := by
  intro pins s σ H x y v u Q I rx ry q
  obtain ⟨φ, S, a, b, d, S', rs, la, lb, hd, w⟩ := q
  unfold gIsNot at hd
  split at hd
  · split at hd
    · rename_i k hk
      cases hd
      cases lb
      exact op_notN pins s σ H _ _ v u Q I rx ry ⟨rfl, by rw [isN_ok la hk]; exact w.bl rs⟩
    · cases hd
  · cases hd

/-! subscripts, slices -/
/-- the items of a list or a tuple -/
def items (S : Sto) : D → Option (List D)
  | .tup ds => some ds
  | .fzl ds => some ds
  | .ref i => match S[i]? with
    | some (.lst ds) => some ds
    | _ => none
  | _ => none
theorem items_ok (rs : RS K H φ S) {x : V} {d : D} {ds : List D} (l : Rl K H φ x d) (h : items S d = some ds) : ∃ p vs, x = .ref p ∧ (SqL K H p vs ∨ SqT K H p vs) ∧ Rls K H φ vs ds := by
  unfold items at h
  split at h
  · cases h
    cases l with
    | tup h1 h2 => exact ⟨_, _, rfl, .inr h1, h2⟩
  · cases h
    cases l with
    | fzl h1 h2 => exact ⟨_, _, rfl, .inl h1.sq, h2⟩
  · split at h
    · rename_i hs
      cases h
      obtain ⟨p, vs, rfl, hp, hv, hr⟩ := rs.list l hs
      exact ⟨p, vs, rfl, .inl (SqL.of hv), hr⟩
    · cases h
  · cases h
def gIx : D2 := fun x y S => match y with
  | .int i => match items S x with
    | some ds => match atI ds i with
      | some d => some (d, S)
      | none => none
    | none => none
  | _ => none
theorem Rls.atI {vs : List V} {ds : List D} {i : Int} {d : D} (h : Rls K H φ vs ds) (q : L2.atI ds i = some d) : ∃ v, L2.atI vs i = some v ∧ Rl K H φ v d := by
  unfold L2.atI at q ⊢
  rw [h.len]
  cases e : ixN ds.length i with
  | none => rw [e] at q; cases q
  | some j =>
    rw [e] at q
    exact h.get j q
theorem xd_ix : IxR X (r2D X.K gIx) := by
  intro value slice pins s σ H x y v u Q I rx ry q hs
  obtain ⟨φ, S, a, b, d, S', rs, la, lb, hd, w⟩ := q
  unfold gIx at hd
  split at hd
  · rename_i i
    split at hd
    · rename_i ds h1
      split at hd
      · rename_i d h2
        cases hd
        obtain ⟨p, vs, rfl, hq, hr⟩ := items_ok rs la h1
        obtain ⟨z, hz, lz⟩ := hr.atI h2
        cases lb
        rcases hq with hq | hq
        · exact ix_seq value slice pins s σ H _ _ v u Q I rx ry (.inl ⟨p, vs, i, z, rfl, rfl, hq, hz, w.here rs lz⟩) hs
        · exact ix_seq value slice pins s σ H _ _ v u Q I rx ry (.inr (.inl ⟨p, vs, i, z, rfl, rfl, hq, hz, w.here rs lz⟩)) hs
      · cases hd
    · cases hd
  · cases hd
def cutD (xs : List D) (lo hi : Option Int) : List D := (xs.drop (HT.sIx xs.length 0 lo)).take (HT.sIx xs.length xs.length hi - HT.sIx xs.length 0 lo)
theorem Rls.cut {vs : List V} {ds : List D} (lo hi : Option Int) (h : Rls K H φ vs ds) : Rls K H φ (cutV vs lo hi) (cutD ds lo hi) := by
  unfold cutV cutD
  rw [h.len]
  exact (h.drop _).take _
abbrev DO := Rho → Sto → Option (Option Int × Sto)
def tO (K : PySem.W.Frag) (f : DO) : TO := fun σ H Q => ∃ φ ρ S i S', RE K H φ σ ρ ∧ RS K H φ S ∧ f ρ S = some (i, S') ∧ ∀ H' φ', Ex K H φ H' φ' → RS K H' φ' S' → Q i H'
def doNone : DO := fun _ S => some (none, S)
def doSome (f : DE) : DO := fun ρ S => match f ρ S with
  | some (.int i, S1) => some (some i, S1)
  | _ => none
theorem PO.imp {o : Option Expr} {t t' : TO} (h : PO X o t) (w : ∀ σ H Q, t' σ H Q → t σ H Q) : PO X o t' := ⟨fun pins s σ H Q I q => h.run pins s σ H Q I (w σ H Q q)⟩
theorem wo_none : PO X none (tO X.K doNone) := PO.imp po_none fun σ H Q ⟨φ, ρ, S, i, S', re, rs, hd, w⟩ => by cases hd; exact w H φ .refl rs
theorem wo_some {f : DE} (h : PE X e (tD X.K f)) : PO X (some e) (tO X.K (doSome f)) := PO.imp (po_some h) fun σ H Q ⟨φ, ρ, S, i, S', re, rs, hd, w⟩ => by
  unfold doSome at hd
  split at hd
  · rename_i j S1 h1
    cases hd
    exact ⟨φ, ρ, S, _, _, re, rs, h1, fun v H1 φ1 e1 r1 l1 => by cases l1; exact ⟨j, rfl, w H1 φ1 e1 r1⟩⟩
  · cases hd
def dSl (f : DE) (lo hi : DO) : DE := fun ρ S => match f ρ S with
  | some (x, S1) => match lo ρ S1 with
    | some (l, S2) => match hi ρ S2 with
      | some (h, S3) => match x with
        | .tup ds => some (.tup (cutD ds l h), S3)
        | .fzl ds => some (.ref S3.length, S3 ++ [.lst (cutD ds l h)])
        | .ref i => match S3[i]? with
          | some (.lst ds) => some (.ref S3.length, S3 ++ [.lst (cutD ds l h)])
          | _ => none
        | _ => none
      | none => none
    | none => none
  | none => none
theorem cut_all {α : Type} (xs : List α) : (xs.drop 0).take (xs.length - 0) = xs := by simp
theorem we_sl {lo hi : Option Expr} {f : DE} {fl fh : DO} {p2 : Pos} (he : PE X e (tD X.K f)) (hl : PO X lo (tO X.K fl)) (hh : PO X hi (tO X.K fh)) : PE X (.Subscript e (.Slice lo hi none p2) pos) (tD X.K (dSl f fl fh)) := by
  refine PE.imp (pe_slice (sl_list.or sl_tupA) he hl hh) fun σ H Q ⟨φ, ρ, S, d, S', re, rs, hd, w⟩ => ?_
  unfold dSl at hd
  split at hd
  · rename_i x S1 h1
    split at hd
    · rename_i l S2 h2
      split at hd
      · rename_i h S3 h3
        refine ⟨φ, ρ, S, x, S1, re, rs, h1, fun v H1 φ1 e1 r1 l1 => ?_⟩
        refine ⟨φ1, ρ, S1, l, S2, re.mono e1, r1, h2, fun H2 φ2 e2 r2 => ?_⟩
        refine ⟨φ2, ρ, S2, h, S3, re.mono (e1.trans e2), r2, h3, fun H3 φ3 e3 r3 => ?_⟩
        have l3 := Rl.mono (e2.trans e3) _ _ l1
        have e123 := e1.trans (e2.trans e3)
        split at hd
        · rename_i ds
          cases hd
          cases l3 with
          | tup q1 q2 =>
            refine .inr ⟨_, _, rfl, q1, fun z => ?_, fun z p np => ?_⟩
            · have z1 := z.1
              have z2 := z.2
              rw [q2.len] at z1 z2
              refine w _ _ _ e123 r3 (.tup q1 ?_)
              unfold cutD
              rw [z1, z2, cut_all]
              exact q2
            · obtain ⟨e4, r4⟩ := ext_tup r3 np _
              exact w _ _ _ (e123.trans e4) r4 (.tup (SqT.of upd_same) (Rls.mono e4 _ _ (q2.cut l h)))
        · rename_i ds
          cases hd
          cases l3 with
          | fzl q1 q2 =>
            refine .inl ⟨_, _, rfl, q1.sq, fun p np => ?_⟩
            obtain ⟨e4, r4, l4⟩ := ext_lst r3 np (q2.cut l h)
            exact w _ _ _ (e123.trans e4) r4 l4
        · rename_i i
          split at hd
          · rename_i ds hs
            cases hd
            obtain ⟨p, vs, rfl, hp, hv, hr⟩ := r3.list l3 hs
            refine .inl ⟨_, _, rfl, SqL.of hv, fun p np => ?_⟩
            obtain ⟨e4, r4, l4⟩ := ext_lst r3 np (hr.cut l h)
            exact w _ _ _ (e123.trans e4) r4 l4
          · cases hd
        · cases hd
      · cases hd
    · cases hd
  · cases hd
end
end Ev

set_option maxHeartbeats 1000000
/-! EvF: built-in functions and methods by values. -/
namespace Ev
open PySem PySem.Spec PyProof.Rows L2
section
variable {X : Cx} {K : PySem.W.Frag} {H H' : Hp} {φ φ' : List Addr} {S S' : Sto} {σ : L2.St} {ρ ρ' : Rho} {e o : Expr} {es : List Expr} {pos : Pos}

theorem Rls.one_inv {vs : List V} {d : D} (h : Rls K H φ vs [d]) : ∃ v, vs = [v] ∧ Rl K H φ v d := by
  cases h with
  | cons h1 h2 => cases h2; exact ⟨_, rfl, h1⟩
theorem Rls.two_inv {vs : List V} {d d' : D} (h : Rls K H φ vs [d, d']) : ∃ v v', vs = [v, v'] ∧ Rl K H φ v d ∧ Rl K H φ v' d' := by
  cases h with
  | cons h1 h2 =>
    obtain ⟨v', rfl, h3⟩ := h2.one_inv
    exact ⟨_, _, rfl, h1, h3⟩
/-- len -/
def gLen : DF := fun xs S => match xs with
  | [.str x] => if x.length ≤ sizeLine then some (.int (x.length : Nat), S) else none
  | [d] => match items S d with
    | some ds => some (.int (ds.length : Nat), S)
    | none => none
  | _ => none
theorem cd_len : CallR X (.builtin "len") (rFD X.K gLen) := by
  intro pins s σ H xs us Q I r h
  obtain ⟨φ, S, as, d, S', rs, la, hd, w⟩ := h
  unfold gLen at hd
  split at hd
  · rename_i x
    split at hd
    · rename_i hz
      cases hd
      obtain ⟨v, rfl, l⟩ := la.one_inv
      cases l
      exact call_len_str pins s σ H _ us Q I r ⟨x, rfl, hz, w.int rs⟩
    · cases hd
  · rename_i dd _
    split at hd
    · rename_i ds hi
      cases hd
      obtain ⟨v, rfl, l⟩ := la.one_inv
      obtain ⟨p, vs, rfl, hq, hr⟩ := items_ok rs l hi
      refine call_len_seq pins s σ H _ us Q I r ⟨p, vs, rfl, hq, ?_⟩
      rw [hr.len]
      exact w.int rs
    · cases hd
  · cases hd
def gAbs : DF := fun xs S => match xs with
  | [.int i] => some (.int (if i < 0 then -i else i), S)
  | _ => none
theorem cd_abs : CallR X (.builtin "abs") (rFD X.K gAbs) := by
  intro pins s σ H xs us Q I r h
  obtain ⟨φ, S, as, d, S', rs, la, hd, w⟩ := h
  unfold gAbs at hd
  split at hd
  · rename_i i
    cases hd
    obtain rfl := Rls.ints (ns := [i]) la
    exact call_abs pins s σ H _ us Q I r ⟨i, rfl, w.int rs⟩
  · cases hd
/-- the greatest, the least of a list of intsD -/
def maxI : List Int → Int
  | [] => 0
  | [x] => x
  | x :: xs => max x (maxI xs)
def minI : List Int → Int
  | [] => 0
  | [x] => x
  | x :: xs => min x (minI xs)
theorem maxI_mem : ∀ (xs : List Int), xs ≠ [] → maxI xs ∈ xs
  | [], h => absurd rfl h
  | [x], _ => by simp [maxI]
  | x :: y :: xs, _ => by
    have ih := maxI_mem (y :: xs) (by simp)
    show max x (maxI (y :: xs)) ∈ _
    rcases Int.le_total x (maxI (y :: xs)) with h | h
    · rw [Int.max_eq_right h]; exact List.mem_cons_of_mem _ ih
    · rw [Int.max_eq_left h]; exact List.mem_cons_self
theorem maxI_ge : ∀ (xs : List Int) (z : Int), z ∈ xs → z ≤ maxI xs
  | [], _, h => by cases h
  | [x], z, h => by simp [maxI] at h ⊢; omega
  | x :: y :: xs, z, h => by
    show z ≤ max x (maxI (y :: xs))
    rcases List.mem_cons.mp h with h | h
    · rw [h]; exact Int.le_max_left ..
    · exact Int.le_trans (maxI_ge (y :: xs) z h) (Int.le_max_right ..)
theorem minI_mem : ∀ (xs : List Int), xs ≠ [] → minI xs ∈ xs
  | [], h => absurd rfl h
  | [x], _ => by simp [minI]
  | x :: y :: xs, _ => by
    have ih := minI_mem (y :: xs) (by simp)
    show min x (minI (y :: xs)) ∈ _
    rcases Int.le_total x (minI (y :: xs)) with h | h
    · rw [Int.min_eq_left h]; exact List.mem_cons_self
    · rw [Int.min_eq_right h]; exact List.mem_cons_of_mem _ ih
theorem minI_le : ∀ (xs : List Int) (z : Int), z ∈ xs → minI xs ≤ z
  | [], _, h => by cases h
  | [x], z, h => by simp [minI] at h ⊢; omega
  | x :: y :: xs, z, h => by
    show min x (minI (y :: xs)) ≤ z
    rcases List.mem_cons.mp h with h | h
    · rw [h]; exact Int.min_le_left ..
    · exact Int.le_trans (Int.min_le_right ..) (minI_le (y :: xs) z h)
/-- whole numbers alone -/
def intsD : List D → Option (List Int)
  | [] => some []
  | .int i :: ds => match intsD ds with
    | some is => some (i :: is)
    | none => none
  | _ => none
theorem intsD_eq : ∀ {ds : List D} {ns : List Int}, intsD ds = some ns → ds = ns.map .int
  | [], ns, h => by cases h; rfl
  | .int i :: ds, ns, h => by
    unfold intsD at h
    split at h
    · rename_i is hi
      cases h
      rw [intsD_eq hi]
      rfl
    · cases h
  | .non :: _, _, h => by cases h
  | .bl _ :: _, _, h => by cases h
  | .str _ :: _, _, h => by cases h
  | .ty _ :: _, _, h => by cases h
  | .adr _ :: _, _, h => by cases h
  | .tup _ :: _, _, h => by cases h
  | .fzl _ :: _, _, h => by cases h
  | .ref _ :: _, _, h => by cases h
theorem intsD_map (ns : List Int) : intsD (ns.map .int) = some ns := by
  induction ns with
  | nil => rfl
  | cons n ns ih => simp [intsD, ih]
/-- a list (no tuple) -/
def lstOf (S : Sto) : D → Option (List D)
  | .fzl ds => some ds
  | .ref i => match S[i]? with
    | some (.lst ds) => some ds
    | _ => none
  | _ => none
theorem lstOf_ok (rs : RS K H φ S) {x : V} {d : D} {ds : List D} (l : Rl K H φ x d) (h : lstOf S d = some ds) : ∃ p vs, x = .ref p ∧ SqL K H p vs ∧ Rls K H φ vs ds := by
  unfold lstOf at h
  split at h
  · cases h
    cases l with
    | fzl h1 h2 => exact ⟨_, _, rfl, h1.sq, h2⟩
  · split at h
    · rename_i hs
      cases h
      obtain ⟨p, vs, rfl, hp, hv, hr⟩ := rs.list l hs
      exact ⟨p, vs, rfl, SqL.of hv, hr⟩
    · cases h
  · cases h
def gMax : DF := fun xs S => match xs with
  | [.int i, .int j] => some (.int (if j > i then j else i), S)
  | [d] => match lstOf S d with
    | some ds => match intsD ds with
      | some (n :: ns) => some (.int (maxI (n :: ns)), S)
      | _ => none
    | none => none
  | _ => none
def gMin : DF := fun xs S => match xs with
  | [.int i, .int j] => some (.int (if j < i then j else i), S)
  | [d] => match lstOf S d with
    | some ds => match intsD ds with
      | some (n :: ns) => some (.int (minI (n :: ns)), S)
      | _ => none
    | none => none
  | _ => none
theorem cd_max (hc : X.calm = true) : CallR X (.builtin "max") (rFD X.K gMax) := by
  intro pins s σ H xs us Q I r h
  obtain ⟨φ, S, as, d, S', rs, la, hd, w⟩ := h
  unfold gMax at hd
  split at hd
  · rename_i i j
    cases hd
    obtain rfl := Rls.ints (ns := [i, j]) la
    exact call_max2 hc pins s σ H _ us Q I r ⟨i, j, rfl, w.int rs⟩
  · split at hd
    · rename_i ds h1
      split at hd
      · rename_i n ns h2
        cases hd
        obtain ⟨v, rfl, l⟩ := la.one_inv
        obtain ⟨p, vs, rfl, hq, hr⟩ := lstOf_ok rs l h1
        rw [intsD_eq h2] at hr
        obtain rfl := hr.ints
        refine cr_max hc pins s σ H _ us Q I r ⟨p, n :: ns, rfl, hq, Nat.zero_lt_succ _, fun m hm hle => ?_⟩
        have : m = maxI (n :: ns) := Int.le_antisymm (maxI_ge _ _ hm) (hle _ (maxI_mem _ (by simp)))
        rw [this]
        exact w.int rs
      · cases hd
    · cases hd
  · cases hd
theorem cd_min (hc : X.calm = true) : CallR X (.builtin "min") (rFD X.K gMin) := by
  intro pins s σ H xs us Q I r h
  obtain ⟨φ, S, as, d, S', rs, la, hd, w⟩ := h
  unfold gMin at hd
  split at hd
  · rename_i i j
    cases hd
    obtain rfl := Rls.ints (ns := [i, j]) la
    exact call_min2 hc pins s σ H _ us Q I r ⟨i, j, rfl, w.int rs⟩
  · split at hd
    · rename_i ds h1
      split at hd
      · rename_i n ns h2
        cases hd
        obtain ⟨v, rfl, l⟩ := la.one_inv
        obtain ⟨p, vs, rfl, hq, hr⟩ := lstOf_ok rs l h1
        rw [intsD_eq h2] at hr
        obtain rfl := hr.ints
        refine cr_min hc pins s σ H _ us Q I r ⟨p, n :: ns, rfl, hq, Nat.zero_lt_succ _, fun m hm hle => ?_⟩
        have : m = minI (n :: ns) := Int.le_antisymm (hle _ (minI_mem _ (by simp))) (minI_le _ _ hm)
        rw [this]
        exact w.int rs
      · cases hd
    · cases hd
  · cases hd
def gSum : DF := fun xs S => match xs with
  | [d] => match items S d with
    | some ds => match intsD ds with
      | some ns => some (.int ns.sum, S)
      | none => none
    | none => none
  | _ => none
theorem cr_sumT (hc : X.calm = true) {p : Addr} {ns : List Int} {Q : VK} {pins : List (Addr × Obj)} {s : Shared} {us : List Value} (I : Inv X pins σ H s) (r : Vals [V.ref p] us) (hq : SqT X.K H p (ns.map V.int)) (q : Q (.int ns.sum) H) {E : Value → Shared → Prop} :
    wpAny (model X.prog X.w) X.A (call (.builtin "sum") us) (fun u s' => ∃ v H', Inv X pins σ H' s' ∧ RelV v u ∧ Q v H') E s := by
  obtain ⟨its, rv, hl, _⟩ := I.tuple hq
  rw [Vals.ref1 r]
  obtain ⟨xs, e⟩ := rv.ints.allInts.items
  have hn : numsOf (intItems xs).toList = ns := by rw [← e]; exact rv.ints.numsOf
  rw [nums_intItems] at hn
  rw [e] at hl
  refine PySem.W.ktm_sumG (I.ok.hd hc) hl fun h' tk t' hk => ?_
  rw [preSum_eq, List.take_of_length_le (by simp), hn]
  exact ⟨.int _, H, I.kept hk, ⟨_, rfl⟩, q⟩
theorem cd_sum (hc : X.calm = true) : CallR X (.builtin "sum") (rFD X.K gSum) := by
  intro pins s σ H xs us Q I r h
  obtain ⟨φ, S, as, d, S', rs, la, hd, w⟩ := h
  unfold gSum at hd
  split at hd
  · split at hd
    · rename_i ds h1
      split at hd
      · rename_i ns h2
        cases hd
        obtain ⟨v, rfl, l⟩ := la.one_inv
        obtain ⟨p, vs, rfl, hq, hr⟩ := items_ok rs l h1
        rw [intsD_eq h2] at hr
        obtain rfl := hr.ints
        rcases hq with hq | hq
        · exact cr_sum hc pins s σ H _ us Q I r ⟨p, ns, rfl, hq, w.int rs⟩
        · exact cr_sumT hc I r hq (w.int rs)
      · cases hd
    · cases hd
  · cases hd
/-- bools alone -/
def bools : List D → Option (List Bool)
  | [] => some []
  | .bl i :: ds => match bools ds with
    | some is => some (i :: is)
    | none => none
  | _ => none
theorem bools_eq : ∀ {ds : List D} {ns : List Bool}, bools ds = some ns → ds = ns.map .bl
  | [], ns, h => by cases h; rfl
  | .bl i :: ds, ns, h => by
    unfold bools at h
    split at h
    · rename_i is hi
      cases h
      rw [bools_eq hi]
      rfl
    · cases h
  | .non :: _, _, h => by cases h
  | .int _ :: _, _, h => by cases h
  | .str _ :: _, _, h => by cases h
  | .ty _ :: _, _, h => by cases h
  | .adr _ :: _, _, h => by cases h
  | .tup _ :: _, _, h => by cases h
  | .fzl _ :: _, _, h => by cases h
  | .ref _ :: _, _, h => by cases h
theorem bools_map (ns : List Bool) : bools (ns.map .bl) = some ns := by
  induction ns with
  | nil => rfl
  | cons n ns ih => simp [bools, ih]
theorem Rls.bls {vs : List V} : ∀ {ns : List Bool}, Rls K H φ vs (ns.map .bl) → vs = ns.map .bl := by
  intro ns
  induction ns generalizing vs with
  | nil => intro h; cases h; rfl
  | cons n ns ih =>
    intro h
    cases h with
    | cons h1 h2 => cases h1; rw [ih h2]; rfl
def gAll : DF := fun xs S => match xs with
  | [d] => match lstOf S d with
    | some ds => match bools ds with
      | some ns => some (.bl (ns.all id), S)
      | none => none
    | none => none
  | _ => none
def gAny : DF := fun xs S => match xs with
  | [d] => match lstOf S d with
    | some ds => match bools ds with
      | some ns => some (.bl (ns.any id), S)
      | none => none
    | none => none
  | _ => none
theorem cd_all (hc : X.calm = true) : CallR X (.builtin "all") (rFD X.K gAll) := by
  intro pins s σ H xs us Q I r h
  obtain ⟨φ, S, as, d, S', rs, la, hd, w⟩ := h
  unfold gAll at hd
  split at hd
  · split at hd
    · rename_i ds h1
      split at hd
      · rename_i ns h2
        cases hd
        obtain ⟨v, rfl, l⟩ := la.one_inv
        obtain ⟨p, vs, rfl, hq, hr⟩ := lstOf_ok rs l h1
        rw [bools_eq h2] at hr
        obtain rfl := hr.bls
        exact cr_all hc pins s σ H _ us Q I r ⟨p, ns, rfl, hq, w.bl rs⟩
      · cases hd
    · cases hd
  · cases hd
theorem cd_any (hc : X.calm = true) : CallR X (.builtin "any") (rFD X.K gAny) := by
  intro pins s σ H xs us Q I r h
  obtain ⟨φ, S, as, d, S', rs, la, hd, w⟩ := h
  unfold gAny at hd
  split at hd
  · split at hd
    · rename_i ds h1
      split at hd
      · rename_i ns h2
        cases hd
        obtain ⟨v, rfl, l⟩ := la.one_inv
        obtain ⟨p, vs, rfl, hq, hr⟩ := lstOf_ok rs l h1
        rw [bools_eq h2] at hr
        obtain rfl := hr.bls
        exact cr_any hc pins s σ H _ us Q I r ⟨p, ns, rfl, hq, w.bl rs⟩
      · cases hd
    · cases hd
  · cases hd
/-- int(n) -/
def gInt : DF := fun xs S => match xs with
  | [.int i] => some (.int i, S)
  | [.bl b] => some (.int (if b then 1 else 0), S)
  | _ => none
theorem cd_int : CallR X (.type "int") (rFD X.K gInt) := by
  intro pins s σ H xs us Q I r h
  obtain ⟨φ, S, as, d, S', rs, la, hd, w⟩ := h
  unfold gInt at hd
  split at hd
  · rename_i i
    cases hd
    obtain rfl := Rls.ints (ns := [i]) la
    exact call_int1 pins s σ H _ us Q I r (.inl ⟨i, rfl, w.int rs⟩)
  · rename_i b
    cases hd
    obtain rfl := Rls.bls (ns := [b]) la
    exact call_int1 pins s σ H _ us Q I r (.inr ⟨b, rfl, w.int rs⟩)
  · cases hd
/-- divmod(n, k), k above 0 -/
def gDivmod : DF := fun xs S => match xs with
  | [.int i, .int j] => if decide (0 < j) && decide (j.natAbs.log2 < 9000) then some (.tup [.int (i / j), .int (i % j)], S) else none
  | _ => none
theorem cd_divmod : CallR X (.builtin "divmod") (rFD X.K gDivmod) := by
  intro pins s σ H xs us Q I r h
  obtain ⟨φ, S, as, d, S', rs, la, hd, w⟩ := h
  unfold gDivmod at hd
  split at hd
  · rename_i i j
    split at hd
    · rename_i hz
      rw [Bool.and_eq_true, decide_eq_true_eq, decide_eq_true_eq] at hz
      cases hd
      obtain rfl := Rls.ints (ns := [i, j]) la
      refine call_divmodW pins s σ H _ us Q I r ⟨i, j, rfl, ⟨hz.1, PyProof.noPylong_of_log2 hz.2⟩, fun p np => ?_⟩
      obtain ⟨e2, r2⟩ := ext_tup rs np [.int (i / j), .int (i % j)]
      exact w _ _ _ e2 r2 (.tup (SqT.of upd_same) (.cons (.int _) (.cons (.int _) .nil)))
    · cases hd
  · cases hd
/-- list(xs), tuple(xs) -/
def gList : DF := fun xs S => match xs with
  | [d] => match items S d with
    | some ds => some (.ref S.length, S ++ [.lst ds])
    | none => none
  | _ => none
theorem cd_list : CallR X (.type "list") (rFD X.K gList) := by
  intro pins s σ H xs us Q I r h
  obtain ⟨φ, S, as, d, S', rs, la, hd, w⟩ := h
  unfold gList at hd
  split at hd
  · split at hd
    · rename_i ds hi
      cases hd
      obtain ⟨v, rfl, l⟩ := la.one_inv
      obtain ⟨p, vs, rfl, hq, hr⟩ := items_ok rs l hi
      refine call_list_of pins s σ H _ us Q I r ⟨p, vs, rfl, hq, fun q nq => ?_⟩
      obtain ⟨e2, r2, l2⟩ := ext_lst rs nq hr
      exact w _ _ _ e2 r2 l2
    · cases hd
  · cases hd
def gTuple : DF := fun xs S => match xs with
  | [.tup ds] => some (.tup ds, S)
  | [d] => match lstOf S d with
    | some ds => some (.tup ds, S)
    | none => none
  | _ => none
theorem cd_tuple : CallR X (.type "tuple") (rFD X.K gTuple) := by
  intro pins s σ H xs us Q I r h
  obtain ⟨φ, S, as, d, S', rs, la, hd, w⟩ := h
  unfold gTuple at hd
  split at hd
  · rename_i ds
    cases hd
    obtain ⟨v, rfl, l⟩ := la.one_inv
    cases l with
    | tup h1 h2 => exact call_tuple_of pins s σ H _ us Q I r ⟨_, _, rfl, .inr ⟨h1, w.here rs (.tup h1 h2)⟩⟩
  · split at hd
    · rename_i ds hi
      cases hd
      obtain ⟨v, rfl, l⟩ := la.one_inv
      obtain ⟨p, vs, rfl, hq, hr⟩ := lstOf_ok rs l hi
      refine call_tuple_of pins s σ H _ us Q I r ⟨p, vs, rfl, .inl ⟨hq, fun q nq => ?_⟩⟩
      obtain ⟨e2, r2⟩ := ext_tup rs nq vs
      exact w _ _ _ e2 r2 (.tup (SqT.of upd_same) (Rls.mono e2 _ _ hr))
    · cases hd
  · cases hd
/-- repr of a list or a tuple of data -/
def gRepr : DF := fun xs S => match xs with
  | [d] => match items S d with
    | some _ => match py 40 S d with
      | some p => if p.showable = true ∧ p.hasDict = false ∧ p.depth ≤ 60 ∧ p.shown.length ≤ sizeLine then some (.str p.shown, S) else none
      | none => none
    | none => none
  | _ => none
theorem cd_repr (hg : X.A.guards = some []) (hu : X.A.units + 64 < cLine) : CallR X (.builtin "repr") (rFD X.K gRepr) := by
  intro pins s σ H xs us Q I r h
  obtain ⟨φ, S, as, d, S', rs, la, hd, w⟩ := h
  unfold gRepr at hd
  split at hd
  · split at hd
    · rename_i ds hi
      split at hd
      · rename_i p hp
        split at hd
        · rename_i hz
          obtain ⟨z1, z2, z3, z4⟩ := hz
          cases hd
          obtain ⟨v, rfl, l⟩ := la.one_inv
          obtain ⟨a, vs, rfl, hq, hr⟩ := items_ok rs l hi
          obtain ⟨u, rfl, ru⟩ := r.one
          have ru' : u = Value.ref a := ru
          subst ru'
          obtain ⟨as, rd⟩ := Dp.reads I p _ _ (py_dp rs _ _ _ _ l hp) rfl
          refine repr_of_reads' rd z1 (PyData.noDict_hsm z2) hg (by omega) (fun _ _ q => q) (fun h' u tk hk => ?_) z4
          exact ⟨.str p.shown, H, I.kept hk, ⟨_, rfl⟩, w.here rs (.str _)⟩
        · cases hd
      · cases hd
    · cases hd
  · cases hd
/-- isinstance(x, T), T a built-in class -/
def tyD (S : Sto) : D → Option String
  | .non => some "NoneType"
  | .bl _ => some "bool"
  | .int _ => some "int"
  | .str _ => some "str"
  | .tup _ => some "tuple"
  | .fzl _ => some "list"
  | .ref i => match S[i]? with
    | some (.lst _) => some "list"
    | _ => none
  | _ => none
theorem tyD_ok (rs : RS K H φ S) {x : V} {d : D} {t : String} (l : Rl K H φ x d) (h : tyD S d = some t) : TyX K H x (.type t) := by
  unfold tyD at h
  split at h
  · cases h; cases l; exact .base .non
  · cases h; cases l; exact .base (.bl _)
  · cases h; cases l; exact .base (.int _)
  · cases h; cases l; exact .base (.str _)
  · cases h
    cases l with
    | tup h1 h2 =>
      rcases h1 with (h1 | ⟨o, h1⟩) | ⟨o, its, n, h1, h3, _⟩
      · exact .base (.tup h1)
      · exact .fTuple h1
      · exact .kTuple h1 h3
  · cases h
    cases l with
    | fzl h1 h2 =>
      rcases h1 with ⟨o, h1⟩ | ⟨o, its, n, h1, h3, _⟩
      · exact .base (.frz h1)
      · exact .kList h1 h3
  · split at h
    · rename_i hs
      cases h
      obtain ⟨p, vs, rfl, hp, hv, hr⟩ := rs.list l hs
      exact .base (.lst hv)
    · cases h
  · cases h
def gIsi : DF := fun xs S => match xs with
  | [d, .ty n] => match tyD S d with
    | some t => match kitB t n with
      | some b => some (.bl b, S)
      | none => none
    | none => none
  | _ => none
theorem cd_isi : CallR X (.builtin "isinstance") (rFD X.K gIsi) := by
  intro pins s σ H xs us Q I r h
  obtain ⟨φ, S, as, d, S', rs, la, hd, w⟩ := h
  unfold gIsi at hd
  split at hd
  · split at hd
    · rename_i t ht
      split at hd
      · rename_i b hb
        cases hd
        obtain ⟨v, v', rfl, l1, l2⟩ := la.two_inv
        cases l2
        exact call_isi pins s σ H _ us Q I r ⟨_, _, _, _, b, rfl, .ty _, tyD_ok rs l1 ht, kit_ty hb, w.bl rs⟩
      · cases hd
    · cases hd
  · cases hd
/-- a built-in class as a value -/
theorem we_ty {x : Str} {n : String} (hg : Gl X x) (hm : X.mg x = none) (hv : bootBuiltins x = some (.type n)) (hn : x ≠ "__name__" := by decide) (hd : (x == ("__debug__" : Str)) = false := by decide) : PE X (.Name x pos) (tD X.K (dC (.ty n))) :=
  PE.imp (pe_bltn (v := .ty n) hg hm hv rfl hn hd) fun σ H Q ⟨φ, ρ, S, d, S', re, rs, hd, w⟩ => by cases hd; exact w.here rs (.ty n)
/-- a module's constant int -/
theorem we_glI {x : Str} {i : Int} {t : Tok} (hg : Gl X x) (hm : X.mg x = some (.int i t)) (hd : (x == ("__debug__" : Str)) = false := by decide) : PE X (.Name x pos) (tD X.K (dC (.int i))) :=
  PE.imp (pe_glob (v := .int i) hg hm ⟨_, rfl⟩ hd) fun σ H Q ⟨φ, ρ, S, d, S', re, rs, hd, w⟩ => by cases hd; exact w.here rs (.int i)

/-! methods -/
def dMt (g : D → DF) (f : DE) (h : DA) : DE := fun ρ S => match f ρ S with
  | some (x, S1) => match h ρ S1 with
    | some (ds, S2) => g x ds S2
    | none => none
  | none => none
/-- xs.append(e) -/
def gAppend : D → DF := fun x ds S => match x, ds with
  | .ref i, [d] => match S[i]? with
    | some (.lst es) => if es.length < sizeLine then some (.non, S.set i (.lst (es ++ [d]))) else none
    | _ => none
  | _, _ => none
/-- xs.pop(i) -/
def gPopAt : D → DF := fun x ds S => match x, ds with
  | .ref i, [.int j] => match S[i]? with
    | some (.lst es) => if in62 j then match seqIndex? j es.length with
        | some k => match es[k]? with
          | some d => some (d, S.set i (.lst (es.eraseIdx k)))
          | none => none
        | none => none
      else none
    | _ => none
  | _, _ => none
/-- xs.count(n) of intsD -/
def gCount : D → DF := fun x ds S => match ds with
  | [.int k] => match lstOf S x with
    | some es => match intsD es with
      | some ns => some (.int (ns.count k : Nat), S)
      | none => none
    | none => none
  | _ => none
theorem we_append {f : DE} {h : DA} {apos : Pos} (ho : PE X o (tD X.K f)) (ha : PA X (e :: es) (tA X.K h)) (hbase : attributeBase o "append" X.env (eval o X.env) = eval o X.env := by rfl)
    (hfew : ((backTo pos (starEach (e :: es) X.env)).all (fun x => !x.1) && (backToKw pos (keywordEach [] X.env)).all (fun x => x.1.isSome) && decide ((e :: es).length + ([] : List Keyword).length + (if ([] : List Keyword).isEmpty then 0 else 1) < 30)) = true := by rfl)
    (hline : (apos.endLine == pos.line) = true := by rfl) (hs : starEach (e :: es) X.env = (false, eval e X.env) :: starEach es X.env := by rfl) (hplain : (backTo pos (starEach es X.env)).any (·.1) = false := by rfl) :
    PE X (.Call (.Attribute o "append" apos) (e :: es) [] pos) (tD X.K (dMt gAppend f h)) := by
  refine PE.imp (pe_bm PySem.F.plainAttrs_list PySem.F.slot_list_append PySem.F.type_list_append mt_append ho ha hbase hfew hline hs hplain) fun σ H Q ⟨φ, ρ, S, d, S', re, rs, hd, w⟩ => ?_
  unfold dMt at hd
  split at hd
  · rename_i x S1 h1
    split at hd
    · rename_i ds S2 h2
      unfold gAppend at hd
      split at hd
      · rename_i i d
        split at hd
        · rename_i es' hs
          split at hd
          · rename_i hz
            cases hd
            refine ⟨φ, ρ, S, _, S1, re, rs, h1, fun v H1 φ1 e1 r1 l1 => ⟨?_, φ1, ρ, S1, _, _, re.mono e1, r1, h2, fun vs H2 φ2 e2 r2 l2 => ?_⟩⟩
            · cases l1 with
              | ref hi hn =>
                obtain ⟨ds', hq⟩ := r1.isList (.ref hi hn)
                obtain ⟨ws, hv, _⟩ := r1.ob i _ _ hi hq
                exact .inl ⟨rfl, _, SqL.of hv⟩
            · obtain ⟨y, rfl, ly⟩ := l2.one_inv
              obtain ⟨p, ws, rfl, hp, hv, hr⟩ := r2.list (Rl.mono e2 _ _ l1) hs
              obtain ⟨e3, r3⟩ := ext_set r2 hp (hr.app (Rls.one ly))
              exact ⟨p, ws, y, rfl, rfl, hv, by rw [hr.len]; exact hz, w _ _ _ (e1.trans (e2.trans e3)) r3 .non⟩
          · cases hd
        · cases hd
      · cases hd
    · cases hd
  · cases hd
theorem we_pop {f : DE} {h : DA} {apos : Pos} (ho : PE X o (tD X.K f)) (ha : PA X (e :: es) (tA X.K h)) (hbase : attributeBase o "pop" X.env (eval o X.env) = eval o X.env := by rfl)
    (hfew : ((backTo pos (starEach (e :: es) X.env)).all (fun x => !x.1) && (backToKw pos (keywordEach [] X.env)).all (fun x => x.1.isSome) && decide ((e :: es).length + ([] : List Keyword).length + (if ([] : List Keyword).isEmpty then 0 else 1) < 30)) = true := by rfl)
    (hline : (apos.endLine == pos.line) = true := by rfl) (hs : starEach (e :: es) X.env = (false, eval e X.env) :: starEach es X.env := by rfl) (hplain : (backTo pos (starEach es X.env)).any (·.1) = false := by rfl) :
    PE X (.Call (.Attribute o "pop" apos) (e :: es) [] pos) (tD X.K (dMt gPopAt f h)) := by
  refine PE.imp (pe_bm PySem.F.plainAttrs_list PySem.F.slot_list_pop PySem.F.type_list_pop mt_popAt ho ha hbase hfew hline hs hplain) fun σ H Q ⟨φ, ρ, S, d, S', re, rs, hd, w⟩ => ?_
  unfold dMt at hd
  split at hd
  · rename_i x S1 h1
    split at hd
    · rename_i ds S2 h2
      unfold gPopAt at hd
      split at hd
      · rename_i i j
        split at hd
        · rename_i es' hs
          split at hd
          · rename_i hz
            split at hd
            · rename_i k hk
              split at hd
              · rename_i d' hd'
                cases hd
                refine ⟨φ, ρ, S, _, S1, re, rs, h1, fun v H1 φ1 e1 r1 l1 => ⟨?_, φ1, ρ, S1, _, _, re.mono e1, r1, h2, fun vs H2 φ2 e2 r2 l2 => ?_⟩⟩
                · cases l1 with
                  | ref hi hn =>
                    obtain ⟨ds', hq⟩ := r1.isList (.ref hi hn)
                    obtain ⟨ws, hv, _⟩ := r1.ob i _ _ hi hq
                    exact .inl ⟨rfl, _, SqL.of hv⟩
                · obtain rfl := Rls.ints (ns := [j]) l2
                  obtain ⟨p, ws, rfl, hp, hv, hr⟩ := r2.list (Rl.mono e2 _ _ l1) hs
                  obtain ⟨z, hz', lz⟩ := hr.get k hd'
                  obtain ⟨e3, r3⟩ := ext_set r2 hp (hr.erase k)
                  exact ⟨p, ws, j, k, z, rfl, rfl, hv, (in62_63 hz).1, (in62_63 hz).2, by rw [hr.len]; exact hk, hz', w _ _ _ (e1.trans (e2.trans e3)) r3 (Rl.mono e3 _ _ lz)⟩
              · cases hd
            · cases hd
          · cases hd
        · cases hd
      · cases hd
    · cases hd
  · cases hd
end
end Ev

set_option maxHeartbeats 1000000
/-! EvH: a law's end. -/
namespace Ev
open PySem PySem.Spec PyProof.Rows L2
section
variable {P : Program} {w : World} {K : PySem.W.Frag} {mg mb : Str → Option Value} {k : Nat} {fa a : Addr} {fd : FuncData} {x : Str} {sp : Sp} {s1 : Shared} {vs : List Value} {ns : List Int}
/-- the law's call from a heap in which at most the script is known -/
theorem end_core {H : Hp} (inK : K.In s1.heap) (gl : s1.heap.Ns mainGlobals mg) (bl : s1.heap.Ns builtinsNs mb) (bb : ∀ x : Str, x ≠ "__name__" → mb x = bootBuiltins x) (lim : s1.heap.NoLimit) (ge : s1.gens = #[])
    (ha : s1.heap.get? a = some { cls := .type "list", data := .seq vs.toArray }) (hr : Room k callerA)
    (F : ∀ base : Heap, K.In base → base.Ns mainGlobals mg → FnG P w K mg base k fa fd [x] sp) (hbind : ∀ (s : Shared) (u : Value), BindsTo s fd ⟨[u], []⟩ [(x, u)])
    (hsp : sp [.ref a] H (fun v _ => v = .bl true) fun _ _ _ => False)
    (hO : Only H) (hok : HOk P w H s1.heap) (hA : ∀ b, H b ≠ none → b = a) (hK : H a ≠ none → K.lookup a = none) :
    codeAny (model P w) callerA (.call (.ref fa) ⟨[.ref a], []⟩) (fun r s' => r = .ok (.ret (.bool true)) ∧ OldK s1.heap s'.heap ∧ s'.os = s1.os ∧ AllBare s'.gens) s1 := by
  have none_of : ∀ {b : Addr} {o : Obj}, s1.heap.get? b = some o → (∀ u, H b = some u → False) → (hidT s1.heap H).get? b = some o := fun {b o} e n => hidT_get e (by
    cases q : H b with
    | none => rfl
    | some u => exact (n u q).elim)
  have at_a : ∀ {b : Addr} {u : HO}, H b = some u → b = a := fun {b u} q => hA b (by rw [q]; exact fun z => by cases z)
  have space : ∀ {b : Addr} {m : Str → Option Value}, s1.heap.Ns b m → (hidT s1.heap H).Ns b m := by
    rintro b m ⟨o, es, ep, e, d, r⟩
    refine ⟨o, es, ep, none_of e fun u q => ?_, d, r⟩
    rw [at_a q, ha] at e
    cases e
    cases d
  have inB : K.In (hidT s1.heap H) := fun b o e => none_of (inK b o e) fun u q => by
    have z := at_a q
    subst z
    rw [hK (by rw [q]; exact fun z => by cases z)] at e
    cases e
  have md : Mod K mg (hidT s1.heap H) := ⟨inB, space gl, ⟨mb, space bl, bb⟩, by
    obtain ⟨mc, h1, h2⟩ := lim
    exact ⟨mc, space h1, h2⟩⟩
  have nobody : ∀ b ∈ frs [], H b = none := fun b hb => absurd hb (show ¬ b ∈ ([] : List Addr) from by simp)
  have e0 : Env0 P w K mg (hidT s1.heap H) callerA [] s1 H := ⟨rfl, md, fun b o e => of_hidT e, Nat.le_of_eq (hidT_size _ _), trivial, nobody, hok, AllBare.of_eq ge⟩
  refine codeAny_mono ((F _ inB (space gl)).run callerA [] s1 H ⟨[.ref a], []⟩ [.ref a] [.ref a] _ rfl hr e0 (hbind s1 _) (.cons rfl .nil) hsp) ?_
  intro r s' h
  cases r with
  | error e => exact (show False from h).elim
  | ok fl =>
    cases fl with
    | ret u =>
      obtain ⟨v, H', os, bare, un, hok', rv, q⟩ := h
      have e1 : v = .bl true := q
      subst e1
      have e2 : u = Value.bool true := rv
      subst e2
      refine ⟨rfl, OldK.of_keep ?_, os, bare⟩
      intro b o e
      cases q2 : H b with
      | none => exact un.keep b o e q2 (by intro z; cases z) (by simp)
      | some u =>
        rcases hO b with z | ⟨ob, xs, z⟩
        · rw [q2] at z
          cases z
        · have t1 := (hok b _ z).1
          have t2 := (hok' b _ (un.frzs b ob _ z)).1
          rw [e] at t1
          cases t1
          exact t2
    | next => exact (show False from h).elim
    | brk => exact (show False from h).elim
    | cont => exact (show False from h).elim
end
theorem fz_only {K : PySem.W.Frag} {H : Hp} {a : Addr} {xs : List V} (hO : Only H) (h : SqL K H a xs) : Fz K H a xs := by
  rcases h with (h | ⟨o, h⟩) | h
  · rcases hO a with z | ⟨o, ys, z⟩
    · rw [h] at z; cases z
    · rw [h] at z; cases z
  · exact .inl ⟨o, h⟩
  · exact .inr h
theorem rls_ints {K : PySem.W.Frag} {H : Hp} {φ : List Addr} (ns : List Int) : Rls K H φ (ns.map V.int) (ns.map D.int) := by
  induction ns with
  | nil => exact .nil
  | cons n ns ih => exact .cons (.int n) ih
theorem rs_nil {K : PySem.W.Frag} {H : Hp} : RS K H [] [] := ⟨rfl, List.nodup_nil, fun i a o h => by simp at h⟩
/-- what the head leaves, from what the law's def is worth -/
theorem end_of {l : PySem.W.OpenLaw} {n k : Nat} {q : Program} {loose : List Str} {XP : (Str → Option Value) → Heap → Prop} {YP : World → Heap → Prop} {d : DefRec} {K : Params → PySem.W.Frag} {x : Str} {m : DF}
    (hn : l.most = some n) (hn2 : n ≤ sizeLine) (hdf : d.params.defaults = []) (hr : Room k callerA) (hY : ∀ (w : World) (h : Heap), YP w h → (K w.params).In h)
    (F : ∀ (w : World) (mg : Str → Option Value) (fa : Addr) (h : Heap), (K w.params).In h → h.Ns mainGlobals mg → mg d.name = some (.ref fa) →
      ∃ fd : FuncData, (∀ (s : Shared) (u : Value), BindsTo s fd ⟨[u], []⟩ [(x, u)]) ∧ ∀ base : Heap, (K w.params).In base → base.Ns mainGlobals mg → FnG l.prog w (K w.params) mg base k fa fd [x] (spD (K w.params) 1 m))
    (hm : ∀ ns : List Int, ns.length ≤ n → ∃ S', m [.fzl (ns.map .int)] [] = some (.bl true, S')) : PySem.W.WalkO q loose XP YP l.row.toRowW d [] (fun f vs => PySem.call f vs) := by
  refine Att.attach_call hn hdf ?_
  intro w s₀ s1 mg mb fa o pm cd doc a vs ns G Y ho hd hcd hmg hobj hints hlen hg
  have inK := hY w _ Y
  obtain ⟨fd, hb, hF⟩ := F w mg fa _ inK G.T.g hmg
  have rv := vals_ints hints
  have lenV := hints.length
  have promise : ∀ H : Hp, Only H → SqL (K w.params) H a (ns.map V.int) → spD (K w.params) 1 m [.ref a] H (fun v _ => v = .bl true) fun _ _ _ => False := fun H hO hS => by
    obtain ⟨S', e⟩ := hm ns hlen
    refine ⟨rfl, [], [], _, _, S', rs_nil, .cons (.fzl (fz_only hO hS) (rls_ints ns)) .nil, e, fun v H' φ' _ _ l => ?_⟩
    cases l
    rfl
  cases hk : (K w.params).lookup a with
  | none =>
    have hO : Only fun b => if b = a then some (.frz { cls := .type "list", data := .seq vs.toArray } (.lst (ns.map V.int))) else none := fun b => by
      by_cases hb : b = a
      · exact Or.inr ⟨_, _, if_pos hb⟩
      · exact Or.inl (if_neg hb)
    refine end_core inK G.T.g G.T.b G.T.builtins G.T.nolimit hg hobj hr hF hb (promise _ hO (Or.inl (Or.inr ⟨_, if_pos rfl⟩))) hO ?_ ?_ fun _ => hk
    · intro b u z
      by_cases hb : b = a
      · subst hb
        have z' := (if_pos rfl).symm.trans z
        cases z'
        exact ⟨hobj, by rw [List.length_map]; exact Nat.le_trans hlen hn2, vs, _, rv, hobj⟩
      · have z' := (if_neg hb).symm.trans z
        cases z'
    · intro b z
      by_cases hb : b = a
      · exact hb
      · exact (z (if_neg hb)).elim
  | some o2 =>
    have e := inK a o2 hk
    rw [hobj] at e
    cases e
    have hO : Only fun _ => none := fun _ => Or.inl rfl
    refine end_core inK G.T.g G.T.b G.T.builtins G.T.nolimit hg hobj hr hF hb (promise _ hO (Or.inr ⟨_, vs.toArray, _, hk, rfl, rfl, rfl, ?_, by simpa using rv⟩)) hO ?_ ?_ ?_
    · rw [List.size_toArray, lenV]
      exact Nat.le_trans hlen hn2
    · intro b u z
      have z' : (none : Option HO) = some u := z
      cases z'
    · intro b z
      exact (z rfl).elim
    · intro z
      exact (z rfl).elim
end Ev

set_option maxHeartbeats 1000000
/-! EvU: enumerate of a tuple; a tuple taken a number of times. -/
namespace Ev
open PySem PySem.Spec PyProof.Rows L2

theorem next_enumT_end {prog : Program} {w : World} {A : Around} {E : Value → Shared → Prop} {s : Shared} {e it l : Addr} {i : Nat} {items : Array Value} {old : Value} {Q : Option Value → Shared → Prop} (hh : A.handled = none)
    (he : IsEnum s.heap e it i old) (hit : s.heap.IsTupleIter it l i) (hl : s.heap.IsTuple l items) (hx : items[i]? = none)
    (hQ : ∀ h', Heap.ExtBut it s.heap h' → Q none { s with heap := h' }) : wpAny (model prog w) A (pyNext (.ref e)) Q E s := by
  have hT : s.TypeIs (.ref e) "enumerate" := ⟨_, he, rfl⟩
  unfold pyNext
  refine wpAny_bind (wpAny_attempt (wpAny_callSpecial?_slot (name := Str.ofString "__next__") hT F.slot_enumerate_next
    (wpAny_call_entry F.slot_enumerate_next hT F.entry_enumerate_next ?_ (F.args_enumerate_next_1 _))))
  show wpAny _ _ (field (.ref e) 2 >>= _) _ _ _
  refine wpAny_bind (wpAny_field he rfl (x := .ref it) rfl ?_)
  refine wpAny_bind (RZ.nextOf_tuple_end (by first | exact hh | (rw [show A.in1.handled = none from hh])) hit hl hx fun h' x he' hx' => ?_)
  obtain ⟨o, ho, hc⟩ := hx'
  refine wpAny_bind (wpAny_isInstance (T := "StopIteration") (b := true) ⟨o, ho, hc⟩ isSubtype_stop ?_)
  exact wpAny_pure (hQ _ he')
theorem meets_enumerate_newT (l : Addr) (items : Array Value) :
    Meets (Builtin.«enumerate.__new__» ⟨[.type "enumerate", .ref l], []⟩) (fun _ R s => s.heap.IsTuple l items ∧
      R (.ok (.ret (.ref (s.heap.push { cls := .type "tuple_iterator", data := .fields #[.ref l, .int 0 0] }).objs.size)))
        { s with heap := (s.heap.push { cls := .type "tuple_iterator", data := .fields #[.ref l, .int 0 0] }).push { cls := .type "enumerate", data := .fields #[.none, .bool false, .ref s.heap.objs.size, rawInt 0, .none, .none] } }) :=
  .of_wp fun prog w A R s h => by
    obtain ⟨hp, g, d, tk, os⟩ := s; obtain ⟨hl, h⟩ := h
    have hsub := sub_enumerate
    have q1 : ∀ {A' : Around} {E : Value → Shared → Prop} {Q : Value → Shared → Prop}, Q (.ref hp.objs.size) ⟨hp.push { cls := .type "tuple_iterator", data := .fields #[.ref l, .int 0 0] }, g, d, tk, os⟩ → wpAny (model prog w) A' (pyIter (.ref l)) Q E ⟨hp, g, d, tk, os⟩ :=
      fun q => (begins_tuple l items).iter prog w _ _ ⟨hp, g, d, tk, os⟩ _ hl q
    wp_walk using q1
    refine wpAny_stack_any fun st => wpAny_pure ?_
    split
    · rename_i c _ _ _ _ _
      cases (c == Value.type "enumerate")
      · wp_walk using q1
        exact ⟨_, rfl, h⟩
      · wp_walk using q1
        exact ⟨_, rfl, h⟩
    · wp_walk using q1
      exact ⟨_, rfl, h⟩
theorem call_enumerate_tuple {prog : Program} {w : World} {A : Around} {E : Value → Shared → Prop} {s : Shared} {l : Addr} {items : Array Value} {Q : Value → Shared → Prop} (hL : s.heap.IsTuple l items)
    (h : ∀ h', IsEnum h' (s.heap.objs.size + 1) s.heap.objs.size 0 .none → h'.IsTupleIter s.heap.objs.size l 0 → h'.objs.size = s.heap.objs.size + 2 →
      (∀ b o, s.heap.get? b = some o → h'.get? b = some o) → Q (.ref (s.heap.objs.size + 1)) { s with heap := h' }) :
    wpAny (model prog w) A (call (.type "enumerate") [.ref l]) Q E s := by
  refine callType_new F.called_enumerate (by decide) (F.typeCall_enumerate_1 _) (F.newCall_enumerate_1 _) (fun obj => F.args_object_init_2 obj _) F.entry_enumerate_new
    (meets_enumerate_newT l items) ⟨hL, ?_⟩
  have hz : (s.heap.push { cls := .type "tuple_iterator", data := .fields #[.ref l, .int 0 0] }).objs.size = s.heap.objs.size + 1 := Heap.size_push ..
  show _ ∧ _
  rw [hz]
  have he : IsEnum ((s.heap.push { cls := .type "tuple_iterator", data := .fields #[.ref l, .int 0 0] }).push
      { cls := .type "enumerate", data := .fields #[.none, .bool false, .ref s.heap.objs.size, rawInt 0, .none, .none] }) (s.heap.objs.size + 1) s.heap.objs.size 0 .none := by
    have := Heap.get?_push_size (s.heap.push { cls := .type "tuple_iterator", data := .fields #[.ref l, .int 0 0] })
      (o := { cls := .type "enumerate", data := .fields #[.none, .bool false, .ref s.heap.objs.size, rawInt 0, .none, .none] }) rfl
    rw [hz] at this; exact this
  refine ⟨⟨_, he, rfl⟩, h _ he ⟨_, Heap.get?_push_of_some _ (Heap.get?_push_size _ rfl), rfl, rfl⟩ (by rw [Heap.size_push, hz]) fun b o x => Heap.get?_push_of_some _ (Heap.get?_push_of_some _ x)⟩
def IteT (K : PySem.W.Frag) (a : Addr) : It :=
  ⟨fun i H => ∃ (xs : List V) (x : V), SqT K H a xs ∧ xs[i]? = some x, fun i H v H' => ∃ T x, v = .ref T ∧ H T = none ∧ H' = upd H T (.tup [.int (i : Nat), x]) ∧ ∀ xs, SqT K H a xs → xs[i]? = some x, fun i H => ∃ xs : List V, SqT K H a xs ∧ xs.length ≤ i⟩
theorem turn_enumT {P : Program} {w : World} {K : PySem.W.Frag} {elts : List Expr} {kk : Nat} {tpos : Pos} (a e it : Addr) :
    L2.Turn P w K (.Tuple elts kk tpos) (IteT K a) [e, it] e (fun i h => (∃ old, IsEnum h e it ((i : Nat) : Int) old) ∧ h.IsTupleIter it a i ∧ e ≠ it ∧ a ≠ it ∧ a ≠ e) where
  mem := by simp
  obj := fun i h st b hb => by
    obtain ⟨⟨old, he⟩, ⟨o, ho, hc, hd⟩, _⟩ := st
    have e' : b = e ∨ b = it := by simpa using hb
    rcases e' with z | z
    · rw [z]; exact ⟨_, he, fun v q => nomatch q⟩
    · rw [z]; exact ⟨o, ho, fun v q => by rw [hd] at q; cases q⟩
  keep := fun i h h' st k => let ⟨⟨old, he⟩, hi, hne⟩ := st; ⟨⟨old, k e (by simp) _ he⟩, hi.at fun o q => k it (by simp) o q, hne⟩
  item := by
    intro X hP hw hK hc i pins s σ H E I hf st hg
    subst hP hw hK
    obtain ⟨⟨old, he⟩, hit, hne, hai, hae⟩ := st
    obtain ⟨xs, x, hq, hx⟩ := hg
    obtain ⟨its, rv, p, hz⟩ := I.tuple hq
    obtain ⟨u, hu, ru⟩ := rv.get hx
    have hel : e < s.heap.objs.size := Heap.lt_size he
    have hil : it < s.heap.objs.size := by obtain ⟨_, q, _⟩ := hit; exact Heap.lt_size q
    have hlt : i < its.toArray.size := by
      have := (List.getElem?_eq_some_iff.mp hu).1
      simpa using this
    refine wpAny_pyNext_enum_itemD (Draws.tuple (by first | exact I.ok.hd hc | exact (I.ok.hd hc)) it a hai its.toArray) he ⟨hit, p⟩ hlt hne (by simp; exact ⟨hne, fun z => hae z.symm⟩) fun y h' tk hy ho hst' hT hsz hk => ?_
    obtain ⟨hit', _⟩ := hst'
    have hyu : y = u := by
      have : its.toArray[i]? = some u := by simpa using hu
      rw [this] at hy
      exact (Option.some.inj hy).symm
    subst hyu
    refine ⟨_, rfl, wpAny_letOwnedTupleGo_enum (s := { s with heap := h', toks := tk + 1 }) ho fun h'' he' sb => ?_⟩
    have hT2 : h''.get? s.heap.objs.size = some { cls := .type "tuple", data := .seq #[.int i tk, y] } := (sb.2 _ (Nat.ne_of_gt hel)).trans hT
    have new : ObjOk X.prog X.w (upd H s.heap.objs.size (.tup [.int (i : Nat), x])) h'' s.heap.objs.size (.tup [.int (i : Nat), x]) :=
      ⟨by show 2 ≤ sizeLine; decide, [.int i tk, y], .cons ⟨_, rfl⟩ (.cons ru .nil), ⟨_, hT2, rfl, _, rfl⟩⟩
    have I1 : Inv X pins σ (upd H s.heap.objs.size (.tup [.int (i : Nat), x])) { s with heap := h'', toks := tk + 1 } :=
      I.turnedNew (ch := [e, it]) (fun b ob hb q => (sb.2 b (fun z => hb (by simp [z]))).trans (hk b ob (fun z => hb (by simp [z])) (fun z => hb (by simp [z])) q)) hf (Nat.le_refl _) new
    refine ⟨.ref s.heap.objs.size, _, I1, rfl, ⟨_, x, rfl, I.hok.fresh (Nat.le_refl _), rfl, fun ys hy => by rw [I.tuple_inj hy hq]; exact hx⟩, ⟨⟨y, ?_⟩, hit'.at fun o q => (sb.2 it (Ne.symm hne)).trans q, hne, hai, hae⟩, fun b hb => ?_⟩
    · have e1 : ((i + 1 : Nat) : Int) = (i : Int) + 1 := by omega
      rw [e1]; exact he'
    · have hb' : b < s.heap.objs.size := by
        have e' : b = e ∨ b = it := by simpa using hb
        rcases e' with z | z
        · rw [z]; exact hel
        · rw [z]; exact hil
      rw [upd_ne (Nat.ne_of_lt hb')]
      exact (hf b hb).1
  done := by
    intro X hP hw hK hc i pins s σ H E I hf st hg
    subst hP hw hK
    obtain ⟨⟨old, he⟩, hit, hne, hai, hae⟩ := st
    obtain ⟨xs, hq, hx⟩ := hg
    obtain ⟨its, rv, p, hz⟩ := I.tuple hq
    obtain ⟨f0, f1, f2, f3, f4, f5⟩ := hf it (by simp)
    have hl := rv.length
    exact next_enumT_end (I.ok.hd hc) he hit p (by simp; omega) fun h' eb => ⟨rfl, I.turned (t' := s.toks) (fun b o hb q => eb b o hb q) f0 f1 f3 f4 f5⟩
  self := fun A i s Q E st h => let ⟨⟨_, he⟩, _⟩ := st; wpAny_pyIter_enum he h
def iEnumA (K : PySem.W.Frag) (ta : TA) : TI := fun σ H R => ta σ H fun vs H1 => ∃ a xs, vs = [.ref a] ∧ ((SqL K H1 a xs ∧ R (Ite K a) H1) ∨ (SqT K H1 a xs ∧ R (IteT K a) H1))
theorem pi_enumA {X : Cx} {e : Expr} {ta : TA} {p pos tpos : Pos} {elts : List Expr} {kk : Nat} (hg : Gl X "enumerate") (hm : X.mg "enumerate" = none) (ha : PA X [e] ta) (hs : starEach [e] X.env = [(false, eval e X.env)] := by rfl) :
    PI X (.Tuple elts kk tpos) (.Call (.Name "enumerate" p) [e] [] pos) (iEnumA X.K ta) := by
  refine ⟨fun pins s σ H R I h => ?_⟩
  refine Call_ (ld_blt I hg hm boot_enumerate (PyProof.Rows.callWith_type1 (thn (ha.run pos pins s σ H _ I h) fun us s1 ⟨vs, H1, I1, r1, q1⟩ => ?_) hs rfl))
  obtain ⟨a, xs, ex, q1⟩ := q1
  subst ex
  cases r1 with
  | cons r rr =>
    cases rr
    cases r
    have fresh2 : ∀ b, b ∈ [s1.heap.objs.size + 1, s1.heap.objs.size] → FpOk X pins H1 b := fun b hb => by
      have e' : b = s1.heap.objs.size + 1 ∨ b = s1.heap.objs.size := by simpa using hb
      have hle : s1.heap.objs.size ≤ b := by
        rcases e' with z | z
        · rw [z]; exact Nat.le_add_right _ _
        · rw [z]; exact Nat.le_refl _
      exact I1.fpOk hle (I1.hok.fresh hle)
    rcases q1 with ⟨hq, q⟩ | ⟨hq, q⟩
    · obtain ⟨its, rv, p', hz⟩ := I1.list hq
      refine call_enumerate_list p'.isList fun h' he hit hsz hk => wpAny_pyIter_enum he ?_
      have I2 : Inv X pins σ H1 { s1 with heap := h' } := I1.kept (t' := s1.toks) hk
      exact ⟨s1.heap.objs.size + 1, [s1.heap.objs.size + 1, s1.heap.objs.size], _, _, H1, rfl, I2, turn_enum a (s1.heap.objs.size + 1) s1.heap.objs.size, ⟨⟨.none, he⟩, hit, Nat.succ_ne_self _⟩, fresh2, q⟩
    · obtain ⟨its, rv, p', hz⟩ := I1.tuple hq
      obtain ⟨oa, hoa, _⟩ := id p'
      have hal : a < s1.heap.objs.size := Heap.lt_size hoa
      refine call_enumerate_tuple (show s1.heap.IsTuple a its.toArray from p') fun h' he hit hsz hk => wpAny_pyIter_enum he ?_
      have I2 : Inv X pins σ H1 { s1 with heap := h' } := I1.kept (t' := s1.toks) hk
      exact ⟨s1.heap.objs.size + 1, [s1.heap.objs.size + 1, s1.heap.objs.size], _, _, H1, rfl, I2, turn_enumT a (s1.heap.objs.size + 1) s1.heap.objs.size, ⟨⟨.none, he⟩, hit, Nat.succ_ne_self _, Nat.ne_of_lt hal, Nat.ne_of_lt (Nat.lt_succ_of_lt hal)⟩, fresh2, q⟩
end Ev

set_option maxHeartbeats 1000000
/-! EvI: zip, enumerate, a module's built-in functions. -/
namespace Ev
open PySem PySem.Spec PyProof.Rows L2
def FUEL : Nat := 1000000000
section
variable {X : Cx} {K : PySem.W.Frag} {H H' : Hp} {φ φ' : List Addr} {S S' : Sto} {σ : L2.St} {ρ ρ' : Rho} {e a b tg : Expr} {es : List Expr} {pos : Pos}
/-- a list at p as a source -/
def LSrc (K : PySem.W.Frag) (H : Hp) (φ : List Addr) (p : Addr) (src : Src) : Prop :=
  (∃ j, src = .lst j ∧ φ[j]? = some p) ∨ ∃ vs ds, src = .fix ds ∧ Fz K H p vs ∧ Rls K H φ vs ds
def TSrc (K : PySem.W.Frag) (H : Hp) (φ : List Addr) (p : Addr) (src : Src) : Prop := ∃ vs ds, src = .fix ds ∧ SqT K H p vs ∧ Rls K H φ vs ds
theorem LSrc.atS {p : Addr} {src : Src} {i : Nat} {d : D} (h : LSrc K H φ p src) (ex : Ex K H φ H' φ') (r : RS K H' φ' S) (q : src.item S i = some (some d)) : ∃ vs v, SqL K H' p vs ∧ vs[i]? = some v ∧ Rl K H' φ' v d := by
  rcases h with ⟨j, rfl, hj⟩ | ⟨vs, ds, rfl, hz, hr⟩
  · unfold Src.item at q
    split at q
    · rename_i ds hs
      obtain ⟨vs, q1, q2⟩ := r.ob j p _ (ex.ix hj) hs
      obtain ⟨v, hv, lv⟩ := q2.get i (Option.some.inj q)
      exact ⟨vs, v, SqL.of q1, hv, lv⟩
    · cases q
  · obtain ⟨v, hv, lv⟩ := (Rls.mono ex _ _ hr).get i (Option.some.inj q)
    exact ⟨vs, v, (ex.fz _ _ hz).sq, hv, lv⟩
theorem LSrc.atN {p : Addr} {src : Src} {i : Nat} (h : LSrc K H φ p src) (ex : Ex K H φ H' φ') (r : RS K H' φ' S) (q : src.item S i = some none) : ∃ vs, SqL K H' p vs ∧ vs.length ≤ i := by
  rcases h with ⟨j, rfl, hj⟩ | ⟨vs, ds, rfl, hz, hr⟩
  · unfold Src.item at q
    split at q
    · rename_i ds hs
      obtain ⟨vs, q1, q2⟩ := r.ob j p _ (ex.ix hj) hs
      have q3 : ds[i]? = Option.none := Option.some.inj q
      exact ⟨vs, SqL.of q1, by rw [q2.len]; exact List.getElem?_eq_none_iff.mp q3⟩
    · cases q
  · have q3 : ds[i]? = Option.none := Option.some.inj q
    exact ⟨vs, (ex.fz _ _ hz).sq, by rw [hr.len]; exact List.getElem?_eq_none_iff.mp q3⟩
theorem TSrc.atS {p : Addr} {src : Src} {i : Nat} {d : D} (h : TSrc K H φ p src) (ex : Ex K H φ H' φ') (q : src.item S i = some (some d)) : ∃ vs v, SqT K H' p vs ∧ vs[i]? = some v ∧ Rl K H' φ' v d := by
  obtain ⟨vs, ds, rfl, hz, hr⟩ := h
  obtain ⟨v, hv, lv⟩ := (Rls.mono ex _ _ hr).get i (Option.some.inj q)
  exact ⟨vs, v, ex.tup _ _ hz, hv, lv⟩
theorem TSrc.atN {p : Addr} {src : Src} {i : Nat} (h : TSrc K H φ p src) (ex : Ex K H φ H' φ') (q : src.item S i = some none) : ∃ vs, SqT K H' p vs ∧ vs.length ≤ i := by
  obtain ⟨vs, ds, rfl, hz, hr⟩ := h
  have q3 : ds[i]? = Option.none := Option.some.inj q
  exact ⟨vs, ex.tup _ _ hz, by rw [hr.len]; exact List.getElem?_eq_none_iff.mp q3⟩
theorem zip_item {a b : Src} {i : Nat} {d : D} (h : (Src.zip a b).item S i = some (some d)) : ∃ x y, a.item S i = some (some x) ∧ b.item S i = some (some y) ∧ d = .tup [x, y] := by
  unfold Src.item at h
  split at h
  · rename_i x y h1 h2
    cases h
    exact ⟨x, y, h1, h2, rfl⟩
  · cases h
  · cases h
  · cases h
theorem zip_end {a b : Src} {i : Nat} (h : (Src.zip a b).item S i = some none) : (a.item S i = some none ∧ ∃ y, b.item S i = some y) ∨ (b.item S i = some none ∧ ∃ x, a.item S i = some x) := by
  unfold Src.item at h
  split at h
  · cases h
  · rename_i y h1 h2
    exact .inl ⟨h1, _, h2⟩
  · rename_i x _ h1 h2
    exact .inr ⟨h2, _, h1⟩
  · cases h
theorem goes_zip {p q : Addr} {s1 s2 : Src} (h1 : LSrc K H φ p s1) (h2 : LSrc K H φ q s2) : Goes K (Itz K p q) H φ (.zip s1 s2) := by
  refine ⟨fun H1 φ1 S i d e1 r1 h => ?_, fun H1 φ1 S i e1 r1 h => ?_⟩
  · obtain ⟨x, y, hx, hy, rfl⟩ := zip_item h
    obtain ⟨vs, v, a1, a2, a3⟩ := h1.atS e1 r1 hx
    obtain ⟨ws, w, b1, b2, b3⟩ := h2.atS e1 r1 hy
    refine ⟨⟨vs, ws, v, w, a1, b1, a2, b2⟩, fun z H2 yy => ?_⟩
    obtain ⟨T, x', y', rfl, nT, rfl, f1, f2⟩ := yy
    have c1 := f1 vs a1
    have c2 := f2 ws b1
    rw [a2] at c1
    rw [b2] at c2
    cases c1
    cases c2
    obtain ⟨e2, r2⟩ := ext_tup r1 nT [v, w]
    exact ⟨e2, r2, .tup (SqT.of upd_same) (.cons (Rl.mono e2 _ _ a3) (.cons (Rl.mono e2 _ _ b3) .nil))⟩
  · rcases zip_end h with ⟨q1, y, q2⟩ | ⟨q1, x, q2⟩
    · obtain ⟨vs, a1, a2⟩ := h1.atN e1 r1 q1
      cases y with
      | none =>
        obtain ⟨ws, b1, b2⟩ := h2.atN e1 r1 q2
        exact ⟨vs, ws, a1, b1, .inl a2⟩
      | some y =>
        obtain ⟨ws, w, b1, b2, b3⟩ := h2.atS e1 r1 q2
        exact ⟨vs, ws, a1, b1, .inl a2⟩
    · obtain ⟨ws, b1, b2⟩ := h2.atN e1 r1 q1
      cases x with
      | none =>
        obtain ⟨vs, a1, a2⟩ := h1.atN e1 r1 q2
        exact ⟨vs, ws, a1, b1, .inr b2⟩
      | some x =>
        obtain ⟨vs, v, a1, a2, a3⟩ := h1.atS e1 r1 q2
        exact ⟨vs, ws, a1, b1, .inr b2⟩
theorem goes_zipT {p q : Addr} {s1 s2 : Src} (h1 : TSrc K H φ p s1) (h2 : TSrc K H φ q s2) : Goes K (RZ.ItzT K p q) H φ (.zip s1 s2) := by
  refine ⟨fun H1 φ1 S i d e1 r1 h => ?_, fun H1 φ1 S i e1 r1 h => ?_⟩
  · obtain ⟨x, y, hx, hy, rfl⟩ := zip_item h
    obtain ⟨vs, v, a1, a2, a3⟩ := h1.atS e1 hx
    obtain ⟨ws, w, b1, b2, b3⟩ := h2.atS e1 hy
    refine ⟨⟨vs, ws, v, w, a1, b1, a2, b2⟩, fun z H2 yy => ?_⟩
    obtain ⟨T, x', y', rfl, nT, rfl, f1, f2⟩ := yy
    have c1 := f1 vs a1
    have c2 := f2 ws b1
    rw [a2] at c1
    rw [b2] at c2
    cases c1
    cases c2
    obtain ⟨e2, r2⟩ := ext_tup r1 nT [v, w]
    exact ⟨e2, r2, .tup (SqT.of upd_same) (.cons (Rl.mono e2 _ _ a3) (.cons (Rl.mono e2 _ _ b3) .nil))⟩
  · rcases zip_end h with ⟨q1, y, q2⟩ | ⟨q1, x, q2⟩
    · obtain ⟨vs, a1, a2⟩ := h1.atN e1 q1
      cases y with
      | none =>
        obtain ⟨ws, b1, b2⟩ := h2.atN e1 q2
        exact ⟨vs, ws, a1, b1, .inl a2⟩
      | some y =>
        obtain ⟨ws, w, b1, b2, b3⟩ := h2.atS e1 q2
        exact ⟨vs, ws, a1, b1, .inl a2⟩
    · obtain ⟨ws, b1, b2⟩ := h2.atN e1 q1
      cases x with
      | none =>
        obtain ⟨vs, a1, a2⟩ := h1.atN e1 q2
        exact ⟨vs, ws, a1, b1, .inr b2⟩
      | some x =>
        obtain ⟨vs, v, a1, a2, a3⟩ := h1.atS e1 q2
        exact ⟨vs, ws, a1, b1, .inr b2⟩
theorem goes_enum {p : Addr} {s1 : Src} (h1 : LSrc K H φ p s1) : Goes K (Ite K p) H φ (.enum s1) := by
  refine ⟨fun H1 φ1 S i d e1 r1 h => ?_, fun H1 φ1 S i e1 r1 h => ?_⟩
  · unfold Src.item at h
    split at h
    · rename_i x hx
      cases h
      obtain ⟨vs, v, a1, a2, a3⟩ := h1.atS e1 r1 hx
      refine ⟨⟨vs, v, a1, a2⟩, fun z H2 yy => ?_⟩
      obtain ⟨T, x', rfl, nT, rfl, f1⟩ := yy
      have c1 := f1 vs a1
      rw [a2] at c1
      cases c1
      obtain ⟨e2, r2⟩ := ext_tup r1 nT [.int (i : Nat), v]
      exact ⟨e2, r2, .tup (SqT.of upd_same) (.cons (.int _) (.cons (Rl.mono e2 _ _ a3) .nil))⟩
    · cases h
    · cases h
  · unfold Src.item at h
    split at h
    · cases h
    · rename_i hx
      obtain ⟨vs, a1, a2⟩ := h1.atN e1 r1 hx
      exact ⟨vs, a1, a2⟩
    · cases h
theorem goes_enumT {p : Addr} {s1 : Src} (h1 : TSrc K H φ p s1) : Goes K (IteT K p) H φ (.enum s1) := by
  refine ⟨fun H1 φ1 S i d e1 r1 h => ?_, fun H1 φ1 S i e1 r1 h => ?_⟩
  · unfold Src.item at h
    split at h
    · rename_i x hx
      cases h
      obtain ⟨vs, v, a1, a2, a3⟩ := h1.atS e1 hx
      refine ⟨⟨vs, v, a1, a2⟩, fun z H2 yy => ?_⟩
      obtain ⟨T, x', rfl, nT, rfl, f1⟩ := yy
      have c1 := f1 vs a1
      rw [a2] at c1
      cases c1
      obtain ⟨e2, r2⟩ := ext_tup r1 nT [.int (i : Nat), v]
      exact ⟨e2, r2, .tup (SqT.of upd_same) (.cons (.int _) (.cons (Rl.mono e2 _ _ a3) .nil))⟩
    · cases h
    · cases h
  · unfold Src.item at h
    split at h
    · cases h
    · rename_i hx
      obtain ⟨vs, a1, a2⟩ := h1.atN e1 hx
      exact ⟨vs, a1, a2⟩
    · cases h
/-- a list as a source -/
def srcL : D → Option Src
  | .ref j => some (.lst j)
  | .fzl ds => some (.fix ds)
  | _ => none
theorem srcL_ok (r : RS K H φ S) {v : V} {d : D} {src : Src} (l : Rl K H φ v d) (h : srcL d = some src) (ft : src.fit S) : ∃ p vs, v = .ref p ∧ SqL K H p vs ∧ LSrc K H φ p src := by
  unfold srcL at h
  split at h
  · rename_i j
    cases h
    cases l with
    | ref hj _ =>
      have hl : j < S.length := by rw [← r.len]; exact (List.getElem?_eq_some_iff.mp hj).1
      obtain ⟨ds, hq⟩ := Src.fit_lst ft hl
      obtain ⟨vs, hv, _⟩ := r.ob j _ _ hj hq
      exact ⟨_, vs, rfl, SqL.of hv, .inl ⟨j, rfl, hj⟩⟩
  · cases h
    cases l with
    | fzl hz hr => exact ⟨_, _, rfl, hz.sq, .inr ⟨_, _, rfl, hz, hr⟩⟩
  · cases h
def diZip (f : DA) : DI := fun ρ S => match f ρ S with
  | some ([.tup ds, .tup es], S1) => some (.zip (.fix ds) (.fix es), S1)
  | some ([x, y], S1) => match srcL x, srcL y with
    | some s1, some s2 => some (.zip s1 s2, S1)
    | _, _ => none
  | _ => none
theorem wi_zip {elts : List Expr} {kk : Nat} {tpos p : Pos} {f : DA} (hg : Gl X "zip") (hm : X.mg "zip" = none) (ha : PA X [a, b] (tA X.K f))
    (hs : starEach [a, b] X.env = (false, eval a X.env) :: starEach [b] X.env := by rfl) (hpl : (backTo pos (starEach [b] X.env)).any (·.1) = false := by rfl) : PI X (.Tuple elts kk tpos) (.Call (.Name "zip" p) [a, b] [] pos) (tI X.K (diZip f)) := by
  refine PI.imp (RZ.pi_zipA hg hm ha hs hpl) fun σ H R ⟨φ, ρ, S, src, S', re, rs, hd, ft, w⟩ => ?_
  unfold diZip at hd
  split at hd
  · rename_i ds es S1 h1
    cases hd
    refine ⟨φ, ρ, S, _, _, re, rs, h1, fun vs H1 φ1 e1 r1 l1 => ?_⟩
    obtain ⟨v, v', rfl, l, l'⟩ := l1.two_inv
    cases l with
    | tup a1 a2 =>
      cases l' with
      | tup b1 b2 => exact ⟨_, _, _, _, rfl, .inr ⟨a1, b1, w _ _ _ e1 r1 (goes_zipT ⟨_, _, rfl, a1, a2⟩ ⟨_, _, rfl, b1, b2⟩)⟩⟩
  · rename_i x y S1 _ h1
    split at hd
    · rename_i s1 s2 q1 q2
      cases hd
      refine ⟨φ, ρ, S, _, _, re, rs, h1, fun vs H1 φ1 e1 r1 l1 => ?_⟩
      obtain ⟨v, v', rfl, l, l'⟩ := l1.two_inv
      obtain ⟨p1, vs1, rfl, a1, a2⟩ := srcL_ok r1 l q1 (Src.fit_z1 ft)
      obtain ⟨p2, vs2, rfl, b1, b2⟩ := srcL_ok r1 l' q2 (Src.fit_z2 ft)
      exact ⟨_, _, _, _, rfl, .inl ⟨a1, b1, w _ _ _ e1 r1 (goes_zip a2 b2)⟩⟩
    · cases hd
  · cases hd
def diEnumerate (f : DA) : DI := fun ρ S => match f ρ S with
  | some ([.tup ds], S1) => some (.enum (.fix ds), S1)
  | some ([x], S1) => match srcL x with
    | some s1 => some (.enum s1, S1)
    | none => none
  | _ => none
theorem wi_enumerate {elts : List Expr} {kk : Nat} {tpos p : Pos} {f : DA} (hg : Gl X "enumerate") (hm : X.mg "enumerate" = none) (ha : PA X [a] (tA X.K f)) (hs : starEach [a] X.env = [(false, eval a X.env)] := by rfl) :
    PI X (.Tuple elts kk tpos) (.Call (.Name "enumerate" p) [a] [] pos) (tI X.K (diEnumerate f)) := by
  refine PI.imp (pi_enumA hg hm ha hs) fun σ H R ⟨φ, ρ, S, src, S', re, rs, hd, ft, w⟩ => ?_
  unfold diEnumerate at hd
  split at hd
  · rename_i ds S1 h1
    cases hd
    refine ⟨φ, ρ, S, _, _, re, rs, h1, fun vs H1 φ1 e1 r1 l1 => ?_⟩
    obtain ⟨v, rfl, l⟩ := l1.one_inv
    cases l with
    | tup a1 a2 => exact ⟨_, _, rfl, .inr ⟨a1, w _ _ _ e1 r1 (goes_enumT ⟨_, _, rfl, a1, a2⟩)⟩⟩
  · rename_i x S1 _ h1
    split at hd
    · rename_i s1 q1
      cases hd
      refine ⟨φ, ρ, S, _, _, re, rs, h1, fun vs H1 φ1 e1 r1 l1 => ?_⟩
      obtain ⟨v, rfl, l⟩ := l1.one_inv
      obtain ⟨p1, vs1, rfl, a1, a2⟩ := srcL_ok r1 l q1 (Src.fit_en ft)
      exact ⟨_, _, rfl, .inl ⟨a1, w _ _ _ e1 r1 (goes_enum a2)⟩⟩
    · cases hd
  · cases hd
/-- a module's name of a built-in function -/
theorem we_lib {id : String} {g : DF} {f : DA} {x : Str} {p : Pos} (hc : CallR X (.builtin id) (rFD X.K g)) (hg : Gl X x) (hm : X.mg x = some (.builtin id)) (ha : PA X (e :: es) (tA X.K f))
    (hdb : (x == ("__debug__" : Str)) = false := by decide) (he : starEach (e :: es) X.env = (false, eval e X.env) :: starEach es X.env := by rfl) (hpl : (backTo pos (starEach es X.env)).any (·.1) = false := by rfl) :
    PE X (.Call (.Name x p) (e :: es) [] pos) (tD X.K (dCall g f)) := by
  refine PE.imp (pe_callBfun hc hg hm ha hdb he hpl) fun σ H Q ⟨φ, ρ, S, d, S', re, rs, hd, w⟩ => ?_
  unfold dCall at hd
  split at hd
  · rename_i ds S1 h1
    exact ⟨φ, ρ, S, ds, S1, re, rs, h1, fun vs H1 φ1 e1 r1 l1 => ⟨φ1, S1, ds, d, S', r1, l1, hd, w.mono e1⟩⟩
  · cases hd
def gGcd : DF := fun xs S => match xs with
  | [.int i, .int j] => some (.int ((Nat.gcd i.natAbs j.natAbs : Nat) : Int), S)
  | _ => none
theorem cd_gcd : CallR X (.builtin "math.gcd") (rFD X.K gGcd) := by
  intro pins s σ H xs us Q I r h
  obtain ⟨φ, S, as, d, S', rs, la, hd, w⟩ := h
  unfold gGcd at hd
  split at hd
  · rename_i i j
    cases hd
    obtain rfl := Rls.ints (ns := [i, j]) la
    exact cr_gcd pins s σ H _ us Q I r ⟨i, j, rfl, w.int rs⟩
  · cases hd
/-- comb(n, k), 0 ≤ n < 2 ^ 64, 0 ≤ k ≤ 9000 -/
def gComb : DF := fun xs S => match xs with
  | [.int i, .int j] => if decide (0 ≤ i) && decide (0 ≤ j) && decide (i < 2 ^ 64) && decide (j ≤ 9000) then some (.int (PySem.W.mcComb i j), S) else none
  | _ => none
theorem cd_comb : CallR X (.builtin "math.comb") (rFD X.K gComb) := by
  intro pins s σ H xs us Q I r h
  obtain ⟨φ, S, as, d, S', rs, la, hd, w⟩ := h
  unfold gComb at hd
  split at hd
  · rename_i i j
    split at hd
    · rename_i hz
      rw [Bool.and_eq_true, Bool.and_eq_true, Bool.and_eq_true, decide_eq_true_eq, decide_eq_true_eq, decide_eq_true_eq, decide_eq_true_eq] at hz
      obtain ⟨⟨⟨z1, z2⟩, z3⟩, z4⟩ := hz
      cases hd
      obtain rfl := Rls.ints (ns := [i, j]) la
      obtain ⟨t, u, rfl⟩ := Vals.int2 r
      exact PySem.W.mc_comb z1 z2 z3 (.inl z4) fun _ => ⟨.int _, H, I.tok _, ⟨_, rfl⟩, w.int rs⟩
    · cases hd
  · cases hd
end
end Ev

set_option maxHeartbeats 1000000
/-! EvJ: in, sorted, [::-1], list(range), three stores at once. -/
namespace Ev
open PySem PySem.Spec PyProof.Rows L2
section
variable {X : Cx} {K : PySem.W.Frag} {H H' : Hp} {φ φ' : List Addr} {S S' : Sto} {σ : L2.St} {ρ ρ' : Rho} {e a b c : Expr} {es : List Expr} {pos : Pos}

/-! in: flat things -/
def flatD : D → Bool
  | .non => true
  | .bl _ => true
  | .int _ => true
  | .str _ => true
  | _ => false
def eqD : D → D → Bool
  | .non, .non => true
  | .bl a, .bl b => a == b
  | .bl a, .int b => (if a then 1 else 0) == b
  | .int a, .bl b => a == (if b then 1 else 0)
  | .int a, .int b => a == b
  | .str a, .str b => a == b
  | _, _ => false
theorem flat_ok {x : V} {d : D} (l : Rl K H φ x d) (h : flatD d = true) : flatV x = true := by
  cases l <;> first
    | rfl
    | cases h
theorem eqD_ok {x y : V} {d d' : D} (l : Rl K H φ x d) (l' : Rl K H φ y d') (h : flatD d = true) (h' : flatD d' = true) : eqV x y = eqD d d' := by
  cases l <;> cases l' <;> first
    | rfl
    | cases h
    | cases h'
theorem flats_ok : ∀ {vs : List V} {ds : List D}, Rls K H φ vs ds → ds.all flatD = true → vs.all flatV = true
  | _, [], l, _ => by cases l; rfl
  | _, d :: ds, l, h => by
    rw [List.all_cons, Bool.and_eq_true] at h
    cases l with
    | cons l1 l2 => rw [List.all_cons, flat_ok l1 h.1, flats_ok l2 h.2]; rfl
theorem inD_ok {x : V} {d : D} (l : Rl K H φ x d) (h : flatD d = true) : ∀ {vs : List V} {ds : List D}, Rls K H φ vs ds → ds.all flatD = true → inV x vs = ds.any fun y => eqD y d
  | _, [], l2, _ => by cases l2; rfl
  | _, e :: ds, l2, h2 => by
    rw [List.all_cons, Bool.and_eq_true] at h2
    cases l2 with
    | cons l3 l4 =>
      show (eqV _ x || inV x _) = (eqD e d || ds.any fun y => eqD y d)
      rw [eqD_ok l3 l h2.1 h, inD_ok l h l4 h2.2]
/-- in, of data at any depth -/
def inP (neg : Bool) (d : PyData) (es : List PyData) (S : Sto) : Option (D × Sto) := if SeqAt.shaped d && SeqAt.shaped (.list es) then some (.bl (if neg then !(es.any fun z => PyData.eqv z d) else es.any fun z => PyData.eqv z d), S) else none
def gIn (neg : Bool) : D2 := fun x y S => match items S y with
  | some ds => if flatD x && ds.all flatD then some (.bl (if neg then !(ds.any fun z => eqD z x) else ds.any fun z => eqD z x), S) else
    match py 40 S x, py 40 S y with
    | some d, some (.list es) => inP neg d es S
    | some d, some (.tuple es) => inP neg d es S
    | _, _ => none
  | none => none
theorem inP_inv {neg : Bool} {d : PyData} {es : List PyData} {S S' : Sto} {r : D} (h : inP neg d es S = some (r, S')) : SeqAt.shaped d = true ∧ SeqAt.shaped (.list es) = true ∧ S' = S ∧ r = .bl (if neg then !(es.any fun z => PyData.eqv z d) else es.any fun z => PyData.eqv z d) := by
  unfold inP at h
  split at h
  · rename_i hz
    rw [Bool.and_eq_true] at hz
    cases h
    exact ⟨hz.1, hz.2, rfl, rfl⟩
  · cases h
theorem od_in (hu : X.A.units + 65 < cLine) : OpR X (compareOp .In) (r2D X.K (gIn false)) := by
  intro pins s σ H x y v u Q I rx ry q
  obtain ⟨φ, S, a, b, d, S', rs, la, lb, hd, w⟩ := q
  unfold gIn at hd
  split at hd
  · rename_i ds h1
    split at hd
    · rename_i hz
      rw [Bool.and_eq_true] at hz
      cases hd
      obtain ⟨p, vs, rfl, hq, hr⟩ := items_ok rs lb h1
      refine op_in_seq pins s σ H _ _ v u Q I rx ry ⟨p, vs, rfl, hq, flat_ok la hz.1, flats_ok hr hz.2, ?_⟩
      rw [inD_ok la hz.1 hr hz.2]
      exact w.bl rs
    · split at hd
      · rename_i e es h2 h3
        obtain ⟨s1, s2, rfl, rfl⟩ := inP_inv hd
        obtain ⟨as, r1⟩ := Dp.reads I e x v (py_dp rs _ _ _ _ la h2) rx
        obtain ⟨bs, r2⟩ := Dp.reads I (.list es) y u (py_dp rs _ _ _ _ lb h3) ry
        exact SeqAt.in_list_reads r2 r1 (SeqAt.canLay_of_shaped s2) (SeqAt.canLay_of_shaped s1) (room_in_shaped s1 hu) ⟨.bl _, H, I, rfl, w.bl rs⟩
      · rename_i e es h2 h3
        obtain ⟨s1, s2, rfl, rfl⟩ := inP_inv hd
        obtain ⟨as, r1⟩ := Dp.reads I e x v (py_dp rs _ _ _ _ la h2) rx
        obtain ⟨bs, r2⟩ := Dp.reads I (.tuple es) y u (py_dp rs _ _ _ _ lb h3) ry
        exact SeqAt.in_tuple_reads r2 r1 (SeqAt.canLay_of_shaped s2) (SeqAt.canLay_of_shaped s1) (room_in_shaped s1 hu) ⟨.bl _, H, I, rfl, w.bl rs⟩
      · cases hd
  · cases hd
theorem od_notin (hu : X.A.units + 65 < cLine) : OpR X (compareOp .NotIn) (r2D X.K (gIn true)) := by
  intro pins s σ H x y v u Q I rx ry q
  obtain ⟨φ, S, a, b, d, S', rs, la, lb, hd, w⟩ := q
  unfold gIn at hd
  split at hd
  · rename_i ds h1
    split at hd
    · rename_i hz
      rw [Bool.and_eq_true] at hz
      cases hd
      obtain ⟨p, vs, rfl, hq, hr⟩ := items_ok rs lb h1
      refine op_notIn_seq pins s σ H _ _ v u Q I rx ry ⟨p, vs, rfl, hq, flat_ok la hz.1, flats_ok hr hz.2, ?_⟩
      rw [inD_ok la hz.1 hr hz.2]
      exact w.bl rs
    · split at hd
      · rename_i e es h2 h3
        obtain ⟨s1, s2, rfl, rfl⟩ := inP_inv hd
        obtain ⟨as, r1⟩ := Dp.reads I e x v (py_dp rs _ _ _ _ la h2) rx
        obtain ⟨bs, r2⟩ := Dp.reads I (.list es) y u (py_dp rs _ _ _ _ lb h3) ry
        exact SeqAt.notIn_list_reads r2 r1 (SeqAt.canLay_of_shaped s2) (SeqAt.canLay_of_shaped s1) (room_in_shaped s1 hu) ⟨.bl _, H, I, rfl, w.bl rs⟩
      · rename_i e es h2 h3
        obtain ⟨s1, s2, rfl, rfl⟩ := inP_inv hd
        obtain ⟨as, r1⟩ := Dp.reads I e x v (py_dp rs _ _ _ _ la h2) rx
        obtain ⟨bs, r2⟩ := Dp.reads I (.tuple es) y u (py_dp rs _ _ _ _ lb h3) ry
        exact SeqAt.notIn_tuple_reads r2 r1 (SeqAt.canLay_of_shaped s2) (SeqAt.canLay_of_shaped s1) (room_in_shaped s1 hu) ⟨.bl _, H, I, rfl, w.bl rs⟩
      · cases hd
  · cases hd
theorem units65 {k : Nat} {A : Around} (r : Room k A) : A.units + 65 < cLine := by
  have := r.un
  omega

/-! sorted -/
def insD {α : Type} (le : α → α → Bool) (x : α) : List α → List α
  | [] => [x]
  | y :: ys => if le x y then x :: y :: ys else y :: insD le x ys
def isort {α : Type} (le : α → α → Bool) : List α → List α
  | [] => []
  | x :: xs => insD le x (isort le xs)
theorem insD_mem {α : Type} {le : α → α → Bool} {x z : α} : ∀ {ys : List α}, z ∈ insD le x ys → z = x ∨ z ∈ ys
  | [], h => by simp [insD] at h; exact .inl h
  | y :: ys, h => by
    unfold insD at h
    split at h
    · rcases List.mem_cons.mp h with h | h
      · exact .inl h
      · exact .inr h
    · rcases List.mem_cons.mp h with h | h
      · exact .inr (by rw [h]; exact List.mem_cons_self)
      · rcases insD_mem h with h | h
        · exact .inl h
        · exact .inr (List.mem_cons_of_mem _ h)
theorem insD_sorted {α : Type} {le : α → α → Bool} (t : PySem.W.TotalLe le) {x : α} : ∀ {ys : List α}, ys.Pairwise (fun a b => le a b = true) → (insD le x ys).Pairwise (fun a b => le a b = true)
  | [], _ => by simp [insD]
  | y :: ys, h => by
    unfold insD
    rw [List.pairwise_cons] at h
    split
    · rename_i hle
      rw [List.pairwise_cons]
      refine ⟨fun z hz => ?_, List.pairwise_cons.mpr h⟩
      rcases List.mem_cons.mp hz with hz | hz
      · rw [hz]; exact hle
      · exact t.trans _ _ _ hle (h.1 z hz)
    · rename_i hle
      rw [List.pairwise_cons]
      refine ⟨fun z hz => ?_, insD_sorted t h.2⟩
      rcases insD_mem hz with hz | hz
      · rw [hz]
        rcases t.total x y with q | q
        · exact absurd q hle
        · exact q
      · exact h.1 z hz
theorem isort_sorted {α : Type} {le : α → α → Bool} (t : PySem.W.TotalLe le) : ∀ xs : List α, (isort le xs).Pairwise (fun a b => le a b = true)
  | [] => .nil
  | x :: xs => insD_sorted t (isort_sorted t xs)
theorem insD_filter {α : Type} {le : α → α → Bool} (t : PySem.W.TotalLe le) (c x : α) : ∀ ys : List α, (insD le x ys).filter (PySem.W.sameRank le c) = (x :: ys).filter (PySem.W.sameRank le c)
  | [] => rfl
  | y :: ys => by
    unfold insD
    split
    · rfl
    · rename_i hle
      have ih := insD_filter t c x ys
      by_cases hx : PySem.W.sameRank le c x = true
      · have hy : ¬ PySem.W.sameRank le c y = true := fun hy => hle (by
          unfold PySem.W.sameRank at hx hy
          rw [Bool.and_eq_true] at hx hy
          exact t.trans _ _ _ hx.2 hy.1)
        rw [List.filter_cons_of_neg hy, ih, List.filter_cons_of_pos hx, List.filter_cons_of_pos hx, List.filter_cons_of_neg hy]
      · rw [List.filter_cons_of_neg hx] at ih ⊢
        rw [List.filter_cons, List.filter_cons, ih]
theorem isort_filter {α : Type} {le : α → α → Bool} (t : PySem.W.TotalLe le) (c : α) : ∀ xs : List α, (isort le xs).filter (PySem.W.sameRank le c) = xs.filter (PySem.W.sameRank le c)
  | [] => rfl
  | x :: xs => by
    show (insD le x (isort le xs)).filter _ = _
    rw [insD_filter t, List.filter_cons, List.filter_cons, isort_filter t c xs]
theorem isort_eq {α : Type} {le : α → α → Bool} (t : PySem.W.TotalLe le) (xs : List α) : isort le xs = xs.mergeSort le :=
  PySem.W.sort_unique t (isort_sorted t xs) (isort_filter t · xs)
/-- all alike; tuples that are not empty, or neither tuples nor None -/
def okSort (ps : List PyData) : Bool := (ps.all fun d => ps.all fun d' => PySem.W.alike d d') && (ps.all (fun d => match d with
  | .tuple (_ :: _) => true
  | _ => false) || ps.all (fun d => match d with
  | .none => false
  | .tuple _ => false
  | _ => true)) && ps.all fun d => decide (d.depth ≤ 60)
theorem okSort_ok {ps : List PyData} (h : okSort ps = true) : PySem.W.AllAlike ps ∧ PySem.W.Sortable ps ∧ ∀ d ∈ ps, d.depth ≤ 60 := by
  unfold okSort at h
  rw [Bool.and_eq_true, Bool.and_eq_true, Bool.or_eq_true, List.all_eq_true, List.all_eq_true, List.all_eq_true, List.all_eq_true] at h
  obtain ⟨⟨h1, h2⟩, h3⟩ := h
  refine ⟨fun d hd d' hd' => List.all_eq_true.mp (h1 d hd) d' hd', ?_, fun d hd => of_decide_eq_true (h3 d hd)⟩
  rcases h2 with h2 | h2
  · refine .inl fun d hd => ?_
    have := h2 d hd
    split at this
    · exact ⟨_, _, rfl⟩
    · cases this
  · refine .inr fun d hd => ?_
    have := h2 d hd
    split at this
    · cases this
    · cases this
    · rename_i n1 n2
      exact ⟨fun z => n1 z, fun xs z => n2 xs z⟩
def leD (p q : D × PyData) : Bool := PySem.W.dataLe false (·.2) p q
def gSorted : DF := fun xs S => match xs with
  | [d] => match lstOf S d with
    | some ds => match pys (py 40 S) ds with
      | some ps => if okSort ps && decide (ds.length ≤ sizeLine) then some (.ref S.length, S ++ [.lst ((isort leD (ds.zip ps)).map (·.1))]) else none
      | none => none
    | none => none
  | _ => none
theorem pys_len {f : D → Option PyData} : ∀ {ds : List D} {ps : List PyData}, pys f ds = some ps → ds.length = ps.length
  | [], ps, h => by cases h; rfl
  | d :: ds, ps, h => by
    unfold pys at h
    split at h
    · split at h
      · rename_i q
        cases h
        simp [pys_len q]
      · cases h
    · cases h
theorem each_of {R : Value → D × PyData → Prop} : ∀ {us : List Value} {bs : List (D × PyData)}, PySem.W.EachIs R us bs → (∀ u b, R u b → ∃ x, RelV x u ∧ Rl K H φ x b.1) → ∃ xs, Vals xs us ∧ Rls K H φ xs (bs.map (·.1))
  | _, _, .nil, _ => ⟨[], .nil, .nil⟩
  | _, _, .cons h t, f => by
    obtain ⟨x, h1, h2⟩ := f _ _ h
    obtain ⟨xs, h3, h4⟩ := each_of t f
    exact ⟨x :: xs, .cons h1 h3, .cons h2 h4⟩
theorem each_mk {pins : List (Addr × Obj)} {s : Shared} (I : Inv X pins σ H s) (rs : RS X.K H φ S) : ∀ {ds : List D} {ps : List PyData} {vs : List V} {us : List Value}, pys (py 40 S) ds = some ps → Rls X.K H φ vs ds → Vals vs us →
    PySem.W.EachIs (fun u (b : D × PyData) => ∃ x, RelV x u ∧ Rl X.K H φ x b.1) us (ds.zip ps) ∧ PySem.W.EachIs (fun u (b : D × PyData) => ∃ as, Reads s.heap u b.2 as) us (ds.zip ps)
  | [], ps, vs, us, h, l, r => by
    cases h
    cases l
    cases r
    exact ⟨.nil, .nil⟩
  | d :: ds, ps, vs, us, h, l, r => by
    cases l with
    | cons l1 l2 =>
      cases r with
      | cons r1 r2 =>
        unfold pys at h
        split at h
        · rename_i p hp
          split at h
          · rename_i ps' hps
            cases h
            obtain ⟨e1, e2⟩ := each_mk I rs hps l2 r2
            exact ⟨.cons ⟨_, r1, l1⟩ e1, .cons (Dp.reads I p _ _ (py_dp rs _ _ _ _ l1 hp) r1) e2⟩
          · cases h
        · cases h
theorem zip_snd : ∀ {ds : List D} {ps : List PyData}, ds.length = ps.length → (ds.zip ps).map (·.2) = ps
  | [], [], _ => rfl
  | d :: ds, p :: ps, h => by
    simp only [List.zip_cons_cons, List.map_cons]
    rw [zip_snd (by simpa using h)]
  | [], _ :: _, h => by cases h
  | _ :: _, [], h => by cases h
theorem cd_sorted (hu : X.A.units + 64 < cLine) : CallR X (.builtin "sorted") (rFD X.K gSorted) := by
  intro pins s σ H xs us Q I r h
  obtain ⟨φ, S, as, d, S', rs, la, hd, w⟩ := h
  unfold gSorted at hd
  split at hd
  · split at hd
    · rename_i ds h1
      split at hd
      · rename_i ps h2
        split at hd
        · rename_i hz
          rw [Bool.and_eq_true, decide_eq_true_eq] at hz
          obtain ⟨z1, z2, z3⟩ := okSort_ok hz.1
          cases hd
          obtain ⟨v, rfl, l⟩ := la.one_inv
          obtain ⟨p, vs, rfl, hq, hr⟩ := lstOf_ok rs l h1
          obtain ⟨u, rfl, ru⟩ := r.one
          have ru' : u = Value.ref p := ru
          subst ru'
          obtain ⟨its, rv, hl, hzz⟩ := I.list hq
          obtain ⟨e1, e2⟩ := each_mk I rs h2 hr rv
          have hs2 := zip_snd (pys_len h2)
          have hlen : (ds.zip ps).length = ds.length := by rw [List.length_zip, ← pys_len h2]; omega
          refine PySem.W.sorted_data (bs := ds.zip ps) (enc := fun b => b.2) hl.isList e1 e2 (by rw [hs2]; exact z1) (by rw [hs2]; exact z2) (by rw [hlen]; exact hz.2) (fun b hb => ?_) fun out ho eo => ?_
          · have : b.2 ∈ ps := by rw [← hs2]; exact List.mem_map_of_mem hb
            have := z3 _ this
            omega
          · have eo : PySem.W.EachIs (fun u (b : D × PyData) => ∃ x, RelV x u ∧ Rl X.K H φ x b.1) out ((ds.zip ps).mergeSort leD) := eo
            rw [← isort_eq (le := leD) (PySem.W.sortLe_total _ false _)] at eo
            obtain ⟨ys, y1, y2⟩ := each_of eo fun _ _ q => q
            obtain ⟨ep, he'⟩ := PyProof.Rows.sortedAll_at s.heap its out.toArray
            have hn : H (s.heap.objs.size + 1) = none := I.hok.fresh (Nat.le_succ _)
            obtain ⟨x1, x2, x3⟩ := ext_lst rs hn y2
            refine ⟨.ref _, upd H (s.heap.objs.size + 1) (.lst ys), I.laid (t' := s.toks) (fun _ _ => PyProof.Rows.sortedAll_old) (Nat.le_succ _) ⟨?_, out, ep, y1, he'⟩, rfl, w _ _ _ x1 x2 x3⟩
            rw [y1.length, ho, hlen]
            exact hz.2
        · cases hd
      · cases hd
    · cases hd
  · cases hd

/-! [::-1] of a list -/
def dRev (f : DE) : DE := fun ρ S => match f ρ S with
  | some (x, S1) => match lstOf S1 x with
    | some ds => some (.ref S1.length, S1 ++ [.lst ds.reverse])
    | none => none
  | none => none
theorem Rls.rev : ∀ {vs : List V} {ds : List D}, Rls K H φ vs ds → Rls K H φ vs.reverse ds.reverse
  | _, [], l => by cases l; exact .nil
  | _, d :: ds, l => by
    cases l with
    | cons l1 l2 =>
      rw [List.reverse_cons, List.reverse_cons]
      exact (Rls.rev l2).app (Rls.one l1)
theorem we_rev {f : DE} {k : Nat} {p1 p2 p3 : Pos} (he : PE X e (tD X.K f)) : PE X (.Subscript e (.Slice none none (some (.UnaryOp .USub (.Constant (.int 1) k p1) p2)) p3) pos) (tD X.K (dRev f)) := by
  refine PE.imp (pe_revL he) fun σ H Q ⟨φ, ρ, S, d, S', re, rs, hd, w⟩ => ?_
  unfold dRev at hd
  split at hd
  · rename_i x S1 h1
    split at hd
    · rename_i ds h2
      cases hd
      refine ⟨φ, ρ, S, _, _, re, rs, h1, fun v H1 φ1 e1 r1 l1 => ?_⟩
      obtain ⟨p, vs, rfl, hq, hr⟩ := lstOf_ok r1 l1 h2
      refine ⟨p, vs, rfl, hq, fun q nq => ?_⟩
      obtain ⟨e2, r2, l2⟩ := ext_lst r1 nq hr.rev
      exact w _ _ _ (e1.trans e2) r2 l2
    · cases hd
  · cases hd

/-! list(range(a, b)), tuple(range(a, b)) -/
def okRg (a b : Int) : Bool := in62 a && in62 b && decide ((b - a).toNat ≤ 2 ^ 24)
theorem okRg_ok {a b : Int} (h : okRg a b = true) : RgOk a b := by
  unfold okRg at h
  rw [Bool.and_eq_true, Bool.and_eq_true, decide_eq_true_eq] at h
  exact ⟨(in62_of h.1.1).1, (in62_of h.1.1).2, (in62_of h.1.2).1, (in62_of h.1.2).2, h.2⟩
theorem rgV_rls (a b : Int) : Rls K H φ (rgV a b) (rngs a 1 (b - a).toNat) := by
  unfold rgV
  generalize (b - a).toNat = n
  have key : ∀ (n : Nat) (lo : Int) (k : Nat), lo = a + (k : Int) → Rls K H φ ((List.range n).map fun i => V.int (a + ((i + k : Nat) : Int))) (rngs lo 1 n) := by
    intro n
    induction n with
    | zero => intro lo k _; exact .nil
    | succ n ih =>
      intro lo k hk
      rw [List.range_succ_eq_map, List.map_cons, List.map_map]
      refine .cons ?_ ?_
      · rw [hk]
        simp only [Nat.zero_add]
        exact .int _
      · have hf : ((fun i : Nat => V.int (a + ((i + k : Nat) : Int))) ∘ Nat.succ) = fun i : Nat => V.int (a + ((i + (k + 1) : Nat) : Int)) := by
          funext i
          show V.int (a + ((i + 1 + k : Nat) : Int)) = V.int (a + ((i + (k + 1) : Nat) : Int))
          rw [Nat.add_assoc, Nat.add_comm 1 k]
        rw [hf]
        exact ih (lo + 1) (k + 1) (by omega)
  have := key n a 0 (by simp)
  simpa using this
def dListR1 (f : DE) : DE := fun ρ S => match f ρ S with
  | some (.int j, S1) => if okRg 0 j then some (.ref S1.length, S1 ++ [.lst (rngs 0 1 j.toNat)]) else none
  | _ => none
def dListR2 (f g : DE) : DE := fun ρ S => match f ρ S with
  | some (.int i, S1) => match g ρ S1 with
    | some (.int j, S2) => if okRg i j then some (.ref S2.length, S2 ++ [.lst (rngs i 1 (j - i).toNat)]) else none
    | _ => none
  | _ => none
theorem we_listR1 {f : DE} {p p2 pos2 : Pos} (hc : X.calm = true) (hg : Gl X "list") (hm : X.mg "list" = none) (hg2 : Gl X "range") (hm2 : X.mg "range" = none) (ha : PE X a (tD X.K f)) (na : starEach [a] X.env = (false, eval a X.env) :: starEach [] X.env := by rfl)
    (nb : starEach [.Call (.Name "range" p2) [a] [] pos2] X.env = (false, eval (.Call (.Name "range" p2) [a] [] pos2) X.env) :: starEach [] X.env := by rfl) : PE X (.Call (.Name "list" p) [.Call (.Name "range" p2) [a] [] pos2] [] pos) (tD X.K (dListR1 f)) := by
  refine PE.imp (pe_listRg hc hg hm (prg_1 hg2 hm2 ha na) nb) fun σ H Q ⟨φ, ρ, S, d, S', re, rs, hd, w⟩ => ?_
  unfold dListR1 at hd
  split at hd
  · rename_i j S1 h1
    split at hd
    · rename_i hz
      cases hd
      refine ⟨φ, ρ, S, _, _, re, rs, h1, fun v H1 φ1 e1 r1 l1 => ?_⟩
      cases l1
      refine ⟨j, rfl, okRg_ok hz, fun q nq => ?_⟩
      have := rgV_rls (K := X.K) (H := H1) (φ := φ1) 0 j
      rw [Int.sub_zero] at this
      obtain ⟨e2, r2, l2⟩ := ext_lst r1 nq this
      exact w _ _ _ (e1.trans e2) r2 l2
    · cases hd
  · cases hd
theorem we_listR2 {f g : DE} {p p2 pos2 : Pos} (hc : X.calm = true) (hg : Gl X "list") (hm : X.mg "list" = none) (hg2 : Gl X "range") (hm2 : X.mg "range" = none) (ha : PE X a (tD X.K f)) (hb : PE X b (tD X.K g))
    (na : starEach [a, b] X.env = (false, eval a X.env) :: starEach [b] X.env := by rfl) (nb : starEach [b] X.env = (false, eval b X.env) :: starEach [] X.env := by rfl) (hp : (backTo pos2 (starEach [b] X.env)).any (·.1) = false := by rfl)
    (nc : starEach [.Call (.Name "range" p2) [a, b] [] pos2] X.env = (false, eval (.Call (.Name "range" p2) [a, b] [] pos2) X.env) :: starEach [] X.env := by rfl) : PE X (.Call (.Name "list" p) [.Call (.Name "range" p2) [a, b] [] pos2] [] pos) (tD X.K (dListR2 f g)) := by
  refine PE.imp (pe_listRg hc hg hm (prg_2 hg2 hm2 ha hb na nb hp) nc) fun σ H Q ⟨φ, ρ, S, d, S', re, rs, hd, w⟩ => ?_
  unfold dListR2 at hd
  split at hd
  · rename_i i S1 h1
    split at hd
    · rename_i j S2 h2
      split at hd
      · rename_i hz
        cases hd
        refine ⟨φ, ρ, S, _, _, re, rs, h1, fun v H1 φ1 e1 r1 l1 => ⟨φ1, ρ, S1, _, _, re.mono e1, r1, h2, fun v' H2 φ2 e2 r2 l2 => ?_⟩⟩
        cases l1
        cases l2
        refine ⟨i, j, rfl, rfl, okRg_ok hz, fun q nq => ?_⟩
        obtain ⟨e3, r3, l3⟩ := ext_lst r2 nq (rgV_rls (K := X.K) i j)
        exact w _ _ _ (e1.trans (e2.trans e3)) r3 l3
      · cases hd
    · cases hd
  · cases hd

/-! a, b, c = x, y, z -/
def dPar3 (i j l : Nat) (f : DA) : DS := fun ρ S => match f ρ S with
  | some ([d1, d2, d3], S1) => some (.nx (((ρ.set i (some d1)).set j (some d2)).set l (some d3)) S1)
  | _ => none
theorem ws_par3 {i j l : Nat} {x y z : Str} {f : DA} {px py pz pt : Pos} {kt k2 pt2} (hc : X.calm = true) (hN : X.N.Nodup) (hi : X.N[i]? = some x) (hj : X.N[j]? = some y) (hl : X.N[l]? = some z) (hij : i ≠ j) (hil : i ≠ l) (hjl : j ≠ l)
    (hx : X.env.scope.names.lookup x = some .local) (hy : X.env.scope.names.lookup y = some .local) (hz : X.env.scope.names.lookup z = some .local) (ha : PA X [a, b, c] (tA X.K f))
    (hw : swappedStores [.Tuple [.Name x px, .Name y py, .Name z pz] kt pt] (.Tuple [a, b, c] k2 pt2) X.env = pure (some [x, y, z]))
    (hs : swapsWithSole [.Tuple [.Name x px, .Name y py, .Name z pz] kt pt] (.Tuple [a, b, c] k2 pt2) pos.line X.env = pure false := by rfl) :
    PS X (.Assign [.Tuple [.Name x px, .Name y py, .Name z pz] kt pt] (.Tuple [a, b, c] k2 pt2) pos) (tS X.K (dPar3 i j l f)) := by
  refine PS.imp (ps_par3 hc hN hi hj hl hij hil hjl hx hy hz ha hw hs) fun Dn σ H ⟨φ, ρ, S, o, re, rs, hd, w⟩ => ?_
  unfold dPar3 at hd
  split at hd
  · rename_i d1 d2 d3 S1 h1
    cases hd
    refine ⟨φ, ρ, S, _, _, re, rs, h1, fun vs H1 φ1 e1 r1 l1 => ?_⟩
    cases l1 with
    | cons p q =>
      obtain ⟨v', v'', rfl, p', p''⟩ := q.two_inv
      exact ⟨_, _, _, rfl, w _ _ _ e1 ((((re.mono e1).set i p).set j p').set l p'') r1⟩
  · cases hd
end
end Ev

set_option maxHeartbeats 1000000
/-! EvK: from what the head knows to a law's promise. -/
namespace Ev
open PySem PySem.Spec PyProof.Rows L2
structure AtF (K : PySem.W.Frag) (x : Str) (st : Stmt) : Prop where
  ex : ∃ (f : Addr) (fd : FuncData), PySem.W.nsIn K mainGlobals x = some (some (.ref f)) ∧ Fun K x x st f fd
section
variable {P : Program} {w : World} {K : PySem.W.Frag} {mg : Str → Option Value} {base : Heap} {x : Str} {st : Stmt} {f : Addr} {fd : FuncData}
theorem at_mk {oc : Value} {od an : Option Addr} {osl : Array (Option Value)} {kV doc pm cdv ct : Value} (a : PySem.W.nsIn K mainGlobals x = some (some (.ref f)))
    (l : K.lookup f = some ⟨oc, od, .func (PySem.W.fnOf x x (defArgs st) (defBody st) (defScope st) .none kV doc pm an cdv ct), osl⟩) (c : PySem.W.codeIn K cdv x = true) (k : PySem.W.keepIn K (.ref f) = true) : AtF K x st := ⟨f, _, a, fun_mk l c k⟩
theorem fdk_of {ps : List Str} {k j : Nat} {g : DF} (D : Fd P w K mg base j x ps g) (hm : mg x = some (.ref f)) (F : Fun K x x st f fd) (ks : List Str) (π : List Nat)
    (h : ∀ (kV doc pm : Value) (an : Option Addr) (cdv ct : Value) (ws : List Value), ws.length = ks.length → bindArgs (PySem.W.fnOf x x (defArgs st) (defBody st) (defScope st) .none kV doc pm an cdv ct) ⟨[], ks.zip ws⟩ = pure (ps.zip (perm π ws))) (hj : j ≤ k) :
    FdK P w K mg base k x ps ks π g := by
  obtain ⟨f', fd', h1, h2, ⟨oc', od', osl', lk'⟩, h3, h4⟩ := D.ok
  obtain ⟨oc, od, kV, doc, pm, an, cdv, ct, osl, e1, lk, hcd⟩ := F.ex
  obtain rfl : f' = f := Value.ref.inj (Option.some.inj (h1.symm.trans hm))
  rw [lk] at lk'
  cases lk'
  refine ⟨f', fd, hm, F.kp, fun s ws _ hl => ?_, h4.mono hj⟩
  rw [e1]
  exact .of_eq (h kV doc pm an cdv ct ws hl)
theorem binds1_of {y : Str} (F : Fun K x x st f fd) (h : ∀ (kV doc pm : Value) (an : Option Addr) (cdv ct v : Value), bindArgs (PySem.W.fnOf x x (defArgs st) (defBody st) (defScope st) .none kV doc pm an cdv ct) ⟨[v], []⟩ = pure [(y, v)]) (s : Shared) (v : Value) : BindsTo s fd ⟨[v], []⟩ [(y, v)] := by
  obtain ⟨oc, od, kV, doc, pm, an, cdv, ct, osl, e1, lk, hcd⟩ := F.ex
  rw [e1]
  exact .of_eq (h kV doc pm an cdv ct v)
theorem fng_of {ps : List Str} {j : Nat} {g : DF} (D : Fd P w K mg base j x ps g) (F : Fun K x x st f fd) (hm : mg x = some (.ref f)) : FnG P w K mg base j f fd ps (spD K ps.length g) := by
  obtain ⟨f', fd', h1, h2, ⟨oc', od', osl', lk'⟩, h3, h4⟩ := D.ok
  obtain ⟨oc, od, kV, doc, pm, an, cdv, ct, osl, e1, lk, hcd⟩ := F.ex
  obtain rfl : f' = f := Value.ref.inj (Option.some.inj (h1.symm.trans hm))
  rw [lk] at lk'
  cases lk'
  exact h4
end
end Ev

set_option maxHeartbeats 1000000
/-! EvL: readings of denotations: loops by what holds ahead of each turn. -/
namespace Ev
open PySem PySem.Spec PyProof.Rows L2

theorem sz_0 : (0 ≤ sizeLine) = True := eq_true (by decide)
theorem sz_1 : (1 ≤ sizeLine) = True := eq_true (by decide)
theorem sz_2 : (2 ≤ sizeLine) = True := eq_true (by decide)
theorem sz_3 : (3 ≤ sizeLine) = True := eq_true (by decide)
theorem sz_4 : (4 ≤ sizeLine) = True := eq_true (by decide)
theorem sz_5 : (5 ≤ sizeLine) = True := eq_true (by decide)
theorem sz_6 : (6 ≤ sizeLine) = True := eq_true (by decide)
theorem sz_7 : (7 ≤ sizeLine) = True := eq_true (by decide)
theorem sz_8 : (8 ≤ sizeLine) = True := eq_true (by decide)
theorem sz_9 : (9 ≤ sizeLine) = True := eq_true (by decide)
theorem sz_10 : (10 ≤ sizeLine) = True := eq_true (by decide)
theorem sz_11 : (11 ≤ sizeLine) = True := eq_true (by decide)
theorem sz_12 : (12 ≤ sizeLine) = True := eq_true (by decide)
theorem sz_13 : (13 ≤ sizeLine) = True := eq_true (by decide)
theorem sz_14 : (14 ≤ sizeLine) = True := eq_true (by decide)
theorem sz_15 : (15 ≤ sizeLine) = True := eq_true (by decide)
theorem sz_16 : (16 ≤ sizeLine) = True := eq_true (by decide)
theorem sz_17 : (17 ≤ sizeLine) = True := eq_true (by decide)
theorem sz_18 : (18 ≤ sizeLine) = True := eq_true (by decide)
theorem sz_19 : (19 ≤ sizeLine) = True := eq_true (by decide)
theorem sz_20 : (20 ≤ sizeLine) = True := eq_true (by decide)
theorem sz_21 : (21 ≤ sizeLine) = True := eq_true (by decide)
theorem sz_22 : (22 ≤ sizeLine) = True := eq_true (by decide)
theorem sz_23 : (23 ≤ sizeLine) = True := eq_true (by decide)
theorem sz_24 : (24 ≤ sizeLine) = True := eq_true (by decide)
/-- what a turn leaves -/
def Turn (I : Rho → Sto → Prop) (F : Out → Prop) : Out → Prop
  | .nx ρ S => I ρ S
  | .ct ρ S => I ρ S
  | .bk ρ S => F (.nx ρ S)
  | .rt d S => F (.rt d S)
theorem loop_inv {src : Src} {g : DG} {b : DS} (n : Nat) (I : Nat → Rho → Sto → Prop) (F : Out → Prop)
    (step : ∀ i ρ S, i < n → I i ρ S → ∃ d, src.item S i = some (some d) ∧ ∃ ρ1 S1, g d ρ S = some (ρ1, S1) ∧ ∃ o, b ρ1 S1 = some o ∧ Turn (I (i + 1)) F o)
    (last : ∀ ρ S, I n ρ S → src.item S n = some none ∧ F (.nx ρ S)) :
    ∀ (m i : Nat) (ρ : Rho) (S : Sto), m + i = n + 1 → i ≤ n → I i ρ S → ∃ o, loop src g b m i ρ S = some o ∧ F o := by
  intro m
  induction m with
  | zero => intro i ρ S h hi; omega
  | succ m ih =>
    intro i ρ S h hi0 hI
    by_cases hi : i < n
    · obtain ⟨d, h1, ρ1, S1, h2, o, h3, h4⟩ := step i ρ S hi hI
      unfold loop
      simp only [h1, h2, h3]
      cases o with
      | nx ρ2 S2 => exact ih (i + 1) ρ2 S2 (by omega) (by omega) h4
      | ct ρ2 S2 => exact ih (i + 1) ρ2 S2 (by omega) (by omega) h4
      | bk ρ2 S2 => exact ⟨_, rfl, h4⟩
      | rt d S2 => exact ⟨_, rfl, h4⟩
    · have e : i = n := by omega
      subst e
      obtain ⟨h1, h2⟩ := last ρ S hI
      unfold loop
      simp only [h1]
      exact ⟨_, rfl, h2⟩
/-- for over a range -/
theorem for_rng {it : DI} {g : DG} {b : DS} {ρ : Rho} {S S1 : Sto} {lo c : Int} {n : Nat} (hit : it ρ S = some (.fix (rngs lo c n), S1)) (I : Nat → Rho → Sto → Prop) (F : Out → Prop)
    (h0 : I 0 ρ S1)
    (step : ∀ i ρ S, i < n → I i ρ S → ∃ ρ1 S1, g (.int (lo + (i : Int) * c)) ρ S = some (ρ1, S1) ∧ ∃ o, b ρ1 S1 = some o ∧ Turn (I (i + 1)) F o)
    (last : ∀ ρ S, I n ρ S → F (.nx ρ S)) : ∃ o, dFor it g b ρ S = some o ∧ F o := by
  unfold dFor
  simp only [hit]
  refine loop_inv n I F (fun i ρ S hi hI => ⟨_, ?_, step i ρ S hi hI⟩) (fun ρ S hI => ⟨?_, last ρ S hI⟩) _ 0 ρ S1 ?_ (Nat.zero_le _) h0
  · show some (rngs lo c n)[i]? = _
    rw [rngs_get, if_pos hi]
  · show some (rngs lo c n)[n]? = _
    rw [rngs_get, if_neg (Nat.lt_irrefl n)]
  · show (rngs lo c n).length + 1 + 0 = n + 1
    rw [rngs_len]
/-- for over a tuple, or over a list that nobody writes -/
theorem for_fix {it : DI} {g : DG} {b : DS} {ρ : Rho} {S S1 : Sto} {ds : List D} (hit : it ρ S = some (.fix ds, S1)) (I : Nat → Rho → Sto → Prop) (F : Out → Prop)
    (h0 : I 0 ρ S1)
    (step : ∀ i d ρ S, ds[i]? = some d → I i ρ S → ∃ ρ1 S1, g d ρ S = some (ρ1, S1) ∧ ∃ o, b ρ1 S1 = some o ∧ Turn (I (i + 1)) F o)
    (last : ∀ ρ S, I ds.length ρ S → F (.nx ρ S)) : ∃ o, dFor it g b ρ S = some o ∧ F o := by
  unfold dFor
  simp only [hit]
  refine loop_inv ds.length I F (fun i ρ S hi hI => ⟨ds[i], ?_, step i _ ρ S (List.getElem?_eq_getElem hi) hI⟩) (fun ρ S hI => ⟨?_, last ρ S hI⟩) _ 0 ρ S1 rfl (Nat.zero_le _) h0
  · show some ds[i]? = _
    rw [List.getElem?_eq_getElem hi]
  · show some ds[ds.length]? = _
    rw [List.getElem?_eq_none (Nat.le_refl _)]
/-- for over a list of the store that the loop doesn't write -/
theorem for_lst {it : DI} {g : DG} {b : DS} {ρ : Rho} {S S1 : Sto} {j : Nat} {ds : List D} (hit : it ρ S = some (.lst j, S1)) (hj : S1[j]? = some (.lst ds)) (I : Nat → Rho → Sto → Prop) (F : Out → Prop)
    (h0 : I 0 ρ S1) (keep : ∀ i ρ S, I i ρ S → S[j]? = some (.lst ds))
    (step : ∀ i d ρ S, ds[i]? = some d → I i ρ S → ∃ ρ1 S1, g d ρ S = some (ρ1, S1) ∧ ∃ o, b ρ1 S1 = some o ∧ Turn (I (i + 1)) F o)
    (last : ∀ ρ S, I ds.length ρ S → F (.nx ρ S)) : ∃ o, dFor it g b ρ S = some o ∧ F o := by
  unfold dFor
  simp only [hit]
  refine loop_inv ds.length I F (fun i ρ S hi hI => ⟨ds[i], ?_, step i _ ρ S (List.getElem?_eq_getElem hi) hI⟩) (fun ρ S hI => ⟨?_, last ρ S hI⟩) _ 0 ρ S1 ?_ (Nat.zero_le _) h0
  · simp only [Src.item, keep _ _ _ hI, List.getElem?_eq_getElem hi]
  · simp only [Src.item, keep _ _ _ hI, List.getElem?_eq_none (Nat.le_refl _)]
  · simp only [Src.size, hj]; try rfl
/-- while: what falls -/
theorem while_inv {t : DT} {b : DS} (I : Nat → Rho → Sto → Prop) (F : Out → Prop)
    (step : ∀ m ρ S, I m ρ S → (∃ S1, t ρ S = some (false, S1) ∧ F (.nx ρ S1)) ∨ (∃ S1 o, t ρ S = some (true, S1) ∧ b ρ S1 = some o ∧ 0 < m ∧ Turn (I (m - 1)) F o)) :
    ∀ (n m : Nat) (ρ : Rho) (S : Sto), m < n → I m ρ S → ∃ o, dWhile t b n ρ S = some o ∧ F o := by
  intro n
  induction n with
  | zero => intro m ρ S h; omega
  | succ n ih =>
    intro m ρ S h hI
    unfold dWhile
    rcases step m ρ S hI with ⟨S1, h1, h2⟩ | ⟨S1, o, h1, h2, h3, h4⟩
    · simp only [h1]
      exact ⟨_, rfl, h2⟩
    · simp only [h1, h2]
      cases o with
      | nx ρ2 S2 => exact ih (m - 1) ρ2 S2 (by omega) h4
      | ct ρ2 S2 => exact ih (m - 1) ρ2 S2 (by omega) h4
      | bk ρ2 S2 => exact ⟨_, rfl, h4⟩
      | rt d S2 => exact ⟨_, rfl, h4⟩
/-- a comprehension: what holds of the store and the list ahead of each turn -/
theorem lc_inv {src : Src} {g : DG} {t : DT} {f : DE} {ρ : Rho} {k0 : Nat} (n : Nat) (I : Nat → List D → Sto → Prop)
    (at_ : ∀ i acc S, I i acc S → S[k0]? = some (.lst acc))
    (step : ∀ i acc S, i < n → I i acc S → ∃ d, src.item S i = some (some d) ∧ ∃ ρ1 S1, g d ρ S = some (ρ1, S1) ∧
      ((∃ S2, t ρ1 S1 = some (false, S2) ∧ I (i + 1) acc S2) ∨ (∃ S2 y S3, t ρ1 S1 = some (true, S2) ∧ f ρ1 S2 = some (y, S3) ∧ S3[k0]? = some (.lst acc) ∧ acc.length < sizeLine ∧ I (i + 1) (acc ++ [y]) (S3.set k0 (.lst (acc ++ [y]))))))
    (last : ∀ acc S, I n acc S → src.item S n = some none) :
    ∀ (m i : Nat) (acc : List D) (S : Sto), m + i = n + 1 → i ≤ n → I i acc S → ∃ acc' S', lcLoop k0 src g t f ρ m i S = some S' ∧ I n acc' S' := by
  intro m
  induction m with
  | zero => intro i acc S h hi; omega
  | succ m ih =>
    intro i acc S h hi0 hI
    by_cases hi : i < n
    · obtain ⟨d, h1, ρ1, S1, h2, h3⟩ := step i acc S hi hI
      unfold lcLoop
      rcases h3 with ⟨S2, h3, h4⟩ | ⟨S2, y, S3, h3, h4, h5, h6, h7⟩
      · simp only [h1, h2, h3]
        exact ih (i + 1) acc S2 (by omega) (by omega) h4
      · simp only [h1, h2, h3, h4, h5, if_pos h6]
        exact ih (i + 1) _ _ (by omega) (by omega) h7
    · have e : i = n := by omega
      subst e
      unfold lcLoop
      simp only [last acc S hI]
      exact ⟨acc, S, rfl, hI⟩
/-- a comprehension whose parts leave the store alone -/
theorem lc_pure {src : Src} {g : DG} {t : DT} {f : DE} {ρ : Rho} {S : Sto} {ds ys : List D} (hl : ds.length ≤ sizeLine)
    (hsrc : ∀ (S' : Sto) (i : Nat), (∀ j, j < S.length → S'[j]? = S[j]?) → src.item S' i = some ds[i]?)
    (h : ∀ (i : Nat) (d : D) (acc : List D), ds[i]? = some d → ∃ ρ1, (∀ S', g d ρ S' = some (ρ1, S')) ∧ t ρ1 (S ++ [.lst acc]) = some (true, S ++ [.lst acc]) ∧ ∃ y, ys[i]? = some y ∧ f ρ1 (S ++ [.lst acc]) = some (y, S ++ [.lst acc]))
    (hys : ys.length = ds.length) :
    lcLoop S.length src g t f ρ (ds.length + 1) 0 (S ++ [.lst []]) = some (S ++ [.lst ys]) := by
  have hpre : ∀ (acc : List D) (j : Nat), j < S.length → (S ++ [O.lst acc])[j]? = S[j]? := fun acc j hj => List.getElem?_append_left hj
  obtain ⟨acc', S', h1, h2, h3⟩ := lc_inv (src := src) (g := g) (t := t) (f := f) (ρ := ρ) (k0 := S.length) ds.length (fun i acc S' => acc = ys.take i ∧ S' = S ++ [.lst acc])
    (fun i acc S' hI => by rw [hI.2]; simp)
    (fun i acc S' hi hI => by
      obtain ⟨e1, rfl⟩ := hI
      obtain ⟨ρ1, a1, a2, y, a3, a4⟩ := h i ds[i] acc (List.getElem?_eq_getElem hi)
      refine ⟨ds[i], by rw [hsrc _ i (hpre acc), List.getElem?_eq_getElem hi], ρ1, _, a1 _, .inr ⟨_, y, _, a2, a4, by simp, ?_, ?_, by simp⟩⟩
      · rw [e1]; simp; omega
      · obtain ⟨hy, hy'⟩ := List.getElem?_eq_some_iff.mp a3
        rw [e1, ← hy', List.take_append_getElem hy])
    (fun acc S' hI => by rw [hI.2, hsrc _ _ (hpre acc), List.getElem?_eq_none (Nat.le_refl _)])
    (ds.length + 1) 0 [] (S ++ [.lst []]) rfl (Nat.zero_le _) ⟨by simp, rfl⟩
  rw [h1, h3, h2, ← hys, List.take_length]
end Ev

set_option maxHeartbeats 1000000
/-! EvQ: more that the walk serves. -/
namespace Ev
open PySem PySem.Spec PyProof.Rows L2
section
variable {X : Cx}
theorem pd_sub : PIp X .Sub (r2D X.K gSub) := by
  intro pins s σ H x y v u Q I rx ry q
  obtain ⟨φ, S, a, b, d, S', rs, la, lb, hd, w⟩ := q
  unfold gSub gI at hd
  split at hd
  · rename_i i j
    cases hd
    cases la
    cases lb
    exact ip_sub pins s σ H _ _ v u Q I rx ry ⟨i, j, rfl, rfl, w.int rs⟩
  · cases hd
end

/-! comprehensions of two clauses -/
def lc2Loop (k0 : Nat) (src : Src) (g : DG) (t : DT) (it1 : DI) (g1 : DG) (t1 : DT) (f : DE) (vs1 : List Nat) (ρ : Rho) : Nat → Nat → Sto → Option Sto
  | 0, _, _ => none
  | n + 1, i, S => match src.item S i with
    | some (some d) => match g d ρ S with
      | some (ρ1, S1) => match t ρ1 S1 with
        | some (true, S2) => match it1 ρ1 S2 with
          | some (src1, S3) => match lcLoop k0 src1 g1 t1 f (wipeR ρ1 vs1) (src1.size S3 + 1) 0 S3 with
            | some S4 => lc2Loop k0 src g t it1 g1 t1 f vs1 ρ n (i + 1) S4
            | none => none
          | none => none
        | some (false, S2) => lc2Loop k0 src g t it1 g1 t1 f vs1 ρ n (i + 1) S2
        | none => none
      | none => none
    | some none => some S
    | none => none
def dLc2 (it : DI) (g : DG) (t : DT) (it1 : DI) (g1 : DG) (t1 : DT) (f : DE) (vs vs1 : List Nat) : DE := fun ρ S => match it ρ S with
  | some (src, S1) => match lc2Loop S1.length src g t it1 g1 t1 f vs1 (wipeR ρ vs) (src.size S1 + 1) 0 (S1 ++ [.lst []]) with
    | some S2 => some (.ref S1.length, S2)
    | none => none
  | none => none
section
variable {X : Cx} {K : PySem.W.Frag} {H H' : Hp} {φ φ' : List Addr} {S S' : Sto} {σ : L2.St} {ρ ρ' : Rho} {tg iter tg1 iter1 elt : Expr} {ifs ifs1 : List Expr} {pos : Pos}
theorem tLc2_D {it it1 : DI} {g g1 : TG} {gd gd1 : DG} {t t1 : DT} {f : DE} {vs vs1 : List Nat} {σ : L2.St} {H : Hp} {Q : VK} (hg : LcG K g gd vs) (hgb : LcG K g1 gd1 vs1) (h : tD K (dLc2 it gd t it1 gd1 t1 f vs vs1) σ H Q) :
    tLc2 (tI K it) g (tT K t) (tI K it1) g1 (tT K t1) (tD K f) vs vs1 σ H Q := by
  obtain ⟨φ, ρ, S, d, S', re, rs, hd, w⟩ := h
  unfold dLc2 at hd
  split at hd
  · rename_i src S1 h1
    split at hd
    · rename_i S2 h2
      obtain ⟨rfl, rfl⟩ : d = .ref S1.length ∧ S' = S2 := by
        cases hd
        exact ⟨rfl, rfl⟩
      refine ⟨φ, ρ, S, src, S1, re, rs, h1, ⟨[.lst []], (fun z => by unfold lc2Loop at h2; simp only [z] at h2; cases h2)⟩, fun J H1 φ1 e1 r1 go D nD => ?_⟩
      obtain ⟨eD, rD, lD⟩ := ext_lst r1 nD (vs := []) (ds := []) .nil
      have eb := e1.trans eD
      refine ⟨fun i m H2 => ∃ φ2 S3, Ex K (upd H1 D (.lst [])) (φ1 ++ [D]) H2 φ2 ∧ RS K H2 φ2 S3 ∧ lc2Loop S1.length src gd t it1 gd1 t1 f vs1 (wipeR ρ vs) m i S3 = some S', ⟨_, _, _, .refl, rD, h2⟩, ?_⟩
      rintro i m H2 ⟨φ2, S3, e2, r2, hl⟩
      have lk : φ2[S1.length]? = some D := by
        cases lD with
        | ref hk _ => exact e2.ix hk
      have goX := go.mono eD
      cases m with
      | zero => cases hl
      | succ n =>
        unfold lc2Loop at hl
        split at hl
        · rename_i d h3
          obtain ⟨q1, q2⟩ := goX.go H2 φ2 S3 i d e2 r2 h3
          refine .inr ⟨q1, fun H' => ∃ φ4 S4, Ex K (upd H1 D (.lst [])) (φ1 ++ [D]) H' φ4 ∧ RS K H' φ4 S4 ∧ lc2Loop S1.length src gd t it1 gd1 t1 f vs1 (wipeR ρ vs) n (i + 1) S4 = some S', fun H' h => ⟨n, Nat.lt_succ_self n, h⟩, fun x H' y => ?_⟩
          obtain ⟨e3, r3, l3⟩ := q2 x H' y
          split at hl
          · rename_i ρ4 S4 h4
            have re3 : RE K H' φ2 (wipe σ vs) (wipeR ρ vs) := (re.wipe vs).mono (eb.trans (e2.trans e3))
            refine hg.run x (wipe σ vs) σ H' _ φ2 _ S3 d ρ4 S4 (wipe_wipe vs σ) re3 r3 l3 h4 fun τ hw re4 r4 => ⟨hw, ?_⟩
            split at hl
            · rename_i S5 h5
              refine ⟨φ2, ρ4, S4, true, S5, re4, r4, h5, fun H5 φ5 e5 r5 => ?_⟩
              refine iteT ?_
              split at hl
              · rename_i src1 S6 h6
                split at hl
                · rename_i S7 h7
                  refine ⟨φ5, ρ4, S5, src1, S6, re4.mono e5, r5, h6, Src.fit_of (fun z => by unfold lcLoop at h7; simp only [z] at h7; cases h7), fun J1 H6 φ6 e6 r6 go1 => ?_⟩
                  have e06 := e2.trans (e3.trans (e5.trans e6))
                  refine ⟨fun j k H7 => ∃ φ7 S8, Ex K H6 φ6 H7 φ7 ∧ RS K H7 φ7 S8 ∧ lcLoop S1.length src1 gd1 t1 f (wipeR ρ4 vs1) k j S8 = some S7, ⟨_, _, _, .refl, r6, h7⟩, ?_⟩
                  rintro j k H7 ⟨φ7, S8, e7, r7, hk⟩
                  have lk7 : φ7[S1.length]? = some D := e7.ix (e6.ix (e5.ix lk))
                  cases k with
                  | zero => cases hk
                  | succ k =>
                    unfold lcLoop at hk
                    split at hk
                    · rename_i d8 h8
                      obtain ⟨p1, p2⟩ := go1.go H7 φ7 S8 j d8 e7 r7 h8
                      refine .inr ⟨p1, fun H' => ∃ φ9 S9, Ex K H6 φ6 H' φ9 ∧ RS K H' φ9 S9 ∧ lcLoop S1.length src1 gd1 t1 f (wipeR ρ4 vs1) k (j + 1) S9 = some S7, fun H' h => ⟨k, Nat.lt_succ_self k, h⟩, fun x8 H8 y8 => ?_⟩
                      obtain ⟨e8, r8, l8⟩ := p2 x8 H8 y8
                      split at hk
                      · rename_i ρ9 S9 h9
                        have re8 : RE K H8 φ7 (wipe τ vs1) (wipeR ρ4 vs1) := (re4.wipe vs1).mono (e5.trans (e6.trans (e7.trans e8)))
                        refine hgb.run x8 (wipe τ vs1) τ H8 _ φ7 _ S8 d8 ρ9 S9 (wipe_wipe vs1 τ) re8 r8 l8 h9 fun τ9 hw9 re9 r9 => ⟨hw9, ?_⟩
                        split at hk
                        · rename_i S10 h10
                          refine ⟨φ7, ρ9, S9, true, S10, re9, r9, h10, fun H10 φ10 e10 r10 => ?_⟩
                          refine iteT ?_
                          split at hk
                          · rename_i y11 S11 h11
                            refine ⟨φ10, ρ9, S10, y11, S11, re9.mono e10, r10, h11, fun v H11 φ11 e11 r11 l11 => ?_⟩
                            split at hk
                            · rename_i acc h12
                              split at hk
                              · rename_i hz
                                have lk11 : φ11[S1.length]? = some D := e11.ix (e10.ix lk7)
                                obtain ⟨vs11, q3, q4⟩ := r11.ob _ D _ lk11 h12
                                refine ⟨vs11, q3, by rw [q4.len]; exact hz, ?_⟩
                                obtain ⟨e12, r12⟩ := ext_set r11 lk11 (q4.app (Rls.one l11))
                                exact ⟨φ11, _, e7.trans (e8.trans (e10.trans (e11.trans e12))), r12, hk⟩
                              · cases hk
                            · cases hk
                          · cases hk
                        · rename_i S10 h10
                          refine ⟨φ7, ρ9, S9, false, S10, re9, r9, h10, fun H10 φ10 e10 r10 => ?_⟩
                          refine iteF ?_
                          exact ⟨φ10, S10, e7.trans (e8.trans e10), r10, hk⟩
                        · cases hk
                      · cases hk
                    · rename_i h8
                      cases hk
                      exact .inl ⟨go1.stop H7 φ7 _ j e7 r7 h8, φ7, _, e06.trans e7, r7, hl⟩
                    · cases hk
                · cases hl
              · cases hl
            · rename_i S5 h5
              refine ⟨φ2, ρ4, S4, false, S5, re4, r4, h5, fun H5 φ5 e5 r5 => ?_⟩
              refine iteF ?_
              exact ⟨φ5, S5, e2.trans (e3.trans e5), r5, hl⟩
            · cases hl
          · cases hl
        · rename_i h3
          cases hl
          exact .inl ⟨goX.stop H2 φ2 _ i e2 r2 h3, w _ _ _ (eb.trans e2) r2 (Rl.mono e2 _ _ lD)⟩
        · cases hl
    · cases hd
  · cases hd
theorem we_lc2 {scope : Scope} {own : List (Str × Nat)} {vs1 : List Nat} {it it1 : DI} {g g1 : TG} {gd gd1 : DG} {t t1 : DT} {f : DE} (hc : X.calm = true) (hN : X.N.Nodup) (hi : PI X tg iter (tI X.K it)) (ok : BlkOk X.N X.env.scope scope own) (hv : ∀ i ∈ vs1, i ∈ own.map (·.2)) (lg : LcG X.K g gd (own.map (·.2))) (lg1 : LcG X.K g1 gd1 vs1)
    (hg : ∀ (s : Shared) (H : Hp) (C : Addr) (cl : List (Str × Addr)) (fp : List Addr), PG (X.blk s H scope (compEnvC scope cl C X.env) fp) tg g) (ht : ∀ (s : Shared) (H : Hp) (C : Addr) (cl : List (Str × Addr)) (fp : List Addr), PTs (X.blk s H scope (compEnvC scope cl C X.env) fp) ifs (tT X.K t))
    (hi1 : ∀ (s : Shared) (H : Hp) (C : Addr) (cl : List (Str × Addr)) (fp : List Addr), PI (X.blk s H scope (compEnvC scope cl C X.env) fp) tg1 iter1 (tI X.K it1))
    (hg1 : ∀ (s : Shared) (H : Hp) (C : Addr) (cl : List (Str × Addr)) (fp : List Addr), PG (X.blk s H scope (compEnvC scope cl C X.env) fp) tg1 g1) (ht1 : ∀ (s : Shared) (H : Hp) (C : Addr) (cl : List (Str × Addr)) (fp : List Addr), PTs (X.blk s H scope (compEnvC scope cl C X.env) fp) ifs1 (tT X.K t1))
    (he : ∀ (s : Shared) (H : Hp) (C : Addr) (cl : List (Str × Addr)) (fp : List Addr), PE (X.blk s H scope (compEnvC scope cl C X.env) fp) elt (tD X.K f)) (hs : ∀ x, foldedSetIterable iter X.env x = pure x := by intro _; rfl) (hs1 : ∀ env x, foldedSetIterable iter1 env x = pure x := by intro _ _; rfl) :
    PE X (.ListComp elt [⟨tg, iter, ifs, 0⟩, ⟨tg1, iter1, ifs1, 0⟩] scope pos) (tD X.K (dLc2 it gd t it1 gd1 t1 f (own.map (·.2)) vs1)) :=
  PE.imp (pe_lc2 hc hN hi ok hv hg ht hi1 hg1 ht1 he hs hs1) fun _ _ _ h => tLc2_D lg lg1 h
theorem ws_setLc2 {i : Nat} {y : Str} {py : Pos} {spos : Pos} {scope : Scope} {own : List (Str × Nat)} {vs1 : List Nat} {it it1 : DI} {g g1 : TG} {gd gd1 : DG} {t t1 : DT} {f : DE} (hc : X.calm = true) (hN : X.N.Nodup) (hy : X.N[i]? = some y) (hyl : X.env.scope.names.lookup y = some .local)
    (hsw : swapsWith (.ListComp elt [⟨tg, iter, ifs, 0⟩, ⟨tg1, iter1, ifs1, 0⟩] scope pos) (some (.Name y py)) spos.line X.env = pure true) (hi : PI X tg iter (tI X.K it)) (ok : BlkOk X.N X.env.scope scope own) (hv : ∀ i ∈ vs1, i ∈ own.map (·.2)) (lg : LcG X.K g gd (own.map (·.2))) (lg1 : LcG X.K g1 gd1 vs1)
    (hg : ∀ (s : Shared) (H : Hp) (C : Addr) (cl : List (Str × Addr)) (fp : List Addr), PG (X.blk s H scope (compEnvC scope cl C X.env) fp) tg g) (ht : ∀ (s : Shared) (H : Hp) (C : Addr) (cl : List (Str × Addr)) (fp : List Addr), PTs (X.blk s H scope (compEnvC scope cl C X.env) fp) ifs (tT X.K t))
    (hi1 : ∀ (s : Shared) (H : Hp) (C : Addr) (cl : List (Str × Addr)) (fp : List Addr), PI (X.blk s H scope (compEnvC scope cl C X.env) fp) tg1 iter1 (tI X.K it1))
    (hg1 : ∀ (s : Shared) (H : Hp) (C : Addr) (cl : List (Str × Addr)) (fp : List Addr), PG (X.blk s H scope (compEnvC scope cl C X.env) fp) tg1 g1) (ht1 : ∀ (s : Shared) (H : Hp) (C : Addr) (cl : List (Str × Addr)) (fp : List Addr), PTs (X.blk s H scope (compEnvC scope cl C X.env) fp) ifs1 (tT X.K t1))
    (he : ∀ (s : Shared) (H : Hp) (C : Addr) (cl : List (Str × Addr)) (fp : List Addr), PE (X.blk s H scope (compEnvC scope cl C X.env) fp) elt (tD X.K f)) (hs : ∀ x, foldedSetIterable iter X.env x = pure x := by intro _; rfl) (hs1 : ∀ env x, foldedSetIterable iter1 env x = pure x := by intro _ _; rfl) :
    PS X (.Assign [.Name y py] (.ListComp elt [⟨tg, iter, ifs, 0⟩, ⟨tg1, iter1, ifs1, 0⟩] scope pos) spos) (tS X.K (dAsg (dLc2 it gd t it1 gd1 t1 f (own.map (·.2)) vs1) (dgN i))) :=
  PS.imp (ps_setLc2 hc hN hy hyl hsw hi ok hv hg ht hi1 hg1 ht1 he hs hs1) fun Dn σ H h => by
    obtain ⟨φ, ρ, S, d, S', re, rs, hd, w⟩ := tAsg_D h
    refine tLc2_D lg lg1 ⟨φ, ρ, S, d, S', re, rs, hd, fun v H1 φ1 e1 r1 l1 => ?_⟩
    obtain ⟨φ2, ρ2, S2, d2, ρ3, S3, re2, rs2, l2, h2, w2⟩ := w v H1 φ1 e1 r1 l1
    cases h2
    exact w2.here (re2.set i l2) rs2
end
end Ev

set_option maxHeartbeats 1000000
/-! EvR: what a denotation tells, by what is wanted behind it. -/
namespace Ev
open PySem PySem.Spec PyProof.Rows L2

def Te {α : Type} (x : Option (α × Sto)) (Q : α → Sto → Prop) : Prop := ∃ a S, x = some (a, S) ∧ Q a S
def Ts (x : Option Out) (Q : Out → Prop) : Prop := ∃ o, x = some o ∧ Q o
theorem Te.imp {α : Type} {x : Option (α × Sto)} {Q R : α → Sto → Prop} (h : Te x Q) (f : ∀ a S, Q a S → R a S) : Te x R := by
  obtain ⟨a, S, e, q⟩ := h
  exact ⟨a, S, e, f a S q⟩
theorem Ts.imp {x : Option Out} {Q R : Out → Prop} (h : Ts x Q) (f : ∀ o, Q o → R o) : Ts x R := by
  obtain ⟨o, e, q⟩ := h
  exact ⟨o, e, f o q⟩
theorem Te.of {α : Type} {x : Option (α × Sto)} {a : α} {S : Sto} {Q : α → Sto → Prop} (h : x = some (a, S)) (q : Q a S) : Te x Q := ⟨a, S, h, q⟩
theorem te_some {α : Type} {a : α} {S : Sto} {Q : α → Sto → Prop} : Te (some (a, S)) Q = Q a S := by
  apply propext
  constructor
  · rintro ⟨a', S', e, q⟩; cases e; exact q
  · intro q; exact ⟨a, S, rfl, q⟩
theorem te_none {α : Type} {Q : α → Sto → Prop} : Te (none : Option (α × Sto)) Q = False := by
  apply propext
  constructor
  · rintro ⟨a', S', e, q⟩; cases e
  · intro q; exact q.elim
theorem ts_some {o : Out} {Q : Out → Prop} : Ts (some o) Q = Q o := by
  apply propext
  constructor
  · rintro ⟨o', e, q⟩; cases e; exact q
  · intro q; exact ⟨o, rfl, q⟩
theorem ts_none {Q : Out → Prop} : Ts none Q = False := by
  apply propext
  constructor
  · rintro ⟨a', e, q⟩; cases e
  · intro q; exact q.elim
def isB (x : D) (k : Bool → Prop) : Prop := match x with
  | .bl b => k b
  | _ => False
theorem isB_bl {b : Bool} {k : Bool → Prop} : isB (.bl b) k = k b := rfl
theorem br_tt {A B : Prop} : ((true = true → A) ∧ (true = false → B)) = A := propext ⟨fun h => h.1 rfl, fun h => ⟨fun _ => h, fun z => nomatch z⟩⟩
theorem br_ff {A B : Prop} : ((false = true → A) ∧ (false = false → B)) = B := propext ⟨fun h => h.2 rfl, fun h => ⟨(fun z => nomatch z), fun _ => h⟩⟩
def andThen (o : Out) (k : Rho → Sto → Prop) (Q : Out → Prop) : Prop := match o with
  | .nx ρ S => k ρ S
  | o => Q o
def fin (o : Out) (Q : D → Sto → Prop) : Prop := match o with
  | .rt d S => Q d S
  | .nx _ S => Q .non S
  | _ => False
section
variable {ρ : Rho} {S : Sto} {f f1 f2 f3 : DE} {t t1 : DT} {a : DA} {g : D2} {g1 : D1} {F : DF} {b b1 b2 : DS} {Q : D → Sto → Prop} {QB : Bool → Sto → Prop} {QA : List D → Sto → Prop} {QO : Out → Prop} {QR : Rho → Sto → Prop} {QS : Src → Sto → Prop} {QI : Option Int → Sto → Prop}
theorem at_nx {ρ : Rho} {k : Rho → Sto → Prop} : andThen (.nx ρ S) k QO = k ρ S := rfl
theorem at_rt {d : D} {k : Rho → Sto → Prop} : andThen (.rt d S) k QO = QO (.rt d S) := rfl
theorem at_bk {k : Rho → Sto → Prop} : andThen (.bk ρ S) k QO = QO (.bk ρ S) := rfl
theorem at_ct {k : Rho → Sto → Prop} : andThen (.ct ρ S) k QO = QO (.ct ρ S) := rfl
theorem fin_rt {d : D} : fin (.rt d S) Q = Q d S := rfl
theorem fin_nx : fin (.nx ρ S) Q = Q .non S := rfl
theorem te_var {i : Nat} : Te (dV i ρ S) Q = (match ρ[i]? with | some (some d) => Q d S | _ => False) := by
  unfold dV
  cases h : ρ[i]? with
  | none => simp only [te_none]
  | some d => cases d <;> simp only [te_none, te_some]
theorem te_con {d : D} : Te (dC d ρ S) Q = Q d S := te_some
theorem te_op : Te (dOp g f1 f2 ρ S) Q = Te (f1 ρ S) fun a S1 => Te (f2 ρ S1) fun b S2 => Te (g a b S2) Q := by
  unfold dOp
  cases h1 : f1 ρ S with
  | none => simp only [te_none]
  | some p =>
    obtain ⟨x, S1⟩ := p
    simp only [te_some]
    cases h2 : f2 ρ S1 with
    | none => simp only [h2, te_none]
    | some p => obtain ⟨y, S2⟩ := p; simp only [h2, te_some]
theorem te_un : Te (dUn g1 f ρ S) Q = Te (f ρ S) fun a S1 => Te (g1 a S1) Q := by
  unfold dUn
  cases h1 : f ρ S with
  | none => simp only [te_none]
  | some p => obtain ⟨x, S1⟩ := p; simp only [te_some]
theorem te_nil : Te (daNil ρ S) QA = QA [] S := te_some
theorem te_cons : Te (daCons f a ρ S) QA = Te (f ρ S) fun d S1 => Te (a ρ S1) fun ds S2 => QA (d :: ds) S2 := by
  unfold daCons
  cases h1 : f ρ S with
  | none => simp only [te_none]
  | some p =>
    obtain ⟨x, S1⟩ := p
    simp only [te_some]
    cases h2 : a ρ S1 with
    | none => simp only [h2, te_none]
    | some p => obtain ⟨y, S2⟩ := p; simp only [h2, te_some]
theorem te_call : Te (dCall F a ρ S) Q = Te (a ρ S) fun ds S1 => Te (F ds S1) Q := by
  unfold dCall
  cases h1 : a ρ S with
  | none => simp only [te_none]
  | some p => obtain ⟨x, S1⟩ := p; simp only [te_some]
theorem te_callK {π : List Nat} : Te (dCallK π F a ρ S) Q = Te (a ρ S) fun ds S1 => Te (F (perm π ds) S1) Q := by
  unfold dCallK
  cases h1 : a ρ S with
  | none => simp only [te_none]
  | some p => obtain ⟨x, S1⟩ := p; simp only [te_some]
theorem te_ite {α : Type} {c : Prop} [Decidable c] {a : α} {S : Sto} {Q : α → Sto → Prop} : Te (if c then some (a, S) else none) Q = (c ∧ Q a S) := by
  by_cases h : c
  · rw [if_pos h, te_some]; exact propext ⟨fun q => ⟨h, q⟩, fun q => q.2⟩
  · rw [if_neg h, te_none]; exact propext ⟨fun q => q.elim, fun q => h q.1⟩
theorem te_tup : Te (dTup a ρ S) Q = Te (a ρ S) fun ds S1 => ds.length ≤ sizeLine ∧ Q (.tup ds) S1 := by
  unfold dTup
  cases h1 : a ρ S with
  | none => simp only [te_none]
  | some p => obtain ⟨x, S1⟩ := p; simp only [te_some]; exact te_ite
theorem te_lst : Te (dLst a ρ S) Q = Te (a ρ S) fun ds S1 => ds.length ≤ sizeLine ∧ Q (.ref S1.length) (S1 ++ [.lst ds]) := by
  unfold dLst
  cases h1 : a ρ S with
  | none => simp only [te_none]
  | some p => obtain ⟨x, S1⟩ := p; simp only [te_some]; exact te_ite
theorem te_dB : Te (dB f ρ S) QB = Te (f ρ S) fun x S1 => isB x fun b => QB b S1 := by
  unfold dB
  cases h1 : f ρ S with
  | none => simp only [te_none]
  | some p =>
    obtain ⟨x, S1⟩ := p
    simp only [te_some]
    cases x <;> first | exact te_some | exact te_none
theorem br_of {x : Bool} {A B : Prop} (h : (x = true → A) ∧ (x = false → B)) : if x = true then A else B := by
  cases x with
  | true => exact h.1 rfl
  | false => exact h.2 rfl
theorem te_br {α : Type} {x : Bool} {y z : Option (α × Sto)} {Q : α → Sto → Prop} : Te (match x with | true => y | false => z) Q = ((x = true → Te y Q) ∧ (x = false → Te z Q)) := by
  cases x with
  | true => exact br_tt.symm
  | false => exact br_ff.symm
theorem te_not : Te (dtNot t ρ S) QB = Te (t ρ S) fun b S1 => QB (!b) S1 := by
  unfold dtNot
  cases h1 : t ρ S with
  | none => simp only [te_none]
  | some p => obtain ⟨x, S1⟩ := p; simp only [te_some]
theorem te_tand : Te (dtAnd t t1 ρ S) QB = Te (t ρ S) fun b S1 => (b = true → Te (t1 ρ S1) QB) ∧ (b = false → QB false S1) := by
  unfold dtAnd
  cases h1 : t ρ S with
  | none => simp only [te_none]
  | some p =>
    obtain ⟨x, S1⟩ := p
    simp only [te_some]
    cases x with
    | true => rw [br_tt]
    | false => rw [br_ff]; exact te_some
theorem te_tor : Te (dtOr t t1 ρ S) QB = Te (t ρ S) fun b S1 => (b = true → QB true S1) ∧ (b = false → Te (t1 ρ S1) QB) := by
  unfold dtOr
  cases h1 : t ρ S with
  | none => simp only [te_none]
  | some p =>
    obtain ⟨x, S1⟩ := p
    simp only [te_some]
    cases x with
    | true => rw [br_tt]; exact te_some
    | false => rw [br_ff]
theorem te_yes : Te (dYes ρ S) QB = QB true S := te_some
theorem te_and : Te (dAnd f f1 ρ S) Q = Te (f ρ S) fun x S1 => isB x fun b => (b = true → Te (f1 ρ S1) Q) ∧ (b = false → Q (.bl false) S1) := by
  unfold dAnd
  cases h1 : f ρ S with
  | none => simp only [te_none]
  | some p =>
    obtain ⟨x, S1⟩ := p
    simp only [te_some]
    cases x with
    | bl b => cases b with
      | true => rw [isB_bl, br_tt]
      | false => rw [isB_bl, br_ff]; exact te_some
    | _ => exact te_none
theorem te_or : Te (dOr f f1 ρ S) Q = Te (f ρ S) fun x S1 => isB x fun b => (b = true → Q (.bl true) S1) ∧ (b = false → Te (f1 ρ S1) Q) := by
  unfold dOr
  cases h1 : f ρ S with
  | none => simp only [te_none]
  | some p =>
    obtain ⟨x, S1⟩ := p
    simp only [te_some]
    cases x with
    | bl b => cases b with
      | true => rw [isB_bl, br_tt]; exact te_some
      | false => rw [isB_bl, br_ff]
    | _ => exact te_none
theorem te_dNot : Te (dNot f ρ S) Q = Te (f ρ S) fun x S1 => isB x fun b => Q (.bl (!b)) S1 := by
  unfold dNot
  cases h1 : f ρ S with
  | none => simp only [te_none]
  | some p =>
    obtain ⟨x, S1⟩ := p
    simp only [te_some]
    cases x <;> first | exact te_some | exact te_none
theorem te_if : Te (dIf t f f1 ρ S) Q = Te (t ρ S) fun b S1 => (b = true → Te (f ρ S1) Q) ∧ (b = false → Te (f1 ρ S1) Q) := by
  unfold dIf
  cases h1 : t ρ S with
  | none => simp only [te_none]
  | some p =>
    obtain ⟨x, S1⟩ := p
    simp only [te_some]
    cases x with
    | true => rw [br_tt]
    | false => rw [br_ff]
theorem te_chain {g' : D2} : Te (dChain g g' f1 f2 f3 ρ S) Q = Te (f1 ρ S) fun a S1 => Te (f2 ρ S1) fun b S2 => Te (g a b S2) fun x S3 => isB x fun y => (y = true → Te (f3 ρ S3) fun c S4 => Te (g' b c S4) Q) ∧ (y = false → Q (.bl false) S3) := by
  unfold dChain
  cases h1 : f1 ρ S with
  | none => simp only [te_none]
  | some p =>
    obtain ⟨x, S1⟩ := p
    simp only [te_some]
    cases h2 : f2 ρ S1 with
    | none => simp only [h2, te_none]
    | some p =>
      obtain ⟨y, S2⟩ := p
      simp only [h2, te_some]
      cases h3 : g x y S2 with
      | none => simp only [h3, te_none]
      | some p =>
        obtain ⟨z, S3⟩ := p
        simp only [h3, te_some]
        cases z with
        | bl c => cases c with
          | true =>
            rw [isB_bl, br_tt]
            cases h4 : f3 ρ S3 with
            | none => simp only [h4, te_none]
            | some p => obtain ⟨w, S4⟩ := p; simp only [h4, te_some]
          | false => rw [isB_bl, br_ff]; exact te_some
        | _ => exact te_none
theorem te_mt {G : D → DF} : Te (dMt G f a ρ S) Q = Te (f ρ S) fun x S1 => Te (a ρ S1) fun ds S2 => Te (G x ds S2) Q := by
  unfold dMt
  cases h1 : f ρ S with
  | none => simp only [te_none]
  | some p =>
    obtain ⟨x, S1⟩ := p
    simp only [te_some]
    cases h2 : a ρ S1 with
    | none => simp only [h2, te_none]
    | some p => obtain ⟨y, S2⟩ := p; simp only [h2, te_some]
theorem te_oNone : Te (doNone ρ S) QI = QI none S := te_some
theorem te_oSome : Te (doSome f ρ S) QI = Te (f ρ S) fun x S1 => match x with | .int i => QI (some i) S1 | _ => False := by
  unfold doSome
  cases h1 : f ρ S with
  | none => simp only [te_none]
  | some p =>
    obtain ⟨x, S1⟩ := p
    simp only [te_some]
    cases x <;> first | exact te_some | exact te_none

/-! targets -/
theorem te_gN {i : Nat} {d : D} : Te (dgN i d ρ S) QR = QR (ρ.set i (some d)) S := te_some
theorem te_gsNil : Te (dgsNil [] ρ S) QR = QR ρ S := te_some
theorem te_gsCons {g : DG} {h : DGs} {d : D} {ds : List D} : Te (dgsCons g h (d :: ds) ρ S) QR = Te (g d ρ S) fun ρ1 S1 => Te (h ds ρ1 S1) QR := by
  unfold dgsCons
  cases h1 : g d ρ S with
  | none => simp only [h1, te_none]
  | some p => obtain ⟨x, S1⟩ := p; simp only [h1, te_some]
theorem te_gT {h : DGs} {n : Nat} {ds : List D} : Te (dgT h n (.tup ds) ρ S) QR = (ds.length = n ∧ Te (h ds ρ S) QR) := by
  unfold dgT
  by_cases e : ds.length = n
  · simp only [e, if_true]; exact propext ⟨fun q => ⟨trivial, q⟩, fun q => q.2⟩
  · simp only [e, if_false, te_none, false_and]

/-! statements -/
theorem ts_nil : Ts (dNil ρ S) QO = QO (.nx ρ S) := ts_some
theorem ts_bk : Ts (dBk ρ S) QO = QO (.bk ρ S) := ts_some
theorem ts_ct : Ts (dCt ρ S) QO = QO (.ct ρ S) := ts_some
theorem ts_no : Ts (dNo ρ S) QO = False := ts_none
theorem ts_retN : Ts (dRetN ρ S) QO = QO (.rt .non S) := ts_some
theorem ts_seq : Ts (dSeq b b1 ρ S) QO = Ts (b ρ S) fun o => andThen o (fun ρ1 S1 => Ts (b1 ρ1 S1) QO) QO := by
  unfold dSeq
  cases h1 : b ρ S with
  | none => simp only [ts_none]
  | some o =>
    rw [ts_some]
    cases o <;> first | rfl | exact ts_some
theorem ts_ret : Ts (dRet f ρ S) QO = Te (f ρ S) fun d S1 => QO (.rt d S1) := by
  unfold dRet
  cases h1 : f ρ S with
  | none => simp only [te_none, ts_none]
  | some p => obtain ⟨x, S1⟩ := p; simp only [te_some, ts_some]
theorem ts_drop : Ts (dDrop f ρ S) QO = Te (f ρ S) fun d S1 => QO (.nx ρ S1) := by
  unfold dDrop
  cases h1 : f ρ S with
  | none => simp only [te_none, ts_none]
  | some p => obtain ⟨x, S1⟩ := p; simp only [te_some, ts_some]
theorem ts_if : Ts (dIfS t b b1 ρ S) QO = Te (t ρ S) fun x S1 => (x = true → Ts (b ρ S1) QO) ∧ (x = false → Ts (b1 ρ S1) QO) := by
  unfold dIfS
  cases h1 : t ρ S with
  | none => simp only [te_none, ts_none]
  | some p =>
    obtain ⟨x, S1⟩ := p
    simp only [te_some]
    cases x with
    | true => rw [br_tt]
    | false => rw [br_ff]
theorem ts_asg {g : DG} : Ts (dAsg f g ρ S) QO = Te (f ρ S) fun d S1 => Te (g d ρ S1) fun ρ2 S2 => QO (.nx ρ2 S2) := by
  unfold dAsg
  cases h1 : f ρ S with
  | none => simp only [te_none, ts_none]
  | some p =>
    obtain ⟨x, S1⟩ := p
    simp only [te_some]
    cases h2 : g x ρ S1 with
    | none => simp only [h2, te_none, ts_none]
    | some p => obtain ⟨y, S2⟩ := p; simp only [h2, te_some, ts_some]
theorem ts_par {i j : Nat} : Ts (dPar i j a ρ S) QO = Te (a ρ S) fun ds S1 => match ds with | [d1, d2] => QO (.nx ((ρ.set i (some d1)).set j (some d2)) S1) | _ => False := by
  unfold dPar
  cases h1 : a ρ S with
  | none => simp only [te_none, ts_none]
  | some p =>
    obtain ⟨x, S1⟩ := p
    simp only [te_some]
    match x with
    | [] => exact ts_none
    | [_] => exact ts_none
    | [_, _] => exact ts_some
    | _ :: _ :: _ :: _ => exact ts_none
theorem ts_aug {i : Nat} : Ts (dAug i g f ρ S) QO = (match ρ[i]? with | some (some x) => Te (f ρ S) fun y S1 => Te (g x y S1) fun d S2 => QO (.nx (ρ.set i (some d)) S2) | _ => False) := by
  unfold dAug
  cases h0 : ρ[i]? with
  | none => simp only [ts_none]
  | some d0 =>
    cases d0 with
    | none => simp only [ts_none]
    | some x =>
      cases h1 : f ρ S with
      | none => simp only [te_none, ts_none]
      | some p =>
        obtain ⟨y, S1⟩ := p
        simp only [te_some]
        cases h2 : g x y S1 with
        | none => simp only [te_none, ts_none]
        | some p => obtain ⟨y, S2⟩ := p; simp only [te_some, ts_some]
theorem te_run {n : Nat} {ds : List D} : Te (run n b ds S) Q = Ts (b (start0 n ds) S) fun o => fin o Q := by
  unfold run
  cases h1 : b (start0 n ds) S with
  | none => simp only [ts_none, te_none]
  | some o =>
    rw [ts_some]
    cases o <;> first | exact te_some | exact te_none

/-! operators on ints -/
theorem te_gI {C : Int → Int → Bool} {h : Int → Int → D} {i j : Int} : Te (gI C h (.int i) (.int j) S) Q = (C i j = true ∧ Q (h i j) S) := te_ite
theorem te_addI {i j : Int} : Te (gAdd (.int i) (.int j) S) Q = Q (.int (i + j)) S := te_some
theorem te_addT {xs ys : List D} : Te (gAdd (.tup xs) (.tup ys) S) Q = (xs.length + ys.length ≤ sizeLine ∧ Q (.tup (xs ++ ys)) S) := te_ite
theorem te_addL {i j : Nat} {xs ys : List D} (hi : S[i]? = some (.lst xs)) (hj : S[j]? = some (.lst ys)) : Te (gAdd (.ref i) (.ref j) S) Q = (xs.length + ys.length ≤ sizeLine ∧ Q (.ref S.length) (S ++ [.lst (xs ++ ys)])) := by
  unfold gAdd
  simp only [hi, hj]
  exact te_ite
theorem te_mulI {i j : Int} : Te (gMul (.int i) (.int j) S) Q = (okMul i j = true ∧ Q (.int (i * j)) S) := te_ite
theorem te_neg {i : Int} : Te (gNeg (.int i) S) Q = Q (.int (-i)) S := te_some
theorem te_eqI {i j : Int} : Te (gEq (.int i) (.int j) S) Q = Q (.bl (decide (i = j))) S := te_some
theorem te_neI {i j : Int} : Te (gNe (.int i) (.int j) S) Q = Q (.bl (!decide (i = j))) S := te_some
theorem te_intI {i : Int} : Te (gInt [.int i] S) Q = Q (.int i) S := te_some
theorem te_absI {i : Int} : Te (gAbs [.int i] S) Q = Te (gAbs [.int i] S) Q := rfl
theorem te_min2 {i j : Int} : Te (gMin [.int i, .int j] S) Q = Q (.int (if j < i then j else i)) S := te_some
theorem te_lenT {ds : List D} : Te (gLen [.tup ds] S) Q = Q (.int (ds.length : Nat)) S := te_some
theorem te_lenF {ds : List D} : Te (gLen [.fzl ds] S) Q = Q (.int (ds.length : Nat)) S := te_some
theorem te_lenL {i : Nat} {ds : List D} (h : S[i]? = some (.lst ds)) : Te (gLen [.ref i] S) Q = Q (.int (ds.length : Nat)) S := by
  unfold gLen items
  simp only [h, te_some]
theorem te_ix {x : D} {ds : List D} {k : Int} {d : D} (h : items S x = some ds) (hk : L2.atI ds k = some d) (q : Q d S) : Te (gIx x (.int k) S) Q := by
  unfold gIx
  simp only [h, hk, te_some]
  exact q
theorem te_sum {x : D} {ns : List Int} (h : items S x = some (ns.map .int)) (q : Q (.int ns.sum) S) : Te (gSum [x] S) Q := by
  unfold gSum
  simp only [h, intsD_map, te_some]
  exact q
theorem te_app {i : Nat} {es : List D} {d : D} (h : S[i]? = some (.lst es)) (hz : es.length < sizeLine) (q : Q .non (S.set i (.lst (es ++ [d])))) : Te (gAppend (.ref i) [d] S) Q := by
  unfold gAppend
  simp only [h, if_pos hz, te_some]
  exact q
theorem te_tupT {ds : List D} : Te (gTuple [.tup ds] S) Q = Q (.tup ds) S := te_some
theorem te_tupL {i : Nat} {ds : List D} (h : S[i]? = some (.lst ds)) (q : Q (.tup ds) S) : Te (gTuple [.ref i] S) Q := by
  unfold gTuple lstOf
  simp only [h, te_some]
  exact q
theorem te_lisL {x : D} {ds : List D} (h : items S x = some ds) (q : Q (.ref S.length) (S ++ [.lst ds])) : Te (gList [x] S) Q := by
  unfold gList
  simp only [h, te_some]
  exact q
theorem te_seqT {ds : List D} (h : f ρ S = some (.tup ds, S)) (q : QS (.fix ds) S) : Te (diSeq f ρ S) QS := by
  unfold diSeq
  simp only [h, te_some]
  exact q
theorem te_iSeq : Te (diSeq f ρ S) QS = Te (f ρ S) fun x S1 => match x with | .ref j => QS (.lst j) S1 | .fzl ds => QS (.fix ds) S1 | .tup ds => QS (.fix ds) S1 | _ => False := by
  unfold diSeq
  cases h1 : f ρ S with
  | none => simp only [te_none]
  | some p =>
    obtain ⟨x, S1⟩ := p
    simp only [te_some]
    cases x <;> first | exact te_some | exact te_none
theorem te_r1 : Te (diR1 a ρ S) QS = Te (a ρ S) fun ds S1 => match ds with | [.int j] => in62 j = true ∧ QS (.fix (rngs 0 1 j.toNat)) S1 | _ => False := by
  unfold diR1
  cases h1 : a ρ S with
  | none => simp only [te_none]
  | some p =>
    obtain ⟨x, S1⟩ := p
    simp only [te_some]
    split
    · rename_i h; cases h; exact te_ite
    · rename_i h
      split
      · exact (h _ _ rfl).elim
      · exact te_none
theorem te_r2 : Te (diR2 a ρ S) QS = Te (a ρ S) fun ds S1 => match ds with | [.int i, .int j] => (in62 i && in62 j) = true ∧ QS (.fix (rngs i 1 (j - i).toNat)) S1 | _ => False := by
  unfold diR2
  cases h1 : a ρ S with
  | none => simp only [te_none]
  | some p =>
    obtain ⟨x, S1⟩ := p
    simp only [te_some]
    split
    · rename_i h; cases h; exact te_ite
    · rename_i h
      split
      · exact (h _ _ _ rfl).elim
      · exact te_none
end
end Ev

set_option maxHeartbeats 1000000
/-! KdA: denotations that several laws' own parts share, as gen.py prints them. -/
namespace Ev
open PySem PySem.Spec PyProof.Rows L2
def d_law_pot : DS := (dSeq (dAsg (dOp gAdd (dC (.int 60013)) (dOp gMul (dC (.int 8087)) (dV 1))) (dgN 2)) (dSeq (dFor (diSeq (dSl (dV 0) doNone (doSome (dC (.int 9))))) (dgN 3) (dAsg (dOp gMod (dCall gInt (daCons (dOp gAdd (dOp gAdd (dOp gMul (dV 2) (dC (.int 50993))) (dOp gMul (dOp gMod (dCall gInt (daCons (dV 3) daNil)) (dC (.int 2147483477))) (dC (.int 11)))) (dC (.int 23))) daNil)) (dC (.int 2147483477))) (dgN 2))) (dSeq (dAsg (dIf (dB (dOp gLt (dV 1) (dCall gLen (daCons (dV 0) daNil)))) (dCall gInt (daCons (dOp gIx (dV 0) (dV 1)) daNil)) (dC (.int 0))) (dgN 4)) (dSeq (dAsg (dOp gMod (dCall gInt (daCons (dOp gAdd (dOp gAdd (dOp gMul (dV 2) (dC (.int 53))) (dOp gMul (dOp gMod (dCall gInt (daCons (dV 4) daNil)) (dC (.int 2147483477))) (dC (.int 40009)))) (dC (.int 7))) daNil)) (dC (.int 2147483477))) (dgN 2)) (dRet (dLst (daCons (dIf (dtOr (dB (dOp gLt (dV 4) (dC (.int 0)))) (dB (dOp gGe (dV 4) (dOp gPow (dC (.int 10)) (dC (.int 15)))))) (dCall gAbs (daCons (dV 4) daNil)) (dC (.int 0))) (daCons (dV 2) (daCons (dC (.int 0)) daNil)))))))))
def m_law_pot : DF := run 5 d_law_pot
def d_law_take : DS := (dSeq (dIfS (dB (dOp gGt (dOp gIx (dV 0) (dC (.int 0))) (dC (.int 0)))) (dSeq (dAsg (dCall gDivmod (daCons (dOp gIx (dV 0) (dC (.int 0))) (daCons (dV 1) daNil))) (dgT (dgsCons (dgI (dV 0) (dC (.int 0))) (dgsCons (dgN 2) dgsNil)) 2)) (dRet (dV 2))) dNil) (dSeq (dAsg (dOp gAdd (dOp gIx (dV 0) (dC (.int 2))) (dC (.int 1))) (dgI (dV 0) (dC (.int 2)))) (dSeq (dAsg (dOp gMod (dCall gInt (daCons (dOp gAdd (dOp gMul (dOp gIx (dV 0) (dC (.int 1))) (dC (.int 39373))) (dOp gMul (dC (.int 14173)) (dOp gIx (dV 0) (dC (.int 2))))) daNil)) (dC (.int 2147483477))) (dgN 3)) (dSeq (dAsg (dOp gMod (dCall gInt (daCons (dOp gAdd (dOp gMul (dV 3) (dOp gAdd (dOp gMod (dCall gInt (daCons (dV 3) daNil)) (dC (.int 4957))) (dC (.int 30029)))) (dOp gIx (dV 0) (dC (.int 2)))) daNil)) (dC (.int 2147483477))) (dgI (dV 0) (dC (.int 1)))) (dRet (dOp gMod (dCall gInt (daCons (dOp gFdiv (dOp gIx (dV 0) (dC (.int 1))) (dC (.int 911))) daNil)) (dV 1)))))))
def m_law_take : DF := run 4 d_law_take
def d_law_of : DS := (dRet (dOp gIx (dV 1) (dCall m_law_take (daCons (dV 0) (daCons (dCall gLen (daCons (dV 1) daNil)) daNil)))))
def m_law_of : DF := run 2 d_law_of
def d_law_choose : DS := (dSeq (dIfS (dtOr (dB (dOp gLt (dV 1) (dC (.int 0)))) (dB (dOp gGt (dV 1) (dV 0)))) (dRet (dC (.int 0))) dNil) (dSeq (dAsg (dC (.int 1)) (dgN 2)) (dSeq (dFor (diR1 (daCons (dV 1) daNil)) (dgN 3) (dAsg (dOp gFdiv (dOp gMul (dV 2) (dOp gSub (dV 0) (dV 3))) (dOp gAdd (dV 3) (dC (.int 1)))) (dgN 2))) (dRet (dV 2)))))
def m_law_choose : DF := run 4 d_law_choose
def d_law_spread : DS := (dSeq (dPar 2 3 (daCons (dLst daNil) (daCons (dV 0) daNil))) (dSeq (dFor (diR3 (daCons (dV 1) (daCons (dC (.int 0)) (daCons (dUn gNeg (dC (.int 1))) daNil)))) (dgN 4) (dSeq (dIfS (dB (dOp gEq (dV 3) (dC (.int 0)))) dBk dNil) (dSeq (dAsg (dIf (dB (dOp gEq (dV 4) (dC (.int 1)))) (dV 3) (dV 4)) (dgN 5)) (dSeq (dWhile (dtAnd (dB (dOp gGt (dV 4) (dC (.int 1)))) (dB (dOp gLe (dCall m_law_choose (daCons (dOp gAdd (dV 5) (dC (.int 1))) (daCons (dV 4) daNil))) (dV 3)))) (dAsg (dOp gAdd (dV 5) (dC (.int 1))) (dgN 5)) FUEL) (dSeq (dDrop (dMt gAppend (dV 2) (daCons (dV 5) daNil))) (dAsg (dOp gSub (dV 3) (dCall m_law_choose (daCons (dV 5) (daCons (dV 4) daNil)))) (dgN 3))))))) (dRet (dCall gTuple (daCons (dV 2) daNil)))))
def m_law_spread : DF := run 6 d_law_spread
def d_law_behind : DS := (dSeq (dAsg (dCall m_law_spread (daCons (dV 0) (daCons (dV 1) daNil))) (dgN 2)) (dRet (dCall gSum (daCons (dLc (diR1 (daCons (dCall gLen (daCons (dV 2) daNil)) daNil)) (dgN 3) dYes (dCall m_law_choose (daCons (dOp gAdd (dOp gIx (dV 2) (dV 3)) (dC (.int 1))) (daCons (dOp gAdd (dOp gSub (dV 1) (dV 3)) (dC (.int 1))) daNil))) [3]) daNil))))
def m_law_behind : DF := run 4 d_law_behind
def d_law_number : DS := (dSeq (dAsg (dCall m_law_take (daCons (dV 0) (daCons (dC (.int 4)) daNil))) (dgN 2)) (dSeq (dIfS (dB (dOp gEq (dV 2) (dC (.int 0)))) (dRet (dCall m_law_take (daCons (dV 0) (daCons (dC (.int 40)) daNil)))) dNil) (dSeq (dIfS (dB (dOp gEq (dV 2) (dC (.int 1)))) (dSeq (dAsg (dIf (dB (dOp gGt (dV 1) (dC (.int 1)))) (dOp gPow (dC (.int 10)) (dC (.int 6))) (dCall m_law_of (daCons (dV 0) (daCons (dTup (daCons (dOp gPow (dC (.int 10)) (dC (.int 6))) (daCons (dC (.int 5000)) (daCons (dC (.int 5000)) (daCons (dC (.int 5000)) daNil))))) daNil)))) (dgN 3)) (dRet (dCall m_law_of (daCons (dV 0) (daCons (dTup (daCons (dC (.int 0)) (daCons (dC (.int 1)) (daCons (dV 3) (daCons (dOp gSub (dV 3) (dC (.int 1))) (daCons (dCall m_law_take (daCons (dV 0) (daCons (dOp gAdd (dV 3) (dC (.int 1))) daNil))) daNil)))))) daNil))))) dNil) (dSeq (dAsg (dOp gAdd (dV 1) (dCall m_law_take (daCons (dV 0) (daCons (dOp gIx (dTup (daCons (dC (.int 9000)) (daCons (dC (.int 1400)) (daCons (dC (.int 175)) (daCons (dC (.int 62)) (daCons (dC (.int 36)) (daCons (dC (.int 26)) (daCons (dC (.int 20)) (daCons (dC (.int 18)) daNil))))))))) (dOp gSub (dV 1) (dC (.int 1)))) daNil)))) (dgN 4)) (dRet (dCall gMax (daCons (dC (.int 0)) (daCons (dCall gMin (daCons (dOp gPow (dC (.int 10)) (dC (.int 6))) (daCons (dOp gSub (dOp gAdd (dCall m_law_choose (daCons (dV 4) (daCons (dV 1) daNil))) (dCall m_law_take (daCons (dV 0) (daCons (dC (.int 3)) daNil)))) (dC (.int 1))) daNil))) daNil))))))))
def m_law_number : DF := run 5 d_law_number
end Ev

set_option maxHeartbeats 1000000
/-! KdB: lots; what a law's own reckoning of them tells. -/
namespace Ev
open PySem PySem.Spec PyProof.Rows L2

/-- how many lots of k there are among n -/
def bin : Nat → Nat → Nat
  | _, 0 => 1
  | 0, _ + 1 => 0
  | n + 1, k + 1 => bin n k + bin n (k + 1)
theorem bin_zero (n : Nat) : bin n 0 = 1 := by cases n <;> rfl
theorem bin_absorb : ∀ n k : Nat, (k + 1) * bin (n + 1) (k + 1) = (n + 1) * bin n k := by
  intro n
  induction n with
  | zero =>
    intro k
    cases k with
    | zero => rfl
    | succ k => simp [bin]
  | succ n ih =>
    intro k
    cases k with
    | zero =>
      have h := ih 0
      have e : bin (n + 1 + 1) (0 + 1) = bin (n + 1) 0 + bin (n + 1) (0 + 1) := rfl
      rw [e, bin_zero]
      rw [bin_zero] at h
      omega
    | succ j =>
      have h1 := ih j
      have h2 := ih (j + 1)
      have e1 : bin (n + 1 + 1) (j + 1 + 1) = bin (n + 1) (j + 1) + bin (n + 1) (j + 1 + 1) := rfl
      have e2 : bin (n + 1) (j + 1) = bin n j + bin n (j + 1) := rfl
      rw [e1]
      calc (j + 1 + 1) * (bin (n + 1) (j + 1) + bin (n + 1) (j + 1 + 1)) = (j + 1) * bin (n + 1) (j + 1) + bin (n + 1) (j + 1) + (j + 1 + 1) * bin (n + 1) (j + 1 + 1) := by grind
        _ = (n + 1) * bin n j + bin (n + 1) (j + 1) + (n + 1) * bin n (j + 1) := by rw [h1, h2]
        _ = (n + 1 + 1) * bin (n + 1) (j + 1) := by rw [e2]; grind
theorem bin_step (n k : Nat) : ((k : Int) + 1) * (bin n (k + 1) : Int) = ((n : Int) - k) * (bin n k : Int) := by
  have h := bin_absorb n k
  have e : bin (n + 1) (k + 1) = bin n k + bin n (k + 1) := rfl
  rw [e] at h
  have h' : ((k : Int) + 1) * ((bin n k : Int) + (bin n (k + 1) : Int)) = ((n : Int) + 1) * (bin n k : Int) := by exact_mod_cast h
  grind
theorem bin_le_pow : ∀ n k : Nat, bin n k ≤ n ^ k := by
  intro n
  induction n with
  | zero => intro k; cases k <;> simp [bin]
  | succ n ih =>
    intro k
    cases k with
    | zero => simp [bin]
    | succ k =>
      have h1 := ih k
      have h2 := ih (k + 1)
      have e : bin (n + 1) (k + 1) = bin n k + bin n (k + 1) := rfl
      have h3 : n ^ k ≤ (n + 1) ^ k := Nat.pow_le_pow_left (by omega) k
      calc bin (n + 1) (k + 1) ≤ n ^ k + n ^ (k + 1) := by rw [e]; omega
        _ = n ^ k * (n + 1) := by rw [Nat.pow_succ]; grind
        _ ≤ (n + 1) ^ k * (n + 1) := Nat.mul_le_mul_right _ h3
        _ = (n + 1) ^ (k + 1) := (Nat.pow_succ ..).symm
theorem bin_above : ∀ n k : Nat, n < k → bin n k = 0 := by
  intro n
  induction n with
  | zero => intro k h; cases k with
    | zero => omega
    | succ k => rfl
  | succ n ih => intro k h; cases k with
    | zero => omega
    | succ k =>
      show bin n k + bin n (k + 1) = 0
      rw [ih k (by omega), ih (k + 1) (by omega)]
theorem bin_self : ∀ n : Nat, bin n n = 1 := by
  intro n
  induction n with
  | zero => rfl
  | succ n ih =>
    show bin n n + bin n (n + 1) = 1
    rw [ih, bin_above n (n + 1) (by omega)]
theorem bin_one : ∀ n : Nat, bin n 1 = n := by
  intro n
  induction n with
  | zero => rfl
  | succ n ih =>
    show bin n 0 + bin n 1 = n + 1
    rw [ih, bin_zero]; omega
theorem bin_mono (n k : Nat) : bin n k ≤ bin (n + 1) k := by
  cases k with
  | zero => rw [bin_zero, bin_zero]; exact Nat.le_refl _
  | succ k =>
    show bin n (k + 1) ≤ bin n k + bin n (k + 1)
    omega
theorem bin_pos : ∀ n k : Nat, k ≤ n → 0 < bin n k := by
  intro n
  induction n with
  | zero => intro k h; have : k = 0 := by omega
            subst this; decide
  | succ n ih => intro k h; cases k with
    | zero => rw [bin_zero]; decide
    | succ k =>
      show 0 < bin n k + bin n (k + 1)
      have := ih k (by omega)
      omega
theorem log2_lt' {x m : Nat} (h : x < 2 ^ m) (hm : 0 < m) : x.log2 < m := by
  by_cases hx : x = 0
  · subst hx; simpa [Nat.log2_zero] using hm
  · exact (Nat.log2_lt hx).mpr h
theorem bin_log {n k m : Nat} (hn : n < 2 ^ m) (hm : 0 < m) : (bin n k).log2 ≤ m * k := by
  cases k with
  | zero => rw [bin_zero]; show Nat.log2 1 ≤ _; rw [show Nat.log2 1 = 0 from by decide]; omega
  | succ k =>
    have h := bin_le_pow n (k + 1)
    have h2 : n ^ (k + 1) < (2 ^ m) ^ (k + 1) := Nat.pow_lt_pow_left hn (by omega)
    rw [← Nat.pow_mul] at h2
    exact Nat.le_of_lt (log2_lt' (Nat.lt_of_le_of_lt h h2) (Nat.mul_pos hm (by omega)))
/-- how many lots, as the laws' own reckoning tells -/
def chs (n k : Int) : Int := if k < 0 ∨ k > n then 0 else (bin n.toNat k.toNat : Int)

theorem ch_c1 {N i : Nat} (hN : N < 2 ^ 62) (hi : i < 1000) : okMul (bin N i : Int) ((N : Int) - (0 + (i : Int) * 1)) = true := by
  unfold okMul
  rw [decide_eq_true_eq]
  have b1 : (bin N i).log2 ≤ 62 * i := bin_log hN (by decide)
  have b2 : ((N : Int) - (0 + (i : Int) * 1)).natAbs.log2 < 62 := log2_lt' (by omega) (by decide)
  rw [Int.natAbs_natCast]
  omega
theorem ch_c2 {i : Nat} (x : Int) (hi : i < 1000) : okDiv x (0 + (i : Int) * 1 + 1) = true := by
  unfold okDiv
  have b2 : (0 + (i : Int) * 1 + 1 : Int).natAbs.log2 < 62 := log2_lt' (by omega) (by decide)
  simp only [Bool.and_eq_true, decide_eq_true_eq]
  omega
theorem ch_c3 (N i : Nat) : ((bin N i : Int) * ((N : Int) - (0 + (i : Int) * 1))).fdiv (0 + (i : Int) * 1 + 1) = (bin N (i + 1) : Int) := by
  have h := bin_step N i
  have e : (bin N i : Int) * ((N : Int) - (0 + (i : Int) * 1)) = (0 + (i : Int) * 1 + 1) * (bin N (i + 1) : Int) := by grind
  rw [e]
  exact Int.mul_fdiv_cancel_left _ (by omega)
theorem ch_in {k : Nat} (hk : k < 1000) : in62 (k : Int) = true := by
  unfold in62
  rw [Bool.and_eq_true, decide_eq_true_eq, decide_eq_true_eq]
  omega
theorem ch_turn {N i : Nat} {k : Nat} {x : Option D} (S : Sto) (hN : N < 2 ^ 62) (hi : i < 1000) :
    dAsg (dOp gFdiv (dOp gMul (dV 2) (dOp gSub (dV 0) (dV 3))) (dOp gAdd (dV 3) (dC (D.int 1)))) (dgN 2) [some (.int N), some (.int k), some (.int (bin N i)), some (.int (0 + (i : Int) * 1))] S = some (.nx [some (.int N), some (.int k), some (.int (bin N (i + 1))), some (.int (0 + (i : Int) * 1))] S) := by
  have c1 := ch_c1 (N := N) (i := i) hN hi
  have c2 := ch_c2 (i := i) ((bin N i : Int) * ((N : Int) - (0 + (i : Int) * 1))) hi
  have c3 := ch_c3 N i
  simp only [run, start0, dSeq, dIfS, dtOr, dtAnd, dtNot, dB, dOp, dUn, dV, dC, dTup, dLst, daNil, daCons, dChain, dAnd, dOr, dNot, dIf, dCall, dNil, dBk, dCt, dDrop, dRet, dRetN, dgN, dgsNil, dgsCons, dgT, dAsg, dPar, dPar3, dAug, dYes, dMt, doNone, doSome, gI, gNeg, gIx, gIs, gIsNot, isN, diSeq, diR1, diR2, diR3, List.map_cons, List.map_nil, List.length_cons, List.length_nil, List.replicate_succ, List.replicate_zero, List.cons_append, List.nil_append, List.append_nil, List.set_cons_zero, List.set_cons_succ, List.getElem?_cons_zero, List.getElem?_cons_succ, if_true, ite_true, Nat.reduceSub, Nat.reduceAdd, decide_true, decide_false, Bool.true_and, Bool.and_true, Bool.false_eq_true, if_false, ite_false, sz_0, sz_1, sz_2, sz_3, sz_4, sz_5, sz_6, sz_7, sz_8, sz_9, sz_10, sz_11, sz_12, sz_13, sz_14, sz_15, sz_16, sz_17, sz_18, sz_19, sz_20, sz_21, sz_22, sz_23, sz_24, gMul, gAdd, c1, c2, c3]
theorem ch_loop {N k : Nat} (S : Sto) (hN : N < 2 ^ 62) (hk : k < 1000) : ∃ x, dFor (diR1 (daCons (dV 1) daNil)) (dgN 3) (dAsg (dOp gFdiv (dOp gMul (dV 2) (dOp gSub (dV 0) (dV 3))) (dOp gAdd (dV 3) (dC (D.int 1)))) (dgN 2)) [some (.int N), some (.int k), some (.int 1), none] S = some (.nx [some (.int N), some (.int k), some (.int (bin N k)), x] S) := by
  obtain ⟨o, ho, x, rfl⟩ := for_rng (it := diR1 (daCons (dV 1) daNil)) (g := dgN 3) (b := dAsg (dOp gFdiv (dOp gMul (dV 2) (dOp gSub (dV 0) (dV 3))) (dOp gAdd (dV 3) (dC (D.int 1)))) (dgN 2))
      (ρ := [some (.int N), some (.int k), some (.int 1), none]) (S := S) (S1 := S) (lo := 0) (c := 1) (n := k)
      (by
        have h := ch_in (k := k) hk
        simp only [run, start0, dSeq, dIfS, dtOr, dtAnd, dtNot, dB, dOp, dUn, dV, dC, dTup, dLst, daNil, daCons, dChain, dAnd, dOr, dNot, dIf, dCall, dNil, dBk, dCt, dDrop, dRet, dRetN, dgN, dgsNil, dgsCons, dgT, dAsg, dPar, dPar3, dAug, dYes, dMt, doNone, doSome, gI, gNeg, gIx, gIs, gIsNot, isN, diSeq, diR1, diR2, diR3, List.map_cons, List.map_nil, List.length_cons, List.length_nil, List.replicate_succ, List.replicate_zero, List.cons_append, List.nil_append, List.append_nil, List.set_cons_zero, List.set_cons_succ, List.getElem?_cons_zero, List.getElem?_cons_succ, if_true, ite_true, Nat.reduceSub, Nat.reduceAdd, decide_true, decide_false, Bool.true_and, Bool.and_true, Bool.false_eq_true, if_false, ite_false, sz_0, sz_1, sz_2, sz_3, sz_4, sz_5, sz_6, sz_7, sz_8, sz_9, sz_10, sz_11, sz_12, sz_13, sz_14, sz_15, sz_16, sz_17, sz_18, sz_19, sz_20, sz_21, sz_22, sz_23, sz_24, h, Int.toNat_natCast])
      (fun i ρ S' => S' = S ∧ ∃ x, ρ = [some (.int N), some (.int k), some (.int (bin N i)), x])
      (fun o => ∃ x, o = .nx [some (.int N), some (.int k), some (.int (bin N k)), x] S)
      ⟨rfl, none, by rw [bin_zero]; rfl⟩
      (fun i ρ S' hi hI => by
        obtain ⟨rfl, x, rfl⟩ := hI
        exact ⟨_, _, rfl, _, ch_turn (x := x) S' hN (by omega), rfl, _, rfl⟩)
      (fun ρ S' hI => by
        obtain ⟨rfl, x, rfl⟩ := hI
        exact ⟨x, rfl⟩)
  exact ⟨x, ho⟩
theorem ch_out {n k : Int} (h0 : k < 0 ∨ k > n) (S : Sto) : m_law_choose [.int n, .int k] S = some (.int (chs n k), S) := by
  unfold m_law_choose d_law_choose chs
  rw [if_pos h0]
  by_cases h1 : k < 0
  · simp only [run, start0, dSeq, dIfS, dtOr, dtAnd, dtNot, dB, dOp, dUn, dV, dC, dTup, dLst, daNil, daCons, dChain, dAnd, dOr, dNot, dIf, dCall, dNil, dBk, dCt, dDrop, dRet, dRetN, dgN, dgsNil, dgsCons, dgT, dAsg, dPar, dPar3, dAug, dYes, dMt, doNone, doSome, gI, gNeg, gIx, gIs, gIsNot, isN, diSeq, diR1, diR2, diR3, List.map_cons, List.map_nil, List.length_cons, List.length_nil, List.replicate_succ, List.replicate_zero, List.cons_append, List.nil_append, List.append_nil, List.set_cons_zero, List.set_cons_succ, List.getElem?_cons_zero, List.getElem?_cons_succ, if_true, ite_true, Nat.reduceSub, Nat.reduceAdd, decide_true, decide_false, Bool.true_and, Bool.and_true, Bool.false_eq_true, if_false, ite_false, sz_0, sz_1, sz_2, sz_3, sz_4, sz_5, sz_6, sz_7, sz_8, sz_9, sz_10, sz_11, sz_12, sz_13, sz_14, sz_15, sz_16, sz_17, sz_18, sz_19, sz_20, sz_21, sz_22, sz_23, sz_24, decide_eq_true h1]
  · have h2 : n < k := by omega
    simp only [run, start0, dSeq, dIfS, dtOr, dtAnd, dtNot, dB, dOp, dUn, dV, dC, dTup, dLst, daNil, daCons, dChain, dAnd, dOr, dNot, dIf, dCall, dNil, dBk, dCt, dDrop, dRet, dRetN, dgN, dgsNil, dgsCons, dgT, dAsg, dPar, dPar3, dAug, dYes, dMt, doNone, doSome, gI, gNeg, gIx, gIs, gIsNot, isN, diSeq, diR1, diR2, diR3, List.map_cons, List.map_nil, List.length_cons, List.length_nil, List.replicate_succ, List.replicate_zero, List.cons_append, List.nil_append, List.append_nil, List.set_cons_zero, List.set_cons_succ, List.getElem?_cons_zero, List.getElem?_cons_succ, if_true, ite_true, Nat.reduceSub, Nat.reduceAdd, decide_true, decide_false, Bool.true_and, Bool.and_true, Bool.false_eq_true, if_false, ite_false, sz_0, sz_1, sz_2, sz_3, sz_4, sz_5, sz_6, sz_7, sz_8, sz_9, sz_10, sz_11, sz_12, sz_13, sz_14, sz_15, sz_16, sz_17, sz_18, sz_19, sz_20, sz_21, sz_22, sz_23, sz_24, decide_eq_true h2, decide_eq_false h1]
theorem ch_asm {F : DS} {N k : Nat} {x : Option D} {S : Sto} (d1 : decide ((k : Int) < 0) = false) (d2 : decide ((N : Int) < k) = false) (ho : F [some (.int N), some (.int k), some (.int 1), none] S = some (.nx [some (.int N), some (.int k), some (.int (bin N k)), x] S)) :
    run 4 (dSeq (dIfS (dtOr (dB (dOp gLt (dV 1) (dC (.int 0)))) (dB (dOp gGt (dV 1) (dV 0)))) (dRet (dC (.int 0))) dNil) (dSeq (dAsg (dC (.int 1)) (dgN 2)) (dSeq F (dRet (dV 2))))) [.int N, .int k] S = some (.int (bin N k), S) := by
  simp only [run, start0, dSeq, dIfS, dtOr, dtAnd, dtNot, dB, dOp, dUn, dV, dC, dTup, dLst, daNil, daCons, dChain, dAnd, dOr, dNot, dIf, dCall, dNil, dBk, dCt, dDrop, dRet, dRetN, dgN, dgsNil, dgsCons, dgT, dAsg, dPar, dPar3, dAug, dYes, dMt, doNone, doSome, gI, gNeg, gIx, gIs, gIsNot, isN, diSeq, diR1, diR2, diR3, List.map_cons, List.map_nil, List.length_cons, List.length_nil, List.replicate_succ, List.replicate_zero, List.cons_append, List.nil_append, List.append_nil, List.set_cons_zero, List.set_cons_succ, List.getElem?_cons_zero, List.getElem?_cons_succ, if_true, ite_true, Nat.reduceSub, Nat.reduceAdd, decide_true, decide_false, Bool.true_and, Bool.and_true, Bool.false_eq_true, if_false, ite_false, sz_0, sz_1, sz_2, sz_3, sz_4, sz_5, sz_6, sz_7, sz_8, sz_9, sz_10, sz_11, sz_12, sz_13, sz_14, sz_15, sz_16, sz_17, sz_18, sz_19, sz_20, sz_21, sz_22, sz_23, sz_24, d1, d2, ho]
theorem ch_d {N k : Nat} (hkN : k ≤ N) : decide ((k : Int) < 0) = false ∧ decide ((N : Int) < k) = false := ⟨decide_eq_false (by omega), decide_eq_false (by omega)⟩
theorem ch_in_ {N k : Nat} (hN : N < 2 ^ 62) (hk : k < 1000) (hkN : k ≤ N) (S : Sto) : m_law_choose [.int N, .int k] S = some (.int (bin N k), S) := by
  have d1 : decide ((k : Int) < 0) = false := decide_eq_false (by omega)
  have d2 : decide ((N : Int) < k) = false := decide_eq_false (by omega)
  obtain ⟨x, ho⟩ := ch_loop (N := N) (k := k) S hN hk
  unfold m_law_choose d_law_choose
  exact ch_asm d1 d2 ho
theorem m_choose {n k : Int} (hn : n < 2 ^ 62) (hk : k < 1000) (S : Sto) : m_law_choose [.int n, .int k] S = some (.int (chs n k), S) := by
  by_cases h0 : k < 0 ∨ k > n
  · exact ch_out h0 S
  · obtain ⟨N, rfl⟩ : ∃ N : Nat, n = N := ⟨n.toNat, by omega⟩
    obtain ⟨k, rfl⟩ : ∃ k' : Nat, k = k' := ⟨k.toNat, by omega⟩
    have hN : N < 2 ^ 62 := by omega
    have hchs : chs N k = (bin N k : Int) := by
      unfold chs
      rw [if_neg h0, Int.toNat_natCast, Int.toNat_natCast]
    rw [hchs]
    exact ch_in_ hN (by omega) (by omega) S
end Ev

set_option maxHeartbeats 1000000
/-! KdC: draws. -/
namespace Ev
open PySem PySem.Spec PyProof.Rows L2

theorem items_ref {S : Sto} {r : Nat} {ds : List D} (h : S[r]? = some (.lst ds)) : items S (.ref r) = some ds := by
  unfold items
  simp only [h]
theorem at3_0 (x y z : D) : L2.atI [x, y, z] 0 = some x := rfl
theorem at3_1 (x y z : D) : L2.atI [x, y, z] 1 = some y := rfl
theorem at3_2 (x y z : D) : L2.atI [x, y, z] 2 = some z := rfl
theorem ix3_0 : ixN 3 0 = some 0 := rfl
theorem ix3_1 : ixN 3 1 = some 1 := rfl
theorem ix3_2 : ixN 3 2 = some 2 := rfl
theorem set_get {S : Sto} {r : Nat} (hr : r < S.length) (x : O) : (S.set r x)[r]? = some x := by
  rw [List.getElem?_set_self hr]
theorem okMul_of {i j : Int} {m n : Nat} (hi : i.natAbs < 2 ^ m) (hj : j.natAbs < 2 ^ n) (h : m + n < 1000000) : okMul i j = true := by
  unfold okMul
  rw [decide_eq_true_eq]
  have a : i.natAbs.log2 ≤ m := by
    by_cases hm : 0 < m
    · exact Nat.le_of_lt (log2_lt' hi hm)
    · have : m = 0 := by omega
      subst this
      have : i.natAbs = 0 := by omega
      rw [this]; exact Nat.le_refl _
  have b : j.natAbs.log2 ≤ n := by
    by_cases hm : 0 < n
    · exact Nat.le_of_lt (log2_lt' hj hm)
    · have : n = 0 := by omega
      subst this
      have : j.natAbs = 0 := by omega
      rw [this]; exact Nat.le_refl _
  omega
theorem okDiv_of {i j : Int} {n : Nat} (h0 : j ≠ 0) (hj : j.natAbs < 2 ^ n) (h : n < 9000) (hn : 0 < n) : okDiv i j = true := by
  unfold okDiv
  rw [Bool.and_eq_true, decide_eq_true_eq, decide_eq_true_eq]
  exact ⟨h0, Nat.lt_trans (log2_lt' hj hn) h⟩
theorem okMod_of {i j : Int} (h0 : j ≠ 0) : okMod i j = true := decide_eq_true h0

/-- a pot: three numbers from 0 on, the second one below 2 ^ 32 -/
structure Pot (S : Sto) (r : Nat) (m : Nat) : Prop where
  ex : ∃ a b c : Int, S[r]? = some (.lst [.int a, .int b, .int c]) ∧ 0 ≤ a ∧ 0 ≤ b ∧ b < 2 ^ 32 ∧ 0 ≤ c ∧ c ≤ m
theorem take_a {S : Sto} {r : Nat} {a b c few : Int} (hS : S[r]? = some (.lst [.int a, .int b, .int c])) (ha : 0 < a) (hd : (decide (0 < few) && decide (few.natAbs.log2 < 9000)) = true) :
    m_law_take [.ref r, .int few] S = some (.int (a % few), S.set r (.lst [.int (a / few), .int b, .int c])) := by
  have h1 : decide ((0 : Int) < a) = true := decide_eq_true ha
  have h2 := items_ref hS
  unfold m_law_take d_law_take
  simp only [run, start0, dSeq, dIfS, dtOr, dtAnd, dtNot, dB, dOp, dUn, dV, dC, dTup, dLst, daNil, daCons, dChain, dAnd, dOr, dNot, dIf, dCall, dNil, dBk, dCt, dDrop, dRet, dRetN, dgN, dgsNil, dgsCons, dgT, dAsg, dPar, dPar3, dAug, dYes, dMt, doNone, doSome, gI, gNeg, gIx, gIs, gIsNot, isN, diSeq, diR1, diR2, diR3, List.map_cons, List.map_nil, List.length_cons, List.length_nil, List.replicate_succ, List.replicate_zero, List.cons_append, List.nil_append, List.append_nil, List.set_cons_zero, List.set_cons_succ, List.getElem?_cons_zero, List.getElem?_cons_succ, if_true, ite_true, Nat.reduceSub, Nat.reduceAdd, decide_true, decide_false, Bool.true_and, Bool.and_true, Bool.false_eq_true, if_false, ite_false, sz_0, sz_1, sz_2, sz_3, sz_4, sz_5, sz_6, sz_7, sz_8, sz_9, sz_10, sz_11, sz_12, sz_13, sz_14, sz_15, sz_16, sz_17, sz_18, sz_19, sz_20, sz_21, sz_22, sz_23, sz_24, h2, at3_0, h1, gDivmod, hd, dgI, hS, ix3_0]
theorem take_b {S : Sto} {r : Nat} {a b c few : Int} (hS : S[r]? = some (.lst [.int a, .int b, .int c])) (ha : ¬ 0 < a) (hr : r < S.length)
    {s1 s2 : Int} (e1 : s1 = (b * 39373 + 14173 * (c + 1)).fmod 2147483477) (e2 : s2 = (s1 * (s1.fmod 4957 + 30029) + (c + 1)).fmod 2147483477)
    (c1 : okMul b 39373 = true) (c2 : okMul 14173 (c + 1) = true) (c3 : okMul s1 (s1.fmod 4957 + 30029) = true) (c4 : okDiv s2 911 = true) (c5 : okMod (s2.fdiv 911) few = true) :
    m_law_take [.ref r, .int few] S = some (.int ((s2.fdiv 911).fmod few), S.set r (.lst [.int a, .int s2, .int (c + 1)])) := by
  have h1 : decide ((0 : Int) < a) = false := decide_eq_false ha
  have h2 := items_ref hS
  have h3 := fun x => set_get hr x
  have h4 : ∀ ds, items (S.set r (.lst ds)) (.ref r) = some ds := fun ds => items_ref (h3 _)
  have m1 : ∀ i, okMod i 2147483477 = true := fun i => rfl
  have m2 : ∀ i, okMod i 4957 = true := fun i => rfl
  unfold m_law_take d_law_take
  simp only [run, start0, dSeq, dIfS, dtOr, dtAnd, dtNot, dB, dOp, dUn, dV, dC, dTup, dLst, daNil, daCons, dChain, dAnd, dOr, dNot, dIf, dCall, dNil, dBk, dCt, dDrop, dRet, dRetN, dgN, dgsNil, dgsCons, dgT, dAsg, dPar, dPar3, dAug, dYes, dMt, doNone, doSome, gI, gNeg, gIx, gIs, gIsNot, isN, diSeq, diR1, diR2, diR3, List.map_cons, List.map_nil, List.length_cons, List.length_nil, List.replicate_succ, List.replicate_zero, List.cons_append, List.nil_append, List.append_nil, List.set_cons_zero, List.set_cons_succ, List.getElem?_cons_zero, List.getElem?_cons_succ, if_true, ite_true, Nat.reduceSub, Nat.reduceAdd, decide_true, decide_false, Bool.true_and, Bool.and_true, Bool.false_eq_true, if_false, ite_false, sz_0, sz_1, sz_2, sz_3, sz_4, sz_5, sz_6, sz_7, sz_8, sz_9, sz_10, sz_11, sz_12, sz_13, sz_14, sz_15, sz_16, sz_17, sz_18, sz_19, sz_20, sz_21, sz_22, sz_23, sz_24, h2, at3_0, h1, at3_2, gAdd, dgI, hS, ix3_2, h4, at3_1, gMul, c1, c2, gInt, m1]
  rw [← e1]
  simp only [run, start0, dSeq, dIfS, dtOr, dtAnd, dtNot, dB, dOp, dUn, dV, dC, dTup, dLst, daNil, daCons, dChain, dAnd, dOr, dNot, dIf, dCall, dNil, dBk, dCt, dDrop, dRet, dRetN, dgN, dgsNil, dgsCons, dgT, dAsg, dPar, dPar3, dAug, dYes, dMt, doNone, doSome, gI, gNeg, gIx, gIs, gIsNot, isN, diSeq, diR1, diR2, diR3, List.map_cons, List.map_nil, List.length_cons, List.length_nil, List.replicate_succ, List.replicate_zero, List.cons_append, List.nil_append, List.append_nil, List.set_cons_zero, List.set_cons_succ, List.getElem?_cons_zero, List.getElem?_cons_succ, if_true, ite_true, Nat.reduceSub, Nat.reduceAdd, decide_true, decide_false, Bool.true_and, Bool.and_true, Bool.false_eq_true, if_false, ite_false, sz_0, sz_1, sz_2, sz_3, sz_4, sz_5, sz_6, sz_7, sz_8, sz_9, sz_10, sz_11, sz_12, sz_13, sz_14, sz_15, sz_16, sz_17, sz_18, sz_19, sz_20, sz_21, sz_22, sz_23, sz_24, h4, at3_2, gInt, m2, c3, gAdd, gMul, m1]
  rw [← e2]
  simp only [run, start0, dSeq, dIfS, dtOr, dtAnd, dtNot, dB, dOp, dUn, dV, dC, dTup, dLst, daNil, daCons, dChain, dAnd, dOr, dNot, dIf, dCall, dNil, dBk, dCt, dDrop, dRet, dRetN, dgN, dgsNil, dgsCons, dgT, dAsg, dPar, dPar3, dAug, dYes, dMt, doNone, doSome, gI, gNeg, gIx, gIs, gIsNot, isN, diSeq, diR1, diR2, diR3, List.map_cons, List.map_nil, List.length_cons, List.length_nil, List.replicate_succ, List.replicate_zero, List.cons_append, List.nil_append, List.append_nil, List.set_cons_zero, List.set_cons_succ, List.getElem?_cons_zero, List.getElem?_cons_succ, if_true, ite_true, Nat.reduceSub, Nat.reduceAdd, decide_true, decide_false, Bool.true_and, Bool.and_true, Bool.false_eq_true, if_false, ite_false, sz_0, sz_1, sz_2, sz_3, sz_4, sz_5, sz_6, sz_7, sz_8, sz_9, sz_10, sz_11, sz_12, sz_13, sz_14, sz_15, sz_16, sz_17, sz_18, sz_19, sz_20, sz_21, sz_22, sz_23, sz_24, h3, ix3_1, h4, at3_1, c4, gInt, c5, List.set_set]
theorem fmod_bd {i j : Int} (hj : 0 < j) : 0 ≤ i.fmod j ∧ i.fmod j < j := ⟨Int.fmod_nonneg_of_pos i hj, Int.fmod_lt_of_pos i hj⟩
/-- a draw: a number below few, and the pot goes on -/
theorem m_take {S : Sto} {r m : Nat} {few : Int} (p : Pot S r m) (hf : 0 < few) (hf2 : few < 2 ^ 62) (hm : m < 2 ^ 40) :
    ∃ v o, m_law_take [.ref r, .int few] S = some (.int v, S.set r o) ∧ 0 ≤ v ∧ v < few ∧ Pot (S.set r o) r (m + 1) := by
  obtain ⟨a, b, c, hS, ha, hb, hb2, hc, hc2⟩ := p.ex
  have hr : r < S.length := (List.getElem?_eq_some_iff.mp hS).1
  by_cases h : 0 < a
  · refine ⟨_, _, take_a hS h ?_, Int.emod_nonneg _ (by omega), Int.emod_lt_of_pos _ hf, ⟨_, _, _, set_get hr _, Int.ediv_nonneg ha (by omega), hb, hb2, hc, by omega⟩⟩
    rw [Bool.and_eq_true, decide_eq_true_eq, decide_eq_true_eq]
    exact ⟨hf, Nat.lt_trans (log2_lt' (m := 62) (by omega) (by decide)) (by decide)⟩
  · have b1 := fmod_bd (i := b * 39373 + 14173 * (c + 1)) (j := 2147483477) (by decide)
    have b2 := fmod_bd (i := (b * 39373 + 14173 * (c + 1)).fmod 2147483477) (j := 4957) (by decide)
    have b3 := fmod_bd (i := (((b * 39373 + 14173 * (c + 1)).fmod 2147483477) * (((b * 39373 + 14173 * (c + 1)).fmod 2147483477).fmod 4957 + 30029) + (c + 1))) (j := 2147483477) (by decide)
    have b4 := fmod_bd (i := ((((b * 39373 + 14173 * (c + 1)).fmod 2147483477) * (((b * 39373 + 14173 * (c + 1)).fmod 2147483477).fmod 4957 + 30029) + (c + 1)).fmod 2147483477).fdiv 911) hf
    refine ⟨_, _, take_b hS h hr rfl rfl ?_ ?_ ?_ ?_ ?_, b4.1, b4.2, ⟨_, _, _, set_get hr _, ha, b3.1, ?_, by omega, by omega⟩⟩
    · exact okMul_of (m := 32) (n := 32) (by omega) (by decide) (by decide)
    · exact okMul_of (m := 32) (n := 41) (by decide) (by omega) (by decide)
    · exact okMul_of (m := 32) (n := 32) (by omega) (by omega) (by decide)
    · exact okDiv_of (n := 32) (by decide) (by decide) (by decide) (by decide)
    · exact okMod_of (by omega)
    · exact Int.lt_trans b3.2 (by decide)
end Ev

set_option maxHeartbeats 1000000
/-! KdD: one of some things; pots made. -/
namespace Ev
open PySem PySem.Spec PyProof.Rows L2

theorem ixN_nn {n i : Nat} (h : i < n) : ixN n (i : Int) = some i := by
  unfold ixN
  rw [if_pos (by omega), if_pos (by omega), Int.toNat_natCast]
theorem atI_nn {α : Type} {xs : List α} {i : Nat} {x : α} (h : xs[i]? = some x) : L2.atI xs (i : Int) = some x := by
  unfold L2.atI
  rw [ixN_nn (List.getElem?_eq_some_iff.mp h).1]
  exact h
theorem of_asm {S S1 : Sto} {r : Nat} {ds : List D} {v : Int} {d : D} (h1 : m_law_take [.ref r, .int (ds.length : Nat)] S = some (.int v, S1)) (h2 : L2.atI ds v = some d) : m_law_of [.ref r, .tup ds] S = some (d, S1) := by
  unfold m_law_of d_law_of
  simp only [run, start0, dSeq, dIfS, dtOr, dtAnd, dtNot, dB, dOp, dUn, dV, dC, dTup, dLst, daNil, daCons, dChain, dAnd, dOr, dNot, dIf, dCall, dNil, dBk, dCt, dDrop, dRet, dRetN, dgN, dgsNil, dgsCons, dgT, dAsg, dPar, dPar3, dAug, dYes, dMt, doNone, doSome, gI, gNeg, gIx, gIs, gIsNot, isN, diSeq, diR1, diR2, diR3, List.map_cons, List.map_nil, List.length_cons, List.length_nil, List.replicate_succ, List.replicate_zero, List.cons_append, List.nil_append, List.append_nil, List.set_cons_zero, List.set_cons_succ, List.getElem?_cons_zero, List.getElem?_cons_succ, if_true, ite_true, Nat.reduceSub, Nat.reduceAdd, decide_true, decide_false, Bool.true_and, Bool.and_true, Bool.false_eq_true, if_false, ite_false, sz_0, sz_1, sz_2, sz_3, sz_4, sz_5, sz_6, sz_7, sz_8, sz_9, sz_10, sz_11, sz_12, sz_13, sz_14, sz_15, sz_16, sz_17, sz_18, sz_19, sz_20, sz_21, sz_22, sz_23, sz_24, gLen, items, h1, h2]
/-- one of some things -/
theorem m_of {S : Sto} {r m : Nat} {ds : List D} (p : Pot S r m) (hf : ds ≠ []) (hf2 : ds.length < 1000) (hm : m < 2 ^ 40) :
    ∃ d o, m_law_of [.ref r, .tup ds] S = some (d, S.set r o) ∧ d ∈ ds ∧ Pot (S.set r o) r (m + 1) := by
  have hp : 0 < ds.length := List.length_pos_iff.mpr hf
  obtain ⟨v, o, h1, h2, h3, h4⟩ := m_take (few := (ds.length : Nat)) p (by omega) (by omega) hm
  obtain ⟨i, rfl⟩ : ∃ i : Nat, v = i := ⟨v.toNat, by omega⟩
  have hi : i < ds.length := by omega
  exact ⟨ds[i], o, of_asm h1 (atI_nn (List.getElem?_eq_getElem hi)), List.getElem_mem hi, h4⟩

abbrev potB : DS := dAsg (dOp gMod (dCall gInt (daCons (dOp gAdd (dOp gAdd (dOp gMul (dV 2) (dC (.int 50993))) (dOp gMul (dOp gMod (dCall gInt (daCons (dV 3) daNil)) (dC (.int 2147483477))) (dC (.int 11)))) (dC (.int 23))) daNil)) (dC (.int 2147483477))) (dgN 2)
theorem pot_turn {m c : Int} {x : Option D} {S : Sto} {l o : Option D} (hm : 0 ≤ m ∧ m < 2 ^ 32) : ∃ m' : Int, (0 ≤ m' ∧ m' < 2 ^ 32) ∧
    potB [l, o, some (.int m), some (.int c), x] S
      = some (.nx [l, o, some (.int m'), some (.int c), x] S) := by
  have b := fmod_bd (i := m * 50993 + c.fmod 2147483477 * 11 + 23) (j := 2147483477) (by decide)
  have b2 := fmod_bd (i := c) (j := 2147483477) (by decide)
  refine ⟨_, ⟨b.1, Int.lt_trans b.2 (by decide)⟩, ?_⟩
  have m1 : ∀ i, okMod i 2147483477 = true := fun i => rfl
  have c1 : okMul m 50993 = true := okMul_of (m := 32) (n := 32) (by omega) (by decide) (by decide)
  have c2 : okMul (c.fmod 2147483477) 11 = true := okMul_of (m := 32) (n := 32) (by omega) (by decide) (by decide)
  unfold potB
  simp only [run, start0, dSeq, dIfS, dtOr, dtAnd, dtNot, dB, dOp, dUn, dV, dC, dTup, dLst, daNil, daCons, dChain, dAnd, dOr, dNot, dIf, dCall, dNil, dBk, dCt, dDrop, dRet, dRetN, dgN, dgsNil, dgsCons, dgT, dAsg, dPar, dPar3, dAug, dYes, dMt, doNone, doSome, gI, gNeg, gIx, gIs, gIsNot, isN, diSeq, diR1, diR2, diR3, List.map_cons, List.map_nil, List.length_cons, List.length_nil, List.replicate_succ, List.replicate_zero, List.cons_append, List.nil_append, List.append_nil, List.set_cons_zero, List.set_cons_succ, List.getElem?_cons_zero, List.getElem?_cons_succ, if_true, ite_true, Nat.reduceSub, Nat.reduceAdd, decide_true, decide_false, Bool.true_and, Bool.and_true, Bool.false_eq_true, if_false, ite_false, sz_0, sz_1, sz_2, sz_3, sz_4, sz_5, sz_6, sz_7, sz_8, sz_9, sz_10, sz_11, sz_12, sz_13, sz_14, sz_15, sz_16, sz_17, sz_18, sz_19, sz_20, sz_21, sz_22, sz_23, sz_24, gInt, m1, gMul, c1, c2, gAdd]
theorem pot_loop2 {ns : List Int} {lap : Int} {l : D} {m : Int} {j : Nat} {S S1 : Sto} (hm : 0 ≤ m ∧ m < 2 ^ 32) (hS : S1[j]? = some (.lst (ns.map .int))) {it : DI} (hit : it [some l, some (.int lap), some (.int m), none, none] S = some (.lst j, S1)) :
    ∃ m' x, (0 ≤ m' ∧ m' < 2 ^ 32) ∧ dFor it (dgN 3) potB [some l, some (.int lap), some (.int m), none, none] S
      = some (.nx [some l, some (.int lap), some (.int m'), x, none] S1) := by
  obtain ⟨o, ho, m', x, hm', rfl⟩ := for_lst (g := dgN 3) (b := potB) (ds := ns.map .int) hit hS
    (fun _ ρ S' => S' = S1 ∧ ∃ m' x, (0 ≤ m' ∧ m' < 2 ^ 32) ∧ ρ = [some l, some (.int lap), some (.int m'), x, none])
    (fun o => ∃ m' x, (0 ≤ m' ∧ m' < 2 ^ 32) ∧ o = .nx [some l, some (.int lap), some (.int m'), x, none] S1)
    ⟨rfl, m, none, hm, rfl⟩ (fun i ρ S' hI => by rw [hI.1]; exact hS)
    (fun i d ρ S' hd hI => by
      obtain ⟨rfl, m1, x, hm1, rfl⟩ := hI
      rw [List.getElem?_map] at hd
      cases e : ns[i]? with
      | none => rw [e] at hd; cases hd
      | some c =>
        rw [e] at hd
        cases hd
        obtain ⟨m2, h1, h2⟩ := pot_turn (m := m1) (c := c) (x := none) (S := S') (l := some l) (o := some (.int lap)) hm1
        exact ⟨_, _, rfl, _, h2, rfl, m2, _, h1, rfl⟩)
    (fun ρ S' hI => by
      obtain ⟨rfl, m1, x, hm1, rfl⟩ := hI
      exact ⟨m1, x, hm1, rfl⟩)
  exact ⟨m', x, hm', ho⟩
theorem pot_asm {F : DS} {ds : List D} {lap own m0 m1 : Int} {x : Option D} {S S1 : Sto} (c1 : okMul 8087 lap = true) (e0 : m0 = 60013 + 8087 * lap)
    (ho : F [some (.fzl ds), some (.int lap), some (.int m0), none, none] S = some (.nx [some (.fzl ds), some (.int lap), some (.int m1), x, none] S1))
    {T : DT} {E : DE} (hT : dIf T E (dC (.int 0)) [some (.fzl ds), some (.int lap), some (.int m1), x, none] S1 = some (.int own, S1))
    (c2 : okMul m1 53 = true) (c3 : okMul (own.fmod 2147483477) 40009 = true) {a : Int} (ha : a = if (decide (own < 0) || decide ((10 : Int) ^ 15 ≤ own)) = true then (if own < 0 then -own else own) else 0) :
    run 5 (dSeq (dAsg (dOp gAdd (dC (.int 60013)) (dOp gMul (dC (.int 8087)) (dV 1))) (dgN 2)) (dSeq F (dSeq (dAsg (dIf T E (dC (.int 0))) (dgN 4)) (dSeq (dAsg (dOp gMod (dCall gInt (daCons (dOp gAdd (dOp gAdd (dOp gMul (dV 2) (dC (.int 53))) (dOp gMul (dOp gMod (dCall gInt (daCons (dV 4) daNil)) (dC (.int 2147483477))) (dC (.int 40009)))) (dC (.int 7))) daNil)) (dC (.int 2147483477))) (dgN 2)) (dRet (dLst (daCons (dIf (dtOr (dB (dOp gLt (dV 4) (dC (.int 0)))) (dB (dOp gGe (dV 4) (dOp gPow (dC (.int 10)) (dC (.int 15)))))) (dCall gAbs (daCons (dV 4) daNil)) (dC (.int 0))) (daCons (dV 2) (daCons (dC (.int 0)) daNil))))))))) [.fzl ds, .int lap] S
      = some (.ref S1.length, S1 ++ [.lst [.int a, .int ((m1 * 53 + own.fmod 2147483477 * 40009 + 7).fmod 2147483477), .int 0]]) := by
  generalize hG : dIf T E (dC (.int 0)) = G at hT ⊢
  have m1 : ∀ i, okMod i 2147483477 = true := fun i => rfl
  have p1 : okPow 10 15 = true := rfl
  have p2 : Int.toNat 15 = 15 := rfl
  have p3 : 3 ≤ sizeLine := by decide
  subst e0 ha
  by_cases o1 : own < 0
  · simp only [run, start0, dSeq, dIfS, dtOr, dtAnd, dtNot, dB, dOp, dUn, dV, dC, dTup, dLst, daNil, daCons, dChain, dAnd, dOr, dNot, dIf, dCall, dNil, dBk, dCt, dDrop, dRet, dRetN, dgN, dgsNil, dgsCons, dgT, dAsg, dPar, dPar3, dAug, dYes, dMt, doNone, doSome, gI, gNeg, gIx, gIs, gIsNot, isN, diSeq, diR1, diR2, diR3, List.map_cons, List.map_nil, List.length_cons, List.length_nil, List.replicate_succ, List.replicate_zero, List.cons_append, List.nil_append, List.append_nil, List.set_cons_zero, List.set_cons_succ, List.getElem?_cons_zero, List.getElem?_cons_succ, if_true, ite_true, Nat.reduceSub, Nat.reduceAdd, decide_true, decide_false, Bool.true_and, Bool.and_true, Bool.false_eq_true, if_false, ite_false, sz_0, sz_1, sz_2, sz_3, sz_4, sz_5, sz_6, sz_7, sz_8, sz_9, sz_10, sz_11, sz_12, sz_13, sz_14, sz_15, sz_16, sz_17, sz_18, sz_19, sz_20, sz_21, sz_22, sz_23, sz_24, gMul, gAdd, c1, ho, hT, c2, c3, gInt, m1, p1, p2, decide_eq_true o1, gAbs, o1, p3, Bool.true_or]
  · by_cases o2 : (10 : Int) ^ 15 ≤ own
    · simp only [run, start0, dSeq, dIfS, dtOr, dtAnd, dtNot, dB, dOp, dUn, dV, dC, dTup, dLst, daNil, daCons, dChain, dAnd, dOr, dNot, dIf, dCall, dNil, dBk, dCt, dDrop, dRet, dRetN, dgN, dgsNil, dgsCons, dgT, dAsg, dPar, dPar3, dAug, dYes, dMt, doNone, doSome, gI, gNeg, gIx, gIs, gIsNot, isN, diSeq, diR1, diR2, diR3, List.map_cons, List.map_nil, List.length_cons, List.length_nil, List.replicate_succ, List.replicate_zero, List.cons_append, List.nil_append, List.append_nil, List.set_cons_zero, List.set_cons_succ, List.getElem?_cons_zero, List.getElem?_cons_succ, if_true, ite_true, Nat.reduceSub, Nat.reduceAdd, decide_true, decide_false, Bool.true_and, Bool.and_true, Bool.false_eq_true, if_false, ite_false, sz_0, sz_1, sz_2, sz_3, sz_4, sz_5, sz_6, sz_7, sz_8, sz_9, sz_10, sz_11, sz_12, sz_13, sz_14, sz_15, sz_16, sz_17, sz_18, sz_19, sz_20, sz_21, sz_22, sz_23, sz_24, gMul, gAdd, c1, ho, hT, c2, c3, gInt, m1, p1, p2, decide_eq_false o1, decide_eq_true o2, gAbs, o1, p3, Bool.or_true]
    · simp only [run, start0, dSeq, dIfS, dtOr, dtAnd, dtNot, dB, dOp, dUn, dV, dC, dTup, dLst, daNil, daCons, dChain, dAnd, dOr, dNot, dIf, dCall, dNil, dBk, dCt, dDrop, dRet, dRetN, dgN, dgsNil, dgsCons, dgT, dAsg, dPar, dPar3, dAug, dYes, dMt, doNone, doSome, gI, gNeg, gIx, gIs, gIsNot, isN, diSeq, diR1, diR2, diR3, List.map_cons, List.map_nil, List.length_cons, List.length_nil, List.replicate_succ, List.replicate_zero, List.cons_append, List.nil_append, List.append_nil, List.set_cons_zero, List.set_cons_succ, List.getElem?_cons_zero, List.getElem?_cons_succ, if_true, ite_true, Nat.reduceSub, Nat.reduceAdd, decide_true, decide_false, Bool.true_and, Bool.and_true, Bool.false_eq_true, if_false, ite_false, sz_0, sz_1, sz_2, sz_3, sz_4, sz_5, sz_6, sz_7, sz_8, sz_9, sz_10, sz_11, sz_12, sz_13, sz_14, sz_15, sz_16, sz_17, sz_18, sz_19, sz_20, sz_21, sz_22, sz_23, sz_24, gMul, gAdd, c1, ho, hT, c2, c3, gInt, m1, p1, p2, decide_eq_false o1, decide_eq_false o2, gAbs, o1, p3, Bool.or_false]
theorem cut_ints (ns : List Int) (lo hi : Option Int) : ∃ ks : List Int, cutD (ns.map .int) lo hi = ks.map .int := by
  unfold cutD
  exact ⟨(ns.drop (HT.sIx ns.length 0 lo)).take (HT.sIx ns.length ns.length hi - HT.sIx ns.length 0 lo), by rw [List.map_take, List.map_drop, List.length_map]⟩
theorem pot_own {ns : List Int} {lap : Nat} {m : Int} {x : Option D} (S : Sto) : ∃ own : Int,
    dIf (dB (dOp gLt (dV 1) (dCall gLen (daCons (dV 0) daNil)))) (dCall gInt (daCons (dOp gIx (dV 0) (dV 1)) daNil)) (dC (.int 0)) [some (.fzl (ns.map .int)), some (.int lap), some (.int m), x, none] S = some (.int own, S) := by
  by_cases h : lap < ns.length
  · have h1 : decide ((lap : Int) < ns.length) = true := decide_eq_true (by omega)
    have h2 : L2.atI (ns.map D.int) (lap : Int) = some (.int ns[lap]) := atI_nn (by rw [List.getElem?_map, List.getElem?_eq_getElem h]; rfl)
    refine ⟨ns[lap], ?_⟩
    simp only [run, start0, dSeq, dIfS, dtOr, dtAnd, dtNot, dB, dOp, dUn, dV, dC, dTup, dLst, daNil, daCons, dChain, dAnd, dOr, dNot, dIf, dCall, dNil, dBk, dCt, dDrop, dRet, dRetN, dgN, dgsNil, dgsCons, dgT, dAsg, dPar, dPar3, dAug, dYes, dMt, doNone, doSome, gI, gNeg, gIx, gIs, gIsNot, isN, diSeq, diR1, diR2, diR3, List.map_cons, List.map_nil, List.length_cons, List.length_nil, List.replicate_succ, List.replicate_zero, List.cons_append, List.nil_append, List.append_nil, List.set_cons_zero, List.set_cons_succ, List.getElem?_cons_zero, List.getElem?_cons_succ, if_true, ite_true, Nat.reduceSub, Nat.reduceAdd, decide_true, decide_false, Bool.true_and, Bool.and_true, Bool.false_eq_true, if_false, ite_false, sz_0, sz_1, sz_2, sz_3, sz_4, sz_5, sz_6, sz_7, sz_8, sz_9, sz_10, sz_11, sz_12, sz_13, sz_14, sz_15, sz_16, sz_17, sz_18, sz_19, sz_20, sz_21, sz_22, sz_23, sz_24, gLen, items, List.length_map, h1, h2, gInt]
  · have h1 : decide ((lap : Int) < ns.length) = false := decide_eq_false (by omega)
    refine ⟨0, ?_⟩
    simp only [run, start0, dSeq, dIfS, dtOr, dtAnd, dtNot, dB, dOp, dUn, dV, dC, dTup, dLst, daNil, daCons, dChain, dAnd, dOr, dNot, dIf, dCall, dNil, dBk, dCt, dDrop, dRet, dRetN, dgN, dgsNil, dgsCons, dgT, dAsg, dPar, dPar3, dAug, dYes, dMt, doNone, doSome, gI, gNeg, gIx, gIs, gIsNot, isN, diSeq, diR1, diR2, diR3, List.map_cons, List.map_nil, List.length_cons, List.length_nil, List.replicate_succ, List.replicate_zero, List.cons_append, List.nil_append, List.append_nil, List.set_cons_zero, List.set_cons_succ, List.getElem?_cons_zero, List.getElem?_cons_succ, if_true, ite_true, Nat.reduceSub, Nat.reduceAdd, decide_true, decide_false, Bool.true_and, Bool.and_true, Bool.false_eq_true, if_false, ite_false, sz_0, sz_1, sz_2, sz_3, sz_4, sz_5, sz_6, sz_7, sz_8, sz_9, sz_10, sz_11, sz_12, sz_13, sz_14, sz_15, sz_16, sz_17, sz_18, sz_19, sz_20, sz_21, sz_22, sz_23, sz_24, gLen, items, List.length_map, h1]
theorem pot_a (own : Int) : 0 ≤ (if (decide (own < 0) || decide ((10 : Int) ^ 15 ≤ own)) = true then (if own < 0 then -own else own) else 0) := by
  split
  · split
    · omega
    · omega
  · exact Int.le_refl 0
theorem hit_cut {ds : List D} {a b c d : Option D} (S : Sto) : diSeq (dSl (dV 0) doNone (doSome (dC (.int 9)))) [some (.fzl ds), a, b, c, d] S = some (.lst S.length, S ++ [.lst (cutD ds none (some 9))]) := by
  simp only [run, start0, dSeq, dIfS, dtOr, dtAnd, dtNot, dB, dOp, dUn, dV, dC, dTup, dLst, daNil, daCons, dChain, dAnd, dOr, dNot, dIf, dCall, dNil, dBk, dCt, dDrop, dRet, dRetN, dgN, dgsNil, dgsCons, dgT, dAsg, dPar, dPar3, dAug, dYes, dMt, doNone, doSome, gI, gNeg, gIx, gIs, gIsNot, isN, diSeq, diR1, diR2, diR3, List.map_cons, List.map_nil, List.length_cons, List.length_nil, List.replicate_succ, List.replicate_zero, List.cons_append, List.nil_append, List.append_nil, List.set_cons_zero, List.set_cons_succ, List.getElem?_cons_zero, List.getElem?_cons_succ, if_true, ite_true, Nat.reduceSub, Nat.reduceAdd, decide_true, decide_false, Bool.true_and, Bool.and_true, Bool.false_eq_true, if_false, ite_false, sz_0, sz_1, sz_2, sz_3, sz_4, sz_5, sz_6, sz_7, sz_8, sz_9, sz_10, sz_11, sz_12, sz_13, sz_14, sz_15, sz_16, sz_17, sz_18, sz_19, sz_20, sz_21, sz_22, sz_23, sz_24, dSl]
/-- a pot made for a lap -/
theorem m_pot {ns : List Int} {lap : Nat} (hl : lap < 1000) (S : Sto) : ∃ o o' : O, m_law_pot [.fzl (ns.map .int), .int lap] S = some (.ref (S.length + 1), S ++ [o] ++ [o']) ∧ Pot (S ++ [o] ++ [o']) (S.length + 1) 0 := by
  obtain ⟨ks, hk⟩ := cut_ints ns none (some 9)
  have hit := hit_cut (ds := ns.map D.int) (a := some (.int lap)) (b := some (.int (60013 + 8087 * (lap : Int)))) (c := none) (d := none) S
  rw [hk] at hit
  obtain ⟨m1, x, hm1, ho⟩ := pot_loop2 (ns := ks) (lap := lap) (l := .fzl (ns.map D.int)) (m := 60013 + 8087 * (lap : Int)) (j := S.length) (S := S) (S1 := S ++ [.lst (ks.map .int)]) (by omega) (by simp) hit
  obtain ⟨own, hT⟩ := pot_own (ns := ns) (lap := lap) (m := m1) (x := x) (S ++ [.lst (ks.map .int)])
  have b := fmod_bd (i := m1 * 53 + own.fmod 2147483477 * 40009 + 7) (j := 2147483477) (by decide)
  have b2 := fmod_bd (i := own) (j := 2147483477) (by decide)
  have key := pot_asm (F := dFor (diSeq (dSl (dV 0) doNone (doSome (dC (.int 9))))) (dgN 3) potB) (own := own)
    (okMul_of (i := 8087) (j := (lap : Int)) (m := 32) (n := 32) (by decide) (by omega) (by decide)) rfl ho hT
    (okMul_of (m := 32) (n := 32) (by omega) (by decide) (by decide)) (okMul_of (m := 32) (n := 32) (by omega) (by decide) (by decide)) rfl
  rw [List.length_append] at key
  refine ⟨_, _, key, ⟨_, _, _, ?_, pot_a own, b.1, Int.lt_trans b.2 (by decide), Int.le_refl 0, Int.le_refl 0⟩⟩
  simp
end Ev

set_option maxHeartbeats 1000000
/-! KdE: greedy expansions. -/
namespace Ev
open PySem PySem.Spec PyProof.Rows L2

theorem gEq_int (a b : Int) (S : Sto) : gEq (.int a) (.int b) S = some (.bl (decide (a = b)), S) := rfl
theorem gNe_int (a b : Int) (S : Sto) : gNe (.int a) (.int b) S = some (.bl (!decide (a = b)), S) := rfl
/-- the greatest g from k on with room for its lots -/
def IsTop (k left g : Nat) : Prop := k ≤ g ∧ bin g k ≤ left ∧ left < bin (g + 1) k
theorem bin_mono' (k : Nat) : ∀ {a b : Nat}, a ≤ b → bin a k ≤ bin b k := by
  intro a b h
  induction h with
  | refl => exact Nat.le_refl _
  | step _ ih => exact Nat.le_trans ih (bin_mono _ k)
theorem IsTop.unique {k left g g' : Nat} (h : IsTop k left g) (h' : IsTop k left g') : g = g' := by
  obtain ⟨_, h1, h2⟩ := h
  obtain ⟨_, h3, h4⟩ := h'
  apply Nat.le_antisymm
  · apply Nat.le_of_not_lt
    intro z
    have := bin_mono' k (show g' + 1 ≤ g from z)
    omega
  · apply Nat.le_of_not_lt
    intro z
    have := bin_mono' k (show g + 1 ≤ g' from z)
    omega
/-- the greedy expansion of a number in a degree -/
inductive Spr : Nat → Nat → List Nat → Prop
  | done (left : Nat) : Spr 0 left []
  | out (k : Nat) : Spr k 0 []
  | more {k left g : Nat} {gs : List Nat} : 0 < left → IsTop (k + 1) left g → Spr k (left - bin g (k + 1)) gs → Spr (k + 1) left (g :: gs)
theorem Spr.unique : ∀ {k left : Nat} {gs gs' : List Nat}, Spr k left gs → Spr k left gs' → gs = gs' := by
  intro k
  induction k with
  | zero => intro left gs gs' h h'
            cases h <;> cases h' <;> rfl
  | succ k ih =>
    intro left gs gs' h h'
    cases h with
    | out => cases h' with
      | out => rfl
      | more z => omega
    | more z t s => cases h' with
      | out => omega
      | more z' t' s' =>
        obtain rfl := t.unique t'
        rw [ih s s']
theorem bin_two (j : Nat) : 2 * bin (j + 2) 2 = (j + 2) * (j + 1) := by
  have h := bin_absorb (j + 1) 1
  rw [bin_one] at h
  exact h
theorem bin_up (j : Nat) : ∀ k : Nat, 2 ≤ k → bin (j + 2) 2 ≤ bin (k + j) k := by
  intro k h
  induction h with
  | refl => rw [Nat.add_comm]; exact Nat.le_refl _
  | @step k hk ih =>
    have e : bin (k + 1 + j) (k + 1) = bin (k + j) k + bin (k + j) (k + 1) := by
      rw [show k + 1 + j = (k + j) + 1 by omega]; rfl
    show _ ≤ bin (k + 1 + j) (k + 1)
    rw [e]
    omega
theorem steps_lt {k j left : Nat} (hk : 2 ≤ k) (h : bin (k + j) k ≤ left) (hl : left < 2 ^ 57) : j < 2 ^ 29 := by
  have h1 := bin_up j k hk
  have h2 := bin_two j
  apply Nat.lt_of_not_le
  intro z
  have h3 : 2 ^ 29 * 2 ^ 29 ≤ (j + 2) * (j + 1) := Nat.mul_le_mul (by omega) (by omega)
  have h4 : (2 : Nat) ^ 29 * 2 ^ 29 = 2 ^ 58 := by decide
  omega

abbrev sprT : DT := dtAnd (dB (dOp gGt (dV 4) (dC (.int 1)))) (dB (dOp gLe (dCall m_law_choose (daCons (dOp gAdd (dV 5) (dC (.int 1))) (daCons (dV 4) daNil))) (dV 3)))
abbrev sprW : DS := dAsg (dOp gAdd (dV 5) (dC (.int 1))) (dgN 5)
theorem sprT_eq {a b c : Option D} {left g k : Nat} {S : Sto} (hk : k < 1000) (hk2 : 2 ≤ k) (hg : g < 2 ^ 40) (hkg : k ≤ g + 1) :
    sprT [a, b, c, some (.int left), some (.int k), some (.int g)] S = some (decide (bin (g + 1) k ≤ left), S) := by
  have h1 : decide ((1 : Int) < k) = true := decide_eq_true (by omega)
  have h2 : m_law_choose [.int ((g : Int) + 1), .int k] S = some (.int (bin (g + 1) k), S) := by
    have := ch_in_ (N := g + 1) (k := k) (by omega) hk hkg S
    exact this
  have h3 : decide ((bin (g + 1) k : Int) ≤ (left : Int)) = decide (bin (g + 1) k ≤ left) := by
    by_cases z : bin (g + 1) k ≤ left
    · rw [decide_eq_true z]; exact decide_eq_true (by omega)
    · rw [decide_eq_false z]; exact decide_eq_false (by omega)
  unfold sprT
  simp only [run, start0, dSeq, dIfS, dtOr, dtAnd, dtNot, dB, dOp, dUn, dV, dC, dTup, dLst, daNil, daCons, dChain, dAnd, dOr, dNot, dIf, dCall, dNil, dBk, dCt, dDrop, dRet, dRetN, dgN, dgsNil, dgsCons, dgT, dAsg, dPar, dPar3, dAug, dYes, dMt, doNone, doSome, gI, gNeg, gIx, gIs, gIsNot, isN, diSeq, diR1, diR2, diR3, List.map_cons, List.map_nil, List.length_cons, List.length_nil, List.replicate_succ, List.replicate_zero, List.cons_append, List.nil_append, List.append_nil, List.set_cons_zero, List.set_cons_succ, List.getElem?_cons_zero, List.getElem?_cons_succ, if_true, ite_true, Nat.reduceSub, Nat.reduceAdd, decide_true, decide_false, Bool.true_and, Bool.and_true, Bool.false_eq_true, if_false, ite_false, sz_0, sz_1, sz_2, sz_3, sz_4, sz_5, sz_6, sz_7, sz_8, sz_9, sz_10, sz_11, sz_12, sz_13, sz_14, sz_15, sz_16, sz_17, sz_18, sz_19, sz_20, sz_21, sz_22, sz_23, sz_24, h1, gAdd, h2, h3]
theorem sprW_eq {a b c d e : Option D} {g : Nat} {S : Sto} : sprW [a, b, c, d, e, some (.int g)] S = some (.nx [a, b, c, d, e, some (.int (g + 1 : Nat))] S) := by
  have : (g : Int) + 1 = ((g + 1 : Nat) : Int) := rfl
  unfold sprW
  simp only [run, start0, dSeq, dIfS, dtOr, dtAnd, dtNot, dB, dOp, dUn, dV, dC, dTup, dLst, daNil, daCons, dChain, dAnd, dOr, dNot, dIf, dCall, dNil, dBk, dCt, dDrop, dRet, dRetN, dgN, dgsNil, dgsCons, dgT, dAsg, dPar, dPar3, dAug, dYes, dMt, doNone, doSome, gI, gNeg, gIx, gIs, gIsNot, isN, diSeq, diR1, diR2, diR3, List.map_cons, List.map_nil, List.length_cons, List.length_nil, List.replicate_succ, List.replicate_zero, List.cons_append, List.nil_append, List.append_nil, List.set_cons_zero, List.set_cons_succ, List.getElem?_cons_zero, List.getElem?_cons_succ, if_true, ite_true, Nat.reduceSub, Nat.reduceAdd, decide_true, decide_false, Bool.true_and, Bool.and_true, Bool.false_eq_true, if_false, ite_false, sz_0, sz_1, sz_2, sz_3, sz_4, sz_5, sz_6, sz_7, sz_8, sz_9, sz_10, sz_11, sz_12, sz_13, sz_14, sz_15, sz_16, sz_17, sz_18, sz_19, sz_20, sz_21, sz_22, sz_23, sz_24, gAdd, this]
theorem spr_while {a b c : Option D} {left k : Nat} {S : Sto} (hk : k < 1000) (hk2 : 2 ≤ k) (hl : left < 2 ^ 57) (hl0 : 0 < left) (n : Nat) (hn : 2 ^ 29 < n) :
    ∃ g, IsTop k left g ∧ dWhile sprT sprW n [a, b, c, some (.int left), some (.int k), some (.int k)] S = some (.nx [a, b, c, some (.int left), some (.int k), some (.int g)] S) := by
  obtain ⟨o, ho, g, hg, rfl⟩ := while_inv (t := sprT) (b := sprW)
    (fun m ρ S' => S' = S ∧ ∃ j, m + j = 2 ^ 29 ∧ bin (k + j) k ≤ left ∧ ρ = [a, b, c, some (.int left), some (.int k), some (.int (k + j : Nat))])
    (fun o => ∃ g, IsTop k left g ∧ o = .nx [a, b, c, some (.int left), some (.int k), some (.int g)] S)
    (fun m ρ S' hI => by
      obtain ⟨rfl, j, e, h1, rfl⟩ := hI
      have hj := steps_lt hk2 h1 hl
      have ht := sprT_eq (a := a) (b := b) (c := c) (left := left) (g := k + j) (k := k) (S := S') hk hk2 (by omega) (by omega)
      by_cases z : bin (k + j + 1) k ≤ left
      · rw [decide_eq_true z] at ht
        have hj2 := steps_lt hk2 (show bin (k + (j + 1)) k ≤ left from z) hl
        exact .inr ⟨S', _, ht, sprW_eq, by omega, rfl, j + 1, by omega, z, rfl⟩
      · rw [decide_eq_false z] at ht
        exact .inl ⟨S', ht, k + j, ⟨by omega, h1, by omega⟩, rfl⟩)
    n (2 ^ 29) [a, b, c, some (.int left), some (.int k), some (.int k)] S hn ⟨rfl, 0, rfl, by rw [Nat.add_zero, bin_self]; exact hl0, rfl⟩
  exact ⟨g, hg, ho⟩
end Ev

set_option maxHeartbeats 1000000
/-! KdF: the laws' own expansions. -/
namespace Ev
open PySem PySem.Spec PyProof.Rows L2

abbrev sprR (W : DS) : DS := dSeq (dAsg (dIf (dB (dOp gEq (dV 4) (dC (.int 1)))) (dV 3) (dV 4)) (dgN 5)) (dSeq W (dSeq (dDrop (dMt gAppend (dV 2) (daCons (dV 5) daNil))) (dAsg (dOp gSub (dV 3) (dCall m_law_choose (daCons (dV 5) (daCons (dV 4) daNil)))) (dgN 3))))
abbrev sprB (W : DS) : DS := dSeq (dIfS (dB (dOp gEq (dV 3) (dC (.int 0)))) dBk dNil) (sprR W)
theorem spr_brk {a b c d x : Option D} {S : Sto} (W : DS) : sprB W [a, b, c, some (.int 0), d, x] S = some (.bk [a, b, c, some (.int 0), d, x] S) := by
  have h : decide ((0 : Int) = 0) = true := rfl
  unfold sprB
  simp only [run, start0, dSeq, dIfS, dtOr, dtAnd, dtNot, dB, dOp, dUn, dV, dC, dTup, dLst, daNil, daCons, dChain, dAnd, dOr, dNot, dIf, dCall, dNil, dBk, dCt, dDrop, dRet, dRetN, dgN, dgsNil, dgsCons, dgT, dAsg, dPar, dPar3, dAug, dYes, dMt, doNone, doSome, gI, gNeg, gIx, gIs, gIsNot, isN, diSeq, diR1, diR2, diR3, List.map_cons, List.map_nil, List.length_cons, List.length_nil, List.replicate_succ, List.replicate_zero, List.cons_append, List.nil_append, List.append_nil, List.set_cons_zero, List.set_cons_succ, List.getElem?_cons_zero, List.getElem?_cons_succ, if_true, ite_true, Nat.reduceSub, Nat.reduceAdd, decide_true, decide_false, Bool.true_and, Bool.and_true, Bool.false_eq_true, if_false, ite_false, sz_0, sz_1, sz_2, sz_3, sz_4, sz_5, sz_6, sz_7, sz_8, sz_9, sz_10, sz_11, sz_12, sz_13, sz_14, sz_15, sz_16, sz_17, sz_18, sz_19, sz_20, sz_21, sz_22, sz_23, sz_24, gEq_int, h]
theorem spr_go {a b x : Option D} {left k g r : Nat} {S : Sto} {gs : List D} {W : DS} (hl : 0 < left) (hk : k < 1000) (hr : S[r]? = some (.lst gs)) (hz : gs.length < 1000)
    (hg : g < 2 ^ 62) (hkg : k ≤ g) (hb : bin g k ≤ left)
    (hW : W [a, b, some (.ref r), some (.int left), some (.int k), some (.int (if k = 1 then left else k : Nat))] S = some (.nx [a, b, some (.ref r), some (.int left), some (.int k), some (.int g)] S)) :
    sprB W [a, b, some (.ref r), some (.int left), some (.int k), x] S = some (.nx [a, b, some (.ref r), some (.int (left - bin g k : Nat)), some (.int k), some (.int g)] (S.set r (.lst (gs ++ [.int g])))) := by
  have h0 : decide ((left : Int) = 0) = false := decide_eq_false (by omega)
  have hs : gs.length < sizeLine := Nat.lt_trans hz (by decide)
  have h2 := ch_in_ (N := g) (k := k) hg hk hkg (S.set r (.lst (gs ++ [.int g])))
  have h3 : (left : Int) - (bin g k : Int) = ((left - bin g k : Nat) : Int) := by omega
  unfold sprB sprR
  by_cases h1 : k = 1
  · subst h1
    have e1 : decide (((1 : Nat) : Int) = 1) = true := rfl
    rw [if_pos rfl] at hW
    simp only [run, start0, dSeq, dIfS, dtOr, dtAnd, dtNot, dB, dOp, dUn, dV, dC, dTup, dLst, daNil, daCons, dChain, dAnd, dOr, dNot, dIf, dCall, dNil, dBk, dCt, dDrop, dRet, dRetN, dgN, dgsNil, dgsCons, dgT, dAsg, dPar, dPar3, dAug, dYes, dMt, doNone, doSome, gI, gNeg, gIx, gIs, gIsNot, isN, diSeq, diR1, diR2, diR3, List.map_cons, List.map_nil, List.length_cons, List.length_nil, List.replicate_succ, List.replicate_zero, List.cons_append, List.nil_append, List.append_nil, List.set_cons_zero, List.set_cons_succ, List.getElem?_cons_zero, List.getElem?_cons_succ, if_true, ite_true, Nat.reduceSub, Nat.reduceAdd, decide_true, decide_false, Bool.true_and, Bool.and_true, Bool.false_eq_true, if_false, ite_false, sz_0, sz_1, sz_2, sz_3, sz_4, sz_5, sz_6, sz_7, sz_8, sz_9, sz_10, sz_11, sz_12, sz_13, sz_14, sz_15, sz_16, sz_17, sz_18, sz_19, sz_20, sz_21, sz_22, sz_23, sz_24, gEq_int, h0, e1, hW, gAppend, hr, hs, h2, h3]
  · have e1 : decide ((k : Int) = 1) = false := decide_eq_false (by omega)
    rw [if_neg h1] at hW
    simp only [run, start0, dSeq, dIfS, dtOr, dtAnd, dtNot, dB, dOp, dUn, dV, dC, dTup, dLst, daNil, daCons, dChain, dAnd, dOr, dNot, dIf, dCall, dNil, dBk, dCt, dDrop, dRet, dRetN, dgN, dgsNil, dgsCons, dgT, dAsg, dPar, dPar3, dAug, dYes, dMt, doNone, doSome, gI, gNeg, gIx, gIs, gIsNot, isN, diSeq, diR1, diR2, diR3, List.map_cons, List.map_nil, List.length_cons, List.length_nil, List.replicate_succ, List.replicate_zero, List.cons_append, List.nil_append, List.append_nil, List.set_cons_zero, List.set_cons_succ, List.getElem?_cons_zero, List.getElem?_cons_succ, if_true, ite_true, Nat.reduceSub, Nat.reduceAdd, decide_true, decide_false, Bool.true_and, Bool.and_true, Bool.false_eq_true, if_false, ite_false, sz_0, sz_1, sz_2, sz_3, sz_4, sz_5, sz_6, sz_7, sz_8, sz_9, sz_10, sz_11, sz_12, sz_13, sz_14, sz_15, sz_16, sz_17, sz_18, sz_19, sz_20, sz_21, sz_22, sz_23, sz_24, gEq_int, h0, e1, hW, gAppend, hr, hs, h2, h3]
theorem while_off {ρ : Rho} {S : Sto} {t : DT} {b : DS} (n : Nat) (h : t ρ S = some (false, S)) (hn : 0 < n) : dWhile t b n ρ S = some (.nx ρ S) := by
  cases n with
  | zero => omega
  | succ n => unfold dWhile; simp only [h]
/-- the while's end: the greatest one -/
theorem spr_top {a b c : Option D} {left k : Nat} {S : Sto} (hk : k < 1000) (hk1 : 1 ≤ k) (hl : left < 2 ^ 57) (hl0 : 0 < left) (n : Nat) (hn : 2 ^ 29 < n) :
    ∃ g, IsTop k left g ∧ g < 2 ^ 62 ∧ dWhile sprT sprW n [a, b, c, some (.int left), some (.int k), some (.int (if k = 1 then left else k : Nat))] S = some (.nx [a, b, c, some (.int left), some (.int k), some (.int g)] S) := by
  by_cases h1 : k = 1
  · subst h1
    rw [if_pos rfl]
    refine ⟨left, ⟨by omega, by rw [bin_one]; exact Nat.le_refl _, by rw [bin_one]; omega⟩, by omega, while_off n ?_ (by omega)⟩
    have e : decide ((1 : Int) < ((1 : Nat) : Int)) = false := rfl
    unfold sprT
    simp only [run, start0, dSeq, dIfS, dtOr, dtAnd, dtNot, dB, dOp, dUn, dV, dC, dTup, dLst, daNil, daCons, dChain, dAnd, dOr, dNot, dIf, dCall, dNil, dBk, dCt, dDrop, dRet, dRetN, dgN, dgsNil, dgsCons, dgT, dAsg, dPar, dPar3, dAug, dYes, dMt, doNone, doSome, gI, gNeg, gIx, gIs, gIsNot, isN, diSeq, diR1, diR2, diR3, List.map_cons, List.map_nil, List.length_cons, List.length_nil, List.replicate_succ, List.replicate_zero, List.cons_append, List.nil_append, List.append_nil, List.set_cons_zero, List.set_cons_succ, List.getElem?_cons_zero, List.getElem?_cons_succ, if_true, ite_true, Nat.reduceSub, Nat.reduceAdd, decide_true, decide_false, Bool.true_and, Bool.and_true, Bool.false_eq_true, if_false, ite_false, sz_0, sz_1, sz_2, sz_3, sz_4, sz_5, sz_6, sz_7, sz_8, sz_9, sz_10, sz_11, sz_12, sz_13, sz_14, sz_15, sz_16, sz_17, sz_18, sz_19, sz_20, sz_21, sz_22, sz_23, sz_24, e]
  · rw [if_neg h1]
    obtain ⟨g, hg, ho⟩ := spr_while (a := a) (b := b) (c := c) (left := left) (k := k) (S := S) hk (by omega) hl hl0 n hn
    have : g - k < 2 ^ 29 := steps_lt (k := k) (j := g - k) (by omega) (by rw [show k + (g - k) = g by have := hg.1; omega]; exact hg.2.1) hl
    exact ⟨g, hg, by omega, ho⟩
theorem set_last {S : Sto} (x y : O) : (S ++ [x]).set S.length y = S ++ [y] := by
  rw [List.set_append_right _ _ (Nat.le_refl _), Nat.sub_self]; rfl
theorem get_last {S : Sto} (x : O) : (S ++ [x])[S.length]? = some x := by
  rw [List.getElem?_append_right (Nat.le_refl _), Nat.sub_self]; rfl
theorem spr_for {n d : Nat} (hd : d < 1000) (hn : n < 2 ^ 57) (S : Sto) : ∃ gs : List Nat, Spr d n gs ∧ gs.length ≤ d ∧ ∃ e x y,
    dFor (diR3 (daCons (dV 1) (daCons (dC (.int 0)) (daCons (dUn gNeg (dC (.int 1))) daNil)))) (dgN 4) (sprB (dWhile sprT sprW FUEL)) [some (.int n), some (.int d), some (.ref S.length), some (.int n), none, none] (S ++ [.lst []])
      = some (.nx [some (.int n), some (.int d), some (.ref S.length), e, x, y] (S ++ [.lst (gs.map fun g => .int (g : Nat))])) := by
  obtain ⟨o, ho, gs, h1, h2, e, x, y, rfl⟩ := for_rng (it := diR3 (daCons (dV 1) (daCons (dC (.int 0)) (daCons (dUn gNeg (dC (.int 1))) daNil)))) (g := dgN 4) (b := sprB (dWhile sprT sprW FUEL))
    (ρ := [some (.int n), some (.int d), some (.ref S.length), some (.int n), none, none]) (S := S ++ [.lst []]) (S1 := S ++ [.lst []]) (lo := d) (c := -1) (n := d)
    (by
      have h := ch_in hd
      have h' : in62 0 = true := rfl
      have h'' : ((d : Int) - 0).toNat = d := by omega
      simp only [run, start0, dSeq, dIfS, dtOr, dtAnd, dtNot, dB, dOp, dUn, dV, dC, dTup, dLst, daNil, daCons, dChain, dAnd, dOr, dNot, dIf, dCall, dNil, dBk, dCt, dDrop, dRet, dRetN, dgN, dgsNil, dgsCons, dgT, dAsg, dPar, dPar3, dAug, dYes, dMt, doNone, doSome, gI, gNeg, gIx, gIs, gIsNot, isN, diSeq, diR1, diR2, diR3, List.map_cons, List.map_nil, List.length_cons, List.length_nil, List.replicate_succ, List.replicate_zero, List.cons_append, List.nil_append, List.append_nil, List.set_cons_zero, List.set_cons_succ, List.getElem?_cons_zero, List.getElem?_cons_succ, if_true, ite_true, Nat.reduceSub, Nat.reduceAdd, decide_true, decide_false, Bool.true_and, Bool.and_true, Bool.false_eq_true, if_false, ite_false, sz_0, sz_1, sz_2, sz_3, sz_4, sz_5, sz_6, sz_7, sz_8, sz_9, sz_10, sz_11, sz_12, sz_13, sz_14, sz_15, sz_16, sz_17, sz_18, sz_19, sz_20, sz_21, sz_22, sz_23, sz_24, h, h', h'', Bool.and_self])
    (fun i ρ S' => ∃ (gs : List Nat) (left : Nat) (x y : Option D), gs.length = i ∧ left ≤ n ∧ S' = S ++ [.lst (gs.map fun g => .int (g : Nat))] ∧ ρ = [some (.int n), some (.int d), some (.ref S.length), some (.int left), x, y] ∧ ∀ hs, Spr (d - i) left hs → Spr d n (gs ++ hs))
    (fun o => ∃ gs : List Nat, Spr d n gs ∧ gs.length ≤ d ∧ ∃ e x y, o = .nx [some (.int n), some (.int d), some (.ref S.length), e, x, y] (S ++ [.lst (gs.map fun g => .int (g : Nat))]))
    ⟨[], n, none, none, rfl, Nat.le_refl _, rfl, rfl, fun hs h => h⟩
    (fun i ρ S' hi hI => by
      obtain ⟨gs, left, x, y, e1, e2, rfl, rfl, h⟩ := hI
      refine ⟨_, _, rfl, ?_⟩
      have ek : (d : Int) + (i : Int) * -1 = ((d - i : Nat) : Int) := by omega
      rw [ek]
      by_cases z : left = 0
      · subst z
        exact ⟨_, spr_brk _, gs, by simpa using h [] (.out _), by omega, _, _, _, rfl⟩
      · obtain ⟨g, t, hg, hW⟩ := spr_top (a := some (.int n)) (b := some (.int d)) (c := some (.ref S.length)) (left := left) (k := d - i) (S := S ++ [.lst (gs.map fun g => .int (g : Nat))]) (by omega) (by omega) (by omega) (by omega) FUEL (by decide)
        refine ⟨_, spr_go (x := y) (by omega) (by omega) (get_last _) (by rw [List.length_map]; omega) hg t.1 t.2.1 hW, ?_⟩
        refine ⟨gs ++ [g], left - bin g (d - i), _, _, by simp; omega, by omega, ?_, rfl, fun hs q => ?_⟩
        · rw [set_last]; simp
        · rw [List.append_assoc]
          refine h (g :: hs) ?_
          obtain ⟨k, hk⟩ : ∃ k, d - i = k + 1 := ⟨d - i - 1, by omega⟩
          rw [hk] at t q ⊢
          rw [show d - (i + 1) = k by omega] at q
          exact .more (by omega) t q)
    (fun ρ S' hI => by
      obtain ⟨gs, left, x, y, e1, e2, rfl, rfl, h⟩ := hI
      refine ⟨gs, by simpa using h [] (by rw [Nat.sub_self]; exact .done _), by omega, _, _, _, rfl⟩)
  exact ⟨gs, h1, h2, e, x, y, ho⟩
theorem spr_asm {F : DS} {n d : Nat} {S : Sto} {e x y : Option D} {ds : List D} (ho : F [some (.int n), some (.int d), some (.ref S.length), some (.int n), none, none] (S ++ [.lst []]) = some (.nx [some (.int n), some (.int d), some (.ref S.length), e, x, y] (S ++ [.lst ds]))) :
    run 6 (dSeq (dPar 2 3 (daCons (dLst daNil) (daCons (dV 0) daNil))) (dSeq F (dRet (dCall gTuple (daCons (dV 2) daNil))))) [.int n, .int d] S = some (.tup ds, S ++ [.lst ds]) := by
  have p3 : 0 ≤ sizeLine := by decide
  simp only [run, start0, dSeq, dIfS, dtOr, dtAnd, dtNot, dB, dOp, dUn, dV, dC, dTup, dLst, daNil, daCons, dChain, dAnd, dOr, dNot, dIf, dCall, dNil, dBk, dCt, dDrop, dRet, dRetN, dgN, dgsNil, dgsCons, dgT, dAsg, dPar, dPar3, dAug, dYes, dMt, doNone, doSome, gI, gNeg, gIx, gIs, gIsNot, isN, diSeq, diR1, diR2, diR3, List.map_cons, List.map_nil, List.length_cons, List.length_nil, List.replicate_succ, List.replicate_zero, List.cons_append, List.nil_append, List.append_nil, List.set_cons_zero, List.set_cons_succ, List.getElem?_cons_zero, List.getElem?_cons_succ, if_true, ite_true, Nat.reduceSub, Nat.reduceAdd, decide_true, decide_false, Bool.true_and, Bool.and_true, Bool.false_eq_true, if_false, ite_false, sz_0, sz_1, sz_2, sz_3, sz_4, sz_5, sz_6, sz_7, sz_8, sz_9, sz_10, sz_11, sz_12, sz_13, sz_14, sz_15, sz_16, sz_17, sz_18, sz_19, sz_20, sz_21, sz_22, sz_23, sz_24, p3, ho, gTuple, lstOf, get_last]
/-- the laws' own expansion -/
theorem m_spread {n d : Nat} (hd : d < 1000) (hn : n < 2 ^ 57) (S : Sto) : ∃ gs : List Nat, Spr d n gs ∧ gs.length ≤ d ∧ ∃ o, m_law_spread [.int n, .int d] S = some (.tup (gs.map fun g => .int (g : Nat)), S ++ [o]) := by
  obtain ⟨gs, h1, h2, e, x, y, ho⟩ := spr_for hd hn S
  exact ⟨gs, h1, h2, _, spr_asm ho⟩
end Ev

set_option maxHeartbeats 1000000
/-! KdG: what is most next, by the laws' own reckoning. -/
namespace Ev
open PySem PySem.Spec PyProof.Rows L2

theorem chs_nat (n k : Nat) : chs n k = (bin n k : Int) := by
  unfold chs
  by_cases h : n < k
  · rw [if_pos (.inr (by omega)), bin_above n k h]; rfl
  · rw [if_neg (by omega), Int.toNat_natCast, Int.toNat_natCast]
theorem m_choose_nat {n k : Nat} (hn : n < 2 ^ 62) (hk : k < 1000) (S : Sto) : m_law_choose [.int n, .int k] S = some (.int (bin n k), S) := by
  rw [m_choose (by omega) (by omega), chs_nat]
theorem top_lt {k left g : Nat} (hk : 1 ≤ k) (h : IsTop k left g) (hl : left < 2 ^ 57) : g < k + 2 ^ 57 := by
  by_cases h1 : k = 1
  · subst h1
    have := h.2.1
    rw [bin_one] at this
    omega
  · have h0 := h.1
    have : g - k < 2 ^ 29 := steps_lt (k := k) (j := g - k) (by omega) (by rw [show k + (g - k) = g by omega]; exact h.2.1) hl
    omega
/-- the parts of an expansion: from the degree on, not too great -/
theorem Spr.parts : ∀ {d n : Nat} {gs : List Nat}, Spr d n gs → n < 2 ^ 57 → ∀ (j g : Nat), gs[j]? = some g → j < d ∧ d - j ≤ g ∧ g < d + 2 ^ 57 := by
  intro d
  induction d with
  | zero => intro n gs h hn j g hj
            cases h <;> simp at hj
  | succ d ih =>
    intro n gs h hn j g hj
    cases h with
    | out => simp at hj
    | more z t s =>
      cases j with
      | zero =>
        simp at hj
        subst hj
        have := top_lt (by omega) t hn
        exact ⟨by omega, t.1, by omega⟩
      | succ j =>
        have := ih s (by omega) j g (by simpa using hj)
        omega
/-- the sum of the lots one step on -/
def nxt : Nat → List Nat → Nat
  | _, [] => 0
  | d, g :: gs => bin (g + 1) (d + 1) + nxt (d - 1) gs
/-- the lots of an expansion -/
def lots : Nat → List Nat → List Nat
  | _, [] => []
  | d, g :: gs => bin g d :: lots (d - 1) gs
theorem Spr.sum : ∀ {d n : Nat} {gs : List Nat}, Spr d n gs → 0 < d ∨ n = 0 → (lots d gs).sum = n := by
  intro d
  induction d with
  | zero => intro n gs h hd
            cases h with
            | done => have : n = 0 := by omega
                      subst this; rfl
            | out => rfl
  | succ d ih =>
    intro n gs h hd
    cases h with
    | out => rfl
    | @more _ _ g gs' z t s =>
      show bin g (d + 1) + (lots (d + 1 - 1) gs').sum = n
      have e : d + 1 - 1 = d := rfl
      have := t.2.1
      by_cases h0 : 0 < d
      · rw [e, ih s (.inl h0)]; omega
      · have : d = 0 := by omega
        subst this
        have t2 := t.2.2
        have t1 := t.2.1
        rw [bin_one] at t1 t2
        have hg : g = n := by omega
        subst hg
        rw [e, ih s (.inr (by rw [bin_one]; omega)), bin_one]
        omega
def nxts (d : Nat) (gs : List Nat) : List D := (List.range gs.length).map fun j => .int ((bin (gs.getD j 0 + 1) (d - j + 1) : Nat) : Int)
theorem nxts_sum : ∀ (gs : List Nat) (d : Nat), gs.length ≤ d → ∃ ns : List Int, nxts d gs = ns.map .int ∧ ns.sum = (nxt d gs : Int) := by
  intro gs
  induction gs with
  | nil => intro d _; exact ⟨[], rfl, rfl⟩
  | cons g gs ih =>
    intro d hd
    have hd' : gs.length ≤ d - 1 := by simp at hd; omega
    obtain ⟨ns, h1, h2⟩ := ih (d - 1) hd'
    refine ⟨((bin (g + 1) (d + 1) : Nat) : Int) :: ns, ?_, ?_⟩
    · unfold nxts at h1 ⊢
      rw [List.length_cons, List.range_succ_eq_map, List.map_cons, List.map_cons, ← h1, List.map_map]
      refine congr (congrArg _ ?_) ?_
      · simp
      · refine List.map_congr_left fun j hj => ?_
        have : j < gs.length := List.mem_range.mp hj
        show D.int _ = D.int _
        have e : d - (j + 1) + 1 = d - 1 - j + 1 := by simp at hd; omega
        simp [e]
    · show ((bin (g + 1) (d + 1) : Nat) : Int) + ns.sum = _
      rw [h2]
      show _ = ((bin (g + 1) (d + 1) + nxt (d - 1) gs : Nat) : Int)
      omega
theorem dLc_fix {it : DI} {g : DG} {t : DT} {f : DE} {vs : List Nat} {ρ ρ0 : Rho} {S S1 S2 : Sto} {ds : List D} (hit : it ρ S = some (.fix ds, S1)) (hw : wipeR ρ vs = ρ0) (key : lcLoop S1.length (.fix ds) g t f ρ0 (ds.length + 1) 0 (S1 ++ [.lst []]) = some S2) :
    dLc it g t f vs ρ S = some (.ref S1.length, S2) := by
  subst hw
  unfold dLc
  simp only [hit, Src.size, key]
abbrev behF : DE := dCall m_law_choose (daCons (dOp gAdd (dOp gIx (dV 2) (dV 3)) (dC (.int 1))) (daCons (dOp gAdd (dOp gSub (dV 1) (dV 3)) (dC (.int 1))) daNil))
theorem beh_f {a : Option D} {d j g : Nat} {ds : List D} {S : Sto} (hg : ds[j]? = some (.int g)) (hb : g + 1 < 2 ^ 62) (hd : d + 1 < 1000) (hj : j < d) : behF [a, some (.int d), some (.tup ds), some (.int j)] S = some (.int (bin (g + 1) (d - j + 1)), S) := by
  have h1 := atI_nn hg
  have h2 := m_choose_nat (n := g + 1) (k := d - j + 1) hb (by omega) S
  have e1 : (g : Int) + 1 = ((g + 1 : Nat) : Int) := rfl
  have e2 : (d : Int) - j + 1 = ((d - j + 1 : Nat) : Int) := by omega
  unfold behF
  simp only [run, start0, dSeq, dIfS, dtOr, dtAnd, dtNot, dB, dOp, dUn, dV, dC, dTup, dLst, daNil, daCons, dChain, dAnd, dOr, dNot, dIf, dCall, dNil, dBk, dCt, dDrop, dRet, dRetN, dgN, dgsNil, dgsCons, dgT, dAsg, dPar, dPar3, dAug, dYes, dMt, doNone, doSome, gI, gNeg, gIx, gIs, gIsNot, isN, diSeq, diR1, diR2, diR3, List.map_cons, List.map_nil, List.length_cons, List.length_nil, List.replicate_succ, List.replicate_zero, List.cons_append, List.nil_append, List.append_nil, List.set_cons_zero, List.set_cons_succ, List.getElem?_cons_zero, List.getElem?_cons_succ, if_true, ite_true, Nat.reduceSub, Nat.reduceAdd, decide_true, decide_false, Bool.true_and, Bool.and_true, Bool.false_eq_true, if_false, ite_false, sz_0, sz_1, sz_2, sz_3, sz_4, sz_5, sz_6, sz_7, sz_8, sz_9, sz_10, sz_11, sz_12, sz_13, sz_14, sz_15, sz_16, sz_17, sz_18, sz_19, sz_20, sz_21, sz_22, sz_23, sz_24, items, h1, gAdd, e1, e2, h2]
theorem src_fix {ds : List D} {S : Sto} {i : Nat} : Src.item (.fix ds) S i = some ds[i]? := rfl
theorem beh_lc {a : Option D} {d : Nat} {gs : List Nat} (S : Sto) (hd : d + 1 < 1000) (hl : gs.length ≤ d) (hb : ∀ (j g : Nat), gs[j]? = some g → g + 1 < 2 ^ 62) :
    dLc (diR1 (daCons (dCall gLen (daCons (dV 2) daNil)) daNil)) (dgN 3) dYes behF [3] [a, some (.int d), some (.tup (gs.map fun g => .int (g : Nat))), none] S = some (.ref S.length, S ++ [.lst (nxts d gs)]) := by
  have h62 : in62 (gs.length : Int) = true := ch_in (by omega)
  have hit : diR1 (daCons (dCall gLen (daCons (dV 2) daNil)) daNil) [a, some (.int d), some (.tup (gs.map fun g => .int (g : Nat))), none] S = some (.fix (rngs 0 1 gs.length), S) := by
    simp only [run, start0, dSeq, dIfS, dtOr, dtAnd, dtNot, dB, dOp, dUn, dV, dC, dTup, dLst, daNil, daCons, dChain, dAnd, dOr, dNot, dIf, dCall, dNil, dBk, dCt, dDrop, dRet, dRetN, dgN, dgsNil, dgsCons, dgT, dAsg, dPar, dPar3, dAug, dYes, dMt, doNone, doSome, gI, gNeg, gIx, gIs, gIsNot, isN, diSeq, diR1, diR2, diR3, List.map_cons, List.map_nil, List.length_cons, List.length_nil, List.replicate_succ, List.replicate_zero, List.cons_append, List.nil_append, List.append_nil, List.set_cons_zero, List.set_cons_succ, List.getElem?_cons_zero, List.getElem?_cons_succ, if_true, ite_true, Nat.reduceSub, Nat.reduceAdd, decide_true, decide_false, Bool.true_and, Bool.and_true, Bool.false_eq_true, if_false, ite_false, sz_0, sz_1, sz_2, sz_3, sz_4, sz_5, sz_6, sz_7, sz_8, sz_9, sz_10, sz_11, sz_12, sz_13, sz_14, sz_15, sz_16, sz_17, sz_18, sz_19, sz_20, sz_21, sz_22, sz_23, sz_24, gLen, items, List.length_map, h62, Int.toNat_natCast]
  have key := lc_pure (src := .fix (rngs 0 1 gs.length)) (g := dgN 3) (t := dYes) (f := behF) (ρ := [a, some (.int d), some (.tup (gs.map fun g => .int (g : Nat))), none]) (S := S) (ds := rngs 0 1 gs.length) (ys := nxts d gs)
    (by rw [rngs_len]; exact Nat.le_trans (show gs.length ≤ 1000 by omega) (by decide)) (fun _ _ _ => rfl)
    (fun i x acc hx => by
      rw [rngs_get] at hx
      split at hx
      · rename_i hi
        cases hx
        have e : (0 : Int) + (i : Int) * 1 = i := by omega
        rw [e]
        refine ⟨_, fun _ => rfl, rfl, .int (bin (gs[i] + 1) (d - i + 1) : Nat), ?_, ?_⟩
        · unfold nxts
          rw [List.getElem?_map, List.getElem?_range hi]
          simp [hi]
        · exact beh_f (by rw [List.getElem?_map, List.getElem?_eq_getElem hi]; rfl) (hb i _ (List.getElem?_eq_getElem hi)) hd (by omega)
      · cases hx)
    (by unfold nxts; rw [rngs_len]; simp)
  exact dLc_fix hit rfl key
theorem beh_asm {M : DF} {F : DE} {n d : Nat} {S S1 S2 : Sto} {x : D} {i : Nat} {ns : List Int} (h1 : M [.int n, .int d] S = some (x, S1)) (ho : F [some (.int n), some (.int d), some x, none] S1 = some (.ref i, S2)) (h2 : S2[i]? = some (.lst (ns.map .int))) :
    run 4 (dSeq (dAsg (dCall M (daCons (dV 0) (daCons (dV 1) daNil))) (dgN 2)) (dRet (dCall gSum (daCons F daNil)))) [.int n, .int d] S = some (.int ns.sum, S2) := by
  simp only [run, start0, dSeq, dIfS, dtOr, dtAnd, dtNot, dB, dOp, dUn, dV, dC, dTup, dLst, daNil, daCons, dChain, dAnd, dOr, dNot, dIf, dCall, dNil, dBk, dCt, dDrop, dRet, dRetN, dgN, dgsNil, dgsCons, dgT, dAsg, dPar, dPar3, dAug, dYes, dMt, doNone, doSome, gI, gNeg, gIx, gIs, gIsNot, isN, diSeq, diR1, diR2, diR3, List.map_cons, List.map_nil, List.length_cons, List.length_nil, List.replicate_succ, List.replicate_zero, List.cons_append, List.nil_append, List.append_nil, List.set_cons_zero, List.set_cons_succ, List.getElem?_cons_zero, List.getElem?_cons_succ, if_true, ite_true, Nat.reduceSub, Nat.reduceAdd, decide_true, decide_false, Bool.true_and, Bool.and_true, Bool.false_eq_true, if_false, ite_false, sz_0, sz_1, sz_2, sz_3, sz_4, sz_5, sz_6, sz_7, sz_8, sz_9, sz_10, sz_11, sz_12, sz_13, sz_14, sz_15, sz_16, sz_17, sz_18, sz_19, sz_20, sz_21, sz_22, sz_23, sz_24, h1, ho, gSum, items, h2, intsD_map]
/-- what is most next, by the laws' own reckoning -/
theorem m_behind {n d : Nat} (hd : d + 1 < 1000) (hn : n < 2 ^ 57) (S : Sto) : ∃ gs : List Nat, Spr d n gs ∧ ∃ o o', m_law_behind [.int n, .int d] S = some (.int (nxt d gs), S ++ [o] ++ [o']) := by
  obtain ⟨gs, h1, h2, o, h3⟩ := m_spread (d := d) (by omega) hn S
  obtain ⟨ns, e1, e2⟩ := nxts_sum gs d h2
  have h4 := beh_lc (a := some (.int n)) (d := d) (gs := gs) (S ++ [o]) hd h2 (fun j g hj => by
    have := h1.parts hn j g hj
    omega)
  refine ⟨gs, h1, o, .lst (nxts d gs), ?_⟩
  have := beh_asm h3 h4 (by rw [get_last, e1])
  rw [e2] at this
  exact this
end Ev

set_option maxHeartbeats 1000000
/-! KdH: k10's drawn number. -/
namespace Ev
open PySem PySem.Spec PyProof.Rows L2

/-- drawn: the pot alone is another one -/
structure Drew (S : Sto) (r : Nat) (S' : Sto) (m : Nat) : Prop where
  ex : ∃ o, S' = S.set r o
  pot : Pot S' r m
theorem Drew.trans {S S1 S2 : Sto} {r m m' : Nat} (a : Drew S r S1 m) (b : Drew S1 r S2 m') : Drew S r S2 m' := by
  obtain ⟨o, rfl⟩ := a.ex
  obtain ⟨o', rfl⟩ := b.ex
  exact ⟨⟨o', by rw [List.set_set]⟩, b.pot⟩
theorem Drew.len {S S' : Sto} {r m : Nat} (a : Drew S r S' m) : S'.length = S.length := by
  obtain ⟨o, rfl⟩ := a.ex
  exact List.length_set
theorem take_w {S : Sto} {r m : Nat} (p : Pot S r m) (few : Int) (hf : 0 < few) (hf2 : few < 2 ^ 62) (hm : m < 2 ^ 40) : ∃ v S', m_law_take [.ref r, .int few] S = some (.int v, S') ∧ 0 ≤ v ∧ v < few ∧ Drew S r S' (m + 1) := by
  obtain ⟨v, o, h1, h2, h3, h4⟩ := m_take p hf hf2 hm
  exact ⟨v, _, h1, h2, h3, ⟨o, rfl⟩, h4⟩
theorem of_w {S : Sto} {r m : Nat} (p : Pot S r m) (ds : List D) (hf : ds ≠ []) (hf2 : ds.length < 1000) (hm : m < 2 ^ 40) : ∃ d S', m_law_of [.ref r, .tup ds] S = some (d, S') ∧ d ∈ ds ∧ Drew S r S' (m + 1) := by
  obtain ⟨d, o, h1, h2, h3⟩ := m_of p hf hf2 hm
  exact ⟨d, _, h1, h2, ⟨o, rfl⟩, h3⟩
section
variable {T O C : DF} {S S1 S2 S3 S4 : Sto} {r : Nat} {d : Int}
theorem num0 {v : Int} (h1 : T [.ref r, .int 4] S = some (.int 0, S1)) (h2 : T [.ref r, .int 40] S1 = some (.int v, S2)) :
    run 5 (dSeq (dAsg (dCall T (daCons (dV 0) (daCons (dC (.int 4)) daNil))) (dgN 2)) (dSeq (dIfS (dB (dOp gEq (dV 2) (dC (.int 0)))) (dRet (dCall T (daCons (dV 0) (daCons (dC (.int 40)) daNil)))) dNil) (dSeq (dIfS (dB (dOp gEq (dV 2) (dC (.int 1)))) (dSeq (dAsg (dIf (dB (dOp gGt (dV 1) (dC (.int 1)))) (dOp gPow (dC (.int 10)) (dC (.int 6))) (dCall O (daCons (dV 0) (daCons (dTup (daCons (dOp gPow (dC (.int 10)) (dC (.int 6))) (daCons (dC (.int 5000)) (daCons (dC (.int 5000)) (daCons (dC (.int 5000)) daNil))))) daNil)))) (dgN 3)) (dRet (dCall O (daCons (dV 0) (daCons (dTup (daCons (dC (.int 0)) (daCons (dC (.int 1)) (daCons (dV 3) (daCons (dOp gSub (dV 3) (dC (.int 1))) (daCons (dCall T (daCons (dV 0) (daCons (dOp gAdd (dV 3) (dC (.int 1))) daNil))) daNil)))))) daNil))))) dNil) (dSeq (dAsg (dOp gAdd (dV 1) (dCall T (daCons (dV 0) (daCons (dOp gIx (dTup (daCons (dC (.int 9000)) (daCons (dC (.int 1400)) (daCons (dC (.int 175)) (daCons (dC (.int 62)) (daCons (dC (.int 36)) (daCons (dC (.int 26)) (daCons (dC (.int 20)) (daCons (dC (.int 18)) daNil))))))))) (dOp gSub (dV 1) (dC (.int 1)))) daNil)))) (dgN 4)) (dRet (dCall gMax (daCons (dC (.int 0)) (daCons (dCall gMin (daCons (dOp gPow (dC (.int 10)) (dC (.int 6))) (daCons (dOp gSub (dOp gAdd (dCall C (daCons (dV 4) (daCons (dV 1) daNil))) (dCall T (daCons (dV 0) (daCons (dC (.int 3)) daNil)))) (dC (.int 1))) daNil))) daNil)))))))) [.ref r, .int d] S = some (.int v, S2) := by
  have e : decide ((0 : Int) = 0) = true := rfl
  simp only [run, start0, dSeq, dIfS, dtOr, dtAnd, dtNot, dB, dOp, dUn, dV, dC, dTup, dLst, daNil, daCons, dChain, dAnd, dOr, dNot, dIf, dCall, dNil, dBk, dCt, dDrop, dRet, dRetN, dgN, dgsNil, dgsCons, dgT, dAsg, dPar, dPar3, dAug, dYes, dMt, doNone, doSome, gI, gNeg, gIx, gIs, gIsNot, isN, diSeq, diR1, diR2, diR3, List.map_cons, List.map_nil, List.length_cons, List.length_nil, List.replicate_succ, List.replicate_zero, List.cons_append, List.nil_append, List.append_nil, List.set_cons_zero, List.set_cons_succ, List.getElem?_cons_zero, List.getElem?_cons_succ, if_true, ite_true, Nat.reduceSub, Nat.reduceAdd, decide_true, decide_false, Bool.true_and, Bool.and_true, Bool.false_eq_true, if_false, ite_false, sz_0, sz_1, sz_2, sz_3, sz_4, sz_5, sz_6, sz_7, sz_8, sz_9, sz_10, sz_11, sz_12, sz_13, sz_14, sz_15, sz_16, sz_17, sz_18, sz_19, sz_20, sz_21, sz_22, sz_23, sz_24, h1, gEq_int, e, h2]
theorem num1 {v : Int} {x : D} (hd : 1 < d) (h1 : T [.ref r, .int 4] S = some (.int 1, S1)) (h2 : T [.ref r, .int 1000001] S1 = some (.int v, S2))
    (h3 : O [.ref r, .tup [.int 0, .int 1, .int 1000000, .int 999999, .int v]] S2 = some (x, S3)) :
    run 5 (dSeq (dAsg (dCall T (daCons (dV 0) (daCons (dC (.int 4)) daNil))) (dgN 2)) (dSeq (dIfS (dB (dOp gEq (dV 2) (dC (.int 0)))) (dRet (dCall T (daCons (dV 0) (daCons (dC (.int 40)) daNil)))) dNil) (dSeq (dIfS (dB (dOp gEq (dV 2) (dC (.int 1)))) (dSeq (dAsg (dIf (dB (dOp gGt (dV 1) (dC (.int 1)))) (dOp gPow (dC (.int 10)) (dC (.int 6))) (dCall O (daCons (dV 0) (daCons (dTup (daCons (dOp gPow (dC (.int 10)) (dC (.int 6))) (daCons (dC (.int 5000)) (daCons (dC (.int 5000)) (daCons (dC (.int 5000)) daNil))))) daNil)))) (dgN 3)) (dRet (dCall O (daCons (dV 0) (daCons (dTup (daCons (dC (.int 0)) (daCons (dC (.int 1)) (daCons (dV 3) (daCons (dOp gSub (dV 3) (dC (.int 1))) (daCons (dCall T (daCons (dV 0) (daCons (dOp gAdd (dV 3) (dC (.int 1))) daNil))) daNil)))))) daNil))))) dNil) (dSeq (dAsg (dOp gAdd (dV 1) (dCall T (daCons (dV 0) (daCons (dOp gIx (dTup (daCons (dC (.int 9000)) (daCons (dC (.int 1400)) (daCons (dC (.int 175)) (daCons (dC (.int 62)) (daCons (dC (.int 36)) (daCons (dC (.int 26)) (daCons (dC (.int 20)) (daCons (dC (.int 18)) daNil))))))))) (dOp gSub (dV 1) (dC (.int 1)))) daNil)))) (dgN 4)) (dRet (dCall gMax (daCons (dC (.int 0)) (daCons (dCall gMin (daCons (dOp gPow (dC (.int 10)) (dC (.int 6))) (daCons (dOp gSub (dOp gAdd (dCall C (daCons (dV 4) (daCons (dV 1) daNil))) (dCall T (daCons (dV 0) (daCons (dC (.int 3)) daNil)))) (dC (.int 1))) daNil))) daNil)))))))) [.ref r, .int d] S = some (x, S3) := by
  have e : decide ((1 : Int) = 0) = false := rfl
  have e1 : decide ((1 : Int) = 1) = true := rfl
  have e2 : decide (1 < d) = true := decide_eq_true hd
  have e3 : okPow 10 6 = true := rfl
  have e4 : (10 : Int) ^ Int.toNat 6 = 1000000 := rfl
  have e5 : (1000000 : Int) + 1 = 1000001 := rfl
  have e6 : (1000000 : Int) - 1 = 999999 := rfl
  simp only [run, start0, dSeq, dIfS, dtOr, dtAnd, dtNot, dB, dOp, dUn, dV, dC, dTup, dLst, daNil, daCons, dChain, dAnd, dOr, dNot, dIf, dCall, dNil, dBk, dCt, dDrop, dRet, dRetN, dgN, dgsNil, dgsCons, dgT, dAsg, dPar, dPar3, dAug, dYes, dMt, doNone, doSome, gI, gNeg, gIx, gIs, gIsNot, isN, diSeq, diR1, diR2, diR3, List.map_cons, List.map_nil, List.length_cons, List.length_nil, List.replicate_succ, List.replicate_zero, List.cons_append, List.nil_append, List.append_nil, List.set_cons_zero, List.set_cons_succ, List.getElem?_cons_zero, List.getElem?_cons_succ, if_true, ite_true, Nat.reduceSub, Nat.reduceAdd, decide_true, decide_false, Bool.true_and, Bool.and_true, Bool.false_eq_true, if_false, ite_false, sz_0, sz_1, sz_2, sz_3, sz_4, sz_5, sz_6, sz_7, sz_8, sz_9, sz_10, sz_11, sz_12, sz_13, sz_14, sz_15, sz_16, sz_17, sz_18, sz_19, sz_20, sz_21, sz_22, sz_23, sz_24, h1, gEq_int, e, e1, e2, e3, e4, gAdd, e5, h2, e6, h3]
theorem num1' {v far : Int} {x : D} (hd : ¬ 1 < d) (h1 : T [.ref r, .int 4] S = some (.int 1, S1)) (h0 : O [.ref r, .tup [.int 1000000, .int 5000, .int 5000, .int 5000]] S1 = some (.int far, S2))
    (h2 : T [.ref r, .int (far + 1)] S2 = some (.int v, S3)) (h3 : O [.ref r, .tup [.int 0, .int 1, .int far, .int (far - 1), .int v]] S3 = some (x, S4)) :
    run 5 (dSeq (dAsg (dCall T (daCons (dV 0) (daCons (dC (.int 4)) daNil))) (dgN 2)) (dSeq (dIfS (dB (dOp gEq (dV 2) (dC (.int 0)))) (dRet (dCall T (daCons (dV 0) (daCons (dC (.int 40)) daNil)))) dNil) (dSeq (dIfS (dB (dOp gEq (dV 2) (dC (.int 1)))) (dSeq (dAsg (dIf (dB (dOp gGt (dV 1) (dC (.int 1)))) (dOp gPow (dC (.int 10)) (dC (.int 6))) (dCall O (daCons (dV 0) (daCons (dTup (daCons (dOp gPow (dC (.int 10)) (dC (.int 6))) (daCons (dC (.int 5000)) (daCons (dC (.int 5000)) (daCons (dC (.int 5000)) daNil))))) daNil)))) (dgN 3)) (dRet (dCall O (daCons (dV 0) (daCons (dTup (daCons (dC (.int 0)) (daCons (dC (.int 1)) (daCons (dV 3) (daCons (dOp gSub (dV 3) (dC (.int 1))) (daCons (dCall T (daCons (dV 0) (daCons (dOp gAdd (dV 3) (dC (.int 1))) daNil))) daNil)))))) daNil))))) dNil) (dSeq (dAsg (dOp gAdd (dV 1) (dCall T (daCons (dV 0) (daCons (dOp gIx (dTup (daCons (dC (.int 9000)) (daCons (dC (.int 1400)) (daCons (dC (.int 175)) (daCons (dC (.int 62)) (daCons (dC (.int 36)) (daCons (dC (.int 26)) (daCons (dC (.int 20)) (daCons (dC (.int 18)) daNil))))))))) (dOp gSub (dV 1) (dC (.int 1)))) daNil)))) (dgN 4)) (dRet (dCall gMax (daCons (dC (.int 0)) (daCons (dCall gMin (daCons (dOp gPow (dC (.int 10)) (dC (.int 6))) (daCons (dOp gSub (dOp gAdd (dCall C (daCons (dV 4) (daCons (dV 1) daNil))) (dCall T (daCons (dV 0) (daCons (dC (.int 3)) daNil)))) (dC (.int 1))) daNil))) daNil)))))))) [.ref r, .int d] S = some (x, S4) := by
  have e : decide ((1 : Int) = 0) = false := rfl
  have e1 : decide ((1 : Int) = 1) = true := rfl
  have e2 : decide (1 < d) = false := decide_eq_false hd
  have e3 : okPow 10 6 = true := rfl
  have e4 : (10 : Int) ^ Int.toNat 6 = 1000000 := rfl
  simp only [run, start0, dSeq, dIfS, dtOr, dtAnd, dtNot, dB, dOp, dUn, dV, dC, dTup, dLst, daNil, daCons, dChain, dAnd, dOr, dNot, dIf, dCall, dNil, dBk, dCt, dDrop, dRet, dRetN, dgN, dgsNil, dgsCons, dgT, dAsg, dPar, dPar3, dAug, dYes, dMt, doNone, doSome, gI, gNeg, gIx, gIs, gIsNot, isN, diSeq, diR1, diR2, diR3, List.map_cons, List.map_nil, List.length_cons, List.length_nil, List.replicate_succ, List.replicate_zero, List.cons_append, List.nil_append, List.append_nil, List.set_cons_zero, List.set_cons_succ, List.getElem?_cons_zero, List.getElem?_cons_succ, if_true, ite_true, Nat.reduceSub, Nat.reduceAdd, decide_true, decide_false, Bool.true_and, Bool.and_true, Bool.false_eq_true, if_false, ite_false, sz_0, sz_1, sz_2, sz_3, sz_4, sz_5, sz_6, sz_7, sz_8, sz_9, sz_10, sz_11, sz_12, sz_13, sz_14, sz_15, sz_16, sz_17, sz_18, sz_19, sz_20, sz_21, sz_22, sz_23, sz_24, h1, gEq_int, e, e1, e2, e3, e4, h0, gAdd, h2, h3]
theorem num2 {w g b v few : Int} (hw0 : ¬ w = 0) (hw1 : ¬ w = 1) (h1 : T [.ref r, .int 4] S = some (.int w, S1))
    (hx : L2.atI [D.int 9000, .int 1400, .int 175, .int 62, .int 36, .int 26, .int 20, .int 18] (d - 1) = some (.int few)) (h2 : T [.ref r, .int few] S1 = some (.int g, S2))
    (h3 : C [.int (d + g), .int d] S2 = some (.int b, S2)) (h4 : T [.ref r, .int 3] S2 = some (.int v, S3)) :
    ∃ n : Int, 0 ≤ n ∧ n ≤ 1000000 ∧ run 5 (dSeq (dAsg (dCall T (daCons (dV 0) (daCons (dC (.int 4)) daNil))) (dgN 2)) (dSeq (dIfS (dB (dOp gEq (dV 2) (dC (.int 0)))) (dRet (dCall T (daCons (dV 0) (daCons (dC (.int 40)) daNil)))) dNil) (dSeq (dIfS (dB (dOp gEq (dV 2) (dC (.int 1)))) (dSeq (dAsg (dIf (dB (dOp gGt (dV 1) (dC (.int 1)))) (dOp gPow (dC (.int 10)) (dC (.int 6))) (dCall O (daCons (dV 0) (daCons (dTup (daCons (dOp gPow (dC (.int 10)) (dC (.int 6))) (daCons (dC (.int 5000)) (daCons (dC (.int 5000)) (daCons (dC (.int 5000)) daNil))))) daNil)))) (dgN 3)) (dRet (dCall O (daCons (dV 0) (daCons (dTup (daCons (dC (.int 0)) (daCons (dC (.int 1)) (daCons (dV 3) (daCons (dOp gSub (dV 3) (dC (.int 1))) (daCons (dCall T (daCons (dV 0) (daCons (dOp gAdd (dV 3) (dC (.int 1))) daNil))) daNil)))))) daNil))))) dNil) (dSeq (dAsg (dOp gAdd (dV 1) (dCall T (daCons (dV 0) (daCons (dOp gIx (dTup (daCons (dC (.int 9000)) (daCons (dC (.int 1400)) (daCons (dC (.int 175)) (daCons (dC (.int 62)) (daCons (dC (.int 36)) (daCons (dC (.int 26)) (daCons (dC (.int 20)) (daCons (dC (.int 18)) daNil))))))))) (dOp gSub (dV 1) (dC (.int 1)))) daNil)))) (dgN 4)) (dRet (dCall gMax (daCons (dC (.int 0)) (daCons (dCall gMin (daCons (dOp gPow (dC (.int 10)) (dC (.int 6))) (daCons (dOp gSub (dOp gAdd (dCall C (daCons (dV 4) (daCons (dV 1) daNil))) (dCall T (daCons (dV 0) (daCons (dC (.int 3)) daNil)))) (dC (.int 1))) daNil))) daNil)))))))) [.ref r, .int d] S = some (.int n, S3) := by
  have e : decide (w = 0) = false := decide_eq_false hw0
  have e1 : decide (w = 1) = false := decide_eq_false hw1
  have e3 : okPow 10 6 = true := rfl
  have e4 : (10 : Int) ^ Int.toNat 6 = 1000000 := rfl
  refine ⟨if (if b + v - 1 < 1000000 then b + v - 1 else 1000000) > 0 then (if b + v - 1 < 1000000 then b + v - 1 else 1000000) else 0, by split <;> omega, by split <;> (try split) <;> omega, ?_⟩
  simp only [run, start0, dSeq, dIfS, dtOr, dtAnd, dtNot, dB, dOp, dUn, dV, dC, dTup, dLst, daNil, daCons, dChain, dAnd, dOr, dNot, dIf, dCall, dNil, dBk, dCt, dDrop, dRet, dRetN, dgN, dgsNil, dgsCons, dgT, dAsg, dPar, dPar3, dAug, dYes, dMt, doNone, doSome, gI, gNeg, gIx, gIs, gIsNot, isN, diSeq, diR1, diR2, diR3, List.map_cons, List.map_nil, List.length_cons, List.length_nil, List.replicate_succ, List.replicate_zero, List.cons_append, List.nil_append, List.append_nil, List.set_cons_zero, List.set_cons_succ, List.getElem?_cons_zero, List.getElem?_cons_succ, if_true, ite_true, Nat.reduceSub, Nat.reduceAdd, decide_true, decide_false, Bool.true_and, Bool.and_true, Bool.false_eq_true, if_false, ite_false, sz_0, sz_1, sz_2, sz_3, sz_4, sz_5, sz_6, sz_7, sz_8, sz_9, sz_10, sz_11, sz_12, sz_13, sz_14, sz_15, sz_16, sz_17, sz_18, sz_19, sz_20, sz_21, sz_22, sz_23, sz_24, h1, gEq_int, e, e1, items, hx, h2, gAdd, h3, h4, e3, e4, gMin, gMax]
end
/-- k10's drawn number -/
theorem m_number {S : Sto} {r m : Nat} {d : Int} (p : Pot S r m) (hd : 1 ≤ d) (hd8 : d ≤ 8) (hm : m < 2 ^ 39) : ∃ (n : Int) (S' : Sto) (m' : Nat), m_law_number [.ref r, .int d] S = some (.int n, S') ∧ 0 ≤ n ∧ n ≤ 1000000 ∧ Drew S r S' m' ∧ m' ≤ m + 4 := by
  obtain ⟨w, S1, h1, w1, w2, d1⟩ := take_w p 4 (by decide) (by decide) (by omega)
  by_cases hw0 : w = 0
  · subst hw0
    obtain ⟨v, S2, h2, v1, v2, d2⟩ := take_w d1.pot 40 (by decide) (by decide) (by omega)
    exact ⟨v, S2, _, num0 h1 h2, v1, by omega, d1.trans d2, by omega⟩
  · by_cases hw1 : w = 1
    · subst hw1
      by_cases hd1 : 1 < d
      · obtain ⟨v, S2, h2, v1, v2, d2⟩ := take_w d1.pot 1000001 (by decide) (by decide) (by omega)
        obtain ⟨x, S3, h3, x1, d3⟩ := of_w d2.pot [.int 0, .int 1, .int 1000000, .int 999999, .int v] (by simp) (by simp) (by omega)
        have : ∃ n : Int, x = .int n ∧ 0 ≤ n ∧ n ≤ 1000000 := by
          simp only [List.mem_cons, List.not_mem_nil, or_false] at x1
          rcases x1 with rfl | rfl | rfl | rfl | rfl <;> exact ⟨_, rfl, by omega, by omega⟩
        obtain ⟨n, rfl, n1, n2⟩ := this
        exact ⟨n, S3, _, num1 hd1 h1 h2 h3, n1, n2, (d1.trans d2).trans d3, by omega⟩
      · obtain ⟨x0, S2, h0, x0m, d2⟩ := of_w d1.pot [.int 1000000, .int 5000, .int 5000, .int 5000] (by simp) (by simp) (by omega)
        have : ∃ far : Int, x0 = .int far ∧ 1 ≤ far ∧ far ≤ 1000000 := by
          simp only [List.mem_cons, List.not_mem_nil, or_false] at x0m
          rcases x0m with rfl | rfl | rfl | rfl <;> exact ⟨_, rfl, by omega, by omega⟩
        obtain ⟨far, rfl, f1, f2⟩ := this
        obtain ⟨v, S3, h2, v1, v2, d3⟩ := take_w d2.pot (far + 1) (by omega) (by omega) (by omega)
        obtain ⟨x, S4, h3, x1, d4⟩ := of_w d3.pot [.int 0, .int 1, .int far, .int (far - 1), .int v] (by simp) (by simp) (by omega)
        have : ∃ n : Int, x = .int n ∧ 0 ≤ n ∧ n ≤ 1000000 := by
          simp only [List.mem_cons, List.not_mem_nil, or_false] at x1
          rcases x1 with rfl | rfl | rfl | rfl | rfl <;> exact ⟨_, rfl, by omega, by omega⟩
        obtain ⟨n, rfl, n1, n2⟩ := this
        exact ⟨n, S4, _, num1' hd1 h1 h0 h2 h3, n1, n2, ((d1.trans d2).trans d3).trans d4, by omega⟩
    · obtain ⟨few, hx, f1, f2⟩ : ∃ few : Int, L2.atI [D.int 9000, .int 1400, .int 175, .int 62, .int 36, .int 26, .int 20, .int 18] (d - 1) = some (.int few) ∧ 0 < few ∧ few ≤ 9000 := by
        obtain ⟨e, rfl⟩ : ∃ e : Nat, d = e + 1 := ⟨(d - 1).toNat, by omega⟩
        have : (e : Int) + 1 - 1 = e := by omega
        rw [this]
        match e, hd8 with
        | 0, _ => exact ⟨_, rfl, by decide, by decide⟩
        | 1, _ => exact ⟨_, rfl, by decide, by decide⟩
        | 2, _ => exact ⟨_, rfl, by decide, by decide⟩
        | 3, _ => exact ⟨_, rfl, by decide, by decide⟩
        | 4, _ => exact ⟨_, rfl, by decide, by decide⟩
        | 5, _ => exact ⟨_, rfl, by decide, by decide⟩
        | 6, _ => exact ⟨_, rfl, by decide, by decide⟩
        | 7, _ => exact ⟨_, rfl, by decide, by decide⟩
        | e + 8, h => exact absurd h (by omega)
      obtain ⟨g, S2, h2, g1, g2, d2⟩ := take_w d1.pot few (by omega) (by omega) (by omega)
      obtain ⟨v, S3, h4, v1, v2, d3⟩ := take_w d2.pot 3 (by decide) (by decide) (by omega)
      obtain ⟨n, n1, n2, h⟩ := num2 hw0 hw1 h1 hx h2 (m_choose (by omega) (by omega) S2) h4
      exact ⟨n, S3, _, h, n1, n2, (d1.trans d2).trans d3, by omega⟩
end Ev

set_option maxHeartbeats 1000000
/-! KR: reprs that fit. -/
namespace Ev
open PySem PySem.Spec PyProof.Rows L2

mutual
/-- data whose repr is told: ints below 2 ^ 1920 bits, no dict -/
def okR : PyData → Bool
  | .none => true
  | .bool _ => true
  | .int i => decide (i.natAbs.log2 < 1920)
  | .str x => x.cps.toList.all fun c => decide (c < 16 ^ 8)
  | .list xs => okRs xs
  | .tuple xs => okRs xs
  | .dict _ => false
def okRs : List PyData → Bool
  | [] => true
  | x :: xs => okR x && okRs xs
end
mutual
/-- how long a repr is at most -/
def szR : PyData → Nat
  | .none => 4
  | .bool _ => 5
  | .int i => i.natAbs.log2 + 2
  | .str x => 10 * x.length + 2
  | .list xs => szRs xs + 3
  | .tuple xs => szRs xs + 3
  | .dict _ => 0
def szRs : List PyData → Nat
  | [] => 0
  | x :: xs => szR x + 2 + szRs xs
end
mutual
theorem okR_show : ∀ d : PyData, okR d = true → d.showable = true ∧ d.hasDict = false
  | .none, _ => ⟨by simp only [PyData.showable], by simp only [PyData.hasDict]⟩
  | .bool b, _ => ⟨by simp only [PyData.showable], by simp only [PyData.hasDict]⟩
  | .int i, h => ⟨by simpa only [PyData.showable, okR] using h, by simp only [PyData.hasDict]⟩
  | .str x, _ => ⟨by simp only [PyData.showable], by simp only [PyData.hasDict]⟩
  | .list xs, h => by
    have := okRs_show xs (by simpa only [okR] using h)
    exact ⟨by simpa only [PyData.showable] using this.1, by simpa only [PyData.hasDict] using this.2⟩
  | .tuple xs, h => by
    have := okRs_show xs (by simpa only [okR] using h)
    exact ⟨by simpa only [PyData.showable] using this.1, by simpa only [PyData.hasDict] using this.2⟩
  | .dict _, h => by simp only [okR, Bool.false_eq_true] at h
theorem okRs_show : ∀ xs : List PyData, okRs xs = true → PyData.showableAll xs = true ∧ PyData.hasDictAll xs = false
  | [], _ => ⟨by simp only [PyData.showableAll], by simp only [PyData.hasDictAll]⟩
  | x :: xs, h => by
    rw [okRs, Bool.and_eq_true] at h
    have h1 := okR_show x h.1
    have h2 := okRs_show xs h.2
    exact ⟨by rw [PyData.showableAll, h1.1, h2.1]; rfl, by rw [PyData.hasDictAll, h1.2, h2.2]; rfl⟩
end
mutual
theorem shown_sz : ∀ d : PyData, okR d = true → d.shown.length ≤ szR d
  | .none, _ => by
    have e : (PyData.shown .none).length = 4 := rfl
    rw [szR]; omega
  | .bool b, _ => by
    have e : (PyData.shown (.bool b)).length ≤ 5 := by cases b <;> decide
    rw [szR]; omega
  | .int i, h => by
    have e : (PyData.shown (.int i)).length ≤ (toString i).length := by
      show (Str.ofString (toString i)).length ≤ _
      rw [PySem.ofString_length]; exact Nat.le_refl _
    have := PySem.int_text_length_le (a := i) (k := i.natAbs.log2 + 1) (by omega) (by omega)
    rw [szR]; omega
  | .str x, h => by
    have hx : ∀ c ∈ x.cps.toList, c < 16 ^ 8 := by simpa only [okR, List.all_eq_true, decide_eq_true_eq] using h
    have e := StrLaws.reprText_len x hx
    simp only [PyData.shown, szR]
    exact e
  | .list xs, h => by
    have h1 := shownAll_sz xs (by simpa only [okR] using h)
    have h2 := listText_len_le (PyData.shownAll xs)
    have h3 := PyData.shownAll_length xs
    simp only [PyData.shown, szR]
    omega
  | .tuple xs, h => by
    have h1 := shownAll_sz xs (by simpa only [okR] using h)
    have h2 := tupleText_len_le (PyData.shownAll xs)
    have h3 := PyData.shownAll_length xs
    simp only [PyData.shown, szR]
    omega
  | .dict _, h => by simp only [okR, Bool.false_eq_true] at h
theorem shownAll_sz : ∀ xs : List PyData, okRs xs = true → ((PyData.shownAll xs).map (·.length)).sum + 2 * xs.length ≤ szRs xs
  | [], _ => by simp only [PyData.shownAll, szRs, List.map_nil, List.sum_nil, List.length_nil]; omega
  | x :: xs, h => by
    rw [okRs, Bool.and_eq_true] at h
    have h1 := shown_sz x h.1
    have h2 := shownAll_sz xs h.2
    simp only [PyData.shownAll, szRs, List.map_cons, List.sum_cons, List.length_cons]
    omega
end
theorem pys_depth {f : D → Option PyData} {n : Nat} (hf : ∀ (d : D) (p : PyData), f d = some p → p.depth ≤ n) : ∀ (ds : List D) (ps : List PyData), pys f ds = some ps → PyData.depthAll ps ≤ n
  | [], _, h => by cases h; simp only [PyData.depthAll]; omega
  | d :: ds, ps, h => by
    unfold pys at h
    split at h
    · rename_i e he
      split at h
      · rename_i es hes
        cases h
        have := hf d e he
        have := pys_depth hf ds es hes
        simp only [PyData.depthAll]
        omega
      · cases h
    · cases h
theorem py_depth : ∀ (n : Nat) (S : Sto) (d : D) (p : PyData), py n S d = some p → p.depth ≤ n := by
  intro n
  induction n with
  | zero => intro S d p h; cases h
  | succ n ih =>
    intro S d p h
    have key : ∀ (ds : List D) (ps : List PyData), pys (py n S) ds = some ps → PyData.depthAll ps ≤ n := pys_depth (ih S)
    unfold py at h
    split at h
    · cases h; simp only [PyData.depth]; omega
    · cases h; simp only [PyData.depth]; omega
    · cases h; simp only [PyData.depth]; omega
    · cases h; simp only [PyData.depth]; omega
    · split at h
      · rename_i es he
        cases h
        have := key _ _ he
        simp only [PyData.depth]; omega
      · cases h
    · split at h
      · rename_i es he
        cases h
        have := key _ _ he
        simp only [PyData.depth]; omega
      · cases h
    · split at h
      · split at h
        · rename_i es he
          cases h
          have := key _ _ he
          simp only [PyData.depth]; omega
        · cases h
      · cases h
    · cases h
/-- a repr that fits -/
theorem repr_of {S : Sto} {d : D} {ds : List D} {p : PyData} (hi : items S d = some ds) (hp : py 40 S d = some p) (ok : okR p = true) (hz : szR p ≤ 16777216) : gRepr [d] S = some (.str p.shown, S) := by
  have h1 := okR_show p ok
  have h2 := shown_sz p ok
  have h3 := py_depth 40 S d p hp
  have h4 : (16777216 : Nat) ≤ sizeLine := by decide
  have key : p.showable = true ∧ p.hasDict = false ∧ p.depth ≤ 60 ∧ p.shown.length ≤ sizeLine := ⟨h1.1, h1.2, by omega, by omega⟩
  unfold gRepr
  simp only [hi, hp, key, and_self, if_true]
end Ev

set_option maxHeartbeats 1000000
/-! KS: reprs of lists of two alike; k10's turn. -/
namespace Ev
open PySem PySem.Spec PyProof.Rows L2

theorem pys_map {α : Type} {f : D → Option PyData} {g : α → D} {h : α → PyData} (hf : ∀ x, f (g x) = some (h x)) : ∀ xs : List α, pys f (xs.map g) = some (xs.map h)
  | [] => rfl
  | x :: xs => by
    simp only [List.map_cons, pys, hf x, pys_map hf xs]
theorem py_int (n : Nat) (S : Sto) (i : Int) : py (n + 1) S (.int i) = some (.int i) := rfl
theorem py_tup {n : Nat} {S : Sto} {ds : List D} {es : List PyData} (h : pys (py n S) ds = some es) : py (n + 1) S (.tup ds) = some (.tuple es) := by
  unfold py
  simp only [h]
theorem py_ref {n : Nat} {S : Sto} {i : Nat} {ds : List D} {es : List PyData} (hS : S[i]? = some (.lst ds)) (h : pys (py n S) ds = some es) : py (n + 1) S (.ref i) = some (.list es) := by
  unfold py
  simp only [hS, h]
theorem py_nats (n : Nat) (S : Sto) (gs : List Nat) : py (n + 2) S (.tup (gs.map fun g => .int (g : Nat))) = some (.tuple (gs.map fun g => .int (g : Nat))) :=
  py_tup (pys_map (fun g => py_int n S _) gs)
theorem okRs_nats : ∀ gs : List Nat, (∀ g ∈ gs, g < 2 ^ 60) → okRs (gs.map fun g => .int (g : Nat)) = true ∧ szRs (gs.map fun g => .int (g : Nat)) ≤ 70 * gs.length
  | [], _ => ⟨by simp only [List.map_nil, okRs], by simp only [List.map_nil, szRs]; omega⟩
  | g :: gs, h => by
    have ih := okRs_nats gs fun x hx => h x (List.mem_cons_of_mem _ hx)
    have hg : g.log2 < 60 := log2_lt' (h g List.mem_cons_self) (by decide)
    have e : ((g : Nat) : Int).natAbs = g := Int.natAbs_natCast g
    refine ⟨?_, ?_⟩
    · rw [List.map_cons, okRs, ih.1, okR, e, Bool.and_true]
      exact decide_eq_true (by omega)
    · rw [List.map_cons, szRs, szR, e, List.length_cons]
      omega
/-- a list of two alike -/
theorem repr_two {S : Sto} {i : Nat} {x y : D} {p : PyData} (hS : S[i]? = some (.lst [x, y])) (hx : py 39 S x = some p) (hy : py 39 S y = some p) (ok : okR p = true) (hz : szR p ≤ 1000000) : gRepr [.ref i] S = some (.str (PyData.list [p, p]).shown, S) := by
  refine repr_of (items_ref hS) (py_ref (n := 39) (es := [p, p]) hS (by simp only [pys, hx, hy])) ?_ ?_
  · rw [okR, okRs, okRs, okRs, ok]; rfl
  · rw [szR, szRs, szRs, szRs]; omega
/-- the store goes on: all that was is -/
def Pre (S S' : Sto) : Prop := ∃ T, S' = S ++ T
theorem Pre.refl (S : Sto) : Pre S S := ⟨[], (List.append_nil S).symm⟩
theorem Pre.trans {S S1 S2 : Sto} (a : Pre S S1) (b : Pre S1 S2) : Pre S S2 := by
  obtain ⟨T, rfl⟩ := a
  obtain ⟨T', rfl⟩ := b
  exact ⟨T ++ T', List.append_assoc ..⟩
theorem Pre.get {S S' : Sto} {i : Nat} {o : O} (a : Pre S S') (h : S[i]? = some o) : S'[i]? = some o := by
  obtain ⟨T, rfl⟩ := a
  rw [List.getElem?_append_left (List.getElem?_eq_some_iff.mp h).1]
  exact h
theorem Pre.one (S : Sto) (o : O) : Pre S (S ++ [o]) := ⟨[o], rfl⟩
/-- two empty lists are alike -/
theorem ne_nil {S : Sto} {i j : Nat} (hi : S[i]? = some (.lst [])) (hj : S[j]? = some (.lst [])) : gNe (.ref i) (.ref j) S = some (.bl false, S) := by
  have h1 : py 40 S (.ref i) = some (.list []) := py_ref (n := 39) hi rfl
  have h2 : py 40 S (.ref j) = some (.list []) := py_ref (n := 39) hj rfl
  have h3 : scalD (.ref i) (.ref j) = none := rfl
  have h4 : (SeqAt.shaped (.list []) && SeqAt.shaped (.list [])) = true := by decide
  have h5 : PyData.eqv (.list []) (.list []) = true := by decide +kernel
  unfold gNe
  simp only [h1, h2, h3, h4, if_true, h5, Bool.not_true]
end Ev

set_option maxHeartbeats 1000000
/-! EvS: loops and comprehensions, by what is wanted behind them. -/
namespace Ev
open PySem PySem.Spec PyProof.Rows L2

theorem perm1 {α : Type} (x : α) : perm [0] [x] = [x] := rfl
theorem perm2 {α : Type} (x y : α) : perm [1, 0] [x, y] = [y, x] := rfl
theorem Pre.len {S S' : Sto} (a : Pre S S') : S.length ≤ S'.length := by
  obtain ⟨T, rfl⟩ := a
  rw [List.length_append]; omega
theorem Pre.set {S S' : Sto} (a : Pre S S') {k : Nat} (h : S.length ≤ k) (x : O) : Pre S (S'.set k x) := by
  obtain ⟨T, rfl⟩ := a
  exact ⟨T.set (k - S.length) x, List.set_append_right _ _ h⟩
theorem Pre.app {S S' : Sto} (a : Pre S S') (x : O) : Pre S (S' ++ [x]) := a.trans (Pre.one _ _)
def Lc (src : Src) (S1 : Sto) (g : DG) (t : DT) (f : DE) (ρ0 : Rho) (Q : D → Sto → Prop) : Prop :=
  ∃ S2, lcLoop S1.length src g t f ρ0 (src.size S1 + 1) 0 (S1 ++ [.lst []]) = some S2 ∧ Q (.ref S1.length) S2
theorem te_lc {it : DI} {g : DG} {t : DT} {f : DE} {vs : List Nat} {ρ : Rho} {S : Sto} {Q : D → Sto → Prop} : Te (dLc it g t f vs ρ S) Q = Te (it ρ S) fun src S1 => Lc src S1 g t f (wipeR ρ vs) Q := by
  unfold dLc
  cases h : it ρ S with
  | none => simp only [te_none]
  | some p =>
    obtain ⟨src, S1⟩ := p
    simp only [te_some]
    unfold Lc
    cases h2 : lcLoop S1.length src g t f (wipeR ρ vs) (src.size S1 + 1) 0 (S1 ++ [.lst []]) with
    | none =>
      simp only [te_none]
      exact propext ⟨fun q => q.elim, fun ⟨S2, q, _⟩ => nomatch q⟩
    | some S2 =>
      simp only [te_some]
      exact propext ⟨fun q => ⟨S2, rfl, q⟩, fun ⟨S3, e, q⟩ => by cases e; exact q⟩
/-- a comprehension over items that don't change; y: what is taken of each, none: it isn't -/
theorem lc_opt {src : Src} {S1 : Sto} {g : DG} {t : DT} {f : DE} {ρ0 : Rho} {Q : D → Sto → Prop} {ds : List D} {y : Nat → Option D} (hsz : src.size S1 = ds.length) (hsrc : ∀ S' i, Pre S1 S' → src.item S' i = some ds[i]?) (hl : ds.length ≤ sizeLine)
    (h : ∀ (i : Nat) (d : D), ds[i]? = some d → ∀ S', Pre S1 S' → Te (g d ρ0 S') fun ρ1 S2 => Te (t ρ1 S2) fun b S3 => (b = true → Te (f ρ1 S3) fun v S4 => y i = some v ∧ Pre S' S4) ∧ (b = false → y i = none ∧ Pre S' S3))
    (q : ∀ S', Pre S1 S' → S'[S1.length]? = some (.lst ((List.range ds.length).filterMap y)) → Q (.ref S1.length) S') : Lc src S1 g t f ρ0 Q := by
  obtain ⟨acc, S', h1, h2, h3, h4⟩ := lc_inv (src := src) (g := g) (t := t) (f := f) (ρ := ρ0) (k0 := S1.length) ds.length
    (fun i acc S' => acc = (List.range i).filterMap y ∧ S'[S1.length]? = some (.lst acc) ∧ Pre S1 S')
    (fun i acc S' hI => hI.2.1)
    (fun i acc S' hi hI => by
      obtain ⟨e1, e2, e3⟩ := hI
      have hd : ds[i]? = some ds[i] := List.getElem?_eq_getElem hi
      refine ⟨ds[i], by rw [hsrc _ _ e3, hd], ?_⟩
      obtain ⟨ρ1, S2, a1, b, S3, a2, a3, a4⟩ := h i ds[i] hd S' e3
      refine ⟨ρ1, S2, a1, ?_⟩
      cases b with
      | false =>
        obtain ⟨b1, b2⟩ := a4 rfl
        refine .inl ⟨S3, a2, ?_, b2.get e2, e3.trans b2⟩
        rw [List.range_succ, List.filterMap_append, e1]
        simp [b1]
      | true =>
        obtain ⟨v, S4, b1, b2, b3⟩ := a3 rfl
        have hz : acc.length < sizeLine := by
          have : acc.length ≤ i := by rw [e1]; exact Nat.le_trans (List.length_filterMap_le _ _) (by simp)
          omega
        refine .inr ⟨S3, v, S4, a2, b1, b3.get e2, hz, ?_, ?_, ?_⟩
        · rw [List.range_succ, List.filterMap_append, e1]
          simp [b2]
        · exact set_get (Nat.lt_of_lt_of_le (List.getElem?_eq_some_iff.mp e2).1 b3.len) _
        · exact (e3.trans b3).set (Nat.le_refl _) _)
    (fun acc S' hI => by rw [hsrc _ _ hI.2.2, List.getElem?_eq_none (Nat.le_refl _)])
    (ds.length + 1) 0 [] (S1 ++ [.lst []]) rfl (Nat.zero_le _) ⟨rfl, get_last _, Pre.one _ _⟩
  refine ⟨S', ?_, q S' h4 (by rw [h3, h2])⟩
  rw [hsz]
  exact h1
theorem filterMap_some {α β : Type} (y : α → β) (xs : List α) : xs.filterMap (fun i => some (y i)) = xs.map y := by
  induction xs with
  | nil => rfl
  | cons x xs ih => simp
theorem lc_rng {lo c : Int} {n : Nat} {S1 : Sto} {g : DG} {t : DT} {f : DE} {ρ0 : Rho} {Q : D → Sto → Prop} (y : Nat → D) (hn : n ≤ 1000)
    (h : ∀ i, i < n → ∀ S', Pre S1 S' → Te (g (.int (lo + (i : Int) * c)) ρ0 S') fun ρ1 S2 => Te (t ρ1 S2) fun b S3 => b = true ∧ Te (f ρ1 S3) fun v S4 => v = y i ∧ Pre S' S4)
    (q : ∀ S', Pre S1 S' → S'[S1.length]? = some (.lst ((List.range n).map y)) → Q (.ref S1.length) S') : Lc (.fix (rngs lo c n)) S1 g t f ρ0 Q := by
  refine lc_opt (ds := rngs lo c n) (y := fun i => some (y i)) rfl (fun _ _ _ => rfl) (by rw [rngs_len]; exact Nat.le_trans hn (by decide)) (fun i d hd S' p => ?_) (fun S' p e => ?_)
  · rw [rngs_get] at hd
    split at hd
    · rename_i hi
      cases hd
      refine (h i hi S' p).imp fun ρ1 S2 h1 => h1.imp fun b S3 h2 => ?_
      obtain ⟨rfl, h3⟩ := h2
      exact ⟨fun _ => h3.imp fun v S4 h4 => ⟨by rw [h4.1], h4.2⟩, fun z => nomatch z⟩
    · cases hd
  · rw [rngs_len, filterMap_some] at e
    exact q S' p e
/-- the items of a list of the store, of a tuple -/
theorem lc_seq {src : Src} {S1 : Sto} {g : DG} {t : DT} {f : DE} {ρ0 : Rho} {Q : D → Sto → Prop} {ds : List D} (ys : List D) (hsrc : src = .fix ds ∨ ∃ j, src = .lst j ∧ S1[j]? = some (.lst ds)) (hl : ds.length ≤ 100000)
    (h : ∀ (i : Nat) (d : D), ds[i]? = some d → ∀ S', Pre S1 S' → Te (g d ρ0 S') fun ρ1 S2 => Te (t ρ1 S2) fun b S3 => b = true ∧ Te (f ρ1 S3) fun v S4 => ys[i]? = some v ∧ Pre S' S4) (hys : ys.length = ds.length)
    (q : ∀ S', Pre S1 S' → S'[S1.length]? = some (.lst ys) → Q (.ref S1.length) S') : Lc src S1 g t f ρ0 Q := by
  have e1 : src.size S1 = ds.length := by
    rcases hsrc with rfl | ⟨j, rfl, hj⟩
    · rfl
    · simp only [Src.size, hj]
  have e2 : ∀ S' i, Pre S1 S' → src.item S' i = some ds[i]? := fun S' i p => by
    rcases hsrc with rfl | ⟨j, rfl, hj⟩
    · rfl
    · simp only [Src.item, p.get hj]
  refine lc_opt (ds := ds) (y := fun i => ys[i]?) e1 e2 (Nat.le_trans hl (by decide)) (fun i d hd S' p => ?_) (fun S' p e => ?_)
  · refine (h i d hd S' p).imp fun ρ1 S2 h1 => h1.imp fun b S3 h2 => ?_
    obtain ⟨rfl, h3⟩ := h2
    exact ⟨fun _ => h3.imp fun v S4 h4 => ⟨h4.1, h4.2⟩, fun z => nomatch z⟩
  · refine q S' p ?_
    rw [e, ← hys]
    congr 2
    apply List.ext_getElem?
    intro i
    have : ∀ (n : Nat), n ≤ ys.length → (List.range n).filterMap (fun i => ys[i]?) = ys.take n := by
      intro n
      induction n with
      | zero => intro _; simp
      | succ n ih =>
        intro hn
        rw [List.range_succ, List.filterMap_append, ih (by omega), List.take_add_one]
        have : ys[n]? = some ys[n] := List.getElem?_eq_getElem (by omega)
        simp [this]
    rw [this _ (Nat.le_refl _), List.take_length]
/-- a tuple, or a list of the store -/
def Sq (S : Sto) (x : D) (ds : List D) : Prop := x = .tup ds ∨ ∃ i, x = .ref i ∧ S[i]? = some (.lst ds)
theorem Sq.tup {S : Sto} {ds : List D} : Sq S (.tup ds) ds := .inl rfl
theorem Sq.ref {S : Sto} {i : Nat} {ds : List D} (h : S[i]? = some (.lst ds)) : Sq S (.ref i) ds := .inr ⟨i, rfl, h⟩
theorem Sq.mono {S S' : Sto} {x : D} {ds : List D} (h : Sq S x ds) (p : Pre S S') : Sq S' x ds := by
  rcases h with rfl | ⟨i, rfl, hi⟩
  · exact .inl rfl
  · exact .inr ⟨i, rfl, p.get hi⟩
theorem Sq.items {S : Sto} {x : D} {ds : List D} (h : Sq S x ds) : items S x = some ds := by
  rcases h with rfl | ⟨i, rfl, hi⟩
  · rfl
  · exact items_ref hi
theorem te_tupS {S : Sto} {x : D} {ds : List D} {Q : D → Sto → Prop} (h : Sq S x ds) (q : Q (.tup ds) S) : Te (gTuple [x] S) Q := by
  rcases h with rfl | ⟨i, rfl, hi⟩
  · exact Te.of rfl q
  · exact te_tupL hi q
theorem te_lenS {S : Sto} {x : D} {ds : List D} {Q : D → Sto → Prop} (h : Sq S x ds) (q : Q (.int (ds.length : Nat)) S) : Te (gLen [x] S) Q := by
  rcases h with rfl | ⟨i, rfl, hi⟩
  · exact Te.of rfl q
  · rw [te_lenL hi]; exact q
theorem te_ixS {S : Sto} {x : D} {ds : List D} {k : Nat} {d : D} {Q : D → Sto → Prop} (h : Sq S x ds) (hk : ds[k]? = some d) (q : Q d S) : Te (gIx x (.int k) S) Q := te_ix h.items (atI_nn hk) q
theorem te_mulL {i : Nat} {k : Int} {ds : List D} {S : Sto} {Q : D → Sto → Prop} (hi : S[i]? = some (.lst ds)) : Te (gMul (.ref i) (.int k) S) Q = ((in62 k && decide (ds.length * k.toNat ≤ sizeLine)) = true ∧ Q (.ref S.length) (S ++ [.lst (List.replicate k.toNat ds).flatten])) := by
  unfold gMul
  simp only [hi]
  exact te_ite
theorem te_allL {i : Nat} {bs : List Bool} {S : Sto} {Q : D → Sto → Prop} (h : S[i]? = some (.lst (bs.map .bl))) (q : Q (.bl (bs.all id)) S) : Te (gAll [.ref i] S) Q := by
  unfold gAll lstOf
  simp only [h, bools_map, te_some]
  exact q
/-! slices -/
def sl (x : D) (l h : Option Int) (S : Sto) : Option (D × Sto) := match x with
  | .tup ds => some (.tup (cutD ds l h), S)
  | .fzl ds => some (.ref S.length, S ++ [.lst (cutD ds l h)])
  | .ref i => match S[i]? with
    | some (.lst ds) => some (.ref S.length, S ++ [.lst (cutD ds l h)])
    | _ => none
  | _ => none
theorem te_sl {f : DE} {lo hi : DO} {ρ : Rho} {S : Sto} {Q : D → Sto → Prop} : Te (dSl f lo hi ρ S) Q = Te (f ρ S) fun x S1 => Te (lo ρ S1) fun l S2 => Te (hi ρ S2) fun h S3 => Te (sl x l h S3) Q := by
  unfold dSl
  cases h1 : f ρ S with
  | none => simp only [te_none]
  | some p =>
    obtain ⟨x, S1⟩ := p
    simp only [te_some]
    cases h2 : lo ρ S1 with
    | none => simp only [te_none]
    | some p =>
      obtain ⟨l, S2⟩ := p
      simp only [te_some]
      cases h3 : hi ρ S2 with
      | none => simp only [te_none]
      | some p =>
        obtain ⟨h, S3⟩ := p
        simp only [te_some]
        cases x <;> rfl
theorem te_slT {ds : List D} {l h : Option Int} {S : Sto} {Q : D → Sto → Prop} : Te (sl (.tup ds) l h S) Q = Q (.tup (cutD ds l h)) S := te_some
theorem te_slF {ds : List D} {l h : Option Int} {S : Sto} {Q : D → Sto → Prop} : Te (sl (.fzl ds) l h S) Q = Q (.ref S.length) (S ++ [.lst (cutD ds l h)]) := te_some
theorem te_slL {i : Nat} {ds : List D} {l h : Option Int} {S : Sto} {Q : D → Sto → Prop} (hi : S[i]? = some (.lst ds)) : Te (sl (.ref i) l h S) Q = Q (.ref S.length) (S ++ [.lst (cutD ds l h)]) := by
  unfold sl
  simp only [hi, te_some]
theorem cut_take (ds : List D) (k : Nat) : cutD ds none (some (k : Int)) = ds.take k := by
  unfold cutD
  rw [HT.sIx_none, HT.sIx_nat, List.drop_zero, Nat.sub_zero]
  by_cases h : k ≤ ds.length
  · rw [Nat.min_eq_left h]
  · have h2 : ds.length ≤ k := by omega
    rw [Nat.min_eq_right h2, List.take_length, List.take_of_length_le h2]
theorem cut_drop (ds : List D) (k : Nat) : cutD ds (some (k : Int)) none = ds.drop k := by
  unfold cutD
  rw [HT.sIx_none, HT.sIx_nat]
  by_cases h : k ≤ ds.length
  · rw [Nat.min_eq_left h, ← List.length_drop, List.take_length]
  · have h2 : ds.length ≤ k := by omega
    rw [Nat.min_eq_right h2, List.drop_length, List.drop_eq_nil_of_le h2]
    simp
theorem rng0 (i : Nat) : (0 : Int) + (i : Int) * 1 = (i : Int) := by omega
theorem rng1 (i : Nat) : (1 : Int) + (i : Int) * 1 = ((i + 1 : Nat) : Int) := by omega
theorem rng2 (i : Nat) : (2 : Int) + (i : Int) * 1 = ((i + 2 : Nat) : Int) := by omega
theorem in_nat {n : Nat} (h : n < 2 ^ 61) : in62 (n : Int) = true := by
  unfold in62
  rw [decide_eq_true (show -(2 ^ 62) ≤ (n : Int) by omega), decide_eq_true (show (n : Int) < 2 ^ 62 by omega)]
  rfl
theorem in_succ {n : Nat} (h : n < 2 ^ 60) : in62 ((n : Int) + 1) = true := in_nat (n := n + 1) (by omega)
theorem sub_nat {a b : Nat} (h : b ≤ a) : (a : Int) - (b : Int) = ((a - b : Nat) : Int) := by omega
theorem min_nat (a b : Nat) : (if (b : Int) < (a : Int) then (b : Int) else (a : Int)) = ((min a b : Nat) : Int) := by
  by_cases h : b < a
  · rw [if_pos (by omega)]; omega
  · rw [if_neg (by omega)]; omega
theorem add_nat (a b : Nat) : (a : Int) + (b : Int) = ((a + b : Nat) : Int) := rfl
theorem a1_nat (n : Nat) : ((n : Int) + 1 - 1).toNat = n := by omega
theorem a12_nat (n : Nat) : ((n : Int) + 1 - 2).toNat = n - 1 := by omega
theorem pred_nat (n : Nat) : ((n + 1 : Nat) : Int) - 1 = (n : Int) := by omega
theorem in_1s {n : Nat} (h : n < 2 ^ 60) : (in62 1 && in62 ((n : Int) + 1)) = true := by rw [in_succ h]; rfl
theorem succ_nat (a : Nat) : (a : Int) + 1 = ((a + 1 : Nat) : Int) := rfl
def en (ds : List D) (Q : Src → Sto → Prop) (S : Sto) : Prop := match ds with
  | [.tup ds] => Q (.enum (.fix ds)) S
  | [.fzl ds] => Q (.enum (.fix ds)) S
  | [.ref j] => Q (.enum (.lst j)) S
  | _ => False
theorem en_T {ds : List D} {Q : Src → Sto → Prop} {S : Sto} : en [.tup ds] Q S = Q (.enum (.fix ds)) S := rfl
theorem en_L {i : Nat} {Q : Src → Sto → Prop} {S : Sto} : en [.ref i] Q S = Q (.enum (.lst i)) S := rfl
theorem te_enum {a : DA} {ρ : Rho} {S : Sto} {Q : Src → Sto → Prop} : Te (diEnumerate a ρ S) Q = Te (a ρ S) fun ds S1 => en ds Q S1 := by
  unfold diEnumerate
  cases h1 : a ρ S with
  | none => simp only [te_none]
  | some p =>
    obtain ⟨x, S1⟩ := p
    simp only [te_some]
    unfold en
    match x with
    | [] => simp only [te_none]
    | [x] => cases x <;> simp only [srcL, te_none, te_some]
    | _ :: _ :: _ => simp only [te_none]
theorem te_isiT {ds : List D} {S : Sto} : gIsi [.tup ds, .ty "tuple"] S = some (.bl true, S) := rfl
theorem div2_ok (x : Int) : okDiv x 2 = true := rfl
theorem div2_nat (d : Nat) : ((d : Int)).fdiv 2 = ((d / 2 : Nat) : Int) := by
  rw [Int.fdiv_eq_ediv_of_nonneg _ (by decide)]; omega
def Fr (src : Src) (S1 : Sto) (g : DG) (b : DS) (ρ : Rho) (Q : Out → Prop) : Prop := ∃ o, loop src g b (src.size S1 + 1) 0 ρ S1 = some o ∧ Q o
theorem ts_for {it : DI} {g : DG} {b : DS} {ρ : Rho} {S : Sto} {Q : Out → Prop} : Ts (dFor it g b ρ S) Q = Te (it ρ S) fun src S1 => Fr src S1 g b ρ Q := by
  unfold dFor
  cases h : it ρ S with
  | none => simp only [te_none, ts_none]
  | some p =>
    obtain ⟨src, S1⟩ := p
    simp only [te_some]
    rfl
theorem fr_fix {ds : List D} {S1 : Sto} {g : DG} {b : DS} {ρ : Rho} {Q : Out → Prop} (I : Nat → Rho → Sto → Prop) (h0 : I 0 ρ S1)
    (step : ∀ (i : Nat) (d : D) (ρ : Rho) (S : Sto), ds[i]? = some d → I i ρ S → Te (g d ρ S) fun ρ1 S2 => Ts (b ρ1 S2) (Turn (I (i + 1)) Q)) (last : ∀ ρ S, I ds.length ρ S → Q (.nx ρ S)) : Fr (.fix ds) S1 g b ρ Q := by
  obtain ⟨o, h1, h2⟩ := loop_inv (src := .fix ds) (g := g) (b := b) ds.length I Q (fun i ρ S hi hI => ⟨ds[i], by show some ds[i]? = _; rw [List.getElem?_eq_getElem hi], step i _ ρ S (List.getElem?_eq_getElem hi) hI⟩)
    (fun ρ S hI => ⟨by show some ds[ds.length]? = _; rw [List.getElem?_eq_none (Nat.le_refl _)], last ρ S hI⟩) (ds.length + 1) 0 ρ S1 rfl (Nat.zero_le _) h0
  exact ⟨o, h1, h2⟩
theorem fr_enumT {ds : List D} {S1 : Sto} {g : DG} {b : DS} {ρ : Rho} {Q : Out → Prop} (I : Nat → Rho → Sto → Prop) (h0 : I 0 ρ S1)
    (step : ∀ (i : Nat) (d : D) (ρ : Rho) (S : Sto), ds[i]? = some d → I i ρ S → Te (g (.tup [.int i, d]) ρ S) fun ρ1 S2 => Ts (b ρ1 S2) (Turn (I (i + 1)) Q)) (last : ∀ ρ S, I ds.length ρ S → Q (.nx ρ S)) : Fr (.enum (.fix ds)) S1 g b ρ Q := by
  obtain ⟨o, h1, h2⟩ := loop_inv (src := .enum (.fix ds)) (g := g) (b := b) ds.length I Q (fun i ρ S hi hI => ⟨.tup [.int i, ds[i]], by simp only [Src.item, List.getElem?_eq_getElem hi], step i _ ρ S (List.getElem?_eq_getElem hi) hI⟩)
    (fun ρ S hI => ⟨by simp only [Src.item, List.getElem?_eq_none (Nat.le_refl _)], last ρ S hI⟩) (ds.length + 1) 0 ρ S1 rfl (Nat.zero_le _) h0
  exact ⟨o, h1, h2⟩
theorem te_mulT {ds : List D} {k : Int} {S : Sto} {Q : D → Sto → Prop} : Te (gMul (.tup ds) (.int k) S) Q = ((decide (-1000 ≤ k) && decide (k ≤ 1000) && decide (ds.length ≤ 1000)) = true ∧ Q (.tup (List.replicate k.toNat ds).flatten) S) := te_ite
theorem fr_rng {lo c : Int} {n : Nat} {S1 : Sto} {g : DG} {b : DS} {ρ : Rho} {Q : Out → Prop} (I : Nat → Rho → Sto → Prop) (h0 : I 0 ρ S1)
    (step : ∀ i ρ S, i < n → I i ρ S → Te (g (.int (lo + (i : Int) * c)) ρ S) fun ρ1 S2 => Ts (b ρ1 S2) (Turn (I (i + 1)) Q)) (last : ∀ ρ S, I n ρ S → Q (.nx ρ S)) : Fr (.fix (rngs lo c n)) S1 g b ρ Q := by
  refine fr_fix I h0 (fun i d ρ S hd hI => ?_) (by rw [rngs_len]; exact last)
  rw [rngs_get] at hd
  split at hd
  · rename_i hi
    cases hd
    exact step i ρ S hi hI
  · cases hd
/-- over a list of the store that the loop doesn't write -/
theorem fr_lst {j : Nat} {ds : List D} {S1 : Sto} {g : DG} {b : DS} {ρ : Rho} {Q : Out → Prop} (hj : S1[j]? = some (.lst ds)) (I : Nat → Rho → Sto → Prop) (h0 : I 0 ρ S1) (keep : ∀ i ρ S, I i ρ S → S[j]? = some (.lst ds))
    (step : ∀ (i : Nat) (d : D) (ρ : Rho) (S : Sto), ds[i]? = some d → I i ρ S → Te (g d ρ S) fun ρ1 S2 => Ts (b ρ1 S2) (Turn (I (i + 1)) Q)) (last : ∀ ρ S, I ds.length ρ S → Q (.nx ρ S)) : Fr (.lst j) S1 g b ρ Q := by
  obtain ⟨o, h1, h2⟩ := loop_inv (src := .lst j) (g := g) (b := b) ds.length I Q (fun i ρ S hi hI => ⟨ds[i], by simp only [Src.item, keep _ _ _ hI, List.getElem?_eq_getElem hi], step i _ ρ S (List.getElem?_eq_getElem hi) hI⟩)
    (fun ρ S hI => ⟨by simp only [Src.item, keep _ _ _ hI, List.getElem?_eq_none (Nat.le_refl _)], last ρ S hI⟩) (ds.length + 1) 0 ρ S1 rfl (Nat.zero_le _) h0
  refine ⟨o, ?_, h2⟩
  simp only [Src.size, hj]
  exact h1
theorem wh_inv {t : DT} {b : DS} {n m : Nat} {ρ : Rho} {S : Sto} {Q : Out → Prop} (I : Nat → Rho → Sto → Prop) (hm : m < n) (h0 : I m ρ S)
    (step : ∀ m ρ S, I m ρ S → Te (t ρ S) fun x S1 => (x = true → 0 < m ∧ Ts (b ρ S1) (Turn (I (m - 1)) Q)) ∧ (x = false → Q (.nx ρ S1))) : Ts (dWhile t b n ρ S) Q := by
  obtain ⟨o, h1, h2⟩ := while_inv (t := t) (b := b) I Q (fun m ρ S hI => by
    obtain ⟨x, S1, e, p, q⟩ := step m ρ S hI
    cases x with
    | false => exact .inl ⟨S1, e, q rfl⟩
    | true =>
      obtain ⟨p1, o, p2, p3⟩ := p rfl
      -- the body runs in the store behind the test
      exact .inr ⟨S1, o, e, p2, p1, p3⟩) n m ρ S hm h0
  exact ⟨o, h1, h2⟩
end Ev

set_option maxHeartbeats 1000000
/-! EvT: draws, by what is wanted behind them. -/
namespace Ev
open PySem PySem.Spec PyProof.Rows L2

/-- all but the pot at r is kept -/
structure Kp (r : Nat) (S S' : Sto) : Prop where
  len : S.length ≤ S'.length
  get : ∀ (i : Nat) (o : O), i ≠ r → S[i]? = some o → S'[i]? = some o
theorem Kp.refl {r : Nat} {S : Sto} : Kp r S S := ⟨Nat.le_refl _, fun _ _ _ h => h⟩
theorem Kp.trans {r : Nat} {S S1 S2 : Sto} (a : Kp r S S1) (b : Kp r S1 S2) : Kp r S S2 := ⟨Nat.le_trans a.len b.len, fun i o n h => b.get i o n (a.get i o n h)⟩
theorem Pre.kp {r : Nat} {S S' : Sto} (p : Pre S S') : Kp r S S' := ⟨p.len, fun _ _ _ h => p.get h⟩
theorem Drew.kp {r m : Nat} {S S' : Sto} (d : Drew S r S' m) : Kp r S S' := by
  obtain ⟨o, rfl⟩ := d.ex
  refine ⟨by rw [List.length_set]; exact Nat.le_refl _, fun i o' n h => ?_⟩
  rw [List.getElem?_set_ne (Ne.symm n)]
  exact h
theorem Kp.set {r k : Nat} {S S' : Sto} (a : Kp r S S') (h : S.length ≤ k) (x : O) : Kp r S (S'.set k x) := by
  refine ⟨by rw [List.length_set]; exact a.len, fun i o n hi => ?_⟩
  have := (List.getElem?_eq_some_iff.mp hi).1
  rw [List.getElem?_set_ne (by omega)]
  exact a.get i o n hi
theorem Pot.pre {S S' : Sto} {r m : Nat} (p : Pot S r m) (h : Pre S S') : Pot S' r m := by
  obtain ⟨a, b, c, h1, h2⟩ := p.ex
  exact ⟨a, b, c, h.get h1, h2⟩
theorem Pot.set {S : Sto} {r m k : Nat} (p : Pot S r m) (h : k ≠ r) (x : O) : Pot (S.set k x) r m := by
  obtain ⟨a, b, c, h1, h2⟩ := p.ex
  exact ⟨a, b, c, by rw [List.getElem?_set_ne h]; exact h1, h2⟩
theorem Pot.lt {S : Sto} {r m : Nat} (p : Pot S r m) : r < S.length := by
  obtain ⟨a, b, c, h1, h2⟩ := p.ex
  exact (List.getElem?_eq_some_iff.mp h1).1
theorem Pot.up {S : Sto} {r m m' : Nat} (p : Pot S r m) (h : m ≤ m') : Pot S r m' := by
  obtain ⟨a, b, c, h1, h2, h3, h4, h5, h6⟩ := p.ex
  exact ⟨a, b, c, h1, h2, h3, h4, h5, by omega⟩
theorem te_take {S : Sto} {r m : Nat} {few : Int} {Q : D → Sto → Prop} (p : Pot S r m) (hf : 0 < few) (hf2 : few < 1000000000000) (hm : m < 1000000000) (q : ∀ (v : Int) (S' : Sto), 0 ≤ v → v < few → Kp r S S' → Pot S' r (m + 1) → S'.length = S.length → Q (.int v) S') : Te (m_law_take [.ref r, .int few] S) Q := by
  obtain ⟨v, S', h1, h2, h3, h4⟩ := take_w p few hf (by omega) (by omega)
  exact Te.of h1 (q v S' h2 h3 h4.kp h4.pot h4.len)
theorem te_of {S : Sto} {r m : Nat} {ds : List D} {Q : D → Sto → Prop} (p : Pot S r m) (hf : ds ≠ []) (hf2 : ds.length < 1000) (hm : m < 1000000000) (q : ∀ (d : D) (S' : Sto), d ∈ ds → Kp r S S' → Pot S' r (m + 1) → S'.length = S.length → Q d S') : Te (m_law_of [.ref r, .tup ds] S) Q := by
  obtain ⟨d, S', h1, h2, h3⟩ := of_w p ds hf hf2 (by omega)
  exact Te.of h1 (q d S' h2 h3.kp h3.pot h3.len)
/-- the last item -/
theorem atI_last {α : Type} {xs : List α} {x : α} (h : xs[xs.length - 1]? = some x) : L2.atI xs (-1) = some x := by
  have hl := (List.getElem?_eq_some_iff.mp h).1
  unfold L2.atI ixN
  rw [if_neg (by decide), if_pos (by omega)]
  show xs[((-1 : Int) + (xs.length : Int)).toNat]? = some x
  rw [show ((-1 : Int) + (xs.length : Int)).toNat = xs.length - 1 by omega]
  exact h
/-- o[i] = v -/
theorem te_gSet {f1 f2 : DE} {d : D} {ρ : Rho} {S : Sto} {Q : Rho → Sto → Prop} : Te (dgI f1 f2 d ρ S) Q = Te (f1 ρ S) fun x S1 => Te (f2 ρ S1) fun y S2 => ∃ (j : Nat) (k : Int) (ds : List D) (m : Nat), x = .ref j ∧ y = .int k ∧ S2[j]? = some (.lst ds) ∧ ixN ds.length k = some m ∧ Q ρ (S2.set j (.lst (ds.set m d))) := by
  unfold dgI
  cases h1 : f1 ρ S with
  | none => simp only [te_none]
  | some p =>
    obtain ⟨x, S1⟩ := p
    cases x with
    | ref j =>
      simp only [te_some]
      cases h2 : f2 ρ S1 with
      | none => simp only [te_none]
      | some p =>
        obtain ⟨y, S2⟩ := p
        cases y with
        | int k =>
          simp only [te_some]
          cases h3 : S2[j]? with
          | none =>
            simp only [te_none]
            exact propext ⟨fun q => q.elim, fun ⟨_, _, _, _, e1, _, e3, _⟩ => by cases e1; rw [h3] at e3; cases e3⟩
          | some o =>
            cases o with
            | tab P q =>
              simp only [te_none]
              exact propext ⟨fun q => q.elim, fun ⟨_, _, _, _, e1, _, e3, _⟩ => by cases e1; rw [h3] at e3; cases e3⟩
            | lst ds =>
              simp only
              cases h4 : ixN ds.length k with
              | none =>
                simp only [te_none]
                exact propext ⟨fun q => q.elim, fun ⟨_, _, _, _, e1, e2, e3, e4, _⟩ => by
                  cases e1; cases e2; rw [h3] at e3; cases e3; rw [h4] at e4; cases e4⟩
              | some m =>
                simp only [te_some]
                exact propext ⟨fun q => ⟨j, k, ds, m, rfl, rfl, h3, h4, q⟩, fun ⟨_, _, _, _, e1, e2, e3, e4, q⟩ => by
                  cases e1; cases e2; rw [h3] at e3; cases e3; rw [h4] at e4; cases e4; exact q⟩
        | _ => simp only [te_none, te_some]; exact propext ⟨fun q => q.elim, fun ⟨_, _, _, _, e1, e2, _⟩ => by cases e2⟩
    | _ =>
      simp only [te_none, te_some]
      refine propext ⟨fun q => q.elim, fun ⟨y, S2, e, _, _, _, _, e1, _⟩ => by cases e1⟩
/-- a comprehension that draws: what holds of the store, by the turn -/
theorem lc_draw {lo c : Int} {n : Nat} {S1 : Sto} {g : DG} {t : DT} {f : DE} {ρ0 : Rho} {Q : D → Sto → Prop} {r m : Nat} (hn : n ≤ 1000) (hp : Pot S1 r m) (P : D → Prop) (step : Nat)
    (h : ∀ (i : Nat), i < n → ∀ S', Kp r S1 S' → Pot S' r (m + i * step) → Te (g (.int (lo + (i : Int) * c)) ρ0 S') fun ρ1 S2 => Te (t ρ1 S2) fun b S3 => b = true ∧ Te (f ρ1 S3) fun v S4 => P v ∧ Kp r S' S4 ∧ Pot S4 r (m + (i + 1) * step))
    (q : ∀ S' ys, Kp r S1 S' → Pot S' r (m + n * step) → S'[S1.length]? = some (.lst ys) → ys.length = n → (∀ y ∈ ys, P y) → Q (.ref S1.length) S') : Lc (.fix (rngs lo c n)) S1 g t f ρ0 Q := by
  have hr := hp.lt
  obtain ⟨acc, S', h1, h2, h3, h4, h5, h6⟩ := lc_inv (src := .fix (rngs lo c n)) (g := g) (t := t) (f := f) (ρ := ρ0) (k0 := S1.length) n
    (fun i acc S' => acc.length = i ∧ (∀ y ∈ acc, P y) ∧ S'[S1.length]? = some (.lst acc) ∧ Kp r S1 S' ∧ Pot S' r (m + i * step))
    (fun i acc S' hI => hI.2.2.1)
    (fun i acc S' hi hI => by
      obtain ⟨e1, e2, e3, e4, e5⟩ := hI
      refine ⟨.int (lo + (i : Int) * c), by show some (rngs lo c n)[i]? = _; rw [rngs_get, if_pos hi], ?_⟩
      obtain ⟨ρ1, S2, a1, b, S3, a2, rfl, v, S4, a3, a4, a5, a6⟩ := h i hi S' e4 e5
      refine ⟨ρ1, S2, a1, .inr ⟨S3, v, S4, a2, a3, a5.get _ _ (by omega) e3, ?_, by simp; omega, ?_, ?_, ?_, ?_⟩⟩
      · exact Nat.lt_of_le_of_lt (show acc.length ≤ 1000 by omega) (by decide)
      · intro y hy
        rcases List.mem_append.mp hy with hy | hy
        · exact e2 y hy
        · rw [List.mem_singleton] at hy; subst hy; exact a4
      · exact set_get (Nat.lt_of_lt_of_le (List.getElem?_eq_some_iff.mp e3).1 a5.len) _
      · exact (e4.trans a5).set (Nat.le_refl _) _
      · exact a6.set (by omega) _)
    (fun acc S' hI => by show some (rngs lo c n)[n]? = _; rw [rngs_get, if_neg (Nat.lt_irrefl _)])
    (n + 1) 0 [] (S1 ++ [.lst []]) rfl (Nat.zero_le _) ⟨rfl, (fun y hy => nomatch hy), get_last _, (Pre.one _ _).kp, by rw [Nat.zero_mul]; exact hp.pre (Pre.one _ _)⟩
  refine ⟨S', ?_, q S' acc h5 h6 h4 h2 h3⟩
  show lcLoop S1.length (.fix (rngs lo c n)) g t f ρ0 ((rngs lo c n).length + 1) 0 (S1 ++ [.lst []]) = some S'
  rw [rngs_len]
  exact h1
end Ev

set_option maxHeartbeats 1000000
/-! EvW: comprehensions of two clauses; sorted; reprs. -/
namespace Ev
open PySem PySem.Spec PyProof.Rows L2

theorem lc2_inv {src : Src} {g : DG} {t : DT} {it1 : DI} {g1 : DG} {t1 : DT} {f : DE} {vs1 : List Nat} {ρ : Rho} {k0 : Nat} (n : Nat) (I : Nat → Sto → Prop)
    (step : ∀ i S, i < n → I i S → ∃ d, src.item S i = some (some d) ∧ ∃ ρ1 S1, g d ρ S = some (ρ1, S1) ∧ ∃ S2, t ρ1 S1 = some (true, S2) ∧ ∃ src1 S3, it1 ρ1 S2 = some (src1, S3) ∧ ∃ S4, lcLoop k0 src1 g1 t1 f (wipeR ρ1 vs1) (src1.size S3 + 1) 0 S3 = some S4 ∧ I (i + 1) S4)
    (last : ∀ S, I n S → src.item S n = some none) :
    ∀ (m i : Nat) (S : Sto), m + i = n + 1 → i ≤ n → I i S → ∃ S', lc2Loop k0 src g t it1 g1 t1 f vs1 ρ m i S = some S' ∧ I n S' := by
  intro m
  induction m with
  | zero => intro i S h hi; omega
  | succ m ih =>
    intro i S h hi0 hI
    by_cases hi : i < n
    · obtain ⟨d, h1, ρ1, S1, h2, S2, h3, src1, S3, h4, S4, h5, h6⟩ := step i S hi hI
      unfold lc2Loop
      simp only [h1, h2, h3, h4, h5]
      exact ih (i + 1) S4 (by omega) (by omega) h6
    · have e : i = n := by omega
      subst e
      unfold lc2Loop
      simp only [last S hI]
      exact ⟨S, rfl, hI⟩
def Lc2 (src : Src) (S1 : Sto) (g : DG) (t : DT) (it1 : DI) (g1 : DG) (t1 : DT) (f : DE) (vs1 : List Nat) (ρ0 : Rho) (Q : D → Sto → Prop) : Prop :=
  ∃ S2, lc2Loop S1.length src g t it1 g1 t1 f vs1 ρ0 (src.size S1 + 1) 0 (S1 ++ [.lst []]) = some S2 ∧ Q (.ref S1.length) S2
theorem te_lc2 {it : DI} {g : DG} {t : DT} {it1 : DI} {g1 : DG} {t1 : DT} {f : DE} {vs vs1 : List Nat} {ρ : Rho} {S : Sto} {Q : D → Sto → Prop} : Te (dLc2 it g t it1 g1 t1 f vs vs1 ρ S) Q = Te (it ρ S) fun src S1 => Lc2 src S1 g t it1 g1 t1 f vs1 (wipeR ρ vs) Q := by
  unfold dLc2
  cases h : it ρ S with
  | none => simp only [te_none]
  | some p =>
    obtain ⟨src, S1⟩ := p
    simp only [te_some]
    unfold Lc2
    cases h2 : lc2Loop S1.length src g t it1 g1 t1 f vs1 (wipeR ρ vs) (src.size S1 + 1) 0 (S1 ++ [.lst []]) with
    | none =>
      simp only [te_none]
      exact propext ⟨fun q => q.elim, fun ⟨S2, q, _⟩ => nomatch q⟩
    | some S2 =>
      simp only [te_some]
      exact propext ⟨fun q => ⟨S2, rfl, q⟩, fun ⟨S3, e, q⟩ => by cases e; exact q⟩
/-- each item of a list with each number below what is told for it -/
theorem lc2_rng {src : Src} {S1 : Sto} {g : DG} {t : DT} {it1 : DI} {g1 : DG} {t1 : DT} {f : DE} {vs1 : List Nat} {ρ0 : Rho} {Q : D → Sto → Prop} {ds : List D} (n : Nat → Nat) (y : Nat → Nat → D) (hsrc : src = .fix ds ∨ ∃ j, src = .lst j ∧ S1[j]? = some (.lst ds)) (hn : ∀ i, i < ds.length → n i ≤ 1000) (hl : ds.length ≤ 1000)
    (h : ∀ (i : Nat) (d : D), ds[i]? = some d → ∀ S', Pre S1 S' → Te (g d ρ0 S') fun ρ1 S2 => Te (t ρ1 S2) fun b S3 => b = true ∧ Te (it1 ρ1 S3) fun src1 S4 => src1 = .fix (rngs 0 1 (n i)) ∧ Pre S' S4 ∧
      ∀ x, x < n i → ∀ S5, Pre S1 S5 → Te (g1 (.int (x : Nat)) (wipeR ρ1 vs1) S5) fun ρ2 S6 => Te (t1 ρ2 S6) fun b S7 => b = true ∧ Te (f ρ2 S7) fun v S8 => v = y i x ∧ Pre S5 S8)
    (q : ∀ S', Pre S1 S' → S'[S1.length]? = some (.lst ((List.range ds.length).flatMap fun i => (List.range (n i)).map (y i))) → Q (.ref S1.length) S') : Lc2 src S1 g t it1 g1 t1 f vs1 ρ0 Q := by
  have e1 : src.size S1 = ds.length := by
    rcases hsrc with rfl | ⟨j, rfl, hj⟩
    · rfl
    · simp only [Src.size, hj]
  have e2 : ∀ S' i, Pre S1 S' → src.item S' i = some ds[i]? := fun S' i p => by
    rcases hsrc with rfl | ⟨j, rfl, hj⟩
    · rfl
    · simp only [Src.item, p.get hj]
  have hlen : ∀ i, i ≤ ds.length → ((List.range i).flatMap fun i => (List.range (n i)).map (y i)).length ≤ i * 1000 := by
    intro i
    induction i with
    | zero => intro _; simp
    | succ i ih =>
      intro hi
      rw [List.range_succ, List.flatMap_append, List.length_append]
      have h1 := ih (by omega)
      have h2 := hn i (by omega)
      simp only [List.flatMap_cons, List.flatMap_nil, List.append_nil, List.length_map, List.length_range]
      omega
  have hz : 1000 * 1000 < sizeLine := by decide
  obtain ⟨S', h1, h2, h3⟩ := lc2_inv (src := src) (g := g) (t := t) (it1 := it1) (g1 := g1) (t1 := t1) (f := f) (vs1 := vs1) (ρ := ρ0) (k0 := S1.length) ds.length
    (fun i S' => S'[S1.length]? = some (.lst ((List.range i).flatMap fun i => (List.range (n i)).map (y i))) ∧ Pre S1 S')
    (fun i S' hi hI => by
      obtain ⟨a1, a2⟩ := hI
      have hd : ds[i]? = some ds[i] := List.getElem?_eq_getElem hi
      refine ⟨ds[i], by rw [e2 _ _ a2, hd], ?_⟩
      obtain ⟨ρ1, S2, b1, b, S3, b2, rfl, src1, S4, b3, rfl, b4, b5⟩ := h i ds[i] hd S' a2
      refine ⟨ρ1, S2, b1, S3, b2, _, S4, b3, ?_⟩
      have a3 := b4.get a1
      have a4 := a2.trans b4
      obtain ⟨acc, S9, c1, c2, c3, c4⟩ := lc_inv (src := .fix (rngs 0 1 (n i))) (g := g1) (t := t1) (f := f) (ρ := wipeR ρ1 vs1) (k0 := S1.length) (n i)
        (fun x acc S' => acc = ((List.range i).flatMap fun i => (List.range (n i)).map (y i)) ++ (List.range x).map (y i) ∧ S'[S1.length]? = some (.lst acc) ∧ Pre S1 S')
        (fun x acc S' hI => hI.2.1)
        (fun x acc S' hx hI => by
          obtain ⟨d1, d2, d3⟩ := hI
          refine ⟨.int (x : Nat), by show some (rngs 0 1 (n i))[x]? = _; rw [rngs_get, if_pos hx, rng0], ?_⟩
          obtain ⟨ρ2, S6, f1, b, S7, f2, rfl, v, S8, f3, rfl, f4⟩ := b5 x hx S' d3
          have hz2 : acc.length < sizeLine := by
            have h1 := hlen i (by omega)
            have h2 := hn i hi
            rw [d1, List.length_append, List.length_map, List.length_range]
            have : i * 1000 ≤ 999 * 1000 := Nat.mul_le_mul_right _ (by omega)
            omega
          refine ⟨ρ2, S6, f1, .inr ⟨S7, _, S8, f2, f3, f4.get d2, hz2, ?_, ?_, ?_⟩⟩
          · rw [d1, List.range_succ, List.map_append, List.append_assoc]; rfl
          · exact set_get (Nat.lt_of_lt_of_le (List.getElem?_eq_some_iff.mp d2).1 f4.len) _
          · exact (d3.trans f4).set (Nat.le_refl _) _)
        (fun acc S' hI => by show some (rngs 0 1 (n i))[n i]? = _; rw [rngs_get, if_neg (Nat.lt_irrefl _)])
        (n i + 1) 0 _ S4 rfl (Nat.zero_le _) ⟨by simp, a3, a4⟩
      refine ⟨S9, ?_, ?_, c4⟩
      · show lcLoop S1.length (.fix (rngs 0 1 (n i))) g1 t1 f (wipeR ρ1 vs1) ((rngs 0 1 (n i)).length + 1) 0 S4 = _
        rw [rngs_len]
        exact c1
      · rw [c3, c2, List.range_succ, List.flatMap_append]
        simp)
    (fun S' hI => by rw [e2 _ _ hI.2, List.getElem?_eq_none (Nat.le_refl _)])
    (ds.length + 1) 0 (S1 ++ [.lst []]) rfl (Nat.zero_le _) ⟨by rw [get_last]; rfl, Pre.one _ _⟩
  refine ⟨S', ?_, q S' h3 h2⟩
  rw [e1]
  exact h1

/-! rows of numbers as data -/
theorem py_ints (n : Nat) (S : Sto) (zs : List Int) : py (n + 2) S (.tup (zs.map .int)) = some (.tuple (zs.map .int)) := py_tup (pys_map (fun z => py_int n S z) zs)
theorem okRs_ints : ∀ zs : List Int, (∀ z ∈ zs, z.natAbs < 2 ^ 60) → okRs (zs.map .int) = true ∧ szRs (zs.map .int) ≤ 70 * zs.length
  | [], _ => ⟨by simp only [List.map_nil, okRs], by simp only [List.map_nil, szRs]; omega⟩
  | z :: zs, h => by
    have ih := okRs_ints zs fun x hx => h x (List.mem_cons_of_mem _ hx)
    have hg : z.natAbs.log2 < 60 := log2_lt' (h z List.mem_cons_self) (by decide)
    refine ⟨?_, ?_⟩
    · rw [List.map_cons, okRs, ih.1, okR, Bool.and_true]
      exact decide_eq_true (by omega)
    · rw [List.map_cons, szRs, szR, List.length_cons]
      omega
theorem row_py {zs : List Int} (h : ∀ z ∈ zs, z.natAbs < 2 ^ 60) (hl : zs.length ≤ 1000) : (∀ S, py 39 S (.tup (zs.map .int)) = some (.tuple (zs.map .int))) ∧ okR (.tuple (zs.map .int)) = true ∧ szR (.tuple (zs.map .int)) ≤ 70 * zs.length + 3 := by
  obtain ⟨h1, h2⟩ := okRs_ints zs h
  exact ⟨fun S => py_ints 37 S zs, by rw [okR]; exact h1, by rw [szR]; omega⟩
/-- the repr of a list of data -/
theorem te_reprL {i : Nat} {ds : List D} {ps : List PyData} {S : Sto} {Q : D → Sto → Prop} (hS : S[i]? = some (.lst ds)) (hp : pys (py 39 S) ds = some ps) (ok : okRs ps = true) (hz : szRs ps ≤ 1000000) (q : Q (.str (PyData.list ps).shown) S) : Te (gRepr [.ref i] S) Q :=
  Te.of (repr_of (items_ref hS) (py_ref (n := 39) hS hp) (by rw [okR]; exact ok) (by rw [szR]; omega)) q
/-- rows: sorted -/
def rowsD (Z : List (List Int)) : List D := Z.map fun zs => .tup (zs.map .int)
def rowsP (Z : List (List Int)) : List PyData := Z.map fun zs => .tuple (zs.map .int)
theorem rows_pys (n : Nat) (S : Sto) (Z : List (List Int)) : pys (py (n + 2) S) (rowsD Z) = some (rowsP Z) := pys_map (fun zs => py_ints n S zs) Z
theorem insD_map {α β : Type} {le : α → α → Bool} {le' : β → β → Bool} (f : β → α) (h : ∀ x y, le (f x) (f y) = le' x y) (x : β) : ∀ ys : List β, insD le (f x) (ys.map f) = (insD le' x ys).map f
  | [] => rfl
  | y :: ys => by
    rw [List.map_cons]
    unfold insD
    rw [h]
    split
    · rfl
    · rw [List.map_cons, insD_map f h x ys]
theorem isort_map {α β : Type} {le : α → α → Bool} {le' : β → β → Bool} (f : β → α) (h : ∀ x y, le (f x) (f y) = le' x y) : ∀ xs : List β, isort le (xs.map f) = (isort le' xs).map f
  | [] => rfl
  | x :: xs => by
    show insD le (f x) (isort le (xs.map f)) = (insD le' x (isort le' xs)).map f
    rw [isort_map f h xs, insD_map f h]
def leRow (x y : List Int) : Bool := leD (.tup (x.map .int), .tuple (x.map .int)) (.tup (y.map .int), .tuple (y.map .int))
theorem isort_mem {α : Type} {le : α → α → Bool} {z : α} : ∀ {xs : List α}, z ∈ isort le xs → z ∈ xs
  | [], h => h
  | x :: xs, h => by
    rcases insD_mem h with rfl | h
    · exact List.mem_cons_self
    · exact List.mem_cons_of_mem _ (isort_mem h)
theorem insD_len {α : Type} {le : α → α → Bool} (x : α) : ∀ ys : List α, (insD le x ys).length = ys.length + 1
  | [] => rfl
  | y :: ys => by
    unfold insD
    split
    · rfl
    · rw [List.length_cons, insD_len x ys, List.length_cons]
theorem isort_len {α : Type} {le : α → α → Bool} : ∀ xs : List α, (isort le xs).length = xs.length
  | [] => rfl
  | x :: xs => by
    show (insD le x (isort le xs)).length = _
    rw [insD_len, isort_len xs, List.length_cons]
theorem zip_rows : ∀ Z : List (List Int), (rowsD Z).zip (rowsP Z) = Z.map fun zs => ((.tup (zs.map .int) : D), (.tuple (zs.map .int) : PyData))
  | [] => rfl
  | z :: Z => by
    show _ :: (rowsD Z).zip (rowsP Z) = _
    rw [zip_rows Z]; rfl
theorem te_sortRows {i : Nat} {Z : List (List Int)} {S : Sto} {Q : D → Sto → Prop} (hS : S[i]? = some (.lst (rowsD Z))) (ok : okSort (rowsP Z) = true) (hl : Z.length ≤ 1000) (q : Q (.ref S.length) (S ++ [.lst (rowsD (isort leRow Z))])) : Te (gSorted [.ref i] S) Q := by
  unfold gSorted lstOf
  have e := rows_pys 38 S Z
  have hz : (okSort (rowsP Z) && decide ((rowsD Z).length ≤ sizeLine)) = true := by
    rw [ok, decide_eq_true (show (rowsD Z).length ≤ sizeLine by unfold rowsD; rw [List.length_map]; exact Nat.le_trans hl (by decide))]
    rfl
  simp only [hS, e, hz, if_true, te_some]
  rw [zip_rows, isort_map (le := leD) (le' := leRow) (fun zs : List Int => ((.tup (zs.map .int) : D), (.tuple (zs.map .int) : PyData))) (fun x y => rfl), List.map_map]
  exact q
end Ev

set_option maxHeartbeats 1000000
/-! EvX: sorted with a lambda as key. -/
namespace Ev
open PySem PySem.Spec PyProof.Rows L2
section
variable {prog : Program} {w : World} {A : Around} {E : Value → Shared → Prop} {s : Shared}
theorem adj_rev (n : Nat) : Builtin.Slice.sliceAdjust none none (-1) (n : Int) = ((n : Int) - 1, -1) := by
  unfold Builtin.Slice.sliceAdjust
  rfl
theorem places_rev (n : Nat) : Builtin.Slice.slicePlaces ((n : Int) - 1) (-1) (-1) = n := by
  unfold Builtin.Slice.slicePlaces
  rw [if_neg (by decide)]
  by_cases h : n = 0
  · subst h
    rfl
  · rw [if_pos (by omega), show -(-1 : Int) = 1 from rfl, Int.ediv_one]
    omega
theorem app_rev {sl : Addr} {n : Nat} {u : Tok} {Q : Int × Int × Nat → Shared → Prop} (hs : s.heap.IsSliceOf sl .none .none (.int (-1) u)) (q : Q ((n : Int) - 1, -1, n) s) :
    wpAny (model prog w) A (Builtin.Slice.sliceApplied (.ref sl) (pure (n : Int))) Q E s := by
  obtain ⟨o, ho, _, hd⟩ := id hs
  unfold Builtin.Slice.sliceApplied Builtin.Slice.sliceFields
  refine wpAny_bind (wpAny_bind (wpAny_field ho hd (x := .none) rfl (wpAny_bind (wpAny_field ho hd (x := .none) rfl (wpAny_bind (wpAny_field ho hd (x := .int (-1) u) rfl (wpAny_pure ?_)))))))
  refine wpAny_bind (slicePart_int ?_)
  show wpAny _ _ (if ((-1 : Int) == 0) = true then _ else _) _ _ s
  rw [if_neg (by decide)]
  refine wpAny_bind (slicePart_none (wpAny_bind (slicePart_none (wpAny_bind (wpAny_pure ?_)))))
  show wpAny _ _ (match Builtin.Slice.sliceAdjust none none (-1) (n : Int) with | (lo, hi) => pure (lo, (-1 : Int), Builtin.Slice.slicePlaces lo hi (-1))) _ _ s
  rw [adj_rev]
  show wpAny _ _ (pure ((n : Int) - 1, (-1 : Int), Builtin.Slice.slicePlaces ((n : Int) - 1) (-1) (-1))) _ _ s
  rw [places_rev]
  exact wpAny_pure q
theorem pick_rev (xs : Array Value) : ((List.range xs.size).filterMap fun (k : Nat) => xs[((xs.size : Int) - 1 + (k : Int) * (-1)).toNat]?).toArray = xs.toList.reverse.toArray := by
  congr 1
  apply List.ext_getElem?
  intro i
  have e : (fun (k : Nat) => xs[((xs.size : Int) - 1 + (k : Int) * (-1)).toNat]?) = fun k => xs[xs.size - 1 - k]? := by
    funext k
    have : ((xs.size : Int) - 1 + (k : Int) * (-1)).toNat = xs.size - 1 - k := by omega
    rw [this]
  rw [e]
  have e2 : ∀ n, n ≤ xs.size → ((List.range n).filterMap fun k => xs[xs.size - 1 - k]?) = xs.toList.reverse.take n := by
    intro n
    induction n with
    | zero => intro _; rfl
    | succ n ih =>
      intro hn
      rw [List.range_succ, List.filterMap_append, ih (by omega), List.take_add_one]
      congr 1
      have h1 : xs.size - 1 - n < xs.size := by omega
      rw [List.getElem?_reverse (by rw [Array.length_toList]; omega), Array.length_toList, Array.getElem?_toList]
      simp only [List.filterMap_cons, List.filterMap_nil, Array.getElem?_eq_getElem h1, Option.toList_some]
  rw [e2 xs.size (Nat.le_refl _), List.take_of_length_le (by rw [List.length_reverse, Array.length_toList]; exact Nat.le_refl _)]
/-- t[::-1] -/
theorem tup_rev {t sl : Addr} {its : List Value} {u : Tok} {Q : Value → Shared → Prop} (ht : IsTup s.heap t its.toArray) (hs : s.heap.IsSliceOf sl .none .none (.int (-1) u)) (hz : its.length ≤ sizeLine)
    (q : Q (.ref s.heap.objs.size) { s with heap := s.heap.push { cls := .type "tuple", data := .seq its.reverse.toArray } }) : wpAny (model prog w) A (getItem (.ref t) (.ref sl)) Q E s := by
  have fits : sizeOk (.seq its.reverse.toArray) := by
    show its.reverse.toArray.size ≤ sizeLine
    rw [List.size_toArray, List.length_reverse]
    exact hz
  obtain ⟨o, ho, hc, hd⟩ := id hs
  have isS : s.TypeIs (.ref sl) "slice" := ⟨o, ho, hc⟩
  unfold getItem
  try with_reducible refine wpAny_holding ?_
  first | refine wpAny_bind (wpAny_pure ?_) | skip
  refine wpAny_bind (wpAny_sequenceKey ht.typeIs (by decide) (wpAny_bind (wpAny_callSpecial?_slot (name := Str.ofString "__getitem__") ht.typeIs slot_tuple_getitem
    (wpAny_call_entry slot_tuple_getitem ht.typeIs entry_tuple_getitem ?_ (args_tuple_getitem _ _)))))
  show wpAny _ _ (Builtin.Tuple.tupleItemsOf (.ref t) >>= _) _ _ s
  refine wpAny_bind (tupleItemsOf_ ht (wpAny_bind (wpAny_typeOf isS ?_)))
  rw [if_pos (by decide)]
  refine wpAny_bind (app_rev (n := its.toArray.size) hs ?_)
  have no : ¬ ((((its.toArray.size : Nat) : Int) - 1 == 0 && (-1 : Int) == 1 && its.toArray.size == its.toArray.size) = true) := by
    rw [show ((-1 : Int) == 1) = false from rfl, Bool.and_false, Bool.false_and]
    exact Bool.false_ne_true
  show wpAny _ _ (if (((its.toArray.size : Nat) : Int) - 1 == 0 && (-1 : Int) == 1 && its.toArray.size == its.toArray.size) = true then _ else _) _ _ s
  rw [if_neg no, pick_rev its.toArray]
  first
    | exact wpAny_bind (m := Builtin.Tuple.tupleExact _) (wpAny_newObj_type (wpAny_pure ⟨_, rfl, wpAny_pure q⟩) fits)
    | exact wpAny_bind (m := Builtin.Tuple.tupleExact _) (wpAny_newObj_type (wpAny_bind (wpAny_pure (wpAny_pure ⟨_, rfl, wpAny_pure q⟩))) fits)
    | exact wpAny_bind (wpAny_bind (m := Builtin.Tuple.tupleExact _) (wpAny_newObj_type (wpAny_pure (wpAny_pure ⟨_, rfl, wpAny_pure q⟩)) fits))
    | exact wpAny_bind (wpAny_bind (m := Builtin.Tuple.tupleExact _) (wpAny_newObj_type (wpAny_pure ⟨_, rfl, wpAny_pure q⟩) fits))
/-- the names of a lambda with one parameter that it reads alone -/
structure Lam1 (scope : Scope) (x : Str) : Prop where
  kind : scope.kind = .function
  co : scope.isCoroutine = false
  gen : scope.isGenerator = false
  own : ∀ y ∈ scope.names, y.2 ≠ .cell
  loc : scope.names.lookup x = some .local
  dbg : (x == ("__debug__" : Str)) = false
abbrev revBody (x : Str) (p1 p2 p3 p4 p5 : Pos) (k : Nat) : Expr := .Subscript (.Name x p1) (.Slice none none (some (.UnaryOp .USub (.Constant (.int 1) k p2) p3)) p4) p5
theorem lam_rev {f t c' : Addr} {q x : Str} {params : Arguments} {scope : Scope} {cl : List (Str × Addr)} {pm ctv : Value} {p1 p2 p3 p4 p5 : Pos} {k : Nat} {its : List Value} {Post : Value → Shared → Prop}
    (ho : s.heap.get? f = some (PySem.W.kla_obj "<lambda>" q params (revBody x p1 p2 p3 p4 p5 k) scope cl pm c' ctv)) (hcd : s.heap.CodeRec (.ref c') q) (hr : A.depth < recursionLimit) (lim : s.heap.NoLimit) (L : Lam1 scope x)
    (hb : ∀ v : Value, bindArgs (PySem.W.kla_fn "<lambda>" q params (revBody x p1 p2 p3 p4 p5 k) scope cl pm (.ref c') ctv) ⟨[v], []⟩ = pure [(x, v)])
    (ht : IsTup s.heap t its.toArray) (hz : its.length ≤ sizeLine)
    (post : ∀ (h' : Heap) (tk a : Nat), (∀ b o, s.heap.get? b = some o → h'.get? b = some o) → IsTup h' a its.reverse.toArray → Post (.ref a) { s with heap := h', toks := tk }) :
    wpAny (model prog w) A (call (.ref f) [.ref t]) Post E s := by
  refine wpAny_call (PySem.W.kla_callFunE hr ho rfl L.co L.gen rfl hcd ?_)
  rw [hb]
  refine wpAny_pure (wpAny_newFunctionEnv L.own (fun y hy => ?_) (fun h1 hns hsb => ⟨lim.fresh _ hsb, ?_⟩) L.kind)
  · rw [List.mem_singleton] at hy
    rw [hy]
    exact L.loc
  have kp : ∀ b o, s.heap.get? b = some o → h1.get? b = some o := fun b o e => hsb.extBut b o (Nat.ne_of_lt (Heap.lt_size e)) (Heap.get?_push_of_some _ e)
  refine PySem.W.kla_codeExpr ?_
  refine wpAny_Subscript_Slice_step slot_tuple_getitem.lookup (wpAny_Name (wpAny_loadName_local L.kind L.loc hns (v := .ref t) ?_ ?_) L.dbg)
  · show List.lookup x [(x, Value.ref t)] = _
    simp
  refine wpAny_Slice (wpAny_pure (wpAny_pure (wpAny_UnaryOp (wpAny_Constant_int (neg_int ?_)))))
  obtain ⟨o, e1, e2, n, e3⟩ := id ht
  have ht2 : IsTup (h1.push { cls := .type "slice", data := .fields #[.none, .none, .int (-1) (s.toks + [(x, Value.ref t)].length + 1)] }) t its.toArray := ⟨o, Heap.get?_push_of_some _ (kp _ _ e1), e2, n, e3⟩
  refine ⟨ht2.typeIs, tup_rev ht2 (Heap.IsSliceOf.new _ _ _ _) hz ?_⟩
  refine post _ _ _ (fun b o e => Heap.get?_push_of_some _ (Heap.get?_push_of_some _ (kp b o e))) ⟨_, Heap.get?_push_size _ rfl, rfl, _, rfl⟩
end
/-! the lambda is made: its code object is new and laid into the table, or found there -/
section
variable {X : Cx} {pins : List (Addr × Obj)} {σ : L2.St} {H : Hp} {s : Shared}
/-- how the heap goes on where a lambda is made -/
def Made (H H1 : Hp) (P : Addr) (q : Str) : Prop := H1 = H ∨ ∃ (ps more : Array Value) (c : Addr), H P = some (.tbl ps) ∧ H c = none ∧ H1 = upd (upd H P (.tbl (ps ++ more))) c (LamX.CodeO c q)
theorem lam_mk {c P : Addr} {params : Arguments} {body : Expr} {scope : Scope} {pos : Pos} {E : Value → Shared → Prop} {Q : Value → Shared → Prop} (I : Inv X pins σ H s) (TB : LamX.TabB X.base X.mg c P) (hcode : X.env.code = .ref c)
    (tt : LamX.TabS H P (X.env.qual ++ "<lambda>")) (nodef : defaultsOf params X.env = ([], [])) (fr : ∀ y ∈ scope.names, y.2 = .free → ∃ c, X.env.cells.lookup y.1 = some c)
    (go : ∀ (f c' : Addr) (pm ctv : Value) (H1 : Hp) (s' : Shared), Inv X pins σ H1 s' → Made H H1 P (X.env.qual ++ "<lambda>") → LamX.TabS H1 P (X.env.qual ++ "<lambda>") → H1 c' = some (LamX.CodeO c' (X.env.qual ++ "<lambda>")) → H1 f = none →
      s'.heap.get? f = some (PySem.W.kla_obj "<lambda>" (X.env.qual ++ "<lambda>") params body scope (cloFrom X.env.cells scope.names []) pm c' ctv) → Q (.ref f) s') :
    wpAny (model X.prog X.w) X.A (eval (.Lambda params body scope pos) X.env) Q E s := by
  obtain ⟨ps, hP, tri, known⟩ := tt
  have inHeap : s.heap.get? P = some { cls := .none, data := .fields ps } := I.hok P _ hP
  have bmP : s.heap.BuiltinsAt X.mg P := TB.bm.keeps I.bk
  refine PySem.W.kla_eval nodef ?_
  rcases hcase : codeAmong pos ps.toList with _ | cv
  · refine PySem.W.kla_makeFunction (mg := X.mg) (c := c) (P := P) (ps := ps) (closure_ok fr) I.ok.glob (I.mod.glob.keeps I.bk) hcode (TB.code.keeps I.bk) inHeap tri hcase TB.gP bmP ?_
    intro c' ctv h' tk hx hge hlt hrec htb
    obtain ⟨c2, oc, vs, t, e0, h1, h2, h3⟩ := hrec
    cases e0
    have fresh : H c' = none := I.hok.fresh hge
    have J := LamX.inv_table (t' := tk) (q := X.env.qual ++ "<lambda>") (more := #[rawInt pos.line, rawInt pos.col, .ref c'])
      (h' := h'.push (PySem.W.kla_obj "<lambda>" (X.env.qual ++ "<lambda>") params body scope (cloFrom X.env.cells scope.names []) ((X.mg "__name__").getD .none) c' ctv)) I hP
      (fun b o ne e => Heap.get?_push_of_some _ (hx b o ne e)) (Heap.get?_push_of_some _ htb) hge ⟨oc, vs, t, Heap.get?_push_of_some _ h1, h2, h3⟩
    have cP : P ≠ c' := ne_of_none hP fresh
    refine go h'.objs.size c' _ ctv _ _ J (.inr ⟨ps, _, c', hP, fresh, rfl⟩) ⟨_, by rw [upd_ne cP, upd_same], ?_, ?_⟩ upd_same ?_ (Heap.get?_push_size _ rfl)
    · rw [Array.toList_append]
      exact PySem.TriplesOk_snoc _ _ _ _ tri
    · intro p' cv hcv
      rw [Array.toList_append] at hcv
      rcases LamX.among_app _ tri hcv with z | z
      · obtain ⟨c0, z1, z2⟩ := known p' cv z
        refine ⟨c0, z1, ?_⟩
        rw [upd_ne (ne_of_none z2 fresh), upd_ne]
        · exact z2
        · rintro rfl
          rw [hP] at z2
          exact LamX.codeO_ne _ (Option.some.inj z2).symm
      · exact ⟨c', z, upd_same⟩
    · have le : s.heap.objs.size ≤ h'.objs.size := Nat.le_trans hge (Nat.le_of_lt hlt)
      rw [upd_ne (Nat.ne_of_lt hlt).symm, upd_ne (Nat.ne_of_lt (Nat.lt_of_lt_of_le (Heap.lt_size inHeap) le)).symm]
      exact I.hok.fresh le
  · obtain ⟨c', rfl, hc'⟩ := known pos cv hcase
    refine PySem.W.kla_makeFunctionHit (mg := X.mg) (c := c) (P := P) (ps := ps) (closure_ok fr) I.ok.glob (I.mod.glob.keeps I.bk) hcode (TB.code.keeps I.bk) inHeap tri hcase bmP ?_
    intro ctv h' tk hx hsz
    exact go h'.objs.size c' _ ctv H _ (I.kept fun b o e => Heap.get?_push_of_some _ (hx b o e)) (.inl rfl) ⟨ps, hP, tri, known⟩ hc' (I.hok.fresh hsz) (Heap.get?_push_size _ rfl)
variable {K : PySem.W.Frag} {φ : List Addr} {S : Sto}
/-- .. and how the store stands then -/
theorem made_ok {H1 : Hp} {P : Addr} {q : Str} {i : Nat} (rs : RS K H φ S) (hi : φ[i]? = some P) (hS : S[i]? = some (.tab P q)) (m : Made H H1 P q) (t1 : LamX.TabS H1 P q) : Ex K H φ H1 φ ∧ RS K H1 φ S := by
  rcases m with rfl | ⟨ps, more, c, hP, hc, rfl⟩
  · exact ⟨.refl, rs⟩
  have cP : P ≠ c := ne_of_none hP hc
  have far : ∀ {b : Addr} {o : HO}, H b = some o → b ≠ P → upd (upd H P (.tbl (ps ++ more))) c (LamX.CodeO c q) b = some o := fun {b o} e n => by
    rw [upd_ne (ne_of_none e hc), upd_ne n]
    exact e
  have wP : H P = none ∨ ∃ u, H P = some u ∧ wr u = true := .inr ⟨_, hP, rfl⟩
  have wc : (upd H P (.tbl (ps ++ more))) c = none ∨ ∃ u, (upd H P (.tbl (ps ++ more))) c = some u ∧ wr u = true := .inl (by rw [upd_ne cP.symm]; exact hc)
  have inP : P ∈ φ := List.mem_of_getElem? hi
  have e : Ex K H φ (upd (upd H P (.tbl (ps ++ more))) c (LamX.CodeO c q)) φ := by
    refine ⟨⟨[], by simp, by simp⟩, fun a vs h => SqT.upd (SqT.upd h wP) wc, fun a vs h => Fz.upd (Fz.upd h wP) wc, fun b o h n => far h fun z => n (z ▸ inP), fun b _ h => ?_⟩
    have nb : b ≠ P := fun z => h ps (z ▸ hP)
    refine nt_upd (fun ps' z => ?_) LamX.codeO_ne
    rw [upd_ne nb] at z
    exact h ps' z
  refine ⟨e, rs.len, rs.nd, fun j a o h1 h2 => ?_⟩
  have w := rs.ob j a o h1 h2
  cases o with
  | lst ds =>
    obtain ⟨vs, w1, w2⟩ := w
    refine ⟨vs, far w1 fun z => ?_, Rls.mono e _ _ w2⟩
    rw [z, hP] at w1
    cases w1
  | tab P2 q2 =>
    obtain ⟨rfl, w2⟩ := w
    by_cases hj : a = P
    · subst hj
      have : i = j := by
        obtain ⟨l1, g1⟩ := List.getElem?_eq_some_iff.mp hi
        obtain ⟨l2, g2⟩ := List.getElem?_eq_some_iff.mp h1
        exact (List.getElem_inj rs.nd).mp (g1.trans g2.symm)
      subst this
      rw [hS] at h2
      cases h2
      exact ⟨rfl, t1⟩
    · refine ⟨rfl, tab_to w2 ?_ fun c2 hc2 => far hc2 fun z => ?_⟩
      · obtain ⟨ps2, g, _⟩ := id w2
        rw [far g hj, g]
      · rw [z, hP] at hc2
        exact LamX.codeO_ne _ (Option.some.inj hc2).symm
end
/-! sorted(rows, key=lambda x: x[::-1]) of rows of ints -/
def rowsI : List D → Option (List (List Int))
  | [] => some []
  | .tup ds :: r => match intsD ds with
    | some ns => match rowsI r with
      | some Z => some (ns :: Z)
      | none => none
    | none => none
  | _ => none
theorem rowsI_eq : ∀ {ds : List D} {Z : List (List Int)}, rowsI ds = some Z → ds = rowsD Z
  | [], Z, h => by cases h; rfl
  | .tup es :: r, Z, h => by
    unfold rowsI at h
    split at h
    · rename_i ns h1
      split at h
      · rename_i Z' h2
        cases h
        rw [intsD_eq h1, rowsI_eq h2]
        rfl
      · cases h
    · cases h
  | .non :: _, _, h => by cases h
  | .bl _ :: _, _, h => by cases h
  | .int _ :: _, _, h => by cases h
  | .str _ :: _, _, h => by cases h
  | .ty _ :: _, _, h => by cases h
  | .adr _ :: _, _, h => by cases h
  | .fzl _ :: _, _, h => by cases h
  | .ref _ :: _, _, h => by cases h
theorem rowsI_map : ∀ Z : List (List Int), rowsI (rowsD Z) = some Z
  | [] => rfl
  | z :: Z => by
    show rowsI (.tup (z.map .int) :: rowsD Z) = _
    rw [rowsI, intsD_map, rowsI_map Z]
def revP (z : List Int) : PyData := .tuple (z.reverse.map .int)
def leRev : List Int → List Int → Bool := PySem.W.dataLe false revP
def gSortR : DF := fun xs S => match xs with
  | [d] => match lstOf S d with
    | some ds => match rowsI ds with
      | some Z => if okSort (Z.map revP) && decide (ds.length ≤ sizeLine) then some (.ref S.length, S ++ [.lst (rowsD (isort leRev Z))]) else none
      | none => none
    | none => none
  | _ => none
def isTab (S : Sto) (i : Nat) (P : Addr) (q : Str) : Bool := match S[i]? with
  | some (.tab P' q') => decide (P' = P ∧ q' = q)
  | _ => false
theorem isTab_of {S : Sto} {i : Nat} {P : Addr} {q : Str} (h : isTab S i P q = true) : S[i]? = some (.tab P q) := by
  unfold isTab at h
  split at h
  · rename_i P' q' e
    obtain ⟨rfl, rfl⟩ := of_decide_eq_true h
    exact e
  · cases h
def dSortR (P : Addr) (q : Str) (i : Nat) (f : DE) : DE := fun ρ S => match f ρ S with
  | some (x, S1) => if isTab S1 i P q then gSortR [x] S1 else none
  | none => none
theorem gSortR_inv {y d : D} {S S' : Sto} (h : gSortR [y] S = some (d, S')) : ∃ ds Z, lstOf S y = some ds ∧ rowsI ds = some Z ∧ (okSort (Z.map revP) && decide (ds.length ≤ sizeLine)) = true ∧ d = .ref S.length ∧ S' = S ++ [.lst (rowsD (isort leRev Z))] := by
  unfold gSortR at h
  simp only at h
  cases h1 : lstOf S y with
  | none => rw [h1] at h; cases h
  | some ds =>
    rw [h1] at h
    simp only at h
    cases h2 : rowsI ds with
    | none => rw [h2] at h; cases h
    | some Z =>
      rw [h2] at h
      simp only at h
      by_cases h3 : (okSort (Z.map revP) && decide (ds.length ≤ sizeLine)) = true
      · rw [if_pos h3] at h
        cases h
        exact ⟨ds, Z, rfl, h2, h3, rfl, rfl⟩
      · rw [if_neg h3] at h
        cases h
theorem readsInts {h : Heap} : ∀ {us : List Value} {ns : List Int}, IntsAre us ns → ReadsAll h us (ns.map .int) []
  | _, _, .nil => .nil
  | _, _, .cons _ _ t => .cons (.int _ _) (readsInts t)
theorem ints_rev {us : List Value} {ns : List Int} (h : IntsAre us ns) : IntsAre us.reverse ns.reverse := PyProof.Rows.IntsAre.reverse h
section
variable {X : Cx} {pins : List (Addr × Obj)} {σ : L2.St} {H : Hp} {φ : List Addr} {s : Shared}
/-- a row of ints as the sort meets it -/
def RowR (X : Cx) (H : Hp) (φ : List Addr) (h : Heap) (u : Value) (z : List Int) : Prop := ∃ (t : Addr) (its : List Value), u = .ref t ∧ IsTup h t its.toArray ∧ IntsAre its z ∧ its.length ≤ sizeLine ∧ Rl X.K H φ (.ref t) (.tup (z.map .int))
theorem each_rows (I : Inv X pins σ H s) : ∀ {Z : List (List Int)} {vs : List V} {us : List Value}, Rls X.K H φ vs (rowsD Z) → Vals vs us → PySem.W.EachIs (RowR X H φ s.heap) us Z
  | [], vs, us, l, r => by
    cases l
    cases r
    exact .nil
  | z :: Z, vs, us, l, r => by
    cases l with
    | cons l1 l2 =>
      cases r with
      | cons r1 r2 =>
        refine .cons ?_ (each_rows I l2 r2)
        have l1' := l1
        cases l1 with
        | tup h1 h2 =>
          obtain ⟨its, rv, ht, hz⟩ := I.tuple h1
          have e := Rls.ints h2
          subst e
          cases r1
          exact ⟨_, its, rfl, ht, rv.ints, by rw [← rv.length]; exact hz, l1'⟩
theorem each_back : ∀ {out : List Value} {Z : List (List Int)} {h : Heap}, PySem.W.EachIs (RowR X H φ h) out Z → ∃ xs, Vals xs out ∧ Rls X.K H φ xs (rowsD Z)
  | _, _, _, .nil => ⟨[], .nil, .nil⟩
  | _, _, _, .cons a b => by
    obtain ⟨t, its, rfl, _, _, _, l⟩ := a
    obtain ⟨xs, h1, h2⟩ := each_back b
    exact ⟨.ref t :: xs, .cons rfl h1, .cons l h2⟩
theorem we_sortR {e : Expr} {f : DE} {c P : Addr} {q x : Str} {i k : Nat} {params : Arguments} {scope : Scope} {p pos lpos kpos p1 p2 p3 p4 p5 : Pos} (hf : PE X e (tD X.K f)) (hg : Gl X "sorted") (hm : X.mg "sorted" = none) (hr : Room 0 X.A)
    (TB : LamX.TabB X.base X.mg c P) (hcode : X.env.code = .ref c) (hq : X.env.qual ++ "<lambda>" = q) (L : Lam1 scope x) (nodef : defaultsOf params X.env = ([], [])) (fr : ∀ y ∈ scope.names, y.2 = .free → ∃ c, X.env.cells.lookup y.1 = some c)
    (hb : ∀ (cl : List (Str × Addr)) (pm cv ctv v : Value), bindArgs (PySem.W.kla_fn "<lambda>" q params (revBody x p1 p2 p3 p4 p5 k) scope cl pm cv ctv) ⟨[v], []⟩ = pure [(x, v)])
    (he : backTo pos (starEach [e] X.env) = (false, eval e X.env) :: backTo pos (starEach [] X.env) := by rfl) (hpl : (backTo pos (starEach [e] X.env)).any (·.1) = false := by rfl) (hs : starEach [e] X.env = (false, eval e X.env) :: starEach [] X.env := by rfl) :
    PE X (.Call (.Name "sorted" p) [e] [⟨some "key", .Lambda params (revBody x p1 p2 p3 p4 p5 k) scope lpos, kpos⟩] pos) (tD X.K (dSortR P q i f)) := by
  subst hq
  refine ⟨fun pins s σ H Q I h => ?_⟩
  obtain ⟨φ, ρ, S, d, S', re, rs, hd, w⟩ := h
  unfold dSortR at hd
  split at hd
  · rename_i y S1 h1
    split at hd
    · rename_i hT
      have hS := isTab_of hT
      obtain ⟨ds, Z, g1, g2, g3, rfl, rfl⟩ := gSortR_inv hd
      rw [Bool.and_eq_true, decide_eq_true_eq] at g3
      obtain ⟨z1, z2, z3⟩ := okSort_ok g3.1
      have hrows := rowsI_eq g2
      refine wpAny_Call_Name_kw (ld_blt I hg hm (by rfl) ?_)
      have ha := wa_cons hf wa_nil (hs := hs)
      refine PyProof.Rows.callWith_kw (thn (ha.run pos pins s σ H (fun vs H1 => ∃ φ1, Ex X.K H φ H1 φ1 ∧ RS X.K H1 φ1 S1 ∧ Rls X.K H1 φ1 vs [y]) I ⟨φ, ρ, S, [y], S1, re, rs, by unfold daCons daNil; rw [h1], fun vs H1 φ1 e1 r1 l1 => ⟨φ1, e1, r1, l1⟩⟩) fun us s1 ⟨vs, H1, I1, r1, q1⟩ => ?_) he hpl rfl rfl
      obtain ⟨φ1, e1, rs1, l1⟩ := q1
      obtain ⟨v, rfl, lv⟩ := l1.one_inv
      obtain ⟨u, rfl, ru⟩ := r1.one
      show wpAny _ _ (evalAll ((do let v ← eval (.Lambda params (revBody x p1 p2 p3 p4 p5 k) scope lpos) X.env; standAt pos; pure v) :: [])) _ _ s1
      have hi : φ1[i]? = some P := by
        have hl : i < φ1.length := by rw [rs1.len]; exact (List.getElem?_eq_some_iff.mp hS).1
        obtain ⟨ea, _⟩ := rs1.ob i φ1[i] _ (List.getElem?_eq_getElem hl) hS
        rw [List.getElem?_eq_getElem hl, ea]
      obtain ⟨_, tt⟩ := rs1.ob i P _ hi hS
      refine wpAny_evalAll_cons (wpAny_bind (lam_mk I1 TB hcode tt nodef fr fun fo c' pm ctv H2 s2 I2 md t1 hc2 nf hof => wpAny_bind (wpAny_standAt (wpAny_pure (wpAny_evalAll_nil ?_)))))
      obtain ⟨e2, rs2⟩ := made_ok rs1 hi hS md t1
      obtain ⟨l, ws, rfl, hq, hrr⟩ := lstOf_ok rs2 (Rl.mono e2 _ _ lv) g1
      have eu : u = Value.ref l := ru
      subst eu
      obtain ⟨its, rv, hl, hzz⟩ := I2.list hq
      subst hrows
      have ea := each_rows I2 hrr rv
      have hlen : Z.length ≤ sizeLine := by have := g3.2; unfold rowsD at this; rw [List.length_map] at this; exact this
      show wpAny _ _ (call (.builtin "sorted") [.ref l] [(Str.ofString "key", .ref fo)]) _ _ _
      refine PySem.W.sorted_key_data (b := false) (k := revP) hl.isList ea z1 z2 hlen (fun z hz => ?_) (PyProof.Rows.ksk_s1 _ _) (fun _ => PyProof.Rows.ksk_l1 _ _) (fun _ => PyProof.Rows.ksk_t1 _ _) (fun v z hR hz h tk kp => ?_) fun out cc h' tk kp fresh hD ho eo => ?_
      · have := z3 _ (List.mem_map_of_mem (f := revP) hz)
        have := hr.un
        omega
      · obtain ⟨t, zs, rfl, ht, hz1, hz2, _⟩ := hR
        obtain ⟨⟨oc, vs2, t2, k1, k2, k3⟩, _, _⟩ := I2.hok c' _ hc2
        obtain ⟨o, t3, t4, n, t5⟩ := ht
        refine lam_rev (s := { s2 with heap := h, toks := tk }) (kp _ _ hof) ⟨c', oc, vs2, t2, rfl, kp _ _ k1, k2, k3⟩ ?_ (I2.nolimit.keeps kp) L (hb _ _ _ _) ⟨o, kp _ _ t3, t4, n, t5⟩ hz2 fun h2 tk2 a kp2 ht2 => ?_
        · have := hr.dp
          show X.A.depth < recursionLimit
          omega
        · obtain ⟨o2, b1, b2, n2, b3⟩ := ht2
          exact ⟨h2, tk2, rfl, kp2, .tuple b1 b2 b3 (readsInts (ints_rev hz1))⟩
      · have eo : PySem.W.EachIs (RowR X H2 φ1 s2.heap) out (Z.mergeSort leRev) := eo
        rw [← isort_eq (le := leRev) (PySem.W.sortLe_total _ false _)] at eo
        obtain ⟨ys, y1, y2⟩ := each_back eo
        have hn : H2 (s2.heap.objs.size + 1) = none := I2.hok.fresh (Nat.le_succ _)
        obtain ⟨x1, x2, x3⟩ := ext_lst rs2 hn y2
        refine ⟨.ref _, upd H2 (s2.heap.objs.size + 1) (.lst ys), I2.laid (t' := tk) kp (Nat.le_succ _) ⟨?_, out, cc, y1, hD⟩, rfl, w _ _ _ (e1.trans (e2.trans x1)) x2 x3⟩
        rw [y1.length, ho]
        exact hlen
    · cases hd
  · cases hd
end
end Ev

set_option maxHeartbeats 1000000
/-! EvY: a law's end where lambdas are made: their tables stand in the store. -/
namespace Ev
open PySem PySem.Spec PyProof.Rows L2
section
variable {P : Program} {w : World} {K : PySem.W.Frag} {mg mb : Str → Option Value} {k : Nat} {fa a : Addr} {fd : FuncData} {x : Str} {sp : Sp} {s1 : Shared} {vs : List Value} {cs : List (Addr × Addr)}
theorem end_coreT {H : Hp} (inK : K.In s1.heap) (gl : s1.heap.Ns mainGlobals mg) (bl : s1.heap.Ns builtinsNs mb) (bb : ∀ x : Str, x ≠ "__name__" → mb x = bootBuiltins x) (lim : s1.heap.NoLimit) (ge : s1.gens = #[])
    (hT : ∀ p ∈ cs, s1.heap.get? p.2 = some { cls := .none, data := .fields #[] }) (nT : ∀ p ∈ cs, K.lookup p.2 = none) (hC : ∀ p ∈ cs, PySem.W.CodeHd s1.heap p.1 p.2)
    (main : ∃ (bm : Addr) (ob : Obj), mg "__builtins__" = some (.ref bm) ∧ bm ≠ builtinsNs ∧ s1.heap.get? bm = some ob ∧ ob.cls = .type "module" ∧ ob.dict = some builtinsNs ∧ ob.data = .plain)
    (ha : s1.heap.get? a = some { cls := .type "list", data := .seq vs.toArray }) (hr : Room k callerA)
    (F : ∀ base : Heap, K.In base → base.Ns mainGlobals mg → (∀ p ∈ cs, LamX.TabB base mg p.1 p.2) → FnG P w K mg base k fa fd [x] sp) (hbind : ∀ (s : Shared) (u : Value), BindsTo s fd ⟨[u], []⟩ [(x, u)])
    (hsp : sp [.ref a] H (fun v _ => v = .bl true) fun _ _ _ => False) (hH : ∀ p ∈ cs, H p.2 = some (.tbl #[]))
    (hO : ∀ b u, H b = some u → (∃ p ∈ cs, b = p.2) ∨ (b = a ∧ ∃ ob xs, u = .frz ob (.lst xs))) (hok : HOk P w H s1.heap) (hK : H a ≠ none → K.lookup a = none) :
    codeAny (model P w) callerA (.call (.ref fa) ⟨[.ref a], []⟩) (fun r s' => r = .ok (.ret (.bool true)) ∧ OldK s1.heap s'.heap ∧ s'.os = s1.os ∧ AllBare s'.gens) s1 := by
  -- what is neither an empty table nor a list stands in the base
  have bare : ∀ {b : Addr} {o : Obj}, s1.heap.get? b = some o → o.data ≠ .fields #[] → (∀ ys n, o.data ≠ .seq ys n) → H b = none := fun {b o} e n1 n2 => by
    rcases q : H b with _ | u
    · rfl
    · rcases hO b u q with ⟨p, hp, rfl⟩ | ⟨rfl, _⟩
      · rw [hT p hp] at e
        cases e
        exact (n1 rfl).elim
      · rw [ha] at e
        cases e
        exact (n2 _ _ rfl).elim
  have seen : ∀ {b : Addr} {o : Obj}, s1.heap.get? b = some o → H b = none → (hidT s1.heap H).get? b = some o := fun e n => hidT_get e n
  have space : ∀ {b : Addr} {m : Str → Option Value}, s1.heap.Ns b m → (hidT s1.heap H).Ns b m := by
    rintro b m ⟨o, es, ep, e, d, r⟩
    exact ⟨o, es, ep, seen e (bare e (fun z => by rw [d] at z; cases z) fun ys n z => by rw [d] at z; cases z), d, r⟩
  have inB : K.In (hidT s1.heap H) := fun b o e => seen (inK b o e) (by
    rcases q : H b with _ | u
    · rfl
    · rcases hO b u q with ⟨p, hp, rfl⟩ | ⟨rfl, _⟩
      · rw [nT p hp] at e
        cases e
      · rw [hK (by rw [q]; exact fun z => by cases z)] at e
        cases e)
  have md : Mod K mg (hidT s1.heap H) := ⟨inB, space gl, ⟨mb, space bl, bb⟩, by
    obtain ⟨mc, h1, h2⟩ := lim
    exact ⟨mc, space h1, h2⟩⟩
  have tabs : ∀ p ∈ cs, LamX.TabB (hidT s1.heap H) mg p.1 p.2 := by
    intro p hp
    have hTp := hT p hp
    refine ⟨?_, ?_, ?_⟩
    · obtain ⟨o, us, file, tf, flags, tg, inF, text, tt, e1, r1, r2, r3, r4, r5, r6, r7, r8, hne⟩ := hC p hp
      refine ⟨o, us, file, tf, flags, tg, inF, text, tt, seen e1 (bare e1 (fun z => ?_) fun ys n z => ?_), r1, r2, r3, r4, r5, r6, r7, r8, hne⟩
      · rw [r2] at z
        cases z
        simp at r3
      · rw [r2] at z
        cases z
    · obtain ⟨bm, ob, b1, b2, b3, b4, b5, b6⟩ := main
      refine ⟨bm, ob, b1, b2, fun q => ?_, fun q => ?_, seen b3 (bare b3 (fun z => by rw [b6] at z; cases z) fun ys n z => by rw [b6] at z; cases z), b4, b5, b6⟩
      · obtain ⟨o, es, ep, e, d, _⟩ := gl
        rw [q, e] at b3
        cases b3
        rw [d] at b6
        cases b6
      · rw [q, hTp] at b3
        cases b3
        cases b6
    · intro z
      obtain ⟨o, es, ep, e, d, _⟩ := gl
      rw [z, hTp] at e
      cases e
      cases d
  have e0 : Env0 P w K mg (hidT s1.heap H) callerA [] s1 H := ⟨rfl, md, fun b o e => of_hidT e, Nat.le_of_eq (hidT_size _ _), trivial, fun b hb => absurd hb (show ¬ b ∈ ([] : List Addr) from by simp), hok, AllBare.of_eq ge⟩
  refine codeAny_mono ((F _ inB (space gl) tabs).run callerA [] s1 H ⟨[.ref a], []⟩ [.ref a] [.ref a] _ rfl hr e0 (hbind s1 _) (.cons rfl .nil) hsp) ?_
  intro r s' h
  match r, h with
  | .error e, h => exact (show False from h).elim
  | .ok .next, h => exact (show False from h).elim
  | .ok .brk, h => exact (show False from h).elim
  | .ok .cont, h => exact (show False from h).elim
  | .ok (.ret u), h =>
    obtain ⟨v, H', os, bare', un, hok', rv, q⟩ := h
    have e1 : v = .bl true := q
    subst e1
    have e2 : u = Value.bool true := rv
    subst e2
    -- what is no table stays as it was
    have stay : ∀ b o, (¬ ∃ p ∈ cs, b = p.2) → s1.heap.get? b = some o → s'.heap.get? b = some o := fun b o nb e => by
      rcases q2 : H b with _ | u
      · exact un.keep b o e q2 (by intro z; cases z) (by simp)
      · rcases hO b u q2 with z | ⟨rfl, ob, xs, rfl⟩
        · exact (nb z).elim
        · have t1 := (hok _ _ q2).1
          have t2 := (hok' _ _ (un.frzs _ ob _ q2)).1
          rw [e] at t1
          cases t1
          exact t2
    have grow : ∀ p ∈ cs, ∃ more : Array Value, s'.heap.get? p.2 = some { cls := .none, data := .fields more } := fun p hp => by
      obtain ⟨more, z⟩ := un.tbls p.2 #[] (hH p hp)
      exact ⟨_, hok' p.2 _ z⟩
    refine ⟨rfl, ⟨fun b o e => ?_, fun b o e => ?_⟩, os, bare'⟩
    · by_cases hb : ∃ p ∈ cs, b = p.2
      · obtain ⟨p, hp, rfl⟩ := hb
        obtain ⟨more, hm⟩ := grow p hp
        rw [hT p hp] at e
        cases e
        exact .inr (.inl ⟨((hC p hp).tab (hT p hp)).isCodeTable, rfl, #[], more, rfl, by rw [Array.empty_append]; exact hm⟩)
      · exact .inl (stay b o hb e)
    · by_cases hb : ∃ p ∈ cs, b = p.2
      · obtain ⟨p, hp, rfl⟩ := hb
        obtain ⟨more, hm⟩ := grow p hp
        exact ⟨_, hm⟩
      · exact ⟨o, stay b o hb e⟩
end
/-- the tables at the start: code object, table, the name in it -/
abbrev Ts3 := List (Addr × Addr × Str)
def stoT (ts : Ts3) : Sto := ts.map fun t => .tab t.2.1 t.2.2
theorem rs_tabs {K : PySem.W.Frag} {H : Hp} {ts : Ts3} (nd : (ts.map (·.2.1)).Nodup) (h : ∀ t ∈ ts, H t.2.1 = some (.tbl #[])) : RS K H (ts.map (·.2.1)) (stoT ts) := by
  refine ⟨by unfold stoT; rw [List.length_map, List.length_map], nd, fun i a o h1 h2 => ?_⟩
  unfold stoT at h2
  rw [List.getElem?_map] at h1 h2
  rcases q : ts[i]? with _ | t
  · rw [q] at h1
    cases h1
  · rw [q] at h1 h2
    cases h1
    cases h2
    exact ⟨rfl, LamX.TabS.nil (h t (List.mem_of_getElem? q))⟩
/-- what the head leaves, from what the law's def is worth -/
theorem end_ofT {l : PySem.W.OpenLaw} {n k : Nat} {q : Program} {loose : List Str} {XP : (Str → Option Value) → Heap → Prop} {YP : World → Heap → Prop} {d : DefRec} {K : Params → PySem.W.Frag} {x : Str} {m : DF} (ts : Ts3) (nd : (ts.map (·.2.1)).Nodup)
    (hn : l.most = some n) (hn2 : n ≤ sizeLine) (hdf : d.params.defaults = []) (hr : Room k callerA) (hY : ∀ (w : World) (h : Heap), YP w h → (K w.params).In h)
    (hYT : ∀ (w : World) (h : Heap), YP w h → ∀ t ∈ ts, h.get? t.2.1 = some { cls := .none, data := .fields #[] })
    (hKT : ∀ (w : World), ∀ t ∈ ts, (K w.params).lookup t.2.1 = none ∧ PySem.W.codeHdIn (K w.params) t.1 t.2.1 = true)
    (F : ∀ (w : World) (mg : Str → Option Value) (fa : Addr) (h : Heap), (K w.params).In h → h.Ns mainGlobals mg → mg d.name = some (.ref fa) →
      ∃ fd : FuncData, (∀ (s : Shared) (u : Value), BindsTo s fd ⟨[u], []⟩ [(x, u)]) ∧ ∀ base : Heap, (K w.params).In base → base.Ns mainGlobals mg → (∀ t ∈ ts, LamX.TabB base mg t.1 t.2.1) → FnG l.prog w (K w.params) mg base k fa fd [x] (spD (K w.params) 1 m))
    (hm : ∀ ns : List Int, ns.length ≤ n → ∃ S', m [.fzl (ns.map .int)] (stoT ts) = some (.bl true, S')) : PySem.W.WalkO q loose XP YP l.row.toRowW d [] (fun f vs => PySem.call f vs) := by
  refine Att.attach_call hn hdf ?_
  intro w s₀ s1 mg mb fa o pm cd doc a vs ns G Y ho hd hcd hmg hobj hints hlen hg
  have inK := hY w _ Y
  have hT := hYT w _ Y
  obtain ⟨fd, hb, hF⟩ := F w mg fa _ inK G.T.g hmg
  have rv := vals_ints hints
  have lenV := hints.length
  have na : ∀ t ∈ ts, t.2.1 ≠ a := fun t ht z => by
    have e := hT t ht
    rw [z, hobj] at e
    cases e
  have promise : ∀ H : Hp, Fz (K w.params) H a (ns.map V.int) → (∀ t ∈ ts, H t.2.1 = some (.tbl #[])) → spD (K w.params) 1 m [.ref a] H (fun v _ => v = .bl true) fun _ _ _ => False := fun H hz hh => by
    obtain ⟨S', e⟩ := hm ns hlen
    refine ⟨rfl, _, _, _, _, S', rs_tabs nd hh, .cons (.fzl hz (rls_ints ns)) .nil, e, fun v H' φ' _ _ l => ?_⟩
    cases l
    rfl
  have core : ∀ H : Hp, Fz (K w.params) H a (ns.map V.int) → (∀ t ∈ ts, H t.2.1 = some (.tbl #[])) → (∀ b u, H b = some u → (∃ t ∈ ts, b = t.2.1) ∨ (b = a ∧ ∃ ob xs, u = .frz ob (.lst xs))) → HOk l.prog w H s1.heap → (H a ≠ none → (K w.params).lookup a = none) →
      codeAny (model l.prog w) callerA (.call (.ref fa) ⟨[.ref a], []⟩) (fun r s' => r = .ok (.ret (.bool true)) ∧ OldK s1.heap s'.heap ∧ s'.os = s1.os ∧ AllBare s'.gens) s1 := fun H hz hh hO hok hK => by
    refine end_coreT (cs := ts.map fun t => (t.1, t.2.1)) inK G.T.g G.T.b G.T.builtins G.T.nolimit hg ?_ ?_ ?_ G.T.bmain hobj hr (fun base h1 h2 h3 => hF base h1 h2 fun t ht => h3 (t.1, t.2.1) (List.mem_map.mpr ⟨t, ht, rfl⟩)) hb (promise H hz hh) ?_ ?_ hok hK
    · intro p hp
      obtain ⟨t, ht, rfl⟩ := List.mem_map.mp hp
      exact hT t ht
    · intro p hp
      obtain ⟨t, ht, rfl⟩ := List.mem_map.mp hp
      exact (hKT w t ht).1
    · intro p hp
      obtain ⟨t, ht, rfl⟩ := List.mem_map.mp hp
      exact PySem.W.codeHd_of_K inK (hKT w t ht).2
    · intro p hp
      obtain ⟨t, ht, rfl⟩ := List.mem_map.mp hp
      exact hh t ht
    · intro b u e
      rcases hO b u e with ⟨t, ht, rfl⟩ | z
      · exact .inl ⟨(t.1, t.2.1), List.mem_map.mpr ⟨t, ht, rfl⟩, rfl⟩
      · exact .inr z
  have isP : ∀ b, (∃ t ∈ ts, b = t.2.1) → b ≠ a ∧ s1.heap.get? b = some { cls := .none, data := .fields #[] } := by
    rintro b ⟨t, ht, rfl⟩
    exact ⟨na t ht, hT t ht⟩
  classical
  rcases hk : (K w.params).lookup a with _ | o2
  · refine core (fun b => if b = a then some (.frz { cls := .type "list", data := .seq vs.toArray } (.lst (ns.map V.int))) else if ∃ t ∈ ts, b = t.2.1 then some (.tbl #[]) else none) (.inl ⟨_, if_pos rfl⟩) (fun t ht => ?_) (fun b u z => ?_) (fun b u z => ?_) fun _ => hk
    · show (if t.2.1 = a then _ else _) = _
      rw [if_neg (na t ht), if_pos ⟨t, ht, rfl⟩]
    · by_cases hb : b = a
      · have z' := (if_pos hb).symm.trans z
        cases z'
        exact .inr ⟨hb, _, _, rfl⟩
      · have z1 := (if_neg hb).symm.trans z
        by_cases hp : ∃ t ∈ ts, b = t.2.1
        · exact .inl hp
        · have z' := (if_neg hp).symm.trans z1
          cases z'
    · by_cases hb : b = a
      · have z' := (if_pos hb).symm.trans z
        cases z'
        subst hb
        exact ⟨hobj, by rw [List.length_map]; exact Nat.le_trans hlen hn2, vs, _, rv, hobj⟩
      · have z1 := (if_neg hb).symm.trans z
        by_cases hp : ∃ t ∈ ts, b = t.2.1
        · have z' := (if_pos hp).symm.trans z1
          cases z'
          exact (isP b hp).2
        · have z' := (if_neg hp).symm.trans z1
          cases z'
  · have e := inK a o2 hk
    rw [hobj] at e
    cases e
    refine core (fun b => if ∃ t ∈ ts, b = t.2.1 then some (.tbl #[]) else none) (.inr ⟨_, vs.toArray, _, hk, rfl, rfl, rfl, ?_, by simpa using rv⟩) (fun t ht => if_pos ⟨t, ht, rfl⟩) (fun b u z => ?_) (fun b u z => ?_) fun z => ?_
    · rw [List.size_toArray, lenV]
      exact Nat.le_trans hlen hn2
    · by_cases hp : ∃ t ∈ ts, b = t.2.1
      · exact .inl hp
      · have z' := (if_neg hp).symm.trans z
        cases z'
    · by_cases hp : ∃ t ∈ ts, b = t.2.1
      · have z' := (if_pos hp).symm.trans z
        cases z'
        exact (isP b hp).2
      · have z' := (if_neg hp).symm.trans z
        cases z'
    · exact (z (if_neg fun hp => (isP a hp).1 rfl)).elim
end Ev

set_option maxHeartbeats 1000000
/-! EvZ: a def that makes lambdas. -/
namespace Ev
open PySem PySem.Spec PyProof.Rows L2
section
variable {P : Program} {w : World} {K : PySem.W.Frag} {mg : Str → Option Value} {base : Heap}
/-- a def by its body, its code object told -/
theorem FnG.ofC {x qual : Str} {st : Stmt} {f c : Addr} {fd : FuncData} {N ps : List Str} {k : Nat} {sp : Sp} (F : Fun K x qual st f fd) (hc : fd.code = .ref c) (Sc : FnScope N ps (defScope st)) (len : ∀ vs H Q E, sp vs H Q E → vs.length = ps.length)
    (hbody : ∀ (A : Around) (outer : List Env) (s : Shared) (H : Hp) (vs : List V) (Q : VK), A.guards = some [] → Room k (A.deeper (envOfC qual (defScope st) s.heap.objs.size f (.ref c))) → sp vs H Q (fun _ _ _ => False) →
      ∃ t, PSs (cxOf CX0 P w K mg base N qual (defScope st) f (.ref c) A outer s H fun _ _ _ => False).nox (defBody st) t ∧ t { nx := fun _ H' => Q .non H', rt := Q } (L2.start N vs) H) :
    FnG P w K mg base (k + 1) f fd ps sp := by
  obtain ⟨oc, od, kV, doc, pm, an, cdv, ct, osl, rfl, lk, hcd⟩ := F.ex
  obtain rfl : cdv = .ref c := hc
  refine ⟨len, ?_⟩
  intro A outer s H args us vs Q hg hr e0 hb rv hsp
  have lenV := len _ _ _ _ hsp
  have inK : K.In s.heap := e0.mod.kin.keeps fun b o q => (e0.bs b o q).1
  have limS : s.heap.NoLimit := e0.mod.nolimit.keeps fun b o q => (e0.bs b o q).1
  have kinds : ∀ y ∈ ps.zip us, (defScope st).names.lookup y.1 = some .local ∨ ((defScope st).names.lookup y.1 = some .cell ∧ ((cellsFrom (s.heap.objs.size + 1) (defScope st).names []).lookup y.1).isSome = true) := by
    rintro ⟨n, v⟩ hy
    cases Sc.par n (List.of_mem_zip hy).1 with
    | inl q => exact Or.inl q
    | inr q => exact Or.inr ⟨q, PySem.W.cellsFrom_some _ _ _ (Or.inl q)⟩
  refine codeAny_call_function hr.depth (inK _ _ lk) rfl Sc.co Sc.gen rfl (PySem.W.codeRec_of inK hcd) (hb _ _ _ _ (wpAny_newFunctionEnv_cells Sc.kind kinds ?_))
  intro env he s1 x
  subst he
  refine ⟨limS.keeps x.toInCall.keep, codeAny_func ?_⟩
  obtain ⟨t, ht, hq⟩ := hbody A outer s H vs Q hg (hr.deeper _) hsp
  have I0 : Inv (cxOf CX0 P w K mg base N qual (defScope st) f (.ref c) A outer s H fun _ _ _ => False) [] (L2.start N vs) H s1 := inv_start Sc hr.hd e0 lenV rv x
  refine wpAny_mono (ht.nox.run [] s1 (L2.start N vs) H _ I0 hq) ?_ fun e s' z => z
  intro fl s' z
  cases fl with
  | next =>
    obtain ⟨σ', H', J, q⟩ := z
    exact ⟨V.non, H', J.os, J.bare, J.base, J.hok, rfl, q⟩
  | ret u =>
    obtain ⟨v, σ', H', J, r1, q⟩ := z
    exact ⟨v, H', J.os, J.bare, J.base, J.hok, r1, q⟩
  | cont => exact z.elim fun _ q => q.elim fun _ q => (show False from q.2).elim
  | brk => exact z.elim fun _ q => q.elim fun _ q => (show False from q.2).elim
theorem fd_mkC {x qual : Str} {st : Stmt} {f c : Addr} {fd : FuncData} {N ps : List Str} {k : Nat} {den : DS} (F : Fun K x qual st f fd) (hc : fd.code = .ref c) (Sc : FnScope N ps (defScope st)) (hm : mg x = some (.ref f)) (hb : Binds K fd ps [])
    (hbody : ∀ (A : Around) (outer : List Env) (s : Shared) (H : Hp), A.guards = some [] → Room k (A.deeper (envOfC qual (defScope st) s.heap.objs.size f (.ref c))) → PSs (cxOf CX0 P w K mg base N qual (defScope st) f (.ref c) A outer s H fun _ _ _ => False).nox (defBody st) (tS K den)) :
    Fd P w K mg base (k + 1) x ps (run N.length den) := by
  refine ⟨f, fd, hm, F.kp, (by obtain ⟨oc, od, kV, doc, pm, an, cdv, ct, osl, _, lk, _⟩ := F.ex; exact ⟨oc, od, osl, lk⟩), hb, FnG.ofC F hc Sc (fun vs H Q E h => h.1) fun A outer s H vs Q hg hr h => ⟨_, hbody A outer s H hg hr, ?_⟩⟩
  obtain ⟨hl, φ, S, ds, d, S', rs, rl, hd, w⟩ := h
  unfold run at hd
  split at hd
  · rename_i d1 S1 h1
    cases hd
    exact ⟨φ, _, S, _, RE.start rl, rs, h1, w⟩
  · rename_i ρ1 S1 h1
    cases hd
    exact ⟨φ, _, S, _, RE.start rl, rs, h1, fun σ' H' φ' e re r => w _ _ _ e r .non⟩
  · cases hd
structure AtFC (K : PySem.W.Frag) (x : Str) (st : Stmt) (c : Addr) : Prop where
  ex : ∃ (f : Addr) (fd : FuncData), PySem.W.nsIn K mainGlobals x = some (some (.ref f)) ∧ Fun K x x st f fd ∧ fd.code = .ref c
theorem at_mkC {x : Str} {st : Stmt} {f c : Addr} {oc : Value} {od an : Option Addr} {osl : Array (Option Value)} {kV doc pm ct : Value} (a : PySem.W.nsIn K mainGlobals x = some (some (.ref f)))
    (l : K.lookup f = some ⟨oc, od, .func (PySem.W.fnOf x x (defArgs st) (defBody st) (defScope st) .none kV doc pm an (.ref c) ct), osl⟩) (h : PySem.W.codeIn K (.ref c) x = true) (k : PySem.W.keepIn K (.ref f) = true) : AtFC K x st c := ⟨f, _, a, fun_mk l h k, rfl⟩
end
def lam1B (scope : Scope) (x : Str) : Bool := decide (scope.kind = .function) && !scope.isCoroutine && !scope.isGenerator && (scope.names.all fun y => !decide (y.2 = .cell)) && decide (scope.names.lookup x = some .local) && !(x == ("__debug__" : Str))
theorem lam1_of {scope : Scope} {x : Str} (h : lam1B scope x = true) : Lam1 scope x := by
  unfold lam1B at h
  simp only [Bool.and_eq_true, Bool.not_eq_true', decide_eq_true_eq, List.all_eq_true, decide_eq_false_iff_not] at h
  obtain ⟨⟨⟨⟨⟨h1, h2⟩, h3⟩, h4⟩, h5⟩, h6⟩ := h
  exact ⟨h1, h2, h3, h4, h5, h6⟩
theorem fr_of {scope : Scope} {cells : List (Str × Addr)} (h : (scope.names.all fun y => !decide (y.2 = .free)) = true) : ∀ y ∈ scope.names, y.2 = .free → ∃ c, cells.lookup y.1 = some c := fun y hy e => by
  have := List.all_eq_true.mp h y hy
  simp only [Bool.not_eq_true', decide_eq_false_iff_not] at this
  exact (this e).elim
def tbl (ps : List Addr) (i : Nat) : Addr := ps.getD i 0
theorem tabs1 {h : Heap} {c p : Addr} {q : Str} (H : ∀ P ∈ [p], h.get? P = some (PySem.W.tabObj #[])) : ∀ t ∈ ([(c, p, q)] : Ts3), h.get? t.2.1 = some { cls := .none, data := .fields #[] } := fun t ht => by
  rw [List.mem_singleton] at ht
  rw [ht]
  exact H p List.mem_cons_self
theorem keys1 {K : PySem.W.Frag} {c p : Addr} {q : Str} (h1 : K.lookup p = none) (h2 : PySem.W.codeHdIn K c p = true) : ∀ t ∈ ([(c, p, q)] : Ts3), K.lookup t.2.1 = none ∧ PySem.W.codeHdIn K t.1 t.2.1 = true := fun t ht => by
  rw [List.mem_singleton] at ht
  rw [ht]
  exact ⟨h1, h2⟩
end Ev

set_option maxHeartbeats 1000000
/-! K10: k10's turn, the program's two defs as they are promised. -/
namespace Ev
open PySem PySem.Spec PyProof.Rows L2

theorem dLc_srcs {it : DI} {g : DG} {t : DT} {f : DE} {vs : List Nat} {ρ ρ0 : Rho} {S S1 S2 : Sto} {src : Src} (hit : it ρ S = some (src, S1)) (hw : wipeR ρ vs = ρ0) (key : lcLoop S1.length src g t f ρ0 (src.size S1 + 1) 0 (S1 ++ [.lst []]) = some S2) :
    dLc it g t f vs ρ S = some (.ref S1.length, S2) := by
  subst hw
  unfold dLc
  simp only [hit, key]
theorem right10_asm {T NU SP BE E N : DF} {L1 L2 : DE} {S S1 S2 S3 S4 S5 S6 S7 S8 S9 S10 : Sto} {r i1 i2 : Nat} {v n : Int} {own due : D} {ns : List Int} {p q : PyData}
    (h1 : T [.ref r, .int 8] S = some (.int v, S1)) (h2 : NU [.ref r, .int (1 + v)] S1 = some (.int n, S2)) (h3 : SP [.int n, .int (1 + v)] S2 = some (own, S3))
    (h4 : L1 [some (.ref r), some (.int (1 + v)), some (.int n), some own, none, none, none] S3 = some (.ref i1, S4)) (h4' : S4[i1]? = some (.lst (ns.map .int))) (hs : ns.sum = n)
    (h5 : L2 [some (.ref r), some (.int (1 + v)), some (.int n), some own, some (.ref i1), none, none] S4 = some (.ref i2, S5)) (h5' : S5[i2]? = some (.lst []))
    (h6 : E [.int n, .int (1 + v)] (S5 ++ [.lst []]) = some (own, S6)) (h7 : E [.int n, .int (1 + v)] S6 = some (own, S7))
    (hp : ∀ S, py 39 S own = some p) (okp : okR p = true) (szp : szR p ≤ 1000000)
    (h8 : BE [.int n, .int (1 + v)] (S7 ++ [.lst [own, own]] ++ [.lst [own, own]]) = some (due, S8)) (h9 : N [.int n, .int (1 + v)] S8 = some (due, S9)) (h10 : N [.int n, .int (1 + v)] S9 = some (due, S10))
    (hq : ∀ S, py 39 S due = some q) (okq : okR q = true) (szq : szR q ≤ 1000000) :
    run 7 (dSeq (dAsg (dOp gAdd (dC (.int 1)) (dCall T (daCons (dV 0) (daCons (dC (.int 8)) daNil)))) (dgN 1)) (dSeq (dAsg (dCall NU (daCons (dV 0) (daCons (dV 1) daNil))) (dgN 2)) (dSeq (dAsg (dCall SP (daCons (dV 2) (daCons (dV 1) daNil))) (dgN 3)) (dSeq (dAsg L1 (dgN 4)) (dSeq (dIfS (dtOr (dB (dOp gNe (dCall gSum (daCons (dV 4) daNil)) (dV 2))) (dB (dOp gNe L2 (dLst daNil)))) (dRet (dC (.bl false))) dNil) (dSeq (dIfS (dB (dOp gNe (dCall gRepr (daCons (dLst (daCons (dCall E (daCons (dV 2) (daCons (dV 1) daNil))) (daCons (dCallK [1, 0] E (daCons (dV 1) (daCons (dV 2) daNil))) daNil))) daNil)) (dCall gRepr (daCons (dLst (daCons (dV 3) (daCons (dV 3) daNil))) daNil)))) (dRet (dC (.bl false))) dNil) (dSeq (dAsg (dCall BE (daCons (dV 2) (daCons (dV 1) daNil))) (dgN 5)) (dRet (dOp gEq (dCall gRepr (daCons (dLst (daCons (dCall N (daCons (dV 2) (daCons (dV 1) daNil))) (daCons (dCallK [1, 0] N (daCons (dV 1) (daCons (dV 2) daNil))) daNil))) daNil)) (dCall gRepr (daCons (dLst (daCons (dV 5) (daCons (dV 5) daNil))) daNil))))))))))) [.ref r] S = some (.bl true, S10 ++ [.lst [due, due]] ++ [.lst [due, due]]) := by
  have e1 : decide (ns.sum = n) = true := decide_eq_true hs
  have e2 : gNe (.ref i2) (.ref S5.length) (S5 ++ [.lst []]) = some (.bl false, S5 ++ [.lst []]) := ne_nil (Pre.get (Pre.one _ _) h5') (get_last _)
  have e3 : perm [1, 0] [D.int (1 + v), D.int n] = [D.int n, D.int (1 + v)] := rfl
  have e4 : gRepr [.ref S7.length] (S7 ++ [.lst [own, own]]) = some (.str (PyData.list [p, p]).shown, S7 ++ [.lst [own, own]]) := repr_two (get_last _) (hp _) (hp _) okp szp
  have e5 : gRepr [.ref (S7 ++ [O.lst [own, own]]).length] (S7 ++ [.lst [own, own]] ++ [.lst [own, own]]) = some (.str (PyData.list [p, p]).shown, S7 ++ [.lst [own, own]] ++ [.lst [own, own]]) := repr_two (get_last _) (hp _) (hp _) okp szp
  have e6 : gRepr [.ref S10.length] (S10 ++ [.lst [due, due]]) = some (.str (PyData.list [q, q]).shown, S10 ++ [.lst [due, due]]) := repr_two (get_last _) (hq _) (hq _) okq szq
  have e7 : gRepr [.ref (S10 ++ [O.lst [due, due]]).length] (S10 ++ [.lst [due, due]] ++ [.lst [due, due]]) = some (.str (PyData.list [q, q]).shown, S10 ++ [.lst [due, due]] ++ [.lst [due, due]]) := repr_two (get_last _) (hq _) (hq _) okq szq
  have e8 : ∀ (x : Str) (S : Sto), gNe (.str x) (.str x) S = some (.bl false, S) := fun x S => by
    show some (D.bl (!decide (x = x)), S) = _
    rw [decide_eq_true rfl]; rfl
  have e9 : ∀ (x : Str) (S : Sto), gEq (.str x) (.str x) S = some (.bl true, S) := fun x S => by
    show some (D.bl (decide (x = x)), S) = _
    rw [decide_eq_true rfl]
  simp only [run, start0, dSeq, dIfS, dtOr, dtAnd, dtNot, dB, dOp, dUn, dV, dC, dTup, dLst, daNil, daCons, dChain, dAnd, dOr, dNot, dIf, dCall, dNil, dBk, dCt, dDrop, dRet, dRetN, dgN, dgsNil, dgsCons, dgT, dAsg, dPar, dPar3, dAug, dYes, dMt, doNone, doSome, gI, gNeg, gIx, gIs, gIsNot, isN, diSeq, diR1, diR2, diR3, List.map_cons, List.map_nil, List.length_cons, List.length_nil, List.replicate_succ, List.replicate_zero, List.cons_append, List.nil_append, List.append_nil, List.set_cons_zero, List.set_cons_succ, List.getElem?_cons_zero, List.getElem?_cons_succ, if_true, ite_true, Nat.reduceSub, Nat.reduceAdd, decide_true, decide_false, Bool.true_and, Bool.and_true, Bool.false_eq_true, if_false, ite_false, sz_0, sz_1, sz_2, sz_3, sz_4, sz_5, sz_6, sz_7, sz_8, sz_9, sz_10, sz_11, sz_12, sz_13, sz_14, sz_15, sz_16, sz_17, sz_18, sz_19, sz_20, sz_21, sz_22, sz_23, sz_24, h1, gAdd, h2, h3, h4, gSum, items, h4', intsD_map, gNe_int, e1, Bool.not_true, h5, e2, h6, dCallK, e3, h7, e4, e5, e8, h8, h9, h10, e6, e7, e9]
/-- a comprehension none of whose items is taken -/
theorem lc_none {src : Src} {g : DG} {t : DT} {f : DE} {ρ : Rho} {S : Sto} {ds : List D}
    (hsrc : ∀ (S' : Sto) (i : Nat), (∀ j, j < S.length → S'[j]? = S[j]?) → src.item S' i = some ds[i]?)
    (h : ∀ (i : Nat) (d : D), ds[i]? = some d → ∃ ρ1, (∀ S', g d ρ S' = some (ρ1, S')) ∧ t ρ1 (S ++ [.lst []]) = some (false, S ++ [.lst []])) :
    lcLoop S.length src g t f ρ (ds.length + 1) 0 (S ++ [.lst []]) = some (S ++ [.lst []]) := by
  have hpre : ∀ (j : Nat), j < S.length → (S ++ [O.lst []])[j]? = S[j]? := fun j hj => List.getElem?_append_left hj
  obtain ⟨acc', S', h1, h2, h3⟩ := lc_inv (src := src) (g := g) (t := t) (f := f) (ρ := ρ) (k0 := S.length) ds.length (fun i acc S' => acc = [] ∧ S' = S ++ [.lst acc])
    (fun i acc S' hI => by rw [hI.2]; simp)
    (fun i acc S' hi hI => by
      obtain ⟨rfl, rfl⟩ := hI
      obtain ⟨ρ1, a1, a2⟩ := h i ds[i] (List.getElem?_eq_getElem hi)
      exact ⟨ds[i], by rw [hsrc _ i hpre, List.getElem?_eq_getElem hi], ρ1, _, a1 _, .inl ⟨_, a2, rfl, rfl⟩⟩)
    (fun acc S' hI => by
      obtain ⟨rfl, rfl⟩ := hI
      rw [hsrc _ _ hpre, List.getElem?_eq_none (Nat.le_refl _)])
    (ds.length + 1) 0 [] (S ++ [.lst []]) rfl (Nat.zero_le _) ⟨rfl, rfl⟩
  rw [h1, h3, h2]
def lotsI (d : Nat) (gs : List Nat) : List D := (List.range gs.length).map fun j => .int ((bin (gs.getD j 0) (d - j) : Nat) : Int)
theorem lotsI_sum : ∀ (gs : List Nat) (d : Nat), gs.length ≤ d → ∃ ns : List Int, lotsI d gs = ns.map .int ∧ ns.sum = ((lots d gs).sum : Nat) := by
  intro gs
  induction gs with
  | nil => intro d _; exact ⟨[], rfl, rfl⟩
  | cons g gs ih =>
    intro d hd
    have hd' : gs.length ≤ d - 1 := by simp at hd; omega
    obtain ⟨ns, h1, h2⟩ := ih (d - 1) hd'
    refine ⟨((bin g d : Nat) : Int) :: ns, ?_, ?_⟩
    · unfold lotsI at h1 ⊢
      rw [List.length_cons, List.range_succ_eq_map, List.map_cons, List.map_cons, ← h1, List.map_map]
      refine congr (congrArg _ ?_) ?_
      · simp
      · refine List.map_congr_left fun j hj => ?_
        have : j < gs.length := List.mem_range.mp hj
        show D.int _ = D.int _
        have e : d - (j + 1) = d - 1 - j := by simp at hd; omega
        simp [e]
    · show ((bin g d : Nat) : Int) + ns.sum = _
      rw [h2]
      show _ = ((bin g d + (lots (d - 1) gs).sum : Nat) : Int)
      omega
abbrev r10F : DE := dCall m_law_choose (daCons (dOp gIx (dV 3) (dV 6)) (daCons (dOp gSub (dV 1) (dV 6)) daNil))
abbrev r10T : DT := dB (dOp gLt (dOp gIx (dV 3) (dV 6)) (dOp gSub (dV 1) (dV 6)))
theorem r10_f {a b c e : Option D} {d j g : Nat} {ds : List D} {S : Sto} (hg : ds[j]? = some (.int g)) (hb : g < 2 ^ 62) (hd : d < 1000) (hj : j < d) : r10F [a, some (.int d), b, some (.tup ds), c, e, some (.int j)] S = some (.int (bin g (d - j)), S) := by
  have h1 := atI_nn hg
  have h2 := m_choose_nat (n := g) (k := d - j) hb (by omega) S
  have e2 : (d : Int) - j = ((d - j : Nat) : Int) := by omega
  unfold r10F
  simp only [run, start0, dSeq, dIfS, dtOr, dtAnd, dtNot, dB, dOp, dUn, dV, dC, dTup, dLst, daNil, daCons, dChain, dAnd, dOr, dNot, dIf, dCall, dNil, dBk, dCt, dDrop, dRet, dRetN, dgN, dgsNil, dgsCons, dgT, dAsg, dPar, dPar3, dAug, dYes, dMt, doNone, doSome, gI, gNeg, gIx, gIs, gIsNot, isN, diSeq, diR1, diR2, diR3, List.map_cons, List.map_nil, List.length_cons, List.length_nil, List.replicate_succ, List.replicate_zero, List.cons_append, List.nil_append, List.append_nil, List.set_cons_zero, List.set_cons_succ, List.getElem?_cons_zero, List.getElem?_cons_succ, if_true, ite_true, Nat.reduceSub, Nat.reduceAdd, decide_true, decide_false, Bool.true_and, Bool.and_true, Bool.false_eq_true, if_false, ite_false, sz_0, sz_1, sz_2, sz_3, sz_4, sz_5, sz_6, sz_7, sz_8, sz_9, sz_10, sz_11, sz_12, sz_13, sz_14, sz_15, sz_16, sz_17, sz_18, sz_19, sz_20, sz_21, sz_22, sz_23, sz_24, items, h1, e2, h2]
theorem r10_t {a b c e : Option D} {d j g : Nat} {ds : List D} {S : Sto} (hg : ds[j]? = some (.int g)) (hj : j < d) (hdg : d - j ≤ g) : r10T [a, some (.int d), b, some (.tup ds), c, e, some (.int j)] S = some (false, S) := by
  have h1 := atI_nn hg
  have h2 : decide ((g : Int) < (d : Int) - j) = false := decide_eq_false (by omega)
  unfold r10T
  simp only [run, start0, dSeq, dIfS, dtOr, dtAnd, dtNot, dB, dOp, dUn, dV, dC, dTup, dLst, daNil, daCons, dChain, dAnd, dOr, dNot, dIf, dCall, dNil, dBk, dCt, dDrop, dRet, dRetN, dgN, dgsNil, dgsCons, dgT, dAsg, dPar, dPar3, dAug, dYes, dMt, doNone, doSome, gI, gNeg, gIx, gIs, gIsNot, isN, diSeq, diR1, diR2, diR3, List.map_cons, List.map_nil, List.length_cons, List.length_nil, List.replicate_succ, List.replicate_zero, List.cons_append, List.nil_append, List.append_nil, List.set_cons_zero, List.set_cons_succ, List.getElem?_cons_zero, List.getElem?_cons_succ, if_true, ite_true, Nat.reduceSub, Nat.reduceAdd, decide_true, decide_false, Bool.true_and, Bool.and_true, Bool.false_eq_true, if_false, ite_false, sz_0, sz_1, sz_2, sz_3, sz_4, sz_5, sz_6, sz_7, sz_8, sz_9, sz_10, sz_11, sz_12, sz_13, sz_14, sz_15, sz_16, sz_17, sz_18, sz_19, sz_20, sz_21, sz_22, sz_23, sz_24, items, h1, h2]
section
variable {a b c e : Option D} {d : Nat} {gs : List Nat} {S : Sto}
theorem r10_hit (hl : gs.length < 1000) : diR1 (daCons (dCall gLen (daCons (dV 3) daNil)) daNil) [a, some (.int d), b, some (.tup (gs.map fun g => .int (g : Nat))), c, e, none] S = some (.fix (rngs 0 1 gs.length), S) := by
  have h62 : in62 (gs.length : Int) = true := ch_in hl
  simp only [run, start0, dSeq, dIfS, dtOr, dtAnd, dtNot, dB, dOp, dUn, dV, dC, dTup, dLst, daNil, daCons, dChain, dAnd, dOr, dNot, dIf, dCall, dNil, dBk, dCt, dDrop, dRet, dRetN, dgN, dgsNil, dgsCons, dgT, dAsg, dPar, dPar3, dAug, dYes, dMt, doNone, doSome, gI, gNeg, gIx, gIs, gIsNot, isN, diSeq, diR1, diR2, diR3, List.map_cons, List.map_nil, List.length_cons, List.length_nil, List.replicate_succ, List.replicate_zero, List.cons_append, List.nil_append, List.append_nil, List.set_cons_zero, List.set_cons_succ, List.getElem?_cons_zero, List.getElem?_cons_succ, if_true, ite_true, Nat.reduceSub, Nat.reduceAdd, decide_true, decide_false, Bool.true_and, Bool.and_true, Bool.false_eq_true, if_false, ite_false, sz_0, sz_1, sz_2, sz_3, sz_4, sz_5, sz_6, sz_7, sz_8, sz_9, sz_10, sz_11, sz_12, sz_13, sz_14, sz_15, sz_16, sz_17, sz_18, sz_19, sz_20, sz_21, sz_22, sz_23, sz_24, gLen, items, List.length_map, h62, Int.toNat_natCast]
theorem r10_lots (hd : d < 1000) (hl : gs.length ≤ d) (hb : ∀ (j g : Nat), gs[j]? = some g → g < 2 ^ 62) :
    dLc (diR1 (daCons (dCall gLen (daCons (dV 3) daNil)) daNil)) (dgN 6) dYes r10F [6] [a, some (.int d), b, some (.tup (gs.map fun g => .int (g : Nat))), c, e, none] S = some (.ref S.length, S ++ [.lst (lotsI d gs)]) := by
  have key := lc_pure (src := .fix (rngs 0 1 gs.length)) (g := dgN 6) (t := dYes) (f := r10F) (ρ := [a, some (.int d), b, some (.tup (gs.map fun g => .int (g : Nat))), c, e, none]) (S := S) (ds := rngs 0 1 gs.length) (ys := lotsI d gs)
    (by rw [rngs_len]; exact Nat.le_trans (show gs.length ≤ 1000 by omega) (by decide)) (fun _ _ _ => rfl)
    (fun i x acc hx => by
      rw [rngs_get] at hx
      split at hx
      · rename_i hi
        cases hx
        have e0 : (0 : Int) + (i : Int) * 1 = i := by omega
        rw [e0]
        refine ⟨_, fun _ => rfl, rfl, .int (bin gs[i] (d - i) : Nat), ?_, ?_⟩
        · unfold lotsI
          rw [List.getElem?_map, List.getElem?_range hi]
          simp [hi]
        · exact r10_f (by rw [List.getElem?_map, List.getElem?_eq_getElem hi]; rfl) (hb i _ (List.getElem?_eq_getElem hi)) hd (by omega)
      · cases hx)
    (by unfold lotsI; rw [rngs_len]; simp)
  exact dLc_fix (r10_hit (by omega)) rfl key
theorem r10_none (hd : d < 1000) (hl : gs.length ≤ d) (hb : ∀ (j g : Nat), gs[j]? = some g → d - j ≤ g) :
    dLc (diR1 (daCons (dCall gLen (daCons (dV 3) daNil)) daNil)) (dgN 6) r10T (dV 6) [6] [a, some (.int d), b, some (.tup (gs.map fun g => .int (g : Nat))), c, e, none] S = some (.ref S.length, S ++ [.lst []]) := by
  have key := lc_none (src := .fix (rngs 0 1 gs.length)) (g := dgN 6) (t := r10T) (f := dV 6) (ρ := [a, some (.int d), b, some (.tup (gs.map fun g => .int (g : Nat))), c, e, none]) (S := S) (ds := rngs 0 1 gs.length)
    (fun _ _ _ => rfl)
    (fun i x hx => by
      rw [rngs_get] at hx
      split at hx
      · rename_i hi
        cases hx
        have e0 : (0 : Int) + (i : Int) * 1 = i := by omega
        rw [e0]
        exact ⟨_, fun _ => rfl, r10_t (by rw [List.getElem?_map, List.getElem?_eq_getElem hi]; rfl) (by omega) (hb i _ (List.getElem?_eq_getElem hi))⟩
      · cases hx)
  exact dLc_fix (r10_hit (by omega)) rfl key
end
end Ev

set_option maxHeartbeats 1000000
set_option exponentiation.threshold 2000
/-! K10b: k10's turn and law, over the program's two defs as they are promised. -/
namespace Ev
open PySem PySem.Spec PyProof.Rows L2

theorem nxt_le {M : Nat} (hM : 1 ≤ M) : ∀ (gs : List Nat) (d : Nat), (∀ g ∈ gs, g + 1 ≤ M) → nxt d gs ≤ gs.length * M ^ (d + 1)
  | [], d, _ => by simp [nxt]
  | g :: gs, d, h => by
    have ih := nxt_le hM gs (d - 1) fun x hx => h x (List.mem_cons_of_mem _ hx)
    have h1 := bin_le_pow (g + 1) (d + 1)
    have h2 : (g + 1) ^ (d + 1) ≤ M ^ (d + 1) := Nat.pow_le_pow_left (h g List.mem_cons_self) _
    have h3 : M ^ (d - 1 + 1) ≤ M ^ (d + 1) := Nat.pow_le_pow_right hM (by omega)
    have h4 : gs.length * M ^ (d - 1 + 1) ≤ gs.length * M ^ (d + 1) := Nat.mul_le_mul_left _ h3
    have e : (gs.length + 1) * M ^ (d + 1) = gs.length * M ^ (d + 1) + M ^ (d + 1) := Nat.succ_mul ..
    show bin (g + 1) (d + 1) + nxt (d - 1) gs ≤ (gs.length + 1) * M ^ (d + 1)
    rw [e]
    omega
theorem nxt_log {d : Nat} {gs : List Nat} (hd : d ≤ 8) (hl : gs.length ≤ 8) (h : ∀ g ∈ gs, g + 1 ≤ 2 ^ 58) : (nxt d gs).log2 < 600 := by
  have h1 := nxt_le (M := 2 ^ 58) (by decide) gs d h
  have h2 : (2 ^ 58) ^ (d + 1) ≤ (2 ^ 58 : Nat) ^ 9 := Nat.pow_le_pow_right (by decide) (by omega)
  have h3 : gs.length * (2 ^ 58) ^ (d + 1) ≤ 8 * (2 ^ 58 : Nat) ^ 9 := Nat.mul_le_mul hl h2
  refine log2_lt' (Nat.lt_of_le_of_lt (Nat.le_trans h1 h3) ?_) (by decide)
  decide
/-- what is promised of expansion and most_next -/
def Exp (E : DF) : Prop := ∀ (n d : Nat) (S : Sto), n ≤ 1000000 → 1 ≤ d → d ≤ 8 → ∃ gs, Spr d n gs ∧ ∃ S', E [.int n, .int d] S = some (.tup (gs.map fun g => .int (g : Nat)), S')
def Nxt (N : DF) : Prop := ∀ (n d : Nat) (S : Sto), n ≤ 1000000 → 1 ≤ d → d ≤ 8 → ∃ gs, Spr d n gs ∧ ∃ S', N [.int n, .int d] S = some (.int (nxt d gs : Nat), S')
theorem right10 {E N : DF} (hE : Exp E) (hN : Nxt N) {S : Sto} {r m : Nat} (p : Pot S r m) (hm : m < 2 ^ 38) :
    ∃ S', run 7 (dSeq (dAsg (dOp gAdd (dC (.int 1)) (dCall m_law_take (daCons (dV 0) (daCons (dC (.int 8)) daNil)))) (dgN 1)) (dSeq (dAsg (dCall m_law_number (daCons (dV 0) (daCons (dV 1) daNil))) (dgN 2)) (dSeq (dAsg (dCall m_law_spread (daCons (dV 2) (daCons (dV 1) daNil))) (dgN 3)) (dSeq (dAsg (dLc (diR1 (daCons (dCall gLen (daCons (dV 3) daNil)) daNil)) (dgN 6) dYes (dCall m_law_choose (daCons (dOp gIx (dV 3) (dV 6)) (daCons (dOp gSub (dV 1) (dV 6)) daNil))) [6]) (dgN 4)) (dSeq (dIfS (dtOr (dB (dOp gNe (dCall gSum (daCons (dV 4) daNil)) (dV 2))) (dB (dOp gNe (dLc (diR1 (daCons (dCall gLen (daCons (dV 3) daNil)) daNil)) (dgN 6) (dB (dOp gLt (dOp gIx (dV 3) (dV 6)) (dOp gSub (dV 1) (dV 6)))) (dV 6) [6]) (dLst daNil)))) (dRet (dC (.bl false))) dNil) (dSeq (dIfS (dB (dOp gNe (dCall gRepr (daCons (dLst (daCons (dCall E (daCons (dV 2) (daCons (dV 1) daNil))) (daCons (dCallK [1, 0] E (daCons (dV 1) (daCons (dV 2) daNil))) daNil))) daNil)) (dCall gRepr (daCons (dLst (daCons (dV 3) (daCons (dV 3) daNil))) daNil)))) (dRet (dC (.bl false))) dNil) (dSeq (dAsg (dCall m_law_behind (daCons (dV 2) (daCons (dV 1) daNil))) (dgN 5)) (dRet (dOp gEq (dCall gRepr (daCons (dLst (daCons (dCall N (daCons (dV 2) (daCons (dV 1) daNil))) (daCons (dCallK [1, 0] N (daCons (dV 1) (daCons (dV 2) daNil))) daNil))) daNil)) (dCall gRepr (daCons (dLst (daCons (dV 5) (daCons (dV 5) daNil))) daNil))))))))))) [.ref r] S = some (.bl true, S') := by
  obtain ⟨v, S1, h1, v1, v2, d1⟩ := take_w p 8 (by decide) (by decide) (by omega)
  obtain ⟨n, S2, m2, h2, n1, n2, d2, _⟩ := m_number (d := 1 + v) d1.pot (by omega) (by omega) (by omega)
  obtain ⟨d, hd⟩ : ∃ d : Nat, 1 + v = d := ⟨(1 + v).toNat, by omega⟩
  obtain ⟨n, rfl⟩ : ∃ n' : Nat, n = n' := ⟨n.toNat, by omega⟩
  have hd1 : 1 ≤ d := by omega
  have hd8 : d ≤ 8 := by omega
  have hn : n ≤ 1000000 := by omega
  rw [hd] at h2
  obtain ⟨gs, s1, l1, o, h3⟩ := m_spread (n := n) (d := d) (by omega) (by omega) S2
  have parts := s1.parts (by omega)
  obtain ⟨ns, e1, e2⟩ := lotsI_sum gs d l1
  rw [s1.sum (.inl hd1)] at e2
  have h4 := r10_lots (a := some (.ref r)) (b := some (.int n)) (c := none) (e := none) (d := d) (gs := gs) (S := S2 ++ [o]) (by omega) l1 (fun j g hj => by have := parts j g hj; omega)
  have h5 := r10_none (a := some (.ref r)) (b := some (.int n)) (c := some (.ref (S2 ++ [o]).length)) (e := none) (d := d) (gs := gs) (S := S2 ++ [o] ++ [.lst (lotsI d gs)]) (by omega) l1 (fun j g hj => (parts j g hj).2.1)
  obtain ⟨gs', s2, S6, h6⟩ := hE n d (S2 ++ [o] ++ [.lst (lotsI d gs)] ++ [.lst []] ++ [.lst []]) hn hd1 hd8
  obtain rfl := s1.unique s2
  obtain ⟨gs', s2, S7, h7⟩ := hE n d S6 hn hd1 hd8
  obtain rfl := s1.unique s2
  obtain ⟨gs', s2, o1, o2, h8⟩ := m_behind (n := n) (d := d) (by omega) (by omega) (S7 ++ [.lst [.tup (gs.map fun g => .int (g : Nat)), .tup (gs.map fun g => .int (g : Nat))]] ++ [.lst [.tup (gs.map fun g => .int (g : Nat)), .tup (gs.map fun g => .int (g : Nat))]])
  obtain rfl := s1.unique s2
  obtain ⟨gs', s2, S9, h9⟩ := hN n d _ hn hd1 hd8
  obtain rfl := s1.unique s2
  obtain ⟨gs', s2, S10, h10⟩ := hN n d S9 hn hd1 hd8
  obtain rfl := s1.unique s2
  have lt60 : ∀ g ∈ gs, g < 2 ^ 57 + 8 := fun g hg => by
    obtain ⟨j, hj⟩ := List.getElem?_of_mem hg
    have := parts j g hj
    omega
  have ok := okRs_nats gs fun g hg => by have := lt60 g hg; omega
  have hlog := nxt_log (d := d) (gs := gs) hd8 (by omega) fun g hg => by have := lt60 g hg; omega
  have eabs : ((nxt d gs : Nat) : Int).natAbs = nxt d gs := Int.natAbs_natCast _
  rw [← hd] at h2 h3 h4 h5 h6 h7 h8 h9 h10
  exact ⟨_, right10_asm (p := .tuple (gs.map fun g => .int (g : Nat))) (q := .int (nxt d gs : Nat)) h1 h2 h3 h4 (by rw [get_last, e1]) e2 h5 (get_last _) h6 h7 (fun S => py_nats 37 S gs) (by rw [okR]; exact ok.1) (by rw [szR]; have := ok.2; omega) h8 h9 h10 (fun S => rfl)
    (by rw [okR, eabs]; exact decide_eq_true (by omega)) (by rw [szR, eabs]; omega)⟩
theorem law10_asm {PO R : DF} {ns : List D} (hr : ∀ lap : Nat, lap < 1000 → ∀ S : Sto, ∃ d S1 S2, PO [.fzl ns, .int lap] S = some (d, S1) ∧ R [d] S1 = some (.bl true, S2)) :
    ∃ S', run 2 (dSeq (dFor (diR1 (daCons (dCall gMax (daCons (dC (.int 3)) (daCons (dCall gMin (daCons (dCall gLen (daCons (dV 0) daNil)) (daCons (dC (.int 9)) daNil))) daNil))) daNil)) (dgN 1) (dIfS (dtNot (dB (dCall R (daCons (dCall PO (daCons (dV 0) (daCons (dV 1) daNil))) daNil)))) (dRet (dC (.bl false))) dNil)) (dRet (dC (.bl true)))) [.fzl ns] [] = some (.bl true, S') := by
  obtain ⟨k, hk, hk2⟩ : ∃ k : Nat, k < 100 ∧ (if (if (9 : Int) < (ns.length : Nat) then (9 : Int) else (ns.length : Nat)) > 3 then (if (9 : Int) < (ns.length : Nat) then (9 : Int) else (ns.length : Nat)) else 3) = (k : Nat) := by
    by_cases h1 : (9 : Int) < (ns.length : Nat)
    · exact ⟨9, by decide, by simp only [if_pos h1]; rfl⟩
    · by_cases h2 : (ns.length : Int) > 3
      · exact ⟨ns.length, by omega, by simp only [if_neg h1, if_pos h2]⟩
      · exact ⟨3, by decide, by simp only [if_neg h1, if_neg h2]; rfl⟩
  have h62 : in62 (k : Int) = true := ch_in (by omega)
  obtain ⟨o, ho, x, S', rfl⟩ := for_rng (it := (diR1 (daCons (dCall gMax (daCons (dC (.int 3)) (daCons (dCall gMin (daCons (dCall gLen (daCons (dV 0) daNil)) (daCons (dC (.int 9)) daNil))) daNil))) daNil))) (g := dgN 1) (b := (dIfS (dtNot (dB (dCall R (daCons (dCall PO (daCons (dV 0) (daCons (dV 1) daNil))) daNil)))) (dRet (dC (.bl false))) dNil))
    (ρ := [some (.fzl ns), none]) (S := []) (S1 := []) (lo := 0) (c := 1) (n := k)
    (by simp only [run, start0, dSeq, dIfS, dtOr, dtAnd, dtNot, dB, dOp, dUn, dV, dC, dTup, dLst, daNil, daCons, dChain, dAnd, dOr, dNot, dIf, dCall, dNil, dBk, dCt, dDrop, dRet, dRetN, dgN, dgsNil, dgsCons, dgT, dAsg, dPar, dPar3, dAug, dYes, dMt, doNone, doSome, gI, gNeg, gIx, gIs, gIsNot, isN, diSeq, diR1, diR2, diR3, List.map_cons, List.map_nil, List.length_cons, List.length_nil, List.replicate_succ, List.replicate_zero, List.cons_append, List.nil_append, List.append_nil, List.set_cons_zero, List.set_cons_succ, List.getElem?_cons_zero, List.getElem?_cons_succ, if_true, ite_true, Nat.reduceSub, Nat.reduceAdd, decide_true, decide_false, Bool.true_and, Bool.and_true, Bool.false_eq_true, if_false, ite_false, sz_0, sz_1, sz_2, sz_3, sz_4, sz_5, sz_6, sz_7, sz_8, sz_9, sz_10, sz_11, sz_12, sz_13, sz_14, sz_15, sz_16, sz_17, sz_18, sz_19, sz_20, sz_21, sz_22, sz_23, sz_24, gLen, items, gMin, gMax, hk2, h62, Int.toNat_natCast])
    (fun i ρ S' => ∃ x, ρ = [some (.fzl ns), x]) (fun o => ∃ x S', o = .nx [some (.fzl ns), x] S') ⟨none, rfl⟩
    (fun i ρ S' hi hI => by
      obtain ⟨x, rfl⟩ := hI
      obtain ⟨d, S1, S2, h1, h2⟩ := hr i (by omega) S'
      have e0 : (0 : Int) + (i : Int) * 1 = i := by omega
      rw [e0]
      refine ⟨_, _, rfl, .nx [some (.fzl ns), some (.int i)] S2, ?_, _, rfl⟩
      simp only [run, start0, dSeq, dIfS, dtOr, dtAnd, dtNot, dB, dOp, dUn, dV, dC, dTup, dLst, daNil, daCons, dChain, dAnd, dOr, dNot, dIf, dCall, dNil, dBk, dCt, dDrop, dRet, dRetN, dgN, dgsNil, dgsCons, dgT, dAsg, dPar, dPar3, dAug, dYes, dMt, doNone, doSome, gI, gNeg, gIx, gIs, gIsNot, isN, diSeq, diR1, diR2, diR3, List.map_cons, List.map_nil, List.length_cons, List.length_nil, List.replicate_succ, List.replicate_zero, List.cons_append, List.nil_append, List.append_nil, List.set_cons_zero, List.set_cons_succ, List.getElem?_cons_zero, List.getElem?_cons_succ, if_true, ite_true, Nat.reduceSub, Nat.reduceAdd, decide_true, decide_false, Bool.true_and, Bool.and_true, Bool.false_eq_true, if_false, ite_false, sz_0, sz_1, sz_2, sz_3, sz_4, sz_5, sz_6, sz_7, sz_8, sz_9, sz_10, sz_11, sz_12, sz_13, sz_14, sz_15, sz_16, sz_17, sz_18, sz_19, sz_20, sz_21, sz_22, sz_23, sz_24, h1, h2, Bool.not_true])
    (fun ρ S' hI => by
      obtain ⟨x, rfl⟩ := hI
      exact ⟨x, S', rfl⟩)
  refine ⟨S', ?_⟩
  simp only [run, start0, dSeq, dIfS, dtOr, dtAnd, dtNot, dB, dOp, dUn, dV, dC, dTup, dLst, daNil, daCons, dChain, dAnd, dOr, dNot, dIf, dCall, dNil, dBk, dCt, dDrop, dRet, dRetN, dgN, dgsNil, dgsCons, dgT, dAsg, dPar, dPar3, dAug, dYes, dMt, doNone, doSome, gI, gNeg, gIx, gIs, gIsNot, isN, diSeq, diR1, diR2, diR3, List.map_cons, List.map_nil, List.length_cons, List.length_nil, List.replicate_succ, List.replicate_zero, List.cons_append, List.nil_append, List.append_nil, List.set_cons_zero, List.set_cons_succ, List.getElem?_cons_zero, List.getElem?_cons_succ, if_true, ite_true, Nat.reduceSub, Nat.reduceAdd, decide_true, decide_false, Bool.true_and, Bool.and_true, Bool.false_eq_true, if_false, ite_false, sz_0, sz_1, sz_2, sz_3, sz_4, sz_5, sz_6, sz_7, sz_8, sz_9, sz_10, sz_11, sz_12, sz_13, sz_14, sz_15, sz_16, sz_17, sz_18, sz_19, sz_20, sz_21, sz_22, sz_23, sz_24, ho]
/-- k10: the law, over the program's two defs as they are promised -/
theorem law10 {E N : DF} (hE : Exp E) (hN : Nxt N) {R : DF} (eR : R = run 7 (dSeq (dAsg (dOp gAdd (dC (.int 1)) (dCall m_law_take (daCons (dV 0) (daCons (dC (.int 8)) daNil)))) (dgN 1)) (dSeq (dAsg (dCall m_law_number (daCons (dV 0) (daCons (dV 1) daNil))) (dgN 2)) (dSeq (dAsg (dCall m_law_spread (daCons (dV 2) (daCons (dV 1) daNil))) (dgN 3)) (dSeq (dAsg (dLc (diR1 (daCons (dCall gLen (daCons (dV 3) daNil)) daNil)) (dgN 6) dYes (dCall m_law_choose (daCons (dOp gIx (dV 3) (dV 6)) (daCons (dOp gSub (dV 1) (dV 6)) daNil))) [6]) (dgN 4)) (dSeq (dIfS (dtOr (dB (dOp gNe (dCall gSum (daCons (dV 4) daNil)) (dV 2))) (dB (dOp gNe (dLc (diR1 (daCons (dCall gLen (daCons (dV 3) daNil)) daNil)) (dgN 6) (dB (dOp gLt (dOp gIx (dV 3) (dV 6)) (dOp gSub (dV 1) (dV 6)))) (dV 6) [6]) (dLst daNil)))) (dRet (dC (.bl false))) dNil) (dSeq (dIfS (dB (dOp gNe (dCall gRepr (daCons (dLst (daCons (dCall E (daCons (dV 2) (daCons (dV 1) daNil))) (daCons (dCallK [1, 0] E (daCons (dV 1) (daCons (dV 2) daNil))) daNil))) daNil)) (dCall gRepr (daCons (dLst (daCons (dV 3) (daCons (dV 3) daNil))) daNil)))) (dRet (dC (.bl false))) dNil) (dSeq (dAsg (dCall m_law_behind (daCons (dV 2) (daCons (dV 1) daNil))) (dgN 5)) (dRet (dOp gEq (dCall gRepr (daCons (dLst (daCons (dCall N (daCons (dV 2) (daCons (dV 1) daNil))) (daCons (dCallK [1, 0] N (daCons (dV 1) (daCons (dV 2) daNil))) daNil))) daNil)) (dCall gRepr (daCons (dLst (daCons (dV 5) (daCons (dV 5) daNil))) daNil)))))))))))) (ns : List Int) :
    ∃ S', run 2 (dSeq (dFor (diR1 (daCons (dCall gMax (daCons (dC (.int 3)) (daCons (dCall gMin (daCons (dCall gLen (daCons (dV 0) daNil)) (daCons (dC (.int 9)) daNil))) daNil))) daNil)) (dgN 1) (dIfS (dtNot (dB (dCall R (daCons (dCall m_law_pot (daCons (dV 0) (daCons (dV 1) daNil))) daNil)))) (dRet (dC (.bl false))) dNil)) (dRet (dC (.bl true)))) [.fzl (ns.map .int)] [] = some (.bl true, S') := by
  refine law10_asm fun lap hl S => ?_
  obtain ⟨o, o', h1, h2⟩ := m_pot (ns := ns) (lap := lap) hl S
  obtain ⟨S2, h3⟩ := right10 hE hN h2 (by decide)
  rw [← eR] at h3
  exact ⟨_, _, _, h1, h3⟩
end Ev

set_option maxHeartbeats 1000000
/-! KpA: the program's defs, as gen.py prints them. -/
namespace Ev
open PySem PySem.Spec PyProof.Rows L2
def d_is_whole : DS := (dRet (dAnd (dCall gIsi (daCons (dV 0) (daCons (dC (.ty "int")) daNil))) (dNot (dCall gIsi (daCons (dV 0) (daCons (dC (.ty "bool")) daNil))))))
def m_is_whole : DF := run 1 d_is_whole
def d_is_whole_between : DS := (dRet (dAnd (dCall m_is_whole (daCons (dV 0) daNil)) (dChain gLe gLe (dV 1) (dV 0) (dV 2))))
def m_is_whole_between : DF := run 3 d_is_whole_between
def d_check_number : DS := (dIfS (dtNot (dB (dCall m_is_whole_between (daCons (dV 0) (daCons (dV 1) (daCons (dV 2) daNil)))))) dNo dNil)
def m_check_number : DF := run 3 d_check_number
def d_greatest_top : DS := (dSeq (dAsg (dV 1) (dgN 2)) (dSeq (dAsg (dOp gAdd (dV 0) (dV 1)) (dgN 3)) (dSeq (dWhile (dB (dOp gGt (dOp gSub (dV 3) (dV 2)) (dC (.int 1)))) (dSeq (dAsg (dOp gFdiv (dOp gAdd (dV 2) (dV 3)) (dC (.int 2))) (dgN 4)) (dIfS (dB (dOp gLe (dCall gComb (daCons (dV 4) (daCons (dV 1) daNil))) (dV 0))) (dAsg (dV 4) (dgN 2)) (dAsg (dV 4) (dgN 3)))) FUEL) (dRet (dV 2)))))
def m_greatest_top : DF := run 5 d_greatest_top
def d_tops_of : DS := (dSeq (dAsg (dLst daNil) (dgN 2)) (dSeq (dWhile (dB (dOp gGt (dV 0) (dC (.int 0)))) (dSeq (dAsg (dCall m_greatest_top (daCons (dV 0) (daCons (dV 1) daNil))) (dgN 3)) (dSeq (dDrop (dMt gAppend (dV 2) (daCons (dV 3) daNil))) (dSeq (dAug 0 gSub (dCall gComb (daCons (dV 3) (daCons (dV 1) daNil)))) (dAug 1 gSub (dC (.int 1)))))) FUEL) (dRet (dV 2))))
def m_tops_of : DF := run 4 d_tops_of
def d_expansion : DS := (dSeq (dDrop (dCall m_check_number (daCons (dV 0) (daCons (dC (.int 0)) (daCons (dC (.int 1000000)) daNil))))) (dSeq (dDrop (dCall m_check_number (daCons (dV 1) (daCons (dC (.int 1)) (daCons (dC (.int 8)) daNil))))) (dRet (dCall gTuple (daCons (dCall m_tops_of (daCons (dV 0) (daCons (dV 1) daNil))) daNil)))))
def m_expansion : DF := run 2 d_expansion
def d_most_behind : DS := (dSeq (dAsg (dCall m_tops_of (daCons (dV 0) (daCons (dV 1) daNil))) (dgN 2)) (dRet (dCall gSum (daCons (dLc (diEnumerate (daCons (dV 2) daNil)) (dgT (dgsCons (dgN 3) (dgsCons (dgN 4) dgsNil)) 2) dYes (dCall gComb (daCons (dOp gAdd (dV 4) (dC (.int 1))) (daCons (dOp gSub (dOp gAdd (dV 1) (dC (.int 1))) (dV 3)) daNil))) [3, 4]) daNil))))
def m_most_behind : DF := run 5 d_most_behind
def d_most_next : DS := (dSeq (dDrop (dCall m_check_number (daCons (dV 0) (daCons (dC (.int 0)) (daCons (dC (.int 1000000)) daNil))))) (dSeq (dDrop (dCall m_check_number (daCons (dV 1) (daCons (dC (.int 1)) (daCons (dC (.int 8)) daNil))))) (dRet (dCall m_most_behind (daCons (dV 0) (daCons (dV 1) daNil))))))
def m_most_next : DF := run 2 d_most_next
end Ev

set_option maxHeartbeats 1000000
set_option exponentiation.threshold 2000
/-! K10c: the program's expansion and most_next. -/
namespace Ev
open PySem PySem.Spec PyProof.Rows L2

def fac : Nat → Nat
  | 0 => 1
  | k + 1 => (k + 1) * fac k
theorem fac_pos : ∀ k, 0 < fac k
  | 0 => by decide
  | k + 1 => Nat.mul_pos (by omega) (fac_pos k)
theorem fp_bin (n : Nat) : ∀ k : Nat, Builtin.Math.fallingProduct (n : Int) k = (fac k : Int) * (bin n k : Int) := by
  intro k
  induction k with
  | zero => rw [PySem.W.mc_fp_zero, bin_zero]; rfl
  | succ k ih =>
    have h := bin_step n k
    have e : ((fac (k + 1) : Nat) : Int) = ((k : Int) + 1) * (fac k : Int) := by
      show (((k + 1) * fac k : Nat) : Int) = _
      rw [Int.natCast_mul]; rfl
    rw [PySem.W.mc_fp_succ, ih, e]
    grind
theorem bin_sym : ∀ s a b : Nat, a + b = s → bin s a = bin s b := by
  intro s
  induction s with
  | zero => intro a b h
            have ha : a = 0 := by omega
            have hb : b = 0 := by omega
            subst ha; subst hb; rfl
  | succ s ih =>
    intro a b h
    cases a with
    | zero => have hb : b = s + 1 := by omega
              subst hb; rw [bin_zero, bin_self]
    | succ a => cases b with
      | zero => have ha : a = s := by omega
                subst ha; rw [bin_zero, bin_self]
      | succ b =>
        show bin s a + bin s (a + 1) = bin s b + bin s (b + 1)
        rw [ih a (b + 1) (by omega), ih (a + 1) b (by omega)]
        omega
theorem comb_bin (n k : Nat) : PySem.W.mcComb (n : Int) (k : Int) = (bin n k : Int) := by
  by_cases h : n < k
  · rw [PySem.W.mcComb_above (by omega), bin_above n k h]; rfl
  · obtain ⟨m, hm, hm2⟩ : ∃ m : Nat, min (k : Int) ((n : Int) - k) = m ∧ (m = k ∨ m = n - k) := by
      by_cases z : (k : Int) ≤ (n : Int) - k
      · exact ⟨k, by omega, .inl rfl⟩
      · exact ⟨n - k, by omega, .inr rfl⟩
    rw [PySem.W.mcComb_at (by omega) (by omega) hm, Int.toNat_natCast, fp_bin, fp_bin, bin_self]
    have : (0 : Int) < (fac m : Int) := by have := fac_pos m; omega
    rw [show ((fac m : Int)) * ((1 : Nat) : Int) = (fac m : Int) by omega, Int.mul_ediv_cancel_left _ (by omega)]
    rcases hm2 with rfl | rfl
    · rfl
    · rw [bin_sym n (n - k) k (by omega)]
theorem comb_eq {n k : Nat} (hn : n < 2 ^ 64) (hk : k ≤ 9000) (S : Sto) : gComb [.int n, .int k] S = some (.int (bin n k : Nat), S) := by
  have h : (decide ((0 : Int) ≤ n) && decide ((0 : Int) ≤ k) && decide ((n : Int) < 2 ^ 64) && decide ((k : Int) ≤ 9000)) = true := by
    rw [decide_eq_true (by omega), decide_eq_true (by omega), decide_eq_true (by omega), decide_eq_true (by omega)]; rfl
  unfold gComb
  simp only [h, if_true, comb_bin]
theorem bin_over (n : Nat) : ∀ d : Nat, 1 ≤ d → n < bin (n + d) d := by
  intro d h
  induction h with
  | refl => rw [bin_one]; omega
  | @step d h ih =>
    show n < bin (n + d) d + bin (n + d) (d + 1)
    omega
abbrev gtT : DT := (dB (dOp gGt (dOp gSub (dV 3) (dV 2)) (dC (.int 1))))
abbrev gtB : DS := (dSeq (dAsg (dOp gFdiv (dOp gAdd (dV 2) (dV 3)) (dC (.int 2))) (dgN 4)) (dIfS (dB (dOp gLe (dCall gComb (daCons (dV 4) (daCons (dV 1) daNil))) (dV 0))) (dAsg (dV 4) (dgN 2)) (dAsg (dV 4) (dgN 3))))
theorem gtT_eq {a b x : Option D} {l u : Int} {S : Sto} : gtT [a, b, some (.int l), some (.int u), x] S = some (decide (1 < u - l), S) := by
  unfold gtT
  simp only [run, start0, dSeq, dIfS, dtOr, dtAnd, dtNot, dB, dOp, dUn, dV, dC, dTup, dLst, daNil, daCons, dChain, dAnd, dOr, dNot, dIf, dCall, dNil, dBk, dCt, dDrop, dRet, dRetN, dgN, dgsNil, dgsCons, dgT, dAsg, dPar, dPar3, dAug, dYes, dMt, doNone, doSome, gI, gNeg, gIx, gIs, gIsNot, isN, diSeq, diR1, diR2, diR3, List.map_cons, List.map_nil, List.length_cons, List.length_nil, List.replicate_succ, List.replicate_zero, List.cons_append, List.nil_append, List.append_nil, List.set_cons_zero, List.set_cons_succ, List.getElem?_cons_zero, List.getElem?_cons_succ, if_true, ite_true, Nat.reduceSub, Nat.reduceAdd, decide_true, decide_false, Bool.true_and, Bool.and_true, Bool.false_eq_true, if_false, ite_false, sz_0, sz_1, sz_2, sz_3, sz_4, sz_5, sz_6, sz_7, sz_8, sz_9, sz_10, sz_11, sz_12, sz_13, sz_14, sz_15, sz_16, sz_17, sz_18, sz_19, sz_20, sz_21, sz_22, sz_23, sz_24]
theorem gtB_le' {n d l u m : Nat} {x : Option D} {S : Sto} {F : DF} {v : Int} (h1 : okDiv ((l : Int) + (u : Int)) 2 = true) (h2 : ((l : Int) + (u : Int)).fdiv 2 = (m : Int)) (h3 : F [.int (m : Nat), .int d] S = some (.int v, S)) (h4 : decide (v ≤ (n : Int)) = true) :
    (dSeq (dAsg (dOp gFdiv (dOp gAdd (dV 2) (dV 3)) (dC (.int 2))) (dgN 4)) (dIfS (dB (dOp gLe (dCall F (daCons (dV 4) (daCons (dV 1) daNil))) (dV 0))) (dAsg (dV 4) (dgN 2)) (dAsg (dV 4) (dgN 3)))) [some (.int n), some (.int d), some (.int l), some (.int u), x] S = some (.nx [some (.int n), some (.int d), some (.int (m : Nat)), some (.int u), some (.int (m : Nat))] S) := by
  simp only [run, start0, dSeq, dIfS, dtOr, dtAnd, dtNot, dB, dOp, dUn, dV, dC, dTup, dLst, daNil, daCons, dChain, dAnd, dOr, dNot, dIf, dCall, dNil, dBk, dCt, dDrop, dRet, dRetN, dgN, dgsNil, dgsCons, dgT, dAsg, dPar, dPar3, dAug, dYes, dMt, doNone, doSome, gI, gNeg, gIx, gIs, gIsNot, isN, diSeq, diR1, diR2, diR3, List.map_cons, List.map_nil, List.length_cons, List.length_nil, List.replicate_succ, List.replicate_zero, List.cons_append, List.nil_append, List.append_nil, List.set_cons_zero, List.set_cons_succ, List.getElem?_cons_zero, List.getElem?_cons_succ, if_true, ite_true, Nat.reduceSub, Nat.reduceAdd, decide_true, decide_false, Bool.true_and, Bool.and_true, Bool.false_eq_true, if_false, ite_false, sz_0, sz_1, sz_2, sz_3, sz_4, sz_5, sz_6, sz_7, sz_8, sz_9, sz_10, sz_11, sz_12, sz_13, sz_14, sz_15, sz_16, sz_17, sz_18, sz_19, sz_20, sz_21, sz_22, sz_23, sz_24, gAdd, h1, h2, h3, h4]
theorem gtB_gt' {n d l u m : Nat} {x : Option D} {S : Sto} {F : DF} {v : Int} (h1 : okDiv ((l : Int) + (u : Int)) 2 = true) (h2 : ((l : Int) + (u : Int)).fdiv 2 = (m : Int)) (h3 : F [.int (m : Nat), .int d] S = some (.int v, S)) (h4 : decide (v ≤ (n : Int)) = false) :
    (dSeq (dAsg (dOp gFdiv (dOp gAdd (dV 2) (dV 3)) (dC (.int 2))) (dgN 4)) (dIfS (dB (dOp gLe (dCall F (daCons (dV 4) (daCons (dV 1) daNil))) (dV 0))) (dAsg (dV 4) (dgN 2)) (dAsg (dV 4) (dgN 3)))) [some (.int n), some (.int d), some (.int l), some (.int u), x] S = some (.nx [some (.int n), some (.int d), some (.int l), some (.int (m : Nat)), some (.int (m : Nat))] S) := by
  simp only [run, start0, dSeq, dIfS, dtOr, dtAnd, dtNot, dB, dOp, dUn, dV, dC, dTup, dLst, daNil, daCons, dChain, dAnd, dOr, dNot, dIf, dCall, dNil, dBk, dCt, dDrop, dRet, dRetN, dgN, dgsNil, dgsCons, dgT, dAsg, dPar, dPar3, dAug, dYes, dMt, doNone, doSome, gI, gNeg, gIx, gIs, gIsNot, isN, diSeq, diR1, diR2, diR3, List.map_cons, List.map_nil, List.length_cons, List.length_nil, List.replicate_succ, List.replicate_zero, List.cons_append, List.nil_append, List.append_nil, List.set_cons_zero, List.set_cons_succ, List.getElem?_cons_zero, List.getElem?_cons_succ, if_true, ite_true, Nat.reduceSub, Nat.reduceAdd, decide_true, decide_false, Bool.true_and, Bool.and_true, Bool.false_eq_true, if_false, ite_false, sz_0, sz_1, sz_2, sz_3, sz_4, sz_5, sz_6, sz_7, sz_8, sz_9, sz_10, sz_11, sz_12, sz_13, sz_14, sz_15, sz_16, sz_17, sz_18, sz_19, sz_20, sz_21, sz_22, sz_23, sz_24, gAdd, h1, h2, h3, h4]
theorem half_a (l u : Nat) : okDiv ((l : Int) + (u : Int)) 2 = true := rfl
theorem half_b (l u : Nat) : ((l : Int) + (u : Int)).fdiv 2 = (((l + u) / 2 : Nat) : Int) := by
  rw [Int.fdiv_eq_ediv_of_nonneg _ (by decide)]; omega
theorem gtB_le {n d l u : Nat} {x : Option D} {S : Sto} (hu : (l + u) / 2 < 2 ^ 64) (hd : d ≤ 9000) (h : bin ((l + u) / 2) d ≤ n) :
    gtB [some (.int n), some (.int d), some (.int l), some (.int u), x] S = some (.nx [some (.int n), some (.int d), some (.int ((l + u) / 2 : Nat)), some (.int u), some (.int ((l + u) / 2 : Nat))] S) :=
  gtB_le' (half_a l u) (half_b l u) (comb_eq hu hd S) (decide_eq_true (by omega))
theorem gtB_gt {n d l u : Nat} {x : Option D} {S : Sto} (hu : (l + u) / 2 < 2 ^ 64) (hd : d ≤ 9000) (h : n < bin ((l + u) / 2) d) :
    gtB [some (.int n), some (.int d), some (.int l), some (.int u), x] S = some (.nx [some (.int n), some (.int d), some (.int l), some (.int ((l + u) / 2 : Nat)), some (.int ((l + u) / 2 : Nat))] S) :=
  gtB_gt' (half_a l u) (half_b l u) (comb_eq hu hd S) (decide_eq_false (by omega))
theorem half_lt {l u : Nat} (h : l < u) (hu : u < 2 ^ 60) : (l + u) / 2 < 2 ^ 64 := by omega
theorem top_asm {W : DS} {n d g u : Nat} {x : Option D} {S : Sto} (ho : W [some (.int n), some (.int d), some (.int d), some (.int (n + d : Nat)), none] S = some (.nx [some (.int n), some (.int d), some (.int g), some (.int u), x] S)) :
    run 5 (dSeq (dAsg (dV 1) (dgN 2)) (dSeq (dAsg (dOp gAdd (dV 0) (dV 1)) (dgN 3)) (dSeq W (dRet (dV 2))))) [.int n, .int d] S = some (.int g, S) := by
  have h1 : (n : Int) + (d : Int) = ((n + d : Nat) : Int) := rfl
  simp only [run, start0, dSeq, dIfS, dtOr, dtAnd, dtNot, dB, dOp, dUn, dV, dC, dTup, dLst, daNil, daCons, dChain, dAnd, dOr, dNot, dIf, dCall, dNil, dBk, dCt, dDrop, dRet, dRetN, dgN, dgsNil, dgsCons, dgT, dAsg, dPar, dPar3, dAug, dYes, dMt, doNone, doSome, gI, gNeg, gIx, gIs, gIsNot, isN, diSeq, diR1, diR2, diR3, List.map_cons, List.map_nil, List.length_cons, List.length_nil, List.replicate_succ, List.replicate_zero, List.cons_append, List.nil_append, List.append_nil, List.set_cons_zero, List.set_cons_succ, List.getElem?_cons_zero, List.getElem?_cons_succ, if_true, ite_true, Nat.reduceSub, Nat.reduceAdd, decide_true, decide_false, Bool.true_and, Bool.and_true, Bool.false_eq_true, if_false, ite_false, sz_0, sz_1, sz_2, sz_3, sz_4, sz_5, sz_6, sz_7, sz_8, sz_9, sz_10, sz_11, sz_12, sz_13, sz_14, sz_15, sz_16, sz_17, sz_18, sz_19, sz_20, sz_21, sz_22, sz_23, sz_24, gAdd, h1, ho]
theorem m_top {n d : Nat} (hd : 1 ≤ d) (hd2 : d ≤ 9000) (hn : 0 < n) (hn2 : n < 2 ^ 57) (S : Sto) : ∃ g : Nat, IsTop d n g ∧ m_greatest_top [.int n, .int d] S = some (.int g, S) := by
  obtain ⟨o, ho, g, u, x, hg, rfl⟩ := while_inv (t := gtT) (b := gtB)
    (fun m ρ S' => S' = S ∧ ∃ (l u : Nat) (x : Option D), u - l ≤ 2 ^ m ∧ l < u ∧ d ≤ l ∧ u ≤ n + d ∧ bin l d ≤ n ∧ n < bin u d ∧ ρ = [some (.int n), some (.int d), some (.int l), some (.int u), x])
    (fun o => ∃ (g u : Nat) (x : Option D), IsTop d n g ∧ o = .nx [some (.int n), some (.int d), some (.int g), some (.int u), x] S)
    (fun m ρ S' hI => by
      obtain ⟨rfl, l, u, x, h1, h2, h3, h4, h5, h6, rfl⟩ := hI
      have ht := gtT_eq (a := some (.int n)) (b := some (.int d)) (x := x) (l := l) (u := u) (S := S')
      by_cases z : l + 1 < u
      · rw [decide_eq_true (by omega)] at ht
        cases m with
        | zero => exfalso; rw [Nat.pow_zero] at h1; omega
        | succ m =>
          rw [Nat.pow_succ] at h1
          by_cases y : bin ((l + u) / 2) d ≤ n
          · exact .inr ⟨_, _, ht, gtB_le (half_lt h2 (by omega)) hd2 y, by omega, rfl, (l + u) / 2, u, _, by rw [Nat.add_sub_cancel]; omega, by omega, by omega, h4, y, h6, rfl⟩
          · exact .inr ⟨_, _, ht, gtB_gt (half_lt h2 (by omega)) hd2 (by omega), by omega, rfl, l, (l + u) / 2, _, by rw [Nat.add_sub_cancel]; omega, by omega, h3, by omega, h5, by omega, rfl⟩
      · rw [decide_eq_false (by omega)] at ht
        have e : u = l + 1 := by omega
        subst e
        exact .inl ⟨_, ht, l, l + 1, x, ⟨h3, h5, h6⟩, rfl⟩)
    FUEL 57 [some (.int n), some (.int d), some (.int d), some (.int (n + d : Nat)), none] S (by decide) ⟨rfl, d, n + d, none, by omega, by omega, by omega, by omega, by rw [bin_self]; omega, bin_over n d hd, rfl⟩
  exact ⟨g, hg, top_asm ho⟩

/-! tops_of -/
abbrev toT : DT := (dB (dOp gGt (dV 0) (dC (.int 0))))
abbrev toB : DS := (dSeq (dAsg (dCall m_greatest_top (daCons (dV 0) (daCons (dV 1) daNil))) (dgN 3)) (dSeq (dDrop (dMt gAppend (dV 2) (daCons (dV 3) daNil))) (dSeq (dAug 0 gSub (dCall gComb (daCons (dV 3) (daCons (dV 1) daNil)))) (dAug 1 gSub (dC (.int 1))))))
theorem toT_eq {n : Int} {b c x : Option D} {S : Sto} : toT [some (.int n), b, c, x] S = some (decide (0 < n), S) := by
  unfold toT
  simp only [run, start0, dSeq, dIfS, dtOr, dtAnd, dtNot, dB, dOp, dUn, dV, dC, dTup, dLst, daNil, daCons, dChain, dAnd, dOr, dNot, dIf, dCall, dNil, dBk, dCt, dDrop, dRet, dRetN, dgN, dgsNil, dgsCons, dgT, dAsg, dPar, dPar3, dAug, dYes, dMt, doNone, doSome, gI, gNeg, gIx, gIs, gIsNot, isN, diSeq, diR1, diR2, diR3, List.map_cons, List.map_nil, List.length_cons, List.length_nil, List.replicate_succ, List.replicate_zero, List.cons_append, List.nil_append, List.append_nil, List.set_cons_zero, List.set_cons_succ, List.getElem?_cons_zero, List.getElem?_cons_succ, if_true, ite_true, Nat.reduceSub, Nat.reduceAdd, decide_true, decide_false, Bool.true_and, Bool.and_true, Bool.false_eq_true, if_false, ite_false, sz_0, sz_1, sz_2, sz_3, sz_4, sz_5, sz_6, sz_7, sz_8, sz_9, sz_10, sz_11, sz_12, sz_13, sz_14, sz_15, sz_16, sz_17, sz_18, sz_19, sz_20, sz_21, sz_22, sz_23, sz_24]
theorem toB_eq' {n d g r v k : Nat} {x : Option D} {S : Sto} {ds : List D} {F G : DF} (hr : S[r]? = some (.lst ds)) (hs : ds.length < sizeLine)
    (ht : F [.int n, .int d] S = some (.int g, S)) (h3 : G [.int g, .int d] (S.set r (.lst (ds ++ [.int g]))) = some (.int v, S.set r (.lst (ds ++ [.int g])))) (e1 : (n : Int) - (v : Int) = ((n - v : Nat) : Int)) (e2 : (d : Int) - 1 = (k : Int)) :
    (dSeq (dAsg (dCall F (daCons (dV 0) (daCons (dV 1) daNil))) (dgN 3)) (dSeq (dDrop (dMt gAppend (dV 2) (daCons (dV 3) daNil))) (dSeq (dAug 0 gSub (dCall G (daCons (dV 3) (daCons (dV 1) daNil)))) (dAug 1 gSub (dC (.int 1)))))) [some (.int n), some (.int d), some (.ref r), x] S = some (.nx [some (.int (n - v : Nat)), some (.int k), some (.ref r), some (.int g)] (S.set r (.lst (ds ++ [.int g])))) := by
  simp only [run, start0, dSeq, dIfS, dtOr, dtAnd, dtNot, dB, dOp, dUn, dV, dC, dTup, dLst, daNil, daCons, dChain, dAnd, dOr, dNot, dIf, dCall, dNil, dBk, dCt, dDrop, dRet, dRetN, dgN, dgsNil, dgsCons, dgT, dAsg, dPar, dPar3, dAug, dYes, dMt, doNone, doSome, gI, gNeg, gIx, gIs, gIsNot, isN, diSeq, diR1, diR2, diR3, List.map_cons, List.map_nil, List.length_cons, List.length_nil, List.replicate_succ, List.replicate_zero, List.cons_append, List.nil_append, List.append_nil, List.set_cons_zero, List.set_cons_succ, List.getElem?_cons_zero, List.getElem?_cons_succ, if_true, ite_true, Nat.reduceSub, Nat.reduceAdd, decide_true, decide_false, Bool.true_and, Bool.and_true, Bool.false_eq_true, if_false, ite_false, sz_0, sz_1, sz_2, sz_3, sz_4, sz_5, sz_6, sz_7, sz_8, sz_9, sz_10, sz_11, sz_12, sz_13, sz_14, sz_15, sz_16, sz_17, sz_18, sz_19, sz_20, sz_21, sz_22, sz_23, sz_24, ht, gAppend, hr, hs, h3, e1, e2]
theorem toB_eq {n d g r : Nat} {x : Option D} {S : Sto} {ds : List D} (hd : 1 ≤ d) (hd2 : d ≤ 9000) (hg : g < 2 ^ 64) (hb : bin g d ≤ n) (hr : S[r]? = some (.lst ds)) (hz : ds.length < 1000)
    (ht : m_greatest_top [.int n, .int d] S = some (.int g, S)) :
    toB [some (.int n), some (.int d), some (.ref r), x] S = some (.nx [some (.int (n - bin g d : Nat)), some (.int (d - 1 : Nat)), some (.ref r), some (.int g)] (S.set r (.lst (ds ++ [.int g])))) :=
  toB_eq' hr (Nat.lt_trans hz (by decide)) ht (comb_eq hg hd2 _) (by omega) (by omega)
theorem tops_asm {W : DS} {n d : Nat} {e f x : Option D} {S : Sto} {ds : List D} (ho : W [some (.int n), some (.int d), some (.ref S.length), none] (S ++ [.lst []]) = some (.nx [e, f, some (.ref S.length), x] (S ++ [.lst ds]))) :
    run 4 (dSeq (dAsg (dLst daNil) (dgN 2)) (dSeq W (dRet (dV 2)))) [.int n, .int d] S = some (.ref S.length, S ++ [.lst ds]) := by
  have p3 : 0 ≤ sizeLine := by decide
  simp only [run, start0, dSeq, dIfS, dtOr, dtAnd, dtNot, dB, dOp, dUn, dV, dC, dTup, dLst, daNil, daCons, dChain, dAnd, dOr, dNot, dIf, dCall, dNil, dBk, dCt, dDrop, dRet, dRetN, dgN, dgsNil, dgsCons, dgT, dAsg, dPar, dPar3, dAug, dYes, dMt, doNone, doSome, gI, gNeg, gIx, gIs, gIsNot, isN, diSeq, diR1, diR2, diR3, List.map_cons, List.map_nil, List.length_cons, List.length_nil, List.replicate_succ, List.replicate_zero, List.cons_append, List.nil_append, List.append_nil, List.set_cons_zero, List.set_cons_succ, List.getElem?_cons_zero, List.getElem?_cons_succ, if_true, ite_true, Nat.reduceSub, Nat.reduceAdd, decide_true, decide_false, Bool.true_and, Bool.and_true, Bool.false_eq_true, if_false, ite_false, sz_0, sz_1, sz_2, sz_3, sz_4, sz_5, sz_6, sz_7, sz_8, sz_9, sz_10, sz_11, sz_12, sz_13, sz_14, sz_15, sz_16, sz_17, sz_18, sz_19, sz_20, sz_21, sz_22, sz_23, sz_24, p3, ho]
theorem m_tops {n d : Nat} (hd : 1 ≤ d) (hd2 : d < 1000) (hn2 : n < 2 ^ 57) (S : Sto) : ∃ gs : List Nat, Spr d n gs ∧ gs.length ≤ d ∧ m_tops_of [.int n, .int d] S = some (.ref S.length, S ++ [.lst (gs.map fun g => .int (g : Nat))]) := by
  obtain ⟨o, ho, gs, e, f, x, h1, h2, rfl⟩ := while_inv (t := toT) (b := toB)
    (fun m ρ S' => ∃ (gs : List Nat) (left k : Nat) (x : Option D), m = k ∧ k + gs.length = d ∧ (left = 0 ∨ 1 ≤ k) ∧ left ≤ n ∧ S' = S ++ [.lst (gs.map fun g => .int (g : Nat))] ∧ ρ = [some (.int left), some (.int k), some (.ref S.length), x] ∧ ∀ hs, Spr k left hs → Spr d n (gs ++ hs))
    (fun o => ∃ (gs : List Nat) (e f x : Option D), Spr d n gs ∧ gs.length ≤ d ∧ o = .nx [e, f, some (.ref S.length), x] (S ++ [.lst (gs.map fun g => .int (g : Nat))]))
    (fun m ρ S' hI => by
      obtain ⟨gs, left, k, x, rfl, h1, h2, h3, rfl, rfl, h4⟩ := hI
      have ht := toT_eq (n := left) (b := some (.int m)) (c := some (.ref S.length)) (x := x) (S := S ++ [.lst (gs.map fun g => .int (g : Nat))])
      by_cases z : 0 < left
      · rw [decide_eq_true (by omega)] at ht
        obtain ⟨g, tg, hg⟩ := m_top (n := left) (d := m) (by omega) (by omega) z (by omega) (S ++ [.lst (gs.map fun g => .int (g : Nat))])
        have hlt := top_lt (by omega) tg (by omega)
        refine .inr ⟨_, _, ht, toB_eq (by omega) (by omega) (by omega) tg.2.1 (get_last _) (by rw [List.length_map]; omega) hg, by omega, gs ++ [g], left - bin g m, m - 1, _, rfl, by simp; omega, ?_, by omega, ?_, rfl, fun hs q => ?_⟩
        · by_cases y : m = 1
          · subst y
            have t1 := tg.2.1
            have t2 := tg.2.2
            rw [bin_one] at t1 t2
            rw [bin_one]
            omega
          · omega
        · rw [set_last]; simp
        · rw [List.append_assoc]
          refine h4 (g :: hs) ?_
          obtain ⟨j, rfl⟩ : ∃ j, m = j + 1 := ⟨m - 1, by omega⟩
          exact .more z tg q
      · rw [decide_eq_false (by omega)] at ht
        have e : left = 0 := by omega
        subst e
        exact .inl ⟨_, ht, gs, _, _, _, by simpa using h4 [] (.out _), by omega, rfl⟩)
    FUEL d [some (.int n), some (.int d), some (.ref S.length), none] (S ++ [.lst []]) (Nat.lt_trans hd2 (by decide)) ⟨[], n, d, none, rfl, rfl, by omega, Nat.le_refl _, rfl, rfl, fun hs h => h⟩
  exact ⟨gs, h1, h2, tops_asm ho⟩

/-! the checks -/
theorem m_whole_int (i : Int) (S : Sto) : m_is_whole [.int i] S = some (.bl true, S) := rfl
theorem m_between {i lo hi : Int} (h1 : lo ≤ i) (h2 : i ≤ hi) (S : Sto) : m_is_whole_between [.int i, .int lo, .int hi] S = some (.bl true, S) := by
  have h := m_whole_int i S
  have e1 : decide (lo ≤ i) = true := decide_eq_true h1
  have e2 : decide (i ≤ hi) = true := decide_eq_true h2
  show run 3 (dRet (dAnd (dCall m_is_whole (daCons (dV 0) daNil)) (dChain gLe gLe (dV 1) (dV 0) (dV 2)))) [.int i, .int lo, .int hi] S = _
  simp only [run, start0, dSeq, dIfS, dtOr, dtAnd, dtNot, dB, dOp, dUn, dV, dC, dTup, dLst, daNil, daCons, dChain, dAnd, dOr, dNot, dIf, dCall, dNil, dBk, dCt, dDrop, dRet, dRetN, dgN, dgsNil, dgsCons, dgT, dAsg, dPar, dPar3, dAug, dYes, dMt, doNone, doSome, gI, gNeg, gIx, gIs, gIsNot, isN, diSeq, diR1, diR2, diR3, List.map_cons, List.map_nil, List.length_cons, List.length_nil, List.replicate_succ, List.replicate_zero, List.cons_append, List.nil_append, List.append_nil, List.set_cons_zero, List.set_cons_succ, List.getElem?_cons_zero, List.getElem?_cons_succ, if_true, ite_true, Nat.reduceSub, Nat.reduceAdd, decide_true, decide_false, Bool.true_and, Bool.and_true, Bool.false_eq_true, if_false, ite_false, sz_0, sz_1, sz_2, sz_3, sz_4, sz_5, sz_6, sz_7, sz_8, sz_9, sz_10, sz_11, sz_12, sz_13, sz_14, sz_15, sz_16, sz_17, sz_18, sz_19, sz_20, sz_21, sz_22, sz_23, sz_24, h, e1, e2]
theorem m_check {i lo hi : Int} (h1 : lo ≤ i) (h2 : i ≤ hi) (S : Sto) : m_check_number [.int i, .int lo, .int hi] S = some (.non, S) := by
  have h := m_between h1 h2 S
  show run 3 (dIfS (dtNot (dB (dCall m_is_whole_between (daCons (dV 0) (daCons (dV 1) (daCons (dV 2) daNil)))))) dNo dNil) [.int i, .int lo, .int hi] S = _
  simp only [run, start0, dSeq, dIfS, dtOr, dtAnd, dtNot, dB, dOp, dUn, dV, dC, dTup, dLst, daNil, daCons, dChain, dAnd, dOr, dNot, dIf, dCall, dNil, dBk, dCt, dDrop, dRet, dRetN, dgN, dgsNil, dgsCons, dgT, dAsg, dPar, dPar3, dAug, dYes, dMt, doNone, doSome, gI, gNeg, gIx, gIs, gIsNot, isN, diSeq, diR1, diR2, diR3, List.map_cons, List.map_nil, List.length_cons, List.length_nil, List.replicate_succ, List.replicate_zero, List.cons_append, List.nil_append, List.append_nil, List.set_cons_zero, List.set_cons_succ, List.getElem?_cons_zero, List.getElem?_cons_succ, if_true, ite_true, Nat.reduceSub, Nat.reduceAdd, decide_true, decide_false, Bool.true_and, Bool.and_true, Bool.false_eq_true, if_false, ite_false, sz_0, sz_1, sz_2, sz_3, sz_4, sz_5, sz_6, sz_7, sz_8, sz_9, sz_10, sz_11, sz_12, sz_13, sz_14, sz_15, sz_16, sz_17, sz_18, sz_19, sz_20, sz_21, sz_22, sz_23, sz_24, h, Bool.not_true]
theorem exp_asm {T : DF} {n d : Int} {S : Sto} {ds : List D} (h1 : 0 ≤ n) (h2 : n ≤ 1000000) (h3 : 1 ≤ d) (h4 : d ≤ 8) (h : T [.int n, .int d] S = some (.ref S.length, S ++ [.lst ds])) :
    run 2 (dSeq (dDrop (dCall m_check_number (daCons (dV 0) (daCons (dC (.int 0)) (daCons (dC (.int 1000000)) daNil))))) (dSeq (dDrop (dCall m_check_number (daCons (dV 1) (daCons (dC (.int 1)) (daCons (dC (.int 8)) daNil))))) (dRet (dCall gTuple (daCons (dCall T (daCons (dV 0) (daCons (dV 1) daNil))) daNil))))) [.int n, .int d] S = some (.tup ds, S ++ [.lst ds]) := by
  have c1 := m_check h1 h2 S
  have c2 := m_check h3 h4 S
  simp only [run, start0, dSeq, dIfS, dtOr, dtAnd, dtNot, dB, dOp, dUn, dV, dC, dTup, dLst, daNil, daCons, dChain, dAnd, dOr, dNot, dIf, dCall, dNil, dBk, dCt, dDrop, dRet, dRetN, dgN, dgsNil, dgsCons, dgT, dAsg, dPar, dPar3, dAug, dYes, dMt, doNone, doSome, gI, gNeg, gIx, gIs, gIsNot, isN, diSeq, diR1, diR2, diR3, List.map_cons, List.map_nil, List.length_cons, List.length_nil, List.replicate_succ, List.replicate_zero, List.cons_append, List.nil_append, List.append_nil, List.set_cons_zero, List.set_cons_succ, List.getElem?_cons_zero, List.getElem?_cons_succ, if_true, ite_true, Nat.reduceSub, Nat.reduceAdd, decide_true, decide_false, Bool.true_and, Bool.and_true, Bool.false_eq_true, if_false, ite_false, sz_0, sz_1, sz_2, sz_3, sz_4, sz_5, sz_6, sz_7, sz_8, sz_9, sz_10, sz_11, sz_12, sz_13, sz_14, sz_15, sz_16, sz_17, sz_18, sz_19, sz_20, sz_21, sz_22, sz_23, sz_24, c1, c2, h, gTuple, lstOf, get_last]
theorem exp_m : Exp m_expansion := fun n d S hn h1 h8 => by
  obtain ⟨gs, s1, l1, h⟩ := m_tops (n := n) (d := d) h1 (by omega) (by omega) S
  exact ⟨gs, s1, _, exp_asm (by omega) (by omega) (by omega) (by omega) h⟩

/-! what is most behind -/
abbrev mbF : DE := (dCall gComb (daCons (dOp gAdd (dV 4) (dC (.int 1))) (daCons (dOp gSub (dOp gAdd (dV 1) (dC (.int 1))) (dV 3)) daNil)))
theorem mb_f' {a c : Option D} {d j g u v : Nat} {S : Sto} {F : DF} {w : Int} (e1 : (g : Int) + 1 = (u : Int)) (e2 : (d : Int) + 1 - (j : Int) = (v : Int)) (h : F [.int u, .int v] S = some (.int w, S)) : (dCall F (daCons (dOp gAdd (dV 4) (dC (.int 1))) (daCons (dOp gSub (dOp gAdd (dV 1) (dC (.int 1))) (dV 3)) daNil))) [a, some (.int d), c, some (.int j), some (.int g)] S = some (.int w, S) := by
  simp only [run, start0, dSeq, dIfS, dtOr, dtAnd, dtNot, dB, dOp, dUn, dV, dC, dTup, dLst, daNil, daCons, dChain, dAnd, dOr, dNot, dIf, dCall, dNil, dBk, dCt, dDrop, dRet, dRetN, dgN, dgsNil, dgsCons, dgT, dAsg, dPar, dPar3, dAug, dYes, dMt, doNone, doSome, gI, gNeg, gIx, gIs, gIsNot, isN, diSeq, diR1, diR2, diR3, List.map_cons, List.map_nil, List.length_cons, List.length_nil, List.replicate_succ, List.replicate_zero, List.cons_append, List.nil_append, List.append_nil, List.set_cons_zero, List.set_cons_succ, List.getElem?_cons_zero, List.getElem?_cons_succ, if_true, ite_true, Nat.reduceSub, Nat.reduceAdd, decide_true, decide_false, Bool.true_and, Bool.and_true, Bool.false_eq_true, if_false, ite_false, sz_0, sz_1, sz_2, sz_3, sz_4, sz_5, sz_6, sz_7, sz_8, sz_9, sz_10, sz_11, sz_12, sz_13, sz_14, sz_15, sz_16, sz_17, sz_18, sz_19, sz_20, sz_21, sz_22, sz_23, sz_24, gAdd, e1, e2, h]
theorem mb_f {a c : Option D} {d j g : Nat} {S : Sto} (hb : g + 1 < 2 ^ 62) (hd : d + 1 < 1000) (hj : j < d) : mbF [a, some (.int d), c, some (.int j), some (.int g)] S = some (.int (bin (g + 1) (d - j + 1) : Nat), S) :=
  mb_f' (u := g + 1) (v := d - j + 1) rfl (by omega) (comb_eq (Nat.lt_trans hb (by decide)) (by omega) S)
theorem mb_lc {a : Option D} {d r : Nat} {gs : List Nat} {S : Sto} (hr : S[r]? = some (.lst (gs.map fun g => .int (g : Nat)))) (hd : d + 1 < 1000) (hl : gs.length ≤ d) (hb : ∀ (j g : Nat), gs[j]? = some g → g + 1 < 2 ^ 62) :
    (dLc (diEnumerate (daCons (dV 2) daNil)) (dgT (dgsCons (dgN 3) (dgsCons (dgN 4) dgsNil)) 2) dYes (dCall gComb (daCons (dOp gAdd (dV 4) (dC (.int 1))) (daCons (dOp gSub (dOp gAdd (dV 1) (dC (.int 1))) (dV 3)) daNil))) [3, 4]) [a, some (.int d), some (.ref r), none, none] S = some (.ref S.length, S ++ [.lst (nxts d gs)]) := by
  have hr' : r < S.length := (List.getElem?_eq_some_iff.mp hr).1
  have hit : diEnumerate (daCons (dV 2) daNil) [a, some (.int d), some (.ref r), none, none] S = some (.enum (.lst r), S) := by
    unfold diEnumerate
    simp only [run, start0, dSeq, dIfS, dtOr, dtAnd, dtNot, dB, dOp, dUn, dV, dC, dTup, dLst, daNil, daCons, dChain, dAnd, dOr, dNot, dIf, dCall, dNil, dBk, dCt, dDrop, dRet, dRetN, dgN, dgsNil, dgsCons, dgT, dAsg, dPar, dPar3, dAug, dYes, dMt, doNone, doSome, gI, gNeg, gIx, gIs, gIsNot, isN, diSeq, diR1, diR2, diR3, List.map_cons, List.map_nil, List.length_cons, List.length_nil, List.replicate_succ, List.replicate_zero, List.cons_append, List.nil_append, List.append_nil, List.set_cons_zero, List.set_cons_succ, List.getElem?_cons_zero, List.getElem?_cons_succ, if_true, ite_true, Nat.reduceSub, Nat.reduceAdd, decide_true, decide_false, Bool.true_and, Bool.and_true, Bool.false_eq_true, if_false, ite_false, sz_0, sz_1, sz_2, sz_3, sz_4, sz_5, sz_6, sz_7, sz_8, sz_9, sz_10, sz_11, sz_12, sz_13, sz_14, sz_15, sz_16, sz_17, sz_18, sz_19, sz_20, sz_21, sz_22, sz_23, sz_24, srcL]
  have hsz : Src.size (.enum (.lst r)) S = gs.length := by
    simp only [Src.size, hr, List.length_map]
  have key := lc_pure (src := .enum (.lst r)) (g := dgT (dgsCons (dgN 3) (dgsCons (dgN 4) dgsNil)) 2) (t := dYes) (f := mbF) (ρ := [a, some (.int d), some (.ref r), none, none]) (S := S)
    (ds := (List.range gs.length).map fun j => .tup [.int (j : Nat), .int (gs.getD j 0 : Nat)]) (ys := nxts d gs)
    (by rw [List.length_map, List.length_range]; exact Nat.le_trans (show gs.length ≤ 1000 by omega) (by decide))
    (fun S' i hS => by
      have e := hS r hr'
      simp only [Src.item, e, hr]
      rw [List.getElem?_map, List.getElem?_map]
      by_cases hi : i < gs.length
      · rw [List.getElem?_eq_getElem hi, List.getElem?_range hi]; simp [hi]
      · rw [List.getElem?_eq_none (Nat.le_of_not_lt hi), List.getElem?_eq_none (by rw [List.length_range]; exact Nat.le_of_not_lt hi)]; rfl)
    (fun i x acc hx => by
      rw [List.getElem?_map] at hx
      by_cases hi : i < gs.length
      · rw [List.getElem?_range hi] at hx
        cases hx
        refine ⟨_, fun _ => rfl, rfl, .int (bin (gs[i] + 1) (d - i + 1) : Nat), ?_, ?_⟩
        · unfold nxts
          rw [List.getElem?_map, List.getElem?_range hi]
          simp [hi]
        · have e : gs.getD i 0 = gs[i] := by simp [hi]
          rw [e]
          exact mb_f (hb i _ (List.getElem?_eq_getElem hi)) hd (by omega)
      · rw [List.getElem?_eq_none (by rw [List.length_range]; exact Nat.le_of_not_lt hi)] at hx
        cases hx)
    (by unfold nxts; simp)
  rw [show (List.map (fun j => D.tup [.int (j : Nat), .int (gs.getD j 0 : Nat)]) (List.range gs.length)).length + 1 = Src.size (.enum (.lst r)) S + 1 by rw [hsz]; simp] at key
  exact dLc_srcs hit rfl key
theorem mb_asm {T : DF} {L : DE} {n d : Nat} {S S1 S2 : Sto} {x : D} {i : Nat} {ns : List Int} (h1 : T [.int n, .int d] S = some (x, S1)) (ho : L [some (.int n), some (.int d), some x, none, none] S1 = some (.ref i, S2)) (h2 : S2[i]? = some (.lst (ns.map .int))) :
    run 5 (dSeq (dAsg (dCall T (daCons (dV 0) (daCons (dV 1) daNil))) (dgN 2)) (dRet (dCall gSum (daCons L daNil)))) [.int n, .int d] S = some (.int ns.sum, S2) := by
  simp only [run, start0, dSeq, dIfS, dtOr, dtAnd, dtNot, dB, dOp, dUn, dV, dC, dTup, dLst, daNil, daCons, dChain, dAnd, dOr, dNot, dIf, dCall, dNil, dBk, dCt, dDrop, dRet, dRetN, dgN, dgsNil, dgsCons, dgT, dAsg, dPar, dPar3, dAug, dYes, dMt, doNone, doSome, gI, gNeg, gIx, gIs, gIsNot, isN, diSeq, diR1, diR2, diR3, List.map_cons, List.map_nil, List.length_cons, List.length_nil, List.replicate_succ, List.replicate_zero, List.cons_append, List.nil_append, List.append_nil, List.set_cons_zero, List.set_cons_succ, List.getElem?_cons_zero, List.getElem?_cons_succ, if_true, ite_true, Nat.reduceSub, Nat.reduceAdd, decide_true, decide_false, Bool.true_and, Bool.and_true, Bool.false_eq_true, if_false, ite_false, sz_0, sz_1, sz_2, sz_3, sz_4, sz_5, sz_6, sz_7, sz_8, sz_9, sz_10, sz_11, sz_12, sz_13, sz_14, sz_15, sz_16, sz_17, sz_18, sz_19, sz_20, sz_21, sz_22, sz_23, sz_24, h1, ho, gSum, items, h2, intsD_map]
theorem m_mb {n d : Nat} (hd : 1 ≤ d) (hd2 : d + 1 < 1000) (hn : n < 2 ^ 57) (S : Sto) : ∃ gs : List Nat, Spr d n gs ∧ ∃ o o', m_most_behind [.int n, .int d] S = some (.int (nxt d gs), S ++ [o] ++ [o']) := by
  obtain ⟨gs, s1, l1, h⟩ := m_tops (n := n) (d := d) hd (by omega) hn S
  obtain ⟨ns, e1, e2⟩ := nxts_sum gs d l1
  have h4 := mb_lc (a := some (.int n)) (d := d) (gs := gs) (S := S ++ [.lst (gs.map fun g => .int (g : Nat))]) (get_last _) hd2 l1 (fun j g hj => by
    have := s1.parts hn j g hj
    omega)
  have := mb_asm h h4 (by rw [get_last, e1])
  rw [e2] at this
  exact ⟨gs, s1, _, _, this⟩
theorem nx_asm {T : DF} {n d : Int} {S S2 : Sto} {x : D} (h1 : 0 ≤ n) (h2 : n ≤ 1000000) (h3 : 1 ≤ d) (h4 : d ≤ 8) (h : T [.int n, .int d] S = some (x, S2)) :
    run 2 (dSeq (dDrop (dCall m_check_number (daCons (dV 0) (daCons (dC (.int 0)) (daCons (dC (.int 1000000)) daNil))))) (dSeq (dDrop (dCall m_check_number (daCons (dV 1) (daCons (dC (.int 1)) (daCons (dC (.int 8)) daNil))))) (dRet (dCall T (daCons (dV 0) (daCons (dV 1) daNil)))))) [.int n, .int d] S = some (x, S2) := by
  have c1 := m_check h1 h2 S
  have c2 := m_check h3 h4 S
  simp only [run, start0, dSeq, dIfS, dtOr, dtAnd, dtNot, dB, dOp, dUn, dV, dC, dTup, dLst, daNil, daCons, dChain, dAnd, dOr, dNot, dIf, dCall, dNil, dBk, dCt, dDrop, dRet, dRetN, dgN, dgsNil, dgsCons, dgT, dAsg, dPar, dPar3, dAug, dYes, dMt, doNone, doSome, gI, gNeg, gIx, gIs, gIsNot, isN, diSeq, diR1, diR2, diR3, List.map_cons, List.map_nil, List.length_cons, List.length_nil, List.replicate_succ, List.replicate_zero, List.cons_append, List.nil_append, List.append_nil, List.set_cons_zero, List.set_cons_succ, List.getElem?_cons_zero, List.getElem?_cons_succ, if_true, ite_true, Nat.reduceSub, Nat.reduceAdd, decide_true, decide_false, Bool.true_and, Bool.and_true, Bool.false_eq_true, if_false, ite_false, sz_0, sz_1, sz_2, sz_3, sz_4, sz_5, sz_6, sz_7, sz_8, sz_9, sz_10, sz_11, sz_12, sz_13, sz_14, sz_15, sz_16, sz_17, sz_18, sz_19, sz_20, sz_21, sz_22, sz_23, sz_24, c1, c2, h]
theorem nxt_m : Nxt m_most_next := fun n d S hn h1 h8 => by
  obtain ⟨gs, s1, o, o', h⟩ := m_mb (n := n) (d := d) h1 (by omega) (by omega) S
  exact ⟨gs, s1, _, nx_asm (by omega) (by omega) (by omega) (by omega) h⟩
end Ev

set_option maxHeartbeats 4000000
namespace Ev
open PySem PySem.Spec PyProof.Rows L2
def topS (i : Nat) : Stmt := PySem.Challenge.pw_facenumbers_k10_expansions_and_what_is_m.main.body.getD i (.Pass ⟨0, 0, 0, 0⟩)
structure Bt (mg : Str → Option Value) : Prop where
  abs_ : mg "abs" = none
  bool_ : mg "bool" = none
  divmod_ : mg "divmod" = none
  enumerate_ : mg "enumerate" = none
  int_ : mg "int" = none
  isinstance_ : mg "isinstance" = none
  len_ : mg "len" = none
  max_ : mg "max" = none
  min_ : mg "min" = none
  range_ : mg "range" = none
  repr_ : mg "repr" = none
  sum_ : mg "sum" = none
  tuple_ : mg "tuple" = none
section
variable {P : Program} {w : World} {K : PySem.W.Frag} {mg : Str → Option Value} {base : Heap}
abbrev s_is_whole : Stmt := topS 5
theorem sc_is_whole : FnScope ["value"] ["value"] (defScope s_is_whole) := ⟨rfl, rfl, rfl, by decide +kernel, rfl, by decide +kernel, by decide +kernel⟩
theorem ok_is_whole {k : Nat} {fa : Addr} {fd : FuncData} (F : Fun K "is_whole" "is_whole" s_is_whole fa fd) (hm : mg "is_whole" = some (.ref fa)) (hb : Binds K fd ["value"] []) (B : Bt mg)  : Fd P w K mg base (k + 1) "is_whole" ["value"] m_is_whole := by
  have sc := sc_is_whole
  refine fd_mk F sc hm hb fun cdv A outer s H hg hr => ?_
  unfold d_is_whole
  exact (ws_one (ws_ret (we_and (we_blt cd_isi (by rfl) B.isinstance_ (by decide +kernel) (wa_cons (we_var (pv 0)) (wa_cons (we_ty (by rfl) B.int_ (by decide +kernel)) wa_nil))) (we_one (we_not (we_blt cd_isi (by rfl) B.isinstance_ (by decide +kernel) (wa_cons (we_var (pv 0)) (wa_cons (we_ty (by rfl) B.bool_ (by decide +kernel)) wa_nil))))))))
theorem bi_is_whole {fa : Addr} {fd : FuncData} (F : Fun K "is_whole" "is_whole" s_is_whole fa fd) : Binds K fd ["value"] [] := F.binds (ps := ["value"]) fun _ _ _ _ _ _ us hl => match us, hl with | [_], _ => rfl
abbrev s_is_whole_between : Stmt := topS 6
theorem sc_is_whole_between : FnScope ["value", "low", "high"] ["value", "low", "high"] (defScope s_is_whole_between) := ⟨rfl, rfl, rfl, by decide +kernel, rfl, by decide +kernel, by decide +kernel⟩
theorem ok_is_whole_between {k : Nat} {fa : Addr} {fd : FuncData} (F : Fun K "is_whole_between" "is_whole_between" s_is_whole_between fa fd) (hm : mg "is_whole_between" = some (.ref fa)) (hb : Binds K fd ["value", "low", "high"] []) (B : Bt mg) (Fis_whole : Fd P w K mg base k "is_whole" ["value"] m_is_whole) : Fd P w K mg base (k + 1) "is_whole_between" ["value", "low", "high"] m_is_whole_between := by
  have sc := sc_is_whole_between
  refine fd_mk F sc hm hb fun cdv A outer s H hg hr => ?_
  unfold d_is_whole_between
  exact (ws_one (ws_ret (we_and (we_call Fis_whole hg hr (by rfl) (wa_cons (we_var (pv 0)) wa_nil) (da_len_cons da_len_nil)) (we_one (we_chain od_le od_le (we_var (pv 1)) (we_var (pv 0)) (we_var (pv 2)))))))
theorem bi_is_whole_between {fa : Addr} {fd : FuncData} (F : Fun K "is_whole_between" "is_whole_between" s_is_whole_between fa fd) : Binds K fd ["value", "low", "high"] [] := F.binds (ps := ["value", "low", "high"]) fun _ _ _ _ _ _ us hl => match us, hl with | [_, _, _], _ => rfl
abbrev s_check_number : Stmt := topS 8
theorem sc_check_number : FnScope ["number", "low", "high"] ["number", "low", "high"] (defScope s_check_number) := ⟨rfl, rfl, rfl, by decide +kernel, rfl, by decide +kernel, by decide +kernel⟩
theorem ok_check_number {k : Nat} {fa : Addr} {fd : FuncData} (F : Fun K "check_number" "check_number" s_check_number fa fd) (hm : mg "check_number" = some (.ref fa)) (hb : Binds K fd ["number", "low", "high"] []) (B : Bt mg) (Fis_whole_between : Fd P w K mg base k "is_whole_between" ["value", "low", "high"] m_is_whole_between) : Fd P w K mg base (k + 1) "check_number" ["number", "low", "high"] m_check_number := by
  have sc := sc_check_number
  refine fd_mk F sc hm hb fun cdv A outer s H hg hr => ?_
  unfold d_check_number
  exact (ws_one (ws_if (wt_not (wt_val (we_call Fis_whole_between hg hr (by rfl) (wa_cons (we_var (pv 0)) (wa_cons (we_var (pv 1)) (wa_cons (we_var (pv 2)) wa_nil))) (da_len_cons (da_len_cons (da_len_cons da_len_nil)))))) (ws_one ws_no) ws_nil))
theorem bi_check_number {fa : Addr} {fd : FuncData} (F : Fun K "check_number" "check_number" s_check_number fa fd) : Binds K fd ["number", "low", "high"] [] := F.binds (ps := ["number", "low", "high"]) fun _ _ _ _ _ _ us hl => match us, hl with | [_, _, _], _ => rfl
abbrev s_greatest_top : Stmt := topS 16
theorem sc_greatest_top : FnScope ["number", "degree", "low", "beyond", "middle"] ["number", "degree"] (defScope s_greatest_top) := ⟨rfl, rfl, rfl, by decide +kernel, rfl, by decide +kernel, by decide +kernel⟩
theorem ok_greatest_top {k : Nat} {fa : Addr} {fd : FuncData} (F : Fun K "greatest_top" "greatest_top" s_greatest_top fa fd) (hm : mg "greatest_top" = some (.ref fa)) (hb : Binds K fd ["number", "degree"] []) (B : Bt mg) (l_comb : mg "comb" = some (.builtin "math.comb")) : Fd P w K mg base (k + 1) "greatest_top" ["number", "degree"] m_greatest_top := by
  have sc := sc_greatest_top
  refine fd_mk F sc hm hb fun cdv A outer s H hg hr => ?_
  unfold d_greatest_top
  exact (ws_cons (ws_set (i := 2) sc.nd rfl (Or.inl rfl) (we_var (pv 1))) (ws_cons (ws_set (i := 3) sc.nd rfl (Or.inl rfl) (we_op od_add (we_var (pv 0)) (we_var (pv 1)))) (ws_cons (ws_while FUEL PassesOwn.never (wt_cmp od_gt (we_op od_sub (we_var (pv 3)) (we_var (pv 2))) we_int (nomark _)) (ws_cons (ws_set (i := 4) sc.nd rfl (Or.inl rfl) (we_op od_fdiv (we_op od_add (we_var (pv 2)) (we_var (pv 3))) we_int)) (ws_one (ws_if (wt_cmp od_le (we_lib cd_comb (by rfl) l_comb (wa_cons (we_var (pv 4)) (wa_cons (we_var (pv 1)) wa_nil))) (we_var (pv 0)) (nomark _)) (ws_one (ws_set (i := 2) sc.nd rfl (Or.inl rfl) (we_var (pv 4)))) (ws_one (ws_set (i := 3) sc.nd rfl (Or.inl rfl) (we_var (pv 4)))))))) (ws_one (ws_ret (we_var (pv 2)))))))
theorem bi_greatest_top {fa : Addr} {fd : FuncData} (F : Fun K "greatest_top" "greatest_top" s_greatest_top fa fd) : Binds K fd ["number", "degree"] [] := F.binds (ps := ["number", "degree"]) fun _ _ _ _ _ _ us hl => match us, hl with | [_, _], _ => rfl
abbrev s_tops_of : Stmt := topS 15
theorem sc_tops_of : FnScope ["number", "degree", "tops", "top"] ["number", "degree"] (defScope s_tops_of) := ⟨rfl, rfl, rfl, by decide +kernel, rfl, by decide +kernel, by decide +kernel⟩
theorem ok_tops_of {k : Nat} {fa : Addr} {fd : FuncData} (F : Fun K "tops_of" "tops_of" s_tops_of fa fd) (hm : mg "tops_of" = some (.ref fa)) (hb : Binds K fd ["number", "degree"] []) (B : Bt mg) (Fgreatest_top : Fd P w K mg base k "greatest_top" ["number", "degree"] m_greatest_top) (l_comb : mg "comb" = some (.builtin "math.comb")) : Fd P w K mg base (k + 1) "tops_of" ["number", "degree"] m_tops_of := by
  have sc := sc_tops_of
  refine fd_mk F sc hm hb fun cdv A outer s H hg hr => ?_
  unfold d_tops_of
  exact (ws_cons (ws_set (i := 2) sc.nd rfl (Or.inl rfl) (we_lst wa_nil)) (ws_cons (ws_while FUEL PassesOwn.never (wt_cmp od_gt (we_var (pv 0)) we_int (nomark _)) (ws_cons (ws_set (i := 3) sc.nd rfl (Or.inl rfl) (we_call Fgreatest_top hg hr (by rfl) (wa_cons (we_var (pv 0)) (wa_cons (we_var (pv 1)) wa_nil)) (da_len_cons (da_len_cons da_len_nil)))) (ws_cons (ws_expr (we_append (we_var (pv 2)) (wa_cons (we_var (pv 3)) wa_nil))) (ws_cons (ws_aug (i := 0) sc.nd rfl (Or.inl rfl) (we_lib cd_comb (by rfl) l_comb (wa_cons (we_var (pv 3)) (wa_cons (we_var (pv 1)) wa_nil))) pd_sub) (ws_one (ws_aug (i := 1) sc.nd rfl (Or.inl rfl) we_int pd_sub)))))) (ws_one (ws_ret (we_var (pv 2))))))
theorem bi_tops_of {fa : Addr} {fd : FuncData} (F : Fun K "tops_of" "tops_of" s_tops_of fa fd) : Binds K fd ["number", "degree"] [] := F.binds (ps := ["number", "degree"]) fun _ _ _ _ _ _ us hl => match us, hl with | [_, _], _ => rfl
abbrev s_expansion : Stmt := topS 12
theorem sc_expansion : FnScope ["number", "degree"] ["number", "degree"] (defScope s_expansion) := ⟨rfl, rfl, rfl, by decide +kernel, rfl, by decide +kernel, by decide +kernel⟩
theorem ok_expansion {k : Nat} {fa : Addr} {fd : FuncData} (F : Fun K "expansion" "expansion" s_expansion fa fd) (hm : mg "expansion" = some (.ref fa)) (hb : Binds K fd ["number", "degree"] []) (B : Bt mg) (Ftops_of : Fd P w K mg base k "tops_of" ["number", "degree"] m_tops_of) (Fcheck_number : Fd P w K mg base k "check_number" ["number", "low", "high"] m_check_number) {t_GREATEST_DEGREE : Tok} (c_GREATEST_DEGREE : mg "GREATEST_DEGREE" = some (.int 8 t_GREATEST_DEGREE)) {t_NUMBER_LIMIT : Tok} (c_NUMBER_LIMIT : mg "NUMBER_LIMIT" = some (.int 1000000 t_NUMBER_LIMIT)) : Fd P w K mg base (k + 1) "expansion" ["number", "degree"] m_expansion := by
  have sc := sc_expansion
  refine fd_mk F sc hm hb fun cdv A outer s H hg hr => ?_
  unfold d_expansion
  exact (ws_cons (ws_expr (we_call Fcheck_number hg hr (by rfl) (wa_cons (we_var (pv 0)) (wa_cons we_int (wa_cons (we_glI (by rfl) c_NUMBER_LIMIT) wa_nil))) (da_len_cons (da_len_cons (da_len_cons da_len_nil))))) (ws_cons (ws_expr (we_call Fcheck_number hg hr (by rfl) (wa_cons (we_var (pv 1)) (wa_cons we_int (wa_cons (we_glI (by rfl) c_GREATEST_DEGREE) wa_nil))) (da_len_cons (da_len_cons (da_len_cons da_len_nil))))) (ws_one (ws_ret (we_bty cd_tuple (by rfl) B.tuple_ (by decide +kernel) (wa_cons (we_call Ftops_of hg hr (by rfl) (wa_cons (we_var (pv 0)) (wa_cons (we_var (pv 1)) wa_nil)) (da_len_cons (da_len_cons da_len_nil))) wa_nil))))))
theorem bi_expansion {fa : Addr} {fd : FuncData} (F : Fun K "expansion" "expansion" s_expansion fa fd) : Binds K fd ["number", "degree"] [] := F.binds (ps := ["number", "degree"]) fun _ _ _ _ _ _ us hl => match us, hl with | [_, _], _ => rfl
abbrev s_most_behind : Stmt := topS 14
theorem sc_most_behind : FnScope ["number", "degree", "tops", "at", "top"] ["number", "degree"] (defScope s_most_behind) := ⟨rfl, rfl, rfl, by decide +kernel, rfl, by decide +kernel, by decide +kernel⟩
theorem ok_most_behind {k : Nat} {fa : Addr} {fd : FuncData} (F : Fun K "most_behind" "most_behind" s_most_behind fa fd) (hm : mg "most_behind" = some (.ref fa)) (hb : Binds K fd ["number", "degree"] []) (B : Bt mg) (Ftops_of : Fd P w K mg base k "tops_of" ["number", "degree"] m_tops_of) (l_comb : mg "comb" = some (.builtin "math.comb")) : Fd P w K mg base (k + 1) "most_behind" ["number", "degree"] m_most_behind := by
  have sc := sc_most_behind
  refine fd_mk F sc hm hb fun cdv A outer s H hg hr => ?_
  unfold d_most_behind
  exact (ws_cons (ws_set (i := 2) sc.nd rfl (Or.inl rfl) (we_call Ftops_of hg hr (by rfl) (wa_cons (we_var (pv 0)) (wa_cons (we_var (pv 1)) wa_nil)) (da_len_cons (da_len_cons da_len_nil)))) (ws_one (ws_ret (we_blt (cd_sum rfl) (by rfl) B.sum_ (by decide +kernel) (wa_cons (we_lc (own := [("at", 3), ("top", 4)]) rfl sc.nd (wi_enumerate (by rfl) B.enumerate_ (wa_cons (we_var (pv 2)) wa_nil)) (blkOk_by (own := [("at", 3), ("top", 4)]) (by kernel_rfl)) (lcg_two (by decide) (by decide)) (fun _ _ _ _ _ => pg_tup rfl (pgs_cons (pg_name (i := 3) sc.nd rfl (Or.inl rfl)) (pgs_cons (pg_name (i := 4) sc.nd rfl (Or.inl rfl)) pgs_nil))) (fun _ _ _ _ _ => wts_nil) (fun _ _ _ _ _ => (we_lib cd_comb (by rfl) l_comb (wa_cons (we_op od_add (we_var (pv 4)) we_int) (wa_cons (we_op od_sub (we_op od_add (we_var (pv 1)) we_int) (we_var (pv 3))) wa_nil))))) wa_nil)))))
theorem bi_most_behind {fa : Addr} {fd : FuncData} (F : Fun K "most_behind" "most_behind" s_most_behind fa fd) : Binds K fd ["number", "degree"] [] := F.binds (ps := ["number", "degree"]) fun _ _ _ _ _ _ us hl => match us, hl with | [_, _], _ => rfl
abbrev s_most_next : Stmt := topS 13
theorem sc_most_next : FnScope ["number", "degree"] ["number", "degree"] (defScope s_most_next) := ⟨rfl, rfl, rfl, by decide +kernel, rfl, by decide +kernel, by decide +kernel⟩
theorem ok_most_next {k : Nat} {fa : Addr} {fd : FuncData} (F : Fun K "most_next" "most_next" s_most_next fa fd) (hm : mg "most_next" = some (.ref fa)) (hb : Binds K fd ["number", "degree"] []) (B : Bt mg) (Fmost_behind : Fd P w K mg base k "most_behind" ["number", "degree"] m_most_behind) (Fcheck_number : Fd P w K mg base k "check_number" ["number", "low", "high"] m_check_number) {t_GREATEST_DEGREE : Tok} (c_GREATEST_DEGREE : mg "GREATEST_DEGREE" = some (.int 8 t_GREATEST_DEGREE)) {t_NUMBER_LIMIT : Tok} (c_NUMBER_LIMIT : mg "NUMBER_LIMIT" = some (.int 1000000 t_NUMBER_LIMIT)) : Fd P w K mg base (k + 1) "most_next" ["number", "degree"] m_most_next := by
  have sc := sc_most_next
  refine fd_mk F sc hm hb fun cdv A outer s H hg hr => ?_
  unfold d_most_next
  exact (ws_cons (ws_expr (we_call Fcheck_number hg hr (by rfl) (wa_cons (we_var (pv 0)) (wa_cons we_int (wa_cons (we_glI (by rfl) c_NUMBER_LIMIT) wa_nil))) (da_len_cons (da_len_cons (da_len_cons da_len_nil))))) (ws_cons (ws_expr (we_call Fcheck_number hg hr (by rfl) (wa_cons (we_var (pv 1)) (wa_cons we_int (wa_cons (we_glI (by rfl) c_GREATEST_DEGREE) wa_nil))) (da_len_cons (da_len_cons (da_len_cons da_len_nil))))) (ws_one (ws_ret (we_call Fmost_behind hg hr (by rfl) (wa_cons (we_var (pv 0)) (wa_cons (we_var (pv 1)) wa_nil)) (da_len_cons (da_len_cons da_len_nil)))))))
theorem bi_most_next {fa : Addr} {fd : FuncData} (F : Fun K "most_next" "most_next" s_most_next fa fd) : Binds K fd ["number", "degree"] [] := F.binds (ps := ["number", "degree"]) fun _ _ _ _ _ _ us hl => match us, hl with | [_, _], _ => rfl
abbrev s_law_pot : Stmt := topS 18
theorem sc_law_pot : FnScope ["script", "lap", "mixed", "cell", "own"] ["script", "lap"] (defScope s_law_pot) := ⟨rfl, rfl, rfl, by decide +kernel, rfl, by decide +kernel, by decide +kernel⟩
theorem ok_law_pot {k : Nat} {fa : Addr} {fd : FuncData} (F : Fun K "_law_pot" "_law_pot" s_law_pot fa fd) (hm : mg "_law_pot" = some (.ref fa)) (hb : Binds K fd ["script", "lap"] []) (B : Bt mg)  : Fd P w K mg base (k + 1) "_law_pot" ["script", "lap"] m_law_pot := by
  have sc := sc_law_pot
  refine fd_mk F sc hm hb fun cdv A outer s H hg hr => ?_
  unfold d_law_pot
  exact (ws_cons (ws_set (i := 2) sc.nd rfl (Or.inl rfl) (we_op od_add we_int (we_op od_mul we_int (we_var (pv 1))))) (ws_cons (ws_for PassesOwn.never rfl (wi_seq (we_sl (we_var (pv 0)) wo_none (wo_some we_int))) (wg_name (pg_name (i := 3) sc.nd rfl (Or.inl rfl))) (ws_one (ws_set (i := 2) sc.nd rfl (Or.inl rfl) (we_op od_mod (we_bty cd_int (by rfl) B.int_ (by decide +kernel) (wa_cons (we_op od_add (we_op od_add (we_op od_mul (we_var (pv 2)) we_int) (we_op od_mul (we_op od_mod (we_bty cd_int (by rfl) B.int_ (by decide +kernel) (wa_cons (we_var (pv 3)) wa_nil)) we_int) we_int)) we_int) wa_nil)) we_int)))) (ws_cons (ws_set (i := 4) sc.nd rfl (Or.inl rfl) (we_if (wt_cmp od_lt (we_var (pv 1)) (we_blt cd_len (by rfl) B.len_ (by decide +kernel) (wa_cons (we_var (pv 0)) wa_nil)) (nomark _)) (we_bty cd_int (by rfl) B.int_ (by decide +kernel) (wa_cons (we_ix xd_ix (we_var (pv 0)) (we_var (pv 1)) (fun _ _ => rfl)) wa_nil)) we_int)) (ws_cons (ws_set (i := 2) sc.nd rfl (Or.inl rfl) (we_op od_mod (we_bty cd_int (by rfl) B.int_ (by decide +kernel) (wa_cons (we_op od_add (we_op od_add (we_op od_mul (we_var (pv 2)) we_int) (we_op od_mul (we_op od_mod (we_bty cd_int (by rfl) B.int_ (by decide +kernel) (wa_cons (we_var (pv 4)) wa_nil)) we_int) we_int)) we_int) wa_nil)) we_int)) (ws_one (ws_ret (we_lst (wa_cons (we_if (wt_w (ww_or (wt_cmp od_lt (we_var (pv 4)) we_int (nomark _)) (ww_or1 (wt_cmp od_ge (we_var (pv 4)) (we_op od_pow we_int we_int) (nomark _))))) (we_blt cd_abs (by rfl) B.abs_ (by decide +kernel) (wa_cons (we_var (pv 4)) wa_nil)) we_int) (wa_cons (we_var (pv 2)) (wa_cons we_int wa_nil))))))))))
theorem bi_law_pot {fa : Addr} {fd : FuncData} (F : Fun K "_law_pot" "_law_pot" s_law_pot fa fd) : Binds K fd ["script", "lap"] [] := F.binds (ps := ["script", "lap"]) fun _ _ _ _ _ _ us hl => match us, hl with | [_, _], _ => rfl
abbrev s_law_take : Stmt := topS 19
theorem sc_law_take : FnScope ["pot", "few", "figure", "stir"] ["pot", "few"] (defScope s_law_take) := ⟨rfl, rfl, rfl, by decide +kernel, rfl, by decide +kernel, by decide +kernel⟩
theorem ok_law_take {k : Nat} {fa : Addr} {fd : FuncData} (F : Fun K "_law_take" "_law_take" s_law_take fa fd) (hm : mg "_law_take" = some (.ref fa)) (hb : Binds K fd ["pot", "few"] []) (B : Bt mg)  : Fd P w K mg base (k + 1) "_law_take" ["pot", "few"] m_law_take := by
  have sc := sc_law_take
  refine fd_mk F sc hm hb fun cdv A outer s H hg hr => ?_
  unfold d_law_take
  exact (ws_cons (ws_if (wt_cmp od_gt (we_ix xd_ix (we_var (pv 0)) we_int (fun _ _ => rfl)) we_int (nomark _)) (ws_cons (ws_asg (we_blt cd_divmod (by rfl) B.divmod_ (by decide +kernel) (wa_cons (we_ix xd_ix (we_var (pv 0)) we_int (fun _ _ => rfl)) (wa_cons (we_var (pv 1)) wa_nil))) (wg_tup rfl (wgs_cons (wg_sub (we_var (pv 0)) we_int) (wgs_cons (wg_name (pg_name (i := 2) sc.nd rfl (Or.inl rfl))) wgs_nil)))) (ws_one (ws_ret (we_var (pv 2))))) ws_nil) (ws_cons (ws_asg (we_op od_add (we_ix xd_ix (we_var (pv 0)) we_int (fun _ _ => rfl)) we_int) (wg_sub (we_var (pv 0)) we_int)) (ws_cons (ws_set (i := 3) sc.nd rfl (Or.inl rfl) (we_op od_mod (we_bty cd_int (by rfl) B.int_ (by decide +kernel) (wa_cons (we_op od_add (we_op od_mul (we_ix xd_ix (we_var (pv 0)) we_int (fun _ _ => rfl)) we_int) (we_op od_mul we_int (we_ix xd_ix (we_var (pv 0)) we_int (fun _ _ => rfl)))) wa_nil)) we_int)) (ws_cons (ws_asg (we_op od_mod (we_bty cd_int (by rfl) B.int_ (by decide +kernel) (wa_cons (we_op od_add (we_op od_mul (we_var (pv 3)) (we_op od_add (we_op od_mod (we_bty cd_int (by rfl) B.int_ (by decide +kernel) (wa_cons (we_var (pv 3)) wa_nil)) we_int) we_int)) (we_ix xd_ix (we_var (pv 0)) we_int (fun _ _ => rfl))) wa_nil)) we_int) (wg_sub (we_var (pv 0)) we_int)) (ws_one (ws_ret (we_op od_mod (we_bty cd_int (by rfl) B.int_ (by decide +kernel) (wa_cons (we_op od_fdiv (we_ix xd_ix (we_var (pv 0)) we_int (fun _ _ => rfl)) we_int) wa_nil)) (we_var (pv 1)))))))))
theorem bi_law_take {fa : Addr} {fd : FuncData} (F : Fun K "_law_take" "_law_take" s_law_take fa fd) : Binds K fd ["pot", "few"] [] := F.binds (ps := ["pot", "few"]) fun _ _ _ _ _ _ us hl => match us, hl with | [_, _], _ => rfl
abbrev s_law_of : Stmt := topS 20
theorem sc_law_of : FnScope ["pot", "some"] ["pot", "some"] (defScope s_law_of) := ⟨rfl, rfl, rfl, by decide +kernel, rfl, by decide +kernel, by decide +kernel⟩
theorem ok_law_of {k : Nat} {fa : Addr} {fd : FuncData} (F : Fun K "_law_of" "_law_of" s_law_of fa fd) (hm : mg "_law_of" = some (.ref fa)) (hb : Binds K fd ["pot", "some"] []) (B : Bt mg) (Flaw_take : Fd P w K mg base k "_law_take" ["pot", "few"] m_law_take) : Fd P w K mg base (k + 1) "_law_of" ["pot", "some"] m_law_of := by
  have sc := sc_law_of
  refine fd_mk F sc hm hb fun cdv A outer s H hg hr => ?_
  unfold d_law_of
  exact (ws_one (ws_ret (we_ix xd_ix (we_var (pv 1)) (we_call Flaw_take hg hr (by rfl) (wa_cons (we_var (pv 0)) (wa_cons (we_blt cd_len (by rfl) B.len_ (by decide +kernel) (wa_cons (we_var (pv 1)) wa_nil)) wa_nil)) (da_len_cons (da_len_cons da_len_nil))) (fun _ _ => rfl))))
theorem bi_law_of {fa : Addr} {fd : FuncData} (F : Fun K "_law_of" "_law_of" s_law_of fa fd) : Binds K fd ["pot", "some"] [] := F.binds (ps := ["pot", "some"]) fun _ _ _ _ _ _ us hl => match us, hl with | [_, _], _ => rfl
abbrev s_law_choose : Stmt := topS 21
theorem sc_law_choose : FnScope ["great", "small", "found", "at"] ["great", "small"] (defScope s_law_choose) := ⟨rfl, rfl, rfl, by decide +kernel, rfl, by decide +kernel, by decide +kernel⟩
theorem ok_law_choose {k : Nat} {fa : Addr} {fd : FuncData} (F : Fun K "_law_choose" "_law_choose" s_law_choose fa fd) (hm : mg "_law_choose" = some (.ref fa)) (hb : Binds K fd ["great", "small"] []) (B : Bt mg)  : Fd P w K mg base (k + 1) "_law_choose" ["great", "small"] m_law_choose := by
  have sc := sc_law_choose
  refine fd_mk F sc hm hb fun cdv A outer s H hg hr => ?_
  unfold d_law_choose
  exact (ws_cons (ws_if (wt_w (ww_or (wt_cmp od_lt (we_var (pv 1)) we_int (nomark _)) (ww_or1 (wt_cmp od_gt (we_var (pv 1)) (we_var (pv 0)) (nomark _))))) (ws_one (ws_ret we_int)) ws_nil) (ws_cons (ws_set (i := 2) sc.nd rfl (Or.inl rfl) we_int) (ws_cons (ws_for PassesOwn.never rfl (wi_r1 (by rfl) B.range_ (wa_cons (we_var (pv 1)) wa_nil)) (wg_name (pg_name (i := 3) sc.nd rfl (Or.inl rfl))) (ws_one (ws_set (i := 2) sc.nd rfl (Or.inl rfl) (we_op od_fdiv (we_op od_mul (we_var (pv 2)) (we_op od_sub (we_var (pv 0)) (we_var (pv 3)))) (we_op od_add (we_var (pv 3)) we_int))))) (ws_one (ws_ret (we_var (pv 2)))))))
theorem bi_law_choose {fa : Addr} {fd : FuncData} (F : Fun K "_law_choose" "_law_choose" s_law_choose fa fd) : Binds K fd ["great", "small"] [] := F.binds (ps := ["great", "small"]) fun _ _ _ _ _ _ us hl => match us, hl with | [_, _], _ => rfl
abbrev s_law_spread : Stmt := topS 22
theorem sc_law_spread : FnScope ["number", "degree", "found", "left", "k", "great"] ["number", "degree"] (defScope s_law_spread) := ⟨rfl, rfl, rfl, by decide +kernel, rfl, by decide +kernel, by decide +kernel⟩
theorem ok_law_spread {k : Nat} {fa : Addr} {fd : FuncData} (F : Fun K "_law_spread" "_law_spread" s_law_spread fa fd) (hm : mg "_law_spread" = some (.ref fa)) (hb : Binds K fd ["number", "degree"] []) (B : Bt mg) (Flaw_choose : Fd P w K mg base k "_law_choose" ["great", "small"] m_law_choose) : Fd P w K mg base (k + 1) "_law_spread" ["number", "degree"] m_law_spread := by
  have sc := sc_law_spread
  refine fd_mk F sc hm hb fun cdv A outer s H hg hr => ?_
  unfold d_law_spread
  exact (ws_cons (ws_par (i := 2) (j := 3) rfl sc.nd rfl rfl (by decide) rfl rfl (wa_cons (we_lst wa_nil) (wa_cons (we_var (pv 0)) wa_nil)) (by rfl)) (ws_cons (ws_for PassesOwn.never rfl (wi_r3 (by rfl) B.range_ (wa_cons (we_var (pv 1)) (wa_cons we_int (wa_cons (we_un ud_neg we_int) wa_nil)))) (wg_name (pg_name (i := 4) sc.nd rfl (Or.inl rfl))) (ws_cons (ws_if (wt_cmp (od_eq hr.units) (we_var (pv 3)) we_int (nomark _)) (ws_one ws_break) ws_nil) (ws_cons (ws_set (i := 5) sc.nd rfl (Or.inl rfl) (we_if (wt_cmp (od_eq hr.units) (we_var (pv 4)) we_int (nomark _)) (we_var (pv 3)) (we_var (pv 4)))) (ws_cons (ws_while FUEL PassesOwn.never (wt_w (ww_and (wt_cmp od_gt (we_var (pv 4)) we_int (nomark _)) (ww_and1 (wt_cmp od_le (we_call Flaw_choose hg hr (by rfl) (wa_cons (we_op od_add (we_var (pv 5)) we_int) (wa_cons (we_var (pv 4)) wa_nil)) (da_len_cons (da_len_cons da_len_nil))) (we_var (pv 3)) (nomark _))))) (ws_one (ws_set (i := 5) sc.nd rfl (Or.inl rfl) (we_op od_add (we_var (pv 5)) we_int)))) (ws_cons (ws_expr (we_append (we_var (pv 2)) (wa_cons (we_var (pv 5)) wa_nil))) (ws_one (ws_set (i := 3) sc.nd rfl (Or.inl rfl) (we_op od_sub (we_var (pv 3)) (we_call Flaw_choose hg hr (by rfl) (wa_cons (we_var (pv 5)) (wa_cons (we_var (pv 4)) wa_nil)) (da_len_cons (da_len_cons da_len_nil))))))))))) (ws_one (ws_ret (we_bty cd_tuple (by rfl) B.tuple_ (by decide +kernel) (wa_cons (we_var (pv 2)) wa_nil))))))
theorem bi_law_spread {fa : Addr} {fd : FuncData} (F : Fun K "_law_spread" "_law_spread" s_law_spread fa fd) : Binds K fd ["number", "degree"] [] := F.binds (ps := ["number", "degree"]) fun _ _ _ _ _ _ us hl => match us, hl with | [_, _], _ => rfl
abbrev s_law_behind : Stmt := topS 23
theorem sc_law_behind : FnScope ["number", "degree", "own", "j"] ["number", "degree"] (defScope s_law_behind) := ⟨rfl, rfl, rfl, by decide +kernel, rfl, by decide +kernel, by decide +kernel⟩
theorem ok_law_behind {k : Nat} {fa : Addr} {fd : FuncData} (F : Fun K "_law_behind" "_law_behind" s_law_behind fa fd) (hm : mg "_law_behind" = some (.ref fa)) (hb : Binds K fd ["number", "degree"] []) (B : Bt mg) (Flaw_choose : Fd P w K mg base k "_law_choose" ["great", "small"] m_law_choose) (Flaw_spread : Fd P w K mg base k "_law_spread" ["number", "degree"] m_law_spread) : Fd P w K mg base (k + 1) "_law_behind" ["number", "degree"] m_law_behind := by
  have sc := sc_law_behind
  refine fd_mk F sc hm hb fun cdv A outer s H hg hr => ?_
  unfold d_law_behind
  exact (ws_cons (ws_set (i := 2) sc.nd rfl (Or.inr rfl) (we_call Flaw_spread hg hr (by rfl) (wa_cons (we_var (pv 0)) (wa_cons (we_var (pv 1)) wa_nil)) (da_len_cons (da_len_cons da_len_nil)))) (ws_one (ws_ret (we_blt (cd_sum rfl) (by rfl) B.sum_ (by decide +kernel) (wa_cons (we_lc (own := [("j", 3)]) rfl sc.nd (wi_r1 (by rfl) B.range_ (wa_cons (we_blt cd_len (by rfl) B.len_ (by decide +kernel) (wa_cons (we_var (pv 2)) wa_nil)) wa_nil)) (blkOk_by (own := [("j", 3)]) (by kernel_rfl)) (lcg_name (by decide)) (fun _ _ _ _ _ => pg_name (i := 3) sc.nd rfl (Or.inl rfl)) (fun _ _ _ _ _ => wts_nil) (fun _ _ _ _ _ => (we_call Flaw_choose hg hr (by rfl) (wa_cons (we_op od_add (we_ix xd_ix (we_var (pv 2)) (we_var (pv 3)) (fun _ _ => rfl)) we_int) (wa_cons (we_op od_add (we_op od_sub (we_var (pv 1)) (we_var (pv 3))) we_int) wa_nil)) (da_len_cons (da_len_cons da_len_nil))))) wa_nil)))))
theorem bi_law_behind {fa : Addr} {fd : FuncData} (F : Fun K "_law_behind" "_law_behind" s_law_behind fa fd) : Binds K fd ["number", "degree"] [] := F.binds (ps := ["number", "degree"]) fun _ _ _ _ _ _ us hl => match us, hl with | [_, _], _ => rfl
abbrev s_law_number : Stmt := topS 24
theorem sc_law_number : FnScope ["pot", "degree", "way", "far", "great"] ["pot", "degree"] (defScope s_law_number) := ⟨rfl, rfl, rfl, by decide +kernel, rfl, by decide +kernel, by decide +kernel⟩
theorem ok_law_number {k : Nat} {fa : Addr} {fd : FuncData} (F : Fun K "_law_number" "_law_number" s_law_number fa fd) (hm : mg "_law_number" = some (.ref fa)) (hb : Binds K fd ["pot", "degree"] []) (B : Bt mg) (Flaw_choose : Fd P w K mg base k "_law_choose" ["great", "small"] m_law_choose) (Flaw_take : Fd P w K mg base k "_law_take" ["pot", "few"] m_law_take) (Flaw_of : Fd P w K mg base k "_law_of" ["pot", "some"] m_law_of) : Fd P w K mg base (k + 1) "_law_number" ["pot", "degree"] m_law_number := by
  have sc := sc_law_number
  refine fd_mk F sc hm hb fun cdv A outer s H hg hr => ?_
  unfold d_law_number
  exact (ws_cons (ws_set (i := 2) sc.nd rfl (Or.inl rfl) (we_call Flaw_take hg hr (by rfl) (wa_cons (we_var (pv 0)) (wa_cons we_int wa_nil)) (da_len_cons (da_len_cons da_len_nil)))) (ws_cons (ws_if (wt_cmp (od_eq hr.units) (we_var (pv 2)) we_int (nomark _)) (ws_one (ws_ret (we_call Flaw_take hg hr (by rfl) (wa_cons (we_var (pv 0)) (wa_cons we_int wa_nil)) (da_len_cons (da_len_cons da_len_nil))))) ws_nil) (ws_cons (ws_if (wt_cmp (od_eq hr.units) (we_var (pv 2)) we_int (nomark _)) (ws_cons (ws_set (i := 3) sc.nd rfl (Or.inl rfl) (we_if (wt_cmp od_gt (we_var (pv 1)) we_int (nomark _)) (we_op od_pow we_int we_int) (we_call Flaw_of hg hr (by rfl) (wa_cons (we_var (pv 0)) (wa_cons (we_tup (wa_cons (we_op od_pow we_int we_int) (wa_cons we_int (wa_cons we_int (wa_cons we_int wa_nil))))) wa_nil)) (da_len_cons (da_len_cons da_len_nil))))) (ws_one (ws_ret (we_call Flaw_of hg hr (by rfl) (wa_cons (we_var (pv 0)) (wa_cons (we_tup (wa_cons we_int (wa_cons we_int (wa_cons (we_var (pv 3)) (wa_cons (we_op od_sub (we_var (pv 3)) we_int) (wa_cons (we_call Flaw_take hg hr (by rfl) (wa_cons (we_var (pv 0)) (wa_cons (we_op od_add (we_var (pv 3)) we_int) wa_nil)) (da_len_cons (da_len_cons da_len_nil))) wa_nil)))))) wa_nil)) (da_len_cons (da_len_cons da_len_nil)))))) ws_nil) (ws_cons (ws_set (i := 4) sc.nd rfl (Or.inl rfl) (we_op od_add (we_var (pv 1)) (we_call Flaw_take hg hr (by rfl) (wa_cons (we_var (pv 0)) (wa_cons (we_ix xd_ix (we_tup (wa_cons we_int (wa_cons we_int (wa_cons we_int (wa_cons we_int (wa_cons we_int (wa_cons we_int (wa_cons we_int (wa_cons we_int wa_nil))))))))) (we_op od_sub (we_var (pv 1)) we_int) (fun _ _ => rfl)) wa_nil)) (da_len_cons (da_len_cons da_len_nil))))) (ws_one (ws_ret (we_blt (cd_max rfl) (by rfl) B.max_ (by decide +kernel) (wa_cons we_int (wa_cons (we_blt (cd_min rfl) (by rfl) B.min_ (by decide +kernel) (wa_cons (we_op od_pow we_int we_int) (wa_cons (we_op od_sub (we_op od_add (we_call Flaw_choose hg hr (by rfl) (wa_cons (we_var (pv 4)) (wa_cons (we_var (pv 1)) wa_nil)) (da_len_cons (da_len_cons da_len_nil))) (we_call Flaw_take hg hr (by rfl) (wa_cons (we_var (pv 0)) (wa_cons we_int wa_nil)) (da_len_cons (da_len_cons da_len_nil)))) we_int) wa_nil))) wa_nil)))))))))
theorem bi_law_number {fa : Addr} {fd : FuncData} (F : Fun K "_law_number" "_law_number" s_law_number fa fd) : Binds K fd ["pot", "degree"] [] := F.binds (ps := ["pot", "degree"]) fun _ _ _ _ _ _ us hl => match us, hl with | [_, _], _ => rfl
abbrev s_law_right : Stmt := topS 25
def d_law_right : DS := (dSeq (dAsg (dOp gAdd (dC (.int 1)) (dCall m_law_take (daCons (dV 0) (daCons (dC (.int 8)) daNil)))) (dgN 1)) (dSeq (dAsg (dCall m_law_number (daCons (dV 0) (daCons (dV 1) daNil))) (dgN 2)) (dSeq (dAsg (dCall m_law_spread (daCons (dV 2) (daCons (dV 1) daNil))) (dgN 3)) (dSeq (dAsg (dLc (diR1 (daCons (dCall gLen (daCons (dV 3) daNil)) daNil)) (dgN 6) dYes (dCall m_law_choose (daCons (dOp gIx (dV 3) (dV 6)) (daCons (dOp gSub (dV 1) (dV 6)) daNil))) [6]) (dgN 4)) (dSeq (dIfS (dtOr (dB (dOp gNe (dCall gSum (daCons (dV 4) daNil)) (dV 2))) (dB (dOp gNe (dLc (diR1 (daCons (dCall gLen (daCons (dV 3) daNil)) daNil)) (dgN 6) (dB (dOp gLt (dOp gIx (dV 3) (dV 6)) (dOp gSub (dV 1) (dV 6)))) (dV 6) [6]) (dLst daNil)))) (dRet (dC (.bl false))) dNil) (dSeq (dIfS (dB (dOp gNe (dCall gRepr (daCons (dLst (daCons (dCall m_expansion (daCons (dV 2) (daCons (dV 1) daNil))) (daCons (dCallK [1, 0] m_expansion (daCons (dV 1) (daCons (dV 2) daNil))) daNil))) daNil)) (dCall gRepr (daCons (dLst (daCons (dV 3) (daCons (dV 3) daNil))) daNil)))) (dRet (dC (.bl false))) dNil) (dSeq (dAsg (dCall m_law_behind (daCons (dV 2) (daCons (dV 1) daNil))) (dgN 5)) (dRet (dOp gEq (dCall gRepr (daCons (dLst (daCons (dCall m_most_next (daCons (dV 2) (daCons (dV 1) daNil))) (daCons (dCallK [1, 0] m_most_next (daCons (dV 1) (daCons (dV 2) daNil))) daNil))) daNil)) (dCall gRepr (daCons (dLst (daCons (dV 5) (daCons (dV 5) daNil))) daNil)))))))))))
def m_law_right : DF := run 7 d_law_right
theorem sc_law_right : FnScope ["pot", "degree", "number", "own", "lots", "due", "j"] ["pot"] (defScope s_law_right) := ⟨rfl, rfl, rfl, by decide +kernel, rfl, by decide +kernel, by decide +kernel⟩
theorem ok_law_right {k : Nat} {fa : Addr} {fd : FuncData} (F : Fun K "_law_right" "_law_right" s_law_right fa fd) (hm : mg "_law_right" = some (.ref fa)) (hb : Binds K fd ["pot"] []) (B : Bt mg) (Fmost_next : Fd P w K mg base k "most_next" ["number", "degree"] m_most_next) (Flaw_behind : Fd P w K mg base k "_law_behind" ["number", "degree"] m_law_behind) (Fexpansion : Fd P w K mg base k "expansion" ["number", "degree"] m_expansion) (Flaw_choose : Fd P w K mg base k "_law_choose" ["great", "small"] m_law_choose) (Flaw_spread : Fd P w K mg base k "_law_spread" ["number", "degree"] m_law_spread) (Flaw_number : Fd P w K mg base k "_law_number" ["pot", "degree"] m_law_number) (Flaw_take : Fd P w K mg base k "_law_take" ["pot", "few"] m_law_take) (Kmost_next_degree_number : FdK P w K mg base k "most_next" ["number", "degree"] ["degree", "number"] [1, 0] m_most_next) (Kexpansion_degree_number : FdK P w K mg base k "expansion" ["number", "degree"] ["degree", "number"] [1, 0] m_expansion) : Fd P w K mg base (k + 1) "_law_right" ["pot"] m_law_right := by
  have sc := sc_law_right
  refine fd_mk F sc hm hb fun cdv A outer s H hg hr => ?_
  unfold d_law_right
  exact (ws_cons (ws_set (i := 1) sc.nd rfl (Or.inr rfl) (we_op od_add we_int (we_call Flaw_take hg hr (by rfl) (wa_cons (we_var (pv 0)) (wa_cons we_int wa_nil)) (da_len_cons (da_len_cons da_len_nil))))) (ws_cons (ws_set (i := 2) sc.nd rfl (Or.inl rfl) (we_call Flaw_number hg hr (by rfl) (wa_cons (we_var (pv 0)) (wa_cons (we_var (pv 1)) wa_nil)) (da_len_cons (da_len_cons da_len_nil)))) (ws_cons (ws_set (i := 3) sc.nd rfl (Or.inr rfl) (we_call Flaw_spread hg hr (by rfl) (wa_cons (we_var (pv 2)) (wa_cons (we_var (pv 1)) wa_nil)) (da_len_cons (da_len_cons da_len_nil)))) (ws_cons (ws_setLc (i := 4) (own := [("j", 6)]) rfl sc.nd rfl rfl (sw_true rfl rfl rfl (by decide +kernel)) (wi_r1 (by rfl) B.range_ (wa_cons (we_blt cd_len (by rfl) B.len_ (by decide +kernel) (wa_cons (we_var (pv 3)) wa_nil)) wa_nil)) (blkOk_by (own := [("j", 6)]) (by kernel_rfl)) (lcg_name (by decide)) (fun _ _ _ _ _ => pg_name (i := 6) sc.nd rfl (Or.inl rfl)) (fun _ _ _ _ _ => wts_nil) (fun _ _ _ _ _ => (we_call Flaw_choose hg hr (by rfl) (wa_cons (we_ix xd_ix (we_var (pv 3)) (we_var (pv 6)) (fun _ _ => rfl)) (wa_cons (we_op od_sub (we_var (pv 1)) (we_var (pv 6))) wa_nil)) (da_len_cons (da_len_cons da_len_nil))))) (ws_cons (ws_if (wt_w (ww_or (wt_cmp (od_ne hr.units) (we_blt (cd_sum rfl) (by rfl) B.sum_ (by decide +kernel) (wa_cons (we_var (pv 4)) wa_nil)) (we_var (pv 2)) (nomark _)) (ww_or1 (wt_cmp (od_ne hr.units) (we_lc (own := [("j", 6)]) rfl sc.nd (wi_r1 (by rfl) B.range_ (wa_cons (we_blt cd_len (by rfl) B.len_ (by decide +kernel) (wa_cons (we_var (pv 3)) wa_nil)) wa_nil)) (blkOk_by (own := [("j", 6)]) (by kernel_rfl)) (lcg_name (by decide)) (fun _ _ _ _ _ => pg_name (i := 6) sc.nd rfl (Or.inl rfl)) (fun _ _ _ _ _ => (wts_one (wt_cmp od_lt (we_ix xd_ix (we_var (pv 3)) (we_var (pv 6)) (fun _ _ => rfl)) (we_op od_sub (we_var (pv 1)) (we_var (pv 6))) (nomark _)))) (fun _ _ _ _ _ => (we_var (pv 6)))) (we_lst wa_nil) (nomark _))))) (ws_one (ws_ret we_bl)) ws_nil) (ws_cons (ws_if (wt_cmp (od_ne hr.units) (we_blt (cd_repr hg hr.units) (by rfl) B.repr_ (by decide +kernel) (wa_cons (we_lst (wa_cons (we_call Fexpansion hg hr (by rfl) (wa_cons (we_var (pv 2)) (wa_cons (we_var (pv 1)) wa_nil)) (da_len_cons (da_len_cons da_len_nil))) (wa_cons (we_callK Kexpansion_degree_number hg hr (by rfl) (wk_cons (we_var (pv 1)) (wk_cons (we_var (pv 2)) wk_nil)) (da_len_cons (da_len_cons da_len_nil)) (by decide)) wa_nil))) wa_nil)) (we_blt (cd_repr hg hr.units) (by rfl) B.repr_ (by decide +kernel) (wa_cons (we_lst (wa_cons (we_var (pv 3)) (wa_cons (we_var (pv 3)) wa_nil))) wa_nil)) (nomark _)) (ws_one (ws_ret we_bl)) ws_nil) (ws_cons (ws_set (i := 5) sc.nd rfl (Or.inl rfl) (we_call Flaw_behind hg hr (by rfl) (wa_cons (we_var (pv 2)) (wa_cons (we_var (pv 1)) wa_nil)) (da_len_cons (da_len_cons da_len_nil)))) (ws_one (ws_ret (we_cmp (od_eq hr.units) (we_blt (cd_repr hg hr.units) (by rfl) B.repr_ (by decide +kernel) (wa_cons (we_lst (wa_cons (we_call Fmost_next hg hr (by rfl) (wa_cons (we_var (pv 2)) (wa_cons (we_var (pv 1)) wa_nil)) (da_len_cons (da_len_cons da_len_nil))) (wa_cons (we_callK Kmost_next_degree_number hg hr (by rfl) (wk_cons (we_var (pv 1)) (wk_cons (we_var (pv 2)) wk_nil)) (da_len_cons (da_len_cons da_len_nil)) (by decide)) wa_nil))) wa_nil)) (we_blt (cd_repr hg hr.units) (by rfl) B.repr_ (by decide +kernel) (wa_cons (we_lst (wa_cons (we_var (pv 5)) (wa_cons (we_var (pv 5)) wa_nil))) wa_nil)) (nomark _)))))))))))
theorem bi_law_right {fa : Addr} {fd : FuncData} (F : Fun K "_law_right" "_law_right" s_law_right fa fd) : Binds K fd ["pot"] [] := F.binds (ps := ["pot"]) fun _ _ _ _ _ _ us hl => match us, hl with | [_], _ => rfl
abbrev s_law : Stmt := topS 26
def d_law : DS := (dSeq (dFor (diR1 (daCons (dCall gMax (daCons (dC (.int 3)) (daCons (dCall gMin (daCons (dCall gLen (daCons (dV 0) daNil)) (daCons (dC (.int 9)) daNil))) daNil))) daNil)) (dgN 1) (dIfS (dtNot (dB (dCall m_law_right (daCons (dCall m_law_pot (daCons (dV 0) (daCons (dV 1) daNil))) daNil)))) (dRet (dC (.bl false))) dNil)) (dRet (dC (.bl true))))
def m_law : DF := run 2 d_law
theorem sc_law : FnScope ["script", "lap"] ["script"] (defScope s_law) := ⟨rfl, rfl, rfl, by decide +kernel, rfl, by decide +kernel, by decide +kernel⟩
theorem ok_law {k : Nat} {fa : Addr} {fd : FuncData} (F : Fun K "law" "law" s_law fa fd) (hm : mg "law" = some (.ref fa)) (hb : Binds K fd ["script"] []) (B : Bt mg) (Flaw_right : Fd P w K mg base k "_law_right" ["pot"] m_law_right) (Flaw_pot : Fd P w K mg base k "_law_pot" ["script", "lap"] m_law_pot) : Fd P w K mg base (k + 1) "law" ["script"] m_law := by
  have sc := sc_law
  refine fd_mk F sc hm hb fun cdv A outer s H hg hr => ?_
  unfold d_law
  exact (ws_cons (ws_for PassesOwn.never rfl (wi_r1 (by rfl) B.range_ (wa_cons (we_blt (cd_max rfl) (by rfl) B.max_ (by decide +kernel) (wa_cons we_int (wa_cons (we_blt (cd_min rfl) (by rfl) B.min_ (by decide +kernel) (wa_cons (we_blt cd_len (by rfl) B.len_ (by decide +kernel) (wa_cons (we_var (pv 0)) wa_nil)) (wa_cons we_int wa_nil))) wa_nil))) wa_nil)) (wg_name (pg_name (i := 1) sc.nd rfl (Or.inl rfl))) (ws_one (ws_if (wt_not (wt_val (we_call Flaw_right hg hr (by rfl) (wa_cons (we_call Flaw_pot hg hr (by rfl) (wa_cons (we_var (pv 0)) (wa_cons (we_var (pv 1)) wa_nil)) (da_len_cons (da_len_cons da_len_nil))) wa_nil) (da_len_cons da_len_nil)))) (ws_one (ws_ret we_bl)) ws_nil))) (ws_one (ws_ret we_bl)))
theorem bi_law {fa : Addr} {fd : FuncData} (F : Fun K "law" "law" s_law fa fd) : Binds K fd ["script"] [] := F.binds (ps := ["script"]) fun _ _ _ _ _ _ us hl => match us, hl with | [_], _ => rfl
theorem kb_most_next_degree_number : ∀ (kV doc pm : Value) (an : Option Addr) (cdv ct : Value) (ws : List Value), ws.length = 2 → bindArgs (PySem.W.fnOf "most_next" "most_next" (defArgs s_most_next) (defBody s_most_next) (defScope s_most_next) .none kV doc pm an cdv ct) ⟨[], (["degree", "number"] : List Str).zip ws⟩ = pure ((["number", "degree"] : List Str).zip (perm [1, 0] ws)) := fun _ _ _ _ _ _ ws hl => match ws, hl with | [_, _], _ => rfl
theorem kb_expansion_degree_number : ∀ (kV doc pm : Value) (an : Option Addr) (cdv ct : Value) (ws : List Value), ws.length = 2 → bindArgs (PySem.W.fnOf "expansion" "expansion" (defArgs s_expansion) (defBody s_expansion) (defScope s_expansion) .none kV doc pm an cdv ct) ⟨[], (["degree", "number"] : List Str).zip ws⟩ = pure ((["number", "degree"] : List Str).zip (perm [1, 0] ws)) := fun _ _ _ _ _ _ ws hl => match ws, hl with | [_, _], _ => rfl
theorem all_of {l : PySem.W.OpenLaw} {h : Heap} {fa : Addr} (X : K.In h) (G : h.Ns mainGlobals mg) (hfa : mg "law" = some (.ref fa))
    (a_is_whole : AtF K "is_whole" s_is_whole)
    (a_is_whole_between : AtF K "is_whole_between" s_is_whole_between)
    (a_check_number : AtF K "check_number" s_check_number)
    (a_greatest_top : AtF K "greatest_top" s_greatest_top)
    (a_tops_of : AtF K "tops_of" s_tops_of)
    (a_expansion : AtF K "expansion" s_expansion)
    (a_most_behind : AtF K "most_behind" s_most_behind)
    (a_most_next : AtF K "most_next" s_most_next)
    (a_law_pot : AtF K "_law_pot" s_law_pot)
    (a_law_take : AtF K "_law_take" s_law_take)
    (a_law_of : AtF K "_law_of" s_law_of)
    (a_law_choose : AtF K "_law_choose" s_law_choose)
    (a_law_spread : AtF K "_law_spread" s_law_spread)
    (a_law_behind : AtF K "_law_behind" s_law_behind)
    (a_law_number : AtF K "_law_number" s_law_number)
    (a_law_right : AtF K "_law_right" s_law_right)
    (a_law : AtF K "law" s_law)
    (z_abs : PySem.W.nsIn K mainGlobals "abs" = some none)
    (z_bool : PySem.W.nsIn K mainGlobals "bool" = some none)
    (z_divmod : PySem.W.nsIn K mainGlobals "divmod" = some none)
    (z_enumerate : PySem.W.nsIn K mainGlobals "enumerate" = some none)
    (z_int : PySem.W.nsIn K mainGlobals "int" = some none)
    (z_isinstance : PySem.W.nsIn K mainGlobals "isinstance" = some none)
    (z_len : PySem.W.nsIn K mainGlobals "len" = some none)
    (z_max : PySem.W.nsIn K mainGlobals "max" = some none)
    (z_min : PySem.W.nsIn K mainGlobals "min" = some none)
    (z_range : PySem.W.nsIn K mainGlobals "range" = some none)
    (z_repr : PySem.W.nsIn K mainGlobals "repr" = some none)
    (z_sum : PySem.W.nsIn K mainGlobals "sum" = some none)
    (z_tuple : PySem.W.nsIn K mainGlobals "tuple" = some none)
    {t_GREATEST_DEGREE : Tok} (g_GREATEST_DEGREE : PySem.W.nsIn K mainGlobals "GREATEST_DEGREE" = some (some (.int 8 t_GREATEST_DEGREE)))
    {t_NUMBER_LIMIT : Tok} (g_NUMBER_LIMIT : PySem.W.nsIn K mainGlobals "NUMBER_LIMIT" = some (some (.int 1000000 t_NUMBER_LIMIT)))
    (g_comb : PySem.W.nsIn K mainGlobals "comb" = some (some (.builtin "math.comb")))
    : ∃ fd : FuncData, (∀ (s : Shared) (v : Value), BindsTo s fd ⟨[v], []⟩ [("script", v)]) ∧ ∀ base : Heap, K.In base → base.Ns mainGlobals mg → FnG l.prog w K mg base 6 fa fd ["script"] (spD K 1 m_law) := by
  have B : Bt mg := ⟨PySem.W.mg_none_of X G z_abs, PySem.W.mg_none_of X G z_bool, PySem.W.mg_none_of X G z_divmod, PySem.W.mg_none_of X G z_enumerate, PySem.W.mg_none_of X G z_int, PySem.W.mg_none_of X G z_isinstance, PySem.W.mg_none_of X G z_len, PySem.W.mg_none_of X G z_max, PySem.W.mg_none_of X G z_min, PySem.W.mg_none_of X G z_range, PySem.W.mg_none_of X G z_repr, PySem.W.mg_none_of X G z_sum, PySem.W.mg_none_of X G z_tuple⟩
  obtain ⟨f_is_whole, fd_is_whole, n_is_whole, F_is_whole⟩ := a_is_whole.ex
  obtain ⟨f_is_whole_between, fd_is_whole_between, n_is_whole_between, F_is_whole_between⟩ := a_is_whole_between.ex
  obtain ⟨f_check_number, fd_check_number, n_check_number, F_check_number⟩ := a_check_number.ex
  obtain ⟨f_greatest_top, fd_greatest_top, n_greatest_top, F_greatest_top⟩ := a_greatest_top.ex
  obtain ⟨f_tops_of, fd_tops_of, n_tops_of, F_tops_of⟩ := a_tops_of.ex
  obtain ⟨f_expansion, fd_expansion, n_expansion, F_expansion⟩ := a_expansion.ex
  obtain ⟨f_most_behind, fd_most_behind, n_most_behind, F_most_behind⟩ := a_most_behind.ex
  obtain ⟨f_most_next, fd_most_next, n_most_next, F_most_next⟩ := a_most_next.ex
  obtain ⟨f_law_pot, fd_law_pot, n_law_pot, F_law_pot⟩ := a_law_pot.ex
  obtain ⟨f_law_take, fd_law_take, n_law_take, F_law_take⟩ := a_law_take.ex
  obtain ⟨f_law_of, fd_law_of, n_law_of, F_law_of⟩ := a_law_of.ex
  obtain ⟨f_law_choose, fd_law_choose, n_law_choose, F_law_choose⟩ := a_law_choose.ex
  obtain ⟨f_law_spread, fd_law_spread, n_law_spread, F_law_spread⟩ := a_law_spread.ex
  obtain ⟨f_law_behind, fd_law_behind, n_law_behind, F_law_behind⟩ := a_law_behind.ex
  obtain ⟨f_law_number, fd_law_number, n_law_number, F_law_number⟩ := a_law_number.ex
  obtain ⟨f_law_right, fd_law_right, n_law_right, F_law_right⟩ := a_law_right.ex
  obtain ⟨f_law, fd_law, n_law, F_law⟩ := a_law.ex
  obtain rfl : fa = f_law := Value.ref.inj (Option.some.inj (hfa.symm.trans (PySem.W.mg_of X G n_law)))
  refine ⟨fd_law, binds1_of F_law fun _ _ _ _ _ _ _ => rfl, fun base _ _ => ?_⟩
  have D_is_whole : Fd l.prog w K mg base 1 "is_whole" ["value"] m_is_whole := ok_is_whole (k := 0) F_is_whole (PySem.W.mg_of X G n_is_whole) (bi_is_whole F_is_whole) B 
  have D_is_whole_between : Fd l.prog w K mg base 2 "is_whole_between" ["value", "low", "high"] m_is_whole_between := ok_is_whole_between (k := 1) F_is_whole_between (PySem.W.mg_of X G n_is_whole_between) (bi_is_whole_between F_is_whole_between) B (D_is_whole.mono (by decide))
  have D_check_number : Fd l.prog w K mg base 3 "check_number" ["number", "low", "high"] m_check_number := ok_check_number (k := 2) F_check_number (PySem.W.mg_of X G n_check_number) (bi_check_number F_check_number) B (D_is_whole_between.mono (by decide))
  have D_greatest_top : Fd l.prog w K mg base 1 "greatest_top" ["number", "degree"] m_greatest_top := ok_greatest_top (k := 0) F_greatest_top (PySem.W.mg_of X G n_greatest_top) (bi_greatest_top F_greatest_top) B (PySem.W.mg_of X G g_comb)
  have D_tops_of : Fd l.prog w K mg base 2 "tops_of" ["number", "degree"] m_tops_of := ok_tops_of (k := 1) F_tops_of (PySem.W.mg_of X G n_tops_of) (bi_tops_of F_tops_of) B (D_greatest_top.mono (by decide)) (PySem.W.mg_of X G g_comb)
  have D_expansion : Fd l.prog w K mg base 4 "expansion" ["number", "degree"] m_expansion := ok_expansion (k := 3) F_expansion (PySem.W.mg_of X G n_expansion) (bi_expansion F_expansion) B (D_tops_of.mono (by decide)) (D_check_number.mono (by decide)) (PySem.W.mg_of X G g_GREATEST_DEGREE) (PySem.W.mg_of X G g_NUMBER_LIMIT)
  have D_most_behind : Fd l.prog w K mg base 3 "most_behind" ["number", "degree"] m_most_behind := ok_most_behind (k := 2) F_most_behind (PySem.W.mg_of X G n_most_behind) (bi_most_behind F_most_behind) B (D_tops_of.mono (by decide)) (PySem.W.mg_of X G g_comb)
  have D_most_next : Fd l.prog w K mg base 4 "most_next" ["number", "degree"] m_most_next := ok_most_next (k := 3) F_most_next (PySem.W.mg_of X G n_most_next) (bi_most_next F_most_next) B (D_most_behind.mono (by decide)) (D_check_number.mono (by decide)) (PySem.W.mg_of X G g_GREATEST_DEGREE) (PySem.W.mg_of X G g_NUMBER_LIMIT)
  have D_law_pot : Fd l.prog w K mg base 1 "_law_pot" ["script", "lap"] m_law_pot := ok_law_pot (k := 0) F_law_pot (PySem.W.mg_of X G n_law_pot) (bi_law_pot F_law_pot) B 
  have D_law_take : Fd l.prog w K mg base 1 "_law_take" ["pot", "few"] m_law_take := ok_law_take (k := 0) F_law_take (PySem.W.mg_of X G n_law_take) (bi_law_take F_law_take) B 
  have D_law_of : Fd l.prog w K mg base 2 "_law_of" ["pot", "some"] m_law_of := ok_law_of (k := 1) F_law_of (PySem.W.mg_of X G n_law_of) (bi_law_of F_law_of) B (D_law_take.mono (by decide))
  have D_law_choose : Fd l.prog w K mg base 1 "_law_choose" ["great", "small"] m_law_choose := ok_law_choose (k := 0) F_law_choose (PySem.W.mg_of X G n_law_choose) (bi_law_choose F_law_choose) B 
  have D_law_spread : Fd l.prog w K mg base 2 "_law_spread" ["number", "degree"] m_law_spread := ok_law_spread (k := 1) F_law_spread (PySem.W.mg_of X G n_law_spread) (bi_law_spread F_law_spread) B (D_law_choose.mono (by decide))
  have D_law_behind : Fd l.prog w K mg base 3 "_law_behind" ["number", "degree"] m_law_behind := ok_law_behind (k := 2) F_law_behind (PySem.W.mg_of X G n_law_behind) (bi_law_behind F_law_behind) B (D_law_choose.mono (by decide)) (D_law_spread.mono (by decide))
  have D_law_number : Fd l.prog w K mg base 3 "_law_number" ["pot", "degree"] m_law_number := ok_law_number (k := 2) F_law_number (PySem.W.mg_of X G n_law_number) (bi_law_number F_law_number) B (D_law_choose.mono (by decide)) (D_law_take.mono (by decide)) (D_law_of.mono (by decide))
  have D_law_right : Fd l.prog w K mg base 5 "_law_right" ["pot"] m_law_right := ok_law_right (k := 4) F_law_right (PySem.W.mg_of X G n_law_right) (bi_law_right F_law_right) B (D_most_next.mono (by decide)) (D_law_behind.mono (by decide)) (D_expansion.mono (by decide)) (D_law_choose.mono (by decide)) (D_law_spread.mono (by decide)) (D_law_number.mono (by decide)) (D_law_take.mono (by decide)) (fdk_of D_most_next (PySem.W.mg_of X G n_most_next) F_most_next ["degree", "number"] [1, 0] kb_most_next_degree_number (by decide)) (fdk_of D_expansion (PySem.W.mg_of X G n_expansion) F_expansion ["degree", "number"] [1, 0] kb_expansion_degree_number (by decide))
  have D_law : Fd l.prog w K mg base 6 "law" ["script"] m_law := ok_law (k := 5) F_law (PySem.W.mg_of X G n_law) (bi_law F_law) B (D_law_right.mono (by decide)) (D_law_pot.mono (by decide))
  exact fng_of D_law F_law hfa
end

end Ev
open PySem PySem.W PyProof.Rows
open_top cw_head for PySem.Challenge.rw_facenumbers_k10_expansions_and_what_is_m
set_option maxRecDepth 100000 in
set_option maxHeartbeats 0 in
theorem PySem.Challenge.cw_facenumbers_k10_expansions_and_what_is_m_holds : PySem.Challenge.rw_facenumbers_k10_expansions_and_what_is_m.Holds := by
  exact cw_head (by
    k_fill
    refine Ev.end_of (l := PySem.Challenge.rw_facenumbers_k10_expansions_and_what_is_m) (n := 63) (k := 6) (x := "script") (m := Ev.m_law) rfl (by decide) rfl ⟨rfl, by decide, by decide⟩ (fun w h Y => PySem.W.kIn_of Y) ?F ?G
    case F =>
      intro w mg fa h KX G hmg
      refine' Ev.all_of KX G hmg ?a_is_whole ?a_is_whole_between ?a_check_number ?a_greatest_top ?a_tops_of ?a_expansion ?a_most_behind ?a_most_next ?a_law_pot ?a_law_take ?a_law_of ?a_law_choose ?a_law_spread ?a_law_behind ?a_law_number ?a_law_right ?a_law ?z_abs ?z_bool ?z_divmod ?z_enumerate ?z_int ?z_isinstance ?z_len ?z_max ?z_min ?z_range ?z_repr ?z_sum ?z_tuple ?g_GREATEST_DEGREE ?g_NUMBER_LIMIT ?g_comb
      (case a_is_whole => (refine' Ev.at_mk ?a ?l ?c ?k; (case a => k_is); (case l => k_is); (case c => k_is); (case k => k_is)))
      (case a_is_whole_between => (refine' Ev.at_mk ?a ?l ?c ?k; (case a => k_is); (case l => k_is); (case c => k_is); (case k => k_is)))
      (case a_check_number => (refine' Ev.at_mk ?a ?l ?c ?k; (case a => k_is); (case l => k_is); (case c => k_is); (case k => k_is)))
      (case a_greatest_top => (refine' Ev.at_mk ?a ?l ?c ?k; (case a => k_is); (case l => k_is); (case c => k_is); (case k => k_is)))
      (case a_tops_of => (refine' Ev.at_mk ?a ?l ?c ?k; (case a => k_is); (case l => k_is); (case c => k_is); (case k => k_is)))
      (case a_expansion => (refine' Ev.at_mk ?a ?l ?c ?k; (case a => k_is); (case l => k_is); (case c => k_is); (case k => k_is)))
      (case a_most_behind => (refine' Ev.at_mk ?a ?l ?c ?k; (case a => k_is); (case l => k_is); (case c => k_is); (case k => k_is)))
      (case a_most_next => (refine' Ev.at_mk ?a ?l ?c ?k; (case a => k_is); (case l => k_is); (case c => k_is); (case k => k_is)))
      (case a_law_pot => (refine' Ev.at_mk ?a ?l ?c ?k; (case a => k_is); (case l => k_is); (case c => k_is); (case k => k_is)))
      (case a_law_take => (refine' Ev.at_mk ?a ?l ?c ?k; (case a => k_is); (case l => k_is); (case c => k_is); (case k => k_is)))
      (case a_law_of => (refine' Ev.at_mk ?a ?l ?c ?k; (case a => k_is); (case l => k_is); (case c => k_is); (case k => k_is)))
      (case a_law_choose => (refine' Ev.at_mk ?a ?l ?c ?k; (case a => k_is); (case l => k_is); (case c => k_is); (case k => k_is)))
      (case a_law_spread => (refine' Ev.at_mk ?a ?l ?c ?k; (case a => k_is); (case l => k_is); (case c => k_is); (case k => k_is)))
      (case a_law_behind => (refine' Ev.at_mk ?a ?l ?c ?k; (case a => k_is); (case l => k_is); (case c => k_is); (case k => k_is)))
      (case a_law_number => (refine' Ev.at_mk ?a ?l ?c ?k; (case a => k_is); (case l => k_is); (case c => k_is); (case k => k_is)))
      (case a_law_right => (refine' Ev.at_mk ?a ?l ?c ?k; (case a => k_is); (case l => k_is); (case c => k_is); (case k => k_is)))
      (case a_law => (refine' Ev.at_mk ?a ?l ?c ?k; (case a => k_is); (case l => k_is); (case c => k_is); (case k => k_is)))
      (case z_abs => k_is)
      (case z_bool => k_is)
      (case z_divmod => k_is)
      (case z_enumerate => k_is)
      (case z_int => k_is)
      (case z_isinstance => k_is)
      (case z_len => k_is)
      (case z_max => k_is)
      (case z_min => k_is)
      (case z_range => k_is)
      (case z_repr => k_is)
      (case z_sum => k_is)
      (case z_tuple => k_is)
      (case g_GREATEST_DEGREE => k_is)
      (case g_NUMBER_LIMIT => k_is)
      (case g_comb => k_is)
    case G => exact fun ns _ => Ev.law10 Ev.exp_m Ev.nxt_m rfl ns)
