import PyProof.Rows.All
import HandS.ForMost
import HandS.Exc
import HandS.ExcInit
import HandS.ExcValue
import HandS.ExcIs
import HandS.IsInst
import HandS.Wide
import HandS.WideBits
import HandS.Defaults
import HandS.MakeKw
import HandS.EndBits
import HandS.HeadHook4
import HandS.HeadEnd
import HandS.Style
import HandS.ExcOwn
import HandS.Head2
import KE.KExcIs
import KE.KIsAll
import OpenK.AllK
import Wide.All
import Wide.FinOn
import PySem.Challenge.RW_soundlooks_k01_errors_each_of_its_own
set_option Elab.async false
set_option linter.all false
set_option maxRecDepth 100000
set_option maxHeartbeats 8000000
namespace Eg
open PySem PySem.Spec L2

/-! ### data -/
/-- a list of the written part -/
def WrL (K : PySem.W.Frag) (a : Addr) (xs : List V) : Prop := SqL K (fun _ => none) a xs
theorem WrL.sq {K : PySem.W.Frag} {H : Hp} {a : Addr} {xs : List V} (h : WrL K a xs) : SqL K H a xs := by
  rcases h with (h | ⟨o, h⟩) | h
  · cases h
  · cases h
  · exact .inr h
inductive DV where
  | non | bl (b : Bool) | int (i : Int) | str (x : Str)
  | tup (xs : List DV) | lst (xs : List DV) | dic (kvs : List (Key × DV))
  | exc (C : Addr) (fs : List (Str × DV))
  | mu (k : Nat)
/-- a mutable object -/
inductive MO where
  | dead | lst (xs : List DV) | dic (kvs : List (Key × DV)) | ins (C : Addr) (fs : List (Str × DV))
structure Wd where
  K : PySem.W.Frag
  α : List Addr
  μ : List MO
  H : Hp
def Wd.lv (w : Wd) (p : Addr) : Prop := ∃ (k : Nat) (o : MO), w.α[k]? = some p ∧ w.μ[k]? = some o ∧ o ≠ MO.dead
mutual
inductive Has (w : Wd) : V → DV → Prop
  | non : Has w .non .non
  | bl {b} : Has w (.bl b) (.bl b)
  | int {i} : Has w (.int i) (.int i)
  | str {x} : Has w (.str x) (.str x)
  | tup {p vs ds} : SqT w.K w.H p vs → HasL w vs ds → Has w (.ref p) (.tup ds)
  | lst {p vs ds} : (¬ w.lv p ∧ Rd w.H p (.lst vs)) ∨ WrL w.K p vs → HasL w vs ds → Has w (.ref p) (.lst ds)
  | dic {p kvs kds} : ¬ w.lv p → w.H p = some (.dK kvs) → HasK w kvs kds → Has w (.ref p) (.dic kds)
  | exc {p C d fs ds} : w.H p = some (exo p C (some d)) → w.H d = some (exd d fs) → HasF w fs ds → Has w (.ref p) (.exc C ds)
  | exc0 {p C} : w.H p = some (ExO (.ref C) p) → Has w (.ref p) (.exc C [])
  | mu {k a} : w.α[k]? = some a → Has w (.ref a) (.mu k)
inductive HasL (w : Wd) : List V → List DV → Prop
  | nil : HasL w [] []
  | cons {v d vs ds} : Has w v d → HasL w vs ds → HasL w (v :: vs) (d :: ds)
inductive HasK (w : Wd) : List (Key × V) → List (Key × DV) → Prop
  | nil : HasK w [] []
  | cons {k v d vs ds} : Has w v d → HasK w vs ds → HasK w ((k, v) :: vs) ((k, d) :: ds)
inductive HasF (w : Wd) : List (Str × V) → List (Str × DV) → Prop
  | nil : HasF w [] []
  | cons {k v d vs ds} : Has w v d → HasF w vs ds → HasF w ((k, v) :: vs) ((k, d) :: ds)
end
def MHas (w : Wd) (a : Addr) : MO → Prop
  | .dead => True
  | .lst ds => ∃ vs, w.H a = some (.lst vs) ∧ HasL w vs ds
  | .dic kds => ∃ kvs, w.H a = some (.dK kvs) ∧ HasK w kvs kds
  | .ins C fds => ∃ dx fs, w.H a = some (.ins C dx fs) ∧ HasF w fs fds
structure Live (w : Wd) : Prop where
  len : w.α.length = w.μ.length
  nd : w.α.Nodup
  tr : ∀ a ∈ w.α, w.H a ≠ none
  ob : ∀ (k : Nat) (a : Addr) (o : MO), w.α[k]? = some a → w.μ[k]? = some o → MHas w a o
abbrev RO := List (Option DV)
structure En (w : Wd) (σ : St) (ρ : RO) : Prop where
  live : Live w
  len : σ.length = ρ.length
  at_ : ∀ (i : Nat) (d : DV), ρ[i]? = some (some d) → ∃ v, σ[i]? = some (some v) ∧ Has w v d
/-- what a change of the world has to keep -/
structure Kp (w w' : Wd) : Prop where
  K : w'.K = w.K
  α : ∀ (k : Nat) (a : Addr), w.α[k]? = some a → w'.α[k]? = some a
  lv : ∀ p, w.H p ≠ none → w'.lv p → w.lv p
  H : ∀ p o, w.H p = some o → ¬ w.lv p → w'.H p = some o
  tu : ∀ p, w.lv p → Mut (w.H p)
  ex : ∀ p φ, w.H p = some (.ext φ) → ¬ w.lv p
mutual
theorem Kp.has {w w' : Wd} (k : Kp w w') : ∀ {v : V} {d : DV}, Has w v d → Has w' v d
  | _, _, .non => .non
  | _, _, .bl => .bl
  | _, _, .int => .int
  | _, _, .str => .str
  | _, _, .tup h t => .tup (by
      have nl : ∀ {p xs}, Rd w.H p (.tup xs) → ¬ w.lv p := fun {p xs} r z => by
        have m := k.tu p z
        rcases r with r | ⟨o, r⟩ <;> (rw [r] at m; exact m)
      rcases h with r | r
      · have n := nl r
        rcases r with r | ⟨o, r⟩
        · exact .inl (.inl (k.H _ _ r n))
        · exact .inl (.inr ⟨o, k.H _ _ r n⟩)
      · exact .inr (by rw [k.K]; exact r)) (Kp.hasL k t)
  | _, _, .lst r t => .lst (by
      rcases r with ⟨n, r⟩ | r
      · refine .inl ⟨fun z => n (k.lv _ (by rcases r with r | ⟨o, r⟩ <;> (rw [r]; exact fun z => nomatch z)) z), ?_⟩
        rcases r with r | ⟨o, r⟩
        · exact .inl (k.H _ _ r n)
        · exact .inr ⟨o, k.H _ _ r n⟩
      · exact .inr (by rw [k.K]; exact r)) (Kp.hasL k t)
  | _, _, .dic n r t => .dic (fun z => n (k.lv _ (by rw [r]; exact fun z => nomatch z) z)) (k.H _ _ r n) (Kp.hasK k t)
  | _, _, .exc h1 h2 t => .exc (k.H _ _ h1 (k.ex _ _ h1)) (k.H _ _ h2 (k.ex _ _ h2)) (Kp.hasF k t)
  | _, _, .exc0 h1 => .exc0 (k.H _ _ h1 (k.ex _ _ h1))
  | _, _, .mu h => .mu (k.α _ _ h)
theorem Kp.hasL {w w' : Wd} (k : Kp w w') : ∀ {vs : List V} {ds : List DV}, HasL w vs ds → HasL w' vs ds
  | _, _, .nil => .nil
  | _, _, .cons h t => .cons (Kp.has k h) (Kp.hasL k t)
theorem Kp.hasK {w w' : Wd} (k : Kp w w') : ∀ {vs : List (Key × V)} {ds : List (Key × DV)}, HasK w vs ds → HasK w' vs ds
  | _, _, .nil => .nil
  | _, _, .cons h t => .cons (Kp.has k h) (Kp.hasK k t)
theorem Kp.hasF {w w' : Wd} (k : Kp w w') : ∀ {vs : List (Str × V)} {ds : List (Str × DV)}, HasF w vs ds → HasF w' vs ds
  | _, _, .nil => .nil
  | _, _, .cons h t => .cons (Kp.has k h) (Kp.hasF k t)
end
theorem En.ext {w w' : Wd} {σ : L2.St} {ρ : RO} (E : En w σ ρ) (e : Kp w w') (l : Live w') : En w' σ ρ :=
  ⟨l, E.len, fun i d h => let ⟨v, h1, h2⟩ := E.at_ i d h; ⟨v, h1, e.has h2⟩⟩
theorem Kp.trans {a b c : Wd} (h : Kp a b) (k : Kp b c) : Kp a c where
  K := k.K.trans h.K
  α := fun i x e => k.α i x (h.α i x e)
  lv := fun p n z => by
    by_cases q : a.lv p
    · exact q
    · cases e : a.H p with
      | none => exact absurd e n
      | some o => exact h.lv p n (k.lv p (by rw [h.H p o e q]; exact fun z => nomatch z) z)
  H := fun p o e n => k.H p o (h.H p o e n) fun z => n (h.lv p (by rw [e]; exact fun z => nomatch z) z)
  tu := h.tu
  ex := h.ex
/-- a live object is one that may be changed -/
theorem Live.mut {w : Wd} (l : Live w) {p : Addr} (h : w.lv p) : (∃ xs, w.H p = some (.lst xs)) ∨ (∃ xs, w.H p = some (.dK xs)) ∨ ∃ C dx fs, w.H p = some (.ins C dx fs) := by
  obtain ⟨k, o, h1, h2, h3⟩ := h
  have q := l.ob k p o h1 h2
  cases o with
  | dead => exact absurd rfl h3
  | lst ds => obtain ⟨vs, e, _⟩ := q; exact .inl ⟨vs, e⟩
  | dic ds => obtain ⟨vs, e, _⟩ := q; exact .inr (.inl ⟨vs, e⟩)
  | ins C fs => obtain ⟨dx, vs, e, _⟩ := q; exact .inr (.inr ⟨C, dx, vs, e⟩)
theorem Kp.of {w w' : Wd} (l : Live w) (K : w'.K = w.K) (α : ∀ (k : Nat) (a : Addr), w.α[k]? = some a → w'.α[k]? = some a) (lv : ∀ p, w.H p ≠ none → w'.lv p → w.lv p)
    (H : ∀ p o, w.H p = some o → ¬ w.lv p → w'.H p = some o) : Kp w w' where
  K := K
  α := α
  lv := lv
  H := H
  tu := fun p z => by
    rcases l.mut z with ⟨xs, e⟩ | ⟨xs, e⟩ | ⟨C, dx, fs, e⟩ <;> (rw [e]; exact True.intro)
  ex := fun p φ e z => by
    rcases l.mut z with ⟨xs, q⟩ | ⟨xs, q⟩ | ⟨C, dx, fs, q⟩ <;> (rw [e] at q; cases q)
theorem Live.refl {w : Wd} (l : Live w) : Kp w w := Kp.of l rfl (fun _ _ e => e) (fun _ _ e => e) fun _ _ e _ => e
theorem Live.fresh {w : Wd} (l : Live w) {p : Addr} (n : w.H p = none) : ¬ w.lv p := fun z => by
  rcases l.mut z with ⟨xs, e⟩ | ⟨xs, e⟩ | ⟨C, dx, fs, e⟩ <;> (rw [n] at e; cases e)
theorem Live.nin {w : Wd} (l : Live w) {p : Addr} (n : w.H p = none) : p ∉ w.α := fun z => l.tr p z n
/-- the k-th objects' accounts behind a change that leaves the live ones -/
theorem MHas.ext {w w' : Wd} (e : Kp w w') {a : Addr} : ∀ {o : MO}, (o ≠ MO.dead → w'.H a = w.H a) → MHas w a o → MHas w' a o
  | .dead, _, _ => True.intro
  | .lst _, q, ⟨vs, h1, h2⟩ => ⟨vs, (q (fun z => nomatch z)).trans h1, e.hasL h2⟩
  | .dic _, q, ⟨vs, h1, h2⟩ => ⟨vs, (q (fun z => nomatch z)).trans h1, e.hasK h2⟩
  | .ins _ _, q, ⟨dx, vs, h1, h2⟩ => ⟨dx, vs, (q (fun z => nomatch z)).trans h1, e.hasF h2⟩
section
variable {K : PySem.W.Frag} {α : List Addr} {μ : List MO} {H : Hp} {p : Addr} {o : HO}
/-- a new object is laid that nobody may change -/
theorem Live.lay (l : Live ⟨K, α, μ, H⟩) (n : H p = none) : Kp ⟨K, α, μ, H⟩ ⟨K, α, μ, upd H p o⟩ ∧ Live ⟨K, α, μ, upd H p o⟩ := by
  have k : Kp ⟨K, α, μ, H⟩ ⟨K, α, μ, upd H p o⟩ := Kp.of l rfl (fun _ _ e => e) (fun _ _ e => e) fun q u e _ => by
    show upd H p o q = some u
    rw [upd_ne (ne_of_none e n)]
    exact e
  refine ⟨k, l.len, l.nd, fun a ha z => ?_, fun i a m h1 h2 => MHas.ext k (fun hm => ?_) (l.ob i a m h1 h2)⟩
  · have z' : upd H p o a = none := z
    by_cases e : a = p
    · rw [e, upd_same] at z'
      cases z'
    · rw [upd_ne e] at z'
      exact l.tr a ha z'
  · show upd H p o a = H a
    refine upd_ne fun e => l.fresh (p := p) n ?_
    rw [← e]
    exact ⟨i, m, h1, h2, hm⟩
/-- a new object is laid that may be changed -/
theorem Live.layM {m : MO} (l : Live ⟨K, α, μ, H⟩) (n : H p = none) (hm : Live ⟨K, α, μ, upd H p o⟩ → Kp ⟨K, α, μ, H⟩ ⟨K, α ++ [p], μ ++ [m], upd H p o⟩ → MHas ⟨K, α ++ [p], μ ++ [m], upd H p o⟩ p m) :
    Kp ⟨K, α, μ, H⟩ ⟨K, α ++ [p], μ ++ [m], upd H p o⟩ ∧ Live ⟨K, α ++ [p], μ ++ [m], upd H p o⟩ ∧ (α ++ [p])[μ.length]? = some p := by
  obtain ⟨_, l1⟩ := l.lay (o := o) n
  have hl : α.length = μ.length := l.len
  have np : p ∉ α := l.nin n
  have cases_ : ∀ {i : Nat} {a : Addr} {u : MO}, (α ++ [p])[i]? = some a → (μ ++ [m])[i]? = some u → (α[i]? = some a ∧ μ[i]? = some u) ∨ (a = p ∧ u = m) := fun {i a u} h1 h2 => by
    by_cases hi : i < α.length
    · rw [List.getElem?_append_left hi] at h1
      rw [List.getElem?_append_left (by omega)] at h2
      exact .inl ⟨h1, h2⟩
    · rw [List.getElem?_append_right (by omega)] at h1
      rw [List.getElem?_append_right (by omega)] at h2
      have hi1 : i - α.length = 0 := by
        cases e : i - α.length with
        | zero => rfl
        | succ j =>
          rw [e] at h1
          simp at h1
      have hi2 : i - μ.length = 0 := by omega
      rw [hi1] at h1
      rw [hi2] at h2
      simp at h1 h2
      exact .inr ⟨h1.symm, h2.symm⟩
  have k : Kp ⟨K, α, μ, H⟩ ⟨K, α ++ [p], μ ++ [m], upd H p o⟩ := Kp.of l rfl (fun i a e => by
      have e' : α[i]? = some a := e
      show (α ++ [p])[i]? = some a
      rw [List.getElem?_append_left (List.getElem?_eq_some_iff.mp e').1]
      exact e') (fun q nq ⟨i, u, h1, h2, h3⟩ => by
      rcases cases_ h1 h2 with ⟨q1, q2⟩ | ⟨q1, _⟩
      · exact ⟨i, u, q1, q2, h3⟩
      · exact absurd (show H q = none by rw [q1]; exact n) nq) fun q u e _ => by
    show upd H p o q = some u
    rw [upd_ne (ne_of_none e n)]
    exact e
  refine ⟨k, ⟨?_, ?_, ?_, ?_⟩, ?_⟩
  · show (α ++ [p]).length = (μ ++ [m]).length
    simp [hl]
  · show (α ++ [p]).Nodup
    refine List.nodup_append.mpr ⟨l.nd, by simp, ?_⟩
    intro a ha b hb
    rw [List.mem_singleton] at hb
    rw [hb]
    exact fun e => np (e ▸ ha)
  · intro a ha
    have ha' : a ∈ α ++ [p] := ha
    rcases List.mem_append.mp ha' with h | h
    · exact l1.tr a h
    · rw [List.mem_singleton] at h
      rw [h]
      show upd H p o p ≠ none
      rw [upd_same]
      exact fun z => nomatch z
  · intro i a u h1 h2
    rcases cases_ h1 h2 with ⟨q1, q2⟩ | ⟨q1, q2⟩
    · refine MHas.ext k (fun hu => ?_) (l.ob i a u q1 q2)
      show upd H p o a = H a
      exact upd_ne fun e => l.fresh (p := p) n (by rw [← e]; exact ⟨i, u, q1, q2, hu⟩)
    · rw [q1, q2]
      exact hm l1 k
  · rw [← hl]
    simp
/-- new objects are laid that nobody may change -/
theorem Live.lays {H' : Hp} (l : Live ⟨K, α, μ, H⟩) (h : ∀ p, H p ≠ none → H' p = H p) : Kp ⟨K, α, μ, H⟩ ⟨K, α, μ, H'⟩ ∧ Live ⟨K, α, μ, H'⟩ := by
  have k : Kp ⟨K, α, μ, H⟩ ⟨K, α, μ, H'⟩ := Kp.of l rfl (fun _ _ e => e) (fun _ _ e => e) fun q u e _ => (h q (by
    have e' : H q = some u := e
    rw [e']
    exact fun z => nomatch z)).trans e
  refine ⟨k, l.len, l.nd, fun a ha z => l.tr a ha ((h a (l.tr a ha)).symm.trans z), fun i a m h1 h2 => MHas.ext k (fun _ => ?_) (l.ob i a m h1 h2)⟩
  exact h a (l.tr a (List.mem_of_getElem? h1))
/-- the k-th object is changed -/
theorem Live.put {k : Nat} {a : Addr} {m0 m : MO} (l : Live ⟨K, α, μ, H⟩) (ha : α[k]? = some a) (hm0 : μ[k]? = some m0) (h0 : m0 ≠ MO.dead)
    (hm : Kp ⟨K, α, μ, H⟩ ⟨K, α, μ.set k m, upd H a o⟩ → MHas ⟨K, α, μ.set k m, upd H a o⟩ a m) : Kp ⟨K, α, μ, H⟩ ⟨K, α, μ.set k m, upd H a o⟩ ∧ Live ⟨K, α, μ.set k m, upd H a o⟩ := by
  have la : Wd.lv ⟨K, α, μ, H⟩ a := ⟨k, m0, ha, hm0, h0⟩
  have hk : k < μ.length := (List.getElem?_eq_some_iff.mp hm0).1
  have same : ∀ {i : Nat}, α[i]? = some a → i = k := fun {i} e => nd_ix l.nd e ha
  have kp : Kp ⟨K, α, μ, H⟩ ⟨K, α, μ.set k m, upd H a o⟩ := Kp.of l rfl (fun _ _ e => e) (fun q _ ⟨i, u, h1, h2, h3⟩ => by
      by_cases e : i = k
      · subst e
        have h1' : α[i]? = some q := h1
        rw [ha] at h1'
        cases h1'
        exact la
      · exact ⟨i, u, h1, by rw [← h2]; exact (List.getElem?_set_ne (Ne.symm e)).symm, h3⟩) fun q u e nl => by
    show upd H a o q = some u
    rw [upd_ne (fun z : q = a => nl (by rw [z]; exact la))]
    exact e
  refine ⟨kp, ⟨?_, l.nd, ?_, ?_⟩⟩
  · show α.length = (μ.set k m).length
    rw [List.length_set]
    exact l.len
  · intro b hb z
    have z' : upd H a o b = none := z
    by_cases e : b = a
    · rw [e, upd_same] at z'
      cases z'
    · rw [upd_ne e] at z'
      exact l.tr b hb z'
  · intro i b u h1 h2
    have h2' : (μ.set k m)[i]? = some u := h2
    have h1' : α[i]? = some b := h1
    by_cases e : i = k
    · subst e
      rw [List.getElem?_set_self hk] at h2'
      cases h2'
      rw [ha] at h1'
      cases h1'
      exact hm kp
    · rw [List.getElem?_set_ne (Ne.symm e)] at h2'
      refine MHas.ext kp (fun _ => ?_) (l.ob i b u h1 h2')
      show upd H a o b = H b
      exact upd_ne fun z : b = a => e (same (by rw [← z]; exact h1'))
/-- nobody will change the k-th object any more -/
theorem Live.freeze {k : Nat} (l : Live ⟨K, α, μ, H⟩) : Kp ⟨K, α, μ, H⟩ ⟨K, α, μ.set k MO.dead, H⟩ ∧ Live ⟨K, α, μ.set k MO.dead, H⟩ ∧ ∀ a, α[k]? = some a → ¬ Wd.lv ⟨K, α, μ.set k MO.dead, H⟩ a := by
  have at_ : ∀ {i : Nat} {u : MO}, (μ.set k MO.dead)[i]? = some u → u = MO.dead ∨ (i ≠ k ∧ μ[i]? = some u) := fun {i u} h => by
    by_cases e : i = k
    · subst e
      by_cases hi : i < μ.length
      · rw [List.getElem?_set_self hi] at h
        exact .inl (Option.some.inj h).symm
      · rw [List.getElem?_eq_none_iff.mpr (by rw [List.length_set]; omega)] at h
        cases h
    · rw [List.getElem?_set_ne (Ne.symm e)] at h
      exact .inr ⟨e, h⟩
  have kp : Kp ⟨K, α, μ, H⟩ ⟨K, α, μ.set k MO.dead, H⟩ := Kp.of l rfl (fun _ _ e => e) (fun q _ ⟨i, u, h1, h2, h3⟩ => by
      rcases at_ h2 with z | ⟨_, z⟩
      · exact absurd z h3
      · exact ⟨i, u, h1, z, h3⟩) fun q u e nl => e
  refine ⟨kp, ⟨?_, l.nd, l.tr, ?_⟩, ?_⟩
  · show α.length = (μ.set k MO.dead).length
    rw [List.length_set]
    exact l.len
  · intro i b u h1 h2
    rcases at_ h2 with z | ⟨_, z⟩
    · rw [z]
      exact True.intro
    · exact MHas.ext kp (fun _ => rfl) (l.ob i b u h1 z)
  · rintro a ha ⟨i, u, h1, h2, h3⟩
    rcases at_ h2 with z | ⟨ne, _⟩
    · exact h3 z
    · exact ne (nd_ix l.nd h1 ha)
end
mutual
/-- its mutable objects are among the first n -/
def DV.bel (n : Nat) : DV → Bool
  | .tup xs => DV.belL n xs
  | .lst xs => DV.belL n xs
  | .dic kvs => DV.belK n kvs
  | .exc _ fs => DV.belF n fs
  | .mu k => decide (k < n)
  | _ => true
def DV.belL (n : Nat) : List DV → Bool
  | [] => true
  | x :: r => DV.bel n x && DV.belL n r
def DV.belK (n : Nat) : List (Key × DV) → Bool
  | [] => true
  | (_, x) :: r => DV.bel n x && DV.belK n r
def DV.belF (n : Nat) : List (Str × DV) → Bool
  | [] => true
  | (_, x) :: r => DV.bel n x && DV.belF n r
end
def MO.bel (n : Nat) : MO → Bool
  | .dead => true
  | .lst xs => DV.belL n xs
  | .dic kvs => DV.belK n kvs
  | .ins _ fs => DV.belF n fs
section
variable {w w' : Wd} {n : Nat}
mutual
theorem Has.move (K : w'.K = w.K) (H : w'.H = w.H) (lv : ∀ p, w'.lv p → w.lv p) (α : ∀ (k : Nat) (a : Addr), k < n → w.α[k]? = some a → w'.α[k]? = some a) : ∀ {v : V} {d : DV}, Has w v d → DV.bel n d = true → Has w' v d
  | _, _, .non, _ => .non
  | _, _, .bl, _ => .bl
  | _, _, .int, _ => .int
  | _, _, .str, _ => .str
  | _, _, .tup h t, p => .tup (by rw [K, H]; exact h) (HasL.move K H lv α t p)
  | _, _, .lst r t, p => .lst (by
      rcases r with ⟨n, r⟩ | r
      · exact .inl ⟨fun z => n (lv _ z), by rw [H]; exact r⟩
      · exact .inr (by rw [K]; exact r)) (HasL.move K H lv α t p)
  | _, _, .dic n r t, p => .dic (fun z => n (lv _ z)) (by rw [H]; exact r) (HasK.move K H lv α t p)
  | _, _, .exc h1 h2 t, p => .exc (by rw [H]; exact h1) (by rw [H]; exact h2) (HasF.move K H lv α t p)
  | _, _, .exc0 h1, _ => .exc0 (by rw [H]; exact h1)
  | _, _, .mu h, p => .mu (α _ _ (of_decide_eq_true p) h)
theorem HasL.move (K : w'.K = w.K) (H : w'.H = w.H) (lv : ∀ p, w'.lv p → w.lv p) (α : ∀ (k : Nat) (a : Addr), k < n → w.α[k]? = some a → w'.α[k]? = some a) : ∀ {vs : List V} {ds : List DV}, HasL w vs ds → DV.belL n ds = true → HasL w' vs ds
  | _, _, .nil, _ => .nil
  | _, _, .cons h t, p => .cons (Has.move K H lv α h (Bool.and_eq_true_iff.mp p).1) (HasL.move K H lv α t (Bool.and_eq_true_iff.mp p).2)
theorem HasK.move (K : w'.K = w.K) (H : w'.H = w.H) (lv : ∀ p, w'.lv p → w.lv p) (α : ∀ (k : Nat) (a : Addr), k < n → w.α[k]? = some a → w'.α[k]? = some a) : ∀ {vs : List (Key × V)} {ds : List (Key × DV)}, HasK w vs ds → DV.belK n ds = true → HasK w' vs ds
  | _, _, .nil, _ => .nil
  | _, _, .cons h t, p => .cons (Has.move K H lv α h (Bool.and_eq_true_iff.mp p).1) (HasK.move K H lv α t (Bool.and_eq_true_iff.mp p).2)
theorem HasF.move (K : w'.K = w.K) (H : w'.H = w.H) (lv : ∀ p, w'.lv p → w.lv p) (α : ∀ (k : Nat) (a : Addr), k < n → w.α[k]? = some a → w'.α[k]? = some a) : ∀ {vs : List (Str × V)} {ds : List (Str × DV)}, HasF w vs ds → DV.belF n ds = true → HasF w' vs ds
  | _, _, .nil, _ => .nil
  | _, _, .cons h t, p => .cons (Has.move K H lv α h (Bool.and_eq_true_iff.mp p).1) (HasF.move K H lv α t (Bool.and_eq_true_iff.mp p).2)
end
end
/-- what was made beside is forgotten -/
def Wd.cut (w : Wd) (n : Nat) : Wd := ⟨w.K, w.α.take n, w.μ.take n, w.H⟩
theorem cut_lv {w : Wd} {n : Nat} {p : Addr} (h : (w.cut n).lv p) : w.lv p := by
  obtain ⟨i, u, h1, h2, h3⟩ := h
  have h1' : (w.α.take n)[i]? = some p := h1
  have h2' : (w.μ.take n)[i]? = some u := h2
  rw [List.getElem?_take] at h1' h2'
  split at h1'
  · rename_i hi
    rw [if_pos hi] at h2'
    exact ⟨i, u, h1', h2', h3⟩
  · cases h1'
theorem Live.cut {w w' : Wd} (l : Live w) (l' : Live w') (k : Kp w w') : Kp w (w'.cut w.μ.length) := Kp.of l k.K (fun i a e => by
    show (w'.α.take w.μ.length)[i]? = some a
    have hi : i < w.μ.length := by
      rw [← l.len]
      exact (List.getElem?_eq_some_iff.mp e).1
    rw [List.getElem?_take, if_pos hi]
    exact k.α i a e) (fun p n z => k.lv p n (cut_lv z)) k.H
theorem cut_α {w : Wd} {n : Nat} (k : Nat) (a : Addr) (h : k < n) (e : w.α[k]? = some a) : (w.cut n).α[k]? = some a := by
  show (w.α.take n)[k]? = some a
  rw [List.getElem?_take, if_pos h]
  exact e
theorem Live.cutL {w : Wd} (l : Live w) (n : Nat) (p : (w.μ.take n).all (MO.bel n) = true) : Live (w.cut n) where
  len := by
    show (w.α.take n).length = (w.μ.take n).length
    rw [List.length_take, List.length_take, l.len]
  nd := l.nd.sublist (List.take_sublist _ _)
  tr := fun a h => l.tr a (List.mem_of_mem_take h)
  ob := fun i a u h1 h2 => by
    have h1' : (w.α.take n)[i]? = some a := h1
    have h2' : (w.μ.take n)[i]? = some u := h2
    have pu : MO.bel n u = true := List.all_eq_true.mp p u (List.mem_of_getElem? h2')
    rw [List.getElem?_take] at h1' h2'
    split at h1'
    · rename_i hi
      rw [if_pos hi] at h2'
      have q := l.ob i a u h1' h2'
      cases u with
      | dead => exact True.intro
      | lst ds =>
        obtain ⟨vs, e, t⟩ := q
        exact ⟨vs, e, HasL.move (w := w) (w' := w.cut n) (n := n) rfl rfl (fun _ z => cut_lv z) cut_α t pu⟩
      | dic ds =>
        obtain ⟨vs, e, t⟩ := q
        exact ⟨vs, e, HasK.move (w := w) (w' := w.cut n) (n := n) rfl rfl (fun _ z => cut_lv z) cut_α t pu⟩
      | ins C ds =>
        obtain ⟨dx, vs, e, t⟩ := q
        exact ⟨dx, vs, e, HasF.move (w := w) (w' := w.cut n) (n := n) rfl rfl (fun _ z => cut_lv z) cut_α t pu⟩
    · cases h1'
theorem Has.cut {w : Wd} {n : Nat} {v : V} {d : DV} (h : Has w v d) (p : DV.bel n d = true) : Has (w.cut n) v d := Has.move (w := w) (w' := w.cut n) (n := n) rfl rfl (fun _ z => cut_lv z) cut_α h p
end Eg

namespace Eg
open PySem PySem.Spec L2
abbrev Cn := DV → List MO → Prop
abbrev Ct := Bool → List MO → Prop
abbrev Ca := List DV → List MO → Prop
section
variable {X : Cx}
def tEv (X : Cx) (ρ : RO) (μ : List MO) (R : Cn) : TE := fun σ H Q => ∃ α, En ⟨X.K, α, μ, H⟩ σ ρ ∧
  ∀ v d α' μ' H', R d μ' → En ⟨X.K, α', μ', H'⟩ σ ρ → Kp ⟨X.K, α, μ, H⟩ ⟨X.K, α', μ', H'⟩ → Has ⟨X.K, α', μ', H'⟩ v d → Q v H'
def tEvT (X : Cx) (ρ : RO) (μ : List MO) (R : Ct) : TT := fun σ H Q => ∃ α, En ⟨X.K, α, μ, H⟩ σ ρ ∧
  ∀ b α' μ' H', R b μ' → En ⟨X.K, α', μ', H'⟩ σ ρ → Kp ⟨X.K, α, μ, H⟩ ⟨X.K, α', μ', H'⟩ → Q b H'
def tEvA (X : Cx) (ρ : RO) (μ : List MO) (R : Ca) : TA := fun σ H Q => ∃ α, En ⟨X.K, α, μ, H⟩ σ ρ ∧
  ∀ vs ds α' μ' H', R ds μ' → En ⟨X.K, α', μ', H'⟩ σ ρ → Kp ⟨X.K, α, μ, H⟩ ⟨X.K, α', μ', H'⟩ → HasL ⟨X.K, α', μ', H'⟩ vs ds → Q vs H'
/-- the expression, over the slots ρ and the objects μ, comes to what R lets -/
def Ev (X : Cx) (e : Expr) (ρ : RO) (μ : List MO) (R : Cn) : Prop := PE X e (tEv X ρ μ R)
def EvT (X : Cx) (e : Expr) (ρ : RO) (μ : List MO) (R : Ct) : Prop := PT X e (tEvT X ρ μ R)
def EvW (X : Cx) (e : Expr) (ρ : RO) (μ : List MO) (R : Ct) : Prop := PW X e (tEvT X ρ μ R)
def EvA (X : Cx) (es : List Expr) (ρ : RO) (μ : List MO) (R : Ca) : Prop := PA X es (tEvA X ρ μ R)

def aE (X : Cx) (e : Expr) : TE := fun σ H Q => ∃ t, PE X e t ∧ t σ H Q
def aT (X : Cx) (e : Expr) : TT := fun σ H Q => ∃ t, PT X e t ∧ t σ H Q
def aW (X : Cx) (e : Expr) : TT := fun σ H Q => ∃ t, PW X e t ∧ t σ H Q
def aA (X : Cx) (e : List Expr) : TA := fun σ H Q => ∃ t, PA X e t ∧ t σ H Q
theorem pe_a {e : Expr} : PE X e (aE X e) := ⟨fun pins s σ H Q I ⟨_, h, q⟩ => h.run pins s σ H Q I q⟩
theorem pt_a {e : Expr} : PT X e (aT X e) := ⟨fun pins s σ H Q I ⟨_, h, q⟩ => h.run pins s σ H Q I q⟩
theorem pw_a {e : Expr} : PW X e (aW X e) := ⟨fun wh pins s σ H Q I ⟨_, h, q⟩ => h.run wh pins s σ H Q I q⟩
theorem pa_a {e : List Expr} : PA X e (aA X e) := ⟨fun pos pins s σ H Q I ⟨_, h, q⟩ => h.run pos pins s σ H Q I q⟩
theorem PEw {e : Expr} {t t' : TE} (h : PE X e t) (k : ∀ σ H Q, t' σ H Q → t σ H Q) : PE X e t' := ⟨fun pins s σ H Q I q => h.run pins s σ H Q I (k σ H Q q)⟩
theorem PTw {e : Expr} {t t' : TT} (h : PT X e t) (k : ∀ σ H Q, t' σ H Q → t σ H Q) : PT X e t' := ⟨fun pins s σ H Q I q => h.run pins s σ H Q I (k σ H Q q)⟩
theorem PWw {e : Expr} {t t' : TT} (h : PW X e t) (k : ∀ σ H Q, t' σ H Q → t σ H Q) : PW X e t' := ⟨fun wh pins s σ H Q I q => h.run wh pins s σ H Q I (k σ H Q q)⟩
theorem PAw {e : List Expr} {t t' : TA} (h : PA X e t) (k : ∀ σ H Q, t' σ H Q → t σ H Q) : PA X e t' := ⟨fun pos pins s σ H Q I q => h.run pos pins s σ H Q I (k σ H Q q)⟩
section
variable {e a b c : Expr} {es : List Expr} {ρ : RO} {μ : List MO} {pos : Pos}
theorem Ev.mono {R R' : Cn} (h : Ev X e ρ μ R) (k : ∀ d μ', R d μ' → R' d μ') : Ev X e ρ μ R' :=
  PEw h fun σ H Q ⟨α, E, q⟩ => ⟨α, E, fun v d α' μ' H' r => q v d α' μ' H' (k _ _ r)⟩
theorem EvT.mono {R R' : Ct} (h : EvT X e ρ μ R) (k : ∀ d μ', R d μ' → R' d μ') : EvT X e ρ μ R' :=
  PTw h fun σ H Q ⟨α, E, q⟩ => ⟨α, E, fun v α' μ' H' r => q v α' μ' H' (k _ _ r)⟩
/-- an expression that leaves all as it is -/
theorem Ev.still {R : Cn} {v : V} {d : DV} (h : PE X e (tC v)) (hv : ∀ w, Has w v d) (hR : R d μ) : Ev X e ρ μ R :=
  PEw h fun σ H Q ⟨α, E, q⟩ => q v d α μ H hR E E.live.refl (hv _)
theorem Ev.name {R : Cn} (i : Nat) {x : Str} {d : DV} (hN : X.N[i]? = some x) (hv : Vis X.env.scope x) (hr : ρ[i]? = some (some d)) (hR : R d μ) (hd : (x == ("__debug__" : Str)) = false := by decide) (hcd : (x == ("__classdict__" : Str)) = false := by decide) :
    Ev X (.Name x pos) ρ μ R := PEw (pe_var hN hv hd hcd) fun σ H Q ⟨α, E, q⟩ => by
  obtain ⟨v, h1, h2⟩ := E.at_ i d hr
  exact ⟨v, h1, q v d α μ H hR E E.live.refl h2⟩
theorem Ev.int {R : Cn} {i : Int} {j} (hR : R (.int i) μ) : Ev X (.Constant (.int i) j pos) ρ μ R := .still pe_int (fun _ => .int) hR
theorem Ev.bl {R : Cn} {i : Bool} {j} (hR : R (.bl i) μ) : Ev X (.Constant (.bool i) j pos) ρ μ R := .still pe_bl (fun _ => .bl) hR
theorem Ev.non {R : Cn} {j} (hR : R .non μ) : Ev X (.Constant .none j pos) ρ μ R := .still pe_non (fun _ => .non) hR
theorem Ev.str {R : Cn} {x : Str} {j} (hR : R (.str x) μ) : Ev X (.Constant (.str x) j pos) ρ μ R := .still pe_str (fun _ => .str) hR
/-- a module's constant -/
theorem Ev.glob {R : Cn} {x : Str} {v : V} {u : Value} {d : DV} (hg : Gl X x) (hm : X.mg x = some u) (r : RelV v u) (hv : ∀ α μ H, Has ⟨X.K, α, μ, H⟩ v d) (hR : R d μ) (hd : (x == ("__debug__" : Str)) = false := by decide) : Ev X (.Name x pos) ρ μ R :=
  PEw (pe_glob hg hm r hd) fun σ H Q ⟨α, E, q⟩ => q v d α μ H hR E E.live.refl (hv _ _ _)

/-! ### two places -/
abbrev S2 := DV → DV → List MO → Cn → Prop
def Stp (X : Cx) (ρ : RO) (w : Wd) (σ : L2.St) (R : Cn) (Q : VK) : Prop := ∀ v d α' μ' H', R d μ' → En ⟨X.K, α', μ', H'⟩ σ ρ → Kp w ⟨X.K, α', μ', H'⟩ → Has ⟨X.K, α', μ', H'⟩ v d → Q v H'
def R2S (X : Cx) (r : R2) (S : S2) : Prop := ∀ (α : List Addr) (μ : List MO) (H : Hp) (σ : L2.St) (ρ : RO) (x y : V) (da db : DV) (R : Cn) (Q : VK), En ⟨X.K, α, μ, H⟩ σ ρ → Has ⟨X.K, α, μ, H⟩ x da → Has ⟨X.K, α, μ, H⟩ y db → S da db μ R → Stp X ρ ⟨X.K, α, μ, H⟩ σ R Q → r x y H Q
theorem tOp_S {r : R2} {S : S2} {R : Cn} (k : R2S X r S) (h : Ev X a ρ μ fun da μ1 => Ev X b ρ μ1 fun db μ2 => S da db μ2 R) (σ : L2.St) (H : Hp) (Q : VK) (q : tEv X ρ μ R σ H Q) : tOp r (aE X a) (aE X b) σ H Q := by
  obtain ⟨α, E, q⟩ := q
  exact ⟨_, h, α, E, fun x da α1 μ1 H1 h1 E1 X1 hx => ⟨_, h1, α1, E1, fun y db α2 μ2 H2 h2 E2 X2 hy =>
    k α2 μ2 H2 σ ρ x y da db R Q E2 (X2.has hx) hy h2 fun v d α' μ' H' r' E' X' hv => q v d α' μ' H' r' E' (X1.trans (X2.trans X')) hv⟩⟩
theorem Ev.op {op : Operator} {R : Cn} {r : R2} {S : S2} (hr : OpR X (binaryOp op) r) (k : R2S X r S) (h : Ev X a ρ μ fun da μ1 => Ev X b ρ μ1 fun db μ2 => S da db μ2 R) : Ev X (.BinOp a op b pos) ρ μ R :=
  PEw (pe_op hr pe_a pe_a) (tOp_S k h)
theorem Ev.cmp {op : CmpOp} {R : Cn} {r : R2} {S : S2} (hr : OpR X (compareOp op) r) (k : R2S X r S) (hm : behindInMarks op b = false) (h : Ev X a ρ μ fun da μ1 => Ev X b ρ μ1 fun db μ2 => S da db μ2 R) : Ev X (.Compare a [op] [b] pos) ρ μ R :=
  PEw (pe_cmpR hr pe_a pe_a hm) (tOp_S k h)
theorem Ev.ix {R : Cn} {r : R2} {S : S2} (hr : IxR X r) (k : R2S X r S) (hs : PlainIx b) (h : Ev X a ρ μ fun da μ1 => Ev X b ρ μ1 fun db μ2 => S da db μ2 R) : Ev X (.Subscript a b pos) ρ μ R :=
  PEw (pe_ix hr pe_a pe_a hs) (tOp_S k h)
/-! ### the steps -/
theorem Stp.sc {α : List Addr} {H : Hp} {σ : L2.St} {R : Cn} {Q : VK} (E : En ⟨X.K, α, μ, H⟩ σ ρ) (q : Stp X ρ ⟨X.K, α, μ, H⟩ σ R Q) {v : V} {d : DV} (hR : R d μ) (hv : Has ⟨X.K, α, μ, H⟩ v d) : Q v H := q v d α μ H hR E E.live.refl hv
def sI (C : Int → Int → Prop) (g : Int → Int → DV) : S2 := fun x y μ R => ∃ i j, x = .int i ∧ y = .int j ∧ C i j ∧ R (g i j) μ
def sI0 (g : Int → Int → DV) : S2 := fun x y μ R => ∃ i j, x = .int i ∧ y = .int j ∧ R (g i j) μ
theorem rI_S {C : Int → Int → Prop} {g : Int → Int → V} {g' : Int → Int → DV} (hg : ∀ w i j, Has w (g i j) (g' i j)) : R2S X (rI C g) (sI C g') := fun α μ H σ ρ x y da db R Q E hx hy h q => by
  obtain ⟨i, j, rfl, rfl, c, hR⟩ := h
  cases hx
  cases hy
  exact ⟨i, j, rfl, rfl, c, q.sc E hR (hg _ _ _)⟩
theorem rI0_S {g : Int → Int → V} {g' : Int → Int → DV} (hg : ∀ w i j, Has w (g i j) (g' i j)) : R2S X (rI0 g) (sI0 g') := fun α μ H σ ρ x y da db R Q E hx hy h q => by
  obtain ⟨i, j, rfl, rfl, hR⟩ := h
  cases hx
  cases hy
  exact ⟨i, j, rfl, rfl, q.sc E hR (hg _ _ _)⟩
def sAdd : S2 := fun x y μ R => ∃ i j, x = .int i ∧ y = .int j ∧ R (.int (i + j)) μ
def sSub : S2 := fun x y μ R => ∃ i j, x = .int i ∧ y = .int j ∧ R (.int (i - j)) μ
def sMul : S2 := fun x y μ R => ∃ i j, x = .int i ∧ y = .int j ∧ CMulW i j ∧ R (.int (i * j)) μ
def sMod : S2 := fun x y μ R => ∃ i j, x = .int i ∧ y = .int j ∧ j ≠ 0 ∧ R (.int (i.fmod j)) μ
def sDiv : S2 := fun x y μ R => ∃ i j, x = .int i ∧ y = .int j ∧ CDivW i j ∧ R (.int (i / j)) μ
def sPow : S2 := fun x y μ R => ∃ i j, x = .int i ∧ y = .int j ∧ CPow i j ∧ R (.int (i ^ j.toNat)) μ
def sLt : S2 := fun x y μ R => ∃ i j, x = .int i ∧ y = .int j ∧ R (.bl (decide (i < j))) μ
def sLe : S2 := fun x y μ R => ∃ i j, x = .int i ∧ y = .int j ∧ R (.bl (decide (i ≤ j))) μ
def sGt : S2 := fun x y μ R => ∃ i j, x = .int i ∧ y = .int j ∧ R (.bl (decide (j < i))) μ
def sGe : S2 := fun x y μ R => ∃ i j, x = .int i ∧ y = .int j ∧ R (.bl (decide (j ≤ i))) μ
theorem Ev.sub {R : Cn} (h : Ev X a ρ μ fun da μ1 => Ev X b ρ μ1 fun db μ2 => sSub da db μ2 R) : Ev X (.BinOp a .Sub b pos) ρ μ R := .op op_sub (rI0_S fun _ _ _ => .int) h
theorem Ev.addI {R : Cn} (h : Ev X a ρ μ fun da μ1 => Ev X b ρ μ1 fun db μ2 => sAdd da db μ2 R) : Ev X (.BinOp a .Add b pos) ρ μ R := .op op_add (rI0_S fun _ _ _ => .int) h
theorem Ev.mul {R : Cn} (h : Ev X a ρ μ fun da μ1 => Ev X b ρ μ1 fun db μ2 => sMul da db μ2 R) : Ev X (.BinOp a .Mult b pos) ρ μ R := .op op_mulW (rI_S fun _ _ _ => .int) h
theorem Ev.mod {R : Cn} (h : Ev X a ρ μ fun da μ1 => Ev X b ρ μ1 fun db μ2 => sMod da db μ2 R) : Ev X (.BinOp a .Mod b pos) ρ μ R := .op op_modN (rI_S fun _ _ _ => .int) h
theorem Ev.fdiv {R : Cn} (h : Ev X a ρ μ fun da μ1 => Ev X b ρ μ1 fun db μ2 => sDiv da db μ2 R) : Ev X (.BinOp a .FloorDiv b pos) ρ μ R := .op op_fdivW (rI_S fun _ _ _ => .int) h
theorem Ev.pow {R : Cn} (h : Ev X a ρ μ fun da μ1 => Ev X b ρ μ1 fun db μ2 => sPow da db μ2 R) : Ev X (.BinOp a .Pow b pos) ρ μ R := .op op_pow (rI_S fun _ _ _ => .int) h
theorem Ev.lt {R : Cn} (h : Ev X a ρ μ fun da μ1 => Ev X b ρ μ1 fun db μ2 => sLt da db μ2 R) : Ev X (.Compare a [.Lt] [b] pos) ρ μ R := .cmp op_lt (rI0_S fun _ _ _ => .bl) (nomark _) h
theorem Ev.le {R : Cn} (h : Ev X a ρ μ fun da μ1 => Ev X b ρ μ1 fun db μ2 => sLe da db μ2 R) : Ev X (.Compare a [.LtE] [b] pos) ρ μ R := .cmp op_le (rI0_S fun _ _ _ => .bl) (nomark _) h
theorem Ev.gt {R : Cn} (h : Ev X a ρ μ fun da μ1 => Ev X b ρ μ1 fun db μ2 => sGt da db μ2 R) : Ev X (.Compare a [.Gt] [b] pos) ρ μ R := .cmp op_gt (rI0_S fun _ _ _ => .bl) (nomark _) h
theorem Ev.ge {R : Cn} (h : Ev X a ρ μ fun da μ1 => Ev X b ρ μ1 fun db μ2 => sGe da db μ2 R) : Ev X (.Compare a [.GtE] [b] pos) ρ μ R := .cmp op_ge (rI0_S fun _ _ _ => .bl) (nomark _) h
/-- == of flat things -/
def DV.flat : DV → Option V
  | .non => some .non
  | .bl b => some (.bl b)
  | .int i => some (.int i)
  | .str x => some (.str x)
  | _ => none
theorem flat_has {w : Wd} {v z : V} {d : DV} (h : Has w v d) (e : DV.flat d = some z) : v = z := by
  cases h <;> (first | (cases e; rfl) | (cases e))
def sEq : S2 := fun x y μ R => ∃ u v, DV.flat x = some u ∧ DV.flat y = some v ∧ scal u v = true ∧ R (.bl (decide (u = v))) μ
def sNe : S2 := fun x y μ R => ∃ u v, DV.flat x = some u ∧ DV.flat y = some v ∧ scal u v = true ∧ R (.bl (!decide (u = v))) μ
theorem rEq_S : R2S X rEq sEq := fun α μ H σ ρ x y da db R Q E hx hy h q => by
  obtain ⟨u, v, e1, e2, c, hR⟩ := h
  cases flat_has hx e1
  cases flat_has hy e2
  exact ⟨c, q.sc E hR .bl⟩
theorem rNe_S : R2S X rNe sNe := fun α μ H σ ρ x y da db R Q E hx hy h q => by
  obtain ⟨u, v, e1, e2, c, hR⟩ := h
  cases flat_has hx e1
  cases flat_has hy e2
  exact ⟨c, q.sc E hR .bl⟩
theorem Ev.eq {R : Cn} (h : Ev X a ρ μ fun da μ1 => Ev X b ρ μ1 fun db μ2 => sEq da db μ2 R) : Ev X (.Compare a [.Eq] [b] pos) ρ μ R := .cmp op_eq rEq_S (nomark _) h
theorem Ev.ne {R : Cn} (h : Ev X a ρ μ fun da μ1 => Ev X b ρ μ1 fun db μ2 => sNe da db μ2 R) : Ev X (.Compare a [.NotEq] [b] pos) ρ μ R := .cmp op_ne rNe_S (nomark _) h
end
end
end Eg

namespace Eg
open PySem PySem.Spec L2
theorem HasL.length {w : Wd} : ∀ {vs : List V} {ds : List DV}, HasL w vs ds → vs.length = ds.length
  | _, _, .nil => rfl
  | _, _, .cons _ t => by rw [List.length_cons, List.length_cons, HasL.length t]
theorem HasL.get {w : Wd} : ∀ {vs : List V} {ds : List DV} {i : Nat} {d : DV}, HasL w vs ds → ds[i]? = some d → ∃ v, vs[i]? = some v ∧ Has w v d
  | _, _, i, d, .nil, e => by simp at e
  | _, _, 0, d, .cons h _, e => by simp at e; subst e; exact ⟨_, rfl, h⟩
  | _, _, i + 1, d, .cons _ t, e => by
    obtain ⟨v, h1, h2⟩ := HasL.get (i := i) t (by simpa using e)
    exact ⟨v, by simpa using h1, h2⟩
theorem HasL.gett {w : Wd} : ∀ {vs : List V} {ds : List DV} {i : Nat} {v : V}, HasL w vs ds → vs[i]? = some v → ∃ d, ds[i]? = some d ∧ Has w v d
  | _, _, i, d, .nil, e => by simp at e
  | _, _, 0, d, .cons h _, e => by simp at e; subst e; exact ⟨_, rfl, h⟩
  | _, _, i + 1, d, .cons _ t, e => by
    obtain ⟨v, h1, h2⟩ := HasL.gett (i := i) t (by simpa using e)
    exact ⟨v, by simpa using h1, h2⟩
theorem HasL.app {w : Wd} : ∀ {vs us : List V} {ds es : List DV}, HasL w vs ds → HasL w us es → HasL w (vs ++ us) (ds ++ es)
  | _, _, _, _, .nil, s => s
  | _, _, _, _, .cons h t, s => .cons h (HasL.app t s)
theorem HasL.take {w : Wd} : ∀ {vs : List V} {ds : List DV} (n : Nat), HasL w vs ds → HasL w (vs.take n) (ds.take n)
  | _, _, 0, _ => .nil
  | _, _, _ + 1, .nil => .nil
  | _, _, n + 1, .cons h t => .cons h (HasL.take n t)
theorem HasL.drop {w : Wd} : ∀ {vs : List V} {ds : List DV} (n : Nat), HasL w vs ds → HasL w (vs.drop n) (ds.drop n)
  | _, _, 0, r => r
  | _, _, _ + 1, .nil => .nil
  | _, _, n + 1, .cons _ t => HasL.drop n t
theorem HasL.set {w : Wd} {v : V} {d : DV} (h : Has w v d) : ∀ {vs : List V} {ds : List DV} (i : Nat), HasL w vs ds → HasL w (vs.set i v) (ds.set i d)
  | _, _, _, .nil => .nil
  | _, _, 0, .cons _ t => .cons h t
  | _, _, i + 1, .cons q t => .cons q (HasL.set h i t)
/-- the items of what is read as a list or a tuple -/
def itemsD (μ : List MO) : DV → Option (List DV)
  | .tup ds => some ds
  | .lst ds => some ds
  | .mu k => match μ[k]? with
    | some (.lst ds) => some ds
    | _ => none
  | _ => none
section
variable {X : Cx} {e a b c : Expr} {es : List Expr} {ρ : RO} {μ : List MO} {pos : Pos}
/-- what is read as a list or tuple -/
theorem seq_of {w : Wd} {v : V} {d : DV} {ds : List DV} (l : Live w) (h : Has w v d) (e : itemsD w.μ d = some ds) : ∃ p vs, v = .ref p ∧ HasL w vs ds ∧ (SqL w.K w.H p vs ∨ SqT w.K w.H p vs) := by
  cases h with
  | tup h1 t => cases e; exact ⟨_, _, rfl, t, .inr h1⟩
  | lst r t =>
    cases e
    rcases r with ⟨_, r⟩ | r
    · exact ⟨_, _, rfl, t, .inl (.inl r)⟩
    · exact ⟨_, _, rfl, t, .inl r.sq⟩
  | @mu k a h1 =>
    have e' : (match w.μ[k]? with | some (.lst ds) => some ds | _ => none) = some ds := e
    split at e'
    · rename_i ds' hk
      cases e'
      obtain ⟨vs, q1, q2⟩ := l.ob k a _ h1 hk
      exact ⟨a, vs, rfl, q2, .inl (.of q1)⟩
    · cases e'
  | _ => cases e
def sIx : S2 := fun x y μ R => (∃ ds i d, itemsD μ x = some ds ∧ y = .int i ∧ atI ds i = some d ∧ R d μ) ∨ ∃ z i c, x = .str z ∧ y = .int i ∧ z.length ≤ sizeLine ∧ atI z.cps.toList i = some c ∧ R (.str ⟨#[c]⟩) μ
theorem at_has {w : Wd} {vs : List V} {ds : List DV} {i : Int} {d : DV} (h : HasL w vs ds) (e : atI ds i = some d) : ∃ v, atI vs i = some v ∧ Has w v d := by
  unfold atI at e ⊢
  rw [h.length]
  cases q : ixN ds.length i with
  | none => rw [q] at e; cases e
  | some j =>
    rw [q] at e
    exact h.get e
theorem rIx_S : R2S X (rIx X.K) sIx := fun α μ H σ ρ x y da db R Q E hx hy h q => by
  rcases h with ⟨ds, i, d, h1, rfl, h2, hR⟩ | ⟨z, i, c, rfl, rfl, h1, h2, hR⟩
  · obtain ⟨p, vs, rfl, hl, s⟩ := seq_of E.live hx h1
    cases hy
    obtain ⟨v, e1, e2⟩ := at_has hl h2
    rcases s with s | s
    · exact .inl ⟨p, vs, i, v, rfl, rfl, s, e1, q.sc E hR e2⟩
    · exact .inr (.inl ⟨p, vs, i, v, rfl, rfl, s, e1, q.sc E hR e2⟩)
  · cases hx
    cases hy
    exact .inr (.inr ⟨z, i, c, rfl, rfl, h1, h2, q.sc E hR .str⟩)
theorem Ev.at {R : Cn} (h : Ev X a ρ μ fun da μ1 => Ev X b ρ μ1 fun db μ2 => sIx da db μ2 R) (hs : PlainIx b := by intro _ _; rfl) : Ev X (.Subscript a b pos) ρ μ R := .ix ix_seq rIx_S hs h
/-! ### arguments -/
theorem EvA.nil {R : Ca} (h : R [] μ) : EvA X [] ρ μ R := PAw pa_nil fun σ H Q ⟨α, E, q⟩ => q [] [] α μ H h E E.live.refl .nil
theorem EvA.cons {R : Ca} (h : Ev X e ρ μ fun d μ1 => EvA X es ρ μ1 fun ds μ2 => R (d :: ds) μ2) (hs : starEach (e :: es) X.env = (false, eval e X.env) :: starEach es X.env := by rfl) : EvA X (e :: es) ρ μ R :=
  PAw (pa_cons pe_a pa_a hs) fun σ H Q ⟨α, E, q⟩ => ⟨_, h, α, E, fun v d α1 μ1 H1 h1 E1 X1 hv => ⟨_, h1, α1, E1, fun vs ds α2 μ2 H2 h2 E2 X2 hvs => q _ _ α2 μ2 H2 h2 E2 (X1.trans X2) (.cons (X2.has hv) hvs)⟩⟩
/-! ### displays -/
theorem Ev.tup {R : Cn} {x1} (h : EvA X es ρ μ fun ds μ1 => ds.length ≤ sizeLine ∧ R (.tup ds) μ1) : Ev X (.Tuple es x1 pos) ρ μ R :=
  PEw (pe_tup pa_a) fun σ H Q ⟨α, E, q⟩ => ⟨_, h, α, E, fun vs ds α1 μ1 H1 ⟨h0, h1⟩ E1 X1 hv => ⟨by rw [hv.length]; exact h0, fun p np => by
    obtain ⟨k, l⟩ := E1.live.lay (o := .tup vs) np
    exact q _ _ α1 μ1 _ h1 (E1.ext k l) (X1.trans k) (.tup (.of upd_same) (k.hasL hv))⟩⟩
theorem Ev.lst {R : Cn} (h : EvA X es ρ μ fun ds μ1 => ds.length ≤ sizeLine ∧ R (.lst ds) μ1) : Ev X (.List es pos) ρ μ R :=
  PEw (pe_lst pa_a) fun σ H Q ⟨α, E, q⟩ => ⟨_, h, α, E, fun vs ds α1 μ1 H1 ⟨h0, h1⟩ E1 X1 hv => ⟨by rw [hv.length]; exact h0, fun p np => by
    obtain ⟨k, l⟩ := E1.live.lay (o := .lst vs) np
    exact q _ _ α1 μ1 _ h1 (E1.ext k l) (X1.trans k) (.lst (.inl ⟨E1.live.fresh np, .inl upd_same⟩) (k.hasL hv))⟩⟩
theorem Ev.lstM {R : Cn} (h : EvA X es ρ μ fun ds μ1 => ds.length ≤ sizeLine ∧ R (.mu μ1.length) (μ1 ++ [.lst ds])) : Ev X (.List es pos) ρ μ R :=
  PEw (pe_lst pa_a) fun σ H Q ⟨α, E, q⟩ => ⟨_, h, α, E, fun vs ds α1 μ1 H1 ⟨h0, h1⟩ E1 X1 hv => ⟨by rw [hv.length]; exact h0, fun p np => by
    obtain ⟨k, l, e⟩ := E1.live.layM (o := .lst vs) (m := .lst ds) np (fun _ k => ⟨vs, upd_same, k.hasL hv⟩)
    exact q _ _ _ _ _ h1 (E1.ext k l) (X1.trans k) (.mu e)⟩⟩
theorem Ev.dic0 {R : Cn} (h : R (.dic []) μ) : Ev X (.Dict [] [] pos) ρ μ R :=
  PEw pe_dnewK fun σ H Q ⟨α, E, q⟩ => fun p np => by
    obtain ⟨k, l⟩ := E.live.lay (o := .dK []) np
    exact q _ _ α μ _ h (E.ext k l) k (.dic (E.live.fresh np) upd_same .nil)
theorem Ev.dic0M {R : Cn} (h : R (.mu μ.length) (μ ++ [.dic []])) : Ev X (.Dict [] [] pos) ρ μ R :=
  PEw pe_dnewK fun σ H Q ⟨α, E, q⟩ => fun p np => by
    obtain ⟨k, l, e⟩ := E.live.layM (o := .dK []) (m := .dic []) np (fun _ k => ⟨[], upd_same, .nil⟩)
    exact q _ _ _ _ _ h (E.ext k l) k (.mu e)
/-! ### calls of built-ins by values -/
abbrev SA := List DV → List MO → Cn → Prop
def RaS (X : Cx) (r : List V → Hp → VK → Prop) (S : SA) : Prop := ∀ (α : List Addr) (μ : List MO) (H : Hp) (σ : L2.St) (ρ : RO) (vs : List V) (ds : List DV) (R : Cn) (Q : VK), En ⟨X.K, α, μ, H⟩ σ ρ → HasL ⟨X.K, α, μ, H⟩ vs ds → S ds μ R → Stp X ρ ⟨X.K, α, μ, H⟩ σ R Q → r vs H Q
theorem tCB_S {r : List V → Hp → VK → Prop} {S : SA} {R : Cn} (k : RaS X r S) (h : EvA X es ρ μ fun ds μ1 => S ds μ1 R) (σ : L2.St) (H : Hp) (Q : VK) (q : tEv X ρ μ R σ H Q) : tCB r (aA X es) σ H Q := by
  obtain ⟨α, E, q⟩ := q
  exact ⟨_, h, α, E, fun vs ds α1 μ1 H1 h1 E1 X1 hv => k α1 μ1 H1 σ ρ vs ds R Q E1 hv h1 fun v d α' μ' H' r' E' X' hv => q v d α' μ' H' r' E' (X1.trans X') hv⟩
theorem Ev.callB {R : Cn} {x : Str} {p : Pos} {id : String} {r : List V → Hp → VK → Prop} {S : SA} (hc : CallR X (.builtin id) r) (k : RaS X r S) (hg : Gl X x) (hm : X.mg x = none) (hv : bootBuiltins x = some (.builtin id)) (h : EvA X (e :: es) ρ μ fun ds μ1 => S ds μ1 R) (hn : x ≠ "__name__" := by decide) (hdb : (x == ("__debug__" : Str)) = false := by decide)
    (he : starEach (e :: es) X.env = (false, eval e X.env) :: starEach es X.env := by rfl) (hpl : (backTo pos (starEach es X.env)).any (·.1) = false := by rfl) : Ev X (.Call (.Name x p) (e :: es) [] pos) ρ μ R := PEw (pe_callB hc hg hm hv pa_a hn hdb he hpl) (tCB_S k h)
theorem Ev.callTy {R : Cn} {x : Str} {p : Pos} {T : String} {r : List V → Hp → VK → Prop} {S : SA} (hc : CallR X (.type T) r) (k : RaS X r S) (hg : Gl X x) (hm : X.mg x = none) (hv : bootBuiltins x = some (.type T)) (h : EvA X (e :: es) ρ μ fun ds μ1 => S ds μ1 R) (hn : x ≠ "__name__" := by decide) (hdb : (x == ("__debug__" : Str)) = false := by decide)
    (he : starEach (e :: es) X.env = (false, eval e X.env) :: starEach es X.env := by rfl) (hpl : (backTo pos (starEach es X.env)).any (·.1) = false := by rfl) : Ev X (.Call (.Name x p) (e :: es) [] pos) ρ μ R := PEw (pe_callTy hc hg hm hv pa_a hn hdb he hpl) (tCB_S k h)
def lenD (μ : List MO) (d : DV) : Option Nat := match d with
  | .str y => if y.length ≤ sizeLine then some y.length else none
  | d => (itemsD μ d).map List.length
theorem hasL1 {w : Wd} {vs : List V} {d : DV} (h : HasL w vs [d]) : ∃ v, vs = [v] ∧ Has w v d := by
  cases h with
  | cons h t => cases t; exact ⟨_, rfl, h⟩
theorem hasL2 {w : Wd} {vs : List V} {d e : DV} (h : HasL w vs [d, e]) : ∃ v u, vs = [v, u] ∧ Has w v d ∧ Has w u e := by
  cases h with
  | cons h t =>
    obtain ⟨u, rfl, h2⟩ := hasL1 t
    exact ⟨_, u, rfl, h, h2⟩
def sLen : SA := fun ds μ R => ∃ d n, ds = [d] ∧ lenD μ d = some n ∧ R (.int n) μ
theorem len_S : RaS X (fun xs H Q => ∃ x n, xs = [x] ∧ LenV X.K x H n ∧ Q (.int n) H) sLen := fun α μ H σ ρ vs ds R Q E hv h q => by
  obtain ⟨d, n, rfl, e, hR⟩ := h
  obtain ⟨v, rfl, hw⟩ := hasL1 hv
  clear hv
  have hv := hw
  refine ⟨v, n, rfl, ?_, q.sc E hR .int⟩
  have gen : (itemsD μ d).map List.length = some n → LenV X.K v H n := fun e => by
    obtain ⟨ds, e1, e2⟩ := Option.map_eq_some_iff.mp e
    obtain ⟨p, vs, rfl, hl, s⟩ := seq_of E.live hv e1
    rcases s with s | s
    · exact .inl ⟨vs, s, by rw [hl.length, e2]⟩
    · exact .inr ⟨vs, s, by rw [hl.length, e2]⟩
  cases d with
  | str y =>
    cases hv
    unfold lenD at e
    dsimp only at e
    split at e
    · rename_i hz
      show y.length ≤ sizeLine ∧ n = y.length
      exact ⟨hz, (Option.some.inj e).symm⟩
    · cases e
  | _ => exact gen e
theorem Ev.len {R : Cn} {p : Pos} (hg : Gl X "len") (hm : X.mg "len" = none) (h : EvA X [e] ρ μ fun ds μ1 => sLen ds μ1 R) (he : starEach [e] X.env = (false, eval e X.env) :: starEach [] X.env := by rfl) :
    Ev X (.Call (.Name "len" p) [e] [] pos) ρ μ R := .callB call_len len_S hg hm boot_len h (by decide) (by decide) he rfl
def sInt : SA := fun ds μ R => (∃ i, ds = [.int i] ∧ R (.int i) μ) ∨ ∃ k, ds = [.bl k] ∧ R (.int (if k then 1 else 0)) μ
theorem int_S : RaS X (fun xs H Q => (∃ i, xs = [.int i] ∧ Q (.int i) H) ∨ ∃ k, xs = [.bl k] ∧ Q (.int (if k then 1 else 0)) H) sInt := fun α μ H σ ρ vs ds R Q E hv h q => by
  rcases h with ⟨i, rfl, hR⟩ | ⟨i, rfl, hR⟩
  · obtain ⟨v, rfl, hw⟩ := hasL1 hv
    clear hv
    have hv := hw
    cases hv
    exact .inl ⟨i, rfl, q.sc E hR .int⟩
  · obtain ⟨v, rfl, hw⟩ := hasL1 hv
    clear hv
    have hv := hw
    cases hv
    exact .inr ⟨i, rfl, q.sc E hR .int⟩
theorem Ev.toInt {R : Cn} {p : Pos} (hg : Gl X "int") (hm : X.mg "int" = none) (h : EvA X [e] ρ μ fun ds μ1 => sInt ds μ1 R) (he : starEach [e] X.env = (false, eval e X.env) :: starEach [] X.env := by rfl) :
    Ev X (.Call (.Name "int" p) [e] [] pos) ρ μ R := .callTy call_int1 int_S hg hm PyProof.Rows.boot_int h (by decide) (by decide) he rfl
def sAbs : SA := fun ds μ R => ∃ i, ds = [.int i] ∧ R (.int (if i < 0 then -i else i)) μ
theorem abs_S : RaS X (fun xs H Q => ∃ i, xs = [.int i] ∧ Q (.int (if i < 0 then -i else i)) H) sAbs := fun α μ H σ ρ vs ds R Q E hv h q => by
  obtain ⟨i, rfl, hR⟩ := h
  obtain ⟨v, rfl, hw⟩ := hasL1 hv
  clear hv
  have hv := hw
  cases hv
  exact ⟨i, rfl, q.sc E hR .int⟩
theorem Ev.abs {R : Cn} {p : Pos} (hg : Gl X "abs") (hm : X.mg "abs" = none) (h : EvA X [e] ρ μ fun ds μ1 => sAbs ds μ1 R) (he : starEach [e] X.env = (false, eval e X.env) :: starEach [] X.env := by rfl) :
    Ev X (.Call (.Name "abs" p) [e] [] pos) ρ μ R := .callB call_abs abs_S hg hm PyProof.Rows.boot_abs h (by decide) (by decide) he rfl
def sMM (g : Int → Int → Int) : SA := fun ds μ R => ∃ i j, ds = [.int i, .int j] ∧ R (.int (g i j)) μ
theorem mm_S {g : Int → Int → Int} : RaS X (fun xs H Q => ∃ i j, xs = [.int i, .int j] ∧ Q (.int (g i j)) H) (sMM g) := fun α μ H σ ρ vs ds R Q E hv h q => by
  obtain ⟨i, j, rfl, hR⟩ := h
  obtain ⟨v, u, rfl, hw, hu⟩ := hasL2 hv
  clear hv
  have hv := hw
  cases hv
  cases hu
  exact ⟨i, j, rfl, q.sc E hR .int⟩
theorem Ev.max2 {R : Cn} {p : Pos} (hc : X.calm = true) (hg : Gl X "max") (hm : X.mg "max" = none) (h : EvA X [a, b] ρ μ fun ds μ1 => sMM (fun i j => if j > i then j else i) ds μ1 R) (he : starEach [a, b] X.env = (false, eval a X.env) :: starEach [b] X.env := by rfl) (hpl : (backTo pos (starEach [b] X.env)).any (·.1) = false := by rfl) :
    Ev X (.Call (.Name "max" p) [a, b] [] pos) ρ μ R := .callB (call_max2 hc) mm_S hg hm PyProof.Rows.boot_max h (by decide) (by decide) he hpl
theorem Ev.min2 {R : Cn} {p : Pos} (hc : X.calm = true) (hg : Gl X "min") (hm : X.mg "min" = none) (h : EvA X [a, b] ρ μ fun ds μ1 => sMM (fun i j => if j < i then j else i) ds μ1 R) (he : starEach [a, b] X.env = (false, eval a X.env) :: starEach [b] X.env := by rfl) (hpl : (backTo pos (starEach [b] X.env)).any (·.1) = false := by rfl) :
    Ev X (.Call (.Name "min" p) [a, b] [] pos) ρ μ R := .callB (call_min2 hc) mm_S hg hm PyProof.Rows.boot_min h (by decide) (by decide) he hpl
def sDivmod : SA := fun ds μ R => ∃ i j, ds = [.int i, .int j] ∧ CDiv i j ∧ R (.tup [.int (i / j), .int (i % j)]) μ
theorem divmod_S : RaS X (fun xs H Q => ∃ i j, xs = [.int i, .int j] ∧ CDiv i j ∧ ∀ p, H p = none → Q (.ref p) (upd H p (.tup [.int (i / j), .int (i % j)]))) sDivmod := fun α μ H σ ρ vs ds R Q E hv h q => by
  obtain ⟨i, j, rfl, c, hR⟩ := h
  obtain ⟨v, u, rfl, hw, hu⟩ := hasL2 hv
  clear hv
  have hv := hw
  cases hv
  cases hu
  refine ⟨i, j, rfl, c, fun p np => ?_⟩
  obtain ⟨k, l⟩ := E.live.lay (o := .tup [.int (i / j), .int (i % j)]) np
  exact q _ _ α μ _ hR (E.ext k l) k (.tup (.of upd_same) (.cons .int (.cons .int .nil)))
theorem Ev.divmod {R : Cn} {p : Pos} (hg : Gl X "divmod") (hm : X.mg "divmod" = none) (h : EvA X [a, b] ρ μ fun ds μ1 => sDivmod ds μ1 R) (he : starEach [a, b] X.env = (false, eval a X.env) :: starEach [b] X.env := by rfl) (hpl : (backTo pos (starEach [b] X.env)).any (·.1) = false := by rfl) :
    Ev X (.Call (.Name "divmod" p) [a, b] [] pos) ρ μ R := .callB call_divmod divmod_S hg hm PyProof.Rows.boot_divmod h (by decide) (by decide) he hpl
/-- tuple(xs) -/
def sTuple : SA := fun ds μ R => ∃ d xs, ds = [d] ∧ itemsD μ d = some xs ∧ R (.tup xs) μ
theorem tuple_S : RaS X (fun xs H Q => ∃ p ys, xs = [.ref p] ∧ ((SqL X.K H p ys ∧ ∀ l, H l = none → Q (.ref l) (upd H l (.tup ys))) ∨ (SqT X.K H p ys ∧ Q (.ref p) H))) sTuple := fun α μ H σ ρ vs ds R Q E hv h q => by
  obtain ⟨d, xs, rfl, e, hR⟩ := h
  obtain ⟨v, rfl, hw⟩ := hasL1 hv
  clear hv
  have hv := hw
  obtain ⟨p, vs, rfl, hl, s⟩ := seq_of E.live hv e
  refine ⟨p, vs, rfl, ?_⟩
  rcases s with s | s
  · refine .inl ⟨s, fun l nl => ?_⟩
    obtain ⟨k, l⟩ := E.live.lay (o := .tup vs) nl
    exact q _ _ α μ _ hR (E.ext k l) k (.tup (.of upd_same) (k.hasL hl))
  · exact .inr ⟨s, q.sc E hR (.tup s hl)⟩
theorem Ev.tuple {R : Cn} {p : Pos} (hg : Gl X "tuple") (hm : X.mg "tuple" = none) (h : EvA X [e] ρ μ fun ds μ1 => sTuple ds μ1 R) (he : starEach [e] X.env = (false, eval e X.env) :: starEach [] X.env := by rfl) :
    Ev X (.Call (.Name "tuple" p) [e] [] pos) ρ μ R := .callTy call_tuple_of tuple_S hg hm PyProof.Rows.boot_tuple h (by decide) (by decide) he rfl
/-- all of a list of truths -/
def blD : DV → Option Bool
  | .bl b => some b
  | _ => none
theorem bls_has {w : Wd} : ∀ {vs : List V} {bs : List Bool}, HasL w vs (bs.map DV.bl) → vs = bs.map V.bl
  | _, [], .nil => rfl
  | _, b :: bs, .cons h t => by
    cases h
    rw [List.map_cons, bls_has t]
def sAll : SA := fun ds μ R => ∃ d bs, ds = [d] ∧ itemsD μ d = some (List.map DV.bl bs) ∧ (∀ xs, d ≠ .tup xs) ∧ R (.bl (bs.all id)) μ
theorem all_S : RaS X (rAll X.K) sAll := fun α μ H σ ρ vs ds R Q E hv h q => by
  obtain ⟨d, bs, rfl, e, nt, hR⟩ := h
  obtain ⟨v, rfl, hw⟩ := hasL1 hv
  clear hv
  have hv := hw
  have : ∃ p vs, v = .ref p ∧ HasL ⟨X.K, α, μ, H⟩ vs (bs.map DV.bl) ∧ SqL X.K H p vs := by
    cases hv with
    | tup h1 t => exact absurd rfl (nt _)
    | lst r t =>
      cases e
      rcases r with ⟨_, r⟩ | r
      · exact ⟨_, _, rfl, t, .inl r⟩
      · exact ⟨_, _, rfl, t, r.sq⟩
    | @mu k a h1 =>
      have e' : (match μ[k]? with | some (.lst ds) => some ds | _ => none) = some (List.map DV.bl bs) := e
      split at e'
      · rename_i ds' hk
        cases e'
        obtain ⟨vs, q1, q2⟩ := E.live.ob k a _ h1 hk
        exact ⟨a, vs, rfl, q2, .of q1⟩
      · cases e'
    | _ => cases e
  obtain ⟨p, vs, rfl, hl, s⟩ := this
  have ev := bls_has hl
  subst ev
  exact ⟨p, bs, rfl, s, q.sc E hR .bl⟩
theorem Ev.all {R : Cn} {p : Pos} (hc : X.calm = true) (hg : Gl X "all") (hm : X.mg "all" = none) (h : EvA X [e] ρ μ fun ds μ1 => sAll ds μ1 R) (he : starEach [e] X.env = (false, eval e X.env) :: starEach [] X.env := by rfl) :
    Ev X (.Call (.Name "all" p) [e] [] pos) ρ μ R := .callB (cr_all hc) all_S hg hm PyProof.Rows.boot_all h (by decide) (by decide) he rfl
/-! ### tests -/
theorem EvT.val {R : Ct} (h : Ev X e ρ μ fun d μ1 => ∃ k, d = .bl k ∧ R k μ1) (he : ∀ whole, isTrue e X.env whole = (do let v ← whole; standAt e.pos; holding [v] (truthy v)) := by intro _; rfl) : EvT X e ρ μ R :=
  PTw (pt_val pe_a he) fun σ H Q ⟨α, E, q⟩ => ⟨_, h, α, E, fun v d α1 μ1 H1 ⟨k, e, h1⟩ E1 X1 hv => by
    subst e
    cases hv
    exact ⟨k, rfl, q k α1 μ1 H1 h1 E1 X1⟩⟩
theorem EvT.not {R : Ct} (h : EvT X a ρ μ fun b μ1 => R (!b) μ1) : EvT X (.UnaryOp .Not a pos) ρ μ R :=
  PTw (pt_not pt_a) fun σ H Q ⟨α, E, q⟩ => ⟨_, h, α, E, fun b α1 μ1 H1 h1 E1 X1 => q _ α1 μ1 H1 h1 E1 X1⟩
theorem EvT.w {R : Ct} (h : EvW X e ρ μ R) : EvT X e ρ μ R := PW.pt h
theorem EvW.and1 {R : Ct} (h : EvT X a ρ μ R) : EvW X (.BoolOp .And [a] pos) ρ μ R := pw_and1 h
theorem EvW.or1 {R : Ct} (h : EvT X a ρ μ R) : EvW X (.BoolOp .Or [a] pos) ρ μ R := pw_or1 h
theorem EvW.and {rest : List Expr} {R : Ct} (h : EvT X a ρ μ fun k μ1 => if k = true then EvW X (.BoolOp .And (b :: rest) pos) ρ μ1 R else R false μ1) : EvW X (.BoolOp .And (a :: b :: rest) pos) ρ μ R :=
  PWw (pw_and pt_a pw_a) fun σ H Q ⟨α, E, q⟩ => ⟨_, h, α, E, fun k α1 μ1 H1 h1 E1 X1 => by
    cases k with
    | true => exact iteT ⟨_, show EvW X (.BoolOp .And (b :: rest) pos) ρ μ1 R from h1, α1, E1, fun k2 α2 μ2 H2 h2 E2 X2 => q k2 α2 μ2 H2 h2 E2 (X1.trans X2)⟩
    | false => exact iteF (q false α1 μ1 H1 h1 E1 X1)⟩
theorem EvW.or {rest : List Expr} {R : Ct} (h : EvT X a ρ μ fun k μ1 => if k = true then R true μ1 else EvW X (.BoolOp .Or (b :: rest) pos) ρ μ1 R) : EvW X (.BoolOp .Or (a :: b :: rest) pos) ρ μ R :=
  PWw (pw_or pt_a pw_a) fun σ H Q ⟨α, E, q⟩ => ⟨_, h, α, E, fun k α1 μ1 H1 h1 E1 X1 => by
    cases k with
    | true => exact iteT (q true α1 μ1 H1 h1 E1 X1)
    | false => exact iteF ⟨_, show EvW X (.BoolOp .Or (b :: rest) pos) ρ μ1 R from h1, α1, E1, fun k2 α2 μ2 H2 h2 E2 X2 => q k2 α2 μ2 H2 h2 E2 (X1.trans X2)⟩⟩
theorem Ev.ifE {R : Cn} (h : EvT X c ρ μ fun k μ1 => if k = true then Ev X a ρ μ1 R else Ev X b ρ μ1 R) : Ev X (.IfExp c a b pos) ρ μ R :=
  PEw (pe_ifExp pt_a pe_a pe_a) fun σ H Q ⟨α, E, q⟩ => ⟨_, h, α, E, fun k α1 μ1 H1 h1 E1 X1 => by
    cases k with
    | true => exact iteT ⟨_, show Ev X a ρ μ1 R from h1, α1, E1, fun v d α2 μ2 H2 h2 E2 X2 hv => q v d α2 μ2 H2 h2 E2 (X1.trans X2) hv⟩
    | false => exact iteF ⟨_, show Ev X b ρ μ1 R from h1, α1, E1, fun v d α2 μ2 H2 h2 E2 X2 hv => q v d α2 μ2 H2 h2 E2 (X1.trans X2) hv⟩⟩
/-! ### and, or, not as values -/
theorem Ev.one {R : Cn} {op} (h : Ev X a ρ μ R) : Ev X (.BoolOp op [a] pos) ρ μ R := pe_one h
theorem Ev.and {rest : List Expr} {R : Cn} (h : Ev X a ρ μ fun d μ1 => ∃ k, d = .bl k ∧ if k = true then Ev X (.BoolOp .And (b :: rest) pos) ρ μ1 R else R (.bl false) μ1) : Ev X (.BoolOp .And (a :: b :: rest) pos) ρ μ R :=
  PEw (pe_and pe_a pe_a) fun σ H Q ⟨α, E, q⟩ => ⟨_, h, α, E, fun v d α1 μ1 H1 ⟨k, e, h1⟩ E1 X1 hv => by
    subst e
    cases hv
    refine ⟨k, rfl, ?_⟩
    cases k with
    | true => exact iteT ⟨_, show Ev X (.BoolOp .And (b :: rest) pos) ρ μ1 R from h1, α1, E1, fun v d α2 μ2 H2 h2 E2 X2 hv => q v d α2 μ2 H2 h2 E2 (X1.trans X2) hv⟩
    | false => exact iteF (q _ _ α1 μ1 H1 h1 E1 X1 .bl)⟩
theorem Ev.or {rest : List Expr} {R : Cn} (h : Ev X a ρ μ fun d μ1 => ∃ k, d = .bl k ∧ if k = true then R (.bl true) μ1 else Ev X (.BoolOp .Or (b :: rest) pos) ρ μ1 R) : Ev X (.BoolOp .Or (a :: b :: rest) pos) ρ μ R :=
  PEw (pe_or pe_a pe_a) fun σ H Q ⟨α, E, q⟩ => ⟨_, h, α, E, fun v d α1 μ1 H1 ⟨k, e, h1⟩ E1 X1 hv => by
    subst e
    cases hv
    refine ⟨k, rfl, ?_⟩
    cases k with
    | true => exact iteT (q _ _ α1 μ1 H1 h1 E1 X1 .bl)
    | false => exact iteF ⟨_, show Ev X (.BoolOp .Or (b :: rest) pos) ρ μ1 R from h1, α1, E1, fun v d α2 μ2 H2 h2 E2 X2 hv => q v d α2 μ2 H2 h2 E2 (X1.trans X2) hv⟩⟩
theorem Ev.not {R : Cn} (h : Ev X a ρ μ fun d μ1 => ∃ k, d = .bl k ∧ R (.bl (!k)) μ1) : Ev X (.UnaryOp .Not a pos) ρ μ R :=
  PEw (pe_not pe_a) fun σ H Q ⟨α, E, q⟩ => ⟨_, h, α, E, fun v d α1 μ1 H1 ⟨k, e, h1⟩ E1 X1 hv => by
    subst e
    cases hv
    exact ⟨k, rfl, q _ _ α1 μ1 H1 h1 E1 X1 .bl⟩⟩
theorem Ev.neg {R : Cn} (h : Ev X a ρ μ fun d μ1 => ∃ i, d = .int i ∧ R (.int (-i)) μ1) : Ev X (.UnaryOp .USub a pos) ρ μ R :=
  PEw (pe_un un_neg pe_a) fun σ H Q ⟨α, E, q⟩ => ⟨_, h, α, E, fun v d α1 μ1 H1 ⟨k, e, h1⟩ E1 X1 hv => by
    subst e
    cases hv
    exact ⟨k, rfl, q _ _ α1 μ1 H1 h1 E1 X1 .int⟩⟩
/-- a < b < c of whole numbers -/
theorem Ev.chain {op op' : CmpOp} {r r' : R2} {S S' : S2} {R : Cn} (ho : OpR X (compareOp op) r) (k : R2S X r S) (ho' : OpR X (compareOp op') r') (k' : R2S X r' S')
    (h : Ev X a ρ μ fun da μ1 => Ev X b ρ μ1 fun db μ2 => S da db μ2 fun d μ3 => ∃ t, d = .bl t ∧ if t = true then Ev X c ρ μ3 fun dc μ4 => S' db dc μ4 R else R (.bl false) μ3) (hm : lastMarks [op, op'] [b, c] = false := by with_unfolding_all rfl) :
    Ev X (.Compare a [op, op'] [b, c] pos) ρ μ R := PEw (pe_chain ho ho' pe_a pe_a pe_a hm) fun σ H Q ⟨α, E, q⟩ =>
  ⟨_, h, α, E, fun x da α1 μ1 H1 h1 E1 X1 hx => ⟨_, h1, α1, E1, fun y db α2 μ2 H2 h2 E2 X2 hy =>
    k α2 μ2 H2 σ ρ x y da db _ _ E2 (X2.has hx) hy h2 fun v d α3 μ3 H3 ⟨t, e, h3⟩ E3 X3 hv => by
      subst e
      cases hv
      refine ⟨t, rfl, ?_⟩
      cases t with
      | true => exact iteT ⟨_, show Ev X c ρ μ3 _ from h3, α3, E3, fun z dc α4 μ4 H4 h4 E4 X4 hz => k' α4 μ4 H4 σ ρ y z db dc R Q E4 (X4.has (X3.has hy)) hz h4 fun v d α' μ' H' r' E' X' hv => q v d α' μ' H' r' E' (X1.trans (X2.trans (X3.trans (X4.trans X')))) hv⟩
      | false => exact iteF (q _ _ α3 μ3 H3 h3 E3 (X1.trans (X2.trans X3)) .bl)⟩⟩
end
end Eg

namespace Eg
open PySem PySem.Spec L2
inductive Out where
  | nx (ρ : RO) (μ : List MO) | rt (d : DV) (μ : List MO) | bk (ρ : RO) (μ : List MO) | ct (ρ : RO) (μ : List MO)
abbrev Co := Out → Prop
section
variable {X : Cx}
def tSt (X : Cx) (ρ : RO) (μ : List MO) (R : Co) : TS := fun D σ H => ∃ α, En ⟨X.K, α, μ, H⟩ σ ρ ∧
  (∀ ρ' σ' α' μ' H', R (.nx ρ' μ') → En ⟨X.K, α', μ', H'⟩ σ' ρ' → Kp ⟨X.K, α, μ, H⟩ ⟨X.K, α', μ', H'⟩ → D.nx σ' H') ∧
  (∀ v d α' μ' H', R (.rt d μ') → Live ⟨X.K, α', μ', H'⟩ → Kp ⟨X.K, α, μ, H⟩ ⟨X.K, α', μ', H'⟩ → Has ⟨X.K, α', μ', H'⟩ v d → D.rt v H') ∧
  (∀ ρ' σ' α' μ' H', R (.bk ρ' μ') → En ⟨X.K, α', μ', H'⟩ σ' ρ' → Kp ⟨X.K, α, μ, H⟩ ⟨X.K, α', μ', H'⟩ → D.bk σ' H') ∧
  (∀ ρ' σ' α' μ' H', R (.ct ρ' μ') → En ⟨X.K, α', μ', H'⟩ σ' ρ' → Kp ⟨X.K, α, μ, H⟩ ⟨X.K, α', μ', H'⟩ → D.ct σ' H')
def St (X : Cx) (s : Stmt) (ρ : RO) (μ : List MO) (R : Co) : Prop := PS X s (tSt X ρ μ R)
def Sts (X : Cx) (s : List Stmt) (ρ : RO) (μ : List MO) (R : Co) : Prop := PSs X s (tSt X ρ μ R)
def aS (X : Cx) (s : Stmt) : TS := fun D σ H => ∃ t, PS X s t ∧ t D σ H
def aSs (X : Cx) (s : List Stmt) : TS := fun D σ H => ∃ t, PSs X s t ∧ t D σ H
theorem ps_a {s : Stmt} : PS X s (aS X s) := ⟨fun pins s σ H D I ⟨_, h, q⟩ => h.run pins s σ H D I q⟩
theorem pss_a {s : List Stmt} : PSs X s (aSs X s) := ⟨fun pins s σ H D I ⟨_, h, q⟩ => h.run pins s σ H D I q⟩
theorem PSw {s : Stmt} {t t' : TS} (h : PS X s t) (k : ∀ D σ H, t' D σ H → t D σ H) : PS X s t' := ⟨fun pins s σ H D I q => h.run pins s σ H D I (k D σ H q)⟩
theorem PSsw {s : List Stmt} {t t' : TS} (h : PSs X s t) (k : ∀ D σ H, t' D σ H → t D σ H) : PSs X s t' := ⟨fun pins s σ H D I q => h.run pins s σ H D I (k D σ H q)⟩
section
variable {s : Stmt} {rest a b : List Stmt} {e c : Expr} {ρ : RO} {μ : List MO} {pos : Pos} {R : Co}
theorem St.mono {R' : Co} (h : St X s ρ μ R) (k : ∀ o, R o → R' o) : St X s ρ μ R' :=
  PSw h fun D σ H ⟨α, E, q1, q2, q3, q4⟩ => ⟨α, E, fun ρ' σ' α' μ' H' r => q1 ρ' σ' α' μ' H' (k _ r), fun v d α' μ' H' r => q2 v d α' μ' H' (k _ r), fun ρ' σ' α' μ' H' r => q3 ρ' σ' α' μ' H' (k _ r), fun ρ' σ' α' μ' H' r => q4 ρ' σ' α' μ' H' (k _ r)⟩
theorem Sts.mono {R' : Co} (h : Sts X a ρ μ R) (k : ∀ o, R o → R' o) : Sts X a ρ μ R' :=
  PSsw h fun D σ H ⟨α, E, q1, q2, q3, q4⟩ => ⟨α, E, fun ρ' σ' α' μ' H' r => q1 ρ' σ' α' μ' H' (k _ r), fun v d α' μ' H' r => q2 v d α' μ' H' (k _ r), fun ρ' σ' α' μ' H' r => q3 ρ' σ' α' μ' H' (k _ r), fun ρ' σ' α' μ' H' r => q4 ρ' σ' α' μ' H' (k _ r)⟩
theorem Sts.nil (h : R (.nx ρ μ)) : Sts X [] ρ μ R := PSsw pss_nil fun D σ H ⟨α, E, q1, _⟩ => q1 ρ σ α μ H h E E.live.refl
def seqR (X : Cx) (rest : List Stmt) (R : Co) : Co := fun o => match o with
  | .nx ρ μ => Sts X rest ρ μ R
  | o => R o
theorem Sts.cons (h : St X s ρ μ (seqR X rest R)) : Sts X (s :: rest) ρ μ R :=
  PSsw (pss_cons ps_a pss_a) fun D σ H ⟨α, E, q1, q2, q3, q4⟩ => by
    refine ⟨_, h, α, E, fun ρ' σ' α' μ' H' (r : Sts X rest ρ' μ' R) E' X' => ?_, q2, q3, q4⟩
    exact ⟨_, r, α', E', fun ρ2 σ2 α2 μ2 H2 r2 E2 X2 => q1 ρ2 σ2 α2 μ2 H2 r2 E2 (X'.trans X2), fun v d α2 μ2 H2 r2 l2 X2 => q2 v d α2 μ2 H2 r2 l2 (X'.trans X2),
      fun ρ2 σ2 α2 μ2 H2 r2 E2 X2 => q3 ρ2 σ2 α2 μ2 H2 r2 E2 (X'.trans X2), fun ρ2 σ2 α2 μ2 H2 r2 E2 X2 => q4 ρ2 σ2 α2 μ2 H2 r2 E2 (X'.trans X2)⟩
theorem Sts.one (h : St X s ρ μ R) : Sts X [s] ρ μ R := pss_one h
theorem St.expr (h : Ev X e ρ μ fun _ μ1 => R (.nx ρ μ1)) (hs : swapsWith e none pos.line X.env = pure false := by rfl) : St X (.Expr e pos) ρ μ R :=
  PSw (ps_expr pe_a hs) fun D σ H ⟨α, E, q1, q2, q3, q4⟩ => ⟨_, h, α, E, fun v d α1 μ1 H1 r E1 X1 _ => q1 ρ σ α1 μ1 H1 r E1 X1⟩
theorem St.ret (h : Ev X e ρ μ fun d μ1 => R (.rt d μ1)) : St X (.Return (some e) pos) ρ μ R :=
  PSw (ps_ret pe_a) fun D σ H ⟨α, E, q1, q2, q3, q4⟩ => ⟨_, h, α, E, fun v d α1 μ1 H1 r E1 X1 hv => q2 v d α1 μ1 H1 r E1.live X1 hv⟩
theorem St.retN (h : R (.rt .non μ)) : St X (.Return none pos) ρ μ R :=
  PSw ps_retN fun D σ H ⟨α, E, q1, q2, q3, q4⟩ => q2 .non .non α μ H h E.live E.live.refl .non
theorem St.pass (h : R (.nx ρ μ)) : St X (.Pass pos) ρ μ R := PSw ps_pass fun D σ H ⟨α, E, q1, _⟩ => q1 ρ σ α μ H h E E.live.refl
theorem St.brk (h : R (.bk ρ μ)) : St X (.Break pos) ρ μ R := PSw ps_break fun D σ H ⟨α, E, _, _, q3, _⟩ => q3 ρ σ α μ H h E E.live.refl
theorem St.cont (h : R (.ct ρ μ)) : St X (.Continue pos) ρ μ R := PSw ps_continue fun D σ H ⟨α, E, _, _, _, q4⟩ => q4 ρ σ α μ H h E E.live.refl
/-- from a state on -/
theorem tSt.from_ {D : Ends} {α α1 : List Addr} {μ1 : List MO} {H H1 : Hp} {σ1 : L2.St} {ρ1 : RO}
    (q : (∀ ρ' σ' α' μ' H', R (.nx ρ' μ') → En ⟨X.K, α', μ', H'⟩ σ' ρ' → Kp ⟨X.K, α, μ, H⟩ ⟨X.K, α', μ', H'⟩ → D.nx σ' H') ∧
  (∀ v d α' μ' H', R (.rt d μ') → Live ⟨X.K, α', μ', H'⟩ → Kp ⟨X.K, α, μ, H⟩ ⟨X.K, α', μ', H'⟩ → Has ⟨X.K, α', μ', H'⟩ v d → D.rt v H') ∧
  (∀ ρ' σ' α' μ' H', R (.bk ρ' μ') → En ⟨X.K, α', μ', H'⟩ σ' ρ' → Kp ⟨X.K, α, μ, H⟩ ⟨X.K, α', μ', H'⟩ → D.bk σ' H') ∧
  (∀ ρ' σ' α' μ' H', R (.ct ρ' μ') → En ⟨X.K, α', μ', H'⟩ σ' ρ' → Kp ⟨X.K, α, μ, H⟩ ⟨X.K, α', μ', H'⟩ → D.ct σ' H'))
    (E1 : En ⟨X.K, α1, μ1, H1⟩ σ1 ρ1) (X1 : Kp ⟨X.K, α, μ, H⟩ ⟨X.K, α1, μ1, H1⟩) : tSt X ρ1 μ1 R D σ1 H1 :=
  ⟨α1, E1, fun ρ2 σ2 α2 μ2 H2 r2 E2 X2 => q.1 ρ2 σ2 α2 μ2 H2 r2 E2 (X1.trans X2), fun v d α2 μ2 H2 r2 l2 X2 => q.2.1 v d α2 μ2 H2 r2 l2 (X1.trans X2),
      fun ρ2 σ2 α2 μ2 H2 r2 E2 X2 => q.2.2.1 ρ2 σ2 α2 μ2 H2 r2 E2 (X1.trans X2), fun ρ2 σ2 α2 μ2 H2 r2 E2 X2 => q.2.2.2 ρ2 σ2 α2 μ2 H2 r2 E2 (X1.trans X2)⟩
theorem St.ifS (h : EvT X c ρ μ fun k μ1 => if k = true then Sts X a ρ μ1 R else Sts X b ρ μ1 R) : St X (.If c a b pos) ρ μ R :=
  PSw (ps_if pt_a pss_a pss_a) fun D σ H ⟨α, E, q⟩ => ⟨_, h, α, E, fun k α1 μ1 H1 h1 E1 X1 => by
    cases k with
    | true => exact iteT ⟨_, show Sts X a ρ μ1 R from h1, tSt.from_ q E1 X1⟩
    | false => exact iteF ⟨_, show Sts X b ρ μ1 R from h1, tSt.from_ q E1 X1⟩⟩
/-! ### targets -/
def tG (X : Cx) (d : DV) (ρ : RO) (μ : List MO) (R : RO → List MO → Prop) : TG := fun v σ H Q => ∃ α, En ⟨X.K, α, μ, H⟩ σ ρ ∧ Has ⟨X.K, α, μ, H⟩ v d ∧
  ∀ ρ' σ' α' μ' H', R ρ' μ' → En ⟨X.K, α', μ', H'⟩ σ' ρ' → Kp ⟨X.K, α, μ, H⟩ ⟨X.K, α', μ', H'⟩ → Q σ' H'
def tGs (X : Cx) (ds : List DV) (ρ : RO) (μ : List MO) (R : RO → List MO → Prop) : TGs := fun vs σ H Q => ∃ α, En ⟨X.K, α, μ, H⟩ σ ρ ∧ HasL ⟨X.K, α, μ, H⟩ vs ds ∧
  ∀ ρ' σ' α' μ' H', R ρ' μ' → En ⟨X.K, α', μ', H'⟩ σ' ρ' → Kp ⟨X.K, α, μ, H⟩ ⟨X.K, α', μ', H'⟩ → Q σ' H'
def EvG (X : Cx) (t : Expr) (d : DV) (ρ : RO) (μ : List MO) (R : RO → List MO → Prop) : Prop := PG X t (tG X d ρ μ R)
def EvGs (X : Cx) (ts : List Expr) (ds : List DV) (ρ : RO) (μ : List MO) (R : RO → List MO → Prop) : Prop := PGs X ts (tGs X ds ρ μ R)
def aG (X : Cx) (t : Expr) : TG := fun v σ H Q => ∃ g, PG X t g ∧ g v σ H Q
def aGs (X : Cx) (t : List Expr) : TGs := fun v σ H Q => ∃ g, PGs X t g ∧ g v σ H Q
theorem pg_a {t : Expr} : PG X t (aG X t) := ⟨fun pins s σ H v u Q I r ⟨_, h, q⟩ => h.run pins s σ H v u Q I r q⟩
theorem pgs_a {t : List Expr} : PGs X t (aGs X t) := ⟨fun pins s σ H v u Q I r ⟨_, h, q⟩ => h.run pins s σ H v u Q I r q⟩
theorem PGw {e : Expr} {t t' : TG} (h : PG X e t) (k : ∀ v σ H Q, t' v σ H Q → t v σ H Q) : PG X e t' := ⟨fun pins s σ H v u Q I r q => h.run pins s σ H v u Q I r (k v σ H Q q)⟩
theorem PGsw {e : List Expr} {t t' : TGs} (h : PGs X e t) (k : ∀ v σ H Q, t' v σ H Q → t v σ H Q) : PGs X e t' := ⟨fun pins s σ H v u Q I r q => h.run pins s σ H v u Q I r (k v σ H Q q)⟩
theorem En.set {w : Wd} {σ : L2.St} {ρ : RO} {v : V} {d : DV} (E : En w σ ρ) (i : Nat) (h : Has w v d) : En w (σ.set i (some v)) (ρ.set i (some d)) :=
  ⟨E.live, by rw [List.length_set, List.length_set]; exact E.len, fun j d' e => by
    by_cases hj : i = j
    · subst hj
      by_cases hi : i < ρ.length
      · rw [List.getElem?_set_self hi] at e
        cases e
        exact ⟨v, by rw [List.getElem?_set_self (by rw [E.len]; exact hi)], h⟩
      · rw [List.getElem?_eq_none_iff.mpr (by rw [List.length_set]; omega)] at e
        cases e
    · rw [List.getElem?_set_ne hj] at e ⊢
      exact E.at_ j d' e⟩
theorem En.wipe {w : Wd} {σ : L2.St} {ρ : RO} (E : En w σ ρ) (i : Nat) : En w (σ.set i none) (ρ.set i none) :=
  ⟨E.live, by rw [List.length_set, List.length_set]; exact E.len, fun j d' e => by
    by_cases hj : i = j
    · subst hj
      by_cases hi : i < ρ.length
      · rw [List.getElem?_set_self hi] at e
        cases e
      · rw [List.getElem?_eq_none_iff.mpr (by rw [List.length_set]; omega)] at e
        cases e
    · rw [List.getElem?_set_ne hj] at e ⊢
      exact E.at_ j d' e⟩
variable {d : DV} {Rg : RO → List MO → Prop} {t : Expr} {ts : List Expr}
theorem EvG.name (i : Nat) {x : Str} (hN : X.N.Nodup) (hi : X.N[i]? = some x) (hx : Loc X.env.scope x) (hf : X.fn x = true ∨ X.env.scope.names.lookup x = some .local) (h : Rg (ρ.set i (some d)) μ) : EvG X (.Name x pos) d ρ μ Rg :=
  PGw (pg_name hN hi hx hf) fun v σ H Q ⟨α, E, hv, q⟩ => q _ _ α μ H h (E.set i hv) E.live.refl
theorem EvGs.nil (h : Rg ρ μ) : EvGs X [] [] ρ μ Rg := PGsw pgs_nil fun vs σ H Q ⟨α, E, hv, q⟩ => by
  cases hv
  exact ⟨rfl, q _ _ α μ H h E E.live.refl⟩
theorem EvGs.cons {ds : List DV} (h : EvG X t d ρ μ fun ρ1 μ1 => EvGs X ts ds ρ1 μ1 Rg) (hs : (assignEach (t :: ts) X.env).map (·.2) = assign t X.env :: (assignEach ts X.env).map (·.2) := by rfl) : EvGs X (t :: ts) (d :: ds) ρ μ Rg :=
  PGsw (pgs_cons pg_a pgs_a hs) fun vs σ H Q ⟨α, E, hv, q⟩ => by
    cases hv with
    | cons hv hvs => exact ⟨_, _, rfl, _, h, α, E, hv, fun ρ1 σ1 α1 μ1 H1 r1 E1 X1 => ⟨_, (show EvGs X ts ds ρ1 μ1 Rg from r1), α1, E1, X1.hasL hvs, fun ρ2 σ2 α2 μ2 H2 r2 E2 X2 => q ρ2 σ2 α2 μ2 H2 r2 E2 (X1.trans X2)⟩⟩
theorem EvG.tup {k} {ds : List DV} (hc : X.calm = true) (h : EvGs X ts ds ρ μ Rg) (hn : (assignEach ts X.env).length = ds.length := by rfl) (hst : (assignEach ts X.env).findIdx? (·.1) = none := by rfl) : EvG X (.Tuple ts k pos) (.tup ds) ρ μ Rg :=
  PGw (pg_tup (n := ds.length) hc pgs_a hn hst) fun v σ H Q ⟨α, E, hv, q⟩ => by
    cases hv with
    | tup s t => exact ⟨_, _, rfl, s, t.length, _, h, α, E, t, q⟩
/-- xs[i] = v of a list that may be changed -/
theorem EvG.sub {o i : Expr} (h : Ev X o ρ μ fun dO μ1 => Ev X i ρ μ1 fun dI μ2 => ∃ k xs z j, dO = .mu k ∧ dI = .int z ∧ μ2[k]? = some (.lst xs) ∧ ixN xs.length z = some j ∧ Rg ρ (μ2.set k (.lst (xs.set j d)))) (ha : ∀ v, assign (.Subscript o i pos) X.env v = (do
      let ov ← holding [v] (eval o X.env)
      let iv ← holding [v, ov] (eval i X.env)
      standAt pos
      holding [v, ov, iv] (setItem ov iv v)
      release [v, ov, iv] []) := by intro _; rfl) : EvG X (.Subscript o i pos) d ρ μ Rg :=
  PGw (pg_sub pe_a pe_a set_list ha) fun v σ H Q ⟨α, E, hv, q⟩ => ⟨_, h, α, E, fun o' dO α1 μ1 H1 h1 E1 X1 ho => ⟨_, h1, α1, E1, fun i' dI α2 μ2 H2 ⟨k, xs, z, j, e1, e2, hk, hj, r⟩ E2 X2 hi => by
    subst e1 e2
    cases hi
    cases X2.has ho with
    | mu ha =>
      obtain ⟨vs, e, hl⟩ := E2.live.ob k _ _ ha hk
      refine ⟨_, vs, z, j, rfl, rfl, e, by rw [hl.length]; exact hj, ?_⟩
      obtain ⟨kp, l⟩ := E2.live.put (o := .lst (vs.set j v)) (m := .lst (xs.set j d)) ha hk (fun z => nomatch z) fun kp => ⟨_, upd_same, HasL.set (kp.has (X2.has (X1.has hv))) j (kp.hasL hl)⟩
      exact q _ _ _ _ _ r (E2.ext kp l) (X1.trans (X2.trans kp))⟩⟩
theorem St.asg (h : Ev X e ρ μ fun d μ1 => EvG X t d ρ μ1 fun ρ2 μ2 => R (.nx ρ2 μ2)) (hs : swapsWithSole [t] e pos.line X.env = pure false := by rfl) (hw : swappedStores [t] e X.env = pure none := by rfl) (h1 : (assignEach [t] X.env).map (·.2) = [assign t X.env] := by rfl) : St X (.Assign [t] e pos) ρ μ R :=
  PSw (ps_asg pe_a pg_a hs hw h1) fun D σ H ⟨α, E, q⟩ => ⟨_, h, α, E, fun v d α1 μ1 H1 r1 E1 X1 hv => ⟨_, r1, α1, E1, hv, fun ρ2 σ2 α2 μ2 H2 r2 E2 X2 => q.1 ρ2 σ2 α2 μ2 H2 r2 E2 (X1.trans X2)⟩⟩
/-- x = e -/
theorem St.set (i : Nat) {x : Str} {pos' : Pos} (hN : X.N.Nodup) (hi : X.N[i]? = some x) (hx : Loc X.env.scope x) (hf : X.fn x = true ∨ X.env.scope.names.lookup x = some .local) (h : Ev X e ρ μ fun d μ1 => R (.nx (ρ.set i (some d)) μ1)) (hs : swapsWith e (some (.Name x pos')) pos.line X.env = pure false := by rfl) :
    St X (.Assign [.Name x pos'] e pos) ρ μ R :=
  PSw (ps_set hN hi hx pe_a hs hf) fun D σ H ⟨α, E, q⟩ => ⟨_, h, α, E, fun v d α1 μ1 H1 r1 E1 X1 hv => q.1 _ _ α1 μ1 H1 r1 (E1.set i hv) X1⟩
/-- a, b = e1, e2 -/
theorem St.par {e1 e2 : Expr} (i j : Nat) {x y : Str} {px py pt : Pos} {kt k2 pt2} (hc : X.calm = true) (hN : X.N.Nodup) (hi : X.N[i]? = some x) (hj : X.N[j]? = some y) (hij : i ≠ j) (hx : X.env.scope.names.lookup x = some .local) (hy : X.env.scope.names.lookup y = some .local)
    (h : EvA X [e1, e2] ρ μ fun ds μ1 => ∃ d1 d2, ds = [d1, d2] ∧ R (.nx ((ρ.set i (some d1)).set j (some d2)) μ1)) (hw : swappedStores [.Tuple [.Name x px, .Name y py] kt pt] (.Tuple [e1, e2] k2 pt2) X.env = pure (some [x, y]) := by rfl)
    (hs : swapsWithSole [.Tuple [.Name x px, .Name y py] kt pt] (.Tuple [e1, e2] k2 pt2) pos.line X.env = pure false := by rfl) :
    St X (.Assign [.Tuple [.Name x px, .Name y py] kt pt] (.Tuple [e1, e2] k2 pt2) pos) ρ μ R :=
  PSw (ps_par hc hN hi hj hij hx hy pa_a hw hs) fun D σ H ⟨α, E, q⟩ => ⟨_, h, α, E, fun vs ds α1 μ1 H1 ⟨d1, d2, e, r⟩ E1 X1 hv => by
    subst e
    obtain ⟨v, u, rfl, hv1, hv2⟩ := hasL2 hv
    exact ⟨v, u, rfl, q.1 _ _ α1 μ1 H1 r ((E1.set i hv1).set j hv2) X1⟩⟩
/-! ### what is walked -/
def ItOk (X : Cx) (J : It) (ds : List DV) (w : Wd) : Prop := ∀ α μ H, Kp w ⟨X.K, α, μ, H⟩ → Live ⟨X.K, α, μ, H⟩ → (∀ i d, ds[i]? = some d → J.go i H ∧ ∀ x H', J.yld i H x H' → Kp ⟨X.K, α, μ, H⟩ ⟨X.K, α, μ, H'⟩ ∧ Live ⟨X.K, α, μ, H'⟩ ∧ Has ⟨X.K, α, μ, H'⟩ x d) ∧ J.stop ds.length H
def tEvI (X : Cx) (ρ : RO) (μ : List MO) (R : Ca) : TI := fun σ H Rr => ∃ α, En ⟨X.K, α, μ, H⟩ σ ρ ∧ ∀ J ds α' μ' H', R ds μ' → En ⟨X.K, α', μ', H'⟩ σ ρ → Kp ⟨X.K, α, μ, H⟩ ⟨X.K, α', μ', H'⟩ → ItOk X J ds ⟨X.K, α', μ', H'⟩ → Rr J H'
def EvI (X : Cx) (tg e : Expr) (ρ : RO) (μ : List MO) (R : Ca) : Prop := PI X tg e (tEvI X ρ μ R)
theorem PIw {tg e : Expr} {t t' : TI} (h : PI X tg e t) (k : ∀ σ H Q, t' σ H Q → t σ H Q) : PI X tg e t' := ⟨fun pins s σ H Q I q => h.run pins s σ H Q I (k σ H Q q)⟩
def aI (X : Cx) (tg e : Expr) : TI := fun σ H Q => ∃ t, PI X tg e t ∧ t σ H Q
theorem pi_a {tg e : Expr} : PI X tg e (aI X tg e) := ⟨fun pins s σ H Q I ⟨_, h, q⟩ => h.run pins s σ H Q I q⟩
theorem EvI.lst {tg : Expr} {Ra : Ca} (h : Ev X e ρ μ fun d μ1 => ∃ ds, d = .lst ds ∧ Ra ds μ1) : EvI X tg e ρ μ Ra :=
  PIw (pi_list pe_a) fun σ H Q ⟨α, E, q⟩ => ⟨_, h, α, E, fun v d α1 μ1 H1 ⟨ds, e, r⟩ E1 X1 hv => by
    subst e
    cases hv with
    | @lst p vs _ rd hl =>
      have s0 : ∀ α2 μ2 H2, Kp ⟨X.K, α1, μ1, H1⟩ ⟨X.K, α2, μ2, H2⟩ → SqL X.K H2 p vs := fun α2 μ2 H2 k => by
        rcases rd with ⟨n, rd⟩ | rd
        · rcases rd with z | ⟨o, z⟩
          · exact .inl (.inl (k.H _ _ z n))
          · exact .inl (.inr ⟨o, k.H _ _ z n⟩)
        · exact rd.sq
      refine ⟨p, rfl, ⟨vs, s0 _ _ _ E1.live.refl⟩, q _ ds α1 μ1 H1 r E1 X1 fun α2 μ2 H2 k l => ?_⟩
      have s2 : SqL X.K H2 p vs := s0 _ _ _ k
      refine ⟨fun i d hd => ?_, ⟨vs, s2, Nat.le_of_eq hl.length⟩⟩
      obtain ⟨x, h1, h2⟩ := hl.get hd
      refine ⟨⟨vs, x, s2, h1⟩, fun y H' hy => ?_⟩
      obtain ⟨rfl, hy⟩ := hy
      have z := hy vs s2
      rw [h1] at z
      cases z
      exact ⟨l.refl, l, k.has h2⟩⟩
theorem EvI.tup {tg : Expr} {Ra : Ca} (h : Ev X e ρ μ fun d μ1 => ∃ ds, d = .tup ds ∧ Ra ds μ1) : EvI X tg e ρ μ Ra :=
  PIw (pi_tup pe_a) fun σ H Q ⟨α, E, q⟩ => ⟨_, h, α, E, fun v d α1 μ1 H1 ⟨ds, e, r⟩ E1 X1 hv => by
    subst e
    have hv0 := hv
    cases hv with
    | @tup p vs _ rd hl =>
      refine ⟨p, rfl, ⟨vs, rd⟩, q _ ds α1 μ1 H1 r E1 X1 fun α2 μ2 H2 k l => ?_⟩
      have s2 : SqT X.K H2 p vs := by
        have nl : ∀ {xs}, Rd H1 p (.tup xs) → ¬ Wd.lv ⟨X.K, α1, μ1, H1⟩ p := fun {xs} r z => by
          have m := k.tu p z
          rcases r with r | ⟨o, r⟩
          · have r' : (Wd.mk X.K α1 μ1 H1).H p = _ := r
            rw [r'] at m
            exact m
          · have r' : (Wd.mk X.K α1 μ1 H1).H p = _ := r
            rw [r'] at m
            exact m
        rcases rd with r | r
        · have n := nl r
          rcases r with r | ⟨o, r⟩
          · exact .inl (.inl (k.H _ _ r n))
          · exact .inl (.inr ⟨o, k.H _ _ r n⟩)
        · exact .inr r
      refine ⟨fun i d hd => ?_, ⟨vs, s2, Nat.le_of_eq hl.length⟩⟩
      obtain ⟨x, h1, h2⟩ := hl.get hd
      refine ⟨⟨vs, x, s2, h1⟩, fun y H' hy => ?_⟩
      obtain ⟨rfl, hy⟩ := hy
      have z := hy vs s2
      rw [h1] at z
      cases z
      exact ⟨l.refl, l, k.has h2⟩⟩
/-- the numbers lo, lo + 1, .. -/
def rgD (lo : Int) (n : Nat) : List DV := (List.range n).map fun (i : Nat) => DV.int (lo + (i : Int))
theorem rgD_len (lo : Int) (n : Nat) : (rgD lo n).length = n := by simp [rgD]
theorem itr_ok {w : Wd} (lo : Int) (n : Nat) : ItOk X (Itr lo n) (rgD lo n) w := fun α μ H k l => by
  refine ⟨fun i d hd => ?_, Nat.le_of_eq (rgD_len lo n).symm⟩
  obtain ⟨hi, e⟩ := List.getElem?_eq_some_iff.mp hd
  rw [rgD_len] at hi
  refine ⟨hi, fun x H' y => ?_⟩
  obtain ⟨rfl, rfl⟩ := y
  have e' : d = .int (lo + (i : Int)) := by
    rw [← e]
    simp [rgD]
  rw [e']
  exact ⟨l.refl, l, .int⟩
theorem EvI.range1 {tg a : Expr} {Ra : Ca} {p : Pos} (hg : Gl X "range") (hm : X.mg "range" = none) (h : EvA X [a] ρ μ fun ds μ1 => ∃ j : Int, ds = [.int j] ∧ -(2 ^ 62) ≤ j ∧ j < 2 ^ 62 ∧ Ra (rgD 0 j.toNat) μ1) (hs : starEach [a] X.env = [(false, eval a X.env)] := by rfl) :
    EvI X tg (.Call (.Name "range" p) [a] [] pos) ρ μ Ra :=
  PIw (pi_range1 hg hm pa_a hs) fun σ H Q ⟨α, E, q⟩ => ⟨_, h, α, E, fun vs ds α1 μ1 H1 ⟨j, e, h1, h2, r⟩ E1 X1 hv => by
    subst e
    obtain ⟨v, rfl, hw⟩ := hasL1 hv
    cases hw
    exact ⟨j, rfl, h1, h2, q _ _ α1 μ1 H1 r E1 X1 (itr_ok 0 j.toNat)⟩⟩
/-- for t in e: the items ds, one turn each; I: what holds behind i of them -/
theorem St.for_ {tg : Expr} {body : List Stmt} (hp : PassesOwn (model X.prog X.w) X.A X.env X.xe) (hc : X.calm = true)
    (h : EvI X tg e ρ μ fun ds μ1 => ∃ I : Nat → RO → List MO → Prop, I 0 ρ μ1 ∧
      (∀ i d ρ' μ', ds[i]? = some d → I i ρ' μ' → EvG X tg d ρ' μ' fun ρ2 μ2 => Sts X body ρ2 μ2 fun o => match o with
        | .nx ρ3 μ3 => I (i + 1) ρ3 μ3
        | .ct ρ3 μ3 => I (i + 1) ρ3 μ3
        | .bk ρ3 μ3 => R (.nx ρ3 μ3)
        | .rt d μ3 => R (.rt d μ3)) ∧
      ∀ ρ' μ', I ds.length ρ' μ' → R (.nx ρ' μ')) (hs : ∀ x, foldedSetIterable e X.env x = pure x := by intro _; rfl) : St X (.For tg e body [] pos) ρ μ R :=
  PSw (ps_for hp hc pi_a pg_a pss_a hs) fun D σ H ⟨α, E, q⟩ => ⟨_, h, α, E, fun J ds α1 μ1 H1 ⟨I, i0, turn, fin⟩ E1 X1 ok => by
    let P : Nat → L2.St → Hp → Prop := fun i σ H => ∃ α μ ρ, I i ρ μ ∧ En ⟨X.K, α, μ, H⟩ σ ρ ∧ Kp ⟨X.K, α1, μ1, H1⟩ ⟨X.K, α, μ, H⟩
    refine ⟨fun i m σ H => m = ds.length - i ∧ i ≤ ds.length ∧ P i σ H, ⟨ds.length, by simp, Nat.zero_le _, α1, μ1, ρ, i0, E1, E1.live.refl⟩, ?_⟩
    rintro i m σ2 H2 ⟨rfl, hi, α2, μ2, ρ2, hI, E2, X2⟩
    obtain ⟨go, stop⟩ := ok α2 μ2 H2 X2 E2.live
    by_cases hlt : i < ds.length
    · obtain ⟨g1, g2⟩ := go i ds[i] (by simp [hlt])
      refine .inr ⟨g1, P (i + 1), fun σ' H' p' => ⟨ds.length - (i + 1), by omega, rfl, hlt, p'⟩, fun x H' y => ?_⟩
      obtain ⟨k, l, hx⟩ := g2 x H' y
      have X2' := X2.trans k
      refine ⟨_, turn i ds[i] ρ2 μ2 (by simp [hlt]) hI, α2, E2.ext k l, hx, fun ρ3 σ3 α3 μ3 H3 r3 E3 X3 => ⟨_, r3, ?_⟩⟩
      have X3' := X2'.trans X3
      refine ⟨α3, E3, fun ρ4 σ4 α4 μ4 H4 r4 E4 X4 => ⟨α4, μ4, ρ4, r4, E4, X3'.trans X4⟩, fun v d α4 μ4 H4 r4 l4 X4 hv => q.2.1 v d α4 μ4 H4 r4 l4 (X1.trans (X3'.trans X4)) hv,
        fun ρ4 σ4 α4 μ4 H4 r4 E4 X4 => q.1 ρ4 σ4 α4 μ4 H4 r4 E4 (X1.trans (X3'.trans X4)), fun ρ4 σ4 α4 μ4 H4 r4 E4 X4 => ⟨α4, μ4, ρ4, r4, E4, X3'.trans X4⟩⟩
    · have e : i = ds.length := by omega
      subst e
      exact .inl ⟨stop, q.1 ρ2 σ2 α2 μ2 H2 (fin ρ2 μ2 hI) E2 (X1.trans X2)⟩⟩
/-- while c: I n: what holds, n falls at each turn -/
theorem St.while_ {c : Expr} {body : List Stmt} (hp : PassesOwn (model X.prog X.w) X.A X.env X.xe) (I : Nat → RO → List MO → Prop) (h0 : ∃ n, I n ρ μ)
    (turn : ∀ n ρ' μ', I n ρ' μ' → EvT X c ρ' μ' fun k μ2 => if k = true then Sts X body ρ' μ2 fun o => match o with
        | .nx ρ3 μ3 => ∃ m, m < n ∧ I m ρ3 μ3
        | .ct ρ3 μ3 => ∃ m, m < n ∧ I m ρ3 μ3
        | .bk ρ3 μ3 => R (.nx ρ3 μ3)
        | .rt d μ3 => R (.rt d μ3)
      else R (.nx ρ' μ2)) : St X (.While c body [] pos) ρ μ R :=
  PSw (ps_while hp pt_a pss_a) fun D σ H ⟨α, E, q⟩ => by
    let P : Nat → L2.St → Hp → Prop := fun i σ H' => ∃ α' μ' ρ', I i ρ' μ' ∧ En ⟨X.K, α', μ', H'⟩ σ ρ' ∧ Kp ⟨X.K, α, μ, H⟩ ⟨X.K, α', μ', H'⟩
    obtain ⟨n0, h0⟩ := h0
    refine ⟨P, ⟨n0, α, μ, ρ, h0, E, E.live.refl⟩, ?_⟩
    rintro m σ2 H2 ⟨α2, μ2, ρ2, hI, E2, X2⟩
    refine ⟨_, turn m ρ2 μ2 hI, α2, E2, fun k α3 μ3 H3 r3 E3 X3 => ?_⟩
    have X3' := X2.trans X3
    cases k with
    | true =>
      refine iteT ⟨fun σ' H' => ∃ m', m' < m ∧ P m' σ' H', fun σ' H' h => h, _, (show Sts X body ρ2 μ3 _ from r3), ?_⟩
      refine ⟨α3, E3, fun ρ4 σ4 α4 μ4 H4 ⟨m', hm, r4⟩ E4 X4 => ⟨m', hm, α4, μ4, ρ4, r4, E4, X3'.trans X4⟩, fun v d α4 μ4 H4 r4 l4 X4 hv => q.2.1 v d α4 μ4 H4 r4 l4 (X3'.trans X4) hv,
        fun ρ4 σ4 α4 μ4 H4 r4 E4 X4 => q.1 ρ4 σ4 α4 μ4 H4 r4 E4 (X3'.trans X4), fun ρ4 σ4 α4 μ4 H4 ⟨m', hm, r4⟩ E4 X4 => ⟨m', hm, α4, μ4, ρ4, r4, E4, X3'.trans X4⟩⟩
    | false => exact iteF (q.1 ρ2 σ2 α3 μ3 H3 r3 E3 X3')
/-! ### forgetting and freezing -/
/-- what was made beside is forgotten -/
theorem Ev.cut {R : Cn} (h : Ev X e ρ μ fun d μ1 => DV.bel μ.length d = true ∧ (μ1.take μ.length).all (MO.bel μ.length) = true ∧ R d (μ1.take μ.length)) : Ev X e ρ μ R :=
  PEw h fun σ H Q ⟨α, E, q⟩ => ⟨α, E, fun v d α1 μ1 H1 ⟨h1, h2, r⟩ E1 X1 hv => by
    have k := Live.cut E.live E1.live X1
    have l := E1.live.cutL μ.length h2
    exact q v d _ _ _ r (E.ext k l) k (hv.cut h1)⟩
/-- a list that was made to be changed is told to stay as it is -/
theorem Ev.frz {R : Cn} (h : Ev X e ρ μ fun d μ1 => ∃ k ds, d = .mu k ∧ μ1[k]? = some (.lst ds) ∧ R (.lst ds) (μ1.set k .dead)) : Ev X e ρ μ R :=
  PEw h fun σ H Q ⟨α, E, q⟩ => ⟨α, E, fun v d α1 μ1 H1 ⟨k, ds, e, hk, r⟩ E1 X1 hv => by
    subst e
    cases hv with
    | mu ha =>
      obtain ⟨kp, l, nl⟩ := E1.live.freeze (k := k)
      obtain ⟨vs, h1, h2⟩ := E1.live.ob k _ _ ha hk
      exact q _ _ _ _ _ r (E1.ext kp l) (X1.trans kp) (.lst (.inl ⟨nl _ ha, .inl h1⟩) (kp.hasL h2))⟩
/-! ### xs.append(e) -/
theorem tyv_of {w : Wd} {p : Addr} {xs : List V} (h : w.H p = some (.lst xs)) : tyV w.K "list" (.ref p) w.H := .inl ⟨rfl, _, .of h⟩
theorem Ev.append {o : Expr} {R : Cn} {apos cpos : Pos} (h : Ev X o ρ μ fun dO μ1 => ∃ k xs, dO = .mu k ∧ μ1[k]? = some (.lst xs) ∧ EvA X [e] ρ μ1 fun ds μ2 => ∃ d ys, ds = [d] ∧ μ2[k]? = some (.lst ys) ∧ ys.length < sizeLine ∧ R .non (μ2.set k (.lst (ys ++ [d]))))
    (hbase : attributeBase o "append" X.env (eval o X.env) = eval o X.env := by rfl)
    (hfew : ((backTo cpos (starEach [e] X.env)).all (fun x => !x.1) && (backToKw cpos (keywordEach [] X.env)).all (fun x => x.1.isSome)
      && decide ([e].length + ([] : List Keyword).length + (if ([] : List Keyword).isEmpty then 0 else 1) < 30)) = true := by rfl)
    (hline : (apos.endLine == cpos.line) = true := by rfl) (hs : starEach [e] X.env = (false, eval e X.env) :: starEach [] X.env := by rfl) :
    Ev X (.Call (.Attribute o "append" apos) [e] [] cpos) ρ μ R :=
  PEw (pe_bm PySem.F.plainAttrs_list PySem.F.slot_list_append PySem.F.type_list_append mt_append pe_a pa_a hbase hfew hline hs rfl) fun σ H Q ⟨α, E, q⟩ => ⟨_, h, α, E, fun v dO α1 μ1 H1 ⟨k, xs, e1, hk, h1⟩ E1 X1 hv => by
    subst e1
    cases hv with
    | mu ha =>
      obtain ⟨vs, z1, z2⟩ := E1.live.ob k _ _ ha hk
      refine ⟨tyv_of (w := ⟨X.K, α1, μ1, H1⟩) z1, _, h1, α1, E1, fun us ds α2 μ2 H2 ⟨d, ys, e2, hk2, hsz, r⟩ E2 X2 hus => ?_⟩
      subst e2
      obtain ⟨u, rfl, hu⟩ := hasL1 hus
      have ha2 := X2.α _ _ ha
      obtain ⟨vs2, y1, y2⟩ := E2.live.ob k _ _ ha2 hk2
      refine ⟨_, vs2, u, rfl, rfl, y1, by rw [y2.length]; exact hsz, ?_⟩
      obtain ⟨kp, l⟩ := E2.live.put (o := .lst (vs2 ++ [u])) (m := .lst (ys ++ [d])) ha2 hk2 (fun z => nomatch z) fun kp => ⟨_, upd_same, HasL.app (kp.hasL y2) (.cons (kp.has hu) .nil)⟩
      exact q _ _ _ _ _ r (E2.ext kp l) (X1.trans (X2.trans kp)) .non⟩
/-! ### xs[lo:hi] of a list -/
abbrev Cp := Option Int → List MO → Prop
def tEvP (X : Cx) (ρ : RO) (μ : List MO) (R : Cp) : TO := fun σ H Q => ∃ α, En ⟨X.K, α, μ, H⟩ σ ρ ∧ ∀ z α' μ' H', R z μ' → En ⟨X.K, α', μ', H'⟩ σ ρ → Kp ⟨X.K, α, μ, H⟩ ⟨X.K, α', μ', H'⟩ → Q z H'
def EvP (X : Cx) (e : Option Expr) (ρ : RO) (μ : List MO) (R : Cp) : Prop := PO X e (tEvP X ρ μ R)
def aP (X : Cx) (e : Option Expr) : TO := fun σ H Q => ∃ t, PO X e t ∧ t σ H Q
theorem po_a {e : Option Expr} : PO X e (aP X e) := ⟨fun pins s σ H Q I ⟨_, h, q⟩ => h.run pins s σ H Q I q⟩
theorem POw {e : Option Expr} {t t' : TO} (h : PO X e t) (k : ∀ σ H Q, t' σ H Q → t σ H Q) : PO X e t' := ⟨fun pins s σ H Q I q => h.run pins s σ H Q I (k σ H Q q)⟩
theorem EvP.none {R : Cp} (h : R none μ) : EvP X none ρ μ R := POw po_none fun σ H Q ⟨α, E, q⟩ => q _ α μ H h E E.live.refl
theorem EvP.some {R : Cp} (h : Ev X e ρ μ fun d μ1 => ∃ i, d = .int i ∧ R (some i) μ1) : EvP X (some e) ρ μ R :=
  POw (po_some pe_a) fun σ H Q ⟨α, E, q⟩ => ⟨_, h, α, E, fun v d α1 μ1 H1 ⟨i, e, r⟩ E1 X1 hv => by
    subst e
    cases hv
    exact ⟨i, rfl, q _ α1 μ1 H1 r E1 X1⟩⟩
def cutD (xs : List DV) (lo hi : Option Int) : List DV := (xs.drop (HT.sIx xs.length 0 lo)).take (HT.sIx xs.length xs.length hi - HT.sIx xs.length 0 lo)
theorem cut_has {w : Wd} {vs : List V} {ds : List DV} (h : HasL w vs ds) (lo hi : Option Int) : HasL w (cutV vs lo hi) (cutD ds lo hi) := by
  unfold cutV cutD
  rw [h.length]
  exact HasL.take _ (HasL.drop _ h)
theorem Ev.sliceL {a : Expr} {lo hi : Option Expr} {p2 : Pos} {R : Cn} (h : Ev X a ρ μ fun d μ1 => ∃ ds, d = .lst ds ∧ EvP X lo ρ μ1 fun l μ2 => EvP X hi ρ μ2 fun u μ3 => R (.lst (cutD ds l u)) μ3) : Ev X (.Subscript a (.Slice lo hi none p2) pos) ρ μ R :=
  PEw (pe_slice sl_list pe_a po_a po_a) fun σ H Q ⟨α, E, q⟩ => ⟨_, h, α, E, fun v d α1 μ1 H1 ⟨ds, e, h1⟩ E1 X1 hv => by
    subst e
    refine ⟨_, h1, α1, E1, fun l α2 μ2 H2 h2 E2 X2 => ⟨_, h2, α2, E2, fun u α3 μ3 H3 h3 E3 X3 => ?_⟩⟩
    have hv3 := X3.has (X2.has hv)
    cases hv3 with
    | @lst p vs _ rd hl =>
      have s3 : SqL X.K H3 p vs := by
        rcases rd with ⟨_, rd⟩ | rd
        · exact .inl rd
        · exact rd.sq
      refine ⟨p, vs, rfl, s3, fun b nb => ?_⟩
      obtain ⟨k, l'⟩ := E3.live.lay (o := .lst (cutV vs l u)) nb
      exact q _ _ _ _ _ h3 (E3.ext k l') (X1.trans (X2.trans (X3.trans k))) (.lst (.inl ⟨E3.live.fresh nb, .inl upd_same⟩) (k.hasL (cut_has hl l u)))⟩
end
end
end Eg

namespace Eg
open PySem PySem.Spec PyProof.Rows L2
/-! ### defs, called where nothing is being shown -/
structure FnG (P : Program) (w : World) (K : PySem.W.Frag) (mg : Str → Option Value) (base : Heap) (k : Nat) (f : Addr) (fd : FuncData) (ps : List Str) (sp : Sp) : Prop where
  len : ∀ vs H Q E, sp vs H Q E → vs.length = ps.length
  go : ∀ (A : Around) (outer : List Env) (s : Shared) (H : Hp) (args : Args) (us : List Value) (vs : List V) (Q : VK), A.guards = some [] → Room k A → Env0 P w K mg base A outer s H →
    BindsTo s fd args (ps.zip us) → Vals vs us → sp vs H Q E0 → codeAny (model P w) A (.call (.ref f) args) (CR CX0 outer P w H s Q E0) s
theorem guards_in {A : Around} (env : PySem.Env) (h : A.guards = some []) : (A.deeper env).guards = some [] := by
  first
    | exact h
    | (simpa [Around.deeper] using h)
/-- the context of a def's body -/
abbrev bx (P : Program) (w : World) (K : PySem.W.Frag) (mg : Str → Option Value) (base : Heap) (N : List Str) (qual : Str) (scope : Scope) (f : Addr) (cd : Value) (A : Around) (outer : List PySem.Env) (s : Shared) (H : Hp) : Cx :=
  (cxOf CX0 P w K mg base N qual scope f cd A outer s H E0).nox
section
variable {P : Program} {w : World} {K : PySem.W.Frag} {mg : Str → Option Value} {base : Heap}
theorem FnG.of {x qual : Str} {params : Arguments} {body : List Stmt} {scope : Scope} {dvs : List V} {kws : List (Str × V)} {f : Addr} {fd : FuncData} {N ps : List Str} {k : Nat} {sp : Sp}
    (F : FunD K x qual params body scope dvs kws f fd) (S : FnScope N ps scope) (len : ∀ vs H Q E, sp vs H Q E → vs.length = ps.length)
    (hb : ∀ (cd : Value) (A : Around) (outer : List PySem.Env) (s : Shared) (H : Hp) (vs : List V) (Q : VK), (A.deeper (envOfC qual scope s.heap.objs.size f cd)).guards = some [] → Room k (A.deeper (envOfC qual scope s.heap.objs.size f cd)) → sp vs H Q E0 →
      ∃ t, PSs (bx P w K mg base N qual scope f cd A outer s H) body t ∧ t { nx := fun _ H' => Q .non H', rt := Q } (L2.start N vs) H) : FnG P w K mg base (k + 1) f fd ps sp := by
  obtain ⟨oc, od, dV, kV, doc, pm, an, cd, ct, osl, rfl, lk, hcd, _, _⟩ := F.ex
  refine ⟨len, ?_⟩
  intro A outer s H args us vs Q hg hr e0 hbind rv hsp
  have room := hr.deeper (envOfC qual scope s.heap.objs.size f cd)
  obtain ⟨t, ht, hq⟩ := hb cd A outer s H vs Q (guards_in _ hg) room hsp
  have keep : ∀ b o, base.get? b = some o → s.heap.get? b = some o := fun b o z => (e0.bs b o z).1
  have KX : K.In s.heap := e0.mod.kin.keeps keep
  refine codeAny_call_function hr.depth (KX _ _ lk) rfl S.co S.gen rfl (PySem.W.codeRec_of KX hcd) (hbind _ _ _ _ ?_)
  have kinds : ∀ y ∈ ps.zip us, scope.names.lookup y.1 = some .local ∨ (scope.names.lookup y.1 = some .cell ∧ ((cellsFrom (s.heap.objs.size + 1) scope.names []).lookup y.1).isSome = true) := by
    rintro ⟨n, u⟩ hy
    have z := S.par n (List.of_mem_zip hy).1
    exact z.imp id fun z => ⟨z, PySem.W.cellsFrom_some _ _ _ (.inl z)⟩
  refine wpAny_newFunctionEnv_cells S.kind kinds fun env he s1 ic => ?_
  cases he
  refine ⟨(e0.mod.nolimit.keeps keep).keeps ic.toInCall.keep, codeAny_func ?_⟩
  have I := inv_start (CX := CX0) (E := E0) (qual := qual) (f := f) (cd := cd) S hr.hd e0 (len _ _ _ _ hsp) rv ic
  refine wpAny_mono (ht.run [] s1 (L2.start N vs) H _ (I.wish fun _ _ => False) hq) (fun fl s' q => ?_) (fun _ _ z => z.elim)
  cases fl with
  | ret u =>
    obtain ⟨v, σ', H', J, r, q⟩ := q
    exact ⟨v, H', J.os, J.bare, J.base, J.hok, r, q⟩
  | next =>
    obtain ⟨σ', H', J, q⟩ := q
    exact ⟨.non, H', J.os, J.bare, J.base, J.hok, rfl, q⟩
  | brk => exact (by obtain ⟨_, _, _, q⟩ := q; exact False.elim q)
  | cont => exact (by obtain ⟨_, _, _, q⟩ := q; exact False.elim q)
end
/-! ### promises over data -/
abbrev Ctr := List DV → List MO → Cn → Prop
def SpD (K : PySem.W.Frag) (C : Ctr) : Sp := fun vs H Q _ => ∃ α μ ds R, Live ⟨K, α, μ, H⟩ ∧ HasL ⟨K, α, μ, H⟩ vs ds ∧ C ds μ R ∧
  ∀ v d α' μ' H', R d μ' → Live ⟨K, α', μ', H'⟩ → Kp ⟨K, α, μ, H⟩ ⟨K, α', μ', H'⟩ → Has ⟨K, α', μ', H'⟩ v d → Q v H'
/-- the def of a name, its promise, how it is called -/
def Fn (P : Program) (w : World) (K : PySem.W.Frag) (mg : Str → Option Value) (base : Heap) (x : Str) (k : Nat) (C : Ctr) : Prop :=
  ∃ f fd ps, FnG P w K mg base k f fd ps (SpD K C) ∧ mg x = some (.ref f) ∧ PySem.W.keepIn K (.ref f) = true ∧ Binds K fd ps []
theorem Fn.mono {P : Program} {w : World} {K : PySem.W.Frag} {mg : Str → Option Value} {base : Heap} {x : Str} {j k : Nat} {C : Ctr} (F : Fn P w K mg base x j C) (h : j ≤ k) : Fn P w K mg base x k C := by
  obtain ⟨f, fd, ps, ⟨l, g⟩, r⟩ := F
  exact ⟨f, fd, ps, ⟨l, fun A outer s H args us vs Q hg hr => g A outer s H args us vs Q hg (hr.mono h)⟩, r⟩
/-- what is wanted behind a body; what was made beside may be forgotten -/
def fin (n : Nat) (R : Cn) : Co := fun o => match o with
  | .rt d μ => R d μ ∨ (DV.bel n d = true ∧ (μ.take n).all (MO.bel n) = true ∧ R d (μ.take n))
  | .nx _ μ => R .non μ ∨ ((μ.take n).all (MO.bel n) = true ∧ R .non (μ.take n))
  | _ => False
def startD (N : List Str) (ds : List DV) : RO := ds.map some ++ List.replicate (N.length - ds.length) none
theorem start_en {w : Wd} {N : List Str} {vs : List V} {ds : List DV} (l : Live w) (h : HasL w vs ds) : En w (L2.start N vs) (startD N ds) := by
  have hl := h.length
  refine ⟨l, ?_, fun i d e => ?_⟩
  · unfold L2.start startD
    simp [hl]
  · unfold startD at e
    unfold L2.start
    by_cases hi : i < ds.length
    · rw [List.getElem?_append_left (by simpa using hi), List.getElem?_map] at e
      rw [List.getElem?_append_left (by simpa [hl] using hi), List.getElem?_map]
      cases q : ds[i]? with
      | none => rw [q] at e; cases e
      | some d' =>
        rw [q] at e
        cases e
        obtain ⟨v, h1, h2⟩ := h.get q
        exact ⟨v, by rw [h1]; rfl, h2⟩
    · rw [List.getElem?_append_right (by simpa using Nat.le_of_not_lt hi), List.getElem?_replicate] at e
      split at e <;> cases e
section
variable {P : Program} {w : World} {K : PySem.W.Frag} {mg : Str → Option Value} {base : Heap}
/-- THE RULE for a def -/
theorem Fn.mk {x : Str} {params : Arguments} {body : List Stmt} {scope : Scope} {kws : List (Str × V)} {f : Addr} {fd : FuncData} {N ps : List Str} {k : Nat} {C : Ctr}
    (F : FunD K x x params body scope [] kws f fd) (S : FnScope N ps scope) (hm : mg x = some (.ref f))
    (hbd : ∀ (kV doc pm : Value) (an : Option Addr) (cdv ct : Value) (us : List Value), us.length = ps.length → bindArgs (PySem.W.fnOf x x params body scope .none kV doc pm an cdv ct) ⟨us, []⟩ = pure (ps.zip us))
    (len : ∀ ds μ R, C ds μ R → ds.length = ps.length)
    (hb : ∀ (cd : Value) (A : Around) (outer : List PySem.Env) (s : Shared) (H : Hp), (bx P w K mg base N x scope f cd A outer s H).A.guards = some [] → Room k (bx P w K mg base N x scope f cd A outer s H).A → (bx P w K mg base N x scope f cd A outer s H).N.Nodup →
      ∀ ds μ R, C ds μ R → Sts (bx P w K mg base N x scope f cd A outer s H) body (startD N ds) μ (fin μ.length R)) : Fn P w K mg base x (k + 1) C := by
  refine ⟨f, fd, ps, FnG.of F S (fun vs H Q E => ?_) (fun cd A outer s H vs Q hg hr => ?_), hm, F.kp, F.bindsN hbd⟩
  · rintro ⟨α, μ, ds, R, l, h, c, _⟩
    rw [h.length]
    exact len _ _ _ c
  · rintro ⟨α, μ, ds, R, l, h, c, q⟩
    refine ⟨_, hb cd A outer s H hg hr S.nd ds μ R c, α, start_en l h, ?_, ?_, ?_, ?_⟩
    · intro ρ' σ' α' μ' H' r E' k'
      rcases r with r | ⟨r1, r2⟩
      · exact q _ _ α' μ' H' r E'.live k' .non
      · exact q _ _ _ _ _ r2 (E'.live.cutL μ.length r1) (Live.cut l E'.live k') .non
    · intro v d α' μ' H' r l' k' hv
      rcases r with r | ⟨r0, r1, r2⟩
      · exact q _ _ α' μ' H' r l' k' hv
      · exact q _ _ _ _ _ r2 (l'.cutL μ.length r1) (Live.cut l l' k') (hv.cut r0)
    · intro _ _ _ _ _ r
      exact r.elim
    · intro _ _ _ _ _ r
      exact r.elim
end
/-! ### calls -/
section
variable {X : Cx} {e : Expr} {es : List Expr} {ρ : RO} {μ : List MO} {pos p : Pos} {R : Cn} {x : Str} {k : Nat} {C : Ctr}
theorem Ev.call (F : Fn X.prog X.w X.K X.mg X.base x k C) (hA : X.A.guards = some []) (hr : Room k X.A) (hg : Gl X x) (h : EvA X (e :: es) ρ μ fun ds μ1 => C ds μ1 R)
    (hdb : (x == ("__debug__" : Str)) = false := by decide) (he : starEach (e :: es) X.env = (false, eval e X.env) :: starEach es X.env := by rfl) (hpl : (backTo pos (starEach es X.env)).any (·.1) = false := by rfl) :
    Ev X (.Call (.Name x p) (e :: es) [] pos) ρ μ R := by
  obtain ⟨f, fd, ps, G, hm, hk, hb⟩ := F
  refine ⟨fun pins s σ H Q I ⟨α, E, q⟩ => wpAny_Call_Name_kw (ld_glob I hg hm ?_ hdb)⟩
  have ha : PA X (e :: es) (tEvA X ρ μ fun ds μ1 => C ds μ1 R) := h
  refine PySem.W.callWith_K (h₀ := X.base) I.ok.mod.kin hk (thn (ha.run pos pins s σ H (fun vs H1 => SpD X.K C vs H1 (fun v H' => Q v H') E0) I ⟨α, E, ?_⟩) ?_) he hpl
  · intro vs ds α1 μ1 H1 c E1 X1 hv
    exact ⟨α1, μ1, ds, R, E1.live, hv, c, fun v d α' μ' H' r l k' hd => q v d α' μ' H' r (E1.ext k' l) (X1.trans k') hd⟩
  · rintro us s1 ⟨vs, H1, I1, rv, sp⟩
    refine ⟨I1.kIn, ?_⟩
    have hl : us.length = ps.length := rv.length ▸ G.len _ _ _ _ sp
    refine wpAny_call (codeAny_mono (G.go X.A X.stack s1 H1 ⟨us, []⟩ us vs Q hA hr I1.env0 ?_ rv sp) fun r s2 hq => ?_)
    · have z := hb s1 us I1.kIn (by rw [List.append_nil]; exact hl)
      rw [List.append_nil] at z
      exact z
    · cases r with
      | error er => exact False.elim hq
      | ok fl =>
        cases fl with
        | ret u => exact I1.after hq
        | next => exact False.elim hq
        | brk => exact False.elim hq
        | cont => exact False.elim hq
end
end Eg

namespace Eg
open PySem PySem.Spec PyProof.Rows L2
/-! ### [e for x in xs] -/
section
variable {X : Cx} {ρ : RO} {μ : List MO} {pos : Pos} {R : Cn}
abbrev blkX (X : Cx) (s : Shared) (H : Hp) (scope : Scope) (C : Addr) (cl : List (Str × Addr)) (fp : List Addr) : Cx := X.blk s H scope (compEnvC scope cl C X.env) fp
def aB (X : Cx) (scope : Scope) (e : Expr) : TE := fun σ H Q => ∃ t, (∀ s H' C cl fp, PE (blkX X s H' scope C cl fp) e t) ∧ t σ H Q
def aBT (X : Cx) (scope : Scope) (ifs : List Expr) : TT := fun σ H Q => ∃ t, (∀ s H' C cl fp, PTs (blkX X s H' scope C cl fp) ifs t) ∧ t σ H Q
/-- the walk of a comprehension by what holds behind j items: I j what is made so far -/
theorem lc_S {elt iter : Expr} {ifs : List Expr} {scope : Scope} {x : Str} {px : Pos} (i : Nat)
    (h : EvI X (.Name x px) iter ρ μ fun ds μ1 => ds.length ≤ sizeLine ∧ ∃ I : Nat → List DV → List MO → Prop, I 0 [] μ1 ∧
      (∀ j d acc μ2, ds[j]? = some d → μ2.length = μ1.length → I j acc μ2 → ∃ tt : RO → List MO → Ct → TT, (∀ s H C cl fp, PTs (blkX X s H scope C cl fp) ifs (tt (ρ.set i (some d)) (μ2 ++ [.lst acc]) fun b μ3 =>
        if b = true then ∀ s H C cl fp, Ev (blkX X s H scope C cl fp) elt (ρ.set i (some d)) μ3 fun y μ5 => ∃ μ4, μ5 = μ4 ++ [.lst acc] ∧ μ4.length = μ1.length ∧ I (j + 1) (acc ++ [y]) μ4
        else ∃ μ4, μ3 = μ4 ++ [.lst acc] ∧ μ4.length = μ1.length ∧ I (j + 1) acc μ4)) ∧ ∀ ρ' μ' Rt σ H Q, tEvT X ρ' μ' Rt σ H Q → tt ρ' μ' Rt σ H Q) ∧
      ∀ acc μ2, μ2.length = μ1.length → I ds.length acc μ2 → R (.lst acc) (μ2 ++ [.dead]))
    (σ : L2.St) (H : Hp) (Q : VK) (q : tEv X ρ μ R σ H Q) : tLc (aI X (.Name x px) iter) (gName i) (aBT X scope ifs) (aB X scope elt) [i] σ H Q := by
  obtain ⟨α, E, q⟩ := q
  refine ⟨_, h, α, E, ?_⟩
  rintro J ds α1 μ1 H1 ⟨hz, I, i0, turn, done⟩ E1 X1 ok D hD
  have hlen : α1.length = μ1.length := E1.live.len
  obtain ⟨kM, lM, eM⟩ := E1.live.layM (o := .lst []) (m := .lst []) hD (fun _ k => ⟨[], upd_same, .nil⟩)
  let P : Nat → Hp → Prop := fun j H' => ∃ acc μ' α', acc.length ≤ j ∧ I j acc μ' ∧ μ'.length = μ1.length ∧ α'[μ1.length]? = some D ∧ Live ⟨X.K, α', μ' ++ [.lst acc], H'⟩ ∧ Kp ⟨X.K, α1, μ1, H1⟩ ⟨X.K, α', μ' ++ [.lst acc], H'⟩
  refine ⟨fun j m H' => m = ds.length - j ∧ j ≤ ds.length ∧ P j H', ⟨ds.length, by simp, Nat.zero_le _, [], μ1, α1 ++ [D], Nat.le_refl _, i0, rfl, eM, lM, kM⟩, ?_⟩
  rintro j m H2 ⟨rfl, hj, acc, μ2, α2, ha, hI, hμ, hα, l2, k2⟩
  obtain ⟨go, stop⟩ := ok α2 _ H2 k2 l2
  have kD : (μ2 ++ [MO.lst acc])[μ1.length]? = some (.lst acc) := by
    rw [List.getElem?_append_right (by omega), hμ, Nat.sub_self]
    rfl
  have setl : ∀ (μ4 : List MO) (m m' : MO), μ4.length = μ1.length → (μ4 ++ [m]).set μ1.length m' = μ4 ++ [m'] := fun μ4 m m' e => by
    rw [← e]
    simp
  by_cases hlt : j < ds.length
  · obtain ⟨g1, g2⟩ := go j ds[j] (by simp [hlt])
    refine .inr ⟨g1, P (j + 1), fun H' p => ⟨ds.length - (j + 1), by omega, rfl, hlt, p⟩, fun y H3 yy => ?_⟩
    obtain ⟨ky, ly, hy⟩ := g2 y H3 yy
    obtain ⟨tt, ht, hm⟩ := turn j ds[j] acc μ2 (by simp [hlt]) hμ hI
    show wipe ((wipe σ [i]).set i (some y)) [i] = wipe σ [i] ∧ _
    refine ⟨by simp [wipe], _, ht, ?_⟩
    have k3 := k2.trans ky
    have E3 : En ⟨X.K, α2, μ2 ++ [.lst acc], H3⟩ ((wipe σ [i]).set i (some y)) (ρ.set i (some ds[j])) := by
      have z := ((E1.ext k3 ly).wipe i).set i hy
      have eρ : (ρ.set i none).set i (some ds[j]) = ρ.set i (some ds[j]) := by simp
      rw [eρ] at z
      exact z
    refine hm _ _ _ _ _ _ ⟨α2, E3, ?_⟩
    intro b α3 μ3 H4 r3 E4 k4
    cases b with
    | false =>
      refine iteF ?_
      obtain ⟨μ4, rfl, h4, hI4⟩ := r3
      exact ⟨acc, μ4, α3, Nat.le_succ_of_le ha, hI4, h4, k4.α _ _ hα, E4.live, k3.trans k4⟩
    | true =>
      refine iteT ⟨tEv X (ρ.set i (some ds[j])) μ3 _, r3, α3, E4, ?_⟩
      rintro v d α5 μ5 H5 ⟨μ4, rfl, h4, hI4⟩ E5 k5 hv
      have hα5 := k5.α _ _ (k4.α _ _ hα)
      have kD5 : (μ4 ++ [MO.lst acc])[μ1.length]? = some (.lst acc) := by
        rw [List.getElem?_append_right (by omega), h4, Nat.sub_self]
        rfl
      obtain ⟨vs, e1, e2⟩ := E5.live.ob _ _ _ hα5 kD5
      have hl := e2.length
      refine ⟨vs, e1, by omega, ?_⟩
      obtain ⟨k6, l6⟩ := E5.live.put (o := .lst (vs ++ [v])) (m := .lst (acc ++ [d])) hα5 kD5 (fun z => nomatch z) fun k => ⟨_, upd_same, HasL.app (k.hasL e2) (.cons (k.has hv) .nil)⟩
      rw [setl _ _ _ h4] at k6 l6
      exact ⟨acc ++ [d], μ4, α5, by rw [List.length_append]; exact Nat.succ_le_succ ha, hI4, h4, hα5, l6, k3.trans (k4.trans (k5.trans k6))⟩
  · have e : j = ds.length := by omega
    subst e
    refine .inl ⟨stop, ?_⟩
    obtain ⟨vs, e1, e2⟩ := l2.ob _ _ _ hα kD
    obtain ⟨k6, l6, nl⟩ := l2.freeze (k := μ1.length)
    rw [setl _ _ _ hμ] at k6 l6 nl
    have k7 := k2.trans k6
    exact q _ _ _ _ _ (done acc μ2 hμ hI) (E1.ext k7 l6) (X1.trans k7) (.lst (.inl ⟨nl _ hα, .inl e1⟩) (k6.hasL e2))
theorem pe_aB {scope : Scope} {e : Expr} (s : Shared) (H : Hp) (C : Addr) (cl : List (Str × Addr)) (fp : List Addr) : PE (blkX X s H scope C cl fp) e (aB X scope e) := ⟨fun pins s' σ H' Q I ⟨_, h, q⟩ => (h s H C cl fp).run pins s' σ H' Q I q⟩
theorem pts_aB {scope : Scope} {ifs : List Expr} (s : Shared) (H : Hp) (C : Addr) (cl : List (Str × Addr)) (fp : List Addr) : PTs (blkX X s H scope C cl fp) ifs (aBT X scope ifs) := ⟨fun pins s' σ H' Q I ⟨_, h, q⟩ => (h s H C cl fp).run pins s' σ H' Q I q⟩
/-- what a comprehension without a test asks -/
def LcOk (X : Cx) (scope : Scope) (elt iter : Expr) (x : Str) (px : Pos) (i : Nat) (ρ : RO) (μ : List MO) (R : Cn) : Prop :=
  EvI X (.Name x px) iter ρ μ fun ds μ1 => ds.length ≤ sizeLine ∧ ∃ I : Nat → List DV → List MO → Prop, I 0 [] μ1 ∧
      (∀ j d acc μ2, ds[j]? = some d → μ2.length = μ1.length → I j acc μ2 → ∀ s H C cl fp, Ev (blkX X s H scope C cl fp) elt (ρ.set i (some d)) (μ2 ++ [.lst acc]) fun y μ5 => ∃ μ4, μ5 = μ4 ++ [.lst acc] ∧ μ4.length = μ1.length ∧ I (j + 1) (acc ++ [y]) μ4) ∧
      ∀ acc μ2, μ2.length = μ1.length → I ds.length acc μ2 → R (.lst acc) (μ2 ++ [.dead])
theorem EvI.mono {tg e : Expr} {Ra Ra' : Ca} (h : EvI X tg e ρ μ Ra) (k : ∀ ds μ', Ra ds μ' → Ra' ds μ') : EvI X tg e ρ μ Ra' :=
  PIw h fun σ H Q ⟨α, E, q⟩ => ⟨α, E, fun J ds α' μ' H' r => q J ds α' μ' H' (k _ _ r)⟩
theorem lc_S0 {elt iter : Expr} {scope : Scope} {x : Str} {px : Pos} {i : Nat} (h : LcOk X scope elt iter x px i ρ μ R) (σ : L2.St) (H : Hp) (Q : VK) (q : tEv X ρ μ R σ H Q) :
    tLc (aI X (.Name x px) iter) (gName i) (aBT X scope []) (aB X scope elt) [i] σ H Q :=
  lc_S i (EvI.mono h fun ds μ1 ⟨hz, I, i0, turn, done⟩ => ⟨hz, I, i0, fun j d acc μ2 h1 h2 h3 => ⟨fun ρ' μ' Rt σ H Q => ∃ α, En ⟨X.K, α, μ', H⟩ σ ρ' ∧ ∀ b α' μ'' H', Rt b μ'' → En ⟨X.K, α', μ'', H'⟩ σ ρ' → Kp ⟨X.K, α, μ', H⟩ ⟨X.K, α', μ'', H'⟩ → Q b H',
    fun s H C cl fp => ⟨fun pins s' σ H' Q' J ⟨α, E, q⟩ => pts_nil.run pins s' σ H' Q' J (q true α _ H' (turn j d acc μ2 h1 h2 h3) E E.live.refl)⟩, fun _ _ _ _ _ _ z => z⟩, done⟩) σ H Q q
theorem Ev.lc {elt iter : Expr} {scope : Scope} {x : Str} {px : Pos} (i : Nat) (hc : X.calm = true) (hN : X.N.Nodup) (hi : X.N[i]? = some x) (ok : BlkOk X.N X.env.scope scope [(x, i)])
    (hl : ∀ (s : Shared) (H : Hp) (C : Addr) (cl : List (Str × Addr)) (fp : List Addr), Loc (blkX X s H scope C cl fp).env.scope x ∧ ((blkX X s H scope C cl fp).fn x = true ∨ (blkX X s H scope C cl fp).env.scope.names.lookup x = some .local))
    (h : LcOk X scope elt iter x px i ρ μ R) (hs : ∀ x, foldedSetIterable iter X.env x = pure x := by intro _; rfl) : Ev X (.ListComp elt [⟨.Name x px, iter, [], 0⟩] scope pos) ρ μ R :=
  PEw (pe_lc (own := [(x, i)]) (g := gName i) hc hN pi_a ok (fun s H C cl fp => pg_name hN hi (hl s H C cl fp).1 (hl s H C cl fp).2) (fun s H C cl fp => pts_aB s H C cl fp) (fun s H C cl fp => pe_aB s H C cl fp) hs) (lc_S0 h)
end
/-! ### a law's end -/
section
variable {P : Program} {w : World} {K : PySem.W.Frag} {mg mb : Str → Option Value} {k : Nat} {fa a : Addr} {fd : FuncData} {x : Str} {sp : Sp} {s₁ : Shared} {vs : List Value} {ns : List Int}
/-- the heap at the call: the script alone is told of, and not that if the text itself holds it -/
theorem law_goG (KX : K.In s₁.heap) (hns : s₁.heap.Ns mainGlobals mg) (hbl : s₁.heap.Ns builtinsNs mb) (hbb : ∀ x : Str, x ≠ "__name__" → mb x = bootBuiltins x) (hlim : s₁.heap.NoLimit) (hgen : s₁.gens = #[])
    (ha : s₁.heap.get? a = some { cls := .type "list", data := .seq vs.toArray }) (hi : IntsAre vs ns) (hl : ns.length ≤ sizeLine) (hr : Room k callerA)
    (F : ∀ base : Heap, K.In base → base.Ns mainGlobals mg → FnG P w K mg base k fa fd [x] sp) (hbind : ∀ (s : Shared) (u : Value), BindsTo s fd ⟨[u], []⟩ [(x, u)])
    (hsp : ∀ H : Hp, ((∀ b, H b = none) ∧ WrL K a (ns.map V.int)) ∨ (∃ o, H = fun b => if b = a then some (.frz o (.lst (ns.map V.int))) else none) → sp [.ref a] H (fun v _ => v = .bl true) E0) :
    codeAny (model P w) callerA (.call (.ref fa) ⟨[.ref a], []⟩) (fun r s' => r = .ok (.ret (.bool true)) ∧ OldK s₁.heap s'.heap ∧ s'.os = s₁.os ∧ AllBare s'.gens) s₁ := by
  have rv := vals_ints hi
  -- whatever H tells: at most of a, and of a as it stands
  have main : ∀ H : Hp, (∀ b, b ≠ a → H b = none) → (∀ u, H a = some u → u = .frz { cls := .type "list", data := .seq vs.toArray } (.lst (ns.map V.int))) → (H a = none ∨ K.lookup a = none) → sp [.ref a] H (fun v _ => v = .bl true) E0 →
      codeAny (model P w) callerA (.call (.ref fa) ⟨[.ref a], []⟩) (fun r s' => r = .ok (.ret (.bool true)) ∧ OldK s₁.heap s'.heap ∧ s'.os = s₁.os ∧ AllBare s'.gens) s₁ := by
    intro H h1 h2 h3 hq
    have ok : HOk P w H s₁.heap := by
      intro b u e
      have eb : b = a := Classical.byContradiction fun z => by
        rw [h1 b z] at e
        cases e
      subst eb
      have eu := h2 u e
      subst eu
      exact ⟨ha, by rw [List.length_map]; exact hl, vs, 0, rv, ha⟩
    have none_of_dict : ∀ {b : Addr} {o : Obj} {es : Array DictEntry} {ep : Nat}, s₁.heap.get? b = some o → o.data = .dict es ep → H b = none := by
      intro b o es ep e d
      refine h1 b fun z => ?_
      rw [z, ha] at e
      have := Option.some.inj e
      subst this
      cases d
    have ns_of : ∀ {b : Addr} {m : Str → Option Value}, s₁.heap.Ns b m → (hidT s₁.heap H).Ns b m := by
      rintro b m ⟨o, es, ep, e, d, r⟩
      exact ⟨o, es, ep, hidT_get e (none_of_dict e d), d, r⟩
    have kin : K.In (hidT s₁.heap H) := by
      intro b o e
      refine hidT_get (KX b o e) ?_
      by_cases z : b = a
      · subst z
        rcases h3 with h3 | h3
        · exact h3
        · rw [h3] at e
          cases e
      · exact h1 b z
    obtain ⟨mc, c1, c2⟩ := hlim
    have env0 : Env0 P w K mg (hidT s₁.heap H) callerA [] s₁ H :=
      ⟨rfl, ⟨kin, ns_of hns, ⟨mb, ns_of hbl, hbb⟩, mc, ns_of c1, c2⟩, fun _ _ e => of_hidT e, Nat.le_of_eq (hidT_size _ _), trivial, fun b z => absurd (show b ∈ ([] : List Addr) from z) List.not_mem_nil, ok, .of_eq hgen⟩
    refine codeAny_mono ((F _ kin (ns_of hns)).go callerA [] s₁ H ⟨[.ref a], []⟩ [.ref a] [.ref a] _ rfl hr env0 (hbind s₁ (.ref a)) (.cons rfl .nil) hq) fun r s' z => ?_
    match r, z with
    | .ok (.ret u), ⟨v, H', os, bare, un, ok', rv', q⟩ =>
      have q' : v = .bl true := q
      subst q'
      have eu : u = Value.bool true := rv'
      subst eu
      refine ⟨rfl, OldK.of_keep fun b o e => ?_, os, bare⟩
      by_cases z : H b = none
      · exact un.keep b o e z (fun y => absurd (show b ∈ ([] : List Addr) from y) List.not_mem_nil) List.not_mem_nil
      · have eb : b = a := Classical.byContradiction fun y => z (h1 b y)
        subst eb
        cases hu : H b with
        | none => exact absurd hu z
        | some u =>
          have eu := h2 u hu
          rw [eu] at hu
          have t := (ok' b _ (un.frzs b _ _ hu)).1
          rw [ha] at e
          cases e
          exact t
    | .ok .next, z => exact z.elim
    | .ok .brk, z => exact z.elim
    | .ok .cont, z => exact z.elim
    | .error e, z => exact z.elim
  cases hk : K.lookup a with
  | none =>
    refine main (fun b => if b = a then some (.frz { cls := .type "list", data := .seq vs.toArray } (.lst (ns.map V.int))) else none) (fun b z => if_neg z) (fun u e => ?_) (.inr hk) (hsp _ (.inr ⟨_, rfl⟩))
    rw [if_pos rfl] at e
    exact (Option.some.inj e).symm
  | some o =>
    have eo : o = { cls := .type "list", data := .seq vs.toArray } := by
      have z := KX a o hk
      rw [ha] at z
      exact (Option.some.inj z).symm
    subst eo
    refine main (fun _ => none) (fun _ _ => rfl) (fun u e => nomatch e) (.inl rfl) (hsp _ (.inl ⟨fun _ => rfl, .inr ⟨_, vs.toArray, 0, hk, rfl, rfl, rfl, ?_, ?_⟩⟩))
    · have e1 := hi.length
      rw [List.size_toArray]
      omega
    · exact rv
end
/-- the script as data -/
def scD (ns : List Int) : DV := .lst (ns.map DV.int)
theorem sc_has {w : Wd} : ∀ ns : List Int, HasL w (ns.map V.int) (ns.map DV.int)
  | [] => .nil
  | _ :: r => .cons .int (sc_has r)
theorem walk_G {l : PySem.W.OpenLaw} {n k : Nat} {q : Program} {loose : List Str} {XP : (Str → Option Value) → Heap → Prop} {YP : World → Heap → Prop} {d : DefRec} {C : Ctr}
    (hn : l.most = some n) (hn2 : n ≤ sizeLine) (hdf : d.params.defaults = []) (hr : Room k callerA)
    (hC : ∀ ns : List Int, ns.length ≤ n → (∀ z ∈ ns, Builtin.Int.intBits z ≤ 1048576) → C [scD ns] [] fun d _ => d = .bl true)
    (F : ∀ (w : World) (mg : Str → Option Value) (fa : Addr) (h : Heap), YP w h → h.Ns mainGlobals mg → mg d.name = some (.ref fa) →
      ∃ (K : PySem.W.Frag) (fd : FuncData) (x : Str), K.In h ∧ (∀ (s : Shared) (u : Value), BindsTo s fd ⟨[u], []⟩ [(x, u)]) ∧ ∀ base : Heap, K.In base → base.Ns mainGlobals mg → FnG l.prog w K mg base k fa fd [x] (SpD K C)) :
    PySem.W.WalkO q loose XP YP l.row.toRowW d [] (fun f vs => PySem.call f vs) := by
  refine Att.attach_callB hn hdf fun w s₀ s₁ mg mb fa o pm cd doc a vs ns G Y ho hd hcd hmg hobj hints hlen hbits hg => ?_
  obtain ⟨K, fd, x, KX, hb, hF⟩ := F w mg fa _ Y G.T.g hmg
  refine law_goG KX G.T.g G.T.b G.T.builtins G.T.nolimit hg hobj hints (Nat.le_trans hlen hn2) hr hF hb fun H hH => ?_
  have l0 : Live ⟨K, [], [], H⟩ := ⟨rfl, List.nodup_nil, fun _ h => absurd h List.not_mem_nil, fun k a o h => by simp at h⟩
  refine ⟨[], [], [scD ns], fun d _ => d = .bl true, l0, .cons (.lst ?_ (sc_has ns)) .nil, hC ns hlen hbits, ?_⟩
  · rcases hH with ⟨_, h⟩ | ⟨o, rfl⟩
    · exact .inr h
    · refine .inl ⟨?_, .inr ⟨o, if_pos rfl⟩⟩
      rintro ⟨k, u, h1, _⟩
      simp at h1
  · rintro v d α' μ' H' rfl _ _ hv
    cases hv
    rfl
end Eg

namespace Eg
open PySem PySem.Spec L2
section
variable {M : Model} {A : Around} {E : Value → Shared → Prop} {h : Heap} {g : Array GenState} {d : Drawn} {t : Nat} {os : OsState}
variable {nm q : Str} {C N : Addr} {bs bm bmB : List Value} {hdct : Bool} {sn : List Str} {sub : List Value} {ab : Bool} {col : Option Bool} {dd : Option Addr} {k0 k1 k2 k3 k5 : Option Value} {B newId initId : String}
theorem chk_call {rest : List Value} {kw : List (Str × Value)} {Q : Unit → Shared → Prop} (hC : h.get? C = some (excClassObj nm q C N bs bm hdct sn sub ab col dd k0 k1 k2 k3 k5 newId)) (hq : Q () ⟨h, g, d, t, os⟩) :
    wpAny M A (checkBuiltinCall "type.__call__" ⟨.ref C :: rest, kw⟩) Q E ⟨h, g, d, t, os⟩ := by
  have sb := tc_sub
  have ty : (⟨h, g, d, t, os⟩ : Shared).TypeIs (.ref C) "type" := ⟨_, hC, rfl⟩
  simp only [checkBuiltinCall, tc_kind, tc_split]
  repeat (any_goals (first | assumption | (with_reducible refine wpAny_loadPart_at hC ?_) | (with_reducible refine wpAny_onRaise ?_) | (with_reducible refine wpAny_map ?_) | wp_step))

/-- the class's own chain holds what its base's holds of types -/
abbrev TyAs (bm bmB : List Value) : Prop := ∀ X : String, bm.contains (.type X) = bmB.contains (.type X)
theorem hasTy {c : Addr} (hT : TyAs bm bmB) {T : String} (h : bmB.contains (.type T) = true) : (Value.ref c :: bm).contains (.type T) = true := by
  rw [List.contains_cons, hT, h, Bool.or_true]
theorem noTy {c : Addr} (hT : TyAs bm bmB) {T : String} (h : bmB.contains (.type T) = false) : (Value.ref c :: bm).contains (.type T) = false := by
  rw [List.contains_cons, hT, h]
  rfl
theorem chk_new (F : ExcBaseFacts B newId initId bmB) (hT : TyAs bm bmB) {rest : List Value} {kw : List (Str × Value)} {Q : Unit → Shared → Prop}
    (hC : h.get? C = some (excClassObj nm q C N bs bm hdct sn sub ab col dd k0 k1 k2 k3 k5 newId)) (hq : Q () ⟨h, g, d, t, os⟩) :
    wpAny M A (checkBuiltinCall newId ⟨.ref C :: rest, kw⟩) Q E ⟨h, g, d, t, os⟩ := by
  have inB := hasTy (c := C) hT F.hasB
  have ns := F.noStar
  simp only [checkBuiltinCall, F.newSplit, F.newKind, F.newRow]
  repeat (first
    | refine wpAny_loadPart_at hC ?_
    | (refine wpAny_isSubtype_exc hC ?_; rw [inB])
    | refine wpAny_staticBase_exc hC ?_
    | refine wpAny_madeBy_exc hC ?_
    | simp only [if_false, Bool.false_eq_true, bne_self_eq_false]
    | wp_step)
  exact hq
end
section
variable {prog : Program} {w : World} {A : Around} {E : Value → Shared → Prop} {R : Result → Shared → Prop} {h : Heap} {g : Array GenState} {d : Drawn} {t : Nat} {os : OsState}
variable {nm q : Str} {C N : Addr} {bs bm bmB : List Value} {hdct : Bool} {sn : List Str} {sub : List Value} {ab : Bool} {col : Option Bool} {dd : Option Addr} {k0 k1 k2 k3 k5 : Option Value} {B newId initId : String}
/-- an exception object just made, its args at t -/
abbrev exO0 (C t : Addr) : Obj := { cls := .ref C, data := .fields #[.ref t, .none, .none, .none, .bool false, .none] }
abbrev made (h : Heap) (C : Addr) (rest : List Value) : Heap := (h.push { cls := .type "tuple", data := .seq rest.toArray }).push (exO0 C h.objs.size)
theorem new_kw (F : ExcBaseFacts B newId initId bmB) (hT : TyAs bm bmB) {rest : List Value} {kw : List (Str × Value)}
    (hC : h.get? C = some (excClassObj nm q C N bs bm hdct sn sub ab col dd k0 k1 k2 k3 k5 newId)) (hz : rest.length ≤ sizeLine)
    (hq : R (.ok (.ret (.ref (h.objs.size + 1)))) ⟨made h C rest, g, d, t, os⟩) : codeAny (model prog w) A (.builtin newId ⟨.ref C :: rest, kw⟩) R ⟨h, g, d, t, os⟩ := by
  have en := F.ends
  have inB := hasTy (c := C) hT F.hasB
  have noA := noTy (c := C) hT F.noAttr
  have noN := noTy (c := C) hT F.noName
  refine codeAny_builtinAt F.entry ?_
  unfold Builtin.«BaseException.__new__»
  refine wpAt_bind ?_
  show wpAt _ _ _ (stack >>= _) _ _ _
  refine wpAt_bind (wpAt_stack fun p below => wpAt_of_wpAny ?_)
  wp_walk
  refine wpAt_of_wpAny ?_
  rw [F.owner]
  repeat (first
    | (with_reducible refine wpAny_madeHere_exc F.canon hC ?_)
    | (with_reducible refine wpAny_loadPart_at hC ?_)
    | (with_reducible refine wpAny_isSubtype_exc hC ?_; first | rw [inB] | rw [noA] | rw [noN])
    | wp_step)
  show R _ _
  rw [Heap.size_push]
  exact hq
/-- type.__call__ of an own exception class with its own __init__ -/
theorem tcall_kw (F : ExcBaseFacts B newId initId bmB) (hT : TyAs bm bmB) {rest : List Value} {kw : List (Str × Value)} {fI : Addr} {Q : Fin → Shared → Prop}
    (hC : h.get? C = some (excClassObj nm q C N bs bm hdct sn sub ab col dd k0 k1 k2 k3 k5 newId)) (hz : rest.length ≤ sizeLine)
    (hi : W.Looks (model prog w) h (typeLookup (.ref C) "__init__") (some (.ref fI))) (hb : ∀ self, W.Looks (model prog w) h (bindSpecial (.ref fI) self) (.ref fI, [self]))
    (hq : codeAny (model prog w) A (.call (.ref fI) ⟨.ref (h.objs.size + 1) :: rest, kw⟩)
      (fun r s' => match r with | .ok (.ret v) => v = .none ∧ Q (.done (.ret (.ref (h.objs.size + 1)))) s' | .ok _ => False | .error e => E e s') ⟨made h C rest, g, d, t, os⟩) :
    wpAny (model prog w) A (Builtin.«type.__call__» ⟨.ref C :: rest, kw⟩) Q E ⟨h, g, d, t, os⟩ := by
  repeat (first | (with_reducible refine wpAny_loadPart_at hC ?_) | (with_reducible refine wpAny_madeBy_exc hC ?_) | wp_step)
  refine codeAny_call_builtin_code (Code.quiet_builtin _ F.quiet) (chk_new F hT hC ?_)
  refine new_kw F hT hC hz ?_
  show wpAny _ _ _ _ _ _
  have k : ∀ b o, h.get? b = some o → (made h C rest).get? b = some o := fun b o e => Heap.get?_push_of_some _ (Heap.get?_push_of_some _ e)
  have hC1 := k _ _ hC
  have there : (made h C rest).get? (h.objs.size + 1) = some (exO0 C h.objs.size) := by heap_get
  have self : (Value.ref C :: bm).contains (.ref C) = true := by simp
  have li := hi.keeps k
  have lb := (hb (.ref (h.objs.size + 1))).keeps k
  unfold isInstance
  repeat (first | (with_reducible refine wpAny_loadPart_at there ?_) | (with_reducible refine wpAny_isSubtype_exc hC1 ?_; rw [self]) | wp_step)
  show wpAny _ _ (typeLookup (.ref C) _) _ _ _
  refine li.at (wpAny_holding (wpAny_bind (lb.at (wpAny_bind ?_))))
  refine wpAny_call (codeAny_mono hq fun r s' z => ?_)
  match r, z with
  | .ok (.ret v), ⟨e, z⟩ =>
    subst e
    first
      | exact wpAny_pure (wpAny_pure z)
      | (wp_walk; exact z)
  | .error e, z => exact z
theorem call_kwE (F : ExcBaseFacts B newId initId bmB) (hT : TyAs bm bmB) {rest : List Value} {kw : List (Str × Value)} {fI : Addr}
    (hC : h.get? C = some (excClassObj nm q C N bs bm hdct sn sub ab col dd k0 k1 k2 k3 k5 newId)) (hz : rest.length ≤ sizeLine)
    (hi : W.Looks (model prog w) h (typeLookup (.ref C) "__init__") (some (.ref fI))) (hb : ∀ self, W.Looks (model prog w) h (bindSpecial (.ref fI) self) (.ref fI, [self]))
    (hq : codeAny (model prog w) (A.under (.builtin "type.__call__" ⟨.ref C :: rest, kw⟩)) (.call (.ref fI) ⟨.ref (h.objs.size + 1) :: rest, kw⟩) (W.InitBack (h.objs.size + 1) R) ⟨made h C rest, g, d, t, os⟩) :
    codeAny (model prog w) A (.call (.ref C) ⟨rest, kw⟩) R ⟨h, g, d, t, os⟩ := by
  have lk := tc_lookup
  have bd := tc_bind (.ref C)
  have ty : (⟨h, g, d, t, os⟩ : Shared).TypeIs (.ref C) "type" := ⟨_, hC, rfl⟩
  refine codeAny_of_tree ?_
  show wpAny _ _ (callAny (.ref C) _) _ _ _
  repeat (any_goals (first | assumption | (with_reducible refine wpAny_loadPart_at hC ?_) | wp_step))
  refine ⟨rfl, codeAny_call_builtin_at (Code.quiet_builtin _ (by decide +kernel)) entry_typeCall (chk_call hC (tcall_kw F hT hC hz hi hb ?_))⟩
  refine codeAny_mono hq fun r s' z => ?_
  rcases r with e | (v | _ | _ | _) <;> exact z
end
end Eg

namespace Eg
open PySem PySem.Spec L2
mutual
def toPy : DV → Option PyData
  | .non => some .none
  | .bl b => some (.bool b)
  | .int i => some (.int i)
  | .str x => some (.str x)
  | .tup xs => (toPyL xs).map .tuple
  | .lst xs => (toPyL xs).map .list
  | .dic [] => some (.dict [])
  | .dic (_ :: _) => none
  | .exc _ _ => none
  | .mu _ => none
def toPyL : List DV → Option (List PyData)
  | [] => some []
  | x :: r => (toPy x).bind fun d => (toPyL r).map fun ds => d :: ds
end
section
variable {X : Cx} {pins : List (Addr × Obj)} {σ : L2.St} {α : List Addr} {μ : List MO} {H : Hp} {s : Shared}
mutual
theorem rd_of (I : Inv X pins σ H s) (hB : ∃ mm, X.base.Ns sysModules mm) : ∀ {v : V} {u : Value} {d : DV} {pd : PyData}, Has ⟨X.K, α, μ, H⟩ v d → RelV v u → toPy d = some pd → ∃ as, Reads s.heap u pd as ∧ sysModules ∉ as
  | _, _, _, _, .non, r, e => by cases e; cases r; exact ⟨_, .none, List.not_mem_nil⟩
  | _, _, _, _, .bl, r, e => by cases e; cases r; exact ⟨_, .bool _, List.not_mem_nil⟩
  | _, _, _, _, .int, r, e => by cases e; obtain ⟨t, rfl⟩ := r; exact ⟨_, .int _ _, List.not_mem_nil⟩
  | _, _, _, _, .str, r, e => by cases e; obtain ⟨t, rfl⟩ := r; exact ⟨_, .str _ _, List.not_mem_nil⟩
  | _, _, _, _, .tup h t, r, e => by
    have er : _ = Value.ref _ := r
    subst er
    obtain ⟨ds, e1, e2⟩ := Option.map_eq_some_iff.mp e
    subst e2
    obtain ⟨its, rv, ⟨o, ho, hc, n, hd⟩, _⟩ := I.tuple h
    obtain ⟨as, q1, q2⟩ := rdL_of I hB t rv e1
    exact ⟨as, .tuple ho hc hd (by simpa using q1), q2⟩
  | _, _, _, _, @Has.lst _ p vs0 _ h t, r, e => by
    have er : _ = Value.ref _ := r
    subst er
    obtain ⟨ds, e1, e2⟩ := Option.map_eq_some_iff.mp e
    subst e2
    have sq : SqL X.K H p vs0 := by
      rcases h with ⟨_, h⟩ | h
      · exact .inl h
      · exact h.sq
    obtain ⟨its, rv, ⟨o, n, ho, hc, _, hd⟩, _⟩ := I.list sq
    obtain ⟨as, q1, q2⟩ := rdL_of I hB t rv e1
    refine ⟨p :: as, .list ho hc hd (by simpa using q1), fun z => ?_⟩
    rcases List.mem_cons.mp z with z | z
    · obtain ⟨mm, od, es, ep, z1, z2, _⟩ := hB
      have z3 := (I.bs _ _ z1).1
      rw [z, ho] at z3
      cases z3
      rw [hd] at z2
      cases z2
    · exact q2 z
  | _, _, _, _, @Has.dic _ p kvs kds _ h t, r, e => by
    have er : _ = Value.ref _ := r
    subst er
    cases t with
    | cons _ _ => cases e
    | nil =>
      cases e
      obtain ⟨_, ns, vs, kv, o, es, ep, ho, hx, hd, _, he, _⟩ := I.hok p _ h
      cases kv
      have hes : es.toList = [] := by
        generalize hz : es.toList = l at he
        cases he
        rfl
      refine ⟨p :: [] ++ [], .dict ho hx.1 hd (by rw [hes]; exact .nil) (by rw [hes]; exact .nil), fun z => ?_⟩
      have z' : sysModules = p := by simpa using z
      rw [← z'] at ns
      exact absurd ns (by decide)
  | _, _, _, _, .exc _ _ _, _, e => by cases e
  | _, _, _, _, .exc0 _, _, e => by cases e
  | _, _, _, _, .mu _, _, e => by cases e
theorem rdL_of (I : Inv X pins σ H s) (hB : ∃ mm, X.base.Ns sysModules mm) : ∀ {vs : List V} {us : List Value} {ds : List DV} {pds : List PyData}, HasL ⟨X.K, α, μ, H⟩ vs ds → Vals vs us → toPyL ds = some pds → ∃ as, ReadsAll s.heap us pds as ∧ sysModules ∉ as
  | _, _, _, _, .nil, r, e => by cases e; cases r; exact ⟨_, .nil, List.not_mem_nil⟩
  | _, _, _, _, .cons h t, r, e => by
    obtain ⟨d, e1, e2⟩ := Option.bind_eq_some_iff.mp e
    obtain ⟨ds, e3, e4⟩ := Option.map_eq_some_iff.mp e2
    subst e4
    cases r with
    | cons r1 r2 =>
      obtain ⟨as, q1, n1⟩ := rd_of I hB h r1 e1
      obtain ⟨bs, q2, n2⟩ := rdL_of I hB t r2 e3
      exact ⟨as ++ bs, .cons q1 q2, fun z => (List.mem_append.mp z).elim n1 n2⟩
end
end
section
variable {X : Cx} {e : Expr} {ρ : RO} {μ : List MO} {pos p : Pos} {R : Cn}
/-- repr of a list or tuple of data that nobody changes -/
def sRepr : SA := fun ds μ R => ∃ d pd, ds = [d] ∧ ((∃ xs, d = .lst xs) ∨ ∃ xs, d = .tup xs) ∧ toPy d = some pd ∧ pd.showable = true ∧ pd.depth ≤ 100 ∧ pd.shown.length ≤ sizeLine ∧ R (.str pd.shown) μ
theorem Ev.repr (hA : X.A.guards = some []) (hu : X.A.units + 200 < cLine) (hB : ∃ mm, X.base.Ns sysModules mm) (hg : Gl X "repr") (hm : X.mg "repr" = none) (h : EvA X [e] ρ μ fun ds μ1 => sRepr ds μ1 R) (he : starEach [e] X.env = (false, eval e X.env) :: starEach [] X.env := by rfl) :
    Ev X (.Call (.Name "repr" p) [e] [] pos) ρ μ R := by
  refine ⟨fun pins s σ H Q I ⟨α, E, q⟩ => ?_⟩
  refine wpAny_Call_Name_kw (ld_blt I hg hm PyProof.Rows.boot_repr ?_ (by decide) (by decide))
  have ha : PA X [e] (tEvA X ρ μ fun ds μ1 => sRepr ds μ1 R) := h
  refine PyProof.Rows.callWith_builtin1 (thn (ha.run pos pins s σ H (fun vs H1 => ∃ α1 μ1 ds, sRepr ds μ1 R ∧ En ⟨X.K, α1, μ1, H1⟩ σ ρ ∧ Kp ⟨X.K, α, μ, H⟩ ⟨X.K, α1, μ1, H1⟩ ∧ HasL ⟨X.K, α1, μ1, H1⟩ vs ds) I ⟨α, E, fun vs ds α1 μ1 H1 c E1 X1 hv => ⟨α1, μ1, ds, c, E1, X1, hv⟩⟩) ?_) he rfl
  rintro us s1 ⟨vs, H1, I1, rv, α1, μ1, ds, ⟨d, pd, rfl, hk, e1, h1, h2, h3, r⟩, E1, X1, hv⟩
  obtain ⟨v, rfl, hw⟩ := hasL1 hv
  clear hv
  have hv := hw
  obtain ⟨u, rfl, ru⟩ := vals1 rv
  have isref : ∃ a, u = Value.ref a := by
    rcases hk with ⟨xs, rfl⟩ | ⟨xs, rfl⟩
    · cases hv with
      | lst _ _ => exact ⟨_, ru⟩
    · cases hv with
      | tup _ _ => exact ⟨_, ru⟩
  obtain ⟨a, rfl⟩ := isref
  obtain ⟨as, rd, ns⟩ := rd_of I1 hB hv ru e1
  refine PySem.repr_of_reads' rd h1 (fun _ => ns) hA (by omega) (fun _ _ z => z) (fun h' t tk k => ?_) h3
  exact ⟨.str pd.shown, H1, I1.kept k, ⟨_, rfl⟩, q _ _ α1 μ1 H1 r E1 X1 .str⟩
end
end Eg

namespace Eg
open PySem PySem.Spec L2
/-! ### keywords -/
section
variable {X : Cx} {e : Expr} {es : List Expr} {kws : List Keyword} {ρ : RO} {μ : List MO} {pos p kpos : Pos} {R : Cn} {nmO : Option Str}
def EvK (X : Cx) (ks : List Keyword) (ρ : RO) (μ : List MO) (R : Ca) : Prop := PK X ks (tEvA X ρ μ R)
def aK (X : Cx) (ks : List Keyword) : TA := fun σ H Q => ∃ t, PK X ks t ∧ t σ H Q
theorem pk_a {ks : List Keyword} : PK X ks (aK X ks) := ⟨fun pos pins s σ H Q I ⟨_, h, q⟩ => h.run pos pins s σ H Q I q⟩
theorem PKw {ks : List Keyword} {t t' : TA} (h : PK X ks t) (k : ∀ σ H Q, t' σ H Q → t σ H Q) : PK X ks t' := ⟨fun pos pins s σ H Q I q => h.run pos pins s σ H Q I (k σ H Q q)⟩
theorem EvK.nil {R : Ca} (h : R [] μ) : EvK X [] ρ μ R := PKw pk_nil fun σ H Q ⟨α, E, q⟩ => q [] [] α μ H h E E.live.refl .nil
theorem EvK.cons {R : Ca} (h : Ev X e ρ μ fun d μ1 => EvK X kws ρ μ1 fun ds μ2 => R (d :: ds) μ2) : EvK X (⟨nmO, e, kpos⟩ :: kws) ρ μ R :=
  PKw (pk_cons pe_a pk_a) fun σ H Q ⟨α, E, q⟩ => ⟨_, h, α, E, fun v d α1 μ1 H1 h1 E1 X1 hv => ⟨_, h1, α1, E1, fun vs ds α2 μ2 H2 h2 E2 X2 hvs => q _ _ α2 μ2 H2 h2 E2 (X1.trans X2) (.cons (X2.has hv) hvs)⟩⟩
end
/-! ### own exceptions as values -/
/-- __init__(self, ..) that stores: fl: what stands in the dict behind it -/
def spI (C : Addr) (n : Nat) (fl : List V → List (Str × V)) : Sp := fun vs H Q _ => ∃ a ys, vs = .ref a :: ys ∧ ys.length = n ∧ H a = some (exo a C none) ∧
  ∀ d H', H d = none → H' a = some (exo a C (some d)) → H' d = some (exd d (fl ys)) → (∀ b, H b ≠ none → b ≠ a → H' b = H b) → Q .non H'
/-- the class x of the text, at C: made by its own __init__ of n arguments besides self -/
structure XI (P : Program) (w : World) (K : PySem.W.Frag) (mg : Str → Option Value) (base : Heap) (x : Str) (C : Addr) (k n : Nat) (fl : List V → List (Str × V)) (ks : List Str) (perm : List Value → List Value) : Prop where
  gC : mg x = some (.ref C)
  oc : OexC K C
  ini : ∃ fI fd ps, ps.length = n + 1 ∧ PySem.W.findIn K (.ref C) "__init__" = some (some (.ref fI)) ∧ PySem.W.typeIn K (.ref fI) = some (.type "function") ∧ FnG P w K mg base k fI fd ps (spI C n fl) ∧
    (∀ (s : Shared) (us : List Value), us.length = ps.length → BindsTo s fd ⟨us, []⟩ (ps.zip us)) ∧
    ∀ (s : Shared) (u : Value) (us : List Value), us.length = n → BindsTo s fd ⟨[u], ks.zip us⟩ (ps.zip (u :: perm us))
theorem guards_call {A : Around} {args : Args} (h : A.guards = some []) : (A.under (.builtin "type.__call__" args)).guards = some [] := by
  have e : (Code.builtin "type.__call__" args).isGuard = false := by
    show guardIds.contains "type.__call__" = false
    decide +kernel
  simp [Around.under, Code.guards, e, pushGuards, h]
section
variable {X : Cx} {e : Expr} {es : List Expr} {kws : List Keyword} {ρ : RO} {μ : List MO} {pos p : Pos} {R : Cn} {x : Str} {k n : Nat} {C : Addr} {fl : List V → List (Str × V)} {ks : List Str} {perm : List Value → List Value}
/-- the call, the arguments being there -/
theorem make_E {pins : List (Addr × Obj)} {s : Shared} {σ : L2.St} {H : Hp} {Q : VK} {us rest : List Value} {kw : List (Str × Value)} {ys : List V} (oc : OexC X.K C) {fI : Addr} {fd : FuncData} {ps : List Str}
    (iC : PySem.W.findIn X.K (.ref C) "__init__" = some (some (.ref fI))) (tI : PySem.W.typeIn X.K (.ref fI) = some (.type "function")) (G : FnG X.prog X.w X.K X.mg X.base k fI fd ps (spI C n fl))
    (hA : X.A.guards = some []) (hr : Room (k + 1) X.A) (I : Inv X pins σ H s) (hz : rest.length ≤ sizeLine) (hb : ∀ s u, BindsTo s fd ⟨u :: rest, kw⟩ (ps.zip (u :: us))) (hn : ys.length = n) (rv : Vals ys us)
    (q : ∀ a d H', H a = none → H d = none → H' a = some (exo a C (some d)) → H' d = some (exd d (fl ys)) → (∀ b, H b ≠ none → H' b = H b) → Q (.ref a) H') :
    wpAny (model X.prog X.w) X.A (PySem.call (.ref C) rest kw) (EP X pins σ Q) X.xe s := by
  obtain ⟨nm, qn, N, bs, bm, sn, sub, ab, col, dd, k0, k1, k2, k3, k5, hC, hbm⟩ := oc.cls
  obtain ⟨hp, g, dr, tk, os⟩ := s
  have nw : H (hp.objs.size + 1) = none := I.hok.fresh (Nat.le_succ _)
  have kk : ∀ b o, hp.get? b = some o → (made hp C rest).get? b = some o := fun b o z => Heap.get?_push_of_some _ (Heap.get?_push_of_some _ z)
  have there : (made hp C rest).get? (hp.objs.size + 1) = some (exO0 C hp.objs.size) := by heap_get
  have I2 : Inv X pins σ (upd H (hp.objs.size + 1) (exo (hp.objs.size + 1) C none)) ⟨made hp C rest, g, dr, tk, os⟩ :=
    I.laid (t' := tk) (h' := made hp C rest) kk (Nat.le_succ _) (exo_ok there)
  have hsp : spI C n fl (.ref (hp.objs.size + 1) :: ys) (upd H (hp.objs.size + 1) (exo (hp.objs.size + 1) C none)) (fun v H2 => v = .non ∧ Q (.ref (hp.objs.size + 1)) H2) E0 := by
    refine ⟨_, ys, rfl, hn, upd_same, fun d H' h1 h2 h3 h4 => ⟨rfl, ?_⟩⟩
    have nd : d ≠ hp.objs.size + 1 := fun z => by
      rw [z, upd_same] at h1
      cases h1
    rw [upd_ne nd] at h1
    refine q _ d H' nw h1 h2 h3 fun b hb => ?_
    have nb : b ≠ hp.objs.size + 1 := fun z => hb (by rw [z]; exact nw)
    rw [h4 b (by rw [upd_ne nb]; exact hb) nb, upd_ne nb]
  refine wpAny_call (call_kwE F.excBase_ValueError (fun Y => PySem.HandSPX.refsVE_contains Y bm hbm) (I.kIn _ _ hC) hz (PySem.W.looks_findIn I.kIn iC) (fun self => PySem.W.bind_fn I.kIn self tI) ?_)
  refine codeAny_mono (G.go _ X.stack _ _ ⟨Value.ref (hp.objs.size + 1) :: rest, kw⟩ (Value.ref (hp.objs.size + 1) :: us) _ _ (guards_call hA) (hr.make C rest kw) (I2.env0.make C rest kw) (hb _ _) (Paired.cons (a := V.ref (hp.objs.size + 1)) (b := Value.ref (hp.objs.size + 1)) rfl rv) hsp) fun r s' hq => ?_
  match r, hq with
  | .ok (.ret u), hq =>
    obtain ⟨v, H', J, rr, ev, q'⟩ := I2.after hq
    have eu : u = Value.none := by
      subst ev
      exact rr
    exact ⟨eu, .ref _, H', J, rfl, q'⟩
  | .ok .next, z => exact False.elim z
  | .ok .brk, z => exact False.elim z
  | .ok .cont, z => exact False.elim z
  | .error _, z => exact False.elim z
/-- what is then to be shown, of the data ds of the arguments in the parameters' order -/
theorem made_ok {α1 : List Addr} {μ1 : List MO} {H1 : Hp} {σ : L2.St} {Q : VK} {ys : List V} {ds : List DV} {fd : List (Str × DV)} (E1 : En ⟨X.K, α1, μ1, H1⟩ σ ρ) (hv : HasL ⟨X.K, α1, μ1, H1⟩ ys ds)
    (hf : ∀ w, HasL w ys ds → HasF w (fl ys) fd) (q : Stp X ρ ⟨X.K, α1, μ1, H1⟩ σ R Q) (hR : R (.exc C fd) μ1) (a d : Addr) (H' : Hp) (_ : H1 a = none) (_ : H1 d = none) (h1 : H' a = some (exo a C (some d))) (h2 : H' d = some (exd d (fl ys))) (h3 : ∀ b, H1 b ≠ none → H' b = H1 b) : Q (.ref a) H' := by
  obtain ⟨k, l⟩ := E1.live.lays h3
  exact q _ _ α1 μ1 H' hR (E1.ext k l) k (.exc h1 h2 (hf _ (k.hasL hv)))
/-- X(e, ..) -/
theorem Ev.mkE {fdf : List DV → List (Str × DV)} (T : XI X.prog X.w X.K X.mg X.base x C k n fl ks perm) (hA : X.A.guards = some []) (hr : Room (k + 1) X.A) (hg : Gl X x) (hf : ∀ ys ds w, HasL w ys ds → ys.length = n → HasF w (fl ys) (fdf ds)) (h0 : n ≤ 1000)
    (h : EvA X (e :: es) ρ μ fun ds μ1 => ds.length = n ∧ R (.exc C (fdf ds)) μ1)
    (hdb : (x == ("__debug__" : Str)) = false := by decide) (he : starEach (e :: es) X.env = (false, eval e X.env) :: starEach es X.env := by rfl) (hpl : (backTo pos (starEach es X.env)).any (·.1) = false := by rfl) :
    Ev X (.Call (.Name x p) (e :: es) [] pos) ρ μ R := by
  obtain ⟨gC, oc, fI, fd, ps, hps, iC, tI, G, hb, _⟩ := T
  refine ⟨fun pins s σ H Q I ⟨α, E, q⟩ => wpAny_Call_Name_kw (ld_glob I hg gC ?_ hdb)⟩
  have ha : PA X (e :: es) (tEvA X ρ μ fun ds μ1 => ds.length = n ∧ R (.exc C (fdf ds)) μ1) := h
  refine PySem.W.callWith_K (h₀ := X.base) I.ok.mod.kin oc.kC (thn (ha.run pos pins s σ H (fun vs H1 => ∃ α1 μ1 ds, (ds.length = n ∧ R (.exc C (fdf ds)) μ1) ∧ En ⟨X.K, α1, μ1, H1⟩ σ ρ ∧ Kp ⟨X.K, α, μ, H⟩ ⟨X.K, α1, μ1, H1⟩ ∧ HasL ⟨X.K, α1, μ1, H1⟩ vs ds) I
    ⟨α, E, fun vs ds α1 μ1 H1 c E1 X1 hv => ⟨α1, μ1, ds, c, E1, X1, hv⟩⟩) ?_) he hpl
  rintro us s1 ⟨vs, H1, I1, rv, α1, μ1, ds, ⟨hn, r⟩, E1, X1, hv⟩
  refine ⟨I1.kIn, ?_⟩
  have hl : vs.length = n := hv.length.trans hn
  have hu : us.length = n := rv.length.symm.trans hl
  refine make_E (us := us) (rest := us) (kw := []) (ys := vs) oc iC tI G hA hr I1 (by rw [hu, PySem.sizeLine_eq]; omega) (fun s' u => hb s' (u :: us) (by rw [List.length_cons, hu, hps])) hl rv fun a d H' z1 z2 z3 z4 z5 => ?_
  exact made_ok (fd := fdf ds) E1 hv (fun w hw => hf _ _ w hw hl) (fun v d' α' μ' H'' r' E' k' hv' => q v d' α' μ' H'' r' E' (X1.trans k') hv') r a d H' z1 z2 z3 z4 z5
/-- X(f = e, ..) -/
theorem Ev.mkEK {fdf : List DV → List (Str × DV)} (T : XI X.prog X.w X.K X.mg X.base x C k n fl ks perm) (hA : X.A.guards = some []) (hr : Room (k + 1) X.A) (hg : Gl X x) (permV : List V → List V) (permD : List DV → List DV)
    (hp1 : ∀ vs us, Vals vs us → vs.length = n → Vals (permV vs) (perm us) ∧ (permV vs).length = n) (hp2 : ∀ w vs ds, HasL w vs ds → vs.length = n → HasL w (permV vs) (permD ds))
    (hf : ∀ ys ds w, HasL w ys ds → ys.length = n → HasF w (fl ys) (fdf ds))
    (h : EvK X kws ρ μ fun ds μ1 => ds.length = n ∧ R (.exc C (fdf (permD ds))) μ1) (hall : (backToKw pos (keywordEach kws X.env)).all (·.1.isSome) = true := by rfl) (hks : (backToKw pos (keywordEach kws X.env)).filterMap (·.1) = ks := by rfl)
    (hpl : ((backTo pos (starEach [] X.env)).any (·.1) || (backToKw pos (keywordEach kws X.env)).any (·.1.isNone)) = false := by rfl) (hdb : (x == ("__debug__" : Str)) = false := by decide) :
    Ev X (.Call (.Name x p) [] kws pos) ρ μ R := by
  obtain ⟨gC, oc, fI, fd, ps, hps, iC, tI, G, _, hb⟩ := T
  refine ⟨fun pins s σ H Q I ⟨α, E, q⟩ => wpAny_Call_Name_kw (ld_glob I hg gC ?_ hdb)⟩
  have ha : PK X kws (tEvA X ρ μ fun ds μ1 => ds.length = n ∧ R (.exc C (fdf (permD ds))) μ1) := h
  refine PySem.W.callWith_KW0 (h₀ := X.base) I.ok.mod.kin oc.kC hall (thn (ha.run pos pins s σ H (fun vs H1 => ∃ α1 μ1 ds, (ds.length = n ∧ R (.exc C (fdf (permD ds))) μ1) ∧ En ⟨X.K, α1, μ1, H1⟩ σ ρ ∧ Kp ⟨X.K, α, μ, H⟩ ⟨X.K, α1, μ1, H1⟩ ∧ HasL ⟨X.K, α1, μ1, H1⟩ vs ds) I
    ⟨α, E, fun vs ds α1 μ1 H1 c E1 X1 hv => ⟨α1, μ1, ds, c, E1, X1, hv⟩⟩) ?_) hpl
  rintro us s1 ⟨vs, H1, I1, rv, α1, μ1, ds, ⟨hn, r⟩, E1, X1, hv⟩
  refine ⟨I1.kIn, ?_⟩
  rw [hks]
  have hl : vs.length = n := hv.length.trans hn
  have hu : us.length = n := rv.length.symm.trans hl
  obtain ⟨pv, pl⟩ := hp1 vs us rv hl
  show wpAny _ _ (PySem.call (.ref C) [] (ks.zip us)) _ _ s1
  refine make_E (us := perm us) (rest := []) (kw := ks.zip us) (ys := permV vs) oc iC tI G hA hr I1 (Nat.zero_le _) (fun s' u => hb s' u us hu) pl pv fun a d H' z1 z2 z3 z4 z5 => ?_
  exact made_ok (fd := fdf (permD ds)) E1 (hp2 _ _ _ hv hl) (fun w hw => hf _ _ w hw pl) (fun v d' α' μ' H'' r' E' k' hv' => q v d' α' μ' H'' r' E' (X1.trans k') hv') r a d H' z1 z2 z3 z4 z5
/-- X() of a class without own __init__ -/
theorem Ev.mkE0 {bmB : List Value} {B newId initId : String} (F : ExcBaseFacts B newId initId bmB) (qx : PySem.W.excIn X.K C bmB newId = true) (gC : X.mg x = some (.ref C)) (kC : PySem.W.keepIn X.K (.ref C) = true) (hg : Gl X x)
    (h : R (.exc C []) μ) (hdb : (x == ("__debug__" : Str)) = false := by decide) : Ev X (.Call (.Name x p) [] [] pos) ρ μ R := by
  refine ⟨fun pins s σ H Q I ⟨α, E, q⟩ => wpAny_Call_Name_kw (ld_glob I hg gC ?_ hdb)⟩
  refine PySem.W.callWith_K0 I.kIn kC ?_
  obtain ⟨bm, N, nm, qn, bs, hdct, sn, sub, ab, col, dd, k0, k1, k2, k3, k5, mN, hC, hN, hni, T⟩ := exc_obj I.kIn qx
  refine wpAny_call_exc_subT F T hC hN hni (fun h' a hm => ?_) (Nat.zero_le _)
  have hn : H a = none := I.hok.gone hm.new
  obtain ⟨t, ht, _, _⟩ := hm.there
  obtain ⟨k, l⟩ := E.live.lay (o := ExO (.ref C) a) hn
  exact ⟨.ref a, upd H a (ExO (.ref C) a), I.laidN hm.keeps hm.new hn (exO_ok ht ⟨rfl, rfl⟩ rfl rfl rfl (show 4 < 6 by decide)), rfl, q _ _ α μ _ h (E.ext k l) k (.exc0 upd_same)⟩
/-! ### e.f, isinstance(e, T) -/
/-- what an own exception class says of its instances -/
structure XC (K : PySem.W.Frag) (C : Addr) : Prop where
  cl : (PySem.W.clsIn K C).isSome = true
  ga : PySem.W.findIn K (.ref C) "__getattribute__" = some (some (.builtin "BaseException.__getattribute__"))
  gg : PySem.W.findIn K (.ref C) "__getattr__" = some none
  sb : PySem.W.subIn K (.ref C) (.type "BaseException") = some true
  hd : PySem.W.hasDictIn K C = true
  ca : PySem.W.findIn K (.ref C) "__class__" = some (some (.builtin "object.__class__"))
  sp : PySem.W.specialIn K (.builtin "object.__class__") "__get__" = some (some (.builtin "getset_descriptor.__get__"))
  tk : PySem.W.takesIn K (.builtin "object.__class__") = some true
  mr : PySem.W.mroIn K C (.type "object") = some true
theorem hasF_look {w : Wd} {f : Str} {d : DV} : ∀ {fs : List (Str × V)} {ds : List (Str × DV)}, HasF w fs ds → ds.lookup f = some d → ∃ v, fs.lookup f = some v ∧ Has w v d
  | _, _, .nil, e => by cases e
  | _, _, .cons (k := g) h t, e => by
    by_cases c : f = g
    · subst c
      simp only [List.lookup, beq_self_eq_true] at e ⊢
      cases e
      exact ⟨_, rfl, h⟩
    · have c' : (f == g) = false := by simpa using c
      simp only [List.lookup, c'] at e ⊢
      exact hasF_look t e
end
section
variable {X : Cx} {e : Expr} {ρ : RO} {μ : List MO} {pos p py : Pos} {R : Cn} {f : Str}
/-- e.f of an own exception -/
theorem Ev.attrE (h : Ev X e ρ μ fun d μ1 => ∃ C fs v, d = .exc C fs ∧ XC X.K C ∧ PySem.W.findIn X.K (.ref C) f = some none ∧ fs.lookup f = some v ∧ R v μ1)
    (hb : attributeBase e f X.env (eval e X.env) = eval e X.env := by rfl) : Ev X (.Attribute e f pos) ρ μ R := by
  refine ⟨fun pins s σ H Q I ⟨α, E, q⟩ => attr_of hb (thn (h.run pins s σ H (fun v H1 => ∃ α1 μ1 d, (∃ C fs v, d = .exc C fs ∧ XC X.K C ∧ PySem.W.findIn X.K (.ref C) f = some none ∧ fs.lookup f = some v ∧ R v μ1) ∧ En ⟨X.K, α1, μ1, H1⟩ σ ρ ∧ Kp ⟨X.K, α, μ, H⟩ ⟨X.K, α1, μ1, H1⟩ ∧ Has ⟨X.K, α1, μ1, H1⟩ v d) I
    ⟨α, E, fun v d α1 μ1 H1 c E1 X1 hv => ⟨α1, μ1, d, c, E1, X1, hv⟩⟩) ?_)⟩
  rintro u s1 ⟨v, H1, I1, rv, α1, μ1, d, ⟨C, fs, y, rfl, T, hno, hl, r⟩, E1, X1, hv⟩
  cases hv with
  | exc0 _ => cases hl
  | @exc a _ dd ws _ h1 h2 hf =>
    have eu : u = Value.ref a := rv
    subst eu
    obtain ⟨t1, ho⟩ := exo_at I1.hok h1
    obtain ⟨mA, hns, rel⟩ := exd_at I1.hok h2
    obtain ⟨od, hod, hlk⟩ := lookIn_ns hns
    obtain ⟨z, hz, hy⟩ := hasF_look hf hl
    obtain ⟨u', hu', ru⟩ := RelO.some_of (v := z) (o := mA f) (by rw [← hz]; exact rel f)
    have J : PySem.W.InstAt s1.heap a _ C (some od) := ⟨ho, rfl, rfl, hod⟩
    exact HandSPX.exc_get I1.kIn J T.ga T.gg T.sb (PySem.W.findObj_own T.hd hno rfl (by rw [hlk, hu'])) (handed_of ru) ⟨z, H1, I1.tok _, ru, q _ _ α1 μ1 H1 r E1 X1 hy⟩
/-- an own exception of the class at C stands at a -/
def ExAt (H : Hp) (a C : Addr) : Prop := (∃ d fs, H a = some (exo a C (some d)) ∧ H d = some (exd d fs)) ∨ H a = some (ExO (.ref C) a)
theorem exAt_inst {pins : List (Addr × Obj)} {σ : L2.St} {H : Hp} {s : Shared} {a C : Addr} (I : Inv X pins σ H s) (h : ExAt H a C) : ∃ ox od, PySem.W.InstAt s.heap a ox C od := by
  rcases h with ⟨d, fs, h1, h2⟩ | h
  · obtain ⟨t1, ho⟩ := exo_at I.hok h1
    obtain ⟨mA, ⟨od, es, ep, hod, _⟩, rel⟩ := exd_at I.hok h2
    exact ⟨_, some od, ho, rfl, rfl, hod⟩
  · obtain ⟨⟨oe, vs, ho, hz, hd, _⟩, _, _⟩ := I.hok a _ h
    obtain ⟨oc, odd, oda, osl⟩ := oe
    obtain ⟨e1, e2⟩ := hz
    dsimp only at e1 e2 hd
    subst e1 e2 hd
    exact ⟨_, none, ho, rfl, rfl, trivial⟩
def rIsX (K : PySem.W.Frag) : List V → Hp → VK → Prop := fun xs H Q => ∃ a C c cv b, xs = [.ref a, c] ∧ ExAt H a C ∧ XC K C ∧ (∀ u, RelV c u → u = cv) ∧ PySem.W.kitOne K (.ref C) cv = some b ∧ Q (.bl b) H
theorem call_isX : CallR X (.builtin "isinstance") (rIsX X.K) := by
  intro pins s σ H xs us Q I r h
  obtain ⟨a, C, c, cv, b, rfl, ex, T, hc, hk, q⟩ := h
  obtain ⟨u, u', rfl, r1, r2⟩ := vals2 r
  have e1 : u = Value.ref a := r1
  have e2 := hc _ r2
  subst e1 e2
  obtain ⟨ox, od, J⟩ := exAt_inst I ex
  exact PySem.W.kia_one (PySem.W.kitx_exc T.cl T.ga T.gg T.sb T.ca T.sp T.tk T.mr) I.kIn J hk (fun z => nomatch z) fun tk => ⟨.bl b, H, I.kept (t' := tk) fun _ _ z => z, rfl, q⟩
theorem exAt_of {w : Wd} {v : V} {C : Addr} {fs : List (Str × DV)} (h : Has w v (.exc C fs)) : ∃ a, v = .ref a ∧ ExAt w.H a C := by
  cases h with
  | exc h1 h2 _ => exact ⟨_, rfl, .inl ⟨_, _, h1, h2⟩⟩
  | exc0 h1 => exact ⟨_, rfl, .inr h1⟩
/-- isinstance(e, y), y a class: own or built in -/
theorem Ev.isE {y : Str} {c : V} {cv : Value} (hg : Gl X "isinstance") (hm : X.mg "isinstance" = none) (hy : PE X (.Name y py) (tC c)) (hcv : ∀ u, RelV c u → u = cv)
    (h : Ev X e ρ μ fun d μ1 => ∃ C fs b, d = .exc C fs ∧ XC X.K C ∧ PySem.W.kitOne X.K (.ref C) cv = some b ∧ R (.bl b) μ1)
    (he : starEach [e, .Name y py] X.env = (false, eval e X.env) :: starEach [.Name y py] X.env := by rfl) (hpl : (backTo pos (starEach [.Name y py] X.env)).any (·.1) = false := by rfl)
    (hs : starEach [.Name y py] X.env = (false, eval (.Name y py) X.env) :: starEach [] X.env := by rfl) : Ev X (.Call (.Name "isinstance" p) [e, .Name y py] [] pos) ρ μ R :=
  PEw (pe_callB call_isX hg hm PyProof.Rows.boot_isinstance (pa_cons pe_a (pa_cons hy pa_nil hs) he) (by decide) (by decide) he hpl) fun σ H Q ⟨α, E, q⟩ => ⟨_, h, α, E, fun v d α1 μ1 H1 ⟨C, fs, b, e, T, hk, r⟩ E1 X1 hv => by
    subst e
    obtain ⟨a, rfl, ex⟩ := exAt_of hv
    exact ⟨a, C, c, cv, b, rfl, ex, T, hcv, hk, q _ _ α1 μ1 H1 r E1 X1 .bl⟩⟩
end
end Eg

namespace Eg
open PySem PySem.Spec L2
section
variable {X : Cx} {a b c : Expr} {ρ : RO} {μ : List MO} {pos : Pos}
abbrev toT (R : Ct) : Cn := fun d μ' => ∃ k, d = .bl k ∧ R k μ'
theorem EvT.cmpS {op : CmpOp} {R : Ct} {r : R2} {S : S2} (hr : OpR X (compareOp op) r) (k : R2S X r S) (hm : behindInMarks op b = false) (h : Ev X a ρ μ fun da μ1 => Ev X b ρ μ1 fun db μ2 => S da db μ2 (toT R)) : EvT X (.Compare a [op] [b] pos) ρ μ R :=
  PTw (pt_cmpR hr pe_a pe_a hm) fun σ H Q ⟨α, E, q⟩ => ⟨_, h, α, E, fun x da α1 μ1 H1 h1 E1 X1 hx => ⟨_, h1, α1, E1, fun y db α2 μ2 H2 h2 E2 X2 hy =>
    k α2 μ2 H2 σ ρ x y da db _ _ E2 (X2.has hx) hy h2 fun v d α' μ' H' ⟨t, e, r'⟩ E' X' hv => by
      subst e
      cases hv
      exact ⟨t, rfl, q t α' μ' H' r' E' (X1.trans (X2.trans X'))⟩⟩⟩
theorem EvT.lt {R : Ct} (h : Ev X a ρ μ fun da μ1 => Ev X b ρ μ1 fun db μ2 => sLt da db μ2 (toT R)) : EvT X (.Compare a [.Lt] [b] pos) ρ μ R := .cmpS op_lt (rI0_S fun _ _ _ => .bl) (nomark _) h
theorem EvT.le {R : Ct} (h : Ev X a ρ μ fun da μ1 => Ev X b ρ μ1 fun db μ2 => sLe da db μ2 (toT R)) : EvT X (.Compare a [.LtE] [b] pos) ρ μ R := .cmpS op_le (rI0_S fun _ _ _ => .bl) (nomark _) h
theorem EvT.gt {R : Ct} (h : Ev X a ρ μ fun da μ1 => Ev X b ρ μ1 fun db μ2 => sGt da db μ2 (toT R)) : EvT X (.Compare a [.Gt] [b] pos) ρ μ R := .cmpS op_gt (rI0_S fun _ _ _ => .bl) (nomark _) h
theorem EvT.ge {R : Ct} (h : Ev X a ρ μ fun da μ1 => Ev X b ρ μ1 fun db μ2 => sGe da db μ2 (toT R)) : EvT X (.Compare a [.GtE] [b] pos) ρ μ R := .cmpS op_ge (rI0_S fun _ _ _ => .bl) (nomark _) h
theorem EvT.eq {R : Ct} (h : Ev X a ρ μ fun da μ1 => Ev X b ρ μ1 fun db μ2 => sEq da db μ2 (toT R)) : EvT X (.Compare a [.Eq] [b] pos) ρ μ R := .cmpS op_eq rEq_S (nomark _) h
theorem EvT.ne {R : Ct} (h : Ev X a ρ μ fun da μ1 => Ev X b ρ μ1 fun db μ2 => sNe da db μ2 (toT R)) : EvT X (.Compare a [.NotEq] [b] pos) ρ μ R := .cmpS op_ne rNe_S (nomark _) h
theorem EvT.chain {op op' : CmpOp} {r r' : R2} {S S' : S2} {R : Ct} (ho : OpR X (compareOp op) r) (k : R2S X r S) (ho' : OpR X (compareOp op') r') (k' : R2S X r' S')
    (h : Ev X a ρ μ fun da μ1 => Ev X b ρ μ1 fun db μ2 => S da db μ2 fun d μ3 => ∃ t, d = .bl t ∧ if t = true then Ev X c ρ μ3 fun dc μ4 => S' db dc μ4 (toT R) else R false μ3) (hm : lastMarks [op, op'] [b, c] = false := by with_unfolding_all rfl) :
    EvT X (.Compare a [op, op'] [b, c] pos) ρ μ R := PTw (pt_chain ho ho' pe_a pe_a pe_a hm) fun σ H Q ⟨α, E, q⟩ =>
  ⟨_, h, α, E, fun x da α1 μ1 H1 h1 E1 X1 hx => ⟨_, h1, α1, E1, fun y db α2 μ2 H2 h2 E2 X2 hy =>
    k α2 μ2 H2 σ ρ x y da db _ _ E2 (X2.has hx) hy h2 fun v d α3 μ3 H3 ⟨t, e, h3⟩ E3 X3 hv => by
      subst e
      cases hv
      refine ⟨t, rfl, ?_⟩
      cases t with
      | true =>
        refine iteT ⟨_, show Ev X c ρ μ3 _ from h3, α3, E3, fun z dc α4 μ4 H4 h4 E4 X4 hz => k' α4 μ4 H4 σ ρ y z db dc _ _ E4 (X4.has (X3.has hy)) hz h4 fun v d α' μ' H' ⟨t2, e2, r'⟩ E' X' hv => ?_⟩
        subst e2
        cases hv
        exact ⟨t2, rfl, q t2 α' μ' H' r' E' (X1.trans (X2.trans (X3.trans (X4.trans X'))))⟩
      | false => exact iteF ⟨false, rfl, q _ α3 μ3 H3 h3 E3 (X1.trans (X2.trans X3))⟩⟩⟩
/-! ### lists of truths, whole numbers .. compared: == and != of data -/

mutual
theorem dp_has {w : Wd} : ∀ {v : V} {d : DV} {pd : PyData}, Has w v d → toPy d = some pd → pd.hasDict = false → Dp w.K w.H v pd
  | _, _, _, .non, e, _ => by cases e; exact .non
  | _, _, _, .bl, e, _ => by cases e; exact .bl _
  | _, _, _, .int, e, _ => by cases e; exact .int _
  | _, _, _, .str, e, _ => by cases e; exact .str _
  | _, _, _, .tup h t, e, nd => by
    obtain ⟨ds, e1, e2⟩ := Option.map_eq_some_iff.mp e
    subst e2
    exact .tup h (dpL_has t e1 (by simpa [PyData.hasDict] using nd))
  | _, _, _, @Has.lst _ p vs _ h t, e, nd => by
    obtain ⟨ds, e1, e2⟩ := Option.map_eq_some_iff.mp e
    subst e2
    have sq : SqL w.K w.H p vs := by
      rcases h with ⟨_, h⟩ | h
      · exact .inl h
      · exact h.sq
    exact .lst sq (dpL_has t e1 (by simpa [PyData.hasDict] using nd))
  | _, _, _, @Has.dic _ _ _ kds _ _ _, e, nd => by
    cases kds with
    | nil => cases e; simp [PyData.hasDict] at nd
    | cons _ _ => cases e
  | _, _, _, .exc _ _ _, e, _ => by cases e
  | _, _, _, .exc0 _, e, _ => by cases e
  | _, _, _, .mu _, e, _ => by cases e
theorem dpL_has {w : Wd} : ∀ {vs : List V} {ds : List DV} {pds : List PyData}, HasL w vs ds → toPyL ds = some pds → PyData.hasDictAll pds = false → DpAll w.K w.H vs pds
  | _, _, _, .nil, e, _ => by cases e; exact .nil
  | _, _, _, .cons h t, e, nd => by
    obtain ⟨d, e1, e2⟩ := Option.bind_eq_some_iff.mp e
    obtain ⟨ds, e3, e4⟩ := Option.map_eq_some_iff.mp e2
    subst e4
    have nd' : (PyData.hasDict d || PyData.hasDictAll ds) = false := by simpa [PyData.hasDictAll] using nd
    exact .cons (dp_has h e1 (Bool.or_eq_false_iff.mp nd').1) (dpL_has t e3 (Bool.or_eq_false_iff.mp nd').2)
end
def sEqD : S2 := fun x y μ R => ∃ d e, toPy x = some d ∧ toPy y = some e ∧ d.hasDict = false ∧ e.hasDict = false ∧ SeqAt.shaped d = true ∧ SeqAt.shaped e = true ∧ R (.bl (PyData.eqv d e)) μ
def sNeD : S2 := fun x y μ R => ∃ d e, toPy x = some d ∧ toPy y = some e ∧ d.hasDict = false ∧ e.hasDict = false ∧ SeqAt.shaped d = true ∧ SeqAt.shaped e = true ∧ R (.bl (!PyData.eqv d e)) μ
theorem rEqD_S : R2S X (rEqD X.K) sEqD := fun α μ H σ ρ x y da db R Q E hx hy h q => by
  obtain ⟨d, e, e1, e2, n1, n2, s1, s2, r⟩ := h
  exact ⟨d, e, dp_has hx e1 n1, dp_has hy e2 n2, s1, s2, q.sc E r .bl⟩
theorem rNeD_S : R2S X (rNeD X.K) sNeD := fun α μ H σ ρ x y da db R Q E hx hy h q => by
  obtain ⟨d, e, e1, e2, n1, n2, s1, s2, r⟩ := h
  exact ⟨d, e, dp_has hx e1 n1, dp_has hy e2 n2, s1, s2, q.sc E r .bl⟩
theorem EvT.neD {R : Ct} (hu : X.A.units + 64 < cLine) (h : Ev X a ρ μ fun da μ1 => Ev X b ρ μ1 fun db μ2 => sNeD da db μ2 (toT R)) : EvT X (.Compare a [.NotEq] [b] pos) ρ μ R := .cmpS (op_neD hu) rNeD_S (nomark _) h
theorem EvT.eqD {R : Ct} (hu : X.A.units + 64 < cLine) (h : Ev X a ρ μ fun da μ1 => Ev X b ρ μ1 fun db μ2 => sEqD da db μ2 (toT R)) : EvT X (.Compare a [.Eq] [b] pos) ρ μ R := .cmpS (op_eqD hu) rEqD_S (nomark _) h
/-! ### short words -/
theorem items_mu {k : Nat} {ds : List DV} (h : μ[k]? = some (.lst ds)) : itemsD μ (.mu k) = some ds := by
  show (match μ[k]? with | some (.lst ds) => some ds | _ => none) = some ds
  rw [h]
theorem sIx.mu {k : Nat} {ds : List DV} {i : Int} {d : DV} {R : Cn} (h : μ[k]? = some (.lst ds)) (e : atI ds i = some d) (r : R d μ) : sIx (.mu k) (.int i) μ R := .inl ⟨ds, i, d, items_mu h, rfl, e, r⟩
theorem sIx.tup {ds : List DV} {i : Int} {d : DV} {R : Cn} (e : atI ds i = some d) (r : R d μ) : sIx (.tup ds) (.int i) μ R := .inl ⟨ds, i, d, rfl, rfl, e, r⟩
theorem sIx.lst {ds : List DV} {i : Int} {d : DV} {R : Cn} (e : atI ds i = some d) (r : R d μ) : sIx (.lst ds) (.int i) μ R := .inl ⟨ds, i, d, rfl, rfl, e, r⟩
theorem ifd {p : Prop} [Decidable p] {A B : Prop} (h1 : p → A) (h2 : ¬ p → B) : if decide p = true then A else B := by
  by_cases h : p
  · rw [decide_eq_true h]
    exact iteT (h1 h)
  · rw [decide_eq_false h]
    exact iteF (h2 h)
theorem ifdT {p : Prop} [Decidable p] {A B : Prop} (h : p) (h1 : A) : if decide p = true then A else B := ifd (fun _ => h1) fun z => absurd h z
theorem ifdF {p : Prop} [Decidable p] {A B : Prop} (h : ¬ p) (h1 : B) : if decide p = true then A else B := ifd (fun z => absurd z h) fun _ => h1
theorem ifnT {p : Prop} [Decidable p] {A B : Prop} (h : ¬ p) (h1 : A) : if (!decide p) = true then A else B := by
  rw [decide_eq_false h]
  exact iteT h1
theorem ifnF {p : Prop} [Decidable p] {A B : Prop} (h : p) (h1 : B) : if (!decide p) = true then A else B := by
  rw [decide_eq_true h]
  exact iteF h1
theorem atI_of {α : Type} {xs : List α} {i : Int} {d : α} (h0 : 0 ≤ i) (h : xs[i.toNat]? = some d) : atI xs i = some d := by
  obtain ⟨hl, _⟩ := List.getElem?_eq_some_iff.mp h
  unfold atI ixN
  rw [if_pos h0, if_pos (by omega)]
  exact h
/-! ### the leaves -/
theorem sAdd.mk {i j : Int} {R : Cn} (r : R (.int (i + j)) μ) : sAdd (.int i) (.int j) μ R := ⟨i, j, rfl, rfl, r⟩
theorem sSub.mk {i j : Int} {R : Cn} (r : R (.int (i - j)) μ) : sSub (.int i) (.int j) μ R := ⟨i, j, rfl, rfl, r⟩
theorem sMul.mk {i j : Int} {R : Cn} (h : CMulW i j) (r : R (.int (i * j)) μ) : sMul (.int i) (.int j) μ R := ⟨i, j, rfl, rfl, h, r⟩
theorem sMod.mk {i j : Int} {R : Cn} (h : j ≠ 0) (r : R (.int (i.fmod j)) μ) : sMod (.int i) (.int j) μ R := ⟨i, j, rfl, rfl, h, r⟩
theorem sDiv.mk {i j : Int} {R : Cn} (h : CDivW i j) (r : R (.int (i / j)) μ) : sDiv (.int i) (.int j) μ R := ⟨i, j, rfl, rfl, h, r⟩
theorem sPow.mk {i j : Int} {R : Cn} (h : CPow i j) (r : R (.int (i ^ j.toNat)) μ) : sPow (.int i) (.int j) μ R := ⟨i, j, rfl, rfl, h, r⟩
theorem sLt.mk {i j : Int} {R : Cn} (r : R (.bl (decide (i < j))) μ) : sLt (.int i) (.int j) μ R := ⟨i, j, rfl, rfl, r⟩
theorem sLe.mk {i j : Int} {R : Cn} (r : R (.bl (decide (i ≤ j))) μ) : sLe (.int i) (.int j) μ R := ⟨i, j, rfl, rfl, r⟩
theorem sGt.mk {i j : Int} {R : Cn} (r : R (.bl (decide (j < i))) μ) : sGt (.int i) (.int j) μ R := ⟨i, j, rfl, rfl, r⟩
theorem sGe.mk {i j : Int} {R : Cn} (r : R (.bl (decide (j ≤ i))) μ) : sGe (.int i) (.int j) μ R := ⟨i, j, rfl, rfl, r⟩
theorem v_int {i j : Int} : decide (V.int i = V.int j) = decide (i = j) := by
  by_cases h : i = j
  · rw [h]; simp
  · rw [decide_eq_false h, decide_eq_false fun z => h (V.int.inj z)]
theorem sEq.int {i j : Int} {R : Cn} (r : R (.bl (decide (i = j))) μ) : sEq (.int i) (.int j) μ R := ⟨_, _, rfl, rfl, rfl, by rw [v_int]; exact r⟩
theorem sNe.int {i j : Int} {R : Cn} (r : R (.bl (!decide (i = j))) μ) : sNe (.int i) (.int j) μ R := ⟨_, _, rfl, rfl, rfl, by rw [v_int]; exact r⟩
theorem toT.mk {k : Bool} {R : Ct} (r : R k μ) : toT R (.bl k) μ := ⟨k, rfl, r⟩
theorem mulok {i j : Int} (h1 : i.natAbs < 18446744073709551616) (h2 : j.natAbs < 18446744073709551616) : CMulW i j :=
  wide_mul (a := 64) (b := 64) h1 h2 (by decide) (by decide) (by decide)
theorem divok {i j : Int} (h1 : 0 < j) (h2 : j.natAbs < 18446744073709551616) : CDivW i j := wide_div (b := 64) h1 h2 (by decide) (by decide)
theorem fmod_in {i j : Int} (h : 0 < j) : 0 ≤ i.fmod j ∧ i.fmod j < j := by
  rw [Int.fmod_eq_emod_of_nonneg _ (by omega)]
  exact ⟨Int.emod_nonneg _ (by omega), Int.emod_lt_of_pos _ h⟩
end
theorem Fn.imp {P : Program} {w : World} {K : PySem.W.Frag} {mg : Str → Option Value} {base : Heap} {x : Str} {k : Nat} {C C' : Ctr} (F : Fn P w K mg base x k C) (h : ∀ ds μ R, C' ds μ R → C ds μ R) : Fn P w K mg base x k C' := by
  obtain ⟨f, fd, ps, ⟨l, g⟩, r⟩ := F
  have imp : ∀ vs H Q E, SpD K C' vs H Q E → SpD K C vs H Q E := fun vs H Q E ⟨α, μ, ds, R, z1, z2, z3, z4⟩ => ⟨α, μ, ds, R, z1, z2, h _ _ _ z3, z4⟩
  exact ⟨f, fd, ps, ⟨fun vs H Q E z => l vs H Q E (imp _ _ _ _ z), fun A outer s H args us vs Q h1 h2 h3 h4 h5 h6 => g A outer s H args us vs Q h1 h2 h3 h4 h5 (imp _ _ _ _ h6)⟩, r⟩
end Eg

namespace Eg
open PySem PySem.Spec L2
section
variable {X : Cx} {ρ : RO} {μ : List MO} {pos : Pos}
theorem hasL3 {w : Wd} {vs : List V} {d e f : DV} (h : HasL w vs [d, e, f]) : ∃ v u t, vs = [v, u, t] ∧ Has w v d ∧ Has w u e ∧ Has w t f := by
  cases h with
  | cons h t =>
    obtain ⟨u, x, rfl, h2, h3⟩ := hasL2 t
    exact ⟨_, u, x, rfl, h, h2, h3⟩
/-- a, b, c = e1, e2, e3 -/
theorem St.par3 {R : Co} {e1 e2 e3 : Expr} (i j l : Nat) {x y z : Str} {px py pz pt : Pos} {kt k2 pt2} (hc : X.calm = true) (hN : X.N.Nodup) (hi : X.N[i]? = some x) (hj : X.N[j]? = some y) (hl : X.N[l]? = some z) (hij : i ≠ j) (hil : i ≠ l) (hjl : j ≠ l)
    (hx : X.env.scope.names.lookup x = some .local) (hy : X.env.scope.names.lookup y = some .local) (hz : X.env.scope.names.lookup z = some .local)
    (h : EvA X [e1, e2, e3] ρ μ fun ds μ1 => ∃ d1 d2 d3, ds = [d1, d2, d3] ∧ R (.nx (((ρ.set i (some d1)).set j (some d2)).set l (some d3)) μ1))
    (hw : swappedStores [.Tuple [.Name x px, .Name y py, .Name z pz] kt pt] (.Tuple [e1, e2, e3] k2 pt2) X.env = pure (some [x, y, z]) := by rfl)
    (hs : swapsWithSole [.Tuple [.Name x px, .Name y py, .Name z pz] kt pt] (.Tuple [e1, e2, e3] k2 pt2) pos.line X.env = pure false := by rfl) :
    St X (.Assign [.Tuple [.Name x px, .Name y py, .Name z pz] kt pt] (.Tuple [e1, e2, e3] k2 pt2) pos) ρ μ R :=
  PSw (ps_par3 hc hN hi hj hl hij hil hjl hx hy hz pa_a hw hs) fun D σ H ⟨α, E, q⟩ => ⟨_, h, α, E, fun vs ds α1 μ1 H1 ⟨d1, d2, d3, e, r⟩ E1 X1 hv => by
    subst e
    obtain ⟨v, u, t, rfl, hv1, hv2, hv3⟩ := hasL3 hv
    exact ⟨v, u, t, rfl, q.1 _ _ α1 μ1 H1 r (((E1.set i hv1).set j hv2).set l hv3) X1⟩⟩
/-- y = [e for x in xs] -/
theorem St.setLc {R : Co} {elt iter : Expr} {scope : Scope} {x y : Str} {px py spos : Pos} (i j : Nat) (hc : X.calm = true) (hN : X.N.Nodup) (hy : X.N[i]? = some y) (hyl : X.env.scope.names.lookup y = some .local)
    (hsw : swapsWith (.ListComp elt [⟨.Name x px, iter, [], 0⟩] scope pos) (some (.Name y py)) spos.line X.env = pure true) (hj : X.N[j]? = some x) (ok : BlkOk X.N X.env.scope scope [(x, j)])
    (hl : ∀ (s : Shared) (H : Hp) (C : Addr) (cl : List (Str × Addr)) (fp : List Addr), Loc (blkX X s H scope C cl fp).env.scope x ∧ ((blkX X s H scope C cl fp).fn x = true ∨ (blkX X s H scope C cl fp).env.scope.names.lookup x = some .local))
    (h : LcOk X scope elt iter x px j ρ μ fun d μ1 => R (.nx (ρ.set i (some d)) μ1)) (hs : ∀ x, foldedSetIterable iter X.env x = pure x := by intro _; rfl) :
    St X (.Assign [.Name y py] (.ListComp elt [⟨.Name x px, iter, [], 0⟩] scope pos) spos) ρ μ R :=
  PSw (ps_setLc (own := [(x, j)]) (g := gName j) hc hN hy hyl hsw pi_a ok (fun s H C cl fp => pg_name hN hj (hl s H C cl fp).1 (hl s H C cl fp).2) (fun s H C cl fp => pts_aB s H C cl fp) (fun s H C cl fp => pe_aB s H C cl fp) hs)
    fun D σ H ⟨α, E, q⟩ => lc_S0 h σ H _ ⟨α, E, fun v d α1 μ1 H1 r1 E1 X1 hv => q.1 _ _ α1 μ1 H1 r1 (E1.set i hv) X1⟩
end
end Eg

namespace Eg
open PySem PySem.Spec PyProof.Rows L2
section
variable {P : Program} {w : World} {K : PySem.W.Frag} {mg : Str → Option Value} {base : Heap}
/-- THE RULE for a def -/
theorem FnG.mk2 {x : Str} {params : Arguments} {body : List Stmt} {scope : Scope} {kws : List (Str × V)} {f : Addr} {fd : FuncData} {N ps : List Str} {k : Nat} {C : Ctr}
    (F : FunD K x x params body scope [] kws f fd) (S : FnScope N ps scope) 
    (len : ∀ ds μ R, C ds μ R → ds.length = ps.length)
    (hb : ∀ (cd : Value) (A : Around) (outer : List PySem.Env) (s : Shared) (H : Hp), (bx P w K mg base N x scope f cd A outer s H).A.guards = some [] → Room k (bx P w K mg base N x scope f cd A outer s H).A → (bx P w K mg base N x scope f cd A outer s H).N.Nodup →
      ∀ ds μ R, C ds μ R → Sts (bx P w K mg base N x scope f cd A outer s H) body (startD N ds) μ (fin μ.length R)) : FnG P w K mg base (k + 1) f fd ps (SpD K C) := by
  refine FnG.of F S (fun vs H Q E => ?_) (fun cd A outer s H vs Q hg hr => ?_)
  · rintro ⟨α, μ, ds, R, l, h, c, _⟩
    rw [h.length]
    exact len _ _ _ c
  · rintro ⟨α, μ, ds, R, l, h, c, q⟩
    refine ⟨_, hb cd A outer s H hg hr S.nd ds μ R c, α, start_en l h, ?_, ?_, ?_, ?_⟩
    · intro ρ' σ' α' μ' H' r E' k'
      rcases r with r | ⟨r1, r2⟩
      · exact q _ _ α' μ' H' r E'.live k' .non
      · exact q _ _ _ _ _ r2 (E'.live.cutL μ.length r1) (Live.cut l E'.live k') .non
    · intro v d α' μ' H' r l' k' hv
      rcases r with r | ⟨r0, r1, r2⟩
      · exact q _ _ α' μ' H' r l' k' hv
      · exact q _ _ _ _ _ r2 (l'.cutL μ.length r1) (Live.cut l l' k') (hv.cut r0)
    · intro _ _ _ _ _ r
      exact r.elim
    · intro _ _ _ _ _ r
      exact r.elim
end
theorem seer_sys {h : Heap} (n : h.NoSeer) : ∃ mm, h.Ns sysModules mm := by
  obtain ⟨mm, z, _⟩ := n.mods
  exact ⟨mm, z⟩
/-! ### a law's end -/
section
variable {P : Program} {w : World} {K : PySem.W.Frag} {mg mb : Str → Option Value} {k : Nat} {fa a : Addr} {fd : FuncData} {x : Str} {sp : Sp} {s₁ : Shared} {vs : List Value} {ns : List Int}
/-- the heap at the call: the script alone is told of, and not that if the text itself holds it -/
theorem law_goS (KX : K.In s₁.heap) (hns : s₁.heap.Ns mainGlobals mg) (hbl : s₁.heap.Ns builtinsNs mb) (hbb : ∀ x : Str, x ≠ "__name__" → mb x = bootBuiltins x) (hlim : s₁.heap.NoLimit) (hgen : s₁.gens = #[]) (hsys : ∃ mm, s₁.heap.Ns sysModules mm)
    (ha : s₁.heap.get? a = some { cls := .type "list", data := .seq vs.toArray }) (hi : IntsAre vs ns) (hl : ns.length ≤ sizeLine) (hr : Room k callerA)
    (F : ∀ base : Heap, K.In base → base.Ns mainGlobals mg → (∃ mm, base.Ns sysModules mm) → FnG P w K mg base k fa fd [x] sp) (hbind : ∀ (s : Shared) (u : Value), BindsTo s fd ⟨[u], []⟩ [(x, u)])
    (hsp : ∀ H : Hp, ((∀ b, H b = none) ∧ WrL K a (ns.map V.int)) ∨ (∃ o, H = fun b => if b = a then some (.frz o (.lst (ns.map V.int))) else none) → sp [.ref a] H (fun v _ => v = .bl true) E0) :
    codeAny (model P w) callerA (.call (.ref fa) ⟨[.ref a], []⟩) (fun r s' => r = .ok (.ret (.bool true)) ∧ OldK s₁.heap s'.heap ∧ s'.os = s₁.os ∧ AllBare s'.gens) s₁ := by
  have rv := vals_ints hi
  -- whatever H tells: at most of a, and of a as it stands
  have main : ∀ H : Hp, (∀ b, b ≠ a → H b = none) → (∀ u, H a = some u → u = .frz { cls := .type "list", data := .seq vs.toArray } (.lst (ns.map V.int))) → (H a = none ∨ K.lookup a = none) → sp [.ref a] H (fun v _ => v = .bl true) E0 →
      codeAny (model P w) callerA (.call (.ref fa) ⟨[.ref a], []⟩) (fun r s' => r = .ok (.ret (.bool true)) ∧ OldK s₁.heap s'.heap ∧ s'.os = s₁.os ∧ AllBare s'.gens) s₁ := by
    intro H h1 h2 h3 hq
    have ok : HOk P w H s₁.heap := by
      intro b u e
      have eb : b = a := Classical.byContradiction fun z => by
        rw [h1 b z] at e
        cases e
      subst eb
      have eu := h2 u e
      subst eu
      exact ⟨ha, by rw [List.length_map]; exact hl, vs, 0, rv, ha⟩
    have none_of_dict : ∀ {b : Addr} {o : Obj} {es : Array DictEntry} {ep : Nat}, s₁.heap.get? b = some o → o.data = .dict es ep → H b = none := by
      intro b o es ep e d
      refine h1 b fun z => ?_
      rw [z, ha] at e
      have := Option.some.inj e
      subst this
      cases d
    have ns_of : ∀ {b : Addr} {m : Str → Option Value}, s₁.heap.Ns b m → (hidT s₁.heap H).Ns b m := by
      rintro b m ⟨o, es, ep, e, d, r⟩
      exact ⟨o, es, ep, hidT_get e (none_of_dict e d), d, r⟩
    have kin : K.In (hidT s₁.heap H) := by
      intro b o e
      refine hidT_get (KX b o e) ?_
      by_cases z : b = a
      · subst z
        rcases h3 with h3 | h3
        · exact h3
        · rw [h3] at e
          cases e
      · exact h1 b z
    obtain ⟨mc, c1, c2⟩ := hlim
    have env0 : Env0 P w K mg (hidT s₁.heap H) callerA [] s₁ H :=
      ⟨rfl, ⟨kin, ns_of hns, ⟨mb, ns_of hbl, hbb⟩, mc, ns_of c1, c2⟩, fun _ _ e => of_hidT e, Nat.le_of_eq (hidT_size _ _), trivial, fun b z => absurd (show b ∈ ([] : List Addr) from z) List.not_mem_nil, ok, .of_eq hgen⟩
    refine codeAny_mono ((F _ kin (ns_of hns) (hsys.imp fun _ z => ns_of z)).go callerA [] s₁ H ⟨[.ref a], []⟩ [.ref a] [.ref a] _ rfl hr env0 (hbind s₁ (.ref a)) (.cons rfl .nil) hq) fun r s' z => ?_
    match r, z with
    | .ok (.ret u), ⟨v, H', os, bare, un, ok', rv', q⟩ =>
      have q' : v = .bl true := q
      subst q'
      have eu : u = Value.bool true := rv'
      subst eu
      refine ⟨rfl, OldK.of_keep fun b o e => ?_, os, bare⟩
      by_cases z : H b = none
      · exact un.keep b o e z (fun y => absurd (show b ∈ ([] : List Addr) from y) List.not_mem_nil) List.not_mem_nil
      · have eb : b = a := Classical.byContradiction fun y => z (h1 b y)
        subst eb
        cases hu : H b with
        | none => exact absurd hu z
        | some u =>
          have eu := h2 u hu
          rw [eu] at hu
          have t := (ok' b _ (un.frzs b _ _ hu)).1
          rw [ha] at e
          cases e
          exact t
    | .ok .next, z => exact z.elim
    | .ok .brk, z => exact z.elim
    | .ok .cont, z => exact z.elim
    | .error e, z => exact z.elim
  cases hk : K.lookup a with
  | none =>
    refine main (fun b => if b = a then some (.frz { cls := .type "list", data := .seq vs.toArray } (.lst (ns.map V.int))) else none) (fun b z => if_neg z) (fun u e => ?_) (.inr hk) (hsp _ (.inr ⟨_, rfl⟩))
    rw [if_pos rfl] at e
    exact (Option.some.inj e).symm
  | some o =>
    have eo : o = { cls := .type "list", data := .seq vs.toArray } := by
      have z := KX a o hk
      rw [ha] at z
      exact (Option.some.inj z).symm
    subst eo
    refine main (fun _ => none) (fun _ _ => rfl) (fun u e => nomatch e) (.inl rfl) (hsp _ (.inl ⟨fun _ => rfl, .inr ⟨_, vs.toArray, 0, hk, rfl, rfl, rfl, ?_, ?_⟩⟩))
    · have e1 := hi.length
      rw [List.size_toArray]
      omega
    · exact rv
end
theorem walk_S {l : PySem.W.OpenLaw} {n k : Nat} {q : Program} {loose : List Str} {XP : (Str → Option Value) → Heap → Prop} {YP : World → Heap → Prop} {d : DefRec} {C : Ctr}
    (hn : l.most = some n) (hn2 : n ≤ sizeLine) (hdf : d.params.defaults = []) (himp : PyProof.Rows.importsNone q = true) (hr : Room k callerA)
    (hC : ∀ ns : List Int, ns.length ≤ n → (∀ z ∈ ns, Builtin.Int.intBits z ≤ 1048576) → C [scD ns] [] fun d _ => d = .bl true)
    (F : ∀ (w : World) (mg : Str → Option Value) (fa : Addr) (h : Heap), YP w h → h.Ns mainGlobals mg → mg d.name = some (.ref fa) →
      ∃ (K : PySem.W.Frag) (fd : FuncData) (x : Str), K.In h ∧ (∀ (s : Shared) (u : Value), BindsTo s fd ⟨[u], []⟩ [(x, u)]) ∧ ∀ base : Heap, K.In base → base.Ns mainGlobals mg → (∃ mm, base.Ns sysModules mm) → FnG l.prog w K mg base k fa fd [x] (SpD K C)) :
    PySem.W.WalkO q loose XP YP l.row.toRowW d [] (fun f vs => PySem.call f vs) := by
  refine Att.attach_callB hn hdf fun w s₀ s₁ mg mb fa o pm cd doc a vs ns G Y ho hd hcd hmg hobj hints hlen hbits hg => ?_
  obtain ⟨K, fd, x, KX, hb, hF⟩ := F w mg fa _ Y G.T.g hmg
  refine law_goS KX G.T.g G.T.b G.T.builtins G.T.nolimit hg (seer_sys (G.T.seer himp)) hobj hints (Nat.le_trans hlen hn2) hr hF hb fun H hH => ?_
  have l0 : Live ⟨K, [], [], H⟩ := ⟨rfl, List.nodup_nil, fun _ h => absurd h List.not_mem_nil, fun k a o h => by simp at h⟩
  refine ⟨[], [], [scD ns], fun d _ => d = .bl true, l0, .cons (.lst ?_ (sc_has ns)) .nil, hC ns hlen hbits, ?_⟩
  · rcases hH with ⟨_, h⟩ | ⟨o, rfl⟩
    · exact .inr h
    · refine .inl ⟨?_, .inr ⟨o, if_pos rfl⟩⟩
      rintro ⟨k, u, h1, _⟩
      simp at h1
  · rintro v d α' μ' H' rfl _ _ hv
    cases hv
    rfl
end Eg

namespace Lw
open PySem PySem.Spec L2
def top (i : Nat) : Stmt := PySem.Challenge.pw_soundlooks_k01_errors_each_of_its_own.main.body.getD i (.Pass ⟨0, 0, 0, 0⟩)
abbrev cLookError : Stmt := top 1
abbrev cInvalidText : Stmt := top 2
abbrev sInvalidText_init : Stmt := inClass cInvalidText 0
abbrev NInvalidText_init : List Str := ["self", "line", "column"]
theorem scInvalidText_init : FnScope NInvalidText_init ["self", "line", "column"] (defScope sInvalidText_init) := ⟨rfl, rfl, rfl, by decide +kernel, rfl, by decide +kernel, by decide +kernel⟩
def dInvalidText_init : He.DefD := ⟨("InvalidText", some "__init__"), "__init__", "InvalidText.__init__", defArgs sInvalidText_init, defBody sInvalidText_init, defScope sInvalidText_init, [], []⟩
abbrev cInvalidProgram : Stmt := top 3
abbrev sInvalidProgram_init : Stmt := inClass cInvalidProgram 0
abbrev NInvalidProgram_init : List Str := ["self", "place"]
theorem scInvalidProgram_init : FnScope NInvalidProgram_init ["self", "place"] (defScope sInvalidProgram_init) := ⟨rfl, rfl, rfl, by decide +kernel, rfl, by decide +kernel, by decide +kernel⟩
def dInvalidProgram_init : He.DefD := ⟨("InvalidProgram", some "__init__"), "__init__", "InvalidProgram.__init__", defArgs sInvalidProgram_init, defBody sInvalidProgram_init, defScope sInvalidProgram_init, [], []⟩
abbrev cInvalidIndex : Stmt := top 4
abbrev sInvalidIndex_init : Stmt := inClass cInvalidIndex 0
abbrev NInvalidIndex_init : List Str := ["self", "given"]
theorem scInvalidIndex_init : FnScope NInvalidIndex_init ["self", "given"] (defScope sInvalidIndex_init) := ⟨rfl, rfl, rfl, by decide +kernel, rfl, by decide +kernel, by decide +kernel⟩
def dInvalidIndex_init : He.DefD := ⟨("InvalidIndex", some "__init__"), "__init__", "InvalidIndex.__init__", defArgs sInvalidIndex_init, defBody sInvalidIndex_init, defScope sInvalidIndex_init, [], []⟩
abbrev cInvalidPlace : Stmt := top 5
abbrev sInvalidPlace_init : Stmt := inClass cInvalidPlace 0
abbrev NInvalidPlace_init : List Str := ["self", "given"]
theorem scInvalidPlace_init : FnScope NInvalidPlace_init ["self", "given"] (defScope sInvalidPlace_init) := ⟨rfl, rfl, rfl, by decide +kernel, rfl, by decide +kernel, by decide +kernel⟩
def dInvalidPlace_init : He.DefD := ⟨("InvalidPlace", some "__init__"), "__init__", "InvalidPlace.__init__", defArgs sInvalidPlace_init, defBody sInvalidPlace_init, defScope sInvalidPlace_init, [], []⟩
abbrev cInvalidNumber : Stmt := top 6
abbrev sInvalidNumber_init : Stmt := inClass cInvalidNumber 0
abbrev NInvalidNumber_init : List Str := ["self", "given"]
theorem scInvalidNumber_init : FnScope NInvalidNumber_init ["self", "given"] (defScope sInvalidNumber_init) := ⟨rfl, rfl, rfl, by decide +kernel, rfl, by decide +kernel, by decide +kernel⟩
def dInvalidNumber_init : He.DefD := ⟨("InvalidNumber", some "__init__"), "__init__", "InvalidNumber.__init__", defArgs sInvalidNumber_init, defBody sInvalidNumber_init, defScope sInvalidNumber_init, [], []⟩
abbrev cInvalidState : Stmt := top 7
abbrev sInvalidState_init : Stmt := inClass cInvalidState 0
abbrev NInvalidState_init : List Str := ["self", "given"]
theorem scInvalidState_init : FnScope NInvalidState_init ["self", "given"] (defScope sInvalidState_init) := ⟨rfl, rfl, rfl, by decide +kernel, rfl, by decide +kernel, by decide +kernel⟩
def dInvalidState_init : He.DefD := ⟨("InvalidState", some "__init__"), "__init__", "InvalidState.__init__", defArgs sInvalidState_init, defBody sInvalidState_init, defScope sInvalidState_init, [], []⟩
abbrev cInvalidStretch : Stmt := top 8
abbrev sInvalidStretch_init : Stmt := inClass cInvalidStretch 0
abbrev NInvalidStretch_init : List Str := ["self", "given"]
theorem scInvalidStretch_init : FnScope NInvalidStretch_init ["self", "given"] (defScope sInvalidStretch_init) := ⟨rfl, rfl, rfl, by decide +kernel, rfl, by decide +kernel, by decide +kernel⟩
def dInvalidStretch_init : He.DefD := ⟨("InvalidStretch", some "__init__"), "__init__", "InvalidStretch.__init__", defArgs sInvalidStretch_init, defBody sInvalidStretch_init, defScope sInvalidStretch_init, [], []⟩
abbrev cInvalidRest : Stmt := top 9
abbrev sInvalidRest_init : Stmt := inClass cInvalidRest 0
abbrev NInvalidRest_init : List Str := ["self", "given"]
theorem scInvalidRest_init : FnScope NInvalidRest_init ["self", "given"] (defScope sInvalidRest_init) := ⟨rfl, rfl, rfl, by decide +kernel, rfl, by decide +kernel, by decide +kernel⟩
def dInvalidRest_init : He.DefD := ⟨("InvalidRest", some "__init__"), "__init__", "InvalidRest.__init__", defArgs sInvalidRest_init, defBody sInvalidRest_init, defScope sInvalidRest_init, [], []⟩
abbrev cInvalidWidth : Stmt := top 10
abbrev sInvalidWidth_init : Stmt := inClass cInvalidWidth 0
abbrev NInvalidWidth_init : List Str := ["self", "given"]
theorem scInvalidWidth_init : FnScope NInvalidWidth_init ["self", "given"] (defScope sInvalidWidth_init) := ⟨rfl, rfl, rfl, by decide +kernel, rfl, by decide +kernel, by decide +kernel⟩
def dInvalidWidth_init : He.DefD := ⟨("InvalidWidth", some "__init__"), "__init__", "InvalidWidth.__init__", defArgs sInvalidWidth_init, defBody sInvalidWidth_init, defScope sInvalidWidth_init, [], []⟩
abbrev cInvalidGuard : Stmt := top 11
abbrev sInvalidGuard_init : Stmt := inClass cInvalidGuard 0
abbrev NInvalidGuard_init : List Str := ["self", "given"]
theorem scInvalidGuard_init : FnScope NInvalidGuard_init ["self", "given"] (defScope sInvalidGuard_init) := ⟨rfl, rfl, rfl, by decide +kernel, rfl, by decide +kernel, by decide +kernel⟩
def dInvalidGuard_init : He.DefD := ⟨("InvalidGuard", some "__init__"), "__init__", "InvalidGuard.__init__", defArgs sInvalidGuard_init, defBody sInvalidGuard_init, defScope sInvalidGuard_init, [], []⟩
abbrev cInvalidSize : Stmt := top 12
abbrev sInvalidSize_init : Stmt := inClass cInvalidSize 0
abbrev NInvalidSize_init : List Str := ["self", "given"]
theorem scInvalidSize_init : FnScope NInvalidSize_init ["self", "given"] (defScope sInvalidSize_init) := ⟨rfl, rfl, rfl, by decide +kernel, rfl, by decide +kernel, by decide +kernel⟩
def dInvalidSize_init : He.DefD := ⟨("InvalidSize", some "__init__"), "__init__", "InvalidSize.__init__", defArgs sInvalidSize_init, defBody sInvalidSize_init, defScope sInvalidSize_init, [], []⟩
abbrev cInvalidSlot : Stmt := top 13
abbrev sInvalidSlot_init : Stmt := inClass cInvalidSlot 0
abbrev NInvalidSlot_init : List Str := ["self", "given"]
theorem scInvalidSlot_init : FnScope NInvalidSlot_init ["self", "given"] (defScope sInvalidSlot_init) := ⟨rfl, rfl, rfl, by decide +kernel, rfl, by decide +kernel, by decide +kernel⟩
def dInvalidSlot_init : He.DefD := ⟨("InvalidSlot", some "__init__"), "__init__", "InvalidSlot.__init__", defArgs sInvalidSlot_init, defBody sInvalidSlot_init, defScope sInvalidSlot_init, [], []⟩
abbrev cInvalidDifferences : Stmt := top 14
abbrev sInvalidDifferences_init : Stmt := inClass cInvalidDifferences 0
abbrev NInvalidDifferences_init : List Str := ["self", "given"]
theorem scInvalidDifferences_init : FnScope NInvalidDifferences_init ["self", "given"] (defScope sInvalidDifferences_init) := ⟨rfl, rfl, rfl, by decide +kernel, rfl, by decide +kernel, by decide +kernel⟩
def dInvalidDifferences_init : He.DefD := ⟨("InvalidDifferences", some "__init__"), "__init__", "InvalidDifferences.__init__", defArgs sInvalidDifferences_init, defBody sInvalidDifferences_init, defScope sInvalidDifferences_init, [], []⟩
abbrev cInvalidEquations : Stmt := top 15
abbrev sInvalidEquations_init : Stmt := inClass cInvalidEquations 0
abbrev NInvalidEquations_init : List Str := ["self", "given"]
theorem scInvalidEquations_init : FnScope NInvalidEquations_init ["self", "given"] (defScope sInvalidEquations_init) := ⟨rfl, rfl, rfl, by decide +kernel, rfl, by decide +kernel, by decide +kernel⟩
def dInvalidEquations_init : He.DefD := ⟨("InvalidEquations", some "__init__"), "__init__", "InvalidEquations.__init__", defArgs sInvalidEquations_init, defBody sInvalidEquations_init, defScope sInvalidEquations_init, [], []⟩
abbrev cInvalidSight : Stmt := top 16
abbrev sInvalidSight_init : Stmt := inClass cInvalidSight 0
abbrev NInvalidSight_init : List Str := ["self", "given"]
theorem scInvalidSight_init : FnScope NInvalidSight_init ["self", "given"] (defScope sInvalidSight_init) := ⟨rfl, rfl, rfl, by decide +kernel, rfl, by decide +kernel, by decide +kernel⟩
def dInvalidSight_init : He.DefD := ⟨("InvalidSight", some "__init__"), "__init__", "InvalidSight.__init__", defArgs sInvalidSight_init, defBody sInvalidSight_init, defScope sInvalidSight_init, [], []⟩
abbrev cInvalidLook : Stmt := top 17
abbrev sInvalidLook_init : Stmt := inClass cInvalidLook 0
abbrev NInvalidLook_init : List Str := ["self", "given"]
theorem scInvalidLook_init : FnScope NInvalidLook_init ["self", "given"] (defScope sInvalidLook_init) := ⟨rfl, rfl, rfl, by decide +kernel, rfl, by decide +kernel, by decide +kernel⟩
def dInvalidLook_init : He.DefD := ⟨("InvalidLook", some "__init__"), "__init__", "InvalidLook.__init__", defArgs sInvalidLook_init, defBody sInvalidLook_init, defScope sInvalidLook_init, [], []⟩
abbrev cInvalidExpression : Stmt := top 18
abbrev sInvalidExpression_init : Stmt := inClass cInvalidExpression 0
abbrev NInvalidExpression_init : List Str := ["self", "given"]
theorem scInvalidExpression_init : FnScope NInvalidExpression_init ["self", "given"] (defScope sInvalidExpression_init) := ⟨rfl, rfl, rfl, by decide +kernel, rfl, by decide +kernel, by decide +kernel⟩
def dInvalidExpression_init : He.DefD := ⟨("InvalidExpression", some "__init__"), "__init__", "InvalidExpression.__init__", defArgs sInvalidExpression_init, defBody sInvalidExpression_init, defScope sInvalidExpression_init, [], []⟩
abbrev cInvalidStep : Stmt := top 19
abbrev sInvalidStep_init : Stmt := inClass cInvalidStep 0
abbrev NInvalidStep_init : List Str := ["self", "given"]
theorem scInvalidStep_init : FnScope NInvalidStep_init ["self", "given"] (defScope sInvalidStep_init) := ⟨rfl, rfl, rfl, by decide +kernel, rfl, by decide +kernel, by decide +kernel⟩
def dInvalidStep_init : He.DefD := ⟨("InvalidStep", some "__init__"), "__init__", "InvalidStep.__init__", defArgs sInvalidStep_init, defBody sInvalidStep_init, defScope sInvalidStep_init, [], []⟩
abbrev cInvalidFault : Stmt := top 20
abbrev sInvalidFault_init : Stmt := inClass cInvalidFault 0
abbrev NInvalidFault_init : List Str := ["self", "given"]
theorem scInvalidFault_init : FnScope NInvalidFault_init ["self", "given"] (defScope sInvalidFault_init) := ⟨rfl, rfl, rfl, by decide +kernel, rfl, by decide +kernel, by decide +kernel⟩
def dInvalidFault_init : He.DefD := ⟨("InvalidFault", some "__init__"), "__init__", "InvalidFault.__init__", defArgs sInvalidFault_init, defBody sInvalidFault_init, defScope sInvalidFault_init, [], []⟩
abbrev cInvalidInputs : Stmt := top 21
abbrev sInvalidInputs_init : Stmt := inClass cInvalidInputs 0
abbrev NInvalidInputs_init : List Str := ["self", "index"]
theorem scInvalidInputs_init : FnScope NInvalidInputs_init ["self", "index"] (defScope sInvalidInputs_init) := ⟨rfl, rfl, rfl, by decide +kernel, rfl, by decide +kernel, by decide +kernel⟩
def dInvalidInputs_init : He.DefD := ⟨("InvalidInputs", some "__init__"), "__init__", "InvalidInputs.__init__", defArgs sInvalidInputs_init, defBody sInvalidInputs_init, defScope sInvalidInputs_init, [], []⟩
abbrev cInvalidOrder : Stmt := top 22
abbrev sInvalidOrder_init : Stmt := inClass cInvalidOrder 0
abbrev NInvalidOrder_init : List Str := ["self", "index"]
theorem scInvalidOrder_init : FnScope NInvalidOrder_init ["self", "index"] (defScope sInvalidOrder_init) := ⟨rfl, rfl, rfl, by decide +kernel, rfl, by decide +kernel, by decide +kernel⟩
def dInvalidOrder_init : He.DefD := ⟨("InvalidOrder", some "__init__"), "__init__", "InvalidOrder.__init__", defArgs sInvalidOrder_init, defBody sInvalidOrder_init, defScope sInvalidOrder_init, [], []⟩
abbrev cInvalidTable : Stmt := top 23
abbrev sInvalidTable_init : Stmt := inClass cInvalidTable 0
abbrev NInvalidTable_init : List Str := ["self", "index"]
theorem scInvalidTable_init : FnScope NInvalidTable_init ["self", "index"] (defScope sInvalidTable_init) := ⟨rfl, rfl, rfl, by decide +kernel, rfl, by decide +kernel, by decide +kernel⟩
def dInvalidTable_init : He.DefD := ⟨("InvalidTable", some "__init__"), "__init__", "InvalidTable.__init__", defArgs sInvalidTable_init, defBody sInvalidTable_init, defScope sInvalidTable_init, [], []⟩
abbrev cInvalidMarks : Stmt := top 24
abbrev sInvalidMarks_init : Stmt := inClass cInvalidMarks 0
abbrev NInvalidMarks_init : List Str := ["self", "index"]
theorem scInvalidMarks_init : FnScope NInvalidMarks_init ["self", "index"] (defScope sInvalidMarks_init) := ⟨rfl, rfl, rfl, by decide +kernel, rfl, by decide +kernel, by decide +kernel⟩
def dInvalidMarks_init : He.DefD := ⟨("InvalidMarks", some "__init__"), "__init__", "InvalidMarks.__init__", defArgs sInvalidMarks_init, defBody sInvalidMarks_init, defScope sInvalidMarks_init, [], []⟩
abbrev cInvalidSlots : Stmt := top 25
abbrev sInvalidSlots_init : Stmt := inClass cInvalidSlots 0
abbrev NInvalidSlots_init : List Str := ["self", "index"]
theorem scInvalidSlots_init : FnScope NInvalidSlots_init ["self", "index"] (defScope sInvalidSlots_init) := ⟨rfl, rfl, rfl, by decide +kernel, rfl, by decide +kernel, by decide +kernel⟩
def dInvalidSlots_init : He.DefD := ⟨("InvalidSlots", some "__init__"), "__init__", "InvalidSlots.__init__", defArgs sInvalidSlots_init, defBody sInvalidSlots_init, defScope sInvalidSlots_init, [], []⟩
abbrev cInvalidValues : Stmt := top 26
abbrev sInvalidValues_init : Stmt := inClass cInvalidValues 0
abbrev NInvalidValues_init : List Str := ["self", "index"]
theorem scInvalidValues_init : FnScope NInvalidValues_init ["self", "index"] (defScope sInvalidValues_init) := ⟨rfl, rfl, rfl, by decide +kernel, rfl, by decide +kernel, by decide +kernel⟩
def dInvalidValues_init : He.DefD := ⟨("InvalidValues", some "__init__"), "__init__", "InvalidValues.__init__", defArgs sInvalidValues_init, defBody sInvalidValues_init, defScope sInvalidValues_init, [], []⟩
abbrev cInvalidRow : Stmt := top 27
abbrev sInvalidRow_init : Stmt := inClass cInvalidRow 0
abbrev NInvalidRow_init : List Str := ["self", "index"]
theorem scInvalidRow_init : FnScope NInvalidRow_init ["self", "index"] (defScope sInvalidRow_init) := ⟨rfl, rfl, rfl, by decide +kernel, rfl, by decide +kernel, by decide +kernel⟩
def dInvalidRow_init : He.DefD := ⟨("InvalidRow", some "__init__"), "__init__", "InvalidRow.__init__", defArgs sInvalidRow_init, defBody sInvalidRow_init, defScope sInvalidRow_init, [], []⟩
abbrev cInvalidRows : Stmt := top 28
abbrev sInvalidRows_init : Stmt := inClass cInvalidRows 0
abbrev NInvalidRows_init : List Str := ["self", "index"]
theorem scInvalidRows_init : FnScope NInvalidRows_init ["self", "index"] (defScope sInvalidRows_init) := ⟨rfl, rfl, rfl, by decide +kernel, rfl, by decide +kernel, by decide +kernel⟩
def dInvalidRows_init : He.DefD := ⟨("InvalidRows", some "__init__"), "__init__", "InvalidRows.__init__", defArgs sInvalidRows_init, defBody sInvalidRows_init, defScope sInvalidRows_init, [], []⟩
abbrev cNotGoing : Stmt := top 29
abbrev cNotClosed : Stmt := top 30
abbrev sl_well : Stmt := top 32
abbrev Nl_well : List Str := ["_law_script", "_law_turn", "_law_mixed", "_law_cell", "_law_own"]
theorem scl_well : FnScope Nl_well ["_law_script", "_law_turn"] (defScope sl_well) := ⟨rfl, rfl, rfl, by decide +kernel, rfl, by decide +kernel, by decide +kernel⟩
def dl_well : He.DefD := ⟨("_law_well", none), "_law_well", "_law_well", defArgs sl_well, defBody sl_well, defScope sl_well, [], []⟩
abbrev sl_draw : Stmt := top 33
abbrev Nl_draw : List Str := ["_law_well_here", "_law_many", "_law_figure", "_law_seed"]
theorem scl_draw : FnScope Nl_draw ["_law_well_here", "_law_many"] (defScope sl_draw) := ⟨rfl, rfl, rfl, by decide +kernel, rfl, by decide +kernel, by decide +kernel⟩
def dl_draw : He.DefD := ⟨("_law_draw", none), "_law_draw", "_law_draw", defArgs sl_draw, defBody sl_draw, defScope sl_draw, [], []⟩
abbrev sl_pick : Stmt := top 34
abbrev Nl_pick : List Str := ["_law_well_here", "_law_some"]
theorem scl_pick : FnScope Nl_pick ["_law_well_here", "_law_some"] (defScope sl_pick) := ⟨rfl, rfl, rfl, by decide +kernel, rfl, by decide +kernel, by decide +kernel⟩
def dl_pick : He.DefD := ⟨("_law_pick", none), "_law_pick", "_law_pick", defArgs sl_pick, defBody sl_pick, defScope sl_pick, [], []⟩
abbrev sl_odd : Stmt := top 35
abbrev Nl_odd : List Str := ["_law_well_here"]
theorem scl_odd : FnScope Nl_odd ["_law_well_here"] (defScope sl_odd) := ⟨rfl, rfl, rfl, by decide +kernel, rfl, by decide +kernel, by decide +kernel⟩
def dl_odd : He.DefD := ⟨("_law_odd", none), "_law_odd", "_law_odd", defArgs sl_odd, defBody sl_odd, defScope sl_odd, [], []⟩
abbrev sl_thing : Stmt := top 36
abbrev Nl_thing : List Str := ["_law_well_here", "_law_deep", "_law_branch", "_law_made", "_law_turn"]
theorem scl_thing : FnScope Nl_thing ["_law_well_here", "_law_deep"] (defScope sl_thing) := ⟨rfl, rfl, rfl, by decide +kernel, rfl, by decide +kernel, by decide +kernel⟩
def dl_thing : He.DefD := ⟨("_law_thing", none), "_law_thing", "_law_thing", defArgs sl_thing, defBody sl_thing, defScope sl_thing, [], []⟩
abbrev sl_first_ones : Stmt := top 37
abbrev Nl_first_ones : List Str := ["_law_number", "_law_one", "_law_two"]
theorem scl_first_ones : FnScope Nl_first_ones ["_law_number", "_law_one", "_law_two"] (defScope sl_first_ones) := ⟨rfl, rfl, rfl, by decide +kernel, rfl, by decide +kernel, by decide +kernel⟩
def dl_first_ones : He.DefD := ⟨("_law_first_ones", none), "_law_first_ones", "_law_first_ones", defArgs sl_first_ones, defBody sl_first_ones, defScope sl_first_ones, [], []⟩
abbrev sl_last_ones : Stmt := top 38
abbrev Nl_last_ones : List Str := ["_law_number", "_law_one", "_law_two"]
theorem scl_last_ones : FnScope Nl_last_ones ["_law_number", "_law_one", "_law_two"] (defScope sl_last_ones) := ⟨rfl, rfl, rfl, by decide +kernel, rfl, by decide +kernel, by decide +kernel⟩
def dl_last_ones : He.DefD := ⟨("_law_last_ones", none), "_law_last_ones", "_law_last_ones", defArgs sl_last_ones, defBody sl_last_ones, defScope sl_last_ones, [], []⟩
abbrev sl_first_named : Stmt := top 39
abbrev Nl_first_named : List Str := ["_law_number", "_law_one", "_law_two"]
theorem scl_first_named : FnScope Nl_first_named ["_law_number", "_law_one", "_law_two"] (defScope sl_first_named) := ⟨rfl, rfl, rfl, by decide +kernel, rfl, by decide +kernel, by decide +kernel⟩
def dl_first_named : He.DefD := ⟨("_law_first_named", none), "_law_first_named", "_law_first_named", defArgs sl_first_named, defBody sl_first_named, defScope sl_first_named, [], []⟩
abbrev sl_last_named : Stmt := top 40
abbrev Nl_last_named : List Str := ["_law_number", "_law_one", "_law_two"]
theorem scl_last_named : FnScope Nl_last_named ["_law_number", "_law_one", "_law_two"] (defScope sl_last_named) := ⟨rfl, rfl, rfl, by decide +kernel, rfl, by decide +kernel, by decide +kernel⟩
def dl_last_named : He.DefD := ⟨("_law_last_named", none), "_law_last_named", "_law_last_named", defArgs sl_last_named, defBody sl_last_named, defScope sl_last_named, [], []⟩
abbrev sl_truths : Stmt := top 41
abbrev Nl_truths : List Str := ["_law_error"]
theorem scl_truths : FnScope Nl_truths ["_law_error"] (defScope sl_truths) := ⟨rfl, rfl, rfl, by decide +kernel, rfl, by decide +kernel, by decide +kernel⟩
def dl_truths : He.DefD := ⟨("_law_truths", none), "_law_truths", "_law_truths", defArgs sl_truths, defBody sl_truths, defScope sl_truths, [], []⟩
abbrev sl_kept : Stmt := top 42
abbrev Nl_kept : List Str := ["_law_number", "_law_error"]
theorem scl_kept : FnScope Nl_kept ["_law_number", "_law_error"] (defScope sl_kept) := ⟨rfl, rfl, rfl, by decide +kernel, rfl, by decide +kernel, by decide +kernel⟩
def dl_kept : He.DefD := ⟨("_law_kept", none), "_law_kept", "_law_kept", defArgs sl_kept, defBody sl_kept, defScope sl_kept, [], []⟩
abbrev sl_due : Stmt := top 43
abbrev Nl_due : List Str := ["_law_number", "_law_one", "_law_two"]
theorem scl_due : FnScope Nl_due ["_law_number", "_law_one", "_law_two"] (defScope sl_due) := ⟨rfl, rfl, rfl, by decide +kernel, rfl, by decide +kernel, by decide +kernel⟩
def dl_due : He.DefD := ⟨("_law_due", none), "_law_due", "_law_due", defArgs sl_due, defBody sl_due, defScope sl_due, [], []⟩
abbrev sl_right : Stmt := top 44
abbrev Nl_right : List Str := ["_law_well_here", "_law_one", "_law_two", "_law_more", "_law_number", "_law_errors", "_law_truths_here", "_law_told", "_law_at"]
theorem scl_right : FnScope Nl_right ["_law_well_here"] (defScope sl_right) := ⟨rfl, rfl, rfl, by decide +kernel, rfl, by decide +kernel, by decide +kernel⟩
def dl_right : He.DefD := ⟨("_law_right", none), "_law_right", "_law_right", defArgs sl_right, defBody sl_right, defScope sl_right, [], []⟩
abbrev sl_law : Stmt := top 45
abbrev Nl_law : List Str := ["_law_script", "_law_turn"]
theorem scl_law : FnScope Nl_law ["_law_script"] (defScope sl_law) := ⟨rfl, rfl, rfl, by decide +kernel, rfl, by decide +kernel, by decide +kernel⟩
def dl_law : He.DefD := ⟨("law", none), "law", "law", defArgs sl_law, defBody sl_law, defScope sl_law, [], []⟩
def fnL0 : List He.DefD := [dInvalidText_init, dInvalidProgram_init, dInvalidIndex_init, dInvalidPlace_init, dInvalidNumber_init, dInvalidState_init, dInvalidStretch_init, dInvalidRest_init, dInvalidWidth_init, dInvalidGuard_init, dInvalidSize_init, dInvalidSlot_init, dInvalidDifferences_init, dInvalidEquations_init, dInvalidSight_init, dInvalidLook_init, dInvalidExpression_init, dInvalidStep_init, dInvalidFault_init, dInvalidInputs_init, dInvalidOrder_init, dInvalidTable_init, dInvalidMarks_init, dInvalidSlots_init, dInvalidValues_init, dInvalidRow_init, dInvalidRows_init, dl_well, dl_draw, dl_pick]
def fnL1 : List He.DefD := [dl_odd, dl_thing, dl_first_ones, dl_last_ones, dl_first_named, dl_last_named, dl_truths, dl_kept, dl_due, dl_right, dl_law]
def fnL : List He.DefD := fnL0 ++ fnL1
def faL0 : List He.Fa := [.glo "LookError", .glo "InvalidText", .glo "InvalidProgram", .glo "InvalidIndex", .glo "InvalidPlace", .glo "InvalidNumber", .glo "InvalidState", .glo "InvalidStretch", .glo "InvalidRest", .glo "InvalidWidth", .glo "InvalidGuard", .glo "InvalidSize", .glo "InvalidSlot", .glo "InvalidDifferences", .glo "InvalidEquations", .glo "InvalidSight", .glo "InvalidLook", .glo "InvalidExpression", .glo "InvalidStep", .glo "InvalidFault", .glo "InvalidInputs", .glo "InvalidOrder", .glo "InvalidTable", .glo "InvalidMarks", .glo "InvalidSlots", .glo "InvalidValues", .glo "InvalidRow", .glo "InvalidRows", .glo "NotGoing", .glo "NotClosed"]
def faL1 : List He.Fa := [.glo "_law_well", .glo "_law_draw", .glo "_law_pick", .glo "_law_odd", .glo "_law_thing", .glo "_law_first_ones", .glo "_law_last_ones", .glo "_law_first_named", .glo "_law_last_named", .glo "_law_truths", .glo "_law_kept", .glo "_law_due", .glo "_law_right", .glo "law", .free "ArithmeticError", .free "AttributeError", .free "Exception", .free "IndexError", .free "KeyError", .free "LookupError", .free "RuntimeError", .free "TypeError", .free "ValueError", .free "ZeroDivisionError", .free "abs", .free "all", .free "divmod", .free "int", .free "isinstance", .free "len"]
def faL2 : List He.Fa := [.free "max", .free "min", .free "range", .free "repr", .free "tuple"]
def faL : List He.Fa := faL0 ++ faL1 ++ faL2
def looseL0 : List Str := ["LookError", "InvalidText", "InvalidProgram", "InvalidIndex", "InvalidPlace", "InvalidNumber", "InvalidState", "InvalidStretch", "InvalidRest", "InvalidWidth", "InvalidGuard", "InvalidSize", "InvalidSlot", "InvalidDifferences", "InvalidEquations", "InvalidSight", "InvalidLook", "InvalidExpression", "InvalidStep", "InvalidFault", "InvalidInputs", "InvalidOrder", "InvalidTable", "InvalidMarks", "InvalidSlots", "InvalidValues", "InvalidRow", "InvalidRows", "NotGoing", "NotClosed"]
def looseL1 : List Str := ["_law_well", "_law_draw", "_law_pick", "_law_odd", "_law_thing", "_law_first_ones", "_law_last_ones", "_law_first_named", "_law_last_named", "_law_truths", "_law_kept", "_law_due", "_law_right"]
def looseL : List Str := looseL0 ++ looseL1
def lawAt : Nat := 45
/-! ### the classes' facts -/
def nms : List Str := ["InvalidText", "InvalidProgram", "InvalidIndex", "InvalidPlace", "InvalidNumber", "InvalidState", "InvalidStretch", "InvalidRest", "InvalidWidth", "InvalidGuard", "InvalidSize", "InvalidSlot", "InvalidDifferences", "InvalidEquations", "InvalidSight", "InvalidLook", "InvalidExpression", "InvalidStep", "InvalidFault", "InvalidInputs", "InvalidOrder", "InvalidTable", "InvalidMarks", "InvalidSlots", "InvalidValues", "InvalidRow", "InvalidRows", "NotGoing", "NotClosed", "LookError"]
def blts : List String := ["ValueError", "Exception", "LookupError", "KeyError", "IndexError", "TypeError", "ArithmeticError", "ZeroDivisionError", "RuntimeError", "AttributeError"]
def nm (i : Nat) : Str := nms.getD i "LookError"
def fldN (i : Nat) : Str := if i = 1 then "place" else if i < 19 then "given" else "index"
def oexB (K : PySem.W.Frag) (C : Addr) : Bool := (match K.lookup C with
  | some ⟨.type "type", _, .cls cd, sl⟩ => (match cd.mro, sl.toList with
    | .ref C' :: bm, [_, _, _, _, some (.builtin n), _] => decide (C' = C) && (decide (n = "ValueError.__new__") && (!cd.hasDel && (cd.hasDict && PySem.HandSPX.refsVE bm)))
    | _, _ => false)
  | _ => false) && (decide (PySem.W.findIn K (.ref C) "__setattr__" = some (some (.builtin "object.__setattr__"))) && (decide (PySem.W.subIn K (.ref C) (.type "BaseException") = some true) &&
    (decide (PySem.W.typeIn K (.ref C) = some (.type "type")) && PySem.W.keepIn K (.ref C))))
def xcB (K : PySem.W.Frag) (C : Addr) : Bool := (PySem.W.clsIn K C).isSome && (decide (PySem.W.findIn K (.ref C) "__getattribute__" = some (some (.builtin "BaseException.__getattribute__"))) &&
  (decide (PySem.W.findIn K (.ref C) "__getattr__" = some none) && (decide (PySem.W.subIn K (.ref C) (.type "BaseException") = some true) && (PySem.W.hasDictIn K C &&
  (decide (PySem.W.findIn K (.ref C) "__class__" = some (some (.builtin "object.__class__"))) && (decide (PySem.W.specialIn K (.builtin "object.__class__") "__get__" = some (some (.builtin "getset_descriptor.__get__"))) &&
  (decide (PySem.W.takesIn K (.builtin "object.__class__") = some true) && decide (PySem.W.mroIn K C (.type "object") = some true))))))))
def noB (K : PySem.W.Frag) (C : Addr) (f : Str) : Bool := decide (PySem.W.findIn K (.ref C) f = some none)
def iniB (K : PySem.W.Frag) (C : Addr) : Bool := decide (PySem.W.findIn K (.ref C) "__init__" = some (some (.ref (He.ma K C "__init__")))) && decide (PySem.W.typeIn K (.ref (He.ma K C "__init__")) = some (.type "function"))
def veB : List Value := [.type "ValueError", .type "Exception", .type "BaseException", .type "object"]
def isiB (K : PySem.W.Frag) : Bool := (List.range 30).all fun i => ((List.range 30).all fun j => decide (PySem.W.kitOne K (.ref (He.ga K (nm i))) (.ref (He.ga K (nm j))) = some (decide (j = i ∨ 29 ≤ j ∧ j < 32)))) &&
  (List.range 10).all fun j => decide (PySem.W.kitOne K (.ref (He.ga K (nm i))) (.type (blts.getD j "")) = some (decide (30 + j = i ∨ 29 ≤ 30 + j ∧ 30 + j < 32)))
def exB (K : PySem.W.Frag) : Bool := ((List.range 30).all fun i => xcB K (He.ga K (nm i))) && (((List.range 27).all fun i => oexB K (He.ga K (nm i)) && iniB K (He.ga K (nm i))) &&
  ((noB K (He.ga K (nm 0)) "line" && (noB K (He.ga K (nm 0)) "column" && (List.range 27).all fun i => i == 0 || noB K (He.ga K (nm i)) (fldN i))) &&
  (([27, 28, 29].all fun i => PySem.W.excIn K (He.ga K (nm i)) veB "ValueError.__new__" && PySem.W.keepIn K (.ref (He.ga K (nm i)))) && isiB K)))
abbrev R : PySem.W.OpenRow := PySem.W.OpenLaw.row PySem.Challenge.rw_soundlooks_k01_errors_each_of_its_own
abbrev hk : PySem.W.Hook := He.hookX 5 faL fnL [] [] exB
def ob (s : PySem.W.SharedT) : He.AlX := He.obsX 5 faL fnL [] [] exB (HandSHeadRun.getT s)
theorem ob_eq (s : PySem.W.SharedT) : ob s = hk.obs s.abs := He.obsX_eq (HandSHeadRun.getT_eq s)
theorem run (w : World) : HandSHeadRun.RunEq R (PySem.W.view R.prog [lawAt]) hk ob 60000 looseL w := by
  intro os
  kernel_rfl
end Lw

namespace Lw
open PySem PySem.Spec L2 Eg
/-- what the top has left, by names -/
structure Fx (K : PySem.W.Frag) (mg : Str → Option Value) : Prop where
  glo : ∀ (i : Nat) {x : Str}, faL[i]? = some (.glo x) → mg x = some (.ref (He.ga K x))
  free : ∀ (i : Nat) {x : Str}, faL[i]? = some (.free x) → mg x = none
  fn : ∀ (i : Nat) {d : He.DefD}, fnL[i]? = some d → ∃ fd, FunD K d.name d.qual d.params d.body d.scope (d.dvs K) (d.kws K) (He.fAd K d.at_) fd
  ex : exB K = true
theorem fx_of {K : PySem.W.Frag} {h : Heap} {mg : Str → Option Value} {w : World} (X : K.In h) (G : h.Ns mainGlobals mg) (c : He.SaysX faL fnL [] [] exB w h K) : Fx K mg where
  glo := fun i {x} e => He.glo_ok X G (c.t.d.fact i e)
  free := fun i {x} e => He.free_ok X G (c.t.d.fact i e)
  fn := fun i {d} e => c.t.d.def_ i e
  ex := c.more
theorem Fx.g_LookError {K : PySem.W.Frag} {mg : Str → Option Value} (T : Fx K mg) : mg "LookError" = some (.ref (He.ga K "LookError")) := T.glo 0 rfl
theorem Fx.g_InvalidText {K : PySem.W.Frag} {mg : Str → Option Value} (T : Fx K mg) : mg "InvalidText" = some (.ref (He.ga K "InvalidText")) := T.glo 1 rfl
theorem Fx.g_InvalidProgram {K : PySem.W.Frag} {mg : Str → Option Value} (T : Fx K mg) : mg "InvalidProgram" = some (.ref (He.ga K "InvalidProgram")) := T.glo 2 rfl
theorem Fx.g_InvalidIndex {K : PySem.W.Frag} {mg : Str → Option Value} (T : Fx K mg) : mg "InvalidIndex" = some (.ref (He.ga K "InvalidIndex")) := T.glo 3 rfl
theorem Fx.g_InvalidPlace {K : PySem.W.Frag} {mg : Str → Option Value} (T : Fx K mg) : mg "InvalidPlace" = some (.ref (He.ga K "InvalidPlace")) := T.glo 4 rfl
theorem Fx.g_InvalidNumber {K : PySem.W.Frag} {mg : Str → Option Value} (T : Fx K mg) : mg "InvalidNumber" = some (.ref (He.ga K "InvalidNumber")) := T.glo 5 rfl
theorem Fx.g_InvalidState {K : PySem.W.Frag} {mg : Str → Option Value} (T : Fx K mg) : mg "InvalidState" = some (.ref (He.ga K "InvalidState")) := T.glo 6 rfl
theorem Fx.g_InvalidStretch {K : PySem.W.Frag} {mg : Str → Option Value} (T : Fx K mg) : mg "InvalidStretch" = some (.ref (He.ga K "InvalidStretch")) := T.glo 7 rfl
theorem Fx.g_InvalidRest {K : PySem.W.Frag} {mg : Str → Option Value} (T : Fx K mg) : mg "InvalidRest" = some (.ref (He.ga K "InvalidRest")) := T.glo 8 rfl
theorem Fx.g_InvalidWidth {K : PySem.W.Frag} {mg : Str → Option Value} (T : Fx K mg) : mg "InvalidWidth" = some (.ref (He.ga K "InvalidWidth")) := T.glo 9 rfl
theorem Fx.g_InvalidGuard {K : PySem.W.Frag} {mg : Str → Option Value} (T : Fx K mg) : mg "InvalidGuard" = some (.ref (He.ga K "InvalidGuard")) := T.glo 10 rfl
theorem Fx.g_InvalidSize {K : PySem.W.Frag} {mg : Str → Option Value} (T : Fx K mg) : mg "InvalidSize" = some (.ref (He.ga K "InvalidSize")) := T.glo 11 rfl
theorem Fx.g_InvalidSlot {K : PySem.W.Frag} {mg : Str → Option Value} (T : Fx K mg) : mg "InvalidSlot" = some (.ref (He.ga K "InvalidSlot")) := T.glo 12 rfl
theorem Fx.g_InvalidDifferences {K : PySem.W.Frag} {mg : Str → Option Value} (T : Fx K mg) : mg "InvalidDifferences" = some (.ref (He.ga K "InvalidDifferences")) := T.glo 13 rfl
theorem Fx.g_InvalidEquations {K : PySem.W.Frag} {mg : Str → Option Value} (T : Fx K mg) : mg "InvalidEquations" = some (.ref (He.ga K "InvalidEquations")) := T.glo 14 rfl
theorem Fx.g_InvalidSight {K : PySem.W.Frag} {mg : Str → Option Value} (T : Fx K mg) : mg "InvalidSight" = some (.ref (He.ga K "InvalidSight")) := T.glo 15 rfl
theorem Fx.g_InvalidLook {K : PySem.W.Frag} {mg : Str → Option Value} (T : Fx K mg) : mg "InvalidLook" = some (.ref (He.ga K "InvalidLook")) := T.glo 16 rfl
theorem Fx.g_InvalidExpression {K : PySem.W.Frag} {mg : Str → Option Value} (T : Fx K mg) : mg "InvalidExpression" = some (.ref (He.ga K "InvalidExpression")) := T.glo 17 rfl
theorem Fx.g_InvalidStep {K : PySem.W.Frag} {mg : Str → Option Value} (T : Fx K mg) : mg "InvalidStep" = some (.ref (He.ga K "InvalidStep")) := T.glo 18 rfl
theorem Fx.g_InvalidFault {K : PySem.W.Frag} {mg : Str → Option Value} (T : Fx K mg) : mg "InvalidFault" = some (.ref (He.ga K "InvalidFault")) := T.glo 19 rfl
theorem Fx.g_InvalidInputs {K : PySem.W.Frag} {mg : Str → Option Value} (T : Fx K mg) : mg "InvalidInputs" = some (.ref (He.ga K "InvalidInputs")) := T.glo 20 rfl
theorem Fx.g_InvalidOrder {K : PySem.W.Frag} {mg : Str → Option Value} (T : Fx K mg) : mg "InvalidOrder" = some (.ref (He.ga K "InvalidOrder")) := T.glo 21 rfl
theorem Fx.g_InvalidTable {K : PySem.W.Frag} {mg : Str → Option Value} (T : Fx K mg) : mg "InvalidTable" = some (.ref (He.ga K "InvalidTable")) := T.glo 22 rfl
theorem Fx.g_InvalidMarks {K : PySem.W.Frag} {mg : Str → Option Value} (T : Fx K mg) : mg "InvalidMarks" = some (.ref (He.ga K "InvalidMarks")) := T.glo 23 rfl
theorem Fx.g_InvalidSlots {K : PySem.W.Frag} {mg : Str → Option Value} (T : Fx K mg) : mg "InvalidSlots" = some (.ref (He.ga K "InvalidSlots")) := T.glo 24 rfl
theorem Fx.g_InvalidValues {K : PySem.W.Frag} {mg : Str → Option Value} (T : Fx K mg) : mg "InvalidValues" = some (.ref (He.ga K "InvalidValues")) := T.glo 25 rfl
theorem Fx.g_InvalidRow {K : PySem.W.Frag} {mg : Str → Option Value} (T : Fx K mg) : mg "InvalidRow" = some (.ref (He.ga K "InvalidRow")) := T.glo 26 rfl
theorem Fx.g_InvalidRows {K : PySem.W.Frag} {mg : Str → Option Value} (T : Fx K mg) : mg "InvalidRows" = some (.ref (He.ga K "InvalidRows")) := T.glo 27 rfl
theorem Fx.g_NotGoing {K : PySem.W.Frag} {mg : Str → Option Value} (T : Fx K mg) : mg "NotGoing" = some (.ref (He.ga K "NotGoing")) := T.glo 28 rfl
theorem Fx.g_NotClosed {K : PySem.W.Frag} {mg : Str → Option Value} (T : Fx K mg) : mg "NotClosed" = some (.ref (He.ga K "NotClosed")) := T.glo 29 rfl
theorem Fx.g_l_well {K : PySem.W.Frag} {mg : Str → Option Value} (T : Fx K mg) : mg "_law_well" = some (.ref (He.ga K "_law_well")) := T.glo 30 rfl
theorem Fx.g_l_draw {K : PySem.W.Frag} {mg : Str → Option Value} (T : Fx K mg) : mg "_law_draw" = some (.ref (He.ga K "_law_draw")) := T.glo 31 rfl
theorem Fx.g_l_pick {K : PySem.W.Frag} {mg : Str → Option Value} (T : Fx K mg) : mg "_law_pick" = some (.ref (He.ga K "_law_pick")) := T.glo 32 rfl
theorem Fx.g_l_odd {K : PySem.W.Frag} {mg : Str → Option Value} (T : Fx K mg) : mg "_law_odd" = some (.ref (He.ga K "_law_odd")) := T.glo 33 rfl
theorem Fx.g_l_thing {K : PySem.W.Frag} {mg : Str → Option Value} (T : Fx K mg) : mg "_law_thing" = some (.ref (He.ga K "_law_thing")) := T.glo 34 rfl
theorem Fx.g_l_first_ones {K : PySem.W.Frag} {mg : Str → Option Value} (T : Fx K mg) : mg "_law_first_ones" = some (.ref (He.ga K "_law_first_ones")) := T.glo 35 rfl
theorem Fx.g_l_last_ones {K : PySem.W.Frag} {mg : Str → Option Value} (T : Fx K mg) : mg "_law_last_ones" = some (.ref (He.ga K "_law_last_ones")) := T.glo 36 rfl
theorem Fx.g_l_first_named {K : PySem.W.Frag} {mg : Str → Option Value} (T : Fx K mg) : mg "_law_first_named" = some (.ref (He.ga K "_law_first_named")) := T.glo 37 rfl
theorem Fx.g_l_last_named {K : PySem.W.Frag} {mg : Str → Option Value} (T : Fx K mg) : mg "_law_last_named" = some (.ref (He.ga K "_law_last_named")) := T.glo 38 rfl
theorem Fx.g_l_truths {K : PySem.W.Frag} {mg : Str → Option Value} (T : Fx K mg) : mg "_law_truths" = some (.ref (He.ga K "_law_truths")) := T.glo 39 rfl
theorem Fx.g_l_kept {K : PySem.W.Frag} {mg : Str → Option Value} (T : Fx K mg) : mg "_law_kept" = some (.ref (He.ga K "_law_kept")) := T.glo 40 rfl
theorem Fx.g_l_due {K : PySem.W.Frag} {mg : Str → Option Value} (T : Fx K mg) : mg "_law_due" = some (.ref (He.ga K "_law_due")) := T.glo 41 rfl
theorem Fx.g_l_right {K : PySem.W.Frag} {mg : Str → Option Value} (T : Fx K mg) : mg "_law_right" = some (.ref (He.ga K "_law_right")) := T.glo 42 rfl
theorem Fx.g_l_law {K : PySem.W.Frag} {mg : Str → Option Value} (T : Fx K mg) : mg "law" = some (.ref (He.ga K "law")) := T.glo 43 rfl
theorem Fx.n_ArithmeticError {K : PySem.W.Frag} {mg : Str → Option Value} (T : Fx K mg) : mg "ArithmeticError" = none := T.free 44 rfl
theorem Fx.n_AttributeError {K : PySem.W.Frag} {mg : Str → Option Value} (T : Fx K mg) : mg "AttributeError" = none := T.free 45 rfl
theorem Fx.n_Exception {K : PySem.W.Frag} {mg : Str → Option Value} (T : Fx K mg) : mg "Exception" = none := T.free 46 rfl
theorem Fx.n_IndexError {K : PySem.W.Frag} {mg : Str → Option Value} (T : Fx K mg) : mg "IndexError" = none := T.free 47 rfl
theorem Fx.n_KeyError {K : PySem.W.Frag} {mg : Str → Option Value} (T : Fx K mg) : mg "KeyError" = none := T.free 48 rfl
theorem Fx.n_LookupError {K : PySem.W.Frag} {mg : Str → Option Value} (T : Fx K mg) : mg "LookupError" = none := T.free 49 rfl
theorem Fx.n_RuntimeError {K : PySem.W.Frag} {mg : Str → Option Value} (T : Fx K mg) : mg "RuntimeError" = none := T.free 50 rfl
theorem Fx.n_TypeError {K : PySem.W.Frag} {mg : Str → Option Value} (T : Fx K mg) : mg "TypeError" = none := T.free 51 rfl
theorem Fx.n_ValueError {K : PySem.W.Frag} {mg : Str → Option Value} (T : Fx K mg) : mg "ValueError" = none := T.free 52 rfl
theorem Fx.n_ZeroDivisionError {K : PySem.W.Frag} {mg : Str → Option Value} (T : Fx K mg) : mg "ZeroDivisionError" = none := T.free 53 rfl
theorem Fx.n_abs {K : PySem.W.Frag} {mg : Str → Option Value} (T : Fx K mg) : mg "abs" = none := T.free 54 rfl
theorem Fx.n_all {K : PySem.W.Frag} {mg : Str → Option Value} (T : Fx K mg) : mg "all" = none := T.free 55 rfl
theorem Fx.n_divmod {K : PySem.W.Frag} {mg : Str → Option Value} (T : Fx K mg) : mg "divmod" = none := T.free 56 rfl
theorem Fx.n_int {K : PySem.W.Frag} {mg : Str → Option Value} (T : Fx K mg) : mg "int" = none := T.free 57 rfl
theorem Fx.n_isinstance {K : PySem.W.Frag} {mg : Str → Option Value} (T : Fx K mg) : mg "isinstance" = none := T.free 58 rfl
theorem Fx.n_len {K : PySem.W.Frag} {mg : Str → Option Value} (T : Fx K mg) : mg "len" = none := T.free 59 rfl
theorem Fx.n_max {K : PySem.W.Frag} {mg : Str → Option Value} (T : Fx K mg) : mg "max" = none := T.free 60 rfl
theorem Fx.n_min {K : PySem.W.Frag} {mg : Str → Option Value} (T : Fx K mg) : mg "min" = none := T.free 61 rfl
theorem Fx.n_range {K : PySem.W.Frag} {mg : Str → Option Value} (T : Fx K mg) : mg "range" = none := T.free 62 rfl
theorem Fx.n_repr {K : PySem.W.Frag} {mg : Str → Option Value} (T : Fx K mg) : mg "repr" = none := T.free 63 rfl
theorem Fx.n_tuple {K : PySem.W.Frag} {mg : Str → Option Value} (T : Fx K mg) : mg "tuple" = none := T.free 64 rfl
theorem Fx.d_InvalidText_init {K : PySem.W.Frag} {mg : Str → Option Value} (T : Fx K mg) : ∃ fd, FunD K dInvalidText_init.name dInvalidText_init.qual dInvalidText_init.params dInvalidText_init.body dInvalidText_init.scope (dInvalidText_init.dvs K) (dInvalidText_init.kws K) (He.fAd K dInvalidText_init.at_) fd := T.fn 0 rfl
theorem Fx.d_InvalidProgram_init {K : PySem.W.Frag} {mg : Str → Option Value} (T : Fx K mg) : ∃ fd, FunD K dInvalidProgram_init.name dInvalidProgram_init.qual dInvalidProgram_init.params dInvalidProgram_init.body dInvalidProgram_init.scope (dInvalidProgram_init.dvs K) (dInvalidProgram_init.kws K) (He.fAd K dInvalidProgram_init.at_) fd := T.fn 1 rfl
theorem Fx.d_InvalidIndex_init {K : PySem.W.Frag} {mg : Str → Option Value} (T : Fx K mg) : ∃ fd, FunD K dInvalidIndex_init.name dInvalidIndex_init.qual dInvalidIndex_init.params dInvalidIndex_init.body dInvalidIndex_init.scope (dInvalidIndex_init.dvs K) (dInvalidIndex_init.kws K) (He.fAd K dInvalidIndex_init.at_) fd := T.fn 2 rfl
theorem Fx.d_InvalidPlace_init {K : PySem.W.Frag} {mg : Str → Option Value} (T : Fx K mg) : ∃ fd, FunD K dInvalidPlace_init.name dInvalidPlace_init.qual dInvalidPlace_init.params dInvalidPlace_init.body dInvalidPlace_init.scope (dInvalidPlace_init.dvs K) (dInvalidPlace_init.kws K) (He.fAd K dInvalidPlace_init.at_) fd := T.fn 3 rfl
theorem Fx.d_InvalidNumber_init {K : PySem.W.Frag} {mg : Str → Option Value} (T : Fx K mg) : ∃ fd, FunD K dInvalidNumber_init.name dInvalidNumber_init.qual dInvalidNumber_init.params dInvalidNumber_init.body dInvalidNumber_init.scope (dInvalidNumber_init.dvs K) (dInvalidNumber_init.kws K) (He.fAd K dInvalidNumber_init.at_) fd := T.fn 4 rfl
theorem Fx.d_InvalidState_init {K : PySem.W.Frag} {mg : Str → Option Value} (T : Fx K mg) : ∃ fd, FunD K dInvalidState_init.name dInvalidState_init.qual dInvalidState_init.params dInvalidState_init.body dInvalidState_init.scope (dInvalidState_init.dvs K) (dInvalidState_init.kws K) (He.fAd K dInvalidState_init.at_) fd := T.fn 5 rfl
theorem Fx.d_InvalidStretch_init {K : PySem.W.Frag} {mg : Str → Option Value} (T : Fx K mg) : ∃ fd, FunD K dInvalidStretch_init.name dInvalidStretch_init.qual dInvalidStretch_init.params dInvalidStretch_init.body dInvalidStretch_init.scope (dInvalidStretch_init.dvs K) (dInvalidStretch_init.kws K) (He.fAd K dInvalidStretch_init.at_) fd := T.fn 6 rfl
theorem Fx.d_InvalidRest_init {K : PySem.W.Frag} {mg : Str → Option Value} (T : Fx K mg) : ∃ fd, FunD K dInvalidRest_init.name dInvalidRest_init.qual dInvalidRest_init.params dInvalidRest_init.body dInvalidRest_init.scope (dInvalidRest_init.dvs K) (dInvalidRest_init.kws K) (He.fAd K dInvalidRest_init.at_) fd := T.fn 7 rfl
theorem Fx.d_InvalidWidth_init {K : PySem.W.Frag} {mg : Str → Option Value} (T : Fx K mg) : ∃ fd, FunD K dInvalidWidth_init.name dInvalidWidth_init.qual dInvalidWidth_init.params dInvalidWidth_init.body dInvalidWidth_init.scope (dInvalidWidth_init.dvs K) (dInvalidWidth_init.kws K) (He.fAd K dInvalidWidth_init.at_) fd := T.fn 8 rfl
theorem Fx.d_InvalidGuard_init {K : PySem.W.Frag} {mg : Str → Option Value} (T : Fx K mg) : ∃ fd, FunD K dInvalidGuard_init.name dInvalidGuard_init.qual dInvalidGuard_init.params dInvalidGuard_init.body dInvalidGuard_init.scope (dInvalidGuard_init.dvs K) (dInvalidGuard_init.kws K) (He.fAd K dInvalidGuard_init.at_) fd := T.fn 9 rfl
theorem Fx.d_InvalidSize_init {K : PySem.W.Frag} {mg : Str → Option Value} (T : Fx K mg) : ∃ fd, FunD K dInvalidSize_init.name dInvalidSize_init.qual dInvalidSize_init.params dInvalidSize_init.body dInvalidSize_init.scope (dInvalidSize_init.dvs K) (dInvalidSize_init.kws K) (He.fAd K dInvalidSize_init.at_) fd := T.fn 10 rfl
theorem Fx.d_InvalidSlot_init {K : PySem.W.Frag} {mg : Str → Option Value} (T : Fx K mg) : ∃ fd, FunD K dInvalidSlot_init.name dInvalidSlot_init.qual dInvalidSlot_init.params dInvalidSlot_init.body dInvalidSlot_init.scope (dInvalidSlot_init.dvs K) (dInvalidSlot_init.kws K) (He.fAd K dInvalidSlot_init.at_) fd := T.fn 11 rfl
theorem Fx.d_InvalidDifferences_init {K : PySem.W.Frag} {mg : Str → Option Value} (T : Fx K mg) : ∃ fd, FunD K dInvalidDifferences_init.name dInvalidDifferences_init.qual dInvalidDifferences_init.params dInvalidDifferences_init.body dInvalidDifferences_init.scope (dInvalidDifferences_init.dvs K) (dInvalidDifferences_init.kws K) (He.fAd K dInvalidDifferences_init.at_) fd := T.fn 12 rfl
theorem Fx.d_InvalidEquations_init {K : PySem.W.Frag} {mg : Str → Option Value} (T : Fx K mg) : ∃ fd, FunD K dInvalidEquations_init.name dInvalidEquations_init.qual dInvalidEquations_init.params dInvalidEquations_init.body dInvalidEquations_init.scope (dInvalidEquations_init.dvs K) (dInvalidEquations_init.kws K) (He.fAd K dInvalidEquations_init.at_) fd := T.fn 13 rfl
theorem Fx.d_InvalidSight_init {K : PySem.W.Frag} {mg : Str → Option Value} (T : Fx K mg) : ∃ fd, FunD K dInvalidSight_init.name dInvalidSight_init.qual dInvalidSight_init.params dInvalidSight_init.body dInvalidSight_init.scope (dInvalidSight_init.dvs K) (dInvalidSight_init.kws K) (He.fAd K dInvalidSight_init.at_) fd := T.fn 14 rfl
theorem Fx.d_InvalidLook_init {K : PySem.W.Frag} {mg : Str → Option Value} (T : Fx K mg) : ∃ fd, FunD K dInvalidLook_init.name dInvalidLook_init.qual dInvalidLook_init.params dInvalidLook_init.body dInvalidLook_init.scope (dInvalidLook_init.dvs K) (dInvalidLook_init.kws K) (He.fAd K dInvalidLook_init.at_) fd := T.fn 15 rfl
theorem Fx.d_InvalidExpression_init {K : PySem.W.Frag} {mg : Str → Option Value} (T : Fx K mg) : ∃ fd, FunD K dInvalidExpression_init.name dInvalidExpression_init.qual dInvalidExpression_init.params dInvalidExpression_init.body dInvalidExpression_init.scope (dInvalidExpression_init.dvs K) (dInvalidExpression_init.kws K) (He.fAd K dInvalidExpression_init.at_) fd := T.fn 16 rfl
theorem Fx.d_InvalidStep_init {K : PySem.W.Frag} {mg : Str → Option Value} (T : Fx K mg) : ∃ fd, FunD K dInvalidStep_init.name dInvalidStep_init.qual dInvalidStep_init.params dInvalidStep_init.body dInvalidStep_init.scope (dInvalidStep_init.dvs K) (dInvalidStep_init.kws K) (He.fAd K dInvalidStep_init.at_) fd := T.fn 17 rfl
theorem Fx.d_InvalidFault_init {K : PySem.W.Frag} {mg : Str → Option Value} (T : Fx K mg) : ∃ fd, FunD K dInvalidFault_init.name dInvalidFault_init.qual dInvalidFault_init.params dInvalidFault_init.body dInvalidFault_init.scope (dInvalidFault_init.dvs K) (dInvalidFault_init.kws K) (He.fAd K dInvalidFault_init.at_) fd := T.fn 18 rfl
theorem Fx.d_InvalidInputs_init {K : PySem.W.Frag} {mg : Str → Option Value} (T : Fx K mg) : ∃ fd, FunD K dInvalidInputs_init.name dInvalidInputs_init.qual dInvalidInputs_init.params dInvalidInputs_init.body dInvalidInputs_init.scope (dInvalidInputs_init.dvs K) (dInvalidInputs_init.kws K) (He.fAd K dInvalidInputs_init.at_) fd := T.fn 19 rfl
theorem Fx.d_InvalidOrder_init {K : PySem.W.Frag} {mg : Str → Option Value} (T : Fx K mg) : ∃ fd, FunD K dInvalidOrder_init.name dInvalidOrder_init.qual dInvalidOrder_init.params dInvalidOrder_init.body dInvalidOrder_init.scope (dInvalidOrder_init.dvs K) (dInvalidOrder_init.kws K) (He.fAd K dInvalidOrder_init.at_) fd := T.fn 20 rfl
theorem Fx.d_InvalidTable_init {K : PySem.W.Frag} {mg : Str → Option Value} (T : Fx K mg) : ∃ fd, FunD K dInvalidTable_init.name dInvalidTable_init.qual dInvalidTable_init.params dInvalidTable_init.body dInvalidTable_init.scope (dInvalidTable_init.dvs K) (dInvalidTable_init.kws K) (He.fAd K dInvalidTable_init.at_) fd := T.fn 21 rfl
theorem Fx.d_InvalidMarks_init {K : PySem.W.Frag} {mg : Str → Option Value} (T : Fx K mg) : ∃ fd, FunD K dInvalidMarks_init.name dInvalidMarks_init.qual dInvalidMarks_init.params dInvalidMarks_init.body dInvalidMarks_init.scope (dInvalidMarks_init.dvs K) (dInvalidMarks_init.kws K) (He.fAd K dInvalidMarks_init.at_) fd := T.fn 22 rfl
theorem Fx.d_InvalidSlots_init {K : PySem.W.Frag} {mg : Str → Option Value} (T : Fx K mg) : ∃ fd, FunD K dInvalidSlots_init.name dInvalidSlots_init.qual dInvalidSlots_init.params dInvalidSlots_init.body dInvalidSlots_init.scope (dInvalidSlots_init.dvs K) (dInvalidSlots_init.kws K) (He.fAd K dInvalidSlots_init.at_) fd := T.fn 23 rfl
theorem Fx.d_InvalidValues_init {K : PySem.W.Frag} {mg : Str → Option Value} (T : Fx K mg) : ∃ fd, FunD K dInvalidValues_init.name dInvalidValues_init.qual dInvalidValues_init.params dInvalidValues_init.body dInvalidValues_init.scope (dInvalidValues_init.dvs K) (dInvalidValues_init.kws K) (He.fAd K dInvalidValues_init.at_) fd := T.fn 24 rfl
theorem Fx.d_InvalidRow_init {K : PySem.W.Frag} {mg : Str → Option Value} (T : Fx K mg) : ∃ fd, FunD K dInvalidRow_init.name dInvalidRow_init.qual dInvalidRow_init.params dInvalidRow_init.body dInvalidRow_init.scope (dInvalidRow_init.dvs K) (dInvalidRow_init.kws K) (He.fAd K dInvalidRow_init.at_) fd := T.fn 25 rfl
theorem Fx.d_InvalidRows_init {K : PySem.W.Frag} {mg : Str → Option Value} (T : Fx K mg) : ∃ fd, FunD K dInvalidRows_init.name dInvalidRows_init.qual dInvalidRows_init.params dInvalidRows_init.body dInvalidRows_init.scope (dInvalidRows_init.dvs K) (dInvalidRows_init.kws K) (He.fAd K dInvalidRows_init.at_) fd := T.fn 26 rfl
theorem Fx.d_l_well {K : PySem.W.Frag} {mg : Str → Option Value} (T : Fx K mg) : ∃ fd, FunD K dl_well.name dl_well.qual dl_well.params dl_well.body dl_well.scope (dl_well.dvs K) (dl_well.kws K) (He.fAd K dl_well.at_) fd := T.fn 27 rfl
theorem Fx.d_l_draw {K : PySem.W.Frag} {mg : Str → Option Value} (T : Fx K mg) : ∃ fd, FunD K dl_draw.name dl_draw.qual dl_draw.params dl_draw.body dl_draw.scope (dl_draw.dvs K) (dl_draw.kws K) (He.fAd K dl_draw.at_) fd := T.fn 28 rfl
theorem Fx.d_l_pick {K : PySem.W.Frag} {mg : Str → Option Value} (T : Fx K mg) : ∃ fd, FunD K dl_pick.name dl_pick.qual dl_pick.params dl_pick.body dl_pick.scope (dl_pick.dvs K) (dl_pick.kws K) (He.fAd K dl_pick.at_) fd := T.fn 29 rfl
theorem Fx.d_l_odd {K : PySem.W.Frag} {mg : Str → Option Value} (T : Fx K mg) : ∃ fd, FunD K dl_odd.name dl_odd.qual dl_odd.params dl_odd.body dl_odd.scope (dl_odd.dvs K) (dl_odd.kws K) (He.fAd K dl_odd.at_) fd := T.fn 30 rfl
theorem Fx.d_l_thing {K : PySem.W.Frag} {mg : Str → Option Value} (T : Fx K mg) : ∃ fd, FunD K dl_thing.name dl_thing.qual dl_thing.params dl_thing.body dl_thing.scope (dl_thing.dvs K) (dl_thing.kws K) (He.fAd K dl_thing.at_) fd := T.fn 31 rfl
theorem Fx.d_l_first_ones {K : PySem.W.Frag} {mg : Str → Option Value} (T : Fx K mg) : ∃ fd, FunD K dl_first_ones.name dl_first_ones.qual dl_first_ones.params dl_first_ones.body dl_first_ones.scope (dl_first_ones.dvs K) (dl_first_ones.kws K) (He.fAd K dl_first_ones.at_) fd := T.fn 32 rfl
theorem Fx.d_l_last_ones {K : PySem.W.Frag} {mg : Str → Option Value} (T : Fx K mg) : ∃ fd, FunD K dl_last_ones.name dl_last_ones.qual dl_last_ones.params dl_last_ones.body dl_last_ones.scope (dl_last_ones.dvs K) (dl_last_ones.kws K) (He.fAd K dl_last_ones.at_) fd := T.fn 33 rfl
theorem Fx.d_l_first_named {K : PySem.W.Frag} {mg : Str → Option Value} (T : Fx K mg) : ∃ fd, FunD K dl_first_named.name dl_first_named.qual dl_first_named.params dl_first_named.body dl_first_named.scope (dl_first_named.dvs K) (dl_first_named.kws K) (He.fAd K dl_first_named.at_) fd := T.fn 34 rfl
theorem Fx.d_l_last_named {K : PySem.W.Frag} {mg : Str → Option Value} (T : Fx K mg) : ∃ fd, FunD K dl_last_named.name dl_last_named.qual dl_last_named.params dl_last_named.body dl_last_named.scope (dl_last_named.dvs K) (dl_last_named.kws K) (He.fAd K dl_last_named.at_) fd := T.fn 35 rfl
theorem Fx.d_l_truths {K : PySem.W.Frag} {mg : Str → Option Value} (T : Fx K mg) : ∃ fd, FunD K dl_truths.name dl_truths.qual dl_truths.params dl_truths.body dl_truths.scope (dl_truths.dvs K) (dl_truths.kws K) (He.fAd K dl_truths.at_) fd := T.fn 36 rfl
theorem Fx.d_l_kept {K : PySem.W.Frag} {mg : Str → Option Value} (T : Fx K mg) : ∃ fd, FunD K dl_kept.name dl_kept.qual dl_kept.params dl_kept.body dl_kept.scope (dl_kept.dvs K) (dl_kept.kws K) (He.fAd K dl_kept.at_) fd := T.fn 37 rfl
theorem Fx.d_l_due {K : PySem.W.Frag} {mg : Str → Option Value} (T : Fx K mg) : ∃ fd, FunD K dl_due.name dl_due.qual dl_due.params dl_due.body dl_due.scope (dl_due.dvs K) (dl_due.kws K) (He.fAd K dl_due.at_) fd := T.fn 38 rfl
theorem Fx.d_l_right {K : PySem.W.Frag} {mg : Str → Option Value} (T : Fx K mg) : ∃ fd, FunD K dl_right.name dl_right.qual dl_right.params dl_right.body dl_right.scope (dl_right.dvs K) (dl_right.kws K) (He.fAd K dl_right.at_) fd := T.fn 39 rfl
theorem Fx.d_l_law {K : PySem.W.Frag} {mg : Str → Option Value} (T : Fx K mg) : ∃ fd, FunD K dl_law.name dl_law.qual dl_law.params dl_law.body dl_law.scope (dl_law.dvs K) (dl_law.kws K) (He.fAd K dl_law.at_) fd := T.fn 40 rfl
end Lw

namespace Lw
open PySem PySem.Spec L2 Eg
local macro_rules | `(tactic| walk_at "vis") => `(tactic| first | exact Or.inl rfl | exact Or.inr (Or.inl rfl) | exact Or.inr (Or.inr rfl))
local macro_rules | `(tactic| walk_at "loc") => `(tactic| first | exact Or.inl rfl | exact Or.inr rfl)
local macro_rules | `(tactic| walk_at "nm") => `(tactic| first
  | refine Ev.name 0 (by rfl) (by walk_at "vis") (by rfl) ?_
  | refine Ev.name 1 (by rfl) (by walk_at "vis") (by rfl) ?_
  | refine Ev.name 2 (by rfl) (by walk_at "vis") (by rfl) ?_
  | refine Ev.name 3 (by rfl) (by walk_at "vis") (by rfl) ?_
  | refine Ev.name 4 (by rfl) (by walk_at "vis") (by rfl) ?_
  | refine Ev.name 5 (by rfl) (by walk_at "vis") (by rfl) ?_
  | refine Ev.name 6 (by rfl) (by walk_at "vis") (by rfl) ?_
  | refine Ev.name 7 (by rfl) (by walk_at "vis") (by rfl) ?_
  | refine Ev.name 8 (by rfl) (by walk_at "vis") (by rfl) ?_)
local macro_rules | `(tactic| walk_at "st") => `(tactic| first
  | refine St.set 1 (by assumption) (by rfl) (by walk_at "loc") (by walk_at "loc") ?_ rfl
  | refine St.set 2 (by assumption) (by rfl) (by walk_at "loc") (by walk_at "loc") ?_ rfl
  | refine St.set 3 (by assumption) (by rfl) (by walk_at "loc") (by walk_at "loc") ?_ rfl
  | refine St.set 4 (by assumption) (by rfl) (by walk_at "loc") (by walk_at "loc") ?_ rfl
  | refine St.set 5 (by assumption) (by rfl) (by walk_at "loc") (by walk_at "loc") ?_ rfl
  | refine St.set 6 (by assumption) (by rfl) (by walk_at "loc") (by walk_at "loc") ?_ rfl
  | refine St.set 7 (by assumption) (by rfl) (by walk_at "loc") (by walk_at "loc") ?_ rfl
  | refine St.set 8 (by assumption) (by rfl) (by walk_at "loc") (by walk_at "loc") ?_ rfl)
local macro_rules | `(tactic| walk_at "gn") => `(tactic| first
  | refine EvG.name 0 (by assumption) (by rfl) (by walk_at "loc") (by walk_at "loc") ?_
  | refine EvG.name 1 (by assumption) (by rfl) (by walk_at "loc") (by walk_at "loc") ?_
  | refine EvG.name 2 (by assumption) (by rfl) (by walk_at "loc") (by walk_at "loc") ?_
  | refine EvG.name 3 (by assumption) (by rfl) (by walk_at "loc") (by walk_at "loc") ?_
  | refine EvG.name 4 (by assumption) (by rfl) (by walk_at "loc") (by walk_at "loc") ?_
  | refine EvG.name 5 (by assumption) (by rfl) (by walk_at "loc") (by walk_at "loc") ?_
  | refine EvG.name 6 (by assumption) (by rfl) (by walk_at "loc") (by walk_at "loc") ?_
  | refine EvG.name 7 (by assumption) (by rfl) (by walk_at "loc") (by walk_at "loc") ?_
  | refine EvG.name 8 (by assumption) (by rfl) (by walk_at "loc") (by walk_at "loc") ?_)
local macro_rules | `(tactic| walk_at "one") => `(tactic| with_reducible first
  | refine sAdd.mk ?_ | refine sSub.mk ?_ | refine sLt.mk ?_ | refine sLe.mk ?_ | refine sGt.mk ?_ | refine sGe.mk ?_ | refine sEq.int ?_ | refine sNe.int ?_ | refine toT.mk ?_
  | refine Ev.int ?_ | refine Ev.str ?_ | refine Ev.bl ?_ | refine Ev.non ?_
  | refine Ev.sub ?_ | refine Ev.addI ?_ | refine Ev.mul ?_ | refine Ev.mod ?_ | refine Ev.fdiv ?_ | refine Ev.pow ?_ | refine Ev.neg ?_
  | refine Ev.lt ?_ | refine Ev.le ?_ | refine Ev.gt ?_ | refine Ev.ge ?_ | refine Ev.eq ?_ | refine Ev.ne ?_
  | refine Ev.ifE ?_ | refine Ev.tup ?_ | refine EvA.nil ?_ | refine EvA.cons ?_ rfl | refine EvT.not ?_
  | refine EvT.lt ?_ | refine EvT.le ?_ | refine EvT.gt ?_ | refine EvT.ge ?_ | refine EvT.eq ?_ | refine EvT.ne ?_
  | refine EvT.w ?_ | refine EvW.and ?_ | refine EvW.or ?_ | refine EvW.and1 ?_ | refine EvW.or1 ?_
  | refine Sts.cons ?_ | refine Sts.nil ?_ | refine St.ifS ?_ | refine St.ret ?_ | refine St.expr ?_ rfl)
local macro_rules | `(tactic| walk_at "go") => `(tactic| repeat (first | ((with_reducible show Ev _ (.Name _ _) _ _ _); (walk_at "nm")) | walk_at "one" | ((with_reducible show St _ (.Assign [.Name _ _] _ _) _ _ _); (walk_at "st"))))
def WOk (a b c : Int) : Prop := 0 ≤ a ∧ 0 ≤ b ∧ b < 2147483563 ∧ 0 ≤ c ∧ c < 1000000
def C_draw : Ctr := fun ds μ R => ∃ k n a b c t, ds = [.mu k, .int n] ∧ μ[k]? = some (.lst [.int a, .int b, .int c, t]) ∧ 0 < n ∧ n < 1073741824 ∧ WOk a b c ∧ c < 999990 ∧
  ∀ r a' b' c', 0 ≤ r → r < n → WOk a' b' c' → c' ≤ c + 1 → R (.int r) (μ.set k (.lst [.int a', .int b', .int c', t]))
section
variable {P : Program} {w : World} {K : PySem.W.Frag} {mg : Str → Option Value} {base : Heap}
theorem ok_draw (T : Fx K mg) : Fn P w K mg base "_law_draw" 1 C_draw := by
  obtain ⟨fd, F⟩ := T.d_l_draw
  refine Fn.mk (N := Nl_draw) (ps := ["_law_well_here", "_law_many"]) F scl_draw T.g_l_draw (fun _ _ _ _ _ _ us hl => match us, hl with | [_, _], _ => rfl) ?_ ?_
  · rintro ds μ R ⟨k, n, a, b, c, t, rfl, _⟩
    rfl
  rintro cd A outer s H hg hr hnd ds μ R ⟨k, n, a, b, c, t, rfl, hk, hn, hn2, ⟨h1, h2, h3, h4, h5⟩, h6, q⟩
  have hkn : k < μ.length := (List.getElem?_eq_some_iff.mp hk).1
  refine Sts.cons (St.ifS (EvT.gt (Ev.at ?_)))
  walk_at "nm"
  refine Ev.int (sIx.mu hk rfl (Ev.int ⟨_, _, rfl, rfl, _, rfl, ?_⟩))
  refine ifd (fun ha => ?_) (fun ha => ?_)
  · refine Sts.cons (St.asg (Ev.divmod rfl T.n_divmod (EvA.cons (Ev.at ?_))) rfl rfl rfl)
    walk_at "nm"
    refine Ev.int (sIx.mu hk rfl (EvA.cons ?_))
    walk_at "nm"
    refine EvA.nil ⟨_, _, rfl, ⟨hn, hn2⟩, EvG.tup rfl (EvGs.cons (EvG.sub ?_)) rfl rfl⟩
    walk_at "nm"
    refine Ev.int ⟨_, _, _, _, rfl, rfl, hk, rfl, EvGs.cons ?_⟩
    walk_at "gn"
    refine EvGs.nil (Sts.cons (St.ret ?_))
    walk_at "nm"
    refine Or.inl (q (a % n) (a / n) b c (Int.emod_nonneg _ (by omega)) (Int.emod_lt_of_pos _ hn) ⟨Int.ediv_nonneg h1 (by omega), h2, h3, h4, h5⟩ (by omega))
  · refine Sts.nil (Sts.cons (St.asg (Ev.addI (Ev.at ?_))))
    walk_at "nm"
    refine Ev.int (sIx.mu hk rfl (Ev.int ⟨_, _, rfl, rfl, EvG.sub ?_⟩))
    walk_at "nm"
    refine Ev.int ⟨_, _, _, _, rfl, rfl, hk, rfl, Sts.cons ?_⟩
    have hk2 : (μ.set k (MO.lst [.int a, .int b, .int (c + 1), t]))[k]? = some (.lst [.int a, .int b, .int (c + 1), t]) := List.getElem?_set_self hkn
    walk_at "st"
    refine Ev.mod (Ev.toInt rfl T.n_int (EvA.cons (Ev.addI (Ev.at ?_))))
    walk_at "nm"
    refine Ev.int (sIx.mu hk2 rfl (Ev.mul (Ev.int (Ev.at ?_))))
    walk_at "nm"
    refine Ev.int (sIx.mu hk2 rfl ⟨_, _, rfl, rfl, mulok (by omega) (by omega), _, _, rfl, rfl, EvA.nil (Or.inl ⟨_, rfl, Ev.int ⟨_, _, rfl, rfl, by decide, ?_⟩⟩)⟩)
    generalize hx : (b + 60013 * (c + 1)).fmod 2147483563 = x
    have hx0 : 0 ≤ x ∧ x < 2147483563 := by
      rw [← hx, Int.fmod_eq_emod_of_nonneg _ (by decide)]
      exact ⟨Int.emod_nonneg _ (by decide), Int.emod_lt_of_pos _ (by decide)⟩
    refine Sts.cons (St.asg (Ev.mod (Ev.toInt rfl T.n_int (EvA.cons (Ev.addI (Ev.mul ?_))))))
    walk_at "nm"
    refine Ev.addI (Ev.mod (Ev.toInt rfl T.n_int (EvA.cons ?_)))
    walk_at "nm"
    refine EvA.nil (Or.inl ⟨_, rfl, Ev.int ⟨_, _, rfl, rfl, by decide, Ev.int ⟨_, _, rfl, rfl, ?_⟩⟩⟩)
    generalize hy : x.fmod 5003 = y
    have hy0 : 0 ≤ y ∧ y < 5003 := by
      rw [← hy, Int.fmod_eq_emod_of_nonneg _ (by decide)]
      exact ⟨Int.emod_nonneg _ (by decide), Int.emod_lt_of_pos _ (by decide)⟩
    refine ⟨_, _, rfl, rfl, mulok (by omega) (by omega), Ev.mul (Ev.int (Ev.at ?_))⟩
    walk_at "nm"
    refine Ev.int (sIx.mu hk2 rfl ⟨_, _, rfl, rfl, mulok (by omega) (by omega), _, _, rfl, rfl, EvA.nil (Or.inl ⟨_, rfl, Ev.int ⟨_, _, rfl, rfl, by decide, EvG.sub ?_⟩⟩)⟩)
    generalize hz : (x * (y + 40009) + 31 * (c + 1)).fmod 2147483563 = z
    have hz0 : 0 ≤ z ∧ z < 2147483563 := by
      rw [← hz, Int.fmod_eq_emod_of_nonneg _ (by decide)]
      exact ⟨Int.emod_nonneg _ (by decide), Int.emod_lt_of_pos _ (by decide)⟩
    walk_at "nm"
    refine Ev.int ⟨_, _, _, _, rfl, rfl, hk2, rfl, ?_⟩
    rw [List.set_set]
    have hk3 : (μ.set k (MO.lst [.int a, .int z, .int (c + 1), t]))[k]? = some (.lst [.int a, .int z, .int (c + 1), t]) := List.getElem?_set_self hkn
    refine Sts.cons (St.ret (Ev.mod (Ev.toInt rfl T.n_int (EvA.cons (Ev.fdiv (Ev.at ?_))))))
    walk_at "nm"
    refine Ev.int (sIx.mu hk3 rfl (Ev.int ⟨_, _, rfl, rfl, divok (by decide) (by decide), EvA.nil (Or.inl ⟨_, rfl, ?_⟩)⟩))
    walk_at "nm"
    refine ⟨_, _, rfl, rfl, by omega, Or.inl (q _ a z (c + 1) ?_ ?_ ⟨h1, by omega, by omega, by omega, by omega⟩ (by omega))⟩
    · rw [Int.fmod_eq_emod_of_nonneg _ (by omega)]
      exact Int.emod_nonneg _ (by omega)
    · rw [Int.fmod_eq_emod_of_nonneg _ (by omega)]
      exact Int.emod_lt_of_pos _ hn
end
/-! ### what holds of the objects while numbers are drawn -/
def WS (μ : List MO) (k : Nat) (c : Int) : Prop := (∃ a b, μ[k]? = some (.lst [.int a, .int b, .int c, .int 3]) ∧ WOk a b c) ∧ μ.all (MO.bel μ.length) = true
def Wch (μ μ' : List MO) (k : Nat) : Prop := μ'.length = μ.length ∧ ∀ j, j ≠ k → μ'[j]? = μ[j]?
theorem Wch.refl (μ : List MO) (k : Nat) : Wch μ μ k := ⟨rfl, fun _ _ => rfl⟩
theorem Wch.trans {a b c : List MO} {k : Nat} (h : Wch a b k) (g : Wch b c k) : Wch a c k := ⟨g.1.trans h.1, fun j n => (g.2 j n).trans (h.2 j n)⟩
theorem all_set {μ : List MO} {k n : Nat} {m : MO} (h : μ.all (MO.bel n) = true) (hm : MO.bel n m = true) : (μ.set k m).all (MO.bel n) = true := by
  rw [List.all_eq_true] at h ⊢
  intro x hx
  rcases List.mem_or_eq_of_mem_set hx with z | z
  · exact h x z
  · rw [z]
    exact hm
def C_drw : Ctr := fun ds μ R => ∃ k n c, ds = [.mu k, .int n] ∧ 0 < n ∧ n < 1073741824 ∧ WS μ k c ∧ c < 999990 ∧ ∀ r μ' c', 0 ≤ r → r < n → WS μ' k c' → c' ≤ c + 1 → Wch μ μ' k → R (.int r) μ'
/-- what is drawn: flat and shallow -/
def okB : Nat → DV → Bool
  | _, .non => true
  | _, .bl _ => true
  | _, .int i => decide (i.natAbs ≤ 10 ^ 40)
  | _, .str x => decide (x.length ≤ 100) && decide ((reprText x).length ≤ 50)
  | k + 1, .tup xs => decide (xs.length ≤ 4) && xs.all (okB k)
  | k + 1, .lst xs => decide (xs.length ≤ 4) && xs.all (okB k)
  | _, .dic [] => true
  | _, _ => false
def C_pick : Ctr := fun ds μ R => ∃ k xs c, ds = [.mu k, .tup xs] ∧ 0 < xs.length ∧ xs.length < 1000 ∧ WS μ k c ∧ c < 999990 ∧ ∀ d μ' c', d ∈ xs → WS μ' k c' → c' ≤ c + 1 → Wch μ μ' k → R d μ'
def C_odd : Ctr := fun ds μ R => ∃ k c, ds = [.mu k] ∧ WS μ k c ∧ c < 999990 ∧ ∀ d μ' c', okB 3 d = true → WS μ' k c' → c' ≤ c + 1 → Wch μ μ' k → R d μ'
section
variable {P : Program} {w : World} {K : PySem.W.Frag} {mg : Str → Option Value} {base : Heap}
theorem ok_drw (T : Fx K mg) : Fn P w K mg base "_law_draw" 1 C_drw := (ok_draw T).imp fun ds μ R ⟨k, n, c, e, h1, h2, ⟨⟨a, b, hk, hw⟩, ha⟩, h3, q⟩ => by
  refine ⟨k, n, a, b, c, .int 3, e, hk, h1, h2, hw, h3, fun r a' b' c' h4 h5 h6 h7 => ?_⟩
  have hkn := (List.getElem?_eq_some_iff.mp hk).1
  refine q r _ c' h4 h5 ⟨⟨a', b', List.getElem?_set_self hkn, h6⟩, ?_⟩ h7 ⟨by simp, fun j hj => List.getElem?_set_ne (Ne.symm hj)⟩
  rw [List.length_set]
  exact all_set ha rfl
theorem len_tup {μ : List MO} {xs : List DV} {R : Cn} (r : R (.int xs.length) μ) : sLen [.tup xs] μ R := ⟨_, _, rfl, rfl, r⟩
theorem ok_pick (T : Fx K mg) : Fn P w K mg base "_law_pick" 2 C_pick := by
  obtain ⟨fd, F⟩ := T.d_l_pick
  refine Fn.mk (N := Nl_pick) (ps := ["_law_well_here", "_law_some"]) F scl_pick T.g_l_pick (fun _ _ _ _ _ _ us hl => match us, hl with | [_, _], _ => rfl) ?_ ?_
  · rintro ds μ R ⟨k, xs, c, rfl, _⟩
    rfl
  rintro cd A outer s H hg hr hnd ds μ R ⟨k, xs, c, rfl, h1, h2, hw, hc, q⟩
  refine Sts.cons (St.ret (Ev.at ?_))
  walk_at "go"
  refine Ev.call (ok_drw T) hg hr rfl ?_
  walk_at "go"
  refine Ev.len rfl T.n_len ?_
  walk_at "go"
  refine len_tup ?_
  walk_at "go"
  refine ⟨k, xs.length, c, rfl, by omega, by omega, hw, hc, fun r μ' c' r0 r1 hw' hc' hch => ?_⟩
  have hi : r.toNat < xs.length := by omega
  exact sIx.tup (atI_of r0 (List.getElem?_eq_getElem hi)) (Or.inl (q _ _ _ (List.getElem_mem hi) hw' hc' hch))
theorem cpow_ok : CPow 10 40 := ⟨by decide, by decide, by decide⟩
theorem ok_odd (T : Fx K mg) : Fn P w K mg base "_law_odd" 3 C_odd := by
  obtain ⟨fd, F⟩ := T.d_l_odd
  refine Fn.mk (N := Nl_odd) (ps := ["_law_well_here"]) F scl_odd T.g_l_odd (fun _ _ _ _ _ _ us hl => match us, hl with | [_], _ => rfl) ?_ ?_
  · rintro ds μ R ⟨k, c, rfl, _⟩
    rfl
  rintro cd A outer s H hg hr hnd ds μ R ⟨k, c, rfl, hw, hc, q⟩
  refine Sts.cons (St.ret (Ev.call (ok_pick T) hg hr rfl ?_))
  repeat (first
    | walk_at "one"
    | ((with_reducible show Ev _ (.Name _ _) _ _ _); (walk_at "nm"))
    | (with_reducible refine Ev.lst ?_)
    | (with_reducible refine Ev.dic0 ?_)
    | (with_reducible refine sPow.mk cpow_ok ?_)
    | (refine ⟨_, rfl, ?_⟩)
    | (refine ⟨by show _ ≤ sizeLine; decide, ?_⟩))
  refine ⟨k, _, c, rfl, by decide, by decide, hw, hc, fun d μ' c' hd h1 h2 h3 => Or.inl (q d μ' c' ?_ h1 h2 h3)⟩
  exact List.all_eq_true.mp (by decide +kernel) d hd
end
end Lw

namespace Lw
open PySem PySem.Spec L2 Eg
local macro_rules | `(tactic| walk_at "vis") => `(tactic| first | exact Or.inl rfl | exact Or.inr (Or.inl rfl) | exact Or.inr (Or.inr rfl))
local macro_rules | `(tactic| walk_at "loc") => `(tactic| first | exact Or.inl rfl | exact Or.inr rfl)
local macro_rules | `(tactic| walk_at "nm") => `(tactic| first
  | refine Ev.name 0 (by rfl) (by walk_at "vis") (by rfl) ?_
  | refine Ev.name 1 (by rfl) (by walk_at "vis") (by rfl) ?_
  | refine Ev.name 2 (by rfl) (by walk_at "vis") (by rfl) ?_
  | refine Ev.name 3 (by rfl) (by walk_at "vis") (by rfl) ?_
  | refine Ev.name 4 (by rfl) (by walk_at "vis") (by rfl) ?_
  | refine Ev.name 5 (by rfl) (by walk_at "vis") (by rfl) ?_
  | refine Ev.name 6 (by rfl) (by walk_at "vis") (by rfl) ?_
  | refine Ev.name 7 (by rfl) (by walk_at "vis") (by rfl) ?_
  | refine Ev.name 8 (by rfl) (by walk_at "vis") (by rfl) ?_)
local macro_rules | `(tactic| walk_at "st") => `(tactic| first
  | refine St.set 1 (by assumption) (by rfl) (by walk_at "loc") (by walk_at "loc") ?_ rfl
  | refine St.set 2 (by assumption) (by rfl) (by walk_at "loc") (by walk_at "loc") ?_ rfl
  | refine St.set 3 (by assumption) (by rfl) (by walk_at "loc") (by walk_at "loc") ?_ rfl
  | refine St.set 4 (by assumption) (by rfl) (by walk_at "loc") (by walk_at "loc") ?_ rfl
  | refine St.set 5 (by assumption) (by rfl) (by walk_at "loc") (by walk_at "loc") ?_ rfl
  | refine St.set 6 (by assumption) (by rfl) (by walk_at "loc") (by walk_at "loc") ?_ rfl
  | refine St.set 7 (by assumption) (by rfl) (by walk_at "loc") (by walk_at "loc") ?_ rfl
  | refine St.set 8 (by assumption) (by rfl) (by walk_at "loc") (by walk_at "loc") ?_ rfl)
local macro_rules | `(tactic| walk_at "gn") => `(tactic| first
  | refine EvG.name 0 (by assumption) (by rfl) (by walk_at "loc") (by walk_at "loc") ?_
  | refine EvG.name 1 (by assumption) (by rfl) (by walk_at "loc") (by walk_at "loc") ?_
  | refine EvG.name 2 (by assumption) (by rfl) (by walk_at "loc") (by walk_at "loc") ?_
  | refine EvG.name 3 (by assumption) (by rfl) (by walk_at "loc") (by walk_at "loc") ?_
  | refine EvG.name 4 (by assumption) (by rfl) (by walk_at "loc") (by walk_at "loc") ?_
  | refine EvG.name 5 (by assumption) (by rfl) (by walk_at "loc") (by walk_at "loc") ?_
  | refine EvG.name 6 (by assumption) (by rfl) (by walk_at "loc") (by walk_at "loc") ?_
  | refine EvG.name 7 (by assumption) (by rfl) (by walk_at "loc") (by walk_at "loc") ?_
  | refine EvG.name 8 (by assumption) (by rfl) (by walk_at "loc") (by walk_at "loc") ?_)
local macro_rules | `(tactic| walk_at "one") => `(tactic| with_reducible first
  | refine sAdd.mk ?_ | refine sSub.mk ?_ | refine sLt.mk ?_ | refine sLe.mk ?_ | refine sGt.mk ?_ | refine sGe.mk ?_ | refine sEq.int ?_ | refine sNe.int ?_ | refine toT.mk ?_
  | refine Ev.int ?_ | refine Ev.str ?_ | refine Ev.bl ?_ | refine Ev.non ?_
  | refine Ev.sub ?_ | refine Ev.addI ?_ | refine Ev.mul ?_ | refine Ev.mod ?_ | refine Ev.fdiv ?_ | refine Ev.pow ?_ | refine Ev.neg ?_
  | refine Ev.lt ?_ | refine Ev.le ?_ | refine Ev.gt ?_ | refine Ev.ge ?_ | refine Ev.eq ?_ | refine Ev.ne ?_
  | refine Ev.ifE ?_ | refine Ev.tup ?_ | refine EvA.nil ?_ | refine EvA.cons ?_ rfl | refine EvT.not ?_
  | refine EvT.lt ?_ | refine EvT.le ?_ | refine EvT.gt ?_ | refine EvT.ge ?_ | refine EvT.eq ?_ | refine EvT.ne ?_
  | refine EvT.w ?_ | refine EvW.and ?_ | refine EvW.or ?_ | refine EvW.and1 ?_ | refine EvW.or1 ?_
  | refine Sts.cons ?_ | refine Sts.nil ?_ | refine St.ifS ?_ | refine St.ret ?_ | refine St.expr ?_ rfl)
local macro_rules | `(tactic| walk_at "go") => `(tactic| repeat (first | ((with_reducible show Ev _ (.Name _ _) _ _ _); (walk_at "nm")) | walk_at "one" | ((with_reducible show St _ (.Assign [.Name _ _] _ _) _ _ _); (walk_at "st"))))
/-! ### what is drawn holds no object -/
theorem bel_int (n a b c : Nat) (i j k l : Int) : MO.bel n (.lst [.int i, .int j, .int k, .int l]) = true := rfl
mutual
theorem okB_bel (n : Nat) : ∀ (k : Nat) (d : DV), okB k d = true → DV.bel n d = true
  | _, .non, _ => rfl
  | _, .bl _, _ => rfl
  | _, .int _, _ => rfl
  | _, .str _, _ => rfl
  | k + 1, .tup xs, h => by
    have h' : (decide (xs.length ≤ 4) && xs.all (okB k)) = true := h
    exact okB_belL n k xs (Bool.and_eq_true_iff.mp h').2
  | k + 1, .lst xs, h => by
    have h' : (decide (xs.length ≤ 4) && xs.all (okB k)) = true := h
    exact okB_belL n k xs (Bool.and_eq_true_iff.mp h').2
  | 0, .tup _, h => by cases h
  | 0, .lst _, h => by cases h
  | _, .dic [], _ => rfl
  | 0, .dic (_ :: _), h => by cases h
  | _ + 1, .dic (_ :: _), h => by cases h
  | 0, .exc _ _, h => by cases h
  | _ + 1, .exc _ _, h => by cases h
  | 0, .mu _, h => by cases h
  | _ + 1, .mu _, h => by cases h
theorem okB_belL (n : Nat) : ∀ (k : Nat) (xs : List DV), xs.all (okB k) = true → DV.belL n xs = true
  | _, [], _ => rfl
  | k, x :: r, h => by
    rw [List.all_cons] at h
    obtain ⟨h1, h2⟩ := Bool.and_eq_true_iff.mp h
    show (DV.bel n x && DV.belL n r) = true
    rw [okB_bel n k x h1, okB_belL n k r h2]
    rfl
end
mutual
theorem okB_up : ∀ (k : Nat) (d : DV), okB k d = true → okB (k + 1) d = true
  | _, .non, _ => rfl
  | _, .bl _, _ => rfl
  | k, .int i, h => by
    cases k <;> exact h
  | k, .str i, h => by
    cases k <;> exact h
  | k + 1, .tup xs, h => by
    have h' : (decide (xs.length ≤ 4) && xs.all (okB k)) = true := h
    show (decide (xs.length ≤ 4) && xs.all (okB (k + 1))) = true
    obtain ⟨h1, h2⟩ := Bool.and_eq_true_iff.mp h'
    rw [h1, okBL_up k xs h2]
    rfl
  | k + 1, .lst xs, h => by
    have h' : (decide (xs.length ≤ 4) && xs.all (okB k)) = true := h
    show (decide (xs.length ≤ 4) && xs.all (okB (k + 1))) = true
    obtain ⟨h1, h2⟩ := Bool.and_eq_true_iff.mp h'
    rw [h1, okBL_up k xs h2]
    rfl
  | 0, .tup _, h => by cases h
  | 0, .lst _, h => by cases h
  | k, .dic [], _ => by cases k <;> rfl
  | 0, .dic (_ :: _), h => by cases h
  | _ + 1, .dic (_ :: _), h => by cases h
  | 0, .exc _ _, h => by cases h
  | _ + 1, .exc _ _, h => by cases h
  | 0, .mu _, h => by cases h
  | _ + 1, .mu _, h => by cases h
theorem okBL_up : ∀ (k : Nat) (xs : List DV), xs.all (okB k) = true → xs.all (okB (k + 1)) = true
  | _, [], _ => rfl
  | k, x :: r, h => by
    rw [List.all_cons] at h ⊢
    obtain ⟨h1, h2⟩ := Bool.and_eq_true_iff.mp h
    rw [okB_up k x h1, okBL_up k r h2]
    rfl
end
theorem okB_le {k j : Nat} {d : DV} (h : okB k d = true) (e : k ≤ j) : okB j d = true := by
  obtain ⟨m, rfl⟩ := Nat.exists_eq_add_of_le e
  induction m with
  | zero => exact h
  | succ m ih => exact okB_up _ _ (ih (Nat.le_add_right _ _))
/-! ### a new object beside the others -/
mutual
theorem bel_up {n m : Nat} (e : n ≤ m) : ∀ d : DV, DV.bel n d = true → DV.bel m d = true
  | .non, _ => rfl
  | .bl _, _ => rfl
  | .int _, _ => rfl
  | .str _, _ => rfl
  | .tup xs, h => belL_up e xs h
  | .lst xs, h => belL_up e xs h
  | .dic xs, h => belK_up e xs h
  | .exc _ xs, h => belF_up e xs h
  | .mu k, h => by
    have h' : decide (k < n) = true := h
    show decide (k < m) = true
    exact decide_eq_true (Nat.lt_of_lt_of_le (of_decide_eq_true h') e)
theorem belL_up {n m : Nat} (e : n ≤ m) : ∀ xs : List DV, DV.belL n xs = true → DV.belL m xs = true
  | [], _ => rfl
  | x :: r, h => by
    obtain ⟨h1, h2⟩ := Bool.and_eq_true_iff.mp (show (DV.bel n x && DV.belL n r) = true from h)
    show (DV.bel m x && DV.belL m r) = true
    rw [bel_up e x h1, belL_up e r h2]
    rfl
theorem belK_up {n m : Nat} (e : n ≤ m) : ∀ xs : List (Key × DV), DV.belK n xs = true → DV.belK m xs = true
  | [], _ => rfl
  | (_, x) :: r, h => by
    obtain ⟨h1, h2⟩ := Bool.and_eq_true_iff.mp (show (DV.bel n x && DV.belK n r) = true from h)
    show (DV.bel m x && DV.belK m r) = true
    rw [bel_up e x h1, belK_up e r h2]
    rfl
theorem belF_up {n m : Nat} (e : n ≤ m) : ∀ xs : List (Str × DV), DV.belF n xs = true → DV.belF m xs = true
  | [], _ => rfl
  | (_, x) :: r, h => by
    obtain ⟨h1, h2⟩ := Bool.and_eq_true_iff.mp (show (DV.bel n x && DV.belF n r) = true from h)
    show (DV.bel m x && DV.belF m r) = true
    rw [bel_up e x h1, belF_up e r h2]
    rfl
end
theorem mbel_up {n m : Nat} (e : n ≤ m) : ∀ o : MO, MO.bel n o = true → MO.bel m o = true
  | .dead, _ => rfl
  | .lst xs, h => belL_up e xs h
  | .dic xs, h => belK_up e xs h
  | .ins _ xs, h => belF_up e xs h
theorem WS.app {μ : List MO} {k : Nat} {c : Int} (h : WS μ k c) {m : MO} (hm : MO.bel (μ.length + 1) m = true) : WS (μ ++ [m]) k c := by
  obtain ⟨⟨a, b, h1, h2⟩, h3⟩ := h
  have hk := (List.getElem?_eq_some_iff.mp h1).1
  refine ⟨⟨a, b, by rw [List.getElem?_append_left hk]; exact h1, h2⟩, ?_⟩
  rw [List.length_append, List.all_append]
  have z : μ.all (MO.bel (μ.length + 1)) = true := by
    rw [List.all_eq_true] at h3 ⊢
    exact fun x hx => mbel_up (Nat.le_succ _) x (h3 x hx)
  show (μ.all (MO.bel (μ.length + 1)) && (MO.bel (μ.length + 1) m && true)) = true
  rw [z, hm]
  rfl
theorem WS.pop {ν μ' : List MO} {k : Nat} {c c0 : Int} {m : MO} (h0 : WS ν k c0) (h : WS μ' k c) (hc : Wch (ν ++ [m]) μ' k) : ∃ ν', μ' = ν' ++ [m] ∧ WS ν' k c ∧ Wch ν ν' k := by
  obtain ⟨⟨a0, b0, e0, _⟩, n0⟩ := h0
  obtain ⟨⟨a, b, e1, e2⟩, n1⟩ := h
  obtain ⟨hl, hs⟩ := hc
  have hk := (List.getElem?_eq_some_iff.mp e0).1
  have hl' : μ'.length = ν.length + 1 := by rw [hl, List.length_append]; rfl
  have hlen : (μ'.take ν.length).length = ν.length := by rw [List.length_take]; omega
  have last : μ'[ν.length]? = some m := by
    rw [hs _ (by omega), List.getElem?_append_right (Nat.le_refl _), Nat.sub_self]
    rfl
  have chg : ∀ j, j ≠ k → (μ'.take ν.length)[j]? = ν[j]? := by
    intro j hj
    by_cases hz : j < ν.length
    · rw [List.getElem?_take_of_lt hz, hs j hj, List.getElem?_append_left hz]
    · rw [List.getElem?_eq_none (by omega), List.getElem?_eq_none (by omega)]
  have kk : (μ'.take ν.length)[k]? = some (.lst [.int a, .int b, .int c, .int 3]) := by
    rw [List.getElem?_take_of_lt hk]
    exact e1
  refine ⟨μ'.take ν.length, ?_, ⟨⟨a, b, kk, e2⟩, ?_⟩, hlen, chg⟩
  · have z := List.take_append_drop ν.length μ'
    have y : μ'.drop ν.length = [m] := by
      apply List.ext_getElem?
      intro i
      rw [List.getElem?_drop]
      cases i with
      | zero => simpa using last
      | succ i => rw [List.getElem?_eq_none (by omega)]; rfl
    rw [y] at z
    exact z.symm
  · rw [hlen, List.all_eq_true]
    intro x hx
    obtain ⟨j, hj⟩ := List.mem_iff_getElem?.mp hx
    by_cases e : j = k
    · subst e
      rw [kk] at hj
      cases hj
      rfl
    · rw [chg j e] at hj
      exact (List.all_eq_true.mp n0) x (List.mem_iff_getElem?.mpr ⟨j, hj⟩)
def Bd : Nat → Int
  | 0 => 2
  | m + 1 => 2 + 3 * Bd m
theorem Bd_pos (m : Nat) : 2 ≤ Bd m := by
  induction m with
  | zero => decide
  | succ m ih =>
    show 2 ≤ 2 + 3 * Bd m
    omega
def C_thing (m : Nat) : Ctr := fun ds μ R => ∃ k c, ds = [.mu k, .int m] ∧ WS μ k c ∧ c + Bd m < 999990 ∧ ∀ d μ' c', okB (3 + m) d = true → WS μ' k c' → c' ≤ c + Bd m → Wch μ μ' k → R d μ'
section
variable {P : Program} {w : World} {K : PySem.W.Frag} {mg : Str → Option Value} {base : Heap}
theorem ok_thing_step (T : Fx K mg) (m : Nat) (ih : ∀ m', m = m' + 1 → Fn P w K mg base "_law_thing" (4 + m') (C_thing m')) : Fn P w K mg base "_law_thing" (4 + m) (C_thing m) := by
  obtain ⟨fd, F⟩ := T.d_l_thing
  rw [Nat.add_comm 4 m]
  refine Fn.mk (N := Nl_thing) (ps := ["_law_well_here", "_law_deep"]) F scl_thing T.g_l_thing (fun _ _ _ _ _ _ us hl => match us, hl with | [_, _], _ => rfl) ?_ ?_
  · rintro ds μ R ⟨k, c, rfl, _⟩
    rfl
  rintro cd A outer s H hg hr hnd ds μ R ⟨k, c, rfl, hw, hc, q⟩
  have hp := Bd_pos m
  have hr1 := hr.mono (j := 1) (by omega)
  refine Sts.cons (St.set 2 (by assumption) (by rfl) (by walk_at "loc") (by walk_at "loc") (Ev.call (ok_drw T) hg (hr.mono (by omega)) rfl ?_) rfl)
  walk_at "go"
  refine ⟨k, 6, c, rfl, by decide, by decide, hw, by omega, fun r μ1 c1 r0 r1 w1 l1 h1 => ?_⟩
  refine Sts.cons ?_
  walk_at "go"
  refine ifd (fun _ => ?_) (fun _ => ?_)
  · refine Sts.cons (St.ret (Ev.sub (Ev.call (ok_drw T) hg (hr.mono (by omega)) rfl ?_)))
    walk_at "go"
    refine ⟨k, 3000017, c1, rfl, by decide, by decide, w1, by omega, fun r2 μ2 c2 p0 p1 w2 l2 h2 => ?_⟩
    walk_at "go"
    refine Or.inl (q _ _ c2 (okB_le (k := 3) ?_ (by omega)) w2 (by omega) (h1.trans h2))
    show decide ((r2 - 1500008).natAbs ≤ 10 ^ 40) = true
    exact decide_eq_true (by omega)
  refine Sts.nil (Sts.cons (St.ifS (EvT.w (EvW.or (EvT.lt ?_)))))
  walk_at "go"
  refine ifd (fun _ => iteT ?_) (fun _ => EvW.or1 (EvT.eq ?_))
  · refine Sts.cons (St.ret (Ev.call (ok_odd T) hg (hr.mono (by omega)) rfl ?_))
    walk_at "go"
    exact ⟨k, c1, rfl, w1, by omega, fun d μ2 c2 hd w2 l2 h2 => Or.inl (q _ _ c2 (okB_le hd (by omega)) w2 (by omega) (h1.trans h2))⟩
  walk_at "go"
  refine ifd (fun _ => ?_) (fun hm => ?_)
  · refine Sts.cons (St.ret (Ev.call (ok_odd T) hg (hr.mono (by omega)) rfl ?_))
    walk_at "go"
    exact ⟨k, c1, rfl, w1, by omega, fun d μ2 c2 hd w2 l2 h2 => Or.inl (q _ _ c2 (okB_le hd (by omega)) w2 (by omega) (h1.trans h2))⟩
  obtain ⟨m', rfl⟩ : ∃ m', m = m' + 1 := ⟨m - 1, by omega⟩
  have ih' := ih m' rfl
  have hb : Bd (m' + 1) = 2 + 3 * Bd m' := rfl
  have hp' := Bd_pos m'
  refine Sts.nil (Sts.cons (St.set 3 (by assumption) (by rfl) (by walk_at "loc") (by walk_at "loc") (Ev.lstM (EvA.nil ⟨by decide, ?_⟩)) rfl))
  refine Sts.cons (St.for_ PassesOwn.never rfl (EvI.range1 rfl T.n_range (EvA.cons (Ev.call (ok_drw T) hg (hr.mono (by omega)) rfl ?_))))
  walk_at "go"
  refine ⟨k, 4, c1, rfl, by decide, by decide, w1.app rfl, by omega, fun r2 μ2 c2 p0 p1 w2 l2 h2 => EvA.nil ⟨r2, rfl, by omega, by omega, ?_⟩⟩
  obtain ⟨ν2, rfl, v2, g2⟩ := w1.pop w2 h2
  have hl2 : ν2.length = μ1.length := g2.1
  have hl1 : μ1.length = μ.length := h1.1
  refine ⟨fun i ρ' μ' => ∃ t ν xs c', ρ' = [some (.mu k), some (.int ((m' + 1 : Nat) : Int)), some (.int r), some (.mu μ1.length), t] ∧ μ' = ν ++ [.lst xs] ∧ WS ν k c' ∧ Wch μ ν k ∧ c' ≤ c + 2 + i * Bd m' ∧ xs.length = i ∧ xs.all (okB (3 + m')) = true,
    ⟨none, ν2, [], c2, rfl, rfl, v2, h1.trans g2, by simp; omega, rfl, rfl⟩, ?_, ?_⟩
  · rintro i d ρ' μ' hd ⟨t, ν, xs, c', rfl, rfl, v, g, l, hx, ho⟩
    have hi := (List.getElem?_eq_some_iff.mp hd).1
    rw [rgD_len] at hi
    have hlν : ν.length = μ1.length := by rw [g.1, hl1]
    have hi3 : i < 3 := by omega
    have hmul : (i : Int) * Bd m' + Bd m' ≤ 3 * Bd m' := by
      have : (i : Int) + 1 ≤ 3 := by omega
      have z := Int.mul_le_mul_of_nonneg_right this (show 0 ≤ Bd m' by omega)
      rw [Int.add_mul] at z
      omega
    refine EvG.name 4 (by assumption) (by rfl) (by walk_at "loc") (by walk_at "loc") ?_
    refine Sts.cons (St.expr (Ev.append ?_) rfl)
    walk_at "go"
    have at_ : ∀ zs : List DV, (ν ++ [MO.lst zs])[μ1.length]? = some (.lst zs) := fun zs => by
      rw [List.getElem?_append_right (by omega), hlν, Nat.sub_self]
      rfl
    refine ⟨μ1.length, xs, rfl, at_ xs, EvA.cons (Ev.call ih' hg (hr.mono (by omega)) rfl ?_)⟩
    walk_at "go"
    refine ⟨k, c', ?_, v.app (okB_belL _ _ _ ho), by omega, fun d3 μ3 c3 o3 w3 l3 h3 => ?_⟩
    · show [DV.mu k, DV.int (((m' + 1 : Nat) : Int) - 1)] = _
      congr 3
      omega
    obtain ⟨ν3, rfl, v3, g3⟩ := v.pop w3 h3
    have hlν3 : ν3.length = μ1.length := by rw [g3.1, hlν]
    refine EvA.nil ⟨d3, xs, rfl, ?_, by show xs.length < sizeLine; rw [hx]; exact Nat.lt_of_lt_of_le hi3 (by decide), ?_⟩
    · rw [List.getElem?_append_right (by omega), hlν3, Nat.sub_self]
      rfl
    refine Sts.nil ⟨_, ν3, xs ++ [d3], c3, rfl, ?_, v3, g.trans g3, ?_, by rw [List.length_append, hx]; rfl, ?_⟩
    · rw [← hlν3]
      simp
    · rw [Int.natCast_succ, Int.add_mul]
      omega
    · rw [List.all_append, ho]
      show (true && (okB (3 + m') d3 && true)) = true
      rw [o3]
      rfl
  · rintro ρ' μ' ⟨t, ν, xs, c', rfl, rfl, v, g, l, hx, ho⟩
    rw [rgD_len] at hx l
    have hlν : ν.length = μ1.length := by rw [g.1, hl1]
    have hmul : ((r2.toNat : Nat) : Int) * Bd m' ≤ 3 * Bd m' := Int.mul_le_mul_of_nonneg_right (by omega) (by omega)
    refine Sts.cons (St.ret (Ev.tuple rfl T.n_tuple ?_))
    walk_at "go"
    have hat : (ν ++ [MO.lst xs])[μ1.length]? = some (.lst xs) := by
      rw [List.getElem?_append_right (by omega), hlν, Nat.sub_self]
      rfl
    refine ⟨_, xs, rfl, items_mu hat, Or.inr ⟨okB_belL _ _ _ ho, ?_, ?_⟩⟩
    all_goals
      have htk : (ν ++ [MO.lst xs]).take μ.length = ν := by rw [← g.1]; simp
      rw [htk]
    · rw [← g.1]
      exact v.2
    · refine q _ _ c' ?_ v (by omega) g
      show (decide (xs.length ≤ 4) && xs.all (okB (3 + m'))) = true
      rw [ho, decide_eq_true (by omega : xs.length ≤ 4)]
      rfl
theorem ok_thing (T : Fx K mg) : ∀ m, Fn P w K mg base "_law_thing" (4 + m) (C_thing m)
  | 0 => ok_thing_step T 0 fun m' e => absurd e (by omega)
  | m + 1 => ok_thing_step T (m + 1) fun m' e => by
    cases e
    exact ok_thing T m
end
end Lw

namespace Lw
open PySem PySem.Spec L2 Eg
/-! ### the classes: how they are made -/
section
variable {P : Program} {w : World} {K : PySem.W.Frag} {mg : Str → Option Value} {base : Heap}
def fl1 (f : Str) : List V → List (Str × V) := fun ys => match ys with
  | [y] => [(f, y)]
  | _ => []
def fd1 (f : Str) : List DV → List (Str × DV) := fun ys => match ys with
  | [y] => [(f, y)]
  | _ => []
def fl2 : List V → List (Str × V) := fun ys => match ys with
  | [x, y] => [("column", y), ("line", x)]
  | _ => []
def fd2 : List DV → List (Str × DV) := fun ys => match ys with
  | [x, y] => [("column", y), ("line", x)]
  | _ => []
theorem fl1_ok (f : Str) (ys : List V) (ds : List DV) (w : Wd) (h : HasL w ys ds) (e : ys.length = 1) : HasF w (fl1 f ys) (fd1 f ds) := by
  match ys, e, h with
  | [y], _, .cons h .nil => exact .cons h .nil
theorem fl2_ok (ys : List V) (ds : List DV) (w : Wd) (h : HasL w ys ds) (e : ys.length = 2) : HasF w (fl2 ys) (fd2 ds) := by
  match ys, e, h with
  | [x, y], _, .cons h (.cons g .nil) => exact .cons g (.cons h .nil)
theorem ini1 {qual f : Str} {params : Arguments} {scope : Scope} {fa C : Addr} {fd : FuncData} {p1 p2 p3 p4 : Pos} (F : FunD K "__init__" qual params [.Assign [.Attribute (.Name "self" p1) f p2] (.Name f p3) p4] scope [] [] fa fd)
    (S : FnScope ["self", f] ["self", f] scope) (oc : OexC K C) (no : PySem.W.findIn K (.ref C) f = some none) (hd : (f == ("__debug__" : Str)) = false) (hcd : (f == ("__classdict__" : Str)) = false) (v1 : Vis scope "self") (v2 : Vis scope f) : FnG P w K mg base 1 fa fd ["self", f] (spI C 1 (fl1 f)) := by
  refine FnG.of F S (fun vs H Q E => ?_) (fun cd A outer s H vs Q hg hr => ?_)
  · rintro ⟨a, ys, rfl, e, _⟩
    rw [List.length_cons, e]
    rfl
  · rintro ⟨a, ys, rfl, e, h1, h2⟩
    match ys, e with
    | [y], _ =>
    refine ⟨_, pss_one (ps_ost (pe_var (i := 0) rfl v1 (by decide) (by decide)) (pe_var (i := 1) rfl v2 hd hcd) rfl), y, rfl, V.ref a, rfl, a, C, rfl, oc, no, Or.inl ⟨h1, fun dx d1 d2 => ?_⟩⟩
    refine h2 dx _ d1 upd_same ?_ fun b hb nb => ?_
    · rw [upd_ne d2, upd_same]
      rfl
    · rw [upd_ne nb, upd_ne]
      intro z
      rw [z] at hb
      exact hb d1
theorem ini2 {qual : Str} {params : Arguments} {scope : Scope} {fa C : Addr} {fd : FuncData} {p1 p2 p3 p4 q1 q2 q3 q4 : Pos}
    (F : FunD K "__init__" qual params [.Assign [.Attribute (.Name "self" p1) "line" p2] (.Name "line" p3) p4, .Assign [.Attribute (.Name "self" q1) "column" q2] (.Name "column" q3) q4] scope [] [] fa fd)
    (S : FnScope ["self", "line", "column"] ["self", "line", "column"] scope) (oc : OexC K C) (no1 : PySem.W.findIn K (.ref C) "line" = some none) (no2 : PySem.W.findIn K (.ref C) "column" = some none)
    (v1 : Vis scope "self") (v2 : Vis scope "line") (v3 : Vis scope "column") : FnG P w K mg base 1 fa fd ["self", "line", "column"] (spI C 2 fl2) := by
  refine FnG.of F S (fun vs H Q E => ?_) (fun cd A outer s H vs Q hg hr => ?_)
  · rintro ⟨a, ys, rfl, e, _⟩
    rw [List.length_cons, e]
    rfl
  · rintro ⟨a, ys, rfl, e, h1, h2⟩
    match ys, e with
    | [x, y], _ =>
    refine ⟨_, pss_cons (ps_ost (pe_var (i := 0) rfl v1 (by decide) (by decide)) (pe_var (i := 1) rfl v2 (by decide) (by decide)) rfl) (pss_one (ps_ost (pe_var (i := 0) rfl v1 (by decide) (by decide)) (pe_var (i := 2) rfl v3 (by decide) (by decide)) rfl)),
      x, rfl, V.ref a, rfl, a, C, rfl, oc, no1, Or.inl ⟨h1, fun dx d1 d2 => ?_⟩⟩
    refine ⟨y, rfl, V.ref a, rfl, a, C, rfl, oc, no2, Or.inr ⟨dx, [("line", x)], upd_same, ?_, by show 1 ≤ 900; decide, ?_⟩⟩
    · rw [upd_ne d2, upd_same]
    refine h2 dx _ d1 ?_ ?_ fun b hb nb => ?_
    · rw [upd_ne (Ne.symm d2), upd_same]
    · rw [upd_same]
      rfl
    · have nd : b ≠ dx := fun z => hb (by rw [z]; exact d1)
      rw [upd_ne nd, upd_ne nb, upd_ne nd]
theorem binds_pure {s : Shared} {fd : FuncData} {args : Args} {b : List (Str × Value)} (h : bindArgs fd args = pure b) : BindsTo s fd args b := fun M A E Q q => by
  rw [h]
  exact wpAny_pure q
theorem xi1 {x qual f : Str} {params : Arguments} {scope : Scope} {fa C : Addr} {fd : FuncData} {p1 p2 p3 p4 : Pos} (F : FunD K "__init__" qual params [.Assign [.Attribute (.Name "self" p1) f p2] (.Name f p3) p4] scope [] [] fa fd)
    (S : FnScope ["self", f] ["self", f] scope) (oc : OexC K C) (no : PySem.W.findIn K (.ref C) f = some none) (hd : (f == ("__debug__" : Str)) = false) (hcd : (f == ("__classdict__" : Str)) = false) (v1 : Vis scope "self") (v2 : Vis scope f)
    (gC : mg x = some (.ref C)) (iC : PySem.W.findIn K (.ref C) "__init__" = some (some (.ref fa))) (tI : PySem.W.typeIn K (.ref fa) = some (.type "function"))
    (hb : ∀ kV doc pm an cdv ct u y, bindArgs (PySem.W.fnOf "__init__" qual params [.Assign [.Attribute (.Name "self" p1) f p2] (.Name f p3) p4] scope .none kV doc pm an cdv ct) ⟨[u, y], []⟩ = pure [(("self" : Str), u), (f, y)] ∧
      bindArgs (PySem.W.fnOf "__init__" qual params [.Assign [.Attribute (.Name "self" p1) f p2] (.Name f p3) p4] scope .none kV doc pm an cdv ct) ⟨[u], [(f, y)]⟩ = pure [(("self" : Str), u), (f, y)]) : XI P w K mg base x C 1 1 (fl1 f) [f] id := by
  refine ⟨gC, oc, fa, fd, ["self", f], rfl, iC, tI, ini1 F S oc no hd hcd v1 v2, ?_, ?_⟩
  all_goals
    obtain ⟨oc, od, dV, kV, doc, pm, an, cd, ct, osl, rfl, lk, hcd, hD, _⟩ := F.ex
    have hdV : dV = .none := by
      rcases hD with ⟨_, z⟩ | ⟨z, _⟩
      · exact z
      · exact absurd rfl z
    subst hdV
  · intro s us hl
    match us, hl with
    | [u, y], _ => exact binds_pure (hb kV doc pm an cd ct u y).1
  · intro s u us hl
    match us, hl with
    | [y], _ => exact binds_pure (hb kV doc pm an cd ct u y).2
theorem xi2 {x qual : Str} {params : Arguments} {scope : Scope} {fa C : Addr} {fd : FuncData} {p1 p2 p3 p4 q1 q2 q3 q4 : Pos}
    (F : FunD K "__init__" qual params [.Assign [.Attribute (.Name "self" p1) "line" p2] (.Name "line" p3) p4, .Assign [.Attribute (.Name "self" q1) "column" q2] (.Name "column" q3) q4] scope [] [] fa fd)
    (S : FnScope ["self", "line", "column"] ["self", "line", "column"] scope) (oc : OexC K C) (no1 : PySem.W.findIn K (.ref C) "line" = some none) (no2 : PySem.W.findIn K (.ref C) "column" = some none)
    (v1 : Vis scope "self") (v2 : Vis scope "line") (v3 : Vis scope "column")
    (gC : mg x = some (.ref C)) (iC : PySem.W.findIn K (.ref C) "__init__" = some (some (.ref fa))) (tI : PySem.W.typeIn K (.ref fa) = some (.type "function"))
    (hb : ∀ kV doc pm an cdv ct u y z, bindArgs (PySem.W.fnOf "__init__" qual params [.Assign [.Attribute (.Name "self" p1) "line" p2] (.Name "line" p3) p4, .Assign [.Attribute (.Name "self" q1) "column" q2] (.Name "column" q3) q4] scope .none kV doc pm an cdv ct) ⟨[u, y, z], []⟩ = pure [(("self" : Str), u), (("line" : Str), y), (("column" : Str), z)] ∧
      bindArgs (PySem.W.fnOf "__init__" qual params [.Assign [.Attribute (.Name "self" p1) "line" p2] (.Name "line" p3) p4, .Assign [.Attribute (.Name "self" q1) "column" q2] (.Name "column" q3) q4] scope .none kV doc pm an cdv ct) ⟨[u], [(("column" : Str), y), (("line" : Str), z)]⟩ = pure [(("self" : Str), u), (("line" : Str), z), (("column" : Str), y)]) :
    XI P w K mg base x C 1 2 fl2 ["column", "line"] List.reverse := by
  refine ⟨gC, oc, fa, fd, ["self", "line", "column"], rfl, iC, tI, ini2 F S oc no1 no2 v1 v2 v3, ?_, ?_⟩
  all_goals
    obtain ⟨oc, od, dV, kV, doc, pm, an, cd, ct, osl, rfl, lk, hcd, hD, _⟩ := F.ex
    have hdV : dV = .none := by
      rcases hD with ⟨_, z⟩ | ⟨z, _⟩
      · exact z
      · exact absurd rfl z
    subst hdV
  · intro s us hl
    match us, hl with
    | [u, y, z], _ => exact binds_pure (hb kV doc pm an cd ct u y z).1
  · intro s u us hl
    match us, hl with
    | [y, z], _ => exact binds_pure (hb kV doc pm an cd ct u y z).2
theorem oex_of {C : Addr} (h : oexB K C = true) : OexC K C := by
  unfold oexB at h
  simp only [Bool.and_eq_true, decide_eq_true_eq] at h
  obtain ⟨h1, h2, h3, h4, h5⟩ := h
  refine ⟨?_, h2, h3, h4, h5⟩
  split at h1
  · rename_i cd sl hl
    split at h1
    · rename_i C' bm a0 a1 a2 a3 n a5 e1 e2
      simp only [Bool.and_eq_true, decide_eq_true_eq, Bool.not_eq_true'] at h1
      obtain ⟨z1, z2, h6, h7, h8⟩ := h1
      subst z1 z2
      obtain ⟨nm, bs, mro, ns, qn, hdd, sn, sub, ab, col, hdl⟩ := cd
      obtain ⟨sl⟩ := sl
      dsimp only at e1 e2 h6 h7
      subst e1 e2 h6 h7
      exact ⟨_, _, _, _, _, _, _, _, _, _, _, _, _, _, _, hl, h8⟩
    · cases h1
  · cases h1
theorem xc_of {C : Addr} (h : xcB K C = true) : XC K C := by
  unfold xcB at h
  simp only [Bool.and_eq_true, decide_eq_true_eq] at h
  obtain ⟨h1, h2, h3, h4, h5, h6, h7, h8, h9⟩ := h
  exact ⟨h1, h2, h3, h4, h5, h6, h7, h8, h9⟩
abbrev cA (K : PySem.W.Frag) (i : Nat) : Addr := He.ga K (nm i)
structure Cl (K : PySem.W.Frag) : Prop where
  xc : ∀ i, i < 30 → XC K (cA K i)
  ox : ∀ i, i < 27 → OexC K (cA K i)
  ini : ∀ i, i < 27 → PySem.W.findIn K (.ref (cA K i)) "__init__" = some (some (.ref (He.ma K (cA K i) "__init__"))) ∧ PySem.W.typeIn K (.ref (He.ma K (cA K i) "__init__")) = some (.type "function")
  no1 : PySem.W.findIn K (.ref (cA K 0)) "line" = some none
  no2 : PySem.W.findIn K (.ref (cA K 0)) "column" = some none
  no : ∀ i, i < 27 → i ≠ 0 → PySem.W.findIn K (.ref (cA K i)) (fldN i) = some none
  z : ∀ i, i ∈ [27, 28, 29] → PySem.W.excIn K (cA K i) veB "ValueError.__new__" = true ∧ PySem.W.keepIn K (.ref (cA K i)) = true
  isO : ∀ i, i < 30 → ∀ j, j < 30 → PySem.W.kitOne K (.ref (cA K i)) (.ref (cA K j)) = some (decide (j = i ∨ 29 ≤ j ∧ j < 32))
  isB : ∀ i, i < 30 → ∀ j, j < 10 → PySem.W.kitOne K (.ref (cA K i)) (.type (blts.getD j "")) = some (decide (30 + j = i ∨ 29 ≤ 30 + j ∧ 30 + j < 32))
theorem Fx.cl (T : Fx K mg) : Cl K := by
  have h := T.ex
  unfold exB noB isiB iniB at h
  simp only [Bool.and_eq_true, List.all_eq_true, List.mem_range, decide_eq_true_eq, Bool.or_eq_true, beq_iff_eq] at h
  obtain ⟨h1, h2, ⟨h3, h4, h5⟩, h6, h7⟩ := h
  exact ⟨fun i hi => xc_of (h1 i hi), fun i hi => oex_of (h2 i hi).1, fun i hi => (h2 i hi).2, h3, h4, fun i hi hz => (h5 i hi).resolve_left hz, h6, fun i hi => (h7 i hi).1, fun i hi => (h7 i hi).2⟩
theorem Fx.x_InvalidText (T : Fx K mg) : XI P w K mg base "InvalidText" (cA K 0) 1 2 fl2 ["column", "line"] List.reverse := by
  obtain ⟨fd, F⟩ := T.d_InvalidText_init
  obtain ⟨i1, i2⟩ := T.cl.ini 0 (by decide)
  exact xi2 (fa := He.ma K (cA K 0) "__init__") F scInvalidText_init (T.cl.ox 0 (by decide)) T.cl.no1 T.cl.no2 (Or.inl rfl) (Or.inl rfl) (Or.inl rfl) T.g_InvalidText i1 i2 fun _ _ _ _ _ _ _ _ _ => ⟨rfl, rfl⟩
theorem Fx.x_InvalidProgram (T : Fx K mg) : XI P w K mg base "InvalidProgram" (cA K 1) 1 1 (fl1 "place") ["place"] id := by
  obtain ⟨fd, F⟩ := T.d_InvalidProgram_init
  obtain ⟨i1, i2⟩ := T.cl.ini 1 (by decide)
  exact xi1 (fa := He.ma K (cA K 1) "__init__") F scInvalidProgram_init (T.cl.ox 1 (by decide)) (T.cl.no 1 (by decide) (by decide)) (by decide) (by decide) (Or.inl rfl) (Or.inl rfl) T.g_InvalidProgram i1 i2 fun _ _ _ _ _ _ _ _ => ⟨rfl, rfl⟩
theorem Fx.x_InvalidIndex (T : Fx K mg) : XI P w K mg base "InvalidIndex" (cA K 2) 1 1 (fl1 "given") ["given"] id := by
  obtain ⟨fd, F⟩ := T.d_InvalidIndex_init
  obtain ⟨i1, i2⟩ := T.cl.ini 2 (by decide)
  exact xi1 (fa := He.ma K (cA K 2) "__init__") F scInvalidIndex_init (T.cl.ox 2 (by decide)) (T.cl.no 2 (by decide) (by decide)) (by decide) (by decide) (Or.inl rfl) (Or.inl rfl) T.g_InvalidIndex i1 i2 fun _ _ _ _ _ _ _ _ => ⟨rfl, rfl⟩
theorem Fx.x_InvalidPlace (T : Fx K mg) : XI P w K mg base "InvalidPlace" (cA K 3) 1 1 (fl1 "given") ["given"] id := by
  obtain ⟨fd, F⟩ := T.d_InvalidPlace_init
  obtain ⟨i1, i2⟩ := T.cl.ini 3 (by decide)
  exact xi1 (fa := He.ma K (cA K 3) "__init__") F scInvalidPlace_init (T.cl.ox 3 (by decide)) (T.cl.no 3 (by decide) (by decide)) (by decide) (by decide) (Or.inl rfl) (Or.inl rfl) T.g_InvalidPlace i1 i2 fun _ _ _ _ _ _ _ _ => ⟨rfl, rfl⟩
theorem Fx.x_InvalidNumber (T : Fx K mg) : XI P w K mg base "InvalidNumber" (cA K 4) 1 1 (fl1 "given") ["given"] id := by
  obtain ⟨fd, F⟩ := T.d_InvalidNumber_init
  obtain ⟨i1, i2⟩ := T.cl.ini 4 (by decide)
  exact xi1 (fa := He.ma K (cA K 4) "__init__") F scInvalidNumber_init (T.cl.ox 4 (by decide)) (T.cl.no 4 (by decide) (by decide)) (by decide) (by decide) (Or.inl rfl) (Or.inl rfl) T.g_InvalidNumber i1 i2 fun _ _ _ _ _ _ _ _ => ⟨rfl, rfl⟩
theorem Fx.x_InvalidState (T : Fx K mg) : XI P w K mg base "InvalidState" (cA K 5) 1 1 (fl1 "given") ["given"] id := by
  obtain ⟨fd, F⟩ := T.d_InvalidState_init
  obtain ⟨i1, i2⟩ := T.cl.ini 5 (by decide)
  exact xi1 (fa := He.ma K (cA K 5) "__init__") F scInvalidState_init (T.cl.ox 5 (by decide)) (T.cl.no 5 (by decide) (by decide)) (by decide) (by decide) (Or.inl rfl) (Or.inl rfl) T.g_InvalidState i1 i2 fun _ _ _ _ _ _ _ _ => ⟨rfl, rfl⟩
theorem Fx.x_InvalidStretch (T : Fx K mg) : XI P w K mg base "InvalidStretch" (cA K 6) 1 1 (fl1 "given") ["given"] id := by
  obtain ⟨fd, F⟩ := T.d_InvalidStretch_init
  obtain ⟨i1, i2⟩ := T.cl.ini 6 (by decide)
  exact xi1 (fa := He.ma K (cA K 6) "__init__") F scInvalidStretch_init (T.cl.ox 6 (by decide)) (T.cl.no 6 (by decide) (by decide)) (by decide) (by decide) (Or.inl rfl) (Or.inl rfl) T.g_InvalidStretch i1 i2 fun _ _ _ _ _ _ _ _ => ⟨rfl, rfl⟩
theorem Fx.x_InvalidRest (T : Fx K mg) : XI P w K mg base "InvalidRest" (cA K 7) 1 1 (fl1 "given") ["given"] id := by
  obtain ⟨fd, F⟩ := T.d_InvalidRest_init
  obtain ⟨i1, i2⟩ := T.cl.ini 7 (by decide)
  exact xi1 (fa := He.ma K (cA K 7) "__init__") F scInvalidRest_init (T.cl.ox 7 (by decide)) (T.cl.no 7 (by decide) (by decide)) (by decide) (by decide) (Or.inl rfl) (Or.inl rfl) T.g_InvalidRest i1 i2 fun _ _ _ _ _ _ _ _ => ⟨rfl, rfl⟩
theorem Fx.x_InvalidWidth (T : Fx K mg) : XI P w K mg base "InvalidWidth" (cA K 8) 1 1 (fl1 "given") ["given"] id := by
  obtain ⟨fd, F⟩ := T.d_InvalidWidth_init
  obtain ⟨i1, i2⟩ := T.cl.ini 8 (by decide)
  exact xi1 (fa := He.ma K (cA K 8) "__init__") F scInvalidWidth_init (T.cl.ox 8 (by decide)) (T.cl.no 8 (by decide) (by decide)) (by decide) (by decide) (Or.inl rfl) (Or.inl rfl) T.g_InvalidWidth i1 i2 fun _ _ _ _ _ _ _ _ => ⟨rfl, rfl⟩
theorem Fx.x_InvalidGuard (T : Fx K mg) : XI P w K mg base "InvalidGuard" (cA K 9) 1 1 (fl1 "given") ["given"] id := by
  obtain ⟨fd, F⟩ := T.d_InvalidGuard_init
  obtain ⟨i1, i2⟩ := T.cl.ini 9 (by decide)
  exact xi1 (fa := He.ma K (cA K 9) "__init__") F scInvalidGuard_init (T.cl.ox 9 (by decide)) (T.cl.no 9 (by decide) (by decide)) (by decide) (by decide) (Or.inl rfl) (Or.inl rfl) T.g_InvalidGuard i1 i2 fun _ _ _ _ _ _ _ _ => ⟨rfl, rfl⟩
theorem Fx.x_InvalidSize (T : Fx K mg) : XI P w K mg base "InvalidSize" (cA K 10) 1 1 (fl1 "given") ["given"] id := by
  obtain ⟨fd, F⟩ := T.d_InvalidSize_init
  obtain ⟨i1, i2⟩ := T.cl.ini 10 (by decide)
  exact xi1 (fa := He.ma K (cA K 10) "__init__") F scInvalidSize_init (T.cl.ox 10 (by decide)) (T.cl.no 10 (by decide) (by decide)) (by decide) (by decide) (Or.inl rfl) (Or.inl rfl) T.g_InvalidSize i1 i2 fun _ _ _ _ _ _ _ _ => ⟨rfl, rfl⟩
theorem Fx.x_InvalidSlot (T : Fx K mg) : XI P w K mg base "InvalidSlot" (cA K 11) 1 1 (fl1 "given") ["given"] id := by
  obtain ⟨fd, F⟩ := T.d_InvalidSlot_init
  obtain ⟨i1, i2⟩ := T.cl.ini 11 (by decide)
  exact xi1 (fa := He.ma K (cA K 11) "__init__") F scInvalidSlot_init (T.cl.ox 11 (by decide)) (T.cl.no 11 (by decide) (by decide)) (by decide) (by decide) (Or.inl rfl) (Or.inl rfl) T.g_InvalidSlot i1 i2 fun _ _ _ _ _ _ _ _ => ⟨rfl, rfl⟩
theorem Fx.x_InvalidDifferences (T : Fx K mg) : XI P w K mg base "InvalidDifferences" (cA K 12) 1 1 (fl1 "given") ["given"] id := by
  obtain ⟨fd, F⟩ := T.d_InvalidDifferences_init
  obtain ⟨i1, i2⟩ := T.cl.ini 12 (by decide)
  exact xi1 (fa := He.ma K (cA K 12) "__init__") F scInvalidDifferences_init (T.cl.ox 12 (by decide)) (T.cl.no 12 (by decide) (by decide)) (by decide) (by decide) (Or.inl rfl) (Or.inl rfl) T.g_InvalidDifferences i1 i2 fun _ _ _ _ _ _ _ _ => ⟨rfl, rfl⟩
theorem Fx.x_InvalidEquations (T : Fx K mg) : XI P w K mg base "InvalidEquations" (cA K 13) 1 1 (fl1 "given") ["given"] id := by
  obtain ⟨fd, F⟩ := T.d_InvalidEquations_init
  obtain ⟨i1, i2⟩ := T.cl.ini 13 (by decide)
  exact xi1 (fa := He.ma K (cA K 13) "__init__") F scInvalidEquations_init (T.cl.ox 13 (by decide)) (T.cl.no 13 (by decide) (by decide)) (by decide) (by decide) (Or.inl rfl) (Or.inl rfl) T.g_InvalidEquations i1 i2 fun _ _ _ _ _ _ _ _ => ⟨rfl, rfl⟩
theorem Fx.x_InvalidSight (T : Fx K mg) : XI P w K mg base "InvalidSight" (cA K 14) 1 1 (fl1 "given") ["given"] id := by
  obtain ⟨fd, F⟩ := T.d_InvalidSight_init
  obtain ⟨i1, i2⟩ := T.cl.ini 14 (by decide)
  exact xi1 (fa := He.ma K (cA K 14) "__init__") F scInvalidSight_init (T.cl.ox 14 (by decide)) (T.cl.no 14 (by decide) (by decide)) (by decide) (by decide) (Or.inl rfl) (Or.inl rfl) T.g_InvalidSight i1 i2 fun _ _ _ _ _ _ _ _ => ⟨rfl, rfl⟩
theorem Fx.x_InvalidLook (T : Fx K mg) : XI P w K mg base "InvalidLook" (cA K 15) 1 1 (fl1 "given") ["given"] id := by
  obtain ⟨fd, F⟩ := T.d_InvalidLook_init
  obtain ⟨i1, i2⟩ := T.cl.ini 15 (by decide)
  exact xi1 (fa := He.ma K (cA K 15) "__init__") F scInvalidLook_init (T.cl.ox 15 (by decide)) (T.cl.no 15 (by decide) (by decide)) (by decide) (by decide) (Or.inl rfl) (Or.inl rfl) T.g_InvalidLook i1 i2 fun _ _ _ _ _ _ _ _ => ⟨rfl, rfl⟩
theorem Fx.x_InvalidExpression (T : Fx K mg) : XI P w K mg base "InvalidExpression" (cA K 16) 1 1 (fl1 "given") ["given"] id := by
  obtain ⟨fd, F⟩ := T.d_InvalidExpression_init
  obtain ⟨i1, i2⟩ := T.cl.ini 16 (by decide)
  exact xi1 (fa := He.ma K (cA K 16) "__init__") F scInvalidExpression_init (T.cl.ox 16 (by decide)) (T.cl.no 16 (by decide) (by decide)) (by decide) (by decide) (Or.inl rfl) (Or.inl rfl) T.g_InvalidExpression i1 i2 fun _ _ _ _ _ _ _ _ => ⟨rfl, rfl⟩
theorem Fx.x_InvalidStep (T : Fx K mg) : XI P w K mg base "InvalidStep" (cA K 17) 1 1 (fl1 "given") ["given"] id := by
  obtain ⟨fd, F⟩ := T.d_InvalidStep_init
  obtain ⟨i1, i2⟩ := T.cl.ini 17 (by decide)
  exact xi1 (fa := He.ma K (cA K 17) "__init__") F scInvalidStep_init (T.cl.ox 17 (by decide)) (T.cl.no 17 (by decide) (by decide)) (by decide) (by decide) (Or.inl rfl) (Or.inl rfl) T.g_InvalidStep i1 i2 fun _ _ _ _ _ _ _ _ => ⟨rfl, rfl⟩
theorem Fx.x_InvalidFault (T : Fx K mg) : XI P w K mg base "InvalidFault" (cA K 18) 1 1 (fl1 "given") ["given"] id := by
  obtain ⟨fd, F⟩ := T.d_InvalidFault_init
  obtain ⟨i1, i2⟩ := T.cl.ini 18 (by decide)
  exact xi1 (fa := He.ma K (cA K 18) "__init__") F scInvalidFault_init (T.cl.ox 18 (by decide)) (T.cl.no 18 (by decide) (by decide)) (by decide) (by decide) (Or.inl rfl) (Or.inl rfl) T.g_InvalidFault i1 i2 fun _ _ _ _ _ _ _ _ => ⟨rfl, rfl⟩
theorem Fx.x_InvalidInputs (T : Fx K mg) : XI P w K mg base "InvalidInputs" (cA K 19) 1 1 (fl1 "index") ["index"] id := by
  obtain ⟨fd, F⟩ := T.d_InvalidInputs_init
  obtain ⟨i1, i2⟩ := T.cl.ini 19 (by decide)
  exact xi1 (fa := He.ma K (cA K 19) "__init__") F scInvalidInputs_init (T.cl.ox 19 (by decide)) (T.cl.no 19 (by decide) (by decide)) (by decide) (by decide) (Or.inl rfl) (Or.inl rfl) T.g_InvalidInputs i1 i2 fun _ _ _ _ _ _ _ _ => ⟨rfl, rfl⟩
theorem Fx.x_InvalidOrder (T : Fx K mg) : XI P w K mg base "InvalidOrder" (cA K 20) 1 1 (fl1 "index") ["index"] id := by
  obtain ⟨fd, F⟩ := T.d_InvalidOrder_init
  obtain ⟨i1, i2⟩ := T.cl.ini 20 (by decide)
  exact xi1 (fa := He.ma K (cA K 20) "__init__") F scInvalidOrder_init (T.cl.ox 20 (by decide)) (T.cl.no 20 (by decide) (by decide)) (by decide) (by decide) (Or.inl rfl) (Or.inl rfl) T.g_InvalidOrder i1 i2 fun _ _ _ _ _ _ _ _ => ⟨rfl, rfl⟩
theorem Fx.x_InvalidTable (T : Fx K mg) : XI P w K mg base "InvalidTable" (cA K 21) 1 1 (fl1 "index") ["index"] id := by
  obtain ⟨fd, F⟩ := T.d_InvalidTable_init
  obtain ⟨i1, i2⟩ := T.cl.ini 21 (by decide)
  exact xi1 (fa := He.ma K (cA K 21) "__init__") F scInvalidTable_init (T.cl.ox 21 (by decide)) (T.cl.no 21 (by decide) (by decide)) (by decide) (by decide) (Or.inl rfl) (Or.inl rfl) T.g_InvalidTable i1 i2 fun _ _ _ _ _ _ _ _ => ⟨rfl, rfl⟩
theorem Fx.x_InvalidMarks (T : Fx K mg) : XI P w K mg base "InvalidMarks" (cA K 22) 1 1 (fl1 "index") ["index"] id := by
  obtain ⟨fd, F⟩ := T.d_InvalidMarks_init
  obtain ⟨i1, i2⟩ := T.cl.ini 22 (by decide)
  exact xi1 (fa := He.ma K (cA K 22) "__init__") F scInvalidMarks_init (T.cl.ox 22 (by decide)) (T.cl.no 22 (by decide) (by decide)) (by decide) (by decide) (Or.inl rfl) (Or.inl rfl) T.g_InvalidMarks i1 i2 fun _ _ _ _ _ _ _ _ => ⟨rfl, rfl⟩
theorem Fx.x_InvalidSlots (T : Fx K mg) : XI P w K mg base "InvalidSlots" (cA K 23) 1 1 (fl1 "index") ["index"] id := by
  obtain ⟨fd, F⟩ := T.d_InvalidSlots_init
  obtain ⟨i1, i2⟩ := T.cl.ini 23 (by decide)
  exact xi1 (fa := He.ma K (cA K 23) "__init__") F scInvalidSlots_init (T.cl.ox 23 (by decide)) (T.cl.no 23 (by decide) (by decide)) (by decide) (by decide) (Or.inl rfl) (Or.inl rfl) T.g_InvalidSlots i1 i2 fun _ _ _ _ _ _ _ _ => ⟨rfl, rfl⟩
theorem Fx.x_InvalidValues (T : Fx K mg) : XI P w K mg base "InvalidValues" (cA K 24) 1 1 (fl1 "index") ["index"] id := by
  obtain ⟨fd, F⟩ := T.d_InvalidValues_init
  obtain ⟨i1, i2⟩ := T.cl.ini 24 (by decide)
  exact xi1 (fa := He.ma K (cA K 24) "__init__") F scInvalidValues_init (T.cl.ox 24 (by decide)) (T.cl.no 24 (by decide) (by decide)) (by decide) (by decide) (Or.inl rfl) (Or.inl rfl) T.g_InvalidValues i1 i2 fun _ _ _ _ _ _ _ _ => ⟨rfl, rfl⟩
theorem Fx.x_InvalidRow (T : Fx K mg) : XI P w K mg base "InvalidRow" (cA K 25) 1 1 (fl1 "index") ["index"] id := by
  obtain ⟨fd, F⟩ := T.d_InvalidRow_init
  obtain ⟨i1, i2⟩ := T.cl.ini 25 (by decide)
  exact xi1 (fa := He.ma K (cA K 25) "__init__") F scInvalidRow_init (T.cl.ox 25 (by decide)) (T.cl.no 25 (by decide) (by decide)) (by decide) (by decide) (Or.inl rfl) (Or.inl rfl) T.g_InvalidRow i1 i2 fun _ _ _ _ _ _ _ _ => ⟨rfl, rfl⟩
theorem Fx.x_InvalidRows (T : Fx K mg) : XI P w K mg base "InvalidRows" (cA K 26) 1 1 (fl1 "index") ["index"] id := by
  obtain ⟨fd, F⟩ := T.d_InvalidRows_init
  obtain ⟨i1, i2⟩ := T.cl.ini 26 (by decide)
  exact xi1 (fa := He.ma K (cA K 26) "__init__") F scInvalidRows_init (T.cl.ox 26 (by decide)) (T.cl.no 26 (by decide) (by decide)) (by decide) (by decide) (Or.inl rfl) (Or.inl rfl) T.g_InvalidRows i1 i2 fun _ _ _ _ _ _ _ _ => ⟨rfl, rfl⟩
end
end Lw

namespace Lw
open PySem PySem.Spec L2 Eg
local macro_rules | `(tactic| walk_at "vis") => `(tactic| first | exact Or.inl rfl | exact Or.inr (Or.inl rfl) | exact Or.inr (Or.inr rfl))
local macro_rules | `(tactic| walk_at "loc") => `(tactic| first | exact Or.inl rfl | exact Or.inr rfl)
local macro_rules | `(tactic| walk_at "nm") => `(tactic| first
  | refine Ev.name 0 (by rfl) (by walk_at "vis") (by rfl) ?_
  | refine Ev.name 1 (by rfl) (by walk_at "vis") (by rfl) ?_
  | refine Ev.name 2 (by rfl) (by walk_at "vis") (by rfl) ?_
  | refine Ev.name 3 (by rfl) (by walk_at "vis") (by rfl) ?_
  | refine Ev.name 4 (by rfl) (by walk_at "vis") (by rfl) ?_
  | refine Ev.name 5 (by rfl) (by walk_at "vis") (by rfl) ?_
  | refine Ev.name 6 (by rfl) (by walk_at "vis") (by rfl) ?_
  | refine Ev.name 7 (by rfl) (by walk_at "vis") (by rfl) ?_
  | refine Ev.name 8 (by rfl) (by walk_at "vis") (by rfl) ?_)
local macro_rules | `(tactic| walk_at "st") => `(tactic| first
  | refine St.set 1 (by assumption) (by rfl) (by walk_at "loc") (by walk_at "loc") ?_ rfl
  | refine St.set 2 (by assumption) (by rfl) (by walk_at "loc") (by walk_at "loc") ?_ rfl
  | refine St.set 3 (by assumption) (by rfl) (by walk_at "loc") (by walk_at "loc") ?_ rfl
  | refine St.set 4 (by assumption) (by rfl) (by walk_at "loc") (by walk_at "loc") ?_ rfl
  | refine St.set 5 (by assumption) (by rfl) (by walk_at "loc") (by walk_at "loc") ?_ rfl
  | refine St.set 6 (by assumption) (by rfl) (by walk_at "loc") (by walk_at "loc") ?_ rfl
  | refine St.set 7 (by assumption) (by rfl) (by walk_at "loc") (by walk_at "loc") ?_ rfl
  | refine St.set 8 (by assumption) (by rfl) (by walk_at "loc") (by walk_at "loc") ?_ rfl)
local macro_rules | `(tactic| walk_at "gn") => `(tactic| first
  | refine EvG.name 0 (by assumption) (by rfl) (by walk_at "loc") (by walk_at "loc") ?_
  | refine EvG.name 1 (by assumption) (by rfl) (by walk_at "loc") (by walk_at "loc") ?_
  | refine EvG.name 2 (by assumption) (by rfl) (by walk_at "loc") (by walk_at "loc") ?_
  | refine EvG.name 3 (by assumption) (by rfl) (by walk_at "loc") (by walk_at "loc") ?_
  | refine EvG.name 4 (by assumption) (by rfl) (by walk_at "loc") (by walk_at "loc") ?_
  | refine EvG.name 5 (by assumption) (by rfl) (by walk_at "loc") (by walk_at "loc") ?_
  | refine EvG.name 6 (by assumption) (by rfl) (by walk_at "loc") (by walk_at "loc") ?_
  | refine EvG.name 7 (by assumption) (by rfl) (by walk_at "loc") (by walk_at "loc") ?_
  | refine EvG.name 8 (by assumption) (by rfl) (by walk_at "loc") (by walk_at "loc") ?_)
local macro_rules | `(tactic| walk_at "one") => `(tactic| with_reducible first
  | refine sAdd.mk ?_ | refine sSub.mk ?_ | refine sLt.mk ?_ | refine sLe.mk ?_ | refine sGt.mk ?_ | refine sGe.mk ?_ | refine sEq.int ?_ | refine sNe.int ?_ | refine toT.mk ?_
  | refine Ev.int ?_ | refine Ev.str ?_ | refine Ev.bl ?_ | refine Ev.non ?_
  | refine Ev.sub ?_ | refine Ev.addI ?_ | refine Ev.mul ?_ | refine Ev.mod ?_ | refine Ev.fdiv ?_ | refine Ev.pow ?_ | refine Ev.neg ?_
  | refine Ev.lt ?_ | refine Ev.le ?_ | refine Ev.gt ?_ | refine Ev.ge ?_ | refine Ev.eq ?_ | refine Ev.ne ?_
  | refine Ev.ifE ?_ | refine Ev.tup ?_ | refine EvA.nil ?_ | refine EvA.cons ?_ rfl | refine EvT.not ?_
  | refine EvT.lt ?_ | refine EvT.le ?_ | refine EvT.gt ?_ | refine EvT.ge ?_ | refine EvT.eq ?_ | refine EvT.ne ?_
  | refine EvT.w ?_ | refine EvW.and ?_ | refine EvW.or ?_ | refine EvW.and1 ?_ | refine EvW.or1 ?_
  | refine Sts.cons ?_ | refine Sts.nil ?_ | refine St.ifS ?_ | refine St.ret ?_ | refine St.expr ?_ rfl)
local macro_rules | `(tactic| walk_at "go") => `(tactic| repeat (first | ((with_reducible show Ev _ (.Name _ _) _ _ _); (walk_at "nm")) | walk_at "one" | ((with_reducible show St _ (.Assign [.Name _ _] _ _) _ _ _); (walk_at "st"))))
def C_well : Ctr := fun ds μ R => ∃ ns t, ds = [.lst (List.map DV.int ns), .int t] ∧ 0 ≤ t ∧ t < 4 ∧ ns.length ≤ 63 ∧
  ∀ a b, WOk a b 0 → R (.mu μ.length) (μ ++ [.lst [.int a, .int b, .int 0, .int 3]])
section
variable {P : Program} {w : World} {K : PySem.W.Frag} {mg : Str → Option Value} {base : Heap}
theorem ok_well (T : Fx K mg) : Fn P w K mg base "_law_well" 1 C_well := by
  obtain ⟨fd, F⟩ := T.d_l_well
  refine Fn.mk (N := Nl_well) (ps := ["_law_script", "_law_turn"]) F scl_well T.g_l_well (fun _ _ _ _ _ _ us hl => match us, hl with | [_, _], _ => rfl) ?_ ?_
  · rintro ds μ R ⟨ns, t, rfl, _⟩
    rfl
  rintro cd A outer s H hg hr hnd ds μ R ⟨ns, t, rfl, h0, h1, h2, q⟩
  have hsz : ∀ i : Nat, (List.map DV.int ns)[i]? = (ns[i]?).map DV.int := fun i => List.getElem?_map ..
  have hcut : ∀ d ∈ cutD (List.map DV.int ns) none (some 9), ∃ z, d = .int z := fun d hd => by
    obtain ⟨z, _, e⟩ := List.mem_map.mp (List.mem_of_mem_drop (List.mem_of_mem_take hd))
    exact ⟨z, e.symm⟩
  refine Sts.cons ?_
  walk_at "go"
  refine sMul.mk (mulok (by omega) (by omega)) ?_
  walk_at "go"
  refine Sts.cons (St.for_ PassesOwn.never rfl (EvI.lst (Ev.sliceL ?_)))
  walk_at "go"
  refine ⟨_, rfl, EvP.none (EvP.some ?_)⟩
  walk_at "go"
  refine ⟨9, rfl, _, rfl, fun _ ρ' μ' => ∃ x u, 0 ≤ x ∧ x < 2147483563 ∧ ρ' = [some (.lst (List.map DV.int ns)), some (.int t), some (.int x), u, none] ∧ μ' = μ, ⟨_, none, ?_, ?_, rfl, rfl⟩, ?_, ?_⟩
  · omega
  · omega
  · rintro i d ρ' μ' hd ⟨x, u, x0, x1, rfl, rfl⟩
    obtain ⟨z, rfl⟩ := hcut d (List.mem_iff_getElem?.mpr ⟨i, hd⟩)
    walk_at "gn"
    refine Sts.cons (St.set 2 (by assumption) (by rfl) (by walk_at "loc") (by walk_at "loc") (Ev.mod (Ev.toInt rfl T.n_int (EvA.cons (Ev.addI (Ev.addI (Ev.mul ?_)))))) rfl)
    walk_at "go"
    refine sMul.mk (mulok (by omega) (by omega)) ?_
    walk_at "go"
    refine Ev.toInt rfl T.n_int ?_
    walk_at "go"
    refine Or.inl ⟨_, rfl, ?_⟩
    walk_at "go"
    refine sMod.mk (by decide) ?_
    walk_at "go"
    refine Or.inl ⟨_, rfl, ?_⟩
    walk_at "go"
    refine sMod.mk (by decide) ?_
    obtain ⟨y0, y1⟩ := fmod_in (i := x * 51407 + z.fmod 2147483587 + 5) (j := 2147483563) (by decide)
    exact Sts.nil ⟨_, _, y0, y1, rfl, rfl⟩
  · rintro ρ' μ' ⟨x, u, x0, x1, rfl, rfl⟩
    refine Sts.cons (St.set 4 (by assumption) (by rfl) (by walk_at "loc") (by walk_at "loc") (Ev.mono (R := fun d μ1 => (∃ z, d = .int z) ∧ μ1 = μ') (Ev.ifE (EvT.lt ?_)) ?_) rfl)
    · walk_at "go"
      refine Ev.len rfl T.n_len ?_
      walk_at "go"
      refine ⟨_, _, rfl, rfl, ?_⟩
      walk_at "go"
      rw [List.length_map]
      refine ifd (fun hlt => ?_) (fun _ => ?_)
      · refine Ev.toInt rfl T.n_int (EvA.cons (Ev.at ?_))
        walk_at "go"
        have hi : t.toNat < ns.length := by omega
        have hat : (List.map DV.int ns)[t.toNat]? = some (.int ns[t.toNat]) := by
          rw [hsz, List.getElem?_eq_getElem hi]
          rfl
        refine sIx.lst (atI_of h0 hat) (EvA.nil (Or.inl ⟨_, rfl, ⟨_, rfl⟩, rfl⟩))
      · exact Ev.int ⟨⟨_, rfl⟩, rfl⟩
    rintro d μ1 ⟨⟨z, rfl⟩, rfl⟩
    refine Sts.cons (St.set 2 (by assumption) (by rfl) (by walk_at "loc") (by walk_at "loc") (Ev.mod (Ev.toInt rfl T.n_int (EvA.cons (Ev.addI (Ev.addI (Ev.mul ?_)))))) rfl)
    walk_at "go"
    refine sMul.mk (mulok (by omega) (by omega)) ?_
    walk_at "go"
    refine Ev.toInt rfl T.n_int ?_
    walk_at "go"
    refine Or.inl ⟨_, rfl, ?_⟩
    walk_at "go"
    refine sMod.mk (by decide) ?_
    obtain ⟨y0, y1⟩ := fmod_in (i := z) (j := 2147483587) (by decide)
    generalize z.fmod 2147483587 = y at y0 y1
    walk_at "go"
    refine sMul.mk (mulok (by omega) (by omega)) ?_
    walk_at "go"
    refine Or.inl ⟨_, rfl, ?_⟩
    walk_at "go"
    refine sMod.mk (by decide) ?_
    obtain ⟨w0, w1⟩ := fmod_in (i := x * 37 + y * 20021 + 7) (j := 2147483563) (by decide)
    generalize (x * 37 + y * 20021 + 7).fmod 2147483563 = v at w0 w1
    refine Sts.cons (St.ret (Ev.lstM (EvA.cons (Ev.mono (R := fun d μ2 => (∃ a : Int, 0 ≤ a ∧ d = .int a) ∧ μ2 = μ1) (Ev.ifE (EvT.w (EvW.or (EvT.lt ?_)))) ?_))))
    · walk_at "go"
      have yes : Ev (bx P w K mg base Nl_well "_law_well" dl_well.scope (He.fAd K dl_well.at_) cd A outer s H) (.Call (.Name "abs" ⟨124, 12, 124, 15⟩) [.Name "_law_own" ⟨124, 16, 124, 24⟩] [] ⟨124, 12, 124, 25⟩)
          [some (.lst (List.map DV.int ns)), some (.int t), some (.int v), u, some (.int z)] μ1 (fun d μ2 => (∃ a : Int, 0 ≤ a ∧ d = .int a) ∧ μ2 = μ1) := by
        refine Ev.abs rfl T.n_abs ?_
        walk_at "go"
        refine ⟨_, rfl, ⟨_, ?_, rfl⟩, rfl⟩
        split <;> omega
      refine ifd (fun _ => iteT yes) (fun _ => EvW.or1 (EvT.ge ?_))
      walk_at "go"
      refine sPow.mk ⟨by decide, by decide, by decide⟩ ?_
      walk_at "go"
      exact ifd (fun _ => yes) (fun _ => Ev.int ⟨⟨0, by decide, rfl⟩, rfl⟩)
    rintro d μ2 ⟨⟨a, ha, rfl⟩, rfl⟩
    walk_at "go"
    exact ⟨by show 4 ≤ sizeLine; decide, Or.inl (q a v ⟨ha, w0, w1, by decide, by decide⟩)⟩
end
end Lw

namespace Lw
open PySem PySem.Spec L2 Eg
local macro_rules | `(tactic| walk_at "vis") => `(tactic| first | exact Or.inl rfl | exact Or.inr (Or.inl rfl) | exact Or.inr (Or.inr rfl))
local macro_rules | `(tactic| walk_at "loc") => `(tactic| first | exact Or.inl rfl | exact Or.inr rfl)
local macro_rules | `(tactic| walk_at "nm") => `(tactic| first
  | refine Ev.name 0 (by rfl) (by walk_at "vis") (by rfl) ?_
  | refine Ev.name 1 (by rfl) (by walk_at "vis") (by rfl) ?_
  | refine Ev.name 2 (by rfl) (by walk_at "vis") (by rfl) ?_
  | refine Ev.name 3 (by rfl) (by walk_at "vis") (by rfl) ?_
  | refine Ev.name 4 (by rfl) (by walk_at "vis") (by rfl) ?_
  | refine Ev.name 5 (by rfl) (by walk_at "vis") (by rfl) ?_
  | refine Ev.name 6 (by rfl) (by walk_at "vis") (by rfl) ?_
  | refine Ev.name 7 (by rfl) (by walk_at "vis") (by rfl) ?_
  | refine Ev.name 8 (by rfl) (by walk_at "vis") (by rfl) ?_)
local macro_rules | `(tactic| walk_at "st") => `(tactic| first
  | refine St.set 1 (by assumption) (by rfl) (by walk_at "loc") (by walk_at "loc") ?_ rfl
  | refine St.set 2 (by assumption) (by rfl) (by walk_at "loc") (by walk_at "loc") ?_ rfl
  | refine St.set 3 (by assumption) (by rfl) (by walk_at "loc") (by walk_at "loc") ?_ rfl
  | refine St.set 4 (by assumption) (by rfl) (by walk_at "loc") (by walk_at "loc") ?_ rfl
  | refine St.set 5 (by assumption) (by rfl) (by walk_at "loc") (by walk_at "loc") ?_ rfl
  | refine St.set 6 (by assumption) (by rfl) (by walk_at "loc") (by walk_at "loc") ?_ rfl
  | refine St.set 7 (by assumption) (by rfl) (by walk_at "loc") (by walk_at "loc") ?_ rfl
  | refine St.set 8 (by assumption) (by rfl) (by walk_at "loc") (by walk_at "loc") ?_ rfl)
local macro_rules | `(tactic| walk_at "gn") => `(tactic| first
  | refine EvG.name 0 (by assumption) (by rfl) (by walk_at "loc") (by walk_at "loc") ?_
  | refine EvG.name 1 (by assumption) (by rfl) (by walk_at "loc") (by walk_at "loc") ?_
  | refine EvG.name 2 (by assumption) (by rfl) (by walk_at "loc") (by walk_at "loc") ?_
  | refine EvG.name 3 (by assumption) (by rfl) (by walk_at "loc") (by walk_at "loc") ?_
  | refine EvG.name 4 (by assumption) (by rfl) (by walk_at "loc") (by walk_at "loc") ?_
  | refine EvG.name 5 (by assumption) (by rfl) (by walk_at "loc") (by walk_at "loc") ?_
  | refine EvG.name 6 (by assumption) (by rfl) (by walk_at "loc") (by walk_at "loc") ?_
  | refine EvG.name 7 (by assumption) (by rfl) (by walk_at "loc") (by walk_at "loc") ?_
  | refine EvG.name 8 (by assumption) (by rfl) (by walk_at "loc") (by walk_at "loc") ?_)
local macro_rules | `(tactic| walk_at "one") => `(tactic| with_reducible first
  | refine sAdd.mk ?_ | refine sSub.mk ?_ | refine sLt.mk ?_ | refine sLe.mk ?_ | refine sGt.mk ?_ | refine sGe.mk ?_ | refine sEq.int ?_ | refine sNe.int ?_ | refine toT.mk ?_
  | refine Ev.int ?_ | refine Ev.str ?_ | refine Ev.bl ?_ | refine Ev.non ?_
  | refine Ev.sub ?_ | refine Ev.addI ?_ | refine Ev.mul ?_ | refine Ev.mod ?_ | refine Ev.fdiv ?_ | refine Ev.pow ?_ | refine Ev.neg ?_
  | refine Ev.lt ?_ | refine Ev.le ?_ | refine Ev.gt ?_ | refine Ev.ge ?_ | refine Ev.eq ?_ | refine Ev.ne ?_
  | refine Ev.ifE ?_ | refine Ev.tup ?_ | refine EvA.nil ?_ | refine EvA.cons ?_ rfl | refine EvT.not ?_
  | refine EvT.lt ?_ | refine EvT.le ?_ | refine EvT.gt ?_ | refine EvT.ge ?_ | refine EvT.eq ?_ | refine EvT.ne ?_
  | refine EvT.w ?_ | refine EvW.and ?_ | refine EvW.or ?_ | refine EvW.and1 ?_ | refine EvW.or1 ?_
  | refine Sts.cons ?_ | refine Sts.nil ?_ | refine St.ifS ?_ | refine St.ret ?_ | refine St.expr ?_ rfl)
local macro_rules | `(tactic| walk_at "go") => `(tactic| repeat (first | ((with_reducible show Ev _ (.Name _ _) _ _ _); (walk_at "nm")) | walk_at "one" | ((with_reducible show St _ (.Assign [.Name _ _] _ _) _ _ _); (walk_at "st"))))

def fdN (i : Nat) (d1 d2 : DV) : List (Str × DV) := if i = 0 then [("column", d2), ("line", d1)] else if i < 27 then [(fldN i, d1)] else []
def C_mk (K : PySem.W.Frag) (lo hi : Nat) : Ctr := fun ds μ R => ∃ (i : Nat) (d1 d2 : DV), ds = [.int i, d1, d2] ∧ lo ≤ i ∧ i < hi ∧ R (.exc (cA K i) (fdN i d1 d2)) μ
section
variable {P : Program} {w : World} {K : PySem.W.Frag} {mg : Str → Option Value} {base : Heap}
theorem rev_ok (vs : List V) (us : List Value) (h : Vals vs us) (e : vs.length = 2) : Vals vs.reverse us.reverse ∧ vs.reverse.length = 2 := by
  match vs, e with
  | [x, y], _ =>
    obtain ⟨a, b, rfl, h1, h2⟩ := vals2 h
    exact ⟨.cons h2 (.cons h1 .nil), rfl⟩
theorem rev_ok2 (w : Wd) (vs : List V) (ds : List DV) (h : HasL w vs ds) (e : vs.length = 2) : HasL w vs.reverse ds.reverse := by
  match vs, e, h with
  | [x, y], _, .cons h1 (.cons h2 .nil) => exact .cons h2 (.cons h1 .nil)
theorem ok_first_ones (T : Fx K mg) : Fn P w K mg base "_law_first_ones" 3 (C_mk K 0 15) := by
  obtain ⟨fd, F⟩ := T.d_l_first_ones
  refine Fn.mk (N := Nl_first_ones) (ps := ["_law_number", "_law_one", "_law_two"]) F scl_first_ones T.g_l_first_ones (fun _ _ _ _ _ _ us hl => match us, hl with | [_, _, _], _ => rfl) ?_ ?_
  · rintro ds μ R ⟨i, d1, d2, rfl, _⟩
    rfl
  rintro cd A outer s H hg hr hnd ds μ R ⟨i, d1, d2, rfl, h0, h1, q⟩
  refine Sts.cons ?_
  walk_at "go"
  refine ifd (fun h => ?_) (fun h0 => Sts.nil ?_)
  · obtain rfl : i = 0 := by omega
    refine Sts.cons ?_
    refine St.ret (Ev.mkE (fdf := fd2) T.x_InvalidText hg hr rfl fl2_ok (by decide) ?_)
    walk_at "go"
    exact ⟨rfl, Or.inl q⟩
  refine Sts.cons ?_
  walk_at "go"
  refine ifd (fun h => ?_) (fun h1 => Sts.nil ?_)
  · obtain rfl : i = 1 := by omega
    refine Sts.cons ?_
    refine St.ret (Ev.mkE (fdf := fd1 "place") T.x_InvalidProgram hg hr rfl (fl1_ok _) (by decide) ?_)
    walk_at "go"
    exact ⟨rfl, Or.inl q⟩
  refine Sts.cons ?_
  walk_at "go"
  refine ifd (fun h => ?_) (fun h2 => Sts.nil ?_)
  · obtain rfl : i = 2 := by omega
    refine Sts.cons ?_
    refine St.ret (Ev.mkE (fdf := fd1 "given") T.x_InvalidIndex hg hr rfl (fl1_ok _) (by decide) ?_)
    walk_at "go"
    exact ⟨rfl, Or.inl q⟩
  refine Sts.cons ?_
  walk_at "go"
  refine ifd (fun h => ?_) (fun h3 => Sts.nil ?_)
  · obtain rfl : i = 3 := by omega
    refine Sts.cons ?_
    refine St.ret (Ev.mkE (fdf := fd1 "given") T.x_InvalidPlace hg hr rfl (fl1_ok _) (by decide) ?_)
    walk_at "go"
    exact ⟨rfl, Or.inl q⟩
  refine Sts.cons ?_
  walk_at "go"
  refine ifd (fun h => ?_) (fun h4 => Sts.nil ?_)
  · obtain rfl : i = 4 := by omega
    refine Sts.cons ?_
    refine St.ret (Ev.mkE (fdf := fd1 "given") T.x_InvalidNumber hg hr rfl (fl1_ok _) (by decide) ?_)
    walk_at "go"
    exact ⟨rfl, Or.inl q⟩
  refine Sts.cons ?_
  walk_at "go"
  refine ifd (fun h => ?_) (fun h5 => Sts.nil ?_)
  · obtain rfl : i = 5 := by omega
    refine Sts.cons ?_
    refine St.ret (Ev.mkE (fdf := fd1 "given") T.x_InvalidState hg hr rfl (fl1_ok _) (by decide) ?_)
    walk_at "go"
    exact ⟨rfl, Or.inl q⟩
  refine Sts.cons ?_
  walk_at "go"
  refine ifd (fun h => ?_) (fun h6 => Sts.nil ?_)
  · obtain rfl : i = 6 := by omega
    refine Sts.cons ?_
    refine St.ret (Ev.mkE (fdf := fd1 "given") T.x_InvalidStretch hg hr rfl (fl1_ok _) (by decide) ?_)
    walk_at "go"
    exact ⟨rfl, Or.inl q⟩
  refine Sts.cons ?_
  walk_at "go"
  refine ifd (fun h => ?_) (fun h7 => Sts.nil ?_)
  · obtain rfl : i = 7 := by omega
    refine Sts.cons ?_
    refine St.ret (Ev.mkE (fdf := fd1 "given") T.x_InvalidRest hg hr rfl (fl1_ok _) (by decide) ?_)
    walk_at "go"
    exact ⟨rfl, Or.inl q⟩
  refine Sts.cons ?_
  walk_at "go"
  refine ifd (fun h => ?_) (fun h8 => Sts.nil ?_)
  · obtain rfl : i = 8 := by omega
    refine Sts.cons ?_
    refine St.ret (Ev.mkE (fdf := fd1 "given") T.x_InvalidWidth hg hr rfl (fl1_ok _) (by decide) ?_)
    walk_at "go"
    exact ⟨rfl, Or.inl q⟩
  refine Sts.cons ?_
  walk_at "go"
  refine ifd (fun h => ?_) (fun h9 => Sts.nil ?_)
  · obtain rfl : i = 9 := by omega
    refine Sts.cons ?_
    refine St.ret (Ev.mkE (fdf := fd1 "given") T.x_InvalidGuard hg hr rfl (fl1_ok _) (by decide) ?_)
    walk_at "go"
    exact ⟨rfl, Or.inl q⟩
  refine Sts.cons ?_
  walk_at "go"
  refine ifd (fun h => ?_) (fun h10 => Sts.nil ?_)
  · obtain rfl : i = 10 := by omega
    refine Sts.cons ?_
    refine St.ret (Ev.mkE (fdf := fd1 "given") T.x_InvalidSize hg hr rfl (fl1_ok _) (by decide) ?_)
    walk_at "go"
    exact ⟨rfl, Or.inl q⟩
  refine Sts.cons ?_
  walk_at "go"
  refine ifd (fun h => ?_) (fun h11 => Sts.nil ?_)
  · obtain rfl : i = 11 := by omega
    refine Sts.cons ?_
    refine St.ret (Ev.mkE (fdf := fd1 "given") T.x_InvalidSlot hg hr rfl (fl1_ok _) (by decide) ?_)
    walk_at "go"
    exact ⟨rfl, Or.inl q⟩
  refine Sts.cons ?_
  walk_at "go"
  refine ifd (fun h => ?_) (fun h12 => Sts.nil ?_)
  · obtain rfl : i = 12 := by omega
    refine Sts.cons ?_
    refine St.ret (Ev.mkE (fdf := fd1 "given") T.x_InvalidDifferences hg hr rfl (fl1_ok _) (by decide) ?_)
    walk_at "go"
    exact ⟨rfl, Or.inl q⟩
  refine Sts.cons ?_
  walk_at "go"
  refine ifd (fun h => ?_) (fun h13 => Sts.nil ?_)
  · obtain rfl : i = 13 := by omega
    refine Sts.cons ?_
    refine St.ret (Ev.mkE (fdf := fd1 "given") T.x_InvalidEquations hg hr rfl (fl1_ok _) (by decide) ?_)
    walk_at "go"
    exact ⟨rfl, Or.inl q⟩
  obtain rfl : i = 14 := by omega
  refine Sts.cons ?_
  refine St.ret (Ev.mkE (fdf := fd1 "given") T.x_InvalidSight hg hr rfl (fl1_ok _) (by decide) ?_)
  walk_at "go"
  exact ⟨rfl, Or.inl q⟩
theorem ok_last_ones (T : Fx K mg) : Fn P w K mg base "_law_last_ones" 3 (C_mk K 15 30) := by
  obtain ⟨fd, F⟩ := T.d_l_last_ones
  refine Fn.mk (N := Nl_last_ones) (ps := ["_law_number", "_law_one", "_law_two"]) F scl_last_ones T.g_l_last_ones (fun _ _ _ _ _ _ us hl => match us, hl with | [_, _, _], _ => rfl) ?_ ?_
  · rintro ds μ R ⟨i, d1, d2, rfl, _⟩
    rfl
  rintro cd A outer s H hg hr hnd ds μ R ⟨i, d1, d2, rfl, h0, h1, q⟩
  refine Sts.cons ?_
  walk_at "go"
  refine ifd (fun h => ?_) (fun h15 => Sts.nil ?_)
  · obtain rfl : i = 15 := by omega
    refine Sts.cons ?_
    refine St.ret (Ev.mkE (fdf := fd1 "given") T.x_InvalidLook hg hr rfl (fl1_ok _) (by decide) ?_)
    walk_at "go"
    exact ⟨rfl, Or.inl q⟩
  refine Sts.cons ?_
  walk_at "go"
  refine ifd (fun h => ?_) (fun h16 => Sts.nil ?_)
  · obtain rfl : i = 16 := by omega
    refine Sts.cons ?_
    refine St.ret (Ev.mkE (fdf := fd1 "given") T.x_InvalidExpression hg hr rfl (fl1_ok _) (by decide) ?_)
    walk_at "go"
    exact ⟨rfl, Or.inl q⟩
  refine Sts.cons ?_
  walk_at "go"
  refine ifd (fun h => ?_) (fun h17 => Sts.nil ?_)
  · obtain rfl : i = 17 := by omega
    refine Sts.cons ?_
    refine St.ret (Ev.mkE (fdf := fd1 "given") T.x_InvalidStep hg hr rfl (fl1_ok _) (by decide) ?_)
    walk_at "go"
    exact ⟨rfl, Or.inl q⟩
  refine Sts.cons ?_
  walk_at "go"
  refine ifd (fun h => ?_) (fun h18 => Sts.nil ?_)
  · obtain rfl : i = 18 := by omega
    refine Sts.cons ?_
    refine St.ret (Ev.mkE (fdf := fd1 "given") T.x_InvalidFault hg hr rfl (fl1_ok _) (by decide) ?_)
    walk_at "go"
    exact ⟨rfl, Or.inl q⟩
  refine Sts.cons ?_
  walk_at "go"
  refine ifd (fun h => ?_) (fun h19 => Sts.nil ?_)
  · obtain rfl : i = 19 := by omega
    refine Sts.cons ?_
    refine St.ret (Ev.mkE (fdf := fd1 "index") T.x_InvalidInputs hg hr rfl (fl1_ok _) (by decide) ?_)
    walk_at "go"
    exact ⟨rfl, Or.inl q⟩
  refine Sts.cons ?_
  walk_at "go"
  refine ifd (fun h => ?_) (fun h20 => Sts.nil ?_)
  · obtain rfl : i = 20 := by omega
    refine Sts.cons ?_
    refine St.ret (Ev.mkE (fdf := fd1 "index") T.x_InvalidOrder hg hr rfl (fl1_ok _) (by decide) ?_)
    walk_at "go"
    exact ⟨rfl, Or.inl q⟩
  refine Sts.cons ?_
  walk_at "go"
  refine ifd (fun h => ?_) (fun h21 => Sts.nil ?_)
  · obtain rfl : i = 21 := by omega
    refine Sts.cons ?_
    refine St.ret (Ev.mkE (fdf := fd1 "index") T.x_InvalidTable hg hr rfl (fl1_ok _) (by decide) ?_)
    walk_at "go"
    exact ⟨rfl, Or.inl q⟩
  refine Sts.cons ?_
  walk_at "go"
  refine ifd (fun h => ?_) (fun h22 => Sts.nil ?_)
  · obtain rfl : i = 22 := by omega
    refine Sts.cons ?_
    refine St.ret (Ev.mkE (fdf := fd1 "index") T.x_InvalidMarks hg hr rfl (fl1_ok _) (by decide) ?_)
    walk_at "go"
    exact ⟨rfl, Or.inl q⟩
  refine Sts.cons ?_
  walk_at "go"
  refine ifd (fun h => ?_) (fun h23 => Sts.nil ?_)
  · obtain rfl : i = 23 := by omega
    refine Sts.cons ?_
    refine St.ret (Ev.mkE (fdf := fd1 "index") T.x_InvalidSlots hg hr rfl (fl1_ok _) (by decide) ?_)
    walk_at "go"
    exact ⟨rfl, Or.inl q⟩
  refine Sts.cons ?_
  walk_at "go"
  refine ifd (fun h => ?_) (fun h24 => Sts.nil ?_)
  · obtain rfl : i = 24 := by omega
    refine Sts.cons ?_
    refine St.ret (Ev.mkE (fdf := fd1 "index") T.x_InvalidValues hg hr rfl (fl1_ok _) (by decide) ?_)
    walk_at "go"
    exact ⟨rfl, Or.inl q⟩
  refine Sts.cons ?_
  walk_at "go"
  refine ifd (fun h => ?_) (fun h25 => Sts.nil ?_)
  · obtain rfl : i = 25 := by omega
    refine Sts.cons ?_
    refine St.ret (Ev.mkE (fdf := fd1 "index") T.x_InvalidRow hg hr rfl (fl1_ok _) (by decide) ?_)
    walk_at "go"
    exact ⟨rfl, Or.inl q⟩
  refine Sts.cons ?_
  walk_at "go"
  refine ifd (fun h => ?_) (fun h26 => Sts.nil ?_)
  · obtain rfl : i = 26 := by omega
    refine Sts.cons ?_
    refine St.ret (Ev.mkE (fdf := fd1 "index") T.x_InvalidRows hg hr rfl (fl1_ok _) (by decide) ?_)
    walk_at "go"
    exact ⟨rfl, Or.inl q⟩
  refine Sts.cons ?_
  walk_at "go"
  refine ifd (fun h => ?_) (fun h27 => Sts.nil ?_)
  · obtain rfl : i = 27 := by omega
    refine Sts.cons ?_
    exact St.ret (Ev.mkE0 PySem.F.excBase_ValueError (T.cl.z 27 (by decide)).1 T.g_NotGoing (T.cl.z 27 (by decide)).2 rfl (Or.inl q))
  refine Sts.cons ?_
  walk_at "go"
  refine ifd (fun h => ?_) (fun h28 => Sts.nil ?_)
  · obtain rfl : i = 28 := by omega
    refine Sts.cons ?_
    exact St.ret (Ev.mkE0 PySem.F.excBase_ValueError (T.cl.z 28 (by decide)).1 T.g_NotClosed (T.cl.z 28 (by decide)).2 rfl (Or.inl q))
  obtain rfl : i = 29 := by omega
  refine Sts.cons ?_
  exact St.ret (Ev.mkE0 PySem.F.excBase_ValueError (T.cl.z 29 (by decide)).1 T.g_LookError (T.cl.z 29 (by decide)).2 rfl (Or.inl q))
theorem ok_first_named (T : Fx K mg) : Fn P w K mg base "_law_first_named" 3 (C_mk K 0 15) := by
  obtain ⟨fd, F⟩ := T.d_l_first_named
  refine Fn.mk (N := Nl_first_named) (ps := ["_law_number", "_law_one", "_law_two"]) F scl_first_named T.g_l_first_named (fun _ _ _ _ _ _ us hl => match us, hl with | [_, _, _], _ => rfl) ?_ ?_
  · rintro ds μ R ⟨i, d1, d2, rfl, _⟩
    rfl
  rintro cd A outer s H hg hr hnd ds μ R ⟨i, d1, d2, rfl, h0, h1, q⟩
  refine Sts.cons ?_
  walk_at "go"
  refine ifd (fun h => ?_) (fun h0 => Sts.nil ?_)
  · obtain rfl : i = 0 := by omega
    refine Sts.cons ?_
    refine St.ret (Ev.mkEK (fdf := fd2) T.x_InvalidText hg hr rfl List.reverse List.reverse rev_ok rev_ok2 fl2_ok (EvK.cons ?_))
    walk_at "go"
    refine EvK.cons ?_
    walk_at "go"
    exact EvK.nil ⟨rfl, Or.inl q⟩
  refine Sts.cons ?_
  walk_at "go"
  refine ifd (fun h => ?_) (fun h1 => Sts.nil ?_)
  · obtain rfl : i = 1 := by omega
    refine Sts.cons ?_
    refine St.ret (Ev.mkEK (fdf := fd1 "place") T.x_InvalidProgram hg hr rfl id id (fun _ _ v e => ⟨v, e⟩) (fun _ _ _ h _ => h) (fl1_ok _) (EvK.cons ?_))
    walk_at "go"
    exact EvK.nil ⟨rfl, Or.inl q⟩
  refine Sts.cons ?_
  walk_at "go"
  refine ifd (fun h => ?_) (fun h2 => Sts.nil ?_)
  · obtain rfl : i = 2 := by omega
    refine Sts.cons ?_
    refine St.ret (Ev.mkEK (fdf := fd1 "given") T.x_InvalidIndex hg hr rfl id id (fun _ _ v e => ⟨v, e⟩) (fun _ _ _ h _ => h) (fl1_ok _) (EvK.cons ?_))
    walk_at "go"
    exact EvK.nil ⟨rfl, Or.inl q⟩
  refine Sts.cons ?_
  walk_at "go"
  refine ifd (fun h => ?_) (fun h3 => Sts.nil ?_)
  · obtain rfl : i = 3 := by omega
    refine Sts.cons ?_
    refine St.ret (Ev.mkEK (fdf := fd1 "given") T.x_InvalidPlace hg hr rfl id id (fun _ _ v e => ⟨v, e⟩) (fun _ _ _ h _ => h) (fl1_ok _) (EvK.cons ?_))
    walk_at "go"
    exact EvK.nil ⟨rfl, Or.inl q⟩
  refine Sts.cons ?_
  walk_at "go"
  refine ifd (fun h => ?_) (fun h4 => Sts.nil ?_)
  · obtain rfl : i = 4 := by omega
    refine Sts.cons ?_
    refine St.ret (Ev.mkEK (fdf := fd1 "given") T.x_InvalidNumber hg hr rfl id id (fun _ _ v e => ⟨v, e⟩) (fun _ _ _ h _ => h) (fl1_ok _) (EvK.cons ?_))
    walk_at "go"
    exact EvK.nil ⟨rfl, Or.inl q⟩
  refine Sts.cons ?_
  walk_at "go"
  refine ifd (fun h => ?_) (fun h5 => Sts.nil ?_)
  · obtain rfl : i = 5 := by omega
    refine Sts.cons ?_
    refine St.ret (Ev.mkEK (fdf := fd1 "given") T.x_InvalidState hg hr rfl id id (fun _ _ v e => ⟨v, e⟩) (fun _ _ _ h _ => h) (fl1_ok _) (EvK.cons ?_))
    walk_at "go"
    exact EvK.nil ⟨rfl, Or.inl q⟩
  refine Sts.cons ?_
  walk_at "go"
  refine ifd (fun h => ?_) (fun h6 => Sts.nil ?_)
  · obtain rfl : i = 6 := by omega
    refine Sts.cons ?_
    refine St.ret (Ev.mkEK (fdf := fd1 "given") T.x_InvalidStretch hg hr rfl id id (fun _ _ v e => ⟨v, e⟩) (fun _ _ _ h _ => h) (fl1_ok _) (EvK.cons ?_))
    walk_at "go"
    exact EvK.nil ⟨rfl, Or.inl q⟩
  refine Sts.cons ?_
  walk_at "go"
  refine ifd (fun h => ?_) (fun h7 => Sts.nil ?_)
  · obtain rfl : i = 7 := by omega
    refine Sts.cons ?_
    refine St.ret (Ev.mkEK (fdf := fd1 "given") T.x_InvalidRest hg hr rfl id id (fun _ _ v e => ⟨v, e⟩) (fun _ _ _ h _ => h) (fl1_ok _) (EvK.cons ?_))
    walk_at "go"
    exact EvK.nil ⟨rfl, Or.inl q⟩
  refine Sts.cons ?_
  walk_at "go"
  refine ifd (fun h => ?_) (fun h8 => Sts.nil ?_)
  · obtain rfl : i = 8 := by omega
    refine Sts.cons ?_
    refine St.ret (Ev.mkEK (fdf := fd1 "given") T.x_InvalidWidth hg hr rfl id id (fun _ _ v e => ⟨v, e⟩) (fun _ _ _ h _ => h) (fl1_ok _) (EvK.cons ?_))
    walk_at "go"
    exact EvK.nil ⟨rfl, Or.inl q⟩
  refine Sts.cons ?_
  walk_at "go"
  refine ifd (fun h => ?_) (fun h9 => Sts.nil ?_)
  · obtain rfl : i = 9 := by omega
    refine Sts.cons ?_
    refine St.ret (Ev.mkEK (fdf := fd1 "given") T.x_InvalidGuard hg hr rfl id id (fun _ _ v e => ⟨v, e⟩) (fun _ _ _ h _ => h) (fl1_ok _) (EvK.cons ?_))
    walk_at "go"
    exact EvK.nil ⟨rfl, Or.inl q⟩
  refine Sts.cons ?_
  walk_at "go"
  refine ifd (fun h => ?_) (fun h10 => Sts.nil ?_)
  · obtain rfl : i = 10 := by omega
    refine Sts.cons ?_
    refine St.ret (Ev.mkEK (fdf := fd1 "given") T.x_InvalidSize hg hr rfl id id (fun _ _ v e => ⟨v, e⟩) (fun _ _ _ h _ => h) (fl1_ok _) (EvK.cons ?_))
    walk_at "go"
    exact EvK.nil ⟨rfl, Or.inl q⟩
  refine Sts.cons ?_
  walk_at "go"
  refine ifd (fun h => ?_) (fun h11 => Sts.nil ?_)
  · obtain rfl : i = 11 := by omega
    refine Sts.cons ?_
    refine St.ret (Ev.mkEK (fdf := fd1 "given") T.x_InvalidSlot hg hr rfl id id (fun _ _ v e => ⟨v, e⟩) (fun _ _ _ h _ => h) (fl1_ok _) (EvK.cons ?_))
    walk_at "go"
    exact EvK.nil ⟨rfl, Or.inl q⟩
  refine Sts.cons ?_
  walk_at "go"
  refine ifd (fun h => ?_) (fun h12 => Sts.nil ?_)
  · obtain rfl : i = 12 := by omega
    refine Sts.cons ?_
    refine St.ret (Ev.mkEK (fdf := fd1 "given") T.x_InvalidDifferences hg hr rfl id id (fun _ _ v e => ⟨v, e⟩) (fun _ _ _ h _ => h) (fl1_ok _) (EvK.cons ?_))
    walk_at "go"
    exact EvK.nil ⟨rfl, Or.inl q⟩
  refine Sts.cons ?_
  walk_at "go"
  refine ifd (fun h => ?_) (fun h13 => Sts.nil ?_)
  · obtain rfl : i = 13 := by omega
    refine Sts.cons ?_
    refine St.ret (Ev.mkEK (fdf := fd1 "given") T.x_InvalidEquations hg hr rfl id id (fun _ _ v e => ⟨v, e⟩) (fun _ _ _ h _ => h) (fl1_ok _) (EvK.cons ?_))
    walk_at "go"
    exact EvK.nil ⟨rfl, Or.inl q⟩
  obtain rfl : i = 14 := by omega
  refine Sts.cons ?_
  refine St.ret (Ev.mkEK (fdf := fd1 "given") T.x_InvalidSight hg hr rfl id id (fun _ _ v e => ⟨v, e⟩) (fun _ _ _ h _ => h) (fl1_ok _) (EvK.cons ?_))
  walk_at "go"
  exact EvK.nil ⟨rfl, Or.inl q⟩
theorem ok_last_named (T : Fx K mg) : Fn P w K mg base "_law_last_named" 3 (C_mk K 15 30) := by
  obtain ⟨fd, F⟩ := T.d_l_last_named
  refine Fn.mk (N := Nl_last_named) (ps := ["_law_number", "_law_one", "_law_two"]) F scl_last_named T.g_l_last_named (fun _ _ _ _ _ _ us hl => match us, hl with | [_, _, _], _ => rfl) ?_ ?_
  · rintro ds μ R ⟨i, d1, d2, rfl, _⟩
    rfl
  rintro cd A outer s H hg hr hnd ds μ R ⟨i, d1, d2, rfl, h0, h1, q⟩
  refine Sts.cons ?_
  walk_at "go"
  refine ifd (fun h => ?_) (fun h15 => Sts.nil ?_)
  · obtain rfl : i = 15 := by omega
    refine Sts.cons ?_
    refine St.ret (Ev.mkEK (fdf := fd1 "given") T.x_InvalidLook hg hr rfl id id (fun _ _ v e => ⟨v, e⟩) (fun _ _ _ h _ => h) (fl1_ok _) (EvK.cons ?_))
    walk_at "go"
    exact EvK.nil ⟨rfl, Or.inl q⟩
  refine Sts.cons ?_
  walk_at "go"
  refine ifd (fun h => ?_) (fun h16 => Sts.nil ?_)
  · obtain rfl : i = 16 := by omega
    refine Sts.cons ?_
    refine St.ret (Ev.mkEK (fdf := fd1 "given") T.x_InvalidExpression hg hr rfl id id (fun _ _ v e => ⟨v, e⟩) (fun _ _ _ h _ => h) (fl1_ok _) (EvK.cons ?_))
    walk_at "go"
    exact EvK.nil ⟨rfl, Or.inl q⟩
  refine Sts.cons ?_
  walk_at "go"
  refine ifd (fun h => ?_) (fun h17 => Sts.nil ?_)
  · obtain rfl : i = 17 := by omega
    refine Sts.cons ?_
    refine St.ret (Ev.mkEK (fdf := fd1 "given") T.x_InvalidStep hg hr rfl id id (fun _ _ v e => ⟨v, e⟩) (fun _ _ _ h _ => h) (fl1_ok _) (EvK.cons ?_))
    walk_at "go"
    exact EvK.nil ⟨rfl, Or.inl q⟩
  refine Sts.cons ?_
  walk_at "go"
  refine ifd (fun h => ?_) (fun h18 => Sts.nil ?_)
  · obtain rfl : i = 18 := by omega
    refine Sts.cons ?_
    refine St.ret (Ev.mkEK (fdf := fd1 "given") T.x_InvalidFault hg hr rfl id id (fun _ _ v e => ⟨v, e⟩) (fun _ _ _ h _ => h) (fl1_ok _) (EvK.cons ?_))
    walk_at "go"
    exact EvK.nil ⟨rfl, Or.inl q⟩
  refine Sts.cons ?_
  walk_at "go"
  refine ifd (fun h => ?_) (fun h19 => Sts.nil ?_)
  · obtain rfl : i = 19 := by omega
    refine Sts.cons ?_
    refine St.ret (Ev.mkEK (fdf := fd1 "index") T.x_InvalidInputs hg hr rfl id id (fun _ _ v e => ⟨v, e⟩) (fun _ _ _ h _ => h) (fl1_ok _) (EvK.cons ?_))
    walk_at "go"
    exact EvK.nil ⟨rfl, Or.inl q⟩
  refine Sts.cons ?_
  walk_at "go"
  refine ifd (fun h => ?_) (fun h20 => Sts.nil ?_)
  · obtain rfl : i = 20 := by omega
    refine Sts.cons ?_
    refine St.ret (Ev.mkEK (fdf := fd1 "index") T.x_InvalidOrder hg hr rfl id id (fun _ _ v e => ⟨v, e⟩) (fun _ _ _ h _ => h) (fl1_ok _) (EvK.cons ?_))
    walk_at "go"
    exact EvK.nil ⟨rfl, Or.inl q⟩
  refine Sts.cons ?_
  walk_at "go"
  refine ifd (fun h => ?_) (fun h21 => Sts.nil ?_)
  · obtain rfl : i = 21 := by omega
    refine Sts.cons ?_
    refine St.ret (Ev.mkEK (fdf := fd1 "index") T.x_InvalidTable hg hr rfl id id (fun _ _ v e => ⟨v, e⟩) (fun _ _ _ h _ => h) (fl1_ok _) (EvK.cons ?_))
    walk_at "go"
    exact EvK.nil ⟨rfl, Or.inl q⟩
  refine Sts.cons ?_
  walk_at "go"
  refine ifd (fun h => ?_) (fun h22 => Sts.nil ?_)
  · obtain rfl : i = 22 := by omega
    refine Sts.cons ?_
    refine St.ret (Ev.mkEK (fdf := fd1 "index") T.x_InvalidMarks hg hr rfl id id (fun _ _ v e => ⟨v, e⟩) (fun _ _ _ h _ => h) (fl1_ok _) (EvK.cons ?_))
    walk_at "go"
    exact EvK.nil ⟨rfl, Or.inl q⟩
  refine Sts.cons ?_
  walk_at "go"
  refine ifd (fun h => ?_) (fun h23 => Sts.nil ?_)
  · obtain rfl : i = 23 := by omega
    refine Sts.cons ?_
    refine St.ret (Ev.mkEK (fdf := fd1 "index") T.x_InvalidSlots hg hr rfl id id (fun _ _ v e => ⟨v, e⟩) (fun _ _ _ h _ => h) (fl1_ok _) (EvK.cons ?_))
    walk_at "go"
    exact EvK.nil ⟨rfl, Or.inl q⟩
  refine Sts.cons ?_
  walk_at "go"
  refine ifd (fun h => ?_) (fun h24 => Sts.nil ?_)
  · obtain rfl : i = 24 := by omega
    refine Sts.cons ?_
    refine St.ret (Ev.mkEK (fdf := fd1 "index") T.x_InvalidValues hg hr rfl id id (fun _ _ v e => ⟨v, e⟩) (fun _ _ _ h _ => h) (fl1_ok _) (EvK.cons ?_))
    walk_at "go"
    exact EvK.nil ⟨rfl, Or.inl q⟩
  refine Sts.cons ?_
  walk_at "go"
  refine ifd (fun h => ?_) (fun h25 => Sts.nil ?_)
  · obtain rfl : i = 25 := by omega
    refine Sts.cons ?_
    refine St.ret (Ev.mkEK (fdf := fd1 "index") T.x_InvalidRow hg hr rfl id id (fun _ _ v e => ⟨v, e⟩) (fun _ _ _ h _ => h) (fl1_ok _) (EvK.cons ?_))
    walk_at "go"
    exact EvK.nil ⟨rfl, Or.inl q⟩
  refine Sts.cons ?_
  walk_at "go"
  refine ifd (fun h => ?_) (fun h26 => Sts.nil ?_)
  · obtain rfl : i = 26 := by omega
    refine Sts.cons ?_
    refine St.ret (Ev.mkEK (fdf := fd1 "index") T.x_InvalidRows hg hr rfl id id (fun _ _ v e => ⟨v, e⟩) (fun _ _ _ h _ => h) (fl1_ok _) (EvK.cons ?_))
    walk_at "go"
    exact EvK.nil ⟨rfl, Or.inl q⟩
  refine Sts.cons ?_
  walk_at "go"
  refine ifd (fun h => ?_) (fun h27 => Sts.nil ?_)
  · obtain rfl : i = 27 := by omega
    refine Sts.cons ?_
    exact St.ret (Ev.mkE0 PySem.F.excBase_ValueError (T.cl.z 27 (by decide)).1 T.g_NotGoing (T.cl.z 27 (by decide)).2 rfl (Or.inl q))
  refine Sts.cons ?_
  walk_at "go"
  refine ifd (fun h => ?_) (fun h28 => Sts.nil ?_)
  · obtain rfl : i = 28 := by omega
    refine Sts.cons ?_
    exact St.ret (Ev.mkE0 PySem.F.excBase_ValueError (T.cl.z 28 (by decide)).1 T.g_NotClosed (T.cl.z 28 (by decide)).2 rfl (Or.inl q))
  obtain rfl : i = 29 := by omega
  refine Sts.cons ?_
  exact St.ret (Ev.mkE0 PySem.F.excBase_ValueError (T.cl.z 29 (by decide)).1 T.g_LookError (T.cl.z 29 (by decide)).2 rfl (Or.inl q))
end
end Lw

namespace Lw
open PySem PySem.Spec L2 Eg
local macro_rules | `(tactic| walk_at "vis") => `(tactic| first | exact Or.inl rfl | exact Or.inr (Or.inl rfl) | exact Or.inr (Or.inr rfl))
local macro_rules | `(tactic| walk_at "loc") => `(tactic| first | exact Or.inl rfl | exact Or.inr rfl)
local macro_rules | `(tactic| walk_at "nm") => `(tactic| first
  | refine Ev.name 0 (by rfl) (by walk_at "vis") (by rfl) ?_
  | refine Ev.name 1 (by rfl) (by walk_at "vis") (by rfl) ?_
  | refine Ev.name 2 (by rfl) (by walk_at "vis") (by rfl) ?_
  | refine Ev.name 3 (by rfl) (by walk_at "vis") (by rfl) ?_
  | refine Ev.name 4 (by rfl) (by walk_at "vis") (by rfl) ?_
  | refine Ev.name 5 (by rfl) (by walk_at "vis") (by rfl) ?_
  | refine Ev.name 6 (by rfl) (by walk_at "vis") (by rfl) ?_
  | refine Ev.name 7 (by rfl) (by walk_at "vis") (by rfl) ?_
  | refine Ev.name 8 (by rfl) (by walk_at "vis") (by rfl) ?_)
local macro_rules | `(tactic| walk_at "st") => `(tactic| first
  | refine St.set 1 (by assumption) (by rfl) (by walk_at "loc") (by walk_at "loc") ?_ rfl
  | refine St.set 2 (by assumption) (by rfl) (by walk_at "loc") (by walk_at "loc") ?_ rfl
  | refine St.set 3 (by assumption) (by rfl) (by walk_at "loc") (by walk_at "loc") ?_ rfl
  | refine St.set 4 (by assumption) (by rfl) (by walk_at "loc") (by walk_at "loc") ?_ rfl
  | refine St.set 5 (by assumption) (by rfl) (by walk_at "loc") (by walk_at "loc") ?_ rfl
  | refine St.set 6 (by assumption) (by rfl) (by walk_at "loc") (by walk_at "loc") ?_ rfl
  | refine St.set 7 (by assumption) (by rfl) (by walk_at "loc") (by walk_at "loc") ?_ rfl
  | refine St.set 8 (by assumption) (by rfl) (by walk_at "loc") (by walk_at "loc") ?_ rfl)
local macro_rules | `(tactic| walk_at "gn") => `(tactic| first
  | refine EvG.name 0 (by assumption) (by rfl) (by walk_at "loc") (by walk_at "loc") ?_
  | refine EvG.name 1 (by assumption) (by rfl) (by walk_at "loc") (by walk_at "loc") ?_
  | refine EvG.name 2 (by assumption) (by rfl) (by walk_at "loc") (by walk_at "loc") ?_
  | refine EvG.name 3 (by assumption) (by rfl) (by walk_at "loc") (by walk_at "loc") ?_
  | refine EvG.name 4 (by assumption) (by rfl) (by walk_at "loc") (by walk_at "loc") ?_
  | refine EvG.name 5 (by assumption) (by rfl) (by walk_at "loc") (by walk_at "loc") ?_
  | refine EvG.name 6 (by assumption) (by rfl) (by walk_at "loc") (by walk_at "loc") ?_
  | refine EvG.name 7 (by assumption) (by rfl) (by walk_at "loc") (by walk_at "loc") ?_
  | refine EvG.name 8 (by assumption) (by rfl) (by walk_at "loc") (by walk_at "loc") ?_)
local macro_rules | `(tactic| walk_at "one") => `(tactic| with_reducible first
  | refine sAdd.mk ?_ | refine sSub.mk ?_ | refine sLt.mk ?_ | refine sLe.mk ?_ | refine sGt.mk ?_ | refine sGe.mk ?_ | refine sEq.int ?_ | refine sNe.int ?_ | refine toT.mk ?_
  | refine Ev.int ?_ | refine Ev.str ?_ | refine Ev.bl ?_ | refine Ev.non ?_
  | refine Ev.sub ?_ | refine Ev.addI ?_ | refine Ev.mul ?_ | refine Ev.mod ?_ | refine Ev.fdiv ?_ | refine Ev.pow ?_ | refine Ev.neg ?_
  | refine Ev.lt ?_ | refine Ev.le ?_ | refine Ev.gt ?_ | refine Ev.ge ?_ | refine Ev.eq ?_ | refine Ev.ne ?_
  | refine Ev.ifE ?_ | refine Ev.tup ?_ | refine EvA.nil ?_ | refine EvA.cons ?_ rfl | refine EvT.not ?_
  | refine EvT.lt ?_ | refine EvT.le ?_ | refine EvT.gt ?_ | refine EvT.ge ?_ | refine EvT.eq ?_ | refine EvT.ne ?_
  | refine EvT.w ?_ | refine EvW.and ?_ | refine EvW.or ?_ | refine EvW.and1 ?_ | refine EvW.or1 ?_
  | refine Sts.cons ?_ | refine Sts.nil ?_ | refine St.ifS ?_ | refine St.ret ?_ | refine St.expr ?_ rfl)
local macro_rules | `(tactic| walk_at "go") => `(tactic| repeat (first | ((with_reducible show Ev _ (.Name _ _) _ _ _); (walk_at "nm")) | walk_at "one" | ((with_reducible show St _ (.Assign [.Name _ _] _ _) _ _ _); (walk_at "st"))))

def under (i j : Nat) : Bool := decide (j = i ∨ 29 ≤ j ∧ j < 32)
def trD (i : Nat) : List DV := (List.range 40).map fun j => DV.bl (under i j)
def dueD (i : Nat) (d1 d2 : DV) : List DV := if i = 0 then [d1, d2] else if i < 27 then [d1] else []
def C_truths (K : PySem.W.Frag) : Ctr := fun ds μ R => ∃ (i : Nat) (fs : List (Str × DV)), ds = [.exc (cA K i) fs] ∧ i < 30 ∧ R (.lst (trD i)) μ
def C_kept (K : PySem.W.Frag) : Ctr := fun ds μ R => ∃ (i : Nat) (d1 d2 : DV), ds = [.int i, .exc (cA K i) (fdN i d1 d2)] ∧ i < 30 ∧ R (.lst (dueD i d1 d2)) μ
def C_due : Ctr := fun ds μ R => ∃ (i : Nat) (d1 d2 : DV), ds = [.int i, d1, d2] ∧ R (.lst (dueD i d1 d2)) μ
section
variable {P : Program} {w : World} {K : PySem.W.Frag} {mg : Str → Option Value} {base : Heap}
theorem ok_truths (T : Fx K mg) : Fn P w K mg base "_law_truths" 2 (C_truths K) := by
  obtain ⟨fd, F⟩ := T.d_l_truths
  refine Fn.mk (N := Nl_truths) (ps := ["_law_error"]) F scl_truths T.g_l_truths (fun _ _ _ _ _ _ us hl => match us, hl with | [_], _ => rfl) ?_ ?_
  · rintro ds μ R ⟨i, fs, rfl, _⟩
    rfl
  rintro cd A outer s H hg hr hnd ds μ R ⟨i, fs, rfl, hi, q⟩
  refine Sts.cons (St.ret (Ev.lst ?_))
  refine EvA.cons (Ev.isE rfl T.n_isinstance (pe_glob rfl T.g_InvalidText (v := V.ref (cA K 0)) rfl) (fun _ h => h) ?_) rfl
  walk_at "nm"
  refine ⟨cA K i, fs, _, rfl, T.cl.xc i hi, T.cl.isO i hi 0 (by decide), ?_⟩
  refine EvA.cons (Ev.isE rfl T.n_isinstance (pe_glob rfl T.g_InvalidProgram (v := V.ref (cA K 1)) rfl) (fun _ h => h) ?_) rfl
  walk_at "nm"
  refine ⟨cA K i, fs, _, rfl, T.cl.xc i hi, T.cl.isO i hi 1 (by decide), ?_⟩
  refine EvA.cons (Ev.isE rfl T.n_isinstance (pe_glob rfl T.g_InvalidIndex (v := V.ref (cA K 2)) rfl) (fun _ h => h) ?_) rfl
  walk_at "nm"
  refine ⟨cA K i, fs, _, rfl, T.cl.xc i hi, T.cl.isO i hi 2 (by decide), ?_⟩
  refine EvA.cons (Ev.isE rfl T.n_isinstance (pe_glob rfl T.g_InvalidPlace (v := V.ref (cA K 3)) rfl) (fun _ h => h) ?_) rfl
  walk_at "nm"
  refine ⟨cA K i, fs, _, rfl, T.cl.xc i hi, T.cl.isO i hi 3 (by decide), ?_⟩
  refine EvA.cons (Ev.isE rfl T.n_isinstance (pe_glob rfl T.g_InvalidNumber (v := V.ref (cA K 4)) rfl) (fun _ h => h) ?_) rfl
  walk_at "nm"
  refine ⟨cA K i, fs, _, rfl, T.cl.xc i hi, T.cl.isO i hi 4 (by decide), ?_⟩
  refine EvA.cons (Ev.isE rfl T.n_isinstance (pe_glob rfl T.g_InvalidState (v := V.ref (cA K 5)) rfl) (fun _ h => h) ?_) rfl
  walk_at "nm"
  refine ⟨cA K i, fs, _, rfl, T.cl.xc i hi, T.cl.isO i hi 5 (by decide), ?_⟩
  refine EvA.cons (Ev.isE rfl T.n_isinstance (pe_glob rfl T.g_InvalidStretch (v := V.ref (cA K 6)) rfl) (fun _ h => h) ?_) rfl
  walk_at "nm"
  refine ⟨cA K i, fs, _, rfl, T.cl.xc i hi, T.cl.isO i hi 6 (by decide), ?_⟩
  refine EvA.cons (Ev.isE rfl T.n_isinstance (pe_glob rfl T.g_InvalidRest (v := V.ref (cA K 7)) rfl) (fun _ h => h) ?_) rfl
  walk_at "nm"
  refine ⟨cA K i, fs, _, rfl, T.cl.xc i hi, T.cl.isO i hi 7 (by decide), ?_⟩
  refine EvA.cons (Ev.isE rfl T.n_isinstance (pe_glob rfl T.g_InvalidWidth (v := V.ref (cA K 8)) rfl) (fun _ h => h) ?_) rfl
  walk_at "nm"
  refine ⟨cA K i, fs, _, rfl, T.cl.xc i hi, T.cl.isO i hi 8 (by decide), ?_⟩
  refine EvA.cons (Ev.isE rfl T.n_isinstance (pe_glob rfl T.g_InvalidGuard (v := V.ref (cA K 9)) rfl) (fun _ h => h) ?_) rfl
  walk_at "nm"
  refine ⟨cA K i, fs, _, rfl, T.cl.xc i hi, T.cl.isO i hi 9 (by decide), ?_⟩
  refine EvA.cons (Ev.isE rfl T.n_isinstance (pe_glob rfl T.g_InvalidSize (v := V.ref (cA K 10)) rfl) (fun _ h => h) ?_) rfl
  walk_at "nm"
  refine ⟨cA K i, fs, _, rfl, T.cl.xc i hi, T.cl.isO i hi 10 (by decide), ?_⟩
  refine EvA.cons (Ev.isE rfl T.n_isinstance (pe_glob rfl T.g_InvalidSlot (v := V.ref (cA K 11)) rfl) (fun _ h => h) ?_) rfl
  walk_at "nm"
  refine ⟨cA K i, fs, _, rfl, T.cl.xc i hi, T.cl.isO i hi 11 (by decide), ?_⟩
  refine EvA.cons (Ev.isE rfl T.n_isinstance (pe_glob rfl T.g_InvalidDifferences (v := V.ref (cA K 12)) rfl) (fun _ h => h) ?_) rfl
  walk_at "nm"
  refine ⟨cA K i, fs, _, rfl, T.cl.xc i hi, T.cl.isO i hi 12 (by decide), ?_⟩
  refine EvA.cons (Ev.isE rfl T.n_isinstance (pe_glob rfl T.g_InvalidEquations (v := V.ref (cA K 13)) rfl) (fun _ h => h) ?_) rfl
  walk_at "nm"
  refine ⟨cA K i, fs, _, rfl, T.cl.xc i hi, T.cl.isO i hi 13 (by decide), ?_⟩
  refine EvA.cons (Ev.isE rfl T.n_isinstance (pe_glob rfl T.g_InvalidSight (v := V.ref (cA K 14)) rfl) (fun _ h => h) ?_) rfl
  walk_at "nm"
  refine ⟨cA K i, fs, _, rfl, T.cl.xc i hi, T.cl.isO i hi 14 (by decide), ?_⟩
  refine EvA.cons (Ev.isE rfl T.n_isinstance (pe_glob rfl T.g_InvalidLook (v := V.ref (cA K 15)) rfl) (fun _ h => h) ?_) rfl
  walk_at "nm"
  refine ⟨cA K i, fs, _, rfl, T.cl.xc i hi, T.cl.isO i hi 15 (by decide), ?_⟩
  refine EvA.cons (Ev.isE rfl T.n_isinstance (pe_glob rfl T.g_InvalidExpression (v := V.ref (cA K 16)) rfl) (fun _ h => h) ?_) rfl
  walk_at "nm"
  refine ⟨cA K i, fs, _, rfl, T.cl.xc i hi, T.cl.isO i hi 16 (by decide), ?_⟩
  refine EvA.cons (Ev.isE rfl T.n_isinstance (pe_glob rfl T.g_InvalidStep (v := V.ref (cA K 17)) rfl) (fun _ h => h) ?_) rfl
  walk_at "nm"
  refine ⟨cA K i, fs, _, rfl, T.cl.xc i hi, T.cl.isO i hi 17 (by decide), ?_⟩
  refine EvA.cons (Ev.isE rfl T.n_isinstance (pe_glob rfl T.g_InvalidFault (v := V.ref (cA K 18)) rfl) (fun _ h => h) ?_) rfl
  walk_at "nm"
  refine ⟨cA K i, fs, _, rfl, T.cl.xc i hi, T.cl.isO i hi 18 (by decide), ?_⟩
  refine EvA.cons (Ev.isE rfl T.n_isinstance (pe_glob rfl T.g_InvalidInputs (v := V.ref (cA K 19)) rfl) (fun _ h => h) ?_) rfl
  walk_at "nm"
  refine ⟨cA K i, fs, _, rfl, T.cl.xc i hi, T.cl.isO i hi 19 (by decide), ?_⟩
  refine EvA.cons (Ev.isE rfl T.n_isinstance (pe_glob rfl T.g_InvalidOrder (v := V.ref (cA K 20)) rfl) (fun _ h => h) ?_) rfl
  walk_at "nm"
  refine ⟨cA K i, fs, _, rfl, T.cl.xc i hi, T.cl.isO i hi 20 (by decide), ?_⟩
  refine EvA.cons (Ev.isE rfl T.n_isinstance (pe_glob rfl T.g_InvalidTable (v := V.ref (cA K 21)) rfl) (fun _ h => h) ?_) rfl
  walk_at "nm"
  refine ⟨cA K i, fs, _, rfl, T.cl.xc i hi, T.cl.isO i hi 21 (by decide), ?_⟩
  refine EvA.cons (Ev.isE rfl T.n_isinstance (pe_glob rfl T.g_InvalidMarks (v := V.ref (cA K 22)) rfl) (fun _ h => h) ?_) rfl
  walk_at "nm"
  refine ⟨cA K i, fs, _, rfl, T.cl.xc i hi, T.cl.isO i hi 22 (by decide), ?_⟩
  refine EvA.cons (Ev.isE rfl T.n_isinstance (pe_glob rfl T.g_InvalidSlots (v := V.ref (cA K 23)) rfl) (fun _ h => h) ?_) rfl
  walk_at "nm"
  refine ⟨cA K i, fs, _, rfl, T.cl.xc i hi, T.cl.isO i hi 23 (by decide), ?_⟩
  refine EvA.cons (Ev.isE rfl T.n_isinstance (pe_glob rfl T.g_InvalidValues (v := V.ref (cA K 24)) rfl) (fun _ h => h) ?_) rfl
  walk_at "nm"
  refine ⟨cA K i, fs, _, rfl, T.cl.xc i hi, T.cl.isO i hi 24 (by decide), ?_⟩
  refine EvA.cons (Ev.isE rfl T.n_isinstance (pe_glob rfl T.g_InvalidRow (v := V.ref (cA K 25)) rfl) (fun _ h => h) ?_) rfl
  walk_at "nm"
  refine ⟨cA K i, fs, _, rfl, T.cl.xc i hi, T.cl.isO i hi 25 (by decide), ?_⟩
  refine EvA.cons (Ev.isE rfl T.n_isinstance (pe_glob rfl T.g_InvalidRows (v := V.ref (cA K 26)) rfl) (fun _ h => h) ?_) rfl
  walk_at "nm"
  refine ⟨cA K i, fs, _, rfl, T.cl.xc i hi, T.cl.isO i hi 26 (by decide), ?_⟩
  refine EvA.cons (Ev.isE rfl T.n_isinstance (pe_glob rfl T.g_NotGoing (v := V.ref (cA K 27)) rfl) (fun _ h => h) ?_) rfl
  walk_at "nm"
  refine ⟨cA K i, fs, _, rfl, T.cl.xc i hi, T.cl.isO i hi 27 (by decide), ?_⟩
  refine EvA.cons (Ev.isE rfl T.n_isinstance (pe_glob rfl T.g_NotClosed (v := V.ref (cA K 28)) rfl) (fun _ h => h) ?_) rfl
  walk_at "nm"
  refine ⟨cA K i, fs, _, rfl, T.cl.xc i hi, T.cl.isO i hi 28 (by decide), ?_⟩
  refine EvA.cons (Ev.isE rfl T.n_isinstance (pe_glob rfl T.g_LookError (v := V.ref (cA K 29)) rfl) (fun _ h => h) ?_) rfl
  walk_at "nm"
  refine ⟨cA K i, fs, _, rfl, T.cl.xc i hi, T.cl.isO i hi 29 (by decide), ?_⟩
  refine EvA.cons (Ev.isE rfl T.n_isinstance (pe_bltn rfl T.n_ValueError (u := .type "ValueError") (v := V.ty "ValueError") (by decide +kernel) rfl) (fun _ h => h) ?_) rfl
  walk_at "nm"
  refine ⟨cA K i, fs, _, rfl, T.cl.xc i hi, T.cl.isB i hi 0 (by decide), ?_⟩
  refine EvA.cons (Ev.isE rfl T.n_isinstance (pe_bltn rfl T.n_Exception (u := .type "Exception") (v := V.ty "Exception") (by decide +kernel) rfl) (fun _ h => h) ?_) rfl
  walk_at "nm"
  refine ⟨cA K i, fs, _, rfl, T.cl.xc i hi, T.cl.isB i hi 1 (by decide), ?_⟩
  refine EvA.cons (Ev.isE rfl T.n_isinstance (pe_bltn rfl T.n_LookupError (u := .type "LookupError") (v := V.ty "LookupError") (by decide +kernel) rfl) (fun _ h => h) ?_) rfl
  walk_at "nm"
  refine ⟨cA K i, fs, _, rfl, T.cl.xc i hi, T.cl.isB i hi 2 (by decide), ?_⟩
  refine EvA.cons (Ev.isE rfl T.n_isinstance (pe_bltn rfl T.n_KeyError (u := .type "KeyError") (v := V.ty "KeyError") (by decide +kernel) rfl) (fun _ h => h) ?_) rfl
  walk_at "nm"
  refine ⟨cA K i, fs, _, rfl, T.cl.xc i hi, T.cl.isB i hi 3 (by decide), ?_⟩
  refine EvA.cons (Ev.isE rfl T.n_isinstance (pe_bltn rfl T.n_IndexError (u := .type "IndexError") (v := V.ty "IndexError") (by decide +kernel) rfl) (fun _ h => h) ?_) rfl
  walk_at "nm"
  refine ⟨cA K i, fs, _, rfl, T.cl.xc i hi, T.cl.isB i hi 4 (by decide), ?_⟩
  refine EvA.cons (Ev.isE rfl T.n_isinstance (pe_bltn rfl T.n_TypeError (u := .type "TypeError") (v := V.ty "TypeError") (by decide +kernel) rfl) (fun _ h => h) ?_) rfl
  walk_at "nm"
  refine ⟨cA K i, fs, _, rfl, T.cl.xc i hi, T.cl.isB i hi 5 (by decide), ?_⟩
  refine EvA.cons (Ev.isE rfl T.n_isinstance (pe_bltn rfl T.n_ArithmeticError (u := .type "ArithmeticError") (v := V.ty "ArithmeticError") (by decide +kernel) rfl) (fun _ h => h) ?_) rfl
  walk_at "nm"
  refine ⟨cA K i, fs, _, rfl, T.cl.xc i hi, T.cl.isB i hi 6 (by decide), ?_⟩
  refine EvA.cons (Ev.isE rfl T.n_isinstance (pe_bltn rfl T.n_ZeroDivisionError (u := .type "ZeroDivisionError") (v := V.ty "ZeroDivisionError") (by decide +kernel) rfl) (fun _ h => h) ?_) rfl
  walk_at "nm"
  refine ⟨cA K i, fs, _, rfl, T.cl.xc i hi, T.cl.isB i hi 7 (by decide), ?_⟩
  refine EvA.cons (Ev.isE rfl T.n_isinstance (pe_bltn rfl T.n_RuntimeError (u := .type "RuntimeError") (v := V.ty "RuntimeError") (by decide +kernel) rfl) (fun _ h => h) ?_) rfl
  walk_at "nm"
  refine ⟨cA K i, fs, _, rfl, T.cl.xc i hi, T.cl.isB i hi 8 (by decide), ?_⟩
  refine EvA.cons (Ev.isE rfl T.n_isinstance (pe_bltn rfl T.n_AttributeError (u := .type "AttributeError") (v := V.ty "AttributeError") (by decide +kernel) rfl) (fun _ h => h) ?_) rfl
  walk_at "nm"
  refine ⟨cA K i, fs, _, rfl, T.cl.xc i hi, T.cl.isB i hi 9 (by decide), ?_⟩
  refine EvA.nil ⟨by show 40 ≤ sizeLine; decide, Or.inl ?_⟩
  exact q
theorem ok_kept (T : Fx K mg) : Fn P w K mg base "_law_kept" 1 (C_kept K) := by
  obtain ⟨fd, F⟩ := T.d_l_kept
  refine Fn.mk (N := Nl_kept) (ps := ["_law_number", "_law_error"]) F scl_kept T.g_l_kept (fun _ _ _ _ _ _ us hl => match us, hl with | [_, _], _ => rfl) ?_ ?_
  · rintro ds μ R ⟨i, d1, d2, rfl, _⟩
    rfl
  rintro cd A outer s H hg hr hnd ds μ R ⟨i, d1, d2, rfl, hi, q⟩
  have one : ∀ f : Str, fldN i = f → i ≠ 0 → i < 27 → PySem.W.findIn K (.ref (cA K i)) f = some none ∧ (fdN i d1 d2).lookup f = some d1 ∧ dueD i d1 d2 = [d1] := by
    rintro f rfl h0 h1
    refine ⟨T.cl.no i h1 h0, ?_, ?_⟩
    · unfold fdN
      rw [if_neg h0, if_pos h1]
      simp [List.lookup]
    · unfold dueD
      rw [if_neg h0, if_pos h1]
  refine Sts.cons ?_
  walk_at "go"
  refine ifd (fun h => ?_) (fun h0 => Sts.nil ?_)
  · obtain rfl : i = 0 := by omega
    refine Sts.cons (St.ret (Ev.lst (EvA.cons (Ev.attrE ?_) rfl)))
    walk_at "nm"
    refine ⟨_, _, d1, rfl, T.cl.xc 0 (by decide), T.cl.no1, rfl, ?_⟩
    refine EvA.cons (Ev.attrE ?_) rfl
    walk_at "nm"
    exact ⟨_, _, d2, rfl, T.cl.xc 0 (by decide), T.cl.no2, rfl, EvA.nil ⟨by show 2 ≤ sizeLine; decide, Or.inl q⟩⟩
  refine Sts.cons ?_
  walk_at "go"
  refine ifd (fun h => ?_) (fun h1 => Sts.nil ?_)
  · obtain rfl : i = 1 := by omega
    obtain ⟨a1, a2, a3⟩ := one "place" rfl (by decide) (by decide)
    refine Sts.cons (St.ret (Ev.lst (EvA.cons (Ev.attrE ?_) rfl)))
    walk_at "nm"
    exact ⟨_, _, d1, rfl, T.cl.xc 1 (by decide), a1, a2, EvA.nil ⟨by show 1 ≤ sizeLine; decide, Or.inl (a3 ▸ q)⟩⟩
  refine Sts.cons ?_
  walk_at "go"
  refine ifd (fun h => ?_) (fun h2 => Sts.nil ?_)
  · obtain ⟨a1, a2, a3⟩ := one "given" (by unfold fldN; rw [if_neg (by omega), if_pos (by omega)]) (by omega) (by omega)
    refine Sts.cons (St.ret (Ev.lst (EvA.cons (Ev.attrE ?_) rfl)))
    walk_at "nm"
    exact ⟨_, _, d1, rfl, T.cl.xc i hi, a1, a2, EvA.nil ⟨by show 1 ≤ sizeLine; decide, Or.inl (a3 ▸ q)⟩⟩
  refine Sts.cons (St.ret (Ev.ifE (EvT.lt ?_)))
  walk_at "go"
  refine ifd (fun h => ?_) (fun h2 => ?_)
  · obtain ⟨a1, a2, a3⟩ := one "index" (by unfold fldN; rw [if_neg (by omega), if_neg (by omega)]) (by omega) (by omega)
    refine Ev.lst (EvA.cons (Ev.attrE ?_) rfl)
    walk_at "nm"
    exact ⟨_, _, d1, rfl, T.cl.xc i hi, a1, a2, EvA.nil ⟨by show 1 ≤ sizeLine; decide, Or.inl (a3 ▸ q)⟩⟩
  · have e : dueD i d1 d2 = [] := by
      unfold dueD
      rw [if_neg (by omega), if_neg (by omega)]
    exact Ev.lst (EvA.nil ⟨by show 0 ≤ sizeLine; decide, Or.inl (e ▸ q)⟩)
theorem ok_due (T : Fx K mg) : Fn P w K mg base "_law_due" 1 C_due := by
  obtain ⟨fd, F⟩ := T.d_l_due
  refine Fn.mk (N := Nl_due) (ps := ["_law_number", "_law_one", "_law_two"]) F scl_due T.g_l_due (fun _ _ _ _ _ _ us hl => match us, hl with | [_, _, _], _ => rfl) ?_ ?_
  · rintro ds μ R ⟨i, d1, d2, rfl, _⟩
    rfl
  rintro cd A outer s H hg hr hnd ds μ R ⟨i, d1, d2, rfl, q⟩
  refine Sts.cons (St.ret (Ev.ifE (EvT.eq ?_)))
  walk_at "go"
  refine ifd (fun h => ?_) (fun h0 => Ev.ifE (EvT.lt ?_))
  · obtain rfl : i = 0 := by omega
    refine Ev.lst ?_
    walk_at "go"
    exact ⟨by show 2 ≤ sizeLine; decide, Or.inl q⟩
  walk_at "go"
  refine ifd (fun h => ?_) (fun h2 => ?_)
  · have e : dueD i d1 d2 = [d1] := by
      unfold dueD
      rw [if_neg (by omega), if_pos (by omega)]
    refine Ev.lst ?_
    walk_at "go"
    exact ⟨by show 1 ≤ sizeLine; decide, Or.inl (e ▸ q)⟩
  · have e : dueD i d1 d2 = [] := by
      unfold dueD
      rw [if_neg (by omega), if_neg (by omega)]
    exact Ev.lst (EvA.nil ⟨by show 0 ≤ sizeLine; decide, Or.inl (e ▸ q)⟩)
end
end Lw

namespace Lw
open PySem PySem.Spec L2 Eg
/-! ### what is drawn can be shown, and briefly -/
def Lk : Nat → Nat
  | 0 => 60
  | k + 1 => 4 * Lk k + 11
theorem Lk_ge : ∀ k, 60 ≤ Lk k
  | 0 => Nat.le_refl _
  | k + 1 => by
    have := Lk_ge k
    show 60 ≤ 4 * Lk k + 11
    omega
theorem int_len {i : Int} (h : i.natAbs ≤ 10 ^ 40) : (Str.ofString (toString i)).length ≤ 60 := by
  rw [ofString_length]
  have nat : ∀ n : Nat, n ≤ 10 ^ 40 → (n.repr).length ≤ 42 := fun n hn => (Nat.length_repr_le_iff (by decide)).mpr (Nat.lt_of_le_of_lt hn (by decide))
  cases i with
  | ofNat n =>
    have : (toString (Int.ofNat n)) = n.repr := rfl
    rw [this]
    exact Nat.le_trans (nat n h) (by decide)
  | negSucc n =>
    have e : (toString (Int.negSucc n)) = "-" ++ (n + 1).repr := rfl
    have l1 : ("-" : String).length = 1 := by decide
    have h' := nat (n + 1) h
    rw [e, String.length_append, l1]
    omega
theorem int_show {i : Int} (h : i.natAbs ≤ 10 ^ 40) : decide (i.natAbs.log2 < 1920) = true := by
  refine decide_eq_true ?_
  by_cases z : i.natAbs = 0
  · rw [z]
    decide
  · exact (Nat.log2_lt z).mpr (Nat.lt_of_le_of_lt h (by decide +kernel))
mutual
theorem ok_py : ∀ (k : Nat) (d : DV), okB k d = true → ∃ pd, toPy d = some pd ∧ pd.showable = true ∧ pd.depth ≤ k + 1 ∧ pd.shown.length ≤ Lk k
  | k, .non, _ => ⟨_, rfl, rfl, by simp [PyData.depth], by have := Lk_ge k; exact Nat.le_trans (by decide : _ ≤ 60) this⟩
  | k, .bl true, _ => ⟨_, rfl, rfl, by simp [PyData.depth], by have := Lk_ge k; exact Nat.le_trans (by decide : _ ≤ 60) this⟩
  | k, .bl false, _ => ⟨_, rfl, rfl, by simp [PyData.depth], by have := Lk_ge k; exact Nat.le_trans (by decide : _ ≤ 60) this⟩
  | k, .int i, h => by
    have h' : i.natAbs ≤ 10 ^ 40 := by
      cases k <;> exact of_decide_eq_true h
    refine ⟨_, rfl, ?_, by simp [PyData.depth], Nat.le_trans ?_ (Lk_ge k)⟩
    · rw [PyData.showable]
      exact int_show h'
    · rw [PyData.shown]
      exact int_len h'
  | k, .str x, h => by
    have h' : (reprText x).length ≤ 50 := by
      cases k <;> exact of_decide_eq_true (Bool.and_eq_true_iff.mp h).2
    refine ⟨_, rfl, rfl, by simp [PyData.depth], Nat.le_trans ?_ (Lk_ge k)⟩
    rw [PyData.shown]
    omega
  | k + 1, .tup xs, h => by
    obtain ⟨h1, h2⟩ := Bool.and_eq_true_iff.mp (show (decide (xs.length ≤ 4) && xs.all (okB k)) = true from h)
    have hl := of_decide_eq_true h1
    obtain ⟨pds, e, s, dp, sh, sl⟩ := ok_pyL k xs h2
    refine ⟨.tuple pds, by show (toPyL xs).map PyData.tuple = _; rw [e]; rfl, ?_, ?_, ?_⟩
    · rw [PyData.showable]
      exact s
    · rw [PyData.depth]
      omega
    · rw [PyData.shown]
      have z := tupleText_len_le (PyData.shownAll pds)
      rw [sl] at z
      have m : xs.length * Lk k ≤ 4 * Lk k := Nat.mul_le_mul_right _ hl
      show _ ≤ 4 * Lk k + 11
      omega
  | k + 1, .lst xs, h => by
    obtain ⟨h1, h2⟩ := Bool.and_eq_true_iff.mp (show (decide (xs.length ≤ 4) && xs.all (okB k)) = true from h)
    have hl := of_decide_eq_true h1
    obtain ⟨pds, e, s, dp, sh, sl⟩ := ok_pyL k xs h2
    refine ⟨.list pds, by show (toPyL xs).map PyData.list = _; rw [e]; rfl, ?_, ?_, ?_⟩
    · rw [PyData.showable]
      exact s
    · rw [PyData.depth]
      omega
    · rw [PyData.shown]
      have z := listText_len_le (PyData.shownAll pds)
      rw [sl] at z
      have m : xs.length * Lk k ≤ 4 * Lk k := Nat.mul_le_mul_right _ hl
      show _ ≤ 4 * Lk k + 11
      omega
  | k, .dic [], _ => ⟨.dict [], rfl, rfl, by simp [PyData.depth, PyData.depthKv], by have := Lk_ge k; exact Nat.le_trans (by decide +kernel : _ ≤ 60) this⟩
  | 0, .tup _, h => by cases h
  | 0, .lst _, h => by cases h
  | 0, .dic (_ :: _), h => by cases h
  | _ + 1, .dic (_ :: _), h => by cases h
  | 0, .exc _ _, h => by cases h
  | _ + 1, .exc _ _, h => by cases h
  | 0, .mu _, h => by cases h
  | _ + 1, .mu _, h => by cases h
theorem ok_pyL : ∀ (k : Nat) (xs : List DV), xs.all (okB k) = true → ∃ pds, toPyL xs = some pds ∧ PyData.showableAll pds = true ∧ PyData.depthAll pds ≤ k + 1 ∧ ((PyData.shownAll pds).map (fun x => x.length)).sum ≤ xs.length * Lk k ∧ (PyData.shownAll pds).length = xs.length
  | k, [], _ => ⟨[], rfl, rfl, by simp [PyData.depthAll], by simp [PyData.shownAll], by simp [PyData.shownAll]⟩
  | k, x :: r, h => by
    rw [List.all_cons] at h
    obtain ⟨h1, h2⟩ := Bool.and_eq_true_iff.mp h
    obtain ⟨pd, e1, s1, d1, l1⟩ := ok_py k x h1
    obtain ⟨pds, e2, s2, d2, l2, n2⟩ := ok_pyL k r h2
    refine ⟨pd :: pds, by show (toPy x).bind _ = _; rw [e1]; show (toPyL r).map _ = _; rw [e2]; rfl, ?_, ?_, ?_, ?_⟩
    · simp [PyData.showableAll, s1, s2]
    · simp [PyData.depthAll]
      omega
    · simp only [PyData.shownAll, List.map_cons, List.sum_cons, List.length_cons]
      rw [Nat.add_mul]
      omega
    · simp [PyData.shownAll, n2]
end
/-- two lists of such -/
theorem told_ok {xs ys : List DV} (h1 : xs.length ≤ 4) (h2 : ys.length ≤ 4) (hx : xs.all (okB 5) = true) (hy : ys.all (okB 5) = true) :
    ∃ pd, toPy (.lst [.lst xs, .lst ys]) = some pd ∧ pd.showable = true ∧ pd.depth ≤ 100 ∧ pd.shown.length ≤ sizeLine := by
  have ok : okB 7 (.lst [.lst xs, .lst ys]) = true := by
    have a : okB 6 (.lst xs) = true := by
      show (decide (xs.length ≤ 4) && xs.all (okB 5)) = true
      rw [decide_eq_true h1, hx]
      rfl
    have b : okB 6 (.lst ys) = true := by
      show (decide (ys.length ≤ 4) && ys.all (okB 5)) = true
      rw [decide_eq_true h2, hy]
      rfl
    show (decide (2 ≤ 4) && (okB 6 (.lst xs) && (okB 6 (.lst ys) && true))) = true
    rw [a, b]
    rfl
  obtain ⟨pd, e, s, d, l⟩ := ok_py 7 _ ok
  exact ⟨pd, e, s, by omega, Nat.le_trans l (by rw [sizeLine_eq]; decide)⟩
/-! ### lists of truths beside each other -/
theorem trs_py : ∀ bs : List Bool, toPyL (bs.map DV.bl) = some (bs.map PyData.bool)
  | [] => rfl
  | b :: r => by
    show (toPy (.bl b)).bind _ = _
    show (toPyL (r.map DV.bl)).map _ = _
    rw [trs_py r]
    rfl
theorem trs_eqv : ∀ bs : List Bool, PyData.eqvAll (bs.map PyData.bool) (bs.map PyData.bool) = true
  | [] => by simp [PyData.eqvAll]
  | b :: r => by
    simp [PyData.eqvAll, PyData.eqv, trs_eqv r]
theorem trs_nod : ∀ bs : List Bool, PyData.hasDictAll (bs.map PyData.bool) = false
  | [] => by simp [PyData.hasDictAll]
  | b :: r => by
    simp [PyData.hasDictAll, PyData.hasDict, trs_nod r]
end Lw

namespace Lw
open PySem PySem.Spec L2 Eg
local macro_rules | `(tactic| walk_at "vis") => `(tactic| first | exact Or.inl rfl | exact Or.inr (Or.inl rfl) | exact Or.inr (Or.inr rfl))
local macro_rules | `(tactic| walk_at "loc") => `(tactic| first | exact Or.inl rfl | exact Or.inr rfl)
local macro_rules | `(tactic| walk_at "nm") => `(tactic| first
  | refine Ev.name 0 (by rfl) (by walk_at "vis") (by rfl) ?_
  | refine Ev.name 1 (by rfl) (by walk_at "vis") (by rfl) ?_
  | refine Ev.name 2 (by rfl) (by walk_at "vis") (by rfl) ?_
  | refine Ev.name 3 (by rfl) (by walk_at "vis") (by rfl) ?_
  | refine Ev.name 4 (by rfl) (by walk_at "vis") (by rfl) ?_
  | refine Ev.name 5 (by rfl) (by walk_at "vis") (by rfl) ?_
  | refine Ev.name 6 (by rfl) (by walk_at "vis") (by rfl) ?_
  | refine Ev.name 7 (by rfl) (by walk_at "vis") (by rfl) ?_
  | refine Ev.name 8 (by rfl) (by walk_at "vis") (by rfl) ?_)
local macro_rules | `(tactic| walk_at "st") => `(tactic| first
  | refine St.set 1 (by assumption) (by rfl) (by walk_at "loc") (by walk_at "loc") ?_ rfl
  | refine St.set 2 (by assumption) (by rfl) (by walk_at "loc") (by walk_at "loc") ?_ rfl
  | refine St.set 3 (by assumption) (by rfl) (by walk_at "loc") (by walk_at "loc") ?_ rfl
  | refine St.set 4 (by assumption) (by rfl) (by walk_at "loc") (by walk_at "loc") ?_ rfl
  | refine St.set 5 (by assumption) (by rfl) (by walk_at "loc") (by walk_at "loc") ?_ rfl
  | refine St.set 6 (by assumption) (by rfl) (by walk_at "loc") (by walk_at "loc") ?_ rfl
  | refine St.set 7 (by assumption) (by rfl) (by walk_at "loc") (by walk_at "loc") ?_ rfl
  | refine St.set 8 (by assumption) (by rfl) (by walk_at "loc") (by walk_at "loc") ?_ rfl)
local macro_rules | `(tactic| walk_at "gn") => `(tactic| first
  | refine EvG.name 0 (by assumption) (by rfl) (by walk_at "loc") (by walk_at "loc") ?_
  | refine EvG.name 1 (by assumption) (by rfl) (by walk_at "loc") (by walk_at "loc") ?_
  | refine EvG.name 2 (by assumption) (by rfl) (by walk_at "loc") (by walk_at "loc") ?_
  | refine EvG.name 3 (by assumption) (by rfl) (by walk_at "loc") (by walk_at "loc") ?_
  | refine EvG.name 4 (by assumption) (by rfl) (by walk_at "loc") (by walk_at "loc") ?_
  | refine EvG.name 5 (by assumption) (by rfl) (by walk_at "loc") (by walk_at "loc") ?_
  | refine EvG.name 6 (by assumption) (by rfl) (by walk_at "loc") (by walk_at "loc") ?_
  | refine EvG.name 7 (by assumption) (by rfl) (by walk_at "loc") (by walk_at "loc") ?_
  | refine EvG.name 8 (by assumption) (by rfl) (by walk_at "loc") (by walk_at "loc") ?_)
local macro_rules | `(tactic| walk_at "one") => `(tactic| with_reducible first
  | refine sAdd.mk ?_ | refine sSub.mk ?_ | refine sLt.mk ?_ | refine sLe.mk ?_ | refine sGt.mk ?_ | refine sGe.mk ?_ | refine sEq.int ?_ | refine sNe.int ?_ | refine toT.mk ?_
  | refine Ev.int ?_ | refine Ev.str ?_ | refine Ev.bl ?_ | refine Ev.non ?_
  | refine Ev.sub ?_ | refine Ev.addI ?_ | refine Ev.mul ?_ | refine Ev.mod ?_ | refine Ev.fdiv ?_ | refine Ev.pow ?_ | refine Ev.neg ?_
  | refine Ev.lt ?_ | refine Ev.le ?_ | refine Ev.gt ?_ | refine Ev.ge ?_ | refine Ev.eq ?_ | refine Ev.ne ?_
  | refine Ev.ifE ?_ | refine Ev.tup ?_ | refine EvA.nil ?_ | refine EvA.cons ?_ rfl | refine EvT.not ?_
  | refine EvT.lt ?_ | refine EvT.le ?_ | refine EvT.gt ?_ | refine EvT.ge ?_ | refine EvT.eq ?_ | refine EvT.ne ?_
  | refine EvT.w ?_ | refine EvW.and ?_ | refine EvW.or ?_ | refine EvW.and1 ?_ | refine EvW.or1 ?_
  | refine Sts.cons ?_ | refine Sts.nil ?_ | refine St.ifS ?_ | refine St.ret ?_ | refine St.expr ?_ rfl)
local macro_rules | `(tactic| walk_at "go") => `(tactic| repeat (first | ((with_reducible show Ev _ (.Name _ _) _ _ _); (walk_at "nm")) | walk_at "one" | ((with_reducible show St _ (.Assign [.Name _ _] _ _) _ _ _); (walk_at "st"))))
def trP (i : Nat) : PyData := .list (((List.range 40).map (under i)).map PyData.bool)
theorem trP_all : (List.range 30).all (fun i => SeqAt.shaped (trP i) && (!PyData.hasDict (trP i) && PyData.eqv (trP i) (trP i))) = true := by decide +kernel
theorem trP_ok {i : Nat} (h : i < 30) : SeqAt.shaped (trP i) = true ∧ PyData.hasDict (trP i) = false ∧ PyData.eqv (trP i) (trP i) = true := by
  have z := List.all_eq_true.mp trP_all i (List.mem_range.mpr h)
  simp only [Bool.and_eq_true, Bool.not_eq_true'] at z
  exact z
theorem trD_py (i : Nat) : toPy (.lst (trD i)) = some (trP i) := by
  have e : trD i = ((List.range 40).map (under i)).map DV.bl := by
    unfold trD
    rw [List.map_map]
    rfl
  rw [e]
  show (toPyL (((List.range 40).map (under i)).map DV.bl)).map PyData.list = _
  rw [trs_py]
  rfl
theorem dueD_len (i : Nat) (d1 d2 : DV) : (dueD i d1 d2).length ≤ 4 := by
  unfold dueD
  split
  · show 2 ≤ 4
    decide
  · split
    · show 1 ≤ 4
      decide
    · show 0 ≤ 4
      decide
theorem dueD_ok {n i : Nat} {d1 d2 : DV} (h1 : okB n d1 = true) (h2 : okB n d2 = true) : (dueD i d1 d2).all (okB n) = true := by
  unfold dueD
  split
  · simp [h1, h2]
  · split
    · simp [h1]
    · rfl
def C_right : Ctr := fun ds μ R => ∃ k, ds = [.mu k] ∧ WS μ k 0 ∧ ∀ μ' c', WS μ' k c' → Wch μ μ' k → R (.bl true) μ'
section
variable {P : Program} {w : World} {K : PySem.W.Frag} {mg : Str → Option Value} {base : Heap}
theorem ok_right (T : Fx K mg) (hB : ∃ mm, base.Ns sysModules mm) : Fn P w K mg base "_law_right" 8 C_right := by
  obtain ⟨fd, F⟩ := T.d_l_right
  refine Fn.mk (N := Nl_right) (ps := ["_law_well_here"]) F scl_right T.g_l_right (fun _ _ _ _ _ _ us hl => match us, hl with | [_], _ => rfl) ?_ ?_
  · rintro ds μ R ⟨k, rfl, _⟩
    rfl
  rintro cd A outer s H hg hr hnd ds μ R ⟨k, rfl, hw, q⟩
  have hu := hr.un
  have ok_due' := ok_due (P := P) (w := w) (base := base) T
  refine Sts.cons (St.par3 1 2 3 rfl hnd rfl rfl rfl (by decide) (by decide) (by decide) rfl rfl rfl (EvA.cons (Ev.call (ok_thing T 2) hg (hr.mono (by decide)) rfl ?_) rfl))
  walk_at "go"
  refine ⟨k, 0, rfl, hw, by decide, fun one μ1 c1 o1 w1 l1 h1 => ?_⟩
  refine EvA.cons (Ev.call (ok_thing T 2) hg (hr.mono (by decide)) rfl ?_) rfl
  walk_at "go"
  have b2 : Bd 2 = 26 := by decide
  have b1 : Bd 1 = 8 := by decide
  refine ⟨k, c1, rfl, w1, by omega, fun two μ2 c2 o2 w2 l2 h2 => ?_⟩
  refine EvA.cons (Ev.call (ok_thing T 1) hg (hr.mono (by decide)) rfl ?_) rfl
  walk_at "go"
  refine ⟨k, c2, rfl, w2, by omega, fun more μ3 c3 o3 w3 l3 h3 => ?_⟩
  refine EvA.nil ⟨one, two, more, rfl, ?_⟩
  have h13 : Wch μ μ3 k := h1.trans (h2.trans h3)
  have hone : okB 5 one = true := o1
  have htwo : okB 5 two = true := o2
  have hmore : okB 5 more = true := okB_le o3 (by decide)
  refine Sts.cons (St.for_ PassesOwn.never rfl (EvI.range1 rfl T.n_range (EvA.cons ?_)))
  walk_at "go"
  refine ⟨30, rfl, by decide, by decide, fun i ρ' μ' => (∃ a b c d e, ρ' = [some (.mu k), some one, some two, some more, a, b, c, d, e]) ∧ ∃ μs, μ' = μ3 ++ μs, ⟨⟨_, _, _, _, _, rfl⟩, [], by simp⟩, ?_, ?_⟩
  · rintro i d ρ' μ' hd ⟨⟨a, b, c, d', e, rfl⟩, μs, rfl⟩
    obtain ⟨hi, hd⟩ := List.getElem?_eq_some_iff.mp hd
    rw [rgD_len] at hi
    have hi : i < 30 := hi
    have ed : d = .int i := by
      rw [← hd]
      simp [rgD]
    subst ed
    clear hd
    walk_at "gn"
    refine Sts.cons (St.mono (R := fun o => o = .nx [some (.mu k), some one, some two, some more, some (.int i), some (.lst [.exc (cA K i) (fdN i one two), .exc (cA K i) (fdN i two more)]), c, d', e] (μ3 ++ μs)) (St.ifS (EvT.lt ?_)) ?_)
    · walk_at "go"
      refine ifd (fun hlt => ?_) (fun hlt => ?_)
      · refine Sts.cons (St.set 5 (by assumption) (by rfl) (by walk_at "loc") (by walk_at "loc") (Ev.lst (EvA.cons (Ev.call (ok_first_ones T) hg (hr.mono (by decide)) rfl ?_) rfl)) rfl)
        walk_at "go"
        refine ⟨i, one, two, rfl, by omega, by omega, EvA.cons (Ev.call (ok_first_named T) hg (hr.mono (by decide)) rfl ?_) rfl⟩
        walk_at "go"
        exact ⟨i, two, more, rfl, by omega, by omega, EvA.nil ⟨by show 2 ≤ sizeLine; decide, Sts.nil rfl⟩⟩
      · refine Sts.cons (St.set 5 (by assumption) (by rfl) (by walk_at "loc") (by walk_at "loc") (Ev.lst (EvA.cons (Ev.call (ok_last_ones T) hg (hr.mono (by decide)) rfl ?_) rfl)) rfl)
        walk_at "go"
        refine ⟨i, one, two, rfl, by omega, by omega, EvA.cons (Ev.call (ok_last_named T) hg (hr.mono (by decide)) rfl ?_) rfl⟩
        walk_at "go"
        exact ⟨i, two, more, rfl, by omega, by omega, EvA.nil ⟨by show 2 ≤ sizeLine; decide, Sts.nil rfl⟩⟩
    rintro _ rfl
    refine Sts.cons (St.setLc 6 8 rfl hnd rfl rfl (sw_true rfl rfl rfl (by decide +kernel)) rfl (blkOk_by (N := Nl_right) (sc := dl_right.scope) (by decide +kernel)) (fun _ _ _ _ _ => ⟨Or.inl rfl, Or.inr rfl⟩) (EvI.range1 rfl T.n_range (EvA.cons ?_)))
    walk_at "go"
    refine ⟨40, rfl, by decide, by decide, by rw [rgD_len]; decide, fun j acc μ' => acc = ((List.range j).map (under i)).map DV.bl ∧ μ' = μ3 ++ μs, ⟨rfl, rfl⟩, ?_, ?_⟩
    · rintro j d acc μ2 hd hl ⟨rfl, rfl⟩ s' H' C cl fp
      obtain ⟨hj, hd⟩ := List.getElem?_eq_some_iff.mp hd
      rw [rgD_len] at hj
      have ed : d = .int j := by
        rw [← hd]
        simp [rgD]
      subst ed
      clear hd
      have step : ∀ b, b = under i j → ∃ μ4, (μ3 ++ μs) ++ [MO.lst (((List.range j).map (under i)).map DV.bl)] = μ4 ++ [MO.lst (((List.range j).map (under i)).map DV.bl)] ∧ μ4.length = (μ3 ++ μs).length ∧
          ((((List.range j).map (under i)).map DV.bl) ++ [DV.bl b] = ((List.range (j + 1)).map (under i)).map DV.bl ∧ μ4 = μ3 ++ μs) := by
        rintro b rfl
        refine ⟨_, rfl, rfl, ?_, rfl⟩
        rw [List.range_succ, List.map_append, List.map_append]
        rfl
      refine Ev.or (Ev.eq ?_)
      walk_at "go"
      refine ⟨_, rfl, ifd (fun h => ?_) (fun h => Ev.one (Ev.chain op_le (rI0_S fun _ _ _ => .bl) op_lt (rI0_S fun _ _ _ => .bl) ?_))⟩
      · exact step true (decide_eq_true (Or.inl (by omega))).symm
      walk_at "go"
      refine ⟨_, _, rfl, rfl, _, rfl, ifd (fun h2 => ?_) (fun h2 => ?_)⟩
      · walk_at "go"
        exact ⟨_, _, rfl, rfl, step _ (by unfold under; exact decide_eq_decide.mpr ⟨fun z => Or.inr (by omega), fun z => by omega⟩)⟩
      · exact step false (decide_eq_false (by omega)).symm
    rintro acc μ2 hl ⟨rfl, rfl⟩
    rw [rgD_len]
    have hu1 : (bx P w K mg base Nl_right "_law_right" dl_right.scope (He.fAd K dl_right.at_) cd A outer s H).A.units + 64 < cLine := by omega
    have hu2 : (bx P w K mg base Nl_right "_law_right" dl_right.scope (He.fAd K dl_right.at_) cd A outer s H).A.units + 200 < cLine := by omega
    obtain ⟨t1, t2, t3⟩ := trP_ok hi
    have same : (!PyData.eqv (trP i) (trP i)) = false := by rw [t3]; rfl
    have er : ∀ m : Nat, m < 2 → True := fun _ _ => trivial
    refine Sts.cons (St.ifS (EvT.w (EvW.or (EvT.neD hu1 (Ev.call (ok_truths T) hg (hr.mono (by decide)) rfl (EvA.cons (Ev.at ?_) rfl))))))
    walk_at "go"
    refine sIx.lst rfl (EvA.nil ⟨i, _, rfl, hi, ?_⟩)
    walk_at "go"
    refine ⟨_, _, trD_py i, trD_py i, t2, t2, t1, t1, _, rfl, ?_⟩
    rw [same]
    refine iteF (EvW.or1 (EvT.neD hu1 (Ev.call (ok_truths T) hg (hr.mono (by decide)) rfl (EvA.cons (Ev.at ?_) rfl))))
    walk_at "go"
    refine sIx.lst rfl (EvA.nil ⟨i, _, rfl, hi, ?_⟩)
    walk_at "go"
    refine ⟨_, _, trD_py i, trD_py i, t2, t2, t1, t1, _, rfl, ?_⟩
    rw [same]
    refine iteF (Sts.nil ?_)
    refine Sts.cons (St.set 7 (by assumption) (by rfl) (by walk_at "loc") (by walk_at "loc") (Ev.lst (EvA.cons (Ev.call (ok_kept T) hg (hr.mono (by decide)) rfl ?_) rfl)) rfl)
    walk_at "go"
    refine Ev.at ?_
    walk_at "go"
    refine sIx.lst rfl (EvA.nil ⟨i, one, two, rfl, hi, EvA.cons (Ev.call (ok_kept T) hg (hr.mono (by decide)) rfl ?_) rfl⟩)
    walk_at "go"
    refine Ev.at ?_
    walk_at "go"
    refine sIx.lst rfl (EvA.nil ⟨i, two, more, rfl, hi, EvA.nil ⟨by show 2 ≤ sizeLine; decide, ?_⟩⟩)
    obtain ⟨pd, p1, p2, p3, p4⟩ := told_ok (dueD_len i one two) (dueD_len i two more) (dueD_ok (i := i) hone htwo) (dueD_ok (i := i) htwo hmore)
    refine Sts.cons (St.ifS (EvT.ne (Ev.repr hg hu2 hB rfl T.n_repr ?_)))
    walk_at "go"
    refine ⟨_, pd, rfl, Or.inl ⟨_, rfl⟩, p1, p2, p3, p4, Ev.repr hg hu2 hB rfl T.n_repr (EvA.cons (Ev.lst (EvA.cons (Ev.call ok_due' hg (hr.mono (by decide)) rfl ?_) rfl)) rfl)⟩
    walk_at "go"
    refine ⟨i, one, two, rfl, EvA.cons (Ev.call ok_due' hg (hr.mono (by decide)) rfl ?_) rfl⟩
    walk_at "go"
    refine ⟨i, two, more, rfl, EvA.nil ⟨by show 2 ≤ sizeLine; decide, EvA.nil ⟨_, pd, rfl, Or.inl ⟨_, rfl⟩, p1, p2, p3, p4, _, _, rfl, rfl, rfl, _, rfl, ifnF rfl ?_⟩⟩⟩
    refine Sts.nil (Sts.nil ⟨⟨_, _, _, _, _, rfl⟩, μs ++ [.dead], by rw [List.append_assoc]⟩)
  · rintro ρ' μ' ⟨⟨a, b, c, d', e, rfl⟩, μs, rfl⟩
    refine Sts.cons (St.ret (Ev.bl ?_))
    have htk : (μ3 ++ μs).take μ.length = μ3 := by rw [← h13.1]; simp
    refine Or.inr ⟨rfl, ?_, ?_⟩
    · rw [htk, ← h13.1]
      exact w3.2
    · rw [htk]
      exact q _ _ w3 h13
end
end Lw

namespace Lw
open PySem PySem.Spec L2 Eg
local macro_rules | `(tactic| walk_at "vis") => `(tactic| first | exact Or.inl rfl | exact Or.inr (Or.inl rfl) | exact Or.inr (Or.inr rfl))
local macro_rules | `(tactic| walk_at "loc") => `(tactic| first | exact Or.inl rfl | exact Or.inr rfl)
local macro_rules | `(tactic| walk_at "nm") => `(tactic| first
  | refine Ev.name 0 (by rfl) (by walk_at "vis") (by rfl) ?_
  | refine Ev.name 1 (by rfl) (by walk_at "vis") (by rfl) ?_
  | refine Ev.name 2 (by rfl) (by walk_at "vis") (by rfl) ?_
  | refine Ev.name 3 (by rfl) (by walk_at "vis") (by rfl) ?_
  | refine Ev.name 4 (by rfl) (by walk_at "vis") (by rfl) ?_
  | refine Ev.name 5 (by rfl) (by walk_at "vis") (by rfl) ?_
  | refine Ev.name 6 (by rfl) (by walk_at "vis") (by rfl) ?_
  | refine Ev.name 7 (by rfl) (by walk_at "vis") (by rfl) ?_
  | refine Ev.name 8 (by rfl) (by walk_at "vis") (by rfl) ?_)
local macro_rules | `(tactic| walk_at "st") => `(tactic| first
  | refine St.set 1 (by assumption) (by rfl) (by walk_at "loc") (by walk_at "loc") ?_ rfl
  | refine St.set 2 (by assumption) (by rfl) (by walk_at "loc") (by walk_at "loc") ?_ rfl
  | refine St.set 3 (by assumption) (by rfl) (by walk_at "loc") (by walk_at "loc") ?_ rfl
  | refine St.set 4 (by assumption) (by rfl) (by walk_at "loc") (by walk_at "loc") ?_ rfl
  | refine St.set 5 (by assumption) (by rfl) (by walk_at "loc") (by walk_at "loc") ?_ rfl
  | refine St.set 6 (by assumption) (by rfl) (by walk_at "loc") (by walk_at "loc") ?_ rfl
  | refine St.set 7 (by assumption) (by rfl) (by walk_at "loc") (by walk_at "loc") ?_ rfl
  | refine St.set 8 (by assumption) (by rfl) (by walk_at "loc") (by walk_at "loc") ?_ rfl)
local macro_rules | `(tactic| walk_at "gn") => `(tactic| first
  | refine EvG.name 0 (by assumption) (by rfl) (by walk_at "loc") (by walk_at "loc") ?_
  | refine EvG.name 1 (by assumption) (by rfl) (by walk_at "loc") (by walk_at "loc") ?_
  | refine EvG.name 2 (by assumption) (by rfl) (by walk_at "loc") (by walk_at "loc") ?_
  | refine EvG.name 3 (by assumption) (by rfl) (by walk_at "loc") (by walk_at "loc") ?_
  | refine EvG.name 4 (by assumption) (by rfl) (by walk_at "loc") (by walk_at "loc") ?_
  | refine EvG.name 5 (by assumption) (by rfl) (by walk_at "loc") (by walk_at "loc") ?_
  | refine EvG.name 6 (by assumption) (by rfl) (by walk_at "loc") (by walk_at "loc") ?_
  | refine EvG.name 7 (by assumption) (by rfl) (by walk_at "loc") (by walk_at "loc") ?_
  | refine EvG.name 8 (by assumption) (by rfl) (by walk_at "loc") (by walk_at "loc") ?_)
local macro_rules | `(tactic| walk_at "one") => `(tactic| with_reducible first
  | refine sAdd.mk ?_ | refine sSub.mk ?_ | refine sLt.mk ?_ | refine sLe.mk ?_ | refine sGt.mk ?_ | refine sGe.mk ?_ | refine sEq.int ?_ | refine sNe.int ?_ | refine toT.mk ?_
  | refine Ev.int ?_ | refine Ev.str ?_ | refine Ev.bl ?_ | refine Ev.non ?_
  | refine Ev.sub ?_ | refine Ev.addI ?_ | refine Ev.mul ?_ | refine Ev.mod ?_ | refine Ev.fdiv ?_ | refine Ev.pow ?_ | refine Ev.neg ?_
  | refine Ev.lt ?_ | refine Ev.le ?_ | refine Ev.gt ?_ | refine Ev.ge ?_ | refine Ev.eq ?_ | refine Ev.ne ?_
  | refine Ev.ifE ?_ | refine Ev.tup ?_ | refine EvA.nil ?_ | refine EvA.cons ?_ rfl | refine EvT.not ?_
  | refine EvT.lt ?_ | refine EvT.le ?_ | refine EvT.gt ?_ | refine EvT.ge ?_ | refine EvT.eq ?_ | refine EvT.ne ?_
  | refine EvT.w ?_ | refine EvW.and ?_ | refine EvW.or ?_ | refine EvW.and1 ?_ | refine EvW.or1 ?_
  | refine Sts.cons ?_ | refine Sts.nil ?_ | refine St.ifS ?_ | refine St.ret ?_ | refine St.expr ?_ rfl)
local macro_rules | `(tactic| walk_at "go") => `(tactic| repeat (first | ((with_reducible show Ev _ (.Name _ _) _ _ _); (walk_at "nm")) | walk_at "one" | ((with_reducible show St _ (.Assign [.Name _ _] _ _) _ _ _); (walk_at "st"))))
theorem bls_bel (n : Nat) : ∀ bs : List Bool, DV.belL n (List.map DV.bl bs) = true
  | [] => rfl
  | b :: r => by
    show (true && DV.belL n (List.map DV.bl r)) = true
    rw [bls_bel n r]
    rfl
def C_law : Ctr := fun ds μ R => ∃ ns, ds = [scD ns] ∧ ns.length ≤ 63 ∧ μ = [] ∧ ∀ μ', R (.bl true) μ'
section
variable {P : Program} {w : World} {K : PySem.W.Frag} {mg : Str → Option Value} {base : Heap}
theorem ok_law (T : Fx K mg) (hB : ∃ mm, base.Ns sysModules mm) {fd : FuncData} (F : FunD K dl_law.name dl_law.qual dl_law.params dl_law.body dl_law.scope (dl_law.dvs K) (dl_law.kws K) (He.fAd K dl_law.at_) fd) :
    FnG P w K mg base 9 (He.fAd K dl_law.at_) fd ["_law_script"] (SpD K C_law) := by
  refine FnG.mk2 (N := Nl_law) (ps := ["_law_script"]) F scl_law ?_ ?_
  · rintro ds μ R ⟨ns, rfl, _⟩
    rfl
  rintro cd A outer s H hg hr hnd ds μ R ⟨ns, rfl, hl, rfl, q⟩
  refine Sts.cons (St.ret (Ev.all rfl rfl T.n_all (EvA.cons (Ev.lc 1 rfl hnd rfl (blkOk_by (N := Nl_law) (sc := dl_law.scope) (by decide +kernel)) (fun _ _ _ _ _ => ⟨Or.inl rfl, Or.inr rfl⟩) (EvI.range1 rfl T.n_range (EvA.cons (Ev.max2 rfl rfl T.n_max ?_)))))))
  walk_at "go"
  refine Ev.min2 rfl rfl T.n_min (EvA.cons (Ev.len rfl T.n_len ?_))
  walk_at "go"
  refine ⟨_, _, rfl, rfl, ?_⟩
  walk_at "go"
  rw [List.length_map]
  refine ⟨_, _, rfl, EvA.nil ⟨_, _, rfl, ?_⟩⟩
  have hv : ∃ v : Int, v = (fun i j : Int => if j > i then j else i) 2 ((fun i j : Int => if j < i then j else i) (ns.length : Int) 3) ∧ 0 ≤ v ∧ v ≤ 3 := by
    refine ⟨_, rfl, ?_, ?_⟩ <;> dsimp only <;> split <;> (try split) <;> omega
  obtain ⟨v, hv, v0, v3⟩ := hv
  rw [← hv]
  refine EvA.nil ⟨v, rfl, by omega, by omega, by rw [rgD_len, sizeLine_eq]; omega, fun j acc μ' => acc = List.map DV.bl (List.replicate j true) ∧ μ' = [], ⟨rfl, rfl⟩, ?_, ?_⟩
  · rintro j d acc μ2 hd hl2 ⟨rfl, rfl⟩ s' H' C cl fp
    obtain ⟨hj, hd⟩ := List.getElem?_eq_some_iff.mp hd
    rw [rgD_len] at hj
    have ed : d = .int j := by
      rw [← hd]
      simp [rgD]
    subst ed
    clear hd
    refine Ev.cut (Ev.call (ok_right T hB) hg (hr.mono (by decide)) rfl (EvA.cons (Ev.call (ok_well T) hg (hr.mono (by decide)) rfl ?_) rfl))
    walk_at "go"
    refine ⟨ns, j, rfl, by omega, by omega, hl, fun a b hw => EvA.nil ⟨1, rfl, ⟨⟨a, b, rfl, hw⟩, ?_⟩, ?_⟩⟩
    · show (MO.bel 2 (.lst (List.map DV.bl (List.replicate j true))) && (true && true)) = true
      show (DV.belL 2 (List.map DV.bl (List.replicate j true)) && (true && true)) = true
      rw [bls_bel]
      rfl
    · intro μ' c' w1 h1
      have h2 : μ'.length = 2 := h1.1
      have h0 : μ'[0]? = some (.lst (List.map DV.bl (List.replicate j true))) := h1.2 0 (by decide)
      have e : μ'.take 1 = [MO.lst (List.map DV.bl (List.replicate j true))] := by
        match μ', h2, h0 with
        | [x, y], _, h0 =>
          cases h0
          rfl
      show DV.bel 1 (.bl true) = true ∧ (μ'.take 1).all (MO.bel 1) = true ∧ _
      rw [show ([] ++ [MO.lst (List.map DV.bl (List.replicate j true))] : List MO).length = 1 from rfl, e]
      refine ⟨rfl, ?_, [], rfl, rfl, ?_, rfl⟩
      · show (DV.belL 1 (List.map DV.bl (List.replicate j true)) && true) = true
        rw [bls_bel]
        rfl
      · rw [List.replicate_succ', List.map_append]
        rfl
  · rintro acc μ2 hl2 ⟨rfl, rfl⟩
    rw [rgD_len]
    refine EvA.nil ⟨_, List.replicate v.toNat true, rfl, rfl, (fun _ z => nomatch z), ?_⟩
    have e : (List.replicate v.toNat true).all id = true := by
      rw [List.all_eq_true]
      intro x hx
      exact (List.mem_replicate.mp hx).2
    rw [e]
    exact Or.inl (q _)
end
end Lw

namespace Lw
open PySem PySem.Spec L2 Eg
theorem facts {P : Program} {w : World} {K : PySem.W.Frag} {h : Heap} {mg : Str → Option Value} {f : Addr} (X : K.In h) (G : h.Ns mainGlobals mg) (hfa : mg ("law" : Str) = some (.ref f)) (c : He.SaysX faL fnL [] [] exB w h K) :
    ∃ fd : FuncData, (∀ (s : Shared) (v : Value), BindsTo s fd ⟨[v], []⟩ [("_law_script", v)]) ∧ ∀ base : Heap, K.In base → base.Ns mainGlobals mg → (∃ mm, base.Ns sysModules mm) → FnG P w K mg base 9 f fd ["_law_script"] (SpD K C_law) := by
  have T := fx_of X G c
  obtain ⟨fd, F⟩ := T.d_l_law
  have e := hfa.symm.trans T.g_l_law
  cases e
  have b := FunD.bindsA (ps := ["_law_script"]) F fun _ _ _ _ _ _ us hl => match us, hl with | [_], _ => rfl
  exact ⟨fd, fun s v => b s [v] rfl, fun base _ _ hB => ok_law T hB F⟩
end Lw
open PySem PySem.W PySem.Calls PyProof.Rows
theorem PySem.Challenge.cw_soundlooks_k01_errors_each_of_its_own_holds : PySem.Challenge.rw_soundlooks_k01_errors_each_of_its_own.Holds := by
  w_on; o_law
  refine HandSHeadRun.head_any (r := Lw.R) (q := view Lw.R.prog [Lw.lawAt]) (H := Lw.hk) (ob := Lw.ob) (M := 60000) (loose := Lw.looseL) (d := HandSHeadRun.topDef Lw.R.prog Lw.lawAt) (kwd := []) Lw.ob_eq
    (by kernel_rfl) (fun s => by kernel_rfl) Lw.run (by kernel_rfl) (by kernel_rfl) (by kernel_rfl) (by rfl) (by first | assumption | decide +kernel) (by decide +kernel) ⟨rfl, rfl, rfl, rfl, rfl, by decide +kernel⟩ ?hw ?hc
  case hw => w_witness2
  case hc =>
    refine Eg.walk_S (l := PySem.Challenge.rw_soundlooks_k01_errors_each_of_its_own) (n := 63) (k := 9) (C := Lw.C_law) rfl (by decide) (by kernel_rfl) (by decide +kernel) ⟨rfl, by decide, by decide⟩ ?hC ?F
    case hC =>
      exact fun ns hl _ => ⟨ns, rfl, hl, rfl, fun _ => rfl⟩
    case F =>
      intro w mg fa h Y G hmg0
      obtain ⟨K, KX, c⟩ := Y
      have hmg : mg ("law" : PySem.Str) = some (.ref fa) := by
        have e : (HandSHeadRun.topDef Lw.R.prog Lw.lawAt).name = ("law" : PySem.Str) := by kernel_rfl
        rw [← e]
        exact hmg0
      obtain ⟨fd, hb, hF⟩ := Lw.facts (P := (PySem.Challenge.rw_soundlooks_k01_errors_each_of_its_own).prog) (w := w) KX G hmg c
      exact ⟨K, fd, "_law_script", KX, hb, hF⟩
