import PyProof.Rows.All
import HandS.ForMost
import HandS.Exc
import HandS.ExcInit
import HandS.ExcValue
import HandS.ExcIs
import HandS.IsInst
import HandS.Wide
import HandS.WideBits
import HandS.Defaults
import HandS.MakeKw
import HandS.EndBits
import HandS.HeadHook4
import HandS.HeadEnd
import HandS.Style
import HandS.TupAny
import HandS.Zip
import HandS.Text
import HandS.List
import HandS.ExcOwn
import HandS.ExcField
import HandS.WordsExc
import HandS.StrMore
import HandS.Iter
import HandS.Head2
import KE.KExcIs
import KE.GoesEnumKw
import KE.GoesEnum
import KE.KIsAll
import OpenK.AllK
import PyProof.StrLawsFrom
import PyProof.StrLawsRepr
import Wide.All
import Wide.FinOn
import PySem.Challenge.RW_soundlooks_k07_tokens_by_own_cuts
set_option Elab.async false
set_option linter.all false
set_option maxRecDepth 100000
set_option maxHeartbeats 8000000
namespace Eg
open PySem PySem.Spec L2

/-! ### data -/
/-- a list of the written part -/
def WrL (K : PySem.W.Frag) (a : Addr) (xs : List V) : Prop := SqL K (fun _ => none) a xs
theorem WrL.sq {K : PySem.W.Frag} {H : Hp} {a : Addr} {xs : List V} (h : WrL K a xs) : SqL K H a xs := by
  rcases h with (h | ⟨o, h⟩) | h
  · cases h
  · cases h
  · exact .inr h
inductive DV where
  | non | bl (b : Bool) | int (i : Int) | str (x : Str)
  | tup (xs : List DV) | lst (xs : List DV) | dic (kvs : List (Key × DV))
  | exc (C : Addr) (fs : List (Str × DV))
  | mu (k : Nat)
/-- a mutable object -/
inductive MO where
  | dead | lst (xs : List DV) | dic (kvs : List (Key × DV)) | ins (C : Addr) (fs : List (Str × DV))
structure Wd where
  K : PySem.W.Frag
  α : List Addr
  μ : List MO
  H : Hp
def Wd.lv (w : Wd) (p : Addr) : Prop := ∃ (k : Nat) (o : MO), w.α[k]? = some p ∧ w.μ[k]? = some o ∧ o ≠ MO.dead
mutual
inductive Has (w : Wd) : V → DV → Prop
  | non : Has w .non .non
  | bl {b} : Has w (.bl b) (.bl b)
  | int {i} : Has w (.int i) (.int i)
  | str {x} : Has w (.str x) (.str x)
  | tup {p vs ds} : SqT w.K w.H p vs → HasL w vs ds → Has w (.ref p) (.tup ds)
  | lst {p vs ds} : (¬ w.lv p ∧ Rd w.H p (.lst vs)) ∨ WrL w.K p vs → HasL w vs ds → Has w (.ref p) (.lst ds)
  | dic {p kvs kds} : ¬ w.lv p → w.H p = some (.dK kvs) → HasK w kvs kds → Has w (.ref p) (.dic kds)
  | exc {p C d fs ds} : w.H p = some (exo p C (some d)) → w.H d = some (exd d fs) → HasF w fs ds → Has w (.ref p) (.exc C ds)
  | exc0 {p C} : w.H p = some (ExO (.ref C) p) → Has w (.ref p) (.exc C [])
  | mu {k a} : w.α[k]? = some a → Has w (.ref a) (.mu k)
inductive HasL (w : Wd) : List V → List DV → Prop
  | nil : HasL w [] []
  | cons {v d vs ds} : Has w v d → HasL w vs ds → HasL w (v :: vs) (d :: ds)
inductive HasK (w : Wd) : List (Key × V) → List (Key × DV) → Prop
  | nil : HasK w [] []
  | cons {k v d vs ds} : Has w v d → HasK w vs ds → HasK w ((k, v) :: vs) ((k, d) :: ds)
inductive HasF (w : Wd) : List (Str × V) → List (Str × DV) → Prop
  | nil : HasF w [] []
  | cons {k v d vs ds} : Has w v d → HasF w vs ds → HasF w ((k, v) :: vs) ((k, d) :: ds)
end
def MHas (w : Wd) (a : Addr) : MO → Prop
  | .dead => True
  | .lst ds => ∃ vs, w.H a = some (.lst vs) ∧ HasL w vs ds
  | .dic kds => ∃ kvs, w.H a = some (.dK kvs) ∧ HasK w kvs kds
  | .ins C fds => ∃ dx fs, w.H a = some (.ins C dx fs) ∧ HasF w fs fds
structure Live (w : Wd) : Prop where
  len : w.α.length = w.μ.length
  nd : w.α.Nodup
  tr : ∀ a ∈ w.α, w.H a ≠ none
  ob : ∀ (k : Nat) (a : Addr) (o : MO), w.α[k]? = some a → w.μ[k]? = some o → MHas w a o
abbrev RO := List (Option DV)
structure En (w : Wd) (σ : St) (ρ : RO) : Prop where
  live : Live w
  len : σ.length = ρ.length
  at_ : ∀ (i : Nat) (d : DV), ρ[i]? = some (some d) → ∃ v, σ[i]? = some (some v) ∧ Has w v d
/-- what a change of the world has to keep -/
structure Kp (w w' : Wd) : Prop where
  K : w'.K = w.K
  α : ∀ (k : Nat) (a : Addr), w.α[k]? = some a → w'.α[k]? = some a
  lv : ∀ p, w.H p ≠ none → w'.lv p → w.lv p
  H : ∀ p o, w.H p = some o → ¬ w.lv p → w'.H p = some o
  tu : ∀ p, w.lv p → Mut (w.H p)
  ex : ∀ p φ, w.H p = some (.ext φ) → ¬ w.lv p
mutual
theorem Kp.has {w w' : Wd} (k : Kp w w') : ∀ {v : V} {d : DV}, Has w v d → Has w' v d
  | _, _, .non => .non
  | _, _, .bl => .bl
  | _, _, .int => .int
  | _, _, .str => .str
  | _, _, .tup h t => .tup (by
      have nl : ∀ {p xs}, Rd w.H p (.tup xs) → ¬ w.lv p := fun {p xs} r z => by
        have m := k.tu p z
        rcases r with r | ⟨o, r⟩ <;> (rw [r] at m; exact m)
      rcases h with r | r
      · have n := nl r
        rcases r with r | ⟨o, r⟩
        · exact .inl (.inl (k.H _ _ r n))
        · exact .inl (.inr ⟨o, k.H _ _ r n⟩)
      · exact .inr (by rw [k.K]; exact r)) (Kp.hasL k t)
  | _, _, .lst r t => .lst (by
      rcases r with ⟨n, r⟩ | r
      · refine .inl ⟨fun z => n (k.lv _ (by rcases r with r | ⟨o, r⟩ <;> (rw [r]; exact fun z => nomatch z)) z), ?_⟩
        rcases r with r | ⟨o, r⟩
        · exact .inl (k.H _ _ r n)
        · exact .inr ⟨o, k.H _ _ r n⟩
      · exact .inr (by rw [k.K]; exact r)) (Kp.hasL k t)
  | _, _, .dic n r t => .dic (fun z => n (k.lv _ (by rw [r]; exact fun z => nomatch z) z)) (k.H _ _ r n) (Kp.hasK k t)
  | _, _, .exc h1 h2 t => .exc (k.H _ _ h1 (k.ex _ _ h1)) (k.H _ _ h2 (k.ex _ _ h2)) (Kp.hasF k t)
  | _, _, .exc0 h1 => .exc0 (k.H _ _ h1 (k.ex _ _ h1))
  | _, _, .mu h => .mu (k.α _ _ h)
theorem Kp.hasL {w w' : Wd} (k : Kp w w') : ∀ {vs : List V} {ds : List DV}, HasL w vs ds → HasL w' vs ds
  | _, _, .nil => .nil
  | _, _, .cons h t => .cons (Kp.has k h) (Kp.hasL k t)
theorem Kp.hasK {w w' : Wd} (k : Kp w w') : ∀ {vs : List (Key × V)} {ds : List (Key × DV)}, HasK w vs ds → HasK w' vs ds
  | _, _, .nil => .nil
  | _, _, .cons h t => .cons (Kp.has k h) (Kp.hasK k t)
theorem Kp.hasF {w w' : Wd} (k : Kp w w') : ∀ {vs : List (Str × V)} {ds : List (Str × DV)}, HasF w vs ds → HasF w' vs ds
  | _, _, .nil => .nil
  | _, _, .cons h t => .cons (Kp.has k h) (Kp.hasF k t)
end
theorem En.ext {w w' : Wd} {σ : L2.St} {ρ : RO} (E : En w σ ρ) (e : Kp w w') (l : Live w') : En w' σ ρ :=
  ⟨l, E.len, fun i d h => let ⟨v, h1, h2⟩ := E.at_ i d h; ⟨v, h1, e.has h2⟩⟩
theorem Kp.trans {a b c : Wd} (h : Kp a b) (k : Kp b c) : Kp a c where
  K := k.K.trans h.K
  α := fun i x e => k.α i x (h.α i x e)
  lv := fun p n z => by
    by_cases q : a.lv p
    · exact q
    · cases e : a.H p with
      | none => exact absurd e n
      | some o => exact h.lv p n (k.lv p (by rw [h.H p o e q]; exact fun z => nomatch z) z)
  H := fun p o e n => k.H p o (h.H p o e n) fun z => n (h.lv p (by rw [e]; exact fun z => nomatch z) z)
  tu := h.tu
  ex := h.ex
/-- a live object is one that may be changed -/
theorem Live.mut {w : Wd} (l : Live w) {p : Addr} (h : w.lv p) : (∃ xs, w.H p = some (.lst xs)) ∨ (∃ xs, w.H p = some (.dK xs)) ∨ ∃ C dx fs, w.H p = some (.ins C dx fs) := by
  obtain ⟨k, o, h1, h2, h3⟩ := h
  have q := l.ob k p o h1 h2
  cases o with
  | dead => exact absurd rfl h3
  | lst ds => obtain ⟨vs, e, _⟩ := q; exact .inl ⟨vs, e⟩
  | dic ds => obtain ⟨vs, e, _⟩ := q; exact .inr (.inl ⟨vs, e⟩)
  | ins C fs => obtain ⟨dx, vs, e, _⟩ := q; exact .inr (.inr ⟨C, dx, vs, e⟩)
theorem Kp.of {w w' : Wd} (l : Live w) (K : w'.K = w.K) (α : ∀ (k : Nat) (a : Addr), w.α[k]? = some a → w'.α[k]? = some a) (lv : ∀ p, w.H p ≠ none → w'.lv p → w.lv p)
    (H : ∀ p o, w.H p = some o → ¬ w.lv p → w'.H p = some o) : Kp w w' where
  K := K
  α := α
  lv := lv
  H := H
  tu := fun p z => by
    rcases l.mut z with ⟨xs, e⟩ | ⟨xs, e⟩ | ⟨C, dx, fs, e⟩ <;> (rw [e]; exact True.intro)
  ex := fun p φ e z => by
    rcases l.mut z with ⟨xs, q⟩ | ⟨xs, q⟩ | ⟨C, dx, fs, q⟩ <;> (rw [e] at q; cases q)
theorem Live.refl {w : Wd} (l : Live w) : Kp w w := Kp.of l rfl (fun _ _ e => e) (fun _ _ e => e) fun _ _ e _ => e
theorem Live.fresh {w : Wd} (l : Live w) {p : Addr} (n : w.H p = none) : ¬ w.lv p := fun z => by
  rcases l.mut z with ⟨xs, e⟩ | ⟨xs, e⟩ | ⟨C, dx, fs, e⟩ <;> (rw [n] at e; cases e)
theorem Live.nin {w : Wd} (l : Live w) {p : Addr} (n : w.H p = none) : p ∉ w.α := fun z => l.tr p z n
/-- the k-th objects' accounts behind a change that leaves the live ones -/
theorem MHas.ext {w w' : Wd} (e : Kp w w') {a : Addr} : ∀ {o : MO}, (o ≠ MO.dead → w'.H a = w.H a) → MHas w a o → MHas w' a o
  | .dead, _, _ => True.intro
  | .lst _, q, ⟨vs, h1, h2⟩ => ⟨vs, (q (fun z => nomatch z)).trans h1, e.hasL h2⟩
  | .dic _, q, ⟨vs, h1, h2⟩ => ⟨vs, (q (fun z => nomatch z)).trans h1, e.hasK h2⟩
  | .ins _ _, q, ⟨dx, vs, h1, h2⟩ => ⟨dx, vs, (q (fun z => nomatch z)).trans h1, e.hasF h2⟩
section
variable {K : PySem.W.Frag} {α : List Addr} {μ : List MO} {H : Hp} {p : Addr} {o : HO}
/-- a new object is laid that nobody may change -/
theorem Live.lay (l : Live ⟨K, α, μ, H⟩) (n : H p = none) : Kp ⟨K, α, μ, H⟩ ⟨K, α, μ, upd H p o⟩ ∧ Live ⟨K, α, μ, upd H p o⟩ := by
  have k : Kp ⟨K, α, μ, H⟩ ⟨K, α, μ, upd H p o⟩ := Kp.of l rfl (fun _ _ e => e) (fun _ _ e => e) fun q u e _ => by
    show upd H p o q = some u
    rw [upd_ne (ne_of_none e n)]
    exact e
  refine ⟨k, l.len, l.nd, fun a ha z => ?_, fun i a m h1 h2 => MHas.ext k (fun hm => ?_) (l.ob i a m h1 h2)⟩
  · have z' : upd H p o a = none := z
    by_cases e : a = p
    · rw [e, upd_same] at z'
      cases z'
    · rw [upd_ne e] at z'
      exact l.tr a ha z'
  · show upd H p o a = H a
    refine upd_ne fun e => l.fresh (p := p) n ?_
    rw [← e]
    exact ⟨i, m, h1, h2, hm⟩
/-- a new object is laid that may be changed -/
theorem Live.layM {m : MO} (l : Live ⟨K, α, μ, H⟩) (n : H p = none) (hm : Live ⟨K, α, μ, upd H p o⟩ → Kp ⟨K, α, μ, H⟩ ⟨K, α ++ [p], μ ++ [m], upd H p o⟩ → MHas ⟨K, α ++ [p], μ ++ [m], upd H p o⟩ p m) :
    Kp ⟨K, α, μ, H⟩ ⟨K, α ++ [p], μ ++ [m], upd H p o⟩ ∧ Live ⟨K, α ++ [p], μ ++ [m], upd H p o⟩ ∧ (α ++ [p])[μ.length]? = some p := by
  obtain ⟨_, l1⟩ := l.lay (o := o) n
  have hl : α.length = μ.length := l.len
  have np : p ∉ α := l.nin n
  have cases_ : ∀ {i : Nat} {a : Addr} {u : MO}, (α ++ [p])[i]? = some a → (μ ++ [m])[i]? = some u → (α[i]? = some a ∧ μ[i]? = some u) ∨ (a = p ∧ u = m) := fun {i a u} h1 h2 => by
    by_cases hi : i < α.length
    · rw [List.getElem?_append_left hi] at h1
      rw [List.getElem?_append_left (by omega)] at h2
      exact .inl ⟨h1, h2⟩
    · rw [List.getElem?_append_right (by omega)] at h1
      rw [List.getElem?_append_right (by omega)] at h2
      have hi1 : i - α.length = 0 := by
        cases e : i - α.length with
        | zero => rfl
        | succ j =>
          rw [e] at h1
          simp at h1
      have hi2 : i - μ.length = 0 := by omega
      rw [hi1] at h1
      rw [hi2] at h2
      simp at h1 h2
      exact .inr ⟨h1.symm, h2.symm⟩
  have k : Kp ⟨K, α, μ, H⟩ ⟨K, α ++ [p], μ ++ [m], upd H p o⟩ := Kp.of l rfl (fun i a e => by
      have e' : α[i]? = some a := e
      show (α ++ [p])[i]? = some a
      rw [List.getElem?_append_left (List.getElem?_eq_some_iff.mp e').1]
      exact e') (fun q nq ⟨i, u, h1, h2, h3⟩ => by
      rcases cases_ h1 h2 with ⟨q1, q2⟩ | ⟨q1, _⟩
      · exact ⟨i, u, q1, q2, h3⟩
      · exact absurd (show H q = none by rw [q1]; exact n) nq) fun q u e _ => by
    show upd H p o q = some u
    rw [upd_ne (ne_of_none e n)]
    exact e
  refine ⟨k, ⟨?_, ?_, ?_, ?_⟩, ?_⟩
  · show (α ++ [p]).length = (μ ++ [m]).length
    simp [hl]
  · show (α ++ [p]).Nodup
    refine List.nodup_append.mpr ⟨l.nd, by simp, ?_⟩
    intro a ha b hb
    rw [List.mem_singleton] at hb
    rw [hb]
    exact fun e => np (e ▸ ha)
  · intro a ha
    have ha' : a ∈ α ++ [p] := ha
    rcases List.mem_append.mp ha' with h | h
    · exact l1.tr a h
    · rw [List.mem_singleton] at h
      rw [h]
      show upd H p o p ≠ none
      rw [upd_same]
      exact fun z => nomatch z
  · intro i a u h1 h2
    rcases cases_ h1 h2 with ⟨q1, q2⟩ | ⟨q1, q2⟩
    · refine MHas.ext k (fun hu => ?_) (l.ob i a u q1 q2)
      show upd H p o a = H a
      exact upd_ne fun e => l.fresh (p := p) n (by rw [← e]; exact ⟨i, u, q1, q2, hu⟩)
    · rw [q1, q2]
      exact hm l1 k
  · rw [← hl]
    simp
/-- new objects are laid that nobody may change -/
theorem Live.lays {H' : Hp} (l : Live ⟨K, α, μ, H⟩) (h : ∀ p, H p ≠ none → H' p = H p) : Kp ⟨K, α, μ, H⟩ ⟨K, α, μ, H'⟩ ∧ Live ⟨K, α, μ, H'⟩ := by
  have k : Kp ⟨K, α, μ, H⟩ ⟨K, α, μ, H'⟩ := Kp.of l rfl (fun _ _ e => e) (fun _ _ e => e) fun q u e _ => (h q (by
    have e' : H q = some u := e
    rw [e']
    exact fun z => nomatch z)).trans e
  refine ⟨k, l.len, l.nd, fun a ha z => l.tr a ha ((h a (l.tr a ha)).symm.trans z), fun i a m h1 h2 => MHas.ext k (fun _ => ?_) (l.ob i a m h1 h2)⟩
  exact h a (l.tr a (List.mem_of_getElem? h1))
/-- the k-th object is changed -/
theorem Live.put {k : Nat} {a : Addr} {m0 m : MO} (l : Live ⟨K, α, μ, H⟩) (ha : α[k]? = some a) (hm0 : μ[k]? = some m0) (h0 : m0 ≠ MO.dead)
    (hm : Kp ⟨K, α, μ, H⟩ ⟨K, α, μ.set k m, upd H a o⟩ → MHas ⟨K, α, μ.set k m, upd H a o⟩ a m) : Kp ⟨K, α, μ, H⟩ ⟨K, α, μ.set k m, upd H a o⟩ ∧ Live ⟨K, α, μ.set k m, upd H a o⟩ := by
  have la : Wd.lv ⟨K, α, μ, H⟩ a := ⟨k, m0, ha, hm0, h0⟩
  have hk : k < μ.length := (List.getElem?_eq_some_iff.mp hm0).1
  have same : ∀ {i : Nat}, α[i]? = some a → i = k := fun {i} e => nd_ix l.nd e ha
  have kp : Kp ⟨K, α, μ, H⟩ ⟨K, α, μ.set k m, upd H a o⟩ := Kp.of l rfl (fun _ _ e => e) (fun q _ ⟨i, u, h1, h2, h3⟩ => by
      by_cases e : i = k
      · subst e
        have h1' : α[i]? = some q := h1
        rw [ha] at h1'
        cases h1'
        exact la
      · exact ⟨i, u, h1, by rw [← h2]; exact (List.getElem?_set_ne (Ne.symm e)).symm, h3⟩) fun q u e nl => by
    show upd H a o q = some u
    rw [upd_ne (fun z : q = a => nl (by rw [z]; exact la))]
    exact e
  refine ⟨kp, ⟨?_, l.nd, ?_, ?_⟩⟩
  · show α.length = (μ.set k m).length
    rw [List.length_set]
    exact l.len
  · intro b hb z
    have z' : upd H a o b = none := z
    by_cases e : b = a
    · rw [e, upd_same] at z'
      cases z'
    · rw [upd_ne e] at z'
      exact l.tr b hb z'
  · intro i b u h1 h2
    have h2' : (μ.set k m)[i]? = some u := h2
    have h1' : α[i]? = some b := h1
    by_cases e : i = k
    · subst e
      rw [List.getElem?_set_self hk] at h2'
      cases h2'
      rw [ha] at h1'
      cases h1'
      exact hm kp
    · rw [List.getElem?_set_ne (Ne.symm e)] at h2'
      refine MHas.ext kp (fun _ => ?_) (l.ob i b u h1 h2')
      show upd H a o b = H b
      exact upd_ne fun z : b = a => e (same (by rw [← z]; exact h1'))
/-- nobody will change the k-th object any more -/
theorem Live.freeze {k : Nat} (l : Live ⟨K, α, μ, H⟩) : Kp ⟨K, α, μ, H⟩ ⟨K, α, μ.set k MO.dead, H⟩ ∧ Live ⟨K, α, μ.set k MO.dead, H⟩ ∧ ∀ a, α[k]? = some a → ¬ Wd.lv ⟨K, α, μ.set k MO.dead, H⟩ a := by
  have at_ : ∀ {i : Nat} {u : MO}, (μ.set k MO.dead)[i]? = some u → u = MO.dead ∨ (i ≠ k ∧ μ[i]? = some u) := fun {i u} h => by
    by_cases e : i = k
    · subst e
      by_cases hi : i < μ.length
      · rw [List.getElem?_set_self hi] at h
        exact .inl (Option.some.inj h).symm
      · rw [List.getElem?_eq_none_iff.mpr (by rw [List.length_set]; omega)] at h
        cases h
    · rw [List.getElem?_set_ne (Ne.symm e)] at h
      exact .inr ⟨e, h⟩
  have kp : Kp ⟨K, α, μ, H⟩ ⟨K, α, μ.set k MO.dead, H⟩ := Kp.of l rfl (fun _ _ e => e) (fun q _ ⟨i, u, h1, h2, h3⟩ => by
      rcases at_ h2 with z | ⟨_, z⟩
      · exact absurd z h3
      · exact ⟨i, u, h1, z, h3⟩) fun q u e nl => e
  refine ⟨kp, ⟨?_, l.nd, l.tr, ?_⟩, ?_⟩
  · show α.length = (μ.set k MO.dead).length
    rw [List.length_set]
    exact l.len
  · intro i b u h1 h2
    rcases at_ h2 with z | ⟨_, z⟩
    · rw [z]
      exact True.intro
    · exact MHas.ext kp (fun _ => rfl) (l.ob i b u h1 z)
  · rintro a ha ⟨i, u, h1, h2, h3⟩
    rcases at_ h2 with z | ⟨ne, _⟩
    · exact h3 z
    · exact ne (nd_ix l.nd h1 ha)
end
mutual
/-- its mutable objects are among the first n -/
def DV.bel (n : Nat) : DV → Bool
  | .tup xs => DV.belL n xs
  | .lst xs => DV.belL n xs
  | .dic kvs => DV.belK n kvs
  | .exc _ fs => DV.belF n fs
  | .mu k => decide (k < n)
  | _ => true
def DV.belL (n : Nat) : List DV → Bool
  | [] => true
  | x :: r => DV.bel n x && DV.belL n r
def DV.belK (n : Nat) : List (Key × DV) → Bool
  | [] => true
  | (_, x) :: r => DV.bel n x && DV.belK n r
def DV.belF (n : Nat) : List (Str × DV) → Bool
  | [] => true
  | (_, x) :: r => DV.bel n x && DV.belF n r
end
def MO.bel (n : Nat) : MO → Bool
  | .dead => true
  | .lst xs => DV.belL n xs
  | .dic kvs => DV.belK n kvs
  | .ins _ fs => DV.belF n fs
section
variable {w w' : Wd} {n : Nat}
mutual
theorem Has.move (K : w'.K = w.K) (H : w'.H = w.H) (lv : ∀ p, w'.lv p → w.lv p) (α : ∀ (k : Nat) (a : Addr), k < n → w.α[k]? = some a → w'.α[k]? = some a) : ∀ {v : V} {d : DV}, Has w v d → DV.bel n d = true → Has w' v d
  | _, _, .non, _ => .non
  | _, _, .bl, _ => .bl
  | _, _, .int, _ => .int
  | _, _, .str, _ => .str
  | _, _, .tup h t, p => .tup (by rw [K, H]; exact h) (HasL.move K H lv α t p)
  | _, _, .lst r t, p => .lst (by
      rcases r with ⟨n, r⟩ | r
      · exact .inl ⟨fun z => n (lv _ z), by rw [H]; exact r⟩
      · exact .inr (by rw [K]; exact r)) (HasL.move K H lv α t p)
  | _, _, .dic n r t, p => .dic (fun z => n (lv _ z)) (by rw [H]; exact r) (HasK.move K H lv α t p)
  | _, _, .exc h1 h2 t, p => .exc (by rw [H]; exact h1) (by rw [H]; exact h2) (HasF.move K H lv α t p)
  | _, _, .exc0 h1, _ => .exc0 (by rw [H]; exact h1)
  | _, _, .mu h, p => .mu (α _ _ (of_decide_eq_true p) h)
theorem HasL.move (K : w'.K = w.K) (H : w'.H = w.H) (lv : ∀ p, w'.lv p → w.lv p) (α : ∀ (k : Nat) (a : Addr), k < n → w.α[k]? = some a → w'.α[k]? = some a) : ∀ {vs : List V} {ds : List DV}, HasL w vs ds → DV.belL n ds = true → HasL w' vs ds
  | _, _, .nil, _ => .nil
  | _, _, .cons h t, p => .cons (Has.move K H lv α h (Bool.and_eq_true_iff.mp p).1) (HasL.move K H lv α t (Bool.and_eq_true_iff.mp p).2)
theorem HasK.move (K : w'.K = w.K) (H : w'.H = w.H) (lv : ∀ p, w'.lv p → w.lv p) (α : ∀ (k : Nat) (a : Addr), k < n → w.α[k]? = some a → w'.α[k]? = some a) : ∀ {vs : List (Key × V)} {ds : List (Key × DV)}, HasK w vs ds → DV.belK n ds = true → HasK w' vs ds
  | _, _, .nil, _ => .nil
  | _, _, .cons h t, p => .cons (Has.move K H lv α h (Bool.and_eq_true_iff.mp p).1) (HasK.move K H lv α t (Bool.and_eq_true_iff.mp p).2)
theorem HasF.move (K : w'.K = w.K) (H : w'.H = w.H) (lv : ∀ p, w'.lv p → w.lv p) (α : ∀ (k : Nat) (a : Addr), k < n → w.α[k]? = some a → w'.α[k]? = some a) : ∀ {vs : List (Str × V)} {ds : List (Str × DV)}, HasF w vs ds → DV.belF n ds = true → HasF w' vs ds
  | _, _, .nil, _ => .nil
  | _, _, .cons h t, p => .cons (Has.move K H lv α h (Bool.and_eq_true_iff.mp p).1) (HasF.move K H lv α t (Bool.and_eq_true_iff.mp p).2)
end
end
/-- what was made beside is forgotten -/
def Wd.cut (w : Wd) (n : Nat) : Wd := ⟨w.K, w.α.take n, w.μ.take n, w.H⟩
theorem cut_lv {w : Wd} {n : Nat} {p : Addr} (h : (w.cut n).lv p) : w.lv p := by
  obtain ⟨i, u, h1, h2, h3⟩ := h
  have h1' : (w.α.take n)[i]? = some p := h1
  have h2' : (w.μ.take n)[i]? = some u := h2
  rw [List.getElem?_take] at h1' h2'
  split at h1'
  · rename_i hi
    rw [if_pos hi] at h2'
    exact ⟨i, u, h1', h2', h3⟩
  · cases h1'
theorem Live.cut {w w' : Wd} (l : Live w) (l' : Live w') (k : Kp w w') : Kp w (w'.cut w.μ.length) := Kp.of l k.K (fun i a e => by
    show (w'.α.take w.μ.length)[i]? = some a
    have hi : i < w.μ.length := by
      rw [← l.len]
      exact (List.getElem?_eq_some_iff.mp e).1
    rw [List.getElem?_take, if_pos hi]
    exact k.α i a e) (fun p n z => k.lv p n (cut_lv z)) k.H
theorem cut_α {w : Wd} {n : Nat} (k : Nat) (a : Addr) (h : k < n) (e : w.α[k]? = some a) : (w.cut n).α[k]? = some a := by
  show (w.α.take n)[k]? = some a
  rw [List.getElem?_take, if_pos h]
  exact e
theorem Live.cutL {w : Wd} (l : Live w) (n : Nat) (p : (w.μ.take n).all (MO.bel n) = true) : Live (w.cut n) where
  len := by
    show (w.α.take n).length = (w.μ.take n).length
    rw [List.length_take, List.length_take, l.len]
  nd := l.nd.sublist (List.take_sublist _ _)
  tr := fun a h => l.tr a (List.mem_of_mem_take h)
  ob := fun i a u h1 h2 => by
    have h1' : (w.α.take n)[i]? = some a := h1
    have h2' : (w.μ.take n)[i]? = some u := h2
    have pu : MO.bel n u = true := List.all_eq_true.mp p u (List.mem_of_getElem? h2')
    rw [List.getElem?_take] at h1' h2'
    split at h1'
    · rename_i hi
      rw [if_pos hi] at h2'
      have q := l.ob i a u h1' h2'
      cases u with
      | dead => exact True.intro
      | lst ds =>
        obtain ⟨vs, e, t⟩ := q
        exact ⟨vs, e, HasL.move (w := w) (w' := w.cut n) (n := n) rfl rfl (fun _ z => cut_lv z) cut_α t pu⟩
      | dic ds =>
        obtain ⟨vs, e, t⟩ := q
        exact ⟨vs, e, HasK.move (w := w) (w' := w.cut n) (n := n) rfl rfl (fun _ z => cut_lv z) cut_α t pu⟩
      | ins C ds =>
        obtain ⟨dx, vs, e, t⟩ := q
        exact ⟨dx, vs, e, HasF.move (w := w) (w' := w.cut n) (n := n) rfl rfl (fun _ z => cut_lv z) cut_α t pu⟩
    · cases h1'
theorem Has.cut {w : Wd} {n : Nat} {v : V} {d : DV} (h : Has w v d) (p : DV.bel n d = true) : Has (w.cut n) v d := Has.move (w := w) (w' := w.cut n) (n := n) rfl rfl (fun _ z => cut_lv z) cut_α h p
end Eg

namespace Eg
open PySem PySem.Spec L2
abbrev Cn := DV → List MO → Prop
abbrev Ct := Bool → List MO → Prop
abbrev Ca := List DV → List MO → Prop
section
variable {X : Cx}
def tEv (X : Cx) (ρ : RO) (μ : List MO) (R : Cn) : TE := fun σ H Q => ∃ α, En ⟨X.K, α, μ, H⟩ σ ρ ∧
  ∀ v d α' μ' H', R d μ' → En ⟨X.K, α', μ', H'⟩ σ ρ → Kp ⟨X.K, α, μ, H⟩ ⟨X.K, α', μ', H'⟩ → Has ⟨X.K, α', μ', H'⟩ v d → Q v H'
def tEvT (X : Cx) (ρ : RO) (μ : List MO) (R : Ct) : TT := fun σ H Q => ∃ α, En ⟨X.K, α, μ, H⟩ σ ρ ∧
  ∀ b α' μ' H', R b μ' → En ⟨X.K, α', μ', H'⟩ σ ρ → Kp ⟨X.K, α, μ, H⟩ ⟨X.K, α', μ', H'⟩ → Q b H'
def tEvA (X : Cx) (ρ : RO) (μ : List MO) (R : Ca) : TA := fun σ H Q => ∃ α, En ⟨X.K, α, μ, H⟩ σ ρ ∧
  ∀ vs ds α' μ' H', R ds μ' → En ⟨X.K, α', μ', H'⟩ σ ρ → Kp ⟨X.K, α, μ, H⟩ ⟨X.K, α', μ', H'⟩ → HasL ⟨X.K, α', μ', H'⟩ vs ds → Q vs H'
/-- the expression, over the slots ρ and the objects μ, comes to what R lets -/
def Ev (X : Cx) (e : Expr) (ρ : RO) (μ : List MO) (R : Cn) : Prop := PE X e (tEv X ρ μ R)
def EvT (X : Cx) (e : Expr) (ρ : RO) (μ : List MO) (R : Ct) : Prop := PT X e (tEvT X ρ μ R)
def EvW (X : Cx) (e : Expr) (ρ : RO) (μ : List MO) (R : Ct) : Prop := PW X e (tEvT X ρ μ R)
def EvA (X : Cx) (es : List Expr) (ρ : RO) (μ : List MO) (R : Ca) : Prop := PA X es (tEvA X ρ μ R)

def aE (X : Cx) (e : Expr) : TE := fun σ H Q => ∃ t, PE X e t ∧ t σ H Q
def aT (X : Cx) (e : Expr) : TT := fun σ H Q => ∃ t, PT X e t ∧ t σ H Q
def aW (X : Cx) (e : Expr) : TT := fun σ H Q => ∃ t, PW X e t ∧ t σ H Q
def aA (X : Cx) (e : List Expr) : TA := fun σ H Q => ∃ t, PA X e t ∧ t σ H Q
theorem pe_a {e : Expr} : PE X e (aE X e) := ⟨fun pins s σ H Q I ⟨_, h, q⟩ => h.run pins s σ H Q I q⟩
theorem pt_a {e : Expr} : PT X e (aT X e) := ⟨fun pins s σ H Q I ⟨_, h, q⟩ => h.run pins s σ H Q I q⟩
theorem pw_a {e : Expr} : PW X e (aW X e) := ⟨fun wh pins s σ H Q I ⟨_, h, q⟩ => h.run wh pins s σ H Q I q⟩
theorem pa_a {e : List Expr} : PA X e (aA X e) := ⟨fun pos pins s σ H Q I ⟨_, h, q⟩ => h.run pos pins s σ H Q I q⟩
theorem PEw {e : Expr} {t t' : TE} (h : PE X e t) (k : ∀ σ H Q, t' σ H Q → t σ H Q) : PE X e t' := ⟨fun pins s σ H Q I q => h.run pins s σ H Q I (k σ H Q q)⟩
theorem PTw {e : Expr} {t t' : TT} (h : PT X e t) (k : ∀ σ H Q, t' σ H Q → t σ H Q) : PT X e t' := ⟨fun pins s σ H Q I q => h.run pins s σ H Q I (k σ H Q q)⟩
theorem PWw {e : Expr} {t t' : TT} (h : PW X e t) (k : ∀ σ H Q, t' σ H Q → t σ H Q) : PW X e t' := ⟨fun wh pins s σ H Q I q => h.run wh pins s σ H Q I (k σ H Q q)⟩
theorem PAw {e : List Expr} {t t' : TA} (h : PA X e t) (k : ∀ σ H Q, t' σ H Q → t σ H Q) : PA X e t' := ⟨fun pos pins s σ H Q I q => h.run pos pins s σ H Q I (k σ H Q q)⟩
section
variable {e a b c : Expr} {es : List Expr} {ρ : RO} {μ : List MO} {pos : Pos}
theorem Ev.mono {R R' : Cn} (h : Ev X e ρ μ R) (k : ∀ d μ', R d μ' → R' d μ') : Ev X e ρ μ R' :=
  PEw h fun σ H Q ⟨α, E, q⟩ => ⟨α, E, fun v d α' μ' H' r => q v d α' μ' H' (k _ _ r)⟩
theorem EvT.mono {R R' : Ct} (h : EvT X e ρ μ R) (k : ∀ d μ', R d μ' → R' d μ') : EvT X e ρ μ R' :=
  PTw h fun σ H Q ⟨α, E, q⟩ => ⟨α, E, fun v α' μ' H' r => q v α' μ' H' (k _ _ r)⟩
/-- an expression that leaves all as it is -/
theorem Ev.still {R : Cn} {v : V} {d : DV} (h : PE X e (tC v)) (hv : ∀ w, Has w v d) (hR : R d μ) : Ev X e ρ μ R :=
  PEw h fun σ H Q ⟨α, E, q⟩ => q v d α μ H hR E E.live.refl (hv _)
theorem Ev.name {R : Cn} (i : Nat) {x : Str} {d : DV} (hN : X.N[i]? = some x) (hv : Vis X.env.scope x) (hr : ρ[i]? = some (some d)) (hR : R d μ) (hd : (x == ("__debug__" : Str)) = false := by decide) (hcd : (x == ("__classdict__" : Str)) = false := by decide) :
    Ev X (.Name x pos) ρ μ R := PEw (pe_var hN hv hd hcd) fun σ H Q ⟨α, E, q⟩ => by
  obtain ⟨v, h1, h2⟩ := E.at_ i d hr
  exact ⟨v, h1, q v d α μ H hR E E.live.refl h2⟩
theorem Ev.int {R : Cn} {i : Int} {j} (hR : R (.int i) μ) : Ev X (.Constant (.int i) j pos) ρ μ R := .still pe_int (fun _ => .int) hR
theorem Ev.bl {R : Cn} {i : Bool} {j} (hR : R (.bl i) μ) : Ev X (.Constant (.bool i) j pos) ρ μ R := .still pe_bl (fun _ => .bl) hR
theorem Ev.non {R : Cn} {j} (hR : R .non μ) : Ev X (.Constant .none j pos) ρ μ R := .still pe_non (fun _ => .non) hR
theorem Ev.str {R : Cn} {x : Str} {j} (hR : R (.str x) μ) : Ev X (.Constant (.str x) j pos) ρ μ R := .still pe_str (fun _ => .str) hR
/-- a module's constant -/
theorem Ev.glob {R : Cn} {x : Str} {v : V} {u : Value} {d : DV} (hg : Gl X x) (hm : X.mg x = some u) (r : RelV v u) (hv : ∀ α μ H, Has ⟨X.K, α, μ, H⟩ v d) (hR : R d μ) (hd : (x == ("__debug__" : Str)) = false := by decide) : Ev X (.Name x pos) ρ μ R :=
  PEw (pe_glob hg hm r hd) fun σ H Q ⟨α, E, q⟩ => q v d α μ H hR E E.live.refl (hv _ _ _)

/-! ### two places -/
abbrev S2 := DV → DV → List MO → Cn → Prop
def Stp (X : Cx) (ρ : RO) (w : Wd) (σ : L2.St) (R : Cn) (Q : VK) : Prop := ∀ v d α' μ' H', R d μ' → En ⟨X.K, α', μ', H'⟩ σ ρ → Kp w ⟨X.K, α', μ', H'⟩ → Has ⟨X.K, α', μ', H'⟩ v d → Q v H'
def R2S (X : Cx) (r : R2) (S : S2) : Prop := ∀ (α : List Addr) (μ : List MO) (H : Hp) (σ : L2.St) (ρ : RO) (x y : V) (da db : DV) (R : Cn) (Q : VK), En ⟨X.K, α, μ, H⟩ σ ρ → Has ⟨X.K, α, μ, H⟩ x da → Has ⟨X.K, α, μ, H⟩ y db → S da db μ R → Stp X ρ ⟨X.K, α, μ, H⟩ σ R Q → r x y H Q
theorem tOp_S {r : R2} {S : S2} {R : Cn} (k : R2S X r S) (h : Ev X a ρ μ fun da μ1 => Ev X b ρ μ1 fun db μ2 => S da db μ2 R) (σ : L2.St) (H : Hp) (Q : VK) (q : tEv X ρ μ R σ H Q) : tOp r (aE X a) (aE X b) σ H Q := by
  obtain ⟨α, E, q⟩ := q
  exact ⟨_, h, α, E, fun x da α1 μ1 H1 h1 E1 X1 hx => ⟨_, h1, α1, E1, fun y db α2 μ2 H2 h2 E2 X2 hy =>
    k α2 μ2 H2 σ ρ x y da db R Q E2 (X2.has hx) hy h2 fun v d α' μ' H' r' E' X' hv => q v d α' μ' H' r' E' (X1.trans (X2.trans X')) hv⟩⟩
theorem Ev.op {op : Operator} {R : Cn} {r : R2} {S : S2} (hr : OpR X (binaryOp op) r) (k : R2S X r S) (h : Ev X a ρ μ fun da μ1 => Ev X b ρ μ1 fun db μ2 => S da db μ2 R) : Ev X (.BinOp a op b pos) ρ μ R :=
  PEw (pe_op hr pe_a pe_a) (tOp_S k h)
theorem Ev.cmp {op : CmpOp} {R : Cn} {r : R2} {S : S2} (hr : OpR X (compareOp op) r) (k : R2S X r S) (hm : behindInMarks op b = false) (h : Ev X a ρ μ fun da μ1 => Ev X b ρ μ1 fun db μ2 => S da db μ2 R) : Ev X (.Compare a [op] [b] pos) ρ μ R :=
  PEw (pe_cmpR hr pe_a pe_a hm) (tOp_S k h)
theorem Ev.ix {R : Cn} {r : R2} {S : S2} (hr : IxR X r) (k : R2S X r S) (hs : PlainIx b) (h : Ev X a ρ μ fun da μ1 => Ev X b ρ μ1 fun db μ2 => S da db μ2 R) : Ev X (.Subscript a b pos) ρ μ R :=
  PEw (pe_ix hr pe_a pe_a hs) (tOp_S k h)
/-! ### the steps -/
theorem Stp.sc {α : List Addr} {H : Hp} {σ : L2.St} {R : Cn} {Q : VK} (E : En ⟨X.K, α, μ, H⟩ σ ρ) (q : Stp X ρ ⟨X.K, α, μ, H⟩ σ R Q) {v : V} {d : DV} (hR : R d μ) (hv : Has ⟨X.K, α, μ, H⟩ v d) : Q v H := q v d α μ H hR E E.live.refl hv
def sI (C : Int → Int → Prop) (g : Int → Int → DV) : S2 := fun x y μ R => ∃ i j, x = .int i ∧ y = .int j ∧ C i j ∧ R (g i j) μ
def sI0 (g : Int → Int → DV) : S2 := fun x y μ R => ∃ i j, x = .int i ∧ y = .int j ∧ R (g i j) μ
theorem rI_S {C : Int → Int → Prop} {g : Int → Int → V} {g' : Int → Int → DV} (hg : ∀ w i j, Has w (g i j) (g' i j)) : R2S X (rI C g) (sI C g') := fun α μ H σ ρ x y da db R Q E hx hy h q => by
  obtain ⟨i, j, rfl, rfl, c, hR⟩ := h
  cases hx
  cases hy
  exact ⟨i, j, rfl, rfl, c, q.sc E hR (hg _ _ _)⟩
theorem rI0_S {g : Int → Int → V} {g' : Int → Int → DV} (hg : ∀ w i j, Has w (g i j) (g' i j)) : R2S X (rI0 g) (sI0 g') := fun α μ H σ ρ x y da db R Q E hx hy h q => by
  obtain ⟨i, j, rfl, rfl, hR⟩ := h
  cases hx
  cases hy
  exact ⟨i, j, rfl, rfl, q.sc E hR (hg _ _ _)⟩
def sAdd : S2 := fun x y μ R => ∃ i j, x = .int i ∧ y = .int j ∧ R (.int (i + j)) μ
def sSub : S2 := fun x y μ R => ∃ i j, x = .int i ∧ y = .int j ∧ R (.int (i - j)) μ
def sMul : S2 := fun x y μ R => ∃ i j, x = .int i ∧ y = .int j ∧ CMulW i j ∧ R (.int (i * j)) μ
def sMod : S2 := fun x y μ R => ∃ i j, x = .int i ∧ y = .int j ∧ j ≠ 0 ∧ R (.int (i.fmod j)) μ
def sDiv : S2 := fun x y μ R => ∃ i j, x = .int i ∧ y = .int j ∧ CDivW i j ∧ R (.int (i / j)) μ
def sPow : S2 := fun x y μ R => ∃ i j, x = .int i ∧ y = .int j ∧ CPow i j ∧ R (.int (i ^ j.toNat)) μ
def sLt : S2 := fun x y μ R => ∃ i j, x = .int i ∧ y = .int j ∧ R (.bl (decide (i < j))) μ
def sLe : S2 := fun x y μ R => ∃ i j, x = .int i ∧ y = .int j ∧ R (.bl (decide (i ≤ j))) μ
def sGt : S2 := fun x y μ R => ∃ i j, x = .int i ∧ y = .int j ∧ R (.bl (decide (j < i))) μ
def sGe : S2 := fun x y μ R => ∃ i j, x = .int i ∧ y = .int j ∧ R (.bl (decide (j ≤ i))) μ
theorem Ev.sub {R : Cn} (h : Ev X a ρ μ fun da μ1 => Ev X b ρ μ1 fun db μ2 => sSub da db μ2 R) : Ev X (.BinOp a .Sub b pos) ρ μ R := .op op_sub (rI0_S fun _ _ _ => .int) h
theorem Ev.addI {R : Cn} (h : Ev X a ρ μ fun da μ1 => Ev X b ρ μ1 fun db μ2 => sAdd da db μ2 R) : Ev X (.BinOp a .Add b pos) ρ μ R := .op op_add (rI0_S fun _ _ _ => .int) h
theorem Ev.mul {R : Cn} (h : Ev X a ρ μ fun da μ1 => Ev X b ρ μ1 fun db μ2 => sMul da db μ2 R) : Ev X (.BinOp a .Mult b pos) ρ μ R := .op op_mulW (rI_S fun _ _ _ => .int) h
theorem Ev.mod {R : Cn} (h : Ev X a ρ μ fun da μ1 => Ev X b ρ μ1 fun db μ2 => sMod da db μ2 R) : Ev X (.BinOp a .Mod b pos) ρ μ R := .op op_modN (rI_S fun _ _ _ => .int) h
theorem Ev.fdiv {R : Cn} (h : Ev X a ρ μ fun da μ1 => Ev X b ρ μ1 fun db μ2 => sDiv da db μ2 R) : Ev X (.BinOp a .FloorDiv b pos) ρ μ R := .op op_fdivW (rI_S fun _ _ _ => .int) h
theorem Ev.pow {R : Cn} (h : Ev X a ρ μ fun da μ1 => Ev X b ρ μ1 fun db μ2 => sPow da db μ2 R) : Ev X (.BinOp a .Pow b pos) ρ μ R := .op op_pow (rI_S fun _ _ _ => .int) h
theorem Ev.lt {R : Cn} (h : Ev X a ρ μ fun da μ1 => Ev X b ρ μ1 fun db μ2 => sLt da db μ2 R) : Ev X (.Compare a [.Lt] [b] pos) ρ μ R := .cmp op_lt (rI0_S fun _ _ _ => .bl) (nomark _) h
theorem Ev.le {R : Cn} (h : Ev X a ρ μ fun da μ1 => Ev X b ρ μ1 fun db μ2 => sLe da db μ2 R) : Ev X (.Compare a [.LtE] [b] pos) ρ μ R := .cmp op_le (rI0_S fun _ _ _ => .bl) (nomark _) h
theorem Ev.gt {R : Cn} (h : Ev X a ρ μ fun da μ1 => Ev X b ρ μ1 fun db μ2 => sGt da db μ2 R) : Ev X (.Compare a [.Gt] [b] pos) ρ μ R := .cmp op_gt (rI0_S fun _ _ _ => .bl) (nomark _) h
theorem Ev.ge {R : Cn} (h : Ev X a ρ μ fun da μ1 => Ev X b ρ μ1 fun db μ2 => sGe da db μ2 R) : Ev X (.Compare a [.GtE] [b] pos) ρ μ R := .cmp op_ge (rI0_S fun _ _ _ => .bl) (nomark _) h
/-- == of flat things -/
def DV.flat : DV → Option V
  | .non => some .non
  | .bl b => some (.bl b)
  | .int i => some (.int i)
  | .str x => some (.str x)
  | _ => none
theorem flat_has {w : Wd} {v z : V} {d : DV} (h : Has w v d) (e : DV.flat d = some z) : v = z := by
  cases h <;> (first | (cases e; rfl) | (cases e))
def sEq : S2 := fun x y μ R => ∃ u v, DV.flat x = some u ∧ DV.flat y = some v ∧ scal u v = true ∧ R (.bl (decide (u = v))) μ
def sNe : S2 := fun x y μ R => ∃ u v, DV.flat x = some u ∧ DV.flat y = some v ∧ scal u v = true ∧ R (.bl (!decide (u = v))) μ
theorem rEq_S : R2S X rEq sEq := fun α μ H σ ρ x y da db R Q E hx hy h q => by
  obtain ⟨u, v, e1, e2, c, hR⟩ := h
  cases flat_has hx e1
  cases flat_has hy e2
  exact ⟨c, q.sc E hR .bl⟩
theorem rNe_S : R2S X rNe sNe := fun α μ H σ ρ x y da db R Q E hx hy h q => by
  obtain ⟨u, v, e1, e2, c, hR⟩ := h
  cases flat_has hx e1
  cases flat_has hy e2
  exact ⟨c, q.sc E hR .bl⟩
theorem Ev.eq {R : Cn} (h : Ev X a ρ μ fun da μ1 => Ev X b ρ μ1 fun db μ2 => sEq da db μ2 R) : Ev X (.Compare a [.Eq] [b] pos) ρ μ R := .cmp op_eq rEq_S (nomark _) h
theorem Ev.ne {R : Cn} (h : Ev X a ρ μ fun da μ1 => Ev X b ρ μ1 fun db μ2 => sNe da db μ2 R) : Ev X (.Compare a [.NotEq] [b] pos) ρ μ R := .cmp op_ne rNe_S (nomark _) h
end
end
end Eg

namespace Eg
open PySem PySem.Spec L2
theorem HasL.length {w : Wd} : ∀ {vs : List V} {ds : List DV}, HasL w vs ds → vs.length = ds.length
  | _, _, .nil => rfl
  | _, _, .cons _ t => by rw [List.length_cons, List.length_cons, HasL.length t]
theorem HasL.get {w : Wd} : ∀ {vs : List V} {ds : List DV} {i : Nat} {d : DV}, HasL w vs ds → ds[i]? = some d → ∃ v, vs[i]? = some v ∧ Has w v d
  | _, _, i, d, .nil, e => by simp at e
  | _, _, 0, d, .cons h _, e => by simp at e; subst e; exact ⟨_, rfl, h⟩
  | _, _, i + 1, d, .cons _ t, e => by
    obtain ⟨v, h1, h2⟩ := HasL.get (i := i) t (by simpa using e)
    exact ⟨v, by simpa using h1, h2⟩
theorem HasL.gett {w : Wd} : ∀ {vs : List V} {ds : List DV} {i : Nat} {v : V}, HasL w vs ds → vs[i]? = some v → ∃ d, ds[i]? = some d ∧ Has w v d
  | _, _, i, d, .nil, e => by simp at e
  | _, _, 0, d, .cons h _, e => by simp at e; subst e; exact ⟨_, rfl, h⟩
  | _, _, i + 1, d, .cons _ t, e => by
    obtain ⟨v, h1, h2⟩ := HasL.gett (i := i) t (by simpa using e)
    exact ⟨v, by simpa using h1, h2⟩
theorem HasL.app {w : Wd} : ∀ {vs us : List V} {ds es : List DV}, HasL w vs ds → HasL w us es → HasL w (vs ++ us) (ds ++ es)
  | _, _, _, _, .nil, s => s
  | _, _, _, _, .cons h t, s => .cons h (HasL.app t s)
theorem HasL.take {w : Wd} : ∀ {vs : List V} {ds : List DV} (n : Nat), HasL w vs ds → HasL w (vs.take n) (ds.take n)
  | _, _, 0, _ => .nil
  | _, _, _ + 1, .nil => .nil
  | _, _, n + 1, .cons h t => .cons h (HasL.take n t)
theorem HasL.drop {w : Wd} : ∀ {vs : List V} {ds : List DV} (n : Nat), HasL w vs ds → HasL w (vs.drop n) (ds.drop n)
  | _, _, 0, r => r
  | _, _, _ + 1, .nil => .nil
  | _, _, n + 1, .cons _ t => HasL.drop n t
theorem HasL.set {w : Wd} {v : V} {d : DV} (h : Has w v d) : ∀ {vs : List V} {ds : List DV} (i : Nat), HasL w vs ds → HasL w (vs.set i v) (ds.set i d)
  | _, _, _, .nil => .nil
  | _, _, 0, .cons _ t => .cons h t
  | _, _, i + 1, .cons q t => .cons q (HasL.set h i t)
/-- the items of what is read as a list or a tuple -/
def itemsD (μ : List MO) : DV → Option (List DV)
  | .tup ds => some ds
  | .lst ds => some ds
  | .mu k => match μ[k]? with
    | some (.lst ds) => some ds
    | _ => none
  | _ => none
section
variable {X : Cx} {e a b c : Expr} {es : List Expr} {ρ : RO} {μ : List MO} {pos : Pos}
/-- what is read as a list or tuple -/
theorem seq_of {w : Wd} {v : V} {d : DV} {ds : List DV} (l : Live w) (h : Has w v d) (e : itemsD w.μ d = some ds) : ∃ p vs, v = .ref p ∧ HasL w vs ds ∧ (SqL w.K w.H p vs ∨ SqT w.K w.H p vs) := by
  cases h with
  | tup h1 t => cases e; exact ⟨_, _, rfl, t, .inr h1⟩
  | lst r t =>
    cases e
    rcases r with ⟨_, r⟩ | r
    · exact ⟨_, _, rfl, t, .inl (.inl r)⟩
    · exact ⟨_, _, rfl, t, .inl r.sq⟩
  | @mu k a h1 =>
    have e' : (match w.μ[k]? with | some (.lst ds) => some ds | _ => none) = some ds := e
    split at e'
    · rename_i ds' hk
      cases e'
      obtain ⟨vs, q1, q2⟩ := l.ob k a _ h1 hk
      exact ⟨a, vs, rfl, q2, .inl (.of q1)⟩
    · cases e'
  | _ => cases e
def sIx : S2 := fun x y μ R => (∃ ds i d, itemsD μ x = some ds ∧ y = .int i ∧ atI ds i = some d ∧ R d μ) ∨ ∃ z i c, x = .str z ∧ y = .int i ∧ z.length ≤ sizeLine ∧ atI z.cps.toList i = some c ∧ R (.str ⟨#[c]⟩) μ
theorem at_has {w : Wd} {vs : List V} {ds : List DV} {i : Int} {d : DV} (h : HasL w vs ds) (e : atI ds i = some d) : ∃ v, atI vs i = some v ∧ Has w v d := by
  unfold atI at e ⊢
  rw [h.length]
  cases q : ixN ds.length i with
  | none => rw [q] at e; cases e
  | some j =>
    rw [q] at e
    exact h.get e
theorem rIx_S : R2S X (rIx X.K) sIx := fun α μ H σ ρ x y da db R Q E hx hy h q => by
  rcases h with ⟨ds, i, d, h1, rfl, h2, hR⟩ | ⟨z, i, c, rfl, rfl, h1, h2, hR⟩
  · obtain ⟨p, vs, rfl, hl, s⟩ := seq_of E.live hx h1
    cases hy
    obtain ⟨v, e1, e2⟩ := at_has hl h2
    rcases s with s | s
    · exact .inl ⟨p, vs, i, v, rfl, rfl, s, e1, q.sc E hR e2⟩
    · exact .inr (.inl ⟨p, vs, i, v, rfl, rfl, s, e1, q.sc E hR e2⟩)
  · cases hx
    cases hy
    exact .inr (.inr ⟨z, i, c, rfl, rfl, h1, h2, q.sc E hR .str⟩)
theorem Ev.at {R : Cn} (h : Ev X a ρ μ fun da μ1 => Ev X b ρ μ1 fun db μ2 => sIx da db μ2 R) (hs : PlainIx b := by intro _ _; rfl) : Ev X (.Subscript a b pos) ρ μ R := .ix ix_seq rIx_S hs h
/-! ### arguments -/
theorem EvA.nil {R : Ca} (h : R [] μ) : EvA X [] ρ μ R := PAw pa_nil fun σ H Q ⟨α, E, q⟩ => q [] [] α μ H h E E.live.refl .nil
theorem EvA.cons {R : Ca} (h : Ev X e ρ μ fun d μ1 => EvA X es ρ μ1 fun ds μ2 => R (d :: ds) μ2) (hs : starEach (e :: es) X.env = (false, eval e X.env) :: starEach es X.env := by rfl) : EvA X (e :: es) ρ μ R :=
  PAw (pa_cons pe_a pa_a hs) fun σ H Q ⟨α, E, q⟩ => ⟨_, h, α, E, fun v d α1 μ1 H1 h1 E1 X1 hv => ⟨_, h1, α1, E1, fun vs ds α2 μ2 H2 h2 E2 X2 hvs => q _ _ α2 μ2 H2 h2 E2 (X1.trans X2) (.cons (X2.has hv) hvs)⟩⟩
/-! ### displays -/
theorem Ev.tup {R : Cn} {x1} (h : EvA X es ρ μ fun ds μ1 => ds.length ≤ sizeLine ∧ R (.tup ds) μ1) : Ev X (.Tuple es x1 pos) ρ μ R :=
  PEw (pe_tup pa_a) fun σ H Q ⟨α, E, q⟩ => ⟨_, h, α, E, fun vs ds α1 μ1 H1 ⟨h0, h1⟩ E1 X1 hv => ⟨by rw [hv.length]; exact h0, fun p np => by
    obtain ⟨k, l⟩ := E1.live.lay (o := .tup vs) np
    exact q _ _ α1 μ1 _ h1 (E1.ext k l) (X1.trans k) (.tup (.of upd_same) (k.hasL hv))⟩⟩
theorem Ev.lst {R : Cn} (h : EvA X es ρ μ fun ds μ1 => ds.length ≤ sizeLine ∧ R (.lst ds) μ1) : Ev X (.List es pos) ρ μ R :=
  PEw (pe_lst pa_a) fun σ H Q ⟨α, E, q⟩ => ⟨_, h, α, E, fun vs ds α1 μ1 H1 ⟨h0, h1⟩ E1 X1 hv => ⟨by rw [hv.length]; exact h0, fun p np => by
    obtain ⟨k, l⟩ := E1.live.lay (o := .lst vs) np
    exact q _ _ α1 μ1 _ h1 (E1.ext k l) (X1.trans k) (.lst (.inl ⟨E1.live.fresh np, .inl upd_same⟩) (k.hasL hv))⟩⟩
theorem Ev.lstM {R : Cn} (h : EvA X es ρ μ fun ds μ1 => ds.length ≤ sizeLine ∧ R (.mu μ1.length) (μ1 ++ [.lst ds])) : Ev X (.List es pos) ρ μ R :=
  PEw (pe_lst pa_a) fun σ H Q ⟨α, E, q⟩ => ⟨_, h, α, E, fun vs ds α1 μ1 H1 ⟨h0, h1⟩ E1 X1 hv => ⟨by rw [hv.length]; exact h0, fun p np => by
    obtain ⟨k, l, e⟩ := E1.live.layM (o := .lst vs) (m := .lst ds) np (fun _ k => ⟨vs, upd_same, k.hasL hv⟩)
    exact q _ _ _ _ _ h1 (E1.ext k l) (X1.trans k) (.mu e)⟩⟩
theorem Ev.dic0 {R : Cn} (h : R (.dic []) μ) : Ev X (.Dict [] [] pos) ρ μ R :=
  PEw pe_dnewK fun σ H Q ⟨α, E, q⟩ => fun p np => by
    obtain ⟨k, l⟩ := E.live.lay (o := .dK []) np
    exact q _ _ α μ _ h (E.ext k l) k (.dic (E.live.fresh np) upd_same .nil)
theorem Ev.dic0M {R : Cn} (h : R (.mu μ.length) (μ ++ [.dic []])) : Ev X (.Dict [] [] pos) ρ μ R :=
  PEw pe_dnewK fun σ H Q ⟨α, E, q⟩ => fun p np => by
    obtain ⟨k, l, e⟩ := E.live.layM (o := .dK []) (m := .dic []) np (fun _ k => ⟨[], upd_same, .nil⟩)
    exact q _ _ _ _ _ h (E.ext k l) k (.mu e)
/-! ### calls of built-ins by values -/
abbrev SA := List DV → List MO → Cn → Prop
def RaS (X : Cx) (r : List V → Hp → VK → Prop) (S : SA) : Prop := ∀ (α : List Addr) (μ : List MO) (H : Hp) (σ : L2.St) (ρ : RO) (vs : List V) (ds : List DV) (R : Cn) (Q : VK), En ⟨X.K, α, μ, H⟩ σ ρ → HasL ⟨X.K, α, μ, H⟩ vs ds → S ds μ R → Stp X ρ ⟨X.K, α, μ, H⟩ σ R Q → r vs H Q
theorem tCB_S {r : List V → Hp → VK → Prop} {S : SA} {R : Cn} (k : RaS X r S) (h : EvA X es ρ μ fun ds μ1 => S ds μ1 R) (σ : L2.St) (H : Hp) (Q : VK) (q : tEv X ρ μ R σ H Q) : tCB r (aA X es) σ H Q := by
  obtain ⟨α, E, q⟩ := q
  exact ⟨_, h, α, E, fun vs ds α1 μ1 H1 h1 E1 X1 hv => k α1 μ1 H1 σ ρ vs ds R Q E1 hv h1 fun v d α' μ' H' r' E' X' hv => q v d α' μ' H' r' E' (X1.trans X') hv⟩
theorem Ev.callB {R : Cn} {x : Str} {p : Pos} {id : String} {r : List V → Hp → VK → Prop} {S : SA} (hc : CallR X (.builtin id) r) (k : RaS X r S) (hg : Gl X x) (hm : X.mg x = none) (hv : bootBuiltins x = some (.builtin id)) (h : EvA X (e :: es) ρ μ fun ds μ1 => S ds μ1 R) (hn : x ≠ "__name__" := by decide) (hdb : (x == ("__debug__" : Str)) = false := by decide)
    (he : starEach (e :: es) X.env = (false, eval e X.env) :: starEach es X.env := by rfl) (hpl : (backTo pos (starEach es X.env)).any (·.1) = false := by rfl) : Ev X (.Call (.Name x p) (e :: es) [] pos) ρ μ R := PEw (pe_callB hc hg hm hv pa_a hn hdb he hpl) (tCB_S k h)
theorem Ev.callTy {R : Cn} {x : Str} {p : Pos} {T : String} {r : List V → Hp → VK → Prop} {S : SA} (hc : CallR X (.type T) r) (k : RaS X r S) (hg : Gl X x) (hm : X.mg x = none) (hv : bootBuiltins x = some (.type T)) (h : EvA X (e :: es) ρ μ fun ds μ1 => S ds μ1 R) (hn : x ≠ "__name__" := by decide) (hdb : (x == ("__debug__" : Str)) = false := by decide)
    (he : starEach (e :: es) X.env = (false, eval e X.env) :: starEach es X.env := by rfl) (hpl : (backTo pos (starEach es X.env)).any (·.1) = false := by rfl) : Ev X (.Call (.Name x p) (e :: es) [] pos) ρ μ R := PEw (pe_callTy hc hg hm hv pa_a hn hdb he hpl) (tCB_S k h)
def lenD (μ : List MO) (d : DV) : Option Nat := match d with
  | .str y => if y.length ≤ sizeLine then some y.length else none
  | d => (itemsD μ d).map List.length
theorem hasL1 {w : Wd} {vs : List V} {d : DV} (h : HasL w vs [d]) : ∃ v, vs = [v] ∧ Has w v d := by
  cases h with
  | cons h t => cases t; exact ⟨_, rfl, h⟩
theorem hasL2 {w : Wd} {vs : List V} {d e : DV} (h : HasL w vs [d, e]) : ∃ v u, vs = [v, u] ∧ Has w v d ∧ Has w u e := by
  cases h with
  | cons h t =>
    obtain ⟨u, rfl, h2⟩ := hasL1 t
    exact ⟨_, u, rfl, h, h2⟩
def sLen : SA := fun ds μ R => ∃ d n, ds = [d] ∧ lenD μ d = some n ∧ R (.int n) μ
theorem len_S : RaS X (fun xs H Q => ∃ x n, xs = [x] ∧ LenV X.K x H n ∧ Q (.int n) H) sLen := fun α μ H σ ρ vs ds R Q E hv h q => by
  obtain ⟨d, n, rfl, e, hR⟩ := h
  obtain ⟨v, rfl, hw⟩ := hasL1 hv
  clear hv
  have hv := hw
  refine ⟨v, n, rfl, ?_, q.sc E hR .int⟩
  have gen : (itemsD μ d).map List.length = some n → LenV X.K v H n := fun e => by
    obtain ⟨ds, e1, e2⟩ := Option.map_eq_some_iff.mp e
    obtain ⟨p, vs, rfl, hl, s⟩ := seq_of E.live hv e1
    rcases s with s | s
    · exact .inl ⟨vs, s, by rw [hl.length, e2]⟩
    · exact .inr ⟨vs, s, by rw [hl.length, e2]⟩
  cases d with
  | str y =>
    cases hv
    unfold lenD at e
    dsimp only at e
    split at e
    · rename_i hz
      show y.length ≤ sizeLine ∧ n = y.length
      exact ⟨hz, (Option.some.inj e).symm⟩
    · cases e
  | _ => exact gen e
theorem Ev.len {R : Cn} {p : Pos} (hg : Gl X "len") (hm : X.mg "len" = none) (h : EvA X [e] ρ μ fun ds μ1 => sLen ds μ1 R) (he : starEach [e] X.env = (false, eval e X.env) :: starEach [] X.env := by rfl) :
    Ev X (.Call (.Name "len" p) [e] [] pos) ρ μ R := .callB call_len len_S hg hm boot_len h (by decide) (by decide) he rfl
def sInt : SA := fun ds μ R => (∃ i, ds = [.int i] ∧ R (.int i) μ) ∨ ∃ k, ds = [.bl k] ∧ R (.int (if k then 1 else 0)) μ
theorem int_S : RaS X (fun xs H Q => (∃ i, xs = [.int i] ∧ Q (.int i) H) ∨ ∃ k, xs = [.bl k] ∧ Q (.int (if k then 1 else 0)) H) sInt := fun α μ H σ ρ vs ds R Q E hv h q => by
  rcases h with ⟨i, rfl, hR⟩ | ⟨i, rfl, hR⟩
  · obtain ⟨v, rfl, hw⟩ := hasL1 hv
    clear hv
    have hv := hw
    cases hv
    exact .inl ⟨i, rfl, q.sc E hR .int⟩
  · obtain ⟨v, rfl, hw⟩ := hasL1 hv
    clear hv
    have hv := hw
    cases hv
    exact .inr ⟨i, rfl, q.sc E hR .int⟩
theorem Ev.toInt {R : Cn} {p : Pos} (hg : Gl X "int") (hm : X.mg "int" = none) (h : EvA X [e] ρ μ fun ds μ1 => sInt ds μ1 R) (he : starEach [e] X.env = (false, eval e X.env) :: starEach [] X.env := by rfl) :
    Ev X (.Call (.Name "int" p) [e] [] pos) ρ μ R := .callTy call_int1 int_S hg hm PyProof.Rows.boot_int h (by decide) (by decide) he rfl
def sAbs : SA := fun ds μ R => ∃ i, ds = [.int i] ∧ R (.int (if i < 0 then -i else i)) μ
theorem abs_S : RaS X (fun xs H Q => ∃ i, xs = [.int i] ∧ Q (.int (if i < 0 then -i else i)) H) sAbs := fun α μ H σ ρ vs ds R Q E hv h q => by
  obtain ⟨i, rfl, hR⟩ := h
  obtain ⟨v, rfl, hw⟩ := hasL1 hv
  clear hv
  have hv := hw
  cases hv
  exact ⟨i, rfl, q.sc E hR .int⟩
theorem Ev.abs {R : Cn} {p : Pos} (hg : Gl X "abs") (hm : X.mg "abs" = none) (h : EvA X [e] ρ μ fun ds μ1 => sAbs ds μ1 R) (he : starEach [e] X.env = (false, eval e X.env) :: starEach [] X.env := by rfl) :
    Ev X (.Call (.Name "abs" p) [e] [] pos) ρ μ R := .callB call_abs abs_S hg hm PyProof.Rows.boot_abs h (by decide) (by decide) he rfl
def sMM (g : Int → Int → Int) : SA := fun ds μ R => ∃ i j, ds = [.int i, .int j] ∧ R (.int (g i j)) μ
theorem mm_S {g : Int → Int → Int} : RaS X (fun xs H Q => ∃ i j, xs = [.int i, .int j] ∧ Q (.int (g i j)) H) (sMM g) := fun α μ H σ ρ vs ds R Q E hv h q => by
  obtain ⟨i, j, rfl, hR⟩ := h
  obtain ⟨v, u, rfl, hw, hu⟩ := hasL2 hv
  clear hv
  have hv := hw
  cases hv
  cases hu
  exact ⟨i, j, rfl, q.sc E hR .int⟩
theorem Ev.max2 {R : Cn} {p : Pos} (hc : X.calm = true) (hg : Gl X "max") (hm : X.mg "max" = none) (h : EvA X [a, b] ρ μ fun ds μ1 => sMM (fun i j => if j > i then j else i) ds μ1 R) (he : starEach [a, b] X.env = (false, eval a X.env) :: starEach [b] X.env := by rfl) (hpl : (backTo pos (starEach [b] X.env)).any (·.1) = false := by rfl) :
    Ev X (.Call (.Name "max" p) [a, b] [] pos) ρ μ R := .callB (call_max2 hc) mm_S hg hm PyProof.Rows.boot_max h (by decide) (by decide) he hpl
theorem Ev.min2 {R : Cn} {p : Pos} (hc : X.calm = true) (hg : Gl X "min") (hm : X.mg "min" = none) (h : EvA X [a, b] ρ μ fun ds μ1 => sMM (fun i j => if j < i then j else i) ds μ1 R) (he : starEach [a, b] X.env = (false, eval a X.env) :: starEach [b] X.env := by rfl) (hpl : (backTo pos (starEach [b] X.env)).any (·.1) = false := by rfl) :
    Ev X (.Call (.Name "min" p) [a, b] [] pos) ρ μ R := .callB (call_min2 hc) mm_S hg hm PyProof.Rows.boot_min h (by decide) (by decide) he hpl
def sDivmod : SA := fun ds μ R => ∃ i j, ds = [.int i, .int j] ∧ CDiv i j ∧ R (.tup [.int (i / j), .int (i % j)]) μ
theorem divmod_S : RaS X (fun xs H Q => ∃ i j, xs = [.int i, .int j] ∧ CDiv i j ∧ ∀ p, H p = none → Q (.ref p) (upd H p (.tup [.int (i / j), .int (i % j)]))) sDivmod := fun α μ H σ ρ vs ds R Q E hv h q => by
  obtain ⟨i, j, rfl, c, hR⟩ := h
  obtain ⟨v, u, rfl, hw, hu⟩ := hasL2 hv
  clear hv
  have hv := hw
  cases hv
  cases hu
  refine ⟨i, j, rfl, c, fun p np => ?_⟩
  obtain ⟨k, l⟩ := E.live.lay (o := .tup [.int (i / j), .int (i % j)]) np
  exact q _ _ α μ _ hR (E.ext k l) k (.tup (.of upd_same) (.cons .int (.cons .int .nil)))
theorem Ev.divmod {R : Cn} {p : Pos} (hg : Gl X "divmod") (hm : X.mg "divmod" = none) (h : EvA X [a, b] ρ μ fun ds μ1 => sDivmod ds μ1 R) (he : starEach [a, b] X.env = (false, eval a X.env) :: starEach [b] X.env := by rfl) (hpl : (backTo pos (starEach [b] X.env)).any (·.1) = false := by rfl) :
    Ev X (.Call (.Name "divmod" p) [a, b] [] pos) ρ μ R := .callB call_divmod divmod_S hg hm PyProof.Rows.boot_divmod h (by decide) (by decide) he hpl
/-- tuple(xs) -/
def sTuple : SA := fun ds μ R => ∃ d xs, ds = [d] ∧ itemsD μ d = some xs ∧ R (.tup xs) μ
theorem tuple_S : RaS X (fun xs H Q => ∃ p ys, xs = [.ref p] ∧ ((SqL X.K H p ys ∧ ∀ l, H l = none → Q (.ref l) (upd H l (.tup ys))) ∨ (SqT X.K H p ys ∧ Q (.ref p) H))) sTuple := fun α μ H σ ρ vs ds R Q E hv h q => by
  obtain ⟨d, xs, rfl, e, hR⟩ := h
  obtain ⟨v, rfl, hw⟩ := hasL1 hv
  clear hv
  have hv := hw
  obtain ⟨p, vs, rfl, hl, s⟩ := seq_of E.live hv e
  refine ⟨p, vs, rfl, ?_⟩
  rcases s with s | s
  · refine .inl ⟨s, fun l nl => ?_⟩
    obtain ⟨k, l⟩ := E.live.lay (o := .tup vs) nl
    exact q _ _ α μ _ hR (E.ext k l) k (.tup (.of upd_same) (k.hasL hl))
  · exact .inr ⟨s, q.sc E hR (.tup s hl)⟩
theorem Ev.tuple {R : Cn} {p : Pos} (hg : Gl X "tuple") (hm : X.mg "tuple" = none) (h : EvA X [e] ρ μ fun ds μ1 => sTuple ds μ1 R) (he : starEach [e] X.env = (false, eval e X.env) :: starEach [] X.env := by rfl) :
    Ev X (.Call (.Name "tuple" p) [e] [] pos) ρ μ R := .callTy call_tuple_of tuple_S hg hm PyProof.Rows.boot_tuple h (by decide) (by decide) he rfl
/-- all of a list of truths -/
def blD : DV → Option Bool
  | .bl b => some b
  | _ => none
theorem bls_has {w : Wd} : ∀ {vs : List V} {bs : List Bool}, HasL w vs (bs.map DV.bl) → vs = bs.map V.bl
  | _, [], .nil => rfl
  | _, b :: bs, .cons h t => by
    cases h
    rw [List.map_cons, bls_has t]
def sAll : SA := fun ds μ R => ∃ d bs, ds = [d] ∧ itemsD μ d = some (List.map DV.bl bs) ∧ (∀ xs, d ≠ .tup xs) ∧ R (.bl (bs.all id)) μ
theorem all_S : RaS X (rAll X.K) sAll := fun α μ H σ ρ vs ds R Q E hv h q => by
  obtain ⟨d, bs, rfl, e, nt, hR⟩ := h
  obtain ⟨v, rfl, hw⟩ := hasL1 hv
  clear hv
  have hv := hw
  have : ∃ p vs, v = .ref p ∧ HasL ⟨X.K, α, μ, H⟩ vs (bs.map DV.bl) ∧ SqL X.K H p vs := by
    cases hv with
    | tup h1 t => exact absurd rfl (nt _)
    | lst r t =>
      cases e
      rcases r with ⟨_, r⟩ | r
      · exact ⟨_, _, rfl, t, .inl r⟩
      · exact ⟨_, _, rfl, t, r.sq⟩
    | @mu k a h1 =>
      have e' : (match μ[k]? with | some (.lst ds) => some ds | _ => none) = some (List.map DV.bl bs) := e
      split at e'
      · rename_i ds' hk
        cases e'
        obtain ⟨vs, q1, q2⟩ := E.live.ob k a _ h1 hk
        exact ⟨a, vs, rfl, q2, .of q1⟩
      · cases e'
    | _ => cases e
  obtain ⟨p, vs, rfl, hl, s⟩ := this
  have ev := bls_has hl
  subst ev
  exact ⟨p, bs, rfl, s, q.sc E hR .bl⟩
theorem Ev.all {R : Cn} {p : Pos} (hc : X.calm = true) (hg : Gl X "all") (hm : X.mg "all" = none) (h : EvA X [e] ρ μ fun ds μ1 => sAll ds μ1 R) (he : starEach [e] X.env = (false, eval e X.env) :: starEach [] X.env := by rfl) :
    Ev X (.Call (.Name "all" p) [e] [] pos) ρ μ R := .callB (cr_all hc) all_S hg hm PyProof.Rows.boot_all h (by decide) (by decide) he rfl
/-! ### tests -/
theorem EvT.val {R : Ct} (h : Ev X e ρ μ fun d μ1 => ∃ k, d = .bl k ∧ R k μ1) (he : ∀ whole, isTrue e X.env whole = (do let v ← whole; standAt e.pos; holding [v] (truthy v)) := by intro _; rfl) : EvT X e ρ μ R :=
  PTw (pt_val pe_a he) fun σ H Q ⟨α, E, q⟩ => ⟨_, h, α, E, fun v d α1 μ1 H1 ⟨k, e, h1⟩ E1 X1 hv => by
    subst e
    cases hv
    exact ⟨k, rfl, q k α1 μ1 H1 h1 E1 X1⟩⟩
theorem EvT.not {R : Ct} (h : EvT X a ρ μ fun b μ1 => R (!b) μ1) : EvT X (.UnaryOp .Not a pos) ρ μ R :=
  PTw (pt_not pt_a) fun σ H Q ⟨α, E, q⟩ => ⟨_, h, α, E, fun b α1 μ1 H1 h1 E1 X1 => q _ α1 μ1 H1 h1 E1 X1⟩
theorem EvT.w {R : Ct} (h : EvW X e ρ μ R) : EvT X e ρ μ R := PW.pt h
theorem EvW.and1 {R : Ct} (h : EvT X a ρ μ R) : EvW X (.BoolOp .And [a] pos) ρ μ R := pw_and1 h
theorem EvW.or1 {R : Ct} (h : EvT X a ρ μ R) : EvW X (.BoolOp .Or [a] pos) ρ μ R := pw_or1 h
theorem EvW.and {rest : List Expr} {R : Ct} (h : EvT X a ρ μ fun k μ1 => if k = true then EvW X (.BoolOp .And (b :: rest) pos) ρ μ1 R else R false μ1) : EvW X (.BoolOp .And (a :: b :: rest) pos) ρ μ R :=
  PWw (pw_and pt_a pw_a) fun σ H Q ⟨α, E, q⟩ => ⟨_, h, α, E, fun k α1 μ1 H1 h1 E1 X1 => by
    cases k with
    | true => exact iteT ⟨_, show EvW X (.BoolOp .And (b :: rest) pos) ρ μ1 R from h1, α1, E1, fun k2 α2 μ2 H2 h2 E2 X2 => q k2 α2 μ2 H2 h2 E2 (X1.trans X2)⟩
    | false => exact iteF (q false α1 μ1 H1 h1 E1 X1)⟩
theorem EvW.or {rest : List Expr} {R : Ct} (h : EvT X a ρ μ fun k μ1 => if k = true then R true μ1 else EvW X (.BoolOp .Or (b :: rest) pos) ρ μ1 R) : EvW X (.BoolOp .Or (a :: b :: rest) pos) ρ μ R :=
  PWw (pw_or pt_a pw_a) fun σ H Q ⟨α, E, q⟩ => ⟨_, h, α, E, fun k α1 μ1 H1 h1 E1 X1 => by
    cases k with
    | true => exact iteT (q true α1 μ1 H1 h1 E1 X1)
    | false => exact iteF ⟨_, show EvW X (.BoolOp .Or (b :: rest) pos) ρ μ1 R from h1, α1, E1, fun k2 α2 μ2 H2 h2 E2 X2 => q k2 α2 μ2 H2 h2 E2 (X1.trans X2)⟩⟩
theorem Ev.ifE {R : Cn} (h : EvT X c ρ μ fun k μ1 => if k = true then Ev X a ρ μ1 R else Ev X b ρ μ1 R) : Ev X (.IfExp c a b pos) ρ μ R :=
  PEw (pe_ifExp pt_a pe_a pe_a) fun σ H Q ⟨α, E, q⟩ => ⟨_, h, α, E, fun k α1 μ1 H1 h1 E1 X1 => by
    cases k with
    | true => exact iteT ⟨_, show Ev X a ρ μ1 R from h1, α1, E1, fun v d α2 μ2 H2 h2 E2 X2 hv => q v d α2 μ2 H2 h2 E2 (X1.trans X2) hv⟩
    | false => exact iteF ⟨_, show Ev X b ρ μ1 R from h1, α1, E1, fun v d α2 μ2 H2 h2 E2 X2 hv => q v d α2 μ2 H2 h2 E2 (X1.trans X2) hv⟩⟩
/-! ### and, or, not as values -/
theorem Ev.one {R : Cn} {op} (h : Ev X a ρ μ R) : Ev X (.BoolOp op [a] pos) ρ μ R := pe_one h
theorem Ev.and {rest : List Expr} {R : Cn} (h : Ev X a ρ μ fun d μ1 => ∃ k, d = .bl k ∧ if k = true then Ev X (.BoolOp .And (b :: rest) pos) ρ μ1 R else R (.bl false) μ1) : Ev X (.BoolOp .And (a :: b :: rest) pos) ρ μ R :=
  PEw (pe_and pe_a pe_a) fun σ H Q ⟨α, E, q⟩ => ⟨_, h, α, E, fun v d α1 μ1 H1 ⟨k, e, h1⟩ E1 X1 hv => by
    subst e
    cases hv
    refine ⟨k, rfl, ?_⟩
    cases k with
    | true => exact iteT ⟨_, show Ev X (.BoolOp .And (b :: rest) pos) ρ μ1 R from h1, α1, E1, fun v d α2 μ2 H2 h2 E2 X2 hv => q v d α2 μ2 H2 h2 E2 (X1.trans X2) hv⟩
    | false => exact iteF (q _ _ α1 μ1 H1 h1 E1 X1 .bl)⟩
theorem Ev.or {rest : List Expr} {R : Cn} (h : Ev X a ρ μ fun d μ1 => ∃ k, d = .bl k ∧ if k = true then R (.bl true) μ1 else Ev X (.BoolOp .Or (b :: rest) pos) ρ μ1 R) : Ev X (.BoolOp .Or (a :: b :: rest) pos) ρ μ R :=
  PEw (pe_or pe_a pe_a) fun σ H Q ⟨α, E, q⟩ => ⟨_, h, α, E, fun v d α1 μ1 H1 ⟨k, e, h1⟩ E1 X1 hv => by
    subst e
    cases hv
    refine ⟨k, rfl, ?_⟩
    cases k with
    | true => exact iteT (q _ _ α1 μ1 H1 h1 E1 X1 .bl)
    | false => exact iteF ⟨_, show Ev X (.BoolOp .Or (b :: rest) pos) ρ μ1 R from h1, α1, E1, fun v d α2 μ2 H2 h2 E2 X2 hv => q v d α2 μ2 H2 h2 E2 (X1.trans X2) hv⟩⟩
theorem Ev.not {R : Cn} (h : Ev X a ρ μ fun d μ1 => ∃ k, d = .bl k ∧ R (.bl (!k)) μ1) : Ev X (.UnaryOp .Not a pos) ρ μ R :=
  PEw (pe_not pe_a) fun σ H Q ⟨α, E, q⟩ => ⟨_, h, α, E, fun v d α1 μ1 H1 ⟨k, e, h1⟩ E1 X1 hv => by
    subst e
    cases hv
    exact ⟨k, rfl, q _ _ α1 μ1 H1 h1 E1 X1 .bl⟩⟩
theorem Ev.neg {R : Cn} (h : Ev X a ρ μ fun d μ1 => ∃ i, d = .int i ∧ R (.int (-i)) μ1) : Ev X (.UnaryOp .USub a pos) ρ μ R :=
  PEw (pe_un un_neg pe_a) fun σ H Q ⟨α, E, q⟩ => ⟨_, h, α, E, fun v d α1 μ1 H1 ⟨k, e, h1⟩ E1 X1 hv => by
    subst e
    cases hv
    exact ⟨k, rfl, q _ _ α1 μ1 H1 h1 E1 X1 .int⟩⟩
/-- a < b < c of whole numbers -/
theorem Ev.chain {op op' : CmpOp} {r r' : R2} {S S' : S2} {R : Cn} (ho : OpR X (compareOp op) r) (k : R2S X r S) (ho' : OpR X (compareOp op') r') (k' : R2S X r' S')
    (h : Ev X a ρ μ fun da μ1 => Ev X b ρ μ1 fun db μ2 => S da db μ2 fun d μ3 => ∃ t, d = .bl t ∧ if t = true then Ev X c ρ μ3 fun dc μ4 => S' db dc μ4 R else R (.bl false) μ3) (hm : lastMarks [op, op'] [b, c] = false := by with_unfolding_all rfl) :
    Ev X (.Compare a [op, op'] [b, c] pos) ρ μ R := PEw (pe_chain ho ho' pe_a pe_a pe_a hm) fun σ H Q ⟨α, E, q⟩ =>
  ⟨_, h, α, E, fun x da α1 μ1 H1 h1 E1 X1 hx => ⟨_, h1, α1, E1, fun y db α2 μ2 H2 h2 E2 X2 hy =>
    k α2 μ2 H2 σ ρ x y da db _ _ E2 (X2.has hx) hy h2 fun v d α3 μ3 H3 ⟨t, e, h3⟩ E3 X3 hv => by
      subst e
      cases hv
      refine ⟨t, rfl, ?_⟩
      cases t with
      | true => exact iteT ⟨_, show Ev X c ρ μ3 _ from h3, α3, E3, fun z dc α4 μ4 H4 h4 E4 X4 hz => k' α4 μ4 H4 σ ρ y z db dc R Q E4 (X4.has (X3.has hy)) hz h4 fun v d α' μ' H' r' E' X' hv => q v d α' μ' H' r' E' (X1.trans (X2.trans (X3.trans (X4.trans X')))) hv⟩
      | false => exact iteF (q _ _ α3 μ3 H3 h3 E3 (X1.trans (X2.trans X3)) .bl)⟩⟩
end
end Eg

namespace Eg
open PySem PySem.Spec L2
inductive Out where
  | nx (ρ : RO) (μ : List MO) | rt (d : DV) (μ : List MO) | bk (ρ : RO) (μ : List MO) | ct (ρ : RO) (μ : List MO)
abbrev Co := Out → Prop
section
variable {X : Cx}
def tSt (X : Cx) (ρ : RO) (μ : List MO) (R : Co) : TS := fun D σ H => ∃ α, En ⟨X.K, α, μ, H⟩ σ ρ ∧
  (∀ ρ' σ' α' μ' H', R (.nx ρ' μ') → En ⟨X.K, α', μ', H'⟩ σ' ρ' → Kp ⟨X.K, α, μ, H⟩ ⟨X.K, α', μ', H'⟩ → D.nx σ' H') ∧
  (∀ v d α' μ' H', R (.rt d μ') → Live ⟨X.K, α', μ', H'⟩ → Kp ⟨X.K, α, μ, H⟩ ⟨X.K, α', μ', H'⟩ → Has ⟨X.K, α', μ', H'⟩ v d → D.rt v H') ∧
  (∀ ρ' σ' α' μ' H', R (.bk ρ' μ') → En ⟨X.K, α', μ', H'⟩ σ' ρ' → Kp ⟨X.K, α, μ, H⟩ ⟨X.K, α', μ', H'⟩ → D.bk σ' H') ∧
  (∀ ρ' σ' α' μ' H', R (.ct ρ' μ') → En ⟨X.K, α', μ', H'⟩ σ' ρ' → Kp ⟨X.K, α, μ, H⟩ ⟨X.K, α', μ', H'⟩ → D.ct σ' H')
def St (X : Cx) (s : Stmt) (ρ : RO) (μ : List MO) (R : Co) : Prop := PS X s (tSt X ρ μ R)
def Sts (X : Cx) (s : List Stmt) (ρ : RO) (μ : List MO) (R : Co) : Prop := PSs X s (tSt X ρ μ R)
def aS (X : Cx) (s : Stmt) : TS := fun D σ H => ∃ t, PS X s t ∧ t D σ H
def aSs (X : Cx) (s : List Stmt) : TS := fun D σ H => ∃ t, PSs X s t ∧ t D σ H
theorem ps_a {s : Stmt} : PS X s (aS X s) := ⟨fun pins s σ H D I ⟨_, h, q⟩ => h.run pins s σ H D I q⟩
theorem pss_a {s : List Stmt} : PSs X s (aSs X s) := ⟨fun pins s σ H D I ⟨_, h, q⟩ => h.run pins s σ H D I q⟩
theorem PSw {s : Stmt} {t t' : TS} (h : PS X s t) (k : ∀ D σ H, t' D σ H → t D σ H) : PS X s t' := ⟨fun pins s σ H D I q => h.run pins s σ H D I (k D σ H q)⟩
theorem PSsw {s : List Stmt} {t t' : TS} (h : PSs X s t) (k : ∀ D σ H, t' D σ H → t D σ H) : PSs X s t' := ⟨fun pins s σ H D I q => h.run pins s σ H D I (k D σ H q)⟩
section
variable {s : Stmt} {rest a b : List Stmt} {e c : Expr} {ρ : RO} {μ : List MO} {pos : Pos} {R : Co}
theorem St.mono {R' : Co} (h : St X s ρ μ R) (k : ∀ o, R o → R' o) : St X s ρ μ R' :=
  PSw h fun D σ H ⟨α, E, q1, q2, q3, q4⟩ => ⟨α, E, fun ρ' σ' α' μ' H' r => q1 ρ' σ' α' μ' H' (k _ r), fun v d α' μ' H' r => q2 v d α' μ' H' (k _ r), fun ρ' σ' α' μ' H' r => q3 ρ' σ' α' μ' H' (k _ r), fun ρ' σ' α' μ' H' r => q4 ρ' σ' α' μ' H' (k _ r)⟩
theorem Sts.mono {R' : Co} (h : Sts X a ρ μ R) (k : ∀ o, R o → R' o) : Sts X a ρ μ R' :=
  PSsw h fun D σ H ⟨α, E, q1, q2, q3, q4⟩ => ⟨α, E, fun ρ' σ' α' μ' H' r => q1 ρ' σ' α' μ' H' (k _ r), fun v d α' μ' H' r => q2 v d α' μ' H' (k _ r), fun ρ' σ' α' μ' H' r => q3 ρ' σ' α' μ' H' (k _ r), fun ρ' σ' α' μ' H' r => q4 ρ' σ' α' μ' H' (k _ r)⟩
theorem Sts.nil (h : R (.nx ρ μ)) : Sts X [] ρ μ R := PSsw pss_nil fun D σ H ⟨α, E, q1, _⟩ => q1 ρ σ α μ H h E E.live.refl
def seqR (X : Cx) (rest : List Stmt) (R : Co) : Co := fun o => match o with
  | .nx ρ μ => Sts X rest ρ μ R
  | o => R o
theorem Sts.cons (h : St X s ρ μ (seqR X rest R)) : Sts X (s :: rest) ρ μ R :=
  PSsw (pss_cons ps_a pss_a) fun D σ H ⟨α, E, q1, q2, q3, q4⟩ => by
    refine ⟨_, h, α, E, fun ρ' σ' α' μ' H' (r : Sts X rest ρ' μ' R) E' X' => ?_, q2, q3, q4⟩
    exact ⟨_, r, α', E', fun ρ2 σ2 α2 μ2 H2 r2 E2 X2 => q1 ρ2 σ2 α2 μ2 H2 r2 E2 (X'.trans X2), fun v d α2 μ2 H2 r2 l2 X2 => q2 v d α2 μ2 H2 r2 l2 (X'.trans X2),
      fun ρ2 σ2 α2 μ2 H2 r2 E2 X2 => q3 ρ2 σ2 α2 μ2 H2 r2 E2 (X'.trans X2), fun ρ2 σ2 α2 μ2 H2 r2 E2 X2 => q4 ρ2 σ2 α2 μ2 H2 r2 E2 (X'.trans X2)⟩
theorem Sts.one (h : St X s ρ μ R) : Sts X [s] ρ μ R := pss_one h
theorem St.expr (h : Ev X e ρ μ fun _ μ1 => R (.nx ρ μ1)) (hs : swapsWith e none pos.line X.env = pure false := by rfl) : St X (.Expr e pos) ρ μ R :=
  PSw (ps_expr pe_a hs) fun D σ H ⟨α, E, q1, q2, q3, q4⟩ => ⟨_, h, α, E, fun v d α1 μ1 H1 r E1 X1 _ => q1 ρ σ α1 μ1 H1 r E1 X1⟩
theorem St.ret (h : Ev X e ρ μ fun d μ1 => R (.rt d μ1)) : St X (.Return (some e) pos) ρ μ R :=
  PSw (ps_ret pe_a) fun D σ H ⟨α, E, q1, q2, q3, q4⟩ => ⟨_, h, α, E, fun v d α1 μ1 H1 r E1 X1 hv => q2 v d α1 μ1 H1 r E1.live X1 hv⟩
theorem St.retN (h : R (.rt .non μ)) : St X (.Return none pos) ρ μ R :=
  PSw ps_retN fun D σ H ⟨α, E, q1, q2, q3, q4⟩ => q2 .non .non α μ H h E.live E.live.refl .non
theorem St.pass (h : R (.nx ρ μ)) : St X (.Pass pos) ρ μ R := PSw ps_pass fun D σ H ⟨α, E, q1, _⟩ => q1 ρ σ α μ H h E E.live.refl
theorem St.brk (h : R (.bk ρ μ)) : St X (.Break pos) ρ μ R := PSw ps_break fun D σ H ⟨α, E, _, _, q3, _⟩ => q3 ρ σ α μ H h E E.live.refl
theorem St.cont (h : R (.ct ρ μ)) : St X (.Continue pos) ρ μ R := PSw ps_continue fun D σ H ⟨α, E, _, _, _, q4⟩ => q4 ρ σ α μ H h E E.live.refl
/-- from a state on -/
theorem tSt.from_ {D : Ends} {α α1 : List Addr} {μ1 : List MO} {H H1 : Hp} {σ1 : L2.St} {ρ1 : RO}
    (q : (∀ ρ' σ' α' μ' H', R (.nx ρ' μ') → En ⟨X.K, α', μ', H'⟩ σ' ρ' → Kp ⟨X.K, α, μ, H⟩ ⟨X.K, α', μ', H'⟩ → D.nx σ' H') ∧
  (∀ v d α' μ' H', R (.rt d μ') → Live ⟨X.K, α', μ', H'⟩ → Kp ⟨X.K, α, μ, H⟩ ⟨X.K, α', μ', H'⟩ → Has ⟨X.K, α', μ', H'⟩ v d → D.rt v H') ∧
  (∀ ρ' σ' α' μ' H', R (.bk ρ' μ') → En ⟨X.K, α', μ', H'⟩ σ' ρ' → Kp ⟨X.K, α, μ, H⟩ ⟨X.K, α', μ', H'⟩ → D.bk σ' H') ∧
  (∀ ρ' σ' α' μ' H', R (.ct ρ' μ') → En ⟨X.K, α', μ', H'⟩ σ' ρ' → Kp ⟨X.K, α, μ, H⟩ ⟨X.K, α', μ', H'⟩ → D.ct σ' H'))
    (E1 : En ⟨X.K, α1, μ1, H1⟩ σ1 ρ1) (X1 : Kp ⟨X.K, α, μ, H⟩ ⟨X.K, α1, μ1, H1⟩) : tSt X ρ1 μ1 R D σ1 H1 :=
  ⟨α1, E1, fun ρ2 σ2 α2 μ2 H2 r2 E2 X2 => q.1 ρ2 σ2 α2 μ2 H2 r2 E2 (X1.trans X2), fun v d α2 μ2 H2 r2 l2 X2 => q.2.1 v d α2 μ2 H2 r2 l2 (X1.trans X2),
      fun ρ2 σ2 α2 μ2 H2 r2 E2 X2 => q.2.2.1 ρ2 σ2 α2 μ2 H2 r2 E2 (X1.trans X2), fun ρ2 σ2 α2 μ2 H2 r2 E2 X2 => q.2.2.2 ρ2 σ2 α2 μ2 H2 r2 E2 (X1.trans X2)⟩
theorem St.ifS (h : EvT X c ρ μ fun k μ1 => if k = true then Sts X a ρ μ1 R else Sts X b ρ μ1 R) : St X (.If c a b pos) ρ μ R :=
  PSw (ps_if pt_a pss_a pss_a) fun D σ H ⟨α, E, q⟩ => ⟨_, h, α, E, fun k α1 μ1 H1 h1 E1 X1 => by
    cases k with
    | true => exact iteT ⟨_, show Sts X a ρ μ1 R from h1, tSt.from_ q E1 X1⟩
    | false => exact iteF ⟨_, show Sts X b ρ μ1 R from h1, tSt.from_ q E1 X1⟩⟩
/-! ### targets -/
def tG (X : Cx) (d : DV) (ρ : RO) (μ : List MO) (R : RO → List MO → Prop) : TG := fun v σ H Q => ∃ α, En ⟨X.K, α, μ, H⟩ σ ρ ∧ Has ⟨X.K, α, μ, H⟩ v d ∧
  ∀ ρ' σ' α' μ' H', R ρ' μ' → En ⟨X.K, α', μ', H'⟩ σ' ρ' → Kp ⟨X.K, α, μ, H⟩ ⟨X.K, α', μ', H'⟩ → Q σ' H'
def tGs (X : Cx) (ds : List DV) (ρ : RO) (μ : List MO) (R : RO → List MO → Prop) : TGs := fun vs σ H Q => ∃ α, En ⟨X.K, α, μ, H⟩ σ ρ ∧ HasL ⟨X.K, α, μ, H⟩ vs ds ∧
  ∀ ρ' σ' α' μ' H', R ρ' μ' → En ⟨X.K, α', μ', H'⟩ σ' ρ' → Kp ⟨X.K, α, μ, H⟩ ⟨X.K, α', μ', H'⟩ → Q σ' H'
def EvG (X : Cx) (t : Expr) (d : DV) (ρ : RO) (μ : List MO) (R : RO → List MO → Prop) : Prop := PG X t (tG X d ρ μ R)
def EvGs (X : Cx) (ts : List Expr) (ds : List DV) (ρ : RO) (μ : List MO) (R : RO → List MO → Prop) : Prop := PGs X ts (tGs X ds ρ μ R)
def aG (X : Cx) (t : Expr) : TG := fun v σ H Q => ∃ g, PG X t g ∧ g v σ H Q
def aGs (X : Cx) (t : List Expr) : TGs := fun v σ H Q => ∃ g, PGs X t g ∧ g v σ H Q
theorem pg_a {t : Expr} : PG X t (aG X t) := ⟨fun pins s σ H v u Q I r ⟨_, h, q⟩ => h.run pins s σ H v u Q I r q⟩
theorem pgs_a {t : List Expr} : PGs X t (aGs X t) := ⟨fun pins s σ H v u Q I r ⟨_, h, q⟩ => h.run pins s σ H v u Q I r q⟩
theorem PGw {e : Expr} {t t' : TG} (h : PG X e t) (k : ∀ v σ H Q, t' v σ H Q → t v σ H Q) : PG X e t' := ⟨fun pins s σ H v u Q I r q => h.run pins s σ H v u Q I r (k v σ H Q q)⟩
theorem PGsw {e : List Expr} {t t' : TGs} (h : PGs X e t) (k : ∀ v σ H Q, t' v σ H Q → t v σ H Q) : PGs X e t' := ⟨fun pins s σ H v u Q I r q => h.run pins s σ H v u Q I r (k v σ H Q q)⟩
theorem En.set {w : Wd} {σ : L2.St} {ρ : RO} {v : V} {d : DV} (E : En w σ ρ) (i : Nat) (h : Has w v d) : En w (σ.set i (some v)) (ρ.set i (some d)) :=
  ⟨E.live, by rw [List.length_set, List.length_set]; exact E.len, fun j d' e => by
    by_cases hj : i = j
    · subst hj
      by_cases hi : i < ρ.length
      · rw [List.getElem?_set_self hi] at e
        cases e
        exact ⟨v, by rw [List.getElem?_set_self (by rw [E.len]; exact hi)], h⟩
      · rw [List.getElem?_eq_none_iff.mpr (by rw [List.length_set]; omega)] at e
        cases e
    · rw [List.getElem?_set_ne hj] at e ⊢
      exact E.at_ j d' e⟩
theorem En.wipe {w : Wd} {σ : L2.St} {ρ : RO} (E : En w σ ρ) (i : Nat) : En w (σ.set i none) (ρ.set i none) :=
  ⟨E.live, by rw [List.length_set, List.length_set]; exact E.len, fun j d' e => by
    by_cases hj : i = j
    · subst hj
      by_cases hi : i < ρ.length
      · rw [List.getElem?_set_self hi] at e
        cases e
      · rw [List.getElem?_eq_none_iff.mpr (by rw [List.length_set]; omega)] at e
        cases e
    · rw [List.getElem?_set_ne hj] at e ⊢
      exact E.at_ j d' e⟩
variable {d : DV} {Rg : RO → List MO → Prop} {t : Expr} {ts : List Expr}
theorem EvG.name (i : Nat) {x : Str} (hN : X.N.Nodup) (hi : X.N[i]? = some x) (hx : Loc X.env.scope x) (hf : X.fn x = true ∨ X.env.scope.names.lookup x = some .local) (h : Rg (ρ.set i (some d)) μ) : EvG X (.Name x pos) d ρ μ Rg :=
  PGw (pg_name hN hi hx hf) fun v σ H Q ⟨α, E, hv, q⟩ => q _ _ α μ H h (E.set i hv) E.live.refl
theorem EvGs.nil (h : Rg ρ μ) : EvGs X [] [] ρ μ Rg := PGsw pgs_nil fun vs σ H Q ⟨α, E, hv, q⟩ => by
  cases hv
  exact ⟨rfl, q _ _ α μ H h E E.live.refl⟩
theorem EvGs.cons {ds : List DV} (h : EvG X t d ρ μ fun ρ1 μ1 => EvGs X ts ds ρ1 μ1 Rg) (hs : (assignEach (t :: ts) X.env).map (·.2) = assign t X.env :: (assignEach ts X.env).map (·.2) := by rfl) : EvGs X (t :: ts) (d :: ds) ρ μ Rg :=
  PGsw (pgs_cons pg_a pgs_a hs) fun vs σ H Q ⟨α, E, hv, q⟩ => by
    cases hv with
    | cons hv hvs => exact ⟨_, _, rfl, _, h, α, E, hv, fun ρ1 σ1 α1 μ1 H1 r1 E1 X1 => ⟨_, (show EvGs X ts ds ρ1 μ1 Rg from r1), α1, E1, X1.hasL hvs, fun ρ2 σ2 α2 μ2 H2 r2 E2 X2 => q ρ2 σ2 α2 μ2 H2 r2 E2 (X1.trans X2)⟩⟩
theorem EvG.tup {k} {ds : List DV} (hc : X.calm = true) (h : EvGs X ts ds ρ μ Rg) (hn : (assignEach ts X.env).length = ds.length := by rfl) (hst : (assignEach ts X.env).findIdx? (·.1) = none := by rfl) : EvG X (.Tuple ts k pos) (.tup ds) ρ μ Rg :=
  PGw (pg_tup (n := ds.length) hc pgs_a hn hst) fun v σ H Q ⟨α, E, hv, q⟩ => by
    cases hv with
    | tup s t => exact ⟨_, _, rfl, s, t.length, _, h, α, E, t, q⟩
/-- xs[i] = v of a list that may be changed -/
theorem EvG.sub {o i : Expr} (h : Ev X o ρ μ fun dO μ1 => Ev X i ρ μ1 fun dI μ2 => ∃ k xs z j, dO = .mu k ∧ dI = .int z ∧ μ2[k]? = some (.lst xs) ∧ ixN xs.length z = some j ∧ Rg ρ (μ2.set k (.lst (xs.set j d)))) (ha : ∀ v, assign (.Subscript o i pos) X.env v = (do
      let ov ← holding [v] (eval o X.env)
      let iv ← holding [v, ov] (eval i X.env)
      standAt pos
      holding [v, ov, iv] (setItem ov iv v)
      release [v, ov, iv] []) := by intro _; rfl) : EvG X (.Subscript o i pos) d ρ μ Rg :=
  PGw (pg_sub pe_a pe_a set_list ha) fun v σ H Q ⟨α, E, hv, q⟩ => ⟨_, h, α, E, fun o' dO α1 μ1 H1 h1 E1 X1 ho => ⟨_, h1, α1, E1, fun i' dI α2 μ2 H2 ⟨k, xs, z, j, e1, e2, hk, hj, r⟩ E2 X2 hi => by
    subst e1 e2
    cases hi
    cases X2.has ho with
    | mu ha =>
      obtain ⟨vs, e, hl⟩ := E2.live.ob k _ _ ha hk
      refine ⟨_, vs, z, j, rfl, rfl, e, by rw [hl.length]; exact hj, ?_⟩
      obtain ⟨kp, l⟩ := E2.live.put (o := .lst (vs.set j v)) (m := .lst (xs.set j d)) ha hk (fun z => nomatch z) fun kp => ⟨_, upd_same, HasL.set (kp.has (X2.has (X1.has hv))) j (kp.hasL hl)⟩
      exact q _ _ _ _ _ r (E2.ext kp l) (X1.trans (X2.trans kp))⟩⟩
theorem St.asg (h : Ev X e ρ μ fun d μ1 => EvG X t d ρ μ1 fun ρ2 μ2 => R (.nx ρ2 μ2)) (hs : swapsWithSole [t] e pos.line X.env = pure false := by rfl) (hw : swappedStores [t] e X.env = pure none := by rfl) (h1 : (assignEach [t] X.env).map (·.2) = [assign t X.env] := by rfl) : St X (.Assign [t] e pos) ρ μ R :=
  PSw (ps_asg pe_a pg_a hs hw h1) fun D σ H ⟨α, E, q⟩ => ⟨_, h, α, E, fun v d α1 μ1 H1 r1 E1 X1 hv => ⟨_, r1, α1, E1, hv, fun ρ2 σ2 α2 μ2 H2 r2 E2 X2 => q.1 ρ2 σ2 α2 μ2 H2 r2 E2 (X1.trans X2)⟩⟩
/-- x = e -/
theorem St.set (i : Nat) {x : Str} {pos' : Pos} (hN : X.N.Nodup) (hi : X.N[i]? = some x) (hx : Loc X.env.scope x) (hf : X.fn x = true ∨ X.env.scope.names.lookup x = some .local) (h : Ev X e ρ μ fun d μ1 => R (.nx (ρ.set i (some d)) μ1)) (hs : swapsWith e (some (.Name x pos')) pos.line X.env = pure false := by rfl) :
    St X (.Assign [.Name x pos'] e pos) ρ μ R :=
  PSw (ps_set hN hi hx pe_a hs hf) fun D σ H ⟨α, E, q⟩ => ⟨_, h, α, E, fun v d α1 μ1 H1 r1 E1 X1 hv => q.1 _ _ α1 μ1 H1 r1 (E1.set i hv) X1⟩
/-- a, b = e1, e2 -/
theorem St.par {e1 e2 : Expr} (i j : Nat) {x y : Str} {px py pt : Pos} {kt k2 pt2} (hc : X.calm = true) (hN : X.N.Nodup) (hi : X.N[i]? = some x) (hj : X.N[j]? = some y) (hij : i ≠ j) (hx : X.env.scope.names.lookup x = some .local) (hy : X.env.scope.names.lookup y = some .local)
    (h : EvA X [e1, e2] ρ μ fun ds μ1 => ∃ d1 d2, ds = [d1, d2] ∧ R (.nx ((ρ.set i (some d1)).set j (some d2)) μ1)) (hw : swappedStores [.Tuple [.Name x px, .Name y py] kt pt] (.Tuple [e1, e2] k2 pt2) X.env = pure (some [x, y]) := by rfl)
    (hs : swapsWithSole [.Tuple [.Name x px, .Name y py] kt pt] (.Tuple [e1, e2] k2 pt2) pos.line X.env = pure false := by rfl) :
    St X (.Assign [.Tuple [.Name x px, .Name y py] kt pt] (.Tuple [e1, e2] k2 pt2) pos) ρ μ R :=
  PSw (ps_par hc hN hi hj hij hx hy pa_a hw hs) fun D σ H ⟨α, E, q⟩ => ⟨_, h, α, E, fun vs ds α1 μ1 H1 ⟨d1, d2, e, r⟩ E1 X1 hv => by
    subst e
    obtain ⟨v, u, rfl, hv1, hv2⟩ := hasL2 hv
    exact ⟨v, u, rfl, q.1 _ _ α1 μ1 H1 r ((E1.set i hv1).set j hv2) X1⟩⟩
/-! ### what is walked -/
def ItOk (X : Cx) (J : It) (ds : List DV) (w : Wd) : Prop := ∀ α μ H, Kp w ⟨X.K, α, μ, H⟩ → Live ⟨X.K, α, μ, H⟩ → (∀ i d, ds[i]? = some d → J.go i H ∧ ∀ x H', J.yld i H x H' → Kp ⟨X.K, α, μ, H⟩ ⟨X.K, α, μ, H'⟩ ∧ Live ⟨X.K, α, μ, H'⟩ ∧ Has ⟨X.K, α, μ, H'⟩ x d) ∧ J.stop ds.length H
def tEvI (X : Cx) (ρ : RO) (μ : List MO) (R : Ca) : TI := fun σ H Rr => ∃ α, En ⟨X.K, α, μ, H⟩ σ ρ ∧ ∀ J ds α' μ' H', R ds μ' → En ⟨X.K, α', μ', H'⟩ σ ρ → Kp ⟨X.K, α, μ, H⟩ ⟨X.K, α', μ', H'⟩ → ItOk X J ds ⟨X.K, α', μ', H'⟩ → Rr J H'
def EvI (X : Cx) (tg e : Expr) (ρ : RO) (μ : List MO) (R : Ca) : Prop := PI X tg e (tEvI X ρ μ R)
theorem PIw {tg e : Expr} {t t' : TI} (h : PI X tg e t) (k : ∀ σ H Q, t' σ H Q → t σ H Q) : PI X tg e t' := ⟨fun pins s σ H Q I q => h.run pins s σ H Q I (k σ H Q q)⟩
def aI (X : Cx) (tg e : Expr) : TI := fun σ H Q => ∃ t, PI X tg e t ∧ t σ H Q
theorem pi_a {tg e : Expr} : PI X tg e (aI X tg e) := ⟨fun pins s σ H Q I ⟨_, h, q⟩ => h.run pins s σ H Q I q⟩
theorem EvI.lst {tg : Expr} {Ra : Ca} (h : Ev X e ρ μ fun d μ1 => ∃ ds, d = .lst ds ∧ Ra ds μ1) : EvI X tg e ρ μ Ra :=
  PIw (pi_list pe_a) fun σ H Q ⟨α, E, q⟩ => ⟨_, h, α, E, fun v d α1 μ1 H1 ⟨ds, e, r⟩ E1 X1 hv => by
    subst e
    cases hv with
    | @lst p vs _ rd hl =>
      have s0 : ∀ α2 μ2 H2, Kp ⟨X.K, α1, μ1, H1⟩ ⟨X.K, α2, μ2, H2⟩ → SqL X.K H2 p vs := fun α2 μ2 H2 k => by
        rcases rd with ⟨n, rd⟩ | rd
        · rcases rd with z | ⟨o, z⟩
          · exact .inl (.inl (k.H _ _ z n))
          · exact .inl (.inr ⟨o, k.H _ _ z n⟩)
        · exact rd.sq
      refine ⟨p, rfl, ⟨vs, s0 _ _ _ E1.live.refl⟩, q _ ds α1 μ1 H1 r E1 X1 fun α2 μ2 H2 k l => ?_⟩
      have s2 : SqL X.K H2 p vs := s0 _ _ _ k
      refine ⟨fun i d hd => ?_, ⟨vs, s2, Nat.le_of_eq hl.length⟩⟩
      obtain ⟨x, h1, h2⟩ := hl.get hd
      refine ⟨⟨vs, x, s2, h1⟩, fun y H' hy => ?_⟩
      obtain ⟨rfl, hy⟩ := hy
      have z := hy vs s2
      rw [h1] at z
      cases z
      exact ⟨l.refl, l, k.has h2⟩⟩
theorem EvI.tup {tg : Expr} {Ra : Ca} (h : Ev X e ρ μ fun d μ1 => ∃ ds, d = .tup ds ∧ Ra ds μ1) : EvI X tg e ρ μ Ra :=
  PIw (pi_tup pe_a) fun σ H Q ⟨α, E, q⟩ => ⟨_, h, α, E, fun v d α1 μ1 H1 ⟨ds, e, r⟩ E1 X1 hv => by
    subst e
    have hv0 := hv
    cases hv with
    | @tup p vs _ rd hl =>
      refine ⟨p, rfl, ⟨vs, rd⟩, q _ ds α1 μ1 H1 r E1 X1 fun α2 μ2 H2 k l => ?_⟩
      have s2 : SqT X.K H2 p vs := by
        have nl : ∀ {xs}, Rd H1 p (.tup xs) → ¬ Wd.lv ⟨X.K, α1, μ1, H1⟩ p := fun {xs} r z => by
          have m := k.tu p z
          rcases r with r | ⟨o, r⟩
          · have r' : (Wd.mk X.K α1 μ1 H1).H p = _ := r
            rw [r'] at m
            exact m
          · have r' : (Wd.mk X.K α1 μ1 H1).H p = _ := r
            rw [r'] at m
            exact m
        rcases rd with r | r
        · have n := nl r
          rcases r with r | ⟨o, r⟩
          · exact .inl (.inl (k.H _ _ r n))
          · exact .inl (.inr ⟨o, k.H _ _ r n⟩)
        · exact .inr r
      refine ⟨fun i d hd => ?_, ⟨vs, s2, Nat.le_of_eq hl.length⟩⟩
      obtain ⟨x, h1, h2⟩ := hl.get hd
      refine ⟨⟨vs, x, s2, h1⟩, fun y H' hy => ?_⟩
      obtain ⟨rfl, hy⟩ := hy
      have z := hy vs s2
      rw [h1] at z
      cases z
      exact ⟨l.refl, l, k.has h2⟩⟩
/-- the numbers lo, lo + 1, .. -/
def rgD (lo : Int) (n : Nat) : List DV := (List.range n).map fun (i : Nat) => DV.int (lo + (i : Int))
theorem rgD_len (lo : Int) (n : Nat) : (rgD lo n).length = n := by simp [rgD]
theorem itr_ok {w : Wd} (lo : Int) (n : Nat) : ItOk X (Itr lo n) (rgD lo n) w := fun α μ H k l => by
  refine ⟨fun i d hd => ?_, Nat.le_of_eq (rgD_len lo n).symm⟩
  obtain ⟨hi, e⟩ := List.getElem?_eq_some_iff.mp hd
  rw [rgD_len] at hi
  refine ⟨hi, fun x H' y => ?_⟩
  obtain ⟨rfl, rfl⟩ := y
  have e' : d = .int (lo + (i : Int)) := by
    rw [← e]
    simp [rgD]
  rw [e']
  exact ⟨l.refl, l, .int⟩
theorem EvI.range1 {tg a : Expr} {Ra : Ca} {p : Pos} (hg : Gl X "range") (hm : X.mg "range" = none) (h : EvA X [a] ρ μ fun ds μ1 => ∃ j : Int, ds = [.int j] ∧ -(2 ^ 62) ≤ j ∧ j < 2 ^ 62 ∧ Ra (rgD 0 j.toNat) μ1) (hs : starEach [a] X.env = [(false, eval a X.env)] := by rfl) :
    EvI X tg (.Call (.Name "range" p) [a] [] pos) ρ μ Ra :=
  PIw (pi_range1 hg hm pa_a hs) fun σ H Q ⟨α, E, q⟩ => ⟨_, h, α, E, fun vs ds α1 μ1 H1 ⟨j, e, h1, h2, r⟩ E1 X1 hv => by
    subst e
    obtain ⟨v, rfl, hw⟩ := hasL1 hv
    cases hw
    exact ⟨j, rfl, h1, h2, q _ _ α1 μ1 H1 r E1 X1 (itr_ok 0 j.toNat)⟩⟩
/-- for t in e: the items ds, one turn each; I: what holds behind i of them -/
theorem St.for_ {tg : Expr} {body : List Stmt} (hp : PassesOwn (model X.prog X.w) X.A X.env X.xe) (hc : X.calm = true)
    (h : EvI X tg e ρ μ fun ds μ1 => ∃ I : Nat → RO → List MO → Prop, I 0 ρ μ1 ∧
      (∀ i d ρ' μ', ds[i]? = some d → I i ρ' μ' → EvG X tg d ρ' μ' fun ρ2 μ2 => Sts X body ρ2 μ2 fun o => match o with
        | .nx ρ3 μ3 => I (i + 1) ρ3 μ3
        | .ct ρ3 μ3 => I (i + 1) ρ3 μ3
        | .bk ρ3 μ3 => R (.nx ρ3 μ3)
        | .rt d μ3 => R (.rt d μ3)) ∧
      ∀ ρ' μ', I ds.length ρ' μ' → R (.nx ρ' μ')) (hs : ∀ x, foldedSetIterable e X.env x = pure x := by intro _; rfl) : St X (.For tg e body [] pos) ρ μ R :=
  PSw (ps_for hp hc pi_a pg_a pss_a hs) fun D σ H ⟨α, E, q⟩ => ⟨_, h, α, E, fun J ds α1 μ1 H1 ⟨I, i0, turn, fin⟩ E1 X1 ok => by
    let P : Nat → L2.St → Hp → Prop := fun i σ H => ∃ α μ ρ, I i ρ μ ∧ En ⟨X.K, α, μ, H⟩ σ ρ ∧ Kp ⟨X.K, α1, μ1, H1⟩ ⟨X.K, α, μ, H⟩
    refine ⟨fun i m σ H => m = ds.length - i ∧ i ≤ ds.length ∧ P i σ H, ⟨ds.length, by simp, Nat.zero_le _, α1, μ1, ρ, i0, E1, E1.live.refl⟩, ?_⟩
    rintro i m σ2 H2 ⟨rfl, hi, α2, μ2, ρ2, hI, E2, X2⟩
    obtain ⟨go, stop⟩ := ok α2 μ2 H2 X2 E2.live
    by_cases hlt : i < ds.length
    · obtain ⟨g1, g2⟩ := go i ds[i] (by simp [hlt])
      refine .inr ⟨g1, P (i + 1), fun σ' H' p' => ⟨ds.length - (i + 1), by omega, rfl, hlt, p'⟩, fun x H' y => ?_⟩
      obtain ⟨k, l, hx⟩ := g2 x H' y
      have X2' := X2.trans k
      refine ⟨_, turn i ds[i] ρ2 μ2 (by simp [hlt]) hI, α2, E2.ext k l, hx, fun ρ3 σ3 α3 μ3 H3 r3 E3 X3 => ⟨_, r3, ?_⟩⟩
      have X3' := X2'.trans X3
      refine ⟨α3, E3, fun ρ4 σ4 α4 μ4 H4 r4 E4 X4 => ⟨α4, μ4, ρ4, r4, E4, X3'.trans X4⟩, fun v d α4 μ4 H4 r4 l4 X4 hv => q.2.1 v d α4 μ4 H4 r4 l4 (X1.trans (X3'.trans X4)) hv,
        fun ρ4 σ4 α4 μ4 H4 r4 E4 X4 => q.1 ρ4 σ4 α4 μ4 H4 r4 E4 (X1.trans (X3'.trans X4)), fun ρ4 σ4 α4 μ4 H4 r4 E4 X4 => ⟨α4, μ4, ρ4, r4, E4, X3'.trans X4⟩⟩
    · have e : i = ds.length := by omega
      subst e
      exact .inl ⟨stop, q.1 ρ2 σ2 α2 μ2 H2 (fin ρ2 μ2 hI) E2 (X1.trans X2)⟩⟩
/-- while c: I n: what holds, n falls at each turn -/
theorem St.while_ {c : Expr} {body : List Stmt} (hp : PassesOwn (model X.prog X.w) X.A X.env X.xe) (I : Nat → RO → List MO → Prop) (h0 : ∃ n, I n ρ μ)
    (turn : ∀ n ρ' μ', I n ρ' μ' → EvT X c ρ' μ' fun k μ2 => if k = true then Sts X body ρ' μ2 fun o => match o with
        | .nx ρ3 μ3 => ∃ m, m < n ∧ I m ρ3 μ3
        | .ct ρ3 μ3 => ∃ m, m < n ∧ I m ρ3 μ3
        | .bk ρ3 μ3 => R (.nx ρ3 μ3)
        | .rt d μ3 => R (.rt d μ3)
      else R (.nx ρ' μ2)) : St X (.While c body [] pos) ρ μ R :=
  PSw (ps_while hp pt_a pss_a) fun D σ H ⟨α, E, q⟩ => by
    let P : Nat → L2.St → Hp → Prop := fun i σ H' => ∃ α' μ' ρ', I i ρ' μ' ∧ En ⟨X.K, α', μ', H'⟩ σ ρ' ∧ Kp ⟨X.K, α, μ, H⟩ ⟨X.K, α', μ', H'⟩
    obtain ⟨n0, h0⟩ := h0
    refine ⟨P, ⟨n0, α, μ, ρ, h0, E, E.live.refl⟩, ?_⟩
    rintro m σ2 H2 ⟨α2, μ2, ρ2, hI, E2, X2⟩
    refine ⟨_, turn m ρ2 μ2 hI, α2, E2, fun k α3 μ3 H3 r3 E3 X3 => ?_⟩
    have X3' := X2.trans X3
    cases k with
    | true =>
      refine iteT ⟨fun σ' H' => ∃ m', m' < m ∧ P m' σ' H', fun σ' H' h => h, _, (show Sts X body ρ2 μ3 _ from r3), ?_⟩
      refine ⟨α3, E3, fun ρ4 σ4 α4 μ4 H4 ⟨m', hm, r4⟩ E4 X4 => ⟨m', hm, α4, μ4, ρ4, r4, E4, X3'.trans X4⟩, fun v d α4 μ4 H4 r4 l4 X4 hv => q.2.1 v d α4 μ4 H4 r4 l4 (X3'.trans X4) hv,
        fun ρ4 σ4 α4 μ4 H4 r4 E4 X4 => q.1 ρ4 σ4 α4 μ4 H4 r4 E4 (X3'.trans X4), fun ρ4 σ4 α4 μ4 H4 ⟨m', hm, r4⟩ E4 X4 => ⟨m', hm, α4, μ4, ρ4, r4, E4, X3'.trans X4⟩⟩
    | false => exact iteF (q.1 ρ2 σ2 α3 μ3 H3 r3 E3 X3')
/-! ### forgetting and freezing -/
/-- what was made beside is forgotten -/
theorem Ev.cut {R : Cn} (h : Ev X e ρ μ fun d μ1 => DV.bel μ.length d = true ∧ (μ1.take μ.length).all (MO.bel μ.length) = true ∧ R d (μ1.take μ.length)) : Ev X e ρ μ R :=
  PEw h fun σ H Q ⟨α, E, q⟩ => ⟨α, E, fun v d α1 μ1 H1 ⟨h1, h2, r⟩ E1 X1 hv => by
    have k := Live.cut E.live E1.live X1
    have l := E1.live.cutL μ.length h2
    exact q v d _ _ _ r (E.ext k l) k (hv.cut h1)⟩
/-- a list that was made to be changed is told to stay as it is -/
theorem Ev.frz {R : Cn} (h : Ev X e ρ μ fun d μ1 => ∃ k ds, d = .mu k ∧ μ1[k]? = some (.lst ds) ∧ R (.lst ds) (μ1.set k .dead)) : Ev X e ρ μ R :=
  PEw h fun σ H Q ⟨α, E, q⟩ => ⟨α, E, fun v d α1 μ1 H1 ⟨k, ds, e, hk, r⟩ E1 X1 hv => by
    subst e
    cases hv with
    | mu ha =>
      obtain ⟨kp, l, nl⟩ := E1.live.freeze (k := k)
      obtain ⟨vs, h1, h2⟩ := E1.live.ob k _ _ ha hk
      exact q _ _ _ _ _ r (E1.ext kp l) (X1.trans kp) (.lst (.inl ⟨nl _ ha, .inl h1⟩) (kp.hasL h2))⟩
/-! ### xs.append(e) -/
theorem tyv_of {w : Wd} {p : Addr} {xs : List V} (h : w.H p = some (.lst xs)) : tyV w.K "list" (.ref p) w.H := .inl ⟨rfl, _, .of h⟩
theorem Ev.append {o : Expr} {R : Cn} {apos cpos : Pos} (h : Ev X o ρ μ fun dO μ1 => ∃ k xs, dO = .mu k ∧ μ1[k]? = some (.lst xs) ∧ EvA X [e] ρ μ1 fun ds μ2 => ∃ d ys, ds = [d] ∧ μ2[k]? = some (.lst ys) ∧ ys.length < sizeLine ∧ R .non (μ2.set k (.lst (ys ++ [d]))))
    (hbase : attributeBase o "append" X.env (eval o X.env) = eval o X.env := by rfl)
    (hfew : ((backTo cpos (starEach [e] X.env)).all (fun x => !x.1) && (backToKw cpos (keywordEach [] X.env)).all (fun x => x.1.isSome)
      && decide ([e].length + ([] : List Keyword).length + (if ([] : List Keyword).isEmpty then 0 else 1) < 30)) = true := by rfl)
    (hline : (apos.endLine == cpos.line) = true := by rfl) (hs : starEach [e] X.env = (false, eval e X.env) :: starEach [] X.env := by rfl) :
    Ev X (.Call (.Attribute o "append" apos) [e] [] cpos) ρ μ R :=
  PEw (pe_bm PySem.F.plainAttrs_list PySem.F.slot_list_append PySem.F.type_list_append mt_append pe_a pa_a hbase hfew hline hs rfl) fun σ H Q ⟨α, E, q⟩ => ⟨_, h, α, E, fun v dO α1 μ1 H1 ⟨k, xs, e1, hk, h1⟩ E1 X1 hv => by
    subst e1
    cases hv with
    | mu ha =>
      obtain ⟨vs, z1, z2⟩ := E1.live.ob k _ _ ha hk
      refine ⟨tyv_of (w := ⟨X.K, α1, μ1, H1⟩) z1, _, h1, α1, E1, fun us ds α2 μ2 H2 ⟨d, ys, e2, hk2, hsz, r⟩ E2 X2 hus => ?_⟩
      subst e2
      obtain ⟨u, rfl, hu⟩ := hasL1 hus
      have ha2 := X2.α _ _ ha
      obtain ⟨vs2, y1, y2⟩ := E2.live.ob k _ _ ha2 hk2
      refine ⟨_, vs2, u, rfl, rfl, y1, by rw [y2.length]; exact hsz, ?_⟩
      obtain ⟨kp, l⟩ := E2.live.put (o := .lst (vs2 ++ [u])) (m := .lst (ys ++ [d])) ha2 hk2 (fun z => nomatch z) fun kp => ⟨_, upd_same, HasL.app (kp.hasL y2) (.cons (kp.has hu) .nil)⟩
      exact q _ _ _ _ _ r (E2.ext kp l) (X1.trans (X2.trans kp)) .non⟩
/-! ### xs[lo:hi] of a list -/
abbrev Cp := Option Int → List MO → Prop
def tEvP (X : Cx) (ρ : RO) (μ : List MO) (R : Cp) : TO := fun σ H Q => ∃ α, En ⟨X.K, α, μ, H⟩ σ ρ ∧ ∀ z α' μ' H', R z μ' → En ⟨X.K, α', μ', H'⟩ σ ρ → Kp ⟨X.K, α, μ, H⟩ ⟨X.K, α', μ', H'⟩ → Q z H'
def EvP (X : Cx) (e : Option Expr) (ρ : RO) (μ : List MO) (R : Cp) : Prop := PO X e (tEvP X ρ μ R)
def aP (X : Cx) (e : Option Expr) : TO := fun σ H Q => ∃ t, PO X e t ∧ t σ H Q
theorem po_a {e : Option Expr} : PO X e (aP X e) := ⟨fun pins s σ H Q I ⟨_, h, q⟩ => h.run pins s σ H Q I q⟩
theorem POw {e : Option Expr} {t t' : TO} (h : PO X e t) (k : ∀ σ H Q, t' σ H Q → t σ H Q) : PO X e t' := ⟨fun pins s σ H Q I q => h.run pins s σ H Q I (k σ H Q q)⟩
theorem EvP.none {R : Cp} (h : R none μ) : EvP X none ρ μ R := POw po_none fun σ H Q ⟨α, E, q⟩ => q _ α μ H h E E.live.refl
theorem EvP.some {R : Cp} (h : Ev X e ρ μ fun d μ1 => ∃ i, d = .int i ∧ R (some i) μ1) : EvP X (some e) ρ μ R :=
  POw (po_some pe_a) fun σ H Q ⟨α, E, q⟩ => ⟨_, h, α, E, fun v d α1 μ1 H1 ⟨i, e, r⟩ E1 X1 hv => by
    subst e
    cases hv
    exact ⟨i, rfl, q _ α1 μ1 H1 r E1 X1⟩⟩
def cutD (xs : List DV) (lo hi : Option Int) : List DV := (xs.drop (HT.sIx xs.length 0 lo)).take (HT.sIx xs.length xs.length hi - HT.sIx xs.length 0 lo)
theorem cut_has {w : Wd} {vs : List V} {ds : List DV} (h : HasL w vs ds) (lo hi : Option Int) : HasL w (cutV vs lo hi) (cutD ds lo hi) := by
  unfold cutV cutD
  rw [h.length]
  exact HasL.take _ (HasL.drop _ h)
theorem Ev.sliceL {a : Expr} {lo hi : Option Expr} {p2 : Pos} {R : Cn} (h : Ev X a ρ μ fun d μ1 => ∃ ds, d = .lst ds ∧ EvP X lo ρ μ1 fun l μ2 => EvP X hi ρ μ2 fun u μ3 => R (.lst (cutD ds l u)) μ3) : Ev X (.Subscript a (.Slice lo hi none p2) pos) ρ μ R :=
  PEw (pe_slice sl_list pe_a po_a po_a) fun σ H Q ⟨α, E, q⟩ => ⟨_, h, α, E, fun v d α1 μ1 H1 ⟨ds, e, h1⟩ E1 X1 hv => by
    subst e
    refine ⟨_, h1, α1, E1, fun l α2 μ2 H2 h2 E2 X2 => ⟨_, h2, α2, E2, fun u α3 μ3 H3 h3 E3 X3 => ?_⟩⟩
    have hv3 := X3.has (X2.has hv)
    cases hv3 with
    | @lst p vs _ rd hl =>
      have s3 : SqL X.K H3 p vs := by
        rcases rd with ⟨_, rd⟩ | rd
        · exact .inl rd
        · exact rd.sq
      refine ⟨p, vs, rfl, s3, fun b nb => ?_⟩
      obtain ⟨k, l'⟩ := E3.live.lay (o := .lst (cutV vs l u)) nb
      exact q _ _ _ _ _ h3 (E3.ext k l') (X1.trans (X2.trans (X3.trans k))) (.lst (.inl ⟨E3.live.fresh nb, .inl upd_same⟩) (k.hasL (cut_has hl l u)))⟩
end
end
end Eg

namespace Eg
open PySem PySem.Spec PyProof.Rows L2
/-! ### defs, called where nothing is being shown -/
structure FnG (P : Program) (w : World) (K : PySem.W.Frag) (mg : Str → Option Value) (base : Heap) (k : Nat) (f : Addr) (fd : FuncData) (ps : List Str) (sp : Sp) : Prop where
  len : ∀ vs H Q E, sp vs H Q E → vs.length = ps.length
  go : ∀ (A : Around) (outer : List Env) (s : Shared) (H : Hp) (args : Args) (us : List Value) (vs : List V) (Q : VK), A.guards = some [] → Room k A → Env0 P w K mg base A outer s H →
    BindsTo s fd args (ps.zip us) → Vals vs us → sp vs H Q E0 → codeAny (model P w) A (.call (.ref f) args) (CR CX0 outer P w H s Q E0) s
theorem guards_in {A : Around} (env : PySem.Env) (h : A.guards = some []) : (A.deeper env).guards = some [] := by
  first
    | exact h
    | (simpa [Around.deeper] using h)
/-- the context of a def's body -/
abbrev bx (P : Program) (w : World) (K : PySem.W.Frag) (mg : Str → Option Value) (base : Heap) (N : List Str) (qual : Str) (scope : Scope) (f : Addr) (cd : Value) (A : Around) (outer : List PySem.Env) (s : Shared) (H : Hp) : Cx :=
  (cxOf CX0 P w K mg base N qual scope f cd A outer s H E0).nox
section
variable {P : Program} {w : World} {K : PySem.W.Frag} {mg : Str → Option Value} {base : Heap}
theorem FnG.of {x qual : Str} {params : Arguments} {body : List Stmt} {scope : Scope} {dvs : List V} {kws : List (Str × V)} {f : Addr} {fd : FuncData} {N ps : List Str} {k : Nat} {sp : Sp}
    (F : FunD K x qual params body scope dvs kws f fd) (S : FnScope N ps scope) (len : ∀ vs H Q E, sp vs H Q E → vs.length = ps.length)
    (hb : ∀ (cd : Value) (A : Around) (outer : List PySem.Env) (s : Shared) (H : Hp) (vs : List V) (Q : VK), (A.deeper (envOfC qual scope s.heap.objs.size f cd)).guards = some [] → Room k (A.deeper (envOfC qual scope s.heap.objs.size f cd)) → sp vs H Q E0 →
      ∃ t, PSs (bx P w K mg base N qual scope f cd A outer s H) body t ∧ t { nx := fun _ H' => Q .non H', rt := Q } (L2.start N vs) H) : FnG P w K mg base (k + 1) f fd ps sp := by
  obtain ⟨oc, od, dV, kV, doc, pm, an, cd, ct, osl, rfl, lk, hcd, _, _⟩ := F.ex
  refine ⟨len, ?_⟩
  intro A outer s H args us vs Q hg hr e0 hbind rv hsp
  have room := hr.deeper (envOfC qual scope s.heap.objs.size f cd)
  obtain ⟨t, ht, hq⟩ := hb cd A outer s H vs Q (guards_in _ hg) room hsp
  have keep : ∀ b o, base.get? b = some o → s.heap.get? b = some o := fun b o z => (e0.bs b o z).1
  have KX : K.In s.heap := e0.mod.kin.keeps keep
  refine codeAny_call_function hr.depth (KX _ _ lk) rfl S.co S.gen rfl (PySem.W.codeRec_of KX hcd) (hbind _ _ _ _ ?_)
  have kinds : ∀ y ∈ ps.zip us, scope.names.lookup y.1 = some .local ∨ (scope.names.lookup y.1 = some .cell ∧ ((cellsFrom (s.heap.objs.size + 1) scope.names []).lookup y.1).isSome = true) := by
    rintro ⟨n, u⟩ hy
    have z := S.par n (List.of_mem_zip hy).1
    exact z.imp id fun z => ⟨z, PySem.W.cellsFrom_some _ _ _ (.inl z)⟩
  refine wpAny_newFunctionEnv_cells S.kind kinds fun env he s1 ic => ?_
  cases he
  refine ⟨(e0.mod.nolimit.keeps keep).keeps ic.toInCall.keep, codeAny_func ?_⟩
  have I := inv_start (CX := CX0) (E := E0) (qual := qual) (f := f) (cd := cd) S hr.hd e0 (len _ _ _ _ hsp) rv ic
  refine wpAny_mono (ht.run [] s1 (L2.start N vs) H _ (I.wish fun _ _ => False) hq) (fun fl s' q => ?_) (fun _ _ z => z.elim)
  cases fl with
  | ret u =>
    obtain ⟨v, σ', H', J, r, q⟩ := q
    exact ⟨v, H', J.os, J.bare, J.base, J.hok, r, q⟩
  | next =>
    obtain ⟨σ', H', J, q⟩ := q
    exact ⟨.non, H', J.os, J.bare, J.base, J.hok, rfl, q⟩
  | brk => exact (by obtain ⟨_, _, _, q⟩ := q; exact False.elim q)
  | cont => exact (by obtain ⟨_, _, _, q⟩ := q; exact False.elim q)
end
/-! ### promises over data -/
abbrev Ctr := List DV → List MO → Cn → Prop
def SpD (K : PySem.W.Frag) (C : Ctr) : Sp := fun vs H Q _ => ∃ α μ ds R, Live ⟨K, α, μ, H⟩ ∧ HasL ⟨K, α, μ, H⟩ vs ds ∧ C ds μ R ∧
  ∀ v d α' μ' H', R d μ' → Live ⟨K, α', μ', H'⟩ → Kp ⟨K, α, μ, H⟩ ⟨K, α', μ', H'⟩ → Has ⟨K, α', μ', H'⟩ v d → Q v H'
/-- the def of a name, its promise, how it is called -/
def Fn (P : Program) (w : World) (K : PySem.W.Frag) (mg : Str → Option Value) (base : Heap) (x : Str) (k : Nat) (C : Ctr) : Prop :=
  ∃ f fd ps, FnG P w K mg base k f fd ps (SpD K C) ∧ mg x = some (.ref f) ∧ PySem.W.keepIn K (.ref f) = true ∧ Binds K fd ps []
theorem Fn.mono {P : Program} {w : World} {K : PySem.W.Frag} {mg : Str → Option Value} {base : Heap} {x : Str} {j k : Nat} {C : Ctr} (F : Fn P w K mg base x j C) (h : j ≤ k) : Fn P w K mg base x k C := by
  obtain ⟨f, fd, ps, ⟨l, g⟩, r⟩ := F
  exact ⟨f, fd, ps, ⟨l, fun A outer s H args us vs Q hg hr => g A outer s H args us vs Q hg (hr.mono h)⟩, r⟩
/-- what is wanted behind a body; what was made beside may be forgotten -/
def fin (n : Nat) (R : Cn) : Co := fun o => match o with
  | .rt d μ => R d μ ∨ (DV.bel n d = true ∧ (μ.take n).all (MO.bel n) = true ∧ R d (μ.take n))
  | .nx _ μ => R .non μ ∨ ((μ.take n).all (MO.bel n) = true ∧ R .non (μ.take n))
  | _ => False
def startD (N : List Str) (ds : List DV) : RO := ds.map some ++ List.replicate (N.length - ds.length) none
theorem start_en {w : Wd} {N : List Str} {vs : List V} {ds : List DV} (l : Live w) (h : HasL w vs ds) : En w (L2.start N vs) (startD N ds) := by
  have hl := h.length
  refine ⟨l, ?_, fun i d e => ?_⟩
  · unfold L2.start startD
    simp [hl]
  · unfold startD at e
    unfold L2.start
    by_cases hi : i < ds.length
    · rw [List.getElem?_append_left (by simpa using hi), List.getElem?_map] at e
      rw [List.getElem?_append_left (by simpa [hl] using hi), List.getElem?_map]
      cases q : ds[i]? with
      | none => rw [q] at e; cases e
      | some d' =>
        rw [q] at e
        cases e
        obtain ⟨v, h1, h2⟩ := h.get q
        exact ⟨v, by rw [h1]; rfl, h2⟩
    · rw [List.getElem?_append_right (by simpa using Nat.le_of_not_lt hi), List.getElem?_replicate] at e
      split at e <;> cases e
section
variable {P : Program} {w : World} {K : PySem.W.Frag} {mg : Str → Option Value} {base : Heap}
/-- THE RULE for a def -/
theorem Fn.mk {x : Str} {params : Arguments} {body : List Stmt} {scope : Scope} {kws : List (Str × V)} {f : Addr} {fd : FuncData} {N ps : List Str} {k : Nat} {C : Ctr}
    (F : FunD K x x params body scope [] kws f fd) (S : FnScope N ps scope) (hm : mg x = some (.ref f))
    (hbd : ∀ (kV doc pm : Value) (an : Option Addr) (cdv ct : Value) (us : List Value), us.length = ps.length → bindArgs (PySem.W.fnOf x x params body scope .none kV doc pm an cdv ct) ⟨us, []⟩ = pure (ps.zip us))
    (len : ∀ ds μ R, C ds μ R → ds.length = ps.length)
    (hb : ∀ (cd : Value) (A : Around) (outer : List PySem.Env) (s : Shared) (H : Hp), (bx P w K mg base N x scope f cd A outer s H).A.guards = some [] → Room k (bx P w K mg base N x scope f cd A outer s H).A → (bx P w K mg base N x scope f cd A outer s H).N.Nodup →
      ∀ ds μ R, C ds μ R → Sts (bx P w K mg base N x scope f cd A outer s H) body (startD N ds) μ (fin μ.length R)) : Fn P w K mg base x (k + 1) C := by
  refine ⟨f, fd, ps, FnG.of F S (fun vs H Q E => ?_) (fun cd A outer s H vs Q hg hr => ?_), hm, F.kp, F.bindsN hbd⟩
  · rintro ⟨α, μ, ds, R, l, h, c, _⟩
    rw [h.length]
    exact len _ _ _ c
  · rintro ⟨α, μ, ds, R, l, h, c, q⟩
    refine ⟨_, hb cd A outer s H hg hr S.nd ds μ R c, α, start_en l h, ?_, ?_, ?_, ?_⟩
    · intro ρ' σ' α' μ' H' r E' k'
      rcases r with r | ⟨r1, r2⟩
      · exact q _ _ α' μ' H' r E'.live k' .non
      · exact q _ _ _ _ _ r2 (E'.live.cutL μ.length r1) (Live.cut l E'.live k') .non
    · intro v d α' μ' H' r l' k' hv
      rcases r with r | ⟨r0, r1, r2⟩
      · exact q _ _ α' μ' H' r l' k' hv
      · exact q _ _ _ _ _ r2 (l'.cutL μ.length r1) (Live.cut l l' k') (hv.cut r0)
    · intro _ _ _ _ _ r
      exact r.elim
    · intro _ _ _ _ _ r
      exact r.elim
end
/-! ### calls -/
section
variable {X : Cx} {e : Expr} {es : List Expr} {ρ : RO} {μ : List MO} {pos p : Pos} {R : Cn} {x : Str} {k : Nat} {C : Ctr}
theorem Ev.call (F : Fn X.prog X.w X.K X.mg X.base x k C) (hA : X.A.guards = some []) (hr : Room k X.A) (hg : Gl X x) (h : EvA X (e :: es) ρ μ fun ds μ1 => C ds μ1 R)
    (hdb : (x == ("__debug__" : Str)) = false := by decide) (he : starEach (e :: es) X.env = (false, eval e X.env) :: starEach es X.env := by rfl) (hpl : (backTo pos (starEach es X.env)).any (·.1) = false := by rfl) :
    Ev X (.Call (.Name x p) (e :: es) [] pos) ρ μ R := by
  obtain ⟨f, fd, ps, G, hm, hk, hb⟩ := F
  refine ⟨fun pins s σ H Q I ⟨α, E, q⟩ => wpAny_Call_Name_kw (ld_glob I hg hm ?_ hdb)⟩
  have ha : PA X (e :: es) (tEvA X ρ μ fun ds μ1 => C ds μ1 R) := h
  refine PySem.W.callWith_K (h₀ := X.base) I.ok.mod.kin hk (thn (ha.run pos pins s σ H (fun vs H1 => SpD X.K C vs H1 (fun v H' => Q v H') E0) I ⟨α, E, ?_⟩) ?_) he hpl
  · intro vs ds α1 μ1 H1 c E1 X1 hv
    exact ⟨α1, μ1, ds, R, E1.live, hv, c, fun v d α' μ' H' r l k' hd => q v d α' μ' H' r (E1.ext k' l) (X1.trans k') hd⟩
  · rintro us s1 ⟨vs, H1, I1, rv, sp⟩
    refine ⟨I1.kIn, ?_⟩
    have hl : us.length = ps.length := rv.length ▸ G.len _ _ _ _ sp
    refine wpAny_call (codeAny_mono (G.go X.A X.stack s1 H1 ⟨us, []⟩ us vs Q hA hr I1.env0 ?_ rv sp) fun r s2 hq => ?_)
    · have z := hb s1 us I1.kIn (by rw [List.append_nil]; exact hl)
      rw [List.append_nil] at z
      exact z
    · cases r with
      | error er => exact False.elim hq
      | ok fl =>
        cases fl with
        | ret u => exact I1.after hq
        | next => exact False.elim hq
        | brk => exact False.elim hq
        | cont => exact False.elim hq
end
end Eg

namespace Eg
open PySem PySem.Spec PyProof.Rows L2
/-! ### [e for x in xs] -/
section
variable {X : Cx} {ρ : RO} {μ : List MO} {pos : Pos} {R : Cn}
abbrev blkX (X : Cx) (s : Shared) (H : Hp) (scope : Scope) (C : Addr) (cl : List (Str × Addr)) (fp : List Addr) : Cx := X.blk s H scope (compEnvC scope cl C X.env) fp
def aB (X : Cx) (scope : Scope) (e : Expr) : TE := fun σ H Q => ∃ t, (∀ s H' C cl fp, PE (blkX X s H' scope C cl fp) e t) ∧ t σ H Q
def aBT (X : Cx) (scope : Scope) (ifs : List Expr) : TT := fun σ H Q => ∃ t, (∀ s H' C cl fp, PTs (blkX X s H' scope C cl fp) ifs t) ∧ t σ H Q
/-- the walk of a comprehension by what holds behind j items: I j what is made so far -/
theorem lc_S {elt iter : Expr} {ifs : List Expr} {scope : Scope} {x : Str} {px : Pos} (i : Nat)
    (h : EvI X (.Name x px) iter ρ μ fun ds μ1 => ds.length ≤ sizeLine ∧ ∃ I : Nat → List DV → List MO → Prop, I 0 [] μ1 ∧
      (∀ j d acc μ2, ds[j]? = some d → μ2.length = μ1.length → I j acc μ2 → ∃ tt : RO → List MO → Ct → TT, (∀ s H C cl fp, PTs (blkX X s H scope C cl fp) ifs (tt (ρ.set i (some d)) (μ2 ++ [.lst acc]) fun b μ3 =>
        if b = true then ∀ s H C cl fp, Ev (blkX X s H scope C cl fp) elt (ρ.set i (some d)) μ3 fun y μ5 => ∃ μ4, μ5 = μ4 ++ [.lst acc] ∧ μ4.length = μ1.length ∧ I (j + 1) (acc ++ [y]) μ4
        else ∃ μ4, μ3 = μ4 ++ [.lst acc] ∧ μ4.length = μ1.length ∧ I (j + 1) acc μ4)) ∧ ∀ ρ' μ' Rt σ H Q, tEvT X ρ' μ' Rt σ H Q → tt ρ' μ' Rt σ H Q) ∧
      ∀ acc μ2, μ2.length = μ1.length → I ds.length acc μ2 → R (.lst acc) (μ2 ++ [.dead]))
    (σ : L2.St) (H : Hp) (Q : VK) (q : tEv X ρ μ R σ H Q) : tLc (aI X (.Name x px) iter) (gName i) (aBT X scope ifs) (aB X scope elt) [i] σ H Q := by
  obtain ⟨α, E, q⟩ := q
  refine ⟨_, h, α, E, ?_⟩
  rintro J ds α1 μ1 H1 ⟨hz, I, i0, turn, done⟩ E1 X1 ok D hD
  have hlen : α1.length = μ1.length := E1.live.len
  obtain ⟨kM, lM, eM⟩ := E1.live.layM (o := .lst []) (m := .lst []) hD (fun _ k => ⟨[], upd_same, .nil⟩)
  let P : Nat → Hp → Prop := fun j H' => ∃ acc μ' α', acc.length ≤ j ∧ I j acc μ' ∧ μ'.length = μ1.length ∧ α'[μ1.length]? = some D ∧ Live ⟨X.K, α', μ' ++ [.lst acc], H'⟩ ∧ Kp ⟨X.K, α1, μ1, H1⟩ ⟨X.K, α', μ' ++ [.lst acc], H'⟩
  refine ⟨fun j m H' => m = ds.length - j ∧ j ≤ ds.length ∧ P j H', ⟨ds.length, by simp, Nat.zero_le _, [], μ1, α1 ++ [D], Nat.le_refl _, i0, rfl, eM, lM, kM⟩, ?_⟩
  rintro j m H2 ⟨rfl, hj, acc, μ2, α2, ha, hI, hμ, hα, l2, k2⟩
  obtain ⟨go, stop⟩ := ok α2 _ H2 k2 l2
  have kD : (μ2 ++ [MO.lst acc])[μ1.length]? = some (.lst acc) := by
    rw [List.getElem?_append_right (by omega), hμ, Nat.sub_self]
    rfl
  have setl : ∀ (μ4 : List MO) (m m' : MO), μ4.length = μ1.length → (μ4 ++ [m]).set μ1.length m' = μ4 ++ [m'] := fun μ4 m m' e => by
    rw [← e]
    simp
  by_cases hlt : j < ds.length
  · obtain ⟨g1, g2⟩ := go j ds[j] (by simp [hlt])
    refine .inr ⟨g1, P (j + 1), fun H' p => ⟨ds.length - (j + 1), by omega, rfl, hlt, p⟩, fun y H3 yy => ?_⟩
    obtain ⟨ky, ly, hy⟩ := g2 y H3 yy
    obtain ⟨tt, ht, hm⟩ := turn j ds[j] acc μ2 (by simp [hlt]) hμ hI
    show wipe ((wipe σ [i]).set i (some y)) [i] = wipe σ [i] ∧ _
    refine ⟨by simp [wipe], _, ht, ?_⟩
    have k3 := k2.trans ky
    have E3 : En ⟨X.K, α2, μ2 ++ [.lst acc], H3⟩ ((wipe σ [i]).set i (some y)) (ρ.set i (some ds[j])) := by
      have z := ((E1.ext k3 ly).wipe i).set i hy
      have eρ : (ρ.set i none).set i (some ds[j]) = ρ.set i (some ds[j]) := by simp
      rw [eρ] at z
      exact z
    refine hm _ _ _ _ _ _ ⟨α2, E3, ?_⟩
    intro b α3 μ3 H4 r3 E4 k4
    cases b with
    | false =>
      refine iteF ?_
      obtain ⟨μ4, rfl, h4, hI4⟩ := r3
      exact ⟨acc, μ4, α3, Nat.le_succ_of_le ha, hI4, h4, k4.α _ _ hα, E4.live, k3.trans k4⟩
    | true =>
      refine iteT ⟨tEv X (ρ.set i (some ds[j])) μ3 _, r3, α3, E4, ?_⟩
      rintro v d α5 μ5 H5 ⟨μ4, rfl, h4, hI4⟩ E5 k5 hv
      have hα5 := k5.α _ _ (k4.α _ _ hα)
      have kD5 : (μ4 ++ [MO.lst acc])[μ1.length]? = some (.lst acc) := by
        rw [List.getElem?_append_right (by omega), h4, Nat.sub_self]
        rfl
      obtain ⟨vs, e1, e2⟩ := E5.live.ob _ _ _ hα5 kD5
      have hl := e2.length
      refine ⟨vs, e1, by omega, ?_⟩
      obtain ⟨k6, l6⟩ := E5.live.put (o := .lst (vs ++ [v])) (m := .lst (acc ++ [d])) hα5 kD5 (fun z => nomatch z) fun k => ⟨_, upd_same, HasL.app (k.hasL e2) (.cons (k.has hv) .nil)⟩
      rw [setl _ _ _ h4] at k6 l6
      exact ⟨acc ++ [d], μ4, α5, by rw [List.length_append]; exact Nat.succ_le_succ ha, hI4, h4, hα5, l6, k3.trans (k4.trans (k5.trans k6))⟩
  · have e : j = ds.length := by omega
    subst e
    refine .inl ⟨stop, ?_⟩
    obtain ⟨vs, e1, e2⟩ := l2.ob _ _ _ hα kD
    obtain ⟨k6, l6, nl⟩ := l2.freeze (k := μ1.length)
    rw [setl _ _ _ hμ] at k6 l6 nl
    have k7 := k2.trans k6
    exact q _ _ _ _ _ (done acc μ2 hμ hI) (E1.ext k7 l6) (X1.trans k7) (.lst (.inl ⟨nl _ hα, .inl e1⟩) (k6.hasL e2))
theorem pe_aB {scope : Scope} {e : Expr} (s : Shared) (H : Hp) (C : Addr) (cl : List (Str × Addr)) (fp : List Addr) : PE (blkX X s H scope C cl fp) e (aB X scope e) := ⟨fun pins s' σ H' Q I ⟨_, h, q⟩ => (h s H C cl fp).run pins s' σ H' Q I q⟩
theorem pts_aB {scope : Scope} {ifs : List Expr} (s : Shared) (H : Hp) (C : Addr) (cl : List (Str × Addr)) (fp : List Addr) : PTs (blkX X s H scope C cl fp) ifs (aBT X scope ifs) := ⟨fun pins s' σ H' Q I ⟨_, h, q⟩ => (h s H C cl fp).run pins s' σ H' Q I q⟩
/-- what a comprehension without a test asks -/
def LcOk (X : Cx) (scope : Scope) (elt iter : Expr) (x : Str) (px : Pos) (i : Nat) (ρ : RO) (μ : List MO) (R : Cn) : Prop :=
  EvI X (.Name x px) iter ρ μ fun ds μ1 => ds.length ≤ sizeLine ∧ ∃ I : Nat → List DV → List MO → Prop, I 0 [] μ1 ∧
      (∀ j d acc μ2, ds[j]? = some d → μ2.length = μ1.length → I j acc μ2 → ∀ s H C cl fp, Ev (blkX X s H scope C cl fp) elt (ρ.set i (some d)) (μ2 ++ [.lst acc]) fun y μ5 => ∃ μ4, μ5 = μ4 ++ [.lst acc] ∧ μ4.length = μ1.length ∧ I (j + 1) (acc ++ [y]) μ4) ∧
      ∀ acc μ2, μ2.length = μ1.length → I ds.length acc μ2 → R (.lst acc) (μ2 ++ [.dead])
theorem EvI.mono {tg e : Expr} {Ra Ra' : Ca} (h : EvI X tg e ρ μ Ra) (k : ∀ ds μ', Ra ds μ' → Ra' ds μ') : EvI X tg e ρ μ Ra' :=
  PIw h fun σ H Q ⟨α, E, q⟩ => ⟨α, E, fun J ds α' μ' H' r => q J ds α' μ' H' (k _ _ r)⟩
theorem lc_S0 {elt iter : Expr} {scope : Scope} {x : Str} {px : Pos} {i : Nat} (h : LcOk X scope elt iter x px i ρ μ R) (σ : L2.St) (H : Hp) (Q : VK) (q : tEv X ρ μ R σ H Q) :
    tLc (aI X (.Name x px) iter) (gName i) (aBT X scope []) (aB X scope elt) [i] σ H Q :=
  lc_S i (EvI.mono h fun ds μ1 ⟨hz, I, i0, turn, done⟩ => ⟨hz, I, i0, fun j d acc μ2 h1 h2 h3 => ⟨fun ρ' μ' Rt σ H Q => ∃ α, En ⟨X.K, α, μ', H⟩ σ ρ' ∧ ∀ b α' μ'' H', Rt b μ'' → En ⟨X.K, α', μ'', H'⟩ σ ρ' → Kp ⟨X.K, α, μ', H⟩ ⟨X.K, α', μ'', H'⟩ → Q b H',
    fun s H C cl fp => ⟨fun pins s' σ H' Q' J ⟨α, E, q⟩ => pts_nil.run pins s' σ H' Q' J (q true α _ H' (turn j d acc μ2 h1 h2 h3) E E.live.refl)⟩, fun _ _ _ _ _ _ z => z⟩, done⟩) σ H Q q
theorem Ev.lc {elt iter : Expr} {scope : Scope} {x : Str} {px : Pos} (i : Nat) (hc : X.calm = true) (hN : X.N.Nodup) (hi : X.N[i]? = some x) (ok : BlkOk X.N X.env.scope scope [(x, i)])
    (hl : ∀ (s : Shared) (H : Hp) (C : Addr) (cl : List (Str × Addr)) (fp : List Addr), Loc (blkX X s H scope C cl fp).env.scope x ∧ ((blkX X s H scope C cl fp).fn x = true ∨ (blkX X s H scope C cl fp).env.scope.names.lookup x = some .local))
    (h : LcOk X scope elt iter x px i ρ μ R) (hs : ∀ x, foldedSetIterable iter X.env x = pure x := by intro _; rfl) : Ev X (.ListComp elt [⟨.Name x px, iter, [], 0⟩] scope pos) ρ μ R :=
  PEw (pe_lc (own := [(x, i)]) (g := gName i) hc hN pi_a ok (fun s H C cl fp => pg_name hN hi (hl s H C cl fp).1 (hl s H C cl fp).2) (fun s H C cl fp => pts_aB s H C cl fp) (fun s H C cl fp => pe_aB s H C cl fp) hs) (lc_S0 h)
end
/-! ### a law's end -/
section
variable {P : Program} {w : World} {K : PySem.W.Frag} {mg mb : Str → Option Value} {k : Nat} {fa a : Addr} {fd : FuncData} {x : Str} {sp : Sp} {s₁ : Shared} {vs : List Value} {ns : List Int}
/-- the heap at the call: the script alone is told of, and not that if the text itself holds it -/
theorem law_goG (KX : K.In s₁.heap) (hns : s₁.heap.Ns mainGlobals mg) (hbl : s₁.heap.Ns builtinsNs mb) (hbb : ∀ x : Str, x ≠ "__name__" → mb x = bootBuiltins x) (hlim : s₁.heap.NoLimit) (hgen : s₁.gens = #[])
    (ha : s₁.heap.get? a = some { cls := .type "list", data := .seq vs.toArray }) (hi : IntsAre vs ns) (hl : ns.length ≤ sizeLine) (hr : Room k callerA)
    (F : ∀ base : Heap, K.In base → base.Ns mainGlobals mg → FnG P w K mg base k fa fd [x] sp) (hbind : ∀ (s : Shared) (u : Value), BindsTo s fd ⟨[u], []⟩ [(x, u)])
    (hsp : ∀ H : Hp, ((∀ b, H b = none) ∧ WrL K a (ns.map V.int)) ∨ (∃ o, H = fun b => if b = a then some (.frz o (.lst (ns.map V.int))) else none) → sp [.ref a] H (fun v _ => v = .bl true) E0) :
    codeAny (model P w) callerA (.call (.ref fa) ⟨[.ref a], []⟩) (fun r s' => r = .ok (.ret (.bool true)) ∧ OldK s₁.heap s'.heap ∧ s'.os = s₁.os ∧ AllBare s'.gens) s₁ := by
  have rv := vals_ints hi
  -- whatever H tells: at most of a, and of a as it stands
  have main : ∀ H : Hp, (∀ b, b ≠ a → H b = none) → (∀ u, H a = some u → u = .frz { cls := .type "list", data := .seq vs.toArray } (.lst (ns.map V.int))) → (H a = none ∨ K.lookup a = none) → sp [.ref a] H (fun v _ => v = .bl true) E0 →
      codeAny (model P w) callerA (.call (.ref fa) ⟨[.ref a], []⟩) (fun r s' => r = .ok (.ret (.bool true)) ∧ OldK s₁.heap s'.heap ∧ s'.os = s₁.os ∧ AllBare s'.gens) s₁ := by
    intro H h1 h2 h3 hq
    have ok : HOk P w H s₁.heap := by
      intro b u e
      have eb : b = a := Classical.byContradiction fun z => by
        rw [h1 b z] at e
        cases e
      subst eb
      have eu := h2 u e
      subst eu
      exact ⟨ha, by rw [List.length_map]; exact hl, vs, 0, rv, ha⟩
    have none_of_dict : ∀ {b : Addr} {o : Obj} {es : Array DictEntry} {ep : Nat}, s₁.heap.get? b = some o → o.data = .dict es ep → H b = none := by
      intro b o es ep e d
      refine h1 b fun z => ?_
      rw [z, ha] at e
      have := Option.some.inj e
      subst this
      cases d
    have ns_of : ∀ {b : Addr} {m : Str → Option Value}, s₁.heap.Ns b m → (hidT s₁.heap H).Ns b m := by
      rintro b m ⟨o, es, ep, e, d, r⟩
      exact ⟨o, es, ep, hidT_get e (none_of_dict e d), d, r⟩
    have kin : K.In (hidT s₁.heap H) := by
      intro b o e
      refine hidT_get (KX b o e) ?_
      by_cases z : b = a
      · subst z
        rcases h3 with h3 | h3
        · exact h3
        · rw [h3] at e
          cases e
      · exact h1 b z
    obtain ⟨mc, c1, c2⟩ := hlim
    have env0 : Env0 P w K mg (hidT s₁.heap H) callerA [] s₁ H :=
      ⟨rfl, ⟨kin, ns_of hns, ⟨mb, ns_of hbl, hbb⟩, mc, ns_of c1, c2⟩, fun _ _ e => of_hidT e, Nat.le_of_eq (hidT_size _ _), trivial, fun b z => absurd (show b ∈ ([] : List Addr) from z) List.not_mem_nil, ok, .of_eq hgen⟩
    refine codeAny_mono ((F _ kin (ns_of hns)).go callerA [] s₁ H ⟨[.ref a], []⟩ [.ref a] [.ref a] _ rfl hr env0 (hbind s₁ (.ref a)) (.cons rfl .nil) hq) fun r s' z => ?_
    match r, z with
    | .ok (.ret u), ⟨v, H', os, bare, un, ok', rv', q⟩ =>
      have q' : v = .bl true := q
      subst q'
      have eu : u = Value.bool true := rv'
      subst eu
      refine ⟨rfl, OldK.of_keep fun b o e => ?_, os, bare⟩
      by_cases z : H b = none
      · exact un.keep b o e z (fun y => absurd (show b ∈ ([] : List Addr) from y) List.not_mem_nil) List.not_mem_nil
      · have eb : b = a := Classical.byContradiction fun y => z (h1 b y)
        subst eb
        cases hu : H b with
        | none => exact absurd hu z
        | some u =>
          have eu := h2 u hu
          rw [eu] at hu
          have t := (ok' b _ (un.frzs b _ _ hu)).1
          rw [ha] at e
          cases e
          exact t
    | .ok .next, z => exact z.elim
    | .ok .brk, z => exact z.elim
    | .ok .cont, z => exact z.elim
    | .error e, z => exact z.elim
  cases hk : K.lookup a with
  | none =>
    refine main (fun b => if b = a then some (.frz { cls := .type "list", data := .seq vs.toArray } (.lst (ns.map V.int))) else none) (fun b z => if_neg z) (fun u e => ?_) (.inr hk) (hsp _ (.inr ⟨_, rfl⟩))
    rw [if_pos rfl] at e
    exact (Option.some.inj e).symm
  | some o =>
    have eo : o = { cls := .type "list", data := .seq vs.toArray } := by
      have z := KX a o hk
      rw [ha] at z
      exact (Option.some.inj z).symm
    subst eo
    refine main (fun _ => none) (fun _ _ => rfl) (fun u e => nomatch e) (.inl rfl) (hsp _ (.inl ⟨fun _ => rfl, .inr ⟨_, vs.toArray, 0, hk, rfl, rfl, rfl, ?_, ?_⟩⟩))
    · have e1 := hi.length
      rw [List.size_toArray]
      omega
    · exact rv
end
/-- the script as data -/
def scD (ns : List Int) : DV := .lst (ns.map DV.int)
theorem sc_has {w : Wd} : ∀ ns : List Int, HasL w (ns.map V.int) (ns.map DV.int)
  | [] => .nil
  | _ :: r => .cons .int (sc_has r)
theorem walk_G {l : PySem.W.OpenLaw} {n k : Nat} {q : Program} {loose : List Str} {XP : (Str → Option Value) → Heap → Prop} {YP : World → Heap → Prop} {d : DefRec} {C : Ctr}
    (hn : l.most = some n) (hn2 : n ≤ sizeLine) (hdf : d.params.defaults = []) (hr : Room k callerA)
    (hC : ∀ ns : List Int, ns.length ≤ n → (∀ z ∈ ns, Builtin.Int.intBits z ≤ 1048576) → C [scD ns] [] fun d _ => d = .bl true)
    (F : ∀ (w : World) (mg : Str → Option Value) (fa : Addr) (h : Heap), YP w h → h.Ns mainGlobals mg → mg d.name = some (.ref fa) →
      ∃ (K : PySem.W.Frag) (fd : FuncData) (x : Str), K.In h ∧ (∀ (s : Shared) (u : Value), BindsTo s fd ⟨[u], []⟩ [(x, u)]) ∧ ∀ base : Heap, K.In base → base.Ns mainGlobals mg → FnG l.prog w K mg base k fa fd [x] (SpD K C)) :
    PySem.W.WalkO q loose XP YP l.row.toRowW d [] (fun f vs => PySem.call f vs) := by
  refine Att.attach_callB hn hdf fun w s₀ s₁ mg mb fa o pm cd doc a vs ns G Y ho hd hcd hmg hobj hints hlen hbits hg => ?_
  obtain ⟨K, fd, x, KX, hb, hF⟩ := F w mg fa _ Y G.T.g hmg
  refine law_goG KX G.T.g G.T.b G.T.builtins G.T.nolimit hg hobj hints (Nat.le_trans hlen hn2) hr hF hb fun H hH => ?_
  have l0 : Live ⟨K, [], [], H⟩ := ⟨rfl, List.nodup_nil, fun _ h => absurd h List.not_mem_nil, fun k a o h => by simp at h⟩
  refine ⟨[], [], [scD ns], fun d _ => d = .bl true, l0, .cons (.lst ?_ (sc_has ns)) .nil, hC ns hlen hbits, ?_⟩
  · rcases hH with ⟨_, h⟩ | ⟨o, rfl⟩
    · exact .inr h
    · refine .inl ⟨?_, .inr ⟨o, if_pos rfl⟩⟩
      rintro ⟨k, u, h1, _⟩
      simp at h1
  · rintro v d α' μ' H' rfl _ _ hv
    cases hv
    rfl
end Eg

namespace Eg
open PySem PySem.Spec L2
section
variable {M : Model} {A : Around} {E : Value → Shared → Prop} {h : Heap} {g : Array GenState} {d : Drawn} {t : Nat} {os : OsState}
variable {nm q : Str} {C N : Addr} {bs bm bmB : List Value} {hdct : Bool} {sn : List Str} {sub : List Value} {ab : Bool} {col : Option Bool} {dd : Option Addr} {k0 k1 k2 k3 k5 : Option Value} {B newId initId : String}
theorem chk_call {rest : List Value} {kw : List (Str × Value)} {Q : Unit → Shared → Prop} (hC : h.get? C = some (excClassObj nm q C N bs bm hdct sn sub ab col dd k0 k1 k2 k3 k5 newId)) (hq : Q () ⟨h, g, d, t, os⟩) :
    wpAny M A (checkBuiltinCall "type.__call__" ⟨.ref C :: rest, kw⟩) Q E ⟨h, g, d, t, os⟩ := by
  have sb := tc_sub
  have ty : (⟨h, g, d, t, os⟩ : Shared).TypeIs (.ref C) "type" := ⟨_, hC, rfl⟩
  simp only [checkBuiltinCall, tc_kind, tc_split]
  repeat (any_goals (first | assumption | (with_reducible refine wpAny_loadPart_at hC ?_) | (with_reducible refine wpAny_onRaise ?_) | (with_reducible refine wpAny_map ?_) | wp_step))

/-- the class's own chain holds what its base's holds of types -/
abbrev TyAs (bm bmB : List Value) : Prop := ∀ X : String, bm.contains (.type X) = bmB.contains (.type X)
theorem hasTy {c : Addr} (hT : TyAs bm bmB) {T : String} (h : bmB.contains (.type T) = true) : (Value.ref c :: bm).contains (.type T) = true := by
  rw [List.contains_cons, hT, h, Bool.or_true]
theorem noTy {c : Addr} (hT : TyAs bm bmB) {T : String} (h : bmB.contains (.type T) = false) : (Value.ref c :: bm).contains (.type T) = false := by
  rw [List.contains_cons, hT, h]
  rfl
theorem chk_new (F : ExcBaseFacts B newId initId bmB) (hT : TyAs bm bmB) {rest : List Value} {kw : List (Str × Value)} {Q : Unit → Shared → Prop}
    (hC : h.get? C = some (excClassObj nm q C N bs bm hdct sn sub ab col dd k0 k1 k2 k3 k5 newId)) (hq : Q () ⟨h, g, d, t, os⟩) :
    wpAny M A (checkBuiltinCall newId ⟨.ref C :: rest, kw⟩) Q E ⟨h, g, d, t, os⟩ := by
  have inB := hasTy (c := C) hT F.hasB
  have ns := F.noStar
  simp only [checkBuiltinCall, F.newSplit, F.newKind, F.newRow]
  repeat (first
    | refine wpAny_loadPart_at hC ?_
    | (refine wpAny_isSubtype_exc hC ?_; rw [inB])
    | refine wpAny_staticBase_exc hC ?_
    | refine wpAny_madeBy_exc hC ?_
    | simp only [if_false, Bool.false_eq_true, bne_self_eq_false]
    | wp_step)
  exact hq
end
section
variable {prog : Program} {w : World} {A : Around} {E : Value → Shared → Prop} {R : Result → Shared → Prop} {h : Heap} {g : Array GenState} {d : Drawn} {t : Nat} {os : OsState}
variable {nm q : Str} {C N : Addr} {bs bm bmB : List Value} {hdct : Bool} {sn : List Str} {sub : List Value} {ab : Bool} {col : Option Bool} {dd : Option Addr} {k0 k1 k2 k3 k5 : Option Value} {B newId initId : String}
/-- an exception object just made, its args at t -/
abbrev exO0 (C t : Addr) : Obj := { cls := .ref C, data := .fields #[.ref t, .none, .none, .none, .bool false, .none] }
abbrev made (h : Heap) (C : Addr) (rest : List Value) : Heap := (h.push { cls := .type "tuple", data := .seq rest.toArray }).push (exO0 C h.objs.size)
theorem new_kw (F : ExcBaseFacts B newId initId bmB) (hT : TyAs bm bmB) {rest : List Value} {kw : List (Str × Value)}
    (hC : h.get? C = some (excClassObj nm q C N bs bm hdct sn sub ab col dd k0 k1 k2 k3 k5 newId)) (hz : rest.length ≤ sizeLine)
    (hq : R (.ok (.ret (.ref (h.objs.size + 1)))) ⟨made h C rest, g, d, t, os⟩) : codeAny (model prog w) A (.builtin newId ⟨.ref C :: rest, kw⟩) R ⟨h, g, d, t, os⟩ := by
  have en := F.ends
  have inB := hasTy (c := C) hT F.hasB
  have noA := noTy (c := C) hT F.noAttr
  have noN := noTy (c := C) hT F.noName
  refine codeAny_builtinAt F.entry ?_
  unfold Builtin.«BaseException.__new__»
  refine wpAt_bind ?_
  show wpAt _ _ _ (stack >>= _) _ _ _
  refine wpAt_bind (wpAt_stack fun p below => wpAt_of_wpAny ?_)
  wp_walk
  refine wpAt_of_wpAny ?_
  rw [F.owner]
  repeat (first
    | (with_reducible refine wpAny_madeHere_exc F.canon hC ?_)
    | (with_reducible refine wpAny_loadPart_at hC ?_)
    | (with_reducible refine wpAny_isSubtype_exc hC ?_; first | rw [inB] | rw [noA] | rw [noN])
    | wp_step)
  show R _ _
  rw [Heap.size_push]
  exact hq
/-- type.__call__ of an own exception class with its own __init__ -/
theorem tcall_kw (F : ExcBaseFacts B newId initId bmB) (hT : TyAs bm bmB) {rest : List Value} {kw : List (Str × Value)} {fI : Addr} {Q : Fin → Shared → Prop}
    (hC : h.get? C = some (excClassObj nm q C N bs bm hdct sn sub ab col dd k0 k1 k2 k3 k5 newId)) (hz : rest.length ≤ sizeLine)
    (hi : W.Looks (model prog w) h (typeLookup (.ref C) "__init__") (some (.ref fI))) (hb : ∀ self, W.Looks (model prog w) h (bindSpecial (.ref fI) self) (.ref fI, [self]))
    (hq : codeAny (model prog w) A (.call (.ref fI) ⟨.ref (h.objs.size + 1) :: rest, kw⟩)
      (fun r s' => match r with | .ok (.ret v) => v = .none ∧ Q (.done (.ret (.ref (h.objs.size + 1)))) s' | .ok _ => False | .error e => E e s') ⟨made h C rest, g, d, t, os⟩) :
    wpAny (model prog w) A (Builtin.«type.__call__» ⟨.ref C :: rest, kw⟩) Q E ⟨h, g, d, t, os⟩ := by
  repeat (first | (with_reducible refine wpAny_loadPart_at hC ?_) | (with_reducible refine wpAny_madeBy_exc hC ?_) | wp_step)
  refine codeAny_call_builtin_code (Code.quiet_builtin _ F.quiet) (chk_new F hT hC ?_)
  refine new_kw F hT hC hz ?_
  show wpAny _ _ _ _ _ _
  have k : ∀ b o, h.get? b = some o → (made h C rest).get? b = some o := fun b o e => Heap.get?_push_of_some _ (Heap.get?_push_of_some _ e)
  have hC1 := k _ _ hC
  have there : (made h C rest).get? (h.objs.size + 1) = some (exO0 C h.objs.size) := by heap_get
  have self : (Value.ref C :: bm).contains (.ref C) = true := by simp
  have li := hi.keeps k
  have lb := (hb (.ref (h.objs.size + 1))).keeps k
  unfold isInstance
  repeat (first | (with_reducible refine wpAny_loadPart_at there ?_) | (with_reducible refine wpAny_isSubtype_exc hC1 ?_; rw [self]) | wp_step)
  show wpAny _ _ (typeLookup (.ref C) _) _ _ _
  refine li.at (wpAny_holding (wpAny_bind (lb.at (wpAny_bind ?_))))
  refine wpAny_call (codeAny_mono hq fun r s' z => ?_)
  match r, z with
  | .ok (.ret v), ⟨e, z⟩ =>
    subst e
    first
      | exact wpAny_pure (wpAny_pure z)
      | (wp_walk; exact z)
  | .error e, z => exact z
theorem call_kwE (F : ExcBaseFacts B newId initId bmB) (hT : TyAs bm bmB) {rest : List Value} {kw : List (Str × Value)} {fI : Addr}
    (hC : h.get? C = some (excClassObj nm q C N bs bm hdct sn sub ab col dd k0 k1 k2 k3 k5 newId)) (hz : rest.length ≤ sizeLine)
    (hi : W.Looks (model prog w) h (typeLookup (.ref C) "__init__") (some (.ref fI))) (hb : ∀ self, W.Looks (model prog w) h (bindSpecial (.ref fI) self) (.ref fI, [self]))
    (hq : codeAny (model prog w) (A.under (.builtin "type.__call__" ⟨.ref C :: rest, kw⟩)) (.call (.ref fI) ⟨.ref (h.objs.size + 1) :: rest, kw⟩) (W.InitBack (h.objs.size + 1) R) ⟨made h C rest, g, d, t, os⟩) :
    codeAny (model prog w) A (.call (.ref C) ⟨rest, kw⟩) R ⟨h, g, d, t, os⟩ := by
  have lk := tc_lookup
  have bd := tc_bind (.ref C)
  have ty : (⟨h, g, d, t, os⟩ : Shared).TypeIs (.ref C) "type" := ⟨_, hC, rfl⟩
  refine codeAny_of_tree ?_
  show wpAny _ _ (callAny (.ref C) _) _ _ _
  repeat (any_goals (first | assumption | (with_reducible refine wpAny_loadPart_at hC ?_) | wp_step))
  refine ⟨rfl, codeAny_call_builtin_at (Code.quiet_builtin _ (by decide +kernel)) entry_typeCall (chk_call hC (tcall_kw F hT hC hz hi hb ?_))⟩
  refine codeAny_mono hq fun r s' z => ?_
  rcases r with e | (v | _ | _ | _) <;> exact z
end
end Eg

namespace Eg
open PySem PySem.Spec L2
mutual
def toPy : DV → Option PyData
  | .non => some .none
  | .bl b => some (.bool b)
  | .int i => some (.int i)
  | .str x => some (.str x)
  | .tup xs => (toPyL xs).map .tuple
  | .lst xs => (toPyL xs).map .list
  | .dic [] => some (.dict [])
  | .dic (_ :: _) => none
  | .exc _ _ => none
  | .mu _ => none
def toPyL : List DV → Option (List PyData)
  | [] => some []
  | x :: r => (toPy x).bind fun d => (toPyL r).map fun ds => d :: ds
end
section
variable {X : Cx} {pins : List (Addr × Obj)} {σ : L2.St} {α : List Addr} {μ : List MO} {H : Hp} {s : Shared}
mutual
theorem rd_of (I : Inv X pins σ H s) (hB : ∃ mm, X.base.Ns sysModules mm) : ∀ {v : V} {u : Value} {d : DV} {pd : PyData}, Has ⟨X.K, α, μ, H⟩ v d → RelV v u → toPy d = some pd → ∃ as, Reads s.heap u pd as ∧ sysModules ∉ as
  | _, _, _, _, .non, r, e => by cases e; cases r; exact ⟨_, .none, List.not_mem_nil⟩
  | _, _, _, _, .bl, r, e => by cases e; cases r; exact ⟨_, .bool _, List.not_mem_nil⟩
  | _, _, _, _, .int, r, e => by cases e; obtain ⟨t, rfl⟩ := r; exact ⟨_, .int _ _, List.not_mem_nil⟩
  | _, _, _, _, .str, r, e => by cases e; obtain ⟨t, rfl⟩ := r; exact ⟨_, .str _ _, List.not_mem_nil⟩
  | _, _, _, _, .tup h t, r, e => by
    have er : _ = Value.ref _ := r
    subst er
    obtain ⟨ds, e1, e2⟩ := Option.map_eq_some_iff.mp e
    subst e2
    obtain ⟨its, rv, ⟨o, ho, hc, n, hd⟩, _⟩ := I.tuple h
    obtain ⟨as, q1, q2⟩ := rdL_of I hB t rv e1
    exact ⟨as, .tuple ho hc hd (by simpa using q1), q2⟩
  | _, _, _, _, @Has.lst _ p vs0 _ h t, r, e => by
    have er : _ = Value.ref _ := r
    subst er
    obtain ⟨ds, e1, e2⟩ := Option.map_eq_some_iff.mp e
    subst e2
    have sq : SqL X.K H p vs0 := by
      rcases h with ⟨_, h⟩ | h
      · exact .inl h
      · exact h.sq
    obtain ⟨its, rv, ⟨o, n, ho, hc, _, hd⟩, _⟩ := I.list sq
    obtain ⟨as, q1, q2⟩ := rdL_of I hB t rv e1
    refine ⟨p :: as, .list ho hc hd (by simpa using q1), fun z => ?_⟩
    rcases List.mem_cons.mp z with z | z
    · obtain ⟨mm, od, es, ep, z1, z2, _⟩ := hB
      have z3 := (I.bs _ _ z1).1
      rw [z, ho] at z3
      cases z3
      rw [hd] at z2
      cases z2
    · exact q2 z
  | _, _, _, _, @Has.dic _ p kvs kds _ h t, r, e => by
    have er : _ = Value.ref _ := r
    subst er
    cases t with
    | cons _ _ => cases e
    | nil =>
      cases e
      obtain ⟨_, ns, vs, kv, o, es, ep, ho, hx, hd, _, he, _⟩ := I.hok p _ h
      cases kv
      have hes : es.toList = [] := by
        generalize hz : es.toList = l at he
        cases he
        rfl
      refine ⟨p :: [] ++ [], .dict ho hx.1 hd (by rw [hes]; exact .nil) (by rw [hes]; exact .nil), fun z => ?_⟩
      have z' : sysModules = p := by simpa using z
      rw [← z'] at ns
      exact absurd ns (by decide)
  | _, _, _, _, .exc _ _ _, _, e => by cases e
  | _, _, _, _, .exc0 _, _, e => by cases e
  | _, _, _, _, .mu _, _, e => by cases e
theorem rdL_of (I : Inv X pins σ H s) (hB : ∃ mm, X.base.Ns sysModules mm) : ∀ {vs : List V} {us : List Value} {ds : List DV} {pds : List PyData}, HasL ⟨X.K, α, μ, H⟩ vs ds → Vals vs us → toPyL ds = some pds → ∃ as, ReadsAll s.heap us pds as ∧ sysModules ∉ as
  | _, _, _, _, .nil, r, e => by cases e; cases r; exact ⟨_, .nil, List.not_mem_nil⟩
  | _, _, _, _, .cons h t, r, e => by
    obtain ⟨d, e1, e2⟩ := Option.bind_eq_some_iff.mp e
    obtain ⟨ds, e3, e4⟩ := Option.map_eq_some_iff.mp e2
    subst e4
    cases r with
    | cons r1 r2 =>
      obtain ⟨as, q1, n1⟩ := rd_of I hB h r1 e1
      obtain ⟨bs, q2, n2⟩ := rdL_of I hB t r2 e3
      exact ⟨as ++ bs, .cons q1 q2, fun z => (List.mem_append.mp z).elim n1 n2⟩
end
end
section
variable {X : Cx} {e : Expr} {ρ : RO} {μ : List MO} {pos p : Pos} {R : Cn}
/-- repr of a list or tuple of data that nobody changes -/
def sRepr : SA := fun ds μ R => ∃ d pd, ds = [d] ∧ ((∃ xs, d = .lst xs) ∨ ∃ xs, d = .tup xs) ∧ toPy d = some pd ∧ pd.showable = true ∧ pd.depth ≤ 100 ∧ pd.shown.length ≤ sizeLine ∧ R (.str pd.shown) μ
theorem Ev.repr (hA : X.A.guards = some []) (hu : X.A.units + 200 < cLine) (hB : ∃ mm, X.base.Ns sysModules mm) (hg : Gl X "repr") (hm : X.mg "repr" = none) (h : EvA X [e] ρ μ fun ds μ1 => sRepr ds μ1 R) (he : starEach [e] X.env = (false, eval e X.env) :: starEach [] X.env := by rfl) :
    Ev X (.Call (.Name "repr" p) [e] [] pos) ρ μ R := by
  refine ⟨fun pins s σ H Q I ⟨α, E, q⟩ => ?_⟩
  refine wpAny_Call_Name_kw (ld_blt I hg hm PyProof.Rows.boot_repr ?_ (by decide) (by decide))
  have ha : PA X [e] (tEvA X ρ μ fun ds μ1 => sRepr ds μ1 R) := h
  refine PyProof.Rows.callWith_builtin1 (thn (ha.run pos pins s σ H (fun vs H1 => ∃ α1 μ1 ds, sRepr ds μ1 R ∧ En ⟨X.K, α1, μ1, H1⟩ σ ρ ∧ Kp ⟨X.K, α, μ, H⟩ ⟨X.K, α1, μ1, H1⟩ ∧ HasL ⟨X.K, α1, μ1, H1⟩ vs ds) I ⟨α, E, fun vs ds α1 μ1 H1 c E1 X1 hv => ⟨α1, μ1, ds, c, E1, X1, hv⟩⟩) ?_) he rfl
  rintro us s1 ⟨vs, H1, I1, rv, α1, μ1, ds, ⟨d, pd, rfl, hk, e1, h1, h2, h3, r⟩, E1, X1, hv⟩
  obtain ⟨v, rfl, hw⟩ := hasL1 hv
  clear hv
  have hv := hw
  obtain ⟨u, rfl, ru⟩ := vals1 rv
  have isref : ∃ a, u = Value.ref a := by
    rcases hk with ⟨xs, rfl⟩ | ⟨xs, rfl⟩
    · cases hv with
      | lst _ _ => exact ⟨_, ru⟩
    · cases hv with
      | tup _ _ => exact ⟨_, ru⟩
  obtain ⟨a, rfl⟩ := isref
  obtain ⟨as, rd, ns⟩ := rd_of I1 hB hv ru e1
  refine PySem.repr_of_reads' rd h1 (fun _ => ns) hA (by omega) (fun _ _ z => z) (fun h' t tk k => ?_) h3
  exact ⟨.str pd.shown, H1, I1.kept k, ⟨_, rfl⟩, q _ _ α1 μ1 H1 r E1 X1 .str⟩
end
end Eg

namespace Eg
open PySem PySem.Spec L2
/-! ### keywords -/
section
variable {X : Cx} {e : Expr} {es : List Expr} {kws : List Keyword} {ρ : RO} {μ : List MO} {pos p kpos : Pos} {R : Cn} {nmO : Option Str}
def EvK (X : Cx) (ks : List Keyword) (ρ : RO) (μ : List MO) (R : Ca) : Prop := PK X ks (tEvA X ρ μ R)
def aK (X : Cx) (ks : List Keyword) : TA := fun σ H Q => ∃ t, PK X ks t ∧ t σ H Q
theorem pk_a {ks : List Keyword} : PK X ks (aK X ks) := ⟨fun pos pins s σ H Q I ⟨_, h, q⟩ => h.run pos pins s σ H Q I q⟩
theorem PKw {ks : List Keyword} {t t' : TA} (h : PK X ks t) (k : ∀ σ H Q, t' σ H Q → t σ H Q) : PK X ks t' := ⟨fun pos pins s σ H Q I q => h.run pos pins s σ H Q I (k σ H Q q)⟩
theorem EvK.nil {R : Ca} (h : R [] μ) : EvK X [] ρ μ R := PKw pk_nil fun σ H Q ⟨α, E, q⟩ => q [] [] α μ H h E E.live.refl .nil
theorem EvK.cons {R : Ca} (h : Ev X e ρ μ fun d μ1 => EvK X kws ρ μ1 fun ds μ2 => R (d :: ds) μ2) : EvK X (⟨nmO, e, kpos⟩ :: kws) ρ μ R :=
  PKw (pk_cons pe_a pk_a) fun σ H Q ⟨α, E, q⟩ => ⟨_, h, α, E, fun v d α1 μ1 H1 h1 E1 X1 hv => ⟨_, h1, α1, E1, fun vs ds α2 μ2 H2 h2 E2 X2 hvs => q _ _ α2 μ2 H2 h2 E2 (X1.trans X2) (.cons (X2.has hv) hvs)⟩⟩
end
/-! ### own exceptions as values -/
/-- __init__(self, ..) that stores: fl: what stands in the dict behind it -/
def spI (C : Addr) (n : Nat) (fl : List V → List (Str × V)) : Sp := fun vs H Q _ => ∃ a ys, vs = .ref a :: ys ∧ ys.length = n ∧ H a = some (exo a C none) ∧
  ∀ d H', H d = none → H' a = some (exo a C (some d)) → H' d = some (exd d (fl ys)) → (∀ b, H b ≠ none → b ≠ a → H' b = H b) → Q .non H'
/-- the class x of the text, at C: made by its own __init__ of n arguments besides self -/
structure XI (P : Program) (w : World) (K : PySem.W.Frag) (mg : Str → Option Value) (base : Heap) (x : Str) (C : Addr) (k n : Nat) (fl : List V → List (Str × V)) (ks : List Str) (perm : List Value → List Value) : Prop where
  gC : mg x = some (.ref C)
  oc : OexC K C
  ini : ∃ fI fd ps, ps.length = n + 1 ∧ PySem.W.findIn K (.ref C) "__init__" = some (some (.ref fI)) ∧ PySem.W.typeIn K (.ref fI) = some (.type "function") ∧ FnG P w K mg base k fI fd ps (spI C n fl) ∧
    (∀ (s : Shared) (us : List Value), us.length = ps.length → BindsTo s fd ⟨us, []⟩ (ps.zip us)) ∧
    ∀ (s : Shared) (u : Value) (us : List Value), us.length = n → BindsTo s fd ⟨[u], ks.zip us⟩ (ps.zip (u :: perm us))
theorem guards_call {A : Around} {args : Args} (h : A.guards = some []) : (A.under (.builtin "type.__call__" args)).guards = some [] := by
  have e : (Code.builtin "type.__call__" args).isGuard = false := by
    show guardIds.contains "type.__call__" = false
    decide +kernel
  simp [Around.under, Code.guards, e, pushGuards, h]
section
variable {X : Cx} {e : Expr} {es : List Expr} {kws : List Keyword} {ρ : RO} {μ : List MO} {pos p : Pos} {R : Cn} {x : Str} {k n : Nat} {C : Addr} {fl : List V → List (Str × V)} {ks : List Str} {perm : List Value → List Value}
/-- the call, the arguments being there -/
theorem make_E {pins : List (Addr × Obj)} {s : Shared} {σ : L2.St} {H : Hp} {Q : VK} {us rest : List Value} {kw : List (Str × Value)} {ys : List V} (oc : OexC X.K C) {fI : Addr} {fd : FuncData} {ps : List Str}
    (iC : PySem.W.findIn X.K (.ref C) "__init__" = some (some (.ref fI))) (tI : PySem.W.typeIn X.K (.ref fI) = some (.type "function")) (G : FnG X.prog X.w X.K X.mg X.base k fI fd ps (spI C n fl))
    (hA : X.A.guards = some []) (hr : Room (k + 1) X.A) (I : Inv X pins σ H s) (hz : rest.length ≤ sizeLine) (hb : ∀ s u, BindsTo s fd ⟨u :: rest, kw⟩ (ps.zip (u :: us))) (hn : ys.length = n) (rv : Vals ys us)
    (q : ∀ a d H', H a = none → H d = none → H' a = some (exo a C (some d)) → H' d = some (exd d (fl ys)) → (∀ b, H b ≠ none → H' b = H b) → Q (.ref a) H') :
    wpAny (model X.prog X.w) X.A (PySem.call (.ref C) rest kw) (EP X pins σ Q) X.xe s := by
  obtain ⟨nm, qn, N, bs, bm, sn, sub, ab, col, dd, k0, k1, k2, k3, k5, hC, hbm⟩ := oc.cls
  obtain ⟨hp, g, dr, tk, os⟩ := s
  have nw : H (hp.objs.size + 1) = none := I.hok.fresh (Nat.le_succ _)
  have kk : ∀ b o, hp.get? b = some o → (made hp C rest).get? b = some o := fun b o z => Heap.get?_push_of_some _ (Heap.get?_push_of_some _ z)
  have there : (made hp C rest).get? (hp.objs.size + 1) = some (exO0 C hp.objs.size) := by heap_get
  have I2 : Inv X pins σ (upd H (hp.objs.size + 1) (exo (hp.objs.size + 1) C none)) ⟨made hp C rest, g, dr, tk, os⟩ :=
    I.laid (t' := tk) (h' := made hp C rest) kk (Nat.le_succ _) (exo_ok there)
  have hsp : spI C n fl (.ref (hp.objs.size + 1) :: ys) (upd H (hp.objs.size + 1) (exo (hp.objs.size + 1) C none)) (fun v H2 => v = .non ∧ Q (.ref (hp.objs.size + 1)) H2) E0 := by
    refine ⟨_, ys, rfl, hn, upd_same, fun d H' h1 h2 h3 h4 => ⟨rfl, ?_⟩⟩
    have nd : d ≠ hp.objs.size + 1 := fun z => by
      rw [z, upd_same] at h1
      cases h1
    rw [upd_ne nd] at h1
    refine q _ d H' nw h1 h2 h3 fun b hb => ?_
    have nb : b ≠ hp.objs.size + 1 := fun z => hb (by rw [z]; exact nw)
    rw [h4 b (by rw [upd_ne nb]; exact hb) nb, upd_ne nb]
  refine wpAny_call (call_kwE F.excBase_ValueError (fun Y => PySem.HandSPX.refsVE_contains Y bm hbm) (I.kIn _ _ hC) hz (PySem.W.looks_findIn I.kIn iC) (fun self => PySem.W.bind_fn I.kIn self tI) ?_)
  refine codeAny_mono (G.go _ X.stack _ _ ⟨Value.ref (hp.objs.size + 1) :: rest, kw⟩ (Value.ref (hp.objs.size + 1) :: us) _ _ (guards_call hA) (hr.make C rest kw) (I2.env0.make C rest kw) (hb _ _) (Paired.cons (a := V.ref (hp.objs.size + 1)) (b := Value.ref (hp.objs.size + 1)) rfl rv) hsp) fun r s' hq => ?_
  match r, hq with
  | .ok (.ret u), hq =>
    obtain ⟨v, H', J, rr, ev, q'⟩ := I2.after hq
    have eu : u = Value.none := by
      subst ev
      exact rr
    exact ⟨eu, .ref _, H', J, rfl, q'⟩
  | .ok .next, z => exact False.elim z
  | .ok .brk, z => exact False.elim z
  | .ok .cont, z => exact False.elim z
  | .error _, z => exact False.elim z
/-- what is then to be shown, of the data ds of the arguments in the parameters' order -/
theorem made_ok {α1 : List Addr} {μ1 : List MO} {H1 : Hp} {σ : L2.St} {Q : VK} {ys : List V} {ds : List DV} {fd : List (Str × DV)} (E1 : En ⟨X.K, α1, μ1, H1⟩ σ ρ) (hv : HasL ⟨X.K, α1, μ1, H1⟩ ys ds)
    (hf : ∀ w, HasL w ys ds → HasF w (fl ys) fd) (q : Stp X ρ ⟨X.K, α1, μ1, H1⟩ σ R Q) (hR : R (.exc C fd) μ1) (a d : Addr) (H' : Hp) (_ : H1 a = none) (_ : H1 d = none) (h1 : H' a = some (exo a C (some d))) (h2 : H' d = some (exd d (fl ys))) (h3 : ∀ b, H1 b ≠ none → H' b = H1 b) : Q (.ref a) H' := by
  obtain ⟨k, l⟩ := E1.live.lays h3
  exact q _ _ α1 μ1 H' hR (E1.ext k l) k (.exc h1 h2 (hf _ (k.hasL hv)))
/-- X(e, ..) -/
theorem Ev.mkE {fdf : List DV → List (Str × DV)} (T : XI X.prog X.w X.K X.mg X.base x C k n fl ks perm) (hA : X.A.guards = some []) (hr : Room (k + 1) X.A) (hg : Gl X x) (hf : ∀ ys ds w, HasL w ys ds → ys.length = n → HasF w (fl ys) (fdf ds)) (h0 : n ≤ 1000)
    (h : EvA X (e :: es) ρ μ fun ds μ1 => ds.length = n ∧ R (.exc C (fdf ds)) μ1)
    (hdb : (x == ("__debug__" : Str)) = false := by decide) (he : starEach (e :: es) X.env = (false, eval e X.env) :: starEach es X.env := by rfl) (hpl : (backTo pos (starEach es X.env)).any (·.1) = false := by rfl) :
    Ev X (.Call (.Name x p) (e :: es) [] pos) ρ μ R := by
  obtain ⟨gC, oc, fI, fd, ps, hps, iC, tI, G, hb, _⟩ := T
  refine ⟨fun pins s σ H Q I ⟨α, E, q⟩ => wpAny_Call_Name_kw (ld_glob I hg gC ?_ hdb)⟩
  have ha : PA X (e :: es) (tEvA X ρ μ fun ds μ1 => ds.length = n ∧ R (.exc C (fdf ds)) μ1) := h
  refine PySem.W.callWith_K (h₀ := X.base) I.ok.mod.kin oc.kC (thn (ha.run pos pins s σ H (fun vs H1 => ∃ α1 μ1 ds, (ds.length = n ∧ R (.exc C (fdf ds)) μ1) ∧ En ⟨X.K, α1, μ1, H1⟩ σ ρ ∧ Kp ⟨X.K, α, μ, H⟩ ⟨X.K, α1, μ1, H1⟩ ∧ HasL ⟨X.K, α1, μ1, H1⟩ vs ds) I
    ⟨α, E, fun vs ds α1 μ1 H1 c E1 X1 hv => ⟨α1, μ1, ds, c, E1, X1, hv⟩⟩) ?_) he hpl
  rintro us s1 ⟨vs, H1, I1, rv, α1, μ1, ds, ⟨hn, r⟩, E1, X1, hv⟩
  refine ⟨I1.kIn, ?_⟩
  have hl : vs.length = n := hv.length.trans hn
  have hu : us.length = n := rv.length.symm.trans hl
  refine make_E (us := us) (rest := us) (kw := []) (ys := vs) oc iC tI G hA hr I1 (by rw [hu, PySem.sizeLine_eq]; omega) (fun s' u => hb s' (u :: us) (by rw [List.length_cons, hu, hps])) hl rv fun a d H' z1 z2 z3 z4 z5 => ?_
  exact made_ok (fd := fdf ds) E1 hv (fun w hw => hf _ _ w hw hl) (fun v d' α' μ' H'' r' E' k' hv' => q v d' α' μ' H'' r' E' (X1.trans k') hv') r a d H' z1 z2 z3 z4 z5
/-- X(f = e, ..) -/
theorem Ev.mkEK {fdf : List DV → List (Str × DV)} (T : XI X.prog X.w X.K X.mg X.base x C k n fl ks perm) (hA : X.A.guards = some []) (hr : Room (k + 1) X.A) (hg : Gl X x) (permV : List V → List V) (permD : List DV → List DV)
    (hp1 : ∀ vs us, Vals vs us → vs.length = n → Vals (permV vs) (perm us) ∧ (permV vs).length = n) (hp2 : ∀ w vs ds, HasL w vs ds → vs.length = n → HasL w (permV vs) (permD ds))
    (hf : ∀ ys ds w, HasL w ys ds → ys.length = n → HasF w (fl ys) (fdf ds))
    (h : EvK X kws ρ μ fun ds μ1 => ds.length = n ∧ R (.exc C (fdf (permD ds))) μ1) (hall : (backToKw pos (keywordEach kws X.env)).all (·.1.isSome) = true := by rfl) (hks : (backToKw pos (keywordEach kws X.env)).filterMap (·.1) = ks := by rfl)
    (hpl : ((backTo pos (starEach [] X.env)).any (·.1) || (backToKw pos (keywordEach kws X.env)).any (·.1.isNone)) = false := by rfl) (hdb : (x == ("__debug__" : Str)) = false := by decide) :
    Ev X (.Call (.Name x p) [] kws pos) ρ μ R := by
  obtain ⟨gC, oc, fI, fd, ps, hps, iC, tI, G, _, hb⟩ := T
  refine ⟨fun pins s σ H Q I ⟨α, E, q⟩ => wpAny_Call_Name_kw (ld_glob I hg gC ?_ hdb)⟩
  have ha : PK X kws (tEvA X ρ μ fun ds μ1 => ds.length = n ∧ R (.exc C (fdf (permD ds))) μ1) := h
  refine PySem.W.callWith_KW0 (h₀ := X.base) I.ok.mod.kin oc.kC hall (thn (ha.run pos pins s σ H (fun vs H1 => ∃ α1 μ1 ds, (ds.length = n ∧ R (.exc C (fdf (permD ds))) μ1) ∧ En ⟨X.K, α1, μ1, H1⟩ σ ρ ∧ Kp ⟨X.K, α, μ, H⟩ ⟨X.K, α1, μ1, H1⟩ ∧ HasL ⟨X.K, α1, μ1, H1⟩ vs ds) I
    ⟨α, E, fun vs ds α1 μ1 H1 c E1 X1 hv => ⟨α1, μ1, ds, c, E1, X1, hv⟩⟩) ?_) hpl
  rintro us s1 ⟨vs, H1, I1, rv, α1, μ1, ds, ⟨hn, r⟩, E1, X1, hv⟩
  refine ⟨I1.kIn, ?_⟩
  rw [hks]
  have hl : vs.length = n := hv.length.trans hn
  have hu : us.length = n := rv.length.symm.trans hl
  obtain ⟨pv, pl⟩ := hp1 vs us rv hl
  show wpAny _ _ (PySem.call (.ref C) [] (ks.zip us)) _ _ s1
  refine make_E (us := perm us) (rest := []) (kw := ks.zip us) (ys := permV vs) oc iC tI G hA hr I1 (Nat.zero_le _) (fun s' u => hb s' u us hu) pl pv fun a d H' z1 z2 z3 z4 z5 => ?_
  exact made_ok (fd := fdf (permD ds)) E1 (hp2 _ _ _ hv hl) (fun w hw => hf _ _ w hw pl) (fun v d' α' μ' H'' r' E' k' hv' => q v d' α' μ' H'' r' E' (X1.trans k') hv') r a d H' z1 z2 z3 z4 z5
/-- X() of a class without own __init__ -/
theorem Ev.mkE0 {bmB : List Value} {B newId initId : String} (F : ExcBaseFacts B newId initId bmB) (qx : PySem.W.excIn X.K C bmB newId = true) (gC : X.mg x = some (.ref C)) (kC : PySem.W.keepIn X.K (.ref C) = true) (hg : Gl X x)
    (h : R (.exc C []) μ) (hdb : (x == ("__debug__" : Str)) = false := by decide) : Ev X (.Call (.Name x p) [] [] pos) ρ μ R := by
  refine ⟨fun pins s σ H Q I ⟨α, E, q⟩ => wpAny_Call_Name_kw (ld_glob I hg gC ?_ hdb)⟩
  refine PySem.W.callWith_K0 I.kIn kC ?_
  obtain ⟨bm, N, nm, qn, bs, hdct, sn, sub, ab, col, dd, k0, k1, k2, k3, k5, mN, hC, hN, hni, T⟩ := exc_obj I.kIn qx
  refine wpAny_call_exc_subT F T hC hN hni (fun h' a hm => ?_) (Nat.zero_le _)
  have hn : H a = none := I.hok.gone hm.new
  obtain ⟨t, ht, _, _⟩ := hm.there
  obtain ⟨k, l⟩ := E.live.lay (o := ExO (.ref C) a) hn
  exact ⟨.ref a, upd H a (ExO (.ref C) a), I.laidN hm.keeps hm.new hn (exO_ok ht ⟨rfl, rfl⟩ rfl rfl rfl (show 4 < 6 by decide)), rfl, q _ _ α μ _ h (E.ext k l) k (.exc0 upd_same)⟩
/-! ### e.f, isinstance(e, T) -/
/-- what an own exception class says of its instances -/
structure XC (K : PySem.W.Frag) (C : Addr) : Prop where
  cl : (PySem.W.clsIn K C).isSome = true
  ga : PySem.W.findIn K (.ref C) "__getattribute__" = some (some (.builtin "BaseException.__getattribute__"))
  gg : PySem.W.findIn K (.ref C) "__getattr__" = some none
  sb : PySem.W.subIn K (.ref C) (.type "BaseException") = some true
  hd : PySem.W.hasDictIn K C = true
  ca : PySem.W.findIn K (.ref C) "__class__" = some (some (.builtin "object.__class__"))
  sp : PySem.W.specialIn K (.builtin "object.__class__") "__get__" = some (some (.builtin "getset_descriptor.__get__"))
  tk : PySem.W.takesIn K (.builtin "object.__class__") = some true
  mr : PySem.W.mroIn K C (.type "object") = some true
theorem hasF_look {w : Wd} {f : Str} {d : DV} : ∀ {fs : List (Str × V)} {ds : List (Str × DV)}, HasF w fs ds → ds.lookup f = some d → ∃ v, fs.lookup f = some v ∧ Has w v d
  | _, _, .nil, e => by cases e
  | _, _, .cons (k := g) h t, e => by
    by_cases c : f = g
    · subst c
      simp only [List.lookup, beq_self_eq_true] at e ⊢
      cases e
      exact ⟨_, rfl, h⟩
    · have c' : (f == g) = false := by simpa using c
      simp only [List.lookup, c'] at e ⊢
      exact hasF_look t e
end
section
variable {X : Cx} {e : Expr} {ρ : RO} {μ : List MO} {pos p py : Pos} {R : Cn} {f : Str}
/-- e.f of an own exception -/
theorem Ev.attrE (h : Ev X e ρ μ fun d μ1 => ∃ C fs v, d = .exc C fs ∧ XC X.K C ∧ PySem.W.findIn X.K (.ref C) f = some none ∧ fs.lookup f = some v ∧ R v μ1)
    (hb : attributeBase e f X.env (eval e X.env) = eval e X.env := by rfl) : Ev X (.Attribute e f pos) ρ μ R := by
  refine ⟨fun pins s σ H Q I ⟨α, E, q⟩ => attr_of hb (thn (h.run pins s σ H (fun v H1 => ∃ α1 μ1 d, (∃ C fs v, d = .exc C fs ∧ XC X.K C ∧ PySem.W.findIn X.K (.ref C) f = some none ∧ fs.lookup f = some v ∧ R v μ1) ∧ En ⟨X.K, α1, μ1, H1⟩ σ ρ ∧ Kp ⟨X.K, α, μ, H⟩ ⟨X.K, α1, μ1, H1⟩ ∧ Has ⟨X.K, α1, μ1, H1⟩ v d) I
    ⟨α, E, fun v d α1 μ1 H1 c E1 X1 hv => ⟨α1, μ1, d, c, E1, X1, hv⟩⟩) ?_)⟩
  rintro u s1 ⟨v, H1, I1, rv, α1, μ1, d, ⟨C, fs, y, rfl, T, hno, hl, r⟩, E1, X1, hv⟩
  cases hv with
  | exc0 _ => cases hl
  | @exc a _ dd ws _ h1 h2 hf =>
    have eu : u = Value.ref a := rv
    subst eu
    obtain ⟨t1, ho⟩ := exo_at I1.hok h1
    obtain ⟨mA, hns, rel⟩ := exd_at I1.hok h2
    obtain ⟨od, hod, hlk⟩ := lookIn_ns hns
    obtain ⟨z, hz, hy⟩ := hasF_look hf hl
    obtain ⟨u', hu', ru⟩ := RelO.some_of (v := z) (o := mA f) (by rw [← hz]; exact rel f)
    have J : PySem.W.InstAt s1.heap a _ C (some od) := ⟨ho, rfl, rfl, hod⟩
    exact HandSPX.exc_get I1.kIn J T.ga T.gg T.sb (PySem.W.findObj_own T.hd hno rfl (by rw [hlk, hu'])) (handed_of ru) ⟨z, H1, I1.tok _, ru, q _ _ α1 μ1 H1 r E1 X1 hy⟩
/-- an own exception of the class at C stands at a -/
def ExAt (H : Hp) (a C : Addr) : Prop := (∃ d fs, H a = some (exo a C (some d)) ∧ H d = some (exd d fs)) ∨ H a = some (ExO (.ref C) a)
theorem exAt_inst {pins : List (Addr × Obj)} {σ : L2.St} {H : Hp} {s : Shared} {a C : Addr} (I : Inv X pins σ H s) (h : ExAt H a C) : ∃ ox od, PySem.W.InstAt s.heap a ox C od := by
  rcases h with ⟨d, fs, h1, h2⟩ | h
  · obtain ⟨t1, ho⟩ := exo_at I.hok h1
    obtain ⟨mA, ⟨od, es, ep, hod, _⟩, rel⟩ := exd_at I.hok h2
    exact ⟨_, some od, ho, rfl, rfl, hod⟩
  · obtain ⟨⟨oe, vs, ho, hz, hd, _⟩, _, _⟩ := I.hok a _ h
    obtain ⟨oc, odd, oda, osl⟩ := oe
    obtain ⟨e1, e2⟩ := hz
    dsimp only at e1 e2 hd
    subst e1 e2 hd
    exact ⟨_, none, ho, rfl, rfl, trivial⟩
def rIsX (K : PySem.W.Frag) : List V → Hp → VK → Prop := fun xs H Q => ∃ a C c cv b, xs = [.ref a, c] ∧ ExAt H a C ∧ XC K C ∧ (∀ u, RelV c u → u = cv) ∧ PySem.W.kitOne K (.ref C) cv = some b ∧ Q (.bl b) H
theorem call_isX : CallR X (.builtin "isinstance") (rIsX X.K) := by
  intro pins s σ H xs us Q I r h
  obtain ⟨a, C, c, cv, b, rfl, ex, T, hc, hk, q⟩ := h
  obtain ⟨u, u', rfl, r1, r2⟩ := vals2 r
  have e1 : u = Value.ref a := r1
  have e2 := hc _ r2
  subst e1 e2
  obtain ⟨ox, od, J⟩ := exAt_inst I ex
  exact PySem.W.kia_one (PySem.W.kitx_exc T.cl T.ga T.gg T.sb T.ca T.sp T.tk T.mr) I.kIn J hk (fun z => nomatch z) fun tk => ⟨.bl b, H, I.kept (t' := tk) fun _ _ z => z, rfl, q⟩
theorem exAt_of {w : Wd} {v : V} {C : Addr} {fs : List (Str × DV)} (h : Has w v (.exc C fs)) : ∃ a, v = .ref a ∧ ExAt w.H a C := by
  cases h with
  | exc h1 h2 _ => exact ⟨_, rfl, .inl ⟨_, _, h1, h2⟩⟩
  | exc0 h1 => exact ⟨_, rfl, .inr h1⟩
/-- isinstance(e, y), y a class: own or built in -/
theorem Ev.isE {y : Str} {c : V} {cv : Value} (hg : Gl X "isinstance") (hm : X.mg "isinstance" = none) (hy : PE X (.Name y py) (tC c)) (hcv : ∀ u, RelV c u → u = cv)
    (h : Ev X e ρ μ fun d μ1 => ∃ C fs b, d = .exc C fs ∧ XC X.K C ∧ PySem.W.kitOne X.K (.ref C) cv = some b ∧ R (.bl b) μ1)
    (he : starEach [e, .Name y py] X.env = (false, eval e X.env) :: starEach [.Name y py] X.env := by rfl) (hpl : (backTo pos (starEach [.Name y py] X.env)).any (·.1) = false := by rfl)
    (hs : starEach [.Name y py] X.env = (false, eval (.Name y py) X.env) :: starEach [] X.env := by rfl) : Ev X (.Call (.Name "isinstance" p) [e, .Name y py] [] pos) ρ μ R :=
  PEw (pe_callB call_isX hg hm PyProof.Rows.boot_isinstance (pa_cons pe_a (pa_cons hy pa_nil hs) he) (by decide) (by decide) he hpl) fun σ H Q ⟨α, E, q⟩ => ⟨_, h, α, E, fun v d α1 μ1 H1 ⟨C, fs, b, e, T, hk, r⟩ E1 X1 hv => by
    subst e
    obtain ⟨a, rfl, ex⟩ := exAt_of hv
    exact ⟨a, C, c, cv, b, rfl, ex, T, hcv, hk, q _ _ α1 μ1 H1 r E1 X1 .bl⟩⟩
end
end Eg

namespace Eg
open PySem PySem.Spec L2
section
variable {X : Cx} {a b c : Expr} {ρ : RO} {μ : List MO} {pos : Pos}
abbrev toT (R : Ct) : Cn := fun d μ' => ∃ k, d = .bl k ∧ R k μ'
theorem EvT.cmpS {op : CmpOp} {R : Ct} {r : R2} {S : S2} (hr : OpR X (compareOp op) r) (k : R2S X r S) (hm : behindInMarks op b = false) (h : Ev X a ρ μ fun da μ1 => Ev X b ρ μ1 fun db μ2 => S da db μ2 (toT R)) : EvT X (.Compare a [op] [b] pos) ρ μ R :=
  PTw (pt_cmpR hr pe_a pe_a hm) fun σ H Q ⟨α, E, q⟩ => ⟨_, h, α, E, fun x da α1 μ1 H1 h1 E1 X1 hx => ⟨_, h1, α1, E1, fun y db α2 μ2 H2 h2 E2 X2 hy =>
    k α2 μ2 H2 σ ρ x y da db _ _ E2 (X2.has hx) hy h2 fun v d α' μ' H' ⟨t, e, r'⟩ E' X' hv => by
      subst e
      cases hv
      exact ⟨t, rfl, q t α' μ' H' r' E' (X1.trans (X2.trans X'))⟩⟩⟩
theorem EvT.lt {R : Ct} (h : Ev X a ρ μ fun da μ1 => Ev X b ρ μ1 fun db μ2 => sLt da db μ2 (toT R)) : EvT X (.Compare a [.Lt] [b] pos) ρ μ R := .cmpS op_lt (rI0_S fun _ _ _ => .bl) (nomark _) h
theorem EvT.le {R : Ct} (h : Ev X a ρ μ fun da μ1 => Ev X b ρ μ1 fun db μ2 => sLe da db μ2 (toT R)) : EvT X (.Compare a [.LtE] [b] pos) ρ μ R := .cmpS op_le (rI0_S fun _ _ _ => .bl) (nomark _) h
theorem EvT.gt {R : Ct} (h : Ev X a ρ μ fun da μ1 => Ev X b ρ μ1 fun db μ2 => sGt da db μ2 (toT R)) : EvT X (.Compare a [.Gt] [b] pos) ρ μ R := .cmpS op_gt (rI0_S fun _ _ _ => .bl) (nomark _) h
theorem EvT.ge {R : Ct} (h : Ev X a ρ μ fun da μ1 => Ev X b ρ μ1 fun db μ2 => sGe da db μ2 (toT R)) : EvT X (.Compare a [.GtE] [b] pos) ρ μ R := .cmpS op_ge (rI0_S fun _ _ _ => .bl) (nomark _) h
theorem EvT.eq {R : Ct} (h : Ev X a ρ μ fun da μ1 => Ev X b ρ μ1 fun db μ2 => sEq da db μ2 (toT R)) : EvT X (.Compare a [.Eq] [b] pos) ρ μ R := .cmpS op_eq rEq_S (nomark _) h
theorem EvT.ne {R : Ct} (h : Ev X a ρ μ fun da μ1 => Ev X b ρ μ1 fun db μ2 => sNe da db μ2 (toT R)) : EvT X (.Compare a [.NotEq] [b] pos) ρ μ R := .cmpS op_ne rNe_S (nomark _) h
theorem EvT.chain {op op' : CmpOp} {r r' : R2} {S S' : S2} {R : Ct} (ho : OpR X (compareOp op) r) (k : R2S X r S) (ho' : OpR X (compareOp op') r') (k' : R2S X r' S')
    (h : Ev X a ρ μ fun da μ1 => Ev X b ρ μ1 fun db μ2 => S da db μ2 fun d μ3 => ∃ t, d = .bl t ∧ if t = true then Ev X c ρ μ3 fun dc μ4 => S' db dc μ4 (toT R) else R false μ3) (hm : lastMarks [op, op'] [b, c] = false := by with_unfolding_all rfl) :
    EvT X (.Compare a [op, op'] [b, c] pos) ρ μ R := PTw (pt_chain ho ho' pe_a pe_a pe_a hm) fun σ H Q ⟨α, E, q⟩ =>
  ⟨_, h, α, E, fun x da α1 μ1 H1 h1 E1 X1 hx => ⟨_, h1, α1, E1, fun y db α2 μ2 H2 h2 E2 X2 hy =>
    k α2 μ2 H2 σ ρ x y da db _ _ E2 (X2.has hx) hy h2 fun v d α3 μ3 H3 ⟨t, e, h3⟩ E3 X3 hv => by
      subst e
      cases hv
      refine ⟨t, rfl, ?_⟩
      cases t with
      | true =>
        refine iteT ⟨_, show Ev X c ρ μ3 _ from h3, α3, E3, fun z dc α4 μ4 H4 h4 E4 X4 hz => k' α4 μ4 H4 σ ρ y z db dc _ _ E4 (X4.has (X3.has hy)) hz h4 fun v d α' μ' H' ⟨t2, e2, r'⟩ E' X' hv => ?_⟩
        subst e2
        cases hv
        exact ⟨t2, rfl, q t2 α' μ' H' r' E' (X1.trans (X2.trans (X3.trans (X4.trans X'))))⟩
      | false => exact iteF ⟨false, rfl, q _ α3 μ3 H3 h3 E3 (X1.trans (X2.trans X3))⟩⟩⟩
/-! ### lists of truths, whole numbers .. compared: == and != of data -/

mutual
theorem dp_has {w : Wd} : ∀ {v : V} {d : DV} {pd : PyData}, Has w v d → toPy d = some pd → pd.hasDict = false → Dp w.K w.H v pd
  | _, _, _, .non, e, _ => by cases e; exact .non
  | _, _, _, .bl, e, _ => by cases e; exact .bl _
  | _, _, _, .int, e, _ => by cases e; exact .int _
  | _, _, _, .str, e, _ => by cases e; exact .str _
  | _, _, _, .tup h t, e, nd => by
    obtain ⟨ds, e1, e2⟩ := Option.map_eq_some_iff.mp e
    subst e2
    exact .tup h (dpL_has t e1 (by simpa [PyData.hasDict] using nd))
  | _, _, _, @Has.lst _ p vs _ h t, e, nd => by
    obtain ⟨ds, e1, e2⟩ := Option.map_eq_some_iff.mp e
    subst e2
    have sq : SqL w.K w.H p vs := by
      rcases h with ⟨_, h⟩ | h
      · exact .inl h
      · exact h.sq
    exact .lst sq (dpL_has t e1 (by simpa [PyData.hasDict] using nd))
  | _, _, _, @Has.dic _ _ _ kds _ _ _, e, nd => by
    cases kds with
    | nil => cases e; simp [PyData.hasDict] at nd
    | cons _ _ => cases e
  | _, _, _, .exc _ _ _, e, _ => by cases e
  | _, _, _, .exc0 _, e, _ => by cases e
  | _, _, _, .mu _, e, _ => by cases e
theorem dpL_has {w : Wd} : ∀ {vs : List V} {ds : List DV} {pds : List PyData}, HasL w vs ds → toPyL ds = some pds → PyData.hasDictAll pds = false → DpAll w.K w.H vs pds
  | _, _, _, .nil, e, _ => by cases e; exact .nil
  | _, _, _, .cons h t, e, nd => by
    obtain ⟨d, e1, e2⟩ := Option.bind_eq_some_iff.mp e
    obtain ⟨ds, e3, e4⟩ := Option.map_eq_some_iff.mp e2
    subst e4
    have nd' : (PyData.hasDict d || PyData.hasDictAll ds) = false := by simpa [PyData.hasDictAll] using nd
    exact .cons (dp_has h e1 (Bool.or_eq_false_iff.mp nd').1) (dpL_has t e3 (Bool.or_eq_false_iff.mp nd').2)
end
def sEqD : S2 := fun x y μ R => ∃ d e, toPy x = some d ∧ toPy y = some e ∧ d.hasDict = false ∧ e.hasDict = false ∧ SeqAt.shaped d = true ∧ SeqAt.shaped e = true ∧ R (.bl (PyData.eqv d e)) μ
def sNeD : S2 := fun x y μ R => ∃ d e, toPy x = some d ∧ toPy y = some e ∧ d.hasDict = false ∧ e.hasDict = false ∧ SeqAt.shaped d = true ∧ SeqAt.shaped e = true ∧ R (.bl (!PyData.eqv d e)) μ
theorem rEqD_S : R2S X (rEqD X.K) sEqD := fun α μ H σ ρ x y da db R Q E hx hy h q => by
  obtain ⟨d, e, e1, e2, n1, n2, s1, s2, r⟩ := h
  exact ⟨d, e, dp_has hx e1 n1, dp_has hy e2 n2, s1, s2, q.sc E r .bl⟩
theorem rNeD_S : R2S X (rNeD X.K) sNeD := fun α μ H σ ρ x y da db R Q E hx hy h q => by
  obtain ⟨d, e, e1, e2, n1, n2, s1, s2, r⟩ := h
  exact ⟨d, e, dp_has hx e1 n1, dp_has hy e2 n2, s1, s2, q.sc E r .bl⟩
theorem EvT.neD {R : Ct} (hu : X.A.units + 64 < cLine) (h : Ev X a ρ μ fun da μ1 => Ev X b ρ μ1 fun db μ2 => sNeD da db μ2 (toT R)) : EvT X (.Compare a [.NotEq] [b] pos) ρ μ R := .cmpS (op_neD hu) rNeD_S (nomark _) h
theorem EvT.eqD {R : Ct} (hu : X.A.units + 64 < cLine) (h : Ev X a ρ μ fun da μ1 => Ev X b ρ μ1 fun db μ2 => sEqD da db μ2 (toT R)) : EvT X (.Compare a [.Eq] [b] pos) ρ μ R := .cmpS (op_eqD hu) rEqD_S (nomark _) h
/-! ### short words -/
theorem items_mu {k : Nat} {ds : List DV} (h : μ[k]? = some (.lst ds)) : itemsD μ (.mu k) = some ds := by
  show (match μ[k]? with | some (.lst ds) => some ds | _ => none) = some ds
  rw [h]
theorem sIx.mu {k : Nat} {ds : List DV} {i : Int} {d : DV} {R : Cn} (h : μ[k]? = some (.lst ds)) (e : atI ds i = some d) (r : R d μ) : sIx (.mu k) (.int i) μ R := .inl ⟨ds, i, d, items_mu h, rfl, e, r⟩
theorem sIx.tup {ds : List DV} {i : Int} {d : DV} {R : Cn} (e : atI ds i = some d) (r : R d μ) : sIx (.tup ds) (.int i) μ R := .inl ⟨ds, i, d, rfl, rfl, e, r⟩
theorem sIx.lst {ds : List DV} {i : Int} {d : DV} {R : Cn} (e : atI ds i = some d) (r : R d μ) : sIx (.lst ds) (.int i) μ R := .inl ⟨ds, i, d, rfl, rfl, e, r⟩
theorem ifd {p : Prop} [Decidable p] {A B : Prop} (h1 : p → A) (h2 : ¬ p → B) : if decide p = true then A else B := by
  by_cases h : p
  · rw [decide_eq_true h]
    exact iteT (h1 h)
  · rw [decide_eq_false h]
    exact iteF (h2 h)
theorem ifdT {p : Prop} [Decidable p] {A B : Prop} (h : p) (h1 : A) : if decide p = true then A else B := ifd (fun _ => h1) fun z => absurd h z
theorem ifdF {p : Prop} [Decidable p] {A B : Prop} (h : ¬ p) (h1 : B) : if decide p = true then A else B := ifd (fun z => absurd z h) fun _ => h1
theorem ifnT {p : Prop} [Decidable p] {A B : Prop} (h : ¬ p) (h1 : A) : if (!decide p) = true then A else B := by
  rw [decide_eq_false h]
  exact iteT h1
theorem ifnF {p : Prop} [Decidable p] {A B : Prop} (h : p) (h1 : B) : if (!decide p) = true then A else B := by
  rw [decide_eq_true h]
  exact iteF h1
theorem atI_of {α : Type} {xs : List α} {i : Int} {d : α} (h0 : 0 ≤ i) (h : xs[i.toNat]? = some d) : atI xs i = some d := by
  obtain ⟨hl, _⟩ := List.getElem?_eq_some_iff.mp h
  unfold atI ixN
  rw [if_pos h0, if_pos (by omega)]
  exact h
/-! ### the leaves -/
theorem sAdd.mk {i j : Int} {R : Cn} (r : R (.int (i + j)) μ) : sAdd (.int i) (.int j) μ R := ⟨i, j, rfl, rfl, r⟩
theorem sSub.mk {i j : Int} {R : Cn} (r : R (.int (i - j)) μ) : sSub (.int i) (.int j) μ R := ⟨i, j, rfl, rfl, r⟩
theorem sMul.mk {i j : Int} {R : Cn} (h : CMulW i j) (r : R (.int (i * j)) μ) : sMul (.int i) (.int j) μ R := ⟨i, j, rfl, rfl, h, r⟩
theorem sMod.mk {i j : Int} {R : Cn} (h : j ≠ 0) (r : R (.int (i.fmod j)) μ) : sMod (.int i) (.int j) μ R := ⟨i, j, rfl, rfl, h, r⟩
theorem sDiv.mk {i j : Int} {R : Cn} (h : CDivW i j) (r : R (.int (i / j)) μ) : sDiv (.int i) (.int j) μ R := ⟨i, j, rfl, rfl, h, r⟩
theorem sPow.mk {i j : Int} {R : Cn} (h : CPow i j) (r : R (.int (i ^ j.toNat)) μ) : sPow (.int i) (.int j) μ R := ⟨i, j, rfl, rfl, h, r⟩
theorem sLt.mk {i j : Int} {R : Cn} (r : R (.bl (decide (i < j))) μ) : sLt (.int i) (.int j) μ R := ⟨i, j, rfl, rfl, r⟩
theorem sLe.mk {i j : Int} {R : Cn} (r : R (.bl (decide (i ≤ j))) μ) : sLe (.int i) (.int j) μ R := ⟨i, j, rfl, rfl, r⟩
theorem sGt.mk {i j : Int} {R : Cn} (r : R (.bl (decide (j < i))) μ) : sGt (.int i) (.int j) μ R := ⟨i, j, rfl, rfl, r⟩
theorem sGe.mk {i j : Int} {R : Cn} (r : R (.bl (decide (j ≤ i))) μ) : sGe (.int i) (.int j) μ R := ⟨i, j, rfl, rfl, r⟩
theorem v_int {i j : Int} : decide (V.int i = V.int j) = decide (i = j) := by
  by_cases h : i = j
  · rw [h]; simp
  · rw [decide_eq_false h, decide_eq_false fun z => h (V.int.inj z)]
theorem sEq.int {i j : Int} {R : Cn} (r : R (.bl (decide (i = j))) μ) : sEq (.int i) (.int j) μ R := ⟨_, _, rfl, rfl, rfl, by rw [v_int]; exact r⟩
theorem sNe.int {i j : Int} {R : Cn} (r : R (.bl (!decide (i = j))) μ) : sNe (.int i) (.int j) μ R := ⟨_, _, rfl, rfl, rfl, by rw [v_int]; exact r⟩
theorem toT.mk {k : Bool} {R : Ct} (r : R k μ) : toT R (.bl k) μ := ⟨k, rfl, r⟩
theorem mulok {i j : Int} (h1 : i.natAbs < 18446744073709551616) (h2 : j.natAbs < 18446744073709551616) : CMulW i j :=
  wide_mul (a := 64) (b := 64) h1 h2 (by decide) (by decide) (by decide)
theorem divok {i j : Int} (h1 : 0 < j) (h2 : j.natAbs < 18446744073709551616) : CDivW i j := wide_div (b := 64) h1 h2 (by decide) (by decide)
theorem fmod_in {i j : Int} (h : 0 < j) : 0 ≤ i.fmod j ∧ i.fmod j < j := by
  rw [Int.fmod_eq_emod_of_nonneg _ (by omega)]
  exact ⟨Int.emod_nonneg _ (by omega), Int.emod_lt_of_pos _ h⟩
end
theorem Fn.imp {P : Program} {w : World} {K : PySem.W.Frag} {mg : Str → Option Value} {base : Heap} {x : Str} {k : Nat} {C C' : Ctr} (F : Fn P w K mg base x k C) (h : ∀ ds μ R, C' ds μ R → C ds μ R) : Fn P w K mg base x k C' := by
  obtain ⟨f, fd, ps, ⟨l, g⟩, r⟩ := F
  have imp : ∀ vs H Q E, SpD K C' vs H Q E → SpD K C vs H Q E := fun vs H Q E ⟨α, μ, ds, R, z1, z2, z3, z4⟩ => ⟨α, μ, ds, R, z1, z2, h _ _ _ z3, z4⟩
  exact ⟨f, fd, ps, ⟨fun vs H Q E z => l vs H Q E (imp _ _ _ _ z), fun A outer s H args us vs Q h1 h2 h3 h4 h5 h6 => g A outer s H args us vs Q h1 h2 h3 h4 h5 (imp _ _ _ _ h6)⟩, r⟩
end Eg

namespace Eg
open PySem PySem.Spec L2
section
variable {X : Cx} {ρ : RO} {μ : List MO} {pos : Pos}
theorem hasL3 {w : Wd} {vs : List V} {d e f : DV} (h : HasL w vs [d, e, f]) : ∃ v u t, vs = [v, u, t] ∧ Has w v d ∧ Has w u e ∧ Has w t f := by
  cases h with
  | cons h t =>
    obtain ⟨u, x, rfl, h2, h3⟩ := hasL2 t
    exact ⟨_, u, x, rfl, h, h2, h3⟩
/-- a, b, c = e1, e2, e3 -/
theorem St.par3 {R : Co} {e1 e2 e3 : Expr} (i j l : Nat) {x y z : Str} {px py pz pt : Pos} {kt k2 pt2} (hc : X.calm = true) (hN : X.N.Nodup) (hi : X.N[i]? = some x) (hj : X.N[j]? = some y) (hl : X.N[l]? = some z) (hij : i ≠ j) (hil : i ≠ l) (hjl : j ≠ l)
    (hx : X.env.scope.names.lookup x = some .local) (hy : X.env.scope.names.lookup y = some .local) (hz : X.env.scope.names.lookup z = some .local)
    (h : EvA X [e1, e2, e3] ρ μ fun ds μ1 => ∃ d1 d2 d3, ds = [d1, d2, d3] ∧ R (.nx (((ρ.set i (some d1)).set j (some d2)).set l (some d3)) μ1))
    (hw : swappedStores [.Tuple [.Name x px, .Name y py, .Name z pz] kt pt] (.Tuple [e1, e2, e3] k2 pt2) X.env = pure (some [x, y, z]) := by rfl)
    (hs : swapsWithSole [.Tuple [.Name x px, .Name y py, .Name z pz] kt pt] (.Tuple [e1, e2, e3] k2 pt2) pos.line X.env = pure false := by rfl) :
    St X (.Assign [.Tuple [.Name x px, .Name y py, .Name z pz] kt pt] (.Tuple [e1, e2, e3] k2 pt2) pos) ρ μ R :=
  PSw (ps_par3 hc hN hi hj hl hij hil hjl hx hy hz pa_a hw hs) fun D σ H ⟨α, E, q⟩ => ⟨_, h, α, E, fun vs ds α1 μ1 H1 ⟨d1, d2, d3, e, r⟩ E1 X1 hv => by
    subst e
    obtain ⟨v, u, t, rfl, hv1, hv2, hv3⟩ := hasL3 hv
    exact ⟨v, u, t, rfl, q.1 _ _ α1 μ1 H1 r (((E1.set i hv1).set j hv2).set l hv3) X1⟩⟩
/-- y = [e for x in xs] -/
theorem St.setLc {R : Co} {elt iter : Expr} {scope : Scope} {x y : Str} {px py spos : Pos} (i j : Nat) (hc : X.calm = true) (hN : X.N.Nodup) (hy : X.N[i]? = some y) (hyl : X.env.scope.names.lookup y = some .local)
    (hsw : swapsWith (.ListComp elt [⟨.Name x px, iter, [], 0⟩] scope pos) (some (.Name y py)) spos.line X.env = pure true) (hj : X.N[j]? = some x) (ok : BlkOk X.N X.env.scope scope [(x, j)])
    (hl : ∀ (s : Shared) (H : Hp) (C : Addr) (cl : List (Str × Addr)) (fp : List Addr), Loc (blkX X s H scope C cl fp).env.scope x ∧ ((blkX X s H scope C cl fp).fn x = true ∨ (blkX X s H scope C cl fp).env.scope.names.lookup x = some .local))
    (h : LcOk X scope elt iter x px j ρ μ fun d μ1 => R (.nx (ρ.set i (some d)) μ1)) (hs : ∀ x, foldedSetIterable iter X.env x = pure x := by intro _; rfl) :
    St X (.Assign [.Name y py] (.ListComp elt [⟨.Name x px, iter, [], 0⟩] scope pos) spos) ρ μ R :=
  PSw (ps_setLc (own := [(x, j)]) (g := gName j) hc hN hy hyl hsw pi_a ok (fun s H C cl fp => pg_name hN hj (hl s H C cl fp).1 (hl s H C cl fp).2) (fun s H C cl fp => pts_aB s H C cl fp) (fun s H C cl fp => pe_aB s H C cl fp) hs)
    fun D σ H ⟨α, E, q⟩ => lc_S0 h σ H _ ⟨α, E, fun v d α1 μ1 H1 r1 E1 X1 hv => q.1 _ _ α1 μ1 H1 r1 (E1.set i hv) X1⟩
end
end Eg

namespace Eg
open PySem PySem.Spec PyProof.Rows L2
section
variable {P : Program} {w : World} {K : PySem.W.Frag} {mg : Str → Option Value} {base : Heap}
/-- THE RULE for a def -/
theorem FnG.mk2 {x : Str} {params : Arguments} {body : List Stmt} {scope : Scope} {kws : List (Str × V)} {f : Addr} {fd : FuncData} {N ps : List Str} {k : Nat} {C : Ctr}
    (F : FunD K x x params body scope [] kws f fd) (S : FnScope N ps scope) 
    (len : ∀ ds μ R, C ds μ R → ds.length = ps.length)
    (hb : ∀ (cd : Value) (A : Around) (outer : List PySem.Env) (s : Shared) (H : Hp), (bx P w K mg base N x scope f cd A outer s H).A.guards = some [] → Room k (bx P w K mg base N x scope f cd A outer s H).A → (bx P w K mg base N x scope f cd A outer s H).N.Nodup →
      ∀ ds μ R, C ds μ R → Sts (bx P w K mg base N x scope f cd A outer s H) body (startD N ds) μ (fin μ.length R)) : FnG P w K mg base (k + 1) f fd ps (SpD K C) := by
  refine FnG.of F S (fun vs H Q E => ?_) (fun cd A outer s H vs Q hg hr => ?_)
  · rintro ⟨α, μ, ds, R, l, h, c, _⟩
    rw [h.length]
    exact len _ _ _ c
  · rintro ⟨α, μ, ds, R, l, h, c, q⟩
    refine ⟨_, hb cd A outer s H hg hr S.nd ds μ R c, α, start_en l h, ?_, ?_, ?_, ?_⟩
    · intro ρ' σ' α' μ' H' r E' k'
      rcases r with r | ⟨r1, r2⟩
      · exact q _ _ α' μ' H' r E'.live k' .non
      · exact q _ _ _ _ _ r2 (E'.live.cutL μ.length r1) (Live.cut l E'.live k') .non
    · intro v d α' μ' H' r l' k' hv
      rcases r with r | ⟨r0, r1, r2⟩
      · exact q _ _ α' μ' H' r l' k' hv
      · exact q _ _ _ _ _ r2 (l'.cutL μ.length r1) (Live.cut l l' k') (hv.cut r0)
    · intro _ _ _ _ _ r
      exact r.elim
    · intro _ _ _ _ _ r
      exact r.elim
end
theorem seer_sys {h : Heap} (n : h.NoSeer) : ∃ mm, h.Ns sysModules mm := by
  obtain ⟨mm, z, _⟩ := n.mods
  exact ⟨mm, z⟩
/-! ### a law's end -/
section
variable {P : Program} {w : World} {K : PySem.W.Frag} {mg mb : Str → Option Value} {k : Nat} {fa a : Addr} {fd : FuncData} {x : Str} {sp : Sp} {s₁ : Shared} {vs : List Value} {ns : List Int}
/-- the heap at the call: the script alone is told of, and not that if the text itself holds it -/
theorem law_goS (KX : K.In s₁.heap) (hns : s₁.heap.Ns mainGlobals mg) (hbl : s₁.heap.Ns builtinsNs mb) (hbb : ∀ x : Str, x ≠ "__name__" → mb x = bootBuiltins x) (hlim : s₁.heap.NoLimit) (hgen : s₁.gens = #[]) (hsys : ∃ mm, s₁.heap.Ns sysModules mm)
    (ha : s₁.heap.get? a = some { cls := .type "list", data := .seq vs.toArray }) (hi : IntsAre vs ns) (hl : ns.length ≤ sizeLine) (hr : Room k callerA)
    (F : ∀ base : Heap, K.In base → base.Ns mainGlobals mg → (∃ mm, base.Ns sysModules mm) → FnG P w K mg base k fa fd [x] sp) (hbind : ∀ (s : Shared) (u : Value), BindsTo s fd ⟨[u], []⟩ [(x, u)])
    (hsp : ∀ H : Hp, ((∀ b, H b = none) ∧ WrL K a (ns.map V.int)) ∨ (∃ o, H = fun b => if b = a then some (.frz o (.lst (ns.map V.int))) else none) → sp [.ref a] H (fun v _ => v = .bl true) E0) :
    codeAny (model P w) callerA (.call (.ref fa) ⟨[.ref a], []⟩) (fun r s' => r = .ok (.ret (.bool true)) ∧ OldK s₁.heap s'.heap ∧ s'.os = s₁.os ∧ AllBare s'.gens) s₁ := by
  have rv := vals_ints hi
  -- whatever H tells: at most of a, and of a as it stands
  have main : ∀ H : Hp, (∀ b, b ≠ a → H b = none) → (∀ u, H a = some u → u = .frz { cls := .type "list", data := .seq vs.toArray } (.lst (ns.map V.int))) → (H a = none ∨ K.lookup a = none) → sp [.ref a] H (fun v _ => v = .bl true) E0 →
      codeAny (model P w) callerA (.call (.ref fa) ⟨[.ref a], []⟩) (fun r s' => r = .ok (.ret (.bool true)) ∧ OldK s₁.heap s'.heap ∧ s'.os = s₁.os ∧ AllBare s'.gens) s₁ := by
    intro H h1 h2 h3 hq
    have ok : HOk P w H s₁.heap := by
      intro b u e
      have eb : b = a := Classical.byContradiction fun z => by
        rw [h1 b z] at e
        cases e
      subst eb
      have eu := h2 u e
      subst eu
      exact ⟨ha, by rw [List.length_map]; exact hl, vs, 0, rv, ha⟩
    have none_of_dict : ∀ {b : Addr} {o : Obj} {es : Array DictEntry} {ep : Nat}, s₁.heap.get? b = some o → o.data = .dict es ep → H b = none := by
      intro b o es ep e d
      refine h1 b fun z => ?_
      rw [z, ha] at e
      have := Option.some.inj e
      subst this
      cases d
    have ns_of : ∀ {b : Addr} {m : Str → Option Value}, s₁.heap.Ns b m → (hidT s₁.heap H).Ns b m := by
      rintro b m ⟨o, es, ep, e, d, r⟩
      exact ⟨o, es, ep, hidT_get e (none_of_dict e d), d, r⟩
    have kin : K.In (hidT s₁.heap H) := by
      intro b o e
      refine hidT_get (KX b o e) ?_
      by_cases z : b = a
      · subst z
        rcases h3 with h3 | h3
        · exact h3
        · rw [h3] at e
          cases e
      · exact h1 b z
    obtain ⟨mc, c1, c2⟩ := hlim
    have env0 : Env0 P w K mg (hidT s₁.heap H) callerA [] s₁ H :=
      ⟨rfl, ⟨kin, ns_of hns, ⟨mb, ns_of hbl, hbb⟩, mc, ns_of c1, c2⟩, fun _ _ e => of_hidT e, Nat.le_of_eq (hidT_size _ _), trivial, fun b z => absurd (show b ∈ ([] : List Addr) from z) List.not_mem_nil, ok, .of_eq hgen⟩
    refine codeAny_mono ((F _ kin (ns_of hns) (hsys.imp fun _ z => ns_of z)).go callerA [] s₁ H ⟨[.ref a], []⟩ [.ref a] [.ref a] _ rfl hr env0 (hbind s₁ (.ref a)) (.cons rfl .nil) hq) fun r s' z => ?_
    match r, z with
    | .ok (.ret u), ⟨v, H', os, bare, un, ok', rv', q⟩ =>
      have q' : v = .bl true := q
      subst q'
      have eu : u = Value.bool true := rv'
      subst eu
      refine ⟨rfl, OldK.of_keep fun b o e => ?_, os, bare⟩
      by_cases z : H b = none
      · exact un.keep b o e z (fun y => absurd (show b ∈ ([] : List Addr) from y) List.not_mem_nil) List.not_mem_nil
      · have eb : b = a := Classical.byContradiction fun y => z (h1 b y)
        subst eb
        cases hu : H b with
        | none => exact absurd hu z
        | some u =>
          have eu := h2 u hu
          rw [eu] at hu
          have t := (ok' b _ (un.frzs b _ _ hu)).1
          rw [ha] at e
          cases e
          exact t
    | .ok .next, z => exact z.elim
    | .ok .brk, z => exact z.elim
    | .ok .cont, z => exact z.elim
    | .error e, z => exact z.elim
  cases hk : K.lookup a with
  | none =>
    refine main (fun b => if b = a then some (.frz { cls := .type "list", data := .seq vs.toArray } (.lst (ns.map V.int))) else none) (fun b z => if_neg z) (fun u e => ?_) (.inr hk) (hsp _ (.inr ⟨_, rfl⟩))
    rw [if_pos rfl] at e
    exact (Option.some.inj e).symm
  | some o =>
    have eo : o = { cls := .type "list", data := .seq vs.toArray } := by
      have z := KX a o hk
      rw [ha] at z
      exact (Option.some.inj z).symm
    subst eo
    refine main (fun _ => none) (fun _ _ => rfl) (fun u e => nomatch e) (.inl rfl) (hsp _ (.inl ⟨fun _ => rfl, .inr ⟨_, vs.toArray, 0, hk, rfl, rfl, rfl, ?_, ?_⟩⟩))
    · have e1 := hi.length
      rw [List.size_toArray]
      omega
    · exact rv
end
theorem walk_S {l : PySem.W.OpenLaw} {n k : Nat} {q : Program} {loose : List Str} {XP : (Str → Option Value) → Heap → Prop} {YP : World → Heap → Prop} {d : DefRec} {C : Ctr}
    (hn : l.most = some n) (hn2 : n ≤ sizeLine) (hdf : d.params.defaults = []) (himp : PyProof.Rows.importsNone q = true) (hr : Room k callerA)
    (hC : ∀ ns : List Int, ns.length ≤ n → (∀ z ∈ ns, Builtin.Int.intBits z ≤ 1048576) → C [scD ns] [] fun d _ => d = .bl true)
    (F : ∀ (w : World) (mg : Str → Option Value) (fa : Addr) (h : Heap), YP w h → h.Ns mainGlobals mg → mg d.name = some (.ref fa) →
      ∃ (K : PySem.W.Frag) (fd : FuncData) (x : Str), K.In h ∧ (∀ (s : Shared) (u : Value), BindsTo s fd ⟨[u], []⟩ [(x, u)]) ∧ ∀ base : Heap, K.In base → base.Ns mainGlobals mg → (∃ mm, base.Ns sysModules mm) → FnG l.prog w K mg base k fa fd [x] (SpD K C)) :
    PySem.W.WalkO q loose XP YP l.row.toRowW d [] (fun f vs => PySem.call f vs) := by
  refine Att.attach_callB hn hdf fun w s₀ s₁ mg mb fa o pm cd doc a vs ns G Y ho hd hcd hmg hobj hints hlen hbits hg => ?_
  obtain ⟨K, fd, x, KX, hb, hF⟩ := F w mg fa _ Y G.T.g hmg
  refine law_goS KX G.T.g G.T.b G.T.builtins G.T.nolimit hg (seer_sys (G.T.seer himp)) hobj hints (Nat.le_trans hlen hn2) hr hF hb fun H hH => ?_
  have l0 : Live ⟨K, [], [], H⟩ := ⟨rfl, List.nodup_nil, fun _ h => absurd h List.not_mem_nil, fun k a o h => by simp at h⟩
  refine ⟨[], [], [scD ns], fun d _ => d = .bl true, l0, .cons (.lst ?_ (sc_has ns)) .nil, hC ns hlen hbits, ?_⟩
  · rcases hH with ⟨_, h⟩ | ⟨o, rfl⟩
    · exact .inr h
    · refine .inl ⟨?_, .inr ⟨o, if_pos rfl⟩⟩
      rintro ⟨k, u, h1, _⟩
      simp at h1
  · rintro v d α' μ' H' rfl _ _ hv
    cases hv
    rfl
end Eg

namespace Eg
open PySem PySem.Spec L2
/-! ### x is None -/
def DV.isN : DV → Bool
  | .non => true
  | _ => false
theorem isN_has {w : Wd} {v : V} {d : DV} (h : Has w v d) : decide (v = V.non) = DV.isN d := by
  cases h <;> simp [DV.isN]
def sIsN : S2 := fun x y μ R => y = .non ∧ R (.bl (DV.isN x)) μ
def sNotN : S2 := fun x y μ R => y = .non ∧ R (.bl (!DV.isN x)) μ
section
variable {X : Cx} {a b c e o : Expr} {ρ : RO} {μ : List MO} {pos p : Pos}
theorem rIsN_S : R2S X (fun x y H Q => y = .non ∧ Q (.bl (decide (x = .non))) H) sIsN := fun α μ H σ ρ x y da db R Q E hx hy h q => by
  obtain ⟨rfl, r⟩ := h
  cases hy
  refine ⟨rfl, ?_⟩
  rw [isN_has hx]
  exact q.sc E r .bl
theorem rNotN_S : R2S X (fun x y H Q => y = .non ∧ Q (.bl (!decide (x = .non))) H) sNotN := fun α μ H σ ρ x y da db R Q E hx hy h q => by
  obtain ⟨rfl, r⟩ := h
  cases hy
  refine ⟨rfl, ?_⟩
  rw [isN_has hx]
  exact q.sc E r .bl
theorem Ev.isN {R : Cn} (h : Ev X a ρ μ fun da μ1 => Ev X b ρ μ1 fun db μ2 => sIsN da db μ2 R) : Ev X (.Compare a [.Is] [b] pos) ρ μ R := .cmp op_isN rIsN_S (nomark _) h
theorem Ev.notN {R : Cn} (h : Ev X a ρ μ fun da μ1 => Ev X b ρ μ1 fun db μ2 => sNotN da db μ2 R) : Ev X (.Compare a [.IsNot] [b] pos) ρ μ R := .cmp op_notN rNotN_S (nomark _) h
theorem EvT.isN {R : Ct} (h : Ev X a ρ μ fun da μ1 => Ev X b ρ μ1 fun db μ2 => sIsN da db μ2 (toT R)) : EvT X (.Compare a [.Is] [b] pos) ρ μ R := .cmpS op_isN rIsN_S (nomark _) h
theorem EvT.notN {R : Ct} (h : Ev X a ρ μ fun da μ1 => Ev X b ρ μ1 fun db μ2 => sNotN da db μ2 (toT R)) : EvT X (.Compare a [.IsNot] [b] pos) ρ μ R := .cmpS op_notN rNotN_S (nomark _) h
theorem sIsN.mk {d : DV} {R : Cn} (r : R (.bl (DV.isN d)) μ) : sIsN d .non μ R := ⟨rfl, r⟩
theorem sNotN.mk {d : DV} {R : Cn} (r : R (.bl (!DV.isN d)) μ) : sNotN d .non μ R := ⟨rfl, r⟩
/-! ### == and != of data as values -/
theorem Ev.eqD {R : Cn} (hu : X.A.units + 64 < cLine) (h : Ev X a ρ μ fun da μ1 => Ev X b ρ μ1 fun db μ2 => sEqD da db μ2 R) : Ev X (.Compare a [.Eq] [b] pos) ρ μ R := .cmp (op_eqD hu) rEqD_S (nomark _) h
theorem Ev.neD {R : Cn} (hu : X.A.units + 64 < cLine) (h : Ev X a ρ μ fun da μ1 => Ev X b ρ μ1 fun db μ2 => sNeD da db μ2 R) : Ev X (.Compare a [.NotEq] [b] pos) ρ μ R := .cmp (op_neD hu) rNeD_S (nomark _) h
/-! ### texts: +, order, in -/
def sStr (C : Str → Str → Prop) (g : Str → Str → DV) : S2 := fun x y μ R => ∃ i j, x = .str i ∧ y = .str j ∧ C i j ∧ R (g i j) μ
def sAddS : S2 := sStr (fun i j => i.length + j.length ≤ sizeLine) fun i j => .str (i ++ j)
theorem rAddS_S : R2S X (fun x y H Q => ∃ i j, x = .str i ∧ y = .str j ∧ i.length + j.length ≤ sizeLine ∧ Q (.str (i ++ j)) H) sAddS := fun α μ H σ ρ x y da db R Q E hx hy h q => by
  obtain ⟨i, j, rfl, rfl, c, r⟩ := h
  cases hx
  cases hy
  exact ⟨i, j, rfl, rfl, c, q.sc E r .str⟩
theorem Ev.addS {R : Cn} (h : Ev X a ρ μ fun da μ1 => Ev X b ρ μ1 fun db μ2 => sAddS da db μ2 R) : Ev X (.BinOp a .Add b pos) ρ μ R := .op op_add_str rAddS_S h
def sCmpS (g : Str → Str → Bool) : S2 := fun x y μ R => ∃ i j, x = .str i ∧ y = .str j ∧ R (.bl (g i j)) μ
theorem rCmpS_S {g : Str → Str → Bool} : R2S X (fun x y H Q => ∃ i j, x = .str i ∧ y = .str j ∧ Q (.bl (g i j)) H) (sCmpS g) := fun α μ H σ ρ x y da db R Q E hx hy h q => by
  obtain ⟨i, j, rfl, rfl, r⟩ := h
  cases hx
  cases hy
  exact ⟨i, j, rfl, rfl, q.sc E r .bl⟩
/-- one sign in a text -/
def sSign : S2 := fun x y μ R => ∃ (c : Nat) (z : Str), x = .str ⟨#[c]⟩ ∧ y = .str z ∧ R (.bl (decide (c ∈ z.cps.toList))) μ
theorem rSign_S : R2S X (fun x y H Q => ∃ (c : Nat) (z : Str), x = .str ⟨#[c]⟩ ∧ y = .str z ∧ Q (.bl (decide (c ∈ z.cps.toList))) H) sSign := fun α μ H σ ρ x y da db R Q E hx hy h q => by
  obtain ⟨i, j, rfl, rfl, r⟩ := h
  cases hx
  cases hy
  exact ⟨i, j, rfl, rfl, q.sc E r .bl⟩
theorem EvT.inSign {R : Ct} (h : Ev X a ρ μ fun da μ1 => Ev X b ρ μ1 fun db μ2 => sSign da db μ2 (toT R)) (hmk : behindInMarks .In b = false := by rfl) : EvT X (.Compare a [.In] [b] pos) ρ μ R := .cmpS op_in_sign rSign_S hmk h
theorem Ev.inSign {R : Cn} (h : Ev X a ρ μ fun da μ1 => Ev X b ρ μ1 fun db μ2 => sSign da db μ2 R) (hmk : behindInMarks .In b = false := by rfl) : Ev X (.Compare a [.In] [b] pos) ρ μ R := .cmp op_in_sign rSign_S hmk h
/-! ### x in xs, all of it flat -/
def flatL : List DV → Option (List V)
  | [] => some []
  | d :: r => (DV.flat d).bind fun v => (flatL r).map (v :: ·)
theorem flatL_has {w : Wd} : ∀ {vs : List V} {ds : List DV} {us : List V}, HasL w vs ds → flatL ds = some us → vs = us
  | _, _, _, .nil, e => by cases e; rfl
  | _, _, _, .cons h t, e => by
    obtain ⟨u, e1, e2⟩ := Option.bind_eq_some_iff.mp e
    obtain ⟨us, e3, e4⟩ := Option.map_eq_some_iff.mp e2
    subst e4
    rw [flat_has h e1, flatL_has t e3]
theorem flat_flatV {d : DV} {v : V} (e : DV.flat d = some v) : flatV v = true := by
  cases d <;> first | (cases e; rfl) | cases e
theorem flatL_all : ∀ {ds : List DV} {us : List V}, flatL ds = some us → us.all flatV = true
  | [], _, e => by cases e; rfl
  | d :: r, _, e => by
    obtain ⟨u, e1, e2⟩ := Option.bind_eq_some_iff.mp e
    obtain ⟨us, e3, e4⟩ := Option.map_eq_some_iff.mp e2
    subst e4
    rw [List.all_cons, flat_flatV e1, flatL_all e3]
    rfl
def sIn (neg : Bool) : S2 := fun x y μ R => ∃ ds u us, itemsD μ y = some ds ∧ DV.flat x = some u ∧ flatL ds = some us ∧ R (.bl (if neg then !inV u us else inV u us)) μ
theorem rIn_S {neg : Bool} : R2S X (rIn X.K neg) (sIn neg) := fun α μ H σ ρ x y da db R Q E hx hy h q => by
  obtain ⟨ds, u, us, e1, e2, e3, r⟩ := h
  obtain ⟨p, vs, rfl, hl, s⟩ := seq_of E.live hy e1
  have ex := flat_has hx e2
  have es := flatL_has hl e3
  subst ex es
  exact ⟨p, vs, rfl, s, flat_flatV e2, flatL_all e3, q.sc E r .bl⟩
theorem Ev.inL {R : Cn} (h : Ev X a ρ μ fun da μ1 => Ev X b ρ μ1 fun db μ2 => sIn false da db μ2 R) (hmk : behindInMarks .In b = false := by rfl) : Ev X (.Compare a [.In] [b] pos) ρ μ R := .cmp op_in_seq rIn_S hmk h
theorem EvT.inL {R : Ct} (h : Ev X a ρ μ fun da μ1 => Ev X b ρ μ1 fun db μ2 => sIn false da db μ2 (toT R)) (hmk : behindInMarks .In b = false := by rfl) : EvT X (.Compare a [.In] [b] pos) ρ μ R := .cmpS op_in_seq rIn_S hmk h
theorem Ev.notInL {R : Cn} (h : Ev X a ρ μ fun da μ1 => Ev X b ρ μ1 fun db μ2 => sIn true da db μ2 R) (hmk : behindInMarks .NotIn b = false := by rfl) : Ev X (.Compare a [.NotIn] [b] pos) ρ μ R := .cmp op_notIn_seq rIn_S hmk h
theorem EvT.notInL {R : Ct} (h : Ev X a ρ μ fun da μ1 => Ev X b ρ μ1 fun db μ2 => sIn true da db μ2 (toT R)) (hmk : behindInMarks .NotIn b = false := by rfl) : EvT X (.Compare a [.NotIn] [b] pos) ρ μ R := .cmpS op_notIn_seq rIn_S hmk h
/-! ### tuples and lists put behind each other -/
def sCatT : S2 := fun x y μ R => ∃ xs ys, x = .tup xs ∧ y = .tup ys ∧ xs.length + ys.length ≤ sizeLine ∧ R (.tup (xs ++ ys)) μ
theorem rCatT_S : R2S X (rCatA X.K) sCatT := fun α μ H σ ρ x y da db R Q E hx hy h q => by
  obtain ⟨xs, ys, rfl, rfl, c, r⟩ := h
  cases hx with
  | @tup a vs _ s1 t1 =>
    cases hy with
    | @tup b us _ s2 t2 =>
      refine ⟨a, b, vs, us, rfl, rfl, s1, s2, by rw [t1.length, t2.length]; exact c, ?_, ?_, ?_⟩
      · rintro rfl
        have e : xs = [] := List.length_eq_zero_iff.mp t1.length.symm
        subst e
        exact q.sc E r (.tup s2 t2)
      · rintro _ rfl
        have e : ys = [] := List.length_eq_zero_iff.mp t2.length.symm
        subst e
        rw [List.append_nil] at r
        exact q.sc E r (.tup s1 t1)
      · intro _ _ p np
        obtain ⟨k, l⟩ := E.live.lay (o := .tup (vs ++ us)) np
        exact q _ _ α μ _ r (E.ext k l) k (.tup (.of upd_same) (k.hasL (HasL.app t1 t2)))
theorem Ev.catT {R : Cn} (h : Ev X a ρ μ fun da μ1 => Ev X b ρ μ1 fun db μ2 => sCatT da db μ2 R) : Ev X (.BinOp a .Add b pos) ρ μ R := .op op_catA rCatT_S h
/-- both are lists that may be changed; the new one is such a list too -/
def sCatM : S2 := fun x y μ R => ∃ i j xs ys, x = .mu i ∧ y = .mu j ∧ μ[i]? = some (.lst xs) ∧ μ[j]? = some (.lst ys) ∧ xs.length + ys.length ≤ sizeLine ∧ R (.mu μ.length) (μ ++ [.lst (xs ++ ys)])
theorem rCatM_S : R2S X rCat sCatM := fun α μ H σ ρ x y da db R Q E hx hy h q => by
  obtain ⟨i, j, xs, ys, rfl, rfl, h1, h2, c, r⟩ := h
  cases hx with
  | mu ha =>
    cases hy with
    | mu hb =>
      obtain ⟨vs, z1, z2⟩ := E.live.ob i _ _ ha h1
      obtain ⟨us, y1, y2⟩ := E.live.ob j _ _ hb h2
      refine ⟨_, _, vs, us, rfl, rfl, z1, y1, by rw [z2.length, y2.length]; exact c, fun p np => ?_⟩
      obtain ⟨k, l, e⟩ := E.live.layM (o := .lst (vs ++ us)) (m := .lst (xs ++ ys)) np (fun _ k => ⟨_, upd_same, k.hasL (HasL.app z2 y2)⟩)
      exact q _ _ _ _ _ r (E.ext k l) k (.mu e)
theorem Ev.catM {R : Cn} (h : Ev X a ρ μ fun da μ1 => Ev X b ρ μ1 fun db μ2 => sCatM da db μ2 R) : Ev X (.BinOp a .Add b pos) ρ μ R := .op op_cat rCatM_S h
/-! ### max, min of numbers -/
def sMax : SA := fun ds μ R => ∃ d ns, ds = [d] ∧ itemsD μ d = some (List.map DV.int ns) ∧ (∀ xs, d ≠ .tup xs) ∧ 0 < ns.length ∧ ∀ m, m ∈ ns → (∀ y, y ∈ ns → y ≤ m) → R (.int m) μ
def sMin : SA := fun ds μ R => ∃ d ns, ds = [d] ∧ itemsD μ d = some (List.map DV.int ns) ∧ (∀ xs, d ≠ .tup xs) ∧ 0 < ns.length ∧ ∀ m, m ∈ ns → (∀ y, y ∈ ns → m ≤ y) → R (.int m) μ
theorem ints_has {w : Wd} : ∀ {vs : List V} {ns : List Int}, HasL w vs (ns.map DV.int) → vs = ns.map V.int
  | _, [], .nil => rfl
  | _, n :: r, .cons h t => by
    cases h
    rw [List.map_cons, ints_has t]
theorem lst_of {w : Wd} {v : V} {d : DV} {ds : List DV} (l : Live w) (h : Has w v d) (e : itemsD w.μ d = some ds) (n : ∀ xs, d ≠ .tup xs) : ∃ p vs, v = .ref p ∧ HasL w vs ds ∧ SqL w.K w.H p vs := by
  cases d with
  | tup xs => exact absurd rfl (n xs)
  | lst xs =>
    cases e
    cases h with
    | lst hz t =>
      rcases hz with ⟨_, hz⟩ | hz
      · exact ⟨_, _, rfl, t, .inl hz⟩
      · exact ⟨_, _, rfl, t, hz.sq⟩
  | mu k =>
    cases h with
    | mu ha =>
      have e' : (match w.μ[k]? with | some (.lst ds) => some ds | _ => none) = some ds := e
      cases hk : w.μ[k]? with
      | none => rw [hk] at e'; cases e'
      | some m =>
        rw [hk] at e'
        cases m with
        | lst zs =>
          cases e'
          obtain ⟨vs, z1, z2⟩ := l.ob k _ _ ha hk
          exact ⟨_, vs, rfl, z2, .inl (.inl z1)⟩
        | _ => cases e'
  | _ => cases e
theorem max_S : RaS X (rMax X.K) sMax := fun α μ H σ ρ vs ds R Q E hv h q => by
  obtain ⟨d, ns, rfl, e, nt, h0, r⟩ := h
  obtain ⟨v, rfl, hw⟩ := hasL1 hv
  obtain ⟨p, us, rfl, hl, s⟩ := lst_of E.live hw e nt
  have eu := ints_has hl
  subst eu
  exact ⟨p, ns, rfl, s, h0, fun m h1 h2 => q.sc E (r m h1 h2) .int⟩
theorem min_S : RaS X (rMin X.K) sMin := fun α μ H σ ρ vs ds R Q E hv h q => by
  obtain ⟨d, ns, rfl, e, nt, h0, r⟩ := h
  obtain ⟨v, rfl, hw⟩ := hasL1 hv
  obtain ⟨p, us, rfl, hl, s⟩ := lst_of E.live hw e nt
  have eu := ints_has hl
  subst eu
  exact ⟨p, ns, rfl, s, h0, fun m h1 h2 => q.sc E (r m h1 h2) .int⟩
theorem Ev.max1 {R : Cn} (hc : X.calm = true) (hg : Gl X "max") (hm : X.mg "max" = none) (h : EvA X [a] ρ μ fun ds μ1 => sMax ds μ1 R) (he : starEach [a] X.env = (false, eval a X.env) :: starEach [] X.env := by rfl) :
    Ev X (.Call (.Name "max" p) [a] [] pos) ρ μ R := .callB (cr_max hc) max_S hg hm PyProof.Rows.boot_max h (by decide) (by decide) he rfl
theorem Ev.min1 {R : Cn} (hc : X.calm = true) (hg : Gl X "min") (hm : X.mg "min" = none) (h : EvA X [a] ρ μ fun ds μ1 => sMin ds μ1 R) (he : starEach [a] X.env = (false, eval a X.env) :: starEach [] X.env := by rfl) :
    Ev X (.Call (.Name "min" p) [a] [] pos) ρ μ R := .callB (cr_min hc) min_S hg hm PyProof.Rows.boot_min h (by decide) (by decide) he rfl
/-! ### isinstance of data -/
def DV.ty : DV → Option String
  | .non => some "NoneType"
  | .bl _ => some "bool"
  | .int _ => some "int"
  | .str _ => some "str"
  | .tup _ => some "tuple"
  | .lst _ => some "list"
  | .dic _ => some "dict"
  | _ => none
theorem ty_has {w : Wd} {v : V} {d : DV} {t : String} (h : Has w v d) (e : DV.ty d = some t) : TyX w.K w.H v (.type t) := by
  cases h with
  | non => cases e; exact .base .non
  | bl => cases e; exact .base (.bl _)
  | int => cases e; exact .base (.int _)
  | str => cases e; exact .base (.str _)
  | tup s _ =>
    cases e
    rcases s with (s | ⟨o, s⟩) | ⟨o, its, n, s, s1, _⟩
    · exact .base (.tup s)
    · exact .fTuple s
    · exact .kTuple s s1
  | lst s _ =>
    cases e
    have sq : ∀ {p : Addr} {vs : List V}, (¬w.lv p ∧ Rd w.H p (HO.lst vs) ∨ WrL w.K p vs) → SqL w.K w.H p vs := fun s => by
      rcases s with ⟨_, s⟩ | s
      · exact .inl s
      · exact s.sq
    rcases sq s with (s | ⟨o, s⟩) | ⟨o, its, n, s, s1, _⟩
    · exact .base (.lst s)
    · exact .base (.frz s)
    · exact .kList s s1
  | dic _ s _ => cases e; exact .base (.dK s)
  | exc _ _ _ => cases e
  | exc0 _ => cases e
  | mu _ => cases e
theorem Ev.isi {R : Cn} {y : Str} {py : Pos} {T : String} (hg : Gl X "isinstance") (hm : X.mg "isinstance" = none) (gy : Gl X y) (my : X.mg y = none) (hy : bootBuiltins y = some (.type T)) (ny : y ≠ "__name__") (dy : (y == ("__debug__" : Str)) = false)
    (h : Ev X e ρ μ fun d μ1 => ∃ t b, DV.ty d = some t ∧ PySem.W.kitOne X.K (.type t) (.type T) = some b ∧ R (.bl b) μ1)
    (he : starEach [e, .Name y py] X.env = (false, eval e X.env) :: starEach [.Name y py] X.env := by rfl) (hpl : (backTo pos (starEach [.Name y py] X.env)).any (·.1) = false := by rfl)
    (hs : starEach [.Name y py] X.env = (false, eval (.Name y py) X.env) :: starEach [] X.env := by rfl) : Ev X (.Call (.Name "isinstance" p) [e, .Name y py] [] pos) ρ μ R :=
  PEw (pe_callB call_isi hg hm PyProof.Rows.boot_isinstance (pa_cons pe_a (pa_cons (pe_bltn (v := .ty T) gy my hy rfl ny dy) pa_nil hs) he) (by decide) (by decide) he hpl) fun σ H Q ⟨α, E, q⟩ => ⟨_, h, α, E, fun v d α1 μ1 H1 ⟨t, b, e1, e2, r⟩ E1 X1 hv =>
    ⟨v, .ty T, .type t, .type T, b, rfl, .ty T, ty_has (w := ⟨X.K, α1, μ1, H1⟩) hv e1, e2, q _ _ α1 μ1 H1 r E1 X1 .bl⟩⟩
end
end Eg

namespace Eg
open PySem PySem.Spec L2
/-! ### own defs called by names -/
def permI {α : Type} (ix : List Nat) (xs : List α) : List α := ix.filterMap fun i => xs[i]?
theorem vals_at {vs : List V} {us : List Value} (h : Vals vs us) : ∀ i : Nat, (∃ v u, vs[i]? = some v ∧ us[i]? = some u ∧ RelV v u) ∨ (vs[i]? = none ∧ us[i]? = none) := by
  induction h with
  | nil => exact fun i => .inr ⟨rfl, rfl⟩
  | cons r t ih =>
    intro i
    cases i with
    | zero => exact .inl ⟨_, _, rfl, rfl, r⟩
    | succ i => exact ih i
theorem vals_perm {vs : List V} {us : List Value} (h : Vals vs us) : ∀ ix : List Nat, Vals (permI ix vs) (permI ix us)
  | [] => .nil
  | i :: r => by
    have ih := vals_perm h r
    unfold permI at ih ⊢
    rcases vals_at h i with ⟨v, u, e1, e2, rv⟩ | ⟨e1, e2⟩
    · rw [List.filterMap_cons_some (f := fun i => vs[i]?) e1, List.filterMap_cons_some (f := fun i => us[i]?) e2]
      exact .cons rv ih
    · rw [List.filterMap_cons_none (f := fun i => vs[i]?) e1, List.filterMap_cons_none (f := fun i => us[i]?) e2]
      exact ih
theorem hasL_perm {w : Wd} {vs : List V} {ds : List DV} (h : HasL w vs ds) : ∀ ix : List Nat, HasL w (permI ix vs) (permI ix ds)
  | [] => .nil
  | i :: r => by
    have ih := hasL_perm h r
    unfold permI at ih ⊢
    by_cases hi : i < ds.length
    · obtain ⟨v, e1, e2⟩ := h.get (List.getElem?_eq_getElem hi)
      rw [List.filterMap_cons_some (f := fun i => vs[i]?) e1, List.filterMap_cons_some (f := fun i => ds[i]?) (List.getElem?_eq_getElem hi)]
      exact .cons e2 ih
    · have e1 : ds[i]? = none := List.getElem?_eq_none (by omega)
      have e2 : vs[i]? = none := List.getElem?_eq_none (by rw [h.length]; omega)
      rw [List.filterMap_cons_none (f := fun i => vs[i]?) e2, List.filterMap_cons_none (f := fun i => ds[i]?) e1]
      exact ih
/-- the def of a name as Fn tells it, and how it takes the names ks -/
def FnW (P : Program) (w : World) (K : PySem.W.Frag) (mg : Str → Option Value) (base : Heap) (x : Str) (k : Nat) (C : Ctr) (ks : List Str) (ix : List Nat) : Prop :=
  ∃ f fd ps, FnG P w K mg base k f fd ps (SpD K C) ∧ mg x = some (.ref f) ∧ PySem.W.keepIn K (.ref f) = true ∧ ∀ (s : Shared) (us : List Value), us.length = ks.length → BindsTo s fd ⟨[], ks.zip us⟩ (ps.zip (permI ix us))
section
variable {P : Program} {w : World} {K : PySem.W.Frag} {mg : Str → Option Value} {base : Heap}
theorem FnW.mk {x : Str} {params : Arguments} {body : List Stmt} {scope : Scope} {kws : List (Str × V)} {f : Addr} {fd : FuncData} {ps : List Str} {k : Nat} {C : Ctr} (F : FunD K x x params body scope [] kws f fd) (G : FnG P w K mg base k f fd ps (SpD K C)) (hm : mg x = some (.ref f))
    (ks : List Str) (ix : List Nat) (hb : ∀ (kV doc pm : Value) (an : Option Addr) (cdv ct : Value) (us : List Value), us.length = ks.length → bindArgs (PySem.W.fnOf x x params body scope .none kV doc pm an cdv ct) ⟨[], ks.zip us⟩ = pure (ps.zip (permI ix us))) : FnW P w K mg base x k C ks ix := by
  refine ⟨f, fd, ps, G, hm, F.kp, ?_⟩
  obtain ⟨oc, od, dV, kV, doc, pm, an, cd, ct, osl, rfl, lk, hcd, hD, _⟩ := F.ex
  have hdV : dV = .none := by
    rcases hD with ⟨_, z⟩ | ⟨z, _⟩
    · exact z
    · exact absurd rfl z
  subst hdV
  intro s us hl M A E Q q
  rw [hb kV doc pm an cd ct us hl]
  exact wpAny_pure q
end
section
variable {X : Cx} {e : Expr} {es : List Expr} {kws : List Keyword} {ρ : RO} {μ : List MO} {pos p : Pos} {R : Cn} {x : Str} {k : Nat} {C : Ctr} {ks : List Str} {ix : List Nat}
theorem Ev.callW (F : FnW X.prog X.w X.K X.mg X.base x k C ks ix) (hA : X.A.guards = some []) (hr : Room k X.A) (hg : Gl X x) (h : EvK X kws ρ μ fun ds μ1 => ds.length = ks.length ∧ C (permI ix ds) μ1 R)
    (hdb : (x == ("__debug__" : Str)) = false := by decide) (hall : (backToKw pos (keywordEach kws X.env)).all (·.1.isSome) = true := by rfl) (hks : (backToKw pos (keywordEach kws X.env)).filterMap (·.1) = ks := by rfl)
    (hpl : ((backTo pos (starEach [] X.env)).any (·.1) || (backToKw pos (keywordEach kws X.env)).any (·.1.isNone)) = false := by rfl) : Ev X (.Call (.Name x p) [] kws pos) ρ μ R := by
  obtain ⟨f, fd, ps, G, hm, hk, hb⟩ := F
  refine ⟨fun pins s σ H Q I ⟨α, E, q⟩ => wpAny_Call_Name_kw (ld_glob I hg hm ?_ hdb)⟩
  have ha : PK X kws (tEvA X ρ μ fun ds μ1 => ds.length = ks.length ∧ C (permI ix ds) μ1 R) := h
  refine PySem.W.callWith_KW0 (h₀ := X.base) I.ok.mod.kin hk hall (thn (ha.run pos pins s σ H (fun vs H1 => vs.length = ks.length ∧ SpD X.K C (permI ix vs) H1 (fun v H' => Q v H') E0) I ⟨α, E, ?_⟩) ?_) hpl
  · intro vs ds α1 μ1 H1 ⟨hn, c⟩ E1 X1 hv
    exact ⟨hv.length.trans hn, α1, μ1, permI ix ds, R, E1.live, hasL_perm hv ix, c, fun v d α' μ' H' r l k' hd => q v d α' μ' H' r (E1.ext k' l) (X1.trans k') hd⟩
  · rintro us s1 ⟨vs, H1, I1, rv, hn, sp⟩
    refine ⟨I1.kIn, ?_⟩
    rw [hks]
    refine wpAny_call (codeAny_mono (G.go X.A X.stack s1 H1 ⟨[], ks.zip us⟩ (permI ix us) (permI ix vs) Q hA hr I1.env0 (hb s1 us (rv.length.symm.trans hn)) (vals_perm rv ix) sp) fun r s2 hq => ?_)
    cases r with
    | error er => exact False.elim hq
    | ok fl =>
      cases fl with
      | ret u => exact I1.after hq
      | next => exact False.elim hq
      | brk => exact False.elim hq
      | cont => exact False.elim hq
end
/-! ### [e for x in xs if c] -/
section
variable {X : Cx} {ρ : RO} {μ : List MO} {pos : Pos}
def LcIf (X : Cx) (scope : Scope) (elt iter c : Expr) (x : Str) (px : Pos) (i : Nat) (ρ : RO) (μ : List MO) (R : Cn) : Prop :=
  EvI X (.Name x px) iter ρ μ fun ds μ1 => ds.length ≤ sizeLine ∧ ∃ I : Nat → List DV → List MO → Prop, I 0 [] μ1 ∧
      (∀ j d acc μ2, ds[j]? = some d → μ2.length = μ1.length → I j acc μ2 → ∀ s H C cl fp, EvT (blkX X s H scope C cl fp) c (ρ.set i (some d)) (μ2 ++ [.lst acc]) fun b μ3 =>
        if b = true then ∀ s H C cl fp, Ev (blkX X s H scope C cl fp) elt (ρ.set i (some d)) μ3 fun y μ5 => ∃ μ4, μ5 = μ4 ++ [.lst acc] ∧ μ4.length = μ1.length ∧ I (j + 1) (acc ++ [y]) μ4
        else ∃ μ4, μ3 = μ4 ++ [.lst acc] ∧ μ4.length = μ1.length ∧ I (j + 1) acc μ4) ∧
      ∀ acc μ2, μ2.length = μ1.length → I ds.length acc μ2 → R (.lst acc) (μ2 ++ [.dead])
theorem lc_SI {R : Cn} {elt iter c : Expr} {scope : Scope} {x : Str} {px : Pos} {i : Nat} (h : LcIf X scope elt iter c x px i ρ μ R) (σ : L2.St) (H : Hp) (Q : VK) (q : tEv X ρ μ R σ H Q) :
    tLc (aI X (.Name x px) iter) (gName i) (aBT X scope [c]) (aB X scope elt) [i] σ H Q :=
  lc_S i (EvI.mono h fun ds μ1 ⟨hz, I, i0, turn, done⟩ => ⟨hz, I, i0, fun j d acc μ2 h1 h2 h3 => ⟨fun ρ' μ' Rt => tEvT X ρ' μ' Rt,
    fun s H C cl fp => pts_one (turn j d acc μ2 h1 h2 h3 s H C cl fp), fun _ _ _ _ _ _ z => z⟩, done⟩) σ H Q q
theorem Ev.lcIf {R : Cn} {elt iter c : Expr} {scope : Scope} {x : Str} {px : Pos} (i : Nat) (hc : X.calm = true) (hN : X.N.Nodup) (hi : X.N[i]? = some x) (ok : BlkOk X.N X.env.scope scope [(x, i)])
    (hl : ∀ (s : Shared) (H : Hp) (C : Addr) (cl : List (Str × Addr)) (fp : List Addr), Loc (blkX X s H scope C cl fp).env.scope x ∧ ((blkX X s H scope C cl fp).fn x = true ∨ (blkX X s H scope C cl fp).env.scope.names.lookup x = some .local))
    (h : LcIf X scope elt iter c x px i ρ μ R) (hs : ∀ x, foldedSetIterable iter X.env x = pure x := by intro _; rfl) : Ev X (.ListComp elt [⟨.Name x px, iter, [c], 0⟩] scope pos) ρ μ R :=
  PEw (pe_lc (own := [(x, i)]) (g := gName i) hc hN pi_a ok (fun s H C cl fp => pg_name hN hi (hl s H C cl fp).1 (hl s H C cl fp).2) (fun s H C cl fp => pts_aB s H C cl fp) (fun s H C cl fp => pe_aB s H C cl fp) hs) (lc_SI h)
theorem St.setLcIf {R : Co} {elt iter c : Expr} {scope : Scope} {x y : Str} {px py spos : Pos} (i j : Nat) (hc : X.calm = true) (hN : X.N.Nodup) (hy : X.N[i]? = some y) (hyl : X.env.scope.names.lookup y = some .local)
    (hsw : swapsWith (.ListComp elt [⟨.Name x px, iter, [c], 0⟩] scope pos) (some (.Name y py)) spos.line X.env = pure true) (hj : X.N[j]? = some x) (ok : BlkOk X.N X.env.scope scope [(x, j)])
    (hl : ∀ (s : Shared) (H : Hp) (C : Addr) (cl : List (Str × Addr)) (fp : List Addr), Loc (blkX X s H scope C cl fp).env.scope x ∧ ((blkX X s H scope C cl fp).fn x = true ∨ (blkX X s H scope C cl fp).env.scope.names.lookup x = some .local))
    (h : LcIf X scope elt iter c x px j ρ μ fun d μ1 => R (.nx (ρ.set i (some d)) μ1)) (hs : ∀ x, foldedSetIterable iter X.env x = pure x := by intro _; rfl) :
    St X (.Assign [.Name y py] (.ListComp elt [⟨.Name x px, iter, [c], 0⟩] scope pos) spos) ρ μ R :=
  PSw (ps_setLc (own := [(x, j)]) (g := gName j) hc hN hy hyl hsw pi_a ok (fun s H C cl fp => pg_name hN hj (hl s H C cl fp).1 (hl s H C cl fp).2) (fun s H C cl fp => pts_aB s H C cl fp) (fun s H C cl fp => pe_aB s H C cl fp) hs)
    fun D σ H ⟨α, E, q⟩ => lc_SI h σ H _ ⟨α, E, fun v d α1 μ1 H1 r1 E1 X1 hv => q.1 _ _ α1 μ1 H1 r1 (E1.set i hv) X1⟩
end
end Eg

namespace Eg
open PySem PySem.Spec L2
/-! ### for a, b in zip(xs, ys) -/
section
variable {X : Cx} {e e2 : Expr} {ρ : RO} {μ : List MO} {p pos tpos : Pos} {elts : List Expr} {kk : Nat} {Ra : Ca}
def zipD (xs ys : List DV) : List DV := List.zipWith (fun a b => DV.tup [a, b]) xs ys
theorem zipD_at {xs ys : List DV} {i : Nat} {d : DV} (h : (zipD xs ys)[i]? = some d) : ∃ x y, xs[i]? = some x ∧ ys[i]? = some y ∧ d = .tup [x, y] := by
  unfold zipD at h
  rw [List.getElem?_zipWith] at h
  cases hx : xs[i]? with
  | none => rw [hx] at h; cases h
  | some x =>
    cases hy : ys[i]? with
    | none => rw [hx, hy] at h; cases h
    | some y =>
      rw [hx, hy] at h
      exact ⟨x, y, rfl, rfl, (Option.some.inj h).symm⟩
theorem zipD_len (xs ys : List DV) : (zipD xs ys).length = min xs.length ys.length := by simp [zipD]
theorem sqT_of {w : Wd} {v : V} {ds : List DV} (h : Has w v (.tup ds)) : ∃ a vs, v = .ref a ∧ SqT w.K w.H a vs ∧ HasL w vs ds := by
  cases h with
  | tup s t => exact ⟨_, _, rfl, s, t⟩
theorem sqL_of {w : Wd} {v : V} {ds : List DV} (h : Has w v (.lst ds)) : ∃ a vs, v = .ref a ∧ SqL w.K w.H a vs ∧ HasL w vs ds := by
  cases h with
  | lst s t =>
    refine ⟨_, _, rfl, ?_, t⟩
    rcases s with ⟨_, s⟩ | s
    · exact .inl s
    · exact s.sq
theorem EvI.zipT (hg : Gl X "zip") (hm : X.mg "zip" = none) (h : EvA X [e, e2] ρ μ fun ds μ1 => ∃ xs ys, ds = [.tup xs, .tup ys] ∧ Ra (zipD xs ys) μ1)
    (hs : starEach [e, e2] X.env = (false, eval e X.env) :: starEach [e2] X.env := by rfl) (hpl : (backTo pos (starEach [e2] X.env)).any (·.1) = false := by rfl) : EvI X (.Tuple elts kk tpos) (.Call (.Name "zip" p) [e, e2] [] pos) ρ μ Ra :=
  PIw (RZ.pi_zipA hg hm pa_a hs hpl) fun σ H Q ⟨α, E, q⟩ => ⟨_, h, α, E, fun vs ds α1 μ1 H1 ⟨xs, ys, e, r⟩ E1 X1 hv => by
    subst e
    obtain ⟨v, u, rfl, h1, h2⟩ := hasL2 hv
    obtain ⟨a, vs1, rfl, s1, t1⟩ := sqT_of h1
    obtain ⟨b, vs2, rfl, s2, t2⟩ := sqT_of h2
    refine ⟨a, b, vs1, vs2, rfl, .inr ⟨s1, s2, q _ _ α1 μ1 H1 r E1 X1 fun α2 μ2 H2 k l => ?_⟩⟩
    obtain ⟨a', ws1, ea, r1, m1⟩ := sqT_of (k.has h1)
    obtain ⟨b', ws2, eb, r2, m2⟩ := sqT_of (k.has h2)
    cases ea
    cases eb
    refine ⟨fun i d hd => ?_, ⟨ws1, ws2, r1, r2, ?_⟩⟩
    · obtain ⟨x, y, e1, e2, rfl⟩ := zipD_at hd
      obtain ⟨x1, f1, g1⟩ := m1.get e1
      obtain ⟨y1, f2, g2⟩ := m2.get e2
      refine ⟨⟨ws1, ws2, x1, y1, r1, r2, f1, f2⟩, ?_⟩
      rintro z H' ⟨T, x2, y2, rfl, nT, rfl, c1, c2⟩
      have q1 := c1 ws1 r1
      have q2 := c2 ws2 r2
      rw [f1] at q1
      rw [f2] at q2
      cases q1
      cases q2
      obtain ⟨k2, l2⟩ := l.lay (o := .tup [x1, y1]) nT
      exact ⟨k2, l2, .tup (.of upd_same) (.cons (k2.has g1) (.cons (k2.has g2) .nil))⟩
    · rw [zipD_len, m1.length, m2.length]
      omega⟩
theorem EvI.zipL (hg : Gl X "zip") (hm : X.mg "zip" = none) (h : EvA X [e, e2] ρ μ fun ds μ1 => ∃ xs ys, ds = [.lst xs, .lst ys] ∧ Ra (zipD xs ys) μ1)
    (hs : starEach [e, e2] X.env = (false, eval e X.env) :: starEach [e2] X.env := by rfl) (hpl : (backTo pos (starEach [e2] X.env)).any (·.1) = false := by rfl) : EvI X (.Tuple elts kk tpos) (.Call (.Name "zip" p) [e, e2] [] pos) ρ μ Ra :=
  PIw (RZ.pi_zipA hg hm pa_a hs hpl) fun σ H Q ⟨α, E, q⟩ => ⟨_, h, α, E, fun vs ds α1 μ1 H1 ⟨xs, ys, e, r⟩ E1 X1 hv => by
    subst e
    obtain ⟨v, u, rfl, h1, h2⟩ := hasL2 hv
    obtain ⟨a, vs1, rfl, s1, t1⟩ := sqL_of h1
    obtain ⟨b, vs2, rfl, s2, t2⟩ := sqL_of h2
    refine ⟨a, b, vs1, vs2, rfl, .inl ⟨s1, s2, q _ _ α1 μ1 H1 r E1 X1 fun α2 μ2 H2 k l => ?_⟩⟩
    obtain ⟨a', ws1, ea, r1, m1⟩ := sqL_of (k.has h1)
    obtain ⟨b', ws2, eb, r2, m2⟩ := sqL_of (k.has h2)
    cases ea
    cases eb
    refine ⟨fun i d hd => ?_, ⟨ws1, ws2, r1, r2, ?_⟩⟩
    · obtain ⟨x, y, e1, e2, rfl⟩ := zipD_at hd
      obtain ⟨x1, f1, g1⟩ := m1.get e1
      obtain ⟨y1, f2, g2⟩ := m2.get e2
      refine ⟨⟨ws1, ws2, x1, y1, r1, r2, f1, f2⟩, ?_⟩
      rintro z H' ⟨T, x2, y2, rfl, nT, rfl, c1, c2⟩
      have q1 := c1 ws1 r1
      have q2 := c2 ws2 r2
      rw [f1] at q1
      rw [f2] at q2
      cases q1
      cases q2
      obtain ⟨k2, l2⟩ := l.lay (o := .tup [x1, y1]) nT
      exact ⟨k2, l2, .tup (.of upd_same) (.cons (k2.has g1) (.cons (k2.has g2) .nil))⟩
    · rw [zipD_len, m1.length, m2.length]
      omega⟩
end
end Eg

namespace Eg
open PySem PySem.Spec PyProof.Rows L2
section
variable {X : Cx} {ρ : RO} {μ : List MO} {pos : Pos} {R : Cn}
/-- the walk of a comprehension by what holds behind j items: I j what is made so far -/
theorem lc_S2 {elt iter : Expr} {ifs : List Expr} {scope : Scope} {x x' : Str} {px px' pt : Pos} {kt : Nat} (i i' : Nat) (hne : i ≠ i')
    (h : EvI X (.Tuple [.Name x px, .Name x' px'] kt pt) iter ρ μ fun ds μ1 => ds.length ≤ sizeLine ∧ ∃ I : Nat → List DV → List MO → Prop, I 0 [] μ1 ∧
      (∀ j d, ds[j]? = some d → ∃ d1 d2, d = .tup [d1, d2] ∧ ∀ acc μ2, μ2.length = μ1.length → I j acc μ2 → ∃ tt : RO → List MO → Ct → TT, (∀ s H C cl fp, PTs (blkX X s H scope C cl fp) ifs (tt ((ρ.set i (some d1)).set i' (some d2)) (μ2 ++ [.lst acc]) fun b μ3 =>
        if b = true then ∀ s H C cl fp, Ev (blkX X s H scope C cl fp) elt ((ρ.set i (some d1)).set i' (some d2)) μ3 fun y μ5 => ∃ μ4, μ5 = μ4 ++ [.lst acc] ∧ μ4.length = μ1.length ∧ I (j + 1) (acc ++ [y]) μ4
        else ∃ μ4, μ3 = μ4 ++ [.lst acc] ∧ μ4.length = μ1.length ∧ I (j + 1) acc μ4)) ∧ ∀ ρ' μ' Rt σ H Q, tEvT X ρ' μ' Rt σ H Q → tt ρ' μ' Rt σ H Q) ∧
      ∀ acc μ2, μ2.length = μ1.length → I ds.length acc μ2 → R (.lst acc) (μ2 ++ [.dead]))
    (σ : L2.St) (H : Hp) (Q : VK) (q : tEv X ρ μ R σ H Q) : tLc (aI X (.Tuple [.Name x px, .Name x' px'] kt pt) iter) (gTup X.K 2 (gCons (gName i) (gCons (gName i') gNil))) (aBT X scope ifs) (aB X scope elt) [i, i'] σ H Q := by
  obtain ⟨α, E, q⟩ := q
  refine ⟨_, h, α, E, ?_⟩
  rintro J ds α1 μ1 H1 ⟨hz, I, i0, turn, done⟩ E1 X1 ok D hD
  have hlen : α1.length = μ1.length := E1.live.len
  obtain ⟨kM, lM, eM⟩ := E1.live.layM (o := .lst []) (m := .lst []) hD (fun _ k => ⟨[], upd_same, .nil⟩)
  let P : Nat → Hp → Prop := fun j H' => ∃ acc μ' α', acc.length ≤ j ∧ I j acc μ' ∧ μ'.length = μ1.length ∧ α'[μ1.length]? = some D ∧ Live ⟨X.K, α', μ' ++ [.lst acc], H'⟩ ∧ Kp ⟨X.K, α1, μ1, H1⟩ ⟨X.K, α', μ' ++ [.lst acc], H'⟩
  refine ⟨fun j m H' => m = ds.length - j ∧ j ≤ ds.length ∧ P j H', ⟨ds.length, by simp, Nat.zero_le _, [], μ1, α1 ++ [D], Nat.le_refl _, i0, rfl, eM, lM, kM⟩, ?_⟩
  rintro j m H2 ⟨rfl, hj, acc, μ2, α2, ha, hI, hμ, hα, l2, k2⟩
  obtain ⟨go, stop⟩ := ok α2 _ H2 k2 l2
  have kD : (μ2 ++ [MO.lst acc])[μ1.length]? = some (.lst acc) := by
    rw [List.getElem?_append_right (by omega), hμ, Nat.sub_self]
    rfl
  have setl : ∀ (μ4 : List MO) (m m' : MO), μ4.length = μ1.length → (μ4 ++ [m]).set μ1.length m' = μ4 ++ [m'] := fun μ4 m m' e => by
    rw [← e]
    simp
  by_cases hlt : j < ds.length
  · obtain ⟨g1, g2⟩ := go j ds[j] (by simp [hlt])
    refine .inr ⟨g1, P (j + 1), fun H' p => ⟨ds.length - (j + 1), by omega, rfl, hlt, p⟩, fun y H3 yy => ?_⟩
    obtain ⟨ky, ly, hy⟩ := g2 y H3 yy
    obtain ⟨d1, d2, ed, turn'⟩ := turn j ds[j] (by simp [hlt])
    obtain ⟨tt, ht, hm⟩ := turn' acc μ2 hμ hI
    rw [ed] at hy
    obtain ⟨aT, ws, rfl, sT, tT⟩ := sqT_of hy
    obtain ⟨v1, v2, rfl, g1', g2'⟩ := hasL2 tT
    have ws2 : ∀ (τ : L2.St) (u v : Option V), wipe (((wipe τ [i, i']).set i u).set i' v) [i, i'] = wipe τ [i, i'] := fun τ u v => by
      simp only [wipe]
      rw [List.set_set, List.set_comm u none hne, List.set_set, List.set_comm none none hne, List.set_set, List.set_set]
    refine ⟨aT, _, rfl, sT, rfl, v1, [v2], rfl, v2, [], rfl, rfl, ws2 _ _ _, _, ht, ?_⟩
    have k3 := k2.trans ky
    have E3 : En ⟨X.K, α2, μ2 ++ [.lst acc], H3⟩ (((wipe σ [i, i']).set i (some v1)).set i' (some v2)) ((ρ.set i (some d1)).set i' (some d2)) := by
      have z := ((((E1.ext k3 ly).wipe i').wipe i).set i g1').set i' g2'
      have eρ : (((ρ.set i' none).set i none).set i (some d1)).set i' (some d2) = (ρ.set i (some d1)).set i' (some d2) := by
        rw [List.set_set, List.set_comm none (some d1) (Ne.symm hne), List.set_set]
      rw [eρ] at z
      exact z
    refine hm _ _ _ _ _ _ ⟨α2, E3, ?_⟩
    intro b α3 μ3 H4 r3 E4 k4
    cases b with
    | false =>
      refine iteF ?_
      obtain ⟨μ4, rfl, h4, hI4⟩ := r3
      exact ⟨acc, μ4, α3, Nat.le_succ_of_le ha, hI4, h4, k4.α _ _ hα, E4.live, k3.trans k4⟩
    | true =>
      refine iteT ⟨tEv X ((ρ.set i (some d1)).set i' (some d2)) μ3 _, r3, α3, E4, ?_⟩
      rintro v d α5 μ5 H5 ⟨μ4, rfl, h4, hI4⟩ E5 k5 hv
      have hα5 := k5.α _ _ (k4.α _ _ hα)
      have kD5 : (μ4 ++ [MO.lst acc])[μ1.length]? = some (.lst acc) := by
        rw [List.getElem?_append_right (by omega), h4, Nat.sub_self]
        rfl
      obtain ⟨vs, e1, e2⟩ := E5.live.ob _ _ _ hα5 kD5
      have hl := e2.length
      refine ⟨vs, e1, by omega, ?_⟩
      obtain ⟨k6, l6⟩ := E5.live.put (o := .lst (vs ++ [v])) (m := .lst (acc ++ [d])) hα5 kD5 (fun z => nomatch z) fun k => ⟨_, upd_same, HasL.app (k.hasL e2) (.cons (k.has hv) .nil)⟩
      rw [setl _ _ _ h4] at k6 l6
      exact ⟨acc ++ [d], μ4, α5, by rw [List.length_append]; exact Nat.succ_le_succ ha, hI4, h4, hα5, l6, k3.trans (k4.trans (k5.trans k6))⟩
  · have e : j = ds.length := by omega
    subst e
    refine .inl ⟨stop, ?_⟩
    obtain ⟨vs, e1, e2⟩ := l2.ob _ _ _ hα kD
    obtain ⟨k6, l6, nl⟩ := l2.freeze (k := μ1.length)
    rw [setl _ _ _ hμ] at k6 l6 nl
    have k7 := k2.trans k6
    exact q _ _ _ _ _ (done acc μ2 hμ hI) (E1.ext k7 l6) (X1.trans k7) (.lst (.inl ⟨nl _ hα, .inl e1⟩) (k6.hasL e2))
/-- [e for a, b in ..] -/
def Lc2 (X : Cx) (scope : Scope) (elt iter : Expr) (x x' : Str) (px px' pt : Pos) (kt i i' : Nat) (ρ : RO) (μ : List MO) (R : Cn) : Prop :=
  EvI X (.Tuple [.Name x px, .Name x' px'] kt pt) iter ρ μ fun ds μ1 => ds.length ≤ sizeLine ∧ ∃ I : Nat → List DV → List MO → Prop, I 0 [] μ1 ∧
      (∀ j d, ds[j]? = some d → ∃ d1 d2, d = .tup [d1, d2] ∧ ∀ acc μ2, μ2.length = μ1.length → I j acc μ2 → ∀ s H C cl fp, Ev (blkX X s H scope C cl fp) elt ((ρ.set i (some d1)).set i' (some d2)) (μ2 ++ [.lst acc]) fun y μ5 => ∃ μ4, μ5 = μ4 ++ [.lst acc] ∧ μ4.length = μ1.length ∧ I (j + 1) (acc ++ [y]) μ4) ∧
      ∀ acc μ2, μ2.length = μ1.length → I ds.length acc μ2 → R (.lst acc) (μ2 ++ [.dead])
theorem lc_S20 {elt iter : Expr} {scope : Scope} {x x' : Str} {px px' pt : Pos} {kt i i' : Nat} (hne : i ≠ i') (h : Lc2 X scope elt iter x x' px px' pt kt i i' ρ μ R) (σ : L2.St) (H : Hp) (Q : VK) (q : tEv X ρ μ R σ H Q) :
    tLc (aI X (.Tuple [.Name x px, .Name x' px'] kt pt) iter) (gTup X.K 2 (gCons (gName i) (gCons (gName i') gNil))) (aBT X scope []) (aB X scope elt) [i, i'] σ H Q :=
  lc_S2 i i' hne (EvI.mono h fun ds μ1 ⟨hz, I, i0, turn, done⟩ => ⟨hz, I, i0, fun j d h1 => by
    obtain ⟨d1, d2, ed, tn⟩ := turn j d h1
    exact ⟨d1, d2, ed, fun acc μ2 h2 h3 => ⟨fun ρ' μ' Rt σ H Q => ∃ α, En ⟨X.K, α, μ', H⟩ σ ρ' ∧ ∀ b α' μ'' H', Rt b μ'' → En ⟨X.K, α', μ'', H'⟩ σ ρ' → Kp ⟨X.K, α, μ', H⟩ ⟨X.K, α', μ'', H'⟩ → Q b H',
      fun s H C cl fp => ⟨fun pins s' σ H' Q' J ⟨α, E, q⟩ => pts_nil.run pins s' σ H' Q' J (q true α _ H' (tn acc μ2 h2 h3) E E.live.refl)⟩, fun _ _ _ _ _ _ z => z⟩⟩, done⟩) σ H Q q
theorem Ev.lc2 {elt iter : Expr} {scope : Scope} {x x' : Str} {px px' pt : Pos} {kt : Nat} (i i' : Nat) (hne : i ≠ i') (hc : X.calm = true) (hN : X.N.Nodup) (hi : X.N[i]? = some x) (hi' : X.N[i']? = some x') (ok : BlkOk X.N X.env.scope scope [(x, i), (x', i')])
    (hcb : ∀ (s : Shared) (H : Hp) (C : Addr) (cl : List (Str × Addr)) (fp : List Addr), (blkX X s H scope C cl fp).calm = true)
    (hl : ∀ (s : Shared) (H : Hp) (C : Addr) (cl : List (Str × Addr)) (fp : List Addr), Loc (blkX X s H scope C cl fp).env.scope x ∧ ((blkX X s H scope C cl fp).fn x = true ∨ (blkX X s H scope C cl fp).env.scope.names.lookup x = some .local))
    (hl' : ∀ (s : Shared) (H : Hp) (C : Addr) (cl : List (Str × Addr)) (fp : List Addr), Loc (blkX X s H scope C cl fp).env.scope x' ∧ ((blkX X s H scope C cl fp).fn x' = true ∨ (blkX X s H scope C cl fp).env.scope.names.lookup x' = some .local))
    (h : Lc2 X scope elt iter x x' px px' pt kt i i' ρ μ R) (hs : ∀ x, foldedSetIterable iter X.env x = pure x := by intro _; rfl) : Ev X (.ListComp elt [⟨.Tuple [.Name x px, .Name x' px'] kt pt, iter, [], 0⟩] scope pos) ρ μ R :=
  PEw (pe_lc (own := [(x, i), (x', i')]) (g := gTup X.K 2 (gCons (gName i) (gCons (gName i') gNil))) hc hN pi_a ok
    (fun s H C cl fp => pg_tup (hcb s H C cl fp) (pgs_cons (pg_name hN hi (hl s H C cl fp).1 (hl s H C cl fp).2) (pgs_cons (pg_name hN hi' (hl' s H C cl fp).1 (hl' s H C cl fp).2) pgs_nil)))
    (fun s H C cl fp => pts_aB s H C cl fp) (fun s H C cl fp => pe_aB s H C cl fp) hs) (lc_S20 hne h)
end
end Eg

namespace Eg
open PySem PySem.Spec L2
/-! ### what may be raised: a class and what it keeps -/
abbrev RXt := Addr → List (Str × DV) → List MO → Prop
/-- all that the context takes -/
def Wmax (X : Cx) : WX := fun c d σ H => ∀ u s', XE X (fun c' d' σ' H' => c' = c ∧ d' = d ∧ σ' = σ ∧ H' = H) u s' → X.xe u s'
theorem takes_max {X : Cx} : Takes X (Wmax X) := fun u s' ⟨a, B, sI, pins, σ, H, cls, d, e, I, nb, up, sky, na, os, ag, w⟩ =>
  w u s' ⟨a, B, sI, pins, σ, H, cls, d, e, I, nb, up, sky, na, os, ag, rfl, rfl, rfl, rfl⟩
theorem wmax_of {X : Cx} {W : WX} (t : Takes X W) {c : Value} {d : Option Addr} {σ : L2.St} {H : Hp} (h : σ.length = X.N.length → W c d σ H) : Wmax X c d σ H :=
  fun u s' ⟨a, B, sI, pins, σ', H', cls, d', e, I, nb, up, sky, na, os, ag, e1, e2, e3, e4⟩ => by
    subst e1 e2 e3 e4
    exact t u s' ⟨a, B, sI, pins, σ', H', cls, d', e, I, nb, up, sky, na, os, ag, h I.len⟩
/-- the wish at a raise, seen from the world w -/
def xq (X : Cx) (w : Wd) (RX : RXt) : Prop := ∀ C ds d fs σ' α' μ' H', RX C ds μ' → Live ⟨X.K, α', μ', H'⟩ → Kp w ⟨X.K, α', μ', H'⟩ → H' d = some (.xd fs) → HasF ⟨X.K, α', μ', H'⟩ fs ds → Wmax X (.ref C) (some d) σ' H'
theorem xq.next {X : Cx} {w : Wd} {RX : RXt} (q : xq X w RX) {w' : Wd} (k : Kp w w') : xq X w' RX := fun C ds d fs σ' α' μ' H' r l k' h1 h2 => q C ds d fs σ' α' μ' H' r l (k.trans k') h1 h2
section
variable {X : Cx} {a b c e : Expr} {es : List Expr} {s : Stmt} {rest xs ys : List Stmt} {ρ : RO} {μ : List MO} {pos p : Pos} {RX : RXt}
def tStX (X : Cx) (ρ : RO) (μ : List MO) (R : Co) (RX : RXt) : TS := fun D σ H => ∃ α, En ⟨X.K, α, μ, H⟩ σ ρ ∧
  ((∀ ρ' σ' α' μ' H', R (.nx ρ' μ') → En ⟨X.K, α', μ', H'⟩ σ' ρ' → Kp ⟨X.K, α, μ, H⟩ ⟨X.K, α', μ', H'⟩ → D.nx σ' H') ∧
   (∀ v d α' μ' H', R (.rt d μ') → Live ⟨X.K, α', μ', H'⟩ → Kp ⟨X.K, α, μ, H⟩ ⟨X.K, α', μ', H'⟩ → Has ⟨X.K, α', μ', H'⟩ v d → D.rt v H') ∧
   (∀ ρ' σ' α' μ' H', R (.bk ρ' μ') → En ⟨X.K, α', μ', H'⟩ σ' ρ' → Kp ⟨X.K, α, μ, H⟩ ⟨X.K, α', μ', H'⟩ → D.bk σ' H') ∧
   (∀ ρ' σ' α' μ' H', R (.ct ρ' μ') → En ⟨X.K, α', μ', H'⟩ σ' ρ' → Kp ⟨X.K, α, μ, H⟩ ⟨X.K, α', μ', H'⟩ → D.ct σ' H')) ∧ xq X ⟨X.K, α, μ, H⟩ RX
def StX (X : Cx) (s : Stmt) (ρ : RO) (μ : List MO) (R : Co) (RX : RXt) : Prop := PS X s (tStX X ρ μ R RX)
def StsX (X : Cx) (s : List Stmt) (ρ : RO) (μ : List MO) (R : Co) (RX : RXt) : Prop := PSs X s (tStX X ρ μ R RX)
theorem St.x {R : Co} (h : St X s ρ μ R) : StX X s ρ μ R RX := PSw h fun D σ H ⟨α, E, q, _⟩ => ⟨α, E, q⟩
theorem Sts.x {R : Co} (h : Sts X xs ρ μ R) : StsX X xs ρ μ R RX := PSsw h fun D σ H ⟨α, E, q, _⟩ => ⟨α, E, q⟩
def seqX (X : Cx) (rest : List Stmt) (R : Co) (RX : RXt) : Co := fun o => match o with
  | .nx ρ μ => StsX X rest ρ μ R RX
  | o => R o
theorem StsX.nil {R : Co} (h : R (.nx ρ μ)) : StsX X [] ρ μ R RX := Sts.x (Sts.nil h)
theorem StsX.cons {R : Co} (h : StX X s ρ μ (seqX X rest R RX) RX) : StsX X (s :: rest) ρ μ R RX :=
  PSsw (pss_cons (t := fun D σ H => ∃ t, PS X s t ∧ t D σ H) (u := fun D σ H => ∃ t, PSs X rest t ∧ t D σ H) ⟨fun pins s' σ H D I ⟨_, h, q⟩ => h.run pins s' σ H D I q⟩ ⟨fun pins s' σ H D I ⟨_, h, q⟩ => h.run pins s' σ H D I q⟩)
    fun D σ H ⟨α, E, ⟨q1, q2, q3, q4⟩, qx⟩ => ⟨_, h, α, E, ⟨fun ρ' σ' α' μ' H' (r : StsX X rest ρ' μ' R RX) E' X' => ⟨_, r, α', E',
      ⟨fun ρ2 σ2 α2 μ2 H2 r2 E2 X2 => q1 ρ2 σ2 α2 μ2 H2 r2 E2 (X'.trans X2), fun v d α2 μ2 H2 r2 l2 X2 => q2 v d α2 μ2 H2 r2 l2 (X'.trans X2),
      fun ρ2 σ2 α2 μ2 H2 r2 E2 X2 => q3 ρ2 σ2 α2 μ2 H2 r2 E2 (X'.trans X2), fun ρ2 σ2 α2 μ2 H2 r2 E2 X2 => q4 ρ2 σ2 α2 μ2 H2 r2 E2 (X'.trans X2)⟩, qx.next X'⟩, q2, q3, q4⟩, qx⟩
theorem StX.ifS {R : Co} (h : EvT X c ρ μ fun k μ1 => if k = true then StsX X xs ρ μ1 R RX else StsX X ys ρ μ1 R RX) : StX X (.If c xs ys pos) ρ μ R RX :=
  PSw (ps_if pt_a (t := fun D σ H => ∃ t, PSs X xs t ∧ t D σ H) (u := fun D σ H => ∃ t, PSs X ys t ∧ t D σ H) ⟨fun pins s' σ H D I ⟨_, h, q⟩ => h.run pins s' σ H D I q⟩ ⟨fun pins s' σ H D I ⟨_, h, q⟩ => h.run pins s' σ H D I q⟩)
    fun D σ H ⟨α, E, ⟨q1, q2, q3, q4⟩, qx⟩ => ⟨_, h, α, E, fun k α' μ' H' r E' X' => by
      have all : tStX X ρ μ' R RX D σ H' := ⟨α', E', ⟨fun ρ2 σ2 α2 μ2 H2 r2 E2 X2 => q1 ρ2 σ2 α2 μ2 H2 r2 E2 (X'.trans X2), fun v d α2 μ2 H2 r2 l2 X2 => q2 v d α2 μ2 H2 r2 l2 (X'.trans X2),
        fun ρ2 σ2 α2 μ2 H2 r2 E2 X2 => q3 ρ2 σ2 α2 μ2 H2 r2 E2 (X'.trans X2), fun ρ2 σ2 α2 μ2 H2 r2 E2 X2 => q4 ρ2 σ2 α2 μ2 H2 r2 E2 (X'.trans X2)⟩, qx.next X'⟩
      cases k with
      | true => exact iteT ⟨_, (show StsX X xs ρ μ' R RX from r), all⟩
      | false => exact iteF ⟨_, (show StsX X ys ρ μ' R RX from r), all⟩⟩
/-! ### a call that may raise, as the whole of an expression -/
def tEvX (X : Cx) (ρ : RO) (μ : List MO) (R : Cn) (RX : RXt) : TE := fun σ H Q => ∃ α, En ⟨X.K, α, μ, H⟩ σ ρ ∧
  (∀ v d α' μ' H', R d μ' → En ⟨X.K, α', μ', H'⟩ σ ρ → Kp ⟨X.K, α, μ, H⟩ ⟨X.K, α', μ', H'⟩ → Has ⟨X.K, α', μ', H'⟩ v d → Q v H') ∧ xq X ⟨X.K, α, μ, H⟩ RX
def EvX (X : Cx) (e : Expr) (ρ : RO) (μ : List MO) (R : Cn) (RX : RXt) : Prop := PE X e (tEvX X ρ μ R RX)
theorem Ev.x {R : Cn} (h : Ev X e ρ μ R) : EvX X e ρ μ R RX := PEw h fun σ H Q ⟨α, E, q, _⟩ => ⟨α, E, q⟩
theorem StX.expr {R : Co} (h : EvX X e ρ μ (fun _ μ1 => R (.nx ρ μ1)) RX) (hs : swapsWith e none pos.line X.env = pure false := by rfl) : StX X (.Expr e pos) ρ μ R RX :=
  PSw (ps_expr h hs) fun D σ H ⟨α, E, ⟨q1, q2, q3, q4⟩, qx⟩ => ⟨α, E, fun v d α' μ' H' r E' X' hv => q1 ρ σ α' μ' H' r E' X', qx⟩
theorem StX.ret {R : Co} (h : EvX X e ρ μ (fun d μ1 => R (.rt d μ1)) RX) : StX X (.Return (some e) pos) ρ μ R RX :=
  PSw (ps_ret h) fun D σ H ⟨α, E, ⟨q1, q2, q3, q4⟩, qx⟩ => ⟨α, E, fun v d α' μ' H' r E' X' hv => q2 v d α' μ' H' r E'.live X' hv, qx⟩
theorem StX.set {R : Co} (i : Nat) {x : Str} {pos' : Pos} (hN : X.N.Nodup) (hi : X.N[i]? = some x) (hx : Loc X.env.scope x) (hf : X.fn x = true ∨ X.env.scope.names.lookup x = some .local) (h : EvX X e ρ μ (fun d μ1 => R (.nx (ρ.set i (some d)) μ1)) RX) (hs : swapsWith e (some (.Name x pos')) pos.line X.env = pure false := by rfl) :
    StX X (.Assign [.Name x pos'] e pos) ρ μ R RX :=
  PSw (ps_set hN hi hx h hs hf) fun D σ H ⟨α, E, ⟨q1, q2, q3, q4⟩, qx⟩ => ⟨α, E, fun v d α1 μ1 H1 r1 E1 X1 hv => q1 _ _ α1 μ1 H1 r1 (E1.set i hv) X1, qx⟩
end
end Eg

namespace Eg
open PySem PySem.Spec PyProof.Rows L2
/-! ### defs that may raise -/
structure FnR (P : Program) (w : World) (K : PySem.W.Frag) (mg : Str → Option Value) (base : Heap) (k : Nat) (f : Addr) (fd : FuncData) (ps : List Str) (sp : Sp) : Prop where
  len : ∀ vs H Q E, sp vs H Q E → vs.length = ps.length
  go : ∀ (A : Around) (outer : List PySem.Env) (s : Shared) (H : Hp) (args : Args) (us : List Value) (vs : List V) (Q : VK) (E : XK), A.guards = some [] → Room k A → Env0 P w K mg base A outer s H →
    BindsTo s fd args (ps.zip us) → Vals vs us → sp vs H Q E → codeAny (model P w) A (.call (.ref f) args) (CR (L2.CX P w) outer P w H s Q E) s
/-- the context of a body that may raise -/
abbrev bxE (P : Program) (w : World) (K : PySem.W.Frag) (mg : Str → Option Value) (base : Heap) (N : List Str) (qual : Str) (scope : Scope) (f : Addr) (cd : Value) (A : Around) (outer : List PySem.Env) (s : Shared) (H : Hp) (E : XK) : Cx :=
  cxOf (L2.CX P w) P w K mg base N qual scope f cd A outer s H E
section
variable {P : Program} {w : World} {K : PySem.W.Frag} {mg : Str → Option Value} {base : Heap}
theorem takes_bx {N : List Str} {qual : Str} {scope : Scope} {f : Addr} {cd : Value} {A : Around} {outer : List PySem.Env} {s : Shared} {H : Hp} {E : XK} : Takes (bxE P w K mg base N qual scope f cd A outer s H E) (fun cls d _ H' => E cls d H') :=
  takes_of rfl rfl rfl rfl
theorem FnR.of {x qual : Str} {params : Arguments} {body : List Stmt} {scope : Scope} {dvs : List V} {kws : List (Str × V)} {f : Addr} {fd : FuncData} {N ps : List Str} {k : Nat} {sp : Sp}
    (F : FunD K x qual params body scope dvs kws f fd) (S : FnScope N ps scope) (len : ∀ vs H Q E, sp vs H Q E → vs.length = ps.length)
    (hb : ∀ (cd : Value) (A : Around) (outer : List PySem.Env) (s : Shared) (H : Hp) (vs : List V) (Q : VK) (E : XK), (A.deeper (envOfC qual scope s.heap.objs.size f cd)).guards = some [] → Room k (A.deeper (envOfC qual scope s.heap.objs.size f cd)) → sp vs H Q E →
      ∃ t, PSs (bxE P w K mg base N qual scope f cd A outer s H E) body t ∧ t { nx := fun _ H' => Q .non H', rt := Q } (L2.start N vs) H) : FnR P w K mg base (k + 1) f fd ps sp := by
  obtain ⟨oc, od, dV, kV, doc, pm, an, cd, ct, osl, rfl, lk, hcd, _, _⟩ := F.ex
  refine ⟨len, ?_⟩
  intro A outer s H args us vs Q E hg hr e0 hbind rv hsp
  have room := hr.deeper (envOfC qual scope s.heap.objs.size f cd)
  obtain ⟨t, ht, hq⟩ := hb cd A outer s H vs Q E (guards_in _ hg) room hsp
  have keep : ∀ b o, base.get? b = some o → s.heap.get? b = some o := fun b o z => (e0.bs b o z).1
  have KX : K.In s.heap := e0.mod.kin.keeps keep
  refine codeAny_call_function hr.depth (KX _ _ lk) rfl S.co S.gen rfl (PySem.W.codeRec_of KX hcd) (hbind _ _ _ _ ?_)
  have kinds : ∀ y ∈ ps.zip us, scope.names.lookup y.1 = some .local ∨ (scope.names.lookup y.1 = some .cell ∧ ((cellsFrom (s.heap.objs.size + 1) scope.names []).lookup y.1).isSome = true) := by
    rintro ⟨n, u⟩ hy
    have z := S.par n (List.of_mem_zip hy).1
    exact z.imp id fun z => ⟨z, PySem.W.cellsFrom_some _ _ _ (.inl z)⟩
  refine wpAny_newFunctionEnv_cells S.kind kinds fun env he s1 ic => ?_
  cases he
  refine ⟨(e0.mod.nolimit.keeps keep).keeps ic.toInCall.keep, codeAny_func ?_⟩
  have I : L2.Inv (bxE P w K mg base N qual scope f cd A outer s H E) [] (L2.start N vs) H s1 := inv_start S hr.hd e0 (len _ _ _ _ hsp) rv ic
  refine wpAny_mono (ht.run [] s1 (L2.start N vs) H _ I hq) (fun fl s' q => ?_) (fun _ _ z => z)
  cases fl with
  | ret u =>
    obtain ⟨v, σ', H', J, r, q⟩ := q
    exact ⟨v, H', J.os, J.bare, J.base, J.hok, r, q⟩
  | next =>
    obtain ⟨σ', H', J, q⟩ := q
    exact ⟨.non, H', J.os, J.bare, J.base, J.hok, rfl, q⟩
  | brk => exact (by obtain ⟨_, _, _, q⟩ := q; exact False.elim q)
  | cont => exact (by obtain ⟨_, _, _, q⟩ := q; exact False.elim q)
end
/-! ### promises over data, with what may be raised -/
abbrev CtrX := List DV → List MO → Cn → RXt → Prop
def SpX (K : PySem.W.Frag) (C : CtrX) : Sp := fun vs H Q E => ∃ α μ ds R RX, Live ⟨K, α, μ, H⟩ ∧ HasL ⟨K, α, μ, H⟩ vs ds ∧ C ds μ R RX ∧
  (∀ v d α' μ' H', R d μ' → Live ⟨K, α', μ', H'⟩ → Kp ⟨K, α, μ, H⟩ ⟨K, α', μ', H'⟩ → Has ⟨K, α', μ', H'⟩ v d → Q v H') ∧
  ∀ Cx ds d fs α' μ' H', RX Cx ds μ' → Live ⟨K, α', μ', H'⟩ → Kp ⟨K, α, μ, H⟩ ⟨K, α', μ', H'⟩ → H' d = some (.xd fs) → HasF ⟨K, α', μ', H'⟩ fs ds → E (.ref Cx) (some d) H'
def FnX (P : Program) (w : World) (K : PySem.W.Frag) (mg : Str → Option Value) (base : Heap) (x : Str) (k : Nat) (C : CtrX) : Prop :=
  ∃ f fd ps, FnR P w K mg base k f fd ps (SpX K C) ∧ mg x = some (.ref f) ∧ PySem.W.keepIn K (.ref f) = true ∧ Binds K fd ps []
theorem FnX.mono {P : Program} {w : World} {K : PySem.W.Frag} {mg : Str → Option Value} {base : Heap} {x : Str} {j k : Nat} {C : CtrX} (F : FnX P w K mg base x j C) (h : j ≤ k) : FnX P w K mg base x k C := by
  obtain ⟨f, fd, ps, ⟨l, g⟩, r⟩ := F
  exact ⟨f, fd, ps, ⟨l, fun A outer s H args us vs Q E hg hr => g A outer s H args us vs Q E hg (hr.mono h)⟩, r⟩
/-- what is raised behind a body; what was made beside may be forgotten -/
def finX (n : Nat) (RX : RXt) : RXt := fun C fs μ => RX C fs μ ∨ (DV.belF n fs = true ∧ (μ.take n).all (MO.bel n) = true ∧ RX C fs (μ.take n))
theorem hasF_cut {w : Wd} {n : Nat} {fs : List (Str × V)} {ds : List (Str × DV)} (h : HasF w fs ds) (p : DV.belF n ds = true) : HasF (w.cut n) fs ds := HasF.move (w := w) (w' := w.cut n) (n := n) rfl rfl (fun _ z => cut_lv z) cut_α h p
section
variable {P : Program} {w : World} {K : PySem.W.Frag} {mg : Str → Option Value} {base : Heap}
/-- THE RULE for a def that may raise -/
theorem FnR.mk2 {x : Str} {params : Arguments} {body : List Stmt} {scope : Scope} {kws : List (Str × V)} {f : Addr} {fd : FuncData} {N ps : List Str} {k : Nat} {C : CtrX}
    (F : FunD K x x params body scope [] kws f fd) (S : FnScope N ps scope) (len : ∀ ds μ R RX, C ds μ R RX → ds.length = ps.length)
    (hb : ∀ (cd : Value) (A : Around) (outer : List PySem.Env) (s : Shared) (H : Hp) (E : XK), (bxE P w K mg base N x scope f cd A outer s H E).A.guards = some [] → Room k (bxE P w K mg base N x scope f cd A outer s H E).A → (bxE P w K mg base N x scope f cd A outer s H E).N.Nodup →
      ∀ ds μ R RX, C ds μ R RX → StsX (bxE P w K mg base N x scope f cd A outer s H E) body (startD N ds) μ (fin μ.length R) (finX μ.length RX)) : FnR P w K mg base (k + 1) f fd ps (SpX K C) := by
  refine FnR.of F S (fun vs H Q E => ?_) (fun cd A outer s H vs Q E hg hr => ?_)
  · rintro ⟨α, μ, ds, R, RX, l, h, c, _⟩
    rw [h.length]
    exact len _ _ _ _ c
  · rintro ⟨α, μ, ds, R, RX, l, h, c, q, qx⟩
    refine ⟨_, hb cd A outer s H E hg hr S.nd ds μ R RX c, α, start_en l h, ⟨?_, ?_, ?_, ?_⟩, ?_⟩
    · intro ρ' σ' α' μ' H' r E' k'
      rcases r with r | ⟨r1, r2⟩
      · exact q _ _ α' μ' H' r E'.live k' .non
      · exact q _ _ _ _ _ r2 (E'.live.cutL μ.length r1) (Live.cut l E'.live k') .non
    · intro v d α' μ' H' r l' k' hv
      rcases r with r | ⟨r0, r1, r2⟩
      · exact q _ _ α' μ' H' r l' k' hv
      · exact q _ _ _ _ _ r2 (l'.cutL μ.length r1) (Live.cut l l' k') (hv.cut r0)
    · intro _ _ _ _ _ r
      exact r.elim
    · intro _ _ _ _ _ r
      exact r.elim
    · intro C' ds' d fs σ' α' μ' H' r l' k' h1 h2
      refine wmax_of takes_bx fun _ => ?_
      rcases r with r | ⟨r0, r1, r2⟩
      · exact qx _ _ _ _ _ _ _ r l' k' h1 h2
      · exact qx _ _ _ _ _ _ _ r2 (l'.cutL μ.length r1) (Live.cut l l' k') h1 (hasF_cut h2 r0)
theorem FnX.mk {x : Str} {params : Arguments} {body : List Stmt} {scope : Scope} {kws : List (Str × V)} {f : Addr} {fd : FuncData} {N ps : List Str} {k : Nat} {C : CtrX}
    (F : FunD K x x params body scope [] kws f fd) (S : FnScope N ps scope) (hm : mg x = some (.ref f))
    (hbd : ∀ (kV doc pm : Value) (an : Option Addr) (cdv ct : Value) (us : List Value), us.length = ps.length → bindArgs (PySem.W.fnOf x x params body scope .none kV doc pm an cdv ct) ⟨us, []⟩ = pure (ps.zip us))
    (len : ∀ ds μ R RX, C ds μ R RX → ds.length = ps.length)
    (hb : ∀ (cd : Value) (A : Around) (outer : List PySem.Env) (s : Shared) (H : Hp) (E : XK), (bxE P w K mg base N x scope f cd A outer s H E).A.guards = some [] → Room k (bxE P w K mg base N x scope f cd A outer s H E).A → (bxE P w K mg base N x scope f cd A outer s H E).N.Nodup →
      ∀ ds μ R RX, C ds μ R RX → StsX (bxE P w K mg base N x scope f cd A outer s H E) body (startD N ds) μ (fin μ.length R) (finX μ.length RX)) : FnX P w K mg base x (k + 1) C :=
  ⟨f, fd, ps, FnR.mk2 F S len hb, hm, F.kp, F.bindsN hbd⟩
end
section
variable {X : Cx} {e : Expr} {es : List Expr} {ρ : RO} {μ : List MO} {pos p : Pos} {R : Cn} {RX : RXt} {x : Str} {k : Nat} {C : CtrX}
theorem EvX.call (F : FnX X.prog X.w X.K X.mg X.base x k C) (hA : X.A.guards = some []) (hr : Room k X.A) (hg : Gl X x) (h : EvA X (e :: es) ρ μ fun ds μ1 => C ds μ1 R RX)
    (hdb : (x == ("__debug__" : Str)) = false := by decide) (he : starEach (e :: es) X.env = (false, eval e X.env) :: starEach es X.env := by rfl) (hpl : (backTo pos (starEach es X.env)).any (·.1) = false := by rfl) :
    EvX X (.Call (.Name x p) (e :: es) [] pos) ρ μ R RX := by
  obtain ⟨f, fd, ps, G, hm, hk, hb⟩ := F
  refine ⟨fun pins s σ H Q I ⟨α, E, q, qx⟩ => wpAny_Call_Name_kw (ld_glob I hg hm ?_ hdb)⟩
  have ha : PA X (e :: es) (tEvA X ρ μ fun ds μ1 => C ds μ1 R RX) := h
  refine PySem.W.callWith_K (h₀ := X.base) I.ok.mod.kin hk (thn (ha.run pos pins s σ H (fun vs H1 => SpX X.K C vs H1 (fun v H' => Q v H') (fun c d H' => Wmax X c d σ H')) I ⟨α, E, ?_⟩) ?_) he hpl
  · intro vs ds α1 μ1 H1 c E1 X1 hv
    exact ⟨α1, μ1, ds, R, RX, E1.live, hv, c, fun v d α' μ' H' r l k' hd => q v d α' μ' H' r (E1.ext k' l) (X1.trans k') hd,
      fun C' ds' d fs α' μ' H' r l k' h1 h2 => qx C' ds' d fs σ α' μ' H' r l (X1.trans k') h1 h2⟩
  · rintro us s1 ⟨vs, H1, I1, rv, sp⟩
    refine ⟨I1.kIn, ?_⟩
    have hl : us.length = ps.length := rv.length ▸ G.len _ _ _ _ sp
    refine wpAny_call (codeAny_mono (G.go X.A X.stack s1 H1 ⟨us, []⟩ us vs Q _ hA hr I1.env0 ?_ rv sp) fun r s2 hq => ?_)
    · have z := hb s1 us I1.kIn (by rw [List.append_nil]; exact hl)
      rw [List.append_nil] at z
      exact z
    · cases r with
      | error er => exact takes_max er s2 (XE.of_call I1 (fun _ _ _ h => h) hq)
      | ok fl =>
        cases fl with
        | ret u => exact I1.after hq
        | next => exact False.elim hq
        | brk => exact False.elim hq
        | cont => exact False.elim hq
end
end Eg

namespace Eg
open PySem PySem.Spec L2
/-! ### raise X(e, ..) of an own class whose __init__ stores -/
structure XR (P : Program) (w : World) (K : PySem.W.Frag) (mg : Str → Option Value) (base : Heap) (x : Str) (C : Addr) (k n : Nat) (fl : List V → List (Str × V)) : Prop where
  gC : mg x = some (.ref C)
  oc : OexC K C
  ini : ∃ fI fd ps, PySem.W.findIn K (.ref C) "__init__" = some (some (.ref fI)) ∧ PySem.W.typeIn K (.ref fI) = some (.type "function") ∧ FnOk P w K mg base L2.CX0 k fI fd ps (spI C n fl) ∧ Binds K fd ps []
section
variable {X : Cx} {e : Expr} {es : List Expr} {ρ : RO} {μ : List MO} {pos p pos1 : Pos} {R : Co} {RX : RXt} {x : Str} {C : Addr} {k n : Nat} {fl : List V → List (Str × V)}
theorem StX.raise {fdf : List DV → List (Str × DV)} (T : XR X.prog X.w X.K X.mg X.base x C k n fl) (hr : Room (k + 1) X.A) (hg : Gl X x) (hc : X.calm = true) (h0 : n ≤ 1000) (hf : ∀ ys ds w, HasL w ys ds → ys.length = n → HasF w (fl ys) (fdf ds))
    (h : EvA X (e :: es) ρ μ fun ds μ1 => ds.length = n ∧ RX C (fdf ds) μ1)
    (hdb : (x == ("__debug__" : Str)) = false := by decide) (he : starEach (e :: es) X.env = (false, eval e X.env) :: starEach es X.env := by rfl) (hpl : (backTo pos1 (starEach es X.env)).any (·.1) = false := by rfl) :
    StX X (.Raise (some (.Call (.Name x p) (e :: es) [] pos1)) none pos) ρ μ R RX := by
  obtain ⟨gC, oc, fI, fd, ps, iC, tI, F1, hb⟩ := T
  have ha : PA X (e :: es) (tEvA X ρ μ fun ds μ1 => ds.length = n ∧ RX C (fdf ds) μ1) := h
  refine PSw (ps_raise hc takes_max (pmk_oex oc iC tI F1 hr hb .nil pass0 hg gC ha hdb he hpl)) fun D σ H ⟨α, E, _, qx⟩ => ?_
  refine ⟨α, E, fun vs ds α1 μ1 H1 ⟨hn, r⟩ E1 X1 hv => ?_⟩
  have hl : vs.length = n := hv.length.trans hn
  refine ⟨by omega, fun a na => ⟨a, vs ++ [], rfl, by rw [List.append_nil]; exact hl, upd_same, fun d H' h1 h2 h3 h4 => ?_⟩⟩
  rw [List.append_nil] at h3
  have nd : d ≠ a := fun z => by
    rw [z, upd_same] at h1
    cases h1
  rw [upd_ne nd] at h1
  have keep : ∀ b, H1 b ≠ none → (upd (del H' a) d (.xd (fl vs))) b = H1 b := fun b hb => by
    have n1 : b ≠ a := fun z => hb (by rw [z]; exact na)
    have n2 : b ≠ d := fun z => hb (by rw [z]; exact h1)
    rw [upd_ne n2]
    show (if b = a then none else H' b) = H1 b
    rw [if_neg n1, h4 b (by rw [upd_ne n1]; exact hb) n1, upd_ne n1]
  obtain ⟨kp, l⟩ := E1.live.lays keep
  exact ⟨rfl, d, fl vs, h2, h3, h1, qx C (fdf ds) d (fl vs) σ α1 μ1 _ r l (X1.trans kp) upd_same (hf _ _ _ (kp.hasL hv) hl)⟩
end
/-! ### try: .. except X as n: return [s, n.f, n.g] -/
section
variable {X : Cx} {ρ : RO} {μ : List MO} {pos pos' np p1 p2 p3 p4 p5 p6 p7 : Pos} {R : Co} {x n s f1 f2 : Str} {C : Addr} {body : List Stmt} {j : Nat}
theorem St.try2 (i : Nat) (hs : X.stack = X.env :: X.outer) (hf : X.env.frame = some X.env.locals) (hN : X.N.Nodup) (hi : X.N[i]? = some n) (hln : X.env.kindOf n = some .local) (hc : Names X x (.ref C)) (hv : Vis X.env.scope n)
    (hd : (n == ("__debug__" : Str)) = false) (hcd : (n == ("__classdict__" : Str)) = false) (XF : XfC X.K C) (no1 : PySem.W.findIn X.K (.ref C) f1 = some none) (no2 : PySem.W.findIn X.K (.ref C) f2 = some none) (hx : PySem.W.exmOne X.K (.ref C) (.ref C) = some true)
    (h : ∀ pn xe, PassesOwn (model X.prog X.w) X.A X.env xe → StsX (X.tr pn xe) body ρ μ R fun C' fs μ' => C' = C ∧ ∃ d1 d2, fs.lookup f1 = some d1 ∧ fs.lookup f2 = some d2 ∧ R (.rt (.lst [.str s, d1, d2]) μ')) :
    St X (.Try body [.ExceptHandler (some (.Name x np)) (some n) [.Return (some (.List [.Constant (.str s) j p1, .Attribute (.Name n p2) f1 p3, .Attribute (.Name n p4) f2 p5] p6)) p7] pos'] [] [] pos) ρ μ R := by
  refine PSw (ps_try_as (i := i) (tb := fun W D σ H => ∃ α, En ⟨X.K, α, μ, H⟩ σ ρ ∧
      ((∀ ρ' σ' α' μ' H', R (.nx ρ' μ') → En ⟨X.K, α', μ', H'⟩ σ' ρ' → Kp ⟨X.K, α, μ, H⟩ ⟨X.K, α', μ', H'⟩ → D.nx σ' H') ∧
       (∀ v d α' μ' H', R (.rt d μ') → Live ⟨X.K, α', μ', H'⟩ → Kp ⟨X.K, α, μ, H⟩ ⟨X.K, α', μ', H'⟩ → Has ⟨X.K, α', μ', H'⟩ v d → D.rt v H') ∧
       (∀ ρ' σ' α' μ' H', R (.bk ρ' μ') → En ⟨X.K, α', μ', H'⟩ σ' ρ' → Kp ⟨X.K, α, μ, H⟩ ⟨X.K, α', μ', H'⟩ → D.bk σ' H') ∧
       (∀ ρ' σ' α' μ' H', R (.ct ρ' μ') → En ⟨X.K, α', μ', H'⟩ σ' ρ' → Kp ⟨X.K, α, μ, H⟩ ⟨X.K, α', μ', H'⟩ → D.ct σ' H')) ∧
      ∀ C' ds d fs σ' α' μ' H', (C' = C ∧ ∃ d1 d2, List.lookup f1 ds = some d1 ∧ List.lookup f2 ds = some d2 ∧ R (.rt (.lst [.str s, d1, d2]) μ')) → Live ⟨X.K, α', μ', H'⟩ → Kp ⟨X.K, α, μ, H⟩ ⟨X.K, α', μ', H'⟩ → H' d = some (.xd fs) → HasF ⟨X.K, α', μ', H'⟩ fs ds → σ'.length = X.N.length → W (.ref C') (some d) σ' H')
    hs hf hN hi hln hc takes0 (fun W pn xe tk po => PSsw (h pn xe po) fun D σ H ⟨α, E, q, qx⟩ => ⟨α, E, q, fun C' ds d fs σ' α' μ' H' r l k h1 h2 => ?_⟩)
    (fun a oe cls d pn hz hfl => pss_one (ps_ret (pe_lst (pa_cons pe_str (pa_cons (pe_xf XF no1 hz hfl (pe_var hi hv hd hcd)) (pa_cons (pe_xf XF no2 hz hfl (pe_var hi hv hd hcd)) pa_nil))))))) fun D σ H ⟨α, E, q⟩ => ?_
  · exact wmax_of tk fun hl => qx C' ds d fs σ' α' μ' H' r l k h1 h2 hl
  · refine ⟨α, E, q, ?_⟩
    rintro C' ds d fs σ' α' μ' H' ⟨rfl, d1, d2, l1, l2, r⟩ l k h1 h2 hl
    obtain ⟨v1, e1, g1⟩ := hasF_look h2 l1
    obtain ⟨v2, e2, g2⟩ := hasF_look h2 l2
    refine ⟨true, hx, fun _ a na => ?_, fun z => nomatch z⟩
    have hat : (List.set σ' i (some (V.ref a)))[i]? = some (some (V.ref a)) := by
      have hi' : i < σ'.length := by
        rw [hl]
        exact (List.getElem?_eq_some_iff.mp hi).1
      simp [hi']
    refine ⟨.ref a, hat, rfl, rfl, d, fs, v1, rfl, h1, e1, .ref a, hat, rfl, rfl, d, fs, v2, rfl, h1, e2, by show 3 ≤ sizeLine; decide, fun p np => ?_⟩
    obtain ⟨kp, lp⟩ := l.lay (o := .lst [.str s, v1, v2]) np
    exact q.2.1 _ _ α' μ' _ r lp (k.trans kp) (.lst (.inl ⟨l.fresh np, .inl upd_same⟩) (kp.hasL (.cons .str (.cons g1 (.cons g2 .nil)))))
end
end Eg

namespace Eg
open PySem PySem.Spec L2
section
variable {X : Cx} {a b c e o : Expr} {ρ : RO} {μ : List MO} {pos p pos' : Pos}
/-! ### x += e -/
theorem St.augAdd {R : Co} (i : Nat) {x : Str} (n : Int) (hN : X.N.Nodup) (hi : X.N[i]? = some x) (hx : Loc X.env.scope x) (hn : ρ[i]? = some (some (.int n))) (hf : X.fn x = true ∨ X.env.scope.names.lookup x = some .local)
    (h : Ev X e ρ μ fun d μ1 => ∃ j, d = .int j ∧ R (.nx (ρ.set i (some (.int (n + j)))) μ1)) : St X (.AugAssign (.Name x pos') .Add e pos) ρ μ R :=
  PSw (ps_aug hN hi hx h ip_add hf) fun D σ H ⟨α, E, q⟩ => by
    obtain ⟨v, e1, e2⟩ := E.at_ i _ hn
    cases e2
    refine ⟨.int n, e1, α, E, ?_⟩
    rintro v d α1 μ1 H1 ⟨j, rfl, r⟩ E1 X1 hv
    cases hv
    exact ⟨n, j, rfl, rfl, q.1 _ _ α1 μ1 H1 r (E1.set i .int) X1⟩
theorem St.augSub {R : Co} (i : Nat) {x : Str} (n : Int) (hN : X.N.Nodup) (hi : X.N[i]? = some x) (hx : Loc X.env.scope x) (hn : ρ[i]? = some (some (.int n))) (hf : X.fn x = true ∨ X.env.scope.names.lookup x = some .local)
    (h : Ev X e ρ μ fun d μ1 => ∃ j, d = .int j ∧ R (.nx (ρ.set i (some (.int (n - j)))) μ1)) : St X (.AugAssign (.Name x pos') .Sub e pos) ρ μ R :=
  PSw (ps_aug hN hi hx h ip_sub hf) fun D σ H ⟨α, E, q⟩ => by
    obtain ⟨v, e1, e2⟩ := E.at_ i _ hn
    cases e2
    refine ⟨.int n, e1, α, E, ?_⟩
    rintro v d α1 μ1 H1 ⟨j, rfl, r⟩ E1 X1 hv
    cases hv
    exact ⟨n, j, rfl, rfl, q.1 _ _ α1 μ1 H1 r (E1.set i .int) X1⟩
/-! ### parts of texts -/
theorem Ev.sliceS {lo hi : Option Expr} {p2 : Pos} {R : Cn} (h : Ev X a ρ μ fun d μ1 => ∃ z, d = .str z ∧ z.length ≤ sizeLine ∧ EvP X lo ρ μ1 fun l μ2 => EvP X hi ρ μ2 fun u μ3 => R (.str (cutS z l u)) μ3) : Ev X (.Subscript a (.Slice lo hi none p2) pos) ρ μ R :=
  PEw (pe_slice sl_str pe_a po_a po_a) fun σ H Q ⟨α, E, q⟩ => ⟨_, h, α, E, fun v d α1 μ1 H1 ⟨z, e, hz, h1⟩ E1 X1 hv => by
    subst e
    cases hv
    exact ⟨_, h1, α1, E1, fun l α2 μ2 H2 h2 E2 X2 => ⟨_, h2, α2, E2, fun u α3 μ3 H3 h3 E3 X3 => ⟨z, rfl, hz, q _ _ α3 μ3 H3 h3 E3 (X1.trans (X2.trans X3)) .str⟩⟩⟩⟩
/-- xs[::-1] -/
theorem Ev.revL {k : Nat} {p1 p2 p3 : Pos} {R : Cn} (h : Ev X e ρ μ fun d μ1 => ∃ ds, d = .lst ds ∧ R (.lst ds.reverse) μ1) : Ev X (.Subscript e (.Slice none none (some (.UnaryOp .USub (.Constant (.int 1) k p1) p2)) p3) pos) ρ μ R :=
  PEw (pe_revL pe_a) fun σ H Q ⟨α, E, q⟩ => ⟨_, h, α, E, fun v d α1 μ1 H1 ⟨ds, e, r⟩ E1 X1 hv => by
    subst e
    obtain ⟨a, vs, rfl, s, t⟩ := sqL_of hv
    refine ⟨a, vs, rfl, s, fun p np => ?_⟩
    obtain ⟨k, l⟩ := E1.live.lay (o := .lst vs.reverse) np
    exact q _ _ α1 μ1 _ r (E1.ext k l) (X1.trans k) (.lst (.inl ⟨E1.live.fresh np, .inl upd_same⟩) (k.hasL (HasL.rev t)))⟩
where HasL.rev {w : Wd} : ∀ {vs : List V} {ds : List DV}, HasL w vs ds → HasL w vs.reverse ds.reverse
  | _, _, .nil => .nil
  | _, _, .cons h t => by
    rw [List.reverse_cons, List.reverse_cons]
    exact HasL.app (HasL.rev t) (.cons h .nil)
/-! ### s.split(t), s.find(t, i), str(n) -/
theorem strs_has {w : Wd} : ∀ ys : List Str, HasL w (ys.map V.str) (ys.map DV.str)
  | [] => .nil
  | _ :: r => .cons .str (strs_has r)
theorem Ev.split {R : Cn} {apos cpos : Pos} (h : Ev X o ρ μ fun dO μ1 => ∃ z, dO = .str z ∧ z.length + 2 ≤ sizeLine ∧ EvA X [e] ρ μ1 fun ds μ2 => ∃ t, ds = [.str t] ∧ (t.length == 0) = false ∧ R (.lst ((Txt.split z t).map DV.str)) μ2)
    (hbase : attributeBase o "split" X.env (eval o X.env) = eval o X.env := by rfl)
    (hfew : ((backTo cpos (starEach [e] X.env)).all (fun x => !x.1) && (backToKw cpos (keywordEach [] X.env)).all (fun x => x.1.isSome)
      && decide ([e].length + ([] : List Keyword).length + (if ([] : List Keyword).isEmpty then 0 else 1) < 30)) = true := by rfl)
    (hline : (apos.endLine == cpos.line) = true := by rfl) (hs : starEach [e] X.env = (false, eval e X.env) :: starEach [] X.env := by rfl) :
    Ev X (.Call (.Attribute o "split" apos) [e] [] cpos) ρ μ R :=
  PEw (pe_bm PySem.F.plainAttrs_str PySem.F.slot_str_split PySem.F.type_str_split mt_split pe_a pa_a hbase hfew hline hs rfl) fun σ H Q ⟨α, E, q⟩ => ⟨_, h, α, E, fun v dO α1 μ1 H1 ⟨z, e1, hz, h1⟩ E1 X1 hv => by
    subst e1
    cases hv
    refine ⟨rfl, _, h1, α1, E1, ?_⟩
    rintro us ds α2 μ2 H2 ⟨t, rfl, ht, r⟩ E2 X2 hus
    obtain ⟨u, rfl, hu⟩ := hasL1 hus
    cases hu
    refine ⟨z, t, rfl, rfl, ht, hz, fun p np => ?_⟩
    obtain ⟨k, l⟩ := E2.live.lay (o := .lst ((Txt.split z t).map V.str)) np
    exact q _ _ α2 μ2 _ r (E2.ext k l) (X1.trans (X2.trans k)) (.lst (.inl ⟨E2.live.fresh np, .inl upd_same⟩) (strs_has _))⟩
theorem Ev.find3 {R : Cn} {apos cpos : Pos} (h : Ev X o ρ μ fun dO μ1 => ∃ z, dO = .str z ∧ EvA X [a, b] ρ μ1 fun ds μ2 => ∃ t i, ds = [.str t, .int i] ∧ R (.int (Txt.find3 z t i)) μ2)
    (hbase : attributeBase o "find" X.env (eval o X.env) = eval o X.env := by rfl)
    (hfew : ((backTo cpos (starEach [a, b] X.env)).all (fun x => !x.1) && (backToKw cpos (keywordEach [] X.env)).all (fun x => x.1.isSome)
      && decide ([a, b].length + ([] : List Keyword).length + (if ([] : List Keyword).isEmpty then 0 else 1) < 30)) = true := by rfl)
    (hline : (apos.endLine == cpos.line) = true := by rfl) (hs : starEach [a, b] X.env = (false, eval a X.env) :: starEach [b] X.env := by rfl) (hp : (backTo cpos (starEach [b] X.env)).any (·.1) = false := by rfl) :
    Ev X (.Call (.Attribute o "find" apos) [a, b] [] cpos) ρ μ R :=
  PEw (pe_bm PySem.F.plainAttrs_str PySem.F.slot_str_find PySem.F.type_str_find mt_find3 pe_a pa_a hbase hfew hline hs hp) fun σ H Q ⟨α, E, q⟩ => ⟨_, h, α, E, fun v dO α1 μ1 H1 ⟨z, e1, h1⟩ E1 X1 hv => by
    subst e1
    cases hv
    refine ⟨rfl, _, h1, α1, E1, ?_⟩
    rintro us ds α2 μ2 H2 ⟨t, i, rfl, r⟩ E2 X2 hus
    obtain ⟨u, w, rfl, hu, hw⟩ := hasL2 hus
    cases hu
    cases hw
    exact ⟨z, t, i, rfl, rfl, q _ _ α2 μ2 _ r E2 (X1.trans X2) .int⟩⟩
def sStrI : SA := fun ds μ R => ∃ i, ds = [.int i] ∧ i.natAbs.log2 < 1920 ∧ R (.str (Str.ofString (toString i))) μ
theorem strI_S : RaS X (fun xs H Q => ∃ i, xs = [.int i] ∧ i.natAbs.log2 < 1920 ∧ Q (.str (Str.ofString (toString i))) H) sStrI := fun α μ H σ ρ vs ds R Q E hv h q => by
  obtain ⟨i, rfl, c, r⟩ := h
  obtain ⟨v, rfl, hw⟩ := hasL1 hv
  cases hw
  exact ⟨i, rfl, c, q.sc E r .str⟩
theorem Ev.toStr {R : Cn} (hg : Gl X "str") (hm : X.mg "str" = none) (h : EvA X [e] ρ μ fun ds μ1 => sStrI ds μ1 R) (he : starEach [e] X.env = (false, eval e X.env) :: starEach [] X.env := by rfl) :
    Ev X (.Call (.Name "str" p) [e] [] pos) ρ μ R := .callTy call_str_int strI_S hg hm PyProof.Rows.boot_str h (by decide) (by decide) he rfl
end
end Eg

namespace Eg
open PySem PySem.Spec PyProof.Rows L2
/-! ### for i, x in enumerate(xs, start=k) -/
/-- pairs of a count from k on and an item of the list at a -/
def Itn (K : PySem.W.Frag) (a : Addr) (k : Int) : It where
  go := fun i H => ∃ (xs : List V) (x : V), SqL K H a xs ∧ xs[i]? = some x
  yld := fun i H v H' => ∃ (T : Addr) (x : V), v = .ref T ∧ H T = none ∧ H' = upd H T (.tup [.int (k + (i : Int)), x]) ∧ ∀ xs, SqL K H a xs → xs[i]? = some x
  stop := fun i H => ∃ xs : List V, SqL K H a xs ∧ xs.length = i
theorem turn_count {P : Program} {w : World} {K : PySem.W.Frag} {elts : List Expr} {kk : Nat} {tpos : Pos} (a e it : Addr) (k : Int) :
    Turn P w K (.Tuple elts kk tpos) (Itn K a k) [e, it] e fun i h => (∃ old, IsEnum h e it (k + (i : Int)) old) ∧ h.IsListIter it a i ∧ e ≠ it ∧ a ≠ it ∧ a ≠ e where
  mem := List.mem_cons_self
  obj := by
    rintro i h ⟨⟨old, he⟩, ⟨o, ho, hc, hd⟩, _⟩ b hb
    rcases List.mem_cons.mp hb with z | z
    · subst z
      exact ⟨_, he, fun v q => nomatch q⟩
    · obtain rfl := List.mem_singleton.mp z
      exact ⟨o, ho, fun v q => by rw [hd] at q; cases q⟩
  keep := by
    rintro i h h' ⟨⟨old, he⟩, hi, r⟩ kp
    exact ⟨⟨old, kp e List.mem_cons_self _ he⟩, hi.at fun o q => kp it (List.mem_cons_of_mem _ List.mem_cons_self) o q, r⟩
  item := by
    rintro X rfl rfl rfl hc i pins s σ H E I hf ⟨⟨old, he⟩, hit, n1, n2, n3⟩ ⟨xs, x, hq, hx⟩
    obtain ⟨its, rv, p, hz⟩ := I.list hq
    obtain ⟨u, hu, ru⟩ := rv.get hx
    have hlt : i < its.toArray.size := by
      rw [List.size_toArray]
      exact (List.getElem?_eq_some_iff.mp hu).1
    have le : e < s.heap.objs.size := Heap.lt_size he
    have li : it < s.heap.objs.size := by
      obtain ⟨_, q, _⟩ := hit
      exact Heap.lt_size q
    have hef : e ∉ [it, a] := by
      intro z
      rcases List.mem_cons.mp z with z | z
      · exact n1 z
      · exact n3 (List.mem_singleton.mp z).symm
    refine wpAny_pyNext_enum_itemC (Draws.list (A := X.A.in1) (I.ok.hd hc) it a n2 its.toArray) he ⟨hit, p.isList⟩ hlt n1 hef ?_
    rintro x' h' tk hx' out ⟨hit', _⟩ hT hsz keep
    have ex : x' = u := by
      have z : its.toArray[i]? = some u := by
        rw [List.getElem?_toArray]
        exact hu
      have hx2 : its.toArray[i]? = some x' := hx'
      rw [hx2] at z
      exact Option.some.inj z
    subst ex
    refine ⟨_, rfl, wpAny_letOwnedTupleGo_enum (s := { s with heap := h', toks := tk + 1 }) out fun h2 he2 sb => ?_⟩
    have at2 : h2.get? s.heap.objs.size = some { cls := .type "tuple", data := .seq #[.int (k + (i : Int)) tk, x'] } := (sb.2 _ (Nat.ne_of_gt le)).trans hT
    have new : ObjOk X.prog X.w (upd H s.heap.objs.size (.tup [.int (k + (i : Int)), x])) h2 s.heap.objs.size (.tup [.int (k + (i : Int)), x]) :=
      ⟨by show 2 ≤ sizeLine; decide, [.int (k + (i : Int)) tk, x'], .cons ⟨_, rfl⟩ (.cons ru .nil), ⟨_, at2, rfl, _, rfl⟩⟩
    have I2 : L2.Inv X pins σ (upd H s.heap.objs.size (.tup [.int (k + (i : Int)), x])) { s with heap := h2, toks := tk + 1 } := by
      refine I.turnedNew (ch := [e, it]) (fun b ob hb q => ?_) hf (Nat.le_refl _) new
      have b1 : b ≠ e := fun z => hb (by rw [z]; exact List.mem_cons_self)
      have b2 : b ≠ it := fun z => hb (by rw [z]; exact List.mem_cons_of_mem _ List.mem_cons_self)
      exact (sb.2 b b1).trans (keep b ob b1 b2 q)
    have cnt : k + ((i + 1 : Nat) : Int) = k + (i : Int) + 1 := by omega
    refine ⟨.ref s.heap.objs.size, _, I2, rfl, ⟨_, x, rfl, I.hok.fresh (Nat.le_refl _), rfl, fun ys hy => ?_⟩, ⟨⟨x', ?_⟩, hit'.at fun o q => (sb.2 it (Ne.symm n1)).trans q, n1, n2, n3⟩, fun b hb => ?_⟩
    · rw [I.list_inj hy hq]
      exact hx
    · rw [cnt]
      exact he2
    · have lb : b < s.heap.objs.size := by
        rcases List.mem_cons.mp hb with z | z
        · rw [z]; exact le
        · rw [List.mem_singleton.mp z]; exact li
      rw [upd_ne (Nat.ne_of_lt lb)]
      exact (hf b hb).1
  done := by
    rintro X rfl rfl rfl hc i pins s σ H E I hf ⟨⟨old, he⟩, hit, n1, n2, n3⟩ ⟨xs, hq, hx⟩
    obtain ⟨its, rv, p, hz⟩ := I.list hq
    obtain ⟨f0, f1, f2, f3, f4, f5⟩ := hf it (List.mem_cons_of_mem _ List.mem_cons_self)
    have en : its.toArray.size = i := by
      rw [List.size_toArray, ← rv.length]
      exact hx
    exact wpAny_pyNext_enum_endD (Draws.list (A := X.A.in1) (I.ok.hd hc) it a n2 its.toArray) he (by rw [en]; exact ⟨hit, p.isList⟩) fun h' eb => ⟨rfl, I.turned (t' := s.toks) (fun b o hb q => eb b o hb q) f0 f1 f3 f4 f5⟩
  self := by
    rintro A i s Q E ⟨⟨_, he⟩, _⟩ h
    exact wpAny_pyIter_enum he h
section
variable {X : Cx} {e ek : Expr} {ρ : RO} {μ : List MO} {p pos tpos kpos : Pos} {elts : List Expr} {kk : Nat} {Ra : Ca}
/-- the pairs that come -/
def cntD (k : Int) : List DV → List DV
  | [] => []
  | d :: r => .tup [.int k, d] :: cntD (k + 1) r
theorem cntD_at : ∀ (ds : List DV) (k : Int) (i : Nat) (d : DV), (cntD k ds)[i]? = some d → ∃ x, ds[i]? = some x ∧ d = .tup [.int (k + (i : Int)), x]
  | [], _, _, _, h => by simp [cntD] at h
  | x :: r, k, 0, d, h => by
    have h' : some (DV.tup [.int k, x]) = some d := h
    refine ⟨x, rfl, ?_⟩
    rw [← Option.some.inj h']
    simp
  | x :: r, k, i + 1, d, h => by
    obtain ⟨y, h1, h2⟩ := cntD_at r (k + 1) i d h
    refine ⟨y, h1, ?_⟩
    rw [h2]
    have : k + 1 + (i : Int) = k + ((i + 1 : Nat) : Int) := by omega
    rw [this]
theorem cntD_len : ∀ (ds : List DV) (k : Int), (cntD k ds).length = ds.length
  | [], _ => rfl
  | _ :: r, k => by
    show (cntD (k + 1) r).length + 1 = r.length + 1
    rw [cntD_len r]
theorem type_kw {M : Model} {A : Around} {E : Value → Shared → Prop} {s : Shared} {cp : Pos} {T : String} {args : List (Bool × Sem Value)} {kws : List (Option Str × Sem Value)} {Q : Value → Shared → Prop} (hp : (args.any (·.1) || kws.any (·.1.isNone)) = false)
    (h : wpAny M A (evalArgs (.type T) true args kws) (fun a s1 => wpAny M A (call (.type T) a.pos a.kw) Q E s1) E s) : wpAny M A (callWith cp (.type T) [] args kws) Q E s := by
  unfold callWith
  refine wpAny_bind (wpAny_holding ?_)
  refine wpAny_mono h (fun a s1 h1 => ?_) fun _ _ x => x
  refine wpAny_bind (wpAny_standAt ?_)
  simp only [hp]
  refine wpAny_bind (wpAny_pure (wpAny_bind ?_))
  refine wpAny_mono h1 (fun r s2 hr => ?_) fun _ _ x => x
  refine wpAny_bind (wpAny_holding ?_)
  exact wpAny_point (wpAny_pure hr)
def iCnt (K : PySem.W.Frag) (ta tk : TA) : TI := fun σ H R => ta σ H fun vs H1 => tk σ H1 fun ks H2 => ∃ a xs k, vs = [.ref a] ∧ ks = [.int k] ∧ SqL K H2 a xs ∧ -(2 ^ 63) ≤ k ∧ k < 2 ^ 63 ∧ R (Itn K a k) H2
theorem pi_count {ta tk : TA} (hg : Gl X "enumerate") (hm : X.mg "enumerate" = none) (ha : PA X [e] ta) (hk : PK X [⟨some "start", ek, kpos⟩] tk)
    (hs : starEach [e] X.env = (false, eval e X.env) :: starEach [] X.env := by rfl)
    (hall : (backToKw pos (keywordEach [⟨some "start", ek, kpos⟩] X.env)).all (·.1.isSome) = true := by rfl) (hks : (backToKw pos (keywordEach [⟨some "start", ek, kpos⟩] X.env)).filterMap (·.1) = [Str.ofString "start"] := by rfl)
    (hpl : ((backTo pos (starEach [e] X.env)).any (·.1) || (backToKw pos (keywordEach [⟨some "start", ek, kpos⟩] X.env)).any (·.1.isNone)) = false := by rfl) :
    PI X (.Tuple elts kk tpos) (.Call (.Name "enumerate" p) [e] [⟨some "start", ek, kpos⟩] pos) (iCnt X.K ta tk) := by
  refine ⟨fun pins s σ H R I h => ?_⟩
  refine wpAny_Call_Name_kw (ld_blt I hg hm boot_enumerate ?_ (by decide) (by decide))
  refine type_kw hpl (evalArgs_kw2 hall (thn (ha.run pos pins s σ H _ I h) fun us s1 ⟨vs, H1, I1, r1, q1⟩ => thn (hk.run pos pins s1 σ H1 _ I1 q1) fun ws s2 ⟨ks, H2, I2, r2, a, xs, k, ev, ek, hq, k0, k1, q⟩ => ?_) hs)
  subst ev ek
  rw [hks]
  obtain ⟨u, rfl, ru⟩ := vals1 r1
  obtain ⟨v, rfl, rv⟩ := vals1 r2
  have eu : u = Value.ref a := ru
  subst eu
  obtain ⟨t, rfl⟩ := rv
  obtain ⟨its, rvs, p', hz⟩ := I2.list hq
  show wpAny _ _ (call (.type "enumerate") [.ref a] [(Str.ofString "start", .int k t)]) _ _ s2
  refine enum_begins_start (begins_list a its.toArray) p'.isList k0 k1 fun h' he hit hsz hkp => wpAny_pyIter_enum he ?_
  have I3 : L2.Inv X pins σ H2 { s2 with heap := h' } := I2.kept (t' := s2.toks) hkp
  have ha : a < s2.heap.objs.size := by
    obtain ⟨o, q, _⟩ := p'.isList
    exact Heap.lt_size q
  refine ⟨s2.heap.objs.size + 1, [s2.heap.objs.size + 1, s2.heap.objs.size], _, _, H2, rfl, I3, turn_count a (s2.heap.objs.size + 1) s2.heap.objs.size k, ⟨⟨.none, by simpa using he⟩, ⟨_, hit, rfl, rfl⟩, Nat.succ_ne_self _, Nat.ne_of_lt ha, Nat.ne_of_lt (Nat.lt_succ_of_lt ha)⟩, fun b hb => ?_, q⟩
  have hle : s2.heap.objs.size ≤ b := by
    rcases List.mem_cons.mp hb with z | z
    · rw [z]
      exact Nat.le_succ _
    · rw [List.mem_singleton.mp z]
      exact Nat.le_refl _
  exact I2.fpOk hle (I2.hok.fresh hle)
theorem EvI.count (hg : Gl X "enumerate") (hm : X.mg "enumerate" = none) (h : EvA X [e] ρ μ fun ds μ1 => ∃ xs, ds = [.lst xs] ∧ EvK X [⟨some "start", ek, kpos⟩] ρ μ1 fun ks μ2 => ∃ k, ks = [.int k] ∧ -(2 ^ 63) ≤ k ∧ k < 2 ^ 63 ∧ Ra (cntD k xs) μ2)
    (hs : starEach [e] X.env = (false, eval e X.env) :: starEach [] X.env := by rfl)
    (hall : (backToKw pos (keywordEach [⟨some "start", ek, kpos⟩] X.env)).all (·.1.isSome) = true := by rfl) (hks : (backToKw pos (keywordEach [⟨some "start", ek, kpos⟩] X.env)).filterMap (·.1) = [Str.ofString "start"] := by rfl)
    (hpl : ((backTo pos (starEach [e] X.env)).any (·.1) || (backToKw pos (keywordEach [⟨some "start", ek, kpos⟩] X.env)).any (·.1.isNone)) = false := by rfl) :
    EvI X (.Tuple elts kk tpos) (.Call (.Name "enumerate" p) [e] [⟨some "start", ek, kpos⟩] pos) ρ μ Ra :=
  PIw (pi_count hg hm pa_a pk_a hs hall hks hpl) fun σ H Q ⟨α, E, q⟩ => ⟨_, h, α, E, fun vs ds α1 μ1 H1 ⟨xs, e1, h1⟩ E1 X1 hv => ⟨_, h1, α1, E1, fun us ks α2 μ2 H2 ⟨k, e2, k0, k1, r⟩ E2 X2 hu => by
    subst e1 e2
    obtain ⟨v, rfl, hv'⟩ := hasL1 hv
    obtain ⟨w, rfl, hw⟩ := hasL1 hu
    cases hw
    obtain ⟨a, ws, rfl, s1, t1⟩ := sqL_of (X2.has hv')
    refine ⟨a, ws, k, rfl, rfl, s1, k0, k1, q _ _ α2 μ2 H2 r E2 (X1.trans X2) fun α3 μ3 H3 kp l => ?_⟩
    obtain ⟨a', ws', ea, s3, t3⟩ := sqL_of (kp.has (X2.has hv'))
    cases ea
    refine ⟨fun i d hd => ?_, ⟨ws', s3, by rw [cntD_len, t3.length]⟩⟩
    obtain ⟨x, f1, rfl⟩ := cntD_at _ _ _ _ hd
    obtain ⟨y, g1, g2⟩ := t3.get f1
    refine ⟨⟨ws', y, s3, g1⟩, ?_⟩
    rintro z H' ⟨T, y2, rfl, nT, rfl, c1⟩
    have q1 := c1 ws' s3
    rw [g1] at q1
    cases q1
    obtain ⟨k2, l2⟩ := l.lay (o := .tup [.int (k + (i : Int)), y]) nT
    exact ⟨k2, l2, .tup (.of upd_same) (.cons .int (.cons (k2.has g2) .nil))⟩⟩⟩
end
end Eg

namespace Eg
open PySem PySem.Spec L2
/-! ### for c in s, s a text -/
section
variable {X : Cx} {e : Expr} {ρ : RO} {μ : List MO}
def sgD (z : Str) : List DV := z.cps.toList.map fun c => DV.str ⟨#[c]⟩
theorem EvI.str {tg : Expr} {Ra : Ca} (h : Ev X e ρ μ fun d μ1 => ∃ z, d = .str z ∧ Ra (sgD z) μ1) : EvI X tg e ρ μ Ra :=
  PIw (pi_str pe_a) fun σ H Q ⟨α, E, q⟩ => ⟨_, h, α, E, fun v d α1 μ1 H1 ⟨z, e, r⟩ E1 X1 hv => by
    subst e
    cases hv
    refine ⟨z, rfl, q _ _ α1 μ1 H1 r E1 X1 fun α2 μ2 H2 k l => ⟨fun i d hd => ?_, ?_⟩⟩
    · unfold sgD at hd
      rw [List.getElem?_map] at hd
      obtain ⟨c, h1, rfl⟩ := Option.map_eq_some_iff.mp hd
      obtain ⟨hi, he⟩ := List.getElem?_eq_some_iff.mp h1
      refine ⟨by rw [Array.length_toList] at hi; exact hi, ?_⟩
      rintro y H' ⟨rfl, c', h2, rfl⟩
      have e2 : c' = c := by
        have : z.cps.toList[i]? = some c' := by rw [Array.getElem?_toList]; exact h2
        rw [h1] at this
        exact (Option.some.inj this).symm
      subst e2
      exact ⟨l.refl, l, .str⟩
    · show z.cps.size ≤ (sgD z).length
      unfold sgD
      rw [List.length_map, Array.length_toList]
      exact Nat.le_refl _⟩
/-- the order of two signs -/
theorem le_sign (c d : Nat) : (!decide ((⟨#[d]⟩ : Str).cps.toList < (⟨#[c]⟩ : Str).cps.toList)) = decide (c ≤ d) := by
  have e : ((⟨#[d]⟩ : Str).cps.toList < (⟨#[c]⟩ : Str).cps.toList) ↔ d < c := by
    show ([d] < [c]) ↔ d < c
    rw [List.cons_lt_cons_iff]
    simp
  by_cases h : c ≤ d
  · rw [decide_eq_true h, decide_eq_false fun z => absurd (e.mp z) (by omega)]
    rfl
  · rw [decide_eq_false h, decide_eq_true (e.mpr (by omega))]
    rfl
/-- lo <= c <= hi of signs -/
theorem EvT.between {b : Expr} {la lc : Str} {lo hi j1 j2 : Nat} {p1 p2 pos : Pos} {R : Ct} (e1 : la = ⟨#[lo]⟩) (e2 : lc = ⟨#[hi]⟩) (h : Ev X b ρ μ fun d μ1 => ∃ k, d = .str ⟨#[k]⟩ ∧ R (decide (lo ≤ k ∧ k ≤ hi)) μ1)
    (hm : lastMarks [.LtE, .LtE] [b, .Constant (.str lc) j2 p2] = false := by with_unfolding_all rfl) : EvT X (.Compare (.Constant (.str la) j1 p1) [.LtE, .LtE] [b, .Constant (.str lc) j2 p2] pos) ρ μ R := by
  subst e1 e2
  refine EvT.chain op_le_str rCmpS_S op_le_str rCmpS_S (Ev.str (Ev.mono h ?_)) hm
  rintro d μ1 ⟨k, rfl, r⟩
  refine ⟨_, _, rfl, rfl, _, rfl, ?_⟩
  show if (!decide ((⟨#[k]⟩ : Str).cps.toList < (⟨#[lo]⟩ : Str).cps.toList)) = true then _ else _
  rw [le_sign]
  refine ifd (fun hlo => Ev.str ⟨_, _, rfl, rfl, _, rfl, ?_⟩) (fun hlo => ?_)
  · show R (!decide ((⟨#[hi]⟩ : Str).cps.toList < (⟨#[k]⟩ : Str).cps.toList)) μ1
    rw [le_sign]
    have e : decide (lo ≤ k ∧ k ≤ hi) = decide (k ≤ hi) := decide_eq_decide.mpr ⟨fun z => z.2, fun z => ⟨hlo, z⟩⟩
    rw [e] at r
    exact r
  · rw [decide_eq_false fun z => hlo z.1] at r
    exact r
theorem Ev.between {b : Expr} {la lc : Str} {lo hi j1 j2 : Nat} {p1 p2 pos : Pos} {R : Cn} (e1 : la = ⟨#[lo]⟩) (e2 : lc = ⟨#[hi]⟩) (h : Ev X b ρ μ fun d μ1 => ∃ k, d = .str ⟨#[k]⟩ ∧ R (.bl (decide (lo ≤ k ∧ k ≤ hi))) μ1)
    (hm : lastMarks [.LtE, .LtE] [b, .Constant (.str lc) j2 p2] = false := by with_unfolding_all rfl) : Ev X (.Compare (.Constant (.str la) j1 p1) [.LtE, .LtE] [b, .Constant (.str lc) j2 p2] pos) ρ μ R := by
  subst e1 e2
  refine Ev.chain op_le_str rCmpS_S op_le_str rCmpS_S (Ev.str (Ev.mono h ?_)) hm
  rintro d μ1 ⟨k, rfl, r⟩
  refine ⟨_, _, rfl, rfl, _, rfl, ?_⟩
  show if (!decide ((⟨#[k]⟩ : Str).cps.toList < (⟨#[lo]⟩ : Str).cps.toList)) = true then _ else _
  rw [le_sign]
  refine ifd (fun hlo => Ev.str ⟨_, _, rfl, rfl, ?_⟩) (fun hlo => ?_)
  · show R (.bl (!decide ((⟨#[hi]⟩ : Str).cps.toList < (⟨#[k]⟩ : Str).cps.toList))) μ1
    rw [le_sign]
    have e : decide (lo ≤ k ∧ k ≤ hi) = decide (k ≤ hi) := decide_eq_decide.mpr ⟨fun z => z.2, fun z => ⟨hlo, z⟩⟩
    rw [e] at r
    exact r
  · rw [decide_eq_false fun z => hlo z.1] at r
    exact r
end
end Eg

namespace Lw
open PySem PySem.Spec L2
def top (i : Nat) : Stmt := PySem.Challenge.pw_soundlooks_k07_tokens_by_own_cuts.main.body.getD i (.Pass ⟨0, 0, 0, 0⟩)
abbrev cLookError : Stmt := top 6
abbrev cInvalidText : Stmt := top 7
abbrev sInvalidText_init : Stmt := inClass cInvalidText 0
abbrev NInvalidText_init : List Str := ["self", "line", "column"]
theorem scInvalidText_init : FnScope NInvalidText_init ["self", "line", "column"] (defScope sInvalidText_init) := ⟨rfl, rfl, rfl, by decide +kernel, rfl, by decide +kernel, by decide +kernel⟩
def dInvalidText_init : He.DefD := ⟨("InvalidText", some "__init__"), "__init__", "InvalidText.__init__", defArgs sInvalidText_init, defBody sInvalidText_init, defScope sInvalidText_init, [], []⟩
abbrev scut : Stmt := top 11
abbrev Ncut : List Str := ["text", "found", "line", "row", "at", "behind", "is_whole_token"]
theorem sccut : FnScope Ncut ["text"] (defScope scut) := ⟨rfl, rfl, rfl, by decide +kernel, rfl, by decide +kernel, by decide +kernel⟩
def dcut : He.DefD := ⟨("cut", none), "cut", "cut", defArgs scut, defBody scut, defScope scut, [], []⟩
abbrev stoken_from : Stmt := top 12
abbrev Ntoken_from : List Str := ["row", "at"]
theorem sctoken_from : FnScope Ntoken_from ["row", "at"] (defScope stoken_from) := ⟨rfl, rfl, rfl, by decide +kernel, rfl, by decide +kernel, by decide +kernel⟩
def dtoken_from : He.DefD := ⟨("token_from", none), "token_from", "token_from", defArgs stoken_from, defBody stoken_from, defScope stoken_from, [], []⟩
abbrev scut_token : Stmt := top 13
abbrev Ncut_token : List Str := ["row", "at"]
theorem sccut_token : FnScope Ncut_token ["row", "at"] (defScope scut_token) := ⟨rfl, rfl, rfl, by decide +kernel, rfl, by decide +kernel, by decide +kernel⟩
def dcut_token : He.DefD := ⟨("cut_token", none), "cut_token", "cut_token", defArgs scut_token, defBody scut_token, defScope scut_token, [], []⟩
abbrev scut_run : Stmt := top 14
abbrev Ncut_run : List Str := ["row", "at", "signs", "most", "behind", "is_broken_off"]
theorem sccut_run : FnScope Ncut_run ["row", "at", "signs", "most"] (defScope scut_run) := ⟨rfl, rfl, rfl, by decide +kernel, rfl, by decide +kernel, by decide +kernel⟩
def dcut_run : He.DefD := ⟨("cut_run", none), "cut_run", "cut_run", defArgs scut_run, defBody scut_run, defScope scut_run, [], []⟩
abbrev stokens : Stmt := top 16
abbrev Ntokens : List Str := ["text", "found", "bad"]
theorem sctokens : FnScope Ntokens ["text"] (defScope stokens) := ⟨rfl, rfl, rfl, by decide +kernel, rfl, by decide +kernel, by decide +kernel⟩
def dtokens : He.DefD := ⟨("tokens", none), "tokens", "tokens", defArgs stokens, defBody stokens, defScope stokens, [], []⟩
abbrev srefuse_no_text : Stmt := top 17
abbrev Nrefuse_no_text : List Str := ["text"]
theorem screfuse_no_text : FnScope Nrefuse_no_text ["text"] (defScope srefuse_no_text) := ⟨rfl, rfl, rfl, by decide +kernel, rfl, by decide +kernel, by decide +kernel⟩
def drefuse_no_text : He.DefD := ⟨("refuse_no_text", none), "refuse_no_text", "refuse_no_text", defArgs srefuse_no_text, defBody srefuse_no_text, defScope srefuse_no_text, [], []⟩
abbrev sl_well : Stmt := top 19
abbrev Nl_well : List Str := ["_law_script", "_law_turn", "_law_mixed_here", "_law_cell", "_law_own"]
theorem scl_well : FnScope Nl_well ["_law_script", "_law_turn"] (defScope sl_well) := ⟨rfl, rfl, rfl, by decide +kernel, rfl, by decide +kernel, by decide +kernel⟩
def dl_well : He.DefD := ⟨("_law_well", none), "_law_well", "_law_well", defArgs sl_well, defBody sl_well, defScope sl_well, [], []⟩
abbrev sl_draw : Stmt := top 20
abbrev Nl_draw : List Str := ["_law_well_here", "_law_many", "_law_figure", "_law_seed"]
theorem scl_draw : FnScope Nl_draw ["_law_well_here", "_law_many"] (defScope sl_draw) := ⟨rfl, rfl, rfl, by decide +kernel, rfl, by decide +kernel, by decide +kernel⟩
def dl_draw : He.DefD := ⟨("_law_draw", none), "_law_draw", "_law_draw", defArgs sl_draw, defBody sl_draw, defScope sl_draw, [], []⟩
abbrev sl_pick : Stmt := top 21
abbrev Nl_pick : List Str := ["_law_well_here", "_law_some"]
theorem scl_pick : FnScope Nl_pick ["_law_well_here", "_law_some"] (defScope sl_pick) := ⟨rfl, rfl, rfl, by decide +kernel, rfl, by decide +kernel, by decide +kernel⟩
def dl_pick : He.DefD := ⟨("_law_pick", none), "_law_pick", "_law_pick", defArgs sl_pick, defBody sl_pick, defScope sl_pick, [], []⟩
abbrev sl_long : Stmt := top 22
abbrev Nl_long : List Str := ["_law_said", "_law_spot", "_law_kind", "_law_far", "_law_sign"]
theorem scl_long : FnScope Nl_long ["_law_said", "_law_spot"] (defScope sl_long) := ⟨rfl, rfl, rfl, by decide +kernel, rfl, by decide +kernel, by decide +kernel⟩
def dl_long : He.DefD := ⟨("_law_long", none), "_law_long", "_law_long", defArgs sl_long, defBody sl_long, defScope sl_long, [], []⟩
abbrev sl_cut : Stmt := top 23
abbrev Nl_cut : List Str := ["_law_said", "_law_made", "_law_spot", "_law_row", "_law_lead", "_law_turn", "_law_stop", "_law_far", "_law_bad"]
theorem scl_cut : FnScope Nl_cut ["_law_said"] (defScope sl_cut) := ⟨rfl, rfl, rfl, by decide +kernel, rfl, by decide +kernel, by decide +kernel⟩
def dl_cut : He.DefD := ⟨("_law_cut", none), "_law_cut", "_law_cut", defArgs sl_cut, defBody sl_cut, defScope sl_cut, [], []⟩
abbrev sl_piece : Stmt := top 24
abbrev Nl_piece : List Str := ["_law_well_here", "_law_branch"]
theorem scl_piece : FnScope Nl_piece ["_law_well_here"] (defScope sl_piece) := ⟨rfl, rfl, rfl, by decide +kernel, rfl, by decide +kernel, by decide +kernel⟩
def dl_piece : He.DefD := ⟨("_law_piece", none), "_law_piece", "_law_piece", defArgs sl_piece, defBody sl_piece, defScope sl_piece, [], []⟩
abbrev sl_told : Stmt := top 25
abbrev Nl_told : List Str := ["_law_said", "e"]
theorem scl_told : FnScope Nl_told ["_law_said"] (defScope sl_told) := ⟨rfl, rfl, rfl, by decide +kernel, rfl, by decide +kernel, by decide +kernel⟩
def dl_told : He.DefD := ⟨("_law_told", none), "_law_told", "_law_told", defArgs sl_told, defBody sl_told, defScope sl_told, [], []⟩
abbrev sl_due : Stmt := top 26
abbrev Nl_due : List Str := ["_law_said", "_law_tiles", "_law_bad", "_law_each"]
theorem scl_due : FnScope Nl_due ["_law_said"] (defScope sl_due) := ⟨rfl, rfl, rfl, by decide +kernel, rfl, by decide +kernel, by decide +kernel⟩
def dl_due : He.DefD := ⟨("_law_due", none), "_law_due", "_law_due", defArgs sl_due, defBody sl_due, defScope sl_due, [], []⟩
abbrev sl_mixed : Stmt := top 27
abbrev Nl_mixed : List Str := ["_law_well_here", "_law_made", "_law_gap", "_law_turn"]
theorem scl_mixed : FnScope Nl_mixed ["_law_well_here"] (defScope sl_mixed) := ⟨rfl, rfl, rfl, by decide +kernel, rfl, by decide +kernel, by decide +kernel⟩
def dl_mixed : He.DefD := ⟨("_law_mixed", none), "_law_mixed", "_law_mixed", defArgs sl_mixed, defBody sl_mixed, defScope sl_mixed, [], []⟩
abbrev sl_right : Stmt := top 28
abbrev Nl_right : List Str := ["_law_well_here", "_law_texts", "_law_dues", "_law_each", "_law_due_here"]
theorem scl_right : FnScope Nl_right ["_law_well_here"] (defScope sl_right) := ⟨rfl, rfl, rfl, by decide +kernel, rfl, by decide +kernel, by decide +kernel⟩
def dl_right : He.DefD := ⟨("_law_right", none), "_law_right", "_law_right", defArgs sl_right, defBody sl_right, defScope sl_right, [], []⟩
abbrev sl_law : Stmt := top 29
abbrev Nl_law : List Str := ["_law_script", "_law_turn"]
theorem scl_law : FnScope Nl_law ["_law_script"] (defScope sl_law) := ⟨rfl, rfl, rfl, by decide +kernel, rfl, by decide +kernel, by decide +kernel⟩
def dl_law : He.DefD := ⟨("law", none), "law", "law", defArgs sl_law, defBody sl_law, defScope sl_law, [], []⟩
def fnL0 : List He.DefD := [dInvalidText_init, dcut, dtoken_from, dcut_token, dcut_run, dtokens, drefuse_no_text, dl_well, dl_draw, dl_pick, dl_long, dl_cut, dl_piece, dl_told, dl_due, dl_mixed, dl_right, dl_law]
def fnL : List He.DefD := fnL0
def faL0 : List He.Fa := [.glo "LookError", .glo "InvalidText", .glo "cut", .glo "token_from", .glo "cut_token", .glo "cut_run", .glo "tokens", .glo "refuse_no_text", .glo "_law_well", .glo "_law_draw", .glo "_law_pick", .glo "_law_long", .glo "_law_cut", .glo "_law_piece", .glo "_law_told", .glo "_law_due", .glo "_law_mixed", .glo "_law_right", .glo "law", .free "ValueError", .free "abs", .free "all", .free "divmod", .free "enumerate", .free "int", .free "isinstance", .free "len", .free "max", .free "min", .free "range"]
def faL1 : List He.Fa := [.free "repr", .free "str", .free "tuple", .free "zip"]
def faX : List He.Fa := [.str "LETTERS" "abcdefghijklmnopqrstuvwxyz", .str "FIGURES" "0123456789", .str "LETTERS_AND_FIGURES" "abcdefghijklmnopqrstuvwxyz0123456789", .str "SHORT_SIGNS" "(){}[],;=<+-*", .int "MOST_SIGNS_OF_NAME" 12, .int "MOST_FIGURES" 40, .glo "LONG_SIGNS"]
def faL : List He.Fa := faX ++ (faL0 ++ faL1)
def looseL0 : List Str := ["LookError", "InvalidText", "cut", "token_from", "cut_token", "cut_run", "tokens", "refuse_no_text", "_law_well", "_law_draw", "_law_pick", "_law_long", "_law_cut", "_law_piece", "_law_told", "_law_due", "_law_mixed", "_law_right", "LETTERS", "FIGURES", "LETTERS_AND_FIGURES", "MOST_SIGNS_OF_NAME", "MOST_FIGURES", "LONG_SIGNS", "SHORT_SIGNS"]
def looseL : List Str := looseL0
def lawAt : Nat := 29
def oexB (K : PySem.W.Frag) (C : Addr) : Bool := (match K.lookup C with
  | some ⟨.type "type", _, .cls cd, sl⟩ => (match cd.mro, sl.toList with
    | .ref C' :: bm, [_, _, _, _, some (.builtin n), _] => decide (C' = C) && (decide (n = "ValueError.__new__") && (!cd.hasDel && (cd.hasDict && PySem.HandSPX.refsVE bm)))
    | _, _ => false)
  | _ => false) && (decide (PySem.W.findIn K (.ref C) "__setattr__" = some (some (.builtin "object.__setattr__"))) && (decide (PySem.W.subIn K (.ref C) (.type "BaseException") = some true) &&
    (decide (PySem.W.typeIn K (.ref C) = some (.type "type")) && PySem.W.keepIn K (.ref C))))
def xcB (K : PySem.W.Frag) (C : Addr) : Bool := (PySem.W.clsIn K C).isSome && (decide (PySem.W.findIn K (.ref C) "__getattribute__" = some (some (.builtin "BaseException.__getattribute__"))) &&
  (decide (PySem.W.findIn K (.ref C) "__getattr__" = some none) && (decide (PySem.W.subIn K (.ref C) (.type "BaseException") = some true) && (PySem.W.hasDictIn K C &&
  (decide (PySem.W.findIn K (.ref C) "__class__" = some (some (.builtin "object.__class__"))) && (decide (PySem.W.specialIn K (.builtin "object.__class__") "__get__" = some (some (.builtin "getset_descriptor.__get__"))) &&
  (decide (PySem.W.takesIn K (.builtin "object.__class__") = some true) && decide (PySem.W.mroIn K C (.type "object") = some true))))))))
def noB (K : PySem.W.Frag) (C : Addr) (f : Str) : Bool := decide (PySem.W.findIn K (.ref C) f = some none)
def iniB (K : PySem.W.Frag) (C : Addr) : Bool := decide (PySem.W.findIn K (.ref C) "__init__" = some (some (.ref (He.ma K C "__init__")))) && decide (PySem.W.typeIn K (.ref (He.ma K C "__init__")) = some (.type "function"))
def tupB (K : PySem.W.Frag) (x : Str) (zs : List Str) : Bool := match K.lookup (He.ga K x) with
  | some ⟨.type "tuple", _, .seq its _, _⟩ => decide (its.toList.map (fun v => match v with | .str z _ => some z | _ => none) = zs.map some)
  | _ => false
abbrev cT (K : PySem.W.Frag) : Addr := He.ga K "InvalidText"
def exB (K : PySem.W.Frag) : Bool := oexB K (cT K) && (iniB K (cT K) && (noB K (cT K) "line" && (noB K (cT K) "column" && (xfB K (cT K) && (decide (PySem.W.exmOne K (.ref (cT K)) (.ref (cT K)) = some true) && tupB K "LONG_SIGNS" ["==", "!=", "<="])))))
abbrev R : PySem.W.OpenRow := PySem.W.OpenLaw.row PySem.Challenge.rw_soundlooks_k07_tokens_by_own_cuts
abbrev hk : PySem.W.Hook := He.hookX 5 faL fnL [] [] exB
def ob (s : PySem.W.SharedT) : He.AlX := He.obsX 5 faL fnL [] [] exB (HandSHeadRun.getT s)
theorem ob_eq (s : PySem.W.SharedT) : ob s = hk.obs s.abs := He.obsX_eq (HandSHeadRun.getT_eq s)
theorem run (w : World) : HandSHeadRun.RunEq R (PySem.W.view R.prog [lawAt]) hk ob 60000 looseL w := by
  intro os
  kernel_rfl
end Lw

namespace Lw
open PySem PySem.Spec L2
/-- what the top has left, by names -/
structure Fx (K : PySem.W.Frag) (mg : Str → Option Value) : Prop where
  glo : ∀ (i : Nat) {x : Str}, faL[i]? = some (.glo x) → mg x = some (.ref (He.ga K x))
  free : ∀ (i : Nat) {x : Str}, faL[i]? = some (.free x) → mg x = none
  fn : ∀ (i : Nat) {d : He.DefD}, fnL[i]? = some d → ∃ fd, FunD K d.name d.qual d.params d.body d.scope (d.dvs K) (d.kws K) (He.fAd K d.at_) fd
  str : ∀ (i : Nat) {x z : Str}, faL[i]? = some (.str x z) → ∃ t, mg x = some (.str z t)
  int : ∀ (i : Nat) {x : Str} {z : Int}, faL[i]? = some (.int x z) → ∃ t, mg x = some (.int z t)
  ex : exB K = true
theorem fx_of {K : PySem.W.Frag} {h : Heap} {mg : Str → Option Value} {w : World} (X : K.In h) (G : h.Ns mainGlobals mg) (c : He.SaysX faL fnL [] [] exB w h K) : Fx K mg where
  glo := fun i {x} e => He.glo_ok X G (c.t.d.fact i e)
  free := fun i {x} e => He.free_ok X G (c.t.d.fact i e)
  fn := fun i {d} e => c.t.d.def_ i e
  str := fun i {x z} e => He.str_ok X G (c.t.d.fact i e)
  int := fun i {x z} e => He.int_ok X G (c.t.d.fact i e)
  ex := c.more
theorem Fx.g_LookError {K : PySem.W.Frag} {mg : Str → Option Value} (T : Fx K mg) : mg "LookError" = some (.ref (He.ga K "LookError")) := T.glo 7 rfl
theorem Fx.g_InvalidText {K : PySem.W.Frag} {mg : Str → Option Value} (T : Fx K mg) : mg "InvalidText" = some (.ref (He.ga K "InvalidText")) := T.glo 8 rfl
theorem Fx.g_cut {K : PySem.W.Frag} {mg : Str → Option Value} (T : Fx K mg) : mg "cut" = some (.ref (He.ga K "cut")) := T.glo 9 rfl
theorem Fx.g_token_from {K : PySem.W.Frag} {mg : Str → Option Value} (T : Fx K mg) : mg "token_from" = some (.ref (He.ga K "token_from")) := T.glo 10 rfl
theorem Fx.g_cut_token {K : PySem.W.Frag} {mg : Str → Option Value} (T : Fx K mg) : mg "cut_token" = some (.ref (He.ga K "cut_token")) := T.glo 11 rfl
theorem Fx.g_cut_run {K : PySem.W.Frag} {mg : Str → Option Value} (T : Fx K mg) : mg "cut_run" = some (.ref (He.ga K "cut_run")) := T.glo 12 rfl
theorem Fx.g_tokens {K : PySem.W.Frag} {mg : Str → Option Value} (T : Fx K mg) : mg "tokens" = some (.ref (He.ga K "tokens")) := T.glo 13 rfl
theorem Fx.g_refuse_no_text {K : PySem.W.Frag} {mg : Str → Option Value} (T : Fx K mg) : mg "refuse_no_text" = some (.ref (He.ga K "refuse_no_text")) := T.glo 14 rfl
theorem Fx.g_l_well {K : PySem.W.Frag} {mg : Str → Option Value} (T : Fx K mg) : mg "_law_well" = some (.ref (He.ga K "_law_well")) := T.glo 15 rfl
theorem Fx.g_l_draw {K : PySem.W.Frag} {mg : Str → Option Value} (T : Fx K mg) : mg "_law_draw" = some (.ref (He.ga K "_law_draw")) := T.glo 16 rfl
theorem Fx.g_l_pick {K : PySem.W.Frag} {mg : Str → Option Value} (T : Fx K mg) : mg "_law_pick" = some (.ref (He.ga K "_law_pick")) := T.glo 17 rfl
theorem Fx.g_l_long {K : PySem.W.Frag} {mg : Str → Option Value} (T : Fx K mg) : mg "_law_long" = some (.ref (He.ga K "_law_long")) := T.glo 18 rfl
theorem Fx.g_l_cut {K : PySem.W.Frag} {mg : Str → Option Value} (T : Fx K mg) : mg "_law_cut" = some (.ref (He.ga K "_law_cut")) := T.glo 19 rfl
theorem Fx.g_l_piece {K : PySem.W.Frag} {mg : Str → Option Value} (T : Fx K mg) : mg "_law_piece" = some (.ref (He.ga K "_law_piece")) := T.glo 20 rfl
theorem Fx.g_l_told {K : PySem.W.Frag} {mg : Str → Option Value} (T : Fx K mg) : mg "_law_told" = some (.ref (He.ga K "_law_told")) := T.glo 21 rfl
theorem Fx.g_l_due {K : PySem.W.Frag} {mg : Str → Option Value} (T : Fx K mg) : mg "_law_due" = some (.ref (He.ga K "_law_due")) := T.glo 22 rfl
theorem Fx.g_l_mixed {K : PySem.W.Frag} {mg : Str → Option Value} (T : Fx K mg) : mg "_law_mixed" = some (.ref (He.ga K "_law_mixed")) := T.glo 23 rfl
theorem Fx.g_l_right {K : PySem.W.Frag} {mg : Str → Option Value} (T : Fx K mg) : mg "_law_right" = some (.ref (He.ga K "_law_right")) := T.glo 24 rfl
theorem Fx.g_l_law {K : PySem.W.Frag} {mg : Str → Option Value} (T : Fx K mg) : mg "law" = some (.ref (He.ga K "law")) := T.glo 25 rfl
theorem Fx.n_ValueError {K : PySem.W.Frag} {mg : Str → Option Value} (T : Fx K mg) : mg "ValueError" = none := T.free 26 rfl
theorem Fx.n_abs {K : PySem.W.Frag} {mg : Str → Option Value} (T : Fx K mg) : mg "abs" = none := T.free 27 rfl
theorem Fx.n_all {K : PySem.W.Frag} {mg : Str → Option Value} (T : Fx K mg) : mg "all" = none := T.free 28 rfl
theorem Fx.n_divmod {K : PySem.W.Frag} {mg : Str → Option Value} (T : Fx K mg) : mg "divmod" = none := T.free 29 rfl
theorem Fx.n_enumerate {K : PySem.W.Frag} {mg : Str → Option Value} (T : Fx K mg) : mg "enumerate" = none := T.free 30 rfl
theorem Fx.n_int {K : PySem.W.Frag} {mg : Str → Option Value} (T : Fx K mg) : mg "int" = none := T.free 31 rfl
theorem Fx.n_isinstance {K : PySem.W.Frag} {mg : Str → Option Value} (T : Fx K mg) : mg "isinstance" = none := T.free 32 rfl
theorem Fx.n_len {K : PySem.W.Frag} {mg : Str → Option Value} (T : Fx K mg) : mg "len" = none := T.free 33 rfl
theorem Fx.n_max {K : PySem.W.Frag} {mg : Str → Option Value} (T : Fx K mg) : mg "max" = none := T.free 34 rfl
theorem Fx.n_min {K : PySem.W.Frag} {mg : Str → Option Value} (T : Fx K mg) : mg "min" = none := T.free 35 rfl
theorem Fx.n_range {K : PySem.W.Frag} {mg : Str → Option Value} (T : Fx K mg) : mg "range" = none := T.free 36 rfl
theorem Fx.n_repr {K : PySem.W.Frag} {mg : Str → Option Value} (T : Fx K mg) : mg "repr" = none := T.free 37 rfl
theorem Fx.n_str {K : PySem.W.Frag} {mg : Str → Option Value} (T : Fx K mg) : mg "str" = none := T.free 38 rfl
theorem Fx.n_tuple {K : PySem.W.Frag} {mg : Str → Option Value} (T : Fx K mg) : mg "tuple" = none := T.free 39 rfl
theorem Fx.n_zip {K : PySem.W.Frag} {mg : Str → Option Value} (T : Fx K mg) : mg "zip" = none := T.free 40 rfl
theorem Fx.d_InvalidText_init {K : PySem.W.Frag} {mg : Str → Option Value} (T : Fx K mg) : ∃ fd, FunD K dInvalidText_init.name dInvalidText_init.qual dInvalidText_init.params dInvalidText_init.body dInvalidText_init.scope (dInvalidText_init.dvs K) (dInvalidText_init.kws K) (He.fAd K dInvalidText_init.at_) fd := T.fn 0 rfl
theorem Fx.d_cut {K : PySem.W.Frag} {mg : Str → Option Value} (T : Fx K mg) : ∃ fd, FunD K dcut.name dcut.qual dcut.params dcut.body dcut.scope (dcut.dvs K) (dcut.kws K) (He.fAd K dcut.at_) fd := T.fn 1 rfl
theorem Fx.d_token_from {K : PySem.W.Frag} {mg : Str → Option Value} (T : Fx K mg) : ∃ fd, FunD K dtoken_from.name dtoken_from.qual dtoken_from.params dtoken_from.body dtoken_from.scope (dtoken_from.dvs K) (dtoken_from.kws K) (He.fAd K dtoken_from.at_) fd := T.fn 2 rfl
theorem Fx.d_cut_token {K : PySem.W.Frag} {mg : Str → Option Value} (T : Fx K mg) : ∃ fd, FunD K dcut_token.name dcut_token.qual dcut_token.params dcut_token.body dcut_token.scope (dcut_token.dvs K) (dcut_token.kws K) (He.fAd K dcut_token.at_) fd := T.fn 3 rfl
theorem Fx.d_cut_run {K : PySem.W.Frag} {mg : Str → Option Value} (T : Fx K mg) : ∃ fd, FunD K dcut_run.name dcut_run.qual dcut_run.params dcut_run.body dcut_run.scope (dcut_run.dvs K) (dcut_run.kws K) (He.fAd K dcut_run.at_) fd := T.fn 4 rfl
theorem Fx.d_tokens {K : PySem.W.Frag} {mg : Str → Option Value} (T : Fx K mg) : ∃ fd, FunD K dtokens.name dtokens.qual dtokens.params dtokens.body dtokens.scope (dtokens.dvs K) (dtokens.kws K) (He.fAd K dtokens.at_) fd := T.fn 5 rfl
theorem Fx.d_refuse_no_text {K : PySem.W.Frag} {mg : Str → Option Value} (T : Fx K mg) : ∃ fd, FunD K drefuse_no_text.name drefuse_no_text.qual drefuse_no_text.params drefuse_no_text.body drefuse_no_text.scope (drefuse_no_text.dvs K) (drefuse_no_text.kws K) (He.fAd K drefuse_no_text.at_) fd := T.fn 6 rfl
theorem Fx.d_l_well {K : PySem.W.Frag} {mg : Str → Option Value} (T : Fx K mg) : ∃ fd, FunD K dl_well.name dl_well.qual dl_well.params dl_well.body dl_well.scope (dl_well.dvs K) (dl_well.kws K) (He.fAd K dl_well.at_) fd := T.fn 7 rfl
theorem Fx.d_l_draw {K : PySem.W.Frag} {mg : Str → Option Value} (T : Fx K mg) : ∃ fd, FunD K dl_draw.name dl_draw.qual dl_draw.params dl_draw.body dl_draw.scope (dl_draw.dvs K) (dl_draw.kws K) (He.fAd K dl_draw.at_) fd := T.fn 8 rfl
theorem Fx.d_l_pick {K : PySem.W.Frag} {mg : Str → Option Value} (T : Fx K mg) : ∃ fd, FunD K dl_pick.name dl_pick.qual dl_pick.params dl_pick.body dl_pick.scope (dl_pick.dvs K) (dl_pick.kws K) (He.fAd K dl_pick.at_) fd := T.fn 9 rfl
theorem Fx.d_l_long {K : PySem.W.Frag} {mg : Str → Option Value} (T : Fx K mg) : ∃ fd, FunD K dl_long.name dl_long.qual dl_long.params dl_long.body dl_long.scope (dl_long.dvs K) (dl_long.kws K) (He.fAd K dl_long.at_) fd := T.fn 10 rfl
theorem Fx.d_l_cut {K : PySem.W.Frag} {mg : Str → Option Value} (T : Fx K mg) : ∃ fd, FunD K dl_cut.name dl_cut.qual dl_cut.params dl_cut.body dl_cut.scope (dl_cut.dvs K) (dl_cut.kws K) (He.fAd K dl_cut.at_) fd := T.fn 11 rfl
theorem Fx.d_l_piece {K : PySem.W.Frag} {mg : Str → Option Value} (T : Fx K mg) : ∃ fd, FunD K dl_piece.name dl_piece.qual dl_piece.params dl_piece.body dl_piece.scope (dl_piece.dvs K) (dl_piece.kws K) (He.fAd K dl_piece.at_) fd := T.fn 12 rfl
theorem Fx.d_l_told {K : PySem.W.Frag} {mg : Str → Option Value} (T : Fx K mg) : ∃ fd, FunD K dl_told.name dl_told.qual dl_told.params dl_told.body dl_told.scope (dl_told.dvs K) (dl_told.kws K) (He.fAd K dl_told.at_) fd := T.fn 13 rfl
theorem Fx.d_l_due {K : PySem.W.Frag} {mg : Str → Option Value} (T : Fx K mg) : ∃ fd, FunD K dl_due.name dl_due.qual dl_due.params dl_due.body dl_due.scope (dl_due.dvs K) (dl_due.kws K) (He.fAd K dl_due.at_) fd := T.fn 14 rfl
theorem Fx.d_l_mixed {K : PySem.W.Frag} {mg : Str → Option Value} (T : Fx K mg) : ∃ fd, FunD K dl_mixed.name dl_mixed.qual dl_mixed.params dl_mixed.body dl_mixed.scope (dl_mixed.dvs K) (dl_mixed.kws K) (He.fAd K dl_mixed.at_) fd := T.fn 15 rfl
theorem Fx.d_l_right {K : PySem.W.Frag} {mg : Str → Option Value} (T : Fx K mg) : ∃ fd, FunD K dl_right.name dl_right.qual dl_right.params dl_right.body dl_right.scope (dl_right.dvs K) (dl_right.kws K) (He.fAd K dl_right.at_) fd := T.fn 16 rfl
theorem Fx.d_l_law {K : PySem.W.Frag} {mg : Str → Option Value} (T : Fx K mg) : ∃ fd, FunD K dl_law.name dl_law.qual dl_law.params dl_law.body dl_law.scope (dl_law.dvs K) (dl_law.kws K) (He.fAd K dl_law.at_) fd := T.fn 17 rfl
theorem Fx.s_LETTERS {K : PySem.W.Frag} {mg : Str → Option Value} (T : Fx K mg) : ∃ t, mg "LETTERS" = some (.str "abcdefghijklmnopqrstuvwxyz" t) := T.str 0 rfl
theorem Fx.s_FIGURES {K : PySem.W.Frag} {mg : Str → Option Value} (T : Fx K mg) : ∃ t, mg "FIGURES" = some (.str "0123456789" t) := T.str 1 rfl
theorem Fx.s_LETTERS_AND_FIGURES {K : PySem.W.Frag} {mg : Str → Option Value} (T : Fx K mg) : ∃ t, mg "LETTERS_AND_FIGURES" = some (.str "abcdefghijklmnopqrstuvwxyz0123456789" t) := T.str 2 rfl
theorem Fx.s_SHORT_SIGNS {K : PySem.W.Frag} {mg : Str → Option Value} (T : Fx K mg) : ∃ t, mg "SHORT_SIGNS" = some (.str "(){}[],;=<+-*" t) := T.str 3 rfl
theorem Fx.i_MOST_SIGNS_OF_NAME {K : PySem.W.Frag} {mg : Str → Option Value} (T : Fx K mg) : ∃ t, mg "MOST_SIGNS_OF_NAME" = some (.int 12 t) := T.int 4 rfl
theorem Fx.i_MOST_FIGURES {K : PySem.W.Frag} {mg : Str → Option Value} (T : Fx K mg) : ∃ t, mg "MOST_FIGURES" = some (.int 40 t) := T.int 5 rfl
theorem Fx.t_LONG_SIGNS {K : PySem.W.Frag} {mg : Str → Option Value} (T : Fx K mg) : mg "LONG_SIGNS" = some (.ref (He.ga K "LONG_SIGNS")) := T.glo 6 rfl
end Lw

namespace Lw
open PySem PySem.Spec L2 Eg
local macro_rules | `(tactic| walk_at "vis") => `(tactic| first | exact Or.inl rfl | exact Or.inr (Or.inl rfl) | exact Or.inr (Or.inr rfl))
local macro_rules | `(tactic| walk_at "loc") => `(tactic| first | exact Or.inl rfl | exact Or.inr rfl)
local macro_rules | `(tactic| walk_at "nm") => `(tactic| first
  | refine Ev.name 0 (by rfl) (by walk_at "vis") (by rfl) ?_
  | refine Ev.name 1 (by rfl) (by walk_at "vis") (by rfl) ?_
  | refine Ev.name 2 (by rfl) (by walk_at "vis") (by rfl) ?_
  | refine Ev.name 3 (by rfl) (by walk_at "vis") (by rfl) ?_
  | refine Ev.name 4 (by rfl) (by walk_at "vis") (by rfl) ?_
  | refine Ev.name 5 (by rfl) (by walk_at "vis") (by rfl) ?_
  | refine Ev.name 6 (by rfl) (by walk_at "vis") (by rfl) ?_
  | refine Ev.name 7 (by rfl) (by walk_at "vis") (by rfl) ?_
  | refine Ev.name 8 (by rfl) (by walk_at "vis") (by rfl) ?_)
local macro_rules | `(tactic| walk_at "st") => `(tactic| first
  | refine St.set 1 (by assumption) (by rfl) (by walk_at "loc") (by walk_at "loc") ?_ rfl
  | refine St.set 2 (by assumption) (by rfl) (by walk_at "loc") (by walk_at "loc") ?_ rfl
  | refine St.set 3 (by assumption) (by rfl) (by walk_at "loc") (by walk_at "loc") ?_ rfl
  | refine St.set 4 (by assumption) (by rfl) (by walk_at "loc") (by walk_at "loc") ?_ rfl
  | refine St.set 5 (by assumption) (by rfl) (by walk_at "loc") (by walk_at "loc") ?_ rfl
  | refine St.set 6 (by assumption) (by rfl) (by walk_at "loc") (by walk_at "loc") ?_ rfl
  | refine St.set 7 (by assumption) (by rfl) (by walk_at "loc") (by walk_at "loc") ?_ rfl
  | refine St.set 8 (by assumption) (by rfl) (by walk_at "loc") (by walk_at "loc") ?_ rfl)
local macro_rules | `(tactic| walk_at "gn") => `(tactic| first
  | refine EvG.name 0 (by assumption) (by rfl) (by walk_at "loc") (by walk_at "loc") ?_
  | refine EvG.name 1 (by assumption) (by rfl) (by walk_at "loc") (by walk_at "loc") ?_
  | refine EvG.name 2 (by assumption) (by rfl) (by walk_at "loc") (by walk_at "loc") ?_
  | refine EvG.name 3 (by assumption) (by rfl) (by walk_at "loc") (by walk_at "loc") ?_
  | refine EvG.name 4 (by assumption) (by rfl) (by walk_at "loc") (by walk_at "loc") ?_
  | refine EvG.name 5 (by assumption) (by rfl) (by walk_at "loc") (by walk_at "loc") ?_
  | refine EvG.name 6 (by assumption) (by rfl) (by walk_at "loc") (by walk_at "loc") ?_
  | refine EvG.name 7 (by assumption) (by rfl) (by walk_at "loc") (by walk_at "loc") ?_
  | refine EvG.name 8 (by assumption) (by rfl) (by walk_at "loc") (by walk_at "loc") ?_)
local macro_rules | `(tactic| walk_at "one") => `(tactic| with_reducible first
  | refine sAdd.mk ?_ | refine sSub.mk ?_ | refine sLt.mk ?_ | refine sLe.mk ?_ | refine sGt.mk ?_ | refine sGe.mk ?_ | refine sEq.int ?_ | refine sNe.int ?_ | refine toT.mk ?_
  | refine Ev.int ?_ | refine Ev.str ?_ | refine Ev.bl ?_ | refine Ev.non ?_
  | refine Ev.sub ?_ | refine Ev.addI ?_ | refine Ev.mul ?_ | refine Ev.mod ?_ | refine Ev.fdiv ?_ | refine Ev.pow ?_ | refine Ev.neg ?_
  | refine Ev.lt ?_ | refine Ev.le ?_ | refine Ev.gt ?_ | refine Ev.ge ?_ | refine Ev.eq ?_ | refine Ev.ne ?_
  | refine Ev.ifE ?_ | refine Ev.tup ?_ | refine EvA.nil ?_ | refine EvA.cons ?_ rfl | refine EvT.not ?_
  | refine EvT.lt ?_ | refine EvT.le ?_ | refine EvT.gt ?_ | refine EvT.ge ?_ | refine EvT.eq ?_ | refine EvT.ne ?_
  | refine EvT.w ?_ | refine EvW.and ?_ | refine EvW.or ?_ | refine EvW.and1 ?_ | refine EvW.or1 ?_
  | refine Sts.cons ?_ | refine Sts.nil ?_ | refine St.ifS ?_ | refine St.ret ?_ | refine St.expr ?_ rfl)
local macro_rules | `(tactic| walk_at "go") => `(tactic| repeat (first | ((with_reducible show Ev _ (.Name _ _) _ _ _); (walk_at "nm")) | walk_at "one" | ((with_reducible show St _ (.Assign [.Name _ _] _ _) _ _ _); (walk_at "st"))))
/-! ### one sign of a text -/
theorem sIx.str {μ : List MO} {z : Str} {i : Int} {c : Nat} {R : Cn} (hz : z.length ≤ sizeLine) (e : atI z.cps.toList i = some c) (r : R (.str ⟨#[c]⟩) μ) : sIx (.str z) (.int i) μ R := .inr ⟨z, i, c, rfl, rfl, hz, e, r⟩
theorem lenS {μ : List MO} {z : Str} {R : Cn} (hz : z.length ≤ sizeLine) (r : R (.int z.length) μ) : sLen [.str z] μ R := by
  refine ⟨_, z.length, rfl, ?_, r⟩
  unfold lenD
  dsimp only
  rw [if_pos hz]
theorem sEq.sign {μ : List MO} {c d : Nat} {R : Cn} (r : R (.bl (decide (c = d))) μ) : sEq (.str ⟨#[c]⟩) (.str ⟨#[d]⟩) μ R := by
  refine ⟨_, _, rfl, rfl, rfl, ?_⟩
  have e : decide (V.str ⟨#[c]⟩ = V.str ⟨#[d]⟩) = decide (c = d) := by
    by_cases h : c = d
    · rw [h]; simp
    · rw [decide_eq_false h, decide_eq_false fun z => h (by simpa using z)]
  rw [e]
  exact r
/-! ### where a token begins -/
def blanks : List Nat → Nat
  | 32 :: r => blanks r + 1
  | _ => 0
def fromAt (z : List Nat) (i : Nat) : Nat := if z[i + blanks (z.drop i)]? = some 35 then z.length else i + blanks (z.drop i)
def C_from : Ctr := fun ds μ R => ∃ (z : Str) (i : Nat), ds = [.str z, .int i] ∧ z.length ≤ 100000 ∧ i ≤ z.length ∧ R (.int (fromAt z.cps.toList i)) μ
section
variable {P : Program} {w : World} {K : PySem.W.Frag} {mg : Str → Option Value} {base : Heap}
theorem ok_from (T : Fx K mg) : Fn P w K mg base "token_from" 1 C_from := by
  obtain ⟨fd, F⟩ := T.d_token_from
  refine Fn.mk (N := Ntoken_from) (ps := ["row", "at"]) F sctoken_from T.g_token_from (fun _ _ _ _ _ _ us hl => match us, hl with | [_, _], _ => rfl) ?_ ?_
  · rintro ds μ R ⟨z, i, rfl, _⟩
    rfl
  rintro cd A outer s H hg hr hnd ds μ R ⟨z, i, rfl, hz, hi, q⟩
  have hz' : z.length ≤ sizeLine := by rw [sizeLine_eq]; omega
  have hlen : z.length = z.cps.toList.length := (Array.length_toList).symm
  refine Sts.cons (St.while_ PassesOwn.never (fun n ρ' μ' => ∃ k : Nat, n = z.length - (i + k) ∧ i + k ≤ z.length ∧ ρ' = [some (.str z), some (.int ((i + k : Nat) : Int))] ∧ μ' = μ ∧ blanks (z.cps.toList.drop i) = k + blanks (z.cps.toList.drop (i + k))) ⟨_, 0, rfl, by omega, rfl, rfl, by simp⟩ ?_)
  rintro n ρ' μ' ⟨k, rfl, hk, rfl, rfl, hb⟩
  refine EvT.w (EvW.and (EvT.lt ?_))
  walk_at "go"
  refine Ev.len rfl T.n_len ?_
  walk_at "go"
  refine lenS hz' ?_
  walk_at "go"
  have tail : ∀ ρ'' : RO, ρ'' = [some (.str z), some (.int ((i + k : Nat) : Int))] → (¬ (i + k < z.length ∧ z.cps.toList[i + k]? = some 32)) →
      Sts (bx P w K mg base Ntoken_from "token_from" dtoken_from.scope (He.fAd K dtoken_from.at_) cd A outer s H) (dtoken_from.body.drop 1) ρ'' μ' (fin μ'.length R) := by
    rintro ρ'' rfl hno
    have b0 : blanks (z.cps.toList.drop (i + k)) = 0 := by
      by_cases hlt : i + k < z.length
      · have hlt' : i + k < z.cps.toList.length := by omega
        rw [List.drop_eq_getElem_cons hlt']
        have ne : z.cps.toList[i + k] ≠ 32 := fun e => hno ⟨hlt, by rw [List.getElem?_eq_getElem hlt', e]⟩
        unfold blanks
        split
        · rename_i h
          injection h with h1 h2
          exact absurd h1 ne
        · rfl
      · rw [List.drop_eq_nil_of_le (by omega)]
        rfl
    have eb : blanks (z.cps.toList.drop i) = k := by omega
    have ef : fromAt z.cps.toList i = if z.cps.toList[i + k]? = some 35 then z.cps.toList.length else i + k := by
      unfold fromAt
      rw [eb]
    refine Sts.cons (St.ifS (EvT.w (EvW.and (EvT.lt ?_))))
    walk_at "go"
    refine Ev.len rfl T.n_len ?_
    walk_at "go"
    refine lenS hz' ?_
    walk_at "go"
    refine ifd (fun hlt => EvW.and1 (EvT.eq (Ev.at ?_))) (fun hlt => ?_)
    · have hlt' : i + k < z.cps.toList.length := by omega
      walk_at "go"
      refine sIx.str hz' (atI_of (d := z.cps.toList[i + k]) (by omega) (by rw [Int.toNat_natCast]; exact List.getElem?_eq_getElem hlt')) ?_
      walk_at "go"
      refine sEq.sign (d := 35) ?_
      walk_at "go"
      refine ifd (fun e => ?_) (fun e => ?_)
      · refine Sts.cons (St.ret (Ev.len rfl T.n_len ?_))
        walk_at "go"
        refine lenS hz' (Or.inl ?_)
        rw [List.getElem?_eq_getElem hlt', if_pos (by rw [e])] at ef
        rw [ef, ← hlen] at q
        exact q
      · refine Sts.nil (Sts.cons (St.ret ?_))
        walk_at "nm"
        rw [List.getElem?_eq_getElem hlt', if_neg (fun z => e (Option.some.inj z))] at ef
        rw [ef] at q
        exact Or.inl q
    · refine Sts.nil (Sts.cons (St.ret ?_))
      walk_at "nm"
      rw [List.getElem?_eq_none (by omega), if_neg (by simp)] at ef
      rw [ef] at q
      exact Or.inl q
  refine ifd (fun hlt => EvW.and1 (EvT.eq (Ev.at ?_))) (fun hlt => tail _ rfl (by omega))
  have hlt' : i + k < z.cps.toList.length := by omega
  walk_at "go"
  refine sIx.str hz' (atI_of (d := z.cps.toList[i + k]) (by omega) (by rw [Int.toNat_natCast]; exact List.getElem?_eq_getElem hlt')) ?_
  walk_at "go"
  refine sEq.sign (d := 32) ?_
  walk_at "go"
  refine ifd (fun e => ?_) (fun e => tail _ rfl fun z' => ?_)
  · refine Sts.cons (St.augAdd 1 ((i + k : Nat) : Int) (by assumption) (by rfl) (by walk_at "loc") rfl (by walk_at "loc") ?_)
    walk_at "go"
    refine ⟨1, rfl, Sts.nil ⟨z.length - (i + (k + 1)), by omega, k + 1, rfl, by omega, by rfl, rfl, ?_⟩⟩
    rw [hb, List.drop_eq_getElem_cons hlt', e]
    show k + (blanks (z.cps.toList.drop (i + k + 1)) + 1) = k + 1 + blanks (z.cps.toList.drop (i + (k + 1)))
    rw [Nat.add_assoc i k 1]
    omega
  · rw [List.getElem?_eq_getElem hlt'] at z'
    exact e (Option.some.inj z'.2)
end
end Lw

namespace Lw
open PySem PySem.Spec L2 Eg
local macro_rules | `(tactic| walk_at "vis") => `(tactic| first | exact Or.inl rfl | exact Or.inr (Or.inl rfl) | exact Or.inr (Or.inr rfl))
local macro_rules | `(tactic| walk_at "loc") => `(tactic| first | exact Or.inl rfl | exact Or.inr rfl)
local macro_rules | `(tactic| walk_at "nm") => `(tactic| first
  | refine Ev.name 0 (by rfl) (by walk_at "vis") (by rfl) ?_
  | refine Ev.name 1 (by rfl) (by walk_at "vis") (by rfl) ?_
  | refine Ev.name 2 (by rfl) (by walk_at "vis") (by rfl) ?_
  | refine Ev.name 3 (by rfl) (by walk_at "vis") (by rfl) ?_
  | refine Ev.name 4 (by rfl) (by walk_at "vis") (by rfl) ?_
  | refine Ev.name 5 (by rfl) (by walk_at "vis") (by rfl) ?_
  | refine Ev.name 6 (by rfl) (by walk_at "vis") (by rfl) ?_
  | refine Ev.name 7 (by rfl) (by walk_at "vis") (by rfl) ?_
  | refine Ev.name 8 (by rfl) (by walk_at "vis") (by rfl) ?_)
local macro_rules | `(tactic| walk_at "st") => `(tactic| first
  | refine St.set 1 (by assumption) (by rfl) (by walk_at "loc") (by walk_at "loc") ?_ rfl
  | refine St.set 2 (by assumption) (by rfl) (by walk_at "loc") (by walk_at "loc") ?_ rfl
  | refine St.set 3 (by assumption) (by rfl) (by walk_at "loc") (by walk_at "loc") ?_ rfl
  | refine St.set 4 (by assumption) (by rfl) (by walk_at "loc") (by walk_at "loc") ?_ rfl
  | refine St.set 5 (by assumption) (by rfl) (by walk_at "loc") (by walk_at "loc") ?_ rfl
  | refine St.set 6 (by assumption) (by rfl) (by walk_at "loc") (by walk_at "loc") ?_ rfl
  | refine St.set 7 (by assumption) (by rfl) (by walk_at "loc") (by walk_at "loc") ?_ rfl
  | refine St.set 8 (by assumption) (by rfl) (by walk_at "loc") (by walk_at "loc") ?_ rfl)
local macro_rules | `(tactic| walk_at "gn") => `(tactic| first
  | refine EvG.name 0 (by assumption) (by rfl) (by walk_at "loc") (by walk_at "loc") ?_
  | refine EvG.name 1 (by assumption) (by rfl) (by walk_at "loc") (by walk_at "loc") ?_
  | refine EvG.name 2 (by assumption) (by rfl) (by walk_at "loc") (by walk_at "loc") ?_
  | refine EvG.name 3 (by assumption) (by rfl) (by walk_at "loc") (by walk_at "loc") ?_
  | refine EvG.name 4 (by assumption) (by rfl) (by walk_at "loc") (by walk_at "loc") ?_
  | refine EvG.name 5 (by assumption) (by rfl) (by walk_at "loc") (by walk_at "loc") ?_
  | refine EvG.name 6 (by assumption) (by rfl) (by walk_at "loc") (by walk_at "loc") ?_
  | refine EvG.name 7 (by assumption) (by rfl) (by walk_at "loc") (by walk_at "loc") ?_
  | refine EvG.name 8 (by assumption) (by rfl) (by walk_at "loc") (by walk_at "loc") ?_)
local macro_rules | `(tactic| walk_at "one") => `(tactic| with_reducible first
  | refine sAdd.mk ?_ | refine sSub.mk ?_ | refine sLt.mk ?_ | refine sLe.mk ?_ | refine sGt.mk ?_ | refine sGe.mk ?_ | refine sEq.int ?_ | refine sNe.int ?_ | refine toT.mk ?_
  | refine Ev.int ?_ | refine Ev.str ?_ | refine Ev.bl ?_ | refine Ev.non ?_
  | refine Ev.sub ?_ | refine Ev.addI ?_ | refine Ev.mul ?_ | refine Ev.mod ?_ | refine Ev.fdiv ?_ | refine Ev.pow ?_ | refine Ev.neg ?_
  | refine Ev.lt ?_ | refine Ev.le ?_ | refine Ev.gt ?_ | refine Ev.ge ?_ | refine Ev.eq ?_ | refine Ev.ne ?_
  | refine Ev.ifE ?_ | refine Ev.tup ?_ | refine EvA.nil ?_ | refine EvA.cons ?_ rfl | refine EvT.not ?_
  | refine EvT.lt ?_ | refine EvT.le ?_ | refine EvT.gt ?_ | refine EvT.ge ?_ | refine EvT.eq ?_ | refine EvT.ne ?_
  | refine EvT.w ?_ | refine EvW.and ?_ | refine EvW.or ?_ | refine EvW.and1 ?_ | refine EvW.or1 ?_
  | refine Sts.cons ?_ | refine Sts.nil ?_ | refine St.ifS ?_ | refine St.ret ?_ | refine St.expr ?_ rfl)
local macro_rules | `(tactic| walk_at "go") => `(tactic| repeat (first | ((with_reducible show Ev _ (.Name _ _) _ _ _); (walk_at "nm")) | walk_at "one" | ((with_reducible show St _ (.Assign [.Name _ _] _ _) _ _ _); (walk_at "st"))))
/-! ### a run of signs -/
def sgL : List Nat := (Str.ofString "abcdefghijklmnopqrstuvwxyz").cps.toList
def sgF : List Nat := (Str.ofString "0123456789").cps.toList
def sgLF : List Nat := (Str.ofString "abcdefghijklmnopqrstuvwxyz0123456789").cps.toList
def runOf (S : List Nat) : Nat → List Nat → Nat
  | n + 1, c :: r => if c ∈ S then runOf S n r + 1 else 0
  | _, _ => 0
def brk (z : List Nat) (i : Nat) : Bool := match z[i]? with
  | some c => decide (c ∈ sgLF)
  | none => false
def C_run : Ctr := fun ds μ R => ∃ (z S : Str) (i m : Nat), ds = [.str z, .int i, .str S, .int m] ∧ z.length ≤ 100000 ∧ i ≤ z.length ∧ m ≤ 1000 ∧
  R (.tup [.int (i + runOf S.cps.toList m (z.cps.toList.drop i) : Nat), .bl (!brk z.cps.toList (i + runOf S.cps.toList m (z.cps.toList.drop i)))]) μ
section
variable {P : Program} {w : World} {K : PySem.W.Frag} {mg : Str → Option Value} {base : Heap}
theorem ok_run (T : Fx K mg) : Fn P w K mg base "cut_run" 1 C_run := by
  obtain ⟨fd, F⟩ := T.d_cut_run
  obtain ⟨tk, hLF⟩ := T.s_LETTERS_AND_FIGURES
  refine Fn.mk (N := Ncut_run) (ps := ["row", "at", "signs", "most"]) F sccut_run T.g_cut_run (fun _ _ _ _ _ _ us hl => match us, hl with | [_, _, _, _], _ => rfl) ?_ ?_
  · rintro ds μ R ⟨z, S, i, m, rfl, _⟩
    rfl
  rintro cd A outer s H hg hr hnd ds μ R ⟨z, S, i, m, rfl, hz, hi, hm, q⟩
  have hz' : z.length ≤ sizeLine := by rw [sizeLine_eq]; omega
  have hlen : z.length = z.cps.toList.length := (Array.length_toList).symm
  generalize hN : runOf S.cps.toList m (z.cps.toList.drop i) = N at q
  refine Sts.cons ?_
  walk_at "go"
  have tail : (N = runOf S.cps.toList m (z.cps.toList.drop i)) → Sts (bx P w K mg base Ncut_run "cut_run" dcut_run.scope (He.fAd K dcut_run.at_) cd A outer s H) (dcut_run.body.drop 2) [some (.str z), some (.int i), some (.str S), some (.int m), some (.int ((i + N : Nat) : Int)), none] μ (fin μ.length R) := by
    intro _
    refine Sts.cons (St.set 5 (by assumption) (by rfl) (by walk_at "loc") (by walk_at "loc") (Ev.mono (R := fun d μ1 => d = .bl (brk z.cps.toList (i + N)) ∧ μ1 = μ) (Ev.and (Ev.lt ?_)) ?_) rfl)
    · walk_at "go"
      refine Ev.len rfl T.n_len ?_
      walk_at "go"
      refine lenS hz' ?_
      walk_at "go"
      refine ⟨_, rfl, ifd (fun hlt => Ev.one (Ev.inSign (Ev.at ?_))) (fun hlt => ?_)⟩
      · have hlt' : i + N < z.cps.toList.length := by omega
        walk_at "go"
        refine sIx.str hz' (atI_of (d := z.cps.toList[i + N]) (by omega) (by rw [Int.toNat_natCast]; exact List.getElem?_eq_getElem hlt')) ?_
        refine Ev.glob (v := .str (Str.ofString "abcdefghijklmnopqrstuvwxyz0123456789")) rfl hLF ⟨tk, rfl⟩ (fun _ _ _ => .str) ?_
        refine ⟨_, _, rfl, rfl, ?_, rfl⟩
        unfold brk
        rw [List.getElem?_eq_getElem hlt']
        rfl
      · refine ⟨?_, rfl⟩
        unfold brk
        rw [List.getElem?_eq_none (by omega)]
    · rintro d μ1 ⟨rfl, rfl⟩
      refine Sts.cons (St.ret (Ev.tup ?_))
      walk_at "go"
      refine Ev.not ?_
      walk_at "go"
      exact ⟨_, rfl, EvA.nil ⟨by show 2 ≤ sizeLine; decide, Or.inl q⟩⟩
  refine Sts.cons (St.while_ PassesOwn.never (fun n ρ' μ' => ∃ k : Nat, n = z.length - (i + k) ∧ i + k ≤ z.length ∧ k ≤ m ∧ ρ' = [some (.str z), some (.int i), some (.str S), some (.int m), some (.int ((i + k : Nat) : Int)), none] ∧ μ' = μ ∧ N = k + runOf S.cps.toList (m - k) (z.cps.toList.drop (i + k))) ⟨_, 0, rfl, by omega, by omega, rfl, rfl, by simp [hN]⟩ ?_)
  rintro n ρ' μ' ⟨k, rfl, hk, hkm, rfl, rfl, hb⟩
  have stop : runOf S.cps.toList (m - k) (z.cps.toList.drop (i + k)) = 0 → Sts (bx P w K mg base Ncut_run "cut_run" dcut_run.scope (He.fAd K dcut_run.at_) cd A outer s H) (dcut_run.body.drop 2) [some (.str z), some (.int i), some (.str S), some (.int m), some (.int ((i + k : Nat) : Int)), none] μ' (fin μ'.length R) := by
    intro h0
    have e : N = k := by omega
    have t := tail hN.symm
    rw [e] at t
    exact t
  refine EvT.w (EvW.and (EvT.lt ?_))
  walk_at "go"
  refine Ev.len rfl T.n_len ?_
  walk_at "go"
  refine lenS hz' ?_
  walk_at "go"
  refine ifd (fun hlt => EvW.and (EvT.lt ?_)) (fun hlt => stop ?_)
  · walk_at "go"
    refine ifd (fun hlt2 => EvW.and1 (EvT.inSign (Ev.at ?_))) (fun hlt2 => stop ?_)
    · have hlt' : i + k < z.cps.toList.length := by omega
      walk_at "go"
      refine sIx.str hz' (atI_of (d := z.cps.toList[i + k]) (by omega) (by rw [Int.toNat_natCast]; exact List.getElem?_eq_getElem hlt')) ?_
      walk_at "go"
      have em : m - k = (m - (k + 1)) + 1 := by omega
      rw [List.drop_eq_getElem_cons hlt', em] at hb stop
      refine ⟨_, S, rfl, rfl, _, rfl, ifd (fun hin => ?_) (fun hin => stop ?_)⟩
      · refine Sts.cons (St.augAdd 4 ((i + k : Nat) : Int) (by assumption) (by rfl) (by walk_at "loc") rfl (by walk_at "loc") ?_)
        walk_at "go"
        refine ⟨1, rfl, Sts.nil ⟨z.length - (i + (k + 1)), by omega, k + 1, rfl, by omega, by omega, by rfl, rfl, ?_⟩⟩
        rw [hb]
        show k + (if z.cps.toList[i + k] ∈ S.cps.toList then runOf S.cps.toList (m - (k + 1)) (z.cps.toList.drop (i + k + 1)) + 1 else 0) = k + 1 + runOf S.cps.toList (m - (k + 1)) (z.cps.toList.drop (i + (k + 1)))
        rw [if_pos hin, Nat.add_assoc i k 1]
        omega
      · show (if z.cps.toList[i + k] ∈ S.cps.toList then runOf S.cps.toList (m - (k + 1)) (z.cps.toList.drop (i + k + 1)) + 1 else 0) = 0
        rw [if_neg hin]
    · have em : m - k = 0 := by omega
      rw [em]
      cases (z.cps.toList.drop (i + k)) <;> rfl
  · rw [List.drop_eq_nil_of_le (by omega)]
    cases (m - k) <;> rfl
end
end Lw

namespace Lw
open PySem PySem.Spec L2 Eg
local macro_rules | `(tactic| walk_at "vis") => `(tactic| first | exact Or.inl rfl | exact Or.inr (Or.inl rfl) | exact Or.inr (Or.inr rfl))
local macro_rules | `(tactic| walk_at "loc") => `(tactic| first | exact Or.inl rfl | exact Or.inr rfl)
local macro_rules | `(tactic| walk_at "nm") => `(tactic| first
  | refine Ev.name 0 (by rfl) (by walk_at "vis") (by rfl) ?_
  | refine Ev.name 1 (by rfl) (by walk_at "vis") (by rfl) ?_
  | refine Ev.name 2 (by rfl) (by walk_at "vis") (by rfl) ?_
  | refine Ev.name 3 (by rfl) (by walk_at "vis") (by rfl) ?_
  | refine Ev.name 4 (by rfl) (by walk_at "vis") (by rfl) ?_
  | refine Ev.name 5 (by rfl) (by walk_at "vis") (by rfl) ?_
  | refine Ev.name 6 (by rfl) (by walk_at "vis") (by rfl) ?_
  | refine Ev.name 7 (by rfl) (by walk_at "vis") (by rfl) ?_
  | refine Ev.name 8 (by rfl) (by walk_at "vis") (by rfl) ?_)
local macro_rules | `(tactic| walk_at "st") => `(tactic| first
  | refine St.set 1 (by assumption) (by rfl) (by walk_at "loc") (by walk_at "loc") ?_ rfl
  | refine St.set 2 (by assumption) (by rfl) (by walk_at "loc") (by walk_at "loc") ?_ rfl
  | refine St.set 3 (by assumption) (by rfl) (by walk_at "loc") (by walk_at "loc") ?_ rfl
  | refine St.set 4 (by assumption) (by rfl) (by walk_at "loc") (by walk_at "loc") ?_ rfl
  | refine St.set 5 (by assumption) (by rfl) (by walk_at "loc") (by walk_at "loc") ?_ rfl
  | refine St.set 6 (by assumption) (by rfl) (by walk_at "loc") (by walk_at "loc") ?_ rfl
  | refine St.set 7 (by assumption) (by rfl) (by walk_at "loc") (by walk_at "loc") ?_ rfl
  | refine St.set 8 (by assumption) (by rfl) (by walk_at "loc") (by walk_at "loc") ?_ rfl)
local macro_rules | `(tactic| walk_at "gn") => `(tactic| first
  | refine EvG.name 0 (by assumption) (by rfl) (by walk_at "loc") (by walk_at "loc") ?_
  | refine EvG.name 1 (by assumption) (by rfl) (by walk_at "loc") (by walk_at "loc") ?_
  | refine EvG.name 2 (by assumption) (by rfl) (by walk_at "loc") (by walk_at "loc") ?_
  | refine EvG.name 3 (by assumption) (by rfl) (by walk_at "loc") (by walk_at "loc") ?_
  | refine EvG.name 4 (by assumption) (by rfl) (by walk_at "loc") (by walk_at "loc") ?_
  | refine EvG.name 5 (by assumption) (by rfl) (by walk_at "loc") (by walk_at "loc") ?_
  | refine EvG.name 6 (by assumption) (by rfl) (by walk_at "loc") (by walk_at "loc") ?_
  | refine EvG.name 7 (by assumption) (by rfl) (by walk_at "loc") (by walk_at "loc") ?_
  | refine EvG.name 8 (by assumption) (by rfl) (by walk_at "loc") (by walk_at "loc") ?_)
local macro_rules | `(tactic| walk_at "one") => `(tactic| with_reducible first
  | refine sAdd.mk ?_ | refine sSub.mk ?_ | refine sLt.mk ?_ | refine sLe.mk ?_ | refine sGt.mk ?_ | refine sGe.mk ?_ | refine sEq.int ?_ | refine sNe.int ?_ | refine toT.mk ?_
  | refine Ev.int ?_ | refine Ev.str ?_ | refine Ev.bl ?_ | refine Ev.non ?_
  | refine Ev.sub ?_ | refine Ev.addI ?_ | refine Ev.mul ?_ | refine Ev.mod ?_ | refine Ev.fdiv ?_ | refine Ev.pow ?_ | refine Ev.neg ?_
  | refine Ev.lt ?_ | refine Ev.le ?_ | refine Ev.gt ?_ | refine Ev.ge ?_ | refine Ev.eq ?_ | refine Ev.ne ?_
  | refine Ev.ifE ?_ | refine Ev.tup ?_ | refine EvA.nil ?_ | refine EvA.cons ?_ rfl | refine EvT.not ?_
  | refine EvT.lt ?_ | refine EvT.le ?_ | refine EvT.gt ?_ | refine EvT.ge ?_ | refine EvT.eq ?_ | refine EvT.ne ?_
  | refine EvT.w ?_ | refine EvW.and ?_ | refine EvW.or ?_ | refine EvW.and1 ?_ | refine EvW.or1 ?_
  | refine Sts.cons ?_ | refine Sts.nil ?_ | refine St.ifS ?_ | refine St.ret ?_ | refine St.expr ?_ rfl)
local macro_rules | `(tactic| walk_at "go") => `(tactic| repeat (first | ((with_reducible show Ev _ (.Name _ _) _ _ _); (walk_at "nm")) | walk_at "one" | ((with_reducible show St _ (.Assign [.Name _ _] _ _) _ _ _); (walk_at "st"))))
/-! ### a token at a place -/
def sgS : List Nat := (Str.ofString "(){}[],;=<+-*").cps.toList
def longAt (z : List Nat) (i : Nat) : Bool := [[61, 61], [33, 61], [60, 61]].contains ((z.drop i).take 2)
def runTo (S : List Nat) (m : Nat) (z : List Nat) (i : Nat) : Nat × Bool := (i + runOf S m (z.drop i), !brk z (i + runOf S m (z.drop i)))
def tokOf (z : List Nat) (i c : Nat) : Nat × Bool :=
  if c ∈ sgL then runTo sgLF 12 z i else if c = 48 then runTo sgF 1 z i else if c ∈ sgF then runTo sgF 40 z i else if longAt z i = true then (i + 2, true) else if c ∈ sgS then (i + 1, true) else (i, false)
def C_tok : Ctr := fun ds μ R => ∃ (z : Str) (i c : Nat), ds = [.str z, .int i] ∧ z.length ≤ 100000 ∧ z.cps.toList[i]? = some c ∧ R (.tup [.int (tokOf z.cps.toList i c).1, .bl (tokOf z.cps.toList i c).2]) μ
def strOf : Value → Option Str
  | .str z _ => some z
  | _ => none
theorem vals_strs : ∀ (l : List Value) (zs : List Str), l.map (fun v => match v with | .str z _ => some z | _ => none) = zs.map some → Vals (zs.map V.str) l
  | [], [], _ => .nil
  | [], _ :: _, h => by cases h
  | _ :: _, [], h => by cases h
  | v :: r, z :: zs, h => by
    rw [List.map_cons, List.map_cons] at h
    injection h with h1 h2
    refine .cons ?_ (vals_strs r zs h2)
    cases v <;> first | (cases h1; exact ⟨_, rfl⟩) | cases h1
section
variable {P : Program} {w : World} {K : PySem.W.Frag} {mg : Str → Option Value} {base : Heap}
def lgS : List Str := ["==", "!=", "<="]
theorem Fx.long (T : Fx K mg) (α : List Addr) (μ : List MO) (H : Hp) : Has ⟨K, α, μ, H⟩ (V.ref (He.ga K "LONG_SIGNS")) (.tup (lgS.map DV.str)) := by
  have h := T.ex
  unfold exB at h
  simp only [Bool.and_eq_true] at h
  obtain ⟨_, _, _, _, _, _, h⟩ := h
  unfold tupB at h
  split at h
  · rename_i dd its n sl hl
    have hm := of_decide_eq_true h
    have vals := vals_strs its.toList lgS hm
    have hlen : its.size = 3 := by
      have z := vals.length
      rw [← Array.length_toList, ← z]
      rfl
    exact .tup (.inr ⟨_, its, n, hl, rfl, rfl, by rw [hlen, sizeLine_eq]; decide, vals⟩) (strs_has lgS)
  · cases h
theorem slice2 {z : Str} {i : Nat} (hi : i < z.length) : (cutS z (some (i : Int)) (some ((i : Int) + 2))).cps.toList = (z.cps.toList.drop i).take 2 := by
  have hlen : z.length = z.cps.toList.length := (Array.length_toList).symm
  have e1 : HT.sIx z.length 0 (some (i : Int)) = i := by
    unfold HT.sIx
    dsimp only
    rw [if_neg (by omega)]
    omega
  have e2 : HT.sIx z.length z.length (some ((i : Int) + 2)) = min (i + 2) z.length := by
    unfold HT.sIx
    dsimp only
    rw [if_neg (by omega)]
    omega
  unfold cutS
  rw [e1, e2]
  show (((z.cps.toList.drop i).take (min (i + 2) z.length - i)).toArray).toList = _
  rw [List.toList_toArray]
  have ld : (z.cps.toList.drop i).length = z.length - i := by rw [List.length_drop, hlen]
  by_cases h : i + 2 ≤ z.length
  · rw [show min (i + 2) z.length - i = 2 by omega]
  · rw [List.take_of_length_le (by rw [ld]; omega), List.take_of_length_le (by rw [ld]; omega)]
theorem str_eq {x y : Str} : (x = y) ↔ x.cps.toList = y.cps.toList := by
  constructor
  · rintro rfl; rfl
  · intro h
    obtain ⟨⟨a⟩⟩ := x
    obtain ⟨⟨b⟩⟩ := y
    have h' : a = b := h
    rw [h']
theorem inV_str (u : Str) : ∀ zs : List Str, inV (V.str u) (zs.map V.str) = decide (u.cps.toList ∈ zs.map fun z => z.cps.toList)
  | [] => rfl
  | z :: r => by
    have ih := inV_str u r
    unfold inV at ih ⊢
    rw [List.map_cons, List.any_cons, ih, List.map_cons]
    have e : eqV (V.str z) (V.str u) = decide (u.cps.toList = z.cps.toList) := by
      show (z == u) = _
      by_cases h : u = z
      · rw [h]; simp
      · rw [decide_eq_false fun c => h (str_eq.mpr c)]
        simpa using fun c => h c.symm
    rw [e]
    simp [List.mem_cons]
theorem flatL_strs : ∀ zs : List Str, flatL (zs.map DV.str) = some (zs.map V.str)
  | [] => rfl
  | z :: r => by
    show (DV.flat (.str z)).bind _ = _
    show (flatL (r.map DV.str)).map _ = _
    rw [flatL_strs r]
    rfl
theorem ok_tok (T : Fx K mg) : Fn P w K mg base "cut_token" 2 C_tok := by
  obtain ⟨fd, F⟩ := T.d_cut_token
  obtain ⟨t1, gL⟩ := T.s_LETTERS
  obtain ⟨t2, gF⟩ := T.s_FIGURES
  obtain ⟨t3, gLF⟩ := T.s_LETTERS_AND_FIGURES
  obtain ⟨t4, gS⟩ := T.s_SHORT_SIGNS
  obtain ⟨t5, gN⟩ := T.i_MOST_SIGNS_OF_NAME
  obtain ⟨t6, gM⟩ := T.i_MOST_FIGURES
  refine Fn.mk (N := Ncut_token) (ps := ["row", "at"]) F sccut_token T.g_cut_token (fun _ _ _ _ _ _ us hl => match us, hl with | [_, _], _ => rfl) ?_ ?_
  · rintro ds μ R ⟨z, i, c, rfl, _⟩
    rfl
  rintro cd A outer s H hg hr hnd ds μ R ⟨z, i, c, rfl, hz, hc, q⟩
  have hz' : z.length ≤ sizeLine := by rw [sizeLine_eq]; omega
  have hlen : z.length = z.cps.toList.length := (Array.length_toList).symm
  have hi : i < z.length := by
    rw [hlen]
    exact (List.getElem?_eq_some_iff.mp hc).1
  have hat : atI z.cps.toList (i : Int) = some c := atI_of (by omega) (by rw [Int.toNat_natCast]; exact hc)
  unfold tokOf at q
  refine Sts.cons (St.ifS (EvT.inSign (Ev.at ?_)))
  walk_at "go"
  refine sIx.str hz' hat (Ev.glob (v := .str (Str.ofString "abcdefghijklmnopqrstuvwxyz")) rfl gL ⟨t1, rfl⟩ (fun _ _ _ => .str) ⟨_, _, rfl, rfl, _, rfl, ?_⟩)
  refine ifd (fun h => ?_) (fun h1 => Sts.nil ?_)
  · rw [if_pos (show c ∈ sgL from h)] at q
    refine Sts.cons (St.ret (Ev.call (ok_run T) hg (hr.mono (by decide)) rfl ?_))
    walk_at "go"
    refine Ev.glob (v := .str (Str.ofString "abcdefghijklmnopqrstuvwxyz0123456789")) rfl gLF ⟨t3, rfl⟩ (fun _ _ _ => .str) ?_
    refine EvA.cons (Ev.glob (v := .int 12) rfl gN ⟨t5, rfl⟩ (fun _ _ _ => .int) ?_) rfl
    exact EvA.nil ⟨z, _, i, 12, rfl, hz, by omega, by decide, Or.inl q⟩
  rw [if_neg (show ¬ c ∈ sgL from h1)] at q
  refine Sts.cons (St.ifS (EvT.eq (Ev.at ?_)))
  walk_at "go"
  refine sIx.str hz' hat ?_
  walk_at "go"
  refine sEq.sign (d := 48) ?_
  walk_at "go"
  refine ifd (fun h => ?_) (fun h2 => Sts.nil ?_)
  · rw [if_pos h] at q
    refine Sts.cons (St.ret (Ev.call (ok_run T) hg (hr.mono (by decide)) rfl ?_))
    walk_at "go"
    refine Ev.glob (v := .str (Str.ofString "0123456789")) rfl gF ⟨t2, rfl⟩ (fun _ _ _ => .str) ?_
    walk_at "go"
    exact ⟨z, _, i, 1, rfl, hz, by omega, by decide, Or.inl q⟩
  rw [if_neg h2] at q
  refine Sts.cons (St.ifS (EvT.inSign (Ev.at ?_)))
  walk_at "go"
  refine sIx.str hz' hat (Ev.glob (v := .str (Str.ofString "0123456789")) rfl gF ⟨t2, rfl⟩ (fun _ _ _ => .str) ⟨_, _, rfl, rfl, _, rfl, ?_⟩)
  refine ifd (fun h => ?_) (fun h3 => Sts.nil ?_)
  · rw [if_pos (show c ∈ sgF from h)] at q
    refine Sts.cons (St.ret (Ev.call (ok_run T) hg (hr.mono (by decide)) rfl ?_))
    walk_at "go"
    refine Ev.glob (v := .str (Str.ofString "0123456789")) rfl gF ⟨t2, rfl⟩ (fun _ _ _ => .str) ?_
    refine EvA.cons (Ev.glob (v := .int 40) rfl gM ⟨t6, rfl⟩ (fun _ _ _ => .int) ?_) rfl
    exact EvA.nil ⟨z, _, i, 40, rfl, hz, by omega, by decide, Or.inl q⟩
  rw [if_neg (show ¬ c ∈ sgF from h3)] at q
  refine Sts.cons (St.ifS (EvT.inL (Ev.sliceS ?_)))
  walk_at "nm"
  refine ⟨z, rfl, hz', EvP.some ?_⟩
  walk_at "go"
  refine ⟨_, rfl, EvP.some ?_⟩
  walk_at "go"
  refine ⟨_, rfl, Ev.glob (v := .ref (He.ga K "LONG_SIGNS")) rfl T.t_LONG_SIGNS rfl (fun _ _ _ => T.long _ _ _) ⟨_, _, _, rfl, rfl, flatL_strs lgS, _, rfl, ?_⟩⟩
  have el : inV (V.str (cutS z (some (i : Int)) (some ((i : Int) + 2)))) (lgS.map V.str) = longAt z.cps.toList i := by
    rw [inV_str, slice2 hi]
    unfold longAt
    rw [List.contains_eq_mem]
    rfl
  show if inV (V.str (cutS z (some (i : Int)) (some ((i : Int) + 2)))) (lgS.map V.str) = true then _ else _
  rw [el]
  by_cases hl : longAt z.cps.toList i = true
  · rw [hl]
    rw [if_pos hl] at q
    refine iteT (Sts.cons (St.ret (Ev.tup ?_)))
    walk_at "go"
    exact ⟨by show 2 ≤ sizeLine; decide, Or.inl q⟩
  · rw [if_neg hl] at q
    have hl' : longAt z.cps.toList i = false := by simpa using hl
    rw [hl']
    refine iteF (Sts.nil ?_)
    refine Sts.cons (St.ifS (EvT.inSign (Ev.at ?_)))
    walk_at "go"
    refine sIx.str hz' hat (Ev.glob (v := .str (Str.ofString "(){}[],;=<+-*")) rfl gS ⟨t4, rfl⟩ (fun _ _ _ => .str) ⟨_, _, rfl, rfl, _, rfl, ?_⟩)
    refine ifd (fun h => ?_) (fun h4 => Sts.nil ?_)
    · rw [if_pos (show c ∈ sgS from h)] at q
      refine Sts.cons (St.ret (Ev.tup ?_))
      walk_at "go"
      exact ⟨by show 2 ≤ sizeLine; decide, Or.inl q⟩
    · rw [if_neg (show ¬ c ∈ sgS from h4)] at q
      refine Sts.cons (St.ret (Ev.tup ?_))
      walk_at "go"
      exact ⟨by show 2 ≤ sizeLine; decide, Or.inl q⟩
end
end Lw

namespace Lw
open PySem PySem.Spec L2 Eg
local macro_rules | `(tactic| walk_at "vis") => `(tactic| first | exact Or.inl rfl | exact Or.inr (Or.inl rfl) | exact Or.inr (Or.inr rfl))
local macro_rules | `(tactic| walk_at "loc") => `(tactic| first | exact Or.inl rfl | exact Or.inr rfl)
local macro_rules | `(tactic| walk_at "nm") => `(tactic| first
  | refine Ev.name 0 (by rfl) (by walk_at "vis") (by rfl) ?_
  | refine Ev.name 1 (by rfl) (by walk_at "vis") (by rfl) ?_
  | refine Ev.name 2 (by rfl) (by walk_at "vis") (by rfl) ?_
  | refine Ev.name 3 (by rfl) (by walk_at "vis") (by rfl) ?_
  | refine Ev.name 4 (by rfl) (by walk_at "vis") (by rfl) ?_
  | refine Ev.name 5 (by rfl) (by walk_at "vis") (by rfl) ?_
  | refine Ev.name 6 (by rfl) (by walk_at "vis") (by rfl) ?_
  | refine Ev.name 7 (by rfl) (by walk_at "vis") (by rfl) ?_
  | refine Ev.name 8 (by rfl) (by walk_at "vis") (by rfl) ?_)
local macro_rules | `(tactic| walk_at "st") => `(tactic| first
  | refine St.set 1 (by assumption) (by rfl) (by walk_at "loc") (by walk_at "loc") ?_ rfl
  | refine St.set 2 (by assumption) (by rfl) (by walk_at "loc") (by walk_at "loc") ?_ rfl
  | refine St.set 3 (by assumption) (by rfl) (by walk_at "loc") (by walk_at "loc") ?_ rfl
  | refine St.set 4 (by assumption) (by rfl) (by walk_at "loc") (by walk_at "loc") ?_ rfl
  | refine St.set 5 (by assumption) (by rfl) (by walk_at "loc") (by walk_at "loc") ?_ rfl
  | refine St.set 6 (by assumption) (by rfl) (by walk_at "loc") (by walk_at "loc") ?_ rfl
  | refine St.set 7 (by assumption) (by rfl) (by walk_at "loc") (by walk_at "loc") ?_ rfl
  | refine St.set 8 (by assumption) (by rfl) (by walk_at "loc") (by walk_at "loc") ?_ rfl)
local macro_rules | `(tactic| walk_at "gn") => `(tactic| first
  | refine EvG.name 0 (by assumption) (by rfl) (by walk_at "loc") (by walk_at "loc") ?_
  | refine EvG.name 1 (by assumption) (by rfl) (by walk_at "loc") (by walk_at "loc") ?_
  | refine EvG.name 2 (by assumption) (by rfl) (by walk_at "loc") (by walk_at "loc") ?_
  | refine EvG.name 3 (by assumption) (by rfl) (by walk_at "loc") (by walk_at "loc") ?_
  | refine EvG.name 4 (by assumption) (by rfl) (by walk_at "loc") (by walk_at "loc") ?_
  | refine EvG.name 5 (by assumption) (by rfl) (by walk_at "loc") (by walk_at "loc") ?_
  | refine EvG.name 6 (by assumption) (by rfl) (by walk_at "loc") (by walk_at "loc") ?_
  | refine EvG.name 7 (by assumption) (by rfl) (by walk_at "loc") (by walk_at "loc") ?_
  | refine EvG.name 8 (by assumption) (by rfl) (by walk_at "loc") (by walk_at "loc") ?_)
local macro_rules | `(tactic| walk_at "one") => `(tactic| with_reducible first
  | refine sAdd.mk ?_ | refine sSub.mk ?_ | refine sLt.mk ?_ | refine sLe.mk ?_ | refine sGt.mk ?_ | refine sGe.mk ?_ | refine sEq.int ?_ | refine sNe.int ?_ | refine toT.mk ?_
  | refine Ev.int ?_ | refine Ev.str ?_ | refine Ev.bl ?_ | refine Ev.non ?_
  | refine Ev.sub ?_ | refine Ev.addI ?_ | refine Ev.mul ?_ | refine Ev.mod ?_ | refine Ev.fdiv ?_ | refine Ev.pow ?_ | refine Ev.neg ?_
  | refine Ev.lt ?_ | refine Ev.le ?_ | refine Ev.gt ?_ | refine Ev.ge ?_ | refine Ev.eq ?_ | refine Ev.ne ?_
  | refine Ev.ifE ?_ | refine Ev.tup ?_ | refine EvA.nil ?_ | refine EvA.cons ?_ rfl | refine EvT.not ?_
  | refine EvT.lt ?_ | refine EvT.le ?_ | refine EvT.gt ?_ | refine EvT.ge ?_ | refine EvT.eq ?_ | refine EvT.ne ?_
  | refine EvT.w ?_ | refine EvW.and ?_ | refine EvW.or ?_ | refine EvW.and1 ?_ | refine EvW.or1 ?_
  | refine Sts.cons ?_ | refine Sts.nil ?_ | refine St.ifS ?_ | refine St.ret ?_ | refine St.expr ?_ rfl)
local macro_rules | `(tactic| walk_at "go") => `(tactic| repeat (first | ((with_reducible show Ev _ (.Name _ _) _ _ _); (walk_at "nm")) | walk_at "one" | ((with_reducible show St _ (.Assign [.Name _ _] _ _) _ _ _); (walk_at "st"))))
/-! ### a row, a text: the tokens -/
theorem blanks_le : ∀ u : List Nat, blanks u ≤ u.length
  | [] => Nat.le_refl _
  | c :: r => by
    unfold blanks
    split
    · rename_i h
      injection h with h1 h2
      subst h2
      have := blanks_le r
      rw [List.length_cons]
      omega
    · exact Nat.zero_le _
theorem fromAt_le {z : List Nat} {i : Nat} (h : i ≤ z.length) : fromAt z i ≤ z.length := by
  unfold fromAt
  split
  · exact Nat.le_refl _
  · have := blanks_le (z.drop i)
    rw [List.length_drop] at this
    omega
theorem runOf_le (S : List Nat) : ∀ (m : Nat) (u : List Nat), runOf S m u ≤ u.length
  | 0, u => by
    cases u <;> exact Nat.zero_le _
  | m + 1, [] => Nat.le_refl _
  | m + 1, c :: r => by
    unfold runOf
    split
    · have := runOf_le S m r
      rw [List.length_cons]
      omega
    · exact Nat.zero_le _
theorem fromAt_ge {z : List Nat} {i : Nat} (h : i ≤ z.length) : i ≤ fromAt z i := by
  unfold fromAt
  split
  · exact h
  · omega
theorem runOf_pos {S : List Nat} {m : Nat} {c : Nat} {r : List Nat} (h : c ∈ S) : 0 < runOf S (m + 1) (c :: r) := by
  unfold runOf
  rw [if_pos h]
  omega
/-- a whole token is not empty and lies in the row -/
theorem tokOf_ok {z : List Nat} {i c : Nat} (hc : z[i]? = some c) (ok : (tokOf z i c).2 = true) : i < (tokOf z i c).1 ∧ (tokOf z i c).1 ≤ z.length := by
  obtain ⟨hi, e⟩ := List.getElem?_eq_some_iff.mp hc
  have hd : z.drop i = c :: z.drop (i + 1) := by rw [List.drop_eq_getElem_cons hi, e]
  have ld : (z.drop i).length = z.length - i := List.length_drop ..
  have run : ∀ (S : List Nat) (m : Nat), c ∈ S → i < (runTo S (m + 1) z i).1 ∧ (runTo S (m + 1) z i).1 ≤ z.length := by
    intro S m hS
    have h1 := runOf_le S (m + 1) (z.drop i)
    have h2 : 0 < runOf S (m + 1) (z.drop i) := by
      rw [hd]
      exact runOf_pos hS
    show i < i + runOf S (m + 1) (z.drop i) ∧ i + runOf S (m + 1) (z.drop i) ≤ z.length
    omega
  unfold tokOf at ok ⊢
  by_cases h1 : c ∈ sgL
  · rw [if_pos h1]
    refine run sgLF 11 ?_
    exact List.all_eq_true.mp (show (sgL.all fun x => decide (x ∈ sgLF)) = true by decide +kernel) c h1 |> of_decide_eq_true
  rw [if_neg h1] at ok ⊢
  by_cases h2 : c = 48
  · rw [if_pos h2]
    exact run sgF 0 (by rw [h2]; decide +kernel)
  rw [if_neg h2] at ok ⊢
  by_cases h3 : c ∈ sgF
  · rw [if_pos h3]
    exact run sgF 39 h3
  rw [if_neg h3] at ok ⊢
  by_cases h4 : longAt z i = true
  · rw [if_pos h4]
    refine ⟨by show i < i + 2; omega, ?_⟩
    show i + 2 ≤ z.length
    have hl : ((z.drop i).take 2).length = 2 := by
      unfold longAt at h4
      rw [List.contains_eq_mem, decide_eq_true_eq] at h4
      have : ∀ x ∈ [[61, 61], [33, 61], [60, 61]], x.length = 2 := by decide
      exact this _ h4
    rw [List.length_take, ld] at hl
    omega
  rw [if_neg h4] at ok ⊢
  by_cases h5 : c ∈ sgS
  · rw [if_pos h5]
    exact ⟨by show i < i + 1; omega, hi⟩
  · rw [if_neg h5] at ok
    cases ok
/-- the tokens of a row from a place on: text, column; where it is bad -/
def rowCut : Nat → List Nat → Nat → List (List Nat × Nat) × Option Nat
  | 0, _, _ => ([], none)
  | n + 1, z, i => match z[fromAt z i]? with
    | none => ([], none)
    | some c => if (tokOf z (fromAt z i) c).2 = true then
        (((z.drop (fromAt z i)).take ((tokOf z (fromAt z i) c).1 - fromAt z i), fromAt z i + 1) :: (rowCut n z (tokOf z (fromAt z i) c).1).1, (rowCut n z (tokOf z (fromAt z i) c).1).2)
      else ([], some ((tokOf z (fromAt z i) c).1 + 1))
abbrev sOf (u : List Nat) : Str := ⟨u.toArray⟩
def tkD (line : Nat) (t : List Nat × Nat) : DV := .tup [.str (sOf t.1), .int line, .int t.2]
/-- the tokens of the rows from a line on; where it is bad -/
def cutRows : Nat → List (List Nat) → List DV × Option (Nat × Nat)
  | _, [] => ([], none)
  | l, z :: r => match (rowCut (z.length + 1) z 0).2 with
    | some b => ((rowCut (z.length + 1) z 0).1.map (tkD l), some (l, b))
    | none => ((rowCut (z.length + 1) z 0).1.map (tkD l) ++ (cutRows (l + 1) r).1, (cutRows (l + 1) r).2)
def badD : Option (Nat × Nat) → DV
  | none => .non
  | some (l, c) => .tup [.int l, .int c]
def rowsOf (z : Str) : List (List Nat) := TL.spl [10] 0 [] z.cps.toList
def C_cut : Ctr := fun ds μ R => ∃ z : Str, ds = [.str z] ∧ z.length ≤ 3000 ∧ ∀ μs, R (.tup [.tup (cutRows 1 (rowsOf z)).1, badD (cutRows 1 (rowsOf z)).2]) (μ ++ μs)
theorem split_rows (z : Str) : (Txt.split z (Str.ofString "\n")).map (fun s => s.cps.toList) = rowsOf z :=
  TL.split_spl z (Str.ofString "\n") (by decide) (TL.kind_ok (by decide +kernel))
theorem spl_len : ∀ (l acc : List Nat), (∀ r ∈ TL.spl [10] 0 acc l, r.length ≤ acc.length + l.length) ∧ (TL.spl [10] 0 acc l).length ≤ l.length + 1
  | [], acc => by
    unfold TL.spl
    exact ⟨fun r hr => by rw [List.mem_singleton.mp hr]; exact Nat.le_refl _, Nat.le_refl _⟩
  | c :: l, acc => by
    unfold TL.spl
    split
    · obtain ⟨h1, h2⟩ := spl_len l []
      refine ⟨fun r hr => ?_, ?_⟩
      · rcases List.mem_cons.mp hr with e | e
        · rw [e]
          omega
        · have := h1 r e
          rw [List.length_cons]
          simp at this
          omega
      · have h2' : (TL.spl [10] ([10].length - 1) [] l).length ≤ l.length + 1 := h2
        simp only [List.length_cons] at h2' ⊢
        omega
    · obtain ⟨h1, h2⟩ := spl_len l (acc ++ [c])
      refine ⟨fun r hr => ?_, ?_⟩
      · have := h1 r hr
        rw [List.length_append, List.length_singleton] at this
        rw [List.length_cons]
        omega
      · rw [List.length_cons]
        omega
theorem rows_len (z : Str) : (∀ r ∈ rowsOf z, r.length ≤ z.length) ∧ (rowsOf z).length ≤ z.length + 1 := by
  have hlen : z.length = z.cps.toList.length := (Array.length_toList).symm
  obtain ⟨h1, h2⟩ := spl_len z.cps.toList []
  refine ⟨fun r hr => ?_, ?_⟩
  · have := h1 r hr
    rw [List.length_nil, Nat.zero_add, ← hlen] at this
    exact this
  · rw [hlen]
    exact h2
theorem slice_ab {z : Str} {a b : Nat} (hb : b ≤ z.length) : cutS z (some (a : Int)) (some (b : Int)) = sOf ((z.cps.toList.drop a).take (b - a)) := by
  have hlen : z.length = z.cps.toList.length := (Array.length_toList).symm
  have e2 : HT.sIx z.length z.length (some (b : Int)) = b := by
    unfold HT.sIx
    dsimp only
    rw [if_neg (by omega)]
    omega
  unfold cutS
  rw [e2]
  have e1 : HT.sIx z.length 0 (some (a : Int)) = min a z.length := by
    unfold HT.sIx
    dsimp only
    rw [if_neg (by omega)]
    omega
  rw [e1]
  by_cases h : a ≤ z.length
  · rw [Nat.min_eq_left h]
  · rw [Nat.min_eq_right (by omega), show b - z.length = 0 by omega, show b - a = 0 by omega]
    simp
section
variable {P : Program} {w : World} {K : PySem.W.Frag} {mg : Str → Option Value} {base : Heap}
theorem ok_cut (T : Fx K mg) : Fn P w K mg base "cut" 3 C_cut := by
  obtain ⟨fd, F⟩ := T.d_cut
  refine Fn.mk (N := Ncut) (ps := ["text"]) F sccut T.g_cut (fun _ _ _ _ _ _ us hl => match us, hl with | [_], _ => rfl) ?_ ?_
  · rintro ds μ R ⟨z, rfl, _⟩
    rfl
  rintro cd A outer s H hg hr hnd ds μ R ⟨z, rfl, hz, q⟩
  have hz' : z.length + 2 ≤ sizeLine := by rw [sizeLine_eq]; omega
  obtain ⟨rl1, rl2⟩ := rows_len z
  have hrows := split_rows z
  generalize htot : cutRows 1 (rowsOf z) = tot at q
  refine Sts.cons (St.set 1 (by assumption) (by rfl) (by walk_at "loc") (by walk_at "loc") (Ev.lstM (EvA.nil ⟨by decide, ?_⟩)) rfl)
  refine Sts.cons (St.for_ PassesOwn.never rfl (EvI.count rfl T.n_enumerate (EvA.cons (Ev.split ?_) rfl)))
  walk_at "go"
  refine ⟨z, rfl, hz', ?_⟩
  walk_at "go"
  refine ⟨_, rfl, by decide, EvA.nil ⟨_, rfl, EvK.cons ?_⟩⟩
  walk_at "go"
  refine EvK.nil ⟨1, rfl, by decide, by decide, fun i ρ' μ' => ∃ (Fl : List DV) (a b c d e : Option DV), ρ' = [some (.str z), some (.mu μ.length), a, b, c, d, e] ∧ μ' = μ ++ [.lst Fl] ∧ Fl.length ≤ i * 3000 ∧
    Fl ++ (cutRows (1 + i) ((rowsOf z).drop i)).1 = tot.1 ∧ (cutRows (1 + i) ((rowsOf z).drop i)).2 = tot.2, ⟨[], _, _, _, _, _, rfl, rfl, by simp, by simp [htot], by simp [htot]⟩, ?_, ?_⟩
  · rintro i d ρ' μ' hd ⟨Fl, a, b, c, d', e, rfl, rfl, hF, hF1, hF2⟩
    obtain ⟨x, hx, rfl⟩ := cntD_at _ _ _ _ hd
    rw [List.getElem?_map] at hx
    obtain ⟨zr, hzr, rfl⟩ := Option.map_eq_some_iff.mp hx
    have hrow : (rowsOf z)[i]? = some zr.cps.toList := by
      rw [← hrows, List.getElem?_map, hzr]
      rfl
    obtain ⟨hi, hri⟩ := List.getElem?_eq_some_iff.mp hrow
    have hzl : zr.length ≤ 3000 := by
      have := rl1 _ (List.mem_of_getElem? hrow)
      have e : zr.length = zr.cps.toList.length := (Array.length_toList).symm
      omega
    have hzs : zr.length ≤ sizeLine := by rw [sizeLine_eq]; omega
    have hlen : zr.length = zr.cps.toList.length := (Array.length_toList).symm
    have hdrop : (rowsOf z).drop i = zr.cps.toList :: (rowsOf z).drop (i + 1) := by rw [List.drop_eq_getElem_cons hi, hri]
    rw [hdrop] at hF1 hF2
    unfold cutRows at hF1 hF2
    have hi3 : i ≤ 3000 := by omega
    refine EvG.tup rfl (EvGs.cons (EvG.name 2 (by assumption) (by rfl) (by walk_at "loc") (by walk_at "loc") (EvGs.cons (EvG.name 3 (by assumption) (by rfl) (by walk_at "loc") (by walk_at "loc") (EvGs.nil ?_)) rfl)) rfl)
    refine Sts.cons (St.set 4 (by assumption) (by rfl) (by walk_at "loc") (by walk_at "loc") (Ev.call (ok_from T) hg (hr.mono (by decide)) rfl ?_) rfl)
    walk_at "go"
    refine ⟨zr, 0, rfl, by omega, by omega, ?_⟩
    have hat : ∀ Fz : List DV, (μ ++ [MO.lst Fz])[μ.length]? = some (.lst Fz) := fun Fz => by
      rw [List.getElem?_append_right (Nat.le_refl _), Nat.sub_self]
      rfl
    have hset : ∀ (Fz : List DV) (m : MO), (μ ++ [MO.lst Fz]).set μ.length m = μ ++ [m] := fun Fz m => by simp
    generalize hall : rowCut (zr.cps.toList.length + 1) zr.cps.toList 0 = all at hF1 hF2
    refine Sts.cons (St.while_ PassesOwn.never (fun m ρ' μ' => ∃ (p n : Nat) (Fz : List DV) (x y : Option DV), m = zr.length - p ∧ p ≤ zr.length ∧ zr.length - p < n ∧ ρ' = [some (.str z), some (.mu μ.length), some (.int (1 + (i : Int))), some (.str zr), some (.int (fromAt zr.cps.toList p)), x, y] ∧ μ' = μ ++ [.lst Fz] ∧ Fz.length ≤ i * 3000 + p ∧
      Fl ++ all.1.map (tkD (1 + i)) = Fz ++ (rowCut n zr.cps.toList p).1.map (tkD (1 + i)) ∧ all.2 = (rowCut n zr.cps.toList p).2) ⟨_, 0, zr.cps.toList.length + 1, Fl, _, _, rfl, by omega, by omega, rfl, rfl, by omega, by rw [hall], by rw [hall]⟩ ?_)
    rintro m ρ' μ' ⟨p, n, Fz, x, y, rfl, hp, hn, rfl, rfl, hFz, hG1, hG2⟩
    obtain ⟨n, rfl⟩ : ∃ n', n = n' + 1 := ⟨n - 1, by omega⟩
    have hfl := fromAt_le (z := zr.cps.toList) (i := p) (by omega)
    have hfg := fromAt_ge (z := zr.cps.toList) (i := p) (by omega)
    unfold rowCut at hG1 hG2
    generalize hf : fromAt zr.cps.toList p = f at hfl hfg hG1 hG2
    refine EvT.lt ?_
    walk_at "go"
    refine Ev.len rfl T.n_len ?_
    walk_at "go"
    refine lenS hzs ?_
    walk_at "go"
    refine ifd (fun hlt => ?_) (fun hlt => ?_)
    · have hlt' : f < zr.cps.toList.length := by omega
      have hc : zr.cps.toList[f]? = some zr.cps.toList[f] := List.getElem?_eq_getElem hlt'
      generalize zr.cps.toList[f] = c at hc
      rw [hc] at hG1 hG2
      dsimp only at hG1 hG2
      refine Sts.cons (St.asg (Ev.call (ok_tok T) hg (hr.mono (by decide)) rfl ?_))
      walk_at "go"
      refine ⟨zr, f, c, rfl, by omega, hc, ?_⟩
      refine EvG.tup rfl (EvGs.cons (EvG.name 5 (by assumption) (by rfl) (by walk_at "loc") (by walk_at "loc") (EvGs.cons (EvG.name 6 (by assumption) (by rfl) (by walk_at "loc") (by walk_at "loc") (EvGs.nil ?_)) rfl)) rfl)
      generalize htok : tokOf zr.cps.toList f c = tk at hG1 hG2
      refine Sts.cons (St.ifS (EvT.not (EvT.val ?_)))
      walk_at "nm"
      refine ⟨_, rfl, ?_⟩
      cases hk : tk.2 with
      | false =>
        rw [hk] at hG1 hG2
        refine iteT (Sts.cons (St.ret (Ev.tup (EvA.cons (Ev.tuple rfl T.n_tuple ?_) rfl))))
        walk_at "go"
        refine ⟨_, Fz, rfl, items_mu (hat Fz), ?_⟩
        walk_at "go"
        have e2 : all.2 = some (tk.1 + 1) := by simpa using hG2
        have e1 : Fl ++ all.1.map (tkD (1 + i)) = Fz := by simpa using hG1
        rw [e2] at hF1 hF2
        dsimp only at hF1 hF2
        rw [← hF1, ← hF2, e1] at q
        have ec : badD (some (1 + i, tk.1 + 1)) = DV.tup [.int (1 + (i : Int)), .int ((tk.1 : Int) + 1)] := by simp [badD]
        rw [ec] at q
        exact ⟨by show 2 ≤ sizeLine; decide, EvA.nil ⟨by show 2 ≤ sizeLine; decide, Or.inl (q _)⟩⟩
      | true =>
        rw [hk] at hG1 hG2
        have ht := tokOf_ok hc (by rw [htok]; exact hk)
        rw [htok] at ht
        refine iteF (Sts.nil ?_)
        refine Sts.cons (St.expr (Ev.append ?_) rfl)
        walk_at "go"
        refine ⟨μ.length, Fz, rfl, hat Fz, EvA.cons (Ev.tup (EvA.cons (Ev.sliceS ?_) rfl)) rfl⟩
        walk_at "nm"
        refine ⟨zr, rfl, hzs, EvP.some ?_⟩
        walk_at "nm"
        refine ⟨_, rfl, EvP.some ?_⟩
        walk_at "nm"
        refine ⟨_, rfl, ?_⟩
        walk_at "go"
        refine ⟨by show 3 ≤ sizeLine; decide, EvA.nil ⟨_, Fz, rfl, hat Fz, by rw [sizeLine_eq]; omega, ?_⟩⟩
        rw [hset]
        refine Sts.cons (St.set 4 (by assumption) (by rfl) (by walk_at "loc") (by walk_at "loc") (Ev.call (ok_from T) hg (hr.mono (by decide)) rfl ?_) rfl)
        walk_at "go"
        have etk : DV.tup [.str (cutS zr (some (f : Int)) (some (tk.1 : Int))), .int (1 + (i : Int)), .int ((f : Int) + 1)] = tkD (1 + i) ((zr.cps.toList.drop f).take (tk.1 - f), f + 1) := by
          rw [slice_ab (by omega)]
          simp [tkD]
        rw [etk]
        refine ⟨zr, tk.1, rfl, by omega, by omega, Sts.nil ⟨zr.length - tk.1, by omega, tk.1, n, _, _, _, rfl, by omega, by omega, rfl, rfl, ?_, ?_, ?_⟩⟩
        · rw [List.length_append]
          show Fz.length + 1 ≤ _
          omega
        · rw [hG1]
          simp
        · rw [hG2]
          simp
    · rw [List.getElem?_eq_none (by omega)] at hG1 hG2
      dsimp only at hG1 hG2
      rw [hG2] at hF1 hF2
      dsimp only at hF1 hF2
      have e1 : Fl ++ all.1.map (tkD (1 + i)) = Fz := by simpa using hG1
      refine Sts.nil ⟨Fz, _, _, _, _, _, rfl, rfl, by omega, ?_, ?_⟩
      · rw [← e1, List.append_assoc, ← Nat.add_assoc]
        exact hF1
      · rw [← Nat.add_assoc]
        exact hF2
  · rintro ρ' μ' ⟨Fl, a, b, c, d, e, rfl, rfl, hF, hF1, hF2⟩
    rw [cntD_len, List.length_map] at hF1 hF2
    have el : (Txt.split z (Str.ofString "\n")).length = (rowsOf z).length := by
      rw [← hrows, List.length_map]
    rw [el, List.drop_length] at hF1 hF2
    have e1 : Fl = tot.1 := by simpa [cutRows] using hF1
    have e2 : tot.2 = none := hF2.symm
    have hat : (μ ++ [MO.lst Fl])[μ.length]? = some (.lst Fl) := by
      rw [List.getElem?_append_right (Nat.le_refl _), Nat.sub_self]
      rfl
    refine Sts.cons (St.ret (Ev.tup (EvA.cons (Ev.tuple rfl T.n_tuple ?_) rfl)))
    walk_at "go"
    refine ⟨_, Fl, rfl, items_mu hat, ?_⟩
    walk_at "go"
    refine ⟨by show 2 ≤ sizeLine; decide, Or.inl ?_⟩
    rw [← e1, e2] at q
    exact q _
end
end Lw

namespace Lw
open PySem PySem.Spec L2 Eg
local macro_rules | `(tactic| walk_at "vis") => `(tactic| first | exact Or.inl rfl | exact Or.inr (Or.inl rfl) | exact Or.inr (Or.inr rfl))
local macro_rules | `(tactic| walk_at "loc") => `(tactic| first | exact Or.inl rfl | exact Or.inr rfl)
local macro_rules | `(tactic| walk_at "nm") => `(tactic| first
  | refine Ev.name 0 (by rfl) (by walk_at "vis") (by rfl) ?_
  | refine Ev.name 1 (by rfl) (by walk_at "vis") (by rfl) ?_
  | refine Ev.name 2 (by rfl) (by walk_at "vis") (by rfl) ?_
  | refine Ev.name 3 (by rfl) (by walk_at "vis") (by rfl) ?_
  | refine Ev.name 4 (by rfl) (by walk_at "vis") (by rfl) ?_
  | refine Ev.name 5 (by rfl) (by walk_at "vis") (by rfl) ?_
  | refine Ev.name 6 (by rfl) (by walk_at "vis") (by rfl) ?_
  | refine Ev.name 7 (by rfl) (by walk_at "vis") (by rfl) ?_
  | refine Ev.name 8 (by rfl) (by walk_at "vis") (by rfl) ?_)
local macro_rules | `(tactic| walk_at "st") => `(tactic| first
  | refine St.set 1 (by assumption) (by rfl) (by walk_at "loc") (by walk_at "loc") ?_ rfl
  | refine St.set 2 (by assumption) (by rfl) (by walk_at "loc") (by walk_at "loc") ?_ rfl
  | refine St.set 3 (by assumption) (by rfl) (by walk_at "loc") (by walk_at "loc") ?_ rfl
  | refine St.set 4 (by assumption) (by rfl) (by walk_at "loc") (by walk_at "loc") ?_ rfl
  | refine St.set 5 (by assumption) (by rfl) (by walk_at "loc") (by walk_at "loc") ?_ rfl
  | refine St.set 6 (by assumption) (by rfl) (by walk_at "loc") (by walk_at "loc") ?_ rfl
  | refine St.set 7 (by assumption) (by rfl) (by walk_at "loc") (by walk_at "loc") ?_ rfl
  | refine St.set 8 (by assumption) (by rfl) (by walk_at "loc") (by walk_at "loc") ?_ rfl)
local macro_rules | `(tactic| walk_at "gn") => `(tactic| first
  | refine EvG.name 0 (by assumption) (by rfl) (by walk_at "loc") (by walk_at "loc") ?_
  | refine EvG.name 1 (by assumption) (by rfl) (by walk_at "loc") (by walk_at "loc") ?_
  | refine EvG.name 2 (by assumption) (by rfl) (by walk_at "loc") (by walk_at "loc") ?_
  | refine EvG.name 3 (by assumption) (by rfl) (by walk_at "loc") (by walk_at "loc") ?_
  | refine EvG.name 4 (by assumption) (by rfl) (by walk_at "loc") (by walk_at "loc") ?_
  | refine EvG.name 5 (by assumption) (by rfl) (by walk_at "loc") (by walk_at "loc") ?_
  | refine EvG.name 6 (by assumption) (by rfl) (by walk_at "loc") (by walk_at "loc") ?_
  | refine EvG.name 7 (by assumption) (by rfl) (by walk_at "loc") (by walk_at "loc") ?_
  | refine EvG.name 8 (by assumption) (by rfl) (by walk_at "loc") (by walk_at "loc") ?_)
local macro_rules | `(tactic| walk_at "one") => `(tactic| with_reducible first
  | refine sAdd.mk ?_ | refine sSub.mk ?_ | refine sLt.mk ?_ | refine sLe.mk ?_ | refine sGt.mk ?_ | refine sGe.mk ?_ | refine sEq.int ?_ | refine sNe.int ?_ | refine toT.mk ?_
  | refine Ev.int ?_ | refine Ev.str ?_ | refine Ev.bl ?_ | refine Ev.non ?_
  | refine Ev.sub ?_ | refine Ev.addI ?_ | refine Ev.mul ?_ | refine Ev.mod ?_ | refine Ev.fdiv ?_ | refine Ev.pow ?_ | refine Ev.neg ?_
  | refine Ev.lt ?_ | refine Ev.le ?_ | refine Ev.gt ?_ | refine Ev.ge ?_ | refine Ev.eq ?_ | refine Ev.ne ?_
  | refine Ev.ifE ?_ | refine Ev.tup ?_ | refine EvA.nil ?_ | refine EvA.cons ?_ rfl | refine EvT.not ?_
  | refine EvT.lt ?_ | refine EvT.le ?_ | refine EvT.gt ?_ | refine EvT.ge ?_ | refine EvT.eq ?_ | refine EvT.ne ?_
  | refine EvT.w ?_ | refine EvW.and ?_ | refine EvW.or ?_ | refine EvW.and1 ?_ | refine EvW.or1 ?_
  | refine Sts.cons ?_ | refine Sts.nil ?_ | refine St.ifS ?_ | refine St.ret ?_ | refine St.expr ?_ rfl)
local macro_rules | `(tactic| walk_at "go") => `(tactic| repeat (first | ((with_reducible show Ev _ (.Name _ _) _ _ _); (walk_at "nm")) | walk_at "one" | ((with_reducible show St _ (.Assign [.Name _ _] _ _) _ _ _); (walk_at "st"))))

section
variable {P : Program} {w : World} {K : PySem.W.Frag} {mg : Str → Option Value} {base : Heap}
def fl2 : List V → List (Str × V) := fun ys => match ys with
  | [x, y] => [("column", y), ("line", x)]
  | _ => []
def fd2 : List DV → List (Str × DV) := fun ys => match ys with
  | [x, y] => [("column", y), ("line", x)]
  | _ => []
theorem fl2_ok (ys : List V) (ds : List DV) (w : Wd) (h : HasL w ys ds) (e : ys.length = 2) : HasF w (fl2 ys) (fd2 ds) := by
  match ys, e, h with
  | [x, y], _, .cons h (.cons g .nil) => exact .cons g (.cons h .nil)
theorem oex_of {C : Addr} (h : oexB K C = true) : OexC K C := by
  unfold oexB at h
  simp only [Bool.and_eq_true, decide_eq_true_eq] at h
  obtain ⟨h1, h2, h3, h4, h5⟩ := h
  refine ⟨?_, h2, h3, h4, h5⟩
  split at h1
  · rename_i cd sl hl
    split at h1
    · rename_i C' bm a0 a1 a2 a3 n a5 e1 e2
      simp only [Bool.and_eq_true, decide_eq_true_eq, Bool.not_eq_true'] at h1
      obtain ⟨z1, z2, h6, h7, h8⟩ := h1
      subst z1 z2
      obtain ⟨nm, bs, mro, ns, qn, hdd, sn, sub, ab, col, hdl⟩ := cd
      obtain ⟨sl⟩ := sl
      dsimp only at e1 e2 h6 h7
      subst e1 e2 h6 h7
      exact ⟨_, _, _, _, _, _, _, _, _, _, _, _, _, _, _, hl, h8⟩
    · cases h1
  · cases h1

theorem init2_ok {qual : Str} {params : Arguments} {scope : Scope} {fa C : Addr} {fd : FuncData} {p1 p2 p3 p4 q1 q2 q3 q4 : Pos}
    (F : FunD K "__init__" qual params [.Assign [.Attribute (.Name "self" p1) "line" p2] (.Name "line" p3) p4, .Assign [.Attribute (.Name "self" q1) "column" q2] (.Name "column" q3) q4] scope [] [] fa fd)
    (S : FnScope ["self", "line", "column"] ["self", "line", "column"] scope) (oc : OexC K C) (no1 : PySem.W.findIn K (.ref C) "line" = some none) (no2 : PySem.W.findIn K (.ref C) "column" = some none)
    (v1 : Vis scope "self") (v2 : Vis scope "line") (v3 : Vis scope "column") : FnOk P w K mg base L2.CX0 1 fa fd ["self", "line", "column"] (spI C 2 fl2) := by
  obtain ⟨oc', od, dV, kV, doc, pm, an, cd, ct, osl, rfl, lk, hcd, hD, _⟩ := F.ex
  refine fn_of lk hcd S (fun vs H Q E => ?_) (fun A outer s H vs Q E hr => ?_)
  · rintro ⟨a, ys, rfl, e, _⟩
    rw [List.length_cons, e]
    rfl
  · rintro ⟨a, ys, rfl, e, h1, h2⟩
    match ys, e with
    | [x, y], _ =>
    refine ⟨_, pss_cons (ps_ost (pe_var (i := 0) rfl v1 (by decide) (by decide)) (pe_var (i := 1) rfl v2 (by decide) (by decide)) rfl) (pss_one (ps_ost (pe_var (i := 0) rfl v1 (by decide) (by decide)) (pe_var (i := 2) rfl v3 (by decide) (by decide)) rfl)),
      x, rfl, V.ref a, rfl, a, C, rfl, oc, no1, Or.inl ⟨h1, fun dx d1 d2 => ?_⟩⟩
    refine ⟨y, rfl, V.ref a, rfl, a, C, rfl, oc, no2, Or.inr ⟨dx, [("line", x)], upd_same, ?_, by show 1 ≤ 900; decide, ?_⟩⟩
    · rw [upd_ne d2, upd_same]
    refine h2 dx _ d1 ?_ ?_ fun b hb nb => ?_
    · rw [upd_ne (Ne.symm d2), upd_same]
    · rw [upd_same]
      rfl
    · have nd : b ≠ dx := fun z => hb (by rw [z]; exact d1)
      rw [upd_ne nd, upd_ne nb, upd_ne nd]
structure Et (K : PySem.W.Frag) : Prop where
  oc : OexC K (cT K)
  ini : PySem.W.findIn K (.ref (cT K)) "__init__" = some (some (.ref (He.ma K (cT K) "__init__"))) ∧ PySem.W.typeIn K (.ref (He.ma K (cT K) "__init__")) = some (.type "function")
  no1 : PySem.W.findIn K (.ref (cT K)) "line" = some none
  no2 : PySem.W.findIn K (.ref (cT K)) "column" = some none
  xf : XfC K (cT K)
  em : PySem.W.exmOne K (.ref (cT K)) (.ref (cT K)) = some true
theorem Fx.et (T : Fx K mg) : Et K := by
  have h := T.ex
  unfold exB noB iniB at h
  simp only [Bool.and_eq_true, decide_eq_true_eq] at h
  obtain ⟨h1, h2, h3, h4, h5, h6, _⟩ := h
  exact ⟨oex_of h1, h2, h3, h4, xfB_ok h5, h6⟩
theorem Fx.xr (T : Fx K mg) : XR P w K mg base "InvalidText" (cT K) 1 2 fl2 := by
  obtain ⟨fd, F⟩ := T.d_InvalidText_init
  refine ⟨T.g_InvalidText, T.et.oc, He.ma K (cT K) "__init__", fd, ["self", "line", "column"], T.et.ini.1, T.et.ini.2, ?_, ?_⟩
  · exact init2_ok F scInvalidText_init T.et.oc T.et.no1 T.et.no2 (Or.inl rfl) (Or.inl rfl) (Or.inl rfl)
  · exact FunD.bindsN (ps := ["self", "line", "column"]) F fun _ _ _ _ _ _ us hl => match us, hl with | [_, _, _], _ => rfl
def C_ref : Ctr := fun ds μ R => ∃ z : Str, ds = [.str z] ∧ R .non μ
theorem ok_ref (T : Fx K mg) : Fn P w K mg base "refuse_no_text" 1 C_ref := by
  obtain ⟨fd, F⟩ := T.d_refuse_no_text
  refine Fn.mk (N := Nrefuse_no_text) (ps := ["text"]) F screfuse_no_text T.g_refuse_no_text (fun _ _ _ _ _ _ us hl => match us, hl with | [_], _ => rfl) ?_ ?_
  · rintro ds μ R ⟨z, rfl, _⟩
    rfl
  rintro cd A outer s H hg hr hnd ds μ R ⟨z, rfl, q⟩
  refine Sts.cons (St.ifS (EvT.not (EvT.val (Ev.isi rfl T.n_isinstance rfl T.n_str (T := "str") (by decide +kernel) (by decide) (by decide) ?_))))
  walk_at "nm"
  exact ⟨"str", true, rfl, rfl, _, rfl, iteF (Sts.nil (Sts.nil (Or.inl q)))⟩
def C_tokens (K : PySem.W.Frag) : CtrX := fun ds μ R RX => ∃ z : Str, ds = [.str z] ∧ z.length ≤ 3000 ∧
  ((cutRows 1 (rowsOf z)).2 = none → ∀ μs, R (.tup (cutRows 1 (rowsOf z)).1) (μ ++ μs)) ∧ ∀ l c, (cutRows 1 (rowsOf z)).2 = some (l, c) → ∀ μs, RX (cT K) [("column", .int (c : Nat)), ("line", .int (l : Nat))] (μ ++ μs)
def C_good : Ctr := fun ds μ R => ∃ z : Str, ds = [.str z] ∧ z.length ≤ 3000 ∧ (cutRows 1 (rowsOf z)).2 = none ∧ ∀ μs, R (.tup (cutRows 1 (rowsOf z)).1) (μ ++ μs)
theorem ok_tokens (T : Fx K mg) : FnX P w K mg base "tokens" 4 (C_tokens K) := by
  obtain ⟨fd, F⟩ := T.d_tokens
  refine FnX.mk (N := Ntokens) (ps := ["text"]) F sctokens T.g_tokens (fun _ _ _ _ _ _ us hl => match us, hl with | [_], _ => rfl) ?_ ?_
  · rintro ds μ R RX ⟨z, rfl, _⟩
    rfl
  rintro cd A outer s H E hg hr hnd ds μ R RX ⟨z, rfl, hz, q, qx⟩
  refine StsX.cons (St.x (St.expr (Ev.call (ok_ref T) hg (hr.mono (by decide)) rfl ?_) rfl))
  walk_at "go"
  refine ⟨z, rfl, ?_⟩
  refine StsX.cons (St.x (St.asg (Ev.call (ok_cut T) hg (hr.mono (by decide)) rfl ?_)))
  walk_at "go"
  refine ⟨z, rfl, hz, fun μs => ?_⟩
  generalize cutRows 1 (rowsOf z) = tot at q qx ⊢
  refine EvG.tup rfl (EvGs.cons (EvG.name 1 (by assumption) (by rfl) (by walk_at "loc") (by walk_at "loc") (EvGs.cons (EvG.name 2 (by assumption) (by rfl) (by walk_at "loc") (by walk_at "loc") (EvGs.nil ?_)) rfl)) rfl)
  obtain ⟨t1, t2⟩ := tot
  cases t2 with
  | none =>
    refine StsX.cons (StX.ifS (EvT.notN ?_))
    walk_at "nm"
    refine Ev.non (sNotN.mk ⟨_, rfl, iteF (StsX.nil ?_)⟩)
    refine Sts.x (Sts.cons (St.ret ?_))
    walk_at "nm"
    exact Or.inl (q rfl μs)
  | some lc =>
    obtain ⟨l, c⟩ := lc
    refine StsX.cons (StX.ifS (EvT.notN ?_))
    walk_at "nm"
    refine Ev.non (sNotN.mk ⟨_, rfl, iteT (StsX.cons (StX.raise (fdf := fd2) T.xr (hr.mono (by decide)) rfl rfl (by decide) fl2_ok (EvA.cons (Ev.at ?_) rfl)))⟩)
    walk_at "nm"
    refine Ev.int (sIx.tup rfl ?_)
    refine EvA.cons (Ev.at ?_) rfl
    walk_at "nm"
    refine Ev.int (sIx.tup rfl (EvA.nil ⟨rfl, Or.inl (qx l c rfl μs)⟩))
theorem good_body (T : Fx K mg) {fd : FuncData} (F : FunD K dtokens.name dtokens.qual dtokens.params dtokens.body dtokens.scope (dtokens.dvs K) (dtokens.kws K) (He.fAd K dtokens.at_) fd) : FnG P w K mg base 4 (He.fAd K dtokens.at_) fd ["text"] (SpD K C_good) := by
  refine FnG.mk2 (N := Ntokens) (ps := ["text"]) F sctokens ?_ ?_
  · rintro ds μ R ⟨z, rfl, _⟩
    rfl
  rintro cd A outer s H hg hr hnd ds μ R ⟨z, rfl, hz, hn, q⟩
  refine Sts.cons (St.expr (Ev.call (ok_ref T) hg (hr.mono (by decide)) rfl ?_) rfl)
  walk_at "go"
  refine ⟨z, rfl, ?_⟩
  refine Sts.cons (St.asg (Ev.call (ok_cut T) hg (hr.mono (by decide)) rfl ?_))
  walk_at "go"
  refine ⟨z, rfl, hz, fun μs => ?_⟩
  generalize cutRows 1 (rowsOf z) = tot at q hn ⊢
  refine EvG.tup rfl (EvGs.cons (EvG.name 1 (by assumption) (by rfl) (by walk_at "loc") (by walk_at "loc") (EvGs.cons (EvG.name 2 (by assumption) (by rfl) (by walk_at "loc") (by walk_at "loc") (EvGs.nil ?_)) rfl)) rfl)
  rw [hn]
  refine Sts.cons (St.ifS (EvT.notN ?_))
  walk_at "nm"
  refine Ev.non (sNotN.mk ⟨_, rfl, iteF (Sts.nil ?_)⟩)
  refine Sts.cons (St.ret ?_)
  walk_at "nm"
  exact Or.inl (q μs)
theorem ok_named (T : Fx K mg) : FnW P w K mg base "tokens" 4 C_good ["text"] [0] := by
  obtain ⟨fd, F⟩ := T.d_tokens
  exact FnW.mk F (good_body T F) T.g_tokens ["text"] [0] fun _ _ _ _ _ _ us hl => match us, hl with | [_], _ => rfl
end
end Lw

namespace Lw
open PySem PySem.Spec L2 Eg
local macro_rules | `(tactic| walk_at "vis") => `(tactic| first | exact Or.inl rfl | exact Or.inr (Or.inl rfl) | exact Or.inr (Or.inr rfl))
local macro_rules | `(tactic| walk_at "loc") => `(tactic| first | exact Or.inl rfl | exact Or.inr rfl)
local macro_rules | `(tactic| walk_at "nm") => `(tactic| first
  | refine Ev.name 0 (by rfl) (by walk_at "vis") (by rfl) ?_
  | refine Ev.name 1 (by rfl) (by walk_at "vis") (by rfl) ?_
  | refine Ev.name 2 (by rfl) (by walk_at "vis") (by rfl) ?_
  | refine Ev.name 3 (by rfl) (by walk_at "vis") (by rfl) ?_
  | refine Ev.name 4 (by rfl) (by walk_at "vis") (by rfl) ?_
  | refine Ev.name 5 (by rfl) (by walk_at "vis") (by rfl) ?_
  | refine Ev.name 6 (by rfl) (by walk_at "vis") (by rfl) ?_
  | refine Ev.name 7 (by rfl) (by walk_at "vis") (by rfl) ?_
  | refine Ev.name 8 (by rfl) (by walk_at "vis") (by rfl) ?_)
local macro_rules | `(tactic| walk_at "st") => `(tactic| first
  | refine St.set 1 (by assumption) (by rfl) (by walk_at "loc") (by walk_at "loc") ?_ rfl
  | refine St.set 2 (by assumption) (by rfl) (by walk_at "loc") (by walk_at "loc") ?_ rfl
  | refine St.set 3 (by assumption) (by rfl) (by walk_at "loc") (by walk_at "loc") ?_ rfl
  | refine St.set 4 (by assumption) (by rfl) (by walk_at "loc") (by walk_at "loc") ?_ rfl
  | refine St.set 5 (by assumption) (by rfl) (by walk_at "loc") (by walk_at "loc") ?_ rfl
  | refine St.set 6 (by assumption) (by rfl) (by walk_at "loc") (by walk_at "loc") ?_ rfl
  | refine St.set 7 (by assumption) (by rfl) (by walk_at "loc") (by walk_at "loc") ?_ rfl
  | refine St.set 8 (by assumption) (by rfl) (by walk_at "loc") (by walk_at "loc") ?_ rfl)
local macro_rules | `(tactic| walk_at "gn") => `(tactic| first
  | refine EvG.name 0 (by assumption) (by rfl) (by walk_at "loc") (by walk_at "loc") ?_
  | refine EvG.name 1 (by assumption) (by rfl) (by walk_at "loc") (by walk_at "loc") ?_
  | refine EvG.name 2 (by assumption) (by rfl) (by walk_at "loc") (by walk_at "loc") ?_
  | refine EvG.name 3 (by assumption) (by rfl) (by walk_at "loc") (by walk_at "loc") ?_
  | refine EvG.name 4 (by assumption) (by rfl) (by walk_at "loc") (by walk_at "loc") ?_
  | refine EvG.name 5 (by assumption) (by rfl) (by walk_at "loc") (by walk_at "loc") ?_
  | refine EvG.name 6 (by assumption) (by rfl) (by walk_at "loc") (by walk_at "loc") ?_
  | refine EvG.name 7 (by assumption) (by rfl) (by walk_at "loc") (by walk_at "loc") ?_
  | refine EvG.name 8 (by assumption) (by rfl) (by walk_at "loc") (by walk_at "loc") ?_)
local macro_rules | `(tactic| walk_at "one") => `(tactic| with_reducible first
  | refine sAdd.mk ?_ | refine sSub.mk ?_ | refine sLt.mk ?_ | refine sLe.mk ?_ | refine sGt.mk ?_ | refine sGe.mk ?_ | refine sEq.int ?_ | refine sNe.int ?_ | refine toT.mk ?_
  | refine Ev.int ?_ | refine Ev.str ?_ | refine Ev.bl ?_ | refine Ev.non ?_
  | refine Ev.sub ?_ | refine Ev.addI ?_ | refine Ev.mul ?_ | refine Ev.mod ?_ | refine Ev.fdiv ?_ | refine Ev.pow ?_ | refine Ev.neg ?_
  | refine Ev.lt ?_ | refine Ev.le ?_ | refine Ev.gt ?_ | refine Ev.ge ?_ | refine Ev.eq ?_ | refine Ev.ne ?_
  | refine Ev.ifE ?_ | refine Ev.tup ?_ | refine EvA.nil ?_ | refine EvA.cons ?_ rfl | refine EvT.not ?_
  | refine EvT.lt ?_ | refine EvT.le ?_ | refine EvT.gt ?_ | refine EvT.ge ?_ | refine EvT.eq ?_ | refine EvT.ne ?_
  | refine EvT.w ?_ | refine EvW.and ?_ | refine EvW.or ?_ | refine EvW.and1 ?_ | refine EvW.or1 ?_
  | refine Sts.cons ?_ | refine Sts.nil ?_ | refine St.ifS ?_ | refine St.ret ?_ | refine St.expr ?_ rfl)
local macro_rules | `(tactic| walk_at "go") => `(tactic| repeat (first | ((with_reducible show Ev _ (.Name _ _) _ _ _); (walk_at "nm")) | walk_at "one" | ((with_reducible show St _ (.Assign [.Name _ _] _ _) _ _ _); (walk_at "st"))))
def WOk (a b c : Int) : Prop := 0 ≤ a ∧ 0 ≤ b ∧ b < 2147483563 ∧ 0 ≤ c ∧ c < 1000000
def C_draw : Ctr := fun ds μ R => ∃ k n a b c t, ds = [.mu k, .int n] ∧ μ[k]? = some (.lst [.int a, .int b, .int c, t]) ∧ 0 < n ∧ n < 1073741824 ∧ WOk a b c ∧ c < 999990 ∧
  ∀ r a' b' c', 0 ≤ r → r < n → WOk a' b' c' → c' ≤ c + 1 → R (.int r) (μ.set k (.lst [.int a', .int b', .int c', t]))
section
variable {P : Program} {w : World} {K : PySem.W.Frag} {mg : Str → Option Value} {base : Heap}
theorem ok_draw (T : Fx K mg) : Fn P w K mg base "_law_draw" 1 C_draw := by
  obtain ⟨fd, F⟩ := T.d_l_draw
  refine Fn.mk (N := Nl_draw) (ps := ["_law_well_here", "_law_many"]) F scl_draw T.g_l_draw (fun _ _ _ _ _ _ us hl => match us, hl with | [_, _], _ => rfl) ?_ ?_
  · rintro ds μ R ⟨k, n, a, b, c, t, rfl, _⟩
    rfl
  rintro cd A outer s H hg hr hnd ds μ R ⟨k, n, a, b, c, t, rfl, hk, hn, hn2, ⟨h1, h2, h3, h4, h5⟩, h6, q⟩
  have hkn : k < μ.length := (List.getElem?_eq_some_iff.mp hk).1
  refine Sts.cons (St.ifS (EvT.gt (Ev.at ?_)))
  walk_at "nm"
  refine Ev.int (sIx.mu hk rfl (Ev.int ⟨_, _, rfl, rfl, _, rfl, ?_⟩))
  refine ifd (fun ha => ?_) (fun ha => ?_)
  · refine Sts.cons (St.asg (Ev.divmod rfl T.n_divmod (EvA.cons (Ev.at ?_))) rfl rfl rfl)
    walk_at "nm"
    refine Ev.int (sIx.mu hk rfl (EvA.cons ?_))
    walk_at "nm"
    refine EvA.nil ⟨_, _, rfl, ⟨hn, hn2⟩, EvG.tup rfl (EvGs.cons (EvG.sub ?_)) rfl rfl⟩
    walk_at "nm"
    refine Ev.int ⟨_, _, _, _, rfl, rfl, hk, rfl, EvGs.cons ?_⟩
    walk_at "gn"
    refine EvGs.nil (Sts.cons (St.ret ?_))
    walk_at "nm"
    refine Or.inl (q (a % n) (a / n) b c (Int.emod_nonneg _ (by omega)) (Int.emod_lt_of_pos _ hn) ⟨Int.ediv_nonneg h1 (by omega), h2, h3, h4, h5⟩ (by omega))
  · refine Sts.nil (Sts.cons (St.asg (Ev.addI (Ev.at ?_))))
    walk_at "nm"
    refine Ev.int (sIx.mu hk rfl (Ev.int ⟨_, _, rfl, rfl, EvG.sub ?_⟩))
    walk_at "nm"
    refine Ev.int ⟨_, _, _, _, rfl, rfl, hk, rfl, Sts.cons ?_⟩
    have hk2 : (μ.set k (MO.lst [.int a, .int b, .int (c + 1), t]))[k]? = some (.lst [.int a, .int b, .int (c + 1), t]) := List.getElem?_set_self hkn
    walk_at "st"
    refine Ev.mod (Ev.toInt rfl T.n_int (EvA.cons (Ev.addI (Ev.at ?_))))
    walk_at "nm"
    refine Ev.int (sIx.mu hk2 rfl (Ev.mul (Ev.int (Ev.at ?_))))
    walk_at "nm"
    refine Ev.int (sIx.mu hk2 rfl ⟨_, _, rfl, rfl, mulok (by omega) (by omega), _, _, rfl, rfl, EvA.nil (Or.inl ⟨_, rfl, Ev.int ⟨_, _, rfl, rfl, by decide, ?_⟩⟩)⟩)
    generalize hx : (b + 60013 * (c + 1)).fmod 2147483563 = x
    have hx0 : 0 ≤ x ∧ x < 2147483563 := by
      rw [← hx, Int.fmod_eq_emod_of_nonneg _ (by decide)]
      exact ⟨Int.emod_nonneg _ (by decide), Int.emod_lt_of_pos _ (by decide)⟩
    refine Sts.cons (St.asg (Ev.mod (Ev.toInt rfl T.n_int (EvA.cons (Ev.addI (Ev.mul ?_))))))
    walk_at "nm"
    refine Ev.addI (Ev.mod (Ev.toInt rfl T.n_int (EvA.cons ?_)))
    walk_at "nm"
    refine EvA.nil (Or.inl ⟨_, rfl, Ev.int ⟨_, _, rfl, rfl, by decide, Ev.int ⟨_, _, rfl, rfl, ?_⟩⟩⟩)
    generalize hy : x.fmod 5003 = y
    have hy0 : 0 ≤ y ∧ y < 5003 := by
      rw [← hy, Int.fmod_eq_emod_of_nonneg _ (by decide)]
      exact ⟨Int.emod_nonneg _ (by decide), Int.emod_lt_of_pos _ (by decide)⟩
    refine ⟨_, _, rfl, rfl, mulok (by omega) (by omega), Ev.mul (Ev.int (Ev.at ?_))⟩
    walk_at "nm"
    refine Ev.int (sIx.mu hk2 rfl ⟨_, _, rfl, rfl, mulok (by omega) (by omega), _, _, rfl, rfl, EvA.nil (Or.inl ⟨_, rfl, Ev.int ⟨_, _, rfl, rfl, by decide, EvG.sub ?_⟩⟩)⟩)
    generalize hz : (x * (y + 40009) + 31 * (c + 1)).fmod 2147483563 = z
    have hz0 : 0 ≤ z ∧ z < 2147483563 := by
      rw [← hz, Int.fmod_eq_emod_of_nonneg _ (by decide)]
      exact ⟨Int.emod_nonneg _ (by decide), Int.emod_lt_of_pos _ (by decide)⟩
    walk_at "nm"
    refine Ev.int ⟨_, _, _, _, rfl, rfl, hk2, rfl, ?_⟩
    rw [List.set_set]
    have hk3 : (μ.set k (MO.lst [.int a, .int z, .int (c + 1), t]))[k]? = some (.lst [.int a, .int z, .int (c + 1), t]) := List.getElem?_set_self hkn
    refine Sts.cons (St.ret (Ev.mod (Ev.toInt rfl T.n_int (EvA.cons (Ev.fdiv (Ev.at ?_))))))
    walk_at "nm"
    refine Ev.int (sIx.mu hk3 rfl (Ev.int ⟨_, _, rfl, rfl, divok (by decide) (by decide), EvA.nil (Or.inl ⟨_, rfl, ?_⟩)⟩))
    walk_at "nm"
    refine ⟨_, _, rfl, rfl, by omega, Or.inl (q _ a z (c + 1) ?_ ?_ ⟨h1, by omega, by omega, by omega, by omega⟩ (by omega))⟩
    · rw [Int.fmod_eq_emod_of_nonneg _ (by omega)]
      exact Int.emod_nonneg _ (by omega)
    · rw [Int.fmod_eq_emod_of_nonneg _ (by omega)]
      exact Int.emod_lt_of_pos _ hn
end
/-! ### what holds of the objects while numbers are drawn -/
def WS (μ : List MO) (k : Nat) (c : Int) : Prop := (∃ a b, μ[k]? = some (.lst [.int a, .int b, .int c, .int 3]) ∧ WOk a b c) ∧ μ.all (MO.bel μ.length) = true
def Wch (μ μ' : List MO) (k : Nat) : Prop := μ'.length = μ.length ∧ ∀ j, j ≠ k → μ'[j]? = μ[j]?
theorem Wch.refl (μ : List MO) (k : Nat) : Wch μ μ k := ⟨rfl, fun _ _ => rfl⟩
theorem Wch.trans {a b c : List MO} {k : Nat} (h : Wch a b k) (g : Wch b c k) : Wch a c k := ⟨g.1.trans h.1, fun j n => (g.2 j n).trans (h.2 j n)⟩
theorem all_set {μ : List MO} {k n : Nat} {m : MO} (h : μ.all (MO.bel n) = true) (hm : MO.bel n m = true) : (μ.set k m).all (MO.bel n) = true := by
  rw [List.all_eq_true] at h ⊢
  intro x hx
  rcases List.mem_or_eq_of_mem_set hx with z | z
  · exact h x z
  · rw [z]
    exact hm
def C_drw : Ctr := fun ds μ R => ∃ k n c, ds = [.mu k, .int n] ∧ 0 < n ∧ n < 1073741824 ∧ WS μ k c ∧ c < 999990 ∧ ∀ r μ' c', 0 ≤ r → r < n → WS μ' k c' → c' ≤ c + 1 → Wch μ μ' k → R (.int r) μ'
def C_pick : Ctr := fun ds μ R => ∃ k xs c, ds = [.mu k, .tup xs] ∧ 0 < xs.length ∧ xs.length < 1000 ∧ WS μ k c ∧ c < 999990 ∧ ∀ d μ' c', d ∈ xs → WS μ' k c' → c' ≤ c + 1 → Wch μ μ' k → R d μ'
section
variable {P : Program} {w : World} {K : PySem.W.Frag} {mg : Str → Option Value} {base : Heap}
theorem ok_drw (T : Fx K mg) : Fn P w K mg base "_law_draw" 1 C_drw := (ok_draw T).imp fun ds μ R ⟨k, n, c, e, h1, h2, ⟨⟨a, b, hk, hw⟩, ha⟩, h3, q⟩ => by
  refine ⟨k, n, a, b, c, .int 3, e, hk, h1, h2, hw, h3, fun r a' b' c' h4 h5 h6 h7 => ?_⟩
  have hkn := (List.getElem?_eq_some_iff.mp hk).1
  refine q r _ c' h4 h5 ⟨⟨a', b', List.getElem?_set_self hkn, h6⟩, ?_⟩ h7 ⟨by simp, fun j hj => List.getElem?_set_ne (Ne.symm hj)⟩
  rw [List.length_set]
  exact all_set ha rfl
theorem len_tup {μ : List MO} {xs : List DV} {R : Cn} (r : R (.int xs.length) μ) : sLen [.tup xs] μ R := ⟨_, _, rfl, rfl, r⟩
theorem ok_pick (T : Fx K mg) : Fn P w K mg base "_law_pick" 2 C_pick := by
  obtain ⟨fd, F⟩ := T.d_l_pick
  refine Fn.mk (N := Nl_pick) (ps := ["_law_well_here", "_law_some"]) F scl_pick T.g_l_pick (fun _ _ _ _ _ _ us hl => match us, hl with | [_, _], _ => rfl) ?_ ?_
  · rintro ds μ R ⟨k, xs, c, rfl, _⟩
    rfl
  rintro cd A outer s H hg hr hnd ds μ R ⟨k, xs, c, rfl, h1, h2, hw, hc, q⟩
  refine Sts.cons (St.ret (Ev.at ?_))
  walk_at "go"
  refine Ev.call (ok_drw T) hg hr rfl ?_
  walk_at "go"
  refine Ev.len rfl T.n_len ?_
  walk_at "go"
  refine len_tup ?_
  walk_at "go"
  refine ⟨k, xs.length, c, rfl, by omega, by omega, hw, hc, fun r μ' c' r0 r1 hw' hc' hch => ?_⟩
  have hi : r.toNat < xs.length := by omega
  exact sIx.tup (atI_of r0 (List.getElem?_eq_getElem hi)) (Or.inl (q _ _ _ (List.getElem_mem hi) hw' hc' hch))
end
def C_well : Ctr := fun ds μ R => ∃ ns t, ds = [.lst (List.map DV.int ns), .int t] ∧ 0 ≤ t ∧ t < 4 ∧ ns.length ≤ 63 ∧
  ∀ a b, WOk a b 0 → R (.mu μ.length) (μ ++ [.lst [.int a, .int b, .int 0, .int 3]])
section
variable {P : Program} {w : World} {K : PySem.W.Frag} {mg : Str → Option Value} {base : Heap}
theorem ok_well (T : Fx K mg) : Fn P w K mg base "_law_well" 1 C_well := by
  obtain ⟨fd, F⟩ := T.d_l_well
  refine Fn.mk (N := Nl_well) (ps := ["_law_script", "_law_turn"]) F scl_well T.g_l_well (fun _ _ _ _ _ _ us hl => match us, hl with | [_, _], _ => rfl) ?_ ?_
  · rintro ds μ R ⟨ns, t, rfl, _⟩
    rfl
  rintro cd A outer s H hg hr hnd ds μ R ⟨ns, t, rfl, h0, h1, h2, q⟩
  have hsz : ∀ i : Nat, (List.map DV.int ns)[i]? = (ns[i]?).map DV.int := fun i => List.getElem?_map ..
  have hcut : ∀ d ∈ cutD (List.map DV.int ns) none (some 9), ∃ z, d = .int z := fun d hd => by
    obtain ⟨z, _, e⟩ := List.mem_map.mp (List.mem_of_mem_drop (List.mem_of_mem_take hd))
    exact ⟨z, e.symm⟩
  refine Sts.cons ?_
  walk_at "go"
  refine sMul.mk (mulok (by omega) (by omega)) ?_
  walk_at "go"
  refine Sts.cons (St.for_ PassesOwn.never rfl (EvI.lst (Ev.sliceL ?_)))
  walk_at "go"
  refine ⟨_, rfl, EvP.none (EvP.some ?_)⟩
  walk_at "go"
  refine ⟨9, rfl, _, rfl, fun _ ρ' μ' => ∃ x u, 0 ≤ x ∧ x < 2147483563 ∧ ρ' = [some (.lst (List.map DV.int ns)), some (.int t), some (.int x), u, none] ∧ μ' = μ, ⟨_, none, ?_, ?_, rfl, rfl⟩, ?_, ?_⟩
  · omega
  · omega
  · rintro i d ρ' μ' hd ⟨x, u, x0, x1, rfl, rfl⟩
    obtain ⟨z, rfl⟩ := hcut d (List.mem_iff_getElem?.mpr ⟨i, hd⟩)
    walk_at "gn"
    refine Sts.cons (St.set 2 (by assumption) (by rfl) (by walk_at "loc") (by walk_at "loc") (Ev.mod (Ev.toInt rfl T.n_int (EvA.cons (Ev.addI (Ev.addI (Ev.mul ?_)))))) rfl)
    walk_at "go"
    refine sMul.mk (mulok (by omega) (by omega)) ?_
    walk_at "go"
    refine Ev.toInt rfl T.n_int ?_
    walk_at "go"
    refine Or.inl ⟨_, rfl, ?_⟩
    walk_at "go"
    refine sMod.mk (by decide) ?_
    walk_at "go"
    refine Or.inl ⟨_, rfl, ?_⟩
    walk_at "go"
    refine sMod.mk (by decide) ?_
    obtain ⟨y0, y1⟩ := fmod_in (i := x * 51407 + z.fmod 2147483587 + 5) (j := 2147483563) (by decide)
    exact Sts.nil ⟨_, _, y0, y1, rfl, rfl⟩
  · rintro ρ' μ' ⟨x, u, x0, x1, rfl, rfl⟩
    refine Sts.cons (St.set 4 (by assumption) (by rfl) (by walk_at "loc") (by walk_at "loc") (Ev.mono (R := fun d μ1 => (∃ z, d = .int z) ∧ μ1 = μ') (Ev.ifE (EvT.lt ?_)) ?_) rfl)
    · walk_at "go"
      refine Ev.len rfl T.n_len ?_
      walk_at "go"
      refine ⟨_, _, rfl, rfl, ?_⟩
      walk_at "go"
      rw [List.length_map]
      refine ifd (fun hlt => ?_) (fun _ => ?_)
      · refine Ev.toInt rfl T.n_int (EvA.cons (Ev.at ?_))
        walk_at "go"
        have hi : t.toNat < ns.length := by omega
        have hat : (List.map DV.int ns)[t.toNat]? = some (.int ns[t.toNat]) := by
          rw [hsz, List.getElem?_eq_getElem hi]
          rfl
        refine sIx.lst (atI_of h0 hat) (EvA.nil (Or.inl ⟨_, rfl, ⟨_, rfl⟩, rfl⟩))
      · exact Ev.int ⟨⟨_, rfl⟩, rfl⟩
    rintro d μ1 ⟨⟨z, rfl⟩, rfl⟩
    refine Sts.cons (St.set 2 (by assumption) (by rfl) (by walk_at "loc") (by walk_at "loc") (Ev.mod (Ev.toInt rfl T.n_int (EvA.cons (Ev.addI (Ev.addI (Ev.mul ?_)))))) rfl)
    walk_at "go"
    refine sMul.mk (mulok (by omega) (by omega)) ?_
    walk_at "go"
    refine Ev.toInt rfl T.n_int ?_
    walk_at "go"
    refine Or.inl ⟨_, rfl, ?_⟩
    walk_at "go"
    refine sMod.mk (by decide) ?_
    obtain ⟨y0, y1⟩ := fmod_in (i := z) (j := 2147483587) (by decide)
    generalize z.fmod 2147483587 = y at y0 y1
    walk_at "go"
    refine sMul.mk (mulok (by omega) (by omega)) ?_
    walk_at "go"
    refine Or.inl ⟨_, rfl, ?_⟩
    walk_at "go"
    refine sMod.mk (by decide) ?_
    obtain ⟨w0, w1⟩ := fmod_in (i := x * 37 + y * 20021 + 7) (j := 2147483563) (by decide)
    generalize (x * 37 + y * 20021 + 7).fmod 2147483563 = v at w0 w1
    refine Sts.cons (St.ret (Ev.lstM (EvA.cons (Ev.mono (R := fun d μ2 => (∃ a : Int, 0 ≤ a ∧ d = .int a) ∧ μ2 = μ1) (Ev.ifE (EvT.w (EvW.or (EvT.lt ?_)))) ?_))))
    · walk_at "go"
      have yes : ∀ p1 p2 p3 : Pos, Ev (bx P w K mg base Nl_well "_law_well" dl_well.scope (He.fAd K dl_well.at_) cd A outer s H) (.Call (.Name "abs" p1) [.Name "_law_own" p2] [] p3)
          [some (.lst (List.map DV.int ns)), some (.int t), some (.int v), u, some (.int z)] μ1 (fun d μ2 => (∃ a : Int, 0 ≤ a ∧ d = .int a) ∧ μ2 = μ1) := by
        intro p1 p2 p3
        refine Ev.abs rfl T.n_abs ?_
        walk_at "go"
        refine ⟨_, rfl, ⟨_, ?_, rfl⟩, rfl⟩
        split <;> omega
      refine ifd (fun _ => iteT (yes _ _ _)) (fun _ => EvW.or1 (EvT.ge ?_))
      walk_at "go"
      refine sPow.mk ⟨by decide, by decide, by decide⟩ ?_
      walk_at "go"
      exact ifd (fun _ => yes _ _ _) (fun _ => Ev.int ⟨⟨0, by decide, rfl⟩, rfl⟩)
    rintro d μ2 ⟨⟨a, ha, rfl⟩, rfl⟩
    walk_at "go"
    exact ⟨by show 4 ≤ sizeLine; decide, Or.inl (q a v ⟨ha, w0, w1, by decide, by decide⟩)⟩
end
end Lw

namespace Lw
open PySem PySem.Spec L2 Eg
local macro_rules | `(tactic| walk_at "vis") => `(tactic| first | exact Or.inl rfl | exact Or.inr (Or.inl rfl) | exact Or.inr (Or.inr rfl))
local macro_rules | `(tactic| walk_at "loc") => `(tactic| first | exact Or.inl rfl | exact Or.inr rfl)
local macro_rules | `(tactic| walk_at "nm") => `(tactic| first
  | refine Ev.name 0 (by rfl) (by walk_at "vis") (by rfl) ?_
  | refine Ev.name 1 (by rfl) (by walk_at "vis") (by rfl) ?_
  | refine Ev.name 2 (by rfl) (by walk_at "vis") (by rfl) ?_
  | refine Ev.name 3 (by rfl) (by walk_at "vis") (by rfl) ?_
  | refine Ev.name 4 (by rfl) (by walk_at "vis") (by rfl) ?_
  | refine Ev.name 5 (by rfl) (by walk_at "vis") (by rfl) ?_
  | refine Ev.name 6 (by rfl) (by walk_at "vis") (by rfl) ?_
  | refine Ev.name 7 (by rfl) (by walk_at "vis") (by rfl) ?_
  | refine Ev.name 8 (by rfl) (by walk_at "vis") (by rfl) ?_)
local macro_rules | `(tactic| walk_at "st") => `(tactic| first
  | refine St.set 1 (by assumption) (by rfl) (by walk_at "loc") (by walk_at "loc") ?_ rfl
  | refine St.set 2 (by assumption) (by rfl) (by walk_at "loc") (by walk_at "loc") ?_ rfl
  | refine St.set 3 (by assumption) (by rfl) (by walk_at "loc") (by walk_at "loc") ?_ rfl
  | refine St.set 4 (by assumption) (by rfl) (by walk_at "loc") (by walk_at "loc") ?_ rfl
  | refine St.set 5 (by assumption) (by rfl) (by walk_at "loc") (by walk_at "loc") ?_ rfl
  | refine St.set 6 (by assumption) (by rfl) (by walk_at "loc") (by walk_at "loc") ?_ rfl
  | refine St.set 7 (by assumption) (by rfl) (by walk_at "loc") (by walk_at "loc") ?_ rfl
  | refine St.set 8 (by assumption) (by rfl) (by walk_at "loc") (by walk_at "loc") ?_ rfl)
local macro_rules | `(tactic| walk_at "gn") => `(tactic| first
  | refine EvG.name 0 (by assumption) (by rfl) (by walk_at "loc") (by walk_at "loc") ?_
  | refine EvG.name 1 (by assumption) (by rfl) (by walk_at "loc") (by walk_at "loc") ?_
  | refine EvG.name 2 (by assumption) (by rfl) (by walk_at "loc") (by walk_at "loc") ?_
  | refine EvG.name 3 (by assumption) (by rfl) (by walk_at "loc") (by walk_at "loc") ?_
  | refine EvG.name 4 (by assumption) (by rfl) (by walk_at "loc") (by walk_at "loc") ?_
  | refine EvG.name 5 (by assumption) (by rfl) (by walk_at "loc") (by walk_at "loc") ?_
  | refine EvG.name 6 (by assumption) (by rfl) (by walk_at "loc") (by walk_at "loc") ?_
  | refine EvG.name 7 (by assumption) (by rfl) (by walk_at "loc") (by walk_at "loc") ?_
  | refine EvG.name 8 (by assumption) (by rfl) (by walk_at "loc") (by walk_at "loc") ?_)
local macro_rules | `(tactic| walk_at "one") => `(tactic| with_reducible first
  | refine sAdd.mk ?_ | refine sSub.mk ?_ | refine sLt.mk ?_ | refine sLe.mk ?_ | refine sGt.mk ?_ | refine sGe.mk ?_ | refine sEq.int ?_ | refine sNe.int ?_ | refine toT.mk ?_
  | refine Ev.int ?_ | refine Ev.str ?_ | refine Ev.bl ?_ | refine Ev.non ?_
  | refine Ev.sub ?_ | refine Ev.addI ?_ | refine Ev.mul ?_ | refine Ev.mod ?_ | refine Ev.fdiv ?_ | refine Ev.pow ?_ | refine Ev.neg ?_
  | refine Ev.lt ?_ | refine Ev.le ?_ | refine Ev.gt ?_ | refine Ev.ge ?_ | refine Ev.eq ?_ | refine Ev.ne ?_
  | refine Ev.ifE ?_ | refine Ev.tup ?_ | refine EvA.nil ?_ | refine EvA.cons ?_ rfl | refine EvT.not ?_
  | refine EvT.lt ?_ | refine EvT.le ?_ | refine EvT.gt ?_ | refine EvT.ge ?_ | refine EvT.eq ?_ | refine EvT.ne ?_
  | refine EvT.w ?_ | refine EvW.and ?_ | refine EvW.or ?_ | refine EvW.and1 ?_ | refine EvW.or1 ?_
  | refine Sts.cons ?_ | refine Sts.nil ?_ | refine St.ifS ?_ | refine St.ret ?_ | refine St.expr ?_ rfl)
local macro_rules | `(tactic| walk_at "go") => `(tactic| repeat (first | ((with_reducible show Ev _ (.Name _ _) _ _ _); (walk_at "nm")) | walk_at "one" | ((with_reducible show St _ (.Assign [.Name _ _] _ _) _ _ _); (walk_at "st"))))
/-! ### how far the law's own token goes -/
def isLet (c : Nat) : Bool := decide (97 ≤ c ∧ c ≤ 122)
def isFig (c : Nat) : Bool := decide (48 ≤ c ∧ c ≤ 57)
def letL : Nat → List Nat → Nat × Bool
  | far, [] => if 12 < far then (12, true) else (far, false)
  | far, c :: r => if (isLet c || isFig c) = true then letL (far + 1) r else (far, false)
def figL (k : Nat) : Nat → List Nat → Nat × Bool
  | far, [] => (far, false)
  | far, c :: r => if isFig c = true then (if k = 48 ∨ far = 40 then (far, true) else figL k (far + 1) r) else (far, isLet c)
def longL (t : List Nat) (i k : Nat) : Nat × Bool :=
  if isLet k = true then letL 1 ((t.drop (i + 1)).take 12) else if isFig k = true then figL k 1 ((t.drop (i + 1)).take 40) else if longAt t i = true then (2, false) else if k ∈ sgS then (1, false) else (0, true)
theorem slice_any {z : Str} {a n : Nat} : cutS z (some (a : Int)) (some ((a + n : Nat) : Int)) = sOf ((z.cps.toList.drop a).take n) := by
  have hlen : z.length = z.cps.toList.length := (Array.length_toList).symm
  have e1 : HT.sIx z.length 0 (some (a : Int)) = min a z.length := by
    unfold HT.sIx
    dsimp only
    rw [if_neg (by omega)]
    omega
  have e2 : HT.sIx z.length z.length (some ((a + n : Nat) : Int)) = min (a + n) z.length := by
    unfold HT.sIx
    dsimp only
    rw [if_neg (by omega)]
    omega
  unfold cutS
  rw [e1, e2]
  have ld : ∀ m, (z.cps.toList.drop m).length = z.length - m := fun m => by rw [List.length_drop, hlen]
  by_cases h : a ≤ z.length
  · rw [Nat.min_eq_left h]
    by_cases h2 : a + n ≤ z.length
    · rw [show min (a + n) z.length - a = n by omega]
    · rw [List.take_of_length_le (by rw [ld]; omega), List.take_of_length_le (by rw [ld]; omega)]
  · rw [Nat.min_eq_right (show z.length ≤ a by omega), Nat.min_eq_right (show z.length ≤ a + n by omega), Nat.sub_self, List.drop_eq_nil_of_le (show z.cps.toList.length ≤ a by omega)]
    simp
theorem sgD_of (u : List Nat) : sgD (sOf u) = u.map fun c => DV.str ⟨#[c]⟩ := by
  unfold sgD
  rw [List.toList_toArray]
def shS : List Str := ["(", ")", "{", "}", "[", "]", ",", ";", "=", "<", "+", "-", "*"]
def C_long : Ctr := fun ds μ R => ∃ (z : Str) (i k : Nat), ds = [.str z, .int i] ∧ z.length ≤ 3000 ∧ z.cps.toList[i]? = some k ∧ R (.tup [.int ((longL z.cps.toList i k).1 : Nat), .bl (longL z.cps.toList i k).2]) μ
section
variable {P : Program} {w : World} {K : PySem.W.Frag} {mg : Str → Option Value} {base : Heap}
theorem ok_long (T : Fx K mg) : Fn P w K mg base "_law_long" 1 C_long := by
  obtain ⟨fd, F⟩ := T.d_l_long
  refine Fn.mk (N := Nl_long) (ps := ["_law_said", "_law_spot"]) F scl_long T.g_l_long (fun _ _ _ _ _ _ us hl => match us, hl with | [_, _], _ => rfl) ?_ ?_
  · rintro ds μ R ⟨z, i, k, rfl, _⟩
    rfl
  rintro cd A outer s H hg hr hnd ds μ R ⟨z, i, k, rfl, hz, hc, q⟩
  have hz' : z.length ≤ sizeLine := by rw [sizeLine_eq]; omega
  have hlen : z.length = z.cps.toList.length := (Array.length_toList).symm
  have hat : atI z.cps.toList (i : Int) = some k := atI_of (by omega) (by rw [Int.toNat_natCast]; exact hc)
  unfold longL at q
  refine Sts.cons (St.par 2 3 rfl hnd rfl rfl (by decide) rfl rfl (EvA.cons (Ev.at ?_) rfl))
  walk_at "go"
  refine sIx.str hz' hat ?_
  walk_at "go"
  refine ⟨_, _, rfl, ?_⟩
  refine Sts.cons (St.ifS (EvT.between (lo := 97) (hi := 122) rfl rfl ?_))
  walk_at "nm"
  refine ⟨k, rfl, ifd (fun hl => ?_) (fun hl => Sts.nil ?_)⟩
  · rw [if_pos (show isLet k = true from decide_eq_true hl)] at q
    generalize hu : (z.cps.toList.drop (i + 1)).take 12 = u at q
    refine Sts.cons (St.for_ PassesOwn.never rfl (EvI.str (Ev.sliceS ?_)))
    walk_at "nm"
    refine ⟨z, rfl, hz', EvP.some ?_⟩
    walk_at "go"
    refine ⟨_, rfl, EvP.some ?_⟩
    walk_at "go"
    have esl : cutS z (some ((i : Int) + 1)) (some ((i : Int) + 13)) = sOf u := by
      rw [← hu, ← slice_any]
      have a1 : ((i : Int) + 1) = ((i + 1 : Nat) : Int) := by omega
      have a2 : ((i : Int) + 13) = ((i + 1 + 12 : Nat) : Int) := by omega
      rw [a1, a2]
    refine ⟨_, rfl, _, rfl, ?_⟩
    rw [esl, sgD_of]
    refine ⟨fun j ρ' μ' => ∃ x, ρ' = [some (.str z), some (.int i), some (.str ⟨#[k]⟩), some (.int ((1 + j : Nat) : Int)), x] ∧ μ' = μ ∧ letL 1 u = letL (1 + j) (u.drop j), ⟨_, rfl, rfl, rfl⟩, ?_, ?_⟩
    · rintro j d ρ' μ' hd ⟨x, rfl, rfl, hb⟩
      rw [List.getElem?_map] at hd
      obtain ⟨c, hj, rfl⟩ := Option.map_eq_some_iff.mp hd
      obtain ⟨hjl, hje⟩ := List.getElem?_eq_some_iff.mp hj
      rw [List.drop_eq_getElem_cons hjl, hje] at hb
      have hb' : letL 1 u = if (isLet c || isFig c) = true then letL (1 + j + 1) (u.drop (j + 1)) else (1 + j, false) := hb
      walk_at "gn"
      refine Sts.cons (St.ifS (EvT.not (EvT.w (EvW.or (EvT.between (lo := 97) (hi := 122) rfl rfl ?_)))))
      walk_at "nm"
      have ecast : ((1 + j : Nat) : Int) + 1 = ((1 + (j + 1) : Nat) : Int) := by omega
      refine ⟨c, rfl, ifd (fun h1 => iteF ?_) (fun h1 => EvW.or1 (EvT.between (lo := 48) (hi := 57) rfl rfl ?_))⟩
      · have e : (isLet c || isFig c) = true := by rw [show isLet c = true from decide_eq_true h1]; rfl
        rw [if_pos e] at hb'
        refine Sts.nil (Sts.cons ?_)
        walk_at "go"
        refine Sts.nil ⟨some (.str ⟨#[c]⟩), ?_, rfl, hb'⟩
        rw [ecast]
        rfl
      walk_at "nm"
      refine ⟨c, rfl, ?_⟩
      by_cases h2 : 48 ≤ c ∧ c ≤ 57
      · refine ifnF h2 ?_
        have e : (isLet c || isFig c) = true := by rw [show isFig c = true from decide_eq_true h2, Bool.or_true]
        rw [if_pos e] at hb'
        refine Sts.nil (Sts.cons ?_)
        walk_at "go"
        refine Sts.nil ⟨some (.str ⟨#[c]⟩), ?_, rfl, hb'⟩
        rw [ecast]
        rfl
      · refine ifnT h2 ?_
        have e : (isLet c || isFig c) = false := by rw [show isLet c = false from decide_eq_false h1, show isFig c = false from decide_eq_false h2]; rfl
        rw [if_neg (by rw [e]; decide)] at hb'
        rw [hb'] at q
        refine Sts.cons (St.ret (Ev.tup ?_))
        walk_at "go"
        exact ⟨by show 2 ≤ sizeLine; decide, Or.inl q⟩
    · rintro ρ' μ' ⟨x, rfl, rfl, hb⟩
      rw [List.length_map, List.drop_length] at hb
      rw [List.length_map]
      have hb' : letL 1 u = if 12 < 1 + u.length then (12, true) else (1 + u.length, false) := hb
      rw [hb'] at q
      refine Sts.cons (St.ret (Ev.ifE (EvT.gt ?_)))
      walk_at "go"
      refine ifd (fun h => Ev.tup ?_) (fun h => Ev.tup ?_)
      · rw [if_pos (by omega)] at q
        walk_at "go"
        exact ⟨by show 2 ≤ sizeLine; decide, Or.inl q⟩
      · rw [if_neg (by omega)] at q
        walk_at "go"
        exact ⟨by show 2 ≤ sizeLine; decide, Or.inl q⟩
  rw [if_neg (show ¬ isLet k = true from fun e => hl (of_decide_eq_true e))] at q
  refine Sts.cons (St.ifS (EvT.between (lo := 48) (hi := 57) rfl rfl ?_))
  walk_at "nm"
  refine ⟨k, rfl, ifd (fun hf => ?_) (fun hf => Sts.nil ?_)⟩
  · rw [if_pos (show isFig k = true from decide_eq_true hf)] at q
    generalize hu : (z.cps.toList.drop (i + 1)).take 40 = u at q
    refine Sts.cons (St.for_ PassesOwn.never rfl (EvI.str (Ev.sliceS ?_)))
    walk_at "nm"
    refine ⟨z, rfl, hz', EvP.some ?_⟩
    walk_at "go"
    refine ⟨_, rfl, EvP.some ?_⟩
    walk_at "go"
    have esl : cutS z (some ((i : Int) + 1)) (some ((i : Int) + 41)) = sOf u := by
      rw [← hu, ← slice_any]
      have a1 : ((i : Int) + 1) = ((i + 1 : Nat) : Int) := by omega
      have a2 : ((i : Int) + 41) = ((i + 1 + 40 : Nat) : Int) := by omega
      rw [a1, a2]
    refine ⟨_, rfl, _, rfl, ?_⟩
    rw [esl, sgD_of]
    refine ⟨fun j ρ' μ' => ∃ x, ρ' = [some (.str z), some (.int i), some (.str ⟨#[k]⟩), some (.int ((1 + j : Nat) : Int)), x] ∧ μ' = μ ∧ figL k 1 u = figL k (1 + j) (u.drop j), ⟨_, rfl, rfl, rfl⟩, ?_, ?_⟩
    · rintro j d ρ' μ' hd ⟨x, rfl, rfl, hb⟩
      rw [List.getElem?_map] at hd
      obtain ⟨c, hj, rfl⟩ := Option.map_eq_some_iff.mp hd
      obtain ⟨hjl, hje⟩ := List.getElem?_eq_some_iff.mp hj
      rw [List.drop_eq_getElem_cons hjl, hje] at hb
      have hb' : figL k 1 u = if isFig c = true then (if k = 48 ∨ 1 + j = 40 then (1 + j, true) else figL k (1 + j + 1) (u.drop (j + 1))) else (1 + j, isLet c) := hb
      walk_at "gn"
      have ecast : ((1 + j : Nat) : Int) + 1 = ((1 + (j + 1) : Nat) : Int) := by omega
      refine Sts.cons (St.ifS (EvT.not (EvT.between (lo := 48) (hi := 57) rfl rfl ?_)))
      walk_at "nm"
      refine ⟨c, rfl, ?_⟩
      by_cases h1 : 48 ≤ c ∧ c ≤ 57
      · rw [decide_eq_true h1]
        rw [if_pos (show isFig c = true from decide_eq_true h1)] at hb'
        refine iteF (Sts.nil (Sts.cons (St.ifS (EvT.w (EvW.or (EvT.eq ?_))))))
        walk_at "go"
        refine sEq.sign (d := 48) ?_
        walk_at "go"
        refine ifd (fun h2 => iteT ?_) (fun h2 => EvW.or1 (EvT.eq ?_))
        · rw [if_pos (Or.inl h2)] at hb'
          rw [hb'] at q
          refine Sts.cons (St.ret (Ev.tup ?_))
          walk_at "go"
          exact ⟨by show 2 ≤ sizeLine; decide, Or.inl q⟩
        walk_at "go"
        refine ifd (fun h3 => ?_) (fun h3 => ?_)
        · rw [if_pos (Or.inr (by omega))] at hb'
          rw [hb'] at q
          refine Sts.cons (St.ret (Ev.tup ?_))
          walk_at "go"
          exact ⟨by show 2 ≤ sizeLine; decide, Or.inl q⟩
        · rw [if_neg (fun e => e.elim h2 (fun e => h3 (by omega)))] at hb'
          refine Sts.nil (Sts.cons ?_)
          walk_at "go"
          refine Sts.nil ⟨some (.str ⟨#[c]⟩), ?_, rfl, hb'⟩
          rw [ecast]
          rfl
      · rw [decide_eq_false h1]
        rw [if_neg (show ¬ isFig c = true from fun e => h1 (of_decide_eq_true e))] at hb'
        rw [hb'] at q
        refine iteT (Sts.cons (St.ret (Ev.tup ?_)))
        walk_at "go"
        refine Ev.between (lo := 97) (hi := 122) rfl rfl ?_
        walk_at "nm"
        exact ⟨c, rfl, EvA.nil ⟨by show 2 ≤ sizeLine; decide, Or.inl q⟩⟩
    · rintro ρ' μ' ⟨x, rfl, rfl, hb⟩
      rw [List.length_map, List.drop_length] at hb
      rw [List.length_map]
      have hb' : figL k 1 u = (1 + u.length, false) := hb
      rw [hb'] at q
      refine Sts.cons (St.ret (Ev.tup ?_))
      walk_at "go"
      exact ⟨by show 2 ≤ sizeLine; decide, Or.inl q⟩
  rw [if_neg (show ¬ isFig k = true from fun e => hf (of_decide_eq_true e))] at q
  refine Sts.cons (St.ifS (EvT.inL (Ev.sliceS ?_)))
  walk_at "nm"
  refine ⟨z, rfl, hz', EvP.some ?_⟩
  walk_at "go"
  refine ⟨_, rfl, EvP.some ?_⟩
  walk_at "go"
  refine ⟨_, rfl, Ev.tup ?_⟩
  walk_at "go"
  refine ⟨by show 3 ≤ sizeLine; decide, _, _, _, rfl, rfl, flatL_strs lgS, _, rfl, ?_⟩
  have hi : i < z.length := by
    rw [hlen]
    exact (List.getElem?_eq_some_iff.mp hc).1
  have el : inV (V.str (cutS z (some (i : Int)) (some ((i : Int) + 2)))) (lgS.map V.str) = longAt z.cps.toList i := by
    rw [inV_str, slice2 hi]
    unfold longAt
    rw [List.contains_eq_mem]
    rfl
  show if inV (V.str (cutS z (some (i : Int)) (some ((i : Int) + 2)))) (lgS.map V.str) = true then _ else _
  rw [el]
  by_cases hl2 : longAt z.cps.toList i = true
  · rw [hl2]
    rw [if_pos hl2] at q
    refine iteT (Sts.cons (St.ret (Ev.tup ?_)))
    walk_at "go"
    exact ⟨by show 2 ≤ sizeLine; decide, Or.inl q⟩
  · rw [if_neg hl2] at q
    have hl' : longAt z.cps.toList i = false := by simpa using hl2
    rw [hl']
    refine iteF (Sts.nil (Sts.cons (St.ret (Ev.ifE (EvT.inL ?_)))))
    walk_at "go"
    refine ⟨by show 13 ≤ sizeLine; decide, _, _, _, rfl, rfl, flatL_strs shS, _, rfl, ?_⟩
    have es : inV (V.str ⟨#[k]⟩) (shS.map V.str) = decide (k ∈ sgS) := by
      rw [inV_str]
      refine decide_eq_decide.mpr ?_
      have em : (shS.map fun z => z.cps.toList) = sgS.map fun c => [c] := by decide +kernel
      rw [em]
      show [k] ∈ sgS.map (fun c => [c]) ↔ k ∈ sgS
      simp
    show if inV (V.str ⟨#[k]⟩) (shS.map V.str) = true then _ else _
    rw [es]
    refine ifd (fun h => Ev.tup ?_) (fun h => Ev.tup ?_)
    · rw [if_pos h] at q
      walk_at "go"
      exact ⟨by show 2 ≤ sizeLine; decide, Or.inl q⟩
    · rw [if_neg h] at q
      walk_at "go"
      exact ⟨by show 2 ≤ sizeLine; decide, Or.inl q⟩
end
end Lw

namespace Lw
open PySem PySem.Spec L2 Eg
local macro_rules | `(tactic| walk_at "vis") => `(tactic| first | exact Or.inl rfl | exact Or.inr (Or.inl rfl) | exact Or.inr (Or.inr rfl))
local macro_rules | `(tactic| walk_at "loc") => `(tactic| first | exact Or.inl rfl | exact Or.inr rfl)
local macro_rules | `(tactic| walk_at "nm") => `(tactic| first
  | refine Ev.name 0 (by rfl) (by walk_at "vis") (by rfl) ?_
  | refine Ev.name 1 (by rfl) (by walk_at "vis") (by rfl) ?_
  | refine Ev.name 2 (by rfl) (by walk_at "vis") (by rfl) ?_
  | refine Ev.name 3 (by rfl) (by walk_at "vis") (by rfl) ?_
  | refine Ev.name 4 (by rfl) (by walk_at "vis") (by rfl) ?_
  | refine Ev.name 5 (by rfl) (by walk_at "vis") (by rfl) ?_
  | refine Ev.name 6 (by rfl) (by walk_at "vis") (by rfl) ?_
  | refine Ev.name 7 (by rfl) (by walk_at "vis") (by rfl) ?_
  | refine Ev.name 8 (by rfl) (by walk_at "vis") (by rfl) ?_)
local macro_rules | `(tactic| walk_at "st") => `(tactic| first
  | refine St.set 1 (by assumption) (by rfl) (by walk_at "loc") (by walk_at "loc") ?_ rfl
  | refine St.set 2 (by assumption) (by rfl) (by walk_at "loc") (by walk_at "loc") ?_ rfl
  | refine St.set 3 (by assumption) (by rfl) (by walk_at "loc") (by walk_at "loc") ?_ rfl
  | refine St.set 4 (by assumption) (by rfl) (by walk_at "loc") (by walk_at "loc") ?_ rfl
  | refine St.set 5 (by assumption) (by rfl) (by walk_at "loc") (by walk_at "loc") ?_ rfl
  | refine St.set 6 (by assumption) (by rfl) (by walk_at "loc") (by walk_at "loc") ?_ rfl
  | refine St.set 7 (by assumption) (by rfl) (by walk_at "loc") (by walk_at "loc") ?_ rfl
  | refine St.set 8 (by assumption) (by rfl) (by walk_at "loc") (by walk_at "loc") ?_ rfl)
local macro_rules | `(tactic| walk_at "gn") => `(tactic| first
  | refine EvG.name 0 (by assumption) (by rfl) (by walk_at "loc") (by walk_at "loc") ?_
  | refine EvG.name 1 (by assumption) (by rfl) (by walk_at "loc") (by walk_at "loc") ?_
  | refine EvG.name 2 (by assumption) (by rfl) (by walk_at "loc") (by walk_at "loc") ?_
  | refine EvG.name 3 (by assumption) (by rfl) (by walk_at "loc") (by walk_at "loc") ?_
  | refine EvG.name 4 (by assumption) (by rfl) (by walk_at "loc") (by walk_at "loc") ?_
  | refine EvG.name 5 (by assumption) (by rfl) (by walk_at "loc") (by walk_at "loc") ?_
  | refine EvG.name 6 (by assumption) (by rfl) (by walk_at "loc") (by walk_at "loc") ?_
  | refine EvG.name 7 (by assumption) (by rfl) (by walk_at "loc") (by walk_at "loc") ?_
  | refine EvG.name 8 (by assumption) (by rfl) (by walk_at "loc") (by walk_at "loc") ?_)
local macro_rules | `(tactic| walk_at "one") => `(tactic| with_reducible first
  | refine sAdd.mk ?_ | refine sSub.mk ?_ | refine sLt.mk ?_ | refine sLe.mk ?_ | refine sGt.mk ?_ | refine sGe.mk ?_ | refine sEq.int ?_ | refine sNe.int ?_ | refine toT.mk ?_
  | refine Ev.int ?_ | refine Ev.str ?_ | refine Ev.bl ?_ | refine Ev.non ?_
  | refine Ev.sub ?_ | refine Ev.addI ?_ | refine Ev.mul ?_ | refine Ev.mod ?_ | refine Ev.fdiv ?_ | refine Ev.pow ?_ | refine Ev.neg ?_
  | refine Ev.lt ?_ | refine Ev.le ?_ | refine Ev.gt ?_ | refine Ev.ge ?_ | refine Ev.eq ?_ | refine Ev.ne ?_
  | refine Ev.ifE ?_ | refine Ev.tup ?_ | refine EvA.nil ?_ | refine EvA.cons ?_ rfl | refine EvT.not ?_
  | refine EvT.lt ?_ | refine EvT.le ?_ | refine EvT.gt ?_ | refine EvT.ge ?_ | refine EvT.eq ?_ | refine EvT.ne ?_
  | refine EvT.w ?_ | refine EvW.and ?_ | refine EvW.or ?_ | refine EvW.and1 ?_ | refine EvW.or1 ?_
  | refine Sts.cons ?_ | refine Sts.nil ?_ | refine St.ifS ?_ | refine St.ret ?_ | refine St.expr ?_ rfl)
local macro_rules | `(tactic| walk_at "go") => `(tactic| repeat (first | ((with_reducible show Ev _ (.Name _ _) _ _ _); (walk_at "nm")) | walk_at "one" | ((with_reducible show St _ (.Assign [.Name _ _] _ _) _ _ _); (walk_at "st"))))
/-! ### the law's own cutting -/
def upNL : List Nat → Nat
  | [] => 0
  | c :: r => if c = 10 then 0 else upNL r + 1
def lawCut : Nat → List Nat → Nat → Nat → Nat → List (List Nat × Nat × Nat × Nat) × Option (Nat × Nat × Nat)
  | 0, _, _, _, _ => ([], none)
  | n + 1, t, spot, row, lead => match t[spot]? with
    | none => ([], none)
    | some k => if k = 35 then lawCut n t (spot + upNL (t.drop spot)) row lead else if k = 10 then lawCut n t (spot + 1) (row + 1) (spot + 1) else if k = 32 then lawCut n t (spot + 1) row lead else
      if (longL t spot k).2 = true then ([], some (row, spot + (longL t spot k).1 - lead + 1, spot + (longL t spot k).1 + 1))
      else (((t.drop spot).take (longL t spot k).1, row, spot - lead + 1, spot + (longL t spot k).1) :: (lawCut n t (spot + (longL t spot k).1) row lead).1, (lawCut n t (spot + (longL t spot k).1) row lead).2)
theorem upNL_le : ∀ u : List Nat, upNL u ≤ u.length
  | [] => Nat.le_refl _
  | c :: r => by
    unfold upNL
    split
    · exact Nat.zero_le _
    · have := upNL_le r
      rw [List.length_cons]
      omega
theorem upNL_get : ∀ u : List Nat, (∀ j, j < upNL u → u[j]? ≠ some 10) ∧ (upNL u < u.length → u[upNL u]? = some 10)
  | [] => ⟨fun j h => absurd h (Nat.not_lt_zero _), fun h => absurd h (Nat.not_lt_zero _)⟩
  | c :: r => by
    obtain ⟨h1, h2⟩ := upNL_get r
    unfold upNL
    split
    · rename_i e
      exact ⟨fun j h => absurd h (Nat.not_lt_zero _), fun _ => by rw [e]; rfl⟩
    · rename_i e
      refine ⟨fun j h => ?_, fun h => ?_⟩
      · cases j with
        | zero => exact fun z => e (Option.some.inj z)
        | succ j => exact h1 j (by omega)
      · rw [List.length_cons] at h
        exact h2 (by omega)
theorem find_nl {z : Str} {i : Nat} (hi : i ≤ z.length) : (if Txt.find3 z (Str.ofString "\n") (i : Int) < 0 then (z.length : Int) else Txt.find3 z (Str.ofString "\n") (i : Int)) = ((i + upNL (z.cps.toList.drop i) : Nat) : Int) := by
  have e : Str.ofString "\n" = ⟨#[10]⟩ := rfl
  rw [e]
  have sp := StrLaws.find3_spec z 10 (i : Int)
  have fi : fromIndex z.length (i : Int) = i := by
    unfold fromIndex
    (repeat' split) <;> omega
  rw [fi] at sp
  have hlen : z.length = z.cps.toList.length := (Array.length_toList).symm
  obtain ⟨u1, u2⟩ := upNL_get (z.cps.toList.drop i)
  have ul := upNL_le (z.cps.toList.drop i)
  rw [List.length_drop, ← hlen] at ul u2
  generalize upNL (z.cps.toList.drop i) = m at u1 u2 ul
  have gd : ∀ v, (z.cps.toList.drop i)[v]? = z.cps.toList[i + v]? := fun v => List.getElem?_drop ..
  rcases sp with ⟨h0, hn⟩ | ⟨k, h0, h1, h2, h3, hn⟩
  · rw [h0, if_pos (by decide)]
    by_cases hm : m < z.length - i
    · have z1 := u2 hm
      rw [gd] at z1
      exact absurd (StrLaws.getD_of_getElem? z1) (hn (i + m) (by omega) (by omega))
    · omega
  · rw [h0, if_neg (by omega)]
    have z3 := StrLaws.getElem?_of_getD h2 h3
    have k1 : ¬ (k - i < m) := fun hk => by
      have z1 := u1 (k - i) hk
      rw [gd, show i + (k - i) = k by omega] at z1
      exact z1 z3
    have k2 : ¬ (m < k - i) := fun hk => by
      have z1 := u2 (by omega)
      rw [gd] at z1
      exact hn (i + m) (by omega) (by omega) (StrLaws.getD_of_getElem? z1)
    omega
def tlD (t : List Nat × Nat × Nat × Nat) : DV := .tup [.str (sOf t.1), .int t.2.1, .int t.2.2.1, .int t.2.2.2]
def bad3 : Option (Nat × Nat × Nat) → DV
  | none => .non
  | some (a, b, c) => .tup [.int a, .int b, .int c]
def C_lcut : Ctr := fun ds μ R => ∃ z : Str, ds = [.str z] ∧ z.length ≤ 3000 ∧ ∀ μs, R (.tup [.lst ((lawCut z.length z.cps.toList 0 1 0).1.map tlD), bad3 (lawCut z.length z.cps.toList 0 1 0).2]) (μ ++ μs)
section
variable {P : Program} {w : World} {K : PySem.W.Frag} {mg : Str → Option Value} {base : Heap}
theorem ok_lcut (T : Fx K mg) : Fn P w K mg base "_law_cut" 2 C_lcut := by
  obtain ⟨fd, F⟩ := T.d_l_cut
  refine Fn.mk (N := Nl_cut) (ps := ["_law_said"]) F scl_cut T.g_l_cut (fun _ _ _ _ _ _ us hl => match us, hl with | [_], _ => rfl) ?_ ?_
  · rintro ds μ R ⟨z, rfl, _⟩
    rfl
  rintro cd A outer s H hg hr hnd ds μ R ⟨z, rfl, hz, q⟩
  have hz' : z.length ≤ sizeLine := by rw [sizeLine_eq]; omega
  have hlen : z.length = z.cps.toList.length := (Array.length_toList).symm
  generalize htot : lawCut z.length z.cps.toList 0 1 0 = tot at q
  refine Sts.cons (St.asg (Ev.tup (EvA.cons (Ev.lstM (EvA.nil ⟨by decide, ?_⟩)) rfl)))
  walk_at "go"
  refine ⟨by show 4 ≤ sizeLine; decide, ?_⟩
  refine EvG.tup rfl (EvGs.cons (EvG.name 1 (by assumption) (by rfl) (by walk_at "loc") (by walk_at "loc") (EvGs.cons (EvG.name 2 (by assumption) (by rfl) (by walk_at "loc") (by walk_at "loc") (EvGs.cons (EvG.name 3 (by assumption) (by rfl) (by walk_at "loc") (by walk_at "loc") (EvGs.cons (EvG.name 4 (by assumption) (by rfl) (by walk_at "loc") (by walk_at "loc") (EvGs.nil ?_)) rfl)) rfl)) rfl)) rfl)
  have hat : ∀ Fz : List DV, (μ ++ [MO.lst Fz])[μ.length]? = some (.lst Fz) := fun Fz => by
    rw [List.getElem?_append_right (Nat.le_refl _), Nat.sub_self]
    rfl
  have hset : ∀ (Fz : List DV) (m : MO), (μ ++ [MO.lst Fz]).set μ.length m = μ ++ [m] := fun Fz m => by simp
  have over : ∀ (ρ' : RO) (Fz : List DV), ρ'[1]? = some (some (.mu μ.length)) → Fz = tot.1.map tlD → tot.2 = none →
      Sts (bx P w K mg base Nl_cut "_law_cut" dl_cut.scope (He.fAd K dl_cut.at_) cd A outer s H) (dl_cut.body.drop 2) ρ' (μ ++ [.lst Fz]) (fin μ.length R) := by
    rintro ρ' Fz h1 rfl h2
    obtain ⟨t1, t2⟩ := tot
    obtain rfl : t2 = none := h2
    refine Sts.cons (St.ret (Ev.tup (EvA.cons (Ev.frz (Ev.name 1 (by rfl) (by walk_at "vis") h1 ⟨μ.length, _, rfl, hat _, ?_⟩)) rfl)))
    rw [hset]
    walk_at "go"
    exact ⟨by show 2 ≤ sizeLine; decide, Or.inl (q _)⟩
  refine Sts.cons (St.for_ PassesOwn.never rfl (EvI.range1 rfl T.n_range (EvA.cons (Ev.len rfl T.n_len ?_) rfl)))
  walk_at "go"
  refine lenS hz' ?_
  walk_at "go"
  refine ⟨_, rfl, by omega, by omega, fun j ρ' μ' => ∃ (Fz : List DV) (spot row lead : Nat) (a b c d : Option DV), ρ' = [some (.str z), some (.mu μ.length), some (.int spot), some (.int row), some (.int lead), a, b, c, d] ∧ μ' = μ ++ [.lst Fz] ∧ lead ≤ spot ∧ Fz.length ≤ j ∧
    Fz ++ (lawCut (z.length - j) z.cps.toList spot row lead).1.map tlD = tot.1.map tlD ∧ (lawCut (z.length - j) z.cps.toList spot row lead).2 = tot.2, ⟨[], 0, 1, 0, _, _, _, _, rfl, rfl, by omega, by simp, by simp [htot], by simp [htot]⟩, ?_, ?_⟩
  · rintro j d ρ' μ' hd ⟨Fz, spot, row, lead, a, b, c, d', rfl, rfl, h1, hF, hG1, hG2⟩
    have hj := (List.getElem?_eq_some_iff.mp hd).1
    rw [rgD_len] at hj
    have ej : z.length - j = (z.length - (j + 1)) + 1 := by omega
    rw [ej] at hG1 hG2
    unfold lawCut at hG1 hG2
    walk_at "gn"
    refine Sts.cons (St.ifS (EvT.ge ?_))
    walk_at "go"
    refine Ev.len rfl T.n_len ?_
    walk_at "go"
    refine lenS hz' ?_
    walk_at "go"
    refine ifd (fun hge => ?_) (fun hlt => Sts.nil ?_)
    · rw [List.getElem?_eq_none (by omega)] at hG1 hG2
      dsimp only at hG1 hG2
      refine Sts.cons (St.brk ?_)
      exact over _ Fz rfl (by simpa using hG1) hG2.symm
    have hlt' : spot < z.cps.toList.length := by omega
    have hc : z.cps.toList[spot]? = some z.cps.toList[spot] := List.getElem?_eq_getElem hlt'
    generalize z.cps.toList[spot] = k at hc
    have hatk : atI z.cps.toList (spot : Int) = some k := atI_of (by omega) (by rw [Int.toNat_natCast]; exact hc)
    rw [hc] at hG1 hG2
    dsimp only at hG1 hG2
    refine Sts.cons (St.ifS (EvT.eq (Ev.at ?_)))
    walk_at "go"
    refine sIx.str hz' hatk ?_
    walk_at "go"
    refine sEq.sign (d := 35) ?_
    walk_at "go"
    refine ifd (fun h35 => ?_) (fun h35 => ?_)
    · rw [if_pos h35] at hG1 hG2
      have hsp : spot ≤ z.length := by omega
      have fn := find_nl hsp
      refine Sts.cons (St.set 6 (by assumption) (by rfl) (by walk_at "loc") (by walk_at "loc") (Ev.find3 ?_) rfl)
      walk_at "nm"
      refine ⟨z, rfl, ?_⟩
      walk_at "go"
      refine ⟨_, _, rfl, ?_⟩
      generalize Txt.find3 z (Str.ofString "\n") (spot : Int) = ff at fn
      refine Sts.cons (St.set 2 (by assumption) (by rfl) (by walk_at "loc") (by walk_at "loc") (Ev.mono (R := fun d μ1 => d = .int ((spot + upNL (z.cps.toList.drop spot) : Nat) : Int) ∧ μ1 = μ ++ [.lst Fz]) (Ev.ifE (EvT.lt ?_)) ?_) rfl)
      · walk_at "go"
        refine ifd (fun h => Ev.len rfl T.n_len ?_) (fun h => ?_)
        · walk_at "go"
          refine lenS hz' ⟨?_, rfl⟩
          rw [if_pos h] at fn
          rw [fn]
        · walk_at "nm"
          refine ⟨?_, rfl⟩
          rw [if_neg h] at fn
          rw [fn]
      · rintro d μ1 ⟨rfl, rfl⟩
        exact Sts.nil (Sts.nil ⟨Fz, _, row, lead, _, _, _, _, rfl, rfl, by omega, by omega, hG1, hG2⟩)
    rw [if_neg h35] at hG1 hG2
    refine Sts.cons (St.ifS (EvT.eq (Ev.at ?_)))
    walk_at "go"
    refine sIx.str hz' hatk ?_
    walk_at "go"
    refine sEq.sign (d := 10) ?_
    walk_at "go"
    refine ifd (fun h10 => ?_) (fun h10 => ?_)
    · rw [if_pos h10] at hG1 hG2
      refine Sts.cons (St.par3 3 2 4 rfl hnd rfl rfl rfl (by decide) (by decide) (by decide) rfl rfl rfl ?_)
      walk_at "go"
      exact ⟨_, _, _, rfl, Sts.nil (Sts.nil (Sts.nil ⟨Fz, spot + 1, row + 1, spot + 1, _, _, _, _, rfl, rfl, by omega, by omega, hG1, hG2⟩))⟩
    rw [if_neg h10] at hG1 hG2
    refine Sts.cons (St.ifS (EvT.eq (Ev.at ?_)))
    walk_at "go"
    refine sIx.str hz' hatk ?_
    walk_at "go"
    refine sEq.sign (d := 32) ?_
    walk_at "go"
    refine ifd (fun h32 => ?_) (fun h32 => ?_)
    · rw [if_pos h32] at hG1 hG2
      refine Sts.cons ?_
      walk_at "go"
      exact Sts.nil (Sts.nil (Sts.nil (Sts.nil ⟨Fz, spot + 1, row, lead, _, _, _, _, rfl, rfl, by omega, by omega, hG1, hG2⟩)))
    rw [if_neg h32] at hG1 hG2
    refine Sts.cons (St.asg (Ev.call (ok_long T) hg (hr.mono (by decide)) rfl ?_))
    walk_at "go"
    refine ⟨z, spot, k, rfl, hz, hc, ?_⟩
    generalize longL z.cps.toList spot k = lg at hG1 hG2 ⊢
    refine EvG.tup rfl (EvGs.cons (EvG.name 7 (by assumption) (by rfl) (by walk_at "loc") (by walk_at "loc") (EvGs.cons (EvG.name 8 (by assumption) (by rfl) (by walk_at "loc") (by walk_at "loc") (EvGs.nil ?_)) rfl)) rfl)
    obtain ⟨far, bad⟩ := lg
    refine Sts.cons (St.ifS (EvT.val ?_))
    walk_at "nm"
    refine ⟨_, rfl, ?_⟩
    cases bad with
    | true =>
      rw [if_pos rfl] at hG1 hG2
      obtain ⟨t1, t2⟩ := tot
      dsimp only at hG1 hG2
      subst hG2
      have e1 : Fz = t1.map tlD := by simpa using hG1
      have ec : bad3 (some (row, spot + far - lead + 1, spot + far + 1)) = DV.tup [.int row, .int ((spot : Int) + far - lead + 1), .int ((spot : Int) + far + 1)] := by
        have a1 : ((spot + far - lead + 1 : Nat) : Int) = (spot : Int) + far - lead + 1 := by omega
        have a2 : ((spot + far + 1 : Nat) : Int) = (spot : Int) + far + 1 := by omega
        show DV.tup [.int row, .int ((spot + far - lead + 1 : Nat) : Int), .int ((spot + far + 1 : Nat) : Int)] = _
        rw [a1, a2]
      rw [ec, ← e1] at q
      refine iteT (Sts.cons (St.ret (Ev.tup (EvA.cons (Ev.frz ?_) rfl))))
      walk_at "nm"
      refine ⟨μ.length, Fz, rfl, hat Fz, ?_⟩
      rw [hset]
      walk_at "go"
      exact ⟨by show 3 ≤ sizeLine; decide, EvA.nil ⟨by show 2 ≤ sizeLine; decide, Or.inl (q _)⟩⟩
    | false =>
      rw [if_neg (show ¬ (false = true) by decide)] at hG1 hG2
      dsimp only at hG1 hG2
      refine iteF (Sts.nil (Sts.cons (St.expr (Ev.append ?_) rfl)))
      walk_at "go"
      refine ⟨μ.length, Fz, rfl, hat Fz, EvA.cons (Ev.tup (EvA.cons (Ev.sliceS ?_) rfl)) rfl⟩
      walk_at "nm"
      refine ⟨z, rfl, hz', EvP.some ?_⟩
      walk_at "nm"
      refine ⟨_, rfl, EvP.some ?_⟩
      walk_at "go"
      refine ⟨_, rfl, ?_⟩
      walk_at "go"
      refine ⟨by show 4 ≤ sizeLine; decide, EvA.nil ⟨_, Fz, rfl, hat Fz, by rw [sizeLine_eq]; omega, ?_⟩⟩
      rw [hset]
      have etk : DV.tup [.str (cutS z (some (spot : Int)) (some ((spot : Int) + far))), .int row, .int ((spot : Int) - lead + 1), .int ((spot : Int) + far)] = tlD ((z.cps.toList.drop spot).take far, row, spot - lead + 1, spot + far) := by
        have a0 : (spot : Int) + far = ((spot + far : Nat) : Int) := by omega
        have a1 : ((spot - lead + 1 : Nat) : Int) = (spot : Int) - lead + 1 := by omega
        show _ = DV.tup [.str (sOf ((z.cps.toList.drop spot).take far)), .int row, .int ((spot - lead + 1 : Nat) : Int), .int ((spot + far : Nat) : Int)]
        rw [a0, slice_any, a1]
      rw [etk]
      refine Sts.cons ?_
      walk_at "go"
      refine Sts.nil (Sts.nil (Sts.nil (Sts.nil ⟨_, spot + far, row, lead, _, _, _, _, rfl, rfl, by omega, ?_, ?_, hG2⟩)))
      · rw [List.length_append]
        show Fz.length + 1 ≤ _
        omega
      · rw [List.append_assoc]
        exact hG1
  · rintro ρ' μ' ⟨Fz, spot, row, lead, a, b, c, d', rfl, rfl, h1, hF, hG1, hG2⟩
    rw [rgD_len] at hG1 hG2
    have e0 : z.length - (z.length : Int).toNat = 0 := by omega
    rw [e0] at hG1 hG2
    exact over _ Fz rfl (by simpa [lawCut] using hG1) hG2.symm
end
end Lw

namespace Lw
open PySem PySem.Spec L2 Eg
local macro_rules | `(tactic| walk_at "vis") => `(tactic| first | exact Or.inl rfl | exact Or.inr (Or.inl rfl) | exact Or.inr (Or.inr rfl))
local macro_rules | `(tactic| walk_at "loc") => `(tactic| first | exact Or.inl rfl | exact Or.inr rfl)
local macro_rules | `(tactic| walk_at "nm") => `(tactic| first
  | refine Ev.name 0 (by rfl) (by walk_at "vis") (by rfl) ?_
  | refine Ev.name 1 (by rfl) (by walk_at "vis") (by rfl) ?_
  | refine Ev.name 2 (by rfl) (by walk_at "vis") (by rfl) ?_
  | refine Ev.name 3 (by rfl) (by walk_at "vis") (by rfl) ?_
  | refine Ev.name 4 (by rfl) (by walk_at "vis") (by rfl) ?_
  | refine Ev.name 5 (by rfl) (by walk_at "vis") (by rfl) ?_
  | refine Ev.name 6 (by rfl) (by walk_at "vis") (by rfl) ?_
  | refine Ev.name 7 (by rfl) (by walk_at "vis") (by rfl) ?_
  | refine Ev.name 8 (by rfl) (by walk_at "vis") (by rfl) ?_)
local macro_rules | `(tactic| walk_at "st") => `(tactic| first
  | refine St.set 1 (by assumption) (by rfl) (by walk_at "loc") (by walk_at "loc") ?_ rfl
  | refine St.set 2 (by assumption) (by rfl) (by walk_at "loc") (by walk_at "loc") ?_ rfl
  | refine St.set 3 (by assumption) (by rfl) (by walk_at "loc") (by walk_at "loc") ?_ rfl
  | refine St.set 4 (by assumption) (by rfl) (by walk_at "loc") (by walk_at "loc") ?_ rfl
  | refine St.set 5 (by assumption) (by rfl) (by walk_at "loc") (by walk_at "loc") ?_ rfl
  | refine St.set 6 (by assumption) (by rfl) (by walk_at "loc") (by walk_at "loc") ?_ rfl
  | refine St.set 7 (by assumption) (by rfl) (by walk_at "loc") (by walk_at "loc") ?_ rfl
  | refine St.set 8 (by assumption) (by rfl) (by walk_at "loc") (by walk_at "loc") ?_ rfl)
local macro_rules | `(tactic| walk_at "gn") => `(tactic| first
  | refine EvG.name 0 (by assumption) (by rfl) (by walk_at "loc") (by walk_at "loc") ?_
  | refine EvG.name 1 (by assumption) (by rfl) (by walk_at "loc") (by walk_at "loc") ?_
  | refine EvG.name 2 (by assumption) (by rfl) (by walk_at "loc") (by walk_at "loc") ?_
  | refine EvG.name 3 (by assumption) (by rfl) (by walk_at "loc") (by walk_at "loc") ?_
  | refine EvG.name 4 (by assumption) (by rfl) (by walk_at "loc") (by walk_at "loc") ?_
  | refine EvG.name 5 (by assumption) (by rfl) (by walk_at "loc") (by walk_at "loc") ?_
  | refine EvG.name 6 (by assumption) (by rfl) (by walk_at "loc") (by walk_at "loc") ?_
  | refine EvG.name 7 (by assumption) (by rfl) (by walk_at "loc") (by walk_at "loc") ?_
  | refine EvG.name 8 (by assumption) (by rfl) (by walk_at "loc") (by walk_at "loc") ?_)
local macro_rules | `(tactic| walk_at "one") => `(tactic| with_reducible first
  | refine sAdd.mk ?_ | refine sSub.mk ?_ | refine sLt.mk ?_ | refine sLe.mk ?_ | refine sGt.mk ?_ | refine sGe.mk ?_ | refine sEq.int ?_ | refine sNe.int ?_ | refine toT.mk ?_
  | refine Ev.int ?_ | refine Ev.str ?_ | refine Ev.bl ?_ | refine Ev.non ?_
  | refine Ev.sub ?_ | refine Ev.addI ?_ | refine Ev.mul ?_ | refine Ev.mod ?_ | refine Ev.fdiv ?_ | refine Ev.pow ?_ | refine Ev.neg ?_
  | refine Ev.lt ?_ | refine Ev.le ?_ | refine Ev.gt ?_ | refine Ev.ge ?_ | refine Ev.eq ?_ | refine Ev.ne ?_
  | refine Ev.ifE ?_ | refine Ev.tup ?_ | refine EvA.nil ?_ | refine EvA.cons ?_ rfl | refine EvT.not ?_
  | refine EvT.lt ?_ | refine EvT.le ?_ | refine EvT.gt ?_ | refine EvT.ge ?_ | refine EvT.eq ?_ | refine EvT.ne ?_
  | refine EvT.w ?_ | refine EvW.and ?_ | refine EvW.or ?_ | refine EvW.and1 ?_ | refine EvW.or1 ?_
  | refine Sts.cons ?_ | refine Sts.nil ?_ | refine St.ifS ?_ | refine St.ret ?_ | refine St.expr ?_ rfl)
local macro_rules | `(tactic| walk_at "go") => `(tactic| repeat (first | ((with_reducible show Ev _ (.Name _ _) _ _ _); (walk_at "nm")) | walk_at "one" | ((with_reducible show St _ (.Assign [.Name _ _] _ _) _ _ _); (walk_at "st"))))
/-! ### a piece, a text of pieces -/
def C_piece : Ctr := fun ds μ R => ∃ k c, ds = [.mu k] ∧ WS μ k c ∧ c < 999980 ∧ ∀ z μ' c', (∃ y : Str, z = .str y ∧ y.length ≤ 41 ∧ y.cps.toList.all (fun x => decide (x < 127)) = true) → WS μ' k c' → c' ≤ c + 2 → Wch μ μ' k → R z μ'
def shortS (d : DV) : Bool := match d with
  | .str y => decide (y.length ≤ 41) && y.cps.toList.all (fun x => decide (x < 127))
  | _ => false
theorem shortS_of {d : DV} (h : shortS d = true) : ∃ y : Str, d = .str y ∧ y.length ≤ 41 ∧ y.cps.toList.all (fun x => decide (x < 127)) = true := by
  cases d with
  | str y =>
    obtain ⟨h1, h2⟩ := Bool.and_eq_true_iff.mp h
    exact ⟨y, rfl, of_decide_eq_true h1, h2⟩
  | _ => cases h
section
variable {P : Program} {w : World} {K : PySem.W.Frag} {mg : Str → Option Value} {base : Heap}
theorem ok_piece (T : Fx K mg) : Fn P w K mg base "_law_piece" 3 C_piece := by
  obtain ⟨fd, F⟩ := T.d_l_piece
  refine Fn.mk (N := Nl_piece) (ps := ["_law_well_here"]) F scl_piece T.g_l_piece (fun _ _ _ _ _ _ us hl => match us, hl with | [_], _ => rfl) ?_ ?_
  · rintro ds μ R ⟨k, c, rfl, _⟩
    rfl
  rintro cd A outer s H hg hr hnd ds μ R ⟨k, c, rfl, hw, hc, q⟩
  refine Sts.cons (St.set 1 (by assumption) (by rfl) (by walk_at "loc") (by walk_at "loc") (Ev.call (ok_drw T) hg (hr.mono (by decide)) rfl ?_) rfl)
  walk_at "go"
  refine ⟨k, 20, c, rfl, by decide, by decide, hw, by omega, fun r μ1 c1 r0 r1 w1 l1 h1 => ?_⟩
  have fin2 : ∀ (xs : List DV), xs.all shortS = true → ∀ d μ' c', d ∈ xs → WS μ' k c' → c' ≤ c1 + 1 → Wch μ1 μ' k → R d μ' := fun xs hx d μ' c' hd h2 h3 h4 =>
    q d μ' c' (shortS_of (List.all_eq_true.mp hx d hd)) h2 (by omega) (h1.trans h4)
  refine Sts.cons ?_
  walk_at "go"
  refine ifd (fun _ => ?_) (fun _ => Sts.nil ?_)
  · refine Sts.cons (St.ret (Ev.call (ok_pick T) hg (hr.mono (by decide)) rfl ?_))
    walk_at "go"
    refine ⟨by show 20 ≤ sizeLine; decide, ?_⟩
    walk_at "go"
    exact ⟨k, _, c1, rfl, by decide, by decide, w1, by omega, fun d μ' c' a b c' d' => Or.inl (fin2 _ (by decide +kernel) d μ' _ a b c' d')⟩
  refine Sts.cons ?_
  walk_at "go"
  refine ifd (fun _ => ?_) (fun _ => Sts.nil ?_)
  · refine Sts.cons (St.ret (Ev.call (ok_pick T) hg (hr.mono (by decide)) rfl ?_))
    walk_at "go"
    refine ⟨by show 9 ≤ sizeLine; decide, ?_⟩
    walk_at "go"
    exact ⟨k, _, c1, rfl, by decide, by decide, w1, by omega, fun d μ' c' a b c' d' => Or.inl (fin2 _ (by decide +kernel) d μ' _ a b c' d')⟩
  refine Sts.cons ?_
  walk_at "go"
  refine ifd (fun _ => ?_) (fun _ => Sts.nil ?_)
  · refine Sts.cons (St.ret (Ev.call (ok_pick T) hg (hr.mono (by decide)) rfl ?_))
    walk_at "go"
    refine Ev.toStr rfl T.n_str ?_
    walk_at "go"
    refine sPow.mk ⟨by decide, by decide, by decide⟩ ?_
    walk_at "go"
    refine ⟨_, rfl, by decide +kernel, ?_⟩
    refine EvA.cons (Ev.toStr rfl T.n_str ?_) rfl
    walk_at "go"
    refine sPow.mk ⟨by decide, by decide, by decide⟩ ?_
    walk_at "go"
    refine ⟨_, rfl, by decide +kernel, ?_⟩
    walk_at "go"
    refine ⟨by show 11 ≤ sizeLine; decide, ?_⟩
    walk_at "go"
    exact ⟨k, _, c1, rfl, by decide, by decide, w1, by omega, fun d μ' c' a b c' d' => Or.inl (fin2 _ (by decide +kernel) d μ' _ a b c' d')⟩
  refine Sts.cons ?_
  walk_at "go"
  refine ifd (fun _ => ?_) (fun _ => Sts.nil ?_)
  · refine Sts.cons (St.ret (Ev.call (ok_pick T) hg (hr.mono (by decide)) rfl ?_))
    walk_at "go"
    refine ⟨by show 16 ≤ sizeLine; decide, ?_⟩
    walk_at "go"
    exact ⟨k, _, c1, rfl, by decide, by decide, w1, by omega, fun d μ' c' a b c' d' => Or.inl (fin2 _ (by decide +kernel) d μ' _ a b c' d')⟩
  refine Sts.cons ?_
  walk_at "go"
  refine ifd (fun _ => ?_) (fun _ => Sts.nil ?_)
  · refine Sts.cons (St.ret (Ev.call (ok_pick T) hg (hr.mono (by decide)) rfl ?_))
    walk_at "go"
    refine ⟨by show 8 ≤ sizeLine; decide, ?_⟩
    walk_at "go"
    exact ⟨k, _, c1, rfl, by decide, by decide, w1, by omega, fun d μ' c' a b c' d' => Or.inl (fin2 _ (by decide +kernel) d μ' _ a b c' d')⟩
  refine Sts.cons (St.ret (Ev.call (ok_pick T) hg (hr.mono (by decide)) rfl ?_))
  walk_at "go"
  refine ⟨by show 10 ≤ sizeLine; decide, ?_⟩
  walk_at "go"
  exact ⟨k, _, c1, rfl, by decide, by decide, w1, by omega, fun d μ' c' a b c' d' => Or.inl (fin2 _ (by decide +kernel) d μ' _ a b c' d')⟩
end
end Lw

namespace Lw
open PySem PySem.Spec L2 Eg
local macro_rules | `(tactic| walk_at "vis") => `(tactic| first | exact Or.inl rfl | exact Or.inr (Or.inl rfl) | exact Or.inr (Or.inr rfl))
local macro_rules | `(tactic| walk_at "loc") => `(tactic| first | exact Or.inl rfl | exact Or.inr rfl)
local macro_rules | `(tactic| walk_at "nm") => `(tactic| first
  | refine Ev.name 0 (by rfl) (by walk_at "vis") (by rfl) ?_
  | refine Ev.name 1 (by rfl) (by walk_at "vis") (by rfl) ?_
  | refine Ev.name 2 (by rfl) (by walk_at "vis") (by rfl) ?_
  | refine Ev.name 3 (by rfl) (by walk_at "vis") (by rfl) ?_
  | refine Ev.name 4 (by rfl) (by walk_at "vis") (by rfl) ?_
  | refine Ev.name 5 (by rfl) (by walk_at "vis") (by rfl) ?_
  | refine Ev.name 6 (by rfl) (by walk_at "vis") (by rfl) ?_
  | refine Ev.name 7 (by rfl) (by walk_at "vis") (by rfl) ?_
  | refine Ev.name 8 (by rfl) (by walk_at "vis") (by rfl) ?_)
local macro_rules | `(tactic| walk_at "st") => `(tactic| first
  | refine St.set 1 (by assumption) (by rfl) (by walk_at "loc") (by walk_at "loc") ?_ rfl
  | refine St.set 2 (by assumption) (by rfl) (by walk_at "loc") (by walk_at "loc") ?_ rfl
  | refine St.set 3 (by assumption) (by rfl) (by walk_at "loc") (by walk_at "loc") ?_ rfl
  | refine St.set 4 (by assumption) (by rfl) (by walk_at "loc") (by walk_at "loc") ?_ rfl
  | refine St.set 5 (by assumption) (by rfl) (by walk_at "loc") (by walk_at "loc") ?_ rfl
  | refine St.set 6 (by assumption) (by rfl) (by walk_at "loc") (by walk_at "loc") ?_ rfl
  | refine St.set 7 (by assumption) (by rfl) (by walk_at "loc") (by walk_at "loc") ?_ rfl
  | refine St.set 8 (by assumption) (by rfl) (by walk_at "loc") (by walk_at "loc") ?_ rfl)
local macro_rules | `(tactic| walk_at "gn") => `(tactic| first
  | refine EvG.name 0 (by assumption) (by rfl) (by walk_at "loc") (by walk_at "loc") ?_
  | refine EvG.name 1 (by assumption) (by rfl) (by walk_at "loc") (by walk_at "loc") ?_
  | refine EvG.name 2 (by assumption) (by rfl) (by walk_at "loc") (by walk_at "loc") ?_
  | refine EvG.name 3 (by assumption) (by rfl) (by walk_at "loc") (by walk_at "loc") ?_
  | refine EvG.name 4 (by assumption) (by rfl) (by walk_at "loc") (by walk_at "loc") ?_
  | refine EvG.name 5 (by assumption) (by rfl) (by walk_at "loc") (by walk_at "loc") ?_
  | refine EvG.name 6 (by assumption) (by rfl) (by walk_at "loc") (by walk_at "loc") ?_
  | refine EvG.name 7 (by assumption) (by rfl) (by walk_at "loc") (by walk_at "loc") ?_
  | refine EvG.name 8 (by assumption) (by rfl) (by walk_at "loc") (by walk_at "loc") ?_)
local macro_rules | `(tactic| walk_at "one") => `(tactic| with_reducible first
  | refine sAdd.mk ?_ | refine sSub.mk ?_ | refine sLt.mk ?_ | refine sLe.mk ?_ | refine sGt.mk ?_ | refine sGe.mk ?_ | refine sEq.int ?_ | refine sNe.int ?_ | refine toT.mk ?_
  | refine Ev.int ?_ | refine Ev.str ?_ | refine Ev.bl ?_ | refine Ev.non ?_
  | refine Ev.sub ?_ | refine Ev.addI ?_ | refine Ev.mul ?_ | refine Ev.mod ?_ | refine Ev.fdiv ?_ | refine Ev.pow ?_ | refine Ev.neg ?_
  | refine Ev.lt ?_ | refine Ev.le ?_ | refine Ev.gt ?_ | refine Ev.ge ?_ | refine Ev.eq ?_ | refine Ev.ne ?_
  | refine Ev.ifE ?_ | refine Ev.tup ?_ | refine EvA.nil ?_ | refine EvA.cons ?_ rfl | refine EvT.not ?_
  | refine EvT.lt ?_ | refine EvT.le ?_ | refine EvT.gt ?_ | refine EvT.ge ?_ | refine EvT.eq ?_ | refine EvT.ne ?_
  | refine EvT.w ?_ | refine EvW.and ?_ | refine EvW.or ?_ | refine EvW.and1 ?_ | refine EvW.or1 ?_
  | refine Sts.cons ?_ | refine Sts.nil ?_ | refine St.ifS ?_ | refine St.ret ?_ | refine St.expr ?_ rfl)
local macro_rules | `(tactic| walk_at "go") => `(tactic| repeat (first | ((with_reducible show Ev _ (.Name _ _) _ _ _); (walk_at "nm")) | walk_at "one" | ((with_reducible show St _ (.Assign [.Name _ _] _ _) _ _ _); (walk_at "st"))))
def plain (n : Nat) (y : Str) : Prop := y.length ≤ n ∧ y.cps.toList.all (fun x => decide (x < 127)) = true
theorem len_app (x y : Str) : (x ++ y).length = x.length + y.length := Str.length_append x y
theorem toL_app (x y : Str) : (x ++ y).cps.toList = x.cps.toList ++ y.cps.toList := by
  show (x.cps ++ y.cps).toList = _
  simp
theorem plain_app {n m : Nat} {x y : Str} (h : plain n x) (g : plain m y) : plain (n + m) (x ++ y) := by
  refine ⟨by rw [len_app]; have := h.1; have := g.1; omega, ?_⟩
  rw [toL_app, List.all_append, h.2, g.2]
  rfl
def C_mixed : Ctr := fun ds μ R => ∃ k c, ds = [.mu k] ∧ WS μ k c ∧ c < 999900 ∧ ∀ y μ' c', plain 672 y → WS μ' k c' → c' ≤ c + 40 → Wch μ μ' k → R (.str y) μ'
section
variable {P : Program} {w : World} {K : PySem.W.Frag} {mg : Str → Option Value} {base : Heap}
theorem ok_mixed (T : Fx K mg) : Fn P w K mg base "_law_mixed" 4 C_mixed := by
  obtain ⟨fd, F⟩ := T.d_l_mixed
  refine Fn.mk (N := Nl_mixed) (ps := ["_law_well_here"]) F scl_mixed T.g_l_mixed (fun _ _ _ _ _ _ us hl => match us, hl with | [_], _ => rfl) ?_ ?_
  · rintro ds μ R ⟨k, c, rfl, _⟩
    rfl
  rintro cd A outer s H hg hr hnd ds μ R ⟨k, c, rfl, hw, hc, q⟩
  refine Sts.cons (St.par 1 2 rfl hnd rfl rfl (by decide) rfl rfl (EvA.cons (Ev.str ?_) rfl))
  refine EvA.cons (Ev.call (ok_pick T) hg (hr.mono (by decide)) rfl ?_) rfl
  walk_at "go"
  refine ⟨by show 2 ≤ sizeLine; decide, ?_⟩
  walk_at "go"
  refine ⟨k, _, c, rfl, by decide, by decide, hw, by omega, fun d μ1 c1 hd w1 l1 h1 => ?_⟩
  obtain ⟨g, rfl, hgp⟩ : ∃ g : Str, d = .str g ∧ plain 1 g := by
    have hs : ([DV.str (Str.ofString ""), DV.str (Str.ofString " ")].all fun d => match d with | .str y => decide (y.length ≤ 1) && y.cps.toList.all (fun x => decide (x < 127)) | _ => false) = true := by decide +kernel
    have z := List.all_eq_true.mp hs d hd
    cases d with
    | str y =>
      obtain ⟨z1, z2⟩ := Bool.and_eq_true_iff.mp z
      exact ⟨y, rfl, of_decide_eq_true z1, z2⟩
    | _ => cases z
  refine EvA.nil ⟨_, _, rfl, ?_⟩
  refine Sts.cons (St.for_ PassesOwn.never rfl (EvI.range1 rfl T.n_range (EvA.cons (Ev.call (ok_drw T) hg (hr.mono (by decide)) rfl ?_) rfl)))
  walk_at "go"
  refine ⟨k, 17, c1, rfl, by decide, by decide, w1, by omega, fun r μ2 c2 r0 r1 w2 l2 h2 => EvA.nil ⟨r, rfl, by omega, by omega, ?_⟩⟩
  refine ⟨fun i ρ' μ' => ∃ (y : Str) (x : Option DV) (c' : Int), ρ' = [some (.mu k), some (.str y), some (.str g), x] ∧ plain (i * 42) y ∧ WS μ' k c' ∧ c' ≤ c2 + 2 * i ∧ Wch μ μ' k, ⟨_, _, c2, rfl, ⟨by decide, by decide⟩, w2, by simp, h1.trans h2⟩, ?_, ?_⟩
  · rintro i d ρ' μ' hd ⟨y, x, c', rfl, hy, wy, ly, hch⟩
    have hi := (List.getElem?_eq_some_iff.mp hd).1
    rw [rgD_len] at hi
    walk_at "gn"
    refine Sts.cons (St.set 1 (by assumption) (by rfl) (by walk_at "loc") (by walk_at "loc") (Ev.addS (Ev.addS ?_)) rfl)
    walk_at "nm"
    refine Ev.call (ok_piece T) hg (hr.mono (by decide)) rfl ?_
    walk_at "go"
    refine ⟨k, c', rfl, wy, by omega, fun d3 μ3 c3 hz w3 l3 h3 => ?_⟩
    obtain ⟨pz, rfl, hp1, hp2⟩ := hz
    have hp : plain 41 pz := ⟨hp1, hp2⟩
    have y1 := plain_app hy hp
    have y2 := plain_app y1 hgp
    have z1 := y1.1
    have z2 := y2.1
    rw [len_app] at z1
    rw [len_app, len_app] at z2
    refine ⟨y, pz, rfl, rfl, by rw [sizeLine_eq]; omega, ?_⟩
    walk_at "nm"
    refine ⟨_, g, rfl, rfl, by show (y ++ pz).length + g.length ≤ sizeLine; rw [sizeLine_eq, len_app]; omega, Sts.nil ⟨_, _, c3, rfl, ?_, w3, by omega, hch.trans h3⟩⟩
    rw [show (i + 1) * 42 = i * 42 + 41 + 1 by omega]
    exact y2
  · rintro ρ' μ' ⟨y, x, c', rfl, hy, wy, ly, hch⟩
    rw [rgD_len] at hy ly
    refine Sts.cons (St.ret ?_)
    walk_at "nm"
    exact Or.inl (q y μ' c' ⟨by have := hy.1; omega, hy.2⟩ wy (by omega) hch)
end
end Lw

namespace Lw
open PySem PySem.Spec L2 Eg
local macro_rules | `(tactic| walk_at "vis") => `(tactic| first | exact Or.inl rfl | exact Or.inr (Or.inl rfl) | exact Or.inr (Or.inr rfl))
local macro_rules | `(tactic| walk_at "loc") => `(tactic| first | exact Or.inl rfl | exact Or.inr rfl)
local macro_rules | `(tactic| walk_at "nm") => `(tactic| first
  | refine Ev.name 0 (by rfl) (by walk_at "vis") (by rfl) ?_
  | refine Ev.name 1 (by rfl) (by walk_at "vis") (by rfl) ?_
  | refine Ev.name 2 (by rfl) (by walk_at "vis") (by rfl) ?_
  | refine Ev.name 3 (by rfl) (by walk_at "vis") (by rfl) ?_
  | refine Ev.name 4 (by rfl) (by walk_at "vis") (by rfl) ?_
  | refine Ev.name 5 (by rfl) (by walk_at "vis") (by rfl) ?_
  | refine Ev.name 6 (by rfl) (by walk_at "vis") (by rfl) ?_
  | refine Ev.name 7 (by rfl) (by walk_at "vis") (by rfl) ?_
  | refine Ev.name 8 (by rfl) (by walk_at "vis") (by rfl) ?_)
local macro_rules | `(tactic| walk_at "st") => `(tactic| first
  | refine St.set 1 (by assumption) (by rfl) (by walk_at "loc") (by walk_at "loc") ?_ rfl
  | refine St.set 2 (by assumption) (by rfl) (by walk_at "loc") (by walk_at "loc") ?_ rfl
  | refine St.set 3 (by assumption) (by rfl) (by walk_at "loc") (by walk_at "loc") ?_ rfl
  | refine St.set 4 (by assumption) (by rfl) (by walk_at "loc") (by walk_at "loc") ?_ rfl
  | refine St.set 5 (by assumption) (by rfl) (by walk_at "loc") (by walk_at "loc") ?_ rfl
  | refine St.set 6 (by assumption) (by rfl) (by walk_at "loc") (by walk_at "loc") ?_ rfl
  | refine St.set 7 (by assumption) (by rfl) (by walk_at "loc") (by walk_at "loc") ?_ rfl
  | refine St.set 8 (by assumption) (by rfl) (by walk_at "loc") (by walk_at "loc") ?_ rfl)
local macro_rules | `(tactic| walk_at "gn") => `(tactic| first
  | refine EvG.name 0 (by assumption) (by rfl) (by walk_at "loc") (by walk_at "loc") ?_
  | refine EvG.name 1 (by assumption) (by rfl) (by walk_at "loc") (by walk_at "loc") ?_
  | refine EvG.name 2 (by assumption) (by rfl) (by walk_at "loc") (by walk_at "loc") ?_
  | refine EvG.name 3 (by assumption) (by rfl) (by walk_at "loc") (by walk_at "loc") ?_
  | refine EvG.name 4 (by assumption) (by rfl) (by walk_at "loc") (by walk_at "loc") ?_
  | refine EvG.name 5 (by assumption) (by rfl) (by walk_at "loc") (by walk_at "loc") ?_
  | refine EvG.name 6 (by assumption) (by rfl) (by walk_at "loc") (by walk_at "loc") ?_
  | refine EvG.name 7 (by assumption) (by rfl) (by walk_at "loc") (by walk_at "loc") ?_
  | refine EvG.name 8 (by assumption) (by rfl) (by walk_at "loc") (by walk_at "loc") ?_)
local macro_rules | `(tactic| walk_at "one") => `(tactic| with_reducible first
  | refine sAdd.mk ?_ | refine sSub.mk ?_ | refine sLt.mk ?_ | refine sLe.mk ?_ | refine sGt.mk ?_ | refine sGe.mk ?_ | refine sEq.int ?_ | refine sNe.int ?_ | refine toT.mk ?_
  | refine Ev.int ?_ | refine Ev.str ?_ | refine Ev.bl ?_ | refine Ev.non ?_
  | refine Ev.sub ?_ | refine Ev.addI ?_ | refine Ev.mul ?_ | refine Ev.mod ?_ | refine Ev.fdiv ?_ | refine Ev.pow ?_ | refine Ev.neg ?_
  | refine Ev.lt ?_ | refine Ev.le ?_ | refine Ev.gt ?_ | refine Ev.ge ?_ | refine Ev.eq ?_ | refine Ev.ne ?_
  | refine Ev.ifE ?_ | refine Ev.tup ?_ | refine EvA.nil ?_ | refine EvA.cons ?_ rfl | refine EvT.not ?_
  | refine EvT.lt ?_ | refine EvT.le ?_ | refine EvT.gt ?_ | refine EvT.ge ?_ | refine EvT.eq ?_ | refine EvT.ne ?_
  | refine EvT.w ?_ | refine EvW.and ?_ | refine EvW.or ?_ | refine EvW.and1 ?_ | refine EvW.or1 ?_
  | refine Sts.cons ?_ | refine Sts.nil ?_ | refine St.ifS ?_ | refine St.ret ?_ | refine St.expr ?_ rfl)
local macro_rules | `(tactic| walk_at "go") => `(tactic| repeat (first | ((with_reducible show Ev _ (.Name _ _) _ _ _); (walk_at "nm")) | walk_at "one" | ((with_reducible show St _ (.Assign [.Name _ _] _ _) _ _ _); (walk_at "st"))))
theorem EvX.lst2 {X : Cx} {e : Expr} {ρ : RO} {μ : List MO} {R : Cn} {RX : RXt} {z : Str} {j : Nat} {p1 p2 : Pos} (h : EvX X e ρ μ (fun d μ1 => R (.lst [.str z, d]) μ1) RX)
    (h1 : starEach [.Constant (.str z) j p1, e] X.env = (false, eval (.Constant (.str z) j p1) X.env) :: starEach [e] X.env := by rfl) (h2 : starEach [e] X.env = (false, eval e X.env) :: starEach [] X.env := by rfl) :
    EvX X (.List [.Constant (.str z) j p1, e] p2) ρ μ R RX :=
  PEw (pe_lst (pa_cons pe_str (pa_cons h pa_nil h2) h1)) fun σ H Q ⟨α, E, q, qx⟩ => ⟨α, E, fun v d α1 μ1 H1 r E1 X1 hv => ⟨by show 2 ≤ sizeLine; decide, fun p np => by
    obtain ⟨k, l⟩ := E1.live.lay (o := .lst [.str z, v]) np
    exact q _ _ α1 μ1 _ r (E1.ext k l) (X1.trans k) (.lst (.inl ⟨E1.live.fresh np, .inl upd_same⟩) (k.hasL (.cons .str (.cons hv .nil))))⟩, qx⟩
theorem lawCut_len : ∀ (n : Nat) (t : List Nat) (spot row lead : Nat), (lawCut n t spot row lead).1.length ≤ n
  | 0, _, _, _, _ => Nat.le_refl _
  | n + 1, t, spot, row, lead => by
    unfold lawCut
    have ih := lawCut_len n t
    split
    · exact Nat.zero_le _
    · split
      · have := ih (spot + upNL (t.drop spot)) row lead; omega
      · split
        · have := ih (spot + 1) (row + 1) (spot + 1); omega
        · split
          · have := ih (spot + 1) row lead; omega
          · split
            · exact Nat.zero_le _
            · rename_i k _ _ _ _ _
              have := ih (spot + (longL t spot k).1) row lead
              simp only [List.length_cons]
              omega
def toldD (z : Str) : DV := match (cutRows 1 (rowsOf z)).2 with
  | none => .lst [.str "told", .tup (cutRows 1 (rowsOf z)).1]
  | some (l, c) => .lst [.str "bad", .int (l : Nat), .int (c : Nat)]
def C_told : Ctr := fun ds μ R => ∃ z : Str, ds = [.str z] ∧ z.length ≤ 3000 ∧ ∀ μs, R (toldD z) (μ ++ μs)
def ltD (t : List Nat × Nat × Nat × Nat) : DV := .tup [.str (sOf t.1), .int t.2.1, .int t.2.2.1]
def dueD (z : Str) : DV := match (lawCut z.length z.cps.toList 0 1 0).2 with
  | none => .lst [.str "told", .tup ((lawCut z.length z.cps.toList 0 1 0).1.map ltD)]
  | some (a, b, _) => .lst [.str "bad", .int (a : Nat), .int (b : Nat)]
def C_due : Ctr := fun ds μ R => ∃ z : Str, ds = [.str z] ∧ z.length ≤ 3000 ∧ ∀ μs, R (dueD z) (μ ++ μs)
section
variable {P : Program} {w : World} {K : PySem.W.Frag} {mg : Str → Option Value} {base : Heap}
theorem ok_told (T : Fx K mg) : Fn P w K mg base "_law_told" 5 C_told := by
  obtain ⟨fd, F⟩ := T.d_l_told
  refine Fn.mk (N := Nl_told) (ps := ["_law_said"]) F scl_told T.g_l_told (fun _ _ _ _ _ _ us hl => match us, hl with | [_], _ => rfl) ?_ ?_
  · rintro ds μ R ⟨z, rfl, _⟩
    rfl
  rintro cd A outer s H hg hr hnd ds μ R ⟨z, rfl, hz, q⟩
  refine Sts.cons (St.try2 1 rfl rfl hnd rfl rfl ⟨rfl, by decide, .inl T.g_InvalidText⟩ (Or.inl rfl) (by decide) (by decide) T.et.xf T.et.no1 T.et.no2 T.et.em fun pn xe po => ?_)
  refine StsX.cons (StX.ret (EvX.lst2 (EvX.call (ok_tokens T) hg (hr.mono (by decide)) rfl ?_)))
  walk_at "go"
  unfold toldD at q
  refine ⟨z, rfl, hz, fun hn μs => ?_, fun l c hn μs => ?_⟩
  · rw [hn] at q
    exact Or.inl (q μs)
  · rw [hn] at q
    exact ⟨rfl, _, _, rfl, rfl, Or.inl (q μs)⟩
theorem ok_due (T : Fx K mg) : Fn P w K mg base "_law_due" 3 C_due := by
  obtain ⟨fd, F⟩ := T.d_l_due
  refine Fn.mk (N := Nl_due) (ps := ["_law_said"]) F scl_due T.g_l_due (fun _ _ _ _ _ _ us hl => match us, hl with | [_], _ => rfl) ?_ ?_
  · rintro ds μ R ⟨z, rfl, _⟩
    rfl
  rintro cd A outer s H hg hr hnd ds μ R ⟨z, rfl, hz, q⟩
  refine Sts.cons (St.asg (Ev.call (ok_lcut T) hg (hr.mono (by decide)) rfl ?_))
  walk_at "go"
  refine ⟨z, rfl, hz, fun μs => ?_⟩
  unfold dueD at q
  have hmax : (lawCut z.length z.cps.toList 0 1 0).1.length ≤ sizeLine := by
    have := lawCut_len z.length z.cps.toList 0 1 0
    rw [sizeLine_eq]
    omega
  generalize lawCut z.length z.cps.toList 0 1 0 = tot at q hmax ⊢
  obtain ⟨t1, t2⟩ := tot
  refine EvG.tup rfl (EvGs.cons (EvG.name 1 (by assumption) (by rfl) (by walk_at "loc") (by walk_at "loc") (EvGs.cons (EvG.name 2 (by assumption) (by rfl) (by walk_at "loc") (by walk_at "loc") (EvGs.nil ?_)) rfl)) rfl)
  cases t2 with
  | some lc =>
    obtain ⟨a, b, c⟩ := lc
    refine Sts.cons (St.ifS (EvT.notN ?_))
    walk_at "nm"
    refine Ev.non (sNotN.mk ⟨_, rfl, iteT (Sts.cons (St.ret (Ev.lst (EvA.cons (Ev.str ?_) rfl))))⟩)
    refine EvA.cons (Ev.at ?_) rfl
    walk_at "nm"
    refine Ev.int (sIx.tup rfl ?_)
    refine EvA.cons (Ev.at ?_) rfl
    walk_at "nm"
    refine Ev.int (sIx.tup rfl (EvA.nil ⟨by show 3 ≤ sizeLine; decide, Or.inl (q μs)⟩))
  | none =>
    refine Sts.cons (St.ifS (EvT.notN ?_))
    walk_at "nm"
    refine Ev.non (sNotN.mk ⟨_, rfl, iteF (Sts.nil ?_)⟩)
    refine Sts.cons (St.ret (Ev.lst (EvA.cons (Ev.str ?_) rfl)))
    refine EvA.cons (Ev.tuple rfl T.n_tuple (EvA.cons (Ev.lc 3 rfl hnd rfl (blkOk_by (N := Nl_due) (sc := dl_due.scope) (by decide +kernel)) (fun _ _ _ _ _ => ⟨Or.inl rfl, Or.inr rfl⟩) (EvI.lst ?_)) rfl)) rfl
    walk_at "nm"
    refine ⟨_, rfl, by rw [List.length_map]; exact hmax, fun j acc μ' => acc = (t1.take j).map ltD ∧ μ' = μ ++ μs, ⟨rfl, rfl⟩, ?_, ?_⟩
    · rintro j d acc μ2 hd hl ⟨rfl, rfl⟩ s' H' C cl fp
      rw [List.getElem?_map] at hd
      obtain ⟨t, ht, rfl⟩ := Option.map_eq_some_iff.mp hd
      refine Ev.tup (EvA.cons (Ev.at ?_) rfl)
      walk_at "nm"
      refine Ev.int (sIx.tup rfl (EvA.cons (Ev.at ?_) rfl))
      walk_at "nm"
      refine Ev.int (sIx.tup rfl (EvA.cons (Ev.at ?_) rfl))
      walk_at "nm"
      refine Ev.int (sIx.tup rfl (EvA.nil ⟨by show 3 ≤ sizeLine; decide, _, rfl, rfl, ?_, rfl⟩))
      rw [List.take_add_one, ht, List.map_append]
      rfl
    · rintro acc μ2 hl ⟨rfl, rfl⟩
      rw [List.length_map, List.take_length]
      refine EvA.nil ⟨_, _, rfl, rfl, EvA.nil ⟨by show 2 ≤ sizeLine; decide, Or.inl ?_⟩⟩
      rw [List.append_assoc]
      exact q _
end
end Lw

namespace Lw
open PySem PySem.Spec L2 Eg
/-! ### both cuttings tell the same: one token -/
theorem let_mem (k : Nat) : (k ∈ sgL) ↔ isLet k = true := by
  constructor
  · intro h
    exact List.all_eq_true.mp (show (sgL.all fun x => isLet x) = true by decide +kernel) k h
  · intro h
    have h' : 97 ≤ k ∧ k ≤ 122 := of_decide_eq_true h
    have z := List.all_eq_true.mp (show ((List.range 26).all fun j => decide (97 + j ∈ sgL)) = true by decide +kernel) (k - 97) (List.mem_range.mpr (by omega))
    rw [show 97 + (k - 97) = k by omega] at z
    exact of_decide_eq_true z
theorem fig_mem (k : Nat) : (k ∈ sgF) ↔ isFig k = true := by
  constructor
  · intro h
    exact List.all_eq_true.mp (show (sgF.all fun x => isFig x) = true by decide +kernel) k h
  · intro h
    have h' : 48 ≤ k ∧ k ≤ 57 := of_decide_eq_true h
    have z := List.all_eq_true.mp (show ((List.range 10).all fun j => decide (48 + j ∈ sgF)) = true by decide +kernel) (k - 48) (List.mem_range.mpr (by omega))
    rw [show 48 + (k - 48) = k by omega] at z
    exact of_decide_eq_true z
theorem lf_mem (k : Nat) : (k ∈ sgLF) ↔ (isLet k || isFig k) = true := by
  have e : sgLF = sgL ++ sgF := by decide +kernel
  rw [e, List.mem_append, let_mem, fig_mem, Bool.or_eq_true]
/-- the sign at a place is a letter or a figure -/
def nx (p : List Nat) (r : Nat) : Bool := match p[r]? with
  | some c => isLet c || isFig c
  | none => false
theorem run_stop (S : List Nat) : ∀ (m : Nat) (p : List Nat), runOf S m p ≤ m ∧ (runOf S m p < m → ∀ c, p[runOf S m p]? = some c → c ∉ S)
  | 0, p => by
    cases p <;> exact ⟨Nat.le_refl _, fun h => absurd h (Nat.lt_irrefl _)⟩
  | m + 1, [] => ⟨Nat.zero_le _, fun _ c h => by cases h⟩
  | m + 1, a :: p => by
    obtain ⟨h1, h2⟩ := run_stop S m p
    unfold runOf
    split
    · exact ⟨by omega, fun h c hc => h2 (by omega) c hc⟩
    · rename_i ha
      refine ⟨Nat.zero_le _, fun _ c hc => ?_⟩
      cases hc
      exact ha
theorem run_more (S : List Nat) : ∀ (m : Nat) (p : List Nat), runOf S m p = min (runOf S (m + 1) p) m ∧ (runOf S (m + 1) p = m + 1 → ∃ c, p[m]? = some c ∧ c ∈ S)
  | 0, [] => ⟨rfl, fun h => by cases h⟩
  | 0, a :: p => by
    refine ⟨by show 0 = min _ 0; omega, fun h => ?_⟩
    unfold runOf at h
    split at h
    · rename_i ha
      exact ⟨a, rfl, ha⟩
    · cases h
  | m + 1, [] => ⟨rfl, fun h => by cases h⟩
  | m + 1, a :: p => by
    obtain ⟨h1, h2⟩ := run_more S m p
    by_cases ha : a ∈ S
    · have e1 : runOf S (m + 1) (a :: p) = runOf S m p + 1 := by
        show (if a ∈ S then runOf S m p + 1 else 0) = _
        rw [if_pos ha]
      have e2 : runOf S (m + 1 + 1) (a :: p) = runOf S (m + 1) p + 1 := by
        show (if a ∈ S then runOf S (m + 1) p + 1 else 0) = _
        rw [if_pos ha]
      rw [e1, e2]
      exact ⟨by omega, fun h => h2 (by omega)⟩
    · have e1 : runOf S (m + 1) (a :: p) = 0 := by
        show (if a ∈ S then runOf S m p + 1 else 0) = _
        rw [if_neg ha]
      have e2 : runOf S (m + 1 + 1) (a :: p) = 0 := by
        show (if a ∈ S then runOf S (m + 1) p + 1 else 0) = _
        rw [if_neg ha]
      rw [e1, e2]
      exact ⟨by omega, fun h => by cases h⟩
theorem letL_run : ∀ (m f : Nat) (p : List Nat), f + m = 13 → letL f (p.take m) = if runOf sgLF m p = m then (12, true) else (f + runOf sgLF m p, false)
  | 0, f, p, h => by
    have hf : f = 13 := by omega
    subst hf
    have e : runOf sgLF 0 p = 0 := by cases p <;> rfl
    rw [e, List.take_zero]
    rfl
  | m + 1, f, [], h => by
    rw [if_neg (show ¬ runOf sgLF (m + 1) [] = m + 1 from fun z => by cases z)]
    show (if 12 < f then (12, true) else (f, false)) = (f + 0, false)
    rw [if_neg (by omega)]
    rfl
  | m + 1, f, a :: p, h => by
    have ih := letL_run m (f + 1) p (by omega)
    show (if (isLet a || isFig a) = true then letL (f + 1) (p.take m) else (f, false)) = _
    by_cases ha : a ∈ sgLF
    · have e1 : runOf sgLF (m + 1) (a :: p) = runOf sgLF m p + 1 := by
        show (if a ∈ sgLF then runOf sgLF m p + 1 else 0) = _
        rw [if_pos ha]
      rw [if_pos ((lf_mem a).mp ha), ih, e1]
      by_cases hr : runOf sgLF m p = m
      · rw [if_pos hr, if_pos (by omega)]
      · rw [if_neg hr, if_neg (by omega)]
        congr 1
        omega
    · have e1 : runOf sgLF (m + 1) (a :: p) = 0 := by
        show (if a ∈ sgLF then runOf sgLF m p + 1 else 0) = _
        rw [if_neg ha]
      rw [if_neg (fun z => ha ((lf_mem a).mpr z)), e1, if_neg (by omega)]
      rfl
theorem figL_run (k : Nat) (hk : k ≠ 48) : ∀ (m f : Nat) (p : List Nat), f + m = 41 → 0 < m → figL k f (p.take m) = if runOf sgF m p = m then (40, true) else (f + runOf sgF m p, match p[runOf sgF m p]? with | some c => isLet c | none => false)
  | 0, _, _, _, h => absurd h (Nat.lt_irrefl _)
  | m + 1, f, [], h, _ => by
    rw [if_neg (show ¬ runOf sgF (m + 1) [] = m + 1 from fun z => by cases z)]
    rfl
  | m + 1, f, a :: p, h, _ => by
    show (if isFig a = true then (if k = 48 ∨ f = 40 then (f, true) else figL k (f + 1) (p.take m)) else (f, isLet a)) = _
    by_cases ha : a ∈ sgF
    · have e1 : runOf sgF (m + 1) (a :: p) = runOf sgF m p + 1 := by
        show (if a ∈ sgF then runOf sgF m p + 1 else 0) = _
        rw [if_pos ha]
      rw [if_pos ((fig_mem a).mp ha), e1]
      by_cases hf : f = 40
      · have hm : m = 0 := by omega
        subst hm
        have e0 : runOf sgF 0 p = 0 := by cases p <;> rfl
        rw [if_pos (Or.inr hf), if_pos (by rw [e0]), hf]
      · rw [if_neg (fun z => z.elim hk hf), figL_run k hk m (f + 1) p (by omega) (by omega)]
        by_cases hr : runOf sgF m p = m
        · rw [if_pos hr, if_pos (by omega)]
        · rw [if_neg hr, if_neg (by omega)]
          congr 1
          omega
    · have e1 : runOf sgF (m + 1) (a :: p) = 0 := by
        show (if a ∈ sgF then runOf sgF m p + 1 else 0) = _
        rw [if_neg ha]
      rw [if_neg (fun z => ha ((fig_mem a).mpr z)), e1, if_neg (by omega)]
      rfl
/-- what a token is, by what stands behind its first sign -/
def tokP (k : Nat) (p : List Nat) : Nat × Bool :=
  if k ∈ sgL then (1 + runOf sgLF 11 p, nx p (runOf sgLF 11 p)) else if k = 48 then (1, nx p 0) else if k ∈ sgF then (1 + runOf sgF 39 p, nx p (runOf sgF 39 p)) else
    if [[61, 61], [33, 61], [60, 61]].contains (k :: p.take 1) = true then (2, false) else if k ∈ sgS then (1, false) else (0, true)
theorem long_tokP {t p : List Nat} {spot k : Nat} (h : t.drop spot = k :: p) : longL t spot k = tokP k p := by
  have h1 : t.drop (spot + 1) = p := by
    rw [← List.drop_drop, h]
    rfl
  unfold longL tokP
  rw [h1]
  by_cases hl : k ∈ sgL
  · rw [if_pos ((let_mem k).mp hl), if_pos hl, letL_run 12 1 p rfl]
    obtain ⟨r1, r2⟩ : runOf sgLF 11 p = min (runOf sgLF 12 p) 11 ∧ (runOf sgLF 12 p = 12 → ∃ c, p[11]? = some c ∧ c ∈ sgLF) := run_more sgLF 11 p
    obtain ⟨s1, s2⟩ := run_stop sgLF 12 p
    by_cases hr : runOf sgLF 12 p = 12
    · rw [if_pos hr]
      obtain ⟨c, hc, hS⟩ := r2 hr
      rw [r1, hr]
      unfold nx
      rw [show min 12 11 = 11 from rfl, hc]
      dsimp only
      rw [(lf_mem c).mp hS]
    · rw [if_neg hr, r1, Nat.min_eq_left (by omega)]
      have hn : nx p (runOf sgLF 12 p) = false := by
        unfold nx
        cases hc : p[runOf sgLF 12 p]? with
        | none => rfl
        | some c => simpa using fun z => s2 (by omega) c hc ((lf_mem c).mpr z)
      rw [hn]
  rw [if_neg (fun z => hl ((let_mem k).mpr z)), if_neg hl]
  by_cases h48 : k = 48
  · subst h48
    rw [if_pos (show isFig 48 = true by decide), if_pos rfl]
    cases p with
    | nil => rfl
    | cons a p =>
      show (if isFig a = true then (if 48 = 48 ∨ 1 = 40 then (1, true) else figL 48 2 (p.take 39)) else (1, isLet a)) = (1, isLet a || isFig a)
      by_cases ha : isFig a = true
      · rw [if_pos ha, if_pos (Or.inl rfl), ha, Bool.or_true]
      · rw [if_neg ha]
        have : isFig a = false := by simpa using ha
        rw [this, Bool.or_false]
  rw [if_neg h48]
  by_cases hf : k ∈ sgF
  · rw [if_pos ((fig_mem k).mp hf), if_pos hf, figL_run k h48 40 1 p rfl (by decide)]
    obtain ⟨r1, r2⟩ : runOf sgF 39 p = min (runOf sgF 40 p) 39 ∧ (runOf sgF 40 p = 40 → ∃ c, p[39]? = some c ∧ c ∈ sgF) := run_more sgF 39 p
    obtain ⟨s1, s2⟩ := run_stop sgF 40 p
    by_cases hr : runOf sgF 40 p = 40
    · rw [if_pos hr]
      obtain ⟨c, hc, hS⟩ := r2 hr
      rw [r1, hr]
      unfold nx
      rw [show min 40 39 = 39 from rfl, hc]
      dsimp only
      rw [(fig_mem c).mp hS, Bool.or_true]
    · rw [if_neg hr, r1, Nat.min_eq_left (by omega)]
      congr 1
      unfold nx
      cases hc : p[runOf sgF 40 p]? with
      | none => rfl
      | some c =>
        have hn : isFig c = false := by simpa using fun z => s2 (by omega) c hc ((fig_mem c).mpr z)
        show isLet c = (isLet c || isFig c)
        rw [hn, Bool.or_false]
  rw [if_neg (fun z => hf ((fig_mem k).mpr z)), if_neg hf]
  have ea : longAt t spot = [[61, 61], [33, 61], [60, 61]].contains (k :: p.take 1) := by
    unfold longAt
    rw [h]
    rfl
  rw [ea]
end Lw

namespace Lw
open PySem PySem.Spec L2 Eg
/-- what stands behind a row: nothing, or an end of line -/
def Behind (rest : List Nat) : Prop := rest = [] ∨ ∃ r, rest = 10 :: r
theorem run_app {S : List Nat} (hS : 10 ∉ S) {rest : List Nat} (hb : Behind rest) : ∀ (m : Nat) (u : List Nat), runOf S m (u ++ rest) = runOf S m u
  | 0, u => by cases u <;> cases rest <;> rfl
  | m + 1, [] => by
    rcases hb with rfl | ⟨r, rfl⟩
    · rfl
    · show (if 10 ∈ S then runOf S m r + 1 else 0) = 0
      rw [if_neg hS]
  | m + 1, a :: u => by
    show (if a ∈ S then runOf S m (u ++ rest) + 1 else 0) = (if a ∈ S then runOf S m u + 1 else 0)
    rw [run_app hS hb m u]
theorem nx_app {rest : List Nat} (hb : Behind rest) {u : List Nat} {r : Nat} (hr : r ≤ u.length) : nx (u ++ rest) r = nx u r := by
  unfold nx
  by_cases h : r < u.length
  · rw [List.getElem?_append_left h]
  · have e : r = u.length := by omega
    subst e
    rw [List.getElem?_append_right (Nat.le_refl _), Nat.sub_self, List.getElem?_eq_none (Nat.le_refl _)]
    rcases hb with rfl | ⟨r, rfl⟩
    · rfl
    · rfl
theorem brk_nx {row u : List Nat} {i k : Nat} (h : row.drop i = k :: u) (r : Nat) : brk row (i + (1 + r)) = nx u r := by
  have e : row[i + (1 + r)]? = u[r]? := by
    rw [← List.getElem?_drop, h, Nat.add_comm 1 r]
    rfl
  unfold brk nx
  rw [e]
  cases u[r]? with
  | none => rfl
  | some c =>
    show decide (c ∈ sgLF) = (isLet c || isFig c)
    by_cases hc : c ∈ sgLF
    · rw [decide_eq_true hc, (lf_mem c).mp hc]
    · rw [decide_eq_false hc]
      have : ¬ (isLet c || isFig c) = true := fun z => hc ((lf_mem c).mpr z)
      simpa using this
theorem runTo_eq {row u rest : List Nat} {i k m : Nat} {S : List Nat} (hS : 10 ∉ S) (hb : Behind rest) (hk : k ∈ S) (h : row.drop i = k :: u) : runTo S (m + 1) row i = (i + (1 + runOf S m (u ++ rest)), !nx (u ++ rest) (runOf S m (u ++ rest))) := by
  have e : runOf S (m + 1) (row.drop i) = 1 + runOf S m (u ++ rest) := by
    rw [h, run_app hS hb]
    show (if k ∈ S then runOf S m u + 1 else 0) = _
    rw [if_pos hk, Nat.add_comm]
  unfold runTo
  rw [e, brk_nx h, run_app hS hb, nx_app hb (runOf_le _ _ _)]
theorem tok_tokP {row u rest : List Nat} {i k : Nat} (hb : Behind rest) (h : row.drop i = k :: u) : tokOf row i k = (i + (tokP k (u ++ rest)).1, !(tokP k (u ++ rest)).2) := by
  have n1 : 10 ∉ sgLF := by decide +kernel
  have n2 : 10 ∉ sgF := by decide +kernel
  unfold tokOf tokP
  by_cases hl : k ∈ sgL
  · rw [if_pos hl, if_pos hl]
    exact runTo_eq n1 hb ((lf_mem k).mpr (by rw [(let_mem k).mp hl]; rfl)) h
  rw [if_neg hl, if_neg hl]
  by_cases h48 : k = 48
  · rw [if_pos h48, if_pos h48]
    have z := runTo_eq (m := 0) n2 hb (by rw [h48]; decide +kernel) h
    have e0 : runOf sgF 0 (u ++ rest) = 0 := by cases (u ++ rest) <;> rfl
    rw [e0] at z
    exact z
  rw [if_neg h48, if_neg h48]
  by_cases hf : k ∈ sgF
  · rw [if_pos hf, if_pos hf]
    exact runTo_eq n2 hb hf h
  rw [if_neg hf, if_neg hf]
  have e : longAt row i = [[61, 61], [33, 61], [60, 61]].contains (k :: (u ++ rest).take 1) := by
    unfold longAt
    rw [h]
    cases u with
    | cons a u => rfl
    | nil =>
      rcases hb with rfl | ⟨r, rfl⟩
      · rfl
      · show [[61, 61], [33, 61], [60, 61]].contains [k] = [[61, 61], [33, 61], [60, 61]].contains [k, 10]
        simp
  rw [e]
  by_cases h2 : [[61, 61], [33, 61], [60, 61]].contains (k :: (u ++ rest).take 1) = true
  · rw [if_pos h2, if_pos h2]
    rfl
  rw [if_neg h2, if_neg h2]
  by_cases h3 : k ∈ sgS
  · rw [if_pos h3, if_pos h3]
    rfl
  · rw [if_neg h3, if_neg h3]
    rfl
/-- a token of a row is the token of the text there -/
theorem long_tok {t row u rest : List Nat} {i spot k : Nat} (hb : Behind rest) (h : row.drop i = k :: u) (ht : t.drop spot = k :: (u ++ rest)) : tokOf row i k = (i + (longL t spot k).1, !(longL t spot k).2) := by
  rw [long_tokP ht]
  exact tok_tokP hb h
end Lw

namespace Lw
open PySem PySem.Spec L2 Eg
abbrev pr3 (x : List Nat × Nat × Nat × Nat) : List Nat × Nat × Nat := (x.1, x.2.1, x.2.2.1)
def tail_ (t rest : List Nat) (n line at_ : Nat) : List (List Nat × Nat × Nat × Nat) × Option (Nat × Nat × Nat) := if rest = [] then ([], none) else lawCut n t at_ line at_
def Agree (R : List (List Nat × Nat × Nat × Nat) × Option (Nat × Nat × Nat)) (c : List (List Nat × Nat) × Option Nat) (line : Nat) (tl : List (List Nat × Nat × Nat × Nat) × Option (Nat × Nat × Nat)) : Prop :=
  match c.2 with
  | some b => R.1.map pr3 = c.1.map (fun x => (x.1, line, x.2)) ∧ ∃ z, R.2 = some (line, b, z)
  | none => R.1.map pr3 = c.1.map (fun x => (x.1, line, x.2)) ++ tl.1.map pr3 ∧ R.2 = tl.2
theorem upNL_app {rest : List Nat} (hb : Behind rest) : ∀ (u : List Nat), 10 ∉ u → upNL (u ++ rest) = u.length
  | [], _ => by
    rcases hb with rfl | ⟨r, rfl⟩
    · rfl
    · rfl
  | a :: u, h => by
    have ha : a ≠ 10 := fun z => h (by rw [z]; exact List.mem_cons_self)
    show (if a = 10 then 0 else upNL (u ++ rest) + 1) = u.length + 1
    rw [if_neg ha, upNL_app hb u (fun z => h (List.mem_cons_of_mem _ z))]
theorem rowCut_end {m : Nat} {row : List Nat} {i : Nat} (h : row[fromAt row i]? = none) : rowCut m row i = ([], none) := by
  cases m with
  | zero => rfl
  | succ m =>
    unfold rowCut
    rw [h]
theorem fromAt_len (row : List Nat) : fromAt row row.length = row.length := by
  unfold fromAt
  rw [List.drop_length]
  show (if row[row.length + 0]? = some 35 then row.length else row.length + 0) = row.length
  rw [List.getElem?_eq_none (by omega)]
  simp
theorem walk (t row rest : List Nat) (lead line : Nat) (hb : Behind rest) (h10 : 10 ∉ row) (ht : t.drop lead = row ++ rest) : ∀ (n i m : Nat), i ≤ row.length → row.length + rest.length - i ≤ n → row.length - i < m →
    ∃ n', rest.length - 1 ≤ n' ∧ Agree (lawCut n t (lead + i) line lead) (rowCut m row i) line (tail_ t rest n' (line + 1) (lead + row.length + 1)) := by
  have at_ : ∀ i, t[lead + i]? = (row ++ rest)[i]? := fun i => by rw [← ht, List.getElem?_drop]
  have dr : ∀ i, i ≤ row.length → t.drop (lead + i) = row.drop i ++ rest := fun i hi => by
    rw [← List.drop_drop, ht, List.drop_append_of_le_length hi]
  intro n
  induction n with
  | zero =>
    intro i m hi hn hm
    have e1 : i = row.length := by omega
    have e2 : rest = [] := by
      cases rest with
      | nil => rfl
      | cons a r =>
        rw [List.length_cons] at hn
        omega
    subst e1 e2
    refine ⟨0, Nat.le_refl _, ?_⟩
    rw [rowCut_end (by rw [fromAt_len]; exact List.getElem?_eq_none (Nat.le_refl _))]
    exact ⟨rfl, rfl⟩
  | succ n ih =>
    intro i m hi hn hm
    by_cases hlt : i < row.length
    · have hk : row[i]? = some row[i] := List.getElem?_eq_getElem hlt
      have hmem : row[i] ∈ row := List.getElem_mem hlt
      have hd : row.drop i = row[i] :: row.drop (i + 1) := List.drop_eq_getElem_cons hlt
      generalize row[i] = k at hk hmem hd
      have n10 : k ≠ 10 := fun z => h10 (by rw [← z]; exact hmem)
      have htk : t[lead + i]? = some k := by
        rw [at_, List.getElem?_append_left hlt]
        exact hk
      unfold lawCut
      rw [htk]
      dsimp only
      by_cases h35 : k = 35
      · rw [if_pos h35, dr i hi, upNL_app hb _ (fun z => h10 (List.mem_of_mem_drop z)), List.length_drop, show lead + i + (row.length - i) = lead + row.length by omega]
        have er : rowCut m row i = ([], none) := by
          refine rowCut_end ?_
          have : fromAt row i = row.length := by
            unfold fromAt
            have b0 : blanks (row.drop i) = 0 := by
              rw [hd, h35]
              rfl
            rw [b0, Nat.add_zero, hk, if_pos (by rw [h35])]
          rw [this]
          exact List.getElem?_eq_none (Nat.le_refl _)
        have el : rowCut m row row.length = ([], none) := rowCut_end (by rw [fromAt_len]; exact List.getElem?_eq_none (Nat.le_refl _))
        obtain ⟨n', h1, h2⟩ := ih row.length m (Nat.le_refl _) (by omega) (by omega)
        rw [er]
        rw [el] at h2
        exact ⟨n', h1, h2⟩
      rw [if_neg h35, if_neg n10]
      by_cases h32 : k = 32
      · rw [if_pos h32]
        have ef : fromAt row i = fromAt row (i + 1) := by
          have b1 : blanks (row.drop i) = blanks (row.drop (i + 1)) + 1 := by
            rw [hd, h32]
            rfl
          unfold fromAt
          rw [b1, show i + (blanks (row.drop (i + 1)) + 1) = i + 1 + blanks (row.drop (i + 1)) by omega]
        have er : rowCut m row i = rowCut m row (i + 1) := by
          cases m with
          | zero => omega
          | succ m =>
            unfold rowCut
            rw [ef]
        obtain ⟨n', h1, h2⟩ := ih (i + 1) m hlt (by omega) (by omega)
        rw [er]
        exact ⟨n', h1, h2⟩
      rw [if_neg h32]
      have ef : fromAt row i = i := by
        have b0 : blanks (row.drop i) = 0 := by
          rw [hd]
          unfold blanks
          split
          · rename_i h
            injection h with z1 z2
            exact absurd z1 h32
          · rfl
        unfold fromAt
        rw [b0, Nat.add_zero, hk, if_neg (fun z => h35 (Option.some.inj z))]
      obtain ⟨m, rfl⟩ : ∃ m', m = m' + 1 := ⟨m - 1, by omega⟩
      have etok := long_tok hb hd (by rw [dr i hi, hd]; rfl : t.drop (lead + i) = k :: (row.drop (i + 1) ++ rest))
      unfold rowCut
      rw [ef, hk]
      dsimp only
      have hok := @tokOf_ok row i k hk
      rw [etok] at hok ⊢
      generalize longL t (lead + i) k = lg at hok ⊢
      obtain ⟨far, bad⟩ := lg
      dsimp only at hok ⊢
      cases bad with
      | true =>
        rw [if_pos rfl, if_neg (by simp)]
        refine ⟨rest.length - 1, Nat.le_refl _, rfl, lead + i + far + 1, ?_⟩
        show some (line, lead + i + far - lead + 1, lead + i + far + 1) = _
        rw [show lead + i + far - lead = i + far by omega]
      | false =>
        obtain ⟨f1, f2⟩ := hok rfl
        rw [if_neg (by simp), if_pos (by simp)]
        obtain ⟨n', h1, h2⟩ := ih (i + far) m f2 (by omega) (by omega)
        refine ⟨n', h1, ?_⟩
        have etx : (t.drop (lead + i)).take far = (row.drop i).take far := by
          rw [dr i hi, List.take_append_of_le_length (by rw [List.length_drop]; omega)]
        unfold Agree at h2 ⊢
        dsimp only
        rw [show i + far - i = far by omega, show lead + i + far = lead + (i + far) by omega, etx, show lead + i - lead = i by omega]
        cases hc : (rowCut m row (i + far)).2 with
        | some b =>
          rw [hc] at h2
          obtain ⟨g1, g2⟩ := h2
          refine ⟨?_, g2⟩
          rw [List.map_cons, List.map_cons, g1]
        | none =>
          rw [hc] at h2
          obtain ⟨g1, g2⟩ := h2
          refine ⟨?_, g2⟩
          rw [List.map_cons, List.map_cons, g1]
          rfl
    · have e1 : i = row.length := by omega
      subst e1
      rw [rowCut_end (by rw [fromAt_len]; exact List.getElem?_eq_none (Nat.le_refl _))]
      rcases hb with rfl | ⟨r, rfl⟩
      · refine ⟨0, Nat.le_refl _, ?_⟩
        unfold lawCut
        rw [at_, List.append_nil, List.getElem?_eq_none (Nat.le_refl _)]
        exact ⟨rfl, rfl⟩
      · refine ⟨n, by rw [List.length_cons] at hn ⊢; omega, ?_⟩
        unfold lawCut
        rw [at_, List.getElem?_append_right (Nat.le_refl _), Nat.sub_self]
        show Agree (lawCut n t (lead + row.length + 1) (line + 1) (lead + row.length + 1)) ([], none) line _
        refine ⟨?_, ?_⟩
        · unfold tail_
          rw [if_neg (by simp)]
          simp
        · unfold tail_
          rw [if_neg (by simp)]
end Lw

namespace Lw
open PySem PySem.Spec L2 Eg
def nextRows : List Nat → List (List Nat)
  | [] => []
  | _ :: r => TL.spl [10] 0 [] r
theorem spl_row : ∀ (s acc : List Nat), 10 ∉ acc → ∃ row rest, Behind rest ∧ acc ++ s = row ++ rest ∧ 10 ∉ row ∧ rest.length ≤ s.length ∧
    TL.spl [10] 0 acc s = row :: (nextRows rest)
  | [], acc, h => by
    refine ⟨acc, [], .inl rfl, rfl, h, Nat.le_refl _, ?_⟩
    unfold TL.spl
    rfl
  | c :: s, acc, h => by
    by_cases hc : c = 10
    · subst hc
      refine ⟨acc, 10 :: s, .inr ⟨s, rfl⟩, rfl, h, Nat.le_refl _, ?_⟩
      rfl
    · obtain ⟨row, rest, h1, h2, h3, h4, h5⟩ := spl_row s (acc ++ [c]) (by
        intro z
        rcases List.mem_append.mp z with z | z
        · exact h z
        · exact hc (List.mem_singleton.mp z).symm)
      refine ⟨row, rest, h1, by rw [← h2]; simp, h3, by rw [List.length_cons]; omega, ?_⟩
      rw [← h5]
      have hp : TL.pre [10] (c :: s) = false := by
        unfold TL.pre
        simp [hc]
      show (if TL.pre [10] (c :: s) = true then acc :: TL.spl [10] ([10].length - 1) [] s else TL.spl [10] 0 (acc ++ [c]) s) = _
      rw [hp]
      rfl
def g3 (x : List Nat × Nat × Nat) : DV := .tup [.str (sOf x.1), .int x.2.1, .int x.2.2]
theorem ltD_g (l : List (List Nat × Nat × Nat × Nat)) : l.map ltD = (l.map pr3).map g3 := by
  rw [List.map_map]
  rfl
theorem tkD_g (line : Nat) (l : List (List Nat × Nat)) : l.map (tkD line) = (l.map (fun x => (x.1, line, x.2))).map g3 := by
  rw [List.map_map]
  rfl
theorem all_rows : ∀ (N : Nat) (s t : List Nat) (lead line n : Nat), s.length ≤ N → t.drop lead = s → s.length ≤ n →
    (lawCut n t lead line lead).1.map ltD = (cutRows line (TL.spl [10] 0 [] s)).1 ∧ (lawCut n t lead line lead).2.map (fun x => (x.1, x.2.1)) = (cutRows line (TL.spl [10] 0 [] s)).2 := by
  intro N
  induction N with
  | zero =>
    intro s t lead line n hN ht hn
    have e : s = [] := List.length_eq_zero_iff.mp (Nat.le_zero.mp hN)
    subst e
    have ec : cutRows line (TL.spl [10] 0 [] []) = ([], none) := by
      unfold TL.spl cutRows
      rfl
    rw [ec]
    have hnone : t[lead]? = none := by
      have : (t.drop lead)[0]? = t[lead + 0]? := List.getElem?_drop ..
      rw [ht] at this
      exact this.symm
    cases n with
    | zero => exact ⟨rfl, rfl⟩
    | succ n =>
      unfold lawCut
      rw [hnone]
      exact ⟨rfl, rfl⟩
  | succ N ih =>
    intro s t lead line n hN ht hn
    obtain ⟨row, rest, hb, h1, h2, h3, h4⟩ := spl_row s [] List.not_mem_nil
    rw [List.nil_append] at h1
    have hlen : s.length = row.length + rest.length := by rw [h1, List.length_append]
    obtain ⟨n', w1, w2⟩ := walk t row rest lead line hb h2 (ht.trans h1) n 0 (row.length + 1) (Nat.zero_le _) (by omega) (by omega)
    rw [Nat.add_zero] at w2
    rw [h4]
    unfold cutRows
    generalize rowCut (row.length + 1) row 0 = rc at w2 ⊢
    unfold Agree at w2
    cases hc : rc.2 with
    | some b =>
      rw [hc] at w2
      obtain ⟨g1, z, g2⟩ := w2
      refine ⟨?_, ?_⟩
      · rw [ltD_g, g1, tkD_g]
      · rw [g2]
        rfl
    | none =>
      rw [hc] at w2
      obtain ⟨g1, g2⟩ := w2
      have tl : (tail_ t rest n' (line + 1) (lead + row.length + 1)).1.map ltD = (cutRows (line + 1) (nextRows rest)).1 ∧
          (tail_ t rest n' (line + 1) (lead + row.length + 1)).2.map (fun x => (x.1, x.2.1)) = (cutRows (line + 1) (nextRows rest)).2 := by
        rcases hb with rfl | ⟨r, rfl⟩
        · unfold tail_
          rw [if_pos rfl]
          exact ⟨rfl, rfl⟩
        · unfold tail_
          rw [if_neg (by simp)]
          rw [List.length_cons] at hlen w1
          refine ih r t (lead + row.length + 1) (line + 1) n' (by omega) ?_ (by omega)
          rw [Nat.add_assoc, ← List.drop_drop, ht, h1, ← List.drop_drop, List.drop_left]
          rfl
      refine ⟨?_, ?_⟩
      · show _ = rc.1.map (tkD line) ++ _
        rw [← tl.1, ltD_g, g1, List.map_append, tkD_g, ltD_g]
      · rw [g2]
        exact tl.2
theorem told_due (z : Str) : toldD z = dueD z := by
  have hlen : z.length = z.cps.toList.length := (Array.length_toList).symm
  obtain ⟨h1, h2⟩ := all_rows z.cps.toList.length z.cps.toList z.cps.toList 0 1 z.length (Nat.le_refl _) rfl (by omega)
  unfold toldD dueD rowsOf
  generalize lawCut z.length z.cps.toList 0 1 0 = R at h1 h2 ⊢
  rw [← h1, ← h2]
  obtain ⟨r1, r2⟩ := R
  cases r2 with
  | none => rfl
  | some x =>
    obtain ⟨a, b, c⟩ := x
    rfl
end Lw

namespace Lw
open PySem PySem.Spec L2 Eg
/-- a list in a slot, made to be changed, is told to stay as it is -/
theorem Sts.frz {X : Cx} {xs : List Stmt} {ρ : RO} {μ : List MO} {R : Co} (i k : Nat) {ds : List DV} (hi : ρ[i]? = some (some (.mu k))) (hk : μ[k]? = some (.lst ds)) (h : Sts X xs (ρ.set i (some (.lst ds))) (μ.set k .dead) R) : Sts X xs ρ μ R :=
  PSsw h fun D σ H ⟨α, E, q⟩ => by
    obtain ⟨v, e1, e2⟩ := E.at_ i _ hi
    cases e2 with
    | mu ha =>
      obtain ⟨kp, l, nl⟩ := E.live.freeze (k := k)
      obtain ⟨vs, h1, h2⟩ := E.live.ob k _ _ ha hk
      have E2 := (E.ext kp l).set i (.lst (.inl ⟨nl _ ha, .inl h1⟩) (kp.hasL h2))
      have es : ∀ u, σ[i]? = some (some u) → σ.set i (some u) = σ := fun u e1 => by
        obtain ⟨hl, he⟩ := List.getElem?_eq_some_iff.mp e1
        apply List.ext_getElem?
        intro j
        by_cases hj : j = i
        · subst hj
          rw [List.getElem?_set_self hl]
          exact e1.symm
        · rw [List.getElem?_set_ne (Ne.symm hj)]
      rw [es _ e1] at E2
      exact ⟨α, E2, fun ρ' σ' α' μ' H' r E' k' => q.1 ρ' σ' α' μ' H' r E' (kp.trans k'), fun v d α' μ' H' r l' k' => q.2.1 v d α' μ' H' r l' (kp.trans k'),
        fun ρ' σ' α' μ' H' r E' k' => q.2.2.1 ρ' σ' α' μ' H' r E' (kp.trans k'), fun ρ' σ' α' μ' H' r E' k' => q.2.2.2 ρ' σ' α' μ' H' r E' (kp.trans k')⟩
/-! ### what is due can be shown, and briefly -/
def Shw (n L : Nat) (d : DV) : Prop := ∃ pd, toPy d = some pd ∧ pd.showable = true ∧ pd.depth ≤ n ∧ pd.shown.length ≤ L
theorem int_len {i : Int} (h : i.natAbs ≤ 10 ^ 40) : (Str.ofString (toString i)).length ≤ 60 := by
  rw [ofString_length]
  have nat : ∀ n : Nat, n ≤ 10 ^ 40 → (n.repr).length ≤ 42 := fun n hn => (Nat.length_repr_le_iff (by decide)).mpr (Nat.lt_of_le_of_lt hn (by decide))
  cases i with
  | ofNat n =>
    have : (toString (Int.ofNat n)) = n.repr := rfl
    rw [this]
    exact Nat.le_trans (nat n h) (by decide)
  | negSucc n =>
    have e : (toString (Int.negSucc n)) = "-" ++ (n + 1).repr := rfl
    have l1 : ("-" : String).length = 1 := by decide
    have h' := nat (n + 1) h
    rw [e, String.length_append, l1]
    omega
theorem Shw.nat {n : Nat} (h : n ≤ 10 ^ 40) : Shw 1 60 (.int (n : Int)) := by
  refine ⟨_, rfl, ?_, by simp [PyData.depth], ?_⟩
  · rw [PyData.showable]
    refine decide_eq_true ?_
    by_cases z : (n : Int).natAbs = 0
    · rw [z]
      decide
    · refine (Nat.log2_lt z).mpr (Nat.lt_of_le_of_lt ?_ (by decide +kernel : 10 ^ 40 < 2 ^ 1920))
      simpa using h
  · rw [PyData.shown]
    exact int_len (by simpa using h)
theorem Shw.str {y : Str} (hy : ∀ c ∈ y.cps.toList, c < 16 ^ 8) : Shw 1 (10 * y.length + 2) (.str y) :=
  ⟨_, rfl, rfl, by simp [PyData.depth], by rw [PyData.shown]; exact StrLaws.reprText_len y hy⟩
theorem shw_list {n L : Nat} : ∀ {ds : List DV}, (∀ d ∈ ds, Shw n L d) → ∃ pds, toPyL ds = some pds ∧ PyData.showableAll pds = true ∧ PyData.depthAll pds ≤ n ∧ ((PyData.shownAll pds).map (fun x => x.length)).sum ≤ ds.length * L ∧ (PyData.shownAll pds).length = ds.length
  | [], _ => ⟨[], rfl, rfl, by simp [PyData.depthAll], by simp [PyData.shownAll], by simp [PyData.shownAll]⟩
  | x :: r, h => by
    obtain ⟨pd, e1, s1, d1, l1⟩ := h x List.mem_cons_self
    obtain ⟨pds, e2, s2, d2, l2, n2⟩ := shw_list (ds := r) fun d hd => h d (List.mem_cons_of_mem _ hd)
    refine ⟨pd :: pds, by show (toPy x).bind _ = _; rw [e1]; show (toPyL r).map _ = _; rw [e2]; rfl, ?_, ?_, ?_, ?_⟩
    · simp [PyData.showableAll, s1, s2]
    · simp [PyData.depthAll]
      omega
    · simp only [PyData.shownAll, List.map_cons, List.sum_cons, List.length_cons]
      rw [Nat.add_mul]
      omega
    · simp [PyData.shownAll, n2]
theorem Shw.tup {n L : Nat} {ds : List DV} (h : ∀ d ∈ ds, Shw n L d) : Shw (n + 1) (ds.length * L + 2 * ds.length + 3) (.tup ds) := by
  obtain ⟨pds, e, s, dp, sh, sl⟩ := shw_list h
  refine ⟨.tuple pds, by show (toPyL ds).map PyData.tuple = _; rw [e]; rfl, by rw [PyData.showable]; exact s, by rw [PyData.depth]; omega, ?_⟩
  rw [PyData.shown]
  have z := tupleText_len_le (PyData.shownAll pds)
  rw [sl] at z
  omega
theorem Shw.lst {n L : Nat} {ds : List DV} (h : ∀ d ∈ ds, Shw n L d) : Shw (n + 1) (ds.length * L + 2 * ds.length + 3) (.lst ds) := by
  obtain ⟨pds, e, s, dp, sh, sl⟩ := shw_list h
  refine ⟨.list pds, by show (toPyL ds).map PyData.list = _; rw [e]; rfl, by rw [PyData.showable]; exact s, by rw [PyData.depth]; omega, ?_⟩
  rw [PyData.shown]
  have z := listText_len_le (PyData.shownAll pds)
  rw [sl] at z
  omega
theorem Shw.up {n m L M : Nat} {d : DV} (h : Shw n L d) (e1 : n ≤ m) (e2 : L ≤ M) : Shw m M d := by
  obtain ⟨pd, a, b, c, e⟩ := h
  exact ⟨pd, a, b, by omega, by omega⟩
end Lw

namespace Lw
open PySem PySem.Spec L2 Eg
theorem letL_le : ∀ (v : List Nat) (f : Nat), (letL f v).1 ≤ f + v.length + 12
  | [], f => by
    unfold letL
    split
    · show 12 ≤ f + 0 + 12
      omega
    · show f ≤ f + 0 + 12
      omega
  | c :: r, f => by
    unfold letL
    split
    · have := letL_le r (f + 1)
      rw [List.length_cons]
      omega
    · show f ≤ f + (r.length + 1) + 12
      omega
theorem figL_le (k : Nat) : ∀ (v : List Nat) (f : Nat), (figL k f v).1 ≤ f + v.length
  | [], f => Nat.le_refl _
  | c :: r, f => by
    unfold figL
    split
    · split
      · show f ≤ f + (r.length + 1)
        omega
      · have := figL_le k r (f + 1)
        rw [List.length_cons]
        omega
    · show f ≤ f + (r.length + 1)
      omega
theorem longL_le (t : List Nat) (i k : Nat) : (longL t i k).1 ≤ 41 := by
  unfold longL
  split
  · have h := letL_le ((t.drop (i + 1)).take 12) 1
    have h2 := List.length_take_le 12 (t.drop (i + 1))
    omega
  · split
    · have h := figL_le k ((t.drop (i + 1)).take 40) 1
      have h2 := List.length_take_le 40 (t.drop (i + 1))
      omega
    · split
      · decide
      · split
        · decide
        · decide
theorem lawCut_in : ∀ (n : Nat) (t : List Nat) (spot row lead : Nat), (∀ x ∈ (lawCut n t spot row lead).1, x.1.length ≤ 41 ∧ (∀ c ∈ x.1, c ∈ t) ∧ x.2.1 ≤ row + n ∧ x.2.2.1 ≤ spot + n * (t.length + 41) + 1) ∧
    ∀ a b c, (lawCut n t spot row lead).2 = some (a, b, c) → a ≤ row + n ∧ b ≤ spot + n * (t.length + 41) + 42
  | 0, _, _, _, _ => ⟨(fun x hx => nomatch hx), (fun _ _ _ h => nomatch h)⟩
  | n + 1, t, spot, row, lead => by
    have step : ∀ (spot' row' lead' : Nat), spot' ≤ spot + (t.length + 41) → row' ≤ row + 1 → (∀ x ∈ (lawCut n t spot' row' lead').1, x.1.length ≤ 41 ∧ (∀ c ∈ x.1, c ∈ t) ∧ x.2.1 ≤ row + (n + 1) ∧ x.2.2.1 ≤ spot + (n + 1) * (t.length + 41) + 1) ∧
        ∀ a b c, (lawCut n t spot' row' lead').2 = some (a, b, c) → a ≤ row + (n + 1) ∧ b ≤ spot + (n + 1) * (t.length + 41) + 42 := by
      intro spot' row' lead' e1 e2
      obtain ⟨i1, i2⟩ := lawCut_in n t spot' row' lead'
      rw [Nat.add_mul, Nat.one_mul]
      refine ⟨fun x hx => ?_, fun a b c h => ?_⟩
      · obtain ⟨a1, a2, a3, a4⟩ := i1 x hx
        exact ⟨a1, a2, by omega, by omega⟩
      · obtain ⟨a1, a2⟩ := i2 a b c h
        exact ⟨by omega, by omega⟩
    unfold lawCut
    split
    · exact ⟨(fun x hx => nomatch hx), (fun _ _ _ h => nomatch h)⟩
    · rename_i k hk
      have hl := longL_le t spot k
      have hu := upNL_le (t.drop spot)
      rw [List.length_drop] at hu
      split
      · exact step _ _ _ (by omega) (by omega)
      · split
        · exact step _ _ _ (by omega) (by omega)
        · split
          · exact step _ _ _ (by omega) (by omega)
          · split
            · refine ⟨(fun x hx => nomatch hx), fun a b c h => ?_⟩
              cases h
              rw [Nat.add_mul, Nat.one_mul]
              exact ⟨by omega, by omega⟩
            · obtain ⟨s1, s2⟩ := step (spot + (longL t spot k).1) row lead (by omega) (by omega)
              refine ⟨fun x hx => ?_, s2⟩
              rcases List.mem_cons.mp hx with e | e
              · subst e
                refine ⟨?_, fun c hc => List.mem_of_mem_drop (List.mem_of_mem_take hc), by show row ≤ _; omega, ?_⟩
                · show ((t.drop spot).take (longL t spot k).1).length ≤ 41
                  have := List.length_take_le (longL t spot k).1 (t.drop spot)
                  omega
                · show spot - lead + 1 ≤ _
                  omega
              · exact s1 x e
theorem dueD_shw {z : Str} (hz : z.length ≤ 1345) (hp : z.cps.toList.all (fun x => decide (x < 127)) = true) : Shw 4 3354443 (dueD z) := by
  have hlen : z.length = z.cps.toList.length := (Array.length_toList).symm
  have hn := lawCut_len z.length z.cps.toList 0 1 0
  obtain ⟨h1, h2⟩ := lawCut_in z.length z.cps.toList 0 1 0
  have big : ∀ m : Nat, m ≤ 10000000 → m ≤ 10 ^ 40 := fun m h => Nat.le_trans h (by decide +kernel)
  have hm : z.length * (z.cps.toList.length + 41) ≤ 1345 * 1386 := Nat.mul_le_mul hz (by omega)
  unfold dueD
  generalize lawCut z.length z.cps.toList 0 1 0 = R at h1 h2 hn ⊢
  obtain ⟨r1, r2⟩ := R
  have hstr : ∀ y : Str, y.cps.toList.all (fun x => decide (x < 127)) = true → y.length ≤ 41 → Shw 1 412 (.str y) := fun y a b =>
    (Shw.str fun c hc => Nat.lt_trans (of_decide_eq_true (List.all_eq_true.mp a c hc)) (by decide)).up (Nat.le_refl _) (by omega)
  cases r2 with
  | some x =>
    obtain ⟨a, b, c⟩ := x
    obtain ⟨g1, g2⟩ := h2 a b c rfl
    refine (Shw.lst (n := 1) (L := 412) (ds := [.str (Str.ofString "bad"), .int (a : Nat), .int (b : Nat)]) fun d hd => ?_).up (by decide) (by show 3 * 412 + 2 * 3 + 3 ≤ _; decide)
    rcases List.mem_cons.mp hd with e | hd
    · rw [e]
      exact hstr _ (by decide +kernel) (by decide +kernel)
    rcases List.mem_cons.mp hd with e | hd
    · rw [e]
      exact (Shw.nat (big a (by omega))).up (Nat.le_refl _) (by decide)
    · rw [List.mem_singleton.mp hd]
      exact (Shw.nat (big b (by omega))).up (Nat.le_refl _) (by decide)
  | none =>
    have tok : ∀ d ∈ r1.map ltD, Shw 2 1245 d := by
      intro d hd
      obtain ⟨x, hx, rfl⟩ := List.mem_map.mp hd
      obtain ⟨a1, a2, a3, a4⟩ := h1 x hx
      refine (Shw.tup (n := 1) (L := 412) (ds := [.str (sOf x.1), .int x.2.1, .int x.2.2.1]) fun d hd => ?_).up (by decide) (by show 3 * 412 + 2 * 3 + 3 ≤ _; decide)
      rcases List.mem_cons.mp hd with e | hd
      · rw [e]
        refine hstr _ ?_ a1
        rw [List.all_eq_true]
        intro c hc
        exact List.all_eq_true.mp hp c (a2 c (by simpa using hc))
      rcases List.mem_cons.mp hd with e | hd
      · rw [e]
        exact (Shw.nat (big _ (by omega))).up (Nat.le_refl _) (by decide)
      · rw [List.mem_singleton.mp hd]
        exact (Shw.nat (big _ (by omega))).up (Nat.le_refl _) (by decide)
    have hl : (r1.map ltD).length ≤ 1345 := by rw [List.length_map]; exact Nat.le_trans hn hz
    have t2 := (Shw.tup tok).up (m := 3) (M := 1677218) (Nat.le_refl _) (by omega)
    refine (Shw.lst (n := 3) (L := 1677218) (ds := [.str (Str.ofString "told"), .tup (r1.map ltD)]) fun d hd => ?_).up (by decide) (by show 2 * 1677218 + 2 * 2 + 3 ≤ _; decide)
    rcases List.mem_cons.mp hd with e | hd
    · rw [e]
      exact (hstr _ (by decide +kernel) (by decide +kernel)).up (by decide) (by decide)
    · rw [List.mem_singleton.mp hd]
      exact t2
end Lw

namespace Lw
open PySem PySem.Spec L2 Eg
local macro_rules | `(tactic| walk_at "vis") => `(tactic| first | exact Or.inl rfl | exact Or.inr (Or.inl rfl) | exact Or.inr (Or.inr rfl))
local macro_rules | `(tactic| walk_at "loc") => `(tactic| first | exact Or.inl rfl | exact Or.inr rfl)
local macro_rules | `(tactic| walk_at "nm") => `(tactic| first
  | refine Ev.name 0 (by rfl) (by walk_at "vis") (by rfl) ?_
  | refine Ev.name 1 (by rfl) (by walk_at "vis") (by rfl) ?_
  | refine Ev.name 2 (by rfl) (by walk_at "vis") (by rfl) ?_
  | refine Ev.name 3 (by rfl) (by walk_at "vis") (by rfl) ?_
  | refine Ev.name 4 (by rfl) (by walk_at "vis") (by rfl) ?_
  | refine Ev.name 5 (by rfl) (by walk_at "vis") (by rfl) ?_
  | refine Ev.name 6 (by rfl) (by walk_at "vis") (by rfl) ?_
  | refine Ev.name 7 (by rfl) (by walk_at "vis") (by rfl) ?_
  | refine Ev.name 8 (by rfl) (by walk_at "vis") (by rfl) ?_)
local macro_rules | `(tactic| walk_at "st") => `(tactic| first
  | refine St.set 1 (by assumption) (by rfl) (by walk_at "loc") (by walk_at "loc") ?_ rfl
  | refine St.set 2 (by assumption) (by rfl) (by walk_at "loc") (by walk_at "loc") ?_ rfl
  | refine St.set 3 (by assumption) (by rfl) (by walk_at "loc") (by walk_at "loc") ?_ rfl
  | refine St.set 4 (by assumption) (by rfl) (by walk_at "loc") (by walk_at "loc") ?_ rfl
  | refine St.set 5 (by assumption) (by rfl) (by walk_at "loc") (by walk_at "loc") ?_ rfl
  | refine St.set 6 (by assumption) (by rfl) (by walk_at "loc") (by walk_at "loc") ?_ rfl
  | refine St.set 7 (by assumption) (by rfl) (by walk_at "loc") (by walk_at "loc") ?_ rfl
  | refine St.set 8 (by assumption) (by rfl) (by walk_at "loc") (by walk_at "loc") ?_ rfl)
local macro_rules | `(tactic| walk_at "gn") => `(tactic| first
  | refine EvG.name 0 (by assumption) (by rfl) (by walk_at "loc") (by walk_at "loc") ?_
  | refine EvG.name 1 (by assumption) (by rfl) (by walk_at "loc") (by walk_at "loc") ?_
  | refine EvG.name 2 (by assumption) (by rfl) (by walk_at "loc") (by walk_at "loc") ?_
  | refine EvG.name 3 (by assumption) (by rfl) (by walk_at "loc") (by walk_at "loc") ?_
  | refine EvG.name 4 (by assumption) (by rfl) (by walk_at "loc") (by walk_at "loc") ?_
  | refine EvG.name 5 (by assumption) (by rfl) (by walk_at "loc") (by walk_at "loc") ?_
  | refine EvG.name 6 (by assumption) (by rfl) (by walk_at "loc") (by walk_at "loc") ?_
  | refine EvG.name 7 (by assumption) (by rfl) (by walk_at "loc") (by walk_at "loc") ?_
  | refine EvG.name 8 (by assumption) (by rfl) (by walk_at "loc") (by walk_at "loc") ?_)
local macro_rules | `(tactic| walk_at "one") => `(tactic| with_reducible first
  | refine sAdd.mk ?_ | refine sSub.mk ?_ | refine sLt.mk ?_ | refine sLe.mk ?_ | refine sGt.mk ?_ | refine sGe.mk ?_ | refine sEq.int ?_ | refine sNe.int ?_ | refine toT.mk ?_
  | refine Ev.int ?_ | refine Ev.str ?_ | refine Ev.bl ?_ | refine Ev.non ?_
  | refine Ev.sub ?_ | refine Ev.addI ?_ | refine Ev.mul ?_ | refine Ev.mod ?_ | refine Ev.fdiv ?_ | refine Ev.pow ?_ | refine Ev.neg ?_
  | refine Ev.lt ?_ | refine Ev.le ?_ | refine Ev.gt ?_ | refine Ev.ge ?_ | refine Ev.eq ?_ | refine Ev.ne ?_
  | refine Ev.ifE ?_ | refine Ev.tup ?_ | refine EvA.nil ?_ | refine EvA.cons ?_ rfl | refine EvT.not ?_
  | refine EvT.lt ?_ | refine EvT.le ?_ | refine EvT.gt ?_ | refine EvT.ge ?_ | refine EvT.eq ?_ | refine EvT.ne ?_
  | refine EvT.w ?_ | refine EvW.and ?_ | refine EvW.or ?_ | refine EvW.and1 ?_ | refine EvW.or1 ?_
  | refine Sts.cons ?_ | refine Sts.nil ?_ | refine St.ifS ?_ | refine St.ret ?_ | refine St.expr ?_ rfl)
local macro_rules | `(tactic| walk_at "go") => `(tactic| repeat (first | ((with_reducible show Ev _ (.Name _ _) _ _ _); (walk_at "nm")) | walk_at "one" | ((with_reducible show St _ (.Assign [.Name _ _] _ _) _ _ _); (walk_at "st"))))
/-! ### a new object beside the others -/
mutual
theorem bel_up {n m : Nat} (e : n ≤ m) : ∀ d : DV, DV.bel n d = true → DV.bel m d = true
  | .non, _ => rfl
  | .bl _, _ => rfl
  | .int _, _ => rfl
  | .str _, _ => rfl
  | .tup xs, h => belL_up e xs h
  | .lst xs, h => belL_up e xs h
  | .dic xs, h => belK_up e xs h
  | .exc _ xs, h => belF_up e xs h
  | .mu k, h => by
    have h' : decide (k < n) = true := h
    show decide (k < m) = true
    exact decide_eq_true (Nat.lt_of_lt_of_le (of_decide_eq_true h') e)
theorem belL_up {n m : Nat} (e : n ≤ m) : ∀ xs : List DV, DV.belL n xs = true → DV.belL m xs = true
  | [], _ => rfl
  | x :: r, h => by
    obtain ⟨h1, h2⟩ := Bool.and_eq_true_iff.mp (show (DV.bel n x && DV.belL n r) = true from h)
    show (DV.bel m x && DV.belL m r) = true
    rw [bel_up e x h1, belL_up e r h2]
    rfl
theorem belK_up {n m : Nat} (e : n ≤ m) : ∀ xs : List (Key × DV), DV.belK n xs = true → DV.belK m xs = true
  | [], _ => rfl
  | (_, x) :: r, h => by
    obtain ⟨h1, h2⟩ := Bool.and_eq_true_iff.mp (show (DV.bel n x && DV.belK n r) = true from h)
    show (DV.bel m x && DV.belK m r) = true
    rw [bel_up e x h1, belK_up e r h2]
    rfl
theorem belF_up {n m : Nat} (e : n ≤ m) : ∀ xs : List (Str × DV), DV.belF n xs = true → DV.belF m xs = true
  | [], _ => rfl
  | (_, x) :: r, h => by
    obtain ⟨h1, h2⟩ := Bool.and_eq_true_iff.mp (show (DV.bel n x && DV.belF n r) = true from h)
    show (DV.bel m x && DV.belF m r) = true
    rw [bel_up e x h1, belF_up e r h2]
    rfl
end
theorem mbel_up {n m : Nat} (e : n ≤ m) : ∀ o : MO, MO.bel n o = true → MO.bel m o = true
  | .dead, _ => rfl
  | .lst xs, h => belL_up e xs h
  | .dic xs, h => belK_up e xs h
  | .ins _ xs, h => belF_up e xs h
theorem WS.app {μ : List MO} {k : Nat} {c : Int} (h : WS μ k c) {m : MO} (hm : MO.bel (μ.length + 1) m = true) : WS (μ ++ [m]) k c := by
  obtain ⟨⟨a, b, h1, h2⟩, h3⟩ := h
  have hk := (List.getElem?_eq_some_iff.mp h1).1
  refine ⟨⟨a, b, by rw [List.getElem?_append_left hk]; exact h1, h2⟩, ?_⟩
  rw [List.length_append, List.all_append]
  have z : μ.all (MO.bel (μ.length + 1)) = true := by
    rw [List.all_eq_true] at h3 ⊢
    exact fun x hx => mbel_up (Nat.le_succ _) x (h3 x hx)
  show (μ.all (MO.bel (μ.length + 1)) && (MO.bel (μ.length + 1) m && true)) = true
  rw [z, hm]
  rfl
theorem WS.pop {ν μ' : List MO} {k : Nat} {c c0 : Int} {m : MO} (h0 : WS ν k c0) (h : WS μ' k c) (hc : Wch (ν ++ [m]) μ' k) : ∃ ν', μ' = ν' ++ [m] ∧ WS ν' k c ∧ Wch ν ν' k := by
  obtain ⟨⟨a0, b0, e0, _⟩, n0⟩ := h0
  obtain ⟨⟨a, b, e1, e2⟩, n1⟩ := h
  obtain ⟨hl, hs⟩ := hc
  have hk := (List.getElem?_eq_some_iff.mp e0).1
  have hl' : μ'.length = ν.length + 1 := by rw [hl, List.length_append]; rfl
  have hlen : (μ'.take ν.length).length = ν.length := by rw [List.length_take]; omega
  have last : μ'[ν.length]? = some m := by
    rw [hs _ (by omega), List.getElem?_append_right (Nat.le_refl _), Nat.sub_self]
    rfl
  have chg : ∀ j, j ≠ k → (μ'.take ν.length)[j]? = ν[j]? := by
    intro j hj
    by_cases hz : j < ν.length
    · rw [List.getElem?_take_of_lt hz, hs j hj, List.getElem?_append_left hz]
    · rw [List.getElem?_eq_none (by omega), List.getElem?_eq_none (by omega)]
  have kk : (μ'.take ν.length)[k]? = some (.lst [.int a, .int b, .int c, .int 3]) := by
    rw [List.getElem?_take_of_lt hk]
    exact e1
  refine ⟨μ'.take ν.length, ?_, ⟨⟨a, b, kk, e2⟩, ?_⟩, hlen, chg⟩
  · have z := List.take_append_drop ν.length μ'
    have y : μ'.drop ν.length = [m] := by
      apply List.ext_getElem?
      intro i
      rw [List.getElem?_drop]
      cases i with
      | zero => simpa using last
      | succ i => rw [List.getElem?_eq_none (by omega)]; rfl
    rw [y] at z
    exact z.symm
  · rw [hlen, List.all_eq_true]
    intro x hx
    obtain ⟨j, hj⟩ := List.mem_iff_getElem?.mp hx
    by_cases e : j = k
    · subst e
      rw [kk] at hj
      cases hj
      rfl
    · rw [chg j e] at hj
      exact (List.all_eq_true.mp n0) x (List.mem_iff_getElem?.mpr ⟨j, hj⟩)
mutual
theorem py_bel (n : Nat) : ∀ (d : DV) (pd : PyData), toPy d = some pd → DV.bel n d = true
  | .non, _, _ => rfl
  | .bl _, _, _ => rfl
  | .int _, _, _ => rfl
  | .str _, _, _ => rfl
  | .tup xs, _, e => by
    obtain ⟨ps, e1, _⟩ := Option.map_eq_some_iff.mp (show (toPyL xs).map PyData.tuple = some _ from e)
    exact py_belL n xs ps e1
  | .lst xs, _, e => by
    obtain ⟨ps, e1, _⟩ := Option.map_eq_some_iff.mp (show (toPyL xs).map PyData.list = some _ from e)
    exact py_belL n xs ps e1
  | .dic [], _, _ => rfl
  | .dic (_ :: _), _, e => by cases e
  | .exc _ _, _, e => by cases e
  | .mu _, _, e => by cases e
theorem py_belL (n : Nat) : ∀ (xs : List DV) (ps : List PyData), toPyL xs = some ps → DV.belL n xs = true
  | [], _, _ => rfl
  | x :: r, _, e => by
    obtain ⟨d, e1, e2⟩ := Option.bind_eq_some_iff.mp (show (toPy x).bind (fun d => (toPyL r).map (d :: ·)) = some _ from e)
    obtain ⟨ds, e3, _⟩ := Option.map_eq_some_iff.mp e2
    show (DV.bel n x && DV.belL n r) = true
    rw [py_bel n x d e1, py_belL n r ds e3]
    rfl
end
abbrev sD (ts : List Str) : List DV := ts.map DV.str
def Good (z : Str) : Prop := z.length ≤ 1345 ∧ z.cps.toList.all (fun x => decide (x < 127)) = true
theorem Good.bel {z : Str} (h : Good z) (n : Nat) : DV.bel n (dueD z) = true := by
  obtain ⟨pd, e, _⟩ := dueD_shw h.1 h.2
  exact py_bel n _ pd e
theorem dues_bel {ts : List Str} (h : ∀ z ∈ ts, Good z) (n j : Nat) : DV.belL n ((ts.take j).map dueD) = true := by
  have : ∀ l : List Str, (∀ z ∈ l, Good z) → DV.belL n (l.map dueD) = true := by
    intro l
    induction l with
    | nil => exact fun _ => rfl
    | cons z r ih =>
      intro h
      show (DV.bel n (dueD z) && DV.belL n (r.map dueD)) = true
      rw [(h z List.mem_cons_self).bel n, ih fun y hy => h y (List.mem_cons_of_mem _ hy)]
      rfl
  exact this _ fun z hz => h z (List.mem_of_mem_take hz)
theorem dues_py {ts : List Str} (hl : ts.length ≤ 5) (h : ∀ z ∈ ts, Good z) : ∃ pd, toPy (.lst (ts.map dueD)) = some pd ∧ pd.showable = true ∧ pd.depth ≤ 100 ∧ pd.shown.length ≤ sizeLine := by
  obtain ⟨pd, a, b, c, d⟩ := Shw.lst (n := 4) (L := 3354443) (ds := ts.map dueD) fun x hx => by
    obtain ⟨z, hz, rfl⟩ := List.mem_map.mp hx
    exact dueD_shw (h z hz).1 (h z hz).2
  rw [List.length_map] at d
  have hm : ts.length * 3354443 ≤ 5 * 3354443 := Nat.mul_le_mul_right _ hl
  exact ⟨pd, a, b, by omega, by rw [sizeLine_eq]; omega⟩
theorem good_len {z : Str} (h : Good z) : z.length ≤ 3000 := by have := h.1; omega
/-- a list of what each text gives, forgotten what was made beside -/
theorem lc_each {X : Cx} {ρ : RO} {M : List MO} {R : Cn} {elt : Expr} {sc : Scope} {x : Str} {px : Pos} {i : Nat} {ts : List Str} (hM : M.all (MO.bel M.length) = true) (h : ∀ z ∈ ts, Good z) (hl : ts.length ≤ 5)
    (he : ∀ (z : Str) (M' : List MO) (s : Shared) (H : Hp) (C : Addr) (cl : List (Str × Addr)) (fp : List Addr) (Q : Cn), z ∈ ts → (∀ μs, Q (dueD z) (M' ++ μs)) → Ev (blkX X s H sc C cl fp) elt (ρ.set i (some (.str z))) M' Q) (hR : R (.lst (ts.map dueD)) (M ++ [.dead])) :
    (sD ts).length ≤ sizeLine ∧ ∃ I : Nat → List DV → List MO → Prop, I 0 [] M ∧
      (∀ j d acc μ2, (sD ts)[j]? = some d → μ2.length = M.length → I j acc μ2 → ∀ s H C cl fp, Ev (blkX X s H sc C cl fp) elt (ρ.set i (some d)) (μ2 ++ [.lst acc]) fun y μ5 => ∃ μ4, μ5 = μ4 ++ [.lst acc] ∧ μ4.length = M.length ∧ I (j + 1) (acc ++ [y]) μ4) ∧
      ∀ acc μ2, μ2.length = M.length → I (sD ts).length acc μ2 → R (.lst acc) (μ2 ++ [.dead]) := by
  refine ⟨by rw [List.length_map, sizeLine_eq]; omega, fun j acc μ' => acc = (ts.take j).map dueD ∧ μ' = M, ⟨rfl, rfl⟩, ?_, ?_⟩
  · rintro j d acc μ2 hd _ ⟨rfl, rfl⟩ s H C cl fp
    rw [List.getElem?_map] at hd
    obtain ⟨z, hz, rfl⟩ := Option.map_eq_some_iff.mp hd
    have hmem := List.mem_of_getElem? hz
    refine Ev.cut (he z _ s H C cl fp _ hmem fun μs => ⟨(h z hmem).bel _, ?_, ?_⟩)
    · rw [List.take_left' rfl, List.length_append, List.all_append]
      have z1 : μ2.all (MO.bel (μ2.length + 1)) = true := by
        rw [List.all_eq_true] at hM ⊢
        exact fun x hx => mbel_up (Nat.le_succ _) x (hM x hx)
      show (μ2.all (MO.bel (μ2.length + 1)) && (DV.belL (μ2.length + 1) ((ts.take j).map dueD) && true)) = true
      rw [z1, dues_bel h]
      rfl
    · rw [List.take_left' rfl]
      refine ⟨μ2, rfl, rfl, ?_, rfl⟩
      rw [List.take_add_one, hz, List.map_append]
      rfl
  · rintro acc μ2 _ ⟨rfl, rfl⟩
    rw [List.length_map, List.take_length]
    exact hR
end Lw

namespace Lw
open PySem PySem.Spec L2 Eg
local macro_rules | `(tactic| walk_at "vis") => `(tactic| first | exact Or.inl rfl | exact Or.inr (Or.inl rfl) | exact Or.inr (Or.inr rfl))
local macro_rules | `(tactic| walk_at "loc") => `(tactic| first | exact Or.inl rfl | exact Or.inr rfl)
local macro_rules | `(tactic| walk_at "nm") => `(tactic| first
  | refine Ev.name 0 (by rfl) (by walk_at "vis") (by rfl) ?_
  | refine Ev.name 1 (by rfl) (by walk_at "vis") (by rfl) ?_
  | refine Ev.name 2 (by rfl) (by walk_at "vis") (by rfl) ?_
  | refine Ev.name 3 (by rfl) (by walk_at "vis") (by rfl) ?_
  | refine Ev.name 4 (by rfl) (by walk_at "vis") (by rfl) ?_
  | refine Ev.name 5 (by rfl) (by walk_at "vis") (by rfl) ?_
  | refine Ev.name 6 (by rfl) (by walk_at "vis") (by rfl) ?_
  | refine Ev.name 7 (by rfl) (by walk_at "vis") (by rfl) ?_
  | refine Ev.name 8 (by rfl) (by walk_at "vis") (by rfl) ?_)
local macro_rules | `(tactic| walk_at "st") => `(tactic| first
  | refine St.set 1 (by assumption) (by rfl) (by walk_at "loc") (by walk_at "loc") ?_ rfl
  | refine St.set 2 (by assumption) (by rfl) (by walk_at "loc") (by walk_at "loc") ?_ rfl
  | refine St.set 3 (by assumption) (by rfl) (by walk_at "loc") (by walk_at "loc") ?_ rfl
  | refine St.set 4 (by assumption) (by rfl) (by walk_at "loc") (by walk_at "loc") ?_ rfl
  | refine St.set 5 (by assumption) (by rfl) (by walk_at "loc") (by walk_at "loc") ?_ rfl
  | refine St.set 6 (by assumption) (by rfl) (by walk_at "loc") (by walk_at "loc") ?_ rfl
  | refine St.set 7 (by assumption) (by rfl) (by walk_at "loc") (by walk_at "loc") ?_ rfl
  | refine St.set 8 (by assumption) (by rfl) (by walk_at "loc") (by walk_at "loc") ?_ rfl)
local macro_rules | `(tactic| walk_at "gn") => `(tactic| first
  | refine EvG.name 0 (by assumption) (by rfl) (by walk_at "loc") (by walk_at "loc") ?_
  | refine EvG.name 1 (by assumption) (by rfl) (by walk_at "loc") (by walk_at "loc") ?_
  | refine EvG.name 2 (by assumption) (by rfl) (by walk_at "loc") (by walk_at "loc") ?_
  | refine EvG.name 3 (by assumption) (by rfl) (by walk_at "loc") (by walk_at "loc") ?_
  | refine EvG.name 4 (by assumption) (by rfl) (by walk_at "loc") (by walk_at "loc") ?_
  | refine EvG.name 5 (by assumption) (by rfl) (by walk_at "loc") (by walk_at "loc") ?_
  | refine EvG.name 6 (by assumption) (by rfl) (by walk_at "loc") (by walk_at "loc") ?_
  | refine EvG.name 7 (by assumption) (by rfl) (by walk_at "loc") (by walk_at "loc") ?_
  | refine EvG.name 8 (by assumption) (by rfl) (by walk_at "loc") (by walk_at "loc") ?_)
local macro_rules | `(tactic| walk_at "one") => `(tactic| with_reducible first
  | refine sAdd.mk ?_ | refine sSub.mk ?_ | refine sLt.mk ?_ | refine sLe.mk ?_ | refine sGt.mk ?_ | refine sGe.mk ?_ | refine sEq.int ?_ | refine sNe.int ?_ | refine toT.mk ?_
  | refine Ev.int ?_ | refine Ev.str ?_ | refine Ev.bl ?_ | refine Ev.non ?_
  | refine Ev.sub ?_ | refine Ev.addI ?_ | refine Ev.mul ?_ | refine Ev.mod ?_ | refine Ev.fdiv ?_ | refine Ev.pow ?_ | refine Ev.neg ?_
  | refine Ev.lt ?_ | refine Ev.le ?_ | refine Ev.gt ?_ | refine Ev.ge ?_ | refine Ev.eq ?_ | refine Ev.ne ?_
  | refine Ev.ifE ?_ | refine Ev.tup ?_ | refine EvA.nil ?_ | refine EvA.cons ?_ rfl | refine EvT.not ?_
  | refine EvT.lt ?_ | refine EvT.le ?_ | refine EvT.gt ?_ | refine EvT.ge ?_ | refine EvT.eq ?_ | refine EvT.ne ?_
  | refine EvT.w ?_ | refine EvW.and ?_ | refine EvW.or ?_ | refine EvW.and1 ?_ | refine EvW.or1 ?_
  | refine Sts.cons ?_ | refine Sts.nil ?_ | refine St.ifS ?_ | refine St.ret ?_ | refine St.expr ?_ rfl)
local macro_rules | `(tactic| walk_at "go") => `(tactic| repeat (first | ((with_reducible show Ev _ (.Name _ _) _ _ _); (walk_at "nm")) | walk_at "one" | ((with_reducible show St _ (.Assign [.Name _ _] _ _) _ _ _); (walk_at "st"))))
theorem snd_shw {n L : Nat} {s : Str} {tk : List DV} (h : Shw n L (.lst [.str s, .tup tk])) : Shw n L (.tup tk) := by
  obtain ⟨pd, e, a, b, c⟩ := h
  obtain ⟨ps, e1, e2⟩ := Option.map_eq_some_iff.mp (show (toPyL [.str s, .tup tk]).map PyData.list = some pd from e)
  obtain ⟨p1, g1, g2⟩ := Option.bind_eq_some_iff.mp (show (toPy (.str s)).bind (fun d => (toPyL [.tup tk]).map (d :: ·)) = some ps from e1)
  obtain ⟨p2, g3, g4⟩ := Option.map_eq_some_iff.mp g2
  obtain ⟨pt, g5, g6⟩ := Option.bind_eq_some_iff.mp (show (toPy (.tup tk)).bind (fun d => (toPyL []).map (d :: ·)) = some p2 from g3)
  have g7 : p2 = [pt] := by
    obtain ⟨p3, g8, g9⟩ := Option.map_eq_some_iff.mp g6
    cases g8
    exact g9.symm
  subst g7 g4 e2
  rw [PyData.showable] at a
  rw [PyData.depth] at b
  rw [PyData.shown] at c
  refine ⟨pt, g5, ?_, ?_, ?_⟩
  · simp [PyData.showableAll] at a
    exact a.2
  · simp [PyData.depthAll] at b
    omega
  · refine Nat.le_trans (listText_mem_le ?_) c
    simp [PyData.shownAll]
theorem lc_ok {X : Cx} {ρ : RO} {M : List MO} {R : Cn} {elt iter : Expr} {sc : Scope} {x : Str} {px : Pos} {i : Nat} {ts : List Str} (hit : Ev X iter ρ M fun d μ1 => d = .lst (sD ts) ∧ μ1 = M) (hM : M.all (MO.bel M.length) = true) (h : ∀ z ∈ ts, Good z) (hl : ts.length ≤ 5)
    (he : ∀ (z : Str) (M' : List MO) (s : Shared) (H : Hp) (C : Addr) (cl : List (Str × Addr)) (fp : List Addr) (Q : Cn), z ∈ ts → (∀ μs, Q (dueD z) (M' ++ μs)) → Ev (blkX X s H sc C cl fp) elt (ρ.set i (some (.str z))) M' Q) (hR : R (.lst (ts.map dueD)) (M ++ [.dead])) : LcOk X sc elt iter x px i ρ M R :=
  EvI.lst (Ev.mono hit fun d μ1 ⟨e, e2⟩ => ⟨sD ts, e, by
    subst e2
    exact lc_each (X := X) (x := x) (px := px) hM h hl he hR⟩)
def C_right : Ctr := fun ds μ R => ∃ k, ds = [.mu k] ∧ WS μ k 0 ∧ ∀ μ' c', WS μ' k c' → Wch μ μ' k → R (.bl true) μ'
section
variable {P : Program} {w : World} {K : PySem.W.Frag} {mg : Str → Option Value} {base : Heap}
theorem ok_right (T : Fx K mg) (hB : ∃ mm, base.Ns sysModules mm) : Fn P w K mg base "_law_right" 8 C_right := by
  obtain ⟨fd, F⟩ := T.d_l_right
  refine Fn.mk (N := Nl_right) (ps := ["_law_well_here"]) F scl_right T.g_l_right (fun _ _ _ _ _ _ us hl => match us, hl with | [_], _ => rfl) ?_ ?_
  · rintro ds μ R ⟨k, rfl, _⟩
    rfl
  rintro cd A outer s H hg hr hnd ds μ R ⟨k, rfl, hw, q⟩
  have hu := hr.un
  have hu2 : (bx P w K mg base Nl_right "_law_right" dl_right.scope (He.fAd K dl_right.at_) cd A outer s H).A.units + 200 < cLine := by omega
  refine Sts.cons (St.set 1 (by assumption) (by rfl) (by walk_at "loc") (by walk_at "loc") (Ev.lstM (EvA.cons (Ev.call (ok_mixed T) hg (hr.mono (by decide)) rfl ?_) rfl)) rfl)
  walk_at "go"
  refine ⟨k, 0, rfl, hw, by decide, fun s0 μ1 c1 p0 w1 l1 h1 => EvA.cons (Ev.call (ok_mixed T) hg (hr.mono (by decide)) rfl ?_) rfl⟩
  walk_at "go"
  refine ⟨k, c1, rfl, w1, by omega, fun s1 μ2 c2 p1 w2 l2 h2 => EvA.cons (Ev.call (ok_mixed T) hg (hr.mono (by decide)) rfl ?_) rfl⟩
  walk_at "go"
  refine ⟨k, c2, rfl, w2, by omega, fun s2 μ3 c3 p2 w3 l3 h3 => EvA.nil ⟨by show 3 ≤ sizeLine; decide, ?_⟩⟩
  have h03 : Wch μ μ3 k := h1.trans (h2.trans h3)
  have hl3 : μ3.length = μ.length := h03.1
  have hat : ∀ (ν : List MO) (m : MO), ν.length = μ3.length → (ν ++ [m])[μ3.length]? = some m := fun ν m e => by
    rw [List.getElem?_append_right (by omega), e, Nat.sub_self]
    rfl
  have hset : ∀ (ν : List MO) (m m' : MO), ν.length = μ3.length → (ν ++ [m]).set μ3.length m' = ν ++ [m'] := fun ν m m' e => by
    rw [← e]
    simp
  have nl : plain 1 (Str.ofString "\n") := ⟨by decide, by decide +kernel⟩
  have p3 := plain_app (plain_app p0 nl) p1
  refine Sts.cons (St.expr (Ev.append ?_) rfl)
  walk_at "nm"
  refine ⟨μ3.length, _, rfl, hat _ _ rfl, EvA.cons (Ev.addS (Ev.addS (Ev.at ?_))) rfl⟩
  walk_at "nm"
  refine Ev.int (sIx.mu (hat _ _ rfl) rfl (Ev.str ⟨_, _, rfl, rfl, by show s0.length + 1 ≤ sizeLine; have := p0.1; rw [sizeLine_eq]; omega, Ev.at ?_⟩))
  walk_at "nm"
  refine Ev.int (sIx.mu (hat _ _ rfl) rfl ⟨_, _, rfl, rfl, ?_, EvA.nil ⟨_, _, rfl, hat _ _ rfl, by show 3 < sizeLine; decide, ?_⟩⟩)
  · show (s0 ++ Str.ofString "\n").length + s1.length ≤ sizeLine
    have := p3.1
    rw [len_app] at this
    rw [sizeLine_eq]
    omega
  rw [hset _ _ _ rfl]
  refine Sts.cons (St.expr (Ev.append ?_) rfl)
  walk_at "nm"
  refine ⟨μ3.length, _, rfl, hat _ _ rfl, EvA.cons (Ev.addS (Ev.addS (Ev.addS (Ev.addS (Ev.str (Ev.sliceS (Ev.at ?_)))))) ) rfl⟩
  walk_at "nm"
  refine Ev.int (sIx.mu (hat _ _ rfl) rfl ⟨s2, rfl, by have := p2.1; rw [sizeLine_eq]; omega, EvP.none (EvP.some (Ev.int ⟨9, rfl, ?_⟩))⟩)
  have p9 : plain 9 (cutS s2 none (some 9)) := by
    have e : cutS s2 none (some 9) = sOf (s2.cps.toList.take 9) := by
      have hlen : s2.length = s2.cps.toList.length := (Array.length_toList).symm
      unfold cutS
      have e1 : HT.sIx s2.length 0 none = 0 := rfl
      have e2 : HT.sIx s2.length s2.length (some 9) = min 9 s2.length := by
        unfold HT.sIx
        dsimp only
        rw [if_neg (by decide)]
        rfl
      rw [e1, e2, List.drop_zero, Nat.sub_zero]
      by_cases h : 9 ≤ s2.length
      · rw [Nat.min_eq_left h]
      · rw [Nat.min_eq_right (by omega), List.take_of_length_le (by omega), List.take_of_length_le (by omega)]
    rw [e]
    refine ⟨?_, ?_⟩
    · show (s2.cps.toList.take 9).toArray.size ≤ 9
      rw [List.size_toArray]
      exact List.length_take_le _ _
    · rw [List.toList_toArray, List.all_eq_true]
      intro c hc
      exact List.all_eq_true.mp p2.2 c (List.mem_of_mem_take hc)
  have pa : plain 4 (Str.ofString "num ") := ⟨by decide +kernel, by decide +kernel⟩
  have pb : plain 19 (Str.ofString "; proc p() { x = 1") := ⟨by decide +kernel, by decide +kernel⟩
  have pc : plain 4 (Str.ofString "2; }") := ⟨by decide +kernel, by decide +kernel⟩
  have q1 := plain_app pa p9
  have q2 := plain_app q1 pb
  refine ⟨_, _, rfl, rfl, by show (Str.ofString "num ").length + (cutS s2 none (some 9)).length ≤ sizeLine; rw [← len_app, sizeLine_eq]; exact Nat.le_trans q1.1 (by decide), Ev.str ⟨_, _, rfl, rfl, by show _ + (Str.ofString "; proc p() { x = 1").length ≤ sizeLine; rw [← len_app, sizeLine_eq]; exact Nat.le_trans q2.1 (by decide), Ev.call (ok_piece T) hg (hr.mono (by decide)) rfl ?_⟩⟩
  walk_at "go"
  refine ⟨k, c3, rfl, w3.app rfl, by omega, fun d μ4' c4 hd w4' l4 h4' => ?_⟩
  obtain ⟨pz, rfl, hp1, hp2⟩ := hd
  obtain ⟨ν, rfl, w4, h4⟩ := w3.pop w4' h4'
  have hν : ν.length = μ3.length := h4.1
  have q3 := plain_app q2 (⟨hp1, hp2⟩ : plain 41 pz)
  have q4 := plain_app q3 pc
  refine ⟨_, _, rfl, rfl, by show _ + pz.length ≤ sizeLine; rw [← len_app, sizeLine_eq]; exact Nat.le_trans q3.1 (by decide), Ev.str ⟨_, _, rfl, rfl, by show _ + (Str.ofString "2; }").length ≤ sizeLine; rw [← len_app, sizeLine_eq]; exact Nat.le_trans q4.1 (by decide), EvA.nil ⟨_, _, rfl, hat _ _ hν, by show 4 < sizeLine; decide, ?_⟩⟩⟩
  rw [hset _ _ _ hν]
  have good : ∀ z ∈ [s0, s1, s2, s0 ++ Str.ofString "\n" ++ s1, Str.ofString "num " ++ cutS s2 none (some 9) ++ Str.ofString "; proc p() { x = 1" ++ pz ++ Str.ofString "2; }"], Good z := by
    intro z hz
    simp only [List.mem_cons, List.not_mem_nil, or_false] at hz
    rcases hz with e | e | e | e | e
    · rw [e]; exact ⟨Nat.le_trans p0.1 (by decide), p0.2⟩
    · rw [e]; exact ⟨Nat.le_trans p1.1 (by decide), p1.2⟩
    · rw [e]; exact ⟨Nat.le_trans p2.1 (by decide), p2.2⟩
    · rw [e]; exact ⟨p3.1, p3.2⟩
    · rw [e]; exact ⟨Nat.le_trans q4.1 (by decide), q4.2⟩
  refine Sts.frz 1 μ3.length (ds := sD [s0, s1, s2, s0 ++ Str.ofString "\n" ++ s1, Str.ofString "num " ++ cutS s2 none (some 9) ++ Str.ofString "; proc p() { x = 1" ++ pz ++ Str.ofString "2; }"]) rfl (hat _ _ hν) ?_
  rw [hset _ _ _ hν]
  have h5 : [s0, s1, s2, s0 ++ Str.ofString "\n" ++ s1, Str.ofString "num " ++ cutS s2 none (some 9) ++ Str.ofString "; proc p() { x = 1" ++ pz ++ Str.ofString "2; }"].length ≤ 5 := Nat.le_refl _
  generalize [s0, s1, s2, s0 ++ Str.ofString "\n" ++ s1, Str.ofString "num " ++ cutS s2 none (some 9) ++ Str.ofString "; proc p() { x = 1" ++ pz ++ Str.ofString "2; }"] = ts at good h5 ⊢
  have hM1 : (ν ++ [MO.dead]).all (MO.bel (ν ++ [MO.dead]).length) = true := (w4.app (m := .dead) rfl).2
  have hM2 : (ν ++ [MO.dead] ++ [MO.dead]).all (MO.bel (ν ++ [MO.dead] ++ [MO.dead]).length) = true := ((w4.app (m := .dead) rfl).app (m := .dead) rfl).2
  have hM3 : (ν ++ [MO.dead] ++ [MO.dead] ++ [MO.dead]).all (MO.bel (ν ++ [MO.dead] ++ [MO.dead] ++ [MO.dead]).length) = true := (((w4.app (m := .dead) rfl).app (m := .dead) rfl).app (m := .dead) rfl).2
  obtain ⟨pd, d1, d2, d3, d4⟩ := dues_py h5 good
  refine Sts.cons (St.setLc 2 3 rfl hnd rfl rfl (sw_true rfl rfl rfl (by decide +kernel)) rfl (blkOk_by (N := Nl_right) (sc := dl_right.scope) (by decide +kernel)) (fun _ _ _ _ _ => ⟨Or.inl rfl, Or.inr rfl⟩) (lc_ok (ts := ts) ?_ hM1 good h5 ?_ ?_))
  · walk_at "nm"
    exact ⟨rfl, rfl⟩
  · intro z M' s' H' C cl fp Q hz hq
    refine Ev.call (ok_due T) hg (hr.mono (by decide)) rfl ?_
    walk_at "go"
    exact ⟨z, rfl, good_len (good z hz), hq⟩
  refine Sts.cons (St.ifS (EvT.ne (Ev.repr hg hu2 hB rfl T.n_repr (EvA.cons (Ev.lc 3 rfl hnd rfl (blkOk_by (N := Nl_right) (sc := dl_right.scope) (by decide +kernel)) (fun _ _ _ _ _ => ⟨Or.inl rfl, Or.inr rfl⟩) (lc_ok (ts := ts) ?_ hM2 good h5 ?_ ?_)) rfl))))
  · walk_at "nm"
    exact ⟨rfl, rfl⟩
  · intro z M' s' H' C cl fp Q hz hq
    refine Ev.call (ok_told T) hg (hr.mono (by decide)) rfl ?_
    walk_at "go"
    exact ⟨z, rfl, good_len (good z hz), by rw [told_due]; exact hq⟩
  refine EvA.nil ⟨_, pd, rfl, Or.inl ⟨_, rfl⟩, d1, d2, d3, d4, Ev.repr hg hu2 hB rfl T.n_repr (EvA.cons ?_ rfl)⟩
  walk_at "nm"
  refine EvA.nil ⟨_, pd, rfl, Or.inl ⟨_, rfl⟩, d1, d2, d3, d4, _, _, rfl, rfl, rfl, _, rfl, ifnF rfl (Sts.nil ?_)⟩
  refine Sts.cons (St.for_ PassesOwn.never rfl (EvI.zipL rfl T.n_zip (EvA.cons ?_ rfl)))
  walk_at "nm"
  refine EvA.cons ?_ rfl
  walk_at "nm"
  refine EvA.nil ⟨_, _, rfl, fun i ρ' μ' => ∃ a b, ρ' = [some (.mu k), some (.lst (sD ts)), some (.lst (ts.map dueD)), a, b] ∧ μ' = ν ++ [MO.dead] ++ [MO.dead] ++ [MO.dead], ⟨_, _, rfl, rfl⟩, ?_, ?_⟩
  · rintro i d ρ' μ' hd ⟨a, b, rfl, rfl⟩
    obtain ⟨x, y, e1, e2, rfl⟩ := zipD_at hd
    rw [List.getElem?_map] at e1 e2
    obtain ⟨z, hz, rfl⟩ := Option.map_eq_some_iff.mp e1
    rw [hz] at e2
    obtain rfl : dueD z = y := Option.some.inj e2
    have gz := good z (List.mem_of_getElem? hz)
    have sh := dueD_shw gz.1 gz.2
    have td := told_due z
    unfold toldD at td
    refine EvG.tup rfl (EvGs.cons (EvG.name 3 (by assumption) (by rfl) (by walk_at "loc") (by walk_at "loc") (EvGs.cons (EvG.name 4 (by assumption) (by rfl) (by walk_at "loc") (by walk_at "loc") (EvGs.nil ?_)) rfl)) rfl)
    have cg := fun hn => (⟨z, rfl, good_len gz, hn⟩ : ∃ z' : Str, [DV.str z] = [.str z'] ∧ z'.length ≤ 3000 ∧ (cutRows 1 (rowsOf z')).2 = none)
    cases hc : (cutRows 1 (rowsOf z)).2 with
    | some lc =>
      obtain ⟨l, c⟩ := lc
      rw [hc] at td
      rw [← td]
      refine Sts.cons (St.ifS (EvT.w (EvW.and (EvT.eq (Ev.at ?_)))))
      walk_at "nm"
      refine Ev.int (sIx.lst rfl (Ev.str ⟨_, _, rfl, rfl, rfl, _, rfl, ifdF ?_ ?_⟩))
      · intro h
        exact absurd (V.str.inj h) (by decide +kernel)
      · exact Sts.nil (Sts.nil ⟨_, _, rfl, rfl⟩)
    | none =>
      rw [hc] at td
      rw [← td] at sh ⊢
      obtain ⟨pt, f1, f2, f3, f4⟩ := snd_shw sh
      refine Sts.cons (St.ifS (EvT.w (EvW.and (EvT.eq (Ev.at ?_)))))
      walk_at "nm"
      refine Ev.int (sIx.lst rfl (Ev.str ⟨_, _, rfl, rfl, rfl, _, rfl, ifdT rfl (EvW.and1 (EvT.ne (Ev.repr hg hu2 hB rfl T.n_repr (EvA.cons (Ev.cut (Ev.callW (ok_named T) hg (hr.mono (by decide)) rfl (EvK.cons ?_))) rfl))))⟩))
      walk_at "nm"
      refine EvK.nil ⟨rfl, z, rfl, good_len gz, hc, fun μs => ⟨py_bel _ _ _ f1, ?_, ?_⟩⟩
      · rw [List.take_left' rfl]
        exact hM3
      rw [List.take_left' rfl]
      refine EvA.nil ⟨_, pt, rfl, Or.inr ⟨_, rfl⟩, f1, f2, by omega, by rw [sizeLine_eq]; omega, Ev.repr hg hu2 hB rfl T.n_repr (EvA.cons (Ev.at ?_) rfl)⟩
      walk_at "nm"
      refine Ev.int (sIx.lst rfl (EvA.nil ⟨_, pt, rfl, Or.inr ⟨_, rfl⟩, f1, f2, by omega, by rw [sizeLine_eq]; omega, _, _, rfl, rfl, rfl, _, rfl, ifnF rfl (Sts.nil (Sts.nil ⟨_, _, rfl, rfl⟩))⟩))
  · rintro ρ' μ' ⟨a, b, rfl, rfl⟩
    have h5r : ts.reverse.length ≤ 5 := by rw [List.length_reverse]; exact h5
    have goodr : ∀ z ∈ ts.reverse, Good z := fun z hz => good z (List.mem_reverse.mp hz)
    obtain ⟨pr, r1, r2, r3, r4⟩ := dues_py h5r goodr
    refine Sts.cons (St.ret (Ev.eq (Ev.repr hg hu2 hB rfl T.n_repr (EvA.cons (Ev.lc 3 rfl hnd rfl (blkOk_by (N := Nl_right) (sc := dl_right.scope) (by decide +kernel)) (fun _ _ _ _ _ => ⟨Or.inl rfl, Or.inr rfl⟩) (lc_ok (ts := ts.reverse) (Ev.revL ?_) hM3 goodr h5r ?_ ?_)) rfl))))
    · walk_at "nm"
      exact ⟨sD ts, rfl, by rw [← List.map_reverse], rfl⟩
    · intro z M' s' H' C cl fp Q hz hq
      refine Ev.call (ok_told T) hg (hr.mono (by decide)) rfl ?_
      walk_at "go"
      exact ⟨z, rfl, good_len (goodr z hz), by rw [told_due]; exact hq⟩
    refine EvA.nil ⟨_, pr, rfl, Or.inl ⟨_, rfl⟩, r1, r2, r3, r4, Ev.repr hg hu2 hB rfl T.n_repr (EvA.cons (Ev.revL ?_) rfl)⟩
    walk_at "nm"
    refine ⟨_, rfl, EvA.nil ⟨_, pr, rfl, Or.inl ⟨_, rfl⟩, by rw [← List.map_reverse]; exact r1, r2, r3, r4, _, _, rfl, rfl, rfl, Or.inr ⟨rfl, ?_, ?_⟩⟩⟩
    all_goals
      have htk : (ν ++ [MO.dead] ++ [MO.dead] ++ [MO.dead] ++ [MO.dead]).take μ.length = ν := by
        have e : μ.length = ν.length := by omega
        rw [e]
        simp
      rw [htk]
    · have e : μ.length = ν.length := by omega
      rw [e]
      exact w4.2
    · rw [decide_eq_true rfl]
      exact q ν c4 w4 (h03.trans h4)
end
end Lw

namespace Lw
open PySem PySem.Spec L2 Eg
local macro_rules | `(tactic| walk_at "vis") => `(tactic| first | exact Or.inl rfl | exact Or.inr (Or.inl rfl) | exact Or.inr (Or.inr rfl))
local macro_rules | `(tactic| walk_at "loc") => `(tactic| first | exact Or.inl rfl | exact Or.inr rfl)
local macro_rules | `(tactic| walk_at "nm") => `(tactic| first
  | refine Ev.name 0 (by rfl) (by walk_at "vis") (by rfl) ?_
  | refine Ev.name 1 (by rfl) (by walk_at "vis") (by rfl) ?_
  | refine Ev.name 2 (by rfl) (by walk_at "vis") (by rfl) ?_
  | refine Ev.name 3 (by rfl) (by walk_at "vis") (by rfl) ?_
  | refine Ev.name 4 (by rfl) (by walk_at "vis") (by rfl) ?_
  | refine Ev.name 5 (by rfl) (by walk_at "vis") (by rfl) ?_
  | refine Ev.name 6 (by rfl) (by walk_at "vis") (by rfl) ?_
  | refine Ev.name 7 (by rfl) (by walk_at "vis") (by rfl) ?_
  | refine Ev.name 8 (by rfl) (by walk_at "vis") (by rfl) ?_)
local macro_rules | `(tactic| walk_at "st") => `(tactic| first
  | refine St.set 1 (by assumption) (by rfl) (by walk_at "loc") (by walk_at "loc") ?_ rfl
  | refine St.set 2 (by assumption) (by rfl) (by walk_at "loc") (by walk_at "loc") ?_ rfl
  | refine St.set 3 (by assumption) (by rfl) (by walk_at "loc") (by walk_at "loc") ?_ rfl
  | refine St.set 4 (by assumption) (by rfl) (by walk_at "loc") (by walk_at "loc") ?_ rfl
  | refine St.set 5 (by assumption) (by rfl) (by walk_at "loc") (by walk_at "loc") ?_ rfl
  | refine St.set 6 (by assumption) (by rfl) (by walk_at "loc") (by walk_at "loc") ?_ rfl
  | refine St.set 7 (by assumption) (by rfl) (by walk_at "loc") (by walk_at "loc") ?_ rfl
  | refine St.set 8 (by assumption) (by rfl) (by walk_at "loc") (by walk_at "loc") ?_ rfl)
local macro_rules | `(tactic| walk_at "gn") => `(tactic| first
  | refine EvG.name 0 (by assumption) (by rfl) (by walk_at "loc") (by walk_at "loc") ?_
  | refine EvG.name 1 (by assumption) (by rfl) (by walk_at "loc") (by walk_at "loc") ?_
  | refine EvG.name 2 (by assumption) (by rfl) (by walk_at "loc") (by walk_at "loc") ?_
  | refine EvG.name 3 (by assumption) (by rfl) (by walk_at "loc") (by walk_at "loc") ?_
  | refine EvG.name 4 (by assumption) (by rfl) (by walk_at "loc") (by walk_at "loc") ?_
  | refine EvG.name 5 (by assumption) (by rfl) (by walk_at "loc") (by walk_at "loc") ?_
  | refine EvG.name 6 (by assumption) (by rfl) (by walk_at "loc") (by walk_at "loc") ?_
  | refine EvG.name 7 (by assumption) (by rfl) (by walk_at "loc") (by walk_at "loc") ?_
  | refine EvG.name 8 (by assumption) (by rfl) (by walk_at "loc") (by walk_at "loc") ?_)
local macro_rules | `(tactic| walk_at "one") => `(tactic| with_reducible first
  | refine sAdd.mk ?_ | refine sSub.mk ?_ | refine sLt.mk ?_ | refine sLe.mk ?_ | refine sGt.mk ?_ | refine sGe.mk ?_ | refine sEq.int ?_ | refine sNe.int ?_ | refine toT.mk ?_
  | refine Ev.int ?_ | refine Ev.str ?_ | refine Ev.bl ?_ | refine Ev.non ?_
  | refine Ev.sub ?_ | refine Ev.addI ?_ | refine Ev.mul ?_ | refine Ev.mod ?_ | refine Ev.fdiv ?_ | refine Ev.pow ?_ | refine Ev.neg ?_
  | refine Ev.lt ?_ | refine Ev.le ?_ | refine Ev.gt ?_ | refine Ev.ge ?_ | refine Ev.eq ?_ | refine Ev.ne ?_
  | refine Ev.ifE ?_ | refine Ev.tup ?_ | refine EvA.nil ?_ | refine EvA.cons ?_ rfl | refine EvT.not ?_
  | refine EvT.lt ?_ | refine EvT.le ?_ | refine EvT.gt ?_ | refine EvT.ge ?_ | refine EvT.eq ?_ | refine EvT.ne ?_
  | refine EvT.w ?_ | refine EvW.and ?_ | refine EvW.or ?_ | refine EvW.and1 ?_ | refine EvW.or1 ?_
  | refine Sts.cons ?_ | refine Sts.nil ?_ | refine St.ifS ?_ | refine St.ret ?_ | refine St.expr ?_ rfl)
local macro_rules | `(tactic| walk_at "go") => `(tactic| repeat (first | ((with_reducible show Ev _ (.Name _ _) _ _ _); (walk_at "nm")) | walk_at "one" | ((with_reducible show St _ (.Assign [.Name _ _] _ _) _ _ _); (walk_at "st"))))
theorem bls_bel (n : Nat) : ∀ bs : List Bool, DV.belL n (List.map DV.bl bs) = true
  | [] => rfl
  | b :: r => by
    show (true && DV.belL n (List.map DV.bl r)) = true
    rw [bls_bel n r]
    rfl
def C_law : Ctr := fun ds μ R => ∃ ns, ds = [scD ns] ∧ ns.length ≤ 63 ∧ μ = [] ∧ ∀ μ', R (.bl true) μ'
section
variable {P : Program} {w : World} {K : PySem.W.Frag} {mg : Str → Option Value} {base : Heap}
theorem ok_law (T : Fx K mg) (hB : ∃ mm, base.Ns sysModules mm) {fd : FuncData} (F : FunD K dl_law.name dl_law.qual dl_law.params dl_law.body dl_law.scope (dl_law.dvs K) (dl_law.kws K) (He.fAd K dl_law.at_) fd) :
    FnG P w K mg base 9 (He.fAd K dl_law.at_) fd ["_law_script"] (SpD K C_law) := by
  refine FnG.mk2 (N := Nl_law) (ps := ["_law_script"]) F scl_law ?_ ?_
  · rintro ds μ R ⟨ns, rfl, _⟩
    rfl
  rintro cd A outer s H hg hr hnd ds μ R ⟨ns, rfl, hl, rfl, q⟩
  refine Sts.cons (St.ret (Ev.all rfl rfl T.n_all (EvA.cons (Ev.lc 1 rfl hnd rfl (blkOk_by (N := Nl_law) (sc := dl_law.scope) (by decide +kernel)) (fun _ _ _ _ _ => ⟨Or.inl rfl, Or.inr rfl⟩) (EvI.range1 rfl T.n_range (EvA.cons (Ev.max2 rfl rfl T.n_max ?_)))))))
  walk_at "go"
  refine Ev.min2 rfl rfl T.n_min (EvA.cons (Ev.len rfl T.n_len ?_))
  walk_at "go"
  refine ⟨_, _, rfl, rfl, ?_⟩
  walk_at "go"
  rw [List.length_map]
  refine ⟨_, _, rfl, EvA.nil ⟨_, _, rfl, ?_⟩⟩
  have hv : ∃ v : Int, v = (fun i j : Int => if j > i then j else i) 2 ((fun i j : Int => if j < i then j else i) (ns.length : Int) 3) ∧ 0 ≤ v ∧ v ≤ 3 := by
    refine ⟨_, rfl, ?_, ?_⟩ <;> dsimp only <;> split <;> (try split) <;> omega
  obtain ⟨v, hv, v0, v3⟩ := hv
  rw [← hv]
  refine EvA.nil ⟨v, rfl, by omega, by omega, by rw [rgD_len, sizeLine_eq]; omega, fun j acc μ' => acc = List.map DV.bl (List.replicate j true) ∧ μ' = [], ⟨rfl, rfl⟩, ?_, ?_⟩
  · rintro j d acc μ2 hd hl2 ⟨rfl, rfl⟩ s' H' C cl fp
    obtain ⟨hj, hd⟩ := List.getElem?_eq_some_iff.mp hd
    rw [rgD_len] at hj
    have ed : d = .int j := by
      rw [← hd]
      simp [rgD]
    subst ed
    clear hd
    refine Ev.cut (Ev.call (ok_right T hB) hg (hr.mono (by decide)) rfl (EvA.cons (Ev.call (ok_well T) hg (hr.mono (by decide)) rfl ?_) rfl))
    walk_at "go"
    refine ⟨ns, j, rfl, by omega, by omega, hl, fun a b hw => EvA.nil ⟨1, rfl, ⟨⟨a, b, rfl, hw⟩, ?_⟩, ?_⟩⟩
    · show (MO.bel 2 (.lst (List.map DV.bl (List.replicate j true))) && (true && true)) = true
      show (DV.belL 2 (List.map DV.bl (List.replicate j true)) && (true && true)) = true
      rw [bls_bel]
      rfl
    · intro μ' c' w1 h1
      have h2 : μ'.length = 2 := h1.1
      have h0 : μ'[0]? = some (.lst (List.map DV.bl (List.replicate j true))) := h1.2 0 (by decide)
      have e : μ'.take 1 = [MO.lst (List.map DV.bl (List.replicate j true))] := by
        match μ', h2, h0 with
        | [x, y], _, h0 =>
          cases h0
          rfl
      show DV.bel 1 (.bl true) = true ∧ (μ'.take 1).all (MO.bel 1) = true ∧ _
      rw [show ([] ++ [MO.lst (List.map DV.bl (List.replicate j true))] : List MO).length = 1 from rfl, e]
      refine ⟨rfl, ?_, [], rfl, rfl, ?_, rfl⟩
      · show (DV.belL 1 (List.map DV.bl (List.replicate j true)) && true) = true
        rw [bls_bel]
        rfl
      · rw [List.replicate_succ', List.map_append]
        rfl
  · rintro acc μ2 hl2 ⟨rfl, rfl⟩
    rw [rgD_len]
    refine EvA.nil ⟨_, List.replicate v.toNat true, rfl, rfl, (fun _ z => nomatch z), ?_⟩
    have e : (List.replicate v.toNat true).all id = true := by
      rw [List.all_eq_true]
      intro x hx
      exact (List.mem_replicate.mp hx).2
    rw [e]
    exact Or.inl (q _)
end
end Lw

namespace Lw
open PySem PySem.Spec L2 Eg
theorem facts {P : Program} {w : World} {K : PySem.W.Frag} {h : Heap} {mg : Str → Option Value} {f : Addr} (X : K.In h) (G : h.Ns mainGlobals mg) (hfa : mg ("law" : Str) = some (.ref f)) (c : He.SaysX faL fnL [] [] exB w h K) :
    ∃ fd : FuncData, (∀ (s : Shared) (v : Value), BindsTo s fd ⟨[v], []⟩ [("_law_script", v)]) ∧ ∀ base : Heap, K.In base → base.Ns mainGlobals mg → (∃ mm, base.Ns sysModules mm) → FnG P w K mg base 9 f fd ["_law_script"] (SpD K C_law) := by
  have T := fx_of X G c
  obtain ⟨fd, F⟩ := T.d_l_law
  have e := hfa.symm.trans T.g_l_law
  cases e
  have b := FunD.bindsA (ps := ["_law_script"]) F fun _ _ _ _ _ _ us hl => match us, hl with | [_], _ => rfl
  exact ⟨fd, fun s v => b s [v] rfl, fun base _ _ hB => ok_law T hB F⟩
end Lw
open PySem PySem.W PySem.Calls PyProof.Rows
theorem PySem.Challenge.cw_soundlooks_k07_tokens_by_own_cuts_holds : PySem.Challenge.rw_soundlooks_k07_tokens_by_own_cuts.Holds := by
  w_on; o_law
  refine HandSHeadRun.head_any (r := Lw.R) (q := view Lw.R.prog [Lw.lawAt]) (H := Lw.hk) (ob := Lw.ob) (M := 60000) (loose := Lw.looseL) (d := HandSHeadRun.topDef Lw.R.prog Lw.lawAt) (kwd := []) Lw.ob_eq
    (by kernel_rfl) (fun s => by kernel_rfl) Lw.run (by kernel_rfl) (by kernel_rfl) (by kernel_rfl) (by rfl) (by first | assumption | decide +kernel) (by decide +kernel) ⟨rfl, rfl, rfl, rfl, rfl, by decide +kernel⟩ ?hw ?hc
  case hw => w_witness2
  case hc =>
    refine Eg.walk_S (l := PySem.Challenge.rw_soundlooks_k07_tokens_by_own_cuts) (n := 63) (k := 9) (C := Lw.C_law) rfl (by decide) (by kernel_rfl) (by decide +kernel) ⟨rfl, by decide, by decide⟩ ?hC ?F
    case hC =>
      exact fun ns hl _ => ⟨ns, rfl, hl, rfl, fun _ => rfl⟩
    case F =>
      intro w mg fa h Y G hmg0
      obtain ⟨K, KX, c⟩ := Y
      have hmg : mg ("law" : PySem.Str) = some (.ref fa) := by
        have e : (HandSHeadRun.topDef Lw.R.prog Lw.lawAt).name = ("law" : PySem.Str) := by kernel_rfl
        rw [← e]
        exact hmg0
      obtain ⟨fd, hb, hF⟩ := Lw.facts (P := (PySem.Challenge.rw_soundlooks_k07_tokens_by_own_cuts).prog) (w := w) KX G hmg c
      exact ⟨K, fd, "_law_script", KX, hb, hF⟩
