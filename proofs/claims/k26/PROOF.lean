import PyProof.Rows.All
import Wide.All
import OpenK.AllK
import Wide.FinOn
import HandS.ForMost
import HandS.ForExc
import HandS.IsInst
import HandS.ExcCtx
import HandS.HotCalls
import HandS.Strs
import HandS.TupAny
import HandS.Wide
import HandS.Zip
import KE.GoesEnum
import HandS.TupMul
import HandS.Style
import HandS.Deep
import HandS.More
import HandS.SortInts
import HandS.Flow
import KE.KExcTry
import HandS.ExcField
import HandS.MakeKw
import HandS.Conv
import HandS.MakeKwOnly
import HandS.NoneIn
import PyProof.InstEq
import HandS.Iter
import HandS.Flt
import KE.KRevSl
import HandS.Call
import HandS.Ends
import PySem.Challenge.RW_pushtells_k26_whole_judges_of_fillings_a
set_option Elab.async false
set_option linter.all false
set_option maxRecDepth 100000
set_option maxHeartbeats 8000000
/-! PLa: data without addresses over the hand layer: values D, a memory of cells, what stands for what; readings lifted. -/
namespace PL
open PySem L2

inductive D where
  | non | bl (b : Bool) | int (i : Int) | str (s : Str) | ty (n : String) | ref (a : Addr)
  | tup (xs : List D) | lst (xs : List D) | scr (xs : List Int) | obj (C : Addr) (fs : List (Str × D)) | exc (p dx C : Addr) (fs : List (Str × D)) | cell (n : Nat)
inductive M where
  | lst (xs : List D) | dct (kvs : List (Key × D)) | set (w : World) (S : Int → Bool) (n : Nat) | ins (C : Addr) (fs : List (Str × D)) | dead
abbrev Mem := List M
abbrev En := List (Option D)
structure Exn where
  C : Addr
  fs : List (Str × D)
structure Wd where
  α : List Addr
  F : Hp
  H : Hp

variable {K : PySem.W.Frag}
mutual
inductive Rep (K : PySem.W.Frag) (α : List Addr) (F : Hp) : V → D → Prop
  | non : Rep K α F .non .non
  | bl (b : Bool) : Rep K α F (.bl b) (.bl b)
  | int (i : Int) : Rep K α F (.int i) (.int i)
  | str (s : Str) : Rep K α F (.str s) (.str s)
  | ty (n : String) : Rep K α F (.ty n) (.ty n)
  | ref (a : Addr) : Rep K α F (.ref a) (.ref a)
  | tup {p : Addr} {xs : List V} {ds : List D} : F p = some (.tup xs) → Reps K α F xs ds → Rep K α F (.ref p) (.tup ds)
  | lst {p : Addr} {xs : List V} {ds : List D} : F p = some (.lst xs) → Reps K α F xs ds → Rep K α F (.ref p) (.lst ds)
  | scr {p : Addr} {ns : List Int} : SqL K F p (ns.map V.int) → Rep K α F (.ref p) (.scr ns)
  | obj {p C dx : Addr} {fvs : List (Str × V)} {fs : List (Str × D)} : F p = some (.ins C dx fvs) → RepF K α F fvs fs → Rep K α F (.ref p) (.obj C fs)
  | exc {p C dx : Addr} {fvs : List (Str × V)} {fs : List (Str × D)} : F dx = some (.xd fvs) → RepF K α F fvs fs → Rep K α F (.ref p) (.exc p dx C fs)
  | cell {n : Nat} {p : Addr} : α[n]? = some p → Rep K α F (.ref p) (.cell n)
inductive Reps (K : PySem.W.Frag) (α : List Addr) (F : Hp) : List V → List D → Prop
  | nil : Reps K α F [] []
  | cons {v : V} {d : D} {vs : List V} {ds : List D} : Rep K α F v d → Reps K α F vs ds → Reps K α F (v :: vs) (d :: ds)
inductive RepF (K : PySem.W.Frag) (α : List Addr) (F : Hp) : List (Str × V) → List (Str × D) → Prop
  | nil : RepF K α F [] []
  | cons {f : Str} {v : V} {d : D} {vs : List (Str × V)} {ds : List (Str × D)} : Rep K α F v d → RepF K α F vs ds → RepF K α F ((f, v) :: vs) ((f, d) :: ds)
end
def Ex (H H' : Hp) : Prop := ∀ a o, H a = some o → H' a = some o
theorem Ex.refl (H : Hp) : Ex H H := fun _ _ h => h
theorem Ex.trans {H H1 H2 : Hp} (a : Ex H H1) (b : Ex H1 H2) : Ex H H2 := fun x o h => b x o (a x o h)
theorem Ex.seq {H H' : Hp} (e : Ex H H') {a : Addr} {xs : List V} (h : SqL K H a xs) : SqL K H' a xs := by
  rcases h with (h | ⟨o, h⟩) | h
  · exact .inl (.inl (e _ _ h))
  · exact .inl (.inr ⟨o, e _ _ h⟩)
  · exact .inr h
def Pre (α α' : List Addr) : Prop := ∀ (n : Nat) (p : Addr), α[n]? = some p → α'[n]? = some p
theorem Pre.refl (α : List Addr) : Pre α α := fun _ _ h => h
theorem Pre.trans {a b c : List Addr} (x : Pre a b) (y : Pre b c) : Pre a c := fun n p h => y n p (x n p h)
theorem Pre.app (α β : List Addr) : Pre α (α ++ β) := fun n p h => by
  obtain ⟨h1, h2⟩ := List.getElem?_eq_some_iff.mp h
  rw [List.getElem?_append_left h1]; exact h
variable {α α' : List Addr} {F F' : Hp}
mutual
theorem Rep.mono (pr : Pre α α') (e : Ex F F') : ∀ {v : V} {d : D}, Rep K α F v d → Rep K α' F' v d
  | _, _, .non => .non
  | _, _, .bl b => .bl b
  | _, _, .int i => .int i
  | _, _, .str s => .str s
  | _, _, .ty n => .ty n
  | _, _, .ref a => .ref a
  | _, _, .tup h r => .tup (e _ _ h) (Reps.mono pr e r)
  | _, _, .lst h r => .lst (e _ _ h) (Reps.mono pr e r)
  | _, _, .scr h => .scr (e.seq h)
  | _, _, .obj h r => .obj (e _ _ h) (RepF.mono pr e r)
  | _, _, .exc h r => .exc (e _ _ h) (RepF.mono pr e r)
  | _, _, .cell h => .cell (pr _ _ h)
theorem Reps.mono (pr : Pre α α') (e : Ex F F') : ∀ {v : List V} {d : List D}, Reps K α F v d → Reps K α' F' v d
  | _, _, .nil => .nil
  | _, _, .cons r rs => .cons (Rep.mono pr e r) (Reps.mono pr e rs)
theorem RepF.mono (pr : Pre α α') (e : Ex F F') : ∀ {v : List (Str × V)} {d : List (Str × D)}, RepF K α F v d → RepF K α' F' v d
  | _, _, .nil => .nil
  | _, _, .cons r rs => .cons (Rep.mono pr e r) (RepF.mono pr e rs)
end
theorem Reps.length : ∀ {vs : List V} {ds : List D}, Reps K α F vs ds → vs.length = ds.length
  | _, _, .nil => rfl
  | _, _, .cons _ r => by rw [List.length_cons, List.length_cons, r.length]
theorem Reps.get : ∀ {vs : List V} {ds : List D} {i : Nat} {d : D}, Reps K α F vs ds → ds[i]? = some d → ∃ v, vs[i]? = some v ∧ Rep K α F v d
  | _, _, _, _, .nil, h => by simp at h
  | _, _, 0, _, .cons r _, h => ⟨_, rfl, by simp at h; exact h ▸ r⟩
  | _, _, i + 1, _, .cons _ r, h => by
    obtain ⟨v, e, q⟩ := r.get (i := i) (by simpa using h)
    exact ⟨v, by simpa using e, q⟩
theorem Reps.getV : ∀ {vs : List V} {ds : List D} {i : Nat} {v : V}, Reps K α F vs ds → vs[i]? = some v → ∃ d, ds[i]? = some d ∧ Rep K α F v d
  | _, _, _, _, .nil, h => by simp at h
  | _, _, 0, _, .cons r _, h => ⟨_, rfl, by simp at h; exact h ▸ r⟩
  | _, _, i + 1, _, .cons _ r, h => by
    obtain ⟨v, e, q⟩ := r.getV (i := i) (by simpa using h)
    exact ⟨v, by simpa using e, q⟩
theorem Reps.app : ∀ {vs us : List V} {ds es : List D}, Reps K α F vs ds → Reps K α F us es → Reps K α F (vs ++ us) (ds ++ es)
  | _, _, _, _, .nil, s => s
  | _, _, _, _, .cons r t, s => .cons r (t.app s)
theorem Reps.set : ∀ {vs : List V} {ds : List D} (i : Nat) {v : V} {d : D}, Reps K α F vs ds → Rep K α F v d → Reps K α F (vs.set i v) (ds.set i d)
  | _, _, _, _, _, .nil, _ => .nil
  | _, _, 0, _, _, .cons _ t, r => .cons r t
  | _, _, i + 1, _, _, .cons q t, r => .cons q (Reps.set i t r)
theorem Reps.take : ∀ {vs : List V} {ds : List D} (i : Nat), Reps K α F vs ds → Reps K α F (vs.take i) (ds.take i)
  | _, _, 0, _ => .nil
  | _, _, _ + 1, .nil => .nil
  | _, _, i + 1, .cons q t => .cons q (Reps.take i t)
theorem Reps.drop : ∀ {vs : List V} {ds : List D} (i : Nat), Reps K α F vs ds → Reps K α F (vs.drop i) (ds.drop i)
  | _, _, 0, t => t
  | _, _, _ + 1, .nil => .nil
  | _, _, i + 1, .cons q t => Reps.drop i t
theorem Reps.rev {vs : List V} {ds : List D} (r : Reps K α F vs ds) : Reps K α F vs.reverse ds.reverse := by
  induction vs generalizing ds with
  | nil => cases r; exact .nil
  | cons v vs ih =>
    cases r with
    | cons q t => rw [List.reverse_cons, List.reverse_cons]; exact (ih t).app (.cons q .nil)
theorem RepF.look : ∀ {vs : List (Str × V)} {ds : List (Str × D)} {f : Str} {d : D}, RepF K α F vs ds → ds.lookup f = some d → ∃ v, vs.lookup f = some v ∧ Rep K α F v d
  | _, _, _, _, .nil, h => by simp at h
  | (g, v) :: vs, (_, d) :: ds, f, d', .cons r t, h => by
    rw [List.lookup_cons] at h
    rw [List.lookup_cons]
    by_cases hc : (f == g) = true
    · rw [hc] at h ⊢
      cases h
      exact ⟨v, rfl, r⟩
    · have hc' : (f == g) = false := by simpa using hc
      rw [hc'] at h ⊢
      exact t.look h
theorem RepF.none : ∀ {vs : List (Str × V)} {ds : List (Str × D)} {f : Str}, RepF K α F vs ds → ds.lookup f = Option.none → vs.lookup f = Option.none
  | _, _, _, .nil, h => rfl
  | (g, v) :: vs, (_, d) :: ds, f, .cons r t, h => by
    rw [List.lookup_cons] at h ⊢
    by_cases hc : (f == g) = true
    · rw [hc] at h; cases h
    · have hc' : (f == g) = false := by simpa using hc
      rw [hc'] at h ⊢
      exact t.none h
theorem RepF.length : ∀ {vs : List (Str × V)} {ds : List (Str × D)}, RepF K α F vs ds → vs.length = ds.length
  | _, _, .nil => rfl
  | _, _, .cons _ r => by rw [List.length_cons, List.length_cons, r.length]
def putD (f : Str) (v : D) : List (Str × D) → List (Str × D)
  | [] => [(f, v)]
  | (g, x) :: r => if g = f then (g, v) :: r else (g, x) :: putD f v r

/-! ### slots -/
inductive EnvOk (K : PySem.W.Frag) (α : List Addr) (F : Hp) : L2.St → En → Prop
  | nil : EnvOk K α F [] []
  | some {v : V} {d : D} {σ : L2.St} {δ : En} : Rep K α F v d → EnvOk K α F σ δ → EnvOk K α F (some v :: σ) (some d :: δ)
  | skip {o : Option V} {σ : L2.St} {δ : En} : EnvOk K α F σ δ → EnvOk K α F (o :: σ) (none :: δ)
theorem EnvOk.mono (pr : Pre α α') (e : Ex F F') {σ : L2.St} {δ : En} (h : EnvOk K α F σ δ) : EnvOk K α' F' σ δ := by
  induction h with
  | nil => exact .nil
  | some r _ ih => exact .some (r.mono pr e) ih
  | skip _ ih => exact .skip ih
theorem EnvOk.get {σ : L2.St} {δ : En} (h : EnvOk K α F σ δ) : ∀ {i : Nat} {d : D}, δ[i]? = Option.some (Option.some d) → ∃ v, σ[i]? = Option.some (Option.some v) ∧ Rep K α F v d := by
  induction h with
  | nil => intro i d e; simp at e
  | some r _ ih =>
    intro i d e
    cases i with
    | zero => simp at e; subst e; exact ⟨_, rfl, r⟩
    | succ i => obtain ⟨v, q, z⟩ := ih (i := i) (by simpa using e); exact ⟨v, by simpa using q, z⟩
  | skip _ ih =>
    intro i d e
    cases i with
    | zero => simp at e
    | succ i => obtain ⟨v, q, z⟩ := ih (i := i) (by simpa using e); exact ⟨v, by simpa using q, z⟩
theorem EnvOk.set {σ : L2.St} {δ : En} {v : V} {d : D} (h : EnvOk K α F σ δ) (r : Rep K α F v d) : ∀ (i : Nat), EnvOk K α F (σ.set i (Option.some v)) (δ.set i (Option.some d)) := by
  induction h with
  | nil => intro i; exact .nil
  | some q t ih =>
    intro i
    cases i with
    | zero => exact .some r t
    | succ i => exact .some q (ih i)
  | skip t ih =>
    intro i
    cases i with
    | zero => exact .some r t
    | succ i => exact .skip (ih i)
theorem EnvOk.unset {σ : L2.St} {δ : En} (h : EnvOk K α F σ δ) : ∀ (i : Nat) (o : Option V), EnvOk K α F (σ.set i o) (δ.set i Option.none) := by
  induction h with
  | nil => intro i o; exact .nil
  | some q t ih =>
    intro i o
    cases i with
    | zero => exact .skip t
    | succ i => exact .some q (ih i o)
  | skip t ih =>
    intro i o
    cases i with
    | zero => exact .skip t
    | succ i => exact .skip (ih i o)
theorem EnvOk.len {σ : L2.St} {δ : En} (h : EnvOk K α F σ δ) : σ.length = δ.length := by
  induction h with
  | nil => rfl
  | some _ _ ih => simp [ih]
  | skip _ ih => simp [ih]
def startD (n : Nat) (ds : List D) : En := ds.map Option.some ++ List.replicate (n - ds.length) Option.none
theorem EnvOk.nones : ∀ (n : Nat), EnvOk K α F (List.replicate n Option.none) (List.replicate n Option.none)
  | 0 => .nil
  | n + 1 => by rw [List.replicate_succ, List.replicate_succ]; exact .skip (EnvOk.nones n)
theorem EnvOk.start {N : List Str} : ∀ {vs : List V} {ds : List D}, Reps K α F vs ds → ∀ m : Nat, EnvOk K α F (vs.map Option.some ++ List.replicate m Option.none) (ds.map Option.some ++ List.replicate m Option.none)
  | _, _, .nil, m => by simpa using EnvOk.nones m
  | _, _, .cons r t, m => by simpa using EnvOk.some r (EnvOk.start (N := N) t m)

/-! ### the memory -/
inductive RepK (K : PySem.W.Frag) (α : List Addr) (F : Hp) : List (Key × V) → List (Key × D) → Prop
  | nil : RepK K α F [] []
  | cons {k : Key} {v : V} {d : D} {vs : List (Key × V)} {ds : List (Key × D)} : Rep K α F v d → RepK K α F vs ds → RepK K α F ((k, v) :: vs) ((k, d) :: ds)
theorem RepK.mono (pr : Pre α α') (e : Ex F F') {v : List (Key × V)} {d : List (Key × D)} (h : RepK K α F v d) : RepK K α' F' v d := by
  induction h with
  | nil => exact .nil
  | cons r _ ih => exact .cons (r.mono pr e) ih
def COk (K : PySem.W.Frag) (α : List Addr) (F H : Hp) (p : Addr) : M → Prop
  | .lst xs => ∃ vs, H p = some (.lst vs) ∧ Reps K α F vs xs
  | .dct kvs => ∃ us, H p = some (.dK us) ∧ RepK K α F us kvs
  | .set w S n => H p = some (SetO w p S n)
  | .ins C fs => ∃ dx fvs, H p = some (.ins C dx fvs) ∧ RepF K α F fvs fs
  | .dead => True
theorem COk.mono {H : Hp} {p : Addr} {m : M} (pr : Pre α α') (e : Ex F F') (h : COk K α F H p m) : COk K α' F' H p m := by
  cases m with
  | lst xs => obtain ⟨vs, a, b⟩ := h; exact ⟨vs, a, b.mono pr e⟩
  | dct kvs => obtain ⟨vs, a, b⟩ := h; exact ⟨vs, a, b.mono pr e⟩
  | set ww S n => exact h
  | ins C fs => obtain ⟨dx, vs, a, b⟩ := h; exact ⟨dx, vs, a, b.mono pr e⟩
  | dead => trivial
theorem COk.heap {H H' : Hp} {p : Addr} {m : M} (e : ∀ o, H p = some o → H' p = some o) (h : COk K α F H p m) : COk K α F H' p m := by
  cases m with
  | lst xs => obtain ⟨vs, a, b⟩ := h; exact ⟨vs, e _ a, b⟩
  | dct kvs => obtain ⟨vs, a, b⟩ := h; exact ⟨vs, e _ a, b⟩
  | set ww S n => exact e _ h
  | ins C fs => obtain ⟨dx, vs, a, b⟩ := h; exact ⟨dx, vs, e _ a, b⟩
  | dead => trivial
structure Ok (K : PySem.W.Frag) (w : Wd) (μ : Mem) : Prop where
  len : w.α.length = μ.length
  ex : Ex w.F w.H
  cell : ∀ (n : Nat) (p : Addr) (m : M), w.α[n]? = some p → μ[n]? = some m → m ≠ M.dead → w.F p = none ∧ COk K w.α w.F w.H p m
  inj : ∀ (i j : Nat) (p : Addr), w.α[i]? = some p → w.α[j]? = some p → i ≠ j → μ[i]? = some M.dead ∨ μ[j]? = some M.dead
  tr : ∀ p ∈ w.α, w.H p ≠ none
structure Le (w w' : Wd) : Prop where
  pre : Pre w.α w'.α
  ex : Ex w.F w'.F
  fr : ∀ a o, w.H a = some o → a ∉ w.α → w'.H a = some o
  nw : ∀ p ∈ w'.α, p ∈ w.α ∨ w.H p = none
  nf : ∀ a o, w'.F a = some o → w.F a = some o ∨ w.H a = none ∨ a ∈ w.α
theorem Le.refl (w : Wd) : Le w w := ⟨Pre.refl _, Ex.refl _, fun _ _ h _ => h, fun _ h => .inl h, fun _ _ h => .inl h⟩
theorem Le.trans {a b c : Wd} (x : Le a b) (y : Le b c) : Le a c := by
  have back : ∀ p, b.H p = none → p ∈ a.α ∨ a.H p = none := fun p q => by
    by_cases hp : p ∈ a.α
    · exact .inl hp
    · refine .inr ?_
      cases e : a.H p with
      | none => rfl
      | some o => rw [x.fr p o e hp] at q; cases q
  refine ⟨x.pre.trans y.pre, x.ex.trans y.ex, fun p o h n => ?_, fun p h => ?_, fun p o h => ?_⟩
  · have h1 := x.fr p o h n
    refine y.fr p o h1 fun hb => ?_
    rcases x.nw p hb with q | q
    · exact n q
    · rw [q] at h; cases h
  · rcases y.nw p h with q | q
    · exact x.nw p q
    · exact back p q
  · rcases y.nf p o h with q | q | q
    · exact x.nf p o q
    · rcases back p q with z | z
      · exact .inr (.inr z)
      · exact .inr (.inl z)
    · rcases x.nw p q with z | z
      · exact .inr (.inr z)
      · exact .inr (.inl z)
theorem Rep.le {w w' : Wd} (l : Le w w') {v : V} {d : D} (r : Rep K w.α w.F v d) : Rep K w'.α w'.F v d := r.mono l.pre l.ex
theorem EnvOk.le {w w' : Wd} (l : Le w w') {σ : L2.St} {δ : En} (r : EnvOk K w.α w.F σ δ) : EnvOk K w'.α w'.F σ δ := r.mono l.pre l.ex

theorem trk_upd {H : Hp} {p q : Addr} {o : HO} (h : H q ≠ none) : upd H p o q ≠ none := fun e => by
  by_cases hq : q = p
  · subst hq; rw [upd_same] at e; cases e
  · rw [upd_ne hq] at e; exact h e
/-- a new frozen thing -/
theorem Ok.frozen {w : Wd} {μ : Mem} (ok : Ok K w μ) {p : Addr} (hp : w.H p = none) (o : HO) : Ok K ⟨w.α, upd w.F p o, upd w.H p o⟩ μ ∧ Le w ⟨w.α, upd w.F p o, upd w.H p o⟩ := by
  have hF : w.F p = none := by
    cases e : w.F p with
    | none => rfl
    | some u => rw [ok.ex p u e] at hp; cases hp
  have eF : Ex w.F (upd w.F p o) := fun a u e => by rw [upd_ne (ne_of_none e hF)]; exact e
  have nc : ∀ (n : Nat) (q : Addr) (m : M), w.α[n]? = some q → μ[n]? = some m → m ≠ M.dead → q ≠ p := fun n q m h1 h2 h3 e => by
    obtain ⟨_, c⟩ := ok.cell n q m h1 h2 h3
    subst e
    cases m with
    | lst xs => obtain ⟨vs, a, _⟩ := c; rw [hp] at a; cases a
    | dct kvs => obtain ⟨vs, a, _⟩ := c; rw [hp] at a; cases a
    | set ww S n => have a : w.H q = some (SetO ww q S n) := c; rw [hp] at a; cases a
    | ins C fs => obtain ⟨dx, vs, a, _⟩ := c; rw [hp] at a; cases a
    | dead => exact h3 rfl
  refine ⟨⟨ok.len, fun a u e => ?_, fun n q m h1 h2 h3 => ?_, ok.inj, fun q hq => trk_upd (ok.tr q hq)⟩, ⟨Pre.refl _, eF, fun a u e _ => ?_, fun q h => .inl h, fun a u h => ?_⟩⟩
  · show upd w.H p o a = some u
    by_cases h : a = p
    · subst h
      have e' : upd w.F a o a = some u := e
      rw [upd_same] at e' ⊢; exact e'
    · have e' : upd w.F p o a = some u := e
      rw [upd_ne h] at e' ⊢; exact ok.ex a u e'
  · obtain ⟨a, c⟩ := ok.cell n q m h1 h2 h3
    have hq := nc n q m h1 h2 h3
    refine ⟨by show upd w.F p o q = none; rw [upd_ne hq]; exact a, ?_⟩
    exact (c.mono (Pre.refl _) eF).heap fun u e => by show upd w.H p o q = some u; rw [upd_ne hq]; exact e
  · show upd w.H p o a = some u
    rw [upd_ne (ne_of_none e hp)]; exact e
  · have h' : upd w.F p o a = some u := h
    by_cases hap : a = p
    · subst hap; exact .inr (.inl hp)
    · rw [upd_ne hap] at h'; exact .inl h'
/-- a new cell -/
theorem Ok.newcell {w : Wd} {μ : Mem} (ok : Ok K w μ) {p : Addr} (hp : w.H p = none) {o : HO} {m : M} (hm : COk K w.α w.F (upd w.H p o) p m) :
    Ok K ⟨w.α ++ [p], w.F, upd w.H p o⟩ (μ ++ [m]) ∧ Le w ⟨w.α ++ [p], w.F, upd w.H p o⟩ := by
  have hF : w.F p = none := by
    cases e : w.F p with
    | none => rfl
    | some u => rw [ok.ex p u e] at hp; cases hp
  have nc : ∀ (n : Nat) (q : Addr) (m : M), w.α[n]? = some q → μ[n]? = some m → m ≠ M.dead → q ≠ p := fun n q m h1 h2 h3 e => by
    obtain ⟨_, c⟩ := ok.cell n q m h1 h2 h3
    subst e
    cases m with
    | lst xs => obtain ⟨vs, a, _⟩ := c; rw [hp] at a; cases a
    | dct kvs => obtain ⟨vs, a, _⟩ := c; rw [hp] at a; cases a
    | set ww S n => have a : w.H q = some (SetO ww q S n) := c; rw [hp] at a; cases a
    | ins C fs => obtain ⟨dx, vs, a, _⟩ := c; rw [hp] at a; cases a
    | dead => exact h3 rfl
  have prA : Pre w.α (w.α ++ [p]) := Pre.app _ _
  have last : ∀ (n : Nat) (q : Addr), (w.α ++ [p])[n]? = some q → (n < w.α.length ∧ w.α[n]? = some q) ∨ (n = w.α.length ∧ q = p) := fun n q h => by
    by_cases hn : n < w.α.length
    · rw [List.getElem?_append_left hn] at h; exact .inl ⟨hn, h⟩
    · rw [List.getElem?_append_right (Nat.le_of_not_lt hn)] at h
      have : n - w.α.length = 0 := by
        obtain ⟨h1, _⟩ := List.getElem?_eq_some_iff.mp h
        simpa using h1
      rw [this] at h
      refine .inr ⟨by omega, ?_⟩
      simpa using h.symm
  have memg : ∀ (n : Nat), n < w.α.length → (μ ++ [m])[n]? = μ[n]? := fun n hn => List.getElem?_append_left (by rw [← ok.len]; exact hn)
  refine ⟨⟨by simp [ok.len], fun a u e => ?_, fun n q m' h1 h2 h3 => ?_, fun i j q h1 h2 h3 => ?_, fun q hq => ?_⟩, ⟨prA, Ex.refl _, fun a u e _ => ?_, fun q h => ?_, fun a u h => .inl h⟩⟩
  · show upd w.H p o a = some u
    rw [upd_ne (ne_of_none e hF)]; exact ok.ex a u e
  · rcases last n q h1 with ⟨hn, e1⟩ | ⟨hn, e1⟩
    · have h2' : μ[n]? = some m' := by rw [← memg n hn]; exact h2
      obtain ⟨a, c⟩ := ok.cell n q m' e1 h2' h3
      have hq := nc n q m' e1 h2' h3
      refine ⟨a, ?_⟩
      exact (c.mono prA (Ex.refl _)).heap fun u e => by show upd w.H p o q = some u; rw [upd_ne hq]; exact e
    · subst e1
      have h2' : (μ ++ [m])[n]? = some m' := h2
      rw [hn, ok.len, List.getElem?_append_right (Nat.le_refl _)] at h2'
      have e2 : m = m' := by simpa using h2'
      subst e2
      exact ⟨hF, hm.mono prA (Ex.refl _)⟩
  · have alive : ∀ (i j : Nat) (q : Addr), (w.α ++ [p])[i]? = some q → i < w.α.length → q = p → (μ ++ [m])[i]? = some M.dead := fun i j q h hi e => by
      subst e
      rw [memg i hi]
      rw [List.getElem?_append_left hi] at h
      have hi' : i < μ.length := by rw [← ok.len]; exact hi
      by_cases hd : μ[i] = M.dead
      · rw [List.getElem?_eq_getElem hi', hd]
      · exact absurd rfl (nc i q _ h (List.getElem?_eq_getElem hi') hd)
    rcases last i q h1 with ⟨hi, e1⟩ | ⟨hi, e1⟩
    · rcases last j q h2 with ⟨hj, e2⟩ | ⟨hj, e2⟩
      · rw [memg i hi, memg j hj]; exact ok.inj i j q e1 e2 h3
      · exact .inl (alive i j q h1 hi e2)
    · rcases last j q h2 with ⟨hj, e2⟩ | ⟨hj, e2⟩
      · exact .inr (alive j i q h2 hj e1)
      · omega
  · rcases List.mem_append.mp hq with h | h
    · exact trk_upd (ok.tr q h)
    · have e : q = p := by simpa using h
      subst e
      show upd w.H q o q ≠ none
      rw [upd_same]; exact fun z => by cases z
  · show upd w.H p o a = some u
    rw [upd_ne (ne_of_none e hp)]; exact e
  · rcases List.mem_append.mp h with h | h
    · exact .inl h
    · have : q = p := by simpa using h
      subst this
      exact .inr hp
theorem Wd.last {w : Wd} {μ : Mem} (ok : Ok K w μ) (p : Addr) : (w.α ++ [p])[μ.length]? = some p := by
  rw [← ok.len]; simp
/-- a cell is changed -/
theorem Ok.setcell {w : Wd} {μ : Mem} (ok : Ok K w μ) {n : Nat} {p : Addr} {m m' : M} (hp : w.α[n]? = some p) (hn : μ[n]? = some m) (ha : m ≠ M.dead) {o : HO} (hm : COk K w.α w.F (upd w.H p o) p m') :
    Ok K ⟨w.α, w.F, upd w.H p o⟩ (μ.set n m') ∧ Le w ⟨w.α, w.F, upd w.H p o⟩ := by
  obtain ⟨hF, _⟩ := ok.cell n p m hp hn ha
  obtain ⟨hlt, hget⟩ := List.getElem?_eq_some_iff.mp hn
  refine ⟨⟨by simp [ok.len], fun a u e => ?_, fun i q k h1 h2 h3 => ?_, fun i j q h1 h2 h3 => ?_, fun q hq => trk_upd (ok.tr q hq)⟩, ⟨Pre.refl _, Ex.refl _, fun a u e na => ?_, fun q h => .inl h, fun a u h => .inl h⟩⟩
  · show upd w.H p o a = some u
    rw [upd_ne (ne_of_none e hF)]; exact ok.ex a u e
  · by_cases hi : i = n
    · subst hi
      have e1 : q = p := by rw [hp] at h1; exact (Option.some.inj h1).symm
      subst e1
      have h2' : (μ.set i m')[i]? = some k := h2
      rw [List.getElem?_set_self hlt] at h2'
      cases h2'
      exact ⟨hF, hm⟩
    · have h2' : (μ.set n m')[i]? = some k := h2
      rw [List.getElem?_set_ne (Ne.symm hi)] at h2'
      obtain ⟨a, c⟩ := ok.cell i q k h1 h2' h3
      have hq : q ≠ p := fun e => by
        subst e
        rcases ok.inj i n q h1 hp hi with z | z
        · rw [z] at h2'; exact h3 (Option.some.inj h2').symm
        · rw [z] at hn; exact ha (Option.some.inj hn).symm
      exact ⟨a, c.heap fun u e => by show upd w.H p o q = some u; rw [upd_ne hq]; exact e⟩
  · have key : ∀ (i : Nat), i ≠ n → (μ.set n m')[i]? = μ[i]? := fun i hi => List.getElem?_set_ne (Ne.symm hi)
    rcases ok.inj i j q h1 h2 h3 with z | z
    · by_cases hi : i = n
      · subst hi; rw [hn] at z; exact absurd (Option.some.inj z) ha
      · exact .inl ((key i hi).trans z)
    · by_cases hj : j = n
      · subst hj; rw [hn] at z; exact absurd (Option.some.inj z) ha
      · exact .inr ((key j hj).trans z)
  · show upd w.H p o a = some u
    rw [upd_ne]; exact e
    intro z; subst z; exact na (List.mem_of_getElem? hp)

/-! ### something beside: tracked, neither a value's nor a cell's -/
structure Aside (w : Wd) (L : Addr) (o : HO) : Prop where
  h : w.H L = some o
  c : L ∉ w.α
  f : w.F L = none
theorem Aside.le {w w' : Wd} {L : Addr} {o : HO} (a : Aside w L o) (l : Le w w') : Aside w' L o := by
  refine ⟨l.fr _ _ a.h a.c, fun z => ?_, ?_⟩
  · rcases l.nw _ z with q | q
    · exact a.c q
    · rw [a.h] at q; cases q
  · cases e : w'.F L with
    | none => rfl
    | some u =>
      rcases l.nf _ _ e with q | q | q
      · rw [a.f] at q; cases q
      · rw [a.h] at q; cases q
      · exact absurd q a.c
theorem Ok.aside {w : Wd} {μ : Mem} (ok : Ok K w μ) {L : Addr} {o : HO} (hc : L ∉ w.α) (hf : w.F L = none) : Ok K ⟨w.α, w.F, upd w.H L o⟩ μ := by
  refine ⟨ok.len, fun a u z => ?_, fun n p m h1 h2 h3 => ?_, ok.inj, fun q hq => trk_upd (ok.tr q hq)⟩
  · show upd w.H L o a = some u
    rw [upd_ne (ne_of_none z hf)]; exact ok.ex a u z
  · obtain ⟨a, c⟩ := ok.cell n p m h1 h2 h3
    refine ⟨a, c.heap fun u z => ?_⟩
    have hp : p ≠ L := fun q => by
      subst q
      exact hc (List.mem_of_getElem? h1)
    show upd w.H L o p = some u
    rw [upd_ne hp]; exact z
theorem Le.aside {w0 w : Wd} (l : Le w0 w) {L : Addr} {o : HO} (hn : w0.H L = none) : Le w0 ⟨w.α, w.F, upd w.H L o⟩ :=
  ⟨l.pre, l.ex, fun a u h n => by show upd w.H L o a = some u; rw [upd_ne (ne_of_none h hn)]; exact l.fr a u h n, l.nw, l.nf⟩
/-- it becomes a cell -/
theorem Ok.adopt {w : Wd} {μ : Mem} (ok : Ok K w μ) {L : Addr} {o : HO} {m : M} (a : Aside w L o) (hm : COk K w.α w.F w.H L m) : Ok K ⟨w.α ++ [L], w.F, w.H⟩ (μ ++ [m]) := by
  have prA : Pre w.α (w.α ++ [L]) := Pre.app _ _
  have last : ∀ (n : Nat) (q : Addr), (w.α ++ [L])[n]? = some q → (n < w.α.length ∧ w.α[n]? = some q) ∨ (n = w.α.length ∧ q = L) := fun n q h => by
    by_cases hn : n < w.α.length
    · rw [List.getElem?_append_left hn] at h; exact .inl ⟨hn, h⟩
    · rw [List.getElem?_append_right (Nat.le_of_not_lt hn)] at h
      have : n - w.α.length = 0 := by
        obtain ⟨h1, _⟩ := List.getElem?_eq_some_iff.mp h
        simpa using h1
      rw [this] at h
      exact .inr ⟨by omega, by simpa using h.symm⟩
  have memg : ∀ (n : Nat), n < w.α.length → (μ ++ [m])[n]? = μ[n]? := fun n hn => List.getElem?_append_left (by rw [← ok.len]; exact hn)
  refine ⟨by simp [ok.len], ok.ex, fun n q m' h1 h2 h3 => ?_, fun i j q h1 h2 h3 => ?_, fun q hq => ?_⟩
  · rcases last n q h1 with ⟨hn, e1⟩ | ⟨hn, e1⟩
    · have h2' : μ[n]? = some m' := by rw [← memg n hn]; exact h2
      obtain ⟨x, c⟩ := ok.cell n q m' e1 h2' h3
      exact ⟨x, c.mono prA (Ex.refl _)⟩
    · subst e1
      have h2' : (μ ++ [m])[n]? = some m' := h2
      rw [hn, ok.len, List.getElem?_append_right (Nat.le_refl _)] at h2'
      have e2 : m = m' := by simpa using h2'
      subst e2
      exact ⟨a.f, hm.mono prA (Ex.refl _)⟩
  · rcases last i q h1 with ⟨hi, e1⟩ | ⟨hi, e1⟩
    · rcases last j q h2 with ⟨hj, e2⟩ | ⟨hj, e2⟩
      · rw [memg i hi, memg j hj]; exact ok.inj i j q e1 e2 h3
      · subst e2; exact absurd (List.mem_of_getElem? e1) a.c
    · rcases last j q h2 with ⟨hj, e2⟩ | ⟨hj, e2⟩
      · subst e1; exact absurd (List.mem_of_getElem? e2) a.c
      · omega
  · rcases List.mem_append.mp hq with h | h
    · exact ok.tr q h
    · have e : q = L := by simpa using h
      subst e
      rw [show w.H q = some o from a.h]; exact fun z => by cases z
theorem Le.adopt {w0 w : Wd} (l : Le w0 w) {L : Addr} (hn : w0.H L = none) : Le w0 ⟨w.α ++ [L], w.F, w.H⟩ :=
  ⟨l.pre.trans (Pre.app _ _), l.ex, l.fr, fun p hp => by
    rcases List.mem_append.mp hp with h | h
    · exact l.nw p h
    · have e : p = L := by simpa using h
      subst e
      exact .inr hn, l.nf⟩
end PL
/-! PLb: what a piece of the program asks, over data: expressions, tests, statements, loops. -/
namespace PL
open PySem L2
abbrev QX := Exn → En → Mem → Prop
abbrev WE := En → Mem → (D → Mem → Prop) → QX → Prop
abbrev WA := En → Mem → (List D → Mem → Prop) → QX → Prop
abbrev WT := En → Mem → (Bool → Mem → Prop) → QX → Prop
structure PO where
  nx : En → Mem → Prop
  rt : D → Mem → Prop
  bk : En → Mem → Prop
  ct : En → Mem → Prop
  xc : QX
abbrev WS := En → Mem → PO → Prop
abbrev WG := D → En → Mem → (En → Mem → Prop) → Prop
abbrev WR2 := D → D → Mem → (D → Mem → Prop) → Prop
abbrev WR1 := D → Mem → (D → Mem → Prop) → Prop
abbrev WRn := List D → Mem → (D → Mem → Prop) → Prop
/-- where an exception x leads, at slots σ -/
def XL (K : PySem.W.Frag) (W : WX) (XP : QX) (wd : Wd) : Prop := ∀ (x : Exn) (δ : En) (μ : Mem) (w' : Wd) (σ : L2.St) (dx : Addr) (fvs : List (Str × V)), XP x δ μ → Le wd w' → Ok K w' μ → EnvOk K w'.α w'.F σ δ →
  w'.H dx = some (.xd fvs) → w'.F dx = some (.xd fvs) → RepF K w'.α w'.F fvs x.fs → W (.ref x.C) (some dx) σ w'.H
theorem XL.le {K : PySem.W.Frag} {W : WX} {XP : QX} {w w' : Wd} (l : Le w w') (h : XL K W XP w) : XL K W XP w' := fun x δ μ u σ dx fvs a b c d e f g => h x δ μ u σ dx fvs a (l.trans b) c d e f g
def VL (K : PySem.W.Frag) (P : D → Mem → Prop) (wd : Wd) (Q : VK) : Prop := ∀ (v : V) (d : D) (μ : Mem) (w' : Wd), P d μ → Le wd w' → Ok K w' μ → Rep K w'.α w'.F v d → Q v w'.H
def LE (K : PySem.W.Frag) (W : WX) (te : TE) (we : WE) : Prop := ∀ (wd : Wd) (σ : L2.St) (δ : En) (μ : Mem) (P : D → Mem → Prop) (XP : QX), Ok K wd μ → EnvOk K wd.α wd.F σ δ → we δ μ P XP →
  ∀ Q : VK, VL K P wd Q → XL K W XP wd → te σ wd.H Q
def LA (K : PySem.W.Frag) (W : WX) (n : Nat) (ta : TA) (wa : WA) : Prop := ∀ (wd : Wd) (σ : L2.St) (δ : En) (μ : Mem) (P : List D → Mem → Prop) (XP : QX), Ok K wd μ → EnvOk K wd.α wd.F σ δ → wa δ μ P XP →
  ∀ Q : List V → Hp → Prop, (∀ (vs : List V) (ds : List D) (μ' : Mem) (w' : Wd), P ds μ' → Le wd w' → Ok K w' μ' → Reps K w'.α w'.F vs ds → ds.length = n → Q vs w'.H) → XL K W XP wd → ta σ wd.H Q
def LT (K : PySem.W.Frag) (W : WX) (tt : TT) (wt : WT) : Prop := ∀ (wd : Wd) (σ : L2.St) (δ : En) (μ : Mem) (P : Bool → Mem → Prop) (XP : QX), Ok K wd μ → EnvOk K wd.α wd.F σ δ → wt δ μ P XP →
  ∀ Q : Bool → Hp → Prop, (∀ (b : Bool) (μ' : Mem) (w' : Wd), P b μ' → Le wd w' → Ok K w' μ' → Q b w'.H) → XL K W XP wd → tt σ wd.H Q
def LR2 (K : PySem.W.Frag) (r : R2) (wr : WR2) : Prop := ∀ (wd : Wd) (μ : Mem) (P : D → Mem → Prop) (vx vy : V) (x y : D), Ok K wd μ → Rep K wd.α wd.F vx x → Rep K wd.α wd.F vy y → wr x y μ P → ∀ Q : VK, VL K P wd Q → r vx vy wd.H Q
def LR1 (K : PySem.W.Frag) (r : V → Hp → VK → Prop) (wr : WR1) : Prop := ∀ (wd : Wd) (μ : Mem) (P : D → Mem → Prop) (vx : V) (x : D), Ok K wd μ → Rep K wd.α wd.F vx x → wr x μ P → ∀ Q : VK, VL K P wd Q → r vx wd.H Q
def LRn (K : PySem.W.Frag) (r : List V → Hp → VK → Prop) (wr : WRn) : Prop := ∀ (wd : Wd) (μ : Mem) (P : D → Mem → Prop) (vs : List V) (ds : List D), Ok K wd μ → Reps K wd.α wd.F vs ds → wr ds μ P → ∀ Q : VK, VL K P wd Q → r vs wd.H Q
def LS (K : PySem.W.Frag) (W : WX) (ts : TS) (ws : WS) : Prop := ∀ (wd : Wd) (σ : L2.St) (δ : En) (μ : Mem) (P : PO), Ok K wd μ → EnvOk K wd.α wd.F σ δ → ws δ μ P →
  ∀ Z : Ends, (∀ σ' δ' μ' w', P.nx δ' μ' → Le wd w' → Ok K w' μ' → EnvOk K w'.α w'.F σ' δ' → Z.nx σ' w'.H) → VL K P.rt wd Z.rt →
    (∀ σ' δ' μ' w', P.bk δ' μ' → Le wd w' → Ok K w' μ' → EnvOk K w'.α w'.F σ' δ' → Z.bk σ' w'.H) → (∀ σ' δ' μ' w', P.ct δ' μ' → Le wd w' → Ok K w' μ' → EnvOk K w'.α w'.F σ' δ' → Z.ct σ' w'.H) →
    XL K W P.xc wd → ts Z σ wd.H
def LG (K : PySem.W.Frag) (g : TG) (wg : WG) : Prop := ∀ (wd : Wd) (σ : L2.St) (δ : En) (μ : Mem) (v : V) (d : D) (P : En → Mem → Prop), Ok K wd μ → EnvOk K wd.α wd.F σ δ → Rep K wd.α wd.F v d → wg d δ μ P →
  ∀ Q : L2.St → Hp → Prop, (∀ σ' δ' μ' w', P δ' μ' → Le wd w' → Ok K w' μ' → EnvOk K w'.α w'.F σ' δ' → Q σ' w'.H) → g v σ wd.H Q
variable {K : PySem.W.Frag} {W : WX}
theorem VL.le {P : D → Mem → Prop} {w w' : Wd} {Q : VK} (l : Le w w') (h : VL K P w Q) : VL K P w' Q := fun v d μ u a b c e => h v d μ u a (l.trans b) c e

/-! ### names, constants -/
def wVar (i : Nat) : WE := fun δ μ P _ => match δ[i]? with | some (some d) => P d μ | _ => False
def wC (d : D) : WE := fun _ μ P _ => P d μ
theorem le_var (i : Nat) : LE K W (tVar i) (wVar i) := fun wd σ δ μ P XP ok env h Q q x => by
  unfold wVar at h
  split at h
  · rename_i d e
    obtain ⟨v, e1, r⟩ := env.get e
    exact ⟨v, e1, q v _ μ wd h (Le.refl _) ok r⟩
  · exact h.elim
theorem le_int {i : Int} : LE K W (tC (.int i)) (wC (.int i)) := fun wd σ δ μ P XP ok env h Q q x => q _ _ μ wd h (Le.refl _) ok (.int i)
theorem le_bl {b : Bool} : LE K W (tC (.bl b)) (wC (.bl b)) := fun wd σ δ μ P XP ok env h Q q x => q _ _ μ wd h (Le.refl _) ok (.bl b)
theorem le_str {s : Str} : LE K W (tC (.str s)) (wC (.str s)) := fun wd σ δ μ P XP ok env h Q q x => q _ _ μ wd h (Le.refl _) ok (.str s)
theorem le_non : LE K W (tC .non) (wC .non) := fun wd σ δ μ P XP ok env h Q q x => q _ _ μ wd h (Le.refl _) ok .non
theorem le_ty {n : String} : LE K W (tC (.ty n)) (wC (.ty n)) := fun wd σ δ μ P XP ok env h Q q x => q _ _ μ wd h (Le.refl _) ok (.ty n)
theorem le_ref {a : Addr} : LE K W (tC (.ref a)) (wC (.ref a)) := fun wd σ δ μ P XP ok env h Q q x => q _ _ μ wd h (Le.refl _) ok (.ref a)

/-! ### operators -/
def wOp (r : WR2) (a b : WE) : WE := fun δ μ P XP => a δ μ (fun x μ1 => b δ μ1 (fun y μ2 => r x y μ2 P) XP) XP
def wUn (r : WR1) (a : WE) : WE := fun δ μ P XP => a δ μ (fun x μ1 => r x μ1 P) XP
theorem le_op {r : R2} {ta tb : TE} {wr : WR2} {a b : WE} (hr : LR2 K r wr) (ha : LE K W ta a) (hb : LE K W tb b) : LE K W (tOp r ta tb) (wOp wr a b) := fun wd σ δ μ P XP ok env h Q q x =>
  ha wd σ δ μ _ XP ok env h _ (fun v d μ1 w1 h1 l1 ok1 r1 => hb w1 σ δ μ1 _ XP ok1 (env.le l1) h1 _ (fun u e μ2 w2 h2 l2 ok2 r2 => hr w2 μ2 P v u d e ok2 (r1.le l2) r2 h2 Q (q.le (l1.trans l2))) (x.le l1)) x
theorem le_un {r : V → Hp → VK → Prop} {ta : TE} {wr : WR1} {a : WE} (hr : LR1 K r wr) (ha : LE K W ta a) : LE K W (tUn r ta) (wUn wr a) := fun wd σ δ μ P XP ok env h Q q x =>
  ha wd σ δ μ _ XP ok env h _ (fun v d μ1 w1 h1 l1 ok1 r1 => hr w1 μ1 P v d ok1 r1 h1 Q (q.le l1)) x
/-- a op1 b op2 c -/
def wChain (r r' : WR2) (a b c : WE) : WE := fun δ μ P XP => a δ μ (fun x μ1 => b δ μ1 (fun y μ2 => r x y μ2 (fun z μ3 => match z with
  | .bl k => if k = true then c δ μ3 (fun w μ4 => r' y w μ4 P) XP else P (.bl false) μ3
  | _ => False)) XP) XP
theorem le_chain {r r' : R2} {ta tb tc : TE} {wr wr' : WR2} {a b c : WE} (hr : LR2 K r wr) (hr' : LR2 K r' wr') (ha : LE K W ta a) (hb : LE K W tb b) (hc : LE K W tc c) : LE K W (tChain r r' ta tb tc) (wChain wr wr' a b c) := fun wd σ δ μ P XP ok env h Q q x =>
  ha wd σ δ μ _ XP ok env h _ (fun v d μ1 w1 h1 l1 ok1 r1 => hb w1 σ δ μ1 _ XP ok1 (env.le l1) h1 _ (fun u e μ2 w2 h2 l2 ok2 r2 => hr w2 μ2 _ v u d e ok2 (r1.le l2) r2 h2 _ (fun z dz μ3 w3 h3 l3 ok3 r3 => by
    have L := (l1.trans l2).trans l3
    cases dz with
    | bl k =>
      cases r3
      refine ⟨k, rfl, ?_⟩
      cases k with
      | true => exact hc w3 σ δ μ3 _ XP ok3 (env.le L) h3 _ (fun t f μ4 w4 h4 l4 ok4 r4 => hr' w4 μ4 P u t e f ok4 ((r2.le l3).le l4) r4 h4 Q (q.le (L.trans l4))) (x.le L)
      | false => exact q _ _ μ3 w3 h3 L ok3 (.bl false)
    | _ => exact h3.elim)) (x.le l1)) x

/-! ### tests -/
def wTest (a : WE) : WT := fun δ μ P XP => a δ μ (fun x μ1 => match x with | .bl k => P k μ1 | _ => False) XP
theorem lt_test {ta : TE} {a : WE} (ha : LE K W ta a) : LT K W (tTest ta) (wTest a) := fun wd σ δ μ P XP ok env h Q q x =>
  ha wd σ δ μ _ XP ok env h _ (fun v d μ1 w1 h1 l1 ok1 r1 => by
    cases d with
    | bl k => cases r1; exact ⟨k, rfl, q k μ1 w1 h1 l1 ok1⟩
    | _ => exact h1.elim) x
theorem lt_B {ta : TE} {a : WE} (ha : LE K W ta a) : LT K W (tB ta) (wTest a) := fun wd σ δ μ P XP ok env h Q q x =>
  ha wd σ δ μ _ XP ok env h _ (fun v d μ1 w1 h1 l1 ok1 r1 => by
    cases d with
    | bl k => cases r1; exact ⟨k, rfl, q k μ1 w1 h1 l1 ok1⟩
    | _ => exact h1.elim) x
def wAnd (a b : WT) : WT := fun δ μ P XP => a δ μ (fun c μ1 => if c = true then b δ μ1 P XP else P false μ1) XP
def wOr (a b : WT) : WT := fun δ μ P XP => a δ μ (fun c μ1 => if c = true then P true μ1 else b δ μ1 P XP) XP
def wNot (a : WT) : WT := fun δ μ P XP => a δ μ (fun c μ1 => P (!c) μ1) XP
theorem lt_and {t u : TT} {a b : WT} (ha : LT K W t a) (hb : LT K W u b) : LT K W (tAnd t u) (wAnd a b) := fun wd σ δ μ P XP ok env h Q q x =>
  ha wd σ δ μ _ XP ok env h _ (fun c μ1 w1 h1 l1 ok1 => by
    cases c with
    | true => exact hb w1 σ δ μ1 P XP ok1 (env.le l1) h1 Q (fun c μ2 w2 h2 l2 ok2 => q c μ2 w2 h2 (l1.trans l2) ok2) (x.le l1)
    | false => exact q false μ1 w1 h1 l1 ok1) x
theorem lt_or {t u : TT} {a b : WT} (ha : LT K W t a) (hb : LT K W u b) : LT K W (tOr t u) (wOr a b) := fun wd σ δ μ P XP ok env h Q q x =>
  ha wd σ δ μ _ XP ok env h _ (fun c μ1 w1 h1 l1 ok1 => by
    cases c with
    | false => exact hb w1 σ δ μ1 P XP ok1 (env.le l1) h1 Q (fun c μ2 w2 h2 l2 ok2 => q c μ2 w2 h2 (l1.trans l2) ok2) (x.le l1)
    | true => exact q true μ1 w1 h1 l1 ok1) x
theorem lt_not {t : TT} {a : WT} (ha : LT K W t a) : LT K W (tNot t) (wNot a) := fun wd σ δ μ P XP ok env h Q q x =>
  ha wd σ δ μ _ XP ok env h _ (fun c μ1 w1 h1 l1 ok1 => q (!c) μ1 w1 h1 l1 ok1) x
/-- .. as values -/
def wAndV (a b : WE) : WE := fun δ μ P XP => a δ μ (fun x μ1 => match x with | .bl c => if c = true then b δ μ1 P XP else P (.bl false) μ1 | _ => False) XP
def wOrV (a b : WE) : WE := fun δ μ P XP => a δ μ (fun x μ1 => match x with | .bl c => if c = true then P (.bl true) μ1 else b δ μ1 P XP | _ => False) XP
def wNotV (a : WE) : WE := fun δ μ P XP => a δ μ (fun x μ1 => match x with | .bl c => P (.bl (!c)) μ1 | _ => False) XP
theorem le_andV {ta tb : TE} {a b : WE} (ha : LE K W ta a) (hb : LE K W tb b) : LE K W (tAndV ta tb) (wAndV a b) := fun wd σ δ μ P XP ok env h Q q x =>
  ha wd σ δ μ _ XP ok env h _ (fun v d μ1 w1 h1 l1 ok1 r1 => by
    cases d with
    | bl c =>
      cases r1
      refine ⟨c, rfl, ?_⟩
      cases c with
      | true => exact hb w1 σ δ μ1 P XP ok1 (env.le l1) h1 Q (q.le l1) (x.le l1)
      | false => exact q _ _ μ1 w1 h1 l1 ok1 (.bl false)
    | _ => exact h1.elim) x
theorem le_orV {ta tb : TE} {a b : WE} (ha : LE K W ta a) (hb : LE K W tb b) : LE K W (tOrV ta tb) (wOrV a b) := fun wd σ δ μ P XP ok env h Q q x =>
  ha wd σ δ μ _ XP ok env h _ (fun v d μ1 w1 h1 l1 ok1 r1 => by
    cases d with
    | bl c =>
      cases r1
      refine ⟨c, rfl, ?_⟩
      cases c with
      | false => exact hb w1 σ δ μ1 P XP ok1 (env.le l1) h1 Q (q.le l1) (x.le l1)
      | true => exact q _ _ μ1 w1 h1 l1 ok1 (.bl true)
    | _ => exact h1.elim) x
theorem le_notV {ta : TE} {a : WE} (ha : LE K W ta a) : LE K W (tNotV ta) (wNotV a) := fun wd σ δ μ P XP ok env h Q q x =>
  ha wd σ δ μ _ XP ok env h _ (fun v d μ1 w1 h1 l1 ok1 r1 => by
    cases d with
    | bl c => cases r1; exact ⟨c, rfl, q _ _ μ1 w1 h1 l1 ok1 (.bl _)⟩
    | _ => exact h1.elim) x
def wIf (t : WT) (a b : WE) : WE := fun δ μ P XP => t δ μ (fun c μ1 => if c = true then a δ μ1 P XP else b δ μ1 P XP) XP
theorem le_if {t : TT} {ta tb : TE} {wt : WT} {a b : WE} (ht : LT K W t wt) (ha : LE K W ta a) (hb : LE K W tb b) : LE K W (tIf t ta tb) (wIf wt a b) := fun wd σ δ μ P XP ok env h Q q x =>
  ht wd σ δ μ _ XP ok env h _ (fun c μ1 w1 h1 l1 ok1 => by
    cases c with
    | true => exact ha w1 σ δ μ1 P XP ok1 (env.le l1) h1 Q (q.le l1) (x.le l1)
    | false => exact hb w1 σ δ μ1 P XP ok1 (env.le l1) h1 Q (q.le l1) (x.le l1)) x

/-! ### rows of arguments, displays -/
def wNil : WA := fun _ μ P _ => P [] μ
def wCons (a : WE) (r : WA) : WA := fun δ μ P XP => a δ μ (fun x μ1 => r δ μ1 (fun xs μ2 => P (x :: xs) μ2) XP) XP
theorem la_nil : LA K W 0 tNil wNil := fun wd σ δ μ P XP ok env h Q q x => q [] [] μ wd h (Le.refl _) ok .nil rfl
theorem la_cons {n : Nat} {ta : TE} {tr : TA} {a : WE} {r : WA} (ha : LE K W ta a) (hr : LA K W n tr r) : LA K W (n + 1) (tCons ta tr) (wCons a r) := fun wd σ δ μ P XP ok env h Q q x =>
  ha wd σ δ μ _ XP ok env h _ (fun v d μ1 w1 h1 l1 ok1 r1 => hr w1 σ δ μ1 _ XP ok1 (env.le l1) h1 _ (fun vs ds μ2 w2 h2 l2 ok2 r2 e2 => q (v :: vs) (d :: ds) μ2 w2 h2 (l1.trans l2) ok2 (.cons (r1.le l2) r2) (by rw [List.length_cons, e2])) (x.le l1)) x
def wTup (a : WA) : WE := fun δ μ P XP => a δ μ (fun ds μ1 => P (.tup ds) μ1) XP
def wLst (a : WA) : WE := fun δ μ P XP => a δ μ (fun ds μ1 => P (.cell μ1.length) (μ1 ++ [.lst ds])) XP
theorem le_tup {n : Nat} {ta : TA} {a : WA} (ha : LA K W n ta a) (hn : n ≤ 1000 := by decide) : LE K W (tTup ta) (wTup a) := fun wd σ δ μ P XP ok env h Q q x =>
  ha wd σ δ μ _ XP ok env h _ (fun vs ds μ1 w1 h1 l1 ok1 r1 e1 => ⟨by rw [r1.length, e1, sizeLine_eq]; omega, fun p hp => by
    obtain ⟨ok2, l2⟩ := ok1.frozen hp (.tup vs)
    exact q (.ref p) (.tup ds) μ1 _ h1 (l1.trans l2) ok2 (.tup upd_same (r1.mono l2.pre l2.ex))⟩) x
theorem le_lst {n : Nat} {ta : TA} {a : WA} (ha : LA K W n ta a) (hn : n ≤ 1000 := by decide) : LE K W (tLst ta) (wLst a) := fun wd σ δ μ P XP ok env h Q q x =>
  ha wd σ δ μ _ XP ok env h _ (fun vs ds μ1 w1 h1 l1 ok1 r1 e1 => ⟨by rw [r1.length, e1, sizeLine_eq]; omega, fun p hp => by
    obtain ⟨ok2, l2⟩ := ok1.newcell (m := .lst ds) hp (o := .lst vs) ⟨vs, upd_same, r1⟩
    exact q (.ref p) (.cell μ1.length) _ _ h1 (l1.trans l2) ok2 (.cell (Wd.last ok1 p))⟩) x

/-! ### statements -/
def wNext : WS := fun δ μ P => P.nx δ μ
def wSeq (a b : WS) : WS := fun δ μ P => a δ μ { P with nx := fun δ' μ' => b δ' μ' P }
def wDrop (a : WE) : WS := fun δ μ P => a δ μ (fun _ μ' => P.nx δ μ') P.xc
def wRet (a : WE) : WS := fun δ μ P => a δ μ P.rt P.xc
def wRetN : WS := fun _ μ P => P.rt .non μ
def wIfS (t : WT) (a b : WS) : WS := fun δ μ P => t δ μ (fun c μ1 => if c = true then a δ μ1 P else b δ μ1 P) P.xc
def wBreak : WS := fun δ μ P => P.bk δ μ
def wCont : WS := fun δ μ P => P.ct δ μ
theorem ls_next : LS K W tNext wNext := fun wd σ δ μ P ok env h Z n r b c x => n σ δ μ wd h (Le.refl _) ok env
theorem ls_break : LS K W tBreak wBreak := fun wd σ δ μ P ok env h Z n r b c x => b σ δ μ wd h (Le.refl _) ok env
theorem ls_cont : LS K W tCont wCont := fun wd σ δ μ P ok env h Z n r b c x => c σ δ μ wd h (Le.refl _) ok env
theorem ls_seq {t u : TS} {a b : WS} (ha : LS K W t a) (hb : LS K W u b) : LS K W (tSeq t u) (wSeq a b) := fun wd σ δ μ P ok env h Z n r bk ct x =>
  ha wd σ δ μ _ ok env h _ (fun σ1 δ1 μ1 w1 h1 l1 ok1 env1 => hb w1 σ1 δ1 μ1 P ok1 env1 h1 Z (fun s d m w a l o e => n s d m w a (l1.trans l) o e) (r.le l1)
    (fun s d m w a l o e => bk s d m w a (l1.trans l) o e) (fun s d m w a l o e => ct s d m w a (l1.trans l) o e) (x.le l1)) r bk ct x
theorem ls_drop {ta : TE} {a : WE} (ha : LE K W ta a) : LS K W (tDrop ta) (wDrop a) := fun wd σ δ μ P ok env h Z n r bk ct x =>
  ha wd σ δ μ _ P.xc ok env h _ (fun v d μ1 w1 h1 l1 ok1 r1 => n σ δ μ1 w1 h1 l1 ok1 (env.le l1)) x
theorem ls_ret {ta : TE} {a : WE} (ha : LE K W ta a) : LS K W (tRet ta) (wRet a) := fun wd σ δ μ P ok env h Z n r bk ct x => ha wd σ δ μ P.rt P.xc ok env h _ r x
theorem ls_retN : LS K W tRetN wRetN := fun wd σ δ μ P ok env h Z n r bk ct x => r .non .non μ wd h (Le.refl _) ok .non
theorem ls_if {t : TT} {tu tv : TS} {wt : WT} {a b : WS} (ht : LT K W t wt) (ha : LS K W tu a) (hb : LS K W tv b) : LS K W (tIfS t tu tv) (wIfS wt a b) := fun wd σ δ μ P ok env h Z n r bk ct x =>
  ht wd σ δ μ _ P.xc ok env h _ (fun c μ1 w1 h1 l1 ok1 => by
    cases c with
    | true => exact ha w1 σ δ μ1 P ok1 (env.le l1) h1 Z (fun s d m w a l o e => n s d m w a (l1.trans l) o e) (r.le l1) (fun s d m w a l o e => bk s d m w a (l1.trans l) o e) (fun s d m w a l o e => ct s d m w a (l1.trans l) o e) (x.le l1)
    | false => exact hb w1 σ δ μ1 P ok1 (env.le l1) h1 Z (fun s d m w a l o e => n s d m w a (l1.trans l) o e) (r.le l1) (fun s d m w a l o e => bk s d m w a (l1.trans l) o e) (fun s d m w a l o e => ct s d m w a (l1.trans l) o e) (x.le l1)) x
/-! targets -/
def wName (i : Nat) : WG := fun d δ μ P => P (δ.set i (some d)) μ
theorem lg_name (i : Nat) : LG K (gName i) (wName i) := fun wd σ δ μ v d P ok env r h Q q => q _ _ μ wd h (Le.refl _) ok (env.set r i)
abbrev WGs := List D → En → Mem → (En → Mem → Prop) → Prop
def wGnil : WGs := fun ds δ μ P => match ds with | [] => P δ μ | _ => False
def wGcons (a : WG) (b : WGs) : WGs := fun ds δ μ P => match ds with | d :: r => a d δ μ (fun δ' μ' => b r δ' μ' P) | [] => False
def LGs (K : PySem.W.Frag) (g : TGs) (wg : WGs) : Prop := ∀ (wd : Wd) (σ : L2.St) (δ : En) (μ : Mem) (vs : List V) (ds : List D) (P : En → Mem → Prop), Ok K wd μ → EnvOk K wd.α wd.F σ δ → Reps K wd.α wd.F vs ds → wg ds δ μ P →
  ∀ Q : L2.St → Hp → Prop, (∀ σ' δ' μ' w', P δ' μ' → Le wd w' → Ok K w' μ' → EnvOk K w'.α w'.F σ' δ' → Q σ' w'.H) → g vs σ wd.H Q
theorem lgs_nil : LGs K gNil wGnil := fun wd σ δ μ vs ds P ok env r h Q q => by
  cases ds with
  | nil => cases r; exact ⟨rfl, q _ _ μ wd h (Le.refl _) ok env⟩
  | cons _ _ => exact h.elim
theorem lgs_cons {g : TG} {u : TGs} {a : WG} {b : WGs} (ha : LG K g a) (hb : LGs K u b) : LGs K (gCons g u) (wGcons a b) := fun wd σ δ μ vs ds P ok env r h Q q => by
  cases ds with
  | nil => exact h.elim
  | cons d ds =>
    cases r with
    | cons r1 r2 =>
      exact ⟨_, _, rfl, ha wd σ δ μ _ d _ ok env r1 h _ fun σ1 δ1 μ1 w1 h1 l1 ok1 env1 =>
        hb w1 σ1 δ1 μ1 _ ds P ok1 env1 (r2.mono l1.pre l1.ex) h1 Q fun s d m w a l o e => q s d m w a (l1.trans l) o e⟩
/-- (a, b, ..) = a tuple -/
def wGtup (n : Nat) (b : WGs) : WG := fun d δ μ P => match d with | .tup xs => xs.length = n ∧ b xs δ μ P | _ => False
theorem lg_tup {n : Nat} {u : TGs} {b : WGs} (hb : LGs K u b) : LG K (gTup K n u) (wGtup n b) := fun wd σ δ μ v d P ok env r h Q q => by
  cases d with
  | tup xs =>
    cases r with
    | tup e rs => exact ⟨_, _, rfl, SqT.of (ok.ex _ _ e), by rw [rs.length, h.1], hb wd σ δ μ _ xs P ok env rs h.2 Q q⟩
  | _ => exact h.elim
/-- name = value -/
def wAsg (a : WE) (g : WG) : WS := fun δ μ P => a δ μ (fun d μ1 => g d δ μ1 P.nx) P.xc
theorem ls_asg {ta : TE} {g : TG} {a : WE} {wg : WG} (ha : LE K W ta a) (hg : LG K g wg) : LS K W (tAsg ta g) (wAsg a wg) := fun wd σ δ μ P ok env h Z n r bk ct x =>
  ha wd σ δ μ _ P.xc ok env h _ (fun v d μ1 w1 h1 l1 ok1 r1 => hg w1 σ δ μ1 v d _ ok1 (env.le l1) r1 h1 _ fun s d m w a l o e => n s d m w a (l1.trans l) o e) x
/-- a, b = x, y -/
def wPar (i j : Nat) (a : WA) : WS := fun δ μ P => a δ μ (fun ds μ1 => match ds with | [x, y] => P.nx ((δ.set i (some x)).set j (some y)) μ1 | _ => False) P.xc
theorem ls_par {i j n : Nat} {ta : TA} {a : WA} (ha : LA K W n ta a) : LS K W (tPar i j ta) (wPar i j a) := fun wd σ δ μ P ok env h Z n r bk ct x =>
  ha wd σ δ μ _ P.xc ok env h _ (fun vs ds μ1 w1 h1 l1 ok1 r1 _ => by
    match ds, vs, r1, h1 with
    | [x, y], [_, _], .cons r1 (.cons r2 .nil), h1 => exact ⟨_, _, rfl, n _ _ μ1 w1 h1 l1 ok1 (((env.le l1).set r1 i).set r2 j)⟩
    | [], _, _, h1 => exact h1.elim
    | [_], _, _, h1 => exact h1.elim
    | _ :: _ :: _ :: _, _, _, h1 => exact h1.elim) x
/-- name op= e, by a rule of values -/
def wAug (i : Nat) (a : WE) (r : WR2) : WS := fun δ μ P => match δ[i]? with | some (some x) => a δ μ (fun y μ1 => r x y μ1 (fun z μ2 => P.nx (δ.set i (some z)) μ2)) P.xc | _ => False
theorem ls_aug {i : Nat} {ta : TE} {a : WE} {ti : TIp} {r : WR2} (ha : LE K W ta a) (hr : LR2 K ti r) : LS K W (tAug i ta ti) (wAug i a r) := fun wd σ δ μ P ok env h Z n rt bk ct x => by
  have h' : (match δ[i]? with | some (some x) => a δ μ (fun y μ1 => r x y μ1 (fun z μ2 => P.nx (δ.set i (some z)) μ2)) P.xc | _ => False) := h
  split at h'
  · rename_i d e
    obtain ⟨v, e1, r1⟩ := env.get e
    exact ⟨v, e1, ha wd σ δ μ _ P.xc ok env h' _ (fun u c μ1 w1 h1 l1 ok1 r2 => hr w1 μ1 _ v u d c ok1 (r1.le l1) r2 h1 _ fun z dz μ2 w2 h2 l2 ok2 r3 => n _ _ μ2 w2 h2 (l1.trans l2) ok2 ((env.le (l1.trans l2)).set r3 i)) x⟩
  · exact h'.elim

/-! ### what is walked -/
def Walks (K : PySem.W.Frag) (J : It) (items : List D) (chk : Mem → Prop) (w0 : Wd) : Prop := ∀ (w : Wd) (μ : Mem), Le w0 w → Ok K w μ → chk μ → ∀ i : Nat, (i = items.length → J.stop i w.H) ∧
  ∀ d, items[i]? = some d → J.go i w.H ∧ ∀ x H', J.yld i w.H x H' → ∃ w', w'.H = H' ∧ Le w w' ∧ Ok K w' μ ∧ Rep K w'.α w'.F x d
abbrev WI := En → Mem → (List D → (Mem → Prop) → Mem → Prop) → QX → Prop
def LI (K : PySem.W.Frag) (W : WX) (ti : TI) (wi : WI) : Prop := ∀ (wd : Wd) (σ : L2.St) (δ : En) (μ : Mem) (P : List D → (Mem → Prop) → Mem → Prop) (XP : QX), Ok K wd μ → EnvOk K wd.α wd.F σ δ → wi δ μ P XP →
  ∀ R : It → Hp → Prop, (∀ (J : It) (items : List D) (chk : Mem → Prop) (μ' : Mem) (w' : Wd), P items chk μ' → Le wd w' → Ok K w' μ' → chk μ' → Walks K J items chk w' → R J w'.H) → XL K W XP wd → ti σ wd.H R
/-- the turns, one by one -/
def loopL (chk : Mem → Prop) (g : WG) (b : WS) : List D → En → Mem → PO → Prop
  | [], δ, μ, P => P.nx δ μ
  | x :: xs, δ, μ, P => g x δ μ (fun δ1 μ1 => b δ1 μ1 { P with nx := fun δ' μ' => chk μ' ∧ loopL chk g b xs δ' μ' P, ct := fun δ' μ' => chk μ' ∧ loopL chk g b xs δ' μ' P, bk := P.nx })
def wFor (wi : WI) (g : WG) (b : WS) : WS := fun δ μ P => wi δ μ (fun items chk μ1 => loopL chk g b items δ μ1 P) P.xc
theorem ls_for {ti : TI} {g : TG} {tb : TS} {wi : WI} {wg : WG} {b : WS} (hi : LI K W ti wi) (hg : LG K g wg) (hb : LS K W tb b) : LS K W (tFor ti g tb) (wFor wi wg b) := fun wd σ δ μ P ok env h Z n rt bk ct x =>
  hi wd σ δ μ _ P.xc ok env h _ (fun J items chk μ1 w1 h1 l1 ok1 c1 wk => by
    refine ⟨fun i m s H => m = items.length - i ∧ i ≤ items.length ∧ ∃ w δ' μ', w.H = H ∧ Le w1 w ∧ Ok K w μ' ∧ EnvOk K w.α w.F s δ' ∧ chk μ' ∧ loopL chk wg b (items.drop i) δ' μ' P,
      ⟨_, rfl, Nat.zero_le _, w1, δ, μ1, rfl, Le.refl _, ok1, env.le l1, c1, h1⟩, ?_⟩
    rintro i m s H ⟨rfl, hi', w, δ', μ', rfl, l, okw, envw, cw, hl⟩
    obtain ⟨st, gt⟩ := wk w μ' l okw cw i
    by_cases hlt : i < items.length
    · right
      obtain ⟨go, y⟩ := gt items[i] (List.getElem?_eq_getElem hlt)
      rw [List.drop_eq_getElem_cons hlt] at hl
      refine ⟨go, fun s' H' => i + 1 ≤ items.length ∧ ∃ w δ' μ', w.H = H' ∧ Le w1 w ∧ Ok K w μ' ∧ EnvOk K w.α w.F s' δ' ∧ chk μ' ∧ loopL chk wg b (items.drop (i + 1)) δ' μ' P, fun s' H' z => ⟨items.length - (i + 1), by omega, rfl, z⟩, fun v H' yv => ?_⟩
      obtain ⟨w2, rfl, l2, ok2, r2⟩ := y v H' yv
      refine hg w2 s δ' μ' v _ _ ok2 (envw.le l2) r2 hl _ fun s3 δ3 μ3 w3 h3 l3 ok3 env3 => ?_
      have L : Le w1 w3 := (l.trans l2).trans l3
      refine hb w3 s3 δ3 μ3 _ ok3 env3 h3 _ (fun s4 δ4 μ4 w4 h4 l4 ok4 env4 => ?_) (rt.le (l1.trans L)) (fun s4 δ4 μ4 w4 h4 l4 ok4 env4 => ?_) (fun s4 δ4 μ4 w4 h4 l4 ok4 env4 => ?_) (x.le (l1.trans L))
      · exact ⟨hlt, w4, δ4, μ4, rfl, L.trans l4, ok4, env4, h4.1, h4.2⟩
      · exact n s4 δ4 μ4 w4 h4 (l1.trans (L.trans l4)) ok4 env4
      · exact ⟨hlt, w4, δ4, μ4, rfl, L.trans l4, ok4, env4, h4.1, h4.2⟩
    · left
      have e : i = items.length := by omega
      rw [e, List.drop_length] at hl
      exact ⟨st e, n s δ' μ' w hl (l1.trans l) okw envw⟩) x
/-- while: a word of slots and memory, by a measure -/
def wWhile (c : WT) (b : WS) : WS := fun δ μ P => ∃ I : Nat → En → Mem → Prop, (∃ m, I m δ μ) ∧ ∀ m δ μ, I m δ μ → c δ μ (fun k μ1 => if k = true then
  b δ μ1 { P with nx := fun δ' μ' => ∃ m', m' < m ∧ I m' δ' μ', ct := fun δ' μ' => ∃ m', m' < m ∧ I m' δ' μ', bk := P.nx } else P.nx δ μ1) P.xc
theorem ls_while {tc : TT} {tb : TS} {c : WT} {b : WS} (hc : LT K W tc c) (hb : LS K W tb b) : LS K W (tWhile tc tb) (wWhile c b) := fun wd σ δ μ P ok env h Z n rt bk ct x => by
  obtain ⟨I, ⟨m0, i0⟩, turn⟩ := h
  refine ⟨fun m s H => ∃ w δ' μ', w.H = H ∧ Le wd w ∧ Ok K w μ' ∧ EnvOk K w.α w.F s δ' ∧ I m δ' μ', ⟨m0, wd, δ, μ, rfl, Le.refl _, ok, env, i0⟩, ?_⟩
  rintro m s H ⟨w, δ', μ', rfl, l, okw, envw, im⟩
  refine hc w s δ' μ' _ P.xc okw envw (turn m δ' μ' im) _ (fun k μ1 w1 h1 l1 ok1 => ?_) (x.le l)
  have L := l.trans l1
  cases k with
  | true =>
    refine ⟨fun s' H' => ∃ m', m' < m ∧ ∃ w δ' μ', w.H = H' ∧ Le wd w ∧ Ok K w μ' ∧ EnvOk K w.α w.F s' δ' ∧ I m' δ' μ', fun s' H' z => z, ?_⟩
    refine hb w1 s δ' μ1 _ ok1 (envw.le l1) h1 _ (fun s4 δ4 μ4 w4 h4 l4 ok4 env4 => ?_) (rt.le L) (fun s4 δ4 μ4 w4 h4 l4 ok4 env4 => ?_) (fun s4 δ4 μ4 w4 h4 l4 ok4 env4 => ?_) (x.le L)
    · obtain ⟨m', hm, im'⟩ := h4
      exact ⟨m', hm, w4, δ4, μ4, rfl, L.trans l4, ok4, env4, im'⟩
    · exact n s4 δ4 μ4 w4 h4 (L.trans l4) ok4 env4
    · obtain ⟨m', hm, im'⟩ := h4
      exact ⟨m', hm, w4, δ4, μ4, rfl, L.trans l4, ok4, env4, im'⟩
  | false => exact n s δ' μ1 w1 h1 L ok1 (envw.le l1)
end PL
/-! PLc: defs, calls, new objects, fields, comprehensions, over data. -/
namespace PL
open PySem L2 PySem.Spec PyProof.Rows
variable {K : PySem.W.Frag} {W : WX}
abbrev FS := List D → Mem → (D → Mem → Prop) → (Exn → Mem → Prop) → Prop
/-- where an exception leads, out of a def -/
def XF (K : PySem.W.Frag) (E : XK) (XP : Exn → Mem → Prop) (wd : Wd) : Prop := ∀ (x : Exn) (μ : Mem) (w' : Wd) (dx : Addr) (fvs : List (Str × V)), XP x μ → Le wd w' → Ok K w' μ →
  w'.H dx = some (.xd fvs) → w'.F dx = some (.xd fvs) → RepF K w'.α w'.F fvs x.fs → E (.ref x.C) (some dx) w'.H
def spOf (K : PySem.W.Frag) (S : FS) : Sp := fun vs H Q E => ∃ (wd : Wd) (μ : Mem) (ds : List D) (P : D → Mem → Prop) (XP : Exn → Mem → Prop), wd.H = H ∧ Ok K wd μ ∧ Reps K wd.α wd.F vs ds ∧ S ds μ P XP ∧ VL K P wd Q ∧ XF K E XP wd

/-! ### a def's end: cells of its own let go -/
mutual
def D.lo (k : Nat) : D → Prop
  | .cell n => n < k
  | .tup xs => D.loL k xs
  | .lst xs => D.loL k xs
  | .obj _ fs => D.loF k fs
  | .exc _ _ _ fs => D.loF k fs
  | _ => True
def D.loL (k : Nat) : List D → Prop
  | [] => True
  | d :: ds => D.lo k d ∧ D.loL k ds
def D.loF (k : Nat) : List (Str × D) → Prop
  | [] => True
  | (_, d) :: ds => D.lo k d ∧ D.loF k ds
end
def D.loK (k : Nat) : List (Key × D) → Prop
  | [] => True
  | (_, d) :: ds => D.lo k d ∧ D.loK k ds
def M.lo (k : Nat) : M → Prop
  | .lst xs => D.loL k xs
  | .dct kvs => D.loK k kvs
  | .ins _ fs => D.loF k fs
  | _ => True
def Mem.lo (k : Nat) (μ : Mem) : Prop := ∀ m ∈ μ, M.lo k m
mutual
def D.sub (n : Nat) (e : D) : D → D
  | .cell m => if m = n then e else .cell m
  | .tup xs => .tup (D.subL n e xs)
  | .lst xs => .lst (D.subL n e xs)
  | .obj C fs => .obj C (D.subF n e fs)
  | .exc p x C fs => .exc p x C (D.subF n e fs)
  | .non => .non
  | .bl b => .bl b
  | .int i => .int i
  | .str s => .str s
  | .ty t => .ty t
  | .ref a => .ref a
  | .scr ns => .scr ns
def D.subL (n : Nat) (e : D) : List D → List D
  | [] => []
  | d :: ds => D.sub n e d :: D.subL n e ds
def D.subF (n : Nat) (e : D) : List (Str × D) → List (Str × D)
  | [] => []
  | (f, d) :: ds => (f, D.sub n e d) :: D.subF n e ds
end
def D.subK (n : Nat) (e : D) : List (Key × D) → List (Key × D)
  | [] => []
  | (f, d) :: ds => (f, D.sub n e d) :: D.subK n e ds
def M.sub (n : Nat) (e : D) : M → M
  | .lst xs => .lst (D.subL n e xs)
  | .dct kvs => .dct (D.subK n e kvs)
  | .ins C fs => .ins C (D.subF n e fs)
  | m => m
/-- what a cell holds, as a value -/
def M.val : M → Option D
  | .lst xs => some (.lst xs)
  | .ins C fs => some (.obj C fs)
  | _ => none
section
variable {α : List Addr} {F F' : Hp} {k : Nat}
theorem take_get {n : Nat} {p : Addr} (h : α[n]? = some p) (hn : n < k) : (α.take k)[n]? = some p := by
  rw [List.getElem?_take, if_pos hn]; exact h
mutual
theorem Rep.cut : ∀ {v : V} {d : D}, Rep K α F v d → D.lo k d → Rep K (α.take k) F v d
  | _, _, .non, _ => .non
  | _, _, .bl b, _ => .bl b
  | _, _, .int i, _ => .int i
  | _, _, .str s, _ => .str s
  | _, _, .ty n, _ => .ty n
  | _, _, .ref a, _ => .ref a
  | _, _, .tup h r, z => .tup h (Reps.cut r z)
  | _, _, .lst h r, z => .lst h (Reps.cut r z)
  | _, _, .scr h, _ => .scr h
  | _, _, .obj h r, z => .obj h (RepF.cut r z)
  | _, _, .exc h r, z => .exc h (RepF.cut r z)
  | _, _, .cell h, z => .cell (take_get h z)
theorem Reps.cut : ∀ {v : List V} {d : List D}, Reps K α F v d → D.loL k d → Reps K (α.take k) F v d
  | _, _, .nil, _ => .nil
  | _, _, .cons r rs, z => .cons (Rep.cut r z.1) (Reps.cut rs z.2)
theorem RepF.cut : ∀ {v : List (Str × V)} {d : List (Str × D)}, RepF K α F v d → D.loF k d → RepF K (α.take k) F v d
  | _, _, .nil, _ => .nil
  | _, _, .cons r rs, z => .cons (Rep.cut r z.1) (RepF.cut rs z.2)
end
theorem RepK.cut {v : List (Key × V)} {d : List (Key × D)} (h : RepK K α F v d) : D.loK k d → RepK K (α.take k) F v d := by
  induction h with
  | nil => intro _; exact .nil
  | cons r _ ih => intro z; exact .cons (r.cut z.1) (ih z.2)
theorem COk.cut {H : Hp} {p : Addr} {m : M} (h : COk K α F H p m) (z : M.lo k m) : COk K (α.take k) F H p m := by
  cases m with
  | lst xs => obtain ⟨vs, a, b⟩ := h; exact ⟨vs, a, b.cut z⟩
  | dct kvs => obtain ⟨vs, a, b⟩ := h; exact ⟨vs, a, b.cut z⟩
  | set ww S n => exact h
  | ins C fs => obtain ⟨dx, vs, a, b⟩ := h; exact ⟨dx, vs, a, b.cut z⟩
  | dead => trivial
variable {n : Nat} {p : Addr} {e : D}
mutual
theorem Rep.sub (ex : Ex F F') (hp : α[n]? = some p) (he : Rep K α F' (.ref p) e) : ∀ {v : V} {d : D}, Rep K α F v d → Rep K α F' v (D.sub n e d)
  | _, _, .non => .non
  | _, _, .bl b => .bl b
  | _, _, .int i => .int i
  | _, _, .str s => .str s
  | _, _, .ty n => .ty n
  | _, _, .ref a => .ref a
  | _, _, .tup h r => .tup (ex _ _ h) (Reps.sub ex hp he r)
  | _, _, .lst h r => .lst (ex _ _ h) (Reps.sub ex hp he r)
  | _, _, .scr h => .scr (ex.seq h)
  | _, _, .obj h r => .obj (ex _ _ h) (RepF.sub ex hp he r)
  | _, _, .exc h r => .exc (ex _ _ h) (RepF.sub ex hp he r)
  | _, _, .cell (n := m) h => by
    unfold D.sub
    split
    · rename_i q; subst q; rw [hp] at h; cases h; exact he
    · exact .cell h
theorem Reps.sub (ex : Ex F F') (hp : α[n]? = some p) (he : Rep K α F' (.ref p) e) : ∀ {v : List V} {d : List D}, Reps K α F v d → Reps K α F' v (D.subL n e d)
  | _, _, .nil => .nil
  | _, _, .cons r rs => .cons (Rep.sub ex hp he r) (Reps.sub ex hp he rs)
theorem RepF.sub (ex : Ex F F') (hp : α[n]? = some p) (he : Rep K α F' (.ref p) e) : ∀ {v : List (Str × V)} {d : List (Str × D)}, RepF K α F v d → RepF K α F' v (D.subF n e d)
  | _, _, .nil => .nil
  | _, _, .cons r rs => .cons (Rep.sub ex hp he r) (RepF.sub ex hp he rs)
end
theorem RepK.sub (ex : Ex F F') (hp : α[n]? = some p) (he : Rep K α F' (.ref p) e) {v : List (Key × V)} {d : List (Key × D)} (h : RepK K α F v d) : RepK K α F' v (D.subK n e d) := by
  induction h with
  | nil => exact .nil
  | cons r _ ih => exact .cons (Rep.sub ex hp he r) ih
theorem COk.sub {H : Hp} {q : Addr} {m : M} (ex : Ex F F') (hp : α[n]? = some p) (he : Rep K α F' (.ref p) e) (h : COk K α F H q m) : COk K α F' H q (M.sub n e m) := by
  cases m with
  | lst xs => obtain ⟨vs, a, b⟩ := h; exact ⟨vs, a, .sub ex hp he b⟩
  | dct kvs => obtain ⟨vs, a, b⟩ := h; exact ⟨vs, a, .sub ex hp he b⟩
  | set ww S n => exact h
  | ins C fs => obtain ⟨dx, vs, a, b⟩ := h; exact ⟨dx, vs, a, .sub ex hp he b⟩
  | dead => trivial
end
theorem Ok.cut {w : Wd} {μ : Mem} {k : Nat} (ok : Ok K w μ) (h : Mem.lo k (μ.take k)) : Ok K ⟨w.α.take k, w.F, w.H⟩ (μ.take k) := by
  refine ⟨by simp [ok.len], ok.ex, fun i p m h1 h2 h3 => ?_, fun i j p h1 h2 h3 => ?_, fun p hp => ok.tr p (List.mem_of_mem_take hp)⟩
  · have h1' : (w.α.take k)[i]? = some p := h1
    rw [List.getElem?_take] at h1' h2
    by_cases hi : i < k
    · rw [if_pos hi] at h1' h2
      obtain ⟨a, c⟩ := ok.cell i p m h1' h2 h3
      exact ⟨a, c.cut (h m (List.mem_of_getElem? (by rw [List.getElem?_take, if_pos hi]; exact h2)))⟩
    · rw [if_neg hi] at h2; cases h2
  · have h1' : (w.α.take k)[i]? = some p := h1
    have h2' : (w.α.take k)[j]? = some p := h2
    rw [List.getElem?_take] at h1' h2'
    by_cases hi : i < k
    · by_cases hj : j < k
      · rw [if_pos hi] at h1'
        rw [if_pos hj] at h2'
        rw [List.getElem?_take, List.getElem?_take, if_pos hi, if_pos hj]
        exact ok.inj i j p h1' h2' h3
      · rw [if_neg hj] at h2'; cases h2'
    · rw [if_neg hi] at h1'; cases h1'
theorem Le.cut {w0 w : Wd} {k : Nat} (l : Le w0 w) (h : w0.α.length ≤ k) : Le w0 ⟨w.α.take k, w.F, w.H⟩ :=
  ⟨fun n p e => take_get (l.pre n p e) (Nat.lt_of_lt_of_le (List.getElem?_eq_some_iff.mp e).1 h), l.ex, l.fr, fun p hp => l.nw p (List.mem_of_mem_take hp), l.nf⟩
/-- a cell becomes a value for ever -/
theorem Ok.freeze {w : Wd} {μ : Mem} {n : Nat} {m : M} {e : D} (ok : Ok K w μ) (hm : μ[n]? = some m) (he : m.val = some e) : ∃ (p : Addr) (F' : Hp), w.α[n]? = some p ∧ Ex w.F F' ∧ Rep K w.α F' (.ref p) e ∧
    Ok K ⟨w.α, F', w.H⟩ ((μ.map (M.sub n e)).set n .dead) ∧ Le w ⟨w.α, F', w.H⟩ := by
  have hn : n < w.α.length := by rw [ok.len]; exact (List.getElem?_eq_some_iff.mp hm).1
  obtain ⟨p, hp⟩ : ∃ p, w.α[n]? = some p := ⟨_, List.getElem?_eq_getElem hn⟩
  have alive : m ≠ M.dead := fun z => by subst z; cases he
  obtain ⟨hF, c⟩ := ok.cell n p m hp hm alive
  obtain ⟨o, ho, hr⟩ : ∃ o, w.H p = some o ∧ ∀ F', Ex w.F F' → F' p = some o → Rep K w.α F' (.ref p) e := by
    cases m with
    | lst xs => obtain ⟨vs, a, b⟩ := c; cases he; exact ⟨_, a, fun F' ex h => .lst h (b.mono (Pre.refl _) ex)⟩
    | ins C fs => obtain ⟨dx, vs, a, b⟩ := c; cases he; exact ⟨_, a, fun F' ex h => .obj h (b.mono (Pre.refl _) ex)⟩
    | dct kvs => cases he
    | set ww S n => cases he
    | dead => cases he
  have ex : Ex w.F (upd w.F p o) := fun a u q => by rw [upd_ne (ne_of_none q hF)]; exact q
  have her := hr _ ex upd_same
  refine ⟨p, upd w.F p o, hp, ex, her, ⟨by simp [ok.len], fun a u q => ?_, fun i q k h1 h2 h3 => ?_, fun i j q h1 h2 h3 => ?_, ok.tr⟩, ⟨Pre.refl _, ex, fun _ _ h _ => h, fun _ h => .inl h, fun a u h => by
    have h' : upd w.F p o a = some u := h
    by_cases hap : a = p
    · subst hap; exact .inr (.inr (List.mem_of_getElem? hp))
    · rw [upd_ne hap] at h'; exact .inl h'⟩⟩
  · have q' : upd w.F p o a = some u := q
    by_cases hap : a = p
    · subst hap; rw [upd_same] at q'; cases q'; exact ho
    · rw [upd_ne hap] at q'; exact ok.ex a u q'
  · by_cases hi : i = n
    · subst hi
      have h2' : ((μ.map (M.sub i e)).set i .dead)[i]? = some k := h2
      rw [List.getElem?_set_self (by rw [List.length_map, ← ok.len]; exact hn)] at h2'
      exact absurd (Option.some.inj h2').symm h3
    · have h2' : ((μ.map (M.sub n e)).set n .dead)[i]? = some k := h2
      rw [List.getElem?_set_ne (Ne.symm hi), List.getElem?_map] at h2'
      cases hmi : μ[i]? with
      | none => rw [hmi] at h2'; cases h2'
      | some m2 =>
        rw [hmi] at h2'
        have h4 : M.sub n e m2 = k := Option.some.inj h2'
        subst h4
        have h5 : m2 ≠ M.dead := fun z => by subst z; exact h3 rfl
        obtain ⟨a, c2⟩ := ok.cell i q m2 h1 hmi h5
        have hq : q ≠ p := fun z => by
          subst z
          rcases ok.inj i n q h1 hp hi with y | y
          · rw [y] at hmi; exact h5 (Option.some.inj hmi).symm
          · rw [y] at hm; exact alive (Option.some.inj hm).symm
        exact ⟨by show upd w.F p o q = none; rw [upd_ne hq]; exact a, COk.sub ex hp her c2⟩
  · have key : ∀ (i : Nat), μ[i]? = some M.dead → ((μ.map (M.sub n e)).set n .dead)[i]? = some M.dead := fun i z => by
      by_cases hi : i = n
      · subst hi; rw [List.getElem?_set_self (by rw [List.length_map, ← ok.len]; exact hn)]
      · rw [List.getElem?_set_ne (Ne.symm hi), List.getElem?_map, z]; rfl
    rcases ok.inj i j q h1 h2 h3 with z | z
    · exact .inl (key i z)
    · exact .inr (key j z)
/-- the end of a def (or of a making): as it is; own cells let go; a cell taken as a value -/
inductive Rt (k : Nat) (P : D → Mem → Prop) : D → Mem → Prop
  | here {d : D} {μ : Mem} : P d μ → Rt k P d μ
  | cut {d : D} {μ : Mem} : D.lo k d → Mem.lo k (μ.take k) → P d (μ.take k) → Rt k P d μ
  | frz {d : D} {μ : Mem} (n : Nat) (m : M) (e : D) : μ[n]? = some m → m.val = some e → Rt k P (D.sub n e d) ((μ.map (M.sub n e)).set n .dead) → Rt k P d μ
theorem Rt.run {k : Nat} {P : D → Mem → Prop} {d : D} {μ : Mem} (h : Rt k P d μ) : ∀ {w0 w : Wd} {v : V}, Le w0 w → Ok K w μ → Rep K w.α w.F v d → w0.α.length ≤ k → ∃ (d' : D) (μ' : Mem) (w' : Wd), P d' μ' ∧ w'.H = w.H ∧ Le w0 w' ∧ Ok K w' μ' ∧ Rep K w'.α w'.F v d' := by
  induction h with
  | here p => intro w0 w v l ok r _; exact ⟨_, _, w, p, rfl, l, ok, r⟩
  | cut b1 b2 p => intro w0 w v l ok r hk; exact ⟨_, _, ⟨w.α.take k, w.F, w.H⟩, p, rfl, l.cut hk, ok.cut b2, r.cut b1⟩
  | frz n m e hm he _ ih =>
    intro w0 w v l ok r hk
    obtain ⟨p, F', hp, ex, her, ok2, l2⟩ := ok.freeze hm he
    obtain ⟨d', μ', w', a, b, c, d, e⟩ := ih (w0 := w0) (w := ⟨w.α, F', w.H⟩) (v := v) (l.trans l2) ok2 (.sub ex hp her r) hk
    exact ⟨d', μ', w', a, b, c, d, e⟩
inductive Xt (k : Nat) (XP : Exn → Mem → Prop) : Exn → Mem → Prop
  | here {x : Exn} {μ : Mem} : XP x μ → Xt k XP x μ
  | cut {x : Exn} {μ : Mem} : D.loF k x.fs → Mem.lo k (μ.take k) → XP x (μ.take k) → Xt k XP x μ
  | frz {x : Exn} {μ : Mem} (n : Nat) (m : M) (e : D) : μ[n]? = some m → m.val = some e → Xt k XP ⟨x.C, D.subF n e x.fs⟩ ((μ.map (M.sub n e)).set n .dead) → Xt k XP x μ
theorem Xt.run {k : Nat} {XP : Exn → Mem → Prop} {x : Exn} {μ : Mem} (h : Xt k XP x μ) : ∀ {w0 w : Wd} {fvs : List (Str × V)}, Le w0 w → Ok K w μ → RepF K w.α w.F fvs x.fs → w0.α.length ≤ k →
    ∃ (x' : Exn) (μ' : Mem) (w' : Wd), XP x' μ' ∧ x'.C = x.C ∧ w'.H = w.H ∧ Ex w.F w'.F ∧ Le w0 w' ∧ Ok K w' μ' ∧ RepF K w'.α w'.F fvs x'.fs := by
  induction h with
  | here p => intro w0 w v l ok r _; exact ⟨_, _, w, p, rfl, rfl, Ex.refl _, l, ok, r⟩
  | cut b1 b2 p => intro w0 w v l ok r hk; exact ⟨_, _, ⟨w.α.take k, w.F, w.H⟩, p, rfl, rfl, Ex.refl _, l.cut hk, ok.cut b2, r.cut b1⟩
  | frz n m e hm he _ ih =>
    intro w0 w v l ok r hk
    obtain ⟨p, F', hp, ex, her, ok2, l2⟩ := ok.freeze hm he
    obtain ⟨d', μ', w', a, b0, b, b1, c, d, e⟩ := ih (w0 := w0) (w := ⟨w.α, F', w.H⟩) (fvs := v) (l.trans l2) ok2 (.sub ex hp her r) hk
    exact ⟨d', μ', w', a, b0, b, ex.trans b1, c, d, e⟩

/-! ### a def -/
def fnW (n m : Nat) (b : WS) : FS := fun ds μ P XP => ds.length = m ∧ b (startD n ds) μ ⟨fun _ μ' => Rt μ.length P .non μ', Rt μ.length P, fun _ _ => False, fun _ _ => False, fun x _ μ' => Xt μ.length XP x μ'⟩
theorem body_run {n : Nat} {N : List Str} {m : Nat} {ts : TS} {b : WS} {vs : List V} {H : Hp} {Q : VK} {E : XK} (hb : LS K (fun cls d _ H => E cls d H) ts b) (hN : N.length = n) (h : spOf K (fnW n m b) vs H Q E) : ts { nx := fun _ H' => Q .non H', rt := Q } (L2.start N vs) H := by
  obtain ⟨wd, μ, ds, P, XP, rfl, ok, rs, ⟨hm, hw⟩, vl, xf⟩ := h
  have hk : wd.α.length ≤ μ.length := Nat.le_of_eq ok.len
  have env : EnvOk K wd.α wd.F (L2.start N vs) (startD n ds) := by
    have e := EnvOk.start (N := N) rs (N.length - vs.length)
    unfold L2.start startD
    rw [← hN, ← rs.length]
    exact e
  refine hb wd (L2.start N vs) (startD n ds) μ _ ok env hw _ (fun s d μ' w' p l o e => ?_) (fun v d μ' w' p l o r => ?_) (fun s d μ' w' p l o e => p.elim) (fun s d μ' w' p l o e => p.elim) (fun x δ μ' w' σ dx fvs p l o e h1 h2 r => ?_)
  · obtain ⟨d', μ2, w2, a, b, c, d2, e2⟩ := Rt.run p l o (.non : Rep K w'.α w'.F .non .non) hk
    have := vl .non d' μ2 w2 a c d2 e2
    rw [b] at this
    exact this
  · obtain ⟨d', μ2, w2, a, b, c, d2, e2⟩ := Rt.run p l o r hk
    have := vl v d' μ2 w2 a c d2 e2
    rw [b] at this
    exact this
  · obtain ⟨x', μ2, w2, a, b0, b, b1, c, d2, e2⟩ := Xt.run p l o r hk
    have := xf x' μ2 w2 dx fvs a c d2 (by rw [b]; exact h1) (b1 _ _ h2) e2
    rw [b, b0] at this
    exact this
/-- a def of the written part, any defaults -/
structure Fn (K : PySem.W.Frag) (x qual : Str) (st : Stmt) (f : Addr) (fd : FuncData) : Prop where
  ex : ∃ (oc : Value) (od : Option Addr) (dV kV doc pm : Value) (an : Option Addr) (cdv ct : Value) (osl : Array (Option Value)),
    fd = PySem.W.fnOf x qual (defArgs st) (defBody st) (defScope st) dV kV doc pm an cdv ct ∧ K.lookup f = some ⟨oc, od, .func fd, osl⟩ ∧ PySem.W.codeIn K cdv qual = true
  kp : PySem.W.keepIn K (.ref f) = true
theorem fn_ok {P : Program} {w : World} {mg : Str → Option Value} {base : Heap} {x qual : Str} {st : Stmt} {f : Addr} {fd : FuncData} {N ps : List Str} {k n m : Nat} {b : WS} (F : Fn K x qual st f fd) (S : FnScope N ps (defScope st))
    (hb : ∀ (cdv : Value) (A : Around) (outer : List Env) (s : Shared) (H : Hp) (E : XK), Room k (A.deeper (envOfC qual (defScope st) s.heap.objs.size f cdv)) →
      L2N.Takes (cxOf (L2N.CX P w) P w K mg base N qual (defScope st) f cdv A outer s H E) (fun cls d _ H => E cls d H) →
      ∃ t, PSs (cxOf (L2N.CX P w) P w K mg base N qual (defScope st) f cdv A outer s H E) (defBody st) t ∧ LS K (fun cls d _ H => E cls d H) t b)
    (hN : N.length = n := by rfl) (hm : ps.length = m := by rfl) : FnOk P w K mg base (L2N.CX P w) (k + 1) f fd ps (spOf K (fnW n m b)) := by
  obtain ⟨oc, od, dV, kV, doc, pm, an, cdv, ct, osl, rfl, lk, hcd⟩ := F.ex
  refine fn_of lk hcd S (fun vs H Q E h => by
    obtain ⟨wd, μ, ds, P, XP, rfl, ok, rs, ⟨hl, _⟩, _, _⟩ := h
    rw [rs.length, hl, hm]) fun A outer s H vs Q E hr h => ?_
  obtain ⟨t, h1, h2⟩ := hb cdv A outer s H E hr (L2N.takes_of rfl rfl rfl rfl)
  exact ⟨t, h1, body_run h2 hN h⟩
/-- the same, called where an exception is handled -/
theorem fn_okH {P : Program} {w : World} {mg : Str → Option Value} {base : Heap} {x qual : Str} {st : Stmt} {f : Addr} {fd : FuncData} {N ps : List Str} {k n m : Nat} {b : WS} (F : Fn K x qual st f fd) (S : FnScope N ps (defScope st))
    (hb : ∀ (cdv : Value) (A : Around) (outer : List Env) (s : Shared) (H : Hp) (E : XK) (p : Addr × Obj), L2H.RoomH k (A.deeper (envOfC qual (defScope st) s.heap.objs.size f cdv)) →
      L2H.HotC (L2H.cxH (L2N.CX P w) P w K mg base N qual (defScope st) f cdv A outer s H E p) →
      L2N.Takes (L2H.cxH (L2N.CX P w) P w K mg base N qual (defScope st) f cdv A outer s H E p) (fun cls d _ H => E cls d H) →
      ∃ t, PSs (L2H.cxH (L2N.CX P w) P w K mg base N qual (defScope st) f cdv A outer s H E p) (defBody st) t ∧ LS K (fun cls d _ H => E cls d H) t b)
    (hN : N.length = n := by rfl) (hm : ps.length = m := by rfl) : L2H.FnH P w K mg base (L2N.CX P w) (k + 1) f fd ps (spOf K (fnW n m b)) := by
  obtain ⟨oc, od, dV, kV, doc, pm, an, cdv, ct, osl, rfl, lk, hcd⟩ := F.ex
  refine L2H.fn_ofH lk hcd S (fun vs H Q E h => by
    obtain ⟨wd, μ, ds, P, XP, rfl, ok, rs, ⟨hl, _⟩, _, _⟩ := h
    rw [rs.length, hl, hm]) fun A outer s H vs Q E p hot hr h => ?_
  obtain ⟨t, h1, h2⟩ := hb cdv A outer s H E p hr ⟨p, hot, List.mem_cons_self⟩ (L2N.takes_of rfl rfl rfl rfl)
  exact ⟨t, h1, body_run h2 hN h⟩
/-- a promise that is asked less of -/
theorem fn_imp {P : Program} {w : World} {mg : Str → Option Value} {base : Heap} {CX : CXT} {k : Nat} {f : Addr} {fd : FuncData} {ps : List Str} {S S' : FS} (F : FnOk P w K mg base CX k f fd ps (spOf K S)) (h : ∀ ds μ P XP, S' ds μ P XP → S ds μ P XP) :
    FnOk P w K mg base CX k f fd ps (spOf K S') := F.imp fun vs H Q E ⟨wd, μ, ds, P, XP, a, b, c, d, e, g⟩ => ⟨wd, μ, ds, P, XP, a, b, c, h _ _ _ _ d, e, g⟩

/-! ### a call -/
def tCallD (sp : Sp) (dvs : List V) (E : L2.St → XK) (t : TA) : TE := fun σ H Q => t σ H fun vs H1 => sp (vs ++ dvs) H1 Q (E σ)
def wCall (S : FS) (dds : List D) (a : WA) : WE := fun δ μ P XP => a δ μ (fun ds μ1 => S (ds ++ dds) μ1 P (fun x μ2 => XP x δ μ2)) XP
def RepC (K : PySem.W.Frag) (vs : List V) (ds : List D) : Prop := ∀ α F, Reps K α F vs ds
theorem repc_nil : RepC K [] [] := fun _ _ => .nil
theorem le_call {n : Nat} {S : FS} {dvs : List V} {dds : List D} {ta : TA} {a : WA} (hd : RepC K dvs dds) (ha : LA K W n ta a) : LE K W (tCallD (spOf K S) dvs (L2.WE W) ta) (wCall S dds a) := fun wd σ δ μ P XP ok env h Q q x =>
  ha wd σ δ μ _ XP ok env h _ (fun vs ds μ1 w1 h1 l1 ok1 r1 _ => ⟨w1, μ1, ds ++ dds, P, _, rfl, ok1, r1.app (hd _ _), h1, q.le l1, fun y μ2 w2 dx fvs a b c d e g => x y δ μ2 w2 σ dx fvs a (l1.trans b) c (env.le (l1.trans b)) d e g⟩) x
section
variable {X : Cx} {CX : CXT} {k : Nat} {f C : Addr} {fd : FuncData} {ps : List Str} {sp : Sp} {dvs : List V} {ds : List Value} {E : L2.St → XK} {x m : Str} {p pos apos : Pos} {e o : Expr} {es : List Expr} {ta : TE} {t : TA}
theorem run_fnD {pins : List (Addr × Obj)} {σ : L2.St} {H : Hp} {s : Shared} {Q : VK} {us : List Value} {vs : List V} (F : FnOk X.prog X.w X.K X.mg X.base CX k f fd ps sp) (hr : Room k X.A) (hb : Binds X.K fd ps ds) (hd : Vals dvs ds) (hx : PassesAt CX X σ (E σ))
    (I : Inv X pins σ H s) (r : Vals vs us) (h : sp (vs ++ dvs) H Q (E σ)) : wpAny (model X.prog X.w) X.A (call (.ref f) us) (EP X pins σ Q) X.xe s := by
  have r2 : Vals (vs ++ dvs) (us ++ ds) := r.append hd
  have hl : (us ++ ds).length = ps.length := by rw [← r2.length]; exact F.len _ _ _ _ h
  refine wpAny_call (codeAny_mono (F.run X.A X.stack s H ⟨us, []⟩ (us ++ ds) (vs ++ dvs) Q (E σ) hr I.env0 (hb s us I.kIn hl) r2 h) fun r s' hq => ?_)
  cases r with
  | error e => exact hx pins H s e s' I hq
  | ok fl =>
    cases fl with
    | ret u => exact I.after hq
    | next => exact False.elim hq
    | brk => exact False.elim hq
    | cont => exact False.elim hq
theorem pe_callD (F : FnOk X.prog X.w X.K X.mg X.base CX k f fd ps sp) (hr : Room k X.A) (hg : Gl X x) (hm : X.mg x = some (.ref f)) (hk : PySem.W.keepIn X.K (.ref f) = true) (hb : Binds X.K fd ps ds) (hd : Vals dvs ds) (hx : ∀ σ, PassesAt CX X σ (E σ))
    (ha : PA X (e :: es) t) (hdb : (x == ("__debug__" : Str)) = false := by decide) (he : starEach (e :: es) X.env = (false, eval e X.env) :: starEach es X.env := by rfl) (hpl : (backTo pos (starEach es X.env)).any (·.1) = false := by rfl) :
    PE X (.Call (.Name x p) (e :: es) [] pos) (tCallD sp dvs E t) := by
  refine ⟨fun pins s σ H Q I h => ?_⟩
  refine wpAny_Call_Name_kw (ld_glob I hg hm ?_ hdb)
  refine PySem.W.callWith_K (h₀ := X.base) I.ok.mod.kin hk (thn (ha.run pos pins s σ H _ I h) fun us s1 ⟨vs, H1, I1, r, q⟩ => ⟨I1.kIn, ?_⟩) he hpl
  exact run_fnD F hr hb hd (hx σ) I1 r q
/-- C(..) -/
def tMakeD (C : Addr) (sp : Sp) (dvs : List V) (E : L2.St → XK) (t : TA) : TE := fun σ H Q => t σ H fun vs H1 => ∀ x dx, H1 x = none → H1 dx = none → dx ≠ x →
  sp (.ref x :: (vs ++ dvs)) (upd (upd H1 dx (.own x)) x (.ins C dx [])) (fun v H2 => v = .non ∧ Q (.ref x) H2) (E σ)
theorem run_makeD {pins : List (Addr × Obj)} {σ : L2.St} {H : Hp} {s : Shared} {Q : VK} {us : List Value} {vs : List V} (M : Mk X.K C f) (F : FnOk X.prog X.w X.K X.mg X.base CX k f fd ps sp) (hr : Room (k + 1) X.A) (hb : Binds X.K fd ps ds) (hd : Vals dvs ds)
    (hx : ∀ (H : Hp) (s s' : Shared) (e : Value), Inv X pins σ H s → CX X.stack H s (E σ) e s' → X.xe e s') (I : Inv X pins σ H s) (r : Vals vs us)
    (h : ∀ x dx, H x = none → H dx = none → dx ≠ x → sp (.ref x :: (vs ++ dvs)) (upd (upd H dx (.own x)) x (.ins C dx [])) (fun v H2 => v = .non ∧ Q (.ref x) H2) (E σ)) :
    wpAny (model X.prog X.w) X.A (call (.ref C) us) (EP X pins σ Q) X.xe s := by
  have hq := h (s.heap.objs.size + 1) s.heap.objs.size (I.hok.fresh (Nat.le_succ _)) (I.hok.fresh (Nat.le_refl _)) (Nat.ne_of_lt (Nat.lt_succ_self _))
  have I2 := Inv.made (C := C) I
  have r2 : Vals (V.ref (s.heap.objs.size + 1) :: (vs ++ dvs)) (Value.ref (s.heap.objs.size + 1) :: (us ++ ds)) := .cons rfl (r.append hd)
  have hl : (Value.ref (s.heap.objs.size + 1) :: us ++ ds).length = ps.length := by
    have e := r2.length
    rw [F.len _ _ _ _ hq] at e
    exact e.symm
  refine wpAny_call (make_map (f := f) I.kIn M.makes M.init (beq_iff_eq.mp M.fn) (codeAny_mono (F.run _ X.stack _ _ ⟨Value.ref (s.heap.objs.size + 1) :: us, []⟩ (Value.ref (s.heap.objs.size + 1) :: (us ++ ds)) _ _ (E σ) (hr.make C us [])
    (I2.env0.make C us []) (hb _ (Value.ref (s.heap.objs.size + 1) :: us) I2.kIn hl) r2 hq) fun r s' hq' => ?_))
  cases r with
  | error e => exact hx _ _ s' e I2 hq'
  | ok fl =>
    cases fl with
    | ret u =>
      obtain ⟨v, H', I3, rv, ev, q3⟩ := I2.after hq'
      subst ev
      exact ⟨rv, ⟨V.ref (s.heap.objs.size + 1), H', I3, rfl, q3⟩⟩
    | next => exact False.elim hq'
    | brk => exact False.elim hq'
    | cont => exact False.elim hq'
theorem pe_makeD (M : Mk X.K C f) (F : FnOk X.prog X.w X.K X.mg X.base CX k f fd ps sp) (hr : Room (k + 1) X.A) (hg : Gl X x) (hm : X.mg x = some (.ref C)) (hb : Binds X.K fd ps ds) (hd : Vals dvs ds) (hx : ∀ σ, PassesAt CX X σ (E σ))
    (ha : PA X (e :: es) t) (hdb : (x == ("__debug__" : Str)) = false := by decide) (he : starEach (e :: es) X.env = (false, eval e X.env) :: starEach es X.env := by rfl) (hpl : (backTo pos (starEach es X.env)).any (·.1) = false := by rfl) :
    PE X (.Call (.Name x p) (e :: es) [] pos) (tMakeD C sp dvs E t) := by
  refine ⟨fun pins s σ H Q I h => ?_⟩
  refine wpAny_Call_Name_kw (ld_glob I hg hm ?_ hdb)
  refine PySem.W.callWith_K (h₀ := X.base) I.ok.mod.kin M.kp (thn (ha.run pos pins s σ H _ I h) fun us s1 ⟨vs, H1, I1, r, q⟩ => ⟨I1.kIn, ?_⟩) he hpl
  exact run_makeD M F hr hb hd (fun H s s' e I c => hx σ pins H s e s' I c) I1 r q
end
def wMake (C : Addr) (S : FS) (dds : List D) (a : WA) : WE := fun δ μ P XP => a δ μ (fun ds μ1 => S (.cell μ1.length :: (ds ++ dds)) (μ1 ++ [.ins C []]) (fun d μ2 => d = .non ∧ Rt μ1.length P (.cell μ1.length) μ2)
  (fun x μ2 => Xt μ1.length (fun x μ => XP x δ μ) x μ2)) XP
theorem le_make {n : Nat} {S : FS} {C : Addr} {dvs : List V} {dds : List D} {ta : TA} {a : WA} (hd : RepC K dvs dds) (ha : LA K W n ta a) : LE K W (tMakeD C (spOf K S) dvs (L2.WE W) ta) (wMake C S dds a) := fun wd σ δ μ P XP ok env h Q q x =>
  ha wd σ δ μ _ XP ok env h _ (fun vs ds μ1 w1 h1 l1 ok1 r1 _ y dy ny ndy hne => by
    obtain ⟨ok2, l2⟩ := ok1.frozen ndy (.own y)
    have ny2 : (upd w1.H dy (.own y)) y = none := by rw [upd_ne (Ne.symm hne)]; exact ny
    obtain ⟨ok3, l3⟩ := ok2.newcell (m := .ins C []) (p := y) ny2 (o := .ins C dy []) ⟨dy, [], upd_same, .nil⟩
    have L : Le w1 _ := l2.trans l3
    have hk : w1.α.length ≤ μ1.length := Nat.le_of_eq ok1.len
    refine ⟨_, _, _, _, _, rfl, ok3, .cons (.cell (Wd.last ok1 y)) ((r1.mono L.pre L.ex).app (hd _ _)), h1, fun v d μ2 w2 p l o r => ?_, fun z μ2 w2 dx fvs p l o e1 e2 r => ?_⟩
    · obtain ⟨rfl, p⟩ := p
      cases r
      refine ⟨rfl, ?_⟩
      have L2 : Le w1 w2 := L.trans l
      obtain ⟨d', μ3, w3, a, b, c, o3, e3⟩ := Rt.run p L2 o (.cell (l.pre _ _ (Wd.last ok1 y)) : Rep K w2.α w2.F (.ref y) (.cell μ1.length)) hk
      have := q (.ref y) d' μ3 w3 a (l1.trans c) o3 e3
      rw [b] at this
      exact this
    · have L2 : Le w1 w2 := L.trans l
      obtain ⟨x', μ3, w3, a, b0, b, b1, c, o3, e3⟩ := Xt.run p L2 o r hk
      have := x x' δ μ3 w3 σ dx fvs a (l1.trans c) o3 (env.le (l1.trans c)) (by rw [b]; exact e1) (b1 _ _ e2) e3
      rw [b, b0] at this
      exact this) x

/-! ### fields -/
def insOf (μ : Mem) : D → Option (Addr × List (Str × D))
  | .obj C fs => some (C, fs)
  | .cell n => match μ[n]? with | some (.ins C fs) => some (C, fs) | _ => none
  | _ => none
theorem rep_ins {w : Wd} {μ : Mem} (ok : Ok K w μ) {v : V} {d : D} (r : Rep K w.α w.F v d) {C : Addr} {fs : List (Str × D)} (h : insOf μ d = some (C, fs)) : ∃ a dx fvs, v = .ref a ∧ w.H a = some (.ins C dx fvs) ∧ RepF K w.α w.F fvs fs := by
  cases d with
  | obj C' fs' =>
    cases h
    cases r with
    | obj e q => exact ⟨_, _, _, rfl, ok.ex _ _ e, q⟩
  | cell n =>
    have h' : (match μ[n]? with | some (.ins C fs) => some (C, fs) | _ => none) = some (C, fs) := h
    cases e1 : μ[n]? with
    | none => rw [e1] at h'; cases h'
    | some m =>
      rw [e1] at h'
      cases m with
      | ins C2 fs2 =>
        cases h'
        cases r with
        | cell hp =>
          obtain ⟨_, dx, fvs, a, b⟩ := ok.cell _ _ _ hp e1 (fun z => by cases z)
          exact ⟨_, dx, fvs, rfl, a, b⟩
      | _ => cases h'
  | _ => cases h
def wFld (fld : Addr → Str → Prop) (a : WE) (f : Str) : WE := fun δ μ P XP => a δ μ (fun x μ1 => match insOf μ1 x with | some (C, fs) => fld C f ∧ (match fs.lookup f with | some d => P d μ1 | none => False) | none => False) XP
theorem le_fld {fld : Addr → Str → Prop} {ta : TE} {a : WE} {f : Str} (hc : ∀ C, fld C f → Cls K C ∧ NoAttr K C f) (ha : LE K W ta a) : LE K W (tFld K ta f) (wFld fld a f) := fun wd σ δ μ P XP ok env h Q q x =>
  ha wd σ δ μ _ XP ok env h _ (fun v d μ1 w1 h1 l1 ok1 r1 => by
    cases e : insOf μ1 d with
    | none => simp only [e] at h1
    | some p =>
      obtain ⟨C, fs⟩ := p
      simp only [e] at h1
      obtain ⟨hf, h1⟩ := h1
      obtain ⟨a, dx, fvs, rfl, hi, rf⟩ := rep_ins ok1 r1 e
      cases e2 : fs.lookup f with
      | none => simp only [e2] at h1
      | some d2 =>
        simp only [e2] at h1
        obtain ⟨v2, lv, rv⟩ := rf.look e2
        exact ⟨a, C, dx, fvs, v2, rfl, hi, (hc C hf).1, (hc C hf).2, lv, q v2 d2 μ1 w1 h1 l1 ok1 rv⟩) x

/-! ### comprehensions -/
def wipeD (δ : En) : List Nat → En
  | [] => δ
  | v :: vs => (wipeD δ vs).set v none
theorem EnvOk.wipe {w : Wd} {σ : L2.St} {δ : En} (e : EnvOk K w.α w.F σ δ) : ∀ vs : List Nat, EnvOk K w.α w.F (L2.wipe σ vs) (wipeD δ vs)
  | [] => e
  | v :: vs => by unfold L2.wipe wipeD; exact (e.wipe vs).unset v none
end PL
/-! PLd: comprehensions, what is walked, operators, subscripts, built-in calls. -/
namespace PL
open PySem L2 PySem.Spec PyProof.Rows
variable {K : PySem.W.Frag} {W : WX}
/-! ### comprehensions: no exception leaves them -/
def W0 : WX := fun _ _ _ _ => False
def QX0 : QX := fun _ _ _ => False
theorem xl0 (wd : Wd) : XL K W QX0 wd := fun x δ μ w' σ dx fvs h => h.elim
def lcL (chk : Mem → Prop) (vs : List Nat) (g : WG) (t : WT) (e : WE) : List D → List D → En → Mem → (List D → Mem → Prop) → Prop
  | [], acc, _, μ, P => P acc μ
  | x :: xs, acc, δ, μ, P => g x (wipeD δ vs) μ (fun δ1 μ1 => t δ1 μ1 (fun b μ2 => if b = true then e δ1 μ2 (fun d μ3 => chk μ3 ∧ lcL chk vs g t e xs (acc ++ [d]) δ μ3 P) QX0 else chk μ2 ∧ lcL chk vs g t e xs acc δ μ2 P) QX0)
def wLc (wi : WI) (g : WG) (t : WT) (e : WE) (vs : List Nat) : WE := fun δ μ P XP => wi δ μ (fun items chk μ1 => items.length ≤ sizeLine ∧ lcL chk vs g t e items [] δ μ1 (fun acc μ2 => P (.cell μ2.length) (μ2 ++ [M.lst acc]))) XP
/-- the target sets own slots alone -/
def OwnG (g : TG) (vs : List Nat) : Prop := ∀ v σ H Q, g v σ H Q → g v σ H (fun σ' H' => L2.wipe σ' vs = L2.wipe σ vs ∧ Q σ' H')
theorem wipe_set {i : Nat} {o : Option V} : ∀ {vs : List Nat} {σ : L2.St}, i ∈ vs → L2.wipe (σ.set i o) vs = L2.wipe σ vs
  | [], _, h => by simp at h
  | v :: vs, σ, h => by
    show (L2.wipe (σ.set i o) vs).set v none = (L2.wipe σ vs).set v none
    by_cases hv : i = v
    · subst hv
      have key : ∀ (us : List Nat) (τ : L2.St), (L2.wipe (τ.set i o) us).set i none = (L2.wipe τ us).set i none := by
        intro us
        induction us with
        | nil => intro τ; exact List.set_set ..
        | cons u us ih =>
          intro τ
          show ((L2.wipe (τ.set i o) us).set u none).set i none = ((L2.wipe τ us).set u none).set i none
          by_cases hu : u = i
          · subst hu; rw [List.set_set, List.set_set]; exact ih τ
          · rw [List.set_comm _ _ hu, List.set_comm _ _ hu, ih τ]
      exact key vs σ
    · rw [wipe_set (List.mem_of_ne_of_mem hv h)]
theorem wipe_wipe : ∀ (vs : List Nat) (σ : L2.St), L2.wipe (L2.wipe σ vs) vs = L2.wipe σ vs := by
  intro vs
  induction vs with
  | nil => intro σ; rfl
  | cons v vs ih =>
    intro σ
    show (L2.wipe ((L2.wipe σ vs).set v none) vs).set v none = (L2.wipe σ vs).set v none
    have key : ∀ (us : List Nat) (τ : L2.St), (L2.wipe (τ.set v none) us).set v none = (L2.wipe τ us).set v none := by
      intro us
      induction us with
      | nil => intro τ; exact List.set_set ..
      | cons u us ih =>
        intro τ
        show ((L2.wipe (τ.set v none) us).set u none).set v none = ((L2.wipe τ us).set u none).set v none
        by_cases hu : u = v
        · subst hu; rw [List.set_set, List.set_set]; exact ih τ
        · rw [List.set_comm _ _ hu, List.set_comm _ _ hu, ih τ]
    rw [key, ih]
theorem own_name {i : Nat} {vs : List Nat} (h : i ∈ vs) : OwnG (gName i) vs := fun v σ H Q q => ⟨wipe_set h, q⟩
def OwnGs (g : TGs) (vs : List Nat) : Prop := ∀ ws σ H Q, g ws σ H Q → g ws σ H (fun σ' H' => L2.wipe σ' vs = L2.wipe σ vs ∧ Q σ' H')
theorem own_nil {vs : List Nat} : OwnGs gNil vs := fun ws σ H Q ⟨e, q⟩ => ⟨e, rfl, q⟩
theorem own_consN {i : Nat} {u : TGs} {vs : List Nat} (h : i ∈ vs) (hu : OwnGs u vs) : OwnGs (gCons (gName i) u) vs := fun ws σ H Q ⟨v, r, e, q⟩ => by
  refine ⟨v, r, e, ?_⟩
  show u r (σ.set i (some v)) H _
  have := hu r _ H Q q
  rw [wipe_set h] at this
  exact this
theorem own_consT {n : Nat} {a u : TGs} {vs : List Nat} (mono : ∀ ws σ H (Q Q' : L2.St → Hp → Prop), (∀ s h, Q s h → Q' s h) → a ws σ H Q → a ws σ H Q') (ha : OwnGs a vs) (hu : OwnGs u vs) : OwnGs (gCons (gTup K n a) u) vs := fun ws σ H Q ⟨v, r, e, q⟩ => by
  refine ⟨v, r, e, ?_⟩
  obtain ⟨p, xs, e1, h1, h2, q⟩ := q
  refine ⟨p, xs, e1, h1, h2, ?_⟩
  refine mono _ _ _ _ _ (fun s h z => ?_) (ha xs σ H _ q)
  have := hu r s h Q z.2
  rw [z.1] at this
  exact this
theorem own_tup {n : Nat} {u : TGs} {vs : List Nat} (hu : OwnGs u vs) : OwnG (gTup K n u) vs := fun v σ H Q ⟨p, xs, e1, h1, h2, q⟩ => ⟨p, xs, e1, h1, h2, hu xs σ H Q q⟩
theorem mono_nil (ws : List V) (σ : L2.St) (H : Hp) (Q Q' : L2.St → Hp → Prop) (h : ∀ s x, Q s x → Q' s x) (q : gNil ws σ H Q) : gNil ws σ H Q' := ⟨q.1, h _ _ q.2⟩
theorem mono_consN {i : Nat} {u : TGs} (mu : ∀ ws σ H (Q Q' : L2.St → Hp → Prop), (∀ s h, Q s h → Q' s h) → u ws σ H Q → u ws σ H Q') (ws : List V) (σ : L2.St) (H : Hp) (Q Q' : L2.St → Hp → Prop) (h : ∀ s x, Q s x → Q' s x) (q : gCons (gName i) u ws σ H Q) : gCons (gName i) u ws σ H Q' := by
  obtain ⟨v, r, e, q⟩ := q
  exact ⟨v, r, e, mu _ _ _ _ _ h q⟩
theorem le_lc {ti : TI} {g : TG} {tt : TT} {te : TE} {wi : WI} {wg : WG} {t : WT} {e : WE} {vs : List Nat} (hi : LI K W ti wi) (hg : LG K g wg) (ho : OwnG g vs) (ht : LT K W0 tt t) (he : LE K W0 te e) : LE K W (tLc ti g tt te vs) (wLc wi wg t e vs) := fun wd σ δ μ P XP ok env h Q q x =>
  hi wd σ δ μ _ XP ok env h _ (fun J items chk μ1 w1 h1 l1 ok1 c1 wk L hL => by
    obtain ⟨hz, h1⟩ := h1
    have hF1 : w1.F L = none := by
      cases z : w1.F L with
      | none => rfl
      | some u => rw [ok1.ex L u z] at hL; cases hL
    have hA1 : L ∉ w1.α := fun z => ok1.tr L z hL
    have okL : Ok K ⟨w1.α, w1.F, upd w1.H L (.lst [])⟩ μ1 := ok1.aside hA1 hF1
    refine ⟨fun i m H => m = items.length - i ∧ i ≤ items.length ∧ ∃ (w : Wd) (μ' : Mem) (us : List V) (acc : List D), H = w.H ∧ Aside w L (.lst us) ∧ Le w1 w ∧ Ok K w μ' ∧ chk μ' ∧
        Reps K w.α w.F us acc ∧ acc.length ≤ i ∧ lcL chk vs wg t e (items.drop i) acc δ μ' (fun acc μ2 => P (.cell μ2.length) (μ2 ++ [M.lst acc])),
      ⟨_, rfl, Nat.zero_le _, ⟨w1.α, w1.F, upd w1.H L (.lst [])⟩, μ1, [], [], rfl, ⟨upd_same, hA1, hF1⟩, (Le.refl w1).aside hL, okL, c1, .nil, Nat.le_refl _, h1⟩, ?_⟩
    rintro i m H ⟨rfl, hi', w, μ', us, acc, rfl, as, l, okw, cw, ra, la, hl⟩
    have envw : EnvOk K w.α w.F σ δ := (env.le l1).le l
    obtain ⟨st, gt⟩ := wk w μ' l okw cw i
    by_cases hlt : i < items.length
    · right
      obtain ⟨go, y⟩ := gt items[i] (List.getElem?_eq_getElem hlt)
      rw [List.drop_eq_getElem_cons hlt] at hl
      refine ⟨go, fun H' => i + 1 ≤ items.length ∧ ∃ (w : Wd) (μ' : Mem) (us : List V) (acc : List D), H' = w.H ∧ Aside w L (.lst us) ∧ Le w1 w ∧ Ok K w μ' ∧ chk μ' ∧
        Reps K w.α w.F us acc ∧ acc.length ≤ i + 1 ∧ lcL chk vs wg t e (items.drop (i + 1)) acc δ μ' (fun acc μ2 => P (.cell μ2.length) (μ2 ++ [M.lst acc])), fun H' z => ⟨items.length - (i + 1), by omega, rfl, z⟩, fun v H' yv => ?_⟩
      obtain ⟨w2, rfl, l2, ok2, r2⟩ := y v H' yv
      have ho' : ∀ Q, g v (L2.wipe σ vs) w2.H Q → g v (L2.wipe σ vs) w2.H (fun σ' H' => L2.wipe σ' vs = L2.wipe σ vs ∧ Q σ' H') := fun Q z => by
        have := ho v _ _ _ z
        rw [wipe_wipe] at this
        exact this
      refine ho' _ (hg w2 (L2.wipe σ vs) (wipeD δ vs) μ' v _ _ ok2 ((envw.le l2).wipe vs) r2 hl _ fun s3 δ3 μ3 w3 h3 l3 ok3 env3 => ?_)
      refine ht w3 s3 δ3 μ3 _ QX0 ok3 env3 h3 _ (fun b μ4 w4 h4 l4 ok4 => ?_) (xl0 _)
      have L4 : Le w w4 := (l2.trans l3).trans l4
      cases b with
      | true =>
        refine he w4 s3 δ3 μ4 _ QX0 ok4 (env3.le l4) h4 _ (fun u d μ5 w5 h5 l5 ok5 r5 => ?_) (xl0 _)
        have as5 := (as.le L4).le l5
        have ra5 := ra.mono (L4.trans l5).pre (L4.trans l5).ex
        refine ⟨us, as5.h, ?_, hlt, ⟨w5.α, w5.F, upd w5.H L (.lst (us ++ [u]))⟩, μ5, us ++ [u], acc ++ [d], rfl, ⟨upd_same, as5.c, as5.f⟩, ((l.trans L4).trans l5).aside hL, ok5.aside as5.c as5.f, h5.1, ra5.app (.cons r5 .nil), ?_, h5.2⟩
        · rw [ra.length]; omega
        · rw [List.length_append, List.length_singleton]; omega
      | false =>
        exact ⟨hlt, w4, μ4, us, acc, rfl, as.le L4, l.trans L4, ok4, h4.1, ra.mono L4.pre L4.ex, by omega, h4.2⟩
    · left
      have e0 : i = items.length := by omega
      rw [e0, List.drop_length] at hl
      refine ⟨st e0, ?_⟩
      have okA := okw.adopt (m := .lst acc) as ⟨us, as.h, ra⟩
      exact q (.ref L) (.cell μ'.length) (μ' ++ [M.lst acc]) ⟨w.α ++ [L], w.F, w.H⟩ hl ((l1.trans l).adopt (by
        cases z : wd.H L with
        | none => rfl
        | some u =>
          by_cases hc : L ∈ wd.α
          · obtain ⟨n, hn⟩ := List.mem_iff_getElem?.mp hc
            exact absurd (List.mem_of_getElem? (l1.pre n L hn)) hA1
          · rw [l1.fr L u z hc] at hL; cases hL)) okA (.cell (by rw [← okw.len]; simp))) x
end PL
/-! PLe: what is walked: lists and tuples, ranges, enumerate, zip. -/
namespace PL
open PySem L2 PySem.Spec PyProof.Rows
set_option maxHeartbeats 1000000 in
theorem meets_enum1 {v : Value} {o : Obj} {H : Heap → Prop} (B : Begins v o H) :
    Meets (Builtin.«enumerate.__new__» ⟨[.type "enumerate", v], []⟩) (fun _ R s => H s.heap ∧
      R (.ok (.ret (.ref (s.heap.push o).objs.size))) { s with heap := (s.heap.push o).push { cls := .type "enumerate", data := .fields #[.none, .bool false, .ref s.heap.objs.size, rawInt 0, .none, .none] } }) :=
  .of_wp fun prog w A R s h => by
    obtain ⟨hp, g, d, tk, os⟩ := s; obtain ⟨h1, h⟩ := h
    have hsub := sub_enumerate
    have q1 : ∀ {A' : Around} {E : Value → Shared → Prop} {Q : Value → Shared → Prop}, Q (.ref hp.objs.size) ⟨hp.push o, g, d, tk, os⟩ → wpAny (model prog w) A' (pyIter v) Q E ⟨hp, g, d, tk, os⟩ :=
      fun q => B.iter prog w _ _ ⟨hp, g, d, tk, os⟩ _ h1 q
    wp_walk using q1
    refine wpAny_stack_any fun st => wpAny_pure ?_
    split
    · rename_i c _ _ _ _ _
      cases (c == Value.type "enumerate")
      · wp_walk using q1
        exact ⟨_, rfl, h⟩
      · wp_walk using q1
        exact ⟨_, rfl, h⟩
    · wp_walk using q1
      exact ⟨_, rfl, h⟩
theorem enum_one {prog : Program} {w : World} {A : Around} {E : Value → Shared → Prop} {s : Shared} {v : Value} {o : Obj} {H : Heap → Prop} {Q : Value → Shared → Prop} (B : Begins v o H) (h1 : H s.heap)
    (h : ∀ h', IsEnum h' (s.heap.objs.size + 1) s.heap.objs.size 0 .none → h'.get? s.heap.objs.size = some o → h'.objs.size = s.heap.objs.size + 2 →
      (∀ b o, s.heap.get? b = some o → h'.get? b = some o) → Q (.ref (s.heap.objs.size + 1)) { s with heap := h' }) :
    wpAny (model prog w) A (call (.type "enumerate") [v]) Q E s := by
  refine callType_new F.called_enumerate (by decide) (F.typeCall_enumerate_1 _) (F.newCall_enumerate_1 _) (fun obj => F.args_object_init_2 obj _) F.entry_enumerate_new
    (meets_enum1 B) ⟨h1, ?_⟩
  have hz : (s.heap.push o).objs.size = s.heap.objs.size + 1 := Heap.size_push ..
  show _ ∧ _
  rw [hz]
  have he : IsEnum ((s.heap.push o).push { cls := .type "enumerate", data := .fields #[.none, .bool false, .ref s.heap.objs.size, rawInt 0, .none, .none] }) (s.heap.objs.size + 1) s.heap.objs.size 0 .none := by
    have := Heap.get?_push_size (s.heap.push o) (o := { cls := .type "enumerate", data := .fields #[.none, .bool false, .ref s.heap.objs.size, rawInt 0, .none, .none] }) rfl
    rw [hz] at this; exact this
  refine ⟨⟨_, he, rfl⟩, h _ he (Heap.get?_push_of_some _ (Heap.get?_push_size _ B.free)) (by rw [Heap.size_push, hz]) fun b o x => Heap.get?_push_of_some _ (Heap.get?_push_of_some _ x)⟩
section
variable {X : Cx} {tg : Expr}
/-- a list or a tuple -/
def iSeq (K : PySem.W.Frag) (tl : TE) : TI := fun σ H R => tl σ H fun x H1 => ∃ a, x = .ref a ∧ (((∃ xs, SqL K H1 a xs) ∧ R (Itl K a) H1) ∨ ((∃ xs, SqT K H1 a xs) ∧ R (Itt K a) H1))
theorem pi_seq {l : Expr} {tl : TE} (hl : PE X l tl) : PI X tg l (iSeq X.K tl) := by
  refine ⟨fun pins s σ H R I h => ?_⟩
  refine thn (hl.run pins s σ H _ I h) fun v s1 ⟨x, H1, I1, r1, q1⟩ => ?_
  obtain ⟨a, e, q⟩ := q1
  subst e
  cases r1
  rcases q with ⟨⟨xs, hq⟩, q⟩ | ⟨⟨xs, hq⟩, q⟩
  · obtain ⟨its, rv, p, hz⟩ := I1.list hq
    refine wpAny_pyIter_list p.isList ?_
    refine ⟨s1.heap.objs.size, [s1.heap.objs.size], _, _, H1, rfl, I1.kept (t' := s1.toks) fun b o e => Heap.get?_push_of_some _ e, turn_list a _, ⟨_, Heap.get?_push_size _ rfl, rfl, rfl⟩, fun b hb => ?_, q⟩
    have e : b = s1.heap.objs.size := by simpa using hb
    subst e
    exact I1.fpOk (Nat.le_refl _) (I1.hok.fresh (Nat.le_refl _))
  · obtain ⟨its, rv, p, hz⟩ := I1.tuple hq
    refine wpAny_pyIter_tuple (show s1.heap.IsTuple a its.toArray from p) ?_
    refine ⟨s1.heap.objs.size, [s1.heap.objs.size], _, _, H1, rfl, I1.kept (t' := s1.toks) fun b o e => Heap.get?_push_of_some _ e, turn_tuple a _, ⟨_, Heap.get?_push_size _ rfl, rfl, rfl⟩, fun b hb => ?_, q⟩
    have e : b = s1.heap.objs.size := by simpa using hb
    subst e
    exact I1.fpOk (Nat.le_refl _) (I1.hok.fresh (Nat.le_refl _))
/-- enumerate of the tuple at a -/
def IteT (K : PySem.W.Frag) (a : Addr) : It :=
  ⟨fun i H => ∃ (xs : List V) (x : V), SqT K H a xs ∧ xs[i]? = some x, fun i H v H' => ∃ T x, v = .ref T ∧ H T = none ∧ H' = upd H T (.tup [.int (i : Nat), x]) ∧ ∀ xs, SqT K H a xs → xs[i]? = some x, fun i H => ∃ xs : List V, SqT K H a xs ∧ xs.length = i⟩
theorem turn_enumT {P : Program} {w : World} {K : PySem.W.Frag} {elts : List Expr} {kk : Nat} {tpos : Pos} (a e it : Addr) (hai : a ≠ it) (hae : a ≠ e) :
    Turn P w K (.Tuple elts kk tpos) (IteT K a) [e, it] e (fun i h => (∃ old, IsEnum h e it ((i : Nat) : Int) old) ∧ h.IsTupleIter it a i ∧ e ≠ it) where
  mem := by simp
  obj := fun i h st b hb => by
    obtain ⟨⟨old, he⟩, ⟨o, ho, hc, hd⟩, _⟩ := st
    have e' : b = e ∨ b = it := by simpa using hb
    rcases e' with z | z
    · rw [z]; exact ⟨_, he, fun v q => nomatch q⟩
    · rw [z]; exact ⟨o, ho, fun v q => by rw [hd] at q; cases q⟩
  keep := fun i h h' st k => let ⟨⟨old, he⟩, hi, hne⟩ := st; ⟨⟨old, k e (by simp) _ he⟩, hi.at fun o q => k it (by simp) o q, hne⟩
  item := by
    intro X hP hw hK hc i pins s σ H E I hf st hg
    subst hP hw hK
    obtain ⟨⟨old, he⟩, hit, hne⟩ := st
    obtain ⟨xs, x, hq, hx⟩ := hg
    obtain ⟨its, rv, p, hz⟩ := I.tuple hq
    obtain ⟨u, hu, ru⟩ := rv.get hx
    have hel : e < s.heap.objs.size := Heap.lt_size he
    have hil : it < s.heap.objs.size := by obtain ⟨_, q, _⟩ := hit; exact Heap.lt_size q
    have hT0 : s.heap.IsTuple a its.toArray := p
    have hlt : i < its.toArray.size := by
      have h1 := (List.getElem?_eq_some_iff.mp hu).1
      simpa using h1
    have hef : e ∉ [it, a] := fun z => by
      have z' : e = it ∨ e = a := by simpa using z
      rcases z' with q | q
      · exact hne q
      · exact hae q.symm
    refine wpAny_pyNext_enum_itemD (Draws.tuple (A := X.A.in1) (by exact I.ok.hd hc) it a hai its.toArray) he ⟨hit, hT0⟩ hlt hne hef fun x' h' tk hx' ho hst' hT hsz hk => ?_
    have ex : x' = u := by
      have h1 : its.toArray[i]? = some x' := hx'
      have h2 : its.toArray[i]? = some u := by simpa using hu
      rw [h2] at h1
      exact (Option.some.inj h1).symm
    subst ex
    obtain ⟨hit', _⟩ := hst'
    refine ⟨_, rfl, wpAny_letOwnedTupleGo_enum (s := { s with heap := h', toks := tk + 1 }) ho fun h'' he' sb => ?_⟩
    have hT2 : h''.get? s.heap.objs.size = some { cls := .type "tuple", data := .seq #[.int i tk, x'] } := (sb.2 _ (Nat.ne_of_gt hel)).trans hT
    have new : ObjOk X.prog X.w (upd H s.heap.objs.size (.tup [.int (i : Nat), x])) h'' s.heap.objs.size (.tup [.int (i : Nat), x]) :=
      ⟨by show 2 ≤ sizeLine; decide, [.int i tk, x'], .cons ⟨_, rfl⟩ (.cons ru .nil), ⟨_, hT2, rfl, _, rfl⟩⟩
    have I1 : Inv X pins σ (upd H s.heap.objs.size (.tup [.int (i : Nat), x])) { s with heap := h'', toks := tk + 1 } :=
      I.turnedNew (ch := [e, it]) (fun b ob hb q => (sb.2 b (fun z => hb (by simp [z]))).trans (hk b ob (fun z => hb (by simp [z])) (fun z => hb (by simp [z])) q)) hf (Nat.le_refl _) new
    refine ⟨.ref s.heap.objs.size, _, I1, rfl, ⟨_, x, rfl, I.hok.fresh (Nat.le_refl _), rfl, fun ys hy => by rw [I.tuple_inj hy hq]; exact hx⟩, ⟨⟨x', ?_⟩, hit'.at fun o q => (sb.2 it (Ne.symm hne)).trans q, hne⟩, fun b hb => ?_⟩
    · have e1 : ((i + 1 : Nat) : Int) = (i : Int) + 1 := by omega
      rw [e1]; exact he'
    · have hb' : b < s.heap.objs.size := by
        have e' : b = e ∨ b = it := by simpa using hb
        rcases e' with z | z
        · rw [z]; exact hel
        · rw [z]; exact hil
      rw [upd_ne (Nat.ne_of_lt hb')]
      exact (hf b hb).1
  done := by
    intro X hP hw hK hc i pins s σ H E I hf st hg
    subst hP hw hK
    obtain ⟨⟨old, he⟩, hit, hne⟩ := st
    obtain ⟨xs, hq, hx⟩ := hg
    obtain ⟨its, rv, p, hz⟩ := I.tuple hq
    obtain ⟨f0, f1, f2, f3, f4, f5⟩ := hf it (by simp)
    have hl := rv.length
    have hT0 : s.heap.IsTuple a its.toArray := p
    have en : i = its.toArray.size := by rw [List.size_toArray]; omega
    rw [en] at hit
    refine wpAny_pyNext_enum_endD (Draws.tuple (A := X.A.in1) (by exact I.ok.hd hc) it a hai its.toArray) he ⟨hit, hT0⟩ fun h' eb => ⟨rfl, I.turned (t' := s.toks) (fun b o hb q => eb b o hb q) f0 f1 f3 f4 f5⟩
  self := fun A i s Q E st h => let ⟨⟨_, he⟩, _⟩ := st; wpAny_pyIter_enum he h
def iEnumA (K : PySem.W.Frag) (ta : TA) : TI := fun σ H R => ta σ H fun vs H1 => ∃ a xs, vs = [.ref a] ∧ ((SqL K H1 a xs ∧ R (Ite K a) H1) ∨ (SqT K H1 a xs ∧ R (IteT K a) H1))
theorem pi_enumA {e : Expr} {ta : TA} {p pos tpos : Pos} {elts : List Expr} {kk : Nat} (hg : Gl X "enumerate") (hm : X.mg "enumerate" = none) (ha : PA X [e] ta) (hs : starEach [e] X.env = [(false, eval e X.env)] := by rfl) :
    PI X (.Tuple elts kk tpos) (.Call (.Name "enumerate" p) [e] [] pos) (iEnumA X.K ta) := by
  refine ⟨fun pins s σ H R I h => ?_⟩
  refine Call_ (ld_blt I hg hm boot_enumerate (PyProof.Rows.callWith_type1 (thn (ha.run pos pins s σ H _ I h) fun us s1 ⟨vs, H1, I1, r1, q1⟩ => ?_) hs rfl))
  obtain ⟨a, xs, ex, q1⟩ := q1
  subst ex
  cases r1 with
  | cons r rr =>
    cases rr
    cases r
    have two : ∀ b, b ∈ [s1.heap.objs.size + 1, s1.heap.objs.size] → FpOk X pins H1 b := fun b hb => by
      have e' : b = s1.heap.objs.size + 1 ∨ b = s1.heap.objs.size := by simpa using hb
      have hle : s1.heap.objs.size ≤ b := by
        rcases e' with z | z
        · rw [z]; exact Nat.le_succ _
        · rw [z]; exact Nat.le_refl _
      exact I1.fpOk hle (I1.hok.fresh hle)
    rcases q1 with ⟨hq, q⟩ | ⟨hq, q⟩
    · obtain ⟨its, rv, p', hz⟩ := I1.list hq
      refine call_enumerate_list p'.isList fun h' he hit hsz hk => wpAny_pyIter_enum he ?_
      have I2 : Inv X pins σ H1 { s1 with heap := h' } := I1.kept (t' := s1.toks) hk
      exact ⟨s1.heap.objs.size + 1, [s1.heap.objs.size + 1, s1.heap.objs.size], _, _, H1, rfl, I2, turn_enum a (s1.heap.objs.size + 1) s1.heap.objs.size, ⟨⟨.none, he⟩, hit, Nat.succ_ne_self _⟩, two, q⟩
    · obtain ⟨its, rv, p', hz⟩ := I1.tuple hq
      have hT : s1.heap.IsTuple a its.toArray := p'
      have hal : a < s1.heap.objs.size := by obtain ⟨_, h1, _⟩ := id p'; exact Heap.lt_size h1
      refine enum_one (begins_tuple a its.toArray) hT fun h' he hit hsz hk => wpAny_pyIter_enum he ?_
      have I2 : Inv X pins σ H1 { s1 with heap := h' } := I1.kept (t' := s1.toks) hk
      exact ⟨s1.heap.objs.size + 1, [s1.heap.objs.size + 1, s1.heap.objs.size], _, _, H1, rfl, I2, turn_enumT a (s1.heap.objs.size + 1) s1.heap.objs.size (Nat.ne_of_lt hal) (Nat.ne_of_lt (Nat.lt_succ_of_lt hal)), ⟨⟨.none, he⟩, ⟨_, hit, rfl, rfl⟩, Nat.succ_ne_self _⟩, two, q⟩
end
end PL
/-! PLf: zip of lists and tuples in any mix; what is walked, over data. -/
namespace PL
open PySem L2 PySem.Spec PyProof.Rows
/-- a list (true) or a tuple (false) -/
def SqK (K : PySem.W.Frag) (H : Hp) (k : Bool) (a : Addr) (xs : List V) : Prop := match k with | true => SqL K H a xs | false => SqT K H a xs
def AtK (h : Heap) (k : Bool) (a : Addr) (its : Array Value) : Prop := match k with | true => h.IsList a its | false => h.IsTuple a its
def IterK (h : Heap) (k : Bool) (it a : Addr) (i : Nat) : Prop := match k with | true => h.IsListIter it a i | false => h.IsTupleIter it a i
def objK (k : Bool) (a : Addr) : Obj := match k with | true => { cls := .type "list_iterator", data := .fields #[.ref a, .int 0 0] } | false => { cls := .type "tuple_iterator", data := .fields #[.ref a, .int 0 0] }
theorem drawsK {prog : Program} {w : World} {A : Around} (hh : A.handled = none) (k : Bool) (it a : Addr) (hne : a ≠ it) (its : Array Value) :
    Draws prog w A it [it, a] its.size (fun i v => its[i]? = some v) (fun i h => IterK h k it a i ∧ AtK h k a its) := by
  cases k with
  | true => exact Draws.list hh it a hne its
  | false => exact Draws.tuple hh it a hne its
theorem beginsK (k : Bool) (a : Addr) (its : Array Value) : Begins (.ref a) (objK k a) fun h => AtK h k a its := by
  cases k with
  | true => exact begins_list a its
  | false => exact begins_tuple a its
section
variable {X : Cx} {pins : List (Addr × Obj)} {σ : L2.St} {H : Hp} {s : Shared} {a : Addr} {xs ys : List V} {k : Bool}
theorem Inv.seqK (I : Inv X pins σ H s) (h : SqK X.K H k a xs) : ∃ its : List Value, Vals xs its ∧ AtK s.heap k a its.toArray ∧ a < s.heap.objs.size := by
  cases k with
  | true => obtain ⟨its, r, p, _⟩ := I.list h; exact ⟨its, r, p.isList, p.lt⟩
  | false => obtain ⟨its, r, p, _⟩ := I.tuple h; obtain ⟨_, h1, _⟩ := id p; exact ⟨its, r, p, Heap.lt_size h1⟩
theorem Inv.seqK_inj (I : Inv X pins σ H s) (h : SqK X.K H k a xs) (h' : SqK X.K H k a ys) : xs = ys := by
  cases k with
  | true => exact I.list_inj h h'
  | false => exact I.tuple_inj h h'
end
theorem IterK.obj {h : Heap} {k : Bool} {it a : Addr} {i : Nat} (x : IterK h k it a i) : ∃ o, h.get? it = some o ∧ ∀ v, o.data ≠ .cell v := by
  cases k with
  | true => obtain ⟨o, e, _, d⟩ := x; exact ⟨o, e, fun v q => by rw [d] at q; cases q⟩
  | false => obtain ⟨o, e, _, d⟩ := x; exact ⟨o, e, fun v q => by rw [d] at q; cases q⟩
theorem IterK.keep {h h' : Heap} {k : Bool} {it a : Addr} {i : Nat} (x : IterK h k it a i) (e : ∀ o, h.get? it = some o → h'.get? it = some o) : IterK h' k it a i := by
  cases k with
  | true => exact Heap.IsListIter.at x e
  | false => exact Heap.IsTupleIter.at x e
theorem objK_iter {h : Heap} {k : Bool} {it a : Addr} (e : h.get? it = some (objK k a)) : IterK h k it a 0 := by
  cases k with
  | true => exact ⟨_, e, rfl, rfl⟩
  | false => exact ⟨_, e, rfl, rfl⟩
/-- zip of the one at a and the one at b -/
def ItzM (K : PySem.W.Frag) (k1 k2 : Bool) (a b : Addr) : It :=
  ⟨fun i H => ∃ (xs ys : List V) (x y : V), SqK K H k1 a xs ∧ SqK K H k2 b ys ∧ xs[i]? = some x ∧ ys[i]? = some y,
    fun i H v H' => ∃ T x y, v = .ref T ∧ H T = none ∧ H' = upd H T (.tup [x, y]) ∧ (∀ xs, SqK K H k1 a xs → xs[i]? = some x) ∧ ∀ ys, SqK K H k2 b ys → ys[i]? = some y,
    fun i H => ∃ xs ys : List V, SqK K H k1 a xs ∧ SqK K H k2 b ys ∧ i = min xs.length ys.length⟩
theorem turn_zipM {P : Program} {w : World} {K : PySem.W.Frag} {elts : List Expr} {kk : Nat} {tpos : Pos} {k1 k2 : Bool} {a b z TI TO i1 i2 : Addr} (D : ZipSep2 z TI TO i1 i2 [i1, a] [i2, b]) (ha1 : a ≠ i1) (hb2 : b ≠ i2) :
    Turn P w K (.Tuple elts kk tpos) (ItzM K k1 k2 a b) [z, TI, TO, i1, i2] z (fun i h => IsZip h z TI TO .none ∧ IsTupOf2 h TI (.ref i1) (.ref i2) ∧ (∃ x y, IsTupOf2 h TO x y) ∧ IterK h k1 i1 a i ∧ IterK h k2 i2 b i) where
  mem := by simp
  obj := fun i h st c hc => by
    obtain ⟨hz, hTI, ⟨x, y, hTO⟩, h1, h2⟩ := st
    have e' : c = z ∨ c = TI ∨ c = TO ∨ c = i1 ∨ c = i2 := by simpa using hc
    rcases e' with q | q | q | q | q
    · rw [q]; exact ⟨_, hz, fun v q => nomatch q⟩
    · rw [q]; exact ⟨_, hTI, fun v q => nomatch q⟩
    · rw [q]; exact ⟨_, hTO, fun v q => nomatch q⟩
    · rw [q]; exact h1.obj
    · rw [q]; exact h2.obj
  keep := fun i h h' st k => by
    obtain ⟨hz, hTI, ⟨x, y, hTO⟩, h1, h2⟩ := st
    exact ⟨k z (by simp) _ hz, k TI (by simp) _ hTI, ⟨x, y, k TO (by simp) _ hTO⟩, h1.keep fun o q => k i1 (by simp) o q, h2.keep fun o q => k i2 (by simp) o q⟩
  item := by
    intro X hP hw hK hc i pins s σ H E I hf st hg
    subst hP hw hK
    obtain ⟨hz, hTI, ⟨x0, y0, hTO⟩, h1, h2⟩ := st
    obtain ⟨xs, ys, x, y, hqx, hqy, hx, hy⟩ := hg
    obtain ⟨its, rv, p, _⟩ := Inv.seqK I hqx
    obtain ⟨its2, rv2, p2, _⟩ := Inv.seqK I hqy
    obtain ⟨u, hu, ru⟩ := rv.get hx
    obtain ⟨u2, hu2, ru2⟩ := rv2.get hy
    have hzl : z < s.heap.objs.size := Heap.lt_size hz
    have hh : (X.A.in1).handled = none := I.ok.hd hc
    have l1 : i < its.toArray.size := by have := (List.getElem?_eq_some_iff.mp hu).1; simpa using this
    have l2 : i < its2.toArray.size := by have := (List.getElem?_eq_some_iff.mp hu2).1; simpa using this
    refine wpAny_pyNext_zipD2_item D (drawsK hh k1 i1 a ha1 its.toArray) (drawsK hh k2 i2 b hb2 its2.toArray) hz hTI hTO ⟨h1, p⟩ ⟨h2, p2⟩ l1 l2 fun w1 w2 h' tk e1 e2 z' TO' st1 st2 hT hsz hk => ?_
    have q1 : w1 = u := by
      have h1 : its.toArray[i]? = some w1 := e1
      have h2 : its.toArray[i]? = some u := by simpa using hu
      rw [h2] at h1; exact (Option.some.inj h1).symm
    have q2 : w2 = u2 := by
      have h1 : its2.toArray[i]? = some w2 := e2
      have h2 : its2.toArray[i]? = some u2 := by simpa using hu2
      rw [h2] at h1; exact (Option.some.inj h1).symm
    subst q1 q2
    refine ⟨_, rfl, wpAny_letOwnedTupleGo_zip (s := { s with heap := h', toks := tk }) z' fun h'' z'' sb => ?_⟩
    have hT2 : h''.get? s.heap.objs.size = some { cls := .type "tuple", data := .seq #[w1, w2] } := (sb.2 _ (Nat.ne_of_gt hzl)).trans hT
    have new : ObjOk X.prog X.w (upd H s.heap.objs.size (.tup [x, y])) h'' s.heap.objs.size (.tup [x, y]) :=
      ⟨by show 2 ≤ sizeLine; decide, [w1, w2], .cons ru (.cons ru2 .nil), ⟨_, hT2, rfl, _, rfl⟩⟩
    have I1 : Inv X pins σ (upd H s.heap.objs.size (.tup [x, y])) { s with heap := h'', toks := tk } :=
      I.turnedNew (ch := [z, TI, TO, i1, i2]) (fun c o hb q => (sb.2 c (fun q' => hb (by simp [q']))).trans (hk c o (fun q' => hb (by simp [q'])) (fun q' => hb (by simp [q'])) (fun q' => hb (by simp [q'])) (fun q' => hb (by simp [q'])) q)) hf (Nat.le_refl _) new
    refine ⟨.ref s.heap.objs.size, _, I1, rfl, ⟨_, x, y, rfl, I.hok.fresh (Nat.le_refl _), rfl, fun zs hy => by rw [Inv.seqK_inj I hy hqx]; exact hx, fun zs hy' => by rw [Inv.seqK_inj I hy' hqy]; exact hy⟩,
      ⟨z'', (sb.2 _ D.TIz).trans (hk _ _ D.TIz D.TITO D.TIi1 D.TIi2 hTI), ⟨w1, w2, (sb.2 _ D.TOz).trans TO'⟩, st1.1.keep fun o q => (sb.2 _ (Ne.symm D.zi1)).trans q, st2.1.keep fun o q => (sb.2 _ (Ne.symm D.zi2)).trans q⟩, fun c hcm => ?_⟩
    have hlt : c < s.heap.objs.size := by
      have e' : c = z ∨ c = TI ∨ c = TO ∨ c = i1 ∨ c = i2 := by simpa using hcm
      rcases e' with q | q | q | q | q
      · rw [q]; exact hzl
      · rw [q]; exact Heap.lt_size hTI
      · rw [q]; exact Heap.lt_size hTO
      · rw [q]; obtain ⟨_, e1, _⟩ := h1.obj; exact Heap.lt_size e1
      · rw [q]; obtain ⟨_, e2, _⟩ := h2.obj; exact Heap.lt_size e2
    rw [upd_ne (Nat.ne_of_lt hlt)]
    exact (hf c hcm).1
  done := by
    intro X hP hw hK hc i pins s σ H E I hf st hg
    subst hP hw hK
    obtain ⟨hz, hTI, ⟨x0, y0, hTO⟩, h1, h2⟩ := st
    obtain ⟨xs, ys, hqx, hqy, hend⟩ := hg
    obtain ⟨its, rv, p, _⟩ := Inv.seqK I hqx
    obtain ⟨its2, rv2, p2, _⟩ := Inv.seqK I hqy
    have l1 := rv.length
    have l2 := rv2.length
    have hh : (X.A.in1).handled = none := I.ok.hd hc
    have s1 : its.toArray.size = xs.length := by rw [List.size_toArray, l1]
    have s2 : its2.toArray.size = ys.length := by rw [List.size_toArray, l2]
    exact wpAny_pyNext_zipD2_end D (drawsK hh k1 i1 a ha1 its.toArray) (drawsK hh k2 i2 b hb2 its2.toArray) hz hTI hTO ⟨h1, p⟩ ⟨h2, p2⟩ (by rw [s1]; omega) (by rw [s2]; omega) (by rw [s1, s2]; omega) fun h' tk hk =>
      ⟨rfl, I.turnedL (t' := tk) (ch := [z, TI, TO, i1, i2]) (fun c o hb q => hk c o (fun q' => hb (by simp [q'])) (fun q' => hb (by simp [q'])) (fun q' => hb (by simp [q'])) (fun q' => hb (by simp [q'])) q) hf⟩
  self := fun A i s Q E st h => wpAny_pyIter_zip st.1 h
def iZipM (K : PySem.W.Frag) (ta : TA) : TI := fun σ H R => ta σ H fun vs H1 => ∃ (k1 k2 : Bool) (a b : Addr) (xs ys : List V), vs = [.ref a, .ref b] ∧ SqK K H1 k1 a xs ∧ SqK K H1 k2 b ys ∧ R (ItzM K k1 k2 a b) H1
theorem pi_zipM {X : Cx} {e e2 : Expr} {ta : TA} {p pos tpos : Pos} {elts : List Expr} {kk : Nat} (hg : Gl X "zip") (hm : X.mg "zip" = none) (ha : PA X [e, e2] ta)
    (hs : starEach [e, e2] X.env = (false, eval e X.env) :: starEach [e2] X.env := by rfl) (hpl : (backTo pos (starEach [e2] X.env)).any (·.1) = false := by rfl) :
    PI X (.Tuple elts kk tpos) (.Call (.Name "zip" p) [e, e2] [] pos) (iZipM X.K ta) := by
  refine ⟨fun pins s σ H R I h => ?_⟩
  refine Call_ (ld_blt I hg hm PyProof.Rows.boot_zip (PyProof.Rows.callWith_type1 (thn (ha.run pos pins s σ H _ I h) fun us s1 ⟨vs, H1, I1, r1, q1⟩ => ?_) hs hpl))
  obtain ⟨k1, k2, a, b, xs, ys, ex, hqx, hqy, q⟩ := q1
  subst ex
  cases r1 with
  | cons r rr =>
    cases rr with
    | cons r' rr =>
      cases rr
      cases r
      cases r'
      have fresh5 : ∀ c, c ∈ [s1.heap.objs.size + 4, s1.heap.objs.size + 2, s1.heap.objs.size + 3, s1.heap.objs.size, s1.heap.objs.size + 1] → FpOk X pins H1 c := fun c hcm => by
        have e' : c = s1.heap.objs.size + 4 ∨ c = s1.heap.objs.size + 2 ∨ c = s1.heap.objs.size + 3 ∨ c = s1.heap.objs.size ∨ c = s1.heap.objs.size + 1 := by simpa using hcm
        have hle : s1.heap.objs.size ≤ c := by
          rcases e' with z | z | z | z | z
          · rw [z]; exact Nat.le_add_right _ _
          · rw [z]; exact Nat.le_add_right _ _
          · rw [z]; exact Nat.le_add_right _ _
          · rw [z]; exact Nat.le_refl _
          · rw [z]; exact Nat.le_add_right _ _
        exact I1.fpOk hle (I1.hok.fresh hle)
      obtain ⟨its, rv, p1, la⟩ := Inv.seqK I1 hqx
      obtain ⟨its2, rv2, p2, lb⟩ := Inv.seqK I1 hqy
      refine zip_begins2 (beginsK k1 a its.toArray) (beginsK k2 b its2.toArray) p1 p2 fun h' hz hTI hTO h1 h2 hsz hk => wpAny_pyIter_zip hz ?_
      have I2 : Inv X pins σ H1 { s1 with heap := h' } := I1.kept (t' := s1.toks) hk
      have m1 : ∀ c ∈ [a], c < s1.heap.objs.size := fun c hc => by
        have e : c = a := by simpa using hc
        rw [e]; exact la
      have m2 : ∀ c ∈ [b], c < s1.heap.objs.size := fun c hc => by
        have e : c = b := by simpa using hc
        rw [e]; exact lb
      have D := zip_sep2 (N := s1.heap.objs.size) (fp1 := [a]) (fp2 := [b]) m1 m2
      exact ⟨s1.heap.objs.size + 4, [s1.heap.objs.size + 4, s1.heap.objs.size + 2, s1.heap.objs.size + 3, s1.heap.objs.size, s1.heap.objs.size + 1], _, _, H1, rfl, I2,
        turn_zipM D (Nat.ne_of_lt la) (Nat.ne_of_lt (Nat.lt_succ_of_lt lb)), ⟨hz, hTI, ⟨_, _, hTO⟩, objK_iter h1, objK_iter h2⟩, fresh5, q⟩

/-! ### over data -/
variable {K : PySem.W.Frag} {W : WX}
def litD (ns : List Int) : List D := ns.map .int
/-- a sequence: its items -/
def seqOf (μ : Mem) : D → Option (List D)
  | .tup xs => some xs
  | .lst xs => some xs
  | .scr ns => some (litD ns)
  | .cell n => match μ[n]? with | some (.lst xs) => some xs | _ => none
  | _ => none
def lstOf (μ : Mem) : D → Option (List D)
  | .lst xs => some xs
  | .cell n => match μ[n]? with | some (.lst xs) => some xs | _ => none
  | _ => none
/-- what must stay while it is walked -/
def stays (μ : Mem) : D → Mem → Prop
  | .cell n => fun μ' => μ'[n]? = μ[n]?
  | _ => fun _ => True
theorem reps_ints (α : List Addr) (F : Hp) : ∀ ns : List Int, Reps K α F (ns.map V.int) (litD ns)
  | [] => .nil
  | n :: ns => .cons (.int n) (reps_ints α F ns)
theorem rep_cell_lst {w : Wd} {μ : Mem} (ok : Ok K w μ) {v : V} {n : Nat} (r : Rep K w.α w.F v (.cell n)) {xs : List D} (h : μ[n]? = some (.lst xs)) : ∃ a vs, v = .ref a ∧ w.α[n]? = some a ∧ w.H a = some (.lst vs) ∧ Reps K w.α w.F vs xs := by
  cases r with
  | cell hp =>
    obtain ⟨_, vs, a, b⟩ := ok.cell _ _ _ hp h (fun z => by cases z)
    exact ⟨_, vs, rfl, hp, a, b⟩
theorem rep_lst {w : Wd} {μ : Mem} (ok : Ok K w μ) {v : V} {d : D} (r : Rep K w.α w.F v d) {xs : List D} (h : lstOf μ d = some xs) : ∃ a vs, v = .ref a ∧ w.H a = some (.lst vs) ∧ Reps K w.α w.F vs xs := by
  cases d with
  | lst ys => cases h; cases r with | lst e q => exact ⟨_, _, rfl, ok.ex _ _ e, q⟩
  | cell n =>
    have h' : (match μ[n]? with | some (.lst xs) => some xs | _ => none) = some xs := h
    cases e : μ[n]? with
    | none => rw [e] at h'; cases h'
    | some m =>
      rw [e] at h'
      cases m with
      | lst ys => cases h'; obtain ⟨a, vs, e1, _, e2, e3⟩ := rep_cell_lst ok r e; exact ⟨a, vs, e1, e2, e3⟩
      | _ => cases h'
  | _ => cases h
theorem rep_seq {w : Wd} {μ : Mem} (ok : Ok K w μ) {v : V} {d : D} (r : Rep K w.α w.F v d) {xs : List D} (h : seqOf μ d = some xs) : ∃ a vs, v = .ref a ∧ (SqL K w.H a vs ∨ SqT K w.H a vs) ∧ Reps K w.α w.F vs xs := by
  cases d with
  | lst ys => cases h; cases r with | lst e q => exact ⟨_, _, rfl, .inl (SqL.of (ok.ex _ _ e)), q⟩
  | tup ys => cases h; cases r with | tup e q => exact ⟨_, _, rfl, .inr (SqT.of (ok.ex _ _ e)), q⟩
  | scr ns => cases h; cases r with | scr e => exact ⟨_, _, rfl, .inl (ok.ex.seq e), reps_ints _ _ ns⟩
  | cell n =>
    have h' : (match μ[n]? with | some (.lst xs) => some xs | _ => none) = some xs := h
    cases e : μ[n]? with
    | none => rw [e] at h'; cases h'
    | some m =>
      rw [e] at h'
      cases m with
      | lst ys => cases h'; obtain ⟨a, vs, e1, _, e2, e3⟩ := rep_cell_lst ok r e; exact ⟨a, vs, e1, .inl (SqL.of e2), e3⟩
      | _ => cases h'
  | _ => cases h
/-- as long as it stays it is of one kind and holds the same -/
theorem rep_walk {w : Wd} {μ : Mem} (ok : Ok K w μ) {v : V} {d : D} (r : Rep K w.α w.F v d) {xs : List D} (h : seqOf μ d = some xs) :
    ∃ (k : Bool) (a : Addr), v = .ref a ∧ ∀ w' μ', Le w w' → Ok K w' μ' → stays μ d μ' → ∃ vs, SqK K w'.H k a vs ∧ Reps K w'.α w'.F vs xs := by
  cases d with
  | lst ys => cases h; cases r with | lst e q => exact ⟨true, _, rfl, fun w' μ' l o _ => ⟨_, SqL.of (o.ex _ _ (l.ex _ _ e)), q.mono l.pre l.ex⟩⟩
  | tup ys => cases h; cases r with | tup e q => exact ⟨false, _, rfl, fun w' μ' l o _ => ⟨_, SqT.of (o.ex _ _ (l.ex _ _ e)), q.mono l.pre l.ex⟩⟩
  | scr ns => cases h; cases r with | scr e => exact ⟨true, _, rfl, fun w' μ' l o _ => ⟨_, o.ex.seq (l.ex.seq e), reps_ints _ _ ns⟩⟩
  | cell n =>
    have h' : (match μ[n]? with | some (.lst xs) => some xs | _ => none) = some xs := h
    cases e : μ[n]? with
    | none => rw [e] at h'; cases h'
    | some m =>
      rw [e] at h'
      cases m with
      | lst ys =>
        cases h'
        cases r with
        | cell hp =>
          refine ⟨true, _, rfl, fun w' μ' l o st => ?_⟩
          have st' : μ'[n]? = μ[n]? := st
          obtain ⟨a, vs, e1, _, e2, e3⟩ := rep_cell_lst o (.cell (l.pre _ _ hp) : Rep K w'.α w'.F _ (.cell n)) (st'.trans e)
          cases e1
          exact ⟨vs, SqL.of e2, e3⟩
      | _ => cases h'
  | _ => cases h
theorem stays_refl (μ : Mem) (d : D) : stays μ d μ := by
  cases d <;> first | rfl | trivial
def wSeqI (a : WE) : WI := fun δ μ P XP => a δ μ (fun x μ1 => match seqOf μ1 x with | some xs => P xs (stays μ1 x) μ1 | none => False) XP
theorem li_seq {te : TE} {a : WE} (ha : LE K W te a) : LI K W (iSeq K te) (wSeqI a) := fun wd σ δ μ P XP ok env h R q x =>
  ha wd σ δ μ _ XP ok env h _ (fun v d μ1 w1 h1 l1 ok1 r1 => by
    cases e : seqOf μ1 d with
    | none => simp only [e] at h1
    | some xs =>
      simp only [e] at h1
      obtain ⟨k, a, rfl, wk⟩ := rep_walk ok1 r1 e
      obtain ⟨vs0, hs0, hr0⟩ := wk w1 μ1 (Le.refl _) ok1 (stays_refl _ _)
      refine ⟨a, rfl, ?_⟩
      cases k with
      | true =>
        refine .inl ⟨⟨vs0, hs0⟩, q _ xs (stays μ1 d) μ1 w1 h1 l1 ok1 (stays_refl _ _) fun w μ' l o c i => ?_⟩
        obtain ⟨vs, hs, hr⟩ := wk w μ' l o c
        refine ⟨fun e => ⟨vs, hs, by rw [hr.length, e]; exact Nat.le_refl _⟩, fun y hy => ?_⟩
        obtain ⟨v, hv, rv⟩ := hr.get hy
        exact ⟨⟨vs, v, hs, hv⟩, fun z H' hz => by
          obtain ⟨rfl, hz⟩ := hz
          have := hz vs hs
          rw [hv] at this
          cases this
          exact ⟨w, rfl, Le.refl _, o, rv⟩⟩
      | false =>
        refine .inr ⟨⟨vs0, hs0⟩, q _ xs (stays μ1 d) μ1 w1 h1 l1 ok1 (stays_refl _ _) fun w μ' l o c i => ?_⟩
        obtain ⟨vs, hs, hr⟩ := wk w μ' l o c
        refine ⟨fun e => ⟨vs, hs, by rw [hr.length, e]; exact Nat.le_refl _⟩, fun y hy => ?_⟩
        obtain ⟨v, hv, rv⟩ := hr.get hy
        exact ⟨⟨vs, v, hs, hv⟩, fun z H' hz => by
          obtain ⟨rfl, hz⟩ := hz
          have := hz vs hs
          rw [hv] at this
          cases this
          exact ⟨w, rfl, Le.refl _, o, rv⟩⟩) x
/-- enumerate: pairs -/
def numbered : Nat → List D → List D
  | _, [] => []
  | i, x :: xs => .tup [.int (i : Nat), x] :: numbered (i + 1) xs
theorem numbered_length : ∀ (xs : List D) (i : Nat), (numbered i xs).length = xs.length
  | [], _ => rfl
  | _ :: xs, i => by rw [numbered, List.length_cons, List.length_cons, numbered_length xs]
theorem numbered_get : ∀ (xs : List D) (k i : Nat) (d : D), (numbered k xs)[i]? = some d → ∃ x, xs[i]? = some x ∧ d = .tup [.int ((k + i : Nat) : Int), x]
  | [], _, _, _, h => by simp [numbered] at h
  | x :: xs, k, 0, d, h => by
    rw [numbered] at h
    simp at h
    exact ⟨x, rfl, h.symm⟩
  | x :: xs, k, i + 1, d, h => by
    rw [numbered] at h
    obtain ⟨y, h1, h2⟩ := numbered_get xs (k + 1) i d (by simpa using h)
    refine ⟨y, by simpa using h1, ?_⟩
    rw [h2]
    have : k + 1 + i = k + (i + 1) := by omega
    rw [this]
def wEnumI (a : WA) : WI := fun δ μ P XP => a δ μ (fun ds μ1 => match ds with | [x] => (match seqOf μ1 x with | some xs => P (numbered 0 xs) (stays μ1 x) μ1 | none => False) | _ => False) XP
theorem li_enum {n : Nat} {ta : TA} {a : WA} (ha : LA K W n ta a) : LI K W (iEnumA K ta) (wEnumI a) := fun wd σ δ μ P XP ok env h R q x =>
  ha wd σ δ μ _ XP ok env h _ (fun vs0 ds μ1 w1 h1 l1 ok1 r1 _ => by
    match ds, vs0, r1, h1 with
    | [], _, _, h1 => exact h1.elim
    | _ :: _ :: _, _, _, h1 => exact h1.elim
    | [d], [v], .cons r1 .nil, h1 =>
    cases e : seqOf μ1 d with
    | none => simp only [e] at h1
    | some xs =>
      simp only [e] at h1
      obtain ⟨k, a, rfl, wk⟩ := rep_walk ok1 r1 e
      obtain ⟨vs1, hs0, hr0⟩ := wk w1 μ1 (Le.refl _) ok1 (stays_refl _ _)
      refine ⟨a, vs1, rfl, ?_⟩
      have pair : ∀ {w : Wd} {μ' : Mem} {i : Nat} {v : V} {y : D} {T : Addr}, Ok K w μ' → Rep K w.α w.F v y → w.H T = none → ∃ w', w'.H = upd w.H T (.tup [.int (i : Nat), v]) ∧ Le w w' ∧ Ok K w' μ' ∧ Rep K w'.α w'.F (.ref T) (.tup [.int ((0 + i : Nat) : Int), y]) := fun {w μ' i v y T} o rv hT => by
        obtain ⟨o2, l2⟩ := o.frozen hT (.tup [.int (i : Nat), v])
        refine ⟨_, rfl, l2, o2, .tup upd_same (.cons ?_ (.cons (rv.mono l2.pre l2.ex) .nil))⟩
        rw [Nat.zero_add]; exact .int _
      cases k with
      | true =>
        refine .inl ⟨hs0, q _ _ (stays μ1 d) μ1 w1 h1 l1 ok1 (stays_refl _ _) fun w μ' l o c i => ?_⟩
        obtain ⟨vs, hs, hr⟩ := wk w μ' l o c
        refine ⟨fun e => ⟨vs, hs, by rw [hr.length, e, numbered_length]; exact Nat.le_refl _⟩, fun y hy => ?_⟩
        obtain ⟨y0, hy0, rfl⟩ := numbered_get _ _ _ _ hy
        obtain ⟨v, hv, rv⟩ := hr.get hy0
        refine ⟨⟨vs, v, hs, hv⟩, fun z H' hz => ?_⟩
        obtain ⟨T, v2, rfl, hT, rfl, hz⟩ := hz
        have := hz vs hs
        rw [hv] at this
        cases this
        exact pair o rv hT
      | false =>
        refine .inr ⟨hs0, q _ _ (stays μ1 d) μ1 w1 h1 l1 ok1 (stays_refl _ _) fun w μ' l o c i => ?_⟩
        obtain ⟨vs, hs, hr⟩ := wk w μ' l o c
        refine ⟨fun e => ⟨vs, hs, by rw [hr.length, e, numbered_length]⟩, fun y hy => ?_⟩
        obtain ⟨y0, hy0, rfl⟩ := numbered_get _ _ _ _ hy
        obtain ⟨v, hv, rv⟩ := hr.get hy0
        refine ⟨⟨vs, v, hs, hv⟩, fun z H' hz => ?_⟩
        obtain ⟨T, v2, rfl, hT, rfl, hz⟩ := hz
        have := hz vs hs
        rw [hv] at this
        cases this
        exact pair o rv hT) x
/-- zip: pairs -/
def pairs : List D → List D → List D
  | x :: xs, y :: ys => .tup [x, y] :: pairs xs ys
  | _, _ => []
theorem pairs_length : ∀ (xs ys : List D), (pairs xs ys).length = min xs.length ys.length
  | [], _ => by simp [pairs]
  | _ :: _, [] => by simp [pairs]
  | _ :: xs, _ :: ys => by rw [pairs, List.length_cons, pairs_length xs ys, List.length_cons, List.length_cons]; omega
theorem pairs_get : ∀ (xs ys : List D) (i : Nat) (d : D), (pairs xs ys)[i]? = some d → ∃ x y, xs[i]? = some x ∧ ys[i]? = some y ∧ d = .tup [x, y]
  | [], _, _, _, h => by simp [pairs] at h
  | _ :: _, [], _, _, h => by simp [pairs] at h
  | x :: xs, y :: ys, 0, d, h => by
    rw [pairs] at h
    simp at h
    exact ⟨x, y, rfl, rfl, h.symm⟩
  | x :: xs, y :: ys, i + 1, d, h => by
    rw [pairs] at h
    obtain ⟨a, b, h1, h2, h3⟩ := pairs_get xs ys i d (by simpa using h)
    exact ⟨a, b, by simpa using h1, by simpa using h2, h3⟩
def wZipI (a : WA) : WI := fun δ μ P XP => a δ μ (fun ds μ1 => match ds with | [x, y] => (match seqOf μ1 x, seqOf μ1 y with | some xs, some ys => P (pairs xs ys) (fun μ' => stays μ1 x μ' ∧ stays μ1 y μ') μ1 | _, _ => False) | _ => False) XP
theorem li_zip {n : Nat} {ta : TA} {a : WA} (ha : LA K W n ta a) : LI K W (iZipM K ta) (wZipI a) := fun wd σ δ μ P XP ok env h R q x =>
  ha wd σ δ μ _ XP ok env h _ (fun vs0 ds μ1 w1 h1 l1 ok1 r1 _ => by
    match ds, vs0, r1, h1 with
    | [], _, _, h1 => exact h1.elim
    | [_], _, _, h1 => exact h1.elim
    | _ :: _ :: _ :: _, _, _, h1 => exact h1.elim
    | [d, c], [v, u], .cons r1 (.cons r2 .nil), h1 =>
    cases e : seqOf μ1 d with
    | none => simp only [e] at h1
    | some xs =>
      cases e2 : seqOf μ1 c with
      | none => simp only [e, e2] at h1
      | some ys =>
        simp only [e, e2] at h1
        obtain ⟨k1, a, rfl, wk1⟩ := rep_walk ok1 r1 e
        obtain ⟨k2, b, rfl, wk2⟩ := rep_walk ok1 r2 e2
        obtain ⟨vs1, hs1, hr1⟩ := wk1 w1 μ1 (Le.refl _) ok1 (stays_refl _ _)
        obtain ⟨vs2, hs2, hr2⟩ := wk2 w1 μ1 (Le.refl _) ok1 (stays_refl _ _)
        refine ⟨k1, k2, a, b, vs1, vs2, rfl, hs1, hs2, q _ _ _ μ1 w1 h1 l1 ok1 ⟨stays_refl _ _, stays_refl _ _⟩ fun w μ' l o c i => ?_⟩
        obtain ⟨us1, gs1, gr1⟩ := wk1 w μ' l o c.1
        obtain ⟨us2, gs2, gr2⟩ := wk2 w μ' l o c.2
        refine ⟨fun e => ⟨us1, us2, gs1, gs2, by rw [e, pairs_length, gr1.length, gr2.length]⟩, fun y hy => ?_⟩
        obtain ⟨x0, y0, hx0, hy0, rfl⟩ := pairs_get _ _ _ _ hy
        obtain ⟨v1, hv1, rv1⟩ := gr1.get hx0
        obtain ⟨v2, hv2, rv2⟩ := gr2.get hy0
        refine ⟨⟨us1, us2, v1, v2, gs1, gs2, hv1, hv2⟩, fun z H' hz => ?_⟩
        obtain ⟨T, z1, z2, rfl, hT, rfl, hz1, hz2⟩ := hz
        have e1 := hz1 us1 gs1
        rw [hv1] at e1
        cases e1
        have e2 := hz2 us2 gs2
        rw [hv2] at e2
        cases e2
        obtain ⟨o2, l2⟩ := o.frozen hT (.tup [v1, v2])
        exact ⟨_, rfl, l2, o2, .tup upd_same (.cons (rv1.mono l2.pre l2.ex) (.cons (rv2.mono l2.pre l2.ex) .nil))⟩) x
/-- range -/
def rangeD : Int → Nat → List D
  | _, 0 => []
  | lo, n + 1 => .int lo :: rangeD (lo + 1) n
theorem rangeD_length : ∀ (n : Nat) (lo : Int), (rangeD lo n).length = n
  | 0, _ => rfl
  | n + 1, lo => by rw [rangeD, List.length_cons, rangeD_length n]
theorem rangeD_get : ∀ (n : Nat) (lo : Int) (i : Nat) (d : D), (rangeD lo n)[i]? = some d → i < n ∧ d = .int (lo + (i : Int))
  | 0, _, _, _, h => by simp [rangeD] at h
  | n + 1, lo, 0, d, h => by rw [rangeD] at h; simp at h; exact ⟨by omega, by rw [← h]; simp⟩
  | n + 1, lo, i + 1, d, h => by
    rw [rangeD] at h
    obtain ⟨h1, h2⟩ := rangeD_get n (lo + 1) i d (by simpa using h)
    refine ⟨by omega, ?_⟩
    rw [h2]
    congr 1
    push_cast
    omega
theorem walks_range (lo : Int) (n : Nat) (w0 : Wd) : Walks K (Itr lo n) (rangeD lo n) (fun _ => True) w0 := fun w μ l o _ i => by
  refine ⟨fun e => by rw [rangeD_length] at e; exact Nat.le_of_eq e.symm, fun d hd => ?_⟩
  obtain ⟨h1, h2⟩ := rangeD_get _ _ _ _ hd
  refine ⟨h1, fun x H' hx => ?_⟩
  obtain ⟨rfl, rfl⟩ := hx
  rw [h2]
  exact ⟨w, rfl, Le.refl _, o, .int _⟩
def ints1 : List D → Option Int
  | [.int j] => some j
  | _ => none
def ints2 : List D → Option (Int × Int)
  | [.int i, .int j] => some (i, j)
  | _ => none
theorem ints1_of {ds : List D} {j : Int} (h : ints1 ds = some j) : ds = [.int j] := by
  unfold ints1 at h
  split at h
  · cases h; rfl
  · cases h
theorem ints2_of {ds : List D} {i j : Int} (h : ints2 ds = some (i, j)) : ds = [.int i, .int j] := by
  unfold ints2 at h
  split at h
  · cases h; rfl
  · cases h
theorem reps1 {α : List Addr} {F : Hp} {vs : List V} {j : Int} (r : Reps K α F vs [.int j]) : vs = [.int j] := by
  cases r with
  | cons r t => cases t; cases r; rfl
theorem reps2 {α : List Addr} {F : Hp} {vs : List V} {i j : Int} (r : Reps K α F vs [.int i, .int j]) : vs = [.int i, .int j] := by
  cases r with
  | cons r t =>
    cases t with
    | cons r2 t => cases t; cases r; cases r2; rfl
def wRng1 (a : WA) : WI := fun δ μ P XP => a δ μ (fun ds μ1 => match ints1 ds with | some j => (-(2 ^ 62) ≤ j ∧ j < 2 ^ 62) ∧ P (rangeD 0 j.toNat) (fun _ => True) μ1 | none => False) XP
theorem li_rng1 {n : Nat} {ta : TA} {a : WA} (ha : LA K W n ta a) : LI K W (iRng1 ta) (wRng1 a) := fun wd σ δ μ P XP ok env h R q x =>
  ha wd σ δ μ _ XP ok env h _ (fun vs0 ds μ1 w1 h1 l1 ok1 r1 _ => by
    cases e : ints1 ds with
    | none => simp only [e] at h1
    | some j =>
      simp only [e] at h1
      rw [ints1_of e] at r1
      exact ⟨j, reps1 r1, h1.1.1, h1.1.2, q _ _ _ μ1 w1 h1.2 l1 ok1 trivial (walks_range 0 j.toNat w1)⟩) x
def wRng2 (a : WA) : WI := fun δ μ P XP => a δ μ (fun ds μ1 => match ints2 ds with | some (i, j) => (-(2 ^ 62) ≤ i ∧ i < 2 ^ 62 ∧ -(2 ^ 62) ≤ j ∧ j < 2 ^ 62) ∧ P (rangeD i (j - i).toNat) (fun _ => True) μ1 | none => False) XP
theorem li_rng2 {n : Nat} {ta : TA} {a : WA} (ha : LA K W n ta a) : LI K W (iRng2 ta) (wRng2 a) := fun wd σ δ μ P XP ok env h R q x =>
  ha wd σ δ μ _ XP ok env h _ (fun vs0 ds μ1 w1 h1 l1 ok1 r1 _ => by
    cases e : ints2 ds with
    | none => simp only [e] at h1
    | some p =>
      obtain ⟨i, j⟩ := p
      simp only [e] at h1
      rw [ints2_of e] at r1
      exact ⟨i, j, reps2 r1, h1.1, q _ _ _ μ1 w1 h1.2 l1 ok1 trivial (walks_range i (j - i).toNat w1)⟩) x
end PL
/-! PLg: operators, subscripts, built-in calls, methods, over data. -/
namespace PL
open PySem L2 PySem.Spec PyProof.Rows
variable {K : PySem.W.Frag} {W : WX}

/-! ### + - * // % ** -/
def rAddA (K : PySem.W.Frag) : R2 := fun x y H Q => rI0 (fun i j => .int (i + j)) x y H Q ∨ (∃ i j, x = .str i ∧ y = .str j ∧ i.length + j.length ≤ sizeLine ∧ Q (.str (i ++ j)) H) ∨ rCatA K x y H Q ∨ rCat x y H Q
theorem op_addA {X : Cx} : OpR X (binaryOp .Add) (rAddA X.K) := op_add.or (op_add_str.or (op_catA.or op_cat))
def wAdd : WR2 := fun x y μ P => match x, y with
  | .int a, .int b => P (.int (a + b)) μ
  | .str a, .str b => a.length + b.length ≤ sizeLine ∧ P (.str (a ++ b)) μ
  | .tup a, .tup b => a.length + b.length ≤ sizeLine ∧ P (.tup (a ++ b)) μ
  | x, y => match lstOf μ x, lstOf μ y with
    | some a, some b => a.length + b.length ≤ sizeLine ∧ P (.cell μ.length) (μ ++ [.lst (a ++ b)])
    | _, _ => False
theorem lr_add : LR2 K (rAddA K) wAdd := fun wd μ P vx vy x y ok rx ry h Q q => by
  unfold wAdd at h
  split at h
  · cases rx; cases ry; exact .inl ⟨_, _, rfl, rfl, q _ _ μ wd h (Le.refl _) ok (.int _)⟩
  · cases rx; cases ry; exact .inr (.inl ⟨_, _, rfl, rfl, h.1, q _ _ μ wd h.2 (Le.refl _) ok (.str _)⟩)
  · cases rx with
    | tup e1 r1 =>
      cases ry with
      | tup e2 r2 =>
        refine .inr (.inr (.inl ⟨_, _, _, _, rfl, rfl, SqT.of (ok.ex _ _ e1), SqT.of (ok.ex _ _ e2), by rw [r1.length, r2.length]; exact h.1, fun z => ?_, fun z1 z2 => ?_, fun z1 z2 p hp => ?_⟩))
        · subst z; cases r1; exact q _ _ μ wd h.2 (Le.refl _) ok (.tup e2 r2)
        · subst z2
          cases r2
          have h2 := h.2
          rw [List.append_nil] at h2
          exact q _ _ μ wd h2 (Le.refl _) ok (.tup e1 r1)
        · obtain ⟨ok2, l2⟩ := ok.frozen hp (.tup (_ ++ _))
          exact q (.ref p) _ μ _ h.2 l2 ok2 (.tup upd_same ((r1.app r2).mono l2.pre l2.ex))
  · cases e1 : lstOf μ x with
    | none => simp only [e1] at h
    | some a =>
      cases e2 : lstOf μ y with
      | none => simp only [e1, e2] at h
      | some b =>
        simp only [e1, e2] at h
        obtain ⟨p1, v1, rfl, h1, r1⟩ := rep_lst ok rx e1
        obtain ⟨p2, v2, rfl, h2, r2⟩ := rep_lst ok ry e2
        refine .inr (.inr (.inr ⟨p1, p2, v1, v2, rfl, rfl, h1, h2, by rw [r1.length, r2.length]; exact h.1, fun p hp => ?_⟩))
        obtain ⟨ok2, l2⟩ := ok.newcell (m := .lst (a ++ b)) hp (o := .lst (v1 ++ v2)) ⟨_, upd_same, r1.app r2⟩
        exact q (.ref p) _ _ _ h.2 l2 ok2 (.cell (Wd.last ok p))
def wI2 (C : Int → Int → Prop) (g : Int → Int → Int) : WR2 := fun x y μ P => match x, y with | .int a, .int b => C a b ∧ P (.int (g a b)) μ | _, _ => False
theorem lr_I {C : Int → Int → Prop} {g : Int → Int → Int} : LR2 K (rI C fun i j => .int (g i j)) (wI2 C g) := fun wd μ P vx vy x y ok rx ry h Q q => by
  unfold wI2 at h
  split at h
  · cases rx; cases ry; exact ⟨_, _, rfl, rfl, h.1, q _ _ μ wd h.2 (Le.refl _) ok (.int _)⟩
  · exact h.elim
def wI0 (g : Int → Int → Int) : WR2 := fun x y μ P => match x, y with | .int a, .int b => P (.int (g a b)) μ | _, _ => False
theorem lr_I0 {g : Int → Int → Int} : LR2 K (rI0 fun i j => .int (g i j)) (wI0 g) := fun wd μ P vx vy x y ok rx ry h Q q => by
  unfold wI0 at h
  split at h
  · cases rx; cases ry; exact ⟨_, _, rfl, rfl, q _ _ μ wd h (Le.refl _) ok (.int _)⟩
  · exact h.elim
def wB0 (g : Int → Int → Bool) : WR2 := fun x y μ P => match x, y with | .int a, .int b => P (.bl (g a b)) μ | _, _ => False
theorem lr_B0 {g : Int → Int → Bool} : LR2 K (rI0 fun i j => .bl (g i j)) (wB0 g) := fun wd μ P vx vy x y ok rx ry h Q q => by
  unfold wB0 at h
  split at h
  · cases rx; cases ry; exact ⟨_, _, rfl, rfl, q _ _ μ wd h (Le.refl _) ok (.bl _)⟩
  · exact h.elim
/-- names of the operators -/
abbrev oSub : WR2 := wI0 fun i j => i - j
abbrev oFdiv : WR2 := wI2 CDivW fun i j => i / j
abbrev oMod : WR2 := wI2 (fun _ j => 0 < j) fun i j => i % j
abbrev oPow : WR2 := wI2 CPow fun i j => i ^ j.toNat
abbrev oLt : WR2 := wB0 fun i j => decide (i < j)
abbrev oLe : WR2 := wB0 fun i j => decide (i ≤ j)
abbrev oGt : WR2 := wB0 fun i j => decide (j < i)
abbrev oGe : WR2 := wB0 fun i j => decide (j ≤ i)
/-- *: ints, a list of so many -/
def rMulA (K : PySem.W.Frag) : R2 := fun x y H Q => rI CMulW (fun i j => .int (i * j)) x y H Q ∨ rRep x y H Q
theorem op_mulA {X : Cx} : OpR X (binaryOp .Mult) (rMulA X.K) := op_mulW.or op_rep
def wMul : WR2 := fun x y μ P => match x, y with
  | .int a, .int b => CMulW a b ∧ P (.int (a * b)) μ
  | x, .int k => match lstOf μ x with
    | some a => -(2 ^ 63) ≤ k ∧ k < 2 ^ 63 ∧ a.length * k.toNat ≤ sizeLine ∧ P (.cell μ.length) (μ ++ [.lst (List.replicate k.toNat a).flatten])
    | none => False
  | _, _ => False
theorem reps_flat {α : List Addr} {F : Hp} {vs : List V} {ds : List D} (r : Reps K α F vs ds) : ∀ n : Nat, Reps K α F (List.replicate n vs).flatten (List.replicate n ds).flatten
  | 0 => .nil
  | n + 1 => by rw [List.replicate_succ, List.flatten_cons, List.replicate_succ, List.flatten_cons]; exact r.app (reps_flat r n)
theorem lr_mul : LR2 K (rMulA K) wMul := fun wd μ P vx vy x y ok rx ry h Q q => by
  unfold wMul at h
  split at h
  · cases rx; cases ry; exact .inl ⟨_, _, rfl, rfl, h.1, q _ _ μ wd h.2 (Le.refl _) ok (.int _)⟩
  · cases ry
    cases e1 : lstOf μ x with
    | none => simp only [e1] at h
    | some a =>
      simp only [e1] at h
      obtain ⟨p1, v1, rfl, h1, r1⟩ := rep_lst ok rx e1
      refine .inr ⟨p1, _, v1, rfl, rfl, h1, h.1, h.2.1, by rw [r1.length]; exact h.2.2.1, fun p hp => ?_⟩
      obtain ⟨ok2, l2⟩ := ok.newcell (m := .lst (List.replicate _ a).flatten) hp (o := .lst (List.replicate _ v1).flatten) ⟨_, upd_same, reps_flat r1 _⟩
      exact q (.ref p) _ _ _ h.2.2.2 l2 ok2 (.cell (Wd.last ok p))
  · exact h.elim
def wNeg : WR1 := fun x μ P => match x with | .int a => P (.int (-a)) μ | _ => False
theorem lr_neg : LR1 K (rU fun i => .int (-i)) wNeg := fun wd μ P vx x ok rx h Q q => by
  unfold wNeg at h
  split at h
  · cases rx; exact ⟨_, rfl, q _ _ μ wd h (Le.refl _) ok (.int _)⟩
  · exact h.elim

/-! ### == and != of data -/
mutual
def pyF (μ : Mem) : Nat → D → Option PyData
  | 0, _ => none
  | _ + 1, .non => some .none
  | _ + 1, .bl b => some (.bool b)
  | _ + 1, .int i => some (.int i)
  | _ + 1, .str s => some (.str s)
  | n + 1, .tup xs => (pyL μ n xs).map .tuple
  | n + 1, .lst xs => (pyL μ n xs).map .list
  | n + 1, .scr ns => (pyL μ n (litD ns)).map .list
  | n + 1, .cell k => match μ[k]? with | some (.lst xs) => (pyL μ n xs).map .list | _ => none
  | _ + 1, _ => none
def pyL (μ : Mem) : Nat → List D → Option (List PyData)
  | _, [] => some []
  | 0, _ :: _ => none
  | n + 1, d :: ds => match pyF μ (n + 1) d, pyL μ (n + 1) ds with
    | some a, some b => some (a :: b)
    | _, _ => none
end
mutual
theorem pyF_dp {w : Wd} {μ : Mem} (ok : Ok K w μ) : ∀ (n : Nat) (d : D) (v : V) (y : PyData), Rep K w.α w.F v d → pyF μ n d = some y → Dp K w.H v y
  | 0, _, _, _, _, h => by simp [pyF] at h
  | n + 1, .non, _, _, r, h => by cases r; simp [pyF] at h; subst h; exact .non
  | n + 1, .bl b, _, _, r, h => by cases r; simp [pyF] at h; subst h; exact .bl b
  | n + 1, .int i, _, _, r, h => by cases r; simp [pyF] at h; subst h; exact .int i
  | n + 1, .str s, _, _, r, h => by cases r; simp [pyF] at h; subst h; exact .str s
  | n + 1, .ty _, _, _, _, h => by simp [pyF] at h
  | n + 1, .ref _, _, _, _, h => by simp [pyF] at h
  | n + 1, .obj _ _, _, _, _, h => by simp [pyF] at h
  | n + 1, .exc _ _ _ _, _, _, _, h => by simp [pyF] at h
  | n + 1, .tup xs, _, _, r, h => by
    cases r with
    | tup e rs =>
      rw [pyF] at h
      cases e2 : pyL μ n xs with
      | none => rw [e2] at h; cases h
      | some ys => rw [e2] at h; cases h; exact .tup (SqT.of (ok.ex _ _ e)) (pyL_dp ok n xs _ ys rs e2)
  | n + 1, .lst xs, _, _, r, h => by
    cases r with
    | lst e rs =>
      rw [pyF] at h
      cases e2 : pyL μ n xs with
      | none => rw [e2] at h; cases h
      | some ys => rw [e2] at h; cases h; exact .lst (SqL.of (ok.ex _ _ e)) (pyL_dp ok n xs _ ys rs e2)
  | n + 1, .scr ns, _, _, r, h => by
    cases r with
    | scr e =>
      rw [pyF] at h
      cases e2 : pyL μ n (litD ns) with
      | none => rw [e2] at h; cases h
      | some ys => rw [e2] at h; cases h; exact .lst (ok.ex.seq e) (pyL_dp ok n _ _ ys (reps_ints _ _ ns) e2)
  | n + 1, .cell k, _, _, r, h => by
    rw [pyF] at h
    cases e1 : μ[k]? with
    | none => rw [e1] at h; cases h
    | some m =>
      rw [e1] at h
      cases m with
      | lst xs =>
        obtain ⟨a, vs, rfl, _, ha, rs⟩ := rep_cell_lst ok r e1
        cases e2 : pyL μ n xs with
        | none => simp only [e2] at h; cases h
        | some ys => simp only [e2] at h; cases h; exact .lst (SqL.of ha) (pyL_dp ok n xs _ ys rs e2)
      | _ => cases h
theorem pyL_dp {w : Wd} {μ : Mem} (ok : Ok K w μ) : ∀ (n : Nat) (ds : List D) (vs : List V) (ys : List PyData), Reps K w.α w.F vs ds → pyL μ n ds = some ys → DpAll K w.H vs ys
  | n, [], _, _, r, h => by cases r; simp [pyL] at h; subst h; exact .nil
  | 0, _ :: _, _, _, _, h => by simp [pyL] at h
  | n + 1, d :: ds, _, _, r, h => by
    cases r with
    | cons r rs =>
      rw [pyL] at h
      cases e1 : pyF μ (n + 1) d with
      | none => simp only [e1] at h; cases h
      | some a =>
        cases e2 : pyL μ (n + 1) ds with
        | none => simp only [e1, e2] at h; cases h
        | some b =>
          simp only [e1, e2] at h
          cases h
          exact .cons (pyF_dp ok (n + 1) d _ a r e1) (pyL_dp ok (n + 1) ds _ b rs e2)
end
def wEq (neg : Bool) : WR2 := fun x y μ P => match pyF μ 16 x, pyF μ 16 y with
  | some a, some b => SeqAt.shaped a = true ∧ SeqAt.shaped b = true ∧ P (.bl (if neg then !PyData.eqv a b else PyData.eqv a b)) μ
  | _, _ => False
theorem lr_eq : LR2 K (rEqD K) (wEq false) := fun wd μ P vx vy x y ok rx ry h Q q => by
  unfold wEq at h
  split at h
  · rename_i a b e1 e2
    exact ⟨a, b, pyF_dp ok _ _ _ _ rx e1, pyF_dp ok _ _ _ _ ry e2, h.1, h.2.1, q _ _ μ wd h.2.2 (Le.refl _) ok (.bl _)⟩
  · exact h.elim
theorem lr_ne : LR2 K (rNeD K) (wEq true) := fun wd μ P vx vy x y ok rx ry h Q q => by
  unfold wEq at h
  split at h
  · rename_i a b e1 e2
    exact ⟨a, b, pyF_dp ok _ _ _ _ rx e1, pyF_dp ok _ _ _ _ ry e2, h.1, h.2.1, q _ _ μ wd h.2.2 (Le.refl _) ok (.bl _)⟩
  · exact h.elim
theorem op_eqR {X : Cx} {k : Nat} (hr : Room k X.A) : OpR X (compareOp .Eq) (rEqD X.K) := op_eqD (by have := hr.un; omega)
theorem op_neR {X : Cx} {k : Nat} (hr : Room k X.A) : OpR X (compareOp .NotEq) (rNeD X.K) := op_neD (by have := hr.un; omega)
/-! is -/
def rIsA (neg : Bool) : R2 := fun x y H Q => (y = .non ∧ Q (.bl (if neg then !decide (x = .non) else decide (x = .non))) H)
theorem op_isA {X : Cx} : OpR X (compareOp .Is) (rIsA false) := op_isN
theorem op_isnA {X : Cx} : OpR X (compareOp .IsNot) (rIsA true) := op_notN
def isNon : D → Bool | .non => true | _ => false
def wIsN (neg : Bool) : WR2 := fun x y μ P => match y with | .non => P (.bl (if neg then !isNon x else isNon x)) μ | _ => False
theorem isNon_of {α : List Addr} {F : Hp} {v : V} {d : D} (r : Rep K α F v d) : decide (v = .non) = isNon d := by
  cases r <;> simp [isNon]
theorem lr_isN {neg : Bool} : LR2 K (rIsA neg) (wIsN neg) := fun wd μ P vx vy x y ok rx ry h Q q => by
  unfold wIsN at h
  split at h
  · cases ry
    refine ⟨rfl, ?_⟩
    rw [isNon_of rx]
    exact q _ _ μ wd h (Le.refl _) ok (.bl _)
  · exact h.elim
/-! in: flat things -/
def flatD : D → Bool
  | .non => true | .bl _ => true | .int _ => true | .str _ => true
  | _ => false
def eqFlat : D → D → Bool
  | .non, .non => true
  | .bl a, .bl b => a == b
  | .bl a, .int b => (if a then 1 else 0) == b
  | .int a, .bl b => a == (if b then 1 else 0)
  | .int a, .int b => a == b
  | .str a, .str b => a == b
  | _, _ => false
def inD (x : D) (xs : List D) : Bool := xs.any fun y => eqFlat y x
def wIn (neg : Bool) : WR2 := fun x y μ P => match seqOf μ y with
  | some xs => flatD x = true ∧ xs.all flatD = true ∧ P (.bl (if neg then !inD x xs else inD x xs)) μ
  | none => False
theorem flat_of {α : List Addr} {F : Hp} {v : V} {d : D} (r : Rep K α F v d) (h : flatD d = true) : flatV v = true := by
  cases r <;> first | rfl | cases h
theorem eqFlat_of {α : List Addr} {F : Hp} {v u : V} {d e : D} (r : Rep K α F v d) (s : Rep K α F u e) (h1 : flatD d = true) (h2 : flatD e = true) : eqV v u = eqFlat d e := by
  cases r <;> first | (cases h1; done) | (cases s <;> first | rfl | (cases h2; done))
theorem in_of {α : List Addr} {F : Hp} {v : V} {d : D} (r : Rep K α F v d) (h1 : flatD d = true) : ∀ {vs : List V} {ds : List D}, Reps K α F vs ds → ds.all flatD = true → vs.all flatV = true ∧ inV v vs = inD d ds
  | _, _, .nil, _ => ⟨rfl, rfl⟩
  | _, _, .cons s t, h => by
    rw [List.all_cons, Bool.and_eq_true] at h
    obtain ⟨a, b⟩ := in_of r h1 t h.2
    refine ⟨by rw [List.all_cons, flat_of s h.1, a]; rfl, ?_⟩
    unfold inV inD at b ⊢
    rw [List.any_cons, List.any_cons, eqFlat_of s r h.1 h1, b]
theorem lr_in {neg : Bool} : LR2 K (rIn K neg) (wIn neg) := fun wd μ P vx vy x y ok rx ry h Q q => by
  unfold wIn at h
  split at h
  · rename_i xs e
    obtain ⟨a, vs, rfl, hs, rs⟩ := rep_seq ok ry e
    obtain ⟨h1, h2⟩ := in_of rx h.1 rs h.2.1
    refine ⟨a, vs, rfl, hs, flat_of rx h.1, h1, ?_⟩
    rw [h2]
    exact q _ _ μ wd h.2.2 (Le.refl _) ok (.bl _)
  · exact h.elim
/-! truth -/
def truD (μ : Mem) : D → Option Bool
  | .non => some false
  | .bl b => some b
  | .int i => some (i != 0)
  | .tup xs => some (!xs.isEmpty)
  | .lst xs => some (!xs.isEmpty)
  | .cell n => match μ[n]? with
    | some (.lst xs) => some (!xs.isEmpty)
    | some (.dct kvs) => some (!kvs.isEmpty)
    | _ => none
  | _ => none
theorem reps_empty {α : List Addr} {F : Hp} {vs : List V} {ds : List D} (r : Reps K α F vs ds) : vs.isEmpty = ds.isEmpty := by cases r <;> rfl
theorem tru_of {w : Wd} {μ : Mem} (ok : Ok K w μ) {v : V} {d : D} (r : Rep K w.α w.F v d) {b : Bool} (h : truD μ d = some b) : TruV K v w.H b := by
  cases d with
  | non => cases h; cases r; rfl
  | bl x => cases h; cases r; rfl
  | int i => cases h; cases r; rfl
  | tup xs => cases h; cases r with | tup e rs => exact .inr (.inl ⟨_, SqT.of (ok.ex _ _ e), by rw [reps_empty rs]⟩)
  | lst xs => cases h; cases r with | lst e rs => exact .inl ⟨_, SqL.of (ok.ex _ _ e), by rw [reps_empty rs]⟩
  | cell n =>
    have h' : (match μ[n]? with | some (.lst xs) => some (!xs.isEmpty) | some (.dct kvs) => some (!kvs.isEmpty) | _ => none) = some b := h
    cases e : μ[n]? with
    | none => rw [e] at h'; cases h'
    | some m =>
      rw [e] at h'
      cases m with
      | lst xs =>
        cases h'
        obtain ⟨a, vs, rfl, _, ha, rs⟩ := rep_cell_lst ok r e
        exact .inl ⟨vs, SqL.of ha, by rw [reps_empty rs]⟩
      | dct kvs =>
        cases h'
        cases r with
        | cell hp =>
          obtain ⟨_, us, a, rk⟩ := ok.cell _ _ _ hp e (fun z => by cases z)
          refine .inr (.inr ⟨us, a, ?_⟩)
          cases rk <;> rfl
      | _ => cases h'
  | _ => cases h
def tTru (K : PySem.W.Frag) (ta : TE) : TT := fun σ H Q => ta σ H fun x H' => ∃ k, TruV K x H' k ∧ Q k H'
def wTru (a : WE) : WT := fun δ μ P XP => a δ μ (fun x μ1 => match truD μ1 x with | some b => P b μ1 | none => False) XP
theorem lt_tru {ta : TE} {a : WE} (ha : LE K W ta a) : LT K W (tTru K ta) (wTru a) := fun wd σ δ μ P XP ok env h Q q x =>
  ha wd σ δ μ _ XP ok env h _ (fun v d μ1 w1 h1 l1 ok1 r1 => by
    cases e : truD μ1 d with
    | none => simp only [e] at h1
    | some b =>
      simp only [e] at h1
      exact ⟨b, tru_of ok1 r1 e, q b μ1 w1 h1 l1 ok1⟩) x
theorem pt_tru {X : Cx} {a : Expr} {ta : TE} (ha : PE X a ta) (he : ∀ whole, isTrue a X.env whole = (do let v ← whole; standAt a.pos; holding [v] (truthy v)) := by intro _; rfl) : PT X a (tTru X.K ta) := pt_truth ha he

/-! ### subscripts -/
def wIx : WR2 := fun x y μ P => match y with
  | .int i => (match seqOf μ x with | some xs => (match atI xs i with | some d => P d μ | none => False) | none => False)
  | _ => False
theorem atI_of {α : List Addr} {F : Hp} {vs : List V} {ds : List D} (r : Reps K α F vs ds) {i : Int} {d : D} (h : atI ds i = some d) : ∃ v, atI vs i = some v ∧ Rep K α F v d := by
  unfold atI at h ⊢
  rw [r.length]
  cases e : ixN ds.length i with
  | none => rw [e] at h; cases h
  | some j =>
    rw [e] at h
    obtain ⟨v, h1, h2⟩ := r.get (i := j) (by simpa using h)
    exact ⟨v, by simpa using h1, h2⟩
theorem lr_ix : LR2 K (rIx K) wIx := fun wd μ P vx vy x y ok rx ry h Q q => by
  unfold wIx at h
  split at h
  · rename_i i
    cases ry
    cases e : seqOf μ x with
    | none => simp only [e] at h
    | some xs =>
      simp only [e] at h
      cases e2 : atI xs i with
      | none => simp only [e2] at h
      | some d =>
        simp only [e2] at h
        obtain ⟨a, vs, rfl, hs, rs⟩ := rep_seq ok rx e
        obtain ⟨v, hv, rv⟩ := atI_of rs e2
        rcases hs with hs | hs
        · exact .inl ⟨a, vs, i, v, rfl, rfl, hs, hv, q _ _ μ wd h (Le.refl _) ok rv⟩
        · exact .inr (.inl ⟨a, vs, i, v, rfl, rfl, hs, hv, q _ _ μ wd h (Le.refl _) ok rv⟩)
  · exact h.elim
/-! slices -/
abbrev WO := En → Mem → (Option Int → Mem → Prop) → QX → Prop
def LO (K : PySem.W.Frag) (W : WX) (to : TO) (wo : WO) : Prop := ∀ (wd : Wd) (σ : L2.St) (δ : En) (μ : Mem) (P : Option Int → Mem → Prop) (XP : QX), Ok K wd μ → EnvOk K wd.α wd.F σ δ → wo δ μ P XP →
  ∀ Q : Option Int → Hp → Prop, (∀ o μ' w', P o μ' → Le wd w' → Ok K w' μ' → Q o w'.H) → XL K W XP wd → to σ wd.H Q
def wNoPart : WO := fun _ μ P _ => P none μ
def wPart (a : WE) : WO := fun δ μ P XP => a δ μ (fun x μ1 => match x with | .int i => P (some i) μ1 | _ => False) XP
theorem lo_none : LO K W tNoPart wNoPart := fun wd σ δ μ P XP ok env h Q q x => q none μ wd h (Le.refl _) ok
theorem lo_some {ta : TE} {a : WE} (ha : LE K W ta a) : LO K W (tPart ta) (wPart a) := fun wd σ δ μ P XP ok env h Q q x =>
  ha wd σ δ μ _ XP ok env h _ (fun v d μ1 w1 h1 l1 ok1 r1 => by
    cases d with
    | int i => cases r1; exact ⟨i, rfl, q _ μ1 w1 h1 l1 ok1⟩
    | _ => exact h1.elim) x
def cutD (xs : List D) (lo hi : Option Int) : List D := (xs.drop (HT.sIx xs.length 0 lo)).take (HT.sIx xs.length xs.length hi - HT.sIx xs.length 0 lo)
theorem cut_of {α : List Addr} {F : Hp} {vs : List V} {ds : List D} (r : Reps K α F vs ds) (lo hi : Option Int) : Reps K α F (cutV vs lo hi) (cutD ds lo hi) := by
  unfold cutV cutD
  rw [r.length]
  exact (r.drop _).take _
theorem cut_whole {xs : List D} {lo hi : Option Int} (h : HT.sIx xs.length 0 lo = 0 ∧ HT.sIx xs.length xs.length hi = xs.length) : cutD xs lo hi = xs := by
  unfold cutD
  rw [h.1, h.2, List.drop_zero, Nat.sub_zero, List.take_length]
def rSlAA (K : PySem.W.Frag) : V → Option Int → Option Int → Hp → VK → Prop := fun x lo hi H Q => rSlL K x lo hi H Q ∨ rSlA K x lo hi H Q
theorem sl_all {X : Cx} : SlR X (rSlAA X.K) := sl_list.or sl_tupA
def wSl (a : WE) (l h : WO) : WE := fun δ μ P XP => a δ μ (fun x μ1 => l δ μ1 (fun lo μ2 => h δ μ2 (fun hi μ3 => match x with
  | .tup xs => P (.tup (cutD xs lo hi)) μ3
  | x => match seqOf μ3 x with | some xs => P (.cell μ3.length) (μ3 ++ [.lst (cutD xs lo hi)]) | none => False) XP) XP) XP
theorem rep_listy {w : Wd} {μ : Mem} (ok : Ok K w μ) {v : V} {d : D} (r : Rep K w.α w.F v d) {xs : List D} (h : seqOf μ d = some xs) (hn : ∀ ys, d ≠ .tup ys) : ∃ a vs, v = .ref a ∧ SqL K w.H a vs ∧ Reps K w.α w.F vs xs := by
  cases d with
  | lst ys => cases h; cases r with | lst e q => exact ⟨_, _, rfl, SqL.of (ok.ex _ _ e), q⟩
  | tup ys => exact absurd rfl (hn ys)
  | scr ns => cases h; cases r with | scr e => exact ⟨_, _, rfl, ok.ex.seq e, reps_ints _ _ ns⟩
  | cell n =>
    have h' : (match μ[n]? with | some (.lst xs) => some xs | _ => none) = some xs := h
    cases e : μ[n]? with
    | none => rw [e] at h'; cases h'
    | some m =>
      rw [e] at h'
      cases m with
      | lst ys => cases h'; obtain ⟨a, vs, e1, _, e2, e3⟩ := rep_cell_lst ok r e; exact ⟨a, vs, e1, SqL.of e2, e3⟩
      | _ => cases h'
  | _ => cases h
theorem le_sl {ta : TE} {tl th : TO} {a : WE} {l h : WO} (ha : LE K W ta a) (hl : LO K W tl l) (hh : LO K W th h) : LE K W (tSl (rSlAA K) ta tl th) (wSl a l h) := fun wd σ δ μ P XP ok env hw Q q x =>
  ha wd σ δ μ _ XP ok env hw _ (fun v d μ1 w1 h1 l1 ok1 r1 => hl w1 σ δ μ1 _ XP ok1 (env.le l1) h1 _ (fun lo μ2 w2 h2 l2 ok2 => hh w2 σ δ μ2 _ XP ok2 (env.le (l1.trans l2)) h2 _ (fun hi μ3 w3 h3 l3 ok3 => by
    have r3 : Rep K w3.α w3.F v d := (r1.le l2).le l3
    have L := (l1.trans l2).trans l3
    split at h3
    · cases r3 with
      | tup e rs =>
        refine .inr ⟨_, _, rfl, SqT.of (ok3.ex _ _ e), fun z => ?_, fun _ p hp => ?_⟩
        · rw [rs.length] at z
          rw [cut_whole z] at h3
          exact q _ _ μ3 w3 h3 L ok3 (.tup e rs)
        · obtain ⟨ok4, l4⟩ := ok3.frozen hp (.tup (cutV _ lo hi))
          exact q (.ref p) _ μ3 _ h3 (L.trans l4) ok4 (.tup upd_same ((cut_of rs lo hi).mono l4.pre l4.ex))
    · cases e : seqOf μ3 d with
      | none => simp only [e] at h3
      | some xs =>
        simp only [e] at h3
        rename_i hnt
        obtain ⟨a, vs, rfl, hs, rs⟩ := rep_listy ok3 r3 e hnt
        refine .inl ⟨a, vs, rfl, hs, fun p hp => ?_⟩
        obtain ⟨ok4, l4⟩ := ok3.newcell (m := .lst (cutD xs lo hi)) hp (o := .lst (cutV vs lo hi)) ⟨_, upd_same, cut_of rs lo hi⟩
        exact q (.ref p) _ _ _ h3 (L.trans l4) ok4 (.cell (Wd.last ok3 p))) ((x.le l1).le l2)) (x.le l1)) x
end PL
/-! PLh: built-in calls, methods, stores, isinstance, over data. -/
namespace PL
open PySem L2 PySem.Spec PyProof.Rows
variable {K : PySem.W.Frag} {W : WX}
def wCB (r : WRn) (a : WA) : WE := fun δ μ P XP => a δ μ (fun ds μ1 => r ds μ1 P) XP
theorem le_cb {n : Nat} {r : List V → Hp → VK → Prop} {wr : WRn} {ta : TA} {a : WA} (hr : LRn K r wr) (ha : LA K W n ta a) : LE K W (tCB r ta) (wCB wr a) := fun wd σ δ μ P XP ok env h Q q x =>
  ha wd σ δ μ _ XP ok env h _ (fun vs ds μ1 w1 h1 l1 ok1 r1 _ => hr w1 μ1 P vs ds ok1 r1 h1 Q (q.le l1)) x
theorem reps_one {α : List Addr} {F : Hp} {vs : List V} {d : D} (r : Reps K α F vs [d]) : ∃ v, vs = [v] ∧ Rep K α F v d := by
  cases r with
  | cons r t => cases t; exact ⟨_, rfl, r⟩
def one1 : List D → Option D
  | [d] => some d
  | _ => none
theorem one1_of {ds : List D} {d : D} (h : one1 ds = some d) : ds = [d] := by
  unfold one1 at h
  split at h
  · cases h; rfl
  · cases h
/-- a rule of one argument -/
def wR1 (f : D → Mem → (D → Mem → Prop) → Prop) : WRn := fun ds μ P => match one1 ds with | some d => f d μ P | none => False
theorem lr_one {r : List V → Hp → VK → Prop} {f : D → Mem → (D → Mem → Prop) → Prop} (hf : ∀ (wd : Wd) (μ : Mem) (P : D → Mem → Prop) (v : V) (d : D), Ok K wd μ → Rep K wd.α wd.F v d → f d μ P → ∀ Q : VK, VL K P wd Q → r [v] wd.H Q) : LRn K r (wR1 f) :=
  fun wd μ P vs ds ok rs h Q q => by
    unfold wR1 at h
    cases e : one1 ds with
    | none => simp only [e] at h
    | some d =>
      simp only [e] at h
      rw [one1_of e] at rs
      obtain ⟨v, rfl, r⟩ := reps_one rs
      exact hf wd μ P v d ok r h Q q
/-- len -/
def lenOf (μ : Mem) : D → Option Nat
  | .str s => if s.length ≤ sizeLine then some s.length else none
  | x => (seqOf μ x).map List.length
def wLen : WRn := wR1 fun d μ P => match lenOf μ d with | some n => P (.int (n : Nat)) μ | none => False
theorem lr_len : LRn K (fun xs H Q => ∃ x n, xs = [x] ∧ LenV K x H n ∧ Q (.int n) H) wLen := lr_one fun wd μ P v d ok r h Q q => by
  cases e : lenOf μ d with
  | none => simp only [e] at h
  | some n =>
    simp only [e] at h
    refine ⟨v, n, rfl, ?_, q _ _ μ wd h (Le.refl _) ok (.int _)⟩
    unfold lenOf at e
    split at e
    · rename_i s
      cases r
      by_cases hz : s.length ≤ sizeLine
      · rw [if_pos hz] at e; cases e; exact ⟨hz, rfl⟩
      · rw [if_neg hz] at e; cases e
    · cases e2 : seqOf μ d with
      | none => rw [e2] at e; cases e
      | some xs =>
        rw [e2] at e
        cases e
        obtain ⟨a, vs, rfl, hs, rs⟩ := rep_seq ok r e2
        rcases hs with hs | hs
        · exact .inl ⟨vs, hs, rs.length.symm⟩
        · exact .inr ⟨vs, hs, rs.length.symm⟩
def wAbs : WRn := wR1 fun d μ P => match d with | .int i => P (.int (if i < 0 then -i else i)) μ | _ => False
theorem lr_abs : LRn K (fun xs H Q => ∃ i, xs = [.int i] ∧ Q (.int (if i < 0 then -i else i)) H) wAbs := lr_one fun wd μ P v d ok r h Q q => by
  cases d with
  | int i => cases r; exact ⟨i, rfl, q _ _ μ wd h (Le.refl _) ok (.int _)⟩
  | _ => exact h.elim
def wIntC : WRn := wR1 fun d μ P => match d with | .int i => P (.int i) μ | .bl k => P (.int (if k then 1 else 0)) μ | _ => False
theorem lr_intC : LRn K (fun xs H Q => (∃ i, xs = [.int i] ∧ Q (.int i) H) ∨ ∃ k, xs = [.bl k] ∧ Q (.int (if k then 1 else 0)) H) wIntC := lr_one fun wd μ P v d ok r h Q q => by
  cases d with
  | int i => cases r; exact .inl ⟨i, rfl, q _ _ μ wd h (Le.refl _) ok (.int _)⟩
  | bl k => cases r; exact .inr ⟨k, rfl, q _ _ μ wd h (Le.refl _) ok (.int _)⟩
  | _ => exact h.elim
/-- list(..), tuple(..) -/
def wListC : WRn := wR1 fun d μ P => match seqOf μ d with | some xs => P (.cell μ.length) (μ ++ [.lst xs]) | none => False
theorem lr_listC : LRn K (fun xs H Q => ∃ p ys, xs = [.ref p] ∧ (SqL K H p ys ∨ SqT K H p ys) ∧ ∀ l, H l = none → Q (.ref l) (upd H l (.lst ys))) wListC := lr_one fun wd μ P v d ok r h Q q => by
  cases e : seqOf μ d with
  | none => simp only [e] at h
  | some xs =>
    simp only [e] at h
    obtain ⟨a, vs, rfl, hs, rs⟩ := rep_seq ok r e
    refine ⟨a, vs, rfl, hs, fun p hp => ?_⟩
    obtain ⟨ok2, l2⟩ := ok.newcell (m := .lst xs) hp (o := .lst vs) ⟨_, upd_same, rs⟩
    exact q (.ref p) _ _ _ h l2 ok2 (.cell (Wd.last ok p))
def wTupC : WRn := wR1 fun d μ P => match seqOf μ d with | some xs => P (.tup xs) μ | none => False
theorem lr_tupC : LRn K (fun xs H Q => ∃ p ys, xs = [.ref p] ∧ ((SqL K H p ys ∧ ∀ l, H l = none → Q (.ref l) (upd H l (.tup ys))) ∨ (SqT K H p ys ∧ Q (.ref p) H))) wTupC := lr_one fun wd μ P v d ok r h Q q => by
  cases e : seqOf μ d with
  | none => simp only [e] at h
  | some xs =>
    simp only [e] at h
    by_cases ht : ∃ ys, d = .tup ys
    · obtain ⟨ys, rfl⟩ := ht
      cases e
      cases r with
      | tup e rs => exact ⟨_, _, rfl, .inr ⟨SqT.of (ok.ex _ _ e), q _ _ μ wd h (Le.refl _) ok (.tup e rs)⟩⟩
    · obtain ⟨a, vs, rfl, hs, rs⟩ := rep_listy ok r e (fun ys z => ht ⟨ys, z⟩)
      refine ⟨a, vs, rfl, .inl ⟨hs, fun p hp => ?_⟩⟩
      obtain ⟨ok2, l2⟩ := ok.frozen hp (.tup vs)
      exact q (.ref p) _ μ _ h l2 ok2 (.tup upd_same (rs.mono l2.pre l2.ex))
/-! lists of ints: sum, max, min, sorted -/
def intsOf : List D → Option (List Int)
  | [] => some []
  | .int i :: ds => (intsOf ds).map (i :: ·)
  | _ :: _ => none
theorem intsOf_reps {α : List Addr} {F : Hp} : ∀ {vs : List V} {ds : List D} {ns : List Int}, Reps K α F vs ds → intsOf ds = some ns → vs = ns.map V.int
  | _, _, _, .nil, h => by cases h; rfl
  | _, .int i :: ds, _, .cons r t, h => by
    cases r
    rw [intsOf] at h
    cases e : intsOf ds with
    | none => rw [e] at h; cases h
    | some ns => rw [e] at h; cases h; rw [intsOf_reps t e]; rfl
/-- a list (no tuple) of ints -/
def intL (μ : Mem) (d : D) : Option (List Int) := match d with
  | .tup _ => none
  | d => match seqOf μ d with | some xs => intsOf xs | none => none
theorem rep_intL {w : Wd} {μ : Mem} (ok : Ok K w μ) {v : V} {d : D} (r : Rep K w.α w.F v d) {ns : List Int} (h : intL μ d = some ns) : ∃ a, v = .ref a ∧ SqL K w.H a (ns.map V.int) := by
  unfold intL at h
  split at h
  · cases h
  · rename_i hn
    cases e : seqOf μ d with
    | none => simp only [e] at h; cases h
    | some xs =>
      simp only [e] at h
      obtain ⟨a, vs, rfl, hs, rs⟩ := rep_listy ok r e hn
      exact ⟨a, rfl, by rw [← intsOf_reps rs h]; exact hs⟩
def wSum : WRn := wR1 fun d μ P => match intL μ d with | some ns => P (.int ns.sum) μ | none => False
theorem lr_sum : LRn K (rSum K) wSum := lr_one fun wd μ P v d ok r h Q q => by
  cases e : intL μ d with
  | none => simp only [e] at h
  | some ns =>
    simp only [e] at h
    obtain ⟨a, rfl, hs⟩ := rep_intL ok r e
    exact ⟨a, ns, rfl, hs, q _ _ μ wd h (Le.refl _) ok (.int _)⟩
/-- max, min: of two ints, or of a list -/
def wMaxC : WRn := fun ds μ P => match ints2 ds with
  | some (i, j) => P (.int (if j > i then j else i)) μ
  | none => match one1 ds with
    | some d => (match intL μ d with | some ns => 0 < ns.length ∧ ∀ m, m ∈ ns → (∀ y, y ∈ ns → y ≤ m) → P (.int m) μ | none => False)
    | none => False
theorem lr_max : LRn K (fun xs H Q => (∃ i j, xs = [.int i, .int j] ∧ Q (.int (if j > i then j else i)) H) ∨ rMax K xs H Q) wMaxC := fun wd μ P vs ds ok rs h Q q => by
  unfold wMaxC at h
  cases e : ints2 ds with
  | some p =>
    obtain ⟨i, j⟩ := p
    simp only [e] at h
    rw [ints2_of e] at rs
    exact .inl ⟨i, j, reps2 rs, q _ _ μ wd h (Le.refl _) ok (.int _)⟩
  | none =>
    simp only [e] at h
    cases e1 : one1 ds with
    | none => simp only [e1] at h
    | some d =>
      simp only [e1] at h
      rw [one1_of e1] at rs
      obtain ⟨v, rfl, r⟩ := reps_one rs
      cases e2 : intL μ d with
      | none => simp only [e2] at h
      | some ns =>
        simp only [e2] at h
        obtain ⟨a, rfl, hs⟩ := rep_intL ok r e2
        exact .inr ⟨a, ns, rfl, hs, h.1, fun m h1 h2 => q _ _ μ wd (h.2 m h1 h2) (Le.refl _) ok (.int _)⟩
def wMinC : WRn := fun ds μ P => match ints2 ds with
  | some (i, j) => P (.int (if j < i then j else i)) μ
  | none => match one1 ds with
    | some d => (match intL μ d with | some ns => 0 < ns.length ∧ ∀ m, m ∈ ns → (∀ y, y ∈ ns → m ≤ y) → P (.int m) μ | none => False)
    | none => False
theorem lr_min : LRn K (fun xs H Q => (∃ i j, xs = [.int i, .int j] ∧ Q (.int (if j < i then j else i)) H) ∨ rMin K xs H Q) wMinC := fun wd μ P vs ds ok rs h Q q => by
  unfold wMinC at h
  cases e : ints2 ds with
  | some p =>
    obtain ⟨i, j⟩ := p
    simp only [e] at h
    rw [ints2_of e] at rs
    exact .inl ⟨i, j, reps2 rs, q _ _ μ wd h (Le.refl _) ok (.int _)⟩
  | none =>
    simp only [e] at h
    cases e1 : one1 ds with
    | none => simp only [e1] at h
    | some d =>
      simp only [e1] at h
      rw [one1_of e1] at rs
      obtain ⟨v, rfl, r⟩ := reps_one rs
      cases e2 : intL μ d with
      | none => simp only [e2] at h
      | some ns =>
        simp only [e2] at h
        obtain ⟨a, rfl, hs⟩ := rep_intL ok r e2
        exact .inr ⟨a, ns, rfl, hs, h.1, fun m h1 h2 => q _ _ μ wd (h.2 m h1 h2) (Le.refl _) ok (.int _)⟩
theorem cr_maxA {X : Cx} (hc : X.calm = true) : CallR X (.builtin "max") (fun xs H Q => (∃ i j, xs = [.int i, .int j] ∧ Q (.int (if j > i then j else i)) H) ∨ rMax X.K xs H Q) := (call_max2 hc).or (cr_max hc)
theorem cr_minA {X : Cx} (hc : X.calm = true) : CallR X (.builtin "min") (fun xs H Q => (∃ i j, xs = [.int i, .int j] ∧ Q (.int (if j < i then j else i)) H) ∨ rMin X.K xs H Q) := (call_min2 hc).or (cr_min hc)
def wSorted : WRn := wR1 fun d μ P => match intL μ d with | some ns => ∀ ns' : List Int, ns'.Perm ns → ns'.Pairwise (· ≤ ·) → P (.cell μ.length) (μ ++ [.lst (litD ns')]) | none => False
theorem lr_sorted : LRn K (rSortedI K) wSorted := lr_one fun wd μ P v d ok r h Q q => by
  cases e : intL μ d with
  | none => simp only [e] at h
  | some ns =>
    simp only [e] at h
    obtain ⟨a, rfl, hs⟩ := rep_intL ok r e
    refine ⟨a, ns, rfl, hs, fun ns' p h1 h2 hp => ?_⟩
    obtain ⟨ok2, l2⟩ := ok.newcell (m := .lst (litD ns')) hp (o := .lst (ns'.map V.int)) ⟨_, upd_same, reps_ints _ _ ns'⟩
    exact q (.ref p) _ _ _ (h ns' h1 h2) l2 ok2 (.cell (Wd.last ok p))
/-! lists of truths: all, any -/
def blsOf : List D → Option (List Bool)
  | [] => some []
  | .bl i :: ds => (blsOf ds).map (i :: ·)
  | _ :: _ => none
theorem blsOf_reps {α : List Addr} {F : Hp} : ∀ {vs : List V} {ds : List D} {ns : List Bool}, Reps K α F vs ds → blsOf ds = some ns → vs = ns.map V.bl
  | _, _, _, .nil, h => by cases h; rfl
  | _, .bl i :: ds, _, .cons r t, h => by
    cases r
    rw [blsOf] at h
    cases e : blsOf ds with
    | none => rw [e] at h; cases h
    | some ns => rw [e] at h; cases h; rw [blsOf_reps t e]; rfl
def blL (μ : Mem) (d : D) : Option (List Bool) := match d with
  | .tup _ => none
  | d => match seqOf μ d with | some xs => blsOf xs | none => none
theorem rep_blL {w : Wd} {μ : Mem} (ok : Ok K w μ) {v : V} {d : D} (r : Rep K w.α w.F v d) {ns : List Bool} (h : blL μ d = some ns) : ∃ a, v = .ref a ∧ SqL K w.H a (ns.map V.bl) := by
  unfold blL at h
  split at h
  · cases h
  · rename_i hn
    cases e : seqOf μ d with
    | none => simp only [e] at h; cases h
    | some xs =>
      simp only [e] at h
      obtain ⟨a, vs, rfl, hs, rs⟩ := rep_listy ok r e hn
      exact ⟨a, rfl, by rw [← blsOf_reps rs h]; exact hs⟩
def wAll : WRn := wR1 fun d μ P => match blL μ d with | some bs => P (.bl (bs.all id)) μ | none => False
theorem lr_all : LRn K (rAll K) wAll := lr_one fun wd μ P v d ok r h Q q => by
  cases e : blL μ d with
  | none => simp only [e] at h
  | some bs =>
    simp only [e] at h
    obtain ⟨a, rfl, hs⟩ := rep_blL ok r e
    exact ⟨a, bs, rfl, hs, q _ _ μ wd h (Le.refl _) ok (.bl _)⟩
def wAny : WRn := wR1 fun d μ P => match blL μ d with | some bs => P (.bl (bs.any id)) μ | none => False
theorem lr_any : LRn K (rAny K) wAny := lr_one fun wd μ P v d ok r h Q q => by
  cases e : blL μ d with
  | none => simp only [e] at h
  | some bs =>
    simp only [e] at h
    obtain ⟨a, rfl, hs⟩ := rep_blL ok r e
    exact ⟨a, bs, rfl, hs, q _ _ μ wd h (Le.refl _) ok (.bl _)⟩

/-! ### isinstance -/
def tagOf (μ : Mem) : D → Option (Sum String Addr)
  | .non => some (.inl "NoneType")
  | .bl _ => some (.inl "bool")
  | .int _ => some (.inl "int")
  | .str _ => some (.inl "str")
  | .tup _ => some (.inl "tuple")
  | .lst _ => some (.inl "list")
  | .scr _ => some (.inl "list")
  | .obj C _ => some (.inr C)
  | .cell n => match μ[n]? with
    | some (.lst _) => some (.inl "list")
    | some (.dct _) => some (.inl "dict")
    | some (.ins C _) => some (.inr C)
    | _ => none
  | _ => none
def tagV : Sum String Addr → Value
  | .inl n => .type n
  | .inr C => .ref C
def clsDV : D → Option Value
  | .ty n => some (.type n)
  | .ref C => some (.ref C)
  | _ => none
def kitD (K : PySem.W.Frag) (t : Sum String Addr) (c : D) : Option Bool := match clsDV c with | some cv => PySem.W.kitOne K (tagV t) cv | none => none
def kitDs (K : PySem.W.Frag) (t : Sum String Addr) : List D → Option Bool
  | [] => some false
  | c :: cs => match kitD K t c with
    | some true => (match clsDs cs with | true => some true | false => none)
    | some false => kitDs K t cs
    | none => none
where clsDs : List D → Bool
  | [] => true
  | c :: cs => (clsDV c).isSome && clsDs cs
/-- what is asked of an own class's instances -/
structure InsC (K : PySem.W.Frag) (C : Addr) : Prop where
  cl : Cls K C
  ha : PySem.W.findIn K (.ref C) "__class__" = some (some (.builtin "object.__class__"))
  hn : PySem.W.specialIn K (.builtin "object.__class__") "__get__" = some (some (.builtin "getset_descriptor.__get__"))
  htk : PySem.W.takesIn K (.builtin "object.__class__") = some true
  hm : PySem.W.mroIn K C (.type "object") = some true
theorem tag_of {w : Wd} {μ : Mem} (ok : Ok K w μ) {v : V} {d : D} (r : Rep K w.α w.F v d) {t : Sum String Addr} (h : tagOf μ d = some t) (hi : ∀ C, t = .inr C → InsC K C) : TyX K w.H v (tagV t) := by
  cases d with
  | non => cases h; cases r; exact .base .non
  | bl b => cases h; cases r; exact .base (.bl b)
  | int i => cases h; cases r; exact .base (.int i)
  | str s => cases h; cases r; exact .base (.str s)
  | tup xs => cases h; cases r with | tup e _ => exact .base (.tup (ok.ex _ _ e))
  | lst xs => cases h; cases r with | lst e _ => exact .base (.lst (ok.ex _ _ e))
  | scr ns =>
    cases h
    cases r with
    | scr e =>
      rcases ok.ex.seq e with (e | ⟨o, e⟩) | ⟨o, its, n, e1, e2, _⟩
      · exact .base (.lst e)
      · exact .base (.frz e)
      · exact .kList e1 e2
  | obj C fs => cases h; cases r with | obj e _ => have i := hi C rfl; exact .base (.ins (ok.ex _ _ e) i.cl i.ha i.hn i.htk i.hm)
  | cell n =>
    have h' : (match μ[n]? with | some (.lst _) => some (.inl "list") | some (.dct _) => some (.inl "dict") | some (.ins C _) => some (.inr C) | _ => none) = some t := h
    cases e : μ[n]? with
    | none => rw [e] at h'; cases h'
    | some m =>
      rw [e] at h'
      cases r with
      | cell hp =>
        cases m with
        | lst xs => cases h'; obtain ⟨_, vs, a, _⟩ := ok.cell _ _ _ hp e (fun z => by cases z); exact .base (.lst a)
        | dct kvs => cases h'; obtain ⟨_, vs, a, _⟩ := ok.cell _ _ _ hp e (fun z => by cases z); exact .base (.dK a)
        | set ww S n => cases h'
        | ins C fs => cases h'; obtain ⟨_, dx, vs, a, _⟩ := ok.cell _ _ _ hp e (fun z => by cases z); have i := hi C rfl; exact .base (.ins a i.cl i.ha i.hn i.htk i.hm)
        | dead => cases h'
  | _ => cases h
theorem clsDV_of {α : List Addr} {F : Hp} {v : V} {c : D} (r : Rep K α F v c) {cv : Value} (h : clsDV c = some cv) : ClsV v cv := by
  cases c with
  | ty n => cases h; cases r; exact .ty n
  | ref a => cases h; cases r; exact .own a
  | _ => cases h
theorem clsDs_of {α : List Addr} {F : Hp} : ∀ {vs : List V} {cs : List D}, Reps K α F vs cs → kitDs.clsDs cs = true → ∃ us, Paired ClsV vs us
  | _, _, .nil, _ => ⟨[], .nil⟩
  | _, c :: cs, .cons r t, h => by
    rw [kitDs.clsDs, Bool.and_eq_true] at h
    obtain ⟨us, p⟩ := clsDs_of t h.2
    cases e : clsDV c with
    | none => rw [e] at h; cases h.1
    | some cv => exact ⟨cv :: us, .cons (clsDV_of r e) p⟩
theorem kitDs_of {α : List Addr} {F : Hp} {t : Sum String Addr} : ∀ {vs : List V} {cs : List D} {b : Bool}, Reps K α F vs cs → kitDs K t cs = some b → ∃ us, Paired ClsV vs us ∧ PySem.W.kitAny K (tagV t) us = some b
  | _, _, _, .nil, h => by cases h; exact ⟨[], .nil, rfl⟩
  | _, c :: cs, b, .cons r s, h => by
    rw [kitDs] at h
    unfold kitD at h
    cases e : clsDV c with
    | none => simp only [e] at h; cases h
    | some cv =>
      simp only [e] at h
      cases e2 : PySem.W.kitOne K (tagV t) cv with
      | none => simp only [e2] at h; cases h
      | some k =>
        simp only [e2] at h
        cases k with
        | true =>
          simp only at h
          cases e3 : kitDs.clsDs cs with
          | false => simp only [e3] at h; cases h
          | true =>
            simp only [e3] at h
            cases h
            obtain ⟨us, p⟩ := clsDs_of s e3
            exact ⟨cv :: us, .cons (clsDV_of r e) p, kitAny_cons e2 (fun z => nomatch z) fun _ => rfl⟩
        | false =>
          simp only at h
          obtain ⟨us, p, q⟩ := kitDs_of s h
          exact ⟨cv :: us, .cons (clsDV_of r e) p, kitAny_cons e2 (fun _ => q) fun z => nomatch z⟩
def two2 : List D → Option (D × D)
  | [a, b] => some (a, b)
  | _ => none
theorem two2_of {ds : List D} {a b : D} (h : two2 ds = some (a, b)) : ds = [a, b] := by
  unfold two2 at h
  split at h
  · cases h; rfl
  · cases h
theorem reps_two {α : List Addr} {F : Hp} {vs : List V} {d e : D} (r : Reps K α F vs [d, e]) : ∃ v u, vs = [v, u] ∧ Rep K α F v d ∧ Rep K α F u e := by
  cases r with
  | cons r t => cases t with | cons r2 t => cases t; exact ⟨_, _, rfl, r, r2⟩
def rIsiA (K : PySem.W.Frag) : List V → Hp → VK → Prop := fun xs H Q => rIsi K xs H Q ∨ rIsiT K xs H Q
theorem cr_isi {X : Cx} : CallR X (.builtin "isinstance") (rIsiA X.K) := call_isi.or call_isiT
def isiD (K : PySem.W.Frag) (μ : Mem) (x c : D) : Option (Sum String Addr × Bool) := match tagOf μ x with
  | some t => (match c with
    | .tup cs => (kitDs K t cs).map fun b => (t, b)
    | c => (kitD K t c).map fun b => (t, b))
  | none => none
def wIsi (K : PySem.W.Frag) : WRn := fun ds μ P => match two2 ds with
  | some (x, c) => (match isiD K μ x c with
    | some (t, b) => (∀ C, t = .inr C → InsC K C) ∧ P (.bl b) μ
    | none => False)
  | none => False
theorem lr_isi : LRn K (rIsiA K) (wIsi K) := fun wd μ P vs ds ok rs h Q q => by
  unfold wIsi at h
  cases e : two2 ds with
  | none => simp only [e] at h
  | some p =>
    obtain ⟨x, c⟩ := p
    simp only [e] at h
    rw [two2_of e] at rs
    obtain ⟨v, u, rfl, rx, rc⟩ := reps_two rs
    unfold isiD at h
    cases et : tagOf μ x with
    | none => simp only [et] at h
    | some t =>
      simp only [et] at h
      cases c with
      | tup cs =>
        cases ek : kitDs K t cs with
        | none => simp only [ek, Option.map_none] at h
        | some b =>
          simp only [ek, Option.map_some] at h
          cases rc with
          | tup e1 r1 =>
            obtain ⟨us, p, kk⟩ := kitDs_of r1 ek
            exact .inr ⟨v, _, _, _, us, b, rfl, ok.ex _ _ e1, p, tag_of ok rx et h.1, kk, q _ _ μ wd h.2 (Le.refl _) ok (.bl _)⟩
      | ty n =>
        cases ek : kitD K t (.ty n) with
        | none => simp only [ek, Option.map_none] at h
        | some b =>
          simp only [ek, Option.map_some] at h
          exact .inl ⟨v, u, _, _, b, rfl, clsDV_of rc rfl, tag_of ok rx et h.1, ek, q _ _ μ wd h.2 (Le.refl _) ok (.bl _)⟩
      | ref C =>
        cases ek : kitD K t (.ref C) with
        | none => simp only [ek, Option.map_none] at h
        | some b =>
          simp only [ek, Option.map_some] at h
          exact .inl ⟨v, u, _, _, b, rfl, clsDV_of rc rfl, tag_of ok rx et h.1, ek, q _ _ μ wd h.2 (Le.refl _) ok (.bl _)⟩
      | _ => simp only [kitD, clsDV, Option.map_none] at h

/-! ### methods of lists, stores -/
abbrev WM := D → List D → Mem → (D → Mem → Prop) → Prop
def LRm (K : PySem.W.Frag) (r : V → List V → Hp → VK → Prop) (wr : WM) : Prop := ∀ (wd : Wd) (μ : Mem) (P : D → Mem → Prop) (v : V) (d : D) (vs : List V) (ds : List D), Ok K wd μ → Rep K wd.α wd.F v d → Reps K wd.α wd.F vs ds → wr d ds μ P → ∀ Q : VK, VL K P wd Q → r v vs wd.H Q
/-- o.m(..) of a list -/
def wBM (wr : WM) (o : WE) (a : WA) : WE := fun δ μ P XP => o δ μ (fun x μ1 => (lstOf μ1 x).isSome = true ∧ a δ μ1 (fun ds μ2 => wr x ds μ2 P) XP) XP
def wBM0 (wr : WM) (o : WE) : WE := fun δ μ P XP => o δ μ (fun x μ1 => (lstOf μ1 x).isSome = true ∧ wr x [] μ1 P) XP
theorem tyv_list {w : Wd} {μ : Mem} (ok : Ok K w μ) {v : V} {d : D} (r : Rep K w.α w.F v d) (h : (lstOf μ d).isSome = true) : tyV K "list" v w.H := by
  obtain ⟨xs, e⟩ := Option.isSome_iff_exists.mp h
  obtain ⟨a, vs, rfl, ha, _⟩ := rep_lst ok r e
  exact .inl ⟨rfl, vs, SqL.of ha⟩
theorem le_bm {n : Nat} {r : V → List V → Hp → VK → Prop} {wr : WM} {to : TE} {ta : TA} {o : WE} {a : WA} (hr : LRm K r wr) (ho : LE K W to o) (ha : LA K W n ta a) : LE K W (tBM K "list" r to ta) (wBM wr o a) := fun wd σ δ μ P XP ok env h Q q x =>
  ho wd σ δ μ _ XP ok env h _ (fun v d μ1 w1 h1 l1 ok1 r1 => ⟨tyv_list ok1 r1 h1.1, ha w1 σ δ μ1 _ XP ok1 (env.le l1) h1.2 _ (fun vs ds μ2 w2 h2 l2 ok2 r2 _ => hr w2 μ2 P v d vs ds ok2 (r1.le l2) r2 h2 Q (q.le (l1.trans l2))) (x.le l1)⟩) x
theorem le_bm0 {r : V → List V → Hp → VK → Prop} {wr : WM} {to : TE} {o : WE} (hr : LRm K r wr) (ho : LE K W to o) : LE K W (tBM0 K "list" r to) (wBM0 wr o) := fun wd σ δ μ P XP ok env h Q q x =>
  ho wd σ δ μ _ XP ok env h _ (fun v d μ1 w1 h1 l1 ok1 r1 => ⟨tyv_list ok1 r1 h1.1, hr w1 μ1 P v d [] [] ok1 r1 .nil h1.2 Q (q.le l1)⟩) x
/-- the list in a cell -/
def cellL (μ : Mem) : D → Option (Nat × List D)
  | .cell n => match μ[n]? with | some (.lst xs) => some (n, xs) | _ => none
  | _ => none
theorem rep_cellL {w : Wd} {μ : Mem} (ok : Ok K w μ) {v : V} {d : D} (r : Rep K w.α w.F v d) {n : Nat} {xs : List D} (h : cellL μ d = some (n, xs)) :
    ∃ a vs, v = .ref a ∧ w.α[n]? = some a ∧ μ[n]? = some (.lst xs) ∧ w.H a = some (.lst vs) ∧ Reps K w.α w.F vs xs := by
  cases d with
  | cell m =>
    have h' : (match μ[m]? with | some (.lst xs) => some (m, xs) | _ => none) = some (n, xs) := h
    cases e : μ[m]? with
    | none => rw [e] at h'; cases h'
    | some k =>
      rw [e] at h'
      cases k with
      | lst ys => cases h'; obtain ⟨a, vs, e1, e2, e3, e4⟩ := rep_cell_lst ok r e; exact ⟨a, vs, e1, e2, e, e3, e4⟩
      | _ => cases h'
  | _ => cases h
theorem Ok.putL {w : Wd} {μ : Mem} (ok : Ok K w μ) {n : Nat} {a : Addr} {xs ys : List D} {us : List V} (ha : w.α[n]? = some a) (hm : μ[n]? = some (.lst xs)) (r : Reps K w.α w.F us ys) :
    Ok K ⟨w.α, w.F, upd w.H a (.lst us)⟩ (μ.set n (.lst ys)) ∧ Le w ⟨w.α, w.F, upd w.H a (.lst us)⟩ := ok.setcell ha hm (fun z => by cases z) (m' := .lst ys) (o := .lst us) ⟨us, upd_same, r⟩
def wAppend : WM := fun x ds μ P => match cellL μ x, one1 ds with | some (n, xs), some y => xs.length < sizeLine ∧ P .non (μ.set n (.lst (xs ++ [y]))) | _, _ => False
theorem lm_append : LRm K rAppend wAppend := fun wd μ P v d vs ds ok r rs h Q q => by
  unfold wAppend at h
  split at h
  · rename_i n xs y e1 e2
    rw [one1_of e2] at rs
    obtain ⟨u, rfl, ry⟩ := reps_one rs
    obtain ⟨a, us, rfl, h1, h2, h3, h4⟩ := rep_cellL ok r e1
    obtain ⟨ok2, l2⟩ := ok.putL h1 h2 (h4.app (.cons ry .nil))
    exact ⟨a, us, u, rfl, rfl, h3, by rw [h4.length]; exact h.1, q .non .non _ _ h.2 l2 ok2 .non⟩
  · exact h.elim
def wPop : WM := fun x ds μ P => match cellL μ x, ds with | some (n, xs), [] => (match xs[xs.length - 1]? with | some y => P y (μ.set n (.lst xs.dropLast)) | none => False) | _, _ => False
theorem Reps.dropLast {α : List Addr} {F : Hp} {vs : List V} {ds : List D} (r : Reps K α F vs ds) : Reps K α F vs.dropLast ds.dropLast := by
  rw [List.dropLast_eq_take, List.dropLast_eq_take, r.length]; exact r.take _
theorem Reps.eraseIdx : ∀ {vs : List V} {ds : List D} (k : Nat), Reps K α F vs ds → Reps K α F (vs.eraseIdx k) (ds.eraseIdx k)
  | _, _, _, .nil => .nil
  | _, _, 0, .cons _ t => t
  | _, _, k + 1, .cons r t => .cons r (Reps.eraseIdx k t)
theorem lm_pop : LRm K rPop wPop := fun wd μ P v d vs ds ok r rs h Q q => by
  unfold wPop at h
  split at h
  · rename_i n xs e1
    cases rs
    obtain ⟨a, us, rfl, h1, h2, h3, h4⟩ := rep_cellL ok r e1
    cases e : xs[xs.length - 1]? with
    | none => simp only [e] at h
    | some y =>
      simp only [e] at h
      obtain ⟨u, hu, ru⟩ := h4.get e
      obtain ⟨ok2, l2⟩ := ok.putL h1 h2 h4.dropLast
      exact ⟨a, us, u, rfl, rfl, h3, by rw [h4.length]; exact hu, q u y _ _ h l2 ok2 (ru.le l2)⟩
  · exact h.elim
def wPopAt : WM := fun x ds μ P => match cellL μ x, ints1 ds with
  | some (n, xs), some i => (-(2 ^ 63) ≤ i ∧ i < 2 ^ 63) ∧ (match seqIndex? i xs.length with | some k => (match xs[k]? with | some y => P y (μ.set n (.lst (xs.eraseIdx k))) | none => False) | none => False)
  | _, _ => False
theorem lm_popAt : LRm K rPopAt wPopAt := fun wd μ P v d vs ds ok r rs h Q q => by
  unfold wPopAt at h
  split at h
  · rename_i n xs i e1 e2
    rw [ints1_of e2] at rs
    have ev := reps1 rs
    subst ev
    obtain ⟨a, us, rfl, h1, h2, h3, h4⟩ := rep_cellL ok r e1
    obtain ⟨hb, h⟩ := h
    cases e : seqIndex? i xs.length with
    | none => simp only [e] at h
    | some k =>
      simp only [e] at h
      cases ey : xs[k]? with
      | none => simp only [ey] at h
      | some y =>
        simp only [ey] at h
        obtain ⟨u, hu, ru⟩ := h4.get ey
        obtain ⟨ok2, l2⟩ := ok.putL h1 h2 (h4.eraseIdx k)
        exact ⟨a, us, i, k, u, rfl, rfl, h3, hb.1, hb.2, by rw [h4.length]; exact e, hu, q u y _ _ h l2 ok2 (ru.le l2)⟩
  · exact h.elim
def intAny : List D → Option (Int × D)
  | [.int i, y] => some (i, y)
  | _ => none
theorem intAny_of {ds : List D} {i : Int} {y : D} (h : intAny ds = some (i, y)) : ds = [.int i, y] := by
  unfold intAny at h
  split at h
  · cases h; rfl
  · cases h
def rInsert : V → List V → Hp → VK → Prop := fun x vs H Q => ∃ (l : Addr) (xs : List V) (i : Int) (y : V), x = .ref l ∧ vs = [.int i, y] ∧ H l = some (.lst xs) ∧ xs.length < sizeLine ∧ 0 ≤ i ∧ i < 2 ^ 63 ∧
    Q .non (upd H l (.lst (xs.take i.toNat ++ [y] ++ xs.drop i.toNat)))
def wInsert : WM := fun x ds μ P => match cellL μ x, intAny ds with
  | some (n, xs), some (i, y) => xs.length < sizeLine ∧ (0 ≤ i ∧ i < 2 ^ 63) ∧ P .non (μ.set n (.lst (xs.take i.toNat ++ [y] ++ xs.drop i.toNat)))
  | _, _ => False
theorem lm_insert : LRm K rInsert wInsert := fun wd μ P v d vs ds ok r rs h Q q => by
  unfold wInsert at h
  split at h
  · rename_i n xs i y e1 e2
    rw [intAny_of e2] at rs
    obtain ⟨v1, v2, rfl, ri, ry⟩ := reps_two rs
    cases ri
    obtain ⟨a, us, rfl, h1, h2, h3, h4⟩ := rep_cellL ok r e1
    obtain ⟨ok2, l2⟩ := ok.putL h1 h2 (((h4.take i.toNat).app (.cons ry .nil)).app (h4.drop i.toNat))
    exact ⟨a, us, i, v2, rfl, rfl, h3, by rw [h4.length]; exact h.1, h.2.1.1, h.2.1.2, q .non .non _ _ h.2.2 l2 ok2 .non⟩
  · exact h.elim
def wExtend : WM := fun x ds μ P => match cellL μ x, one1 ds with
  | some (n, xs), some y => (match lstOf μ y with | some ys => xs.length + ys.length ≤ sizeLine ∧ P .non (μ.set n (.lst (xs ++ ys))) | none => False)
  | _, _ => False
theorem lm_extend : LRm K rExtend wExtend := fun wd μ P v d vs ds ok r rs h Q q => by
  unfold wExtend at h
  split at h
  · rename_i n xs y e1 e2
    rw [one1_of e2] at rs
    obtain ⟨u, rfl, ry⟩ := reps_one rs
    obtain ⟨a, us, rfl, h1, h2, h3, h4⟩ := rep_cellL ok r e1
    cases e : lstOf μ y with
    | none => simp only [e] at h
    | some ys =>
      simp only [e] at h
      obtain ⟨b, ws, rfl, hb, rb⟩ := rep_lst ok ry e
      obtain ⟨ok2, l2⟩ := ok.putL h1 h2 (h4.app rb)
      exact ⟨a, b, us, ws, rfl, rfl, h3, hb, by rw [h4.length, rb.length]; exact h.1, q .non .non _ _ h.2 l2 ok2 .non⟩
  · exact h.elim
/-- xs[i] = v -/
def wGsub (o i : WE) : WG := fun d δ μ P => o δ μ (fun x μ1 => i δ μ1 (fun y μ2 => match y with
  | .int k => (match cellL μ2 x with | some (n, xs) => (match ixN xs.length k with | some j => P δ (μ2.set n (.lst (xs.set j d))) | none => False) | none => False)
  | _ => False) QX0) QX0
theorem lg_sub {to ti : TE} {o i : WE} (ho : LE K W0 to o) (hi : LE K W0 ti i) : LG K (gSub to ti rSetL) (wGsub o i) := fun wd σ δ μ v d P ok env r h Q q =>
  ho wd σ δ μ _ QX0 ok env h _ (fun vx x μ1 w1 h1 l1 ok1 rx => hi w1 σ δ μ1 _ QX0 ok1 (env.le l1) h1 _ (fun vy y μ2 w2 h2 l2 ok2 ry => by
    dsimp only at h2
    split at h2
    · rename_i k
      cases ry
      cases e : cellL μ2 x with
      | none => simp only [e] at h2
      | some p =>
        obtain ⟨n, xs⟩ := p
        simp only [e] at h2
        cases ej : ixN xs.length k with
        | none => simp only [ej] at h2
        | some j =>
          simp only [ej] at h2
          obtain ⟨a, us, rfl, h1', h2', h3, h4⟩ := rep_cellL ok2 (rx.le l2) e
          have L := l1.trans l2
          obtain ⟨ok3, l3⟩ := ok2.putL h1' h2' (h4.set j (r.le L))
          exact ⟨a, us, k, j, rfl, rfl, h3, by rw [h4.length]; exact ej, q _ _ _ _ h2 (L.trans l3) ok3 (env.le (L.trans l3))⟩
    · exact h2.elim) (xl0 _)) (xl0 _)
end PL
/-! PLi: small words of the generated texts. -/
namespace PL
open PySem L2 PySem.Spec PyProof.Rows
variable {K : PySem.W.Frag} {W : WX}
theorem bt_len : bootBuiltins "len" = some (.builtin "len") := by decide +kernel
theorem bt_abs : bootBuiltins "abs" = some (.builtin "abs") := by decide +kernel
theorem bt_max : bootBuiltins "max" = some (.builtin "max") := by decide +kernel
theorem bt_min : bootBuiltins "min" = some (.builtin "min") := by decide +kernel
theorem bt_sum : bootBuiltins "sum" = some (.builtin "sum") := by decide +kernel
theorem bt_all : bootBuiltins "all" = some (.builtin "all") := by decide +kernel
theorem bt_any : bootBuiltins "any" = some (.builtin "any") := by decide +kernel
theorem bt_sorted : bootBuiltins "sorted" = some (.builtin "sorted") := by decide +kernel
theorem bt_isinstance : bootBuiltins "isinstance" = some (.builtin "isinstance") := by decide +kernel
theorem bt_int : bootBuiltins "int" = some (.type "int") := by decide +kernel
theorem bt_bool : bootBuiltins "bool" = some (.type "bool") := by decide +kernel
theorem bt_str : bootBuiltins "str" = some (.type "str") := by decide +kernel
theorem bt_list : bootBuiltins "list" = some (.type "list") := by decide +kernel
theorem bt_tuple : bootBuiltins "tuple" = some (.type "tuple") := by decide +kernel
/-- a def of the program, as its callers want it -/
structure Def (P : Program) (w : World) (K : PySem.W.Frag) (mg : Str → Option Value) (base : Heap) (x : Str) (k : Nat) (ps : List Str) (dvs : List V) (S : FS) : Prop where
  ex : ∃ (f : Addr) (fd : FuncData) (ds : List Value), FnOk P w K mg base (L2N.CX P w) k f fd ps (spOf K S) ∧ mg x = some (.ref f) ∧ PySem.W.keepIn K (.ref f) = true ∧ Binds K fd ps ds ∧ Vals dvs ds
theorem pe_def {X : Cx} {x : Str} {k : Nat} {ps : List Str} {dvs : List V} {S : FS} {p pos : Pos} {e : Expr} {es : List Expr} {t : TA} (D : Def X.prog X.w X.K X.mg X.base x k ps dvs S) (hr : Room k X.A) (hg : Gl X x) (hx : ∀ σ, PassesAt (L2N.CX X.prog X.w) X σ (L2.WE W σ))
    (ha : PA X (e :: es) t) (hdb : (x == ("__debug__" : Str)) = false := by decide) (he : starEach (e :: es) X.env = (false, eval e X.env) :: starEach es X.env := by rfl) (hpl : (backTo pos (starEach es X.env)).any (·.1) = false := by rfl) :
    PE X (.Call (.Name x p) (e :: es) [] pos) (tCallD (spOf X.K S) dvs (L2.WE W) t) := by
  obtain ⟨f, fd, ds, F, hm, hk, hb, hd⟩ := D.ex
  exact pe_callD F hr hg hm hk hb hd hx ha hdb he hpl
theorem pass_none {X : Cx} : ∀ σ, PassesAt (L2N.CX X.prog X.w) X σ (L2.WE W0 σ) := fun σ pins H s e s' I c => by
  obtain ⟨_, _, _, _, _, _, _, _, _, _, _, _, z⟩ := c
  exact z.elim
theorem pass_E {X : Cx} {W : WX} (tk : L2N.Takes X W) : ∀ σ, PassesAt (L2N.CX X.prog X.w) X σ (L2.WE W σ) := fun σ => L2N.passAt tk σ
def wYes : WT := fun _ μ P _ => P true μ
theorem lt_yes : LT K W tYes wYes := fun wd σ δ μ P XP ok env h Q q x => q true μ wd h (Le.refl _) ok
/-- is, is not: None, or two truths -/
def rIsU (neg : Bool) : R2 := fun x y H Q => rIsA neg x y H Q ∨ (∃ a b : Bool, x = .bl a ∧ y = .bl b ∧ Q (.bl (if neg then !decide (a = b) else decide (a = b))) H)
theorem op_isU {X : Cx} : OpR X (compareOp .Is) (rIsU false) := op_isA.or op_isBl
theorem op_isnU {X : Cx} : OpR X (compareOp .IsNot) (rIsU true) := op_isnA.or op_notBl
def wIs (neg : Bool) : WR2 := fun x y μ P => match y with
  | .non => P (.bl (if neg then !isNon x else isNon x)) μ
  | .bl b => (match x with | .bl a => P (.bl (if neg then !decide (a = b) else decide (a = b))) μ | _ => False)
  | _ => False
theorem lr_is {neg : Bool} : LR2 K (rIsU neg) (wIs neg) := fun wd μ P vx vy x y ok rx ry h Q q => by
  unfold wIs at h
  split at h
  · exact .inl (lr_isN wd μ P vx vy x .non ok rx ry h Q q)
  · split at h
    · cases rx; cases ry; exact .inr ⟨_, _, rfl, rfl, q _ _ μ wd h (Le.refl _) ok (.bl _)⟩
    · exact h.elim
  · exact h.elim
end PL
/-! PLj: the rules with the written part named apart (within a comprehension's block it is the same). -/
namespace PL
open PySem L2 PySem.Spec PyProof.Rows
section
variable {X : Cx} (K : PySem.W.Frag) (h : X.K = K) {a b e l : Expr} {ta tb tl te : TE} {t : TA} {pos p p2 tpos apos cpos : Pos} {es : List Expr}
include h
theorem kAdd : OpR X (binaryOp .Add) (rAddA K) := h ▸ op_addA
theorem kMul : OpR X (binaryOp .Mult) (rMulA K) := h ▸ op_mulA
theorem kEq {k : Nat} (hr : Room k X.A) : OpR X (compareOp .Eq) (rEqD K) := h ▸ op_eqR hr
theorem kNe {k : Nat} (hr : Room k X.A) : OpR X (compareOp .NotEq) (rNeD K) := h ▸ op_neR hr
theorem kIn : OpR X (compareOp .In) (rIn K false) := h ▸ op_in_seq
theorem kNotIn : OpR X (compareOp .NotIn) (rIn K true) := h ▸ op_notIn_seq
theorem kIx : IxR X (rIx K) := h ▸ ix_seq
theorem kSl : SlR X (rSlAA K) := h ▸ sl_all
theorem kLen : CallR X (.builtin "len") (fun xs H Q => ∃ x n, xs = [x] ∧ LenV K x H n ∧ Q (.int n) H) := h ▸ call_len
theorem kSum (hc : X.calm = true) : CallR X (.builtin "sum") (rSum K) := h ▸ cr_sum hc
theorem kAll (hc : X.calm = true) : CallR X (.builtin "all") (rAll K) := h ▸ cr_all hc
theorem kAny (hc : X.calm = true) : CallR X (.builtin "any") (rAny K) := h ▸ cr_any hc
theorem kMax (hc : X.calm = true) : CallR X (.builtin "max") (fun xs H Q => (∃ i j, xs = [.int i, .int j] ∧ Q (.int (if j > i then j else i)) H) ∨ rMax K xs H Q) := h ▸ cr_maxA hc
theorem kMin (hc : X.calm = true) : CallR X (.builtin "min") (fun xs H Q => (∃ i j, xs = [.int i, .int j] ∧ Q (.int (if j < i then j else i)) H) ∨ rMin K xs H Q) := h ▸ cr_minA hc
theorem kSorted : CallR X (.builtin "sorted") (rSortedI K) := h ▸ cr_sortedI
theorem kIsi : CallR X (.builtin "isinstance") (rIsiA K) := h ▸ cr_isi
theorem kList : CallR X (.type "list") (fun xs H Q => ∃ p ys, xs = [.ref p] ∧ (SqL K H p ys ∨ SqT K H p ys) ∧ ∀ l, H l = none → Q (.ref l) (upd H l (.lst ys))) := h ▸ call_list_of
theorem kTup : CallR X (.type "tuple") (fun xs H Q => ∃ p ys, xs = [.ref p] ∧ ((SqL K H p ys ∧ ∀ l, H l = none → Q (.ref l) (upd H l (.tup ys))) ∨ (SqT K H p ys ∧ Q (.ref p) H))) := h ▸ call_tuple_of
theorem kTru (ha : PE X a ta) (he : ∀ whole, isTrue a X.env whole = (do let v ← whole; standAt a.pos; holding [v] (truthy v)) := by intro _; rfl) : PT X a (tTru K ta) := h ▸ pt_truth ha he
theorem kFld {f : Str} (ha : PE X a ta) (hb : attributeBase a f X.env (eval a X.env) = eval a X.env) : PE X (.Attribute a f pos) (tFld K ta f) := h ▸ pe_fld ha hb
theorem kSeq {tg : Expr} (hl : PE X l tl) : PI X tg l (iSeq K tl) := h ▸ pi_seq hl
theorem kEnum {elts : List Expr} {kk : Nat} (hg : Gl X "enumerate") (hm : X.mg "enumerate" = none) (ha : PA X [e] t) (hs : starEach [e] X.env = [(false, eval e X.env)] := by rfl) :
    PI X (.Tuple elts kk tpos) (.Call (.Name "enumerate" p) [e] [] pos) (iEnumA K t) := h ▸ pi_enumA hg hm ha hs
theorem kZip {e2 : Expr} {elts : List Expr} {kk : Nat} (hg : Gl X "zip") (hm : X.mg "zip" = none) (ha : PA X [e, e2] t)
    (hs : starEach [e, e2] X.env = (false, eval e X.env) :: starEach [e2] X.env := by rfl) (hpl : (backTo pos (starEach [e2] X.env)).any (·.1) = false := by rfl) :
    PI X (.Tuple elts kk tpos) (.Call (.Name "zip" p) [e, e2] [] pos) (iZipM K t) := h ▸ pi_zipM hg hm ha hs hpl
theorem kGtup {kk : Nat} {g : TGs} {n : Nat} (hc : X.calm = true) (hg : PGs X es g) (hn : (assignEach es X.env).length = n := by rfl) (hst : (assignEach es X.env).findIdx? (·.1) = none := by rfl) : PG X (.Tuple es kk pos) (gTup K n g) := h ▸ pg_tup hc hg hn hst
theorem kDef {W : WX} {P : Program} {w : World} {mg : Str → Option Value} {base : Heap} {x : Str} {k j : Nat} {ps : List Str} {dvs : List V} {S : FS} (D : Def P w K mg base x k ps dvs S) (hr : Room j X.A) (hx : ∀ σ, PassesAt (L2N.CX X.prog X.w) X σ (L2.WE W σ)) (ha : PA X (e :: es) t)
    (hP : X.prog = P := by rfl) (hw : X.w = w := by rfl) (hmg : X.mg = mg := by rfl) (hba : X.base = base := by rfl) (hj : k ≤ j := by decide) (hg : Gl X x := by rfl) (hdb : (x == ("__debug__" : Str)) = false := by decide) (he : starEach (e :: es) X.env = (false, eval e X.env) :: starEach es X.env := by rfl) (hpl : (backTo pos (starEach es X.env)).any (·.1) = false := by rfl) :
    PE X (.Call (.Name x p) (e :: es) [] pos) (tCallD (spOf K S) dvs (L2.WE W) t) := by
  subst h hP hw hmg hba
  exact pe_def D (hr.mono hj) hg hx ha hdb he hpl
end
end PL
/-! PLk: reckoning with the words over data. -/
namespace PL
open PySem L2 PySem.Spec PyProof.Rows
variable {K : PySem.W.Frag} {μ : Mem} {P : D → Mem → Prop}
theorem kit_b {K : PySem.W.Frag} {a b : String} {r : Bool} (h : kitB a b = some r) : kitD K (.inl a) (.ty b) = some r := kit_ty h
/-- isinstance with built-in types, by type names -/
theorem k_int_int : kitD K (.inl "int") (.ty "int") = some true := kit_b (by decide +kernel)
theorem k_bool_int : kitD K (.inl "bool") (.ty "int") = some true := kit_b (by decide +kernel)
theorem k_str_int : kitD K (.inl "str") (.ty "int") = some false := kit_b (by decide +kernel)
theorem k_tup_int : kitD K (.inl "tuple") (.ty "int") = some false := kit_b (by decide +kernel)
theorem k_lst_int : kitD K (.inl "list") (.ty "int") = some false := kit_b (by decide +kernel)
theorem k_non_int : kitD K (.inl "NoneType") (.ty "int") = some false := kit_b (by decide +kernel)
theorem k_int_bool : kitD K (.inl "int") (.ty "bool") = some false := kit_b (by decide +kernel)
theorem k_bool_bool : kitD K (.inl "bool") (.ty "bool") = some true := kit_b (by decide +kernel)
theorem k_str_bool : kitD K (.inl "str") (.ty "bool") = some false := kit_b (by decide +kernel)
theorem k_tup_bool : kitD K (.inl "tuple") (.ty "bool") = some false := kit_b (by decide +kernel)
theorem k_lst_bool : kitD K (.inl "list") (.ty "bool") = some false := kit_b (by decide +kernel)
theorem k_non_bool : kitD K (.inl "NoneType") (.ty "bool") = some false := kit_b (by decide +kernel)
theorem k_int_lst : kitD K (.inl "int") (.ty "list") = some false := kit_b (by decide +kernel)
theorem k_bool_lst : kitD K (.inl "bool") (.ty "list") = some false := kit_b (by decide +kernel)
theorem k_str_lst : kitD K (.inl "str") (.ty "list") = some false := kit_b (by decide +kernel)
theorem k_tup_lst : kitD K (.inl "tuple") (.ty "list") = some false := kit_b (by decide +kernel)
theorem k_lst_lst : kitD K (.inl "list") (.ty "list") = some true := kit_b (by decide +kernel)
theorem k_non_lst : kitD K (.inl "NoneType") (.ty "list") = some false := kit_b (by decide +kernel)
theorem k_int_tup : kitD K (.inl "int") (.ty "tuple") = some false := kit_b (by decide +kernel)
theorem k_bool_tup : kitD K (.inl "bool") (.ty "tuple") = some false := kit_b (by decide +kernel)
theorem k_str_tup : kitD K (.inl "str") (.ty "tuple") = some false := kit_b (by decide +kernel)
theorem k_tup_tup : kitD K (.inl "tuple") (.ty "tuple") = some true := kit_b (by decide +kernel)
theorem k_lst_tup : kitD K (.inl "list") (.ty "tuple") = some false := kit_b (by decide +kernel)
theorem k_non_tup : kitD K (.inl "NoneType") (.ty "tuple") = some false := kit_b (by decide +kernel)
theorem k_int_str : kitD K (.inl "int") (.ty "str") = some false := kit_b (by decide +kernel)
theorem k_bool_str : kitD K (.inl "bool") (.ty "str") = some false := kit_b (by decide +kernel)
theorem k_str_str : kitD K (.inl "str") (.ty "str") = some true := kit_b (by decide +kernel)
theorem k_tup_str : kitD K (.inl "tuple") (.ty "str") = some false := kit_b (by decide +kernel)
theorem k_lst_str : kitD K (.inl "list") (.ty "str") = some false := kit_b (by decide +kernel)
theorem k_non_str : kitD K (.inl "NoneType") (.ty "str") = some false := kit_b (by decide +kernel)
end PL
/-! PLx: own errors over Exception that keep one argument: made, raised, their field read. -/
namespace PL
open PySem PySem.W PySem.Calls PyProof.Rows PySem.HandSPX Builtin Builtin.ObjectAttr
abbrev exTail : List Value := [.type "Exception", .type "BaseException", .type "object"]
/-- own classes, then Exception's line -/
inductive ExLine : List Value → Prop
  | tail : ExLine exTail
  | own (C : Addr) {l : List Value} : ExLine l → ExLine (.ref C :: l)
theorem ExLine.passes {l : List Value} (e : ExLine l) (self : Value) : refuseLoop self "__setattr__" l = pure () := by
  induction e with
  | tail => exact F.store_Exception.passes self
  | own C _ ih => rw [refuseLoop_ref]; exact ih
theorem ExLine.has {l : List Value} (e : ExLine l) (n : String) : l.contains (.type n) = exTail.contains (.type n) := by
  induction e with
  | tail => rfl
  | own C _ ih => rw [List.contains_cons, ih]; rfl
theorem ExLine.some {l : List Value} (e : ExLine l) : l.isEmpty = false := by cases e <;> rfl
/-- a field's first store in a fresh error -/
theorem first_store {prog : Program} {w : World} {A : Around} {R : Result → Shared → Prop} {hp : Heap} {g : Array GenState} {d : Drawn} {t : Nat} {os : OsState} {K : W.Frag} {name : Str} {tk : Tok} {v : Value} {x C : Addr} {fv : Array Value} {cd : ClassData}
    (X : K.In hp) (hx : hp.get? x = some { cls := .ref C, data := .fields fv }) (hcd : W.clsIn K C = some cd) (hm : ExLine cd.mro) (hh : cd.hasDict = true) (ha : W.findIn K (.ref C) name = some none)
    (hq : ∀ h' tk' dx, (∀ b o, b ≠ x → hp.get? b = some o → h'.get? b = some o) → hp.objs.size ≤ dx → dx ≠ x → h'.get? x = some { cls := .ref C, dict := some dx, data := .fields fv } →
      h'.Ns1 dx (fun y => if y = name then some v else none) → R (.ok (.ret .none)) ⟨h', g, d, tk', os⟩) :
    codeAny (model prog w) A (.call (.builtin "object.__setattr__") ⟨[.ref x, .str name tk, v], []⟩) R ⟨hp, g, d, t, os⟩ := by
  have I : W.InstAt hp x { cls := .ref C, data := .fields fv } C none := ⟨hx, rfl, rfl, trivial⟩
  have SF := F.store_object
  have ob : cd.mro.contains (.type "object") = true := by rw [hm.has]; decide +kernel
  have nx : x ≠ hp.objs.size := Nat.ne_of_lt (Heap.lt_size hx)
  have isObj : W.Looks (model prog w) hp (isInstance (.ref x) (.type "object")) true := by
    refine I.type.andThen (W.looks_mroIn X ?_)
    unfold W.mroIn
    rw [hcd, Option.bind_some, if_neg (by rw [hm.some]; decide), ob]
  have line : W.Looks (model prog w) hp (mroOf (.ref C)) cd.mro := (W.looks_clsIn X hcd).andThen .now
  have taker : W.Looks (model prog w) hp (storeTaker? none) none := .now
  have clsd : W.Looks (model prog w) hp (classData C) cd := W.looks_clsIn X hcd
  refine codeAny_call_builtin SF.slot.plain SF.entry (@W.check_slot (model prog w) _ _ ⟨hp, g, d, t, os⟩ "object.__setattr__" "object" "__setattr__" (.ref x) [.str name tk, v] [] _ SF.kind SF.split isObj (SF.args (.ref x) (.str name tk) v) ?_)
  rw [W.osa_eq, refuse_eq]
  refine wpAny_bind (wpAny_bind (I.type.at (wpAny_bind (line.at ?_))))
  rw [hm.passes]
  refine wpAny_pure (wpAny_bind (I.type.at (wpAny_bind ((W.looks_findIn X ha).at (wpAny_bind (taker.at ?_))))))
  show wpAny _ _ (storeInOwnDict (.ref x) (.ref C) (.str name tk) name v false) _ _ _
  obtain ⟨nm, bs, mro, ns, qn, hd, sn, sb, ab, col, del⟩ := cd
  have hh' : hd = true := hh
  subst hh'
  unfold storeInOwnDict ownDictForStores
  repeat (first | with_reducible refine store_in_new ?_ ?_ | with_reducible refine wpAny_loadPart_at hx ?_ | with_reducible refine clsd.at ?_ | wp_step)
  · exact ⟨_, #[], _, (Heap.get?_update_ne _ _ _ _ nx.symm).trans (Heap.get?_push_at rfl rfl), rfl, fun e he => absurd he (by simp), fun _ => rfl⟩
  · intro h' tk' hn' hs
    have still : (hp.push { cls := .type "dict", data := .dict #[] }).get? x = some { cls := .ref C, data := .fields fv } := Heap.get?_push_of_some _ hx
    refine hq h' tk' hp.objs.size (fun b o hb ho => ?_) (Nat.le_refl _) nx.symm ?_ hn'
    · exact (hs.2 b (Nat.ne_of_lt (Heap.lt_size ho))).trans ((Heap.get?_update_ne _ _ _ _ hb).trans (Heap.get?_push_of_some _ ho))
    · exact (hs.2 x nx).trans (Heap.get?_update_self _ still rfl)
/-- a made error: its own dict d holds the one field -/
structure Made (h h' : Heap) (e C d : Addr) (name : Str) (v : Value) : Prop where
  keep : ∀ b o, h.get? b = some o → h'.get? b = some o
  new : h.objs.size ≤ e
  obj : ∃ oe vs, h'.get? e = some oe ∧ oe.cls = .ref C ∧ oe.dict = some d ∧ oe.data = .fields vs ∧ vs[1]? = some .none ∧ vs[2]? = some .none
  dbig : h.objs.size ≤ d
  dne : d ≠ e
  ns : h'.Ns1 d (fun y => if y = name then some v else none)
/-- what the written part says of an error's class at C with its own __init__ at fI -/
structure ErrTxt (K : Frag) (mg : Str → Option Value) (x : Str) (fl : Str) (A : Pos → Pos → Arguments) (B : Pos → Pos → Pos → Pos → List Stmt) (S : Scope) (C fI : Addr) : Prop where
  gC : mg x = some (.ref C)
  cls : ∃ nm q N bs bm sn sub ab col dd k0 k1 k2 k3 k5, K.lookup C = some (excClassObj nm q C N bs bm true sn sub ab col dd k0 k1 k2 k3 k5 "Exception.__new__") ∧ ExLine bm
  sa : findIn K (.ref C) "__setattr__" = some (some (.builtin "object.__setattr__"))
  ga : findIn K (.ref C) "__getattribute__" = some (some (.builtin "BaseException.__getattribute__"))
  gg : findIn K (.ref C) "__getattr__" = some none
  noN : findIn K (.ref C) fl = some none
  iC : findIn K (.ref C) "__init__" = some (some (.ref fI))
  tC : typeIn K (.ref fI) = some (.type "function")
  kC : keepIn K (.ref C) = true
  exC : subIn K (.ref C) (.type "BaseException") = some true
  tyC : typeIn K (.ref C) = some (.type "type")
  hdC : hasDictIn K C = true
  fn : ∃ (oc : Value) (od : Option Addr) (q : Str) (doc pm : Value) (an : Option Addr) (cdv ct : Value) (osl : Array (Option Value)) (p1 p2 q1 q2 q3 q4 : Pos),
    K.lookup fI = some ⟨oc, od, .func (fnOf "__init__" q (A p1 p2) (B q1 q2 q3 q4) S .none .none doc pm an cdv ct), osl⟩ ∧ codeIn K cdv q = true
theorem tuple_line (v : Value) : [v].length ≤ sizeLine := by
  rw [sizeLine_eq]
  exact (by decide : 1 ≤ 16777216)

/-! ### the field at -/
namespace Errat
def iA (p1 p2 : Pos) : Arguments := { posonlyargs := [], args := [{ arg := "self", annotation := none, pos := p1 }, { arg := "at", annotation := none, pos := p2 }], vararg := none, kwonlyargs := [], kw_defaults := [], kwarg := none, defaults := [] }
def iB (q1 q2 q3 q4 : Pos) : List Stmt := [.Assign [.Attribute (.Name "self" q1) "at" q2] (.Name "at" q3) q4]
def iS : Scope := { kind := .function, names := [(PySem.Str.ofString "self", .local), (PySem.Str.ofString "at", .local)], isGenerator := false, isCoroutine := false, more := [] }
abbrev Txt (K : Frag) (mg : Str → Option Value) (x : Str) (C fI : Addr) : Prop := ErrTxt K mg x "at" iA iB iS C fI
theorem ld {M : Model} {s : Shared} {name : Str} {scope : Scope} {L a : Addr} {cd : Value} {m : Str → Option Value} {x : Str} {pos : Pos} {v : Value} {Q : Value → Shared → Prop} {A : Around} {E : Value → Shared → Prop} (hn : s.heap.Ns L m) (hv : m x = some v) (h : Q v s)
    (hk : scope.kind = .function := by rfl) (hl : (envOfC name scope L a cd).kindOf x = some .local := by rfl) (hd : (x == ("__debug__" : Str)) = false := by decide) :
    wpAny M A (eval (.Name x pos) (envOfC name scope L a cd)) Q E s := wpAny_Name (wpAny_loadName_local hk hl hn hv h) hd
section
variable {prog : Program} {w : World} {A : Around} {E : Value → Shared → Prop} {R : Result → Shared → Prop} {s : Shared} {K : Frag} {mg : Str → Option Value} {x : Str} {C fI : Addr}
theorem init {y t0 : Addr} {v : Value} (T : Txt K mg x C fI) (X : K.In s.heap) (hlim : s.heap.NoLimit) (hy : s.heap.get? y = some (excO C t0)) (hroom : A.depth < recursionLimit)
    (hq : ∀ h' tk dx, (∀ b o, b ≠ y → s.heap.get? b = some o → h'.get? b = some o) → h'.get? y = some { cls := .ref C, dict := some dx, data := .fields #[.ref t0, .none, .none, .none, .bool false, .none] } → s.heap.objs.size ≤ dx → dx ≠ y →
      h'.Ns1 dx (fun z => if z = "at" then some v else none) → R (.ok (.ret .none)) { s with heap := h', toks := tk }) :
    codeAny (model prog w) A (.call (.ref fI) ⟨[.ref y, v], []⟩) R s := by
  obtain ⟨oc, od, q, doc, pm, an, cdv, ct, osl, p1, p2, q1, q2, q3, q4, ho, hcd⟩ := T.fn
  obtain ⟨nm, qq, N, bs, bm, sn, sub, ab, col, dd, k0, k1, k2, k3, k5, hC, hbm⟩ := T.cls
  have hcl : clsIn K C = some { name := nm, bases := bs, mro := .ref C :: bm, ns := N, qualname := qq, hasDict := true, slotNames := sn, subclasses := sub, abstract := ab, collection := col, hasDel := false } := by unfold clsIn; rw [hC] <;> rfl
  refine Att.call_fn (binds := [("self", .ref y), ("at", v)]) X hlim ho hcd hroom (BindsTo.of_eq (by first | rfl | with_unfolding_all rfl)) (by first | rfl | decide | with_unfolding_all rfl) (fun s₁ IC => ?_) rfl rfl rfl
  obtain ⟨h₁, tk₁, rfl⟩ := IC.toInCall.same
  have k : ∀ b o, s.heap.get? b = some o → h₁.get? b = some o := IC.toInCall.keep
  have hn := IC.toInCall.ns
  have X₁ : K.In h₁ := X.keeps k
  have hy₁ := k _ _ hy
  show wpAny _ _ (execs _ _) _ _ _
  refine wpAny_execs_cons (plainObj_wpAny_Assign_Attribute ?_)
  refine ld (v := v) hn (by first | rfl | with_unfolding_all rfl | kernel_rfl) (ld (v := .ref y) hn (by first | rfl | with_unfolding_all rfl | kernel_rfl) ?_)
  refine set_plain X₁ (ox := excO C t0) (od := none) ⟨hy₁, rfl, rfl, trivial⟩ T.sa ?_
  refine first_store X₁ hy₁ hcl (show ExLine (.ref C :: bm) from .own C hbm) rfl T.noN (fun h₃ tk₃ dx k₃ dn dne hx₃ hn₃ => ?_)
  show wpAny _ _ (execs _ _) _ _ _
  have z : s.heap.objs.size < h₁.objs.size := hn.lt
  exact wpAny_execs_nil (hq h₃ tk₃ dx (fun b o hb e => k₃ b o hb (k b o e)) hx₃ (Nat.le_of_lt (Nat.lt_of_lt_of_le z dn)) dne hn₃)
theorem made {v : Value} (T : Txt K mg x C fI) (X : K.In s.heap) (hlim : s.heap.NoLimit) (hroom : A.depth + 1 < recursionLimit)
    (hq : ∀ h' tk e d, Made s.heap h' e C d "at" v → R (.ok (.ret (.ref e))) { s with heap := h', toks := tk }) :
    codeAny (model prog w) A (.call (.ref C) ⟨[v], []⟩) R s := by
  obtain ⟨nm, q, N, bs, bm, sn, sub, ab, col, dd, k0, k1, k2, k3, k5, hC, hbm⟩ := T.cls
  obtain ⟨hp, g, dr, tk, os⟩ := s
  have k : ∀ b o, hp.get? b = some o → ((hp.push (kdv_tup [v])).push (excO C hp.objs.size)).get? b = some o := fun b o e => Heap.get?_push_of_some _ (Heap.get?_push_of_some _ e)
  have hget : ((hp.push (kdv_tup [v])).push (excO C hp.objs.size)).get? (hp.objs.size + 1) = some (excO C hp.objs.size) := by heap_get
  refine call_own F.excBase_Exception (fun n => hbm.has n) (X _ _ hC) (looks_findIn X T.iC) (fun self => bind_fn X self T.tC) (tuple_line v) ?_
  refine init (s := ⟨(hp.push (kdv_tup [v])).push (excO C hp.objs.size), g, dr, tk, os⟩) T (X.keeps k) (hlim.keeps k) hget ?_ fun h' tk' dx k' hx dn dne hns => ?_
  · show A.depth + 1 < recursionLimit
    exact hroom
  · have old : ∀ b o, hp.get? b = some o → h'.get? b = some o := fun b o e => k' b o (Nat.ne_of_lt (Nat.lt_succ_of_lt (Heap.lt_size e))) (k b o e)
    have z : hp.objs.size + 1 + 1 ≤ dx := by
      first
        | (simpa only [Heap.size_push] using dn)
        | exact dn
        | (have q := dn; rw [Heap.size_push, Heap.size_push] at q; exact q)
    exact ⟨rfl, hq h' tk' (hp.objs.size + 1) dx ⟨old, Nat.le_succ _, ⟨_, _, hx, rfl, rfl, rfl, rfl, rfl⟩, Nat.le_trans (Nat.le_trans (Nat.le_succ _) (Nat.le_succ _)) z, dne, hns⟩⟩
end
end Errat

/-! ### the field word -/
namespace Errword
def iA (p1 p2 : Pos) : Arguments := { posonlyargs := [], args := [{ arg := "self", annotation := none, pos := p1 }, { arg := "word", annotation := none, pos := p2 }], vararg := none, kwonlyargs := [], kw_defaults := [], kwarg := none, defaults := [] }
def iB (q1 q2 q3 q4 : Pos) : List Stmt := [.Assign [.Attribute (.Name "self" q1) "word" q2] (.Name "word" q3) q4]
def iS : Scope := { kind := .function, names := [(PySem.Str.ofString "self", .local), (PySem.Str.ofString "word", .local)], isGenerator := false, isCoroutine := false, more := [] }
abbrev Txt (K : Frag) (mg : Str → Option Value) (x : Str) (C fI : Addr) : Prop := ErrTxt K mg x "word" iA iB iS C fI
theorem ld {M : Model} {s : Shared} {name : Str} {scope : Scope} {L a : Addr} {cd : Value} {m : Str → Option Value} {x : Str} {pos : Pos} {v : Value} {Q : Value → Shared → Prop} {A : Around} {E : Value → Shared → Prop} (hn : s.heap.Ns L m) (hv : m x = some v) (h : Q v s)
    (hk : scope.kind = .function := by rfl) (hl : (envOfC name scope L a cd).kindOf x = some .local := by rfl) (hd : (x == ("__debug__" : Str)) = false := by decide) :
    wpAny M A (eval (.Name x pos) (envOfC name scope L a cd)) Q E s := wpAny_Name (wpAny_loadName_local hk hl hn hv h) hd
section
variable {prog : Program} {w : World} {A : Around} {E : Value → Shared → Prop} {R : Result → Shared → Prop} {s : Shared} {K : Frag} {mg : Str → Option Value} {x : Str} {C fI : Addr}
theorem init {y t0 : Addr} {v : Value} (T : Txt K mg x C fI) (X : K.In s.heap) (hlim : s.heap.NoLimit) (hy : s.heap.get? y = some (excO C t0)) (hroom : A.depth < recursionLimit)
    (hq : ∀ h' tk dx, (∀ b o, b ≠ y → s.heap.get? b = some o → h'.get? b = some o) → h'.get? y = some { cls := .ref C, dict := some dx, data := .fields #[.ref t0, .none, .none, .none, .bool false, .none] } → s.heap.objs.size ≤ dx → dx ≠ y →
      h'.Ns1 dx (fun z => if z = "word" then some v else none) → R (.ok (.ret .none)) { s with heap := h', toks := tk }) :
    codeAny (model prog w) A (.call (.ref fI) ⟨[.ref y, v], []⟩) R s := by
  obtain ⟨oc, od, q, doc, pm, an, cdv, ct, osl, p1, p2, q1, q2, q3, q4, ho, hcd⟩ := T.fn
  obtain ⟨nm, qq, N, bs, bm, sn, sub, ab, col, dd, k0, k1, k2, k3, k5, hC, hbm⟩ := T.cls
  have hcl : clsIn K C = some { name := nm, bases := bs, mro := .ref C :: bm, ns := N, qualname := qq, hasDict := true, slotNames := sn, subclasses := sub, abstract := ab, collection := col, hasDel := false } := by unfold clsIn; rw [hC] <;> rfl
  refine Att.call_fn (binds := [("self", .ref y), ("word", v)]) X hlim ho hcd hroom (BindsTo.of_eq (by first | rfl | with_unfolding_all rfl)) (by first | rfl | decide | with_unfolding_all rfl) (fun s₁ IC => ?_) rfl rfl rfl
  obtain ⟨h₁, tk₁, rfl⟩ := IC.toInCall.same
  have k : ∀ b o, s.heap.get? b = some o → h₁.get? b = some o := IC.toInCall.keep
  have hn := IC.toInCall.ns
  have X₁ : K.In h₁ := X.keeps k
  have hy₁ := k _ _ hy
  show wpAny _ _ (execs _ _) _ _ _
  refine wpAny_execs_cons (plainObj_wpAny_Assign_Attribute ?_)
  refine ld (v := v) hn (by first | rfl | with_unfolding_all rfl | kernel_rfl) (ld (v := .ref y) hn (by first | rfl | with_unfolding_all rfl | kernel_rfl) ?_)
  refine set_plain X₁ (ox := excO C t0) (od := none) ⟨hy₁, rfl, rfl, trivial⟩ T.sa ?_
  refine first_store X₁ hy₁ hcl (show ExLine (.ref C :: bm) from .own C hbm) rfl T.noN (fun h₃ tk₃ dx k₃ dn dne hx₃ hn₃ => ?_)
  show wpAny _ _ (execs _ _) _ _ _
  have z : s.heap.objs.size < h₁.objs.size := hn.lt
  exact wpAny_execs_nil (hq h₃ tk₃ dx (fun b o hb e => k₃ b o hb (k b o e)) hx₃ (Nat.le_of_lt (Nat.lt_of_lt_of_le z dn)) dne hn₃)
theorem made {v : Value} (T : Txt K mg x C fI) (X : K.In s.heap) (hlim : s.heap.NoLimit) (hroom : A.depth + 1 < recursionLimit)
    (hq : ∀ h' tk e d, Made s.heap h' e C d "word" v → R (.ok (.ret (.ref e))) { s with heap := h', toks := tk }) :
    codeAny (model prog w) A (.call (.ref C) ⟨[v], []⟩) R s := by
  obtain ⟨nm, q, N, bs, bm, sn, sub, ab, col, dd, k0, k1, k2, k3, k5, hC, hbm⟩ := T.cls
  obtain ⟨hp, g, dr, tk, os⟩ := s
  have k : ∀ b o, hp.get? b = some o → ((hp.push (kdv_tup [v])).push (excO C hp.objs.size)).get? b = some o := fun b o e => Heap.get?_push_of_some _ (Heap.get?_push_of_some _ e)
  have hget : ((hp.push (kdv_tup [v])).push (excO C hp.objs.size)).get? (hp.objs.size + 1) = some (excO C hp.objs.size) := by heap_get
  refine call_own F.excBase_Exception (fun n => hbm.has n) (X _ _ hC) (looks_findIn X T.iC) (fun self => bind_fn X self T.tC) (tuple_line v) ?_
  refine init (s := ⟨(hp.push (kdv_tup [v])).push (excO C hp.objs.size), g, dr, tk, os⟩) T (X.keeps k) (hlim.keeps k) hget ?_ fun h' tk' dx k' hx dn dne hns => ?_
  · show A.depth + 1 < recursionLimit
    exact hroom
  · have old : ∀ b o, hp.get? b = some o → h'.get? b = some o := fun b o e => k' b o (Nat.ne_of_lt (Nat.lt_succ_of_lt (Heap.lt_size e))) (k b o e)
    have z : hp.objs.size + 1 + 1 ≤ dx := by
      first
        | (simpa only [Heap.size_push] using dn)
        | exact dn
        | (have q := dn; rw [Heap.size_push, Heap.size_push] at q; exact q)
    exact ⟨rfl, hq h' tk' (hp.objs.size + 1) dx ⟨old, Nat.le_succ _, ⟨_, _, hx, rfl, rfl, rfl, rfl, rfl⟩, Nat.le_trans (Nat.le_trans (Nat.le_succ _) (Nat.le_succ _)) z, dne, hns⟩⟩
end
end Errword

end PL
/-! PLy: raising and catching over data; calls while an exception is handled. -/
namespace PL
open PySem L2 PySem.Spec PyProof.Rows
/-- an own error that keeps one argument in the field fl: what its making leaves -/
structure ErrMk (K : PySem.W.Frag) (mg : Str → Option Value) (x fl : Str) (C : Addr) : Prop where
  gC : mg x = some (.ref C)
  kC : PySem.W.keepIn K (.ref C) = true
  exC : PySem.W.subIn K (.ref C) (.type "BaseException") = some true
  tyC : PySem.W.typeIn K (.ref C) = some (.type "type")
  ga : PySem.W.findIn K (.ref C) "__getattribute__" = some (some (.builtin "BaseException.__getattribute__"))
  gg : PySem.W.findIn K (.ref C) "__getattr__" = some none
  hdC : PySem.W.hasDictIn K C = true
  noN : PySem.W.findIn K (.ref C) fl = some none
  does : ∀ {prog : Program} {w : World} {A : Around} {R : Result → Shared → Prop} {s : Shared} {v : Value}, K.In s.heap → s.heap.NoLimit → A.depth + 1 < recursionLimit →
    (∀ h' tk e d, Made s.heap h' e C d fl v → R (.ok (.ret (.ref e))) { s with heap := h', toks := tk }) → PySem.codeAny (model prog w) A (.call (.ref C) ⟨[v], []⟩) R s
theorem ErrMk.xf {K : PySem.W.Frag} {mg : Str → Option Value} {x fl : Str} {C : Addr} (T : ErrMk K mg x fl C) : XfC K C := ⟨T.ga, T.gg, T.exC, T.hdC⟩
theorem relO_one {f : Str} {v : V} {v' : Value} (r : RelV v v') (g : Str) : RelO (List.lookup g [(f, v)]) (if g = f then some v' else none) := by
  by_cases hw : g = f
  · subst hw
    have q : List.lookup g [(g, v)] = some v := by simp [List.lookup]
    rw [q, if_pos rfl]; exact r
  · have qw : (g == f) = false := by simpa using hw
    have q2 : List.lookup g [(f, v)] = none := by simp [List.lookup, qw]
    rw [q2, if_neg hw]; trivial
section
variable {X : Cx} {C : Addr} {x fl : Str}
def tMkErr (C : Addr) (fl : Str) (ta : TA) : L2.St → Hp → XK → Prop := fun σ H Q => ta σ H fun vs H1 => ∃ v, vs = [v] ∧ ∀ d, H1 d = none → Q (.ref C) (some d) (upd H1 d (.xd [(fl, v)]))
theorem pmk_err {a : Expr} {ta : TA} {p pos : Pos} {k : Nat} (T : ErrMk X.K X.mg x fl C) (hr : Room k X.A) (ha : PA X [a] ta) (hg : Gl X x := by rfl) (hdb : (x == ("__debug__" : Str)) = false := by decide)
    (he : starEach (a :: []) X.env = (false, eval a X.env) :: starEach [] X.env := by rfl) (hpl : (backTo pos (starEach [] X.env)).any (·.1) = false := by rfl) :
    L2N.PMk X (.Call (.Name x p) [a] [] pos) (tMkErr C fl ta) := by
  intro pins s σ H Q I h
  refine wpAny_Call_Name_kw (ld_glob I hg T.gC ?_ hdb)
  refine PySem.W.callWith_K (h₀ := X.base) I.ok.mod.kin T.kC (thn (ha.run pos pins s σ H _ I h) fun us s1 hh => ?_) he hpl
  obtain ⟨vs, H1, I1, r1, v, ev, q1⟩ := hh
  subst ev
  refine ⟨I1.kIn, ?_⟩
  cases r1 with
  | cons rv rn =>
    rename_i v' us'
    cases rn
    have hlim := I1.nolimit
    obtain ⟨hp, g, dr, tk, os⟩ := s1
    refine wpAny_call (T.does I1.kIn hlim (by have := hr.dp; omega) fun h' tk' e d M => ?_)
    show L2N.MkP X pins σ Q (.ref e) ⟨h', g, dr, tk', os⟩
    obtain ⟨oe, fv, hoe, hc, hd, hdat, h1, h2⟩ := M.obj
    have hns := M.ns
    -- the heap without the error itself
    obtain ⟨G', g1, g2⟩ := restrict h' fun b => decide (b ≠ e)
    have keepG : ∀ b o, hp.get? b = some o → G'.get? b = some o := fun b o q =>
      (g1 b (decide_eq_true (Nat.ne_of_lt (Nat.lt_of_lt_of_le (Heap.lt_size q) M.new)))).trans (M.keep b o q)
    have atd : G'.get? d = h'.get? d := g1 d (decide_eq_true M.dne)
    have ob : ObjOk X.prog X.w (upd H1 d (.xd [(fl, v)])) G' d (.xd [(fl, v)]) := ⟨_, hns.at (fun o q => atd.trans q), fun f => relO_one rv f⟩
    have J : Inv X pins σ (upd H1 d (.xd [(fl, v)])) ⟨G', g, dr, tk', os⟩ := I1.laid (t' := tk') keepG M.dbig ob
    refine ⟨e, oe, fv, ⟨G', g, dr, tk', os⟩, _, .ref C, some d, rfl, J, fun b o q => ?_, g2 e (by simp), hoe, ⟨hc, hd, fun vs z => by rw [hdat] at z; cases z; exact h2⟩, hdat, h1, ?_, rfl, I1.bare, raises_own T.exC T.tyC, q1 d (I1.hok.fresh M.dbig)⟩
    · have hb : b ≠ e := fun z => by
        have q' : G'.get? b = some o := q
        rw [z, g2 e (by simp)] at q'; cases q'
      exact (g1 b (decide_eq_true hb)).symm.trans q
    · rw [upd_ne (Ne.symm M.dne)]
      exact I1.hok.fresh M.new
end
theorem Errat.mk {K : PySem.W.Frag} {mg : Str → Option Value} {x : Str} {C fI : Addr} (T : Errat.Txt K mg x C fI) : ErrMk K mg x "at" C :=
  ⟨T.gC, T.kC, T.exC, T.tyC, T.ga, T.gg, T.hdC, T.noN, fun X l r h => Errat.made T X l r h⟩
theorem Errword.mk {K : PySem.W.Frag} {mg : Str → Option Value} {x : Str} {C fI : Addr} (T : Errword.Txt K mg x C fI) : ErrMk K mg x "word" C :=
  ⟨T.gC, T.kC, T.exC, T.tyC, T.ga, T.gg, T.hdC, T.noN, fun X l r h => Errword.made T X l r h⟩

/-! ### raise C(e) -/
def tRaiseErr (C : Addr) (fl : Str) (W : WX) (ta : TA) : TS := fun _ σ H => tMkErr C fl ta σ H fun cls d H' => W cls d σ H'
theorem ps_raiseErr {X : Cx} {C : Addr} {x fl : Str} {a : Expr} {ta : TA} {W : WX} {p pos pos2 : Pos} {k : Nat} (T : ErrMk X.K X.mg x fl C) (hc : X.calm = true) (hr : Room k X.A) (tk : L2N.Takes X W) (ha : PA X [a] ta) (hg : Gl X x := by rfl) (hdb : (x == ("__debug__" : Str)) = false := by decide)
    (he : starEach (a :: []) X.env = (false, eval a X.env) :: starEach [] X.env := by rfl) (hpl : (backTo pos (starEach [] X.env)).any (·.1) = false := by rfl) :
    PS X (.Raise (some (.Call (.Name x p) [a] [] pos)) none pos2) (tRaiseErr C fl W ta) := L2N.ps_raise hc tk (pmk_err T hr ha hg hdb he hpl)
def wRaise (C : Addr) (fl : Str) (a : WA) : WS := fun δ μ P => a δ μ (fun ds μ1 => match ds with | [d] => P.xc ⟨C, [(fl, d)]⟩ δ μ1 | _ => False) P.xc
theorem ls_raise {K : PySem.W.Frag} {W : WX} {C : Addr} {fl : Str} {n : Nat} {ta : TA} {a : WA} (ha : LA K W n ta a) : LS K W (tRaiseErr C fl W ta) (wRaise C fl a) := fun wd σ δ μ P ok env h Z nx rt bk ct x =>
  ha wd σ δ μ _ P.xc ok env h _ (fun vs ds μ1 w1 h1 l1 ok1 r1 _ => by
    match ds, vs, r1, h1 with
    | [d], [v], .cons r1 .nil, h1 =>
      refine ⟨v, rfl, fun q hq => ?_⟩
      obtain ⟨ok2, l2⟩ := ok1.frozen hq (.xd [(fl, v)])
      exact x ⟨C, [(fl, d)]⟩ δ μ1 _ σ q [(fl, v)] h1 (l1.trans l2) ok2 ((env.le l1).le l2) upd_same upd_same (.cons (r1.le l2) .nil)
    | [], _, _, h1 => exact h1.elim
    | _ :: _ :: _, _, _, h1 => exact h1.elim) x

/-! ### try: body, except x1 as n1: .., except x2 as n2: .. -/
/-- a clause: the class's value, the name's slot, the suite's reading -/
structure Cl where
  c : Value
  i : Nat
  ts : Addr → Value → Option Addr → TS
/-- the ends of a suite: the name is gone -/
def goneAt (i : Nat) (D : Ends) : Ends := { nx := fun s H => D.nx (s.set i none) H, rt := D.rt, bk := fun s H => D.bk (s.set i none) H, ct := fun s H => D.ct (s.set i none) H }
def wCls (K : PySem.W.Frag) (Wout : WX) (D : Ends) : List Cl → WX
  | [] => Wout
  | q :: r => fun cls d σ H => ∃ b, PySem.W.exmOne K cls q.c = some b ∧ (b = true → ∀ a, H a = none → q.ts a cls d (goneAt q.i D) (σ.set q.i (some (.ref a))) H) ∧ (b = false → wCls K Wout D r cls d σ H)
inductive ClsOk (X : Cx) : List ExceptHandler → List Cl → Prop
  | nil : ClsOk X [] []
  | cons {x n : Str} {q : Cl} {b₀ : Stmt} {suite : List Stmt} {np pos' : Pos} {hds : List ExceptHandler} {l : List Cl} (hc : Names X x q.c) (hi : X.N[q.i]? = some n) (hl : X.env.kindOf n = some .local)
      (hs : ∀ (a : Addr) (oe : Obj) (cls : Value) (d : Option Addr) (pn : List (Addr × Obj)), Zc cls d oe → (∃ vs, oe.data = .fields vs) → L2H.HotC (X.suite a ((a, oe) :: pn)) → PSs (X.suite a ((a, oe) :: pn)) (b₀ :: suite) (q.ts a cls d)) (r : ClsOk X hds l) :
      ClsOk X (.ExceptHandler (some (.Name x np)) (some n) (b₀ :: suite) pos' :: hds) (q :: l)
section
variable {X : Cx}
/-- an exception has come down in X's frame: a, of class cls with dict d; behind any further note it is so still -/
structure Down (X : Cx) (pins : List (Addr × Obj)) (σ : L2.St) (H : Hp) (sI s' : Shared) (B : Heap) (a : Addr) (cls : Value) (d : Option Addr) (h : Heap) : Prop where
  inv : Inv X pins σ H sI
  gr : ∀ b o, sI.heap.get? b = some o → b ∉ frs X.stack → B.get? b = some o
  up : sI.heap.UpToSlots s'.heap
  on : s'.heap.UpToSlots h
  fl : HandSPX.FlyingZ B (X.env :: X.outer) a (L2N.Zn cls d) h
  na : H a = none
  os : s'.os = sI.os
  ag : AllBare s'.gens
namespace Down
variable {pins : List (Addr × Obj)} {σ : L2.St} {H : Hp} {sI s' : Shared} {B h : Heap} {a : Addr} {cls : Value} {d : Option Addr}
theorem now (D : Down X pins σ H sI s' B a cls d h) : Inv X pins σ H { s' with heap := h } := D.inv.landed D.gr D.fl.1 (D.up.trans D.on) D.os D.ag
theorem next (D : Down X pins σ H sI s' B a cls d h) {h' : Heap} (fl : HandSPX.FlyingZ B (X.env :: X.outer) a (L2N.Zn cls d) h') (u : h.UpToSlots h') : Down X pins σ H sI s' B a cls d h' := { D with on := D.on.trans u, fl := fl }
/-- none of the frames' objects -/
theorem nofr (D : Down X pins σ H sI s' B a cls d h) (hf : X.env.frame = some X.env.locals) : a ≠ X.env.locals ∧ a ∉ X.fs := by
  obtain ⟨oe, vs, he, _, hd⟩ := D.fl.there
  have no : ∀ e ∈ X.env :: X.outer, e.frame ≠ some a := fun e hm z => by
    obtain ⟨_, o', g, hn⟩ := D.fl.2.2.1.mem (b := a) (List.mem_filterMap.mpr ⟨e, hm, z⟩)
    rw [he] at g
    cases g
    exact hn _ hd
  exact ⟨fun z => no _ List.mem_cons_self (by rw [hf, z]), fun z => by
    obtain ⟨e, hm, q⟩ := List.mem_filterMap.mp z
    exact no e (List.mem_cons_of_mem _ hm) q⟩
/-- no clause is left: it flies on -/
theorem away {D : Ends} {Wout : WX} (hs : X.stack = X.env :: X.outer) (hf : X.env.frame = some X.env.locals) (tk : L2N.Takes X Wout) (C : Down X pins σ H sI s' B a cls d h) (w : Wout cls d σ H) :
    wpAny (model X.prog X.w) X.A (handleBy (.ref a) X.env []) (SP X pins D) X.xe { s' with heap := h } := by
  refine wpAny_handleBy_nil ?_
  have fl := C.fl
  obtain ⟨_, _, _, oe, vs, T, _, _, he, _, hd, h1, _⟩ := id fl
  have out : wpAny (model X.prog X.w) X.A (setFlight (.ref a) X.env.frame) (fun _ t => wpAny (model X.prog X.w) X.A (throw (.ref a) : Sem Flow) (SP X pins D) X.xe t) X.xe { s' with heap := h } := by
    rw [hf]
    exact HandSPX.setFlight_upZ fl fun h4 held u4 => wpAny_throw (tk _ _ ⟨a, B, sI, pins, σ, H, cls, d, rfl, C.inv, C.gr, (C.up.trans C.on).trans u4, .inr (.inr (by rw [hs]; exact held)), C.na, C.os, C.ag, w⟩)
  unfold PySem.passOn
  refine wpAny_bind (wpAny_field he hd h1 ?_)
  have nn : ¬ ((Value.ref T == Value.none) = true) := by simp
  rw [if_neg nn]
  first
    | exact wpAny_bind (wpAny_pure (wpAny_bind out))
    | exact wpAny_bind out
end Down
/-- the clauses, one after the other -/
theorem clauses {D : Ends} {Wout : WX} {pins : List (Addr × Obj)} (hs : X.stack = X.env :: X.outer) (hf : X.env.frame = some X.env.locals) (hN : X.N.Nodup) (tk : L2N.Takes X Wout) {hds : List ExceptHandler} {l : List Cl} (ok : ClsOk X hds l) :
    ∀ {σ : L2.St} {H : Hp} {sI s' : Shared} {B h : Heap} {a : Addr} {cls : Value} {d : Option Addr}, Down X pins σ H sI s' B a cls d h → wCls X.K Wout D l cls d σ H →
      wpAny (model X.prog X.w) X.A (handleBy (.ref a) X.env hds) (SP X pins D) X.xe { s' with heap := h } := by
  induction ok with
  | nil => intro σ H sI s' B h a cls d C w; exact C.away hs hf tk w
  | @cons x n q b₀ suite np pos' hds l hc hi hl hsu _ ih =>
    intro σ H sI s' B h a cls d C w
    obtain ⟨b, hb, yes, no⟩ := w
    obtain ⟨nL, nF⟩ := C.nofr hf
    have I := C.now
    obtain ⟨oe, vs, he, hz, hd⟩ := C.fl.there
    have S := I.suite he hd C.na nL nF
    have ty : PySem.W.Looks (model X.prog X.w) h (typeOf (.ref a)) cls := fun A Q E s k z => wpAny_typeOf_ref (k _ _ he) (by rw [hz.1]; exact z)
    have names : ∀ {Q E : Value → Shared → Prop}, Q q.c { s' with heap := h } → wpAny (model X.prog X.w) (X.A.mark (some (.ref a))) (eval (.Name x np) X.env) Q E { s' with heap := h } := fun {Q E} z => by
      obtain ⟨g, nd, k⟩ := hc
      rcases k with k | ⟨k1, k2, k3⟩
      · exact ld_glob (X := X.suite a ((a, oe) :: (X.pn ++ pins))) S g k z nd
      · exact ld_blt (X := X.suite a ((a, oe) :: (X.pn ++ pins))) S g k1 k2 z k3 nd
    refine wpAny_handleBy_cons (codeAny_handlers_test ?_) (by intro z; cases z)
    refine names ((PySem.W.exm_one (M := model X.prog X.w) I.kIn ty hb).here ?_)
    cases b with
    | false => exact ih C (no rfl)
    | true =>
      refine codeAny_handlers_suite_as (HandSPX.lands_againZ C.fl fun h4 fl4 u4 => ?_)
      have C4 := C.next fl4 u4
      obtain ⟨oe4, vs4, he4, hz4, hd4⟩ := fl4.there
      have hot : L2H.HotC (X.suite a ((a, oe4) :: (X.pn ++ pins))) := ⟨(a, oe4), ⟨rfl, vs4, hd4, hz4.2.2 vs4 hd4⟩, List.mem_cons_self⟩
      refine store_ok (X := X.suite a ((a, oe4) :: (X.pn ++ pins))) (v := .ref a) (C4.now.suite he4 hd4 C.na nL nF) hN hi (.inl hl) rfl (fun s5 S5 => ?_) (.inr hl)
      refine wpAny_mono ((hsu a oe4 cls d (X.pn ++ pins) hz4.zc ⟨_, hd4⟩ hot).run [] s5 _ H _ S5 (yes rfl a C.na)) (fun f s6 e => ?_) (fun _ _ z => False.elim z)
      cases f with
      | next => obtain ⟨σ6, H6, S6, z⟩ := e; exact gone_ok (S6.unsuite I.ok) hN hi hl fun s7 J => ⟨_, _, J, z⟩
      | brk => obtain ⟨σ6, H6, S6, z⟩ := e; exact gone_ok (S6.unsuite I.ok) hN hi hl fun s7 J => ⟨_, _, J, z⟩
      | cont => obtain ⟨σ6, H6, S6, z⟩ := e; exact gone_ok (S6.unsuite I.ok) hN hi hl fun s7 J => ⟨_, _, J, z⟩
      | ret u => obtain ⟨v, σ6, H6, S6, rv, z⟩ := e; exact gone_ok (S6.unsuite I.ok) hN hi hl fun s7 J => ⟨_, _, _, J, rv, z⟩
def tTry (K : PySem.W.Frag) (tb : WX → TS) (Wout : WX) (l : List Cl) : TS := fun D σ H => tb (wCls K Wout D l) D σ H
/-- try with named clauses -/
theorem ps_try {body : List Stmt} {h₀ : ExceptHandler} {hds : List ExceptHandler} {l : List Cl} {pos : Pos} {tb : WX → TS} {Wout : WX} (hs : X.stack = X.env :: X.outer) (hf : X.env.frame = some X.env.locals) (hN : X.N.Nodup) (tk : L2N.Takes X Wout)
    (hb : ∀ (W : WX) (pn : List (Addr × Obj)) (xe : Value → Shared → Prop), L2N.Takes (X.tr pn xe) W → PassesOwn (model X.prog X.w) X.A X.env xe → PSs (X.tr pn xe) body (tb W)) (hh : ClsOk X (h₀ :: hds) l) :
    PS X (.Try body (h₀ :: hds) [] [] pos) (tTry X.K tb Wout l) := by
  refine ⟨fun pins s σ H D I h => ?_⟩
  have hfr : X.A.frames = some (X.env :: X.outer) := I.ok.frames.trans (congrArg some hs)
  refine wpAny_Try_except (wpAny_mono ((hb _ (X.pn ++ pins) (fun e s₁ => wpAny (model X.prog X.w) X.A (noteFrame e X.env) (fun _ s₂ => wpAny (model X.prog X.w) X.A (setFlight e none) (fun _ s₃ =>
    wpAny (model X.prog X.w) X.A (handleBy e X.env (h₀ :: hds)) (SP X pins D) X.xe s₃) X.xe s₂) X.xe s₁) ?take PassesOwn.looking).run [] s σ H D (I.toTry _) h) ?went fun _ _ e => e)
  case take =>
    rintro u s' ⟨a, B, sI, _, σ', H', cls, d, rfl, J, gr, up, sky, na, os, ag, w⟩
    rw [show (X.tr (X.pn ++ pins) _).stack = X.env :: X.outer from hs] at sky
    exact L2N.Sky.land L2N.Zn.steady hfr hf sky fun h3 fl u3 => clauses hs hf hN tk hh ⟨J.ofTry I.ok, gr, up, u3, fl, na, os, ag⟩ w
  case went =>
    intro f s1 e
    cases f with
    | next => obtain ⟨σ', H', J, q⟩ := e; exact wpAny_execs_nil ⟨σ', H', J.ofTry I.ok, q⟩
    | brk => obtain ⟨σ', H', J, q⟩ := e; exact ⟨σ', H', J.ofTry I.ok, q⟩
    | cont => obtain ⟨σ', H', J, q⟩ := e; exact ⟨σ', H', J.ofTry I.ok, q⟩
    | ret u => obtain ⟨v, σ', H', J, r, q⟩ := e; exact ⟨v, σ', H', J.ofTry I.ok, r, q⟩
end
end PL
/-! PLz: try over data; calls in a suite; attributes stored; xs[i] op= e; sets of ints; C(k = v); list(range(n)). -/
namespace PL
open PySem L2 PySem.Spec PyProof.Rows
variable {K : PySem.W.Frag} {W : WX}
/-! ### try -/
structure WCl where
  c : Value
  i : Nat
  ws : Addr → Addr → Exn → WS
def wHd (K : PySem.W.Frag) (P : PO) : List WCl → QX
  | [] => P.xc
  | q :: r => fun x δ μ => ∃ b, PySem.W.exmOne K (.ref x.C) q.c = some b ∧ (if b = true then ∀ a dx, q.ws a dx x (δ.set q.i (some (.exc a dx x.C x.fs))) μ
      ⟨fun δ' μ' => P.nx (δ'.set q.i none) μ', P.rt, fun δ' μ' => P.bk (δ'.set q.i none) μ', fun δ' μ' => P.ct (δ'.set q.i none) μ', fun _ _ _ => False⟩ else wHd K P r x δ μ)
def wTry (K : PySem.W.Frag) (b : WS) (l : List WCl) : WS := fun δ μ P => b δ μ { P with xc := wHd K P l }
inductive LCl (K : PySem.W.Frag) : List Cl → List WCl → Prop
  | nil : LCl K [] []
  | cons {q : Cl} {u : WCl} {l : List Cl} {r : List WCl} (hc : q.c = u.c) (hi : q.i = u.i) (h : ∀ a dx x, LS K W0 (q.ts a (.ref x.C) (some dx)) (u.ws a dx x)) (t : LCl K l r) : LCl K (q :: l) (u :: r)
theorem EnvOk.unset1 {w : Wd} {σ : L2.St} {δ : En} (h : EnvOk K w.α w.F σ δ) (i : Nat) : EnvOk K w.α w.F (σ.set i none) (δ.set i none) := h.unset i none
theorem ls_try {tb : WX → TS} {b : WS} {l : List Cl} {r : List WCl} (hb : ∀ W', LS K W' (tb W') b) (hl : LCl K l r) : LS K W (tTry K tb W l) (wTry K b r) := fun wd σ δ μ P ok env h Z nx rt bk ct x => by
  refine hb _ wd σ δ μ _ ok env h Z nx rt bk ct ?_
  have main : ∀ {l r}, LCl K l r → XL K (wCls K W Z l) (wHd K P r) wd := by
    intro l r hl
    induction hl with
    | nil => exact x
    | @cons q u l r hc hi hs t ih =>
      intro y δ1 μ1 w1 σ1 dx fvs p l1 ok1 env1 e1 e2 rf
      obtain ⟨bb, hbb, p⟩ := p
      refine ⟨bb, hc ▸ hbb, fun hy a ha => ?_, fun hn => ?_⟩
      · rw [if_pos hy] at p
        have rep : Rep K w1.α w1.F (.ref a) (.exc a dx y.C y.fs) := .exc e2 rf
        refine hs a dx y w1 _ _ μ1 _ ok1 (hi ▸ env1.set rep u.i) (p a dx) _ (fun s d m w a l o e => ?_) (rt.le l1) (fun s d m w a l o e => ?_) (fun s d m w a l o e => ?_) (fun _ _ _ _ _ _ _ z => z.elim)
        · exact hi ▸ nx _ _ _ _ a (l1.trans l) o (e.unset1 u.i)
        · exact hi ▸ bk _ _ _ _ a (l1.trans l) o (e.unset1 u.i)
        · exact hi ▸ ct _ _ _ _ a (l1.trans l) o (e.unset1 u.i)
      · rw [if_neg (by rw [hn]; exact Bool.false_ne_true)] at p
        exact ih y δ1 μ1 w1 σ1 dx fvs p l1 ok1 env1 e1 e2 rf
  exact main hl
/-- e.f, e the exception of the suite at a with the dict dx -/
def wXf (a dx : Addr) (x : Exn) (C : Addr) (f : Str) (e : WE) : WE := fun δ μ P XP => e δ μ (fun v μ1 => match v with | .exc a' dx' _ fs => a' = a ∧ dx' = dx ∧ x.C = C ∧ (match fs.lookup f with | some d => P d μ1 | none => False) | _ => False) XP
theorem le_xf {a dx C : Addr} {x : Exn} {f : Str} {te : TE} {e : WE} (he : LE K W te e) : LE K W (tXf a (.ref x.C) (some dx) C f te) (wXf a dx x C f e) := fun wd σ δ μ P XP ok env h Q q xl =>
  he wd σ δ μ _ XP ok env h _ (fun v d μ1 w1 h1 l1 ok1 r1 => by
    cases d with
    | exc a' dx' C' fs =>
      obtain ⟨rfl, rfl, hC, h1⟩ := h1
      cases r1 with
      | exc e1 rf =>
        cases e2 : fs.lookup f with
        | none => simp only [e2] at h1
        | some d2 =>
          simp only [e2] at h1
          obtain ⟨v2, lv, rv⟩ := rf.look e2
          exact ⟨rfl, by rw [hC], _, _, v2, rfl, ok1.ex _ _ e1, lv, q v2 d2 μ1 w1 h1 l1 ok1 rv⟩
    | _ => exact h1.elim) xl

/-! ### calls where an exception is handled -/
structure DefH (P : Program) (w : World) (K : PySem.W.Frag) (mg : Str → Option Value) (base : Heap) (x : Str) (k : Nat) (ps : List Str) (S : FS) : Prop where
  ex : ∃ (f : Addr) (fd : FuncData), L2H.FnH P w K mg base (L2N.CX P w) k f fd ps (spOf K S) ∧ mg x = some (.ref f) ∧ PySem.W.keepIn K (.ref f) = true ∧ Binds K fd ps []
theorem kDefH {X : Cx} {P : Program} {w : World} {mg : Str → Option Value} {base : Heap} {x : Str} {k j : Nat} {ps : List Str} {S : FS} {W : WX} {p pos : Pos} {e : Expr} {es : List Expr} {t : TA} (K : PySem.W.Frag) (hK : X.K = K) (D : DefH P w K mg base x k ps S) (hr : L2H.RoomH j X.A) (hc : L2H.HotC X) (hx : ∀ σ, PassesAt (L2N.CX X.prog X.w) X σ (L2.WE W σ)) (ha : PA X (e :: es) t)
    (hP : X.prog = P := by rfl) (hw : X.w = w := by rfl) (hmg : X.mg = mg := by rfl) (hba : X.base = base := by rfl) (hj : k ≤ j := by decide) (hg : Gl X x := by rfl) (hdb : (x == ("__debug__" : Str)) = false := by decide) (he : starEach (e :: es) X.env = (false, eval e X.env) :: starEach es X.env := by rfl) (hpl : (backTo pos (starEach es X.env)).any (·.1) = false := by rfl) :
    PE X (.Call (.Name x p) (e :: es) [] pos) (tCallS (spOf K S) (L2.WE W) t) := by
  subst hK hP hw hmg hba
  obtain ⟨f, fd, F, hm, hk, hb⟩ := D.ex
  exact L2H.pe_callH F (hr.mono hj) hc hg hm hk hb hx ha hdb he hpl
theorem le_callS {n : Nat} {S : FS} {ta : TA} {a : WA} (ha : LA K W n ta a) : LE K W (tCallS (spOf K S) (L2.WE W) ta) (wCall S [] a) := fun wd σ δ μ P XP ok env h Q q x =>
  ha wd σ δ μ _ XP ok env h _ (fun vs ds μ1 w1 h1 l1 ok1 r1 _ => ⟨w1, μ1, ds, P, _, rfl, ok1, r1, by rw [List.append_nil] at h1; exact h1, q.le l1, fun y μ2 w2 dx fvs a b c d e g => x y δ μ2 w2 σ dx fvs a (l1.trans b) c (env.le (l1.trans b)) d e g⟩) x

/-! ### o.f = e -/
theorem RepF.putD {α : List Addr} {F : Hp} {f : Str} {v : V} {d : D} (r : Rep K α F v d) : ∀ {fvs : List (Str × V)} {fs : List (Str × D)}, RepF K α F fvs fs → RepF K α F (putF f v fvs) (putD f d fs)
  | _, _, .nil => .cons r .nil
  | _, _, .cons (f := g) q t => by
    unfold putF PL.putD
    by_cases h : g = f
    · rw [if_pos h, if_pos h]; exact .cons r t
    · rw [if_neg h, if_neg h]; exact .cons q (RepF.putD r t)
/-- an own instance that may change -/
def cellI (μ : Mem) : D → Option (Nat × Addr × List (Str × D))
  | .cell n => match μ[n]? with | some (.ins C fs) => some (n, C, fs) | _ => none
  | _ => none
def wFldS (fld : Addr → Str → Prop) (o : WE) (f : Str) (e : WE) : WS := fun δ μ P => e δ μ (fun y μ1 => o δ μ1 (fun x μ2 => match cellI μ2 x with
  | some (n, C, fs) => fld C f ∧ fs.length < 1000 ∧ P.nx δ (μ2.set n (.ins C (putD f y fs))) | none => False) P.xc) P.xc
theorem ls_fldS {fld : Addr → Str → Prop} {to te : TE} {o e : WE} {f : Str} (hc : ∀ C, fld C f → Cls K C ∧ NoAttr K C f) (ho : LE K W to o) (he : LE K W te e) : LS K W (sFld K to te f) (wFldS fld o f e) := fun wd σ δ μ P ok env h Z nx rt bk ct x =>
  he wd σ δ μ _ P.xc ok env h _ (fun vy y μ1 w1 h1 l1 ok1 r1 => ho w1 σ δ μ1 _ P.xc ok1 (env.le l1) h1 _ (fun vx d μ2 w2 h2 l2 ok2 r2 => by
    cases d with
    | cell n =>
      have h2' : (match (match μ2[n]? with | some (.ins C fs) => some (n, C, fs) | _ => none) with | some (n, C, fs) => fld C f ∧ fs.length < 1000 ∧ P.nx δ (μ2.set n (.ins C (PL.putD f y fs))) | none => False) := h2
      cases e1 : μ2[n]? with
      | none => rw [e1] at h2'; exact h2'.elim
      | some m =>
        rw [e1] at h2'
        cases m with
        | ins C fs =>
          obtain ⟨hf, hl, h3⟩ := h2'
          cases r2 with
          | cell hp =>
            obtain ⟨_, dx, fvs, a, b⟩ := ok2.cell _ _ _ hp e1 (fun z => by cases z)
            have L := l1.trans l2
            obtain ⟨ok3, l3⟩ := ok2.setcell (m' := .ins C (PL.putD f y fs)) (o := .ins C dx (putF f vy fvs)) hp e1 (fun z => by cases z) ⟨dx, _, upd_same, b.putD (r1.le l2)⟩
            exact ⟨_, C, dx, fvs, rfl, a, (hc C hf).1, (hc C hf).2, by rw [b.length]; exact hl, nx σ δ _ _ h3 (L.trans l3) ok3 (env.le (L.trans l3))⟩
        | _ => exact h2'.elim
    | _ => exact h2.elim) (x.le l1)) x

/-! ### xs[i] op= e -/
theorem pget_list {X : Cx} : PGet X (rIxL X.K) := by
  intro pins s σ H o i ov iv Q I ro ri h
  obtain ⟨p, xs, k, z, rfl, rfl, hq, he, q⟩ := h
  cases ro
  obtain ⟨t, rfl⟩ := ri
  obtain ⟨its, r, pl, hz⟩ := I.list hq
  obtain ⟨j, h1, h2, h3, h4, h5⟩ := atI_get he
  obtain ⟨u, eu, ru⟩ := r.get h2
  have hl := r.length
  have hn := line63
  have fin : EP X pins σ Q u s := ⟨z, H, I, ru, q⟩
  by_cases h0 : 0 ≤ k
  · have hj : k.toNat = j := Option.some.inj ((seqIndex_of h0 h5).symm.trans h1)
    exact wpAny_getItem_list pl.isList h0 (by omega) (by rw [hj]; simpa using eu) fin
  · have hj : (k + (its.toArray.size : Int)).toNat = j := by
      rw [List.size_toArray, ← hl]
      exact Option.some.inj ((seqIndex_neg (by omega) h4).symm.trans h1)
    exact wpAny_getItem_list_neg pl.isList (by omega) (by rw [List.size_toArray] <;> omega) (by omega) (by rw [hj]; simpa using eu) fin
def wAugS (f : Int → Int → Int) (o i e : WE) : WS := fun δ μ P => o δ μ (fun x μ1 => i δ μ1 (fun y μ2 => match y with
  | .int k => (match lstOf μ2 x with
    | some xs => (match atI xs k with
      | some (.int u) => e δ μ2 (fun z μ3 => (match z with
        | .int v => (match cellL μ3 x with
          | some (n, ys) => (match ixN ys.length k with | some j => P.nx δ (μ3.set n (.lst (ys.set j (.int (f u v))))) | none => False)
          | none => False)
        | _ => False)) P.xc
      | _ => False)
    | none => False)
  | _ => False) P.xc) P.xc
theorem ls_augS {f : Int → Int → Int} {to ti te : TE} {o i e : WE} (ho : LE K W to o) (hi : LE K W ti i) (he : LE K W te e) : LS K W (tAugS to ti te (rIxL K) (ipI f) rSetL) (wAugS f o i e) := fun wd σ δ μ P ok env h Z nx rt bk ct x =>
  ho wd σ δ μ _ P.xc ok env h _ (fun vx d μ1 w1 h1 l1 ok1 rx => hi w1 σ δ μ1 _ P.xc ok1 (env.le l1) h1 _ (fun vy y μ2 w2 h2 l2 ok2 ry => by
    dsimp only at h2
    split at h2
    · rename_i k
      cases ry
      cases e1 : lstOf μ2 d with
      | none => simp only [e1] at h2
      | some xs =>
        simp only [e1] at h2
        cases e2 : atI xs k with
        | none => simp only [e2] at h2
        | some u0 =>
          simp only [e2] at h2
          cases u0 with
          | int u =>
            obtain ⟨a, vs, rfl, ha, rs⟩ := rep_lst ok2 (rx.le l2) e1
            obtain ⟨w0, hw0, rw0⟩ := atI_of rs e2
            have L := l1.trans l2
            refine ⟨a, vs, k, w0, rfl, rfl, SqL.of ha, hw0, he w2 σ δ μ2 _ P.xc ok2 (env.le L) h2 _ (fun vz z μ3 w3 h3 l3 ok3 rz => ?_) (x.le L)⟩
            dsimp only at h3
            cases rw0
            split at h3
            · rename_i v
              cases rz
              cases e3 : cellL μ3 d with
              | none => simp only [e3] at h3
              | some p =>
                obtain ⟨n, ys⟩ := p
                simp only [e3] at h3
                cases ej : ixN ys.length k with
                | none => simp only [ej] at h3
                | some j =>
                  simp only [ej] at h3
                  obtain ⟨a', us, ea, h1', h2', h3', h4⟩ := rep_cellL ok3 ((rx.le l2).le l3) e3
                  obtain rfl := V.ref.inj ea
                  have L3 := L.trans l3
                  obtain ⟨ok4, l4⟩ := ok3.putL h1' h2' (h4.set j (.int (f u v)))
                  exact ⟨u, v, rfl, rfl, a, us, k, j, rfl, rfl, h3', by rw [h4.length]; exact ej, nx _ _ _ _ h3 (L3.trans l4) ok4 (env.le (L3.trans l4))⟩
            · exact h3.elim
          | _ => exact h2.elim
    · exact h2.elim) (x.le l1)) x
end PL
/-! PLw: own == and !=; sets of ints; C(k = v); list(range(n)). -/
namespace PL
section
open PySem PySem.W PySem.Calls Builtin
variable {prog : Program} {w : World} {A : Around} {E : Value → Shared → Prop} {s : Shared} {K : Frag} {x C f : Addr} {ox : Obj} {od : Option Obj} {b tb : Value}
/-- x != b where only == is one's own -/
theorem ne_own {Q : Value → Shared → Prop} (X : K.In s.heap) (I : InstAt s.heap x ox C od) (hm : mroIn K C (.type "object") = some true) (hne : findIn K (.ref C) "__ne__" = some (some (.builtin "object.__ne__")))
    (heq : findIn K (.ref C) "__eq__" = some (some (.ref f))) (hf : isFn K (.ref f) = true) (hu : A.units + 1 < cLine) (hb : Looks (model prog w) s.heap (typeOf b) tb) (hn : notFirst K C tb = true)
    (h : wpAny (model prog w) A.in1 (call (.ref f) [.ref x, b]) (fun v s' => ∃ r, v = .bool r ∧ Q (.bool (!r)) s') E s) : wpAny (model prog w) A (richCompare .NotEq (.ref x) b) Q E s := by
  have isObj : Looks (model prog w) s.heap (isInstance (.ref x) (.type "object")) true := I.type.andThen (looks_mroIn X hm)
  have body : wpAny (model prog w) A (call (.builtin "object.__ne__") [.ref x, b]) (fun v s' => ∃ r, v = .bool r ∧ Q (.bool r) s') E s := by
    refine wpAny_call (codeAny_call_builtin F.cmp_object.ne.plain F.cmpEntry_ne (check_slot F.cmpKind_ne F.cmpSplit_ne isObj (F.cmpArgs_ne _ _) ?_))
    unfold Builtin.«object.__ne__»
    refine wpAny_bind (wpAny_of_eq (a := ((Value.ref x : Value), [b])) (by first | rfl | (simp only [slotArgs]; rfl)) ?_)
    refine wpAny_bind (wpAny_cRoomFor (by show A.units + 1 < cLine; exact hu) (wpAny_bind (ifBound_K X I heq hf (wpAny_mono h (fun v s' hv => ?_) fun _ _ e => e))))
    obtain ⟨r, rfl, q⟩ := hv
    refine wpAny_bind (wpAny_truthy_bool ?_)
    first
      | exact wpAny_pure ⟨_, rfl, q⟩
      | exact wpAny_pure ⟨fun z => nomatch z, _, rfl, q⟩
  have one : wpAny (model prog w) A (tryCompare (.ref x) "__ne__" b) (fun r s' => ∃ v, r = some v ∧ Q v s') E s := by
    unfold tryCompare callSpecialIfBound? bindSpecialIfBound?
    refine wpAny_bind (wpAny_holding (wpAny_bind (wpAny_bind (wpAny_bind (I.type.here ((looks_findIn X hne).here ?_))))))
    have fin : wpAny (model prog w) A (call (.builtin "object.__ne__") ([.ref x] ++ [b]) >>= fun v => pure (some v)) (fun r s' => wpAny (model prog w) A (match r with | some .notImplemented | none => pure none | some v => pure (some v)) (fun r s' => ∃ v, r = some v ∧ Q v s') E s') E s :=
      wpAny_bind (wpAny_mono body (fun v s' ⟨r, e, q⟩ => by subst e; exact wpAny_pure (wpAny_pure ⟨_, rfl, q⟩)) fun _ _ e => e)
    refine wpAny_bind (wpAny_askSetting (wpAny_ite ?_))
    have bd := F.cmp_object.ne.bind (.ref x)
    split
    · rw [bd]; exact wpAny_bind (wpAny_pure (wpAny_pure (by exact fin)))
    · rw [bd]; exact wpAny_tryCatch (wpAny_bind (wpAny_pure (wpAny_pure (by exact fin))))
  unfold richCompare
  simp only [oneThing_ref]
  refine wpAny_holding (wpAny_bind (wpAny_cRoomFor (Nat.lt_of_succ_lt hu) ?_))
  refine wpAny_bind (I.type.here (wpAny_bind (hb.here ?_)))
  split
  · rename_i q
    have e : subIn K tb (.ref C) = some false := by
      rcases Bool.or_eq_true_iff.mp hn with e | e
      · rw [beq_iff_eq.mp e] at q; simp at q
      · exact beq_iff_eq.mp e
    refine wpAny_bind ((looks_subIn X e).here ?_)
    simp only [Bool.false_eq_true, if_false]
    refine wpAny_bind (wpAny_mono one (fun r s' z => ?_) fun _ _ e => e)
    obtain ⟨v, rfl, hq⟩ := z
    exact wpAny_pure hq
  · refine wpAny_bind (wpAny_pure ?_)
    simp only [Bool.false_eq_true, if_false]
    refine wpAny_bind (wpAny_mono one (fun r s' z => ?_) fun _ _ e => e)
    obtain ⟨v, rfl, hq⟩ := z
    exact wpAny_pure hq
end
section
open PySem L2 PySem.Spec PyProof.Rows
variable {K : PySem.W.Frag} {W : WX}
structure EqD (P : Program) (w : World) (K : PySem.W.Frag) (mg : Str → Option Value) (base : Heap) (C : Addr) (k : Nat) (S : FS) : Prop where
  ex : ∃ (f : Addr) (fd : FuncData) (ps : List Str), FnOk P w K mg base (L2N.CX P w) k f fd ps (spOf K S) ∧ PySem.W.findIn K (.ref C) "__eq__" = some (some (.ref f)) ∧ PySem.W.isFn K (.ref f) = true ∧ Binds K fd ps []
  ne : PySem.W.findIn K (.ref C) "__ne__" = some (some (.builtin "object.__ne__"))
  ins : InsC K C
def rEqO (K : PySem.W.Frag) (eqf : Addr → FS → Prop) (neg : Bool) : R2 := fun x y H Q => ∃ (C : Addr) (S : FS) (a dx : Addr) (fs : List (Str × V)) (t : Value), eqf C S ∧ x = .ref a ∧ H a = some (.ins C dx fs) ∧ TyX K H y t ∧ PySem.W.notFirst K C t = true ∧
  spOf K S [x, y] H (fun v H' => ∃ r, v = .bl r ∧ Q (.bl (if neg then !r else r)) H') (fun _ _ _ => False)
/-- the own == called -/
theorem run_eqD {X : Cx} {k : Nat} {S : FS} {f : Addr} {fd : FuncData} {ps : List Str} {A : Around} {pins : List (Addr × Obj)} {s : Shared} {σ : L2.St} {H : Hp} {x y : V} {v u : Value} {Q : VK} (F : FnOk X.prog X.w X.K X.mg X.base (L2N.CX X.prog X.w) k f fd ps (spOf X.K S)) (hb : Binds X.K fd ps [])
    (hr : Room k A) (hf : A.frames = X.A.frames) (I : Inv X pins σ H s) (rx : RelV x v) (ry : RelV y u) (h : spOf X.K S [x, y] H Q (fun _ _ _ => False)) : wpAny (model X.prog X.w) A (call (.ref f) [v, u]) (EP X pins σ Q) X.xe s := by
  have e0 : Env0 X.prog X.w X.K X.mg X.base A X.stack s H := by
    have e := I.env0
    exact ⟨by rw [hf]; exact e.frames, e.mod, e.bs, e.bsz, e.funs, e.frf, e.hok, e.bare⟩
  have hl := F.len _ _ _ _ h
  have r2 : Vals [x, y] [v, u] := .cons rx (.cons ry .nil)
  refine wpAny_call (codeAny_mono (F.run A X.stack s H ⟨[v, u], []⟩ [v, u] [x, y] _ (fun _ _ _ => False) hr e0 (by
    have b := hb s [v, u] I.kIn (by simpa using hl)
    rw [List.append_nil] at b
    exact b) r2 h) fun r s' hq => ?_)
  cases r with
  | error e =>
    obtain ⟨_, _, _, _, _, _, _, _, _, _, _, _, z⟩ := hq
    exact z.elim
  | ok fl =>
    cases fl with
    | ret u => exact I.after hq
    | next => exact False.elim hq
    | brk => exact False.elim hq
    | cont => exact False.elim hq
theorem op_eqO {X : Cx} {eqf : Addr → FS → Prop} {k : Nat} (HE : ∀ C S, eqf C S → EqD X.prog X.w X.K X.mg X.base C k S) (hr : Room (k + 1) X.A) : OpR X (compareOp .Eq) (rEqO X.K eqf false) := by
  intro pins s σ H x y v u Q I rx ry h
  obtain ⟨C, S, a, dx, fs, t, he, rfl, ha, ty, nf, q⟩ := h
  obtain ⟨f, fd, ps, F, h1, h2, hb⟩ := (HE C S he).ex
  obtain ⟨P, Z, pz, _⟩ := kit_of I ry ty
  have rx' := rx
  cases rx'
  obtain ⟨mA, J, _⟩ := ins_get I.hok ha
  obtain ⟨od, J, _⟩ := J.look
  obtain ⟨m, hF⟩ := I.fr
  show wpAny (model X.prog X.w) X.A (richCompare .Eq (.ref a) u) (EP X pins σ Q) X.xe s
  refine PySem.W.cmp_K (op := .Eq) (tb := t) hr.units0 hF I.ok.mod.kin J (Z.ty _ _ I.kIn pz) nf h1 h2 ?_
  refine wpAny_mono (run_eqD F hb (hr.mono (Nat.le_succ k)) rfl I rx ry q) (fun w s' z => ?_) fun _ _ e => e
  obtain ⟨z, H', I', rz, r, rfl, q'⟩ := z
  cases rz
  exact ⟨.bl r, H', I', rfl, q'⟩
theorem op_neO {X : Cx} {eqf : Addr → FS → Prop} {k : Nat} (HE : ∀ C S, eqf C S → EqD X.prog X.w X.K X.mg X.base C k S) (hr : Room (k + 1) X.A) : OpR X (compareOp .NotEq) (rEqO X.K eqf true) := by
  intro pins s σ H x y v u Q I rx ry h
  obtain ⟨C, S, a, dx, fs, t, he, rfl, ha, ty, nf, q⟩ := h
  obtain ⟨f, fd, ps, F, h1, h2, hb⟩ := (HE C S he).ex
  obtain ⟨P, Z, pz, _⟩ := kit_of I ry ty
  have rx' := rx
  cases rx'
  obtain ⟨mA, J, _⟩ := ins_get I.hok ha
  obtain ⟨od, J, _⟩ := J.look
  show wpAny (model X.prog X.w) X.A (richCompare .NotEq (.ref a) u) (EP X pins σ Q) X.xe s
  refine ne_own I.kIn J (HE C S he).ins.hm (HE C S he).ne h1 h2 (by have := hr.un; omega) (Z.ty _ _ I.kIn pz) nf ?_
  refine wpAny_mono (run_eqD F hb hr.in1 rfl I rx ry q) (fun w s' z => ?_) fun _ _ e => e
  obtain ⟨z, H', I', rz, r, rfl, q'⟩ := z
  cases rz
  exact ⟨r, rfl, ⟨.bl (!r), H', I', rfl, q'⟩⟩
/-- == and !=, own ones too -/
def wEqU (K : PySem.W.Frag) (eqf : Addr → FS → Prop) (neg : Bool) : WR2 := fun x y μ P => match insOf μ x with
  | some (C, _) => ∃ S t, eqf C S ∧ tagOf μ y = some t ∧ (∀ C', t = .inr C' → InsC K C') ∧ PySem.W.notFirst K C (tagV t) = true ∧ S [x, y] μ (fun d μ1 => ∃ r, d = .bl r ∧ P (.bl (if neg then !r else r)) μ1) (fun _ _ => False)
  | none => wEq neg x y μ P
theorem lr_eqO {eqf : Addr → FS → Prop} {neg : Bool} {x y : D} {C : Addr} {fs : List (Str × D)} {wd : Wd} {μ : Mem} {P : D → Mem → Prop} {vx vy : V} (ok : Ok K wd μ) (rx : Rep K wd.α wd.F vx x) (ry : Rep K wd.α wd.F vy y) (e : insOf μ x = some (C, fs))
    (h : ∃ S t, eqf C S ∧ tagOf μ y = some t ∧ (∀ C', t = .inr C' → InsC K C') ∧ PySem.W.notFirst K C (tagV t) = true ∧ S [x, y] μ (fun d μ1 => ∃ r, d = .bl r ∧ P (.bl (if neg then !r else r)) μ1) (fun _ _ => False)) {Q : VK} (q : VL K P wd Q) : rEqO K eqf neg vx vy wd.H Q := by
  obtain ⟨S, t, he, ht, hi, hn, hs⟩ := h
  obtain ⟨a, dx, fvs, rfl, ha, _⟩ := rep_ins ok rx e
  refine ⟨C, S, a, dx, fvs, tagV t, he, rfl, ha, tag_of ok ry ht hi, hn, wd, μ, [x, y], _, _, rfl, ok, .cons rx (.cons ry .nil), hs, fun v d μ' w' p l o r => ?_, fun z _ _ _ _ p => p.elim⟩
  obtain ⟨r', rfl, p⟩ := p
  cases r
  exact ⟨r', rfl, q _ _ μ' w' p l o (.bl _)⟩
theorem lr_eqU {eqf : Addr → FS → Prop} : LR2 K (fun x y H Q => rEqD K x y H Q ∨ rEqO K eqf false x y H Q) (wEqU K eqf false) := fun wd μ P vx vy x y ok rx ry h Q q => by
  unfold wEqU at h
  cases e : insOf μ x with
  | none => simp only [e] at h; exact .inl (lr_eq wd μ P vx vy x y ok rx ry h Q q)
  | some p => obtain ⟨C, fs⟩ := p; simp only [e] at h; exact .inr (lr_eqO ok rx ry e h q)
theorem lr_neU {eqf : Addr → FS → Prop} : LR2 K (fun x y H Q => rNeD K x y H Q ∨ rEqO K eqf true x y H Q) (wEqU K eqf true) := fun wd μ P vx vy x y ok rx ry h Q q => by
  unfold wEqU at h
  cases e : insOf μ x with
  | none => simp only [e] at h; exact .inl (lr_ne wd μ P vx vy x y ok rx ry h Q q)
  | some p => obtain ⟨C, fs⟩ := p; simp only [e] at h; exact .inr (lr_eqO ok rx ry e h q)
theorem kEqU {X : Cx} (K : PySem.W.Frag) (h : X.K = K) {P : Program} {w : World} {mg : Str → Option Value} {base : Heap} {eqf : Addr → FS → Prop} {k j : Nat} (HE : ∀ C S, eqf C S → EqD P w K mg base C k S) (hr : Room j X.A)
    (hP : X.prog = P := by rfl) (hw : X.w = w := by rfl) (hmg : X.mg = mg := by rfl) (hba : X.base = base := by rfl) (hj : k + 1 ≤ j := by decide) : OpR X (compareOp .Eq) (fun x y H Q => rEqD K x y H Q ∨ rEqO K eqf false x y H Q) := by
  subst h hP hw hmg hba
  exact (op_eqR hr).or (op_eqO HE (hr.mono hj))
theorem kNeU {X : Cx} (K : PySem.W.Frag) (h : X.K = K) {P : Program} {w : World} {mg : Str → Option Value} {base : Heap} {eqf : Addr → FS → Prop} {k j : Nat} (HE : ∀ C S, eqf C S → EqD P w K mg base C k S) (hr : Room j X.A)
    (hP : X.prog = P := by rfl) (hw : X.w = w := by rfl) (hmg : X.mg = mg := by rfl) (hba : X.base = base := by rfl) (hj : k + 1 ≤ j := by decide) : OpR X (compareOp .NotEq) (fun x y H Q => rNeD K x y H Q ∨ rEqO K eqf true x y H Q) := by
  subst h hP hw hmg hba
  exact (op_neR hr).or (op_neO HE (hr.mono hj))

/-! ### sets of ints -/
theorem bt_set : bootBuiltins "set" = some (.type "set") := by decide +kernel
def setOf (μ : Mem) : D → Option (Nat × World × (Int → Bool) × Nat)
  | .cell n => match μ[n]? with | some (.set w S k) => some (n, w, S, k) | _ => none
  | _ => none
theorem rep_set {wd : Wd} {μ : Mem} (ok : Ok K wd μ) {v : V} {d : D} (r : Rep K wd.α wd.F v d) {n : Nat} {w : World} {S : Int → Bool} {k : Nat} (h : setOf μ d = some (n, w, S, k)) : d = .cell n ∧ ∃ p, v = .ref p ∧ wd.α[n]? = some p ∧ μ[n]? = some (.set w S k) ∧ wd.H p = some (SetO w p S k) := by
  cases d with
  | cell m =>
    have h' : (match μ[m]? with | some (.set w S k) => some (m, w, S, k) | _ => none) = some (n, w, S, k) := h
    cases e : μ[m]? with
    | none => rw [e] at h'; cases h'
    | some q =>
      rw [e] at h'
      cases q with
      | set w' S' k' =>
        cases h'
        cases r with
        | cell hp => exact ⟨rfl, _, rfl, hp, e, (ok.cell _ _ _ hp e (fun z => by cases z)).2⟩
      | _ => cases h'
  | _ => cases h
/-- set() -/
def wSet0 (w : World) : WE := fun _ μ P _ => P (.cell μ.length) (μ ++ [.set w (fun _ => false) 0])
theorem le_set0 {w : World} : LE K W (tCB (rSet0 w) tNil) (wSet0 w) := fun wd σ δ μ P XP ok env h Q q x => ⟨rfl, fun p hp => by
  obtain ⟨ok2, l2⟩ := ok.newcell (m := .set w (fun _ => false) 0) hp (o := SetO w p (fun _ => false) 0) upd_same
  exact q (.ref p) (.cell μ.length) _ _ h l2 ok2 (.cell (Wd.last ok p))⟩
theorem kSet0 {X : Cx} (w : World) (hw : X.w = w) {p pos : Pos} (hm : X.mg "set" = none) (hg : Gl X "set" := by rfl) : PE X (.Call (.Name "set" p) [] [] pos) (tCB (rSet0 w) tNil) := by
  subst hw
  exact pe_callTy0 cr_set0 hg hm bt_set
/-- s.add(k) -/
def wSAdd (w : World) (o : WE) (a : WA) : WE := fun δ μ P XP => o δ μ (fun x μ1 => (∃ p, setOf μ1 x = some p ∧ p.2.1 = w) ∧ a δ μ1 (fun ds μ2 => match ds, setOf μ2 x with
  | [.int k], some (n, w', S, m) => w' = w ∧ m + 1 < PySem.scanBound ∧ P .non (μ2.set n (.set w (fun j => S j || decide (j = k)) (if S k = true then m else m + 1)))
  | _, _ => False) XP) XP
theorem le_sadd {w : World} {n : Nat} {to : TE} {ta : TA} {o : WE} {a : WA} (ho : LE K W to o) (ha : LA K W n ta a) : LE K W (tSAdd w to ta) (wSAdd w o a) := fun wd σ δ μ P XP ok env h Q q x =>
  ho wd σ δ μ _ XP ok env h _ (fun v d μ1 w1 h1 l1 ok1 r1 => by
    obtain ⟨⟨⟨n1, w', S1, m1⟩, e1, hw⟩, h1⟩ := h1
    obtain rfl : w' = w := hw
    obtain ⟨_, p, rfl, _, _, hH⟩ := rep_set ok1 r1 e1
    refine ⟨⟨p, S1, m1, rfl, hH⟩, ha w1 σ δ μ1 _ XP ok1 (env.le l1) h1 _ (fun vs ds μ2 w2 h2 l2 ok2 r2 _ => ?_) (x.le l1)⟩
    have L := l1.trans l2
    split at h2
    · rename_i k n2 w2' S2 m2 e2 _
      obtain ⟨rfl, hm, h2⟩ := h2
      obtain ⟨hd, p', ep, hp, hμ, hH2⟩ := rep_set ok2 (r1.le l2) e2
      cases ep
      cases r2 with
      | cons ra rn =>
        cases rn
        cases ra
        obtain ⟨ok3, l3⟩ := ok2.setcell (m' := .set w2' (fun j => S2 j || decide (j = k)) (if S2 k = true then m2 else m2 + 1)) (o := SetO w2' p (fun j => S2 j || decide (j = k)) (if S2 k = true then m2 else m2 + 1)) hp hμ (fun z => by cases z) upd_same
        exact ⟨p, k, S2, m2, rfl, rfl, hH2, hm, q _ _ _ _ h2 (L.trans l3) ok3 .non⟩
    · exact h2.elim) x
theorem kSAdd {X : Cx} (w : World) (hw : X.w = w) {o e : Expr} {es : List Expr} {to : TE} {t : TA} {apos cpos : Pos} (ho : PE X o to) (ha : PA X (e :: es) t)
    (hbase : attributeBase o "add" X.env (eval o X.env) = eval o X.env := by rfl)
    (hfew : ((backTo cpos (starEach (e :: es) X.env)).all (fun x => !x.1) && (backToKw cpos (keywordEach [] X.env)).all (fun x => x.1.isSome)
      && decide ((e :: es).length + ([] : List Keyword).length + (if ([] : List Keyword).isEmpty then 0 else 1) < 30)) = true := by rfl)
    (hline : (apos.endLine == cpos.line) = true := by rfl) (hs : starEach (e :: es) X.env = (false, eval e X.env) :: starEach es X.env := by rfl) (hplain : (backTo cpos (starEach es X.env)).any (·.1) = false := by rfl) :
    PE X (.Call (.Attribute o "add" apos) (e :: es) [] cpos) (tSAdd w to t) := by
  subst hw
  exact pe_sadd ho ha hbase hfew hline hs hplain
/-- k in .. -/
def rInU (K : PySem.W.Frag) (w : World) (neg : Bool) : R2 := fun x y H Q => rIn K neg x y H Q ∨ (if neg = true then rSNotIn w x y H Q else rSIn w x y H Q)
def wInU (w : World) (neg : Bool) : WR2 := fun x y μ P => match setOf μ y with
  | some (_, w', S, _) => w' = w ∧ (match x with | .int k => P (.bl (if neg then !S k else S k)) μ | _ => False)
  | none => wIn neg x y μ P
theorem lr_inU {w : World} {neg : Bool} : LR2 K (rInU K w neg) (wInU w neg) := fun wd μ P vx vy x y ok rx ry h Q q => by
  unfold wInU at h
  cases e : setOf μ y with
  | none => simp only [e] at h; exact .inl (lr_in wd μ P vx vy x y ok rx ry h Q q)
  | some p =>
    obtain ⟨n, w', S, k⟩ := p
    simp only [e] at h
    obtain ⟨rfl, h⟩ := h
    obtain ⟨_, p', rfl, _, _, hH⟩ := rep_set ok ry e
    split at h
    · rename_i i
      cases rx
      refine .inr ?_
      cases neg with
      | true => rw [if_pos rfl]; exact ⟨i, p', S, k, rfl, rfl, hH, q _ _ μ wd h (Le.refl _) ok (.bl _)⟩
      | false => rw [if_neg Bool.false_ne_true]; exact ⟨i, p', S, k, rfl, rfl, hH, q _ _ μ wd h (Le.refl _) ok (.bl _)⟩
    · exact h.elim
theorem opr_imp {X : Cx} {f : Value → Value → Sem Value} {r r' : R2} (h : OpR X f r) (hi : ∀ x y H Q, r' x y H Q → r x y H Q) : OpR X f r' := fun pins s σ H x y v u Q I rx ry q => h pins s σ H x y v u Q I rx ry (hi _ _ _ _ q)
theorem kInU {X : Cx} (K : PySem.W.Frag) (h : X.K = K) (w : World) (hw : X.w = w) : OpR X (compareOp .In) (rInU K w false) := by
  subst h hw
  exact opr_imp (op_in_seq.or or_sin) fun x y H Q z => by
    rcases z with z | z
    · exact .inl z
    · rw [if_neg Bool.false_ne_true] at z; exact .inr z
theorem kNotInU {X : Cx} (K : PySem.W.Frag) (h : X.K = K) (w : World) (hw : X.w = w) : OpR X (compareOp .NotIn) (rInU K w true) := by
  subst h hw
  exact opr_imp (op_notIn_seq.or or_snotin) fun x y H Q z => by
    rcases z with z | z
    · exact .inl z
    · rw [if_pos rfl] at z; exact .inr z
/-! ### list(range(n)) -/
def wLstRg1 (a : WE) : WE := fun δ μ P XP => a δ μ (fun x μ1 => match x with | .int n => -(2 ^ 62) ≤ n ∧ n ≤ 16777216 ∧ P (.cell μ1.length) (μ1 ++ [.lst ((List.range n.toNat).map fun i => D.int (i : Nat))]) | _ => False) XP
theorem reps_rg {α : List Addr} {F : Hp} (n : Nat) : Reps K α F ((List.range n).map fun i => V.int (i : Nat)) ((List.range n).map fun i => D.int (i : Nat)) := by
  generalize List.range n = l
  induction l with
  | nil => exact .nil
  | cons a l ih => exact .cons (.int _) ih
theorem le_lstRg1 {ta : TE} {a : WE} (ha : LE K W ta a) : LE K W (tLstRg (tRg1 ta)) (wLstRg1 a) := fun wd σ δ μ P XP ok env h Q q x =>
  ha wd σ δ μ _ XP ok env h _ (fun v d μ1 w1 h1 l1 ok1 r1 => by
    dsimp only at h1
    split at h1
    · rename_i n
      cases r1
      obtain ⟨b1, b2, h1⟩ := h1
      refine ⟨n, rfl, ⟨by omega, by omega, by omega, by omega, by omega⟩, fun p hp => ?_⟩
      have e : rgV 0 n = (List.range n.toNat).map fun i => V.int (i : Nat) := by
        unfold rgV
        simp
      obtain ⟨ok2, l2⟩ := ok1.newcell (m := .lst ((List.range n.toNat).map fun i => D.int (i : Nat))) hp (o := .lst (rgV 0 n)) ⟨_, upd_same, by rw [e]; exact reps_rg _⟩
      exact q (.ref p) (.cell μ1.length) _ _ h1 (l1.trans l2) ok2 (.cell (Wd.last ok1 p))
    · exact h1.elim) x

/-! ### C(k = v, ..) -/
def wMakeK (C : Addr) (S : FS) (perm : List D → List D → List D) (m : Nat) (kw : WA) : WE := fun δ μ P XP => kw δ μ (fun ds μ1 => S (perm [.cell μ1.length] ds) (μ1 ++ [.ins C []]) (fun d μ2 => d = .non ∧ Rt μ1.length P (.cell μ1.length) μ2) (fun _ _ => False)) XP
theorem le_makeK {S : FS} {C : Addr} {gV : List V → List V → List V} {perm : List D → List D → List D} {m : Nat} {tk : TA} {kw : WA}
    (hp : ∀ (α : List Addr) (F : Hp) (vs us : List V) (ds es : List D), ds.length = 1 → es.length = m → Reps K α F vs ds → Reps K α F us es → Reps K α F (gV vs us) (perm ds es)) (hk : LA K W m tk kw) :
    LE K W (tMakeK C 0 m (spOf K S) gV (fun _ _ _ => False) tNil tk) (wMakeK C S perm m kw) := fun wd σ δ μ P XP ok env h Q q x =>
  hk wd σ δ μ _ XP ok env h _ (fun vs ds μ1 w1 h1 l1 ok1 r1 el => ⟨rfl, by rw [r1.length, el], fun y dy ny ndy hne => by
    obtain ⟨ok2, l2⟩ := ok1.frozen ndy (.own y)
    have ny2 : (upd w1.H dy (.own y)) y = none := by rw [upd_ne (Ne.symm hne)]; exact ny
    obtain ⟨ok3, l3⟩ := ok2.newcell (m := .ins C []) (p := y) ny2 (o := .ins C dy []) ⟨dy, [], upd_same, .nil⟩
    have L : Le w1 _ := l2.trans l3
    have hk : w1.α.length ≤ μ1.length := Nat.le_of_eq ok1.len
    refine ⟨_, _, _, _, _, rfl, ok3, hp _ _ _ _ _ _ rfl el (.cons (.cell (Wd.last ok1 y)) .nil) (r1.mono L.pre L.ex), h1, fun v d μ2 w2 p l o r => ?_, fun _ _ _ _ _ z => z.elim⟩
    obtain ⟨rfl, p⟩ := p
    cases r
    refine ⟨rfl, ?_⟩
    have L2 : Le w1 w2 := L.trans l
    obtain ⟨d', μ3, w3, a, b, c, o3, e3⟩ := Rt.run p L2 o (.cell (l.pre _ _ (Wd.last ok1 y)) : Rep K w2.α w2.F (.ref y) (.cell μ1.length)) hk
    have := q (.ref y) d' μ3 w3 a (l1.trans c) o3 e3
    rw [b] at this
    exact this⟩) x
theorem no_pass {X : Cx} : Passes (L2N.CX X.prog X.w) X (fun _ _ _ => False) := fun _ _ _ _ _ _ _ c => by
  obtain ⟨_, _, _, _, _, _, _, _, _, _, _, _, z⟩ := c
  exact z.elim
/-- an own class, as it is made: its __init__ -/
structure DefM (P : Program) (w : World) (K : PySem.W.Frag) (mg : Str → Option Value) (base : Heap) (x : Str) (C : Addr) (k : Nat) (ps : List Str) (S : FS) : Prop where
  ex : ∃ (f : Addr) (fd : FuncData), Mk K C f ∧ FnOk P w K mg base (L2N.CX P w) k f fd ps (spOf K S) ∧ mg x = some (.ref C) ∧ Binds K fd ps []
theorem kMake {X : Cx} {P : Program} {w : World} {mg : Str → Option Value} {base : Heap} {x : Str} {C : Addr} {k j : Nat} {ps : List Str} {S : FS} {W : WX} {p pos : Pos} {e : Expr} {es : List Expr} {t : TA} (K : PySem.W.Frag) (hK : X.K = K) (D : DefM P w K mg base x C k ps S) (hr : Room j X.A) (hx : ∀ σ, PassesAt (L2N.CX X.prog X.w) X σ (L2.WE W σ)) (ha : PA X (e :: es) t)
    (hP : X.prog = P := by rfl) (hw : X.w = w := by rfl) (hmg : X.mg = mg := by rfl) (hba : X.base = base := by rfl) (hj : k + 1 ≤ j := by decide) (hg : Gl X x := by rfl) (hdb : (x == ("__debug__" : Str)) = false := by decide) (he : starEach (e :: es) X.env = (false, eval e X.env) :: starEach es X.env := by rfl) (hpl : (backTo pos (starEach es X.env)).any (·.1) = false := by rfl) :
    PE X (.Call (.Name x p) (e :: es) [] pos) (tMakeD C (spOf K S) [] (L2.WE W) t) := by
  subst hK hP hw hmg hba
  obtain ⟨f, fd, M, F, hm, hb⟩ := D.ex
  exact pe_makeD M F (hr.mono hj) hg hm hb .nil hx ha hdb he hpl
/-- .. by keywords alone: how they bind -/
structure DefMK (P : Program) (w : World) (K : PySem.W.Frag) (mg : Str → Option Value) (base : Heap) (x : Str) (C : Addr) (k : Nat) (ks : List Str) (gV : List V → List V → List V) (S : FS) : Prop where
  ex : ∃ (f : Addr) (fd : FuncData) (ps : List Str) (g : List Value → List Value → List Value), Mk K C f ∧ FnOk P w K mg base (L2N.CX P w) k f fd ps (spOf K S) ∧ mg x = some (.ref C) ∧ KBn K fd ps 1 ks g gV
theorem kMakeK {X : Cx} {P : Program} {w : World} {mg : Str → Option Value} {base : Heap} {x : Str} {C : Addr} {k j : Nat} {ks : List Str} {gV : List V → List V → List V} {S : FS} {p pos : Pos} {kws : List Keyword} {tk : TA} (K : PySem.W.Frag) (hK : X.K = K) (D : DefMK P w K mg base x C k ks gV S) (hr : Room j X.A) (hkw : PK X kws tk)
    (hks : (backToKw pos (keywordEach kws X.env)).filterMap (·.1) = ks := by rfl) (hP : X.prog = P := by rfl) (hw : X.w = w := by rfl) (hmg : X.mg = mg := by rfl) (hba : X.base = base := by rfl) (hj : k + 1 ≤ j := by decide) (hg : Gl X x := by rfl)
    (hall : (backToKw pos (keywordEach kws X.env)).all (·.1.isSome) = true := by rfl) (hdb : (x == ("__debug__" : Str)) = false := by decide)
    (hpl : ((backTo pos (starEach [] X.env)).any (·.1) || (backToKw pos (keywordEach kws X.env)).any (·.1.isNone)) = false := by rfl) :
    PE X (.Call (.Name x p) [] kws pos) (tMakeK C 0 ks.length (spOf K S) gV (fun _ _ _ => False) tNil tk) := by
  subst hK hP hw hmg hba
  obtain ⟨f, fd, ps, g, M, F, hm, hb⟩ := D.ex
  exact pe_makeK0 M F (hr.mono hj) hg hm hb no_pass hkw hall hks hdb hpl
/-! ### small ones -/
theorem roomH_mark {k : Nat} {A : Around} {v : Option Value} (r : Room k A) : L2H.RoomH k (A.mark v) := ⟨r.dp, r.un⟩
def wIp (f : Int → Int → Int) : WR2 := fun x y μ P => match x, y with | .int i, .int j => P (.int (f i j)) μ | _, _ => False
theorem lr_ipI {f : Int → Int → Int} : LR2 K (ipI f) (wIp f) := fun wd μ P vx vy x y ok rx ry h Q q => by
  unfold wIp at h
  split at h
  · cases rx; cases ry; exact ⟨_, _, rfl, rfl, q _ _ μ wd h (Le.refl _) ok (.int _)⟩
  · exact h.elim
def wPar3 (i j l : Nat) (a : WA) : WS := fun δ μ P => a δ μ (fun ds μ1 => match ds with | [x, y, z] => P.nx (((δ.set i (some x)).set j (some y)).set l (some z)) μ1 | _ => False) P.xc
theorem ls_par3 {i j l n : Nat} {ta : TA} {a : WA} (ha : LA K W n ta a) : LS K W (tPar3 i j l ta) (wPar3 i j l a) := fun wd σ δ μ P ok env h Z n r bk ct x =>
  ha wd σ δ μ _ P.xc ok env h _ (fun vs ds μ1 w1 h1 l1 ok1 r1 _ => by
    match ds, vs, r1, h1 with
    | [x, y, z], [_, _, _], .cons r1 (.cons r2 (.cons r3 .nil)), h1 => exact ⟨_, _, _, rfl, n _ _ μ1 w1 h1 l1 ok1 ((((env.le l1).set r1 i).set r2 j).set r3 l)⟩
    | [], _, _, h1 => exact h1.elim
    | [_], _, _, h1 => exact h1.elim
    | [_, _], _, _, h1 => exact h1.elim
    | _ :: _ :: _ :: _ :: _, _, _, h1 => exact h1.elim) x
theorem repc_int {i : Int} : RepC K [.int i] [.int i] := fun _ _ => .cons (.int i) .nil
theorem repc_non : RepC K [.non] [.non] := fun _ _ => .cons .non .nil
/-- a, b = a list -/
def wGunl (n : Nat) (b : WGs) : WG := fun d δ μ P => match lstOf μ d with | some xs => xs.length = n ∧ b xs δ μ P | none => False
theorem lg_unl {n : Nat} {u : TGs} {b : WGs} (hb : LGs K u b) : LG K (gUnl K n u) (wGunl n b) := fun wd σ δ μ v d P ok env r h Q q => by
  unfold wGunl at h
  cases e : lstOf μ d with
  | none => simp only [e] at h
  | some xs =>
    simp only [e] at h
    obtain ⟨a, vs, rfl, ha, rs⟩ := rep_lst ok r e
    exact ⟨a, vs, rfl, SqL.of ha, by rw [rs.length]; exact h.1, hb wd σ δ μ vs xs P ok env rs h.2 Q q⟩
end
end PL
/-! PLv: reckoning over data: frames of the memory, tags, loops; the unfolding of words. -/
namespace PL
open PySem L2
/-- a field of a name's instance -/
def wFldV (fld : Addr → Str → Prop) (i : Nat) (f : Str) : WE := wFld fld (wVar i) f
theorem wFld_var {fld : Addr → Str → Prop} {i : Nat} {f : Str} : wFld fld (wVar i) f = wFldV fld i f := rfl
theorem wFldV_i {fld : Addr → Str → Prop} {i n : Nat} {f : Str} {δ : En} {μ : Mem} {P : D → Mem → Prop} {XP : QX} {C : Addr} {fs : List (Str × D)} {v : D} (h : μ[n]? = some (.ins C fs)) (hf : fld C f) (el : fs.lookup f = some v) (e : δ[i]? = some (some (.cell n))) (k : P v μ) : wFldV fld i f δ μ P XP := by
  unfold wFldV wFld wVar
  rw [e]
  show (match (match μ[n]? with | some (.ins C fs) => some (C, fs) | _ => none) with | some (C, fs) => fld C f ∧ (match fs.lookup f with | some d => P d μ | none => False) | none => False)
  rw [h]
  exact ⟨hf, by rw [el]; exact k⟩

/-! ### frames -/
/-- beyond S nothing changes, and nothing goes -/
structure Fr (S : List Nat) (μ μ' : Mem) : Prop where
  len : μ.length ≤ μ'.length
  at' : ∀ i, i < μ.length → i ∉ S → μ'[i]? = μ[i]?
theorem Fr.refl (S : List Nat) (μ : Mem) : Fr S μ μ := ⟨Nat.le_refl _, fun _ _ _ => rfl⟩
theorem Fr.trans {S : List Nat} {a b c : Mem} (x : Fr S a b) (y : Fr S b c) : Fr S a c :=
  ⟨Nat.le_trans x.len y.len, fun i h n => (y.at' i (Nat.lt_of_lt_of_le h x.len) n).trans (x.at' i h n)⟩
theorem Fr.mono {S T : List Nat} {a b : Mem} (x : Fr S a b) (h : ∀ i ∈ S, i ∈ T) : Fr T a b := ⟨x.len, fun i l n => x.at' i l fun z => n (h i z)⟩
theorem Fr.get {S : List Nat} {a b : Mem} (x : Fr S a b) {i : Nat} {m : M} (h : a[i]? = some m) (n : i ∉ S) : b[i]? = some m := (x.at' i (List.getElem?_eq_some_iff.mp h).1 n).trans h
theorem Fr.app (S : List Nat) (μ l : Mem) : Fr S μ (μ ++ l) := ⟨by simp, fun i h _ => List.getElem?_append_left h⟩
theorem Fr.set {S : List Nat} {μ : Mem} {i : Nat} (m : M) (h : i ∈ S) : Fr S μ (μ.set i m) := ⟨by simp, fun j _ n => by rw [List.getElem?_set_ne]; intro z; subst z; exact n h⟩
/-- what is behind k is one's own -/
theorem Fr.setNew {S : List Nat} {μ μ' : Mem} {i : Nat} (m : M) (x : Fr S μ μ') (h : μ.length ≤ i) : Fr S μ (μ'.set i m) :=
  ⟨by rw [List.length_set]; exact x.len, fun j l n => by rw [List.getElem?_set_ne (by omega)]; exact x.at' j l n⟩
theorem Fr.pure {S : List Nat} {a b : Mem} (x : Fr [] a b) : Fr S a b := x.mono fun _ h => by cases h
theorem get_lt {μ : Mem} {i : Nat} {m : M} (h : μ[i]? = some m) : i < μ.length := (List.getElem?_eq_some_iff.mp h).1
theorem get_app {μ l : Mem} {i : Nat} {m : M} (h : μ[i]? = some m) : (μ ++ l)[i]? = some m := by rw [List.getElem?_append_left (get_lt h)]; exact h
theorem get_new (μ l : Mem) (m : M) : (μ ++ m :: l)[μ.length]? = some m := by simp
theorem get_set {μ : Mem} {i : Nat} {m' : M} (h : i < μ.length) : (μ.set i m')[i]? = some m' := by simp [h]
theorem get_set_ne {μ : Mem} {i j : Nat} {m m' : M} (h : μ[j]? = some m) (n : i ≠ j) : (μ.set i m')[j]? = some m := by rw [List.getElem?_set_ne n]; exact h

/-! ### tags -/
def six : List String := ["NoneType", "bool", "int", "str", "tuple", "list"]
theorem six_cases {T : String} (h : T ∈ six) : T = "NoneType" ∨ T = "bool" ∨ T = "int" ∨ T = "str" ∨ T = "tuple" ∨ T = "list" := by
  simpa [six] using h


/-! ### sequences, tags, frames -/
def OffS (S : List Nat) (d : D) : Prop := ∀ n, d = .cell n → n ∉ S
theorem offs_nil (d : D) : OffS [] d := fun _ _ h => by cases h
theorem seq_fr {S : List Nat} {μ μ' : Mem} {d : D} {xs : List D} (f : Fr S μ μ') (h : seqOf μ d = some xs) (o : OffS S d) : seqOf μ' d = some xs := by
  cases d with
  | cell n =>
    have h' : (match μ[n]? with | some (.lst xs) => some xs | _ => none) = some xs := h
    cases e : μ[n]? with
    | none => rw [e] at h'; cases h'
    | some m =>
      rw [e] at h'
      have e2 := f.get e (o n rfl)
      show (match μ'[n]? with | some (.lst xs) => some xs | _ => none) = some xs
      rw [e2]; exact h'
  | _ => exact h
def tagM : Option M → Option (Sum String Addr)
  | some (.lst _) => some (.inl "list")
  | some (.dct _) => some (.inl "dict")
  | some (.ins C _) => some (.inr C)
  | _ => none
theorem tag_cell {μ : Mem} {n : Nat} : tagOf μ (.cell n) = tagM μ[n]? := rfl
def seqM : Option M → Option (List D)
  | some (.lst xs) => some xs
  | _ => none
theorem seq_cell {μ : Mem} {n : Nat} : seqOf μ (.cell n) = seqM μ[n]? := rfl
def insM : Option M → Option (Addr × List (Str × D))
  | some (.ins C fs) => some (C, fs)
  | _ => none
theorem ins_cell {μ : Mem} {n : Nat} : insOf μ (.cell n) = insM μ[n]? := rfl
theorem ins_at {μ : Mem} {n : Nat} {C : Addr} {fs : List (Str × D)} (h : μ[n]? = some (.ins C fs)) : insOf μ (.cell n) = some (C, fs) := by rw [ins_cell, h]; rfl
theorem tag_ins {μ : Mem} {n : Nat} {C : Addr} {fs : List (Str × D)} (h : μ[n]? = some (.ins C fs)) : tagOf μ (.cell n) = some (.inr C) := by rw [tag_cell, h]; rfl
theorem tag_fr {S : List Nat} {μ μ' : Mem} {d : D} {t : Sum String Addr} (f : Fr S μ μ') (h : tagOf μ d = some t) (o : OffS S d) : tagOf μ' d = some t := by
  cases d with
  | cell n =>
    rw [tag_cell] at h ⊢
    cases e : μ[n]? with
    | none => rw [e] at h; cases h
    | some m => rw [f.get e (o n rfl)]; rw [e] at h; exact h
  | _ => exact h
/-- of one of the six kinds -/
def Tame (μ : Mem) (d : D) : Prop := ∃ T ∈ six, tagOf μ d = some (.inl T)
def Tame2 (μ : Mem) (d : D) : Prop := Tame μ d ∧ ∀ xs, seqOf μ d = some xs → ∀ x ∈ xs, Tame μ x
theorem tame_int {μ : Mem} (i : Int) : Tame μ (.int i) := ⟨"int", by decide, rfl⟩
theorem tame_bl {μ : Mem} (i : Bool) : Tame μ (.bl i) := ⟨"bool", by decide, rfl⟩
theorem tame_str {μ : Mem} (i : Str) : Tame μ (.str i) := ⟨"str", by decide, rfl⟩
theorem tame_non {μ : Mem} : Tame μ .non := ⟨"NoneType", by decide, rfl⟩
theorem tame_tup {μ : Mem} (xs : List D) : Tame μ (.tup xs) := ⟨"tuple", by decide, rfl⟩
theorem tame_lst {μ : Mem} {n : Nat} {xs : List D} (h : μ[n]? = some (.lst xs)) : Tame μ (.cell n) := ⟨"list", by decide, by rw [tag_cell, h]; rfl⟩
theorem seq_lst {μ : Mem} {n : Nat} {xs : List D} (h : μ[n]? = some (.lst xs)) : seqOf μ (.cell n) = some xs := by show (match μ[n]? with | some (.lst xs) => some xs | _ => none) = some xs; rw [h]
theorem lst_lst {μ : Mem} {n : Nat} {xs : List D} (h : μ[n]? = some (.lst xs)) : lstOf μ (.cell n) = some xs := by show (match μ[n]? with | some (.lst xs) => some xs | _ => none) = some xs; rw [h]
theorem cellI_at {μ : Mem} {n : Nat} {C : Addr} {fs : List (Str × D)} (h : μ[n]? = some (.ins C fs)) : cellI μ (.cell n) = some (n, C, fs) := by show (match μ[n]? with | some (.ins C fs) => some (n, C, fs) | _ => none) = some (n, C, fs); rw [h]
theorem cell_lst {μ : Mem} {n : Nat} {xs : List D} (h : μ[n]? = some (.lst xs)) : cellL μ (.cell n) = some (n, xs) := by show (match μ[n]? with | some (.lst xs) => some (n, xs) | _ => none) = some (n, xs); rw [h]
theorem tame_fr {S : List Nat} {μ μ' : Mem} {d : D} (f : Fr S μ μ') (h : Tame μ d) (o : OffS S d) : Tame μ' d := by obtain ⟨T, hT, e⟩ := h; exact ⟨T, hT, tag_fr f e o⟩
/-- a tag tells whether it is a sequence -/
theorem seq_tag {μ : Mem} {d : D} {T : String} (h : tagOf μ d = some (.inl T)) : (seqOf μ d).isSome = (T == "list" || T == "tuple") := by
  cases d with
  | cell n =>
    rw [tag_cell] at h
    rw [seq_cell]
    cases e : μ[n]? with
    | none => rw [e] at h; cases h
    | some m => rw [e] at h; cases m <;> first | (cases h; rfl) | cases h
  | _ => first | (cases h; rfl) | cases h
theorem len_seq {μ : Mem} {d : D} {xs : List D} (h : seqOf μ d = some xs) : lenOf μ d = some xs.length := by
  cases d <;> first | (cases h; done) | (unfold lenOf; simp only [h]; rfl)
section
variable {μ : Mem} {P : D → Mem → Prop} {x y d : D} {xs : List D} {K : PySem.W.Frag}
theorem wLen_i (h : seqOf μ d = some xs) (k : P (.int (xs.length : Nat)) μ) : wLen [d] μ P := by
  unfold wLen wR1; simp only [one1, len_seq h]; exact k
theorem wEq_py {neg : Bool} {a b : PyData} (ha : pyF μ 16 x = some a) (hb : pyF μ 16 y = some b) (sa : SeqAt.shaped a = true) (sb : SeqAt.shaped b = true) (k : P (.bl (if neg then !PyData.eqv a b else PyData.eqv a b)) μ) : wEq neg x y μ P := by
  unfold wEq; rw [ha, hb]; exact ⟨sa, sb, k⟩
theorem wEq_int {neg : Bool} {a b : Int} (k : P (.bl (if neg then !(a == b) else (a == b))) μ) : wEq neg (.int a) (.int b) μ P := by
  refine wEq_py (a := .int a) (b := .int b) (by simp [pyF]) (by simp [pyF]) rfl rfl ?_
  have e : PyData.eqv (.int a) (.int b) = (a == b) := by simp [PyData.eqv]
  rw [e]; exact k
theorem wIx_i {i : Int} (h : seqOf μ x = some xs) (e : atI xs i = some d) (k : P d μ) : wIx x (.int i) μ P := by
  unfold wIx; simp only [h, e]; exact k
theorem atI_at {α : Type} {xs : List α} {j : Nat} {v : α} (h : xs[j]? = some v) : atI xs (j : Int) = some v := L2.atI_nat h
theorem wTupC_i (h : seqOf μ d = some xs) (k : P (.tup xs) μ) : wTupC [d] μ P := by
  unfold wTupC wR1; simp only [one1, h]; exact k
theorem wListC_i (h : seqOf μ d = some xs) (k : P (.cell μ.length) (μ ++ [.lst xs])) : wListC [d] μ P := by
  unfold wListC wR1; simp only [one1, h]; exact k
end

/-! ### turns -/
theorem lc_map {chk : Mem → Prop} {vs : List Nat} {g : WG} {e : WE} {δ : En} {μ : Mem} (f : D → D) (hchk : chk μ) : ∀ {xs : List D}, (∀ x ∈ xs, ∀ P : D → Mem → Prop, P (f x) μ → g x (wipeD δ vs) μ (fun δ1 μ1 => e δ1 μ1 P QX0)) →
    ∀ (acc : List D) (R : List D → Mem → Prop), R (acc ++ xs.map f) μ → lcL chk vs g wYes e xs acc δ μ R
  | [], _, acc, R, r => by rw [lcL]; simpa using r
  | x :: xs, turn, acc, R, r => by
    rw [lcL]
    exact turn x (by simp) _ ⟨hchk, lc_map f hchk (fun y hy => turn y (by simp [hy])) _ R (by simpa using r)⟩
/-- turns that change the memory: what holds of each thing made (it stays so) -/
theorem lc_inv {chk : Mem → Prop} {vs : List Nat} {g : WG} {e : WE} {δ : En} (I : Mem → Prop) (ok : D → Prop) (hchk : ∀ μ, I μ → chk μ) : ∀ {xs : List D}, (∀ x ∈ xs, ∀ (μ : Mem) (P : D → Mem → Prop), I μ → (∀ d μ', I μ' → ok d → P d μ') → g x (wipeD δ vs) μ (fun δ1 μ1 => e δ1 μ1 P QX0)) →
    ∀ (acc : List D) (μ : Mem) (R : List D → Mem → Prop), I μ → (∀ d ∈ acc, ok d) → (∀ ds μ', I μ' → ds.length = acc.length + xs.length → (∀ d ∈ ds, ok d) → R ds μ') → lcL chk vs g wYes e xs acc δ μ R
  | [], _, acc, μ, R, i, ha, r => by rw [lcL]; exact r acc μ i (by simp) ha
  | x :: xs, turn, acc, μ, R, i, ha, r => by
    rw [lcL]
    exact turn x (by simp) μ _ i fun d μ' i' hd => ⟨hchk μ' i', lc_inv I ok hchk (fun y hy => turn y (by simp [hy])) (acc ++ [d]) μ' R i' (fun z hz => by
      rcases List.mem_append.mp hz with h | h
      · exact ha z h
      · simp at h; subst h; exact hd) fun ds μ'' i'' hl ho => r ds μ'' i'' (by rw [hl, List.length_append, List.length_cons]; simp; omega) ho⟩
theorem loop_inv {chk : Mem → Prop} {g : WG} {b : WS} {P : PO} (I : List D → En → Mem → Prop) (hchk : ∀ xs δ μ, I xs δ μ → chk μ) (turn : ∀ x xs δ μ, I (x :: xs) δ μ → ∀ P' : PO, P'.rt = P.rt → P'.xc = P.xc → (∀ δ' μ', I xs δ' μ' → P'.nx δ' μ') → g x δ μ (fun δ1 μ1 => b δ1 μ1 P')) :
    ∀ (xs : List D) (δ : En) (μ : Mem), I xs δ μ → (∀ δ μ, I [] δ μ → P.nx δ μ) → loopL chk g b xs δ μ P
  | [], δ, μ, i, fin => by rw [loopL]; exact fin δ μ i
  | x :: xs, δ, μ, i, fin => by
    rw [loopL]
    exact turn x xs δ μ i _ rfl rfl fun δ' μ' i' => ⟨hchk _ _ _ i', loop_inv I hchk turn xs δ' μ' i' fin⟩

/-! ### rows of ints, of pairs, as data -/
def pI (ns : List Int) : List PyData := ns.map .int
def pP (bs : List (Int × Int)) : List PyData := bs.map fun q => .tuple [.int q.1, .int q.2]
theorem py_lit (μ : Mem) (n : Nat) : ∀ ns : List Int, pyL μ (n + 1) (litD ns) = some (pI ns)
  | [] => by simp [litD, pyL, pI]
  | a :: ns => by
    have ih := py_lit μ n ns
    simp only [litD, pI] at ih
    simp [litD, pyL, pyF, pI, ih]
theorem canLay_pI : ∀ ns : List Int, PyData.canLayAll0 (pI ns) = true
  | [] => rfl
  | a :: ns => by
    have ih := canLay_pI ns
    simp only [pI] at ih
    simp [pI, PyData.canLayAll0, PyData.canLay0, ih]
theorem depth_pI : ∀ ns : List Int, PyData.depthAll (pI ns) = 0
  | [] => rfl
  | a :: ns => by
    have ih := depth_pI ns
    simp only [pI] at ih
    simp [pI, PyData.depthAll, PyData.depth, ih]
theorem shaped_tI (ns : List Int) : SeqAt.shaped (.tuple (pI ns)) = true := by
  unfold SeqAt.shaped
  simp [PyData.canLay0, PyData.depth, canLay_pI, depth_pI]
theorem shaped_lI (ns : List Int) : SeqAt.shaped (.list (pI ns)) = true := by
  unfold SeqAt.shaped
  simp [PyData.canLay0, PyData.depth, canLay_pI, depth_pI]
theorem eqv_pI : ∀ a b : List Int, PyData.eqvAll (pI a) (pI b) = decide (a = b)
  | [], [] => by simp [pI, PyData.eqvAll]
  | [], _ :: _ => by simp [pI, PyData.eqvAll]
  | _ :: _, [] => by simp [pI, PyData.eqvAll]
  | x :: a, y :: b => by
    have ih := eqv_pI a b
    simp only [pI] at ih
    simp only [pI, List.map_cons, PyData.eqvAll, PyData.eqv, ih]
    by_cases h1 : x = y <;> by_cases h2 : a = b <;> simp [h1, h2]
def pairDs (bs : List (Int × Int)) : List D := bs.map fun q => .tup [.int q.1, .int q.2]
theorem py_pairs (μ : Mem) (n : Nat) : ∀ bs : List (Int × Int), pyL μ (n + 2) (pairDs bs) = some (pP bs)
  | [] => by simp [pairDs, pyL, pP]
  | q :: bs => by
    have ih := py_pairs μ n bs
    simp only [pairDs, pP] at ih
    have h1 : pyL μ (n + 1) [D.int q.1, D.int q.2] = some [.int q.1, .int q.2] := py_lit μ n [q.1, q.2]
    simp [pairDs, pyL, pyF, pP, ih, h1]
theorem canLay_pP : ∀ bs : List (Int × Int), PyData.canLayAll0 (pP bs) = true
  | [] => rfl
  | a :: ns => by
    have ih := canLay_pP ns
    simp only [pP] at ih
    simp [pP, PyData.canLayAll0, PyData.canLay0, ih]
theorem depth_pP : ∀ bs : List (Int × Int), PyData.depthAll (pP bs) ≤ 1
  | [] => by simp [pP, PyData.depthAll]
  | a :: ns => by
    have ih := depth_pP ns
    simp only [pP] at ih
    simp only [pP, List.map_cons, PyData.depthAll, PyData.depth]
    omega
theorem shaped_lP (bs : List (Int × Int)) : SeqAt.shaped (.list (pP bs)) = true := by
  have h := depth_pP bs
  unfold SeqAt.shaped
  simp [PyData.canLay0, PyData.depth, canLay_pP]
  omega
theorem shaped_tP (bs : List (Int × Int)) : SeqAt.shaped (.tuple (pP bs)) = true := by
  have h := depth_pP bs
  unfold SeqAt.shaped
  simp [PyData.canLay0, PyData.depth, canLay_pP]
  omega
theorem eqv_pP : ∀ a b : List (Int × Int), PyData.eqvAll (pP a) (pP b) = decide (a = b)
  | [], [] => by simp [pP, PyData.eqvAll]
  | [], _ :: _ => by simp [pP, PyData.eqvAll]
  | _ :: _, [] => by simp [pP, PyData.eqvAll]
  | (x1, x2) :: a, (y1, y2) :: b => by
    have ih := eqv_pP a b
    simp only [pP] at ih
    simp only [pP, List.map_cons, PyData.eqvAll, PyData.eqv, ih]
    by_cases h1 : x1 = y1 <;> by_cases h2 : x2 = y2 <;> by_cases h3 : a = b <;> simp [h1, h2, h3]
section
variable {μ : Mem} {P : D → Mem → Prop} {neg : Bool}
theorem wEq_tI {a b : List Int} (k : P (.bl (if neg then !decide (a = b) else decide (a = b))) μ) : wEq neg (.tup (litD a)) (.tup (litD b)) μ P := by
  refine wEq_py (a := .tuple (pI a)) (b := .tuple (pI b)) (by simp [pyF, py_lit]) (by simp [pyF, py_lit]) (shaped_tI a) (shaped_tI b) ?_
  simp only [PyData.eqv, eqv_pI]; exact k
theorem wEq_tP {a b : List (Int × Int)} (k : P (.bl (if neg then !decide (a = b) else decide (a = b))) μ) : wEq neg (.tup (pairDs a)) (.tup (pairDs b)) μ P := by
  refine wEq_py (a := .tuple (pP a)) (b := .tuple (pP b)) (by simp [pyF, py_pairs]) (by simp [pyF, py_pairs]) (shaped_tP a) (shaped_tP b) ?_
  simp only [PyData.eqv, eqv_pP]; exact k
theorem wEq_lI {n m : Nat} {a b : List Int} (h1 : μ[n]? = some (.lst (litD a))) (h2 : μ[m]? = some (.lst (litD b))) (k : P (.bl (if neg then !decide (a = b) else decide (a = b))) μ) : wEq neg (.cell n) (.cell m) μ P := by
  refine wEq_py (a := .list (pI a)) (b := .list (pI b)) (by simp [pyF, h1, py_lit]) (by simp [pyF, h2, py_lit]) (shaped_lI a) (shaped_lI b) ?_
  simp only [PyData.eqv, eqv_pI]; exact k
theorem wEq_lP {n m : Nat} {a b : List (Int × Int)} (h1 : μ[n]? = some (.lst (pairDs a))) (h2 : μ[m]? = some (.lst (pairDs b))) (k : P (.bl (if neg then !decide (a = b) else decide (a = b))) μ) : wEq neg (.cell n) (.cell m) μ P := by
  refine wEq_py (a := .list (pP a)) (b := .list (pP b)) (by simp [pyF, h1, py_pairs]) (by simp [pyF, h2, py_pairs]) (shaped_lP a) (shaped_lP b) ?_
  simp only [PyData.eqv, eqv_pP]; exact k
theorem blsOf_map : ∀ bs : List Bool, blsOf (bs.map D.bl) = some bs
  | [] => rfl
  | b :: bs => by
    have ih := blsOf_map bs
    simp [blsOf, ih]
end

section
variable {μ : Mem} {P : D → Mem → Prop} {a b : Int}
theorem wMul_i (h : CMulW a b) (k : P (.int (a * b)) μ) : wMul (.int a) (.int b) μ P := by unfold wMul; exact ⟨h, k⟩
theorem wAdd_i (k : P (.int (a + b)) μ) : wAdd (.int a) (.int b) μ P := by unfold wAdd; exact k
theorem wIntC_i (k : P (.int a) μ) : wIntC [.int a] μ P := by unfold wIntC wR1; exact k
theorem wGsub_i {o i : WE} {δ : En} {n j : Nat} {x : Int} {xs : List D} {d : D} {R : En → Mem → Prop} (ho : ∀ (P : D → Mem → Prop) (XP : QX), P (.cell n) μ → o δ μ P XP) (hi : ∀ (P : D → Mem → Prop) (XP : QX), P (.int x) μ → i δ μ P XP)
    (hc : μ[n]? = some (.lst xs)) (hj : L2.ixN xs.length x = some j) (k : R δ (μ.set n (.lst (xs.set j d)))) : wGsub o i d δ μ R := by
  unfold wGsub
  refine ho _ _ (hi _ _ ?_)
  simp only [cell_lst hc, hj]
  exact k
theorem wAppend_i {n : Nat} {xs : List D} {d : D} (hc : μ[n]? = some (.lst xs)) (hl : xs.length < sizeLine) (k : P .non (μ.set n (.lst (xs ++ [d])))) : wAppend (.cell n) [d] μ P := by
  unfold wAppend
  simp only [cell_lst hc, one1]
  exact ⟨hl, k⟩
end

/-- nothing passes the test -/
theorem lc_skip {chk : Mem → Prop} {vs : List Nat} {g : WG} {t : WT} {e : WE} {δ : En} (I : Mem → Prop) (hchk : ∀ μ, I μ → chk μ) : ∀ {xs : List D}, (∀ x ∈ xs, ∀ (μ : Mem) (P : En → Bool → Mem → Prop), I μ → (∀ δ1 μ', I μ' → P δ1 false μ') → g x (wipeD δ vs) μ (fun δ1 μ1 => t δ1 μ1 (P δ1) QX0)) →
    ∀ (acc : List D) (μ : Mem) (R : List D → Mem → Prop), I μ → (∀ μ', I μ' → R acc μ') → lcL chk vs g t e xs acc δ μ R
  | [], _, acc, μ, R, i, r => by rw [lcL]; exact r μ i
  | x :: xs, turn, acc, μ, R, i, r => by
    rw [lcL]
    refine turn x (by simp) μ (fun δ1 b μ2 => if b = true then e δ1 μ2 (fun d μ3 => chk μ3 ∧ lcL chk vs g t e xs (acc ++ [d]) δ μ3 R) QX0 else chk μ2 ∧ lcL chk vs g t e xs acc δ μ2 R) i fun δ1 μ' i' => ?_
    rw [if_neg Bool.false_ne_true]
    exact ⟨hchk μ' i', lc_skip I hchk (fun y hy => turn y (by simp [hy])) acc μ' R i' r⟩
end PL
/-! PLt: what one holds: the cells that one knows, carried as one list over all that happens. -/
namespace PL
open PySem L2
/-- what stands as long as the cells of S are left alone -/
structure Stb (S : List Nat) (I : Mem → Prop) : Prop where
  fr : ∀ {T : List Nat} {μ μ' : Mem}, I μ → Fr T μ μ' → (∀ i ∈ S, i ∉ T) → I μ'
  lt : ∀ {μ : Mem}, I μ → ∀ i ∈ S, i < μ.length
structure Own (S : List Nat) (I : Mem → Prop) (μ0 μ : Mem) (L : List (Nat × M)) : Prop where
  st : Stb S I
  fr : Fr S μ0 μ
  inv : I μ
  has : ∀ p ∈ L, μ[p.1]? = some p.2
  off : ∀ p ∈ L, p.1 ∉ S
  nd : L.Pairwise fun p q => p.1 ≠ q.1 ∨ (p.1 < μ0.length ∧ q.1 < μ0.length)
section
variable {S : List Nat} {I : Mem → Prop} {μ0 μ μ' : Mem} {L : List (Nat × M)} {c : Nat} {m m' : M}
theorem Own.start (st : Stb S I) (i : I μ) (has : ∀ p ∈ L, μ[p.1]? = some p.2) (off : ∀ p ∈ L, p.1 ∉ S) : Own S I μ μ L :=
  ⟨st, Fr.refl _ _, i, has, off, by
    induction L with
    | nil => exact .nil
    | cons p L ih => exact .cons (fun q hq => .inr ⟨get_lt (has p (by simp)), get_lt (has q (by simp [hq]))⟩) (ih (fun x hx => has x (by simp [hx])) fun x hx => off x (by simp [hx]))⟩
theorem Own.get (H : Own S I μ0 μ L) (h : (c, m) ∈ L) : μ[c]? = some m := H.has _ h
theorem Own.offc (H : Own S I μ0 μ L) (h : (c, m) ∈ L) : OffS S (.cell c) := fun n e => by cases e; exact H.off _ h
theorem Own.step (H : Own S I μ0 μ L) (f : Fr S μ μ') (i : I μ') : Own S I μ0 μ' L :=
  ⟨H.st, H.fr.trans f, i, fun p hp => f.get (H.has p hp) (H.off p hp), H.off, H.nd⟩
theorem Own.pure (H : Own S I μ0 μ L) (f : Fr [] μ μ') : Own S I μ0 μ' L := H.step f.pure (H.st.fr H.inv f fun _ _ h => by cases h)
theorem Own.new (H : Own S I μ0 μ L) (m : M) : Own S I μ0 (μ ++ [m]) ((μ.length, m) :: L) := by
  have H1 := H.pure (Fr.app [] μ [m])
  refine ⟨H1.st, H1.fr, H1.inv, fun p hp => ?_, fun p hp => ?_, .cons (fun q hq => .inl ?_) H1.nd⟩
  · rcases List.mem_cons.mp hp with rfl | h
    · exact get_new μ [] _
    · exact H1.has p h
  · rcases List.mem_cons.mp hp with rfl | h
    · intro z; exact Nat.lt_irrefl _ (H.st.lt H.inv _ z)
    · exact H1.off p h
  · have := get_lt (H.has q hq)
    simp only; omega
/-- one more that is known: new since the beginning, or as old as it -/
theorem Own.more (H : Own S I μ0 μ L) (h : μ[c]? = some m) (o : c ∉ S) (n : ∀ p ∈ L, c ≠ p.1 ∨ (c < μ0.length ∧ p.1 < μ0.length)) : Own S I μ0 μ ((c, m) :: L) :=
  ⟨H.st, H.fr, H.inv, fun p hp => by
    rcases List.mem_cons.mp hp with rfl | h'
    · exact h
    · exact H.has p h', fun p hp => by
    rcases List.mem_cons.mp hp with rfl | h'
    · exact o
    · exact H.off p h', .cons n H.nd⟩
/-- new behind μ1: none of those that are known there -/
theorem Own.fresh (H : Own S I μ0 μ L) (f : Fr [] μ μ') (h : μ'[c]? = some m) (hc : μ.length ≤ c) : Own S I μ0 μ' ((c, m) :: L) :=
  (H.pure f).more h (fun z => by have := H.st.lt H.inv _ z; omega) fun p hp => .inl (by have := get_lt (H.has p hp); omega)
theorem Own.freshS (H : Own S I μ0 μ L) (f : Fr S μ μ') (i : I μ') (h : μ'[c]? = some m) (hc : μ.length ≤ c) : Own S I μ0 μ' ((c, m) :: L) :=
  (H.step f i).more h (fun z => by have := H.st.lt H.inv _ z; omega) fun p hp => .inl (by have := get_lt (H.has p hp); omega)
inductive PutR (c : Nat) (m m' : M) : List (Nat × M) → List (Nat × M) → Prop
  | here {L : List (Nat × M)} : PutR c m m' ((c, m) :: L) ((c, m') :: L)
  | there {x : Nat × M} {L L' : List (Nat × M)} : PutR c m m' L L' → PutR c m m' (x :: L) (x :: L')
theorem PutR.mem {L L' : List (Nat × M)} (r : PutR c m m' L L') : (c, m) ∈ L := by
  induction r with
  | here => simp
  | there _ ih => simp [ih]
theorem PutR.keys {L L' : List (Nat × M)} (r : PutR c m m' L L') : ∀ p ∈ L', ∃ q ∈ L, q.1 = p.1 := by
  induction r with
  | here =>
    intro p hp
    rcases List.mem_cons.mp hp with e | h
    · exact ⟨_, List.mem_cons_self, by rw [e]⟩
    · exact ⟨p, List.mem_cons_of_mem _ h, rfl⟩
  | there _ ih =>
    intro p hp
    rcases List.mem_cons.mp hp with e | h
    · exact ⟨_, List.mem_cons_self, by rw [e]⟩
    · obtain ⟨q, h1, h2⟩ := ih p h
      exact ⟨q, List.mem_cons_of_mem _ h1, h2⟩
theorem PutR.put {L L' : List (Nat × M)} (r : PutR c m m' L L') (hc : μ0.length ≤ c) (has : ∀ p ∈ L, μ[p.1]? = some p.2) (nd : L.Pairwise fun p q => p.1 ≠ q.1 ∨ (p.1 < μ0.length ∧ q.1 < μ0.length)) :
    (∀ p ∈ L', (μ.set c m')[p.1]? = some p.2) ∧ L'.Pairwise fun p q => p.1 ≠ q.1 ∨ (p.1 < μ0.length ∧ q.1 < μ0.length) := by
  induction r with
  | here =>
    cases nd with
    | cons h1 h2 =>
    refine ⟨fun p hp => ?_, .cons (fun q hq => h1 q hq) h2⟩
    rcases List.mem_cons.mp hp with rfl | h
    · exact get_set (get_lt (has _ List.mem_cons_self))
    · refine get_set_ne (has p (by simp [h])) ?_
      rcases h1 p h with z | ⟨z, _⟩
      · exact z
      · simp only at z; omega
  | @there x L L' r ih =>
    cases nd with
    | cons h1 h2 =>
    obtain ⟨i1, i2⟩ := ih (fun p hp => has p (by simp [hp])) h2
    refine ⟨fun p hp => ?_, .cons (fun q hq => ?_) i2⟩
    · rcases List.mem_cons.mp hp with rfl | h
      · refine get_set_ne (has p (by simp)) ?_
        rcases h1 _ r.mem with z | ⟨_, z⟩
        · exact Ne.symm z
        · simp only at z; omega
      · exact i1 p h
    · obtain ⟨q', h3, h4⟩ := r.keys q hq
      rw [← h4]; exact h1 q' h3
theorem Own.put {L' : List (Nat × M)} (H : Own S I μ0 μ L) (hc : μ0.length ≤ c) (r : PutR c m m' L L') : Own S I μ0 (μ.set c m') L' := by
  obtain ⟨a, b⟩ := r.put hc H.has H.nd
  have co := H.off _ r.mem
  refine ⟨H.st, Fr.setNew _ H.fr hc, H.st.fr H.inv (Fr.set (S := [c]) _ (by simp)) (fun i hi => by simp; intro z; exact co (z ▸ hi)), a, fun p hp => ?_, b⟩
  obtain ⟨q, h1, h2⟩ := r.keys p hp
  rw [← h2]; exact H.off q h1
/-- less is known -/
theorem Own.less {L' : List (Nat × M)} (H : Own S I μ0 μ L) (h : L'.Sublist L) : Own S I μ0 μ L' :=
  ⟨H.st, H.fr, H.inv, fun p hp => H.has p (h.subset hp), fun p hp => H.off p (h.subset hp), H.nd.sublist h⟩
theorem Own.tail {p : Nat × M} (H : Own S I μ0 μ (p :: L)) : Own S I μ0 μ L := H.less (List.sublist_cons_self _ _)
/-- from here on -/
theorem Own.here (H : Own S I μ0 μ L) : Own S I μ μ L := Own.start H.st H.inv H.has H.off
theorem Own.stay {L' : List (Nat × M)} {μ1 : Mem} (H : Own S I μ0 μ L) (H' : Own S I μ1 μ' L') (h : (c, m) ∈ L) (h' : (c, m) ∈ L') : stays μ (.cell c) μ' := (H'.get h').trans (H.get h).symm
theorem Own.lt (H : Own S I μ0 μ L) (h : (c, m) ∈ L) : c < μ.length := get_lt (H.get h)

/-! ### what is made -/
def aLst (P : D → Mem → Prop) : List D → Mem → Prop := fun ds μ => P (.cell μ.length) (μ ++ [.lst ds])
theorem wLst_a {a : WA} {δ : En} {P : D → Mem → Prop} {XP : QX} : wLst a δ μ P XP = a δ μ (aLst P) XP := rfl
theorem wLc_a {wi : WI} {g : WG} {t : WT} {e : WE} {vs : List Nat} {δ : En} {P : D → Mem → Prop} {XP : QX} : wLc wi g t e vs δ μ P XP = wi δ μ (fun items chk μ1 => items.length ≤ sizeLine ∧ lcL chk vs g t e items [] δ μ1 (aLst P)) XP := rfl
variable {P : D → Mem → Prop} {ds xs ys : List D} {d : D}
theorem aLst_o (H : Own S I μ0 μ L) (k : ∀ c μ', μ.length ≤ c → Own S I μ0 μ' ((c, .lst ds) :: L) → P (.cell c) μ') : aLst P ds μ := k _ _ (Nat.le_refl _) (H.new _)
theorem wListC_o (H : Own S I μ0 μ L) (h : seqOf μ d = some xs) (k : ∀ c μ', μ.length ≤ c → Own S I μ0 μ' ((c, .lst xs) :: L) → P (.cell c) μ') : wListC [d] μ P := wListC_i h (k _ _ (Nat.le_refl _) (H.new _))
theorem wAdd_ol {n m : Nat} (H : Own S I μ0 μ L) (h1 : μ[n]? = some (.lst xs)) (h2 : μ[m]? = some (.lst ys)) (hl : xs.length + ys.length ≤ sizeLine) (k : ∀ c μ', μ.length ≤ c → Own S I μ0 μ' ((c, .lst (xs ++ ys)) :: L) → P (.cell c) μ') : wAdd (.cell n) (.cell m) μ P := by
  unfold wAdd
  simp only [lst_lst h1, lst_lst h2]
  exact ⟨hl, k _ _ (Nat.le_refl _) (H.new _)⟩
theorem wGsub_o {o i : WE} {δ : En} {n j : Nat} {x : Int} {L' : List (Nat × M)} {R : En → Mem → Prop} (H : Own S I μ0 μ L) (ho : ∀ (P : D → Mem → Prop) (XP : QX), P (.cell n) μ → o δ μ P XP) (hi : ∀ (P : D → Mem → Prop) (XP : QX), P (.int x) μ → i δ μ P XP)
    (r : PutR n (.lst xs) (.lst (xs.set j d)) L L') (h0 : μ0.length ≤ n) (hj : L2.ixN xs.length x = some j) (k : ∀ μ', Own S I μ0 μ' L' → R δ μ') : wGsub o i d δ μ R :=
  wGsub_i ho hi (H.get r.mem) hj (k _ (H.put h0 r))
theorem wAppend_o {n : Nat} {L' : List (Nat × M)} (H : Own S I μ0 μ L) (r : PutR n (.lst xs) (.lst (xs ++ [d])) L L') (h0 : μ0.length ≤ n) (hl : xs.length < sizeLine) (k : ∀ μ', Own S I μ0 μ' L' → P .non μ') : wAppend (.cell n) [d] μ P :=
  wAppend_i (H.get r.mem) hl (k _ (H.put h0 r))
theorem wLstRg1_a {a : WE} {δ : En} {XP : QX} : wLstRg1 a δ μ P XP = a δ μ (fun x μ1 => match x with | .int n => -(2 ^ 62) ≤ n ∧ n ≤ 16777216 ∧ aLst P ((List.range n.toNat).map fun i => D.int (i : Nat)) μ1 | _ => False) XP := rfl
theorem wSl_eq {a : WE} {l h : WO} {δ : En} {XP : QX} : wSl a l h δ μ P XP = a δ μ (fun x μ1 => l δ μ1 (fun lo μ2 => h δ μ2 (fun hi μ3 => match x with
  | .tup xs => P (.tup (cutD xs lo hi)) μ3
  | x => match seqOf μ3 x with | some xs => aLst P (cutD xs lo hi) μ3 | none => False) XP) XP) XP := rfl
end

/-- the rest, kept closed -/
def later (b : WS) (P : PO) : En → Mem → Prop := fun δ μ => b δ μ P
theorem wSeq_l {a b : WS} {δ : En} {μ : Mem} {P : PO} : wSeq a b δ μ P = a δ μ ⟨later b P, P.rt, P.bk, P.ct, P.xc⟩ := rfl
theorem later_i {b : WS} {δ : En} {μ : Mem} {P : PO} (h : b δ μ P) : later b P δ μ := h
theorem seq_mid {a b : WS} {δ : En} {μ : Mem} {P : PO} (Mid : En → Mem → Prop) (first : ∀ N : En → Mem → Prop, (∀ δ' μ', Mid δ' μ' → N δ' μ') → a δ μ ⟨N, P.rt, P.bk, P.ct, P.xc⟩) (rest : ∀ δ' μ', Mid δ' μ' → b δ' μ' P) : wSeq a b δ μ P := first _ rest
theorem later_mid {a b : WS} {δ : En} {μ : Mem} {P : PO} (Mid : En → Mem → Prop) (first : ∀ N : En → Mem → Prop, (∀ δ' μ', Mid δ' μ' → N δ' μ') → a δ μ ⟨N, P.rt, P.bk, P.ct, P.xc⟩) (rest : ∀ δ' μ', Mid δ' μ' → b δ' μ' P) : later (wSeq a b) P δ μ := first _ rest
end PL
/-! PLr: range with a step; a def that calls itself, so many deep. -/
namespace PL
open PySem L2 PySem.Spec PyProof.Rows
variable {K : PySem.W.Frag} {W : WX}
def rangeC (c : Int) : Int → Nat → List D
  | _, 0 => []
  | lo, n + 1 => .int lo :: rangeC c (lo + c) n
theorem rangeC_length (c : Int) : ∀ (n : Nat) (lo : Int), (rangeC c lo n).length = n
  | 0, _ => rfl
  | n + 1, lo => by rw [rangeC, List.length_cons, rangeC_length c n]
theorem rangeC_get (c : Int) : ∀ (n : Nat) (lo : Int) (i : Nat) (d : D), (rangeC c lo n)[i]? = some d → i < n ∧ d = .int (lo + (i : Nat) * c)
  | 0, _, _, _, h => by simp [rangeC] at h
  | n + 1, lo, 0, d, h => by rw [rangeC] at h; simp at h; exact ⟨by omega, by rw [← h]; simp⟩
  | n + 1, lo, i + 1, d, h => by
    rw [rangeC] at h
    obtain ⟨h1, h2⟩ := rangeC_get c n (lo + c) i d (by simpa using h)
    refine ⟨by omega, ?_⟩
    rw [h2]
    congr 1
    have e : ((i + 1 : Nat) : Int) * c = (i : Nat) * c + c := by
      rw [show ((i + 1 : Nat) : Int) = (i : Nat) + 1 by simp, Int.add_mul, Int.one_mul]
    rw [e]; omega
theorem walks_rangeC (lo c : Int) (n : Nat) (w0 : Wd) : Walks K (Itc lo c n) (rangeC c lo n) (fun _ => True) w0 := fun w μ l o _ i => by
  refine ⟨fun e => by rw [rangeC_length] at e; exact Nat.le_of_eq e.symm, fun d hd => ?_⟩
  obtain ⟨h1, h2⟩ := rangeC_get _ _ _ _ _ hd
  refine ⟨h1, fun x H' hx => ?_⟩
  obtain ⟨rfl, rfl⟩ := hx
  rw [h2]
  exact ⟨w, rfl, Le.refl _, o, .int _⟩
def ints3 : List D → Option (Int × Int × Int)
  | [.int i, .int j, .int c] => some (i, j, c)
  | _ => none
theorem ints3_of {ds : List D} {i j c : Int} (h : ints3 ds = some (i, j, c)) : ds = [.int i, .int j, .int c] := by
  unfold ints3 at h
  split at h
  · cases h; rfl
  · cases h
theorem reps3 {α : List Addr} {F : Hp} {vs : List V} {i j c : Int} (r : Reps K α F vs [.int i, .int j, .int c]) : vs = [.int i, .int j, .int c] := by
  cases r with
  | cons r t =>
    cases t with
    | cons r2 t =>
      cases t with
      | cons r3 t => cases t; cases r; cases r2; cases r3; rfl
def wRng3 (a : WA) : WI := fun δ μ P XP => a δ μ (fun ds μ1 => match ints3 ds with | some (i, j, c) => ∃ n, RgC i j c n ∧ P (rangeC c i n) (fun _ => True) μ1 | none => False) XP
theorem li_rng3 {n : Nat} {ta : TA} {a : WA} (ha : LA K W n ta a) : LI K W (iRng3 ta) (wRng3 a) := fun wd σ δ μ P XP ok env h R q x =>
  ha wd σ δ μ _ XP ok env h _ (fun vs0 ds μ1 w1 h1 l1 ok1 r1 _ => by
    cases e : ints3 ds with
    | none => simp only [e] at h1
    | some p =>
      obtain ⟨i, j, c⟩ := p
      simp only [e] at h1
      obtain ⟨n, h2, h3⟩ := h1
      rw [ints3_of e] at r1
      exact ⟨i, j, c, n, reps3 r1, h2, q _ _ _ μ1 w1 h3 l1 ok1 trivial (walks_rangeC i c n w1)⟩) x
theorem kXf {X : Cx} {a C : Addr} {oe : Obj} {cls : Value} {d : Option Addr} {pn : List (Addr × Obj)} {e : Expr} {te : TE} {pos : Pos} {n : Str} (K : PySem.W.Frag) (hK : X.K = K) (T : XfC K C) (hno : PySem.W.findIn K (.ref C) n = some none)
    (hz : Zc cls d oe) (hf : ∃ vs, oe.data = .fields vs) (he : PE (X.suite a ((a, oe) :: pn)) e te) (hb : attributeBase e n X.env (eval e X.env) = eval e X.env := by rfl) :
    PE (X.suite a ((a, oe) :: pn)) (.Attribute e n pos) (tXf a cls d C n te) := by
  subst hK
  exact pe_xf T hno hz hf he hb
theorem kBm {X : Cx} {o e : Expr} {es : List Expr} {to : TE} {t : TA} {name : Str} {apos cpos : Pos} {T id : String} {r : V → List V → Hp → VK → Prop} (K : PySem.W.Frag) (hK : X.K = K) (pa : PlainAttrs T) (slot : Slot T name id) (hty : typeOf (.builtin id) = pure (.type "method_descriptor")) (hm : ∀ {X : Cx}, MtR X id r) (ho : PE X o to) (ha : PA X (e :: es) t)
    (hbase : attributeBase o name X.env (eval o X.env) = eval o X.env := by rfl)
    (hfew : ((backTo cpos (starEach (e :: es) X.env)).all (fun x => !x.1) && (backToKw cpos (keywordEach [] X.env)).all (fun x => x.1.isSome)
      && decide ((e :: es).length + ([] : List Keyword).length + (if ([] : List Keyword).isEmpty then 0 else 1) < 30)) = true := by rfl)
    (hline : (apos.endLine == cpos.line) = true := by rfl) (hs : starEach (e :: es) X.env = (false, eval e X.env) :: starEach es X.env := by rfl) (hplain : (backTo cpos (starEach es X.env)).any (·.1) = false := by rfl) :
    PE X (.Call (.Attribute o name apos) (e :: es) [] cpos) (tBM K T r to t) := by
  subst hK
  exact pe_bm pa slot hty hm ho ha hbase hfew hline hs hplain
/-- max of three ints -/
def wMax3 : WRn := fun ds μ P => match ints3 ds with | some (i, j, c) => P (.int (max (max i j) c)) μ | none => False
theorem lr_max3 : LRn K (rNuC3 nuMax3) wMax3 := fun wd μ P vs ds ok rs h Q q => by
  unfold wMax3 at h
  cases e : ints3 ds with
  | none => simp only [e] at h
  | some p =>
    obtain ⟨i, j, c⟩ := p
    simp only [e] at h
    rw [ints3_of e] at rs
    refine ⟨.int i, .int j, .int c, .int (max (max i j) c), reps3 rs, ?_, q _ _ μ wd h (Le.refl _) ok (.int _)⟩
    have m2 : ∀ a b : Int, nuMax2 (.int a) (.int b) = some (.int (max a b)) := fun a b => by
      show (some (decide (a < b))).map (fun c => if c = true then V.int b else V.int a) = _
      by_cases h : a < b
      · simp [h]; omega
      · simp [h]; omega
    show (nuMax2 (.int i) (.int j)).bind (fun m => nuMax2 m (.int c)) = _
    rw [m2, Option.bind_some, m2]
theorem wMax3_i {μ : Mem} {P : D → Mem → Prop} {i j c : Int} (k : P (.int (max (max i j) c)) μ) : wMax3 [.int i, .int j, .int c] μ P := k
/-- nothing is promised -/
theorem fn_zero {P : Program} {w : World} {mg : Str → Option Value} {base : Heap} {f : Addr} {fd : FuncData} {ps : List Str} : FnOk P w K mg base (L2N.CX P w) 0 f fd ps (spOf K fun _ _ _ _ => False) := by
  have no : ∀ vs H Q E, ¬ spOf K (fun _ _ _ _ => False) vs H Q E := fun vs H Q E h => by
    obtain ⟨_, _, _, _, _, _, _, _, h, _⟩ := h
    exact h
  exact ⟨fun vs H Q E h => absurd h (no vs H Q E), fun A outer s H args us vs Q E _ _ _ _ h => absurd h (no vs H Q E)⟩
end PL
/-! PLu: rows of cells, carried at the end of what one holds. -/
namespace PL
open PySem L2
def tabL : Nat → Nat → (Nat → M) → List (Nat × M)
  | _, 0, _ => []
  | k, p + 1, m => (k, m 0) :: tabL (k + 1) p fun j => m (j + 1)
theorem tab_mem : ∀ {p k j : Nat} {m : Nat → M}, j < p → (k + j, m j) ∈ tabL k p m
  | 0, _, _, _, h => by omega
  | p + 1, k, 0, m, _ => List.mem_cons_self
  | p + 1, k, j + 1, m, h => by
    have := tab_mem (k := k + 1) (m := fun j => m (j + 1)) (show j < p by omega)
    rw [show k + (j + 1) = k + 1 + j by omega]
    exact List.mem_cons_of_mem _ this
theorem tab_of : ∀ {p k : Nat} {m : Nat → M} {x : Nat × M}, x ∈ tabL k p m → ∃ j, j < p ∧ x = (k + j, m j)
  | 0, _, _, _, h => by cases h
  | p + 1, k, m, x, h => by
    rcases List.mem_cons.mp h with rfl | h
    · exact ⟨0, by omega, rfl⟩
    · obtain ⟨j, hj, rfl⟩ := tab_of h
      exact ⟨j + 1, by omega, by rw [show k + (j + 1) = k + 1 + j by omega]⟩
def setM (m : Nat → M) (q : Nat) (m' : M) : Nat → M := fun j => if j = q then m' else m j
theorem tab_put : ∀ {p k q : Nat} {m : Nat → M} {m' : M}, q < p → PutR (k + q) (m q) m' (tabL k p m) (tabL k p (setM m q m'))
  | 0, _, _, _, _, h => by omega
  | p + 1, k, 0, m, m', _ => by
    rw [tabL, tabL]
    have e : (fun j => setM m 0 m' (j + 1)) = fun j => m (j + 1) := by funext j; simp [setM]
    rw [e]
    exact .here
  | p + 1, k, q + 1, m, m', h => by
    rw [tabL, tabL]
    have e : (fun j => setM m (q + 1) m' (j + 1)) = setM (fun j => m (j + 1)) q m' := by funext j; simp [setM]
    rw [e]
    have := tab_put (k := k + 1) (m := fun j => m (j + 1)) (m' := m') (show q < p by omega)
    rw [show k + (q + 1) = k + 1 + q by omega]
    exact .there this
section
variable {S : List Nat} {I : Mem → Prop} {μ0 μ μ' : Mem} {L : List (Nat × M)}
theorem tab_nd : ∀ {p k : Nat} {m : Nat → M} {n : Nat}, (tabL k p m).Pairwise fun p q => p.1 ≠ q.1 ∨ (p.1 < n ∧ q.1 < n)
  | 0, _, _, _ => .nil
  | p + 1, k, m, n => .cons (fun q hq => by obtain ⟨j, _, rfl⟩ := tab_of hq; exact .inl (by simp only; omega)) tab_nd
theorem Own.tabs (H : Own S I μ0 μ L) (n : Nat) (m : M) : Own S I μ0 (μ ++ List.replicate n m) (L ++ tabL μ.length n fun _ => m) := by
  have H1 := H.pure (Fr.app [] μ (List.replicate n m))
  have lt := H.st.lt H.inv
  refine ⟨H1.st, H1.fr, H1.inv, fun p hp => ?_, fun p hp => ?_, ?_⟩
  · rcases List.mem_append.mp hp with h | h
    · exact H1.has p h
    · obtain ⟨j, hj, rfl⟩ := tab_of h
      rw [List.getElem?_append_right (by simp), Nat.add_sub_cancel_left, List.getElem?_replicate, if_pos hj]
  · rcases List.mem_append.mp hp with h | h
    · exact H1.off p h
    · obtain ⟨j, hj, rfl⟩ := tab_of h
      intro z
      have := lt _ z
      simp only at this; omega
  · refine List.pairwise_append.mpr ⟨H.nd, tab_nd, fun p hp q hq => ?_⟩
    obtain ⟨j, hj, rfl⟩ := tab_of hq
    have := get_lt (H.has p hp)
    exact .inl (by simp only; omega)
end
end PL
namespace PL
section
variable {S : List Nat} {I : Mem → Prop} {μ0 μ μ' : Mem} {L : List (Nat × M)}
/-- a row of cells that someone made, with the cell that names them -/
theorem Own.tabOf (H : Own S I μ0 μ L) (f : Fr [] μ μ') {k p c : Nat} {m : Nat → M} {m0 : M} (hk : μ.length ≤ k) (hc : k + p ≤ c) (h0 : μ'[c]? = some m0) (t : ∀ j, j < p → μ'[k + j]? = some (m j)) : Own S I μ0 μ' ((c, m0) :: (L ++ tabL k p m)) := by
  have H1 := H.pure f
  have lt := H.st.lt H.inv
  have H2 : Own S I μ0 μ' (L ++ tabL k p m) := by
    refine ⟨H1.st, H1.fr, H1.inv, fun q hq => ?_, fun q hq => ?_, ?_⟩
    · rcases List.mem_append.mp hq with h | h
      · exact H1.has q h
      · obtain ⟨j, hj, rfl⟩ := tab_of h
        exact t j hj
    · rcases List.mem_append.mp hq with h | h
      · exact H1.off q h
      · obtain ⟨j, hj, rfl⟩ := tab_of h
        intro z
        have := lt _ z
        simp only at this; omega
    · refine List.pairwise_append.mpr ⟨H.nd, tab_nd, fun a ha q hq => ?_⟩
      obtain ⟨j, hj, rfl⟩ := tab_of hq
      have := get_lt (H.has a ha)
      exact .inl (by simp only; omega)
  refine H2.more h0 (fun z => by have := lt _ z; omega) fun a ha => .inl ?_
  rcases List.mem_append.mp ha with h | h
  · have := get_lt (H.has a h); omega
  · obtain ⟨j, hj, rfl⟩ := tab_of h
    simp only; omega
end
end PL
/-! PLs: list(range(a, b)). -/
namespace PL
open PySem L2 PySem.Spec PyProof.Rows
variable {K : PySem.W.Frag} {W : WX}
def wLstRg2 (a b : WE) : WE := fun δ μ P XP => a δ μ (fun x μ1 => b δ μ1 (fun y μ2 => match x, y with | .int i, .int j => (-(2 ^ 62) ≤ i ∧ i < 2 ^ 62 ∧ -(2 ^ 62) ≤ j ∧ j < 2 ^ 62 ∧ (j - i).toNat ≤ 16777216) ∧ aLst P ((List.range (j - i).toNat).map fun (k : Nat) => D.int (i + (k : Nat))) μ2 | _, _ => False) XP) XP
theorem reps_rg2 {α : List Addr} {F : Hp} (i : Int) (n : Nat) : Reps K α F ((List.range n).map fun (k : Nat) => V.int (i + (k : Nat))) ((List.range n).map fun (k : Nat) => D.int (i + (k : Nat))) := by
  generalize List.range n = l
  induction l with
  | nil => exact .nil
  | cons a l ih => exact .cons (.int _) ih
theorem le_lstRg2 {ta tb : TE} {a b : WE} (ha : LE K W ta a) (hb : LE K W tb b) : LE K W (tLstRg (tRg2 ta tb)) (wLstRg2 a b) := fun wd σ δ μ P XP ok env h Q q x =>
  ha wd σ δ μ _ XP ok env h _ (fun v d μ1 w1 h1 l1 ok1 r1 =>
    hb w1 σ δ μ1 _ XP ok1 (env.le l1) h1 _ (fun v' d' μ2 w2 h2 l2 ok2 r2 => by
      dsimp only at h2
      split at h2
      · rename_i i j
        cases r1
        cases r2
        obtain ⟨⟨b1, b2, b3, b4, b5⟩, h2⟩ := h2
        refine ⟨i, j, rfl, rfl, ⟨by omega, by omega, by omega, by omega, by omega⟩, fun p hp => ?_⟩
        obtain ⟨ok3, l3⟩ := ok2.newcell (m := .lst ((List.range (j - i).toNat).map fun (k : Nat) => D.int (i + (k : Nat)))) hp (o := .lst (rgV i j)) ⟨_, upd_same, reps_rg2 i _⟩
        exact q (.ref p) (.cell μ2.length) _ _ h2 ((l1.trans l2).trans l3) ok3 (.cell (Wd.last ok2 p))
      · exact h2.elim) (x.le l1)) x
theorem wLstRg2_i {a b : WE} {δ : En} {μ : Mem} {P : D → Mem → Prop} {XP : QX} : wLstRg2 a b δ μ P XP = a δ μ (fun x μ1 => b δ μ1 (fun y μ2 => match x, y with | .int i, .int j => (-(2 ^ 62) ≤ i ∧ i < 2 ^ 62 ∧ -(2 ^ 62) ≤ j ∧ j < 2 ^ 62 ∧ (j - i).toNat ≤ 16777216) ∧ aLst P ((List.range (j - i).toNat).map fun (k : Nat) => D.int (i + (k : Nat))) μ2 | _, _ => False) XP) XP := rfl
end PL
/-! PLq: xs[lo:hi:st] with a step; str(i). -/
namespace HT
open PySem PySem.Spec PyProof.Rows PySem.W
variable {prog : Program} {w : World} {A : Around} {E : Value → Shared → Prop} {s : Shared}
theorem sliceApplied_st {sl : Addr} {vl vu vs : Value} {lo hi : Option Int} {st : Int} {n : Nat} {Q : Int × Int × Nat → Shared → Prop} (hs : s.heap.IsSliceOf sl vl vu vs) (pl : IsPart vl lo) (pu : IsPart vu hi) (ps : IsPart vs (some st)) (h0 : st ≠ 0)
    (h : Q ((Builtin.Slice.sliceAdjust lo hi st (n : Int)).1, st, Builtin.Slice.slicePlaces (Builtin.Slice.sliceAdjust lo hi st (n : Int)).1 (Builtin.Slice.sliceAdjust lo hi st (n : Int)).2 st) s) : wpAny (model prog w) A (Builtin.Slice.sliceApplied (.ref sl) (pure (n : Int))) Q E s := by
  obtain ⟨os, hos, hcs, hds⟩ := id hs
  unfold Builtin.Slice.sliceApplied Builtin.Slice.sliceFields
  refine wpAny_bind (wpAny_bind (wpAny_field hos hds (x := vl) rfl (wpAny_bind (wpAny_field hos hds (x := vu) rfl (wpAny_bind (wpAny_field hos hds (x := vs) rfl (wpAny_pure ?_)))))))
  refine wpAny_bind (slicePart_ ps ?_)
  show wpAny _ _ (if (st == 0) = true then _ else _) _ _ s
  rw [if_neg (by simpa using h0)]
  refine wpAny_bind (slicePart_ pl (wpAny_bind (slicePart_ pu (wpAny_bind (wpAny_pure ?_)))))
  exact wpAny_pure h
/-- the places of xs[lo:hi:st] -/
def placesS (lo hi : Option Int) (st : Int) (n : Nat) : List Nat := (List.range (Builtin.Slice.slicePlaces (Builtin.Slice.sliceAdjust lo hi st (n : Int)).1 (Builtin.Slice.sliceAdjust lo hi st (n : Int)).2 st)).map fun (m : Nat) => ((Builtin.Slice.sliceAdjust lo hi st (n : Int)).1 + (m : Int) * st).toNat
theorem getItem_tuple_st {t sl : Addr} {items : Array Value} {vl vu vs : Value} {lo hi : Option Int} {st : Int} {Q : Value → Shared → Prop} (ht : IsTup s.heap t items) (hs : s.heap.IsSliceOf sl vl vu vs) (pl : IsPart vl lo) (pu : IsPart vu hi) (ps : IsPart vs (some st)) (h0 : st ≠ 0) (h1 : st ≠ 1)
    (hz : (placesS lo hi st items.size).length ≤ sizeLine)
    (h : Q (.ref s.heap.objs.size) { s with heap := s.heap.push { cls := .type "tuple", data := .seq ((placesS lo hi st items.size).filterMap (items[·]?)).toArray } }) : wpAny (model prog w) A (getItem (.ref t) (.ref sl)) Q E s := by
  have htake : sizeOk (.seq ((placesS lo hi st items.size).filterMap (items[·]?)).toArray) := by
    show ((placesS lo hi st items.size).filterMap (items[·]?)).toArray.size ≤ sizeLine
    rw [List.size_toArray]
    exact Nat.le_trans (List.length_filterMap_le _ _) hz
  obtain ⟨os, hos, hcs, hds⟩ := id hs
  have hTs : s.TypeIs (.ref sl) "slice" := ⟨os, hos, hcs⟩
  unfold getItem
  try with_reducible refine wpAny_holding ?_
  first | refine wpAny_bind (wpAny_pure ?_) | skip
  refine wpAny_bind (wpAny_sequenceKey ht.typeIs (by decide) ?_)
  refine wpAny_bind (wpAny_callSpecial?_slot (name := Str.ofString "__getitem__") ht.typeIs PyProof.Rows.slot_tuple_getitem
    (wpAny_call_entry PyProof.Rows.slot_tuple_getitem ht.typeIs entry_tuple_getitem ?_ (args_tuple_getitem _ _)))
  show wpAny _ _ (Builtin.Tuple.tupleItemsOf (.ref t) >>= _) _ _ s
  refine wpAny_bind (tupleItemsOf_ ht ?_)
  refine wpAny_bind (wpAny_typeOf hTs ?_)
  rw [if_pos (by decide)]
  refine wpAny_bind (sliceApplied_st hs pl pu ps h0 ?_)
  generalize hb : Builtin.Slice.sliceAdjust lo hi st (items.size : Int) = bb
  have hno : ¬ ((bb.1 == 0 && st == 1 && (Builtin.Slice.slicePlaces bb.1 bb.2 st) == items.size) = true) := by
    intro q
    rw [Bool.and_eq_true, Bool.and_eq_true] at q
    exact h1 (eq_of_beq q.1.2)
  show wpAny _ _ (if (bb.1 == 0 && st == 1 && (Builtin.Slice.slicePlaces bb.1 bb.2 st) == items.size) = true then _ else _) _ _ s
  rw [if_neg hno]
  have e : (List.range (Builtin.Slice.slicePlaces bb.1 bb.2 st)).filterMap (fun (m : Nat) => items[(bb.1 + (m : Int) * st).toNat]?) = (placesS lo hi st items.size).filterMap (items[·]?) := by
    unfold placesS
    rw [hb, List.filterMap_map]
    rfl
  rw [e]
  first
    | exact wpAny_bind (m := Builtin.Tuple.tupleExact _) (wpAny_newObj_type (wpAny_pure ⟨_, rfl, wpAny_pure h⟩) htake)
    | exact wpAny_bind (m := Builtin.Tuple.tupleExact _) (wpAny_newObj_type (wpAny_bind (wpAny_pure (wpAny_pure ⟨_, rfl, wpAny_pure h⟩))) htake)
    | exact wpAny_bind (wpAny_bind (m := Builtin.Tuple.tupleExact _) (wpAny_newObj_type (wpAny_pure (wpAny_pure ⟨_, rfl, wpAny_pure h⟩)) htake))
    | exact wpAny_bind (wpAny_bind (m := Builtin.Tuple.tupleExact _) (wpAny_newObj_type (wpAny_pure ⟨_, rfl, wpAny_pure h⟩) htake))
end HT
namespace L2
open PySem PySem.Spec PyProof.Rows PySem.W
variable {X : Cx} {e st : Expr} {te ts : TE} {pos p2 : Pos}
theorem places_rev (n : Nat) : HT.placesS none none (-1) n = (List.range n).reverse := by
  have e1 : Builtin.Slice.sliceAdjust none none (-1) (n : Int) = ((n : Int) - 1, -1) := by
    unfold Builtin.Slice.sliceAdjust
    simp only [show ((-1 : Int) < 0) by decide, if_true]
  have e2 : Builtin.Slice.slicePlaces ((n : Int) - 1) (-1) (-1) = n := by
    unfold Builtin.Slice.slicePlaces
    simp only [show ¬ ((-1 : Int) > 0) by decide, if_false]
    by_cases h : (n : Int) - 1 > -1
    · rw [if_pos h, show (- -1 : Int) = 1 by decide, Int.ediv_one]; omega
    · rw [if_neg h]; omega
  unfold HT.placesS
  rw [e1]
  simp only [e2]
  rw [← PySem.W.krv_range]
  refine List.map_congr_left fun k hk => ?_
  have := List.mem_range.mp hk
  omega
theorem pick_rev (items : Array Value) : (HT.placesS none none (-1) items.size).filterMap (items[·]?) = items.toList.reverse := by
  rw [places_rev, List.filterMap_reverse, PySem.W.krv_all]
/-- xs[::-1] -/
def tRev (K : PySem.W.Frag) (te : TE) : TE := fun σ H Q => te σ H fun x H1 => (∃ a xs, x = .ref a ∧ SqT K H1 a xs ∧ ∀ p, H1 p = none → Q (.ref p) (upd H1 p (.tup xs.reverse))) ∨ (∃ a xs, x = .ref a ∧ SqL K H1 a xs ∧ ∀ p, H1 p = none → Q (.ref p) (upd H1 p (.lst xs.reverse)))
theorem pe_rev {K : PySem.W.Frag} (hK : X.K = K) (he : PE X e te) (hs : PE X st (tUn (rU fun i => V.int (-i)) (tC (.int 1)))) : PE X (.Subscript e (.Slice none none (some st) p2) pos) (tRev K te) := by
  subst hK
  refine ⟨fun pins s σ H Q I h => ?_⟩
  refine Subscript_ (thn (he.run pins s σ H _ I h) fun v s1 ⟨x, H1, I1, r1, q1⟩ => ?_)
  refine wpAny_Slice ?_
  rw [evalPart_none]
  refine wpAny_pure (wpAny_pure ?_)
  rw [evalPart_some]
  refine thn (hs.run pins s1 σ H1 (fun y H2 => y = .int (-1) ∧ H2 = H1) I1 ⟨1, rfl, rfl, rfl⟩) fun vs s3 ⟨y, H2, I3, r3, q3⟩ => ?_
  obtain ⟨rfl, rfl⟩ := q3
  have I4 : Inv X pins σ H2 { s3 with heap := s3.heap.push { cls := .type "slice", data := .fields #[.none, .none, vs] } } := I3.kept (t' := s3.toks) fun b ob q => Heap.get?_push_of_some _ q
  have hsl : ({ s3 with heap := s3.heap.push { cls := .type "slice", data := .fields #[.none, .none, vs] } } : Shared).heap.IsSliceOf s3.heap.objs.size .none .none vs := Heap.IsSliceOf.new ..
  obtain ⟨t, rfl⟩ := r3
  rcases q1 with ⟨a, xs, rfl, hx, q⟩ | ⟨a, xs, rfl, hx, q⟩
  · cases r1
    obtain ⟨its, r, ht, hz⟩ := I4.tuple hx
    have hlen : its.toArray.size = xs.length := by rw [List.size_toArray]; exact r.length.symm
    refine tail_any (ops := [.ref a, .ref s3.heap.objs.size]) ht.typeIs PyProof.Rows.slot_tuple_getitem.lookup ?_ (by with_unfolding_all rfl)
    refine HT.getItem_tuple_st ht hsl .none .none (.int (-1) t) (by decide) (by decide) (by rw [places_rev, List.length_reverse, List.length_range, hlen]; exact hz) ?_
    rw [pick_rev]
    refine ⟨.ref _, _, I4.laid (t' := s3.toks) (o := .tup xs.reverse) (fun b ob q => Heap.get?_push_of_some _ q) (Nat.le_refl _) ?_, rfl, q _ (I4.hok.fresh (Nat.le_refl _))⟩
    exact ⟨by rw [List.length_reverse]; exact hz, _, r.reverse, IsTup.new _ _⟩
  · cases r1
    obtain ⟨its, r, ht, hz⟩ := I4.list hx
    have hlen := r.length
    refine tail_any (ops := [.ref a, .ref s3.heap.objs.size]) ht.isList.typeIs slot_list_getitem.lookup ?_ (by with_unfolding_all rfl)
    refine wpAny_getItem_list_slice ht.isList hsl .none .none (.int (-1) t) (by decide) ?_ (by rw [List.size_toArray] <;> omega)
    rw [PySem.W.krv_pick]
    refine ⟨.ref _, _, I4.laid (t' := s3.toks) (o := .lst xs.reverse) (fun b ob q => Heap.get?_push_of_some _ q) (Nat.le_refl _) ?_, rfl, q _ (I4.hok.fresh (Nat.le_refl _))⟩
    exact ⟨by rw [List.length_reverse]; exact hz, _, 0, r.reverse, Heap.get?_push_size _ rfl⟩
end L2
namespace PL
open PySem L2 PySem.Spec PyProof.Rows
variable {K : PySem.W.Frag} {W : WX}
def wRev (a : WE) : WE := fun δ μ P XP => a δ μ (fun x μ1 => match x with
  | .tup xs => P (.tup xs.reverse) μ1
  | x => match seqOf μ1 x with | some xs => aLst P xs.reverse μ1 | none => False) XP
theorem le_rev {ta : TE} {a : WE} (ha : LE K W ta a) : LE K W (tRev K ta) (wRev a) := fun wd σ δ μ P XP ok env h Q q x =>
  ha wd σ δ μ _ XP ok env h _ (fun v d μ1 w1 h1 l1 ok1 r1 => by
    dsimp only at h1
    split at h1
    · cases r1 with
      | tup e rs =>
        refine .inl ⟨_, _, rfl, SqT.of (ok1.ex _ _ e), fun p hp => ?_⟩
        obtain ⟨ok4, l4⟩ := ok1.frozen hp (.tup (List.reverse _))
        exact q (.ref p) _ μ1 _ h1 (l1.trans l4) ok4 (.tup upd_same (rs.rev.mono l4.pre l4.ex))
    · cases e : seqOf μ1 d with
      | none => simp only [e] at h1
      | some xs =>
        simp only [e] at h1
        rename_i hnt
        obtain ⟨a, vs, rfl, hs, rs⟩ := rep_listy ok1 r1 e hnt
        refine .inr ⟨a, vs, rfl, hs, fun p hp => ?_⟩
        obtain ⟨ok4, l4⟩ := ok1.newcell (m := .lst xs.reverse) hp (o := .lst vs.reverse) ⟨_, upd_same, rs.rev⟩
        exact q (.ref p) _ _ _ h1 (l1.trans l4) ok4 (.cell (Wd.last ok1 p))) x
/-- str(i) -/
def wStrI : WRn := wR1 fun d μ P => match d with | .int i => i.natAbs.log2 < 1920 ∧ P (.str (toString i)) μ | _ => False
theorem lr_strI : LRn K (fun xs H Q => ∃ i, xs = [.int i] ∧ i.natAbs.log2 < 1920 ∧ Q (.str (toString i)) H) wStrI := lr_one fun wd μ P v d ok r h Q q => by
  cases d with
  | int i => cases r; exact ⟨i, rfl, h.1, q _ _ μ wd h.2 (Le.refl _) ok (.str _)⟩
  | _ => exact h.elim
end PL
namespace PL
open PySem L2
abbrev oMulB : WR2 := wI2 CMul fun i j => i * j
theorem wMulB_i {μ : Mem} {P : D → Mem → Prop} {a b : Int} (h : CMul a b) (k : P (.int (a * b)) μ) : oMulB (.int a) (.int b) μ P := ⟨h, k⟩
end PL
/-! PLn: what is told of constants, step by step (small for the kernel). -/
namespace PL
open PySem L2
def Cn (a : WE) (δ : En) (μ : Mem) (d : D) : Prop := ∀ (P : D → Mem → Prop) (XP : QX), P d μ → a δ μ P XP
def CnA (a : WA) (δ : En) (μ : Mem) (ds : List D) : Prop := ∀ (P : List D → Mem → Prop) (XP : QX), P ds μ → a δ μ P XP
section
variable {δ : En} {μ : Mem} {a b : WE} {r : WA} {d : D} {ds : List D}
theorem Cn.c : Cn (wC d) δ μ d := fun _ _ h => h
theorem Cn.neg {i : Int} : Cn (wUn wNeg (wC (.int i))) δ μ (.int (-i)) := fun _ _ h => h
theorem Cn.var {i : Nat} (h : δ[i]? = some (some d)) : Cn (wVar i) δ μ d := fun P XP k => by unfold wVar; rw [h]; exact k
theorem Cn.tup (h : CnA r δ μ ds) : Cn (wTup r) δ μ (.tup ds) := fun P XP k => h _ XP k
theorem CnA.nil : CnA wNil δ μ [] := fun _ _ h => h
theorem CnA.cons (h : Cn a δ μ d) (t : CnA r δ μ ds) : CnA (wCons a r) δ μ (d :: ds) := fun P XP k => h _ XP (t _ XP k)
/-- a list of them -/
theorem CnA.lst {P : D → Mem → Prop} {XP : QX} (h : CnA r δ μ ds) (k : aLst P ds μ) : wLst r δ μ P XP := h _ XP k
theorem Cn.call2 {f : FS} {x : D} {P : D → Mem → Prop} {XP : QX} (h : Cn a δ μ x) (k : b δ μ (fun y μ1 => f [x, y] μ1 P (fun e μ2 => XP e δ μ2)) XP) : wCall f [] (wCons a (wCons b wNil)) δ μ P XP := h _ XP k
theorem wAsg_i {g : WG} {P : PO} (h : a δ μ (fun d μ1 => g d δ μ1 P.nx) P.xc) : wAsg a g δ μ P := h
theorem wRet_i {P : PO} (h : a δ μ P.rt P.xc) : wRet a δ μ P := h
theorem wOp_i {f : WR2} {x : D} {P : D → Mem → Prop} {XP : QX} (h : Cn a δ μ x) (k : b δ μ (fun y μ1 => f x y μ1 P) XP) : wOp f a b δ μ P XP := h _ XP k
theorem wCB1_i {f : WRn} {P : D → Mem → Prop} {XP : QX} (h : a δ μ (fun x μ1 => f [x] μ1 P) XP) : wCB f (wCons a wNil) δ μ P XP := h
end
section
variable {δ : En} {μ : Mem} {a b : WE} {r : WA} {d x y : D} {ds xs ys : List D} {XP : QX}
theorem zipI_i {R : List D → (Mem → Prop) → Mem → Prop} (ha : Cn a δ μ x) (hb : Cn b δ μ y) (hx : seqOf μ x = some xs) (hy : seqOf μ y = some ys) (k : R (pairs xs ys) (fun m => stays μ x m ∧ stays μ y m) μ) : wZipI (wCons a (wCons b wNil)) δ μ R XP := by
  unfold wZipI
  refine ha _ _ (hb _ _ ?_)
  show match seqOf μ x, seqOf μ y with | some xs, some ys => _ | _, _ => False
  rw [hx, hy]
  exact k
theorem seqI_i {R : List D → (Mem → Prop) → Mem → Prop} (ha : Cn a δ μ x) (hx : seqOf μ x = some xs) (k : R xs (stays μ x) μ) : wSeqI a δ μ R XP := by
  unfold wSeqI
  refine ha _ _ ?_
  rw [hx]
  exact k
theorem enumI_i {R : List D → (Mem → Prop) → Mem → Prop} (ha : Cn a δ μ x) (hx : seqOf μ x = some xs) (k : R (numbered 0 xs) (stays μ x) μ) : wEnumI (wCons a wNil) δ μ R XP := by
  unfold wEnumI
  refine ha _ _ ?_
  show match seqOf μ x with | some xs => _ | none => False
  rw [hx]
  exact k
theorem rng1_i {R : List D → (Mem → Prop) → Mem → Prop} {j : Int} (ha : Cn a δ μ (.int j)) (h : -(2 ^ 62) ≤ j ∧ j < 2 ^ 62) (k : R (rangeD 0 j.toNat) (fun _ => True) μ) : wRng1 (wCons a wNil) δ μ R XP := by
  unfold wRng1
  refine ha _ _ ?_
  exact ⟨h, k⟩
theorem lc_i {wi : WI} {g : WG} {t : WT} {e : WE} {vs : List Nat} {P : D → Mem → Prop} (h : wi δ μ (fun items chk μ1 => items.length ≤ sizeLine ∧ lcL chk vs g t e items [] δ μ1 (aLst P)) XP) : wLc wi g t e vs δ μ P XP := h
theorem for_i {wi : WI} {g : WG} {w : WS} {P : PO} (h : wi δ μ (fun items chk μ1 => loopL chk g w items δ μ1 P) P.xc) : wFor wi g w δ μ P := h
theorem start_i {n : Nat} {w : WS} {P : PO} {δ' : En} (h : startD n ds = δ') (k : w δ' μ P) : w (startD n ds) μ P := h ▸ k
theorem name_i {i : Nat} {δ' : En} {N : En → Mem → Prop} (h : δ.set i (some d) = δ') (k : N δ' μ) : wName i d δ μ N := by unfold wName; rw [h]; exact k
end
theorem Own.frT {S T : List Nat} {I : Mem → Prop} {μ0 μ μ' : Mem} {L : List (Nat × M)} (H : Own S I μ0 μ L) (f : Fr T μ μ') (hT : ∀ i ∈ T, μ0.length ≤ i) (hS : ∀ i ∈ S, i ∉ T) (hL : ∀ p ∈ L, p.1 ∉ T) : Own S I μ0 μ' L :=
  ⟨H.st, ⟨Nat.le_trans H.fr.len f.len, fun i h n => (f.at' i (Nat.lt_of_lt_of_le h H.fr.len) fun z => by have := hT i z; omega).trans (H.fr.at' i h n)⟩, H.st.fr H.inv f hS, fun p hp => f.get (H.has p hp) (hL p hp), H.off, H.nd⟩
theorem Own.hereOf {S : List Nat} {I : Mem → Prop} {μ0 μ : Mem} {L L' : List (Nat × M)} (H : Own S I μ0 μ L) (h : ∀ p ∈ L', p ∈ L) : Own S I μ μ L' :=
  Own.start H.st H.inv (fun p hp => H.has p (h p hp)) fun p hp => H.off p (h p hp)
theorem Own.upd {S : List Nat} {I : Mem → Prop} {μ0 μ μ' : Mem} {L : List (Nat × M)} {c : Nat} {m m' : M} (H : Own S I μ0 μ ((c, m) :: L)) (f : Fr [c] μ μ') (h : μ'[c]? = some m') (hc : μ0.length ≤ c) : Own S I μ0 μ' ((c, m') :: L) := by
  have hne : ∀ p ∈ L, c ≠ p.1 := fun p hp => by
    cases H.nd with
    | cons a b =>
      rcases a p hp with h | h
      · exact h
      · simp only at h; omega
  have hcs : c ∉ S := H.off (c, m) List.mem_cons_self
  exact (H.tail.frT f (by simpa using hc) (fun i hi => by simp; intro e; subst e; exact hcs hi) (fun p hp => by simp; exact Ne.symm (hne p hp))).more h hcs fun p hp => .inl (hne p hp)
theorem Own.swap {S : List Nat} {I : Mem → Prop} {μ0 μ : Mem} {L : List (Nat × M)} {x y : Nat × M} (H : Own S I μ0 μ (x :: y :: L)) : Own S I μ0 μ (y :: x :: L) :=
  ⟨H.st, H.fr, H.inv, fun p hp => H.has p (by simp at hp ⊢; rcases hp with h | h | h <;> simp [h]), fun p hp => H.off p (by simp at hp ⊢; rcases hp with h | h | h <;> simp [h]), by
    cases H.nd with
    | cons a b =>
    cases b with
    | cons c d =>
    refine .cons (fun q hq => ?_) (.cons (fun q hq => a q (by simp [hq])) d)
    rcases List.mem_cons.mp hq with rfl | h
    · rcases a y (by simp) with h | h
      · exact .inl (Ne.symm h)
      · exact .inr ⟨h.2, h.1⟩
    · exact c q h⟩
end PL
/-! PLend: the end: what the top has left, as the texts before want it; the law's call. -/
namespace PL
open PySem L2 PySem.Spec PyProof.Rows
section
variable {P : Program} {w : World} {K : PySem.W.Frag} {mg : Str → Option Value} {base : Heap}
theorem fn_mk {x qual : Str} {st : Stmt} {f : Addr} {oc dV kV doc pm cdv ct : Value} {od an : Option Addr} {osl : Array (Option Value)} (l : K.lookup f = some ⟨oc, od, .func (PySem.W.fnOf x qual (defArgs st) (defBody st) (defScope st) dV kV doc pm an cdv ct), osl⟩)
    (c : PySem.W.codeIn K cdv qual = true) (k : PySem.W.keepIn K (.ref f) = true) : Fn K x qual st f (PySem.W.fnOf x qual (defArgs st) (defBody st) (defScope st) dV kV doc pm an cdv ct) := ⟨⟨oc, od, dV, kV, doc, pm, an, cdv, ct, osl, rfl, l, c⟩, k⟩
theorem def_mk {x : Str} {f : Addr} {fd : FuncData} {k : Nat} {ps : List Str} {S : FS} (F : FnOk P w K mg base (L2N.CX P w) k f fd ps (spOf K S)) (m : mg x = some (.ref f)) (kp : PySem.W.keepIn K (.ref f) = true) (b : Binds K fd ps []) : Def P w K mg base x k ps [] S :=
  ⟨⟨f, fd, [], F, m, kp, b, .nil⟩⟩
theorem defH_mk {x : Str} {f : Addr} {fd : FuncData} {k : Nat} {ps : List Str} {S : FS} (F : L2H.FnH P w K mg base (L2N.CX P w) k f fd ps (spOf K S)) (m : mg x = some (.ref f)) (kp : PySem.W.keepIn K (.ref f) = true) (b : Binds K fd ps []) : DefH P w K mg base x k ps S :=
  ⟨⟨f, fd, F, m, kp, b⟩⟩
theorem fnD_mk {x qual : Str} {st : Stmt} {f T : Addr} {oc kV doc pm cdv ct oT : Value} {od an dT : Option Addr} {osl slT : Array (Option Value)} {its : List Value} {nT : Nat} {dvs : List V} (l : K.lookup f = some ⟨oc, od, .func (PySem.W.fnOf x qual (defArgs st) (defBody st) (defScope st) (.ref T) kV doc pm an cdv ct), osl⟩)
    (c : PySem.W.codeIn K cdv qual = true) (k : PySem.W.keepIn K (.ref f) = true) (lT : K.lookup T = some ⟨oT, dT, .seq its.toArray nT, slT⟩) (hv : Vals dvs its) (hn : dvs ≠ []) :
    FunD K x qual (defArgs st) (defBody st) (defScope st) dvs [] f (PySem.W.fnOf x qual (defArgs st) (defBody st) (defScope st) (.ref T) kV doc pm an cdv ct) :=
  ⟨⟨oc, od, .ref T, kV, doc, pm, an, cdv, ct, osl, rfl, l, c, .inr ⟨hn, T, _, its, nT, rfl, lT, rfl, hv⟩, .inl rfl⟩, k⟩
theorem kit_own {t : Value} {C : Addr} {b : Bool} (h1 : PySem.W.isClsIn K C = true) (h2 : PySem.W.typeIn K (.ref C) = some (.type "type")) (h3 : PySem.W.subIn K t (.ref C) = some b) (ne : (t == .ref C) = false) : PySem.W.kitOne K t (.ref C) = some b := by
  unfold PySem.W.kitOne
  rw [ne]
  show PySem.W.kitCls K t (.ref C) = some b
  have e2 : ((PySem.W.clsIn K C).isSome && PySem.W.typeIn K (.ref C) == some (.type "type")) = true := by
    have h1' : (PySem.W.clsIn K C).isSome = true := h1
    rw [h1', h2] <;> rfl
  unfold PySem.W.kitCls
  simp only [e2, if_true]
  exact h3
theorem kit_self {C : Addr} : PySem.W.kitOne K (.ref C) (.ref C) = some true := by
  unfold PySem.W.kitOne
  rw [if_pos (beq_self_eq_true _)]
theorem kit_ty {t : Value} {T : String} {b : Bool} (h1 : PySem.W.kitMeta T = true) (h3 : PySem.W.subIn K t (.type T) = some b) (ne : (t == .type T) = false) : PySem.W.kitOne K t (.type T) = some b := by
  unfold PySem.W.kitOne
  rw [ne]
  show PySem.W.kitCls K t (.type T) = some b
  unfold PySem.W.kitCls
  simp only [h1, if_true]
  exact h3
theorem exm_of {t : Value} {C : Addr} {b : Bool} (h0 : PySem.W.subIn K (.ref C) (.type "BaseException") = some true) (h1 : PySem.W.isClsIn K C = true) (h2 : PySem.W.typeIn K (.ref C) = some (.type "type")) (h3 : PySem.W.subIn K t (.ref C) = some b) : PySem.W.exmOne K t (.ref C) = some b := by
  unfold PySem.W.exmOne
  have e1 : (PySem.W.subIn K (.ref C) (.type "BaseException") == some true) = true := by rw [h0] <;> rfl
  rw [if_pos e1]
  have e2 : ((PySem.W.clsIn K C).isSome && PySem.W.typeIn K (.ref C) == some (.type "type")) = true := by
    have h1' : (PySem.W.clsIn K C).isSome = true := h1
    rw [h1', h2] <;> rfl
  unfold PySem.W.kitCls
  simp only [e2, if_true]
  exact h3
/-- the law's call -/
def spLaw (K : PySem.W.Frag) : Sp := fun vs H Q _ => ∃ (a : Addr) (ns : List Int), vs = [.ref a] ∧ SqL K H a (ns.map V.int) ∧ ns.length ≤ 63 ∧ ∀ H', Q (.bl true) H'
theorem sp_law {S : FS} (h : ∀ (ns : List Int) (μ : Mem) (P : D → Mem → Prop) (XP : Exn → Mem → Prop), (∀ μ', P (.bl true) μ') → S [.scr ns] μ P XP) : ∀ vs H Q E, spLaw K vs H Q E → spOf K S vs H Q E := by
  rintro vs H Q E ⟨a, ns, rfl, hS, h63, q⟩
  refine ⟨⟨[], H, H⟩, [], [.scr ns], fun d _ => d = .bl true, fun _ _ => False, rfl, ⟨rfl, Ex.refl _, fun n p m e => by simp at e, fun i j p e => by simp at e, fun p e => by cases e⟩, .cons (.scr hS) .nil, h ns _ _ _ fun _ => rfl, ?_, ?_⟩
  · rintro v d μ w' rfl _ _ r
    cases r
    exact q _
  · rintro x μ w' dx fvs z
    exact z.elim
theorem no_out {w : World} {H : Hp} {s s' : Shared} {e : Value} (c : L2N.CX P w [] H s (fun _ _ _ => False) e s') : False := by
  obtain ⟨_, _, _, _, _, _, _, _, _, _, _, _, z⟩ := c
  exact z.elim
end
theorem walk {l : PySem.W.OpenLaw} {q : Program} {loose : List Str} {XP : (Str → Option Value) → Heap → Prop} {YP : World → Heap → Prop} {d : DefRec} {K : Params → PySem.W.Frag} {k : Nat} (hn : l.most = some 63) (hdf : d.params.defaults = []) (hr : Room k callerA)
    (hY : ∀ (w : World) (h : Heap), YP w h → (K w.params).In h)
    (F : ∀ (w : World) (mg : Str → Option Value) (fa : Addr) (h : Heap), (K w.params).In h → h.Ns mainGlobals mg → mg d.name = some (.ref fa) →
      ∃ fd : FuncData, (∀ (s : Shared) (u : Value), BindsTo s fd ⟨[u], []⟩ [("script", u)]) ∧ ∀ base : Heap, (K w.params).In base → base.Ns mainGlobals mg → FnOk l.prog w (K w.params) mg base (L2N.CX l.prog w) k fa fd ["script"] (spLaw (K w.params))) :
    PySem.W.WalkO q loose XP YP l.row.toRowW d [] (fun f vs => PySem.call f vs) :=
  L2.walk_of (n := 63) (k := k) (x := "script") (CX := fun w => L2N.CX l.prog w) (sp := fun w => spLaw (K w.params)) hn (by decide) hdf hr hY F (fun _ _ a ns hl _ hS => ⟨a, ns, rfl, hS, hl, fun _ => rfl⟩) fun _ _ _ _ _ z => no_out z
end PL
namespace G
open PySem L2 PL PySem.Spec PyProof.Rows
/-- what the program's words speak of -/
structure Pr where
  K : PySem.W.Frag
  w : World
  fld : Addr → Str → Prop
  eqf : Addr → FS → Prop
  a_Box : Addr
  a_InvalidBounds : Addr
  a_InvalidBox : Addr
  a_InvalidSize : Addr
  a_InvalidTies : Addr
  a_InvalidTotals : Addr
  a_InvalidWeb : Addr
  a_Web : Addr
/-! is_integer: 0 value -/
def W_is_integer (π : Pr) : WS := (wRet (wAndV (wCB (wIsi π.K) (wCons (wVar 0) (wCons (wC (.ty "int")) wNil))) (wNotV (wCB (wIsi π.K) (wCons (wVar 0) (wCons (wC (.ty "bool")) wNil))))))
theorem E_is_integer (π : Pr) : ∃ S : FS, S = fnW 1 1 (W_is_integer π) := ⟨_, rfl⟩
noncomputable def S_is_integer (π : Pr) : FS := (E_is_integer π).choose
theorem S_is_integer_eq (π : Pr) : S_is_integer π = fnW 1 1 (W_is_integer π) := (E_is_integer π).choose_spec
/-! is_sequence: 0 value -/
def W_is_sequence (π : Pr) : WS := (wRet (wCB (wIsi π.K) (wCons (wVar 0) (wCons (wTup (wCons (wC (.ty "list")) (wCons (wC (.ty "tuple")) wNil))) wNil))))
theorem E_is_sequence (π : Pr) : ∃ S : FS, S = fnW 1 1 (W_is_sequence π) := ⟨_, rfl⟩
noncomputable def S_is_sequence (π : Pr) : FS := (E_is_sequence π).choose
theorem S_is_sequence_eq (π : Pr) : S_is_sequence π = fnW 1 1 (W_is_sequence π) := (E_is_sequence π).choose_spec
/-! is_tuple: 0 value, 1 many -/
def W_is_tuple (π : Pr) : WS := (wRet (wAndV (wCB (wIsi π.K) (wCons (wVar 0) (wCons (wC (.ty "tuple")) wNil))) (wOp (wEq false) (wCB wLen (wCons (wVar 0) wNil)) (wVar 1))))
theorem E_is_tuple (π : Pr) : ∃ S : FS, S = fnW 2 2 (W_is_tuple π) := ⟨_, rfl⟩
noncomputable def S_is_tuple (π : Pr) : FS := (E_is_tuple π).choose
theorem S_is_tuple_eq (π : Pr) : S_is_tuple π = fnW 2 2 (W_is_tuple π) := (E_is_tuple π).choose_spec
/-! is_double: 0 tie -/
def W_is_double (π : Pr) : WS := (wRet (wOp (wEq false) (wCB wLen (wCons (wVar 0) wNil)) (wC (.int 4))))
theorem E_is_double (π : Pr) : ∃ S : FS, S = fnW 1 1 (W_is_double π) := ⟨_, rfl⟩
noncomputable def S_is_double (π : Pr) : FS := (E_is_double π).choose
theorem S_is_double_eq (π : Pr) : S_is_double π = fnW 1 1 (W_is_double π) := (E_is_double π).choose_spec
/-! tie_ends: 0 tie -/
def W_tie_ends (π : Pr) : WS := (wSeq (wIfS (wTest (wOp (wEq false) (wCB wLen (wCons (wVar 0) wNil)) (wC (.int 2)))) (wRet (wLst (wCons (wVar 0) wNil))) wNext) (wRet (wLst (wCons (wTup (wCons (wOp wIx (wVar 0) (wC (.int 0))) (wCons (wOp wIx (wVar 0) (wC (.int 1))) wNil))) (wCons (wTup (wCons (wOp wIx (wVar 0) (wC (.int 2))) (wCons (wOp wIx (wVar 0) (wC (.int 3))) wNil))) wNil)))))
theorem E_tie_ends (π : Pr) : ∃ S : FS, S = fnW 1 1 (W_tie_ends π) := ⟨_, rfl⟩
noncomputable def S_tie_ends (π : Pr) : FS := (E_tie_ends π).choose
theorem S_tie_ends_eq (π : Pr) : S_tie_ends π = fnW 1 1 (W_tie_ends π) := (E_tie_ends π).choose_spec
/-! Web.__eq__: 0 self, 1 other -/
def W_Web__eq_ (π : Pr) : WS := (wRet (wAndV (wCB (wIsi π.K) (wCons (wVar 1) (wCons (wC (.ref π.a_Web)) wNil))) (wAndV (wOp (wEq false) (wFld π.fld (wVar 0) (PySem.Str.ofString "points")) (wFld π.fld (wVar 1) (PySem.Str.ofString "points"))) (wOp (wEq false) (wFld π.fld (wVar 0) (PySem.Str.ofString "ties")) (wFld π.fld (wVar 1) (PySem.Str.ofString "ties"))))))
theorem E_Web__eq_ (π : Pr) : ∃ S : FS, S = fnW 2 2 (W_Web__eq_ π) := ⟨_, rfl⟩
noncomputable def S_Web__eq_ (π : Pr) : FS := (E_Web__eq_ π).choose
theorem S_Web__eq__eq (π : Pr) : S_Web__eq_ π = fnW 2 2 (W_Web__eq_ π) := (E_Web__eq_ π).choose_spec
/-! check_web: 0 web, 1 at -/
def W_check_web (π : Pr) : WS := (wIfS (wNot (wTru (wCB (wIsi π.K) (wCons (wVar 0) (wCons (wC (.ref π.a_Web)) wNil))))) (wRaise π.a_InvalidWeb (PySem.Str.ofString "at") (wCons (wVar 1) wNil)) wNext)
theorem E_check_web (π : Pr) : ∃ S : FS, S = fnW 2 2 (W_check_web π) := ⟨_, rfl⟩
noncomputable def S_check_web (π : Pr) : FS := (E_check_web π).choose
theorem S_check_web_eq (π : Pr) : S_check_web π = fnW 2 2 (W_check_web π) := (E_check_web π).choose_spec
/-! Box.__eq__: 0 self, 1 other -/
def W_Box__eq_ (π : Pr) : WS := (wRet (wAndV (wCB (wIsi π.K) (wCons (wVar 1) (wCons (wC (.ref π.a_Box)) wNil))) (wAndV (wOp (wEq false) (wFld π.fld (wVar 0) (PySem.Str.ofString "bounds")) (wFld π.fld (wVar 1) (PySem.Str.ofString "bounds"))) (wOp (wEq false) (wFld π.fld (wVar 0) (PySem.Str.ofString "totals")) (wFld π.fld (wVar 1) (PySem.Str.ofString "totals"))))))
theorem E_Box__eq_ (π : Pr) : ∃ S : FS, S = fnW 2 2 (W_Box__eq_ π) := ⟨_, rfl⟩
noncomputable def S_Box__eq_ (π : Pr) : FS := (E_Box__eq_ π).choose
theorem S_Box__eq__eq (π : Pr) : S_Box__eq_ π = fnW 2 2 (W_Box__eq_ π) := (E_Box__eq_ π).choose_spec
/-! check_box: 0 web, 1 box -/
def W_check_box (π : Pr) : WS := (wIfS (wOr (wNot (wTru (wCB (wIsi π.K) (wCons (wVar 1) (wCons (wC (.ref π.a_Box)) wNil))))) (wOr (wTest (wOp (wEq true) (wCB wLen (wCons (wFld π.fld (wVar 1) (PySem.Str.ofString "bounds")) wNil)) (wCB wLen (wCons (wFld π.fld (wVar 0) (PySem.Str.ofString "ties")) wNil)))) (wTest (wOp (wEq true) (wCB wLen (wCons (wFld π.fld (wVar 1) (PySem.Str.ofString "totals")) wNil)) (wFld π.fld (wVar 0) (PySem.Str.ofString "points")))))) (wRaise π.a_InvalidBox (PySem.Str.ofString "at") (wCons (wUn wNeg (wC (.int 1))) wNil)) wNext)
theorem E_check_box (π : Pr) : ∃ S : FS, S = fnW 2 2 (W_check_box π) := ⟨_, rfl⟩
noncomputable def S_check_box (π : Pr) : FS := (E_check_box π).choose
theorem S_check_box_eq (π : Pr) : S_check_box π = fnW 2 2 (W_check_box π) := (E_check_box π).choose_spec
/-! _law_box: 0 script, 1 rest, 2 state, 3 k, 4 cell, 5 size -/
def W_law_box (π : Pr) : WS := (wSeq (wPar 1 2 (wCons (wLst wNil) (wCons (wC (.int 40503)) wNil))) (wSeq (wFor (wEnumI (wCons (wSl (wVar 0) wNoPart (wPart (wC (.int 63)))) wNil)) (wGtup 2 (wGcons (wName 3) (wGcons (wName 4) wGnil))) (wSeq (wAsg (wOp wAdd (wOp oMulB (wCB wAbs (wCons (wVar 4) wNil)) (wC (.int 2))) (wCB wIntC (wCons (wOp oLt (wVar 4) (wC (.int 0))) wNil))) (wName 5)) (wSeq (wIfS (wTest (wOp oGe (wCB wAbs (wCons (wVar 4) wNil)) (wOp oPow (wC (.int 10)) (wC (.int 18))))) (wDrop (wBM wAppend (wVar 1) (wCons (wCB wAbs (wCons (wVar 4) wNil)) wNil))) wNext) (wAsg (wOp wAdd (wOp oMod (wCB wIntC (wCons (wOp wAdd (wOp wAdd (wOp oMulB (wVar 2) (wC (.int 48271))) (wOp oMulB (wOp oMod (wCB wIntC (wCons (wVar 5) wNil)) (wC (.int 2147483629))) (wOp wAdd (wOp oMulB (wC (.int 2)) (wVar 3)) (wC (.int 69621))))) (wC (.int 11))) wNil)) (wC (.int 2147483629))) (wC (.int 1))) (wName 2))))) (wRet (wLst (wCons (wVar 1) (wCons (wVar 2) wNil))))))
theorem E_law_box (π : Pr) : ∃ S : FS, S = fnW 6 1 (W_law_box π) := ⟨_, rfl⟩
noncomputable def S_law_box (π : Pr) : FS := (E_law_box π).choose
theorem S_law_box_eq (π : Pr) : S_law_box π = fnW 6 1 (W_law_box π) := (E_law_box π).choose_spec
/-! _law_take: 0 box, 1 many, 2 cell -/
def W_law_take (π : Pr) : WS := (wSeq (wIfS (wTest (wOp (wEq true) (wOp wIx (wVar 0) (wC (.int 0))) (wLst wNil))) (wSeq (wAsg (wOp wIx (wOp wIx (wVar 0) (wC (.int 0))) (wC (.int 0))) (wName 2)) (wSeq (wAsg (wOp wAdd (wIf (wTest (wOp oGe (wVar 2) (wVar 1))) (wLst (wCons (wOp oFdiv (wVar 2) (wVar 1)) wNil)) (wLst wNil)) (wSl (wOp wIx (wVar 0) (wC (.int 0))) (wPart (wC (.int 1))) wNoPart)) (wGsub (wVar 0) (wC (.int 0)))) (wRet (wOp oMod (wCB wIntC (wCons (wVar 2) wNil)) (wVar 1))))) wNext) (wSeq (wAsg (wOp oMod (wCB wIntC (wCons (wOp wMul (wOp wIx (wVar 0) (wC (.int 1))) (wC (.int 48271))) wNil)) (wC (.int 2147483647))) (wGsub (wVar 0) (wC (.int 1)))) (wRet (wOp oMod (wCB wIntC (wCons (wOp oFdiv (wOp wAdd (wOp wMul (wOp wIx (wVar 0) (wC (.int 1))) (wC (.int 69621))) (wC (.int 7))) (wC (.int 1013))) wNil)) (wVar 1)))))
theorem E_law_take (π : Pr) : ∃ S : FS, S = fnW 3 2 (W_law_take π) := ⟨_, rfl⟩
noncomputable def S_law_take (π : Pr) : FS := (E_law_take π).choose
theorem S_law_take_eq (π : Pr) : S_law_take π = fnW 3 2 (W_law_take π) := (E_law_take π).choose_spec
/-! _law_norm: 0 tie -/
def W_law_norm (π : Pr) : WS := (wSeq (wIfS (wAnd (wTest (wOp (wEq false) (wCB wLen (wCons (wVar 0) wNil)) (wC (.int 4)))) (wTest (wOp oLt (wOp wIx (wVar 0) (wC (.int 2))) (wOp wIx (wVar 0) (wC (.int 0)))))) (wRet (wTup (wCons (wOp wIx (wVar 0) (wC (.int 2))) (wCons (wOp wIx (wVar 0) (wC (.int 3))) (wCons (wOp wIx (wVar 0) (wC (.int 0))) (wCons (wOp wIx (wVar 0) (wC (.int 1))) wNil)))))) wNext) (wRet (wCB wTupC (wCons (wVar 0) wNil))))
theorem E_law_norm (π : Pr) : ∃ S : FS, S = fnW 1 1 (W_law_norm π) := ⟨_, rfl⟩
noncomputable def S_law_norm (π : Pr) : FS := (E_law_norm π).choose
theorem S_law_norm_eq (π : Pr) : S_law_norm π = fnW 1 1 (W_law_norm π) := (E_law_norm π).choose_spec
/-! _law_ends: 0 tie -/
def W_law_ends (π : Pr) : WS := (wRet (wIf (wTest (wOp (wEq false) (wCB wLen (wCons (wVar 0) wNil)) (wC (.int 2)))) (wLst (wCons (wTup (wCons (wOp wIx (wVar 0) (wC (.int 0))) (wCons (wOp wIx (wVar 0) (wC (.int 1))) wNil))) wNil)) (wLst (wCons (wTup (wCons (wOp wIx (wVar 0) (wC (.int 0))) (wCons (wOp wIx (wVar 0) (wC (.int 1))) wNil))) (wCons (wTup (wCons (wOp wIx (wVar 0) (wC (.int 2))) (wCons (wOp wIx (wVar 0) (wC (.int 3))) wNil))) wNil)))))
theorem E_law_ends (π : Pr) : ∃ S : FS, S = fnW 1 1 (W_law_ends π) := ⟨_, rfl⟩
noncomputable def S_law_ends (π : Pr) : FS := (E_law_ends π).choose
theorem S_law_ends_eq (π : Pr) : S_law_ends π = fnW 1 1 (W_law_ends π) := (E_law_ends π).choose_spec
/-! _law_are_ints: 0 value, 1 many, 2 part -/
def W_law_are_ints (π : Pr) : WS := (wSeq (wIfS (wOr (wNot (wTru (wCB (wIsi π.K) (wCons (wVar 0) (wCons (wC (.ty "tuple")) wNil))))) (wTest (wOp (wEq true) (wCB wLen (wCons (wVar 0) wNil)) (wVar 1)))) (wRet (wC (.bl false))) wNext) (wRet (wOp (wEq false) (wLc (wSeqI (wVar 0)) (wName 2) (wOr (wNot (wTru (wCB (wIsi π.K) (wCons (wVar 2) (wCons (wC (.ty "int")) wNil))))) (wTru (wCB (wIsi π.K) (wCons (wVar 2) (wCons (wC (.ty "bool")) wNil))))) (wVar 2) [2]) (wLst wNil))))
theorem E_law_are_ints (π : Pr) : ∃ S : FS, S = fnW 3 2 (W_law_are_ints π) := ⟨_, rfl⟩
noncomputable def S_law_are_ints (π : Pr) : FS := (E_law_are_ints π).choose
theorem S_law_are_ints_eq (π : Pr) : S_law_are_ints π = fnW 3 2 (W_law_are_ints π) := (E_law_are_ints π).choose_spec
/-! _law_with: 0 row, 1 at, 2 value -/
def W_law_with (π : Pr) : WS := (wRet (wOp wAdd (wOp wAdd (wCB wTupC (wCons (wSl (wVar 0) wNoPart (wPart (wVar 1))) wNil)) (wTup (wCons (wVar 2) wNil))) (wCB wTupC (wCons (wSl (wVar 0) (wPart (wOp wAdd (wVar 1) (wC (.int 1)))) wNoPart) wNil))))
theorem E_law_with (π : Pr) : ∃ S : FS, S = fnW 3 3 (W_law_with π) := ⟨_, rfl⟩
noncomputable def S_law_with (π : Pr) : FS := (E_law_with π).choose
theorem S_law_with_eq (π : Pr) : S_law_with π = fnW 3 3 (W_law_with π) := (E_law_with π).choose_spec
/-! is_below: 0 value, 1 many -/
def W_is_below (π : Pr) : WS := (wRet (wAndV (wCall (S_is_integer π) [] (wCons (wVar 0) wNil)) (wChain oLe oLt (wC (.int 0)) (wVar 0) (wVar 1))))
theorem E_is_below (π : Pr) : ∃ S : FS, S = fnW 2 2 (W_is_below π) := ⟨_, rfl⟩
noncomputable def S_is_below (π : Pr) : FS := (E_is_below π).choose
theorem S_is_below_eq (π : Pr) : S_is_below π = fnW 2 2 (W_is_below π) := (E_is_below π).choose_spec
/-! is_sign: 0 value -/
def W_is_sign (π : Pr) : WS := (wRet (wAndV (wCall (S_is_integer π) [] (wCons (wVar 0) wNil)) (wOp (wIn false) (wVar 0) (wTup (wCons (wUn wNeg (wC (.int 1))) (wCons (wC (.int 1)) wNil))))))
theorem E_is_sign (π : Pr) : ∃ S : FS, S = fnW 1 1 (W_is_sign π) := ⟨_, rfl⟩
noncomputable def S_is_sign (π : Pr) : FS := (E_is_sign π).choose
theorem S_is_sign_eq (π : Pr) : S_is_sign π = fnW 1 1 (W_is_sign π) := (E_is_sign π).choose_spec
/-! is_sized: 0 value, 1 many -/
def W_is_sized (π : Pr) : WS := (wRet (wAndV (wCall (S_is_sequence π) [] (wCons (wVar 0) wNil)) (wOp (wEq false) (wCB wLen (wCons (wVar 0) wNil)) (wVar 1))))
theorem E_is_sized (π : Pr) : ∃ S : FS, S = fnW 2 2 (W_is_sized π) := ⟨_, rfl⟩
noncomputable def S_is_sized (π : Pr) : FS := (E_is_sized π).choose
theorem S_is_sized_eq (π : Pr) : S_is_sized π = fnW 2 2 (W_is_sized π) := (E_is_sized π).choose_spec
/-! is_paper: 0 value, 1 word, 2 many -/
def W_is_paper (π : Pr) : WS := (wRet (wAndV (wCall (S_is_tuple π) [] (wCons (wVar 0) (wCons (wVar 2) wNil))) (wOp (wEq false) (wOp wIx (wVar 0) (wC (.int 0))) (wVar 1))))
theorem E_is_paper (π : Pr) : ∃ S : FS, S = fnW 3 3 (W_is_paper π) := ⟨_, rfl⟩
noncomputable def S_is_paper (π : Pr) : FS := (E_is_paper π).choose
theorem S_is_paper_eq (π : Pr) : S_is_paper π = fnW 3 3 (W_is_paper π) := (E_is_paper π).choose_spec
/-! signs_fault: 0 signs, 1 at, 2 sign -/
def W_signs_fault (π : Pr) : WS := (wSeq (wFor (wEnumI (wCons (wVar 0) wNil)) (wGtup 2 (wGcons (wName 1) (wGcons (wName 2) wGnil))) (wIfS (wOr (wNot (wTru (wCall (S_is_integer π) [] (wCons (wVar 2) wNil)))) (wTest (wOp (wIn true) (wVar 2) (wTup (wCons (wUn wNeg (wC (.int 1))) (wCons (wC (.int 0)) (wCons (wC (.int 1)) wNil))))))) (wRet (wVar 1)) wNext)) (wRet (wC .non)))
theorem E_signs_fault (π : Pr) : ∃ S : FS, S = fnW 3 1 (W_signs_fault π) := ⟨_, rfl⟩
noncomputable def S_signs_fault (π : Pr) : FS := (E_signs_fault π).choose
theorem S_signs_fault_eq (π : Pr) : S_signs_fault π = fnW 3 1 (W_signs_fault π) := (E_signs_fault π).choose_spec
/-! check_points: 0 points -/
def W_check_points (π : Pr) : WS := (wIfS (wOr (wNot (wTru (wCall (S_is_integer π) [] (wCons (wVar 0) wNil)))) (wNot (wTest (wChain oLe oLe (wC (.int 1)) (wVar 0) (wC (.int 1000)))))) (wRaise π.a_InvalidSize (PySem.Str.ofString "word") (wCons (wC (.str (PySem.Str.ofString "points"))) wNil)) wNext)
theorem E_check_points (π : Pr) : ∃ S : FS, S = fnW 1 1 (W_check_points π) := ⟨_, rfl⟩
noncomputable def S_check_points (π : Pr) : FS := (E_check_points π).choose
theorem S_check_points_eq (π : Pr) : S_check_points π = fnW 1 1 (W_check_points π) := (E_check_points π).choose_spec
/-! ordered_tie: 0 tie -/
def W_ordered_tie (π : Pr) : WS := (wSeq (wIfS (wAnd (wTru (wCall (S_is_double π) [] (wCons (wVar 0) wNil))) (wTest (wOp oGt (wOp wIx (wVar 0) (wC (.int 0))) (wOp wIx (wVar 0) (wC (.int 2)))))) (wRet (wTup (wCons (wOp wIx (wVar 0) (wC (.int 2))) (wCons (wOp wIx (wVar 0) (wC (.int 3))) (wCons (wOp wIx (wVar 0) (wC (.int 0))) (wCons (wOp wIx (wVar 0) (wC (.int 1))) wNil)))))) wNext) (wRet (wCB wTupC (wCons (wVar 0) wNil))))
theorem E_ordered_tie (π : Pr) : ∃ S : FS, S = fnW 1 1 (W_ordered_tie π) := ⟨_, rfl⟩
noncomputable def S_ordered_tie (π : Pr) : FS := (E_ordered_tie π).choose
theorem S_ordered_tie_eq (π : Pr) : S_ordered_tie π = fnW 1 1 (W_ordered_tie π) := (E_ordered_tie π).choose_spec
/-! check_web_box: 0 web, 1 box -/
def W_check_web_box (π : Pr) : WS := (wSeq (wDrop (wCall (S_check_web π) [.int (-1)] (wCons (wVar 0) wNil))) (wDrop (wCall (S_check_box π) [] (wCons (wVar 0) (wCons (wVar 1) wNil)))))
theorem E_check_web_box (π : Pr) : ∃ S : FS, S = fnW 2 2 (W_check_web_box π) := ⟨_, rfl⟩
noncomputable def S_check_web_box (π : Pr) : FS := (E_check_web_box π).choose
theorem S_check_web_box_eq (π : Pr) : S_check_web_box π = fnW 2 2 (W_check_web_box π) := (E_check_web_box π).choose_spec
/-! tie_pull: 0 told, 1 signs, 2 point, 3 sign -/
def W_tie_pull (π : Pr) : WS := (wRet (wCB wSum (wCons (wLc (wSeqI (wCall (S_tie_ends π) [] (wCons (wVar 0) wNil))) (wGtup 2 (wGcons (wName 2) (wGcons (wName 3) wGnil))) wYes (wOp wMul (wVar 3) (wOp wIx (wVar 1) (wVar 2))) [2, 3]) wNil)))
theorem E_tie_pull (π : Pr) : ∃ S : FS, S = fnW 4 2 (W_tie_pull π) := ⟨_, rfl⟩
noncomputable def S_tie_pull (π : Pr) : FS := (E_tie_pull π).choose
theorem S_tie_pull_eq (π : Pr) : S_tie_pull π = fnW 4 2 (W_tie_pull π) := (E_tie_pull π).choose_spec
/-! sums_at: 0 web, 1 numbers, 2 sums, 3 told, 4 number, 5 point, 6 sign -/
def W_sums_at (π : Pr) : WS := (wSeq (wAsg (wOp wMul (wLst (wCons (wC (.int 0)) wNil)) (wFld π.fld (wVar 0) (PySem.Str.ofString "points"))) (wName 2)) (wSeq (wFor (wZipI (wCons (wFld π.fld (wVar 0) (PySem.Str.ofString "ties")) (wCons (wVar 1) wNil))) (wGtup 2 (wGcons (wName 3) (wGcons (wName 4) wGnil))) (wFor (wSeqI (wCall (S_tie_ends π) [] (wCons (wVar 3) wNil))) (wGtup 2 (wGcons (wName 5) (wGcons (wName 6) wGnil))) (wAugS (fun i j => i + j) (wVar 2) (wVar 5) (wOp wMul (wVar 6) (wVar 4))))) (wRet (wVar 2))))
theorem E_sums_at (π : Pr) : ∃ S : FS, S = fnW 7 2 (W_sums_at π) := ⟨_, rfl⟩
noncomputable def S_sums_at (π : Pr) : FS := (E_sums_at π).choose
theorem S_sums_at_eq (π : Pr) : S_sums_at π = fnW 7 2 (W_sums_at π) := (E_sums_at π).choose_spec
/-! _law_pick: 0 box, 1 some -/
def W_law_pick (π : Pr) : WS := (wRet (wOp wIx (wVar 1) (wCall (S_law_take π) [] (wCons (wVar 0) (wCons (wCB wLen (wCons (wVar 1) wNil)) wNil)))))
theorem E_law_pick (π : Pr) : ∃ S : FS, S = fnW 2 2 (W_law_pick π) := ⟨_, rfl⟩
noncomputable def S_law_pick (π : Pr) : FS := (E_law_pick π).choose
theorem S_law_pick_eq (π : Pr) : S_law_pick π = fnW 2 2 (W_law_pick π) := (E_law_pick π).choose_spec
/-! _law_far: 0 box, 1 size, 2 raw -/
def W_law_far (π : Pr) : WS := (wSeq (wAsg (wOp wAdd (wOp wMul (wOp wAdd (wOp wMul (wCall (S_law_take π) [] (wCons (wVar 0) (wCons (wOp oPow (wC (.int 10)) (wC (.int 9))) wNil))) (wOp oPow (wC (.int 10)) (wC (.int 9)))) (wCall (S_law_take π) [] (wCons (wVar 0) (wCons (wOp oPow (wC (.int 10)) (wC (.int 9))) wNil)))) (wC (.int 4))) (wCall (S_law_take π) [] (wCons (wVar 0) (wCons (wC (.int 4)) wNil)))) (wName 2)) (wRet (wOp oSub (wOp oMod (wCB wIntC (wCons (wVar 2) wNil)) (wOp wAdd (wOp wMul (wC (.int 2)) (wVar 1)) (wC (.int 1)))) (wVar 1))))
theorem E_law_far (π : Pr) : ∃ S : FS, S = fnW 3 2 (W_law_far π) := ⟨_, rfl⟩
noncomputable def S_law_far (π : Pr) : FS := (E_law_far π).choose
theorem S_law_far_eq (π : Pr) : S_law_far π = fnW 3 2 (W_law_far π) := (E_law_far π).choose_spec
/-! _law_sign: 0 box -/
def W_law_sign (π : Pr) : WS := (wRet (wOp oSub (wC (.int 1)) (wOp wMul (wC (.int 2)) (wCall (S_law_take π) [] (wCons (wVar 0) (wCons (wC (.int 2)) wNil))))))
theorem E_law_sign (π : Pr) : ∃ S : FS, S = fnW 1 1 (W_law_sign π) := ⟨_, rfl⟩
noncomputable def S_law_sign (π : Pr) : FS := (E_law_sign π).choose
theorem S_law_sign_eq (π : Pr) : S_law_sign π = fnW 1 1 (W_law_sign π) := (E_law_sign π).choose_spec
/-! _law_is: 0 told, 1 due, 2 one, 3 other -/
def W_law_is (π : Pr) (SR : FS) : WS := (wSeq (wIfS (wTru (wCB (wIsi π.K) (wCons (wVar 1) (wCons (wC (.ty "tuple")) wNil)))) (wSeq (wIfS (wOr (wNot (wTru (wCB (wIsi π.K) (wCons (wVar 0) (wCons (wC (.ty "tuple")) wNil))))) (wTest (wOp (wEq true) (wCB wLen (wCons (wVar 0) wNil)) (wCB wLen (wCons (wVar 1) wNil))))) (wRet (wC (.bl false))) wNext) (wRet (wOp (wEq false) (wLc (wZipI (wCons (wVar 0) (wCons (wVar 1) wNil))) (wGtup 2 (wGcons (wName 2) (wGcons (wName 3) wGnil))) (wNot (wTru (wCall SR [] (wCons (wVar 2) (wCons (wVar 3) wNil))))) (wC (.int 1)) [2, 3]) (wLst wNil)))) wNext) (wSeq (wIfS (wOr (wTest (wOp (wIs false) (wVar 1) (wC .non))) (wOr (wTest (wOp (wIs false) (wVar 1) (wC (.bl true)))) (wTest (wOp (wIs false) (wVar 1) (wC (.bl false)))))) (wRet (wIf (wTest (wOp (wIs false) (wVar 1) (wC .non))) (wOp (wIs false) (wVar 0) (wC .non)) (wIf (wTest (wOp (wIs false) (wVar 1) (wC (.bl true)))) (wOp (wIs false) (wVar 0) (wC (.bl true))) (wOp (wIs false) (wVar 0) (wC (.bl false)))))) wNext) (wSeq (wIfS (wTru (wCB (wIsi π.K) (wCons (wVar 1) (wCons (wC (.ty "int")) wNil)))) (wRet (wAndV (wCB (wIsi π.K) (wCons (wVar 0) (wCons (wC (.ty "int")) wNil))) (wAndV (wNotV (wCB (wIsi π.K) (wCons (wVar 0) (wCons (wC (.ty "bool")) wNil)))) (wOp (wEq false) (wVar 0) (wVar 1))))) wNext) (wRet (wAndV (wCB (wIsi π.K) (wCons (wVar 1) (wCons (wC (.ty "str")) wNil))) (wAndV (wCB (wIsi π.K) (wCons (wVar 0) (wCons (wC (.ty "str")) wNil))) (wOp (wEq false) (wVar 0) (wVar 1))))))))
theorem E_law_is (π : Pr) : ∃ S : Nat → FS, S 0 = (fun _ _ _ _ => False) ∧ ∀ n, S (n + 1) = fnW 4 2 (W_law_is π (S n)) := ⟨fun n => Nat.rec (fun _ _ _ _ => False) (fun _ S => fnW 4 2 (W_law_is π S)) n, rfl, fun _ => rfl⟩
noncomputable def S_law_is (π : Pr) : Nat → FS := (E_law_is π).choose
theorem S_law_is_zero (π : Pr) : S_law_is π 0 = (fun _ _ _ _ => False) := (E_law_is π).choose_spec.1
theorem S_law_is_eq (π : Pr) (n : Nat) : S_law_is π (n + 1) = fnW 4 2 (W_law_is π (S_law_is π n)) := (E_law_is π).choose_spec.2 n
/-! _law_sums: 0 points, 1 ties, 2 numbers, 3 sums, 4 tie, 5 number, 6 point, 7 sign -/
def W_law_sums (π : Pr) : WS := (wSeq (wAsg (wOp wMul (wLst (wCons (wC (.int 0)) wNil)) (wVar 0)) (wName 3)) (wSeq (wFor (wZipI (wCons (wVar 1) (wCons (wVar 2) wNil))) (wGtup 2 (wGcons (wName 4) (wGcons (wName 5) wGnil))) (wFor (wSeqI (wCall (S_law_ends π) [] (wCons (wVar 4) wNil))) (wGtup 2 (wGcons (wName 6) (wGcons (wName 7) wGnil))) (wAsg (wOp wAdd (wOp wIx (wVar 3) (wVar 6)) (wOp wMul (wVar 7) (wVar 5))) (wGsub (wVar 3) (wVar 6))))) (wRet (wVar 3))))
theorem E_law_sums (π : Pr) : ∃ S : FS, S = fnW 8 3 (W_law_sums π) := ⟨_, rfl⟩
noncomputable def S_law_sums (π : Pr) : FS := (E_law_sums π).choose
theorem S_law_sums_eq (π : Pr) : S_law_sums π = fnW 8 3 (W_law_sums π) := (E_law_sums π).choose_spec
/-! _law_pull: 0 tie, 1 signs, 2 point, 3 sign -/
def W_law_pull (π : Pr) : WS := (wRet (wCB wSum (wCons (wLc (wSeqI (wCall (S_law_ends π) [] (wCons (wVar 0) wNil))) (wGtup 2 (wGcons (wName 2) (wGcons (wName 3) wGnil))) wYes (wOp wMul (wVar 3) (wOp wIx (wVar 1) (wVar 2))) [2, 3]) wNil)))
theorem E_law_pull (π : Pr) : ∃ S : FS, S = fnW 4 2 (W_law_pull π) := ⟨_, rfl⟩
noncomputable def S_law_pull (π : Pr) : FS := (E_law_pull π).choose
theorem S_law_pull_eq (π : Pr) : S_law_pull π = fnW 4 2 (W_law_pull π) := (E_law_pull π).choose_spec
/-! _law_are_signs: 0 value, 1 points, 2 part -/
def W_law_are_signs (π : Pr) : WS := (wRet (wAndV (wCall (S_law_are_ints π) [] (wCons (wVar 0) (wCons (wVar 1) wNil))) (wOp (wEq false) (wLc (wSeqI (wVar 0)) (wName 2) (wTest (wOp oGt (wCB wAbs (wCons (wVar 2) wNil)) (wC (.int 1)))) (wVar 2) [2]) (wLst wNil))))
theorem E_law_are_signs (π : Pr) : ∃ S : FS, S = fnW 3 2 (W_law_are_signs π) := ⟨_, rfl⟩
noncomputable def S_law_are_signs (π : Pr) : FS := (E_law_are_signs π).choose
theorem S_law_are_signs_eq (π : Pr) : S_law_are_signs π = fnW 3 2 (W_law_are_signs π) := (E_law_are_signs π).choose_spec
/-! is_sign_row: 0 value, 1 points -/
def W_is_sign_row (π : Pr) : WS := (wRet (wAndV (wCall (S_is_tuple π) [] (wCons (wVar 0) (wCons (wVar 1) wNil))) (wOp (wIs false) (wCall (S_signs_fault π) [] (wCons (wVar 0) wNil)) (wC .non))))
theorem E_is_sign_row (π : Pr) : ∃ S : FS, S = fnW 2 2 (W_is_sign_row π) := ⟨_, rfl⟩
noncomputable def S_is_sign_row (π : Pr) : FS := (E_is_sign_row π).choose
theorem S_is_sign_row_eq (π : Pr) : S_is_sign_row π = fnW 2 2 (W_is_sign_row π) := (E_is_sign_row π).choose_spec
/-! is_tie: 0 value, 1 points -/
def W_is_tie (π : Pr) : WS := (wSeq (wIfS (wOr (wNot (wTru (wCall (S_is_sequence π) [] (wCons (wVar 0) wNil)))) (wTest (wOp (wIn true) (wCB wLen (wCons (wVar 0) wNil)) (wTup (wCons (wC (.int 2)) (wCons (wC (.int 4)) wNil)))))) (wRet (wC (.bl false))) wNext) (wSeq (wIfS (wOr (wNot (wTru (wCall (S_is_below π) [] (wCons (wOp wIx (wVar 0) (wC (.int 0))) (wCons (wVar 1) wNil))))) (wNot (wTru (wCall (S_is_sign π) [] (wCons (wOp wIx (wVar 0) (wC (.int 1))) wNil))))) (wRet (wC (.bl false))) wNext) (wRet (wOrV (wOp (wEq false) (wCB wLen (wCons (wVar 0) wNil)) (wC (.int 2))) (wAndV (wCall (S_is_below π) [] (wCons (wOp wIx (wVar 0) (wC (.int 2))) (wCons (wVar 1) wNil))) (wAndV (wCall (S_is_sign π) [] (wCons (wOp wIx (wVar 0) (wC (.int 3))) wNil)) (wOp (wEq true) (wOp wIx (wVar 0) (wC (.int 0))) (wOp wIx (wVar 0) (wC (.int 2))))))))))
theorem E_is_tie (π : Pr) : ∃ S : FS, S = fnW 2 2 (W_is_tie π) := ⟨_, rfl⟩
noncomputable def S_is_tie (π : Pr) : FS := (E_is_tie π).choose
theorem S_is_tie_eq (π : Pr) : S_is_tie π = fnW 2 2 (W_is_tie π) := (E_is_tie π).choose_spec
/-! are_bounds: 0 value -/
def W_are_bounds (π : Pr) : WS := (wRet (wAndV (wCall (S_is_sized π) [] (wCons (wVar 0) (wCons (wC (.int 2)) wNil))) (wAndV (wCall (S_is_integer π) [] (wCons (wOp wIx (wVar 0) (wC (.int 0))) wNil)) (wAndV (wCall (S_is_integer π) [] (wCons (wOp wIx (wVar 0) (wC (.int 1))) wNil)) (wOp oLe (wOp wIx (wVar 0) (wC (.int 0))) (wOp wIx (wVar 0) (wC (.int 1))))))))
theorem E_are_bounds (π : Pr) : ∃ S : FS, S = fnW 1 1 (W_are_bounds π) := ⟨_, rfl⟩
noncomputable def S_are_bounds (π : Pr) : FS := (E_are_bounds π).choose
theorem S_are_bounds_eq (π : Pr) : S_are_bounds π = fnW 1 1 (W_are_bounds π) := (E_are_bounds π).choose_spec
/-! check_totals: 0 web, 1 totals, 2 at, 3 total -/
def W_check_totals (π : Pr) : WS := (wSeq (wIfS (wNot (wTru (wCall (S_is_sized π) [] (wCons (wVar 1) (wCons (wFld π.fld (wVar 0) (PySem.Str.ofString "points")) wNil))))) (wRaise π.a_InvalidTotals (PySem.Str.ofString "at") (wCons (wUn wNeg (wC (.int 1))) wNil)) wNext) (wFor (wEnumI (wCons (wVar 1) wNil)) (wGtup 2 (wGcons (wName 2) (wGcons (wName 3) wGnil))) (wIfS (wNot (wTru (wCall (S_is_integer π) [] (wCons (wVar 3) wNil)))) (wRaise π.a_InvalidTotals (PySem.Str.ofString "at") (wCons (wVar 2) wNil)) wNext)))
theorem E_check_totals (π : Pr) : ∃ S : FS, S = fnW 4 2 (W_check_totals π) := ⟨_, rfl⟩
noncomputable def S_check_totals (π : Pr) : FS := (E_check_totals π).choose
theorem S_check_totals_eq (π : Pr) : S_check_totals π = fnW 4 2 (W_check_totals π) := (E_check_totals π).choose_spec
/-! lack_of: 0 ties, 1 bounds, 2 totals, 3 signs, 4 asked, 5 told, 6 least, 7 greatest, 8 size, 9 sign, 10 total -/
def W_lack_of (π : Pr) : WS := (wSeq (wAsg (wCB wSum (wCons (wLc (wZipI (wCons (wVar 3) (wCons (wVar 2) wNil))) (wGtup 2 (wGcons (wName 9) (wGcons (wName 10) wGnil))) wYes (wOp wMul (wVar 9) (wVar 10)) [9, 10]) wNil)) (wName 4)) (wSeq (wFor (wZipI (wCons (wVar 0) (wCons (wVar 1) wNil))) (wGtup 2 (wGcons (wName 5) (wGcons (wGtup 2 (wGcons (wName 6) (wGcons (wName 7) wGnil))) wGnil))) (wSeq (wAsg (wCall (S_tie_pull π) [] (wCons (wVar 5) (wCons (wVar 3) wNil))) (wName 8)) (wAug 4 (wCB wMaxC (wCons (wOp wMul (wVar 8) (wVar 6)) (wCons (wOp wMul (wVar 8) (wVar 7)) wNil))) (wIp (fun i j => i - j))))) (wRet (wVar 4))))
theorem E_lack_of (π : Pr) : ∃ S : FS, S = fnW 11 4 (W_lack_of π) := ⟨_, rfl⟩
noncomputable def S_lack_of (π : Pr) : FS := (E_lack_of π).choose
theorem S_lack_of_eq (π : Pr) : S_lack_of π = fnW 11 4 (W_lack_of π) := (E_lack_of π).choose_spec
/-! fits: 0 web, 1 bounds, 2 totals, 3 value, 4 number, 5 least, 6 most -/
def W_fits (π : Pr) : WS := (wSeq (wIfS (wOr (wNot (wTru (wCall (S_is_tuple π) [] (wCons (wVar 3) (wCons (wCB wLen (wCons (wFld π.fld (wVar 0) (PySem.Str.ofString "ties")) wNil)) wNil))))) (wNot (wTru (wCB wAll (wCons (wLc (wSeqI (wVar 3)) (wName 4) wYes (wCall (S_is_integer π) [] (wCons (wVar 4) wNil)) [4]) wNil))))) (wRet (wC (.bl false))) wNext) (wSeq (wIfS (wTru (wCB wAny (wCons (wLc (wZipI (wCons (wVar 3) (wCons (wVar 1) wNil))) (wGtup 2 (wGcons (wName 4) (wGcons (wGtup 2 (wGcons (wName 5) (wGcons (wName 6) wGnil))) wGnil))) wYes (wNotV (wChain oLe oLe (wVar 5) (wVar 4) (wVar 6))) [4, 5, 6]) wNil))) (wRet (wC (.bl false))) wNext) (wRet (wOp (wEq false) (wCall (S_sums_at π) [] (wCons (wVar 0) (wCons (wVar 3) wNil))) (wCB wListC (wCons (wVar 2) wNil))))))
theorem E_fits (π : Pr) : ∃ S : FS, S = fnW 7 4 (W_fits π) := ⟨_, rfl⟩
noncomputable def S_fits (π : Pr) : FS := (E_fits π).choose
theorem S_fits_eq (π : Pr) : S_fits π = fnW 7 4 (W_fits π) := (E_fits π).choose_spec
/-! _law_amount: 0 box, 1 size, 2 some -/
def W_law_amount (π : Pr) : WS := (wSeq (wAsg (wLst (wCons (wC (.int 0)) (wCons (wCall (S_law_take π) [] (wCons (wVar 0) (wCons (wC (.int 3)) wNil))) (wCons (wCall (S_law_take π) [] (wCons (wVar 0) (wCons (wC (.int 12)) wNil))) wNil)))) (wName 2)) (wRet (wCB wMinC (wCons (wVar 1) (wCons (wCall (S_law_pick π) [] (wCons (wVar 0) (wCons (wOp wAdd (wVar 2) (wLst (wCons (wCB wAbs (wCons (wCall (S_law_far π) [] (wCons (wVar 0) (wCons (wVar 1) wNil))) wNil)) wNil))) wNil))) wNil)))))
theorem E_law_amount (π : Pr) : ∃ S : FS, S = fnW 3 2 (W_law_amount π) := ⟨_, rfl⟩
noncomputable def S_law_amount (π : Pr) : FS := (E_law_amount π).choose
theorem S_law_amount_eq (π : Pr) : S_law_amount π = fnW 3 2 (W_law_amount π) := (E_law_amount π).choose_spec
/-! _law_tie: 0 box, 1 points, 2 near, 3 even, 4 one, 5 sign, 6 other -/
def W_law_tie (π : Pr) : WS := (wSeq (wPar 4 5 (wCons (wCall (S_law_take π) [] (wCons (wVar 0) (wCons (wVar 1) wNil))) (wCons (wCall (S_law_sign π) [] (wCons (wVar 0) wNil)) wNil))) (wSeq (wAsg (wOp oMod (wCB wIntC (wCons (wOp wAdd (wOp wAdd (wVar 4) (wC (.int 1))) (wCall (S_law_take π) [] (wCons (wVar 0) (wCons (wVar 2) wNil)))) wNil)) (wVar 1)) (wName 6)) (wRet (wTup (wCons (wVar 4) (wCons (wVar 5) (wCons (wVar 6) (wCons (wIf (wTest (wOp oGe (wCall (S_law_take π) [] (wCons (wVar 0) (wCons (wC (.int 4)) wNil))) (wVar 3))) (wVar 5) (wUn wNeg (wVar 5))) wNil))))))))
theorem E_law_tie (π : Pr) : ∃ S : FS, S = fnW 7 4 (W_law_tie π) := ⟨_, rfl⟩
noncomputable def S_law_tie (π : Pr) : FS := (E_law_tie π).choose
theorem S_law_tie_eq (π : Pr) : S_law_tie π = fnW 7 4 (W_law_tie π) := (E_law_tie π).choose_spec
/-! _law_rings: 0 box, 1 points, 2 many, 3 rings, 4 turn, 5 start, 6 length, 7 row, 8 ring, 9 k -/
def W_law_rings (π : Pr) : WS := (wSeq (wAsg (wLst wNil) (wName 3)) (wSeq (wFor (wRng1 (wCons (wIf (wTest (wOp oGt (wVar 1) (wC (.int 1)))) (wVar 2) (wC (.int 0))) wNil)) (wName 4) (wSeq (wAsg (wTup (wCons (wCall (S_law_take π) [] (wCons (wVar 0) (wCons (wVar 1) wNil))) (wCons (wOp wAdd (wC (.int 2)) (wCall (S_law_take π) [] (wCons (wVar 0) (wCons (wOp oSub (wCB wMinC (wCons (wVar 1) (wCons (wC (.int 8)) wNil))) (wC (.int 1))) wNil)))) wNil))) (wGtup 2 (wGcons (wName 5) (wGcons (wName 6) wGnil)))) (wSeq (wPar 7 8 (wCons (wLc (wRng1 (wCons (wVar 6) wNil)) (wName 9) wYes (wOp oMod (wCB wIntC (wCons (wOp wAdd (wVar 5) (wVar 9)) wNil)) (wVar 1)) [9]) (wCons (wLst wNil) wNil))) (wSeq (wFor (wRng1 (wCons (wVar 6) wNil)) (wName 9) (wDrop (wBM wAppend (wVar 8) (wCons (wTup (wCons (wOp wIx (wVar 7) (wVar 9)) (wCons (wCall (S_law_sign π) [] (wCons (wVar 0) wNil)) (wCons (wOp wIx (wVar 7) (wOp oMod (wCB wIntC (wCons (wOp wAdd (wVar 9) (wC (.int 1))) wNil)) (wVar 6))) (wCons (wCall (S_law_sign π) [] (wCons (wVar 0) wNil)) wNil))))) wNil)))) (wDrop (wBM wAppend (wVar 3) (wCons (wVar 8) wNil))))))) (wRet (wVar 3))))
theorem E_law_rings (π : Pr) : ∃ S : FS, S = fnW 10 3 (W_law_rings π) := ⟨_, rfl⟩
noncomputable def S_law_rings (π : Pr) : FS := (E_law_rings π).choose
theorem S_law_rings_eq (π : Pr) : S_law_rings π = fnW 10 3 (W_law_rings π) := (E_law_rings π).choose_spec
/-! _law_short: 0 ties, 1 bounds, 2 totals, 3 signs, 4 left, 5 tie, 6 both, 7 by, 8 sign, 9 total -/
def W_law_short (π : Pr) : WS := (wSeq (wAsg (wCB wSum (wCons (wLc (wZipI (wCons (wVar 3) (wCons (wVar 2) wNil))) (wGtup 2 (wGcons (wName 8) (wGcons (wName 9) wGnil))) wYes (wOp wMul (wVar 8) (wVar 9)) [8, 9]) wNil)) (wName 4)) (wSeq (wFor (wZipI (wCons (wVar 0) (wCons (wVar 1) wNil))) (wGtup 2 (wGcons (wName 5) (wGcons (wName 6) wGnil))) (wSeq (wAsg (wCall (S_law_pull π) [] (wCons (wVar 5) (wCons (wVar 3) wNil))) (wName 7)) (wAsg (wOp oSub (wVar 4) (wIf (wTest (wOp oGt (wVar 7) (wC (.int 0)))) (wOp wMul (wVar 7) (wOp wIx (wVar 6) (wC (.int 1)))) (wOp wMul (wVar 7) (wOp wIx (wVar 6) (wC (.int 0)))))) (wName 4)))) (wRet (wVar 4))))
theorem E_law_short (π : Pr) : ∃ S : FS, S = fnW 10 4 (W_law_short π) := ⟨_, rfl⟩
noncomputable def S_law_short (π : Pr) : FS := (E_law_short π).choose
theorem S_law_short_eq (π : Pr) : S_law_short π = fnW 10 4 (W_law_short π) := (E_law_short π).choose_spec
/-! _law_fills: 0 points, 1 ties, 2 bounds, 3 totals, 4 z, 5 number, 6 both, 7 total -/
def W_law_fills (π : Pr) : WS := (wSeq (wIfS (wNot (wTru (wCall (S_law_are_ints π) [] (wCons (wVar 4) (wCons (wCB wLen (wCons (wVar 1) wNil)) wNil))))) (wRet (wC (.bl false))) wNext) (wSeq (wIfS (wTest (wOp (wEq true) (wLc (wZipI (wCons (wVar 4) (wCons (wVar 2) wNil))) (wGtup 2 (wGcons (wName 5) (wGcons (wName 6) wGnil))) (wOr (wTest (wOp oLt (wVar 5) (wOp wMul (wC (.int 2)) (wOp wIx (wVar 6) (wC (.int 0)))))) (wTest (wOp oGt (wVar 5) (wOp wMul (wC (.int 2)) (wOp wIx (wVar 6) (wC (.int 1))))))) (wC (.int 1)) [5, 6]) (wLst wNil))) (wRet (wC (.bl false))) wNext) (wRet (wOp (wEq false) (wCall (S_law_sums π) [] (wCons (wVar 0) (wCons (wVar 1) (wCons (wVar 4) wNil)))) (wLc (wSeqI (wVar 3)) (wName 7) wYes (wOp wMul (wC (.int 2)) (wVar 7)) [7])))))
theorem E_law_fills (π : Pr) : ∃ S : FS, S = fnW 8 5 (W_law_fills π) := ⟨_, rfl⟩
noncomputable def S_law_fills (π : Pr) : FS := (E_law_fills π).choose
theorem S_law_fills_eq (π : Pr) : S_law_fills π = fnW 8 5 (W_law_fills π) := (E_law_fills π).choose_spec
/-! _law_scales: 0 box, 1 few -/
def W_law_scales (π : Pr) : WS := (wSeq (wAsg (wLst (wCons (wTup (wCons (wC (.int 1)) (wCons (wC (.int 0)) (wCons (wC (.int 3)) wNil)))) (wCons (wTup (wCons (wC (.int 2)) (wCons (wC (.int 4)) (wCons (wC (.int 2)) wNil)))) (wCons (wTup (wCons (wC (.int 3)) (wCons (wC (.int 5)) (wCons (wC (.int 2)) wNil)))) (wCons (wTup (wCons (wC (.int 5)) (wCons (wC (.int 9)) (wCons (wC (.int 3)) wNil)))) (wCons (wTup (wCons (wC (.int 9)) (wCons (wC (.int 15)) (wCons (wC (.int 4)) wNil)))) (wCons (wTup (wCons (wC (.int 24)) (wCons (wC (.int 40)) (wCons (wC (.int 9)) wNil)))) wNil))))))) (wName 1)) (wRet (wIf (wTest (wOp (wEq false) (wCall (S_law_take π) [] (wCons (wVar 0) (wCons (wC (.int 12)) wNil))) (wC (.int 0)))) (wTup (wCons (wC (.int 150)) (wCons (wC (.int 300)) (wCons (wC (.int 60)) wNil)))) (wCall (S_law_pick π) [] (wCons (wVar 0) (wCons (wVar 1) wNil))))))
theorem E_law_scales (π : Pr) : ∃ S : FS, S = fnW 2 1 (W_law_scales π) := ⟨_, rfl⟩
noncomputable def S_law_scales (π : Pr) : FS := (E_law_scales π).choose
theorem S_law_scales_eq (π : Pr) : S_law_scales π = fnW 2 1 (W_law_scales π) := (E_law_scales π).choose_spec
/-! _law_signs: 0 box, 1 points, 2 some, 3 point -/
def W_law_signs (π : Pr) : WS := (wSeq (wAsg (wCall (S_law_pick π) [] (wCons (wVar 0) (wCons (wLst (wCons (wTup (wCons (wC (.int 1)) (wCons (wC (.int 0)) (wCons (wUn wNeg (wC (.int 1))) wNil)))) (wCons (wTup (wCons (wC (.int 1)) (wCons (wUn wNeg (wC (.int 1))) wNil))) (wCons (wTup (wCons (wC (.int 0)) (wCons (wC (.int 0)) (wCons (wC (.int 0)) (wCons (wC (.int 1)) (wCons (wUn wNeg (wC (.int 1))) wNil)))))) (wCons (wTup (wCons (wC (.int 1)) (wCons (wC (.int 1)) (wCons (wC (.int 1)) (wCons (wUn wNeg (wC (.int 1))) wNil))))) wNil))))) wNil))) (wName 2)) (wRet (wCB wTupC (wCons (wLc (wRng1 (wCons (wVar 1) wNil)) (wName 3) wYes (wCall (S_law_pick π) [] (wCons (wVar 0) (wCons (wVar 2) wNil))) [3]) wNil))))
theorem E_law_signs (π : Pr) : ∃ S : FS, S = fnW 4 2 (W_law_signs π) := ⟨_, rfl⟩
noncomputable def S_law_signs (π : Pr) : FS := (E_law_signs π).choose
theorem S_law_signs_eq (π : Pr) : S_law_signs π = fnW 4 2 (W_law_signs π) := (E_law_signs π).choose_spec
/-! _law_bent: 0 box, 1 value, 2 at, 3 some, 4 by -/
def W_law_bent (π : Pr) : WS := (wSeq (wIfS (wTest (wOp (wEq false) (wCB wLen (wCons (wVar 1) wNil)) (wC (.int 0)))) (wRet (wCall (S_law_pick π) [] (wCons (wVar 0) (wCons (wLst (wCons (wTup (wCons (wC (.int 0)) wNil)) (wCons (wTup (wCons (wC .non) wNil)) (wCons (wTup (wCons (wTup wNil) wNil)) wNil)))) wNil)))) wNext) (wSeq (wAsg (wCall (S_law_take π) [] (wCons (wVar 0) (wCons (wCB wLen (wCons (wVar 1) wNil)) wNil))) (wName 2)) (wSeq (wAsg (wLst (wCons (wOp wAdd (wVar 1) (wTup (wCons (wC (.int 0)) wNil))) (wCons (wSl (wVar 1) (wPart (wC (.int 1))) wNoPart) (wCons (wCall (S_law_with π) [] (wCons (wVar 1) (wCons (wVar 2) (wCons (wC .non) wNil)))) (wCons (wCall (S_law_with π) [] (wCons (wVar 1) (wCons (wVar 2) (wCons (wCB wStrI (wCons (wOp wIx (wVar 1) (wVar 2)) wNil)) wNil)))) wNil))))) (wName 3)) (wSeq (wDrop (wBM wAppend (wVar 3) (wCons (wCall (S_law_with π) [] (wCons (wVar 1) (wCons (wVar 2) (wCons (wTup (wCons (wOp wIx (wVar 1) (wVar 2)) wNil)) wNil)))) wNil))) (wSeq (wDrop (wBM wAppend (wVar 3) (wCons (wIf (wTest (wOp (wIn false) (wOp wIx (wVar 1) (wVar 2)) (wTup (wCons (wC (.int 0)) (wCons (wC (.int 1)) wNil))))) (wCall (S_law_with π) [] (wCons (wVar 1) (wCons (wVar 2) (wCons (wOp (wEq false) (wOp wIx (wVar 1) (wVar 2)) (wC (.int 1))) wNil)))) (wCall (S_law_with π) [] (wCons (wVar 1) (wCons (wVar 2) (wCons (wC (.bl true)) wNil))))) wNil))) (wSeq (wAsg (wOp wAdd (wOp wAdd (wVar 3) (wLc (wSeqI (wTup (wCons (wUn wNeg (wC (.int 2))) (wCons (wUn wNeg (wC (.int 1))) (wCons (wC (.int 1)) (wCons (wC (.int 2)) wNil)))))) (wName 4) wYes (wCall (S_law_with π) [] (wCons (wVar 1) (wCons (wVar 2) (wCons (wOp wAdd (wOp wIx (wVar 1) (wVar 2)) (wVar 4)) wNil)))) [4])) (wLst (wCons (wRev (wVar 1)) wNil))) (wName 3)) (wSeq (wDrop (wBM wAppend (wVar 3) (wCons (wCall (S_law_with π) [] (wCons (wVar 1) (wCons (wVar 2) (wCons (wOp oSub (wC (.int 0)) (wOp wIx (wVar 1) (wVar 2))) wNil)))) wNil))) (wRet (wCall (S_law_pick π) [] (wCons (wVar 0) (wCons (wVar 3) wNil)))))))))))
theorem E_law_bent (π : Pr) : ∃ S : FS, S = fnW 5 2 (W_law_bent π) := ⟨_, rfl⟩
noncomputable def S_law_bent (π : Pr) : FS := (E_law_bent π).choose
theorem S_law_bent_eq (π : Pr) : S_law_bent π = fnW 5 2 (W_law_bent π) := (E_law_bent π).choose_spec
/-! _law_cut: 0 box, 1 bounds, 2 numbers, 3 at, 4 low, 5 high, 6 some -/
def W_law_cut (π : Pr) : WS := (wSeq (wPar 4 5 (wCons (wOp oFdiv (wOp wIx (wVar 2) (wVar 3)) (wC (.int 2))) (wCons (wOp oSub (wC (.int 0)) (wOp oFdiv (wOp oSub (wC (.int 0)) (wOp wIx (wVar 2) (wVar 3))) (wC (.int 2)))) wNil))) (wSeq (wAsg (wLst (wCons (wTup (wCons (wVar 4) (wCons (wCB wMaxC (wCons (wVar 5) (wCons (wOp wIx (wOp wIx (wVar 1) (wVar 3)) (wC (.int 1))) wNil))) wNil))) (wCons (wTup (wCons (wCB wMinC (wCons (wVar 4) (wCons (wOp wIx (wOp wIx (wVar 1) (wVar 3)) (wC (.int 0))) wNil))) (wCons (wVar 5) wNil))) (wCons (wTup (wCons (wOp wAdd (wVar 4) (wC (.int 1))) (wCons (wOp wAdd (wVar 5) (wC (.int 9))) wNil))) (wCons (wTup (wCons (wOp oSub (wVar 4) (wC (.int 9))) (wCons (wOp oSub (wVar 5) (wC (.int 1))) wNil))) wNil))))) (wName 6)) (wRet (wCB wListC (wCons (wCall (S_law_with π) [] (wCons (wVar 1) (wCons (wVar 3) (wCons (wCall (S_law_pick π) [] (wCons (wVar 0) (wCons (wVar 6) wNil))) wNil)))) wNil)))))
theorem E_law_cut (π : Pr) : ∃ S : FS, S = fnW 7 4 (W_law_cut π) := ⟨_, rfl⟩
noncomputable def S_law_cut (π : Pr) : FS := (E_law_cut π).choose
theorem S_law_cut_eq (π : Pr) : S_law_cut π = fnW 7 4 (W_law_cut π) := (E_law_cut π).choose_spec
/-! Web.__init__: 0 self, 1 points, 2 ties, 3 at, 4 tie -/
def W_Web__init_ (π : Pr) : WS := (wSeq (wDrop (wCall (S_check_points π) [] (wCons (wVar 1) wNil))) (wSeq (wIfS (wOr (wNot (wTru (wCall (S_is_sequence π) [] (wCons (wVar 2) wNil)))) (wTest (wOp oGt (wCB wLen (wCons (wVar 2) wNil)) (wC (.int 3000))))) (wRaise π.a_InvalidTies (PySem.Str.ofString "at") (wCons (wUn wNeg (wC (.int 1))) wNil)) wNext) (wSeq (wFor (wEnumI (wCons (wVar 2) wNil)) (wGtup 2 (wGcons (wName 3) (wGcons (wName 4) wGnil))) (wIfS (wNot (wTru (wCall (S_is_tie π) [] (wCons (wVar 4) (wCons (wVar 1) wNil))))) (wRaise π.a_InvalidTies (PySem.Str.ofString "at") (wCons (wVar 3) wNil)) wNext)) (wSeq (wFldS π.fld (wVar 0) (PySem.Str.ofString "points") (wVar 1)) (wFldS π.fld (wVar 0) (PySem.Str.ofString "ties") (wCB wTupC (wCons (wLc (wSeqI (wVar 2)) (wName 4) wYes (wCall (S_ordered_tie π) [] (wCons (wVar 4) wNil)) [4]) wNil)))))))
theorem E_Web__init_ (π : Pr) : ∃ S : FS, S = fnW 5 3 (W_Web__init_ π) := ⟨_, rfl⟩
noncomputable def S_Web__init_ (π : Pr) : FS := (E_Web__init_ π).choose
theorem S_Web__init__eq (π : Pr) : S_Web__init_ π = fnW 5 3 (W_Web__init_ π) := (E_Web__init_ π).choose_spec
/-! check_bounds: 0 web, 1 bounds, 2 at, 3 pair -/
def W_check_bounds (π : Pr) : WS := (wSeq (wIfS (wNot (wTru (wCall (S_is_sized π) [] (wCons (wVar 1) (wCons (wCB wLen (wCons (wFld π.fld (wVar 0) (PySem.Str.ofString "ties")) wNil)) wNil))))) (wRaise π.a_InvalidBounds (PySem.Str.ofString "at") (wCons (wUn wNeg (wC (.int 1))) wNil)) wNext) (wFor (wEnumI (wCons (wVar 1) wNil)) (wGtup 2 (wGcons (wName 2) (wGcons (wName 3) wGnil))) (wIfS (wNot (wTru (wCall (S_are_bounds π) [] (wCons (wVar 3) wNil)))) (wRaise π.a_InvalidBounds (PySem.Str.ofString "at") (wCons (wVar 2) wNil)) wNext)))
theorem E_check_bounds (π : Pr) : ∃ S : FS, S = fnW 4 2 (W_check_bounds π) := ⟨_, rfl⟩
noncomputable def S_check_bounds (π : Pr) : FS := (E_check_bounds π).choose
theorem S_check_bounds_eq (π : Pr) : S_check_bounds π = fnW 4 2 (W_check_bounds π) := (E_check_bounds π).choose_spec
/-! do_show: 0 web, 1 bounds, 2 totals, 3 value -/
def W_do_show (π : Pr) : WS := (wRet (wAndV (wCall (S_is_sign_row π) [] (wCons (wVar 3) (wCons (wFld π.fld (wVar 0) (PySem.Str.ofString "points")) wNil))) (wOp oGt (wCall (S_lack_of π) [] (wCons (wFld π.fld (wVar 0) (PySem.Str.ofString "ties")) (wCons (wVar 1) (wCons (wVar 2) (wCons (wVar 3) wNil))))) (wC (.int 0)))))
theorem E_do_show (π : Pr) : ∃ S : FS, S = fnW 4 4 (W_do_show π) := ⟨_, rfl⟩
noncomputable def S_do_show (π : Pr) : FS := (E_do_show π).choose
theorem S_do_show_eq (π : Pr) : S_do_show π = fnW 4 4 (W_do_show π) := (E_do_show π).choose_spec
/-! filling_holds: 0 web, 1 box, 2 value, 3 least, 4 most, 5 total -/
def W_filling_holds (π : Pr) : WS := (wSeq (wDrop (wCall (S_check_web_box π) [] (wCons (wVar 0) (wCons (wVar 1) wNil)))) (wRet (wCall (S_fits π) [] (wCons (wVar 0) (wCons (wLc (wSeqI (wFld π.fld (wVar 1) (PySem.Str.ofString "bounds"))) (wGtup 2 (wGcons (wName 3) (wGcons (wName 4) wGnil))) wYes (wTup (wCons (wOp wMul (wC (.int 2)) (wVar 3)) (wCons (wOp wMul (wC (.int 2)) (wVar 4)) wNil))) [3, 4]) (wCons (wLc (wSeqI (wFld π.fld (wVar 1) (PySem.Str.ofString "totals"))) (wName 5) wYes (wOp wMul (wC (.int 2)) (wVar 5)) [5]) (wCons (wVar 2) wNil)))))))
theorem E_filling_holds (π : Pr) : ∃ S : FS, S = fnW 6 3 (W_filling_holds π) := ⟨_, rfl⟩
noncomputable def S_filling_holds (π : Pr) : FS := (E_filling_holds π).choose
theorem S_filling_holds_eq (π : Pr) : S_filling_holds π = fnW 6 3 (W_filling_holds π) := (E_filling_holds π).choose_spec
/-! _law_web: 0 box, 1 points, 2 twos, 3 loose, 4 ties, 5 near, 6 even, 7 left, 8 turn -/
def W_law_web (π : Pr) : WS := (wSeq (wPar3 4 5 6 (wCons (wLst wNil) (wCons (wOp wAdd (wC (.int 1)) (wCall (S_law_take π) [] (wCons (wVar 0) (wCons (wCB wMaxC (wCons (wC (.int 1)) (wCons (wOp oSub (wVar 1) (wC (.int 1))) wNil))) wNil)))) (wCons (wCall (S_law_take π) [] (wCons (wVar 0) (wCons (wC (.int 5)) wNil))) wNil)))) (wSeq (wAsg (wLst (wCons (wIf (wTest (wOp oGt (wVar 1) (wC (.int 1)))) (wVar 2) (wC (.int 0))) (wCons (wVar 3) wNil))) (wName 7)) (wSeq (wFor (wRng1 (wCons (wOp wAdd (wOp wIx (wVar 7) (wC (.int 0))) (wOp wIx (wVar 7) (wC (.int 1)))) wNil)) (wName 8) (wIfS (wTest (wOp oLt (wCall (S_law_take π) [] (wCons (wVar 0) (wCons (wOp wAdd (wOp wIx (wVar 7) (wC (.int 0))) (wOp wIx (wVar 7) (wC (.int 1)))) wNil))) (wOp wIx (wVar 7) (wC (.int 1))))) (wSeq (wDrop (wBM wAppend (wVar 4) (wCons (wTup (wCons (wCall (S_law_take π) [] (wCons (wVar 0) (wCons (wVar 1) wNil))) (wCons (wCall (S_law_sign π) [] (wCons (wVar 0) wNil)) wNil))) wNil))) (wAsg (wOp oSub (wOp wIx (wVar 7) (wC (.int 1))) (wC (.int 1))) (wGsub (wVar 7) (wC (.int 1))))) (wSeq (wDrop (wBM wAppend (wVar 4) (wCons (wCall (S_law_tie π) [] (wCons (wVar 0) (wCons (wVar 1) (wCons (wVar 5) (wCons (wVar 6) wNil))))) wNil))) (wAsg (wOp oSub (wOp wIx (wVar 7) (wC (.int 0))) (wC (.int 1))) (wGsub (wVar 7) (wC (.int 0))))))) (wRet (wVar 4)))))
theorem E_law_web (π : Pr) : ∃ S : FS, S = fnW 9 4 (W_law_web π) := ⟨_, rfl⟩
noncomputable def S_law_web (π : Pr) : FS := (E_law_web π).choose
theorem S_law_web_eq (π : Pr) : S_law_web π = fnW 9 4 (W_law_web π) := (E_law_web π).choose_spec
/-! _law_full: 0 box, 1 ties, 2 size, 3 halves, 4 bounds, 5 numbers, 6 at, 7 z -/
def W_law_full (π : Pr) : WS := (wSeq (wPar 4 5 (wCons (wLst wNil) (wCons (wLst wNil) wNil))) (wSeq (wFor (wRng1 (wCons (wCB wLen (wCons (wVar 1) wNil)) wNil)) (wName 6) (wSeq (wAsg (wOp wAdd (wOp wMul (wC (.int 2)) (wCall (S_law_far π) [] (wCons (wVar 0) (wCons (wVar 2) wNil)))) (wOp wIx (wVar 3) (wVar 6))) (wName 7)) (wSeq (wDrop (wBM wAppend (wVar 4) (wCons (wTup (wCons (wOp oSub (wOp oFdiv (wVar 7) (wC (.int 2))) (wCall (S_law_amount π) [] (wCons (wVar 0) (wCons (wVar 2) wNil)))) (wCons (wOp wAdd (wOp wAdd (wOp oFdiv (wVar 7) (wC (.int 2))) (wOp oMod (wCB wIntC (wCons (wVar 7) wNil)) (wC (.int 2)))) (wCall (S_law_amount π) [] (wCons (wVar 0) (wCons (wVar 2) wNil)))) wNil))) wNil))) (wDrop (wBM wAppend (wVar 5) (wCons (wVar 7) wNil)))))) (wRet (wTup (wCons (wVar 4) (wCons (wVar 5) wNil))))))
theorem E_law_full (π : Pr) : ∃ S : FS, S = fnW 8 4 (W_law_full π) := ⟨_, rfl⟩
noncomputable def S_law_full (π : Pr) : FS := (E_law_full π).choose
theorem S_law_full_eq (π : Pr) : S_law_full π = fnW 8 4 (W_law_full π) := (E_law_full π).choose_spec
/-! Box.__init__: 0 self, 1 web, 2 bounds, 3 totals, 4 pair -/
def W_Box__init_ (π : Pr) : WS := (wSeq (wDrop (wCall (S_check_web π) [.int (-1)] (wCons (wVar 1) wNil))) (wSeq (wDrop (wCall (S_check_bounds π) [] (wCons (wVar 1) (wCons (wVar 2) wNil)))) (wSeq (wDrop (wCall (S_check_totals π) [] (wCons (wVar 1) (wCons (wVar 3) wNil)))) (wSeq (wFldS π.fld (wVar 0) (PySem.Str.ofString "bounds") (wCB wTupC (wCons (wLc (wSeqI (wVar 2)) (wName 4) wYes (wCB wTupC (wCons (wVar 4) wNil)) [4]) wNil))) (wFldS π.fld (wVar 0) (PySem.Str.ofString "totals") (wCB wTupC (wCons (wVar 3) wNil)))))))
theorem E_Box__init_ (π : Pr) : ∃ S : FS, S = fnW 5 4 (W_Box__init_ π) := ⟨_, rfl⟩
noncomputable def S_Box__init_ (π : Pr) : FS := (E_Box__init_ π).choose
theorem S_Box__init__eq (π : Pr) : S_Box__init_ π = fnW 5 4 (W_Box__init_ π) := (E_Box__init_ π).choose_spec
/-! signs_show: 0 web, 1 box, 2 value -/
def W_signs_show (π : Pr) : WS := (wSeq (wDrop (wCall (S_check_web_box π) [] (wCons (wVar 0) (wCons (wVar 1) wNil)))) (wRet (wCall (S_do_show π) [] (wCons (wVar 0) (wCons (wFld π.fld (wVar 1) (PySem.Str.ofString "bounds")) (wCons (wFld π.fld (wVar 1) (PySem.Str.ofString "totals")) (wCons (wVar 2) wNil)))))))
theorem E_signs_show (π : Pr) : ∃ S : FS, S = fnW 3 3 (W_signs_show π) := ⟨_, rfl⟩
noncomputable def S_signs_show (π : Pr) : FS := (E_signs_show π).choose
theorem S_signs_show_eq (π : Pr) : S_signs_show π = fnW 3 3 (W_signs_show π) := (E_signs_show π).choose_spec
/-! fill_holds: 0 web, 1 box, 2 value -/
def W_fill_holds (π : Pr) : WS := (wSeq (wDrop (wCall (S_check_web_box π) [] (wCons (wVar 0) (wCons (wVar 1) wNil)))) (wSeq (wIfS (wTru (wCall (S_is_paper π) [] (wCons (wVar 2) (wCons (wC (.str (PySem.Str.ofString "filling"))) (wCons (wC (.int 2)) wNil))))) (wRet (wCall (S_filling_holds π) [] (wCons (wVar 0) (wCons (wVar 1) (wCons (wOp wIx (wVar 2) (wC (.int 1))) wNil))))) wNext) (wRet (wAndV (wCall (S_is_paper π) [] (wCons (wVar 2) (wCons (wC (.str (PySem.Str.ofString "signs"))) (wCons (wC (.int 2)) wNil)))) (wCall (S_do_show π) [] (wCons (wVar 0) (wCons (wFld π.fld (wVar 1) (PySem.Str.ofString "bounds")) (wCons (wFld π.fld (wVar 1) (PySem.Str.ofString "totals")) (wCons (wOp wIx (wVar 2) (wC (.int 1))) wNil)))))))))
theorem E_fill_holds (π : Pr) : ∃ S : FS, S = fnW 3 3 (W_fill_holds π) := ⟨_, rfl⟩
noncomputable def S_fill_holds (π : Pr) : FS := (E_fill_holds π).choose
theorem S_fill_holds_eq (π : Pr) : S_fill_holds π = fnW 3 3 (W_fill_holds π) := (E_fill_holds π).choose_spec
/-! _law_asked: 0 box, 1 points, 2 ties, 3 bounds, 4 totals, 5 value, 6 web, 7 own, 8 is_filling, 9 is_shown, 10 words -/
def W_law_asked (π : Pr) : WS := (wSeq (wAsg (wMake π.a_Web (S_Web__init_ π) [] (wCons (wVar 1) (wCons (wCB wTupC (wCons (wVar 2) wNil)) wNil))) (wName 6)) (wSeq (wAsg (wMake π.a_Box (S_Box__init_ π) [] (wCons (wVar 6) (wCons (wCB wTupC (wCons (wVar 3) wNil)) (wCons (wCB wTupC (wCons (wVar 4) wNil)) wNil)))) (wName 7)) (wSeq (wAsg (wCall (S_law_fills π) [] (wCons (wVar 1) (wCons (wVar 2) (wCons (wVar 3) (wCons (wVar 4) (wCons (wVar 5) wNil)))))) (wName 8)) (wSeq (wAsg (wAndV (wCall (S_law_are_signs π) [] (wCons (wVar 5) (wCons (wVar 1) wNil))) (wOp oGt (wCall (S_law_short π) [] (wCons (wVar 2) (wCons (wVar 3) (wCons (wVar 4) (wCons (wVar 5) wNil))))) (wC (.int 0)))) (wName 9)) (wSeq (wIfS (wOr (wNot (wTru (wCall ((S_law_is π) 2) [] (wCons (wCall (S_filling_holds π) [] (wCons (wVar 6) (wCons (wVar 7) (wCons (wVar 5) wNil)))) (wCons (wVar 8) wNil))))) (wNot (wTru (wCall ((S_law_is π) 2) [] (wCons (wCall (S_signs_show π) [] (wCons (wVar 6) (wCons (wVar 7) (wCons (wVar 5) wNil)))) (wCons (wVar 9) wNil)))))) (wRet (wC (.bl false))) wNext) (wSeq (wIfS (wNot (wTru (wCall ((S_law_is π) 2) [] (wCons (wCall (S_fill_holds π) [] (wCons (wVar 6) (wCons (wVar 7) (wCons (wTup (wCons (wC (.str (PySem.Str.ofString "filling"))) (wCons (wVar 5) wNil))) wNil)))) (wCons (wVar 8) wNil))))) (wRet (wC (.bl false))) wNext) (wSeq (wIfS (wNot (wTru (wCall ((S_law_is π) 2) [] (wCons (wCall (S_fill_holds π) [] (wCons (wVar 6) (wCons (wVar 7) (wCons (wTup (wCons (wC (.str (PySem.Str.ofString "signs"))) (wCons (wVar 5) wNil))) wNil)))) (wCons (wVar 9) wNil))))) (wRet (wC (.bl false))) wNext) (wSeq (wAsg (wLst (wCons (wTup (wCons (wC (.str (PySem.Str.ofString "filling"))) (wCons (wCB wListC (wCons (wVar 5) wNil)) wNil))) (wCons (wLst (wCons (wC (.str (PySem.Str.ofString "filling"))) (wCons (wVar 5) wNil))) (wCons (wTup (wCons (wC (.str (PySem.Str.ofString "filling"))) (wCons (wVar 5) (wCons (wVar 5) wNil)))) (wCons (wTup (wCons (wC (.str (PySem.Str.ofString "filling"))) wNil)) (wCons (wTup (wCons (wC (.str (PySem.Str.ofString "Filling"))) (wCons (wVar 5) wNil))) wNil)))))) (wName 10)) (wSeq (wAsg (wOp wAdd (wVar 10) (wLst (wCons (wTup (wCons (wC (.str (PySem.Str.ofString "signs"))) (wCons (wCB wListC (wCons (wVar 5) wNil)) wNil))) (wCons (wLst (wCons (wC (.str (PySem.Str.ofString "signs"))) (wCons (wVar 5) wNil))) (wCons (wTup (wCons (wVar 5) (wCons (wC (.str (PySem.Str.ofString "signs"))) wNil))) (wCons (wTup (wCons (wC (.bl true)) (wCons (wVar 5) wNil))) (wCons (wVar 5) (wCons (wTup (wCons (wC .non) (wCons (wVar 5) wNil))) (wCons (wC (.str (PySem.Str.ofString "signs"))) wNil))))))))) (wName 10)) (wRet (wAndV (wOp (wIs false) (wCall (S_fill_holds π) [] (wCons (wVar 6) (wCons (wVar 7) (wCons (wCall (S_law_pick π) [] (wCons (wVar 0) (wCons (wVar 10) wNil))) wNil)))) (wC (.bl false))) (wOp (wIs false) (wCall (S_filling_holds π) [] (wCons (wVar 6) (wCons (wVar 7) (wCons (wCB wListC (wCons (wVar 5) wNil)) wNil)))) (wC (.bl false))))))))))))))
theorem E_law_asked (π : Pr) : ∃ S : FS, S = fnW 11 6 (W_law_asked π) := ⟨_, rfl⟩
noncomputable def S_law_asked (π : Pr) : FS := (E_law_asked π).choose
theorem S_law_asked_eq (π : Pr) : S_law_asked π = fnW 11 6 (W_law_asked π) := (E_law_asked π).choose_spec
/-! law: 0 script, 1 box, 2 points, 3 twos, 4 loose, 5 ties, 6 halves, 7 ring, 8 rest, 9 great, 10 bounds, 11 numbers, 12 totals, 13 z, 14 cut, 15 at, 16 signs, 17 some, 18 by, 19 more, 20 about, 21 total, 22 point, 23 sign, 24 tie -/
def W_law (π : Pr) : WS := (wSeq (wAsg (wCall (S_law_box π) [] (wCons (wVar 0) wNil)) (wName 1)) (wSeq (wAsg (wCall (S_law_scales π) [] (wCons (wVar 1) wNil)) (wGtup 3 (wGcons (wName 2) (wGcons (wName 3) (wGcons (wName 4) wGnil))))) (wSeq (wAsg (wIf (wTest (wOp oLt (wVar 2) (wC (.int 150)))) (wOp wAdd (wC (.int 1)) (wCall (S_law_take π) [] (wCons (wVar 1) (wCons (wVar 2) wNil)))) (wVar 2)) (wName 2)) (wSeq (wPar 5 6 (wCons (wLst wNil) (wCons (wLst wNil) wNil))) (wSeq (wFor (wSeqI (wCall (S_law_rings π) [] (wCons (wVar 1) (wCons (wVar 2) (wCons (wIf (wTest (wOp oLt (wVar 2) (wC (.int 150)))) (wCall (S_law_take π) [] (wCons (wVar 1) (wCons (wC (.int 3)) wNil))) (wC (.int 20))) wNil))))) (wName 7) (wPar 5 6 (wCons (wOp wAdd (wVar 5) (wVar 7)) (wCons (wOp wAdd (wVar 6) (wOp wMul (wLst (wCons (wCall (S_law_take π) [] (wCons (wVar 1) (wCons (wC (.int 2)) wNil))) wNil)) (wCB wLen (wCons (wVar 7) wNil)))) wNil)))) (wSeq (wAsg (wCall (S_law_web π) [] (wCons (wVar 1) (wCons (wVar 2) (wCons (wIf (wTest (wOp oLt (wVar 3) (wC (.int 300)))) (wCall (S_law_take π) [] (wCons (wVar 1) (wCons (wOp wAdd (wVar 3) (wC (.int 1))) wNil))) (wOp oSub (wVar 3) (wCB wLen (wCons (wVar 5) wNil)))) (wCons (wCall (S_law_take π) [] (wCons (wVar 1) (wCons (wOp wAdd (wVar 4) (wC (.int 1))) wNil))) wNil))))) (wName 8)) (wSeq (wPar 5 6 (wCons (wLc (wSeqI (wOp wAdd (wVar 5) (wVar 8))) (wName 24) wYes (wCall (S_law_norm π) [] (wCons (wVar 24) wNil)) [24]) (wCons (wOp wAdd (wVar 6) (wOp wMul (wLst (wCons (wC (.int 0)) wNil)) (wCB wLen (wCons (wVar 8) wNil)))) wNil))) (wSeq (wAsg (wOp oSub (wOp oFdiv (wOp oPow (wC (.int 10)) (wC (.int 18))) (wOp wMul (wC (.int 20)) (wOp wAdd (wOp wAdd (wCB wLen (wCons (wVar 5) wNil)) (wVar 2)) (wC (.int 1))))) (wC (.int 9))) (wName 9)) (wSeq (wAsg (wCall (S_law_full π) [] (wCons (wVar 1) (wCons (wVar 5) (wCons (wCall (S_law_pick π) [] (wCons (wVar 1) (wCons (wLst (wCons (wC (.int 0)) (wCons (wC (.int 1)) (wCons (wC (.int 2)) (wCons (wC (.int 40)) (wCons (wVar 9) (wCons (wVar 9) wNil))))))) wNil))) (wCons (wVar 6) wNil))))) (wGtup 2 (wGcons (wName 10) (wGcons (wName 11) wGnil)))) (wSeq (wAsg (wLc (wSeqI (wCall (S_law_sums π) [] (wCons (wVar 2) (wCons (wVar 5) (wCons (wVar 11) wNil))))) (wName 21) wYes (wOp oFdiv (wVar 21) (wC (.int 2))) [21]) (wName 12)) (wSeq (wAsg (wCB wTupC (wCons (wVar 11) wNil)) (wName 13)) (wSeq (wIfS (wOr (wNot (wTru (wCall (S_law_fills π) [] (wCons (wVar 2) (wCons (wVar 5) (wCons (wVar 10) (wCons (wVar 12) (wCons (wVar 13) wNil)))))))) (wNot (wTru (wCall (S_law_asked π) [] (wCons (wVar 1) (wCons (wVar 2) (wCons (wVar 5) (wCons (wVar 10) (wCons (wVar 12) (wCons (wVar 13) wNil)))))))))) (wRet (wC (.bl false))) wNext) (wSeq (wIfS (wNot (wTru (wCall (S_law_asked π) [] (wCons (wVar 1) (wCons (wVar 2) (wCons (wVar 5) (wCons (wVar 10) (wCons (wVar 12) (wCons (wCall (S_law_bent π) [] (wCons (wVar 1) (wCons (wVar 13) wNil))) wNil))))))))) (wRet (wC (.bl false))) wNext) (wSeq (wIfS (wTest (wOp oGt (wCB wLen (wCons (wVar 5) wNil)) (wC (.int 0)))) (wSeq (wAsg (wCall (S_law_cut π) [] (wCons (wVar 1) (wCons (wVar 10) (wCons (wVar 11) (wCons (wCall (S_law_take π) [] (wCons (wVar 1) (wCons (wCB wLen (wCons (wVar 5) wNil)) wNil))) wNil))))) (wName 14)) (wIfS (wNot (wTru (wCall (S_law_asked π) [] (wCons (wVar 1) (wCons (wVar 2) (wCons (wVar 5) (wCons (wVar 14) (wCons (wVar 12) (wCons (wVar 13) wNil))))))))) (wRet (wC (.bl false))) wNext)) wNext) (wSeq (wAsg (wCall (S_law_take π) [] (wCons (wVar 1) (wCons (wVar 2) wNil))) (wName 15)) (wSeq (wIfS (wNot (wTru (wCall (S_law_asked π) [] (wCons (wVar 1) (wCons (wVar 2) (wCons (wVar 5) (wCons (wVar 10) (wCons (wCB wListC (wCons (wCall (S_law_with π) [] (wCons (wVar 12) (wCons (wVar 15) (wCons (wOp wAdd (wOp wIx (wVar 12) (wVar 15)) (wCall (S_law_sign π) [] (wCons (wVar 1) wNil))) wNil)))) wNil)) (wCons (wVar 13) wNil))))))))) (wRet (wC (.bl false))) wNext) (wSeq (wAsg (wCall (S_law_signs π) [] (wCons (wVar 1) (wCons (wVar 2) wNil))) (wName 16)) (wSeq (wAsg (wLc (wEnumI (wCons (wVar 16) wNil)) (wGtup 2 (wGcons (wName 22) (wGcons (wName 23) wGnil))) (wTest (wOp (wEq true) (wVar 23) (wC (.int 0)))) (wVar 22) [22, 23]) (wName 17)) (wSeq (wIfS (wTest (wOp (wEq true) (wVar 17) (wLst wNil))) (wSeq (wPar 15 18 (wCons (wCall (S_law_pick π) [] (wCons (wVar 1) (wCons (wVar 17) wNil))) (wCons (wCall (S_law_pick π) [] (wCons (wVar 1) (wCons (wLst (wCons (wC (.int 0)) (wCons (wC (.int 1)) (wCons (wC (.int 1)) (wCons (wC (.int 2)) (wCons (wCB wAbs (wCons (wCall (S_law_far π) [] (wCons (wVar 1) (wCons (wOp oPow (wC (.int 10)) (wC (.int 9))) wNil))) wNil)) wNil)))))) wNil))) wNil))) (wSeq (wAsg (wOp wMul (wOp wIx (wVar 16) (wVar 15)) (wOp oSub (wVar 18) (wCall (S_law_short π) [] (wCons (wVar 5) (wCons (wVar 10) (wCons (wVar 12) (wCons (wVar 16) wNil))))))) (wName 19)) (wAsg (wCB wListC (wCons (wCall (S_law_with π) [] (wCons (wVar 12) (wCons (wVar 15) (wCons (wOp wAdd (wOp wIx (wVar 12) (wVar 15)) (wVar 19)) wNil)))) wNil)) (wName 12)))) wNext) (wSeq (wIfS (wNot (wTru (wCall (S_law_asked π) [] (wCons (wVar 1) (wCons (wVar 2) (wCons (wVar 5) (wCons (wVar 10) (wCons (wVar 12) (wCons (wVar 16) wNil))))))))) (wRet (wC (.bl false))) wNext) (wSeq (wAsg (wCB wTupC (wCons (wLc (wSeqI (wVar 16)) (wName 23) wYes (wUn wNeg (wVar 23)) [23]) wNil)) (wName 20)) (wSeq (wIfS (wNot (wTru (wCall (S_law_asked π) [] (wCons (wVar 1) (wCons (wVar 2) (wCons (wVar 5) (wCons (wVar 10) (wCons (wVar 12) (wCons (wVar 20) wNil))))))))) (wRet (wC (.bl false))) wNext) (wRet (wCall (S_law_asked π) [] (wCons (wVar 1) (wCons (wVar 2) (wCons (wVar 5) (wCons (wVar 10) (wCons (wVar 12) (wCons (wCall (S_law_bent π) [] (wCons (wVar 1) (wCons (wVar 16) wNil))) wNil))))))))))))))))))))))))))))))
theorem E_law (π : Pr) : ∃ S : FS, S = fnW 25 1 (W_law π) := ⟨_, rfl⟩
noncomputable def S_law (π : Pr) : FS := (E_law π).choose
theorem S_law_eq (π : Pr) : S_law π = fnW 25 1 (W_law π) := (E_law π).choose_spec
end G
namespace G
open PySem L2 PL PySem.Spec PyProof.Rows
def top (i : Nat) : Stmt := PySem.Challenge.pw_pushtells_k26_whole_judges_of_fillings_a.main.body.getD i (.Pass ⟨0, 0, 0, 0⟩)
/-- what the top has left -/
structure Base (π : Pr) (mg : Str → Option Value) : Prop where
  fl : ∀ C f, π.fld C f → Cls π.K C ∧ NoAttr π.K C f
  n_abs : mg "abs" = none
  n_all : mg "all" = none
  n_any : mg "any" = none
  n_bool : mg "bool" = none
  n_enumerate : mg "enumerate" = none
  n_int : mg "int" = none
  n_isinstance : mg "isinstance" = none
  n_len : mg "len" = none
  n_list : mg "list" = none
  n_max : mg "max" = none
  n_min : mg "min" = none
  n_range : mg "range" = none
  n_str : mg "str" = none
  n_sum : mg "sum" = none
  n_tuple : mg "tuple" = none
  n_zip : mg "zip" = none
  c_MOST_POINTS : ∃ t, mg "MOST_POINTS" = some (.int 1000 t)
  c_MOST_TIES : ∃ t, mg "MOST_TIES" = some (.int 3000 t)
  g_Box : mg "Box" = some (.ref π.a_Box)
  g_InvalidBounds : mg "InvalidBounds" = some (.ref π.a_InvalidBounds)
  g_InvalidBox : mg "InvalidBox" = some (.ref π.a_InvalidBox)
  g_InvalidSize : mg "InvalidSize" = some (.ref π.a_InvalidSize)
  g_InvalidTies : mg "InvalidTies" = some (.ref π.a_InvalidTies)
  g_InvalidTotals : mg "InvalidTotals" = some (.ref π.a_InvalidTotals)
  g_InvalidWeb : mg "InvalidWeb" = some (.ref π.a_InvalidWeb)
  g_Web : mg "Web" = some (.ref π.a_Web)
  e_InvalidBounds : ErrMk π.K mg "InvalidBounds" "at" π.a_InvalidBounds
  e_InvalidBox : ErrMk π.K mg "InvalidBox" "at" π.a_InvalidBox
  e_InvalidSize : ErrMk π.K mg "InvalidSize" "word" π.a_InvalidSize
  e_InvalidTies : ErrMk π.K mg "InvalidTies" "at" π.a_InvalidTies
  e_InvalidTotals : ErrMk π.K mg "InvalidTotals" "at" π.a_InvalidTotals
  e_InvalidWeb : ErrMk π.K mg "InvalidWeb" "at" π.a_InvalidWeb
section
variable {P : Program} {mg : Str → Option Value} {base : Heap} {π : Pr}
abbrev s_is_integer : Stmt := top 9
abbrev N_is_integer : List Str := ["value"]
theorem sc_is_integer : FnScope N_is_integer ["value"] (defScope s_is_integer) := ⟨rfl, rfl, rfl, by decide +kernel, rfl, by decide +kernel, by decide +kernel⟩
theorem ok_is_integer {f : Addr} {fd : FuncData} (F : Fn π.K "is_integer" "is_integer" s_is_integer f fd) (B : Base π mg) : FnOk P π.w π.K mg base (L2N.CX P π.w) 1 f fd ["value"] (spOf π.K (S_is_integer π)) := by
    rw [S_is_integer_eq]
    refine fn_ok F sc_is_integer fun cdv A outer s H E hr tk => ?_
    refine ⟨_, (pss_one (ps_ret (pe_and (pe_callB (kIsi π.K rfl) (by rfl) B.n_isinstance bt_isinstance (pa_cons (pv 0) (pa_cons (pe_bltn (v := .ty "int") (by rfl) B.n_int bt_int rfl) pa_nil))) (pe_one (pe_not (pe_callB (kIsi π.K rfl) (by rfl) B.n_isinstance bt_isinstance (pa_cons (pv 0) (pa_cons (pe_bltn (v := .ty "bool") (by rfl) B.n_bool bt_bool rfl) pa_nil)))))))), ?_⟩
    exact (ls_ret (le_andV (le_cb lr_isi (la_cons (le_var 0) (la_cons le_ty la_nil))) (le_notV (le_cb lr_isi (la_cons (le_var 0) (la_cons le_ty la_nil))))))
abbrev s_is_sequence : Stmt := top 12
abbrev N_is_sequence : List Str := ["value"]
theorem sc_is_sequence : FnScope N_is_sequence ["value"] (defScope s_is_sequence) := ⟨rfl, rfl, rfl, by decide +kernel, rfl, by decide +kernel, by decide +kernel⟩
theorem ok_is_sequence {f : Addr} {fd : FuncData} (F : Fn π.K "is_sequence" "is_sequence" s_is_sequence f fd) (B : Base π mg) : FnOk P π.w π.K mg base (L2N.CX P π.w) 1 f fd ["value"] (spOf π.K (S_is_sequence π)) := by
    rw [S_is_sequence_eq]
    refine fn_ok F sc_is_sequence fun cdv A outer s H E hr tk => ?_
    refine ⟨_, (pss_one (ps_ret (pe_callB (kIsi π.K rfl) (by rfl) B.n_isinstance bt_isinstance (pa_cons (pv 0) (pa_cons (pe_tup (pa_cons (pe_bltn (v := .ty "list") (by rfl) B.n_list bt_list rfl) (pa_cons (pe_bltn (v := .ty "tuple") (by rfl) B.n_tuple bt_tuple rfl) pa_nil))) pa_nil))))), ?_⟩
    exact (ls_ret (le_cb lr_isi (la_cons (le_var 0) (la_cons (le_tup (la_cons le_ty (la_cons le_ty la_nil))) la_nil))))
abbrev s_is_tuple : Stmt := top 14
abbrev N_is_tuple : List Str := ["value", "many"]
theorem sc_is_tuple : FnScope N_is_tuple ["value", "many"] (defScope s_is_tuple) := ⟨rfl, rfl, rfl, by decide +kernel, rfl, by decide +kernel, by decide +kernel⟩
theorem ok_is_tuple {f : Addr} {fd : FuncData} (F : Fn π.K "is_tuple" "is_tuple" s_is_tuple f fd) (B : Base π mg) : FnOk P π.w π.K mg base (L2N.CX P π.w) 1 f fd ["value", "many"] (spOf π.K (S_is_tuple π)) := by
    rw [S_is_tuple_eq]
    refine fn_ok F sc_is_tuple fun cdv A outer s H E hr tk => ?_
    refine ⟨_, (pss_one (ps_ret (pe_and (pe_callB (kIsi π.K rfl) (by rfl) B.n_isinstance bt_isinstance (pa_cons (pv 0) (pa_cons (pe_bltn (v := .ty "tuple") (by rfl) B.n_tuple bt_tuple rfl) pa_nil))) (pe_one (pe_cmpR (kEq π.K rfl hr) (pe_callB (kLen π.K rfl) (by rfl) B.n_len bt_len (pa_cons (pv 0) pa_nil)) (pv 1) (nomark _)))))), ?_⟩
    exact (ls_ret (le_andV (le_cb lr_isi (la_cons (le_var 0) (la_cons le_ty la_nil))) (le_op lr_eq (le_cb lr_len (la_cons (le_var 0) la_nil)) (le_var 1))))
abbrev s_is_double : Stmt := top 19
abbrev N_is_double : List Str := ["tie"]
theorem sc_is_double : FnScope N_is_double ["tie"] (defScope s_is_double) := ⟨rfl, rfl, rfl, by decide +kernel, rfl, by decide +kernel, by decide +kernel⟩
theorem ok_is_double {f : Addr} {fd : FuncData} (F : Fn π.K "is_double" "is_double" s_is_double f fd) (B : Base π mg) : FnOk P π.w π.K mg base (L2N.CX P π.w) 1 f fd ["tie"] (spOf π.K (S_is_double π)) := by
    rw [S_is_double_eq]
    refine fn_ok F sc_is_double fun cdv A outer s H E hr tk => ?_
    refine ⟨_, (pss_one (ps_ret (pe_cmpR (kEq π.K rfl hr) (pe_callB (kLen π.K rfl) (by rfl) B.n_len bt_len (pa_cons (pv 0) pa_nil)) pe_int (nomark _)))), ?_⟩
    exact (ls_ret (le_op lr_eq (le_cb lr_len (la_cons (le_var 0) la_nil)) le_int))
abbrev s_tie_ends : Stmt := top 20
abbrev N_tie_ends : List Str := ["tie"]
theorem sc_tie_ends : FnScope N_tie_ends ["tie"] (defScope s_tie_ends) := ⟨rfl, rfl, rfl, by decide +kernel, rfl, by decide +kernel, by decide +kernel⟩
theorem ok_tie_ends {f : Addr} {fd : FuncData} (F : Fn π.K "tie_ends" "tie_ends" s_tie_ends f fd) (B : Base π mg) : FnOk P π.w π.K mg base (L2N.CX P π.w) 1 f fd ["tie"] (spOf π.K (S_tie_ends π)) := by
    rw [S_tie_ends_eq]
    refine fn_ok F sc_tie_ends fun cdv A outer s H E hr tk => ?_
    refine ⟨_, (pss_cons (ps_if (pt_cmpR (kEq π.K rfl hr) (pe_callB (kLen π.K rfl) (by rfl) B.n_len bt_len (pa_cons (pv 0) pa_nil)) pe_int (nomark _)) (pss_one (ps_ret (pe_lst (pa_cons (pv 0) pa_nil)))) pss_nil) (pss_one (ps_ret (pe_lst (pa_cons (pe_tup (pa_cons (pe_ix (kIx π.K rfl) (pv 0) pe_int (fun _ _ => rfl)) (pa_cons (pe_ix (kIx π.K rfl) (pv 0) pe_int (fun _ _ => rfl)) pa_nil))) (pa_cons (pe_tup (pa_cons (pe_ix (kIx π.K rfl) (pv 0) pe_int (fun _ _ => rfl)) (pa_cons (pe_ix (kIx π.K rfl) (pv 0) pe_int (fun _ _ => rfl)) pa_nil))) pa_nil)))))), ?_⟩
    exact (ls_seq (ls_if (lt_test (le_op lr_eq (le_cb lr_len (la_cons (le_var 0) la_nil)) le_int)) (ls_ret (le_lst (la_cons (le_var 0) la_nil))) ls_next) (ls_ret (le_lst (la_cons (le_tup (la_cons (le_op lr_ix (le_var 0) le_int) (la_cons (le_op lr_ix (le_var 0) le_int) la_nil))) (la_cons (le_tup (la_cons (le_op lr_ix (le_var 0) le_int) (la_cons (le_op lr_ix (le_var 0) le_int) la_nil))) la_nil)))))
abbrev s_Web__eq_ : Stmt := inClass (top 24) 1
abbrev N_Web__eq_ : List Str := ["self", "other"]
theorem sc_Web__eq_ : FnScope N_Web__eq_ ["self", "other"] (defScope s_Web__eq_) := ⟨rfl, rfl, rfl, by decide +kernel, rfl, by decide +kernel, by decide +kernel⟩
theorem ok_Web__eq_ {f : Addr} {fd : FuncData} (F : Fn π.K "__eq__" "Web.__eq__" s_Web__eq_ f fd) (B : Base π mg) : FnOk P π.w π.K mg base (L2N.CX P π.w) 1 f fd ["self", "other"] (spOf π.K (S_Web__eq_ π)) := by
    rw [S_Web__eq__eq]
    refine fn_ok F sc_Web__eq_ fun cdv A outer s H E hr tk => ?_
    refine ⟨_, (pss_one (ps_ret (pe_and (pe_callB (kIsi π.K rfl) (by rfl) B.n_isinstance bt_isinstance (pa_cons (pv 1) (pa_cons (pe_glob (v := .ref π.a_Web) rfl B.g_Web rfl) pa_nil))) (pe_and (pe_cmpR (kEq π.K rfl hr) (kFld π.K rfl (pv 0) rfl) (kFld π.K rfl (pv 1) rfl) (nomark _)) (pe_one (pe_cmpR (kEq π.K rfl hr) (kFld π.K rfl (pv 0) rfl) (kFld π.K rfl (pv 1) rfl) (nomark _))))))), ?_⟩
    exact (ls_ret (le_andV (le_cb lr_isi (la_cons (le_var 1) (la_cons le_ref la_nil))) (le_andV (le_op lr_eq (le_fld (fun C => B.fl C _) (le_var 0)) (le_fld (fun C => B.fl C _) (le_var 1))) (le_op lr_eq (le_fld (fun C => B.fl C _) (le_var 0)) (le_fld (fun C => B.fl C _) (le_var 1))))))
abbrev s_check_web : Stmt := top 28
abbrev N_check_web : List Str := ["web", "at"]
theorem sc_check_web : FnScope N_check_web ["web", "at"] (defScope s_check_web) := ⟨rfl, rfl, rfl, by decide +kernel, rfl, by decide +kernel, by decide +kernel⟩
theorem ok_check_web {f : Addr} {fd : FuncData} (F : Fn π.K "check_web" "check_web" s_check_web f fd) (B : Base π mg) : FnOk P π.w π.K mg base (L2N.CX P π.w) 1 f fd ["web", "at"] (spOf π.K (S_check_web π)) := by
    rw [S_check_web_eq]
    refine fn_ok F sc_check_web fun cdv A outer s H E hr tk => ?_
    refine ⟨_, (pss_one (ps_if (pt_not (kTru π.K rfl (pe_callB (kIsi π.K rfl) (by rfl) B.n_isinstance bt_isinstance (pa_cons (pv 0) (pa_cons (pe_glob (v := .ref π.a_Web) rfl B.g_Web rfl) pa_nil))))) (pss_one (ps_raiseErr B.e_InvalidWeb rfl hr tk (pa_cons (pv 1) pa_nil))) pss_nil)), ?_⟩
    exact (ls_if (lt_not (lt_tru (le_cb lr_isi (la_cons (le_var 0) (la_cons le_ref la_nil))))) (ls_raise (la_cons (le_var 1) la_nil)) ls_next)
abbrev s_Box__eq_ : Stmt := inClass (top 30) 1
abbrev N_Box__eq_ : List Str := ["self", "other"]
theorem sc_Box__eq_ : FnScope N_Box__eq_ ["self", "other"] (defScope s_Box__eq_) := ⟨rfl, rfl, rfl, by decide +kernel, rfl, by decide +kernel, by decide +kernel⟩
theorem ok_Box__eq_ {f : Addr} {fd : FuncData} (F : Fn π.K "__eq__" "Box.__eq__" s_Box__eq_ f fd) (B : Base π mg) : FnOk P π.w π.K mg base (L2N.CX P π.w) 1 f fd ["self", "other"] (spOf π.K (S_Box__eq_ π)) := by
    rw [S_Box__eq__eq]
    refine fn_ok F sc_Box__eq_ fun cdv A outer s H E hr tk => ?_
    refine ⟨_, (pss_one (ps_ret (pe_and (pe_callB (kIsi π.K rfl) (by rfl) B.n_isinstance bt_isinstance (pa_cons (pv 1) (pa_cons (pe_glob (v := .ref π.a_Box) rfl B.g_Box rfl) pa_nil))) (pe_and (pe_cmpR (kEq π.K rfl hr) (kFld π.K rfl (pv 0) rfl) (kFld π.K rfl (pv 1) rfl) (nomark _)) (pe_one (pe_cmpR (kEq π.K rfl hr) (kFld π.K rfl (pv 0) rfl) (kFld π.K rfl (pv 1) rfl) (nomark _))))))), ?_⟩
    exact (ls_ret (le_andV (le_cb lr_isi (la_cons (le_var 1) (la_cons le_ref la_nil))) (le_andV (le_op lr_eq (le_fld (fun C => B.fl C _) (le_var 0)) (le_fld (fun C => B.fl C _) (le_var 1))) (le_op lr_eq (le_fld (fun C => B.fl C _) (le_var 0)) (le_fld (fun C => B.fl C _) (le_var 1))))))
abbrev s_check_box : Stmt := top 34
abbrev N_check_box : List Str := ["web", "box"]
theorem sc_check_box : FnScope N_check_box ["web", "box"] (defScope s_check_box) := ⟨rfl, rfl, rfl, by decide +kernel, rfl, by decide +kernel, by decide +kernel⟩
theorem ok_check_box {f : Addr} {fd : FuncData} (F : Fn π.K "check_box" "check_box" s_check_box f fd) (B : Base π mg) : FnOk P π.w π.K mg base (L2N.CX P π.w) 1 f fd ["web", "box"] (spOf π.K (S_check_box π)) := by
    rw [S_check_box_eq]
    refine fn_ok F sc_check_box fun cdv A outer s H E hr tk => ?_
    refine ⟨_, (pss_one (ps_if (PW.pt (pw_or (pt_not (kTru π.K rfl (pe_callB (kIsi π.K rfl) (by rfl) B.n_isinstance bt_isinstance (pa_cons (pv 1) (pa_cons (pe_glob (v := .ref π.a_Box) rfl B.g_Box rfl) pa_nil))))) (pw_or (pt_cmpR (kNe π.K rfl hr) (pe_callB (kLen π.K rfl) (by rfl) B.n_len bt_len (pa_cons (kFld π.K rfl (pv 1) rfl) pa_nil)) (pe_callB (kLen π.K rfl) (by rfl) B.n_len bt_len (pa_cons (kFld π.K rfl (pv 0) rfl) pa_nil)) (nomark _)) (pw_or1 (pt_cmpR (kNe π.K rfl hr) (pe_callB (kLen π.K rfl) (by rfl) B.n_len bt_len (pa_cons (kFld π.K rfl (pv 1) rfl) pa_nil)) (kFld π.K rfl (pv 0) rfl) (nomark _)))))) (pss_one (ps_raiseErr B.e_InvalidBox rfl hr tk (pa_cons (pe_un un_neg pe_int) pa_nil))) pss_nil)), ?_⟩
    exact (ls_if (lt_or (lt_not (lt_tru (le_cb lr_isi (la_cons (le_var 1) (la_cons le_ref la_nil))))) (lt_or (lt_test (le_op lr_ne (le_cb lr_len (la_cons (le_fld (fun C => B.fl C _) (le_var 1)) la_nil)) (le_cb lr_len (la_cons (le_fld (fun C => B.fl C _) (le_var 0)) la_nil)))) (lt_test (le_op lr_ne (le_cb lr_len (la_cons (le_fld (fun C => B.fl C _) (le_var 1)) la_nil)) (le_fld (fun C => B.fl C _) (le_var 0)))))) (ls_raise (la_cons (le_un lr_neg le_int) la_nil)) ls_next)
abbrev s_law_box : Stmt := top 47
abbrev N_law_box : List Str := ["script", "rest", "state", "k", "cell", "size"]
theorem sc_law_box : FnScope N_law_box ["script"] (defScope s_law_box) := ⟨rfl, rfl, rfl, by decide +kernel, rfl, by decide +kernel, by decide +kernel⟩
theorem ok_law_box {f : Addr} {fd : FuncData} (F : Fn π.K "_law_box" "_law_box" s_law_box f fd) (B : Base π mg) : FnOk P π.w π.K mg base (L2N.CX P π.w) 1 f fd ["script"] (spOf π.K (S_law_box π)) := by
    rw [S_law_box_eq]
    refine fn_ok F sc_law_box fun cdv A outer s H E hr tk => ?_
    refine ⟨_, (pss_cons (ps_par (i := 1) (j := 2) rfl sc_law_box.nd rfl rfl (by decide) rfl rfl (pa_cons (pe_lst pa_nil) (pa_cons pe_int pa_nil)) (by rfl)) (pss_cons (ps_for (passes_of rfl) rfl (kEnum π.K rfl rfl B.n_enumerate (pa_cons (pe_slice (kSl π.K rfl) (pv 0) po_none (po_some pe_int)) pa_nil)) (kGtup (n := 2) π.K rfl rfl (pgs_cons (pg_name (i := 3) sc_law_box.nd rfl (Or.inl rfl)) (pgs_cons (pg_name (i := 4) sc_law_box.nd rfl (Or.inl rfl)) pgs_nil))) (pss_cons (ps_set (i := 5) sc_law_box.nd rfl (Or.inl rfl) (pe_op (kAdd π.K rfl) (pe_op op_mul (pe_callB call_abs (by rfl) B.n_abs bt_abs (pa_cons (pv 4) pa_nil)) pe_int) (pe_callTy call_int1 (by rfl) B.n_int bt_int (pa_cons (pe_cmpR op_lt (pv 4) pe_int (nomark _)) pa_nil)))) (pss_cons (ps_if (pt_cmpR op_ge (pe_callB call_abs (by rfl) B.n_abs bt_abs (pa_cons (pv 4) pa_nil)) (pe_op op_pow pe_int pe_int) (nomark _)) (pss_one (ps_expr (pe_bm PySem.F.plainAttrs_list PySem.F.slot_list_append PySem.F.type_list_append mt_append (pv 1) (pa_cons (pe_callB call_abs (by rfl) B.n_abs bt_abs (pa_cons (pv 4) pa_nil)) pa_nil)))) pss_nil) (pss_one (ps_set (i := 2) sc_law_box.nd rfl (Or.inl rfl) (pe_op (kAdd π.K rfl) (pe_op op_mod (pe_callTy call_int1 (by rfl) B.n_int bt_int (pa_cons (pe_op (kAdd π.K rfl) (pe_op (kAdd π.K rfl) (pe_op op_mul (pv 2) pe_int) (pe_op op_mul (pe_op op_mod (pe_callTy call_int1 (by rfl) B.n_int bt_int (pa_cons (pv 5) pa_nil)) pe_int) (pe_op (kAdd π.K rfl) (pe_op op_mul pe_int (pv 3)) pe_int))) pe_int) pa_nil)) pe_int) pe_int)))))) (pss_one (ps_ret (pe_lst (pa_cons (pv 1) (pa_cons (pv 2) pa_nil))))))), ?_⟩
    exact (ls_seq (ls_par (la_cons (le_lst la_nil) (la_cons le_int la_nil))) (ls_seq (ls_for (li_enum (la_cons (le_sl (le_var 0) lo_none (lo_some le_int)) la_nil)) (lg_tup (lgs_cons (lg_name 3) (lgs_cons (lg_name 4) lgs_nil))) (ls_seq (ls_asg (le_op lr_add (le_op lr_I (le_cb lr_abs (la_cons (le_var 4) la_nil)) le_int) (le_cb lr_intC (la_cons (le_op lr_B0 (le_var 4) le_int) la_nil))) (lg_name 5)) (ls_seq (ls_if (lt_test (le_op lr_B0 (le_cb lr_abs (la_cons (le_var 4) la_nil)) (le_op lr_I le_int le_int))) (ls_drop (le_bm lm_append (le_var 1) (la_cons (le_cb lr_abs (la_cons (le_var 4) la_nil)) la_nil))) ls_next) (ls_asg (le_op lr_add (le_op lr_I (le_cb lr_intC (la_cons (le_op lr_add (le_op lr_add (le_op lr_I (le_var 2) le_int) (le_op lr_I (le_op lr_I (le_cb lr_intC (la_cons (le_var 5) la_nil)) le_int) (le_op lr_add (le_op lr_I le_int (le_var 3)) le_int))) le_int) la_nil)) le_int) le_int) (lg_name 2))))) (ls_ret (le_lst (la_cons (le_var 1) (la_cons (le_var 2) la_nil))))))
abbrev s_law_take : Stmt := top 48
abbrev N_law_take : List Str := ["box", "many", "cell"]
theorem sc_law_take : FnScope N_law_take ["box", "many"] (defScope s_law_take) := ⟨rfl, rfl, rfl, by decide +kernel, rfl, by decide +kernel, by decide +kernel⟩
theorem ok_law_take {f : Addr} {fd : FuncData} (F : Fn π.K "_law_take" "_law_take" s_law_take f fd) (B : Base π mg) : FnOk P π.w π.K mg base (L2N.CX P π.w) 1 f fd ["box", "many"] (spOf π.K (S_law_take π)) := by
    rw [S_law_take_eq]
    refine fn_ok F sc_law_take fun cdv A outer s H E hr tk => ?_
    refine ⟨_, (pss_cons (ps_if (pt_cmpR (kNe π.K rfl hr) (pe_ix (kIx π.K rfl) (pv 0) pe_int (fun _ _ => rfl)) (pe_lst pa_nil) (nomark _)) (pss_cons (ps_set (i := 2) sc_law_take.nd rfl (Or.inl rfl) (pe_ix (kIx π.K rfl) (pe_ix (kIx π.K rfl) (pv 0) pe_int (fun _ _ => rfl)) pe_int (fun _ _ => rfl))) (pss_cons (ps_asg (pe_op (kAdd π.K rfl) (pe_ifExp (pt_cmpR op_ge (pv 2) (pv 1) (nomark _)) (pe_lst (pa_cons (pe_op op_fdivW (pv 2) (pv 1)) pa_nil)) (pe_lst pa_nil)) (pe_slice (kSl π.K rfl) (pe_ix (kIx π.K rfl) (pv 0) pe_int (fun _ _ => rfl)) (po_some pe_int) po_none)) (pg_sub (pv 0) pe_int set_list (fun _ => rfl))) (pss_one (ps_ret (pe_op op_mod (pe_callTy call_int1 (by rfl) B.n_int bt_int (pa_cons (pv 2) pa_nil)) (pv 1)))))) pss_nil) (pss_cons (ps_asg (pe_op op_mod (pe_callTy call_int1 (by rfl) B.n_int bt_int (pa_cons (pe_op (kMul π.K rfl) (pe_ix (kIx π.K rfl) (pv 0) pe_int (fun _ _ => rfl)) pe_int) pa_nil)) pe_int) (pg_sub (pv 0) pe_int set_list (fun _ => rfl))) (pss_one (ps_ret (pe_op op_mod (pe_callTy call_int1 (by rfl) B.n_int bt_int (pa_cons (pe_op op_fdivW (pe_op (kAdd π.K rfl) (pe_op (kMul π.K rfl) (pe_ix (kIx π.K rfl) (pv 0) pe_int (fun _ _ => rfl)) pe_int) pe_int) pe_int) pa_nil)) (pv 1)))))), ?_⟩
    exact (ls_seq (ls_if (lt_test (le_op lr_ne (le_op lr_ix (le_var 0) le_int) (le_lst la_nil))) (ls_seq (ls_asg (le_op lr_ix (le_op lr_ix (le_var 0) le_int) le_int) (lg_name 2)) (ls_seq (ls_asg (le_op lr_add (le_if (lt_test (le_op lr_B0 (le_var 2) (le_var 1))) (le_lst (la_cons (le_op lr_I (le_var 2) (le_var 1)) la_nil)) (le_lst la_nil)) (le_sl (le_op lr_ix (le_var 0) le_int) (lo_some le_int) lo_none)) (lg_sub (le_var 0) le_int)) (ls_ret (le_op lr_I (le_cb lr_intC (la_cons (le_var 2) la_nil)) (le_var 1))))) ls_next) (ls_seq (ls_asg (le_op lr_I (le_cb lr_intC (la_cons (le_op lr_mul (le_op lr_ix (le_var 0) le_int) le_int) la_nil)) le_int) (lg_sub (le_var 0) le_int)) (ls_ret (le_op lr_I (le_cb lr_intC (la_cons (le_op lr_I (le_op lr_add (le_op lr_mul (le_op lr_ix (le_var 0) le_int) le_int) le_int) le_int) la_nil)) (le_var 1)))))
abbrev s_law_norm : Stmt := top 54
abbrev N_law_norm : List Str := ["tie"]
theorem sc_law_norm : FnScope N_law_norm ["tie"] (defScope s_law_norm) := ⟨rfl, rfl, rfl, by decide +kernel, rfl, by decide +kernel, by decide +kernel⟩
theorem ok_law_norm {f : Addr} {fd : FuncData} (F : Fn π.K "_law_norm" "_law_norm" s_law_norm f fd) (B : Base π mg) : FnOk P π.w π.K mg base (L2N.CX P π.w) 1 f fd ["tie"] (spOf π.K (S_law_norm π)) := by
    rw [S_law_norm_eq]
    refine fn_ok F sc_law_norm fun cdv A outer s H E hr tk => ?_
    refine ⟨_, (pss_cons (ps_if (PW.pt (pw_and (pt_cmpR (kEq π.K rfl hr) (pe_callB (kLen π.K rfl) (by rfl) B.n_len bt_len (pa_cons (pv 0) pa_nil)) pe_int (nomark _)) (pw_and1 (pt_cmpR op_lt (pe_ix (kIx π.K rfl) (pv 0) pe_int (fun _ _ => rfl)) (pe_ix (kIx π.K rfl) (pv 0) pe_int (fun _ _ => rfl)) (nomark _))))) (pss_one (ps_ret (pe_tup (pa_cons (pe_ix (kIx π.K rfl) (pv 0) pe_int (fun _ _ => rfl)) (pa_cons (pe_ix (kIx π.K rfl) (pv 0) pe_int (fun _ _ => rfl)) (pa_cons (pe_ix (kIx π.K rfl) (pv 0) pe_int (fun _ _ => rfl)) (pa_cons (pe_ix (kIx π.K rfl) (pv 0) pe_int (fun _ _ => rfl)) pa_nil))))))) pss_nil) (pss_one (ps_ret (pe_callTy (kTup π.K rfl) (by rfl) B.n_tuple bt_tuple (pa_cons (pv 0) pa_nil))))), ?_⟩
    exact (ls_seq (ls_if (lt_and (lt_test (le_op lr_eq (le_cb lr_len (la_cons (le_var 0) la_nil)) le_int)) (lt_test (le_op lr_B0 (le_op lr_ix (le_var 0) le_int) (le_op lr_ix (le_var 0) le_int)))) (ls_ret (le_tup (la_cons (le_op lr_ix (le_var 0) le_int) (la_cons (le_op lr_ix (le_var 0) le_int) (la_cons (le_op lr_ix (le_var 0) le_int) (la_cons (le_op lr_ix (le_var 0) le_int) la_nil)))))) ls_next) (ls_ret (le_cb lr_tupC (la_cons (le_var 0) la_nil))))
abbrev s_law_ends : Stmt := top 58
abbrev N_law_ends : List Str := ["tie"]
theorem sc_law_ends : FnScope N_law_ends ["tie"] (defScope s_law_ends) := ⟨rfl, rfl, rfl, by decide +kernel, rfl, by decide +kernel, by decide +kernel⟩
theorem ok_law_ends {f : Addr} {fd : FuncData} (F : Fn π.K "_law_ends" "_law_ends" s_law_ends f fd) (B : Base π mg) : FnOk P π.w π.K mg base (L2N.CX P π.w) 1 f fd ["tie"] (spOf π.K (S_law_ends π)) := by
    rw [S_law_ends_eq]
    refine fn_ok F sc_law_ends fun cdv A outer s H E hr tk => ?_
    refine ⟨_, (pss_one (ps_ret (pe_ifExp (pt_cmpR (kEq π.K rfl hr) (pe_callB (kLen π.K rfl) (by rfl) B.n_len bt_len (pa_cons (pv 0) pa_nil)) pe_int (nomark _)) (pe_lst (pa_cons (pe_tup (pa_cons (pe_ix (kIx π.K rfl) (pv 0) pe_int (fun _ _ => rfl)) (pa_cons (pe_ix (kIx π.K rfl) (pv 0) pe_int (fun _ _ => rfl)) pa_nil))) pa_nil)) (pe_lst (pa_cons (pe_tup (pa_cons (pe_ix (kIx π.K rfl) (pv 0) pe_int (fun _ _ => rfl)) (pa_cons (pe_ix (kIx π.K rfl) (pv 0) pe_int (fun _ _ => rfl)) pa_nil))) (pa_cons (pe_tup (pa_cons (pe_ix (kIx π.K rfl) (pv 0) pe_int (fun _ _ => rfl)) (pa_cons (pe_ix (kIx π.K rfl) (pv 0) pe_int (fun _ _ => rfl)) pa_nil))) pa_nil)))))), ?_⟩
    exact (ls_ret (le_if (lt_test (le_op lr_eq (le_cb lr_len (la_cons (le_var 0) la_nil)) le_int)) (le_lst (la_cons (le_tup (la_cons (le_op lr_ix (le_var 0) le_int) (la_cons (le_op lr_ix (le_var 0) le_int) la_nil))) la_nil)) (le_lst (la_cons (le_tup (la_cons (le_op lr_ix (le_var 0) le_int) (la_cons (le_op lr_ix (le_var 0) le_int) la_nil))) (la_cons (le_tup (la_cons (le_op lr_ix (le_var 0) le_int) (la_cons (le_op lr_ix (le_var 0) le_int) la_nil))) la_nil)))))
abbrev s_law_are_ints : Stmt := top 62
abbrev N_law_are_ints : List Str := ["value", "many", "part"]
theorem sc_law_are_ints : FnScope N_law_are_ints ["value", "many"] (defScope s_law_are_ints) := ⟨rfl, rfl, rfl, by decide +kernel, rfl, by decide +kernel, by decide +kernel⟩
theorem ok_law_are_ints {f : Addr} {fd : FuncData} (F : Fn π.K "_law_are_ints" "_law_are_ints" s_law_are_ints f fd) (B : Base π mg) : FnOk P π.w π.K mg base (L2N.CX P π.w) 1 f fd ["value", "many"] (spOf π.K (S_law_are_ints π)) := by
    rw [S_law_are_ints_eq]
    refine fn_ok F sc_law_are_ints fun cdv A outer s H E hr tk => ?_
    refine ⟨_, (pss_cons (ps_if (PW.pt (pw_or (pt_not (kTru π.K rfl (pe_callB (kIsi π.K rfl) (by rfl) B.n_isinstance bt_isinstance (pa_cons (pv 0) (pa_cons (pe_bltn (v := .ty "tuple") (by rfl) B.n_tuple bt_tuple rfl) pa_nil))))) (pw_or1 (pt_cmpR (kNe π.K rfl hr) (pe_callB (kLen π.K rfl) (by rfl) B.n_len bt_len (pa_cons (pv 0) pa_nil)) (pv 1) (nomark _))))) (pss_one (ps_ret pe_bl)) pss_nil) (pss_one (ps_ret (pe_cmpR (kEq π.K rfl hr) (pe_lc (own := [("part", 2)]) rfl sc_law_are_ints.nd (kSeq π.K rfl (pv 0)) (blkOk_by (N := N_law_are_ints) (sc := defScope s_law_are_ints) (own := [("part", 2)]) (by decide +kernel)) (fun _ _ _ _ _ => (pg_name (i := 2) sc_law_are_ints.nd rfl (Or.inl rfl))) (fun _ _ _ _ _ => (pts_one (PW.pt (pw_or (pt_not (kTru π.K rfl (pe_callB (kIsi π.K rfl) (by rfl) B.n_isinstance bt_isinstance (pa_cons (pv 2) (pa_cons (pe_bltn (v := .ty "int") (by rfl) B.n_int bt_int rfl) pa_nil))))) (pw_or1 (kTru π.K rfl (pe_callB (kIsi π.K rfl) (by rfl) B.n_isinstance bt_isinstance (pa_cons (pv 2) (pa_cons (pe_bltn (v := .ty "bool") (by rfl) B.n_bool bt_bool rfl) pa_nil))))))))) (fun _ _ _ _ _ => (pv 2))) (pe_lst pa_nil) (nomark _))))), ?_⟩
    exact (ls_seq (ls_if (lt_or (lt_not (lt_tru (le_cb lr_isi (la_cons (le_var 0) (la_cons le_ty la_nil))))) (lt_test (le_op lr_ne (le_cb lr_len (la_cons (le_var 0) la_nil)) (le_var 1)))) (ls_ret le_bl) ls_next) (ls_ret (le_op lr_eq (le_lc (li_seq (le_var 0)) (lg_name 2) (own_name (by decide)) (lt_or (lt_not (lt_tru (le_cb lr_isi (la_cons (le_var 2) (la_cons le_ty la_nil))))) (lt_tru (le_cb lr_isi (la_cons (le_var 2) (la_cons le_ty la_nil))))) (le_var 2)) (le_lst la_nil))))
abbrev s_law_with : Stmt := top 65
abbrev N_law_with : List Str := ["row", "at", "value"]
theorem sc_law_with : FnScope N_law_with ["row", "at", "value"] (defScope s_law_with) := ⟨rfl, rfl, rfl, by decide +kernel, rfl, by decide +kernel, by decide +kernel⟩
theorem ok_law_with {f : Addr} {fd : FuncData} (F : Fn π.K "_law_with" "_law_with" s_law_with f fd) (B : Base π mg) : FnOk P π.w π.K mg base (L2N.CX P π.w) 1 f fd ["row", "at", "value"] (spOf π.K (S_law_with π)) := by
    rw [S_law_with_eq]
    refine fn_ok F sc_law_with fun cdv A outer s H E hr tk => ?_
    refine ⟨_, (pss_one (ps_ret (pe_op (kAdd π.K rfl) (pe_op (kAdd π.K rfl) (pe_callTy (kTup π.K rfl) (by rfl) B.n_tuple bt_tuple (pa_cons (pe_slice (kSl π.K rfl) (pv 0) po_none (po_some (pv 1))) pa_nil)) (pe_tup (pa_cons (pv 2) pa_nil))) (pe_callTy (kTup π.K rfl) (by rfl) B.n_tuple bt_tuple (pa_cons (pe_slice (kSl π.K rfl) (pv 0) (po_some (pe_op (kAdd π.K rfl) (pv 1) pe_int)) po_none) pa_nil))))), ?_⟩
    exact (ls_ret (le_op lr_add (le_op lr_add (le_cb lr_tupC (la_cons (le_sl (le_var 0) lo_none (lo_some (le_var 1))) la_nil)) (le_tup (la_cons (le_var 2) la_nil))) (le_cb lr_tupC (la_cons (le_sl (le_var 0) (lo_some (le_op lr_add (le_var 1) le_int)) lo_none) la_nil))))
abbrev s_is_below : Stmt := top 10
abbrev N_is_below : List Str := ["value", "many"]
theorem sc_is_below : FnScope N_is_below ["value", "many"] (defScope s_is_below) := ⟨rfl, rfl, rfl, by decide +kernel, rfl, by decide +kernel, by decide +kernel⟩
theorem ok_is_below {f : Addr} {fd : FuncData} (F : Fn π.K "is_below" "is_below" s_is_below f fd) (B : Base π mg) (h_is_integer : Def P π.w π.K mg base "is_integer" 1 ["value"] [] (S_is_integer π)) : FnOk P π.w π.K mg base (L2N.CX P π.w) 2 f fd ["value", "many"] (spOf π.K (S_is_below π)) := by
    rw [S_is_below_eq]
    refine fn_ok F sc_is_below fun cdv A outer s H E hr tk => ?_
    refine ⟨_, (pss_one (ps_ret (pe_and (kDef π.K rfl (W := (fun cls d _ H => E cls d H)) h_is_integer hr (pass_E tk) (pa_cons (pv 0) pa_nil)) (pe_one (pe_chain op_le op_lt pe_int (pv 0) (pv 1)))))), ?_⟩
    exact (ls_ret (le_andV (le_call repc_nil (la_cons (le_var 0) la_nil)) (le_chain lr_B0 lr_B0 le_int (le_var 0) (le_var 1))))
abbrev s_is_sign : Stmt := top 11
abbrev N_is_sign : List Str := ["value"]
theorem sc_is_sign : FnScope N_is_sign ["value"] (defScope s_is_sign) := ⟨rfl, rfl, rfl, by decide +kernel, rfl, by decide +kernel, by decide +kernel⟩
theorem ok_is_sign {f : Addr} {fd : FuncData} (F : Fn π.K "is_sign" "is_sign" s_is_sign f fd) (B : Base π mg) (h_is_integer : Def P π.w π.K mg base "is_integer" 1 ["value"] [] (S_is_integer π)) : FnOk P π.w π.K mg base (L2N.CX P π.w) 2 f fd ["value"] (spOf π.K (S_is_sign π)) := by
    rw [S_is_sign_eq]
    refine fn_ok F sc_is_sign fun cdv A outer s H E hr tk => ?_
    refine ⟨_, (pss_one (ps_ret (pe_and (kDef π.K rfl (W := (fun cls d _ H => E cls d H)) h_is_integer hr (pass_E tk) (pa_cons (pv 0) pa_nil)) (pe_one (pe_cmpR (kIn π.K rfl) (pv 0) (pe_tup (pa_cons (pe_un un_neg pe_int) (pa_cons pe_int pa_nil))) (by with_unfolding_all rfl)))))), ?_⟩
    exact (ls_ret (le_andV (le_call repc_nil (la_cons (le_var 0) la_nil)) (le_op lr_in (le_var 0) (le_tup (la_cons (le_un lr_neg le_int) (la_cons le_int la_nil))))))
abbrev s_is_sized : Stmt := top 13
abbrev N_is_sized : List Str := ["value", "many"]
theorem sc_is_sized : FnScope N_is_sized ["value", "many"] (defScope s_is_sized) := ⟨rfl, rfl, rfl, by decide +kernel, rfl, by decide +kernel, by decide +kernel⟩
theorem ok_is_sized {f : Addr} {fd : FuncData} (F : Fn π.K "is_sized" "is_sized" s_is_sized f fd) (B : Base π mg) (h_is_sequence : Def P π.w π.K mg base "is_sequence" 1 ["value"] [] (S_is_sequence π)) : FnOk P π.w π.K mg base (L2N.CX P π.w) 2 f fd ["value", "many"] (spOf π.K (S_is_sized π)) := by
    rw [S_is_sized_eq]
    refine fn_ok F sc_is_sized fun cdv A outer s H E hr tk => ?_
    refine ⟨_, (pss_one (ps_ret (pe_and (kDef π.K rfl (W := (fun cls d _ H => E cls d H)) h_is_sequence hr (pass_E tk) (pa_cons (pv 0) pa_nil)) (pe_one (pe_cmpR (kEq π.K rfl hr) (pe_callB (kLen π.K rfl) (by rfl) B.n_len bt_len (pa_cons (pv 0) pa_nil)) (pv 1) (nomark _)))))), ?_⟩
    exact (ls_ret (le_andV (le_call repc_nil (la_cons (le_var 0) la_nil)) (le_op lr_eq (le_cb lr_len (la_cons (le_var 0) la_nil)) (le_var 1))))
abbrev s_is_paper : Stmt := top 15
abbrev N_is_paper : List Str := ["value", "word", "many"]
theorem sc_is_paper : FnScope N_is_paper ["value", "word", "many"] (defScope s_is_paper) := ⟨rfl, rfl, rfl, by decide +kernel, rfl, by decide +kernel, by decide +kernel⟩
theorem ok_is_paper {f : Addr} {fd : FuncData} (F : Fn π.K "is_paper" "is_paper" s_is_paper f fd) (B : Base π mg) (h_is_tuple : Def P π.w π.K mg base "is_tuple" 1 ["value", "many"] [] (S_is_tuple π)) : FnOk P π.w π.K mg base (L2N.CX P π.w) 2 f fd ["value", "word", "many"] (spOf π.K (S_is_paper π)) := by
    rw [S_is_paper_eq]
    refine fn_ok F sc_is_paper fun cdv A outer s H E hr tk => ?_
    refine ⟨_, (pss_one (ps_ret (pe_and (kDef π.K rfl (W := (fun cls d _ H => E cls d H)) h_is_tuple hr (pass_E tk) (pa_cons (pv 0) (pa_cons (pv 2) pa_nil))) (pe_one (pe_cmpR (kEq π.K rfl hr) (pe_ix (kIx π.K rfl) (pv 0) pe_int (fun _ _ => rfl)) (pv 1) (nomark _)))))), ?_⟩
    exact (ls_ret (le_andV (le_call repc_nil (la_cons (le_var 0) (la_cons (le_var 2) la_nil))) (le_op lr_eq (le_op lr_ix (le_var 0) le_int) (le_var 1))))
abbrev s_signs_fault : Stmt := top 16
abbrev N_signs_fault : List Str := ["signs", "at", "sign"]
theorem sc_signs_fault : FnScope N_signs_fault ["signs"] (defScope s_signs_fault) := ⟨rfl, rfl, rfl, by decide +kernel, rfl, by decide +kernel, by decide +kernel⟩
theorem ok_signs_fault {f : Addr} {fd : FuncData} (F : Fn π.K "signs_fault" "signs_fault" s_signs_fault f fd) (B : Base π mg) (h_is_integer : Def P π.w π.K mg base "is_integer" 1 ["value"] [] (S_is_integer π)) : FnOk P π.w π.K mg base (L2N.CX P π.w) 2 f fd ["signs"] (spOf π.K (S_signs_fault π)) := by
    rw [S_signs_fault_eq]
    refine fn_ok F sc_signs_fault fun cdv A outer s H E hr tk => ?_
    refine ⟨_, (pss_cons (ps_for (passes_of rfl) rfl (kEnum π.K rfl rfl B.n_enumerate (pa_cons (pv 0) pa_nil)) (kGtup (n := 2) π.K rfl rfl (pgs_cons (pg_name (i := 1) sc_signs_fault.nd rfl (Or.inl rfl)) (pgs_cons (pg_name (i := 2) sc_signs_fault.nd rfl (Or.inl rfl)) pgs_nil))) (pss_one (ps_if (PW.pt (pw_or (pt_not (kTru π.K rfl (kDef π.K rfl (W := (fun cls d _ H => E cls d H)) h_is_integer hr (pass_E tk) (pa_cons (pv 2) pa_nil)))) (pw_or1 (pt_cmpR (kNotIn π.K rfl) (pv 2) (pe_tup (pa_cons (pe_un un_neg pe_int) (pa_cons pe_int (pa_cons pe_int pa_nil)))) (by with_unfolding_all rfl))))) (pss_one (ps_ret (pv 1))) pss_nil))) (pss_one (ps_ret pe_non))), ?_⟩
    exact (ls_seq (ls_for (li_enum (la_cons (le_var 0) la_nil)) (lg_tup (lgs_cons (lg_name 1) (lgs_cons (lg_name 2) lgs_nil))) (ls_if (lt_or (lt_not (lt_tru (le_call repc_nil (la_cons (le_var 2) la_nil)))) (lt_test (le_op lr_in (le_var 2) (le_tup (la_cons (le_un lr_neg le_int) (la_cons le_int (la_cons le_int la_nil))))))) (ls_ret (le_var 1)) ls_next)) (ls_ret le_non))
abbrev s_check_points : Stmt := top 25
abbrev N_check_points : List Str := ["points"]
theorem sc_check_points : FnScope N_check_points ["points"] (defScope s_check_points) := ⟨rfl, rfl, rfl, by decide +kernel, rfl, by decide +kernel, by decide +kernel⟩
theorem ok_check_points {f : Addr} {fd : FuncData} (F : Fn π.K "check_points" "check_points" s_check_points f fd) (B : Base π mg) (h_is_integer : Def P π.w π.K mg base "is_integer" 1 ["value"] [] (S_is_integer π)) : FnOk P π.w π.K mg base (L2N.CX P π.w) 2 f fd ["points"] (spOf π.K (S_check_points π)) := by
    rw [S_check_points_eq]
    refine fn_ok F sc_check_points fun cdv A outer s H E hr tk => ?_
    refine ⟨_, (pss_one (ps_if (PW.pt (pw_or (pt_not (kTru π.K rfl (kDef π.K rfl (W := (fun cls d _ H => E cls d H)) h_is_integer hr (pass_E tk) (pa_cons (pv 0) pa_nil)))) (pw_or1 (pt_not (pt_chain op_le op_le pe_int (pv 0) (pe_glob (v := .int 1000) rfl B.c_MOST_POINTS.choose_spec ⟨_, rfl⟩)))))) (pss_one (ps_raiseErr B.e_InvalidSize rfl hr tk (pa_cons pe_str pa_nil))) pss_nil)), ?_⟩
    exact (ls_if (lt_or (lt_not (lt_tru (le_call repc_nil (la_cons (le_var 0) la_nil)))) (lt_not (lt_test (le_chain lr_B0 lr_B0 le_int (le_var 0) le_int)))) (ls_raise (la_cons le_str la_nil)) ls_next)
abbrev s_ordered_tie : Stmt := top 27
abbrev N_ordered_tie : List Str := ["tie"]
theorem sc_ordered_tie : FnScope N_ordered_tie ["tie"] (defScope s_ordered_tie) := ⟨rfl, rfl, rfl, by decide +kernel, rfl, by decide +kernel, by decide +kernel⟩
theorem ok_ordered_tie {f : Addr} {fd : FuncData} (F : Fn π.K "ordered_tie" "ordered_tie" s_ordered_tie f fd) (B : Base π mg) (h_is_double : Def P π.w π.K mg base "is_double" 1 ["tie"] [] (S_is_double π)) : FnOk P π.w π.K mg base (L2N.CX P π.w) 2 f fd ["tie"] (spOf π.K (S_ordered_tie π)) := by
    rw [S_ordered_tie_eq]
    refine fn_ok F sc_ordered_tie fun cdv A outer s H E hr tk => ?_
    refine ⟨_, (pss_cons (ps_if (PW.pt (pw_and (kTru π.K rfl (kDef π.K rfl (W := (fun cls d _ H => E cls d H)) h_is_double hr (pass_E tk) (pa_cons (pv 0) pa_nil))) (pw_and1 (pt_cmpR op_gt (pe_ix (kIx π.K rfl) (pv 0) pe_int (fun _ _ => rfl)) (pe_ix (kIx π.K rfl) (pv 0) pe_int (fun _ _ => rfl)) (nomark _))))) (pss_one (ps_ret (pe_tup (pa_cons (pe_ix (kIx π.K rfl) (pv 0) pe_int (fun _ _ => rfl)) (pa_cons (pe_ix (kIx π.K rfl) (pv 0) pe_int (fun _ _ => rfl)) (pa_cons (pe_ix (kIx π.K rfl) (pv 0) pe_int (fun _ _ => rfl)) (pa_cons (pe_ix (kIx π.K rfl) (pv 0) pe_int (fun _ _ => rfl)) pa_nil))))))) pss_nil) (pss_one (ps_ret (pe_callTy (kTup π.K rfl) (by rfl) B.n_tuple bt_tuple (pa_cons (pv 0) pa_nil))))), ?_⟩
    exact (ls_seq (ls_if (lt_and (lt_tru (le_call repc_nil (la_cons (le_var 0) la_nil))) (lt_test (le_op lr_B0 (le_op lr_ix (le_var 0) le_int) (le_op lr_ix (le_var 0) le_int)))) (ls_ret (le_tup (la_cons (le_op lr_ix (le_var 0) le_int) (la_cons (le_op lr_ix (le_var 0) le_int) (la_cons (le_op lr_ix (le_var 0) le_int) (la_cons (le_op lr_ix (le_var 0) le_int) la_nil)))))) ls_next) (ls_ret (le_cb lr_tupC (la_cons (le_var 0) la_nil))))
abbrev s_check_web_box : Stmt := top 35
abbrev N_check_web_box : List Str := ["web", "box"]
theorem sc_check_web_box : FnScope N_check_web_box ["web", "box"] (defScope s_check_web_box) := ⟨rfl, rfl, rfl, by decide +kernel, rfl, by decide +kernel, by decide +kernel⟩
theorem ok_check_web_box {f : Addr} {fd : FuncData} (F : Fn π.K "check_web_box" "check_web_box" s_check_web_box f fd) (B : Base π mg) (h_check_box : Def P π.w π.K mg base "check_box" 1 ["web", "box"] [] (S_check_box π)) (h_check_web_d : Def P π.w π.K mg base "check_web" 1 ["web", "at"] [.int (-1)] (S_check_web π)) : FnOk P π.w π.K mg base (L2N.CX P π.w) 2 f fd ["web", "box"] (spOf π.K (S_check_web_box π)) := by
    rw [S_check_web_box_eq]
    refine fn_ok F sc_check_web_box fun cdv A outer s H E hr tk => ?_
    refine ⟨_, (pss_cons (ps_expr (kDef π.K rfl (W := (fun cls d _ H => E cls d H)) h_check_web_d hr (pass_E tk) (pa_cons (pv 0) pa_nil))) (pss_one (ps_expr (kDef π.K rfl (W := (fun cls d _ H => E cls d H)) h_check_box hr (pass_E tk) (pa_cons (pv 0) (pa_cons (pv 1) pa_nil)))))), ?_⟩
    exact (ls_seq (ls_drop (le_call repc_int (la_cons (le_var 0) la_nil))) (ls_drop (le_call repc_nil (la_cons (le_var 0) (la_cons (le_var 1) la_nil)))))
abbrev s_tie_pull : Stmt := top 37
abbrev N_tie_pull : List Str := ["told", "signs", "point", "sign"]
theorem sc_tie_pull : FnScope N_tie_pull ["told", "signs"] (defScope s_tie_pull) := ⟨rfl, rfl, rfl, by decide +kernel, rfl, by decide +kernel, by decide +kernel⟩
theorem ok_tie_pull {f : Addr} {fd : FuncData} (F : Fn π.K "tie_pull" "tie_pull" s_tie_pull f fd) (B : Base π mg) (h_tie_ends : Def P π.w π.K mg base "tie_ends" 1 ["tie"] [] (S_tie_ends π)) : FnOk P π.w π.K mg base (L2N.CX P π.w) 2 f fd ["told", "signs"] (spOf π.K (S_tie_pull π)) := by
    rw [S_tie_pull_eq]
    refine fn_ok F sc_tie_pull fun cdv A outer s H E hr tk => ?_
    refine ⟨_, (pss_one (ps_ret (pe_callB (kSum π.K rfl rfl) (by rfl) B.n_sum bt_sum (pa_cons (pe_lc (own := [("point", 2), ("sign", 3)]) rfl sc_tie_pull.nd (kSeq π.K rfl (kDef π.K rfl (W := (fun cls d _ H => E cls d H)) h_tie_ends hr (pass_E tk) (pa_cons (pv 0) pa_nil))) (blkOk_by (N := N_tie_pull) (sc := defScope s_tie_pull) (own := [("point", 2), ("sign", 3)]) (by decide +kernel)) (fun _ _ _ _ _ => (kGtup (n := 2) π.K rfl rfl (pgs_cons (pg_name (i := 2) sc_tie_pull.nd rfl (Or.inl rfl)) (pgs_cons (pg_name (i := 3) sc_tie_pull.nd rfl (Or.inl rfl)) pgs_nil)))) (fun _ _ _ _ _ => pts_nil) (fun _ _ _ _ _ => (pe_op (kMul π.K rfl) (pv 3) (pe_ix (kIx π.K rfl) (pv 1) (pv 2) (fun _ _ => rfl))))) pa_nil)))), ?_⟩
    exact (ls_ret (le_cb lr_sum (la_cons (le_lc (li_seq (le_call repc_nil (la_cons (le_var 0) la_nil))) (lg_tup (lgs_cons (lg_name 2) (lgs_cons (lg_name 3) lgs_nil))) (own_tup (own_consN (by decide) (own_consN (by decide) own_nil))) lt_yes (le_op lr_mul (le_var 3) (le_op lr_ix (le_var 1) (le_var 2)))) la_nil)))
abbrev s_sums_at : Stmt := top 44
abbrev N_sums_at : List Str := ["web", "numbers", "sums", "told", "number", "point", "sign"]
theorem sc_sums_at : FnScope N_sums_at ["web", "numbers"] (defScope s_sums_at) := ⟨rfl, rfl, rfl, by decide +kernel, rfl, by decide +kernel, by decide +kernel⟩
theorem ok_sums_at {f : Addr} {fd : FuncData} (F : Fn π.K "sums_at" "sums_at" s_sums_at f fd) (B : Base π mg) (h_tie_ends : Def P π.w π.K mg base "tie_ends" 1 ["tie"] [] (S_tie_ends π)) : FnOk P π.w π.K mg base (L2N.CX P π.w) 2 f fd ["web", "numbers"] (spOf π.K (S_sums_at π)) := by
    rw [S_sums_at_eq]
    refine fn_ok F sc_sums_at fun cdv A outer s H E hr tk => ?_
    refine ⟨_, (pss_cons (ps_set (i := 2) sc_sums_at.nd rfl (Or.inl rfl) (pe_op (kMul π.K rfl) (pe_lst (pa_cons pe_int pa_nil)) (kFld π.K rfl (pv 0) rfl))) (pss_cons (ps_for (passes_of rfl) rfl (kZip π.K rfl rfl B.n_zip (pa_cons (kFld π.K rfl (pv 0) rfl) (pa_cons (pv 1) pa_nil))) (kGtup (n := 2) π.K rfl rfl (pgs_cons (pg_name (i := 3) sc_sums_at.nd rfl (Or.inl rfl)) (pgs_cons (pg_name (i := 4) sc_sums_at.nd rfl (Or.inl rfl)) pgs_nil))) (pss_one (ps_for (passes_of rfl) rfl (kSeq π.K rfl (kDef π.K rfl (W := (fun cls d _ H => E cls d H)) h_tie_ends hr (pass_E tk) (pa_cons (pv 3) pa_nil))) (kGtup (n := 2) π.K rfl rfl (pgs_cons (pg_name (i := 5) sc_sums_at.nd rfl (Or.inl rfl)) (pgs_cons (pg_name (i := 6) sc_sums_at.nd rfl (Or.inl rfl)) pgs_nil))) (pss_one (ps_augS (pv 2) (pv 5) pget_list (pe_op (kMul π.K rfl) (pv 6) (pv 4)) ip_add set_list))))) (pss_one (ps_ret (pv 2))))), ?_⟩
    exact (ls_seq (ls_asg (le_op lr_mul (le_lst (la_cons le_int la_nil)) (le_fld (fun C => B.fl C _) (le_var 0))) (lg_name 2)) (ls_seq (ls_for (li_zip (la_cons (le_fld (fun C => B.fl C _) (le_var 0)) (la_cons (le_var 1) la_nil))) (lg_tup (lgs_cons (lg_name 3) (lgs_cons (lg_name 4) lgs_nil))) (ls_for (li_seq (le_call repc_nil (la_cons (le_var 3) la_nil))) (lg_tup (lgs_cons (lg_name 5) (lgs_cons (lg_name 6) lgs_nil))) (ls_augS (le_var 2) (le_var 5) (le_op lr_mul (le_var 6) (le_var 4))))) (ls_ret (le_var 2))))
abbrev s_law_pick : Stmt := top 49
abbrev N_law_pick : List Str := ["box", "some"]
theorem sc_law_pick : FnScope N_law_pick ["box", "some"] (defScope s_law_pick) := ⟨rfl, rfl, rfl, by decide +kernel, rfl, by decide +kernel, by decide +kernel⟩
theorem ok_law_pick {f : Addr} {fd : FuncData} (F : Fn π.K "_law_pick" "_law_pick" s_law_pick f fd) (B : Base π mg) (h_law_take : Def P π.w π.K mg base "_law_take" 1 ["box", "many"] [] (S_law_take π)) : FnOk P π.w π.K mg base (L2N.CX P π.w) 2 f fd ["box", "some"] (spOf π.K (S_law_pick π)) := by
    rw [S_law_pick_eq]
    refine fn_ok F sc_law_pick fun cdv A outer s H E hr tk => ?_
    refine ⟨_, (pss_one (ps_ret (pe_ix (kIx π.K rfl) (pv 1) (kDef π.K rfl (W := (fun cls d _ H => E cls d H)) h_law_take hr (pass_E tk) (pa_cons (pv 0) (pa_cons (pe_callB (kLen π.K rfl) (by rfl) B.n_len bt_len (pa_cons (pv 1) pa_nil)) pa_nil))) (fun _ _ => rfl)))), ?_⟩
    exact (ls_ret (le_op lr_ix (le_var 1) (le_call repc_nil (la_cons (le_var 0) (la_cons (le_cb lr_len (la_cons (le_var 1) la_nil)) la_nil)))))
abbrev s_law_far : Stmt := top 50
abbrev N_law_far : List Str := ["box", "size", "raw"]
theorem sc_law_far : FnScope N_law_far ["box", "size"] (defScope s_law_far) := ⟨rfl, rfl, rfl, by decide +kernel, rfl, by decide +kernel, by decide +kernel⟩
theorem ok_law_far {f : Addr} {fd : FuncData} (F : Fn π.K "_law_far" "_law_far" s_law_far f fd) (B : Base π mg) (h_law_take : Def P π.w π.K mg base "_law_take" 1 ["box", "many"] [] (S_law_take π)) : FnOk P π.w π.K mg base (L2N.CX P π.w) 2 f fd ["box", "size"] (spOf π.K (S_law_far π)) := by
    rw [S_law_far_eq]
    refine fn_ok F sc_law_far fun cdv A outer s H E hr tk => ?_
    refine ⟨_, (pss_cons (ps_set (i := 2) sc_law_far.nd rfl (Or.inl rfl) (pe_op (kAdd π.K rfl) (pe_op (kMul π.K rfl) (pe_op (kAdd π.K rfl) (pe_op (kMul π.K rfl) (kDef π.K rfl (W := (fun cls d _ H => E cls d H)) h_law_take hr (pass_E tk) (pa_cons (pv 0) (pa_cons (pe_op op_pow pe_int pe_int) pa_nil))) (pe_op op_pow pe_int pe_int)) (kDef π.K rfl (W := (fun cls d _ H => E cls d H)) h_law_take hr (pass_E tk) (pa_cons (pv 0) (pa_cons (pe_op op_pow pe_int pe_int) pa_nil)))) pe_int) (kDef π.K rfl (W := (fun cls d _ H => E cls d H)) h_law_take hr (pass_E tk) (pa_cons (pv 0) (pa_cons pe_int pa_nil))))) (pss_one (ps_ret (pe_op op_sub (pe_op op_mod (pe_callTy call_int1 (by rfl) B.n_int bt_int (pa_cons (pv 2) pa_nil)) (pe_op (kAdd π.K rfl) (pe_op (kMul π.K rfl) pe_int (pv 1)) pe_int)) (pv 1))))), ?_⟩
    exact (ls_seq (ls_asg (le_op lr_add (le_op lr_mul (le_op lr_add (le_op lr_mul (le_call repc_nil (la_cons (le_var 0) (la_cons (le_op lr_I le_int le_int) la_nil))) (le_op lr_I le_int le_int)) (le_call repc_nil (la_cons (le_var 0) (la_cons (le_op lr_I le_int le_int) la_nil)))) le_int) (le_call repc_nil (la_cons (le_var 0) (la_cons le_int la_nil)))) (lg_name 2)) (ls_ret (le_op lr_I0 (le_op lr_I (le_cb lr_intC (la_cons (le_var 2) la_nil)) (le_op lr_add (le_op lr_mul le_int (le_var 1)) le_int)) (le_var 1))))
abbrev s_law_sign : Stmt := top 52
abbrev N_law_sign : List Str := ["box"]
theorem sc_law_sign : FnScope N_law_sign ["box"] (defScope s_law_sign) := ⟨rfl, rfl, rfl, by decide +kernel, rfl, by decide +kernel, by decide +kernel⟩
theorem ok_law_sign {f : Addr} {fd : FuncData} (F : Fn π.K "_law_sign" "_law_sign" s_law_sign f fd) (B : Base π mg) (h_law_take : Def P π.w π.K mg base "_law_take" 1 ["box", "many"] [] (S_law_take π)) : FnOk P π.w π.K mg base (L2N.CX P π.w) 2 f fd ["box"] (spOf π.K (S_law_sign π)) := by
    rw [S_law_sign_eq]
    refine fn_ok F sc_law_sign fun cdv A outer s H E hr tk => ?_
    refine ⟨_, (pss_one (ps_ret (pe_op op_sub pe_int (pe_op (kMul π.K rfl) pe_int (kDef π.K rfl (W := (fun cls d _ H => E cls d H)) h_law_take hr (pass_E tk) (pa_cons (pv 0) (pa_cons pe_int pa_nil))))))), ?_⟩
    exact (ls_ret (le_op lr_I0 le_int (le_op lr_mul le_int (le_call repc_nil (la_cons (le_var 0) (la_cons le_int la_nil))))))
abbrev s_law_is : Stmt := top 53
abbrev N_law_is : List Str := ["told", "due", "one", "other"]
theorem sc_law_is : FnScope N_law_is ["told", "due"] (defScope s_law_is) := ⟨rfl, rfl, rfl, by decide +kernel, rfl, by decide +kernel, by decide +kernel⟩
theorem ok_law_is {n : Nat} {f : Addr} {fd : FuncData} (F : Fn π.K "_law_is" "_law_is" s_law_is f fd) (B : Base π mg) (h_law_is : Def P π.w π.K mg base "_law_is" n ["told", "due"] [] (S_law_is π n)) : FnOk P π.w π.K mg base (L2N.CX P π.w) (n + 1) f fd ["told", "due"] (spOf π.K (S_law_is π (n + 1))) := by
    rw [S_law_is_eq]
    refine fn_ok F sc_law_is fun cdv A outer s H E hr tk => ?_
    generalize hSR : S_law_is π n = SR at h_law_is ⊢
    refine ⟨_, (pss_cons (ps_if (kTru π.K rfl (pe_callB (kIsi π.K rfl) (by rfl) B.n_isinstance bt_isinstance (pa_cons (pv 1) (pa_cons (pe_bltn (v := .ty "tuple") (by rfl) B.n_tuple bt_tuple rfl) pa_nil)))) (pss_cons (ps_if (PW.pt (pw_or (pt_not (kTru π.K rfl (pe_callB (kIsi π.K rfl) (by rfl) B.n_isinstance bt_isinstance (pa_cons (pv 0) (pa_cons (pe_bltn (v := .ty "tuple") (by rfl) B.n_tuple bt_tuple rfl) pa_nil))))) (pw_or1 (pt_cmpR (kNe π.K rfl hr) (pe_callB (kLen π.K rfl) (by rfl) B.n_len bt_len (pa_cons (pv 0) pa_nil)) (pe_callB (kLen π.K rfl) (by rfl) B.n_len bt_len (pa_cons (pv 1) pa_nil)) (nomark _))))) (pss_one (ps_ret pe_bl)) pss_nil) (pss_one (ps_ret (pe_cmpR (kEq π.K rfl hr) (pe_lc (own := [("one", 2), ("other", 3)]) rfl sc_law_is.nd (kZip π.K rfl rfl B.n_zip (pa_cons (pv 0) (pa_cons (pv 1) pa_nil))) (blkOk_by (N := N_law_is) (sc := defScope s_law_is) (own := [("one", 2), ("other", 3)]) (by decide +kernel)) (fun _ _ _ _ _ => (kGtup (n := 2) π.K rfl rfl (pgs_cons (pg_name (i := 2) sc_law_is.nd rfl (Or.inl rfl)) (pgs_cons (pg_name (i := 3) sc_law_is.nd rfl (Or.inl rfl)) pgs_nil)))) (fun _ _ _ _ _ => (pts_one (pt_not (kTru π.K rfl (kDef π.K rfl (W := W0) h_law_is hr pass_none (pa_cons (pv 2) (pa_cons (pv 3) pa_nil)) (hj := Nat.le_refl _)))))) (fun _ _ _ _ _ => pe_int)) (pe_lst pa_nil) (nomark _))))) pss_nil) (pss_cons (ps_if (PW.pt (pw_or (pt_cmpR op_isU (pv 1) pe_non (nomark _)) (pw_or (pt_cmpR op_isU (pv 1) pe_bl (nomark _)) (pw_or1 (pt_cmpR op_isU (pv 1) pe_bl (nomark _)))))) (pss_one (ps_ret (pe_ifExp (pt_cmpR op_isU (pv 1) pe_non (nomark _)) (pe_cmpR op_isU (pv 0) pe_non (nomark _)) (pe_ifExp (pt_cmpR op_isU (pv 1) pe_bl (nomark _)) (pe_cmpR op_isU (pv 0) pe_bl (nomark _)) (pe_cmpR op_isU (pv 0) pe_bl (nomark _)))))) pss_nil) (pss_cons (ps_if (kTru π.K rfl (pe_callB (kIsi π.K rfl) (by rfl) B.n_isinstance bt_isinstance (pa_cons (pv 1) (pa_cons (pe_bltn (v := .ty "int") (by rfl) B.n_int bt_int rfl) pa_nil)))) (pss_one (ps_ret (pe_and (pe_callB (kIsi π.K rfl) (by rfl) B.n_isinstance bt_isinstance (pa_cons (pv 0) (pa_cons (pe_bltn (v := .ty "int") (by rfl) B.n_int bt_int rfl) pa_nil))) (pe_and (pe_not (pe_callB (kIsi π.K rfl) (by rfl) B.n_isinstance bt_isinstance (pa_cons (pv 0) (pa_cons (pe_bltn (v := .ty "bool") (by rfl) B.n_bool bt_bool rfl) pa_nil)))) (pe_one (pe_cmpR (kEq π.K rfl hr) (pv 0) (pv 1) (nomark _))))))) pss_nil) (pss_one (ps_ret (pe_and (pe_callB (kIsi π.K rfl) (by rfl) B.n_isinstance bt_isinstance (pa_cons (pv 1) (pa_cons (pe_bltn (v := .ty "str") (by rfl) B.n_str bt_str rfl) pa_nil))) (pe_and (pe_callB (kIsi π.K rfl) (by rfl) B.n_isinstance bt_isinstance (pa_cons (pv 0) (pa_cons (pe_bltn (v := .ty "str") (by rfl) B.n_str bt_str rfl) pa_nil))) (pe_one (pe_cmpR (kEq π.K rfl hr) (pv 0) (pv 1) (nomark _)))))))))), ?_⟩
    exact (ls_seq (ls_if (lt_tru (le_cb lr_isi (la_cons (le_var 1) (la_cons le_ty la_nil)))) (ls_seq (ls_if (lt_or (lt_not (lt_tru (le_cb lr_isi (la_cons (le_var 0) (la_cons le_ty la_nil))))) (lt_test (le_op lr_ne (le_cb lr_len (la_cons (le_var 0) la_nil)) (le_cb lr_len (la_cons (le_var 1) la_nil))))) (ls_ret le_bl) ls_next) (ls_ret (le_op lr_eq (le_lc (li_zip (la_cons (le_var 0) (la_cons (le_var 1) la_nil))) (lg_tup (lgs_cons (lg_name 2) (lgs_cons (lg_name 3) lgs_nil))) (own_tup (own_consN (by decide) (own_consN (by decide) own_nil))) (lt_not (lt_tru (le_call repc_nil (la_cons (le_var 2) (la_cons (le_var 3) la_nil))))) le_int) (le_lst la_nil)))) ls_next) (ls_seq (ls_if (lt_or (lt_test (le_op lr_is (le_var 1) le_non)) (lt_or (lt_test (le_op lr_is (le_var 1) le_bl)) (lt_test (le_op lr_is (le_var 1) le_bl)))) (ls_ret (le_if (lt_test (le_op lr_is (le_var 1) le_non)) (le_op lr_is (le_var 0) le_non) (le_if (lt_test (le_op lr_is (le_var 1) le_bl)) (le_op lr_is (le_var 0) le_bl) (le_op lr_is (le_var 0) le_bl)))) ls_next) (ls_seq (ls_if (lt_tru (le_cb lr_isi (la_cons (le_var 1) (la_cons le_ty la_nil)))) (ls_ret (le_andV (le_cb lr_isi (la_cons (le_var 0) (la_cons le_ty la_nil))) (le_andV (le_notV (le_cb lr_isi (la_cons (le_var 0) (la_cons le_ty la_nil)))) (le_op lr_eq (le_var 0) (le_var 1))))) ls_next) (ls_ret (le_andV (le_cb lr_isi (la_cons (le_var 1) (la_cons le_ty la_nil))) (le_andV (le_cb lr_isi (la_cons (le_var 0) (la_cons le_ty la_nil))) (le_op lr_eq (le_var 0) (le_var 1))))))))
abbrev s_law_sums : Stmt := top 59
abbrev N_law_sums : List Str := ["points", "ties", "numbers", "sums", "tie", "number", "point", "sign"]
theorem sc_law_sums : FnScope N_law_sums ["points", "ties", "numbers"] (defScope s_law_sums) := ⟨rfl, rfl, rfl, by decide +kernel, rfl, by decide +kernel, by decide +kernel⟩
theorem ok_law_sums {f : Addr} {fd : FuncData} (F : Fn π.K "_law_sums" "_law_sums" s_law_sums f fd) (B : Base π mg) (h_law_ends : Def P π.w π.K mg base "_law_ends" 1 ["tie"] [] (S_law_ends π)) : FnOk P π.w π.K mg base (L2N.CX P π.w) 2 f fd ["points", "ties", "numbers"] (spOf π.K (S_law_sums π)) := by
    rw [S_law_sums_eq]
    refine fn_ok F sc_law_sums fun cdv A outer s H E hr tk => ?_
    refine ⟨_, (pss_cons (ps_set (i := 3) sc_law_sums.nd rfl (Or.inl rfl) (pe_op (kMul π.K rfl) (pe_lst (pa_cons pe_int pa_nil)) (pv 0))) (pss_cons (ps_for (passes_of rfl) rfl (kZip π.K rfl rfl B.n_zip (pa_cons (pv 1) (pa_cons (pv 2) pa_nil))) (kGtup (n := 2) π.K rfl rfl (pgs_cons (pg_name (i := 4) sc_law_sums.nd rfl (Or.inl rfl)) (pgs_cons (pg_name (i := 5) sc_law_sums.nd rfl (Or.inl rfl)) pgs_nil))) (pss_one (ps_for (passes_of rfl) rfl (kSeq π.K rfl (kDef π.K rfl (W := (fun cls d _ H => E cls d H)) h_law_ends hr (pass_E tk) (pa_cons (pv 4) pa_nil))) (kGtup (n := 2) π.K rfl rfl (pgs_cons (pg_name (i := 6) sc_law_sums.nd rfl (Or.inl rfl)) (pgs_cons (pg_name (i := 7) sc_law_sums.nd rfl (Or.inl rfl)) pgs_nil))) (pss_one (ps_asg (pe_op (kAdd π.K rfl) (pe_ix (kIx π.K rfl) (pv 3) (pv 6) (fun _ _ => rfl)) (pe_op (kMul π.K rfl) (pv 7) (pv 5))) (pg_sub (pv 3) (pv 6) set_list (fun _ => rfl))))))) (pss_one (ps_ret (pv 3))))), ?_⟩
    exact (ls_seq (ls_asg (le_op lr_mul (le_lst (la_cons le_int la_nil)) (le_var 0)) (lg_name 3)) (ls_seq (ls_for (li_zip (la_cons (le_var 1) (la_cons (le_var 2) la_nil))) (lg_tup (lgs_cons (lg_name 4) (lgs_cons (lg_name 5) lgs_nil))) (ls_for (li_seq (le_call repc_nil (la_cons (le_var 4) la_nil))) (lg_tup (lgs_cons (lg_name 6) (lgs_cons (lg_name 7) lgs_nil))) (ls_asg (le_op lr_add (le_op lr_ix (le_var 3) (le_var 6)) (le_op lr_mul (le_var 7) (le_var 5))) (lg_sub (le_var 3) (le_var 6))))) (ls_ret (le_var 3))))
abbrev s_law_pull : Stmt := top 60
abbrev N_law_pull : List Str := ["tie", "signs", "point", "sign"]
theorem sc_law_pull : FnScope N_law_pull ["tie", "signs"] (defScope s_law_pull) := ⟨rfl, rfl, rfl, by decide +kernel, rfl, by decide +kernel, by decide +kernel⟩
theorem ok_law_pull {f : Addr} {fd : FuncData} (F : Fn π.K "_law_pull" "_law_pull" s_law_pull f fd) (B : Base π mg) (h_law_ends : Def P π.w π.K mg base "_law_ends" 1 ["tie"] [] (S_law_ends π)) : FnOk P π.w π.K mg base (L2N.CX P π.w) 2 f fd ["tie", "signs"] (spOf π.K (S_law_pull π)) := by
    rw [S_law_pull_eq]
    refine fn_ok F sc_law_pull fun cdv A outer s H E hr tk => ?_
    refine ⟨_, (pss_one (ps_ret (pe_callB (kSum π.K rfl rfl) (by rfl) B.n_sum bt_sum (pa_cons (pe_lc (own := [("point", 2), ("sign", 3)]) rfl sc_law_pull.nd (kSeq π.K rfl (kDef π.K rfl (W := (fun cls d _ H => E cls d H)) h_law_ends hr (pass_E tk) (pa_cons (pv 0) pa_nil))) (blkOk_by (N := N_law_pull) (sc := defScope s_law_pull) (own := [("point", 2), ("sign", 3)]) (by decide +kernel)) (fun _ _ _ _ _ => (kGtup (n := 2) π.K rfl rfl (pgs_cons (pg_name (i := 2) sc_law_pull.nd rfl (Or.inl rfl)) (pgs_cons (pg_name (i := 3) sc_law_pull.nd rfl (Or.inl rfl)) pgs_nil)))) (fun _ _ _ _ _ => pts_nil) (fun _ _ _ _ _ => (pe_op (kMul π.K rfl) (pv 3) (pe_ix (kIx π.K rfl) (pv 1) (pv 2) (fun _ _ => rfl))))) pa_nil)))), ?_⟩
    exact (ls_ret (le_cb lr_sum (la_cons (le_lc (li_seq (le_call repc_nil (la_cons (le_var 0) la_nil))) (lg_tup (lgs_cons (lg_name 2) (lgs_cons (lg_name 3) lgs_nil))) (own_tup (own_consN (by decide) (own_consN (by decide) own_nil))) lt_yes (le_op lr_mul (le_var 3) (le_op lr_ix (le_var 1) (le_var 2)))) la_nil)))
abbrev s_law_are_signs : Stmt := top 64
abbrev N_law_are_signs : List Str := ["value", "points", "part"]
theorem sc_law_are_signs : FnScope N_law_are_signs ["value", "points"] (defScope s_law_are_signs) := ⟨rfl, rfl, rfl, by decide +kernel, rfl, by decide +kernel, by decide +kernel⟩
theorem ok_law_are_signs {f : Addr} {fd : FuncData} (F : Fn π.K "_law_are_signs" "_law_are_signs" s_law_are_signs f fd) (B : Base π mg) (h_law_are_ints : Def P π.w π.K mg base "_law_are_ints" 1 ["value", "many"] [] (S_law_are_ints π)) : FnOk P π.w π.K mg base (L2N.CX P π.w) 2 f fd ["value", "points"] (spOf π.K (S_law_are_signs π)) := by
    rw [S_law_are_signs_eq]
    refine fn_ok F sc_law_are_signs fun cdv A outer s H E hr tk => ?_
    refine ⟨_, (pss_one (ps_ret (pe_and (kDef π.K rfl (W := (fun cls d _ H => E cls d H)) h_law_are_ints hr (pass_E tk) (pa_cons (pv 0) (pa_cons (pv 1) pa_nil))) (pe_one (pe_cmpR (kEq π.K rfl hr) (pe_lc (own := [("part", 2)]) rfl sc_law_are_signs.nd (kSeq π.K rfl (pv 0)) (blkOk_by (N := N_law_are_signs) (sc := defScope s_law_are_signs) (own := [("part", 2)]) (by decide +kernel)) (fun _ _ _ _ _ => (pg_name (i := 2) sc_law_are_signs.nd rfl (Or.inl rfl))) (fun _ _ _ _ _ => (pts_one (pt_cmpR op_gt (pe_callB call_abs (by rfl) B.n_abs bt_abs (pa_cons (pv 2) pa_nil)) pe_int (nomark _)))) (fun _ _ _ _ _ => (pv 2))) (pe_lst pa_nil) (nomark _)))))), ?_⟩
    exact (ls_ret (le_andV (le_call repc_nil (la_cons (le_var 0) (la_cons (le_var 1) la_nil))) (le_op lr_eq (le_lc (li_seq (le_var 0)) (lg_name 2) (own_name (by decide)) (lt_test (le_op lr_B0 (le_cb lr_abs (la_cons (le_var 2) la_nil)) le_int)) (le_var 2)) (le_lst la_nil))))
abbrev s_is_sign_row : Stmt := top 17
abbrev N_is_sign_row : List Str := ["value", "points"]
theorem sc_is_sign_row : FnScope N_is_sign_row ["value", "points"] (defScope s_is_sign_row) := ⟨rfl, rfl, rfl, by decide +kernel, rfl, by decide +kernel, by decide +kernel⟩
theorem ok_is_sign_row {f : Addr} {fd : FuncData} (F : Fn π.K "is_sign_row" "is_sign_row" s_is_sign_row f fd) (B : Base π mg) (h_is_tuple : Def P π.w π.K mg base "is_tuple" 1 ["value", "many"] [] (S_is_tuple π)) (h_signs_fault : Def P π.w π.K mg base "signs_fault" 2 ["signs"] [] (S_signs_fault π)) : FnOk P π.w π.K mg base (L2N.CX P π.w) 3 f fd ["value", "points"] (spOf π.K (S_is_sign_row π)) := by
    rw [S_is_sign_row_eq]
    refine fn_ok F sc_is_sign_row fun cdv A outer s H E hr tk => ?_
    refine ⟨_, (pss_one (ps_ret (pe_and (kDef π.K rfl (W := (fun cls d _ H => E cls d H)) h_is_tuple hr (pass_E tk) (pa_cons (pv 0) (pa_cons (pv 1) pa_nil))) (pe_one (pe_cmpR op_isU (kDef π.K rfl (W := (fun cls d _ H => E cls d H)) h_signs_fault hr (pass_E tk) (pa_cons (pv 0) pa_nil)) pe_non (nomark _)))))), ?_⟩
    exact (ls_ret (le_andV (le_call repc_nil (la_cons (le_var 0) (la_cons (le_var 1) la_nil))) (le_op lr_is (le_call repc_nil (la_cons (le_var 0) la_nil)) le_non)))
abbrev s_is_tie : Stmt := top 26
abbrev N_is_tie : List Str := ["value", "points"]
theorem sc_is_tie : FnScope N_is_tie ["value", "points"] (defScope s_is_tie) := ⟨rfl, rfl, rfl, by decide +kernel, rfl, by decide +kernel, by decide +kernel⟩
theorem ok_is_tie {f : Addr} {fd : FuncData} (F : Fn π.K "is_tie" "is_tie" s_is_tie f fd) (B : Base π mg) (h_is_sequence : Def P π.w π.K mg base "is_sequence" 1 ["value"] [] (S_is_sequence π)) (h_is_below : Def P π.w π.K mg base "is_below" 2 ["value", "many"] [] (S_is_below π)) (h_is_sign : Def P π.w π.K mg base "is_sign" 2 ["value"] [] (S_is_sign π)) : FnOk P π.w π.K mg base (L2N.CX P π.w) 3 f fd ["value", "points"] (spOf π.K (S_is_tie π)) := by
    rw [S_is_tie_eq]
    refine fn_ok F sc_is_tie fun cdv A outer s H E hr tk => ?_
    refine ⟨_, (pss_cons (ps_if (PW.pt (pw_or (pt_not (kTru π.K rfl (kDef π.K rfl (W := (fun cls d _ H => E cls d H)) h_is_sequence hr (pass_E tk) (pa_cons (pv 0) pa_nil)))) (pw_or1 (pt_cmpR (kNotIn π.K rfl) (pe_callB (kLen π.K rfl) (by rfl) B.n_len bt_len (pa_cons (pv 0) pa_nil)) (pe_tup (pa_cons pe_int (pa_cons pe_int pa_nil))) (by with_unfolding_all rfl))))) (pss_one (ps_ret pe_bl)) pss_nil) (pss_cons (ps_if (PW.pt (pw_or (pt_not (kTru π.K rfl (kDef π.K rfl (W := (fun cls d _ H => E cls d H)) h_is_below hr (pass_E tk) (pa_cons (pe_ix (kIx π.K rfl) (pv 0) pe_int (fun _ _ => rfl)) (pa_cons (pv 1) pa_nil))))) (pw_or1 (pt_not (kTru π.K rfl (kDef π.K rfl (W := (fun cls d _ H => E cls d H)) h_is_sign hr (pass_E tk) (pa_cons (pe_ix (kIx π.K rfl) (pv 0) pe_int (fun _ _ => rfl)) pa_nil))))))) (pss_one (ps_ret pe_bl)) pss_nil) (pss_one (ps_ret (pe_or (pe_cmpR (kEq π.K rfl hr) (pe_callB (kLen π.K rfl) (by rfl) B.n_len bt_len (pa_cons (pv 0) pa_nil)) pe_int (nomark _)) (pe_one (pe_and (kDef π.K rfl (W := (fun cls d _ H => E cls d H)) h_is_below hr (pass_E tk) (pa_cons (pe_ix (kIx π.K rfl) (pv 0) pe_int (fun _ _ => rfl)) (pa_cons (pv 1) pa_nil))) (pe_and (kDef π.K rfl (W := (fun cls d _ H => E cls d H)) h_is_sign hr (pass_E tk) (pa_cons (pe_ix (kIx π.K rfl) (pv 0) pe_int (fun _ _ => rfl)) pa_nil)) (pe_one (pe_cmpR (kNe π.K rfl hr) (pe_ix (kIx π.K rfl) (pv 0) pe_int (fun _ _ => rfl)) (pe_ix (kIx π.K rfl) (pv 0) pe_int (fun _ _ => rfl)) (nomark _))))))))))), ?_⟩
    exact (ls_seq (ls_if (lt_or (lt_not (lt_tru (le_call repc_nil (la_cons (le_var 0) la_nil)))) (lt_test (le_op lr_in (le_cb lr_len (la_cons (le_var 0) la_nil)) (le_tup (la_cons le_int (la_cons le_int la_nil)))))) (ls_ret le_bl) ls_next) (ls_seq (ls_if (lt_or (lt_not (lt_tru (le_call repc_nil (la_cons (le_op lr_ix (le_var 0) le_int) (la_cons (le_var 1) la_nil))))) (lt_not (lt_tru (le_call repc_nil (la_cons (le_op lr_ix (le_var 0) le_int) la_nil))))) (ls_ret le_bl) ls_next) (ls_ret (le_orV (le_op lr_eq (le_cb lr_len (la_cons (le_var 0) la_nil)) le_int) (le_andV (le_call repc_nil (la_cons (le_op lr_ix (le_var 0) le_int) (la_cons (le_var 1) la_nil))) (le_andV (le_call repc_nil (la_cons (le_op lr_ix (le_var 0) le_int) la_nil)) (le_op lr_ne (le_op lr_ix (le_var 0) le_int) (le_op lr_ix (le_var 0) le_int))))))))
abbrev s_are_bounds : Stmt := top 31
abbrev N_are_bounds : List Str := ["value"]
theorem sc_are_bounds : FnScope N_are_bounds ["value"] (defScope s_are_bounds) := ⟨rfl, rfl, rfl, by decide +kernel, rfl, by decide +kernel, by decide +kernel⟩
theorem ok_are_bounds {f : Addr} {fd : FuncData} (F : Fn π.K "are_bounds" "are_bounds" s_are_bounds f fd) (B : Base π mg) (h_is_sized : Def P π.w π.K mg base "is_sized" 2 ["value", "many"] [] (S_is_sized π)) (h_is_integer : Def P π.w π.K mg base "is_integer" 1 ["value"] [] (S_is_integer π)) : FnOk P π.w π.K mg base (L2N.CX P π.w) 3 f fd ["value"] (spOf π.K (S_are_bounds π)) := by
    rw [S_are_bounds_eq]
    refine fn_ok F sc_are_bounds fun cdv A outer s H E hr tk => ?_
    refine ⟨_, (pss_one (ps_ret (pe_and (kDef π.K rfl (W := (fun cls d _ H => E cls d H)) h_is_sized hr (pass_E tk) (pa_cons (pv 0) (pa_cons pe_int pa_nil))) (pe_and (kDef π.K rfl (W := (fun cls d _ H => E cls d H)) h_is_integer hr (pass_E tk) (pa_cons (pe_ix (kIx π.K rfl) (pv 0) pe_int (fun _ _ => rfl)) pa_nil)) (pe_and (kDef π.K rfl (W := (fun cls d _ H => E cls d H)) h_is_integer hr (pass_E tk) (pa_cons (pe_ix (kIx π.K rfl) (pv 0) pe_int (fun _ _ => rfl)) pa_nil)) (pe_one (pe_cmpR op_le (pe_ix (kIx π.K rfl) (pv 0) pe_int (fun _ _ => rfl)) (pe_ix (kIx π.K rfl) (pv 0) pe_int (fun _ _ => rfl)) (nomark _)))))))), ?_⟩
    exact (ls_ret (le_andV (le_call repc_nil (la_cons (le_var 0) (la_cons le_int la_nil))) (le_andV (le_call repc_nil (la_cons (le_op lr_ix (le_var 0) le_int) la_nil)) (le_andV (le_call repc_nil (la_cons (le_op lr_ix (le_var 0) le_int) la_nil)) (le_op lr_B0 (le_op lr_ix (le_var 0) le_int) (le_op lr_ix (le_var 0) le_int))))))
abbrev s_check_totals : Stmt := top 33
abbrev N_check_totals : List Str := ["web", "totals", "at", "total"]
theorem sc_check_totals : FnScope N_check_totals ["web", "totals"] (defScope s_check_totals) := ⟨rfl, rfl, rfl, by decide +kernel, rfl, by decide +kernel, by decide +kernel⟩
theorem ok_check_totals {f : Addr} {fd : FuncData} (F : Fn π.K "check_totals" "check_totals" s_check_totals f fd) (B : Base π mg) (h_is_sized : Def P π.w π.K mg base "is_sized" 2 ["value", "many"] [] (S_is_sized π)) (h_is_integer : Def P π.w π.K mg base "is_integer" 1 ["value"] [] (S_is_integer π)) : FnOk P π.w π.K mg base (L2N.CX P π.w) 3 f fd ["web", "totals"] (spOf π.K (S_check_totals π)) := by
    rw [S_check_totals_eq]
    refine fn_ok F sc_check_totals fun cdv A outer s H E hr tk => ?_
    refine ⟨_, (pss_cons (ps_if (pt_not (kTru π.K rfl (kDef π.K rfl (W := (fun cls d _ H => E cls d H)) h_is_sized hr (pass_E tk) (pa_cons (pv 1) (pa_cons (kFld π.K rfl (pv 0) rfl) pa_nil))))) (pss_one (ps_raiseErr B.e_InvalidTotals rfl hr tk (pa_cons (pe_un un_neg pe_int) pa_nil))) pss_nil) (pss_one (ps_for (passes_of rfl) rfl (kEnum π.K rfl rfl B.n_enumerate (pa_cons (pv 1) pa_nil)) (kGtup (n := 2) π.K rfl rfl (pgs_cons (pg_name (i := 2) sc_check_totals.nd rfl (Or.inl rfl)) (pgs_cons (pg_name (i := 3) sc_check_totals.nd rfl (Or.inl rfl)) pgs_nil))) (pss_one (ps_if (pt_not (kTru π.K rfl (kDef π.K rfl (W := (fun cls d _ H => E cls d H)) h_is_integer hr (pass_E tk) (pa_cons (pv 3) pa_nil)))) (pss_one (ps_raiseErr B.e_InvalidTotals rfl hr tk (pa_cons (pv 2) pa_nil))) pss_nil))))), ?_⟩
    exact (ls_seq (ls_if (lt_not (lt_tru (le_call repc_nil (la_cons (le_var 1) (la_cons (le_fld (fun C => B.fl C _) (le_var 0)) la_nil))))) (ls_raise (la_cons (le_un lr_neg le_int) la_nil)) ls_next) (ls_for (li_enum (la_cons (le_var 1) la_nil)) (lg_tup (lgs_cons (lg_name 2) (lgs_cons (lg_name 3) lgs_nil))) (ls_if (lt_not (lt_tru (le_call repc_nil (la_cons (le_var 3) la_nil)))) (ls_raise (la_cons (le_var 2) la_nil)) ls_next)))
abbrev s_lack_of : Stmt := top 38
abbrev N_lack_of : List Str := ["ties", "bounds", "totals", "signs", "asked", "told", "least", "greatest", "size", "sign", "total"]
theorem sc_lack_of : FnScope N_lack_of ["ties", "bounds", "totals", "signs"] (defScope s_lack_of) := ⟨rfl, rfl, rfl, by decide +kernel, rfl, by decide +kernel, by decide +kernel⟩
theorem ok_lack_of {f : Addr} {fd : FuncData} (F : Fn π.K "lack_of" "lack_of" s_lack_of f fd) (B : Base π mg) (h_tie_pull : Def P π.w π.K mg base "tie_pull" 2 ["told", "signs"] [] (S_tie_pull π)) : FnOk P π.w π.K mg base (L2N.CX P π.w) 3 f fd ["ties", "bounds", "totals", "signs"] (spOf π.K (S_lack_of π)) := by
    rw [S_lack_of_eq]
    refine fn_ok F sc_lack_of fun cdv A outer s H E hr tk => ?_
    refine ⟨_, (pss_cons (ps_set (i := 4) sc_lack_of.nd rfl (Or.inl rfl) (pe_callB (kSum π.K rfl rfl) (by rfl) B.n_sum bt_sum (pa_cons (pe_lc (own := [("sign", 9), ("total", 10)]) rfl sc_lack_of.nd (kZip π.K rfl rfl B.n_zip (pa_cons (pv 3) (pa_cons (pv 2) pa_nil))) (blkOk_by (N := N_lack_of) (sc := defScope s_lack_of) (own := [("sign", 9), ("total", 10)]) (by decide +kernel)) (fun _ _ _ _ _ => (kGtup (n := 2) π.K rfl rfl (pgs_cons (pg_name (i := 9) sc_lack_of.nd rfl (Or.inl rfl)) (pgs_cons (pg_name (i := 10) sc_lack_of.nd rfl (Or.inl rfl)) pgs_nil)))) (fun _ _ _ _ _ => pts_nil) (fun _ _ _ _ _ => (pe_op (kMul π.K rfl) (pv 9) (pv 10)))) pa_nil))) (pss_cons (ps_for (passes_of rfl) rfl (kZip π.K rfl rfl B.n_zip (pa_cons (pv 0) (pa_cons (pv 1) pa_nil))) (kGtup (n := 2) π.K rfl rfl (pgs_cons (pg_name (i := 5) sc_lack_of.nd rfl (Or.inl rfl)) (pgs_cons (kGtup (n := 2) π.K rfl rfl (pgs_cons (pg_name (i := 6) sc_lack_of.nd rfl (Or.inl rfl)) (pgs_cons (pg_name (i := 7) sc_lack_of.nd rfl (Or.inl rfl)) pgs_nil))) pgs_nil))) (pss_cons (ps_set (i := 8) sc_lack_of.nd rfl (Or.inl rfl) (kDef π.K rfl (W := (fun cls d _ H => E cls d H)) h_tie_pull hr (pass_E tk) (pa_cons (pv 5) (pa_cons (pv 3) pa_nil)))) (pss_one (ps_aug (i := 4) sc_lack_of.nd rfl (Or.inl rfl) (pe_callB (kMax π.K rfl rfl) (by rfl) B.n_max bt_max (pa_cons (pe_op (kMul π.K rfl) (pv 8) (pv 6)) (pa_cons (pe_op (kMul π.K rfl) (pv 8) (pv 7)) pa_nil))) ip_sub)))) (pss_one (ps_ret (pv 4))))), ?_⟩
    exact (ls_seq (ls_asg (le_cb lr_sum (la_cons (le_lc (li_zip (la_cons (le_var 3) (la_cons (le_var 2) la_nil))) (lg_tup (lgs_cons (lg_name 9) (lgs_cons (lg_name 10) lgs_nil))) (own_tup (own_consN (by decide) (own_consN (by decide) own_nil))) lt_yes (le_op lr_mul (le_var 9) (le_var 10))) la_nil)) (lg_name 4)) (ls_seq (ls_for (li_zip (la_cons (le_var 0) (la_cons (le_var 1) la_nil))) (lg_tup (lgs_cons (lg_name 5) (lgs_cons (lg_tup (lgs_cons (lg_name 6) (lgs_cons (lg_name 7) lgs_nil))) lgs_nil))) (ls_seq (ls_asg (le_call repc_nil (la_cons (le_var 5) (la_cons (le_var 3) la_nil))) (lg_name 8)) (ls_aug (le_cb lr_max (la_cons (le_op lr_mul (le_var 8) (le_var 6)) (la_cons (le_op lr_mul (le_var 8) (le_var 7)) la_nil))) lr_ipI))) (ls_ret (le_var 4))))
abbrev s_fits : Stmt := top 43
abbrev N_fits : List Str := ["web", "bounds", "totals", "value", "number", "least", "most"]
theorem sc_fits : FnScope N_fits ["web", "bounds", "totals", "value"] (defScope s_fits) := ⟨rfl, rfl, rfl, by decide +kernel, rfl, by decide +kernel, by decide +kernel⟩
theorem ok_fits {f : Addr} {fd : FuncData} (F : Fn π.K "fits" "fits" s_fits f fd) (B : Base π mg) (h_is_tuple : Def P π.w π.K mg base "is_tuple" 1 ["value", "many"] [] (S_is_tuple π)) (h_is_integer : Def P π.w π.K mg base "is_integer" 1 ["value"] [] (S_is_integer π)) (h_sums_at : Def P π.w π.K mg base "sums_at" 2 ["web", "numbers"] [] (S_sums_at π)) : FnOk P π.w π.K mg base (L2N.CX P π.w) 3 f fd ["web", "bounds", "totals", "value"] (spOf π.K (S_fits π)) := by
    rw [S_fits_eq]
    refine fn_ok F sc_fits fun cdv A outer s H E hr tk => ?_
    refine ⟨_, (pss_cons (ps_if (PW.pt (pw_or (pt_not (kTru π.K rfl (kDef π.K rfl (W := (fun cls d _ H => E cls d H)) h_is_tuple hr (pass_E tk) (pa_cons (pv 3) (pa_cons (pe_callB (kLen π.K rfl) (by rfl) B.n_len bt_len (pa_cons (kFld π.K rfl (pv 0) rfl) pa_nil)) pa_nil))))) (pw_or1 (pt_not (kTru π.K rfl (pe_callB (kAll π.K rfl rfl) (by rfl) B.n_all bt_all (pa_cons (pe_lc (own := [("number", 4)]) rfl sc_fits.nd (kSeq π.K rfl (pv 3)) (blkOk_by (N := N_fits) (sc := defScope s_fits) (own := [("number", 4)]) (by decide +kernel)) (fun _ _ _ _ _ => (pg_name (i := 4) sc_fits.nd rfl (Or.inl rfl))) (fun _ _ _ _ _ => pts_nil) (fun _ _ _ _ _ => (kDef π.K rfl (W := W0) h_is_integer hr pass_none (pa_cons (pv 4) pa_nil)))) pa_nil))))))) (pss_one (ps_ret pe_bl)) pss_nil) (pss_cons (ps_if (kTru π.K rfl (pe_callB (kAny π.K rfl rfl) (by rfl) B.n_any bt_any (pa_cons (pe_lc (own := [("number", 4), ("least", 5), ("most", 6)]) rfl sc_fits.nd (kZip π.K rfl rfl B.n_zip (pa_cons (pv 3) (pa_cons (pv 1) pa_nil))) (blkOk_by (N := N_fits) (sc := defScope s_fits) (own := [("number", 4), ("least", 5), ("most", 6)]) (by decide +kernel)) (fun _ _ _ _ _ => (kGtup (n := 2) π.K rfl rfl (pgs_cons (pg_name (i := 4) sc_fits.nd rfl (Or.inl rfl)) (pgs_cons (kGtup (n := 2) π.K rfl rfl (pgs_cons (pg_name (i := 5) sc_fits.nd rfl (Or.inl rfl)) (pgs_cons (pg_name (i := 6) sc_fits.nd rfl (Or.inl rfl)) pgs_nil))) pgs_nil)))) (fun _ _ _ _ _ => pts_nil) (fun _ _ _ _ _ => (pe_not (pe_chain op_le op_le (pv 5) (pv 4) (pv 6))))) pa_nil))) (pss_one (ps_ret pe_bl)) pss_nil) (pss_one (ps_ret (pe_cmpR (kEq π.K rfl hr) (kDef π.K rfl (W := (fun cls d _ H => E cls d H)) h_sums_at hr (pass_E tk) (pa_cons (pv 0) (pa_cons (pv 3) pa_nil))) (pe_callTy (kList π.K rfl) (by rfl) B.n_list bt_list (pa_cons (pv 2) pa_nil)) (nomark _)))))), ?_⟩
    exact (ls_seq (ls_if (lt_or (lt_not (lt_tru (le_call repc_nil (la_cons (le_var 3) (la_cons (le_cb lr_len (la_cons (le_fld (fun C => B.fl C _) (le_var 0)) la_nil)) la_nil))))) (lt_not (lt_tru (le_cb lr_all (la_cons (le_lc (li_seq (le_var 3)) (lg_name 4) (own_name (by decide)) lt_yes (le_call repc_nil (la_cons (le_var 4) la_nil))) la_nil))))) (ls_ret le_bl) ls_next) (ls_seq (ls_if (lt_tru (le_cb lr_any (la_cons (le_lc (li_zip (la_cons (le_var 3) (la_cons (le_var 1) la_nil))) (lg_tup (lgs_cons (lg_name 4) (lgs_cons (lg_tup (lgs_cons (lg_name 5) (lgs_cons (lg_name 6) lgs_nil))) lgs_nil))) (own_tup (own_consN (by decide) (own_consT (mono_consN (mono_consN mono_nil)) (own_consN (by decide) (own_consN (by decide) own_nil)) own_nil))) lt_yes (le_notV (le_chain lr_B0 lr_B0 (le_var 5) (le_var 4) (le_var 6)))) la_nil))) (ls_ret le_bl) ls_next) (ls_ret (le_op lr_eq (le_call repc_nil (la_cons (le_var 0) (la_cons (le_var 3) la_nil))) (le_cb lr_listC (la_cons (le_var 2) la_nil))))))
abbrev s_law_amount : Stmt := top 51
abbrev N_law_amount : List Str := ["box", "size", "some"]
theorem sc_law_amount : FnScope N_law_amount ["box", "size"] (defScope s_law_amount) := ⟨rfl, rfl, rfl, by decide +kernel, rfl, by decide +kernel, by decide +kernel⟩
theorem ok_law_amount {f : Addr} {fd : FuncData} (F : Fn π.K "_law_amount" "_law_amount" s_law_amount f fd) (B : Base π mg) (h_law_take : Def P π.w π.K mg base "_law_take" 1 ["box", "many"] [] (S_law_take π)) (h_law_far : Def P π.w π.K mg base "_law_far" 2 ["box", "size"] [] (S_law_far π)) (h_law_pick : Def P π.w π.K mg base "_law_pick" 2 ["box", "some"] [] (S_law_pick π)) : FnOk P π.w π.K mg base (L2N.CX P π.w) 3 f fd ["box", "size"] (spOf π.K (S_law_amount π)) := by
    rw [S_law_amount_eq]
    refine fn_ok F sc_law_amount fun cdv A outer s H E hr tk => ?_
    refine ⟨_, (pss_cons (ps_set (i := 2) sc_law_amount.nd rfl (Or.inl rfl) (pe_lst (pa_cons pe_int (pa_cons (kDef π.K rfl (W := (fun cls d _ H => E cls d H)) h_law_take hr (pass_E tk) (pa_cons (pv 0) (pa_cons pe_int pa_nil))) (pa_cons (kDef π.K rfl (W := (fun cls d _ H => E cls d H)) h_law_take hr (pass_E tk) (pa_cons (pv 0) (pa_cons pe_int pa_nil))) pa_nil))))) (pss_one (ps_ret (pe_callB (kMin π.K rfl rfl) (by rfl) B.n_min bt_min (pa_cons (pv 1) (pa_cons (kDef π.K rfl (W := (fun cls d _ H => E cls d H)) h_law_pick hr (pass_E tk) (pa_cons (pv 0) (pa_cons (pe_op (kAdd π.K rfl) (pv 2) (pe_lst (pa_cons (pe_callB call_abs (by rfl) B.n_abs bt_abs (pa_cons (kDef π.K rfl (W := (fun cls d _ H => E cls d H)) h_law_far hr (pass_E tk) (pa_cons (pv 0) (pa_cons (pv 1) pa_nil))) pa_nil)) pa_nil))) pa_nil))) pa_nil)))))), ?_⟩
    exact (ls_seq (ls_asg (le_lst (la_cons le_int (la_cons (le_call repc_nil (la_cons (le_var 0) (la_cons le_int la_nil))) (la_cons (le_call repc_nil (la_cons (le_var 0) (la_cons le_int la_nil))) la_nil)))) (lg_name 2)) (ls_ret (le_cb lr_min (la_cons (le_var 1) (la_cons (le_call repc_nil (la_cons (le_var 0) (la_cons (le_op lr_add (le_var 2) (le_lst (la_cons (le_cb lr_abs (la_cons (le_call repc_nil (la_cons (le_var 0) (la_cons (le_var 1) la_nil))) la_nil)) la_nil))) la_nil))) la_nil)))))
abbrev s_law_tie : Stmt := top 55
abbrev N_law_tie : List Str := ["box", "points", "near", "even", "one", "sign", "other"]
theorem sc_law_tie : FnScope N_law_tie ["box", "points", "near", "even"] (defScope s_law_tie) := ⟨rfl, rfl, rfl, by decide +kernel, rfl, by decide +kernel, by decide +kernel⟩
theorem ok_law_tie {f : Addr} {fd : FuncData} (F : Fn π.K "_law_tie" "_law_tie" s_law_tie f fd) (B : Base π mg) (h_law_sign : Def P π.w π.K mg base "_law_sign" 2 ["box"] [] (S_law_sign π)) (h_law_take : Def P π.w π.K mg base "_law_take" 1 ["box", "many"] [] (S_law_take π)) : FnOk P π.w π.K mg base (L2N.CX P π.w) 3 f fd ["box", "points", "near", "even"] (spOf π.K (S_law_tie π)) := by
    rw [S_law_tie_eq]
    refine fn_ok F sc_law_tie fun cdv A outer s H E hr tk => ?_
    refine ⟨_, (pss_cons (ps_par (i := 4) (j := 5) rfl sc_law_tie.nd rfl rfl (by decide) rfl rfl (pa_cons (kDef π.K rfl (W := (fun cls d _ H => E cls d H)) h_law_take hr (pass_E tk) (pa_cons (pv 0) (pa_cons (pv 1) pa_nil))) (pa_cons (kDef π.K rfl (W := (fun cls d _ H => E cls d H)) h_law_sign hr (pass_E tk) (pa_cons (pv 0) pa_nil)) pa_nil)) (by rfl)) (pss_cons (ps_set (i := 6) sc_law_tie.nd rfl (Or.inl rfl) (pe_op op_mod (pe_callTy call_int1 (by rfl) B.n_int bt_int (pa_cons (pe_op (kAdd π.K rfl) (pe_op (kAdd π.K rfl) (pv 4) pe_int) (kDef π.K rfl (W := (fun cls d _ H => E cls d H)) h_law_take hr (pass_E tk) (pa_cons (pv 0) (pa_cons (pv 2) pa_nil)))) pa_nil)) (pv 1))) (pss_one (ps_ret (pe_tup (pa_cons (pv 4) (pa_cons (pv 5) (pa_cons (pv 6) (pa_cons (pe_ifExp (pt_cmpR op_ge (kDef π.K rfl (W := (fun cls d _ H => E cls d H)) h_law_take hr (pass_E tk) (pa_cons (pv 0) (pa_cons pe_int pa_nil))) (pv 3) (nomark _)) (pv 5) (pe_un un_neg (pv 5))) pa_nil))))))))), ?_⟩
    exact (ls_seq (ls_par (la_cons (le_call repc_nil (la_cons (le_var 0) (la_cons (le_var 1) la_nil))) (la_cons (le_call repc_nil (la_cons (le_var 0) la_nil)) la_nil))) (ls_seq (ls_asg (le_op lr_I (le_cb lr_intC (la_cons (le_op lr_add (le_op lr_add (le_var 4) le_int) (le_call repc_nil (la_cons (le_var 0) (la_cons (le_var 2) la_nil)))) la_nil)) (le_var 1)) (lg_name 6)) (ls_ret (le_tup (la_cons (le_var 4) (la_cons (le_var 5) (la_cons (le_var 6) (la_cons (le_if (lt_test (le_op lr_B0 (le_call repc_nil (la_cons (le_var 0) (la_cons le_int la_nil))) (le_var 3))) (le_var 5) (le_un lr_neg (le_var 5))) la_nil))))))))
abbrev s_law_rings : Stmt := top 57
abbrev N_law_rings : List Str := ["box", "points", "many", "rings", "turn", "start", "length", "row", "ring", "k"]
theorem sc_law_rings : FnScope N_law_rings ["box", "points", "many"] (defScope s_law_rings) := ⟨rfl, rfl, rfl, by decide +kernel, rfl, by decide +kernel, by decide +kernel⟩
theorem ok_law_rings {f : Addr} {fd : FuncData} (F : Fn π.K "_law_rings" "_law_rings" s_law_rings f fd) (B : Base π mg) (h_law_take : Def P π.w π.K mg base "_law_take" 1 ["box", "many"] [] (S_law_take π)) (h_law_sign : Def P π.w π.K mg base "_law_sign" 2 ["box"] [] (S_law_sign π)) : FnOk P π.w π.K mg base (L2N.CX P π.w) 3 f fd ["box", "points", "many"] (spOf π.K (S_law_rings π)) := by
    rw [S_law_rings_eq]
    refine fn_ok F sc_law_rings fun cdv A outer s H E hr tk => ?_
    refine ⟨_, (pss_cons (ps_set (i := 3) sc_law_rings.nd rfl (Or.inl rfl) (pe_lst pa_nil)) (pss_cons (ps_for (passes_of rfl) rfl (pi_range1 rfl B.n_range (pa_cons (pe_ifExp (pt_cmpR op_gt (pv 1) pe_int (nomark _)) (pv 2) pe_int) pa_nil)) (pg_name (i := 4) sc_law_rings.nd rfl (Or.inl rfl)) (pss_cons (ps_asg (pe_tup (pa_cons (kDef π.K rfl (W := (fun cls d _ H => E cls d H)) h_law_take hr (pass_E tk) (pa_cons (pv 0) (pa_cons (pv 1) pa_nil))) (pa_cons (pe_op (kAdd π.K rfl) pe_int (kDef π.K rfl (W := (fun cls d _ H => E cls d H)) h_law_take hr (pass_E tk) (pa_cons (pv 0) (pa_cons (pe_op op_sub (pe_callB (kMin π.K rfl rfl) (by rfl) B.n_min bt_min (pa_cons (pv 1) (pa_cons pe_int pa_nil))) pe_int) pa_nil)))) pa_nil))) (kGtup (n := 2) π.K rfl rfl (pgs_cons (pg_name (i := 5) sc_law_rings.nd rfl (Or.inr rfl)) (pgs_cons (pg_name (i := 6) sc_law_rings.nd rfl (Or.inl rfl)) pgs_nil)))) (pss_cons (ps_par (i := 7) (j := 8) rfl sc_law_rings.nd rfl rfl (by decide) rfl rfl (pa_cons (pe_lc (own := [("k", 9)]) rfl sc_law_rings.nd (pi_range1 rfl B.n_range (pa_cons (pv 6) pa_nil)) (blkOk_by (N := N_law_rings) (sc := defScope s_law_rings) (own := [("k", 9)]) (by decide +kernel)) (fun _ _ _ _ _ => (pg_name (i := 9) sc_law_rings.nd rfl (Or.inl rfl))) (fun _ _ _ _ _ => pts_nil) (fun _ _ _ _ _ => (pe_op op_mod (pe_callTy call_int1 (by rfl) B.n_int bt_int (pa_cons (pe_op (kAdd π.K rfl) (pv 5) (pv 9)) pa_nil)) (pv 1)))) (pa_cons (pe_lst pa_nil) pa_nil)) (by rfl)) (pss_cons (ps_for (passes_of rfl) rfl (pi_range1 rfl B.n_range (pa_cons (pv 6) pa_nil)) (pg_name (i := 9) sc_law_rings.nd rfl (Or.inl rfl)) (pss_one (ps_expr (pe_bm PySem.F.plainAttrs_list PySem.F.slot_list_append PySem.F.type_list_append mt_append (pv 8) (pa_cons (pe_tup (pa_cons (pe_ix (kIx π.K rfl) (pv 7) (pv 9) (fun _ _ => rfl)) (pa_cons (kDef π.K rfl (W := (fun cls d _ H => E cls d H)) h_law_sign hr (pass_E tk) (pa_cons (pv 0) pa_nil)) (pa_cons (pe_ix (kIx π.K rfl) (pv 7) (pe_op op_mod (pe_callTy call_int1 (by rfl) B.n_int bt_int (pa_cons (pe_op (kAdd π.K rfl) (pv 9) pe_int) pa_nil)) (pv 6)) (fun _ _ => rfl)) (pa_cons (kDef π.K rfl (W := (fun cls d _ H => E cls d H)) h_law_sign hr (pass_E tk) (pa_cons (pv 0) pa_nil)) pa_nil))))) pa_nil))))) (pss_one (ps_expr (pe_bm PySem.F.plainAttrs_list PySem.F.slot_list_append PySem.F.type_list_append mt_append (pv 3) (pa_cons (pv 8) pa_nil)))))))) (pss_one (ps_ret (pv 3))))), ?_⟩
    exact (ls_seq (ls_asg (le_lst la_nil) (lg_name 3)) (ls_seq (ls_for (li_rng1 (la_cons (le_if (lt_test (le_op lr_B0 (le_var 1) le_int)) (le_var 2) le_int) la_nil)) (lg_name 4) (ls_seq (ls_asg (le_tup (la_cons (le_call repc_nil (la_cons (le_var 0) (la_cons (le_var 1) la_nil))) (la_cons (le_op lr_add le_int (le_call repc_nil (la_cons (le_var 0) (la_cons (le_op lr_I0 (le_cb lr_min (la_cons (le_var 1) (la_cons le_int la_nil))) le_int) la_nil)))) la_nil))) (lg_tup (lgs_cons (lg_name 5) (lgs_cons (lg_name 6) lgs_nil)))) (ls_seq (ls_par (la_cons (le_lc (li_rng1 (la_cons (le_var 6) la_nil)) (lg_name 9) (own_name (by decide)) lt_yes (le_op lr_I (le_cb lr_intC (la_cons (le_op lr_add (le_var 5) (le_var 9)) la_nil)) (le_var 1))) (la_cons (le_lst la_nil) la_nil))) (ls_seq (ls_for (li_rng1 (la_cons (le_var 6) la_nil)) (lg_name 9) (ls_drop (le_bm lm_append (le_var 8) (la_cons (le_tup (la_cons (le_op lr_ix (le_var 7) (le_var 9)) (la_cons (le_call repc_nil (la_cons (le_var 0) la_nil)) (la_cons (le_op lr_ix (le_var 7) (le_op lr_I (le_cb lr_intC (la_cons (le_op lr_add (le_var 9) le_int) la_nil)) (le_var 6))) (la_cons (le_call repc_nil (la_cons (le_var 0) la_nil)) la_nil))))) la_nil)))) (ls_drop (le_bm lm_append (le_var 3) (la_cons (le_var 8) la_nil))))))) (ls_ret (le_var 3))))
abbrev s_law_short : Stmt := top 61
abbrev N_law_short : List Str := ["ties", "bounds", "totals", "signs", "left", "tie", "both", "by", "sign", "total"]
theorem sc_law_short : FnScope N_law_short ["ties", "bounds", "totals", "signs"] (defScope s_law_short) := ⟨rfl, rfl, rfl, by decide +kernel, rfl, by decide +kernel, by decide +kernel⟩
theorem ok_law_short {f : Addr} {fd : FuncData} (F : Fn π.K "_law_short" "_law_short" s_law_short f fd) (B : Base π mg) (h_law_pull : Def P π.w π.K mg base "_law_pull" 2 ["tie", "signs"] [] (S_law_pull π)) : FnOk P π.w π.K mg base (L2N.CX P π.w) 3 f fd ["ties", "bounds", "totals", "signs"] (spOf π.K (S_law_short π)) := by
    rw [S_law_short_eq]
    refine fn_ok F sc_law_short fun cdv A outer s H E hr tk => ?_
    refine ⟨_, (pss_cons (ps_set (i := 4) sc_law_short.nd rfl (Or.inl rfl) (pe_callB (kSum π.K rfl rfl) (by rfl) B.n_sum bt_sum (pa_cons (pe_lc (own := [("sign", 8), ("total", 9)]) rfl sc_law_short.nd (kZip π.K rfl rfl B.n_zip (pa_cons (pv 3) (pa_cons (pv 2) pa_nil))) (blkOk_by (N := N_law_short) (sc := defScope s_law_short) (own := [("sign", 8), ("total", 9)]) (by decide +kernel)) (fun _ _ _ _ _ => (kGtup (n := 2) π.K rfl rfl (pgs_cons (pg_name (i := 8) sc_law_short.nd rfl (Or.inl rfl)) (pgs_cons (pg_name (i := 9) sc_law_short.nd rfl (Or.inl rfl)) pgs_nil)))) (fun _ _ _ _ _ => pts_nil) (fun _ _ _ _ _ => (pe_op (kMul π.K rfl) (pv 8) (pv 9)))) pa_nil))) (pss_cons (ps_for (passes_of rfl) rfl (kZip π.K rfl rfl B.n_zip (pa_cons (pv 0) (pa_cons (pv 1) pa_nil))) (kGtup (n := 2) π.K rfl rfl (pgs_cons (pg_name (i := 5) sc_law_short.nd rfl (Or.inl rfl)) (pgs_cons (pg_name (i := 6) sc_law_short.nd rfl (Or.inl rfl)) pgs_nil))) (pss_cons (ps_set (i := 7) sc_law_short.nd rfl (Or.inl rfl) (kDef π.K rfl (W := (fun cls d _ H => E cls d H)) h_law_pull hr (pass_E tk) (pa_cons (pv 5) (pa_cons (pv 3) pa_nil)))) (pss_one (ps_set (i := 4) sc_law_short.nd rfl (Or.inl rfl) (pe_op op_sub (pv 4) (pe_ifExp (pt_cmpR op_gt (pv 7) pe_int (nomark _)) (pe_op (kMul π.K rfl) (pv 7) (pe_ix (kIx π.K rfl) (pv 6) pe_int (fun _ _ => rfl))) (pe_op (kMul π.K rfl) (pv 7) (pe_ix (kIx π.K rfl) (pv 6) pe_int (fun _ _ => rfl))))))))) (pss_one (ps_ret (pv 4))))), ?_⟩
    exact (ls_seq (ls_asg (le_cb lr_sum (la_cons (le_lc (li_zip (la_cons (le_var 3) (la_cons (le_var 2) la_nil))) (lg_tup (lgs_cons (lg_name 8) (lgs_cons (lg_name 9) lgs_nil))) (own_tup (own_consN (by decide) (own_consN (by decide) own_nil))) lt_yes (le_op lr_mul (le_var 8) (le_var 9))) la_nil)) (lg_name 4)) (ls_seq (ls_for (li_zip (la_cons (le_var 0) (la_cons (le_var 1) la_nil))) (lg_tup (lgs_cons (lg_name 5) (lgs_cons (lg_name 6) lgs_nil))) (ls_seq (ls_asg (le_call repc_nil (la_cons (le_var 5) (la_cons (le_var 3) la_nil))) (lg_name 7)) (ls_asg (le_op lr_I0 (le_var 4) (le_if (lt_test (le_op lr_B0 (le_var 7) le_int)) (le_op lr_mul (le_var 7) (le_op lr_ix (le_var 6) le_int)) (le_op lr_mul (le_var 7) (le_op lr_ix (le_var 6) le_int)))) (lg_name 4)))) (ls_ret (le_var 4))))
abbrev s_law_fills : Stmt := top 63
abbrev N_law_fills : List Str := ["points", "ties", "bounds", "totals", "z", "number", "both", "total"]
theorem sc_law_fills : FnScope N_law_fills ["points", "ties", "bounds", "totals", "z"] (defScope s_law_fills) := ⟨rfl, rfl, rfl, by decide +kernel, rfl, by decide +kernel, by decide +kernel⟩
theorem ok_law_fills {f : Addr} {fd : FuncData} (F : Fn π.K "_law_fills" "_law_fills" s_law_fills f fd) (B : Base π mg) (h_law_are_ints : Def P π.w π.K mg base "_law_are_ints" 1 ["value", "many"] [] (S_law_are_ints π)) (h_law_sums : Def P π.w π.K mg base "_law_sums" 2 ["points", "ties", "numbers"] [] (S_law_sums π)) : FnOk P π.w π.K mg base (L2N.CX P π.w) 3 f fd ["points", "ties", "bounds", "totals", "z"] (spOf π.K (S_law_fills π)) := by
    rw [S_law_fills_eq]
    refine fn_ok F sc_law_fills fun cdv A outer s H E hr tk => ?_
    refine ⟨_, (pss_cons (ps_if (pt_not (kTru π.K rfl (kDef π.K rfl (W := (fun cls d _ H => E cls d H)) h_law_are_ints hr (pass_E tk) (pa_cons (pv 4) (pa_cons (pe_callB (kLen π.K rfl) (by rfl) B.n_len bt_len (pa_cons (pv 1) pa_nil)) pa_nil))))) (pss_one (ps_ret pe_bl)) pss_nil) (pss_cons (ps_if (pt_cmpR (kNe π.K rfl hr) (pe_lc (own := [("number", 5), ("both", 6)]) rfl sc_law_fills.nd (kZip π.K rfl rfl B.n_zip (pa_cons (pv 4) (pa_cons (pv 2) pa_nil))) (blkOk_by (N := N_law_fills) (sc := defScope s_law_fills) (own := [("number", 5), ("both", 6)]) (by decide +kernel)) (fun _ _ _ _ _ => (kGtup (n := 2) π.K rfl rfl (pgs_cons (pg_name (i := 5) sc_law_fills.nd rfl (Or.inl rfl)) (pgs_cons (pg_name (i := 6) sc_law_fills.nd rfl (Or.inl rfl)) pgs_nil)))) (fun _ _ _ _ _ => (pts_one (PW.pt (pw_or (pt_cmpR op_lt (pv 5) (pe_op (kMul π.K rfl) pe_int (pe_ix (kIx π.K rfl) (pv 6) pe_int (fun _ _ => rfl))) (nomark _)) (pw_or1 (pt_cmpR op_gt (pv 5) (pe_op (kMul π.K rfl) pe_int (pe_ix (kIx π.K rfl) (pv 6) pe_int (fun _ _ => rfl))) (nomark _))))))) (fun _ _ _ _ _ => pe_int)) (pe_lst pa_nil) (nomark _)) (pss_one (ps_ret pe_bl)) pss_nil) (pss_one (ps_ret (pe_cmpR (kEq π.K rfl hr) (kDef π.K rfl (W := (fun cls d _ H => E cls d H)) h_law_sums hr (pass_E tk) (pa_cons (pv 0) (pa_cons (pv 1) (pa_cons (pv 4) pa_nil)))) (pe_lc (own := [("total", 7)]) rfl sc_law_fills.nd (kSeq π.K rfl (pv 3)) (blkOk_by (N := N_law_fills) (sc := defScope s_law_fills) (own := [("total", 7)]) (by decide +kernel)) (fun _ _ _ _ _ => (pg_name (i := 7) sc_law_fills.nd rfl (Or.inl rfl))) (fun _ _ _ _ _ => pts_nil) (fun _ _ _ _ _ => (pe_op (kMul π.K rfl) pe_int (pv 7)))) (nomark _)))))), ?_⟩
    exact (ls_seq (ls_if (lt_not (lt_tru (le_call repc_nil (la_cons (le_var 4) (la_cons (le_cb lr_len (la_cons (le_var 1) la_nil)) la_nil))))) (ls_ret le_bl) ls_next) (ls_seq (ls_if (lt_test (le_op lr_ne (le_lc (li_zip (la_cons (le_var 4) (la_cons (le_var 2) la_nil))) (lg_tup (lgs_cons (lg_name 5) (lgs_cons (lg_name 6) lgs_nil))) (own_tup (own_consN (by decide) (own_consN (by decide) own_nil))) (lt_or (lt_test (le_op lr_B0 (le_var 5) (le_op lr_mul le_int (le_op lr_ix (le_var 6) le_int)))) (lt_test (le_op lr_B0 (le_var 5) (le_op lr_mul le_int (le_op lr_ix (le_var 6) le_int))))) le_int) (le_lst la_nil))) (ls_ret le_bl) ls_next) (ls_ret (le_op lr_eq (le_call repc_nil (la_cons (le_var 0) (la_cons (le_var 1) (la_cons (le_var 4) la_nil)))) (le_lc (li_seq (le_var 3)) (lg_name 7) (own_name (by decide)) lt_yes (le_op lr_mul le_int (le_var 7)))))))
abbrev s_law_scales : Stmt := top 66
abbrev N_law_scales : List Str := ["box", "few"]
theorem sc_law_scales : FnScope N_law_scales ["box"] (defScope s_law_scales) := ⟨rfl, rfl, rfl, by decide +kernel, rfl, by decide +kernel, by decide +kernel⟩
theorem ok_law_scales {f : Addr} {fd : FuncData} (F : Fn π.K "_law_scales" "_law_scales" s_law_scales f fd) (B : Base π mg) (h_law_take : Def P π.w π.K mg base "_law_take" 1 ["box", "many"] [] (S_law_take π)) (h_law_pick : Def P π.w π.K mg base "_law_pick" 2 ["box", "some"] [] (S_law_pick π)) : FnOk P π.w π.K mg base (L2N.CX P π.w) 3 f fd ["box"] (spOf π.K (S_law_scales π)) := by
    rw [S_law_scales_eq]
    refine fn_ok F sc_law_scales fun cdv A outer s H E hr tk => ?_
    refine ⟨_, (pss_cons (ps_set (i := 1) sc_law_scales.nd rfl (Or.inl rfl) (pe_lst (pa_cons (pe_tup (pa_cons pe_int (pa_cons pe_int (pa_cons pe_int pa_nil)))) (pa_cons (pe_tup (pa_cons pe_int (pa_cons pe_int (pa_cons pe_int pa_nil)))) (pa_cons (pe_tup (pa_cons pe_int (pa_cons pe_int (pa_cons pe_int pa_nil)))) (pa_cons (pe_tup (pa_cons pe_int (pa_cons pe_int (pa_cons pe_int pa_nil)))) (pa_cons (pe_tup (pa_cons pe_int (pa_cons pe_int (pa_cons pe_int pa_nil)))) (pa_cons (pe_tup (pa_cons pe_int (pa_cons pe_int (pa_cons pe_int pa_nil)))) pa_nil)))))))) (pss_one (ps_ret (pe_ifExp (pt_cmpR (kEq π.K rfl hr) (kDef π.K rfl (W := (fun cls d _ H => E cls d H)) h_law_take hr (pass_E tk) (pa_cons (pv 0) (pa_cons pe_int pa_nil))) pe_int (nomark _)) (pe_tup (pa_cons pe_int (pa_cons pe_int (pa_cons pe_int pa_nil)))) (kDef π.K rfl (W := (fun cls d _ H => E cls d H)) h_law_pick hr (pass_E tk) (pa_cons (pv 0) (pa_cons (pv 1) pa_nil))))))), ?_⟩
    exact (ls_seq (ls_asg (le_lst (la_cons (le_tup (la_cons le_int (la_cons le_int (la_cons le_int la_nil)))) (la_cons (le_tup (la_cons le_int (la_cons le_int (la_cons le_int la_nil)))) (la_cons (le_tup (la_cons le_int (la_cons le_int (la_cons le_int la_nil)))) (la_cons (le_tup (la_cons le_int (la_cons le_int (la_cons le_int la_nil)))) (la_cons (le_tup (la_cons le_int (la_cons le_int (la_cons le_int la_nil)))) (la_cons (le_tup (la_cons le_int (la_cons le_int (la_cons le_int la_nil)))) la_nil))))))) (lg_name 1)) (ls_ret (le_if (lt_test (le_op lr_eq (le_call repc_nil (la_cons (le_var 0) (la_cons le_int la_nil))) le_int)) (le_tup (la_cons le_int (la_cons le_int (la_cons le_int la_nil)))) (le_call repc_nil (la_cons (le_var 0) (la_cons (le_var 1) la_nil))))))
abbrev s_law_signs : Stmt := top 67
abbrev N_law_signs : List Str := ["box", "points", "some", "point"]
theorem sc_law_signs : FnScope N_law_signs ["box", "points"] (defScope s_law_signs) := ⟨rfl, rfl, rfl, by decide +kernel, rfl, by decide +kernel, by decide +kernel⟩
theorem ok_law_signs {f : Addr} {fd : FuncData} (F : Fn π.K "_law_signs" "_law_signs" s_law_signs f fd) (B : Base π mg) (h_law_pick : Def P π.w π.K mg base "_law_pick" 2 ["box", "some"] [] (S_law_pick π)) : FnOk P π.w π.K mg base (L2N.CX P π.w) 3 f fd ["box", "points"] (spOf π.K (S_law_signs π)) := by
    rw [S_law_signs_eq]
    refine fn_ok F sc_law_signs fun cdv A outer s H E hr tk => ?_
    refine ⟨_, (pss_cons (ps_set (i := 2) sc_law_signs.nd rfl (Or.inr rfl) (kDef π.K rfl (W := (fun cls d _ H => E cls d H)) h_law_pick hr (pass_E tk) (pa_cons (pv 0) (pa_cons (pe_lst (pa_cons (pe_tup (pa_cons pe_int (pa_cons pe_int (pa_cons (pe_un un_neg pe_int) pa_nil)))) (pa_cons (pe_tup (pa_cons pe_int (pa_cons (pe_un un_neg pe_int) pa_nil))) (pa_cons (pe_tup (pa_cons pe_int (pa_cons pe_int (pa_cons pe_int (pa_cons pe_int (pa_cons (pe_un un_neg pe_int) pa_nil)))))) (pa_cons (pe_tup (pa_cons pe_int (pa_cons pe_int (pa_cons pe_int (pa_cons (pe_un un_neg pe_int) pa_nil))))) pa_nil))))) pa_nil)))) (pss_one (ps_ret (pe_callTy (kTup π.K rfl) (by rfl) B.n_tuple bt_tuple (pa_cons (pe_lc (own := [("point", 3)]) rfl sc_law_signs.nd (pi_range1 rfl B.n_range (pa_cons (pv 1) pa_nil)) (blkOk_by (N := N_law_signs) (sc := defScope s_law_signs) (own := [("point", 3)]) (by decide +kernel)) (fun _ _ _ _ _ => (pg_name (i := 3) sc_law_signs.nd rfl (Or.inl rfl))) (fun _ _ _ _ _ => pts_nil) (fun _ _ _ _ _ => (kDef π.K rfl (W := W0) h_law_pick hr pass_none (pa_cons (pv 0) (pa_cons (pv 2) pa_nil))))) pa_nil))))), ?_⟩
    exact (ls_seq (ls_asg (le_call repc_nil (la_cons (le_var 0) (la_cons (le_lst (la_cons (le_tup (la_cons le_int (la_cons le_int (la_cons (le_un lr_neg le_int) la_nil)))) (la_cons (le_tup (la_cons le_int (la_cons (le_un lr_neg le_int) la_nil))) (la_cons (le_tup (la_cons le_int (la_cons le_int (la_cons le_int (la_cons le_int (la_cons (le_un lr_neg le_int) la_nil)))))) (la_cons (le_tup (la_cons le_int (la_cons le_int (la_cons le_int (la_cons (le_un lr_neg le_int) la_nil))))) la_nil))))) la_nil))) (lg_name 2)) (ls_ret (le_cb lr_tupC (la_cons (le_lc (li_rng1 (la_cons (le_var 1) la_nil)) (lg_name 3) (own_name (by decide)) lt_yes (le_call repc_nil (la_cons (le_var 0) (la_cons (le_var 2) la_nil)))) la_nil))))
abbrev s_law_bent : Stmt := top 70
abbrev N_law_bent : List Str := ["box", "value", "at", "some", "by"]
theorem sc_law_bent : FnScope N_law_bent ["box", "value"] (defScope s_law_bent) := ⟨rfl, rfl, rfl, by decide +kernel, rfl, by decide +kernel, by decide +kernel⟩
theorem ok_law_bent {f : Addr} {fd : FuncData} (F : Fn π.K "_law_bent" "_law_bent" s_law_bent f fd) (B : Base π mg) (h_law_pick : Def P π.w π.K mg base "_law_pick" 2 ["box", "some"] [] (S_law_pick π)) (h_law_take : Def P π.w π.K mg base "_law_take" 1 ["box", "many"] [] (S_law_take π)) (h_law_with : Def P π.w π.K mg base "_law_with" 1 ["row", "at", "value"] [] (S_law_with π)) : FnOk P π.w π.K mg base (L2N.CX P π.w) 3 f fd ["box", "value"] (spOf π.K (S_law_bent π)) := by
    rw [S_law_bent_eq]
    refine fn_ok F sc_law_bent fun cdv A outer s H E hr tk => ?_
    refine ⟨_, (pss_cons (ps_if (pt_cmpR (kEq π.K rfl hr) (pe_callB (kLen π.K rfl) (by rfl) B.n_len bt_len (pa_cons (pv 1) pa_nil)) pe_int (nomark _)) (pss_one (ps_ret (kDef π.K rfl (W := (fun cls d _ H => E cls d H)) h_law_pick hr (pass_E tk) (pa_cons (pv 0) (pa_cons (pe_lst (pa_cons (pe_tup (pa_cons pe_int pa_nil)) (pa_cons (pe_tup (pa_cons pe_non pa_nil)) (pa_cons (pe_tup (pa_cons (pe_tup pa_nil) pa_nil)) pa_nil)))) pa_nil))))) pss_nil) (pss_cons (ps_set (i := 2) sc_law_bent.nd rfl (Or.inr rfl) (kDef π.K rfl (W := (fun cls d _ H => E cls d H)) h_law_take hr (pass_E tk) (pa_cons (pv 0) (pa_cons (pe_callB (kLen π.K rfl) (by rfl) B.n_len bt_len (pa_cons (pv 1) pa_nil)) pa_nil)))) (pss_cons (ps_set (i := 3) sc_law_bent.nd rfl (Or.inl rfl) (pe_lst (pa_cons (pe_op (kAdd π.K rfl) (pv 1) (pe_tup (pa_cons pe_int pa_nil))) (pa_cons (pe_slice (kSl π.K rfl) (pv 1) (po_some pe_int) po_none) (pa_cons (kDef π.K rfl (W := (fun cls d _ H => E cls d H)) h_law_with hr (pass_E tk) (pa_cons (pv 1) (pa_cons (pv 2) (pa_cons pe_non pa_nil)))) (pa_cons (kDef π.K rfl (W := (fun cls d _ H => E cls d H)) h_law_with hr (pass_E tk) (pa_cons (pv 1) (pa_cons (pv 2) (pa_cons (pe_callTy call_str_int (by rfl) B.n_str bt_str (pa_cons (pe_ix (kIx π.K rfl) (pv 1) (pv 2) (fun _ _ => rfl)) pa_nil)) pa_nil)))) pa_nil)))))) (pss_cons (ps_expr (pe_bm PySem.F.plainAttrs_list PySem.F.slot_list_append PySem.F.type_list_append mt_append (pv 3) (pa_cons (kDef π.K rfl (W := (fun cls d _ H => E cls d H)) h_law_with hr (pass_E tk) (pa_cons (pv 1) (pa_cons (pv 2) (pa_cons (pe_tup (pa_cons (pe_ix (kIx π.K rfl) (pv 1) (pv 2) (fun _ _ => rfl)) pa_nil)) pa_nil)))) pa_nil))) (pss_cons (ps_expr (pe_bm PySem.F.plainAttrs_list PySem.F.slot_list_append PySem.F.type_list_append mt_append (pv 3) (pa_cons (pe_ifExp (pt_cmpR (kIn π.K rfl) (pe_ix (kIx π.K rfl) (pv 1) (pv 2) (fun _ _ => rfl)) (pe_tup (pa_cons pe_int (pa_cons pe_int pa_nil))) (by with_unfolding_all rfl)) (kDef π.K rfl (W := (fun cls d _ H => E cls d H)) h_law_with hr (pass_E tk) (pa_cons (pv 1) (pa_cons (pv 2) (pa_cons (pe_cmpR (kEq π.K rfl hr) (pe_ix (kIx π.K rfl) (pv 1) (pv 2) (fun _ _ => rfl)) pe_int (nomark _)) pa_nil)))) (kDef π.K rfl (W := (fun cls d _ H => E cls d H)) h_law_with hr (pass_E tk) (pa_cons (pv 1) (pa_cons (pv 2) (pa_cons pe_bl pa_nil))))) pa_nil))) (pss_cons (ps_set (i := 3) sc_law_bent.nd rfl (Or.inl rfl) (pe_op (kAdd π.K rfl) (pe_op (kAdd π.K rfl) (pv 3) (pe_lc (own := [("by", 4)]) rfl sc_law_bent.nd (kSeq π.K rfl (pe_tup (pa_cons (pe_un un_neg pe_int) (pa_cons (pe_un un_neg pe_int) (pa_cons pe_int (pa_cons pe_int pa_nil)))))) (blkOk_by (N := N_law_bent) (sc := defScope s_law_bent) (own := [("by", 4)]) (by decide +kernel)) (fun _ _ _ _ _ => (pg_name (i := 4) sc_law_bent.nd rfl (Or.inl rfl))) (fun _ _ _ _ _ => pts_nil) (fun _ _ _ _ _ => (kDef π.K rfl (W := W0) h_law_with hr pass_none (pa_cons (pv 1) (pa_cons (pv 2) (pa_cons (pe_op (kAdd π.K rfl) (pe_ix (kIx π.K rfl) (pv 1) (pv 2) (fun _ _ => rfl)) (pv 4)) pa_nil))))))) (pe_lst (pa_cons (pe_rev rfl (pv 1) (pe_un un_neg pe_int)) pa_nil)))) (pss_cons (ps_expr (pe_bm PySem.F.plainAttrs_list PySem.F.slot_list_append PySem.F.type_list_append mt_append (pv 3) (pa_cons (kDef π.K rfl (W := (fun cls d _ H => E cls d H)) h_law_with hr (pass_E tk) (pa_cons (pv 1) (pa_cons (pv 2) (pa_cons (pe_op op_sub pe_int (pe_ix (kIx π.K rfl) (pv 1) (pv 2) (fun _ _ => rfl))) pa_nil)))) pa_nil))) (pss_one (ps_ret (kDef π.K rfl (W := (fun cls d _ H => E cls d H)) h_law_pick hr (pass_E tk) (pa_cons (pv 0) (pa_cons (pv 3) pa_nil)))))))))))), ?_⟩
    exact (ls_seq (ls_if (lt_test (le_op lr_eq (le_cb lr_len (la_cons (le_var 1) la_nil)) le_int)) (ls_ret (le_call repc_nil (la_cons (le_var 0) (la_cons (le_lst (la_cons (le_tup (la_cons le_int la_nil)) (la_cons (le_tup (la_cons le_non la_nil)) (la_cons (le_tup (la_cons (le_tup la_nil) la_nil)) la_nil)))) la_nil)))) ls_next) (ls_seq (ls_asg (le_call repc_nil (la_cons (le_var 0) (la_cons (le_cb lr_len (la_cons (le_var 1) la_nil)) la_nil))) (lg_name 2)) (ls_seq (ls_asg (le_lst (la_cons (le_op lr_add (le_var 1) (le_tup (la_cons le_int la_nil))) (la_cons (le_sl (le_var 1) (lo_some le_int) lo_none) (la_cons (le_call repc_nil (la_cons (le_var 1) (la_cons (le_var 2) (la_cons le_non la_nil)))) (la_cons (le_call repc_nil (la_cons (le_var 1) (la_cons (le_var 2) (la_cons (le_cb lr_strI (la_cons (le_op lr_ix (le_var 1) (le_var 2)) la_nil)) la_nil)))) la_nil))))) (lg_name 3)) (ls_seq (ls_drop (le_bm lm_append (le_var 3) (la_cons (le_call repc_nil (la_cons (le_var 1) (la_cons (le_var 2) (la_cons (le_tup (la_cons (le_op lr_ix (le_var 1) (le_var 2)) la_nil)) la_nil)))) la_nil))) (ls_seq (ls_drop (le_bm lm_append (le_var 3) (la_cons (le_if (lt_test (le_op lr_in (le_op lr_ix (le_var 1) (le_var 2)) (le_tup (la_cons le_int (la_cons le_int la_nil))))) (le_call repc_nil (la_cons (le_var 1) (la_cons (le_var 2) (la_cons (le_op lr_eq (le_op lr_ix (le_var 1) (le_var 2)) le_int) la_nil)))) (le_call repc_nil (la_cons (le_var 1) (la_cons (le_var 2) (la_cons le_bl la_nil))))) la_nil))) (ls_seq (ls_asg (le_op lr_add (le_op lr_add (le_var 3) (le_lc (li_seq (le_tup (la_cons (le_un lr_neg le_int) (la_cons (le_un lr_neg le_int) (la_cons le_int (la_cons le_int la_nil)))))) (lg_name 4) (own_name (by decide)) lt_yes (le_call repc_nil (la_cons (le_var 1) (la_cons (le_var 2) (la_cons (le_op lr_add (le_op lr_ix (le_var 1) (le_var 2)) (le_var 4)) la_nil)))))) (le_lst (la_cons (le_rev (le_var 1)) la_nil))) (lg_name 3)) (ls_seq (ls_drop (le_bm lm_append (le_var 3) (la_cons (le_call repc_nil (la_cons (le_var 1) (la_cons (le_var 2) (la_cons (le_op lr_I0 le_int (le_op lr_ix (le_var 1) (le_var 2))) la_nil)))) la_nil))) (ls_ret (le_call repc_nil (la_cons (le_var 0) (la_cons (le_var 3) la_nil)))))))))))
abbrev s_law_cut : Stmt := top 71
abbrev N_law_cut : List Str := ["box", "bounds", "numbers", "at", "low", "high", "some"]
theorem sc_law_cut : FnScope N_law_cut ["box", "bounds", "numbers", "at"] (defScope s_law_cut) := ⟨rfl, rfl, rfl, by decide +kernel, rfl, by decide +kernel, by decide +kernel⟩
theorem ok_law_cut {f : Addr} {fd : FuncData} (F : Fn π.K "_law_cut" "_law_cut" s_law_cut f fd) (B : Base π mg) (h_law_pick : Def P π.w π.K mg base "_law_pick" 2 ["box", "some"] [] (S_law_pick π)) (h_law_with : Def P π.w π.K mg base "_law_with" 1 ["row", "at", "value"] [] (S_law_with π)) : FnOk P π.w π.K mg base (L2N.CX P π.w) 3 f fd ["box", "bounds", "numbers", "at"] (spOf π.K (S_law_cut π)) := by
    rw [S_law_cut_eq]
    refine fn_ok F sc_law_cut fun cdv A outer s H E hr tk => ?_
    refine ⟨_, (pss_cons (ps_par (i := 4) (j := 5) rfl sc_law_cut.nd rfl rfl (by decide) rfl rfl (pa_cons (pe_op op_fdivW (pe_ix (kIx π.K rfl) (pv 2) (pv 3) (fun _ _ => rfl)) pe_int) (pa_cons (pe_op op_sub pe_int (pe_op op_fdivW (pe_op op_sub pe_int (pe_ix (kIx π.K rfl) (pv 2) (pv 3) (fun _ _ => rfl))) pe_int)) pa_nil)) (by rfl)) (pss_cons (ps_set (i := 6) sc_law_cut.nd rfl (Or.inl rfl) (pe_lst (pa_cons (pe_tup (pa_cons (pv 4) (pa_cons (pe_callB (kMax π.K rfl rfl) (by rfl) B.n_max bt_max (pa_cons (pv 5) (pa_cons (pe_ix (kIx π.K rfl) (pe_ix (kIx π.K rfl) (pv 1) (pv 3) (fun _ _ => rfl)) pe_int (fun _ _ => rfl)) pa_nil))) pa_nil))) (pa_cons (pe_tup (pa_cons (pe_callB (kMin π.K rfl rfl) (by rfl) B.n_min bt_min (pa_cons (pv 4) (pa_cons (pe_ix (kIx π.K rfl) (pe_ix (kIx π.K rfl) (pv 1) (pv 3) (fun _ _ => rfl)) pe_int (fun _ _ => rfl)) pa_nil))) (pa_cons (pv 5) pa_nil))) (pa_cons (pe_tup (pa_cons (pe_op (kAdd π.K rfl) (pv 4) pe_int) (pa_cons (pe_op (kAdd π.K rfl) (pv 5) pe_int) pa_nil))) (pa_cons (pe_tup (pa_cons (pe_op op_sub (pv 4) pe_int) (pa_cons (pe_op op_sub (pv 5) pe_int) pa_nil))) pa_nil)))))) (pss_one (ps_ret (pe_callTy (kList π.K rfl) (by rfl) B.n_list bt_list (pa_cons (kDef π.K rfl (W := (fun cls d _ H => E cls d H)) h_law_with hr (pass_E tk) (pa_cons (pv 1) (pa_cons (pv 3) (pa_cons (kDef π.K rfl (W := (fun cls d _ H => E cls d H)) h_law_pick hr (pass_E tk) (pa_cons (pv 0) (pa_cons (pv 6) pa_nil))) pa_nil)))) pa_nil)))))), ?_⟩
    exact (ls_seq (ls_par (la_cons (le_op lr_I (le_op lr_ix (le_var 2) (le_var 3)) le_int) (la_cons (le_op lr_I0 le_int (le_op lr_I (le_op lr_I0 le_int (le_op lr_ix (le_var 2) (le_var 3))) le_int)) la_nil))) (ls_seq (ls_asg (le_lst (la_cons (le_tup (la_cons (le_var 4) (la_cons (le_cb lr_max (la_cons (le_var 5) (la_cons (le_op lr_ix (le_op lr_ix (le_var 1) (le_var 3)) le_int) la_nil))) la_nil))) (la_cons (le_tup (la_cons (le_cb lr_min (la_cons (le_var 4) (la_cons (le_op lr_ix (le_op lr_ix (le_var 1) (le_var 3)) le_int) la_nil))) (la_cons (le_var 5) la_nil))) (la_cons (le_tup (la_cons (le_op lr_add (le_var 4) le_int) (la_cons (le_op lr_add (le_var 5) le_int) la_nil))) (la_cons (le_tup (la_cons (le_op lr_I0 (le_var 4) le_int) (la_cons (le_op lr_I0 (le_var 5) le_int) la_nil))) la_nil))))) (lg_name 6)) (ls_ret (le_cb lr_listC (la_cons (le_call repc_nil (la_cons (le_var 1) (la_cons (le_var 3) (la_cons (le_call repc_nil (la_cons (le_var 0) (la_cons (le_var 6) la_nil))) la_nil)))) la_nil)))))
abbrev s_Web__init_ : Stmt := inClass (top 24) 0
abbrev N_Web__init_ : List Str := ["self", "points", "ties", "at", "tie"]
theorem sc_Web__init_ : FnScope N_Web__init_ ["self", "points", "ties"] (defScope s_Web__init_) := ⟨rfl, rfl, rfl, by decide +kernel, rfl, by decide +kernel, by decide +kernel⟩
theorem ok_Web__init_ {f : Addr} {fd : FuncData} (F : Fn π.K "__init__" "Web.__init__" s_Web__init_ f fd) (B : Base π mg) (h_check_points : Def P π.w π.K mg base "check_points" 2 ["points"] [] (S_check_points π)) (h_is_sequence : Def P π.w π.K mg base "is_sequence" 1 ["value"] [] (S_is_sequence π)) (h_is_tie : Def P π.w π.K mg base "is_tie" 3 ["value", "points"] [] (S_is_tie π)) (h_ordered_tie : Def P π.w π.K mg base "ordered_tie" 2 ["tie"] [] (S_ordered_tie π)) : FnOk P π.w π.K mg base (L2N.CX P π.w) 4 f fd ["self", "points", "ties"] (spOf π.K (S_Web__init_ π)) := by
    rw [S_Web__init__eq]
    refine fn_ok F sc_Web__init_ fun cdv A outer s H E hr tk => ?_
    refine ⟨_, (pss_cons (ps_expr (kDef π.K rfl (W := (fun cls d _ H => E cls d H)) h_check_points hr (pass_E tk) (pa_cons (pv 1) pa_nil))) (pss_cons (ps_if (PW.pt (pw_or (pt_not (kTru π.K rfl (kDef π.K rfl (W := (fun cls d _ H => E cls d H)) h_is_sequence hr (pass_E tk) (pa_cons (pv 2) pa_nil)))) (pw_or1 (pt_cmpR op_gt (pe_callB (kLen π.K rfl) (by rfl) B.n_len bt_len (pa_cons (pv 2) pa_nil)) (pe_glob (v := .int 3000) rfl B.c_MOST_TIES.choose_spec ⟨_, rfl⟩) (nomark _))))) (pss_one (ps_raiseErr B.e_InvalidTies rfl hr tk (pa_cons (pe_un un_neg pe_int) pa_nil))) pss_nil) (pss_cons (ps_for (passes_of rfl) rfl (kEnum π.K rfl rfl B.n_enumerate (pa_cons (pv 2) pa_nil)) (kGtup (n := 2) π.K rfl rfl (pgs_cons (pg_name (i := 3) sc_Web__init_.nd rfl (Or.inl rfl)) (pgs_cons (pg_name (i := 4) sc_Web__init_.nd rfl (Or.inl rfl)) pgs_nil))) (pss_one (ps_if (pt_not (kTru π.K rfl (kDef π.K rfl (W := (fun cls d _ H => E cls d H)) h_is_tie hr (pass_E tk) (pa_cons (pv 4) (pa_cons (pv 1) pa_nil))))) (pss_one (ps_raiseErr B.e_InvalidTies rfl hr tk (pa_cons (pv 3) pa_nil))) pss_nil))) (pss_cons (ps_fld (pv 0) (pv 1) rfl) (pss_one (ps_fld (pv 0) (pe_callTy (kTup π.K rfl) (by rfl) B.n_tuple bt_tuple (pa_cons (pe_lc (own := [("tie", 4)]) rfl sc_Web__init_.nd (kSeq π.K rfl (pv 2)) (blkOk_by (N := N_Web__init_) (sc := defScope s_Web__init_) (own := [("tie", 4)]) (by decide +kernel)) (fun _ _ _ _ _ => (pg_name (i := 4) sc_Web__init_.nd rfl (Or.inl rfl))) (fun _ _ _ _ _ => pts_nil) (fun _ _ _ _ _ => (kDef π.K rfl (W := W0) h_ordered_tie hr pass_none (pa_cons (pv 4) pa_nil)))) pa_nil)) rfl)))))), ?_⟩
    exact (ls_seq (ls_drop (le_call repc_nil (la_cons (le_var 1) la_nil))) (ls_seq (ls_if (lt_or (lt_not (lt_tru (le_call repc_nil (la_cons (le_var 2) la_nil)))) (lt_test (le_op lr_B0 (le_cb lr_len (la_cons (le_var 2) la_nil)) le_int))) (ls_raise (la_cons (le_un lr_neg le_int) la_nil)) ls_next) (ls_seq (ls_for (li_enum (la_cons (le_var 2) la_nil)) (lg_tup (lgs_cons (lg_name 3) (lgs_cons (lg_name 4) lgs_nil))) (ls_if (lt_not (lt_tru (le_call repc_nil (la_cons (le_var 4) (la_cons (le_var 1) la_nil))))) (ls_raise (la_cons (le_var 3) la_nil)) ls_next)) (ls_seq (ls_fldS (fun C => B.fl C _) (le_var 0) (le_var 1)) (ls_fldS (fun C => B.fl C _) (le_var 0) (le_cb lr_tupC (la_cons (le_lc (li_seq (le_var 2)) (lg_name 4) (own_name (by decide)) lt_yes (le_call repc_nil (la_cons (le_var 4) la_nil))) la_nil)))))))
abbrev s_check_bounds : Stmt := top 32
abbrev N_check_bounds : List Str := ["web", "bounds", "at", "pair"]
theorem sc_check_bounds : FnScope N_check_bounds ["web", "bounds"] (defScope s_check_bounds) := ⟨rfl, rfl, rfl, by decide +kernel, rfl, by decide +kernel, by decide +kernel⟩
theorem ok_check_bounds {f : Addr} {fd : FuncData} (F : Fn π.K "check_bounds" "check_bounds" s_check_bounds f fd) (B : Base π mg) (h_is_sized : Def P π.w π.K mg base "is_sized" 2 ["value", "many"] [] (S_is_sized π)) (h_are_bounds : Def P π.w π.K mg base "are_bounds" 3 ["value"] [] (S_are_bounds π)) : FnOk P π.w π.K mg base (L2N.CX P π.w) 4 f fd ["web", "bounds"] (spOf π.K (S_check_bounds π)) := by
    rw [S_check_bounds_eq]
    refine fn_ok F sc_check_bounds fun cdv A outer s H E hr tk => ?_
    refine ⟨_, (pss_cons (ps_if (pt_not (kTru π.K rfl (kDef π.K rfl (W := (fun cls d _ H => E cls d H)) h_is_sized hr (pass_E tk) (pa_cons (pv 1) (pa_cons (pe_callB (kLen π.K rfl) (by rfl) B.n_len bt_len (pa_cons (kFld π.K rfl (pv 0) rfl) pa_nil)) pa_nil))))) (pss_one (ps_raiseErr B.e_InvalidBounds rfl hr tk (pa_cons (pe_un un_neg pe_int) pa_nil))) pss_nil) (pss_one (ps_for (passes_of rfl) rfl (kEnum π.K rfl rfl B.n_enumerate (pa_cons (pv 1) pa_nil)) (kGtup (n := 2) π.K rfl rfl (pgs_cons (pg_name (i := 2) sc_check_bounds.nd rfl (Or.inl rfl)) (pgs_cons (pg_name (i := 3) sc_check_bounds.nd rfl (Or.inl rfl)) pgs_nil))) (pss_one (ps_if (pt_not (kTru π.K rfl (kDef π.K rfl (W := (fun cls d _ H => E cls d H)) h_are_bounds hr (pass_E tk) (pa_cons (pv 3) pa_nil)))) (pss_one (ps_raiseErr B.e_InvalidBounds rfl hr tk (pa_cons (pv 2) pa_nil))) pss_nil))))), ?_⟩
    exact (ls_seq (ls_if (lt_not (lt_tru (le_call repc_nil (la_cons (le_var 1) (la_cons (le_cb lr_len (la_cons (le_fld (fun C => B.fl C _) (le_var 0)) la_nil)) la_nil))))) (ls_raise (la_cons (le_un lr_neg le_int) la_nil)) ls_next) (ls_for (li_enum (la_cons (le_var 1) la_nil)) (lg_tup (lgs_cons (lg_name 2) (lgs_cons (lg_name 3) lgs_nil))) (ls_if (lt_not (lt_tru (le_call repc_nil (la_cons (le_var 3) la_nil)))) (ls_raise (la_cons (le_var 2) la_nil)) ls_next)))
abbrev s_do_show : Stmt := top 40
abbrev N_do_show : List Str := ["web", "bounds", "totals", "value"]
theorem sc_do_show : FnScope N_do_show ["web", "bounds", "totals", "value"] (defScope s_do_show) := ⟨rfl, rfl, rfl, by decide +kernel, rfl, by decide +kernel, by decide +kernel⟩
theorem ok_do_show {f : Addr} {fd : FuncData} (F : Fn π.K "do_show" "do_show" s_do_show f fd) (B : Base π mg) (h_is_sign_row : Def P π.w π.K mg base "is_sign_row" 3 ["value", "points"] [] (S_is_sign_row π)) (h_lack_of : Def P π.w π.K mg base "lack_of" 3 ["ties", "bounds", "totals", "signs"] [] (S_lack_of π)) : FnOk P π.w π.K mg base (L2N.CX P π.w) 4 f fd ["web", "bounds", "totals", "value"] (spOf π.K (S_do_show π)) := by
    rw [S_do_show_eq]
    refine fn_ok F sc_do_show fun cdv A outer s H E hr tk => ?_
    refine ⟨_, (pss_one (ps_ret (pe_and (kDef π.K rfl (W := (fun cls d _ H => E cls d H)) h_is_sign_row hr (pass_E tk) (pa_cons (pv 3) (pa_cons (kFld π.K rfl (pv 0) rfl) pa_nil))) (pe_one (pe_cmpR op_gt (kDef π.K rfl (W := (fun cls d _ H => E cls d H)) h_lack_of hr (pass_E tk) (pa_cons (kFld π.K rfl (pv 0) rfl) (pa_cons (pv 1) (pa_cons (pv 2) (pa_cons (pv 3) pa_nil))))) pe_int (nomark _)))))), ?_⟩
    exact (ls_ret (le_andV (le_call repc_nil (la_cons (le_var 3) (la_cons (le_fld (fun C => B.fl C _) (le_var 0)) la_nil))) (le_op lr_B0 (le_call repc_nil (la_cons (le_fld (fun C => B.fl C _) (le_var 0)) (la_cons (le_var 1) (la_cons (le_var 2) (la_cons (le_var 3) la_nil))))) le_int)))
abbrev s_filling_holds : Stmt := top 42
abbrev N_filling_holds : List Str := ["web", "box", "value", "least", "most", "total"]
theorem sc_filling_holds : FnScope N_filling_holds ["web", "box", "value"] (defScope s_filling_holds) := ⟨rfl, rfl, rfl, by decide +kernel, rfl, by decide +kernel, by decide +kernel⟩
theorem ok_filling_holds {f : Addr} {fd : FuncData} (F : Fn π.K "filling_holds" "filling_holds" s_filling_holds f fd) (B : Base π mg) (h_check_web_box : Def P π.w π.K mg base "check_web_box" 2 ["web", "box"] [] (S_check_web_box π)) (h_fits : Def P π.w π.K mg base "fits" 3 ["web", "bounds", "totals", "value"] [] (S_fits π)) : FnOk P π.w π.K mg base (L2N.CX P π.w) 4 f fd ["web", "box", "value"] (spOf π.K (S_filling_holds π)) := by
    rw [S_filling_holds_eq]
    refine fn_ok F sc_filling_holds fun cdv A outer s H E hr tk => ?_
    refine ⟨_, (pss_cons (ps_expr (kDef π.K rfl (W := (fun cls d _ H => E cls d H)) h_check_web_box hr (pass_E tk) (pa_cons (pv 0) (pa_cons (pv 1) pa_nil)))) (pss_one (ps_ret (kDef π.K rfl (W := (fun cls d _ H => E cls d H)) h_fits hr (pass_E tk) (pa_cons (pv 0) (pa_cons (pe_lc (own := [("least", 3), ("most", 4)]) rfl sc_filling_holds.nd (kSeq π.K rfl (kFld π.K rfl (pv 1) rfl)) (blkOk_by (N := N_filling_holds) (sc := defScope s_filling_holds) (own := [("least", 3), ("most", 4)]) (by decide +kernel)) (fun _ _ _ _ _ => (kGtup (n := 2) π.K rfl rfl (pgs_cons (pg_name (i := 3) sc_filling_holds.nd rfl (Or.inl rfl)) (pgs_cons (pg_name (i := 4) sc_filling_holds.nd rfl (Or.inl rfl)) pgs_nil)))) (fun _ _ _ _ _ => pts_nil) (fun _ _ _ _ _ => (pe_tup (pa_cons (pe_op (kMul π.K rfl) pe_int (pv 3)) (pa_cons (pe_op (kMul π.K rfl) pe_int (pv 4)) pa_nil))))) (pa_cons (pe_lc (own := [("total", 5)]) rfl sc_filling_holds.nd (kSeq π.K rfl (kFld π.K rfl (pv 1) rfl)) (blkOk_by (N := N_filling_holds) (sc := defScope s_filling_holds) (own := [("total", 5)]) (by decide +kernel)) (fun _ _ _ _ _ => (pg_name (i := 5) sc_filling_holds.nd rfl (Or.inl rfl))) (fun _ _ _ _ _ => pts_nil) (fun _ _ _ _ _ => (pe_op (kMul π.K rfl) pe_int (pv 5)))) (pa_cons (pv 2) pa_nil)))))))), ?_⟩
    exact (ls_seq (ls_drop (le_call repc_nil (la_cons (le_var 0) (la_cons (le_var 1) la_nil)))) (ls_ret (le_call repc_nil (la_cons (le_var 0) (la_cons (le_lc (li_seq (le_fld (fun C => B.fl C _) (le_var 1))) (lg_tup (lgs_cons (lg_name 3) (lgs_cons (lg_name 4) lgs_nil))) (own_tup (own_consN (by decide) (own_consN (by decide) own_nil))) lt_yes (le_tup (la_cons (le_op lr_mul le_int (le_var 3)) (la_cons (le_op lr_mul le_int (le_var 4)) la_nil)))) (la_cons (le_lc (li_seq (le_fld (fun C => B.fl C _) (le_var 1))) (lg_name 5) (own_name (by decide)) lt_yes (le_op lr_mul le_int (le_var 5))) (la_cons (le_var 2) la_nil)))))))
abbrev s_law_web : Stmt := top 56
abbrev N_law_web : List Str := ["box", "points", "twos", "loose", "ties", "near", "even", "left", "turn"]
theorem sc_law_web : FnScope N_law_web ["box", "points", "twos", "loose"] (defScope s_law_web) := ⟨rfl, rfl, rfl, by decide +kernel, rfl, by decide +kernel, by decide +kernel⟩
theorem ok_law_web {f : Addr} {fd : FuncData} (F : Fn π.K "_law_web" "_law_web" s_law_web f fd) (B : Base π mg) (h_law_take : Def P π.w π.K mg base "_law_take" 1 ["box", "many"] [] (S_law_take π)) (h_law_sign : Def P π.w π.K mg base "_law_sign" 2 ["box"] [] (S_law_sign π)) (h_law_tie : Def P π.w π.K mg base "_law_tie" 3 ["box", "points", "near", "even"] [] (S_law_tie π)) : FnOk P π.w π.K mg base (L2N.CX P π.w) 4 f fd ["box", "points", "twos", "loose"] (spOf π.K (S_law_web π)) := by
    rw [S_law_web_eq]
    refine fn_ok F sc_law_web fun cdv A outer s H E hr tk => ?_
    refine ⟨_, (pss_cons (ps_par3 (i := 4) (j := 5) (l := 6) rfl sc_law_web.nd rfl rfl rfl (by decide) (by decide) (by decide) rfl rfl rfl (pa_cons (pe_lst pa_nil) (pa_cons (pe_op (kAdd π.K rfl) pe_int (kDef π.K rfl (W := (fun cls d _ H => E cls d H)) h_law_take hr (pass_E tk) (pa_cons (pv 0) (pa_cons (pe_callB (kMax π.K rfl rfl) (by rfl) B.n_max bt_max (pa_cons pe_int (pa_cons (pe_op op_sub (pv 1) pe_int) pa_nil))) pa_nil)))) (pa_cons (kDef π.K rfl (W := (fun cls d _ H => E cls d H)) h_law_take hr (pass_E tk) (pa_cons (pv 0) (pa_cons pe_int pa_nil))) pa_nil))) (by rfl)) (pss_cons (ps_set (i := 7) sc_law_web.nd rfl (Or.inl rfl) (pe_lst (pa_cons (pe_ifExp (pt_cmpR op_gt (pv 1) pe_int (nomark _)) (pv 2) pe_int) (pa_cons (pv 3) pa_nil)))) (pss_cons (ps_for (passes_of rfl) rfl (pi_range1 rfl B.n_range (pa_cons (pe_op (kAdd π.K rfl) (pe_ix (kIx π.K rfl) (pv 7) pe_int (fun _ _ => rfl)) (pe_ix (kIx π.K rfl) (pv 7) pe_int (fun _ _ => rfl))) pa_nil)) (pg_name (i := 8) sc_law_web.nd rfl (Or.inl rfl)) (pss_one (ps_if (pt_cmpR op_lt (kDef π.K rfl (W := (fun cls d _ H => E cls d H)) h_law_take hr (pass_E tk) (pa_cons (pv 0) (pa_cons (pe_op (kAdd π.K rfl) (pe_ix (kIx π.K rfl) (pv 7) pe_int (fun _ _ => rfl)) (pe_ix (kIx π.K rfl) (pv 7) pe_int (fun _ _ => rfl))) pa_nil))) (pe_ix (kIx π.K rfl) (pv 7) pe_int (fun _ _ => rfl)) (nomark _)) (pss_cons (ps_expr (pe_bm PySem.F.plainAttrs_list PySem.F.slot_list_append PySem.F.type_list_append mt_append (pv 4) (pa_cons (pe_tup (pa_cons (kDef π.K rfl (W := (fun cls d _ H => E cls d H)) h_law_take hr (pass_E tk) (pa_cons (pv 0) (pa_cons (pv 1) pa_nil))) (pa_cons (kDef π.K rfl (W := (fun cls d _ H => E cls d H)) h_law_sign hr (pass_E tk) (pa_cons (pv 0) pa_nil)) pa_nil))) pa_nil))) (pss_one (ps_asg (pe_op op_sub (pe_ix (kIx π.K rfl) (pv 7) pe_int (fun _ _ => rfl)) pe_int) (pg_sub (pv 7) pe_int set_list (fun _ => rfl))))) (pss_cons (ps_expr (pe_bm PySem.F.plainAttrs_list PySem.F.slot_list_append PySem.F.type_list_append mt_append (pv 4) (pa_cons (kDef π.K rfl (W := (fun cls d _ H => E cls d H)) h_law_tie hr (pass_E tk) (pa_cons (pv 0) (pa_cons (pv 1) (pa_cons (pv 5) (pa_cons (pv 6) pa_nil))))) pa_nil))) (pss_one (ps_asg (pe_op op_sub (pe_ix (kIx π.K rfl) (pv 7) pe_int (fun _ _ => rfl)) pe_int) (pg_sub (pv 7) pe_int set_list (fun _ => rfl)))))))) (pss_one (ps_ret (pv 4)))))), ?_⟩
    exact (ls_seq (ls_par3 (la_cons (le_lst la_nil) (la_cons (le_op lr_add le_int (le_call repc_nil (la_cons (le_var 0) (la_cons (le_cb lr_max (la_cons le_int (la_cons (le_op lr_I0 (le_var 1) le_int) la_nil))) la_nil)))) (la_cons (le_call repc_nil (la_cons (le_var 0) (la_cons le_int la_nil))) la_nil)))) (ls_seq (ls_asg (le_lst (la_cons (le_if (lt_test (le_op lr_B0 (le_var 1) le_int)) (le_var 2) le_int) (la_cons (le_var 3) la_nil))) (lg_name 7)) (ls_seq (ls_for (li_rng1 (la_cons (le_op lr_add (le_op lr_ix (le_var 7) le_int) (le_op lr_ix (le_var 7) le_int)) la_nil)) (lg_name 8) (ls_if (lt_test (le_op lr_B0 (le_call repc_nil (la_cons (le_var 0) (la_cons (le_op lr_add (le_op lr_ix (le_var 7) le_int) (le_op lr_ix (le_var 7) le_int)) la_nil))) (le_op lr_ix (le_var 7) le_int))) (ls_seq (ls_drop (le_bm lm_append (le_var 4) (la_cons (le_tup (la_cons (le_call repc_nil (la_cons (le_var 0) (la_cons (le_var 1) la_nil))) (la_cons (le_call repc_nil (la_cons (le_var 0) la_nil)) la_nil))) la_nil))) (ls_asg (le_op lr_I0 (le_op lr_ix (le_var 7) le_int) le_int) (lg_sub (le_var 7) le_int))) (ls_seq (ls_drop (le_bm lm_append (le_var 4) (la_cons (le_call repc_nil (la_cons (le_var 0) (la_cons (le_var 1) (la_cons (le_var 5) (la_cons (le_var 6) la_nil))))) la_nil))) (ls_asg (le_op lr_I0 (le_op lr_ix (le_var 7) le_int) le_int) (lg_sub (le_var 7) le_int))))) (ls_ret (le_var 4)))))
abbrev s_law_full : Stmt := top 68
abbrev N_law_full : List Str := ["box", "ties", "size", "halves", "bounds", "numbers", "at", "z"]
theorem sc_law_full : FnScope N_law_full ["box", "ties", "size", "halves"] (defScope s_law_full) := ⟨rfl, rfl, rfl, by decide +kernel, rfl, by decide +kernel, by decide +kernel⟩
theorem ok_law_full {f : Addr} {fd : FuncData} (F : Fn π.K "_law_full" "_law_full" s_law_full f fd) (B : Base π mg) (h_law_far : Def P π.w π.K mg base "_law_far" 2 ["box", "size"] [] (S_law_far π)) (h_law_amount : Def P π.w π.K mg base "_law_amount" 3 ["box", "size"] [] (S_law_amount π)) : FnOk P π.w π.K mg base (L2N.CX P π.w) 4 f fd ["box", "ties", "size", "halves"] (spOf π.K (S_law_full π)) := by
    rw [S_law_full_eq]
    refine fn_ok F sc_law_full fun cdv A outer s H E hr tk => ?_
    refine ⟨_, (pss_cons (ps_par (i := 4) (j := 5) rfl sc_law_full.nd rfl rfl (by decide) rfl rfl (pa_cons (pe_lst pa_nil) (pa_cons (pe_lst pa_nil) pa_nil)) (by rfl)) (pss_cons (ps_for (passes_of rfl) rfl (pi_range1 rfl B.n_range (pa_cons (pe_callB (kLen π.K rfl) (by rfl) B.n_len bt_len (pa_cons (pv 1) pa_nil)) pa_nil)) (pg_name (i := 6) sc_law_full.nd rfl (Or.inl rfl)) (pss_cons (ps_set (i := 7) sc_law_full.nd rfl (Or.inl rfl) (pe_op (kAdd π.K rfl) (pe_op (kMul π.K rfl) pe_int (kDef π.K rfl (W := (fun cls d _ H => E cls d H)) h_law_far hr (pass_E tk) (pa_cons (pv 0) (pa_cons (pv 2) pa_nil)))) (pe_ix (kIx π.K rfl) (pv 3) (pv 6) (fun _ _ => rfl)))) (pss_cons (ps_expr (pe_bm PySem.F.plainAttrs_list PySem.F.slot_list_append PySem.F.type_list_append mt_append (pv 4) (pa_cons (pe_tup (pa_cons (pe_op op_sub (pe_op op_fdivW (pv 7) pe_int) (kDef π.K rfl (W := (fun cls d _ H => E cls d H)) h_law_amount hr (pass_E tk) (pa_cons (pv 0) (pa_cons (pv 2) pa_nil)))) (pa_cons (pe_op (kAdd π.K rfl) (pe_op (kAdd π.K rfl) (pe_op op_fdivW (pv 7) pe_int) (pe_op op_mod (pe_callTy call_int1 (by rfl) B.n_int bt_int (pa_cons (pv 7) pa_nil)) pe_int)) (kDef π.K rfl (W := (fun cls d _ H => E cls d H)) h_law_amount hr (pass_E tk) (pa_cons (pv 0) (pa_cons (pv 2) pa_nil)))) pa_nil))) pa_nil))) (pss_one (ps_expr (pe_bm PySem.F.plainAttrs_list PySem.F.slot_list_append PySem.F.type_list_append mt_append (pv 5) (pa_cons (pv 7) pa_nil))))))) (pss_one (ps_ret (pe_tup (pa_cons (pv 4) (pa_cons (pv 5) pa_nil))))))), ?_⟩
    exact (ls_seq (ls_par (la_cons (le_lst la_nil) (la_cons (le_lst la_nil) la_nil))) (ls_seq (ls_for (li_rng1 (la_cons (le_cb lr_len (la_cons (le_var 1) la_nil)) la_nil)) (lg_name 6) (ls_seq (ls_asg (le_op lr_add (le_op lr_mul le_int (le_call repc_nil (la_cons (le_var 0) (la_cons (le_var 2) la_nil)))) (le_op lr_ix (le_var 3) (le_var 6))) (lg_name 7)) (ls_seq (ls_drop (le_bm lm_append (le_var 4) (la_cons (le_tup (la_cons (le_op lr_I0 (le_op lr_I (le_var 7) le_int) (le_call repc_nil (la_cons (le_var 0) (la_cons (le_var 2) la_nil)))) (la_cons (le_op lr_add (le_op lr_add (le_op lr_I (le_var 7) le_int) (le_op lr_I (le_cb lr_intC (la_cons (le_var 7) la_nil)) le_int)) (le_call repc_nil (la_cons (le_var 0) (la_cons (le_var 2) la_nil)))) la_nil))) la_nil))) (ls_drop (le_bm lm_append (le_var 5) (la_cons (le_var 7) la_nil)))))) (ls_ret (le_tup (la_cons (le_var 4) (la_cons (le_var 5) la_nil))))))
abbrev s_Box__init_ : Stmt := inClass (top 30) 0
abbrev N_Box__init_ : List Str := ["self", "web", "bounds", "totals", "pair"]
theorem sc_Box__init_ : FnScope N_Box__init_ ["self", "web", "bounds", "totals"] (defScope s_Box__init_) := ⟨rfl, rfl, rfl, by decide +kernel, rfl, by decide +kernel, by decide +kernel⟩
theorem ok_Box__init_ {f : Addr} {fd : FuncData} (F : Fn π.K "__init__" "Box.__init__" s_Box__init_ f fd) (B : Base π mg) (h_check_bounds : Def P π.w π.K mg base "check_bounds" 4 ["web", "bounds"] [] (S_check_bounds π)) (h_check_totals : Def P π.w π.K mg base "check_totals" 3 ["web", "totals"] [] (S_check_totals π)) (h_check_web_d : Def P π.w π.K mg base "check_web" 1 ["web", "at"] [.int (-1)] (S_check_web π)) : FnOk P π.w π.K mg base (L2N.CX P π.w) 5 f fd ["self", "web", "bounds", "totals"] (spOf π.K (S_Box__init_ π)) := by
    rw [S_Box__init__eq]
    refine fn_ok F sc_Box__init_ fun cdv A outer s H E hr tk => ?_
    refine ⟨_, (pss_cons (ps_expr (kDef π.K rfl (W := (fun cls d _ H => E cls d H)) h_check_web_d hr (pass_E tk) (pa_cons (pv 1) pa_nil))) (pss_cons (ps_expr (kDef π.K rfl (W := (fun cls d _ H => E cls d H)) h_check_bounds hr (pass_E tk) (pa_cons (pv 1) (pa_cons (pv 2) pa_nil)))) (pss_cons (ps_expr (kDef π.K rfl (W := (fun cls d _ H => E cls d H)) h_check_totals hr (pass_E tk) (pa_cons (pv 1) (pa_cons (pv 3) pa_nil)))) (pss_cons (ps_fld (pv 0) (pe_callTy (kTup π.K rfl) (by rfl) B.n_tuple bt_tuple (pa_cons (pe_lc (own := [("pair", 4)]) rfl sc_Box__init_.nd (kSeq π.K rfl (pv 2)) (blkOk_by (N := N_Box__init_) (sc := defScope s_Box__init_) (own := [("pair", 4)]) (by decide +kernel)) (fun _ _ _ _ _ => (pg_name (i := 4) sc_Box__init_.nd rfl (Or.inl rfl))) (fun _ _ _ _ _ => pts_nil) (fun _ _ _ _ _ => (pe_callTy (kTup π.K rfl) (by rfl) B.n_tuple bt_tuple (pa_cons (pv 4) pa_nil)))) pa_nil)) rfl) (pss_one (ps_fld (pv 0) (pe_callTy (kTup π.K rfl) (by rfl) B.n_tuple bt_tuple (pa_cons (pv 3) pa_nil)) rfl)))))), ?_⟩
    exact (ls_seq (ls_drop (le_call repc_int (la_cons (le_var 1) la_nil))) (ls_seq (ls_drop (le_call repc_nil (la_cons (le_var 1) (la_cons (le_var 2) la_nil)))) (ls_seq (ls_drop (le_call repc_nil (la_cons (le_var 1) (la_cons (le_var 3) la_nil)))) (ls_seq (ls_fldS (fun C => B.fl C _) (le_var 0) (le_cb lr_tupC (la_cons (le_lc (li_seq (le_var 2)) (lg_name 4) (own_name (by decide)) lt_yes (le_cb lr_tupC (la_cons (le_var 4) la_nil))) la_nil))) (ls_fldS (fun C => B.fl C _) (le_var 0) (le_cb lr_tupC (la_cons (le_var 3) la_nil)))))))
abbrev s_signs_show : Stmt := top 39
abbrev N_signs_show : List Str := ["web", "box", "value"]
theorem sc_signs_show : FnScope N_signs_show ["web", "box", "value"] (defScope s_signs_show) := ⟨rfl, rfl, rfl, by decide +kernel, rfl, by decide +kernel, by decide +kernel⟩
theorem ok_signs_show {f : Addr} {fd : FuncData} (F : Fn π.K "signs_show" "signs_show" s_signs_show f fd) (B : Base π mg) (h_check_web_box : Def P π.w π.K mg base "check_web_box" 2 ["web", "box"] [] (S_check_web_box π)) (h_do_show : Def P π.w π.K mg base "do_show" 4 ["web", "bounds", "totals", "value"] [] (S_do_show π)) : FnOk P π.w π.K mg base (L2N.CX P π.w) 5 f fd ["web", "box", "value"] (spOf π.K (S_signs_show π)) := by
    rw [S_signs_show_eq]
    refine fn_ok F sc_signs_show fun cdv A outer s H E hr tk => ?_
    refine ⟨_, (pss_cons (ps_expr (kDef π.K rfl (W := (fun cls d _ H => E cls d H)) h_check_web_box hr (pass_E tk) (pa_cons (pv 0) (pa_cons (pv 1) pa_nil)))) (pss_one (ps_ret (kDef π.K rfl (W := (fun cls d _ H => E cls d H)) h_do_show hr (pass_E tk) (pa_cons (pv 0) (pa_cons (kFld π.K rfl (pv 1) rfl) (pa_cons (kFld π.K rfl (pv 1) rfl) (pa_cons (pv 2) pa_nil)))))))), ?_⟩
    exact (ls_seq (ls_drop (le_call repc_nil (la_cons (le_var 0) (la_cons (le_var 1) la_nil)))) (ls_ret (le_call repc_nil (la_cons (le_var 0) (la_cons (le_fld (fun C => B.fl C _) (le_var 1)) (la_cons (le_fld (fun C => B.fl C _) (le_var 1)) (la_cons (le_var 2) la_nil)))))))
abbrev s_fill_holds : Stmt := top 45
abbrev N_fill_holds : List Str := ["web", "box", "value"]
theorem sc_fill_holds : FnScope N_fill_holds ["web", "box", "value"] (defScope s_fill_holds) := ⟨rfl, rfl, rfl, by decide +kernel, rfl, by decide +kernel, by decide +kernel⟩
theorem ok_fill_holds {f : Addr} {fd : FuncData} (F : Fn π.K "fill_holds" "fill_holds" s_fill_holds f fd) (B : Base π mg) (h_check_web_box : Def P π.w π.K mg base "check_web_box" 2 ["web", "box"] [] (S_check_web_box π)) (h_is_paper : Def P π.w π.K mg base "is_paper" 2 ["value", "word", "many"] [] (S_is_paper π)) (h_filling_holds : Def P π.w π.K mg base "filling_holds" 4 ["web", "box", "value"] [] (S_filling_holds π)) (h_do_show : Def P π.w π.K mg base "do_show" 4 ["web", "bounds", "totals", "value"] [] (S_do_show π)) : FnOk P π.w π.K mg base (L2N.CX P π.w) 5 f fd ["web", "box", "value"] (spOf π.K (S_fill_holds π)) := by
    rw [S_fill_holds_eq]
    refine fn_ok F sc_fill_holds fun cdv A outer s H E hr tk => ?_
    refine ⟨_, (pss_cons (ps_expr (kDef π.K rfl (W := (fun cls d _ H => E cls d H)) h_check_web_box hr (pass_E tk) (pa_cons (pv 0) (pa_cons (pv 1) pa_nil)))) (pss_cons (ps_if (kTru π.K rfl (kDef π.K rfl (W := (fun cls d _ H => E cls d H)) h_is_paper hr (pass_E tk) (pa_cons (pv 2) (pa_cons pe_str (pa_cons pe_int pa_nil))))) (pss_one (ps_ret (kDef π.K rfl (W := (fun cls d _ H => E cls d H)) h_filling_holds hr (pass_E tk) (pa_cons (pv 0) (pa_cons (pv 1) (pa_cons (pe_ix (kIx π.K rfl) (pv 2) pe_int (fun _ _ => rfl)) pa_nil)))))) pss_nil) (pss_one (ps_ret (pe_and (kDef π.K rfl (W := (fun cls d _ H => E cls d H)) h_is_paper hr (pass_E tk) (pa_cons (pv 2) (pa_cons pe_str (pa_cons pe_int pa_nil)))) (pe_one (kDef π.K rfl (W := (fun cls d _ H => E cls d H)) h_do_show hr (pass_E tk) (pa_cons (pv 0) (pa_cons (kFld π.K rfl (pv 1) rfl) (pa_cons (kFld π.K rfl (pv 1) rfl) (pa_cons (pe_ix (kIx π.K rfl) (pv 2) pe_int (fun _ _ => rfl)) pa_nil))))))))))), ?_⟩
    exact (ls_seq (ls_drop (le_call repc_nil (la_cons (le_var 0) (la_cons (le_var 1) la_nil)))) (ls_seq (ls_if (lt_tru (le_call repc_nil (la_cons (le_var 2) (la_cons le_str (la_cons le_int la_nil))))) (ls_ret (le_call repc_nil (la_cons (le_var 0) (la_cons (le_var 1) (la_cons (le_op lr_ix (le_var 2) le_int) la_nil))))) ls_next) (ls_ret (le_andV (le_call repc_nil (la_cons (le_var 2) (la_cons le_str (la_cons le_int la_nil)))) (le_call repc_nil (la_cons (le_var 0) (la_cons (le_fld (fun C => B.fl C _) (le_var 1)) (la_cons (le_fld (fun C => B.fl C _) (le_var 1)) (la_cons (le_op lr_ix (le_var 2) le_int) la_nil)))))))))
abbrev s_law_asked : Stmt := top 69
abbrev N_law_asked : List Str := ["box", "points", "ties", "bounds", "totals", "value", "web", "own", "is_filling", "is_shown", "words"]
theorem sc_law_asked : FnScope N_law_asked ["box", "points", "ties", "bounds", "totals", "value"] (defScope s_law_asked) := ⟨rfl, rfl, rfl, by decide +kernel, rfl, by decide +kernel, by decide +kernel⟩
theorem ok_law_asked {f : Addr} {fd : FuncData} (F : Fn π.K "_law_asked" "_law_asked" s_law_asked f fd) (B : Base π mg) (h_law_fills : Def P π.w π.K mg base "_law_fills" 3 ["points", "ties", "bounds", "totals", "z"] [] (S_law_fills π)) (h_law_are_signs : Def P π.w π.K mg base "_law_are_signs" 2 ["value", "points"] [] (S_law_are_signs π)) (h_law_short : Def P π.w π.K mg base "_law_short" 3 ["ties", "bounds", "totals", "signs"] [] (S_law_short π)) (h_filling_holds : Def P π.w π.K mg base "filling_holds" 4 ["web", "box", "value"] [] (S_filling_holds π)) (h_law_is : Def P π.w π.K mg base "_law_is" 2 ["told", "due"] [] (S_law_is π 2)) (h_signs_show : Def P π.w π.K mg base "signs_show" 5 ["web", "box", "value"] [] (S_signs_show π)) (h_fill_holds : Def P π.w π.K mg base "fill_holds" 5 ["web", "box", "value"] [] (S_fill_holds π)) (h_law_pick : Def P π.w π.K mg base "_law_pick" 2 ["box", "some"] [] (S_law_pick π)) (h_Web : DefM P π.w π.K mg base "Web" π.a_Web 4 ["self", "points", "ties"] (S_Web__init_ π)) (h_Box : DefM P π.w π.K mg base "Box" π.a_Box 5 ["self", "web", "bounds", "totals"] (S_Box__init_ π)) : FnOk P π.w π.K mg base (L2N.CX P π.w) 7 f fd ["box", "points", "ties", "bounds", "totals", "value"] (spOf π.K (S_law_asked π)) := by
    rw [S_law_asked_eq]
    refine fn_ok F sc_law_asked fun cdv A outer s H E hr tk => ?_
    refine ⟨_, (pss_cons (ps_set (i := 6) sc_law_asked.nd rfl (Or.inl rfl) (kMake π.K rfl (W := (fun cls d _ H => E cls d H)) h_Web hr (pass_E tk) (pa_cons (pv 1) (pa_cons (pe_callTy (kTup π.K rfl) (by rfl) B.n_tuple bt_tuple (pa_cons (pv 2) pa_nil)) pa_nil)))) (pss_cons (ps_set (i := 7) sc_law_asked.nd rfl (Or.inl rfl) (kMake π.K rfl (W := (fun cls d _ H => E cls d H)) h_Box hr (pass_E tk) (pa_cons (pv 6) (pa_cons (pe_callTy (kTup π.K rfl) (by rfl) B.n_tuple bt_tuple (pa_cons (pv 3) pa_nil)) (pa_cons (pe_callTy (kTup π.K rfl) (by rfl) B.n_tuple bt_tuple (pa_cons (pv 4) pa_nil)) pa_nil))))) (pss_cons (ps_set (i := 8) sc_law_asked.nd rfl (Or.inl rfl) (kDef π.K rfl (W := (fun cls d _ H => E cls d H)) h_law_fills hr (pass_E tk) (pa_cons (pv 1) (pa_cons (pv 2) (pa_cons (pv 3) (pa_cons (pv 4) (pa_cons (pv 5) pa_nil))))))) (pss_cons (ps_set (i := 9) sc_law_asked.nd rfl (Or.inl rfl) (pe_and (kDef π.K rfl (W := (fun cls d _ H => E cls d H)) h_law_are_signs hr (pass_E tk) (pa_cons (pv 5) (pa_cons (pv 1) pa_nil))) (pe_one (pe_cmpR op_gt (kDef π.K rfl (W := (fun cls d _ H => E cls d H)) h_law_short hr (pass_E tk) (pa_cons (pv 2) (pa_cons (pv 3) (pa_cons (pv 4) (pa_cons (pv 5) pa_nil))))) pe_int (nomark _))))) (pss_cons (ps_if (PW.pt (pw_or (pt_not (kTru π.K rfl (kDef π.K rfl (W := (fun cls d _ H => E cls d H)) h_law_is hr (pass_E tk) (pa_cons (kDef π.K rfl (W := (fun cls d _ H => E cls d H)) h_filling_holds hr (pass_E tk) (pa_cons (pv 6) (pa_cons (pv 7) (pa_cons (pv 5) pa_nil)))) (pa_cons (pv 8) pa_nil))))) (pw_or1 (pt_not (kTru π.K rfl (kDef π.K rfl (W := (fun cls d _ H => E cls d H)) h_law_is hr (pass_E tk) (pa_cons (kDef π.K rfl (W := (fun cls d _ H => E cls d H)) h_signs_show hr (pass_E tk) (pa_cons (pv 6) (pa_cons (pv 7) (pa_cons (pv 5) pa_nil)))) (pa_cons (pv 9) pa_nil)))))))) (pss_one (ps_ret pe_bl)) pss_nil) (pss_cons (ps_if (pt_not (kTru π.K rfl (kDef π.K rfl (W := (fun cls d _ H => E cls d H)) h_law_is hr (pass_E tk) (pa_cons (kDef π.K rfl (W := (fun cls d _ H => E cls d H)) h_fill_holds hr (pass_E tk) (pa_cons (pv 6) (pa_cons (pv 7) (pa_cons (pe_tup (pa_cons pe_str (pa_cons (pv 5) pa_nil))) pa_nil)))) (pa_cons (pv 8) pa_nil))))) (pss_one (ps_ret pe_bl)) pss_nil) (pss_cons (ps_if (pt_not (kTru π.K rfl (kDef π.K rfl (W := (fun cls d _ H => E cls d H)) h_law_is hr (pass_E tk) (pa_cons (kDef π.K rfl (W := (fun cls d _ H => E cls d H)) h_fill_holds hr (pass_E tk) (pa_cons (pv 6) (pa_cons (pv 7) (pa_cons (pe_tup (pa_cons pe_str (pa_cons (pv 5) pa_nil))) pa_nil)))) (pa_cons (pv 9) pa_nil))))) (pss_one (ps_ret pe_bl)) pss_nil) (pss_cons (ps_set (i := 10) sc_law_asked.nd rfl (Or.inl rfl) (pe_lst (pa_cons (pe_tup (pa_cons pe_str (pa_cons (pe_callTy (kList π.K rfl) (by rfl) B.n_list bt_list (pa_cons (pv 5) pa_nil)) pa_nil))) (pa_cons (pe_lst (pa_cons pe_str (pa_cons (pv 5) pa_nil))) (pa_cons (pe_tup (pa_cons pe_str (pa_cons (pv 5) (pa_cons (pv 5) pa_nil)))) (pa_cons (pe_tup (pa_cons pe_str pa_nil)) (pa_cons (pe_tup (pa_cons pe_str (pa_cons (pv 5) pa_nil))) pa_nil))))))) (pss_cons (ps_set (i := 10) sc_law_asked.nd rfl (Or.inl rfl) (pe_op (kAdd π.K rfl) (pv 10) (pe_lst (pa_cons (pe_tup (pa_cons pe_str (pa_cons (pe_callTy (kList π.K rfl) (by rfl) B.n_list bt_list (pa_cons (pv 5) pa_nil)) pa_nil))) (pa_cons (pe_lst (pa_cons pe_str (pa_cons (pv 5) pa_nil))) (pa_cons (pe_tup (pa_cons (pv 5) (pa_cons pe_str pa_nil))) (pa_cons (pe_tup (pa_cons pe_bl (pa_cons (pv 5) pa_nil))) (pa_cons (pv 5) (pa_cons (pe_tup (pa_cons pe_non (pa_cons (pv 5) pa_nil))) (pa_cons pe_str pa_nil)))))))))) (pss_one (ps_ret (pe_and (pe_cmpR op_isU (kDef π.K rfl (W := (fun cls d _ H => E cls d H)) h_fill_holds hr (pass_E tk) (pa_cons (pv 6) (pa_cons (pv 7) (pa_cons (kDef π.K rfl (W := (fun cls d _ H => E cls d H)) h_law_pick hr (pass_E tk) (pa_cons (pv 0) (pa_cons (pv 10) pa_nil))) pa_nil)))) pe_bl (nomark _)) (pe_one (pe_cmpR op_isU (kDef π.K rfl (W := (fun cls d _ H => E cls d H)) h_filling_holds hr (pass_E tk) (pa_cons (pv 6) (pa_cons (pv 7) (pa_cons (pe_callTy (kList π.K rfl) (by rfl) B.n_list bt_list (pa_cons (pv 5) pa_nil)) pa_nil)))) pe_bl (nomark _))))))))))))))), ?_⟩
    exact (ls_seq (ls_asg (le_make repc_nil (la_cons (le_var 1) (la_cons (le_cb lr_tupC (la_cons (le_var 2) la_nil)) la_nil))) (lg_name 6)) (ls_seq (ls_asg (le_make repc_nil (la_cons (le_var 6) (la_cons (le_cb lr_tupC (la_cons (le_var 3) la_nil)) (la_cons (le_cb lr_tupC (la_cons (le_var 4) la_nil)) la_nil)))) (lg_name 7)) (ls_seq (ls_asg (le_call repc_nil (la_cons (le_var 1) (la_cons (le_var 2) (la_cons (le_var 3) (la_cons (le_var 4) (la_cons (le_var 5) la_nil)))))) (lg_name 8)) (ls_seq (ls_asg (le_andV (le_call repc_nil (la_cons (le_var 5) (la_cons (le_var 1) la_nil))) (le_op lr_B0 (le_call repc_nil (la_cons (le_var 2) (la_cons (le_var 3) (la_cons (le_var 4) (la_cons (le_var 5) la_nil))))) le_int)) (lg_name 9)) (ls_seq (ls_if (lt_or (lt_not (lt_tru (le_call repc_nil (la_cons (le_call repc_nil (la_cons (le_var 6) (la_cons (le_var 7) (la_cons (le_var 5) la_nil)))) (la_cons (le_var 8) la_nil))))) (lt_not (lt_tru (le_call repc_nil (la_cons (le_call repc_nil (la_cons (le_var 6) (la_cons (le_var 7) (la_cons (le_var 5) la_nil)))) (la_cons (le_var 9) la_nil)))))) (ls_ret le_bl) ls_next) (ls_seq (ls_if (lt_not (lt_tru (le_call repc_nil (la_cons (le_call repc_nil (la_cons (le_var 6) (la_cons (le_var 7) (la_cons (le_tup (la_cons le_str (la_cons (le_var 5) la_nil))) la_nil)))) (la_cons (le_var 8) la_nil))))) (ls_ret le_bl) ls_next) (ls_seq (ls_if (lt_not (lt_tru (le_call repc_nil (la_cons (le_call repc_nil (la_cons (le_var 6) (la_cons (le_var 7) (la_cons (le_tup (la_cons le_str (la_cons (le_var 5) la_nil))) la_nil)))) (la_cons (le_var 9) la_nil))))) (ls_ret le_bl) ls_next) (ls_seq (ls_asg (le_lst (la_cons (le_tup (la_cons le_str (la_cons (le_cb lr_listC (la_cons (le_var 5) la_nil)) la_nil))) (la_cons (le_lst (la_cons le_str (la_cons (le_var 5) la_nil))) (la_cons (le_tup (la_cons le_str (la_cons (le_var 5) (la_cons (le_var 5) la_nil)))) (la_cons (le_tup (la_cons le_str la_nil)) (la_cons (le_tup (la_cons le_str (la_cons (le_var 5) la_nil))) la_nil)))))) (lg_name 10)) (ls_seq (ls_asg (le_op lr_add (le_var 10) (le_lst (la_cons (le_tup (la_cons le_str (la_cons (le_cb lr_listC (la_cons (le_var 5) la_nil)) la_nil))) (la_cons (le_lst (la_cons le_str (la_cons (le_var 5) la_nil))) (la_cons (le_tup (la_cons (le_var 5) (la_cons le_str la_nil))) (la_cons (le_tup (la_cons le_bl (la_cons (le_var 5) la_nil))) (la_cons (le_var 5) (la_cons (le_tup (la_cons le_non (la_cons (le_var 5) la_nil))) (la_cons le_str la_nil))))))))) (lg_name 10)) (ls_ret (le_andV (le_op lr_is (le_call repc_nil (la_cons (le_var 6) (la_cons (le_var 7) (la_cons (le_call repc_nil (la_cons (le_var 0) (la_cons (le_var 10) la_nil))) la_nil)))) le_bl) (le_op lr_is (le_call repc_nil (la_cons (le_var 6) (la_cons (le_var 7) (la_cons (le_cb lr_listC (la_cons (le_var 5) la_nil)) la_nil)))) le_bl))))))))))))
abbrev s_law : Stmt := top 72
abbrev N_law : List Str := ["script", "box", "points", "twos", "loose", "ties", "halves", "ring", "rest", "great", "bounds", "numbers", "totals", "z", "cut", "at", "signs", "some", "by", "more", "about", "total", "point", "sign", "tie"]
theorem sc_law : FnScope N_law ["script"] (defScope s_law) := ⟨rfl, rfl, rfl, by decide +kernel, rfl, by decide +kernel, by decide +kernel⟩
theorem ok_law {f : Addr} {fd : FuncData} (F : Fn π.K "law" "law" s_law f fd) (B : Base π mg) (h_law_box : Def P π.w π.K mg base "_law_box" 1 ["script"] [] (S_law_box π)) (h_law_scales : Def P π.w π.K mg base "_law_scales" 3 ["box"] [] (S_law_scales π)) (h_law_take : Def P π.w π.K mg base "_law_take" 1 ["box", "many"] [] (S_law_take π)) (h_law_rings : Def P π.w π.K mg base "_law_rings" 3 ["box", "points", "many"] [] (S_law_rings π)) (h_law_web : Def P π.w π.K mg base "_law_web" 4 ["box", "points", "twos", "loose"] [] (S_law_web π)) (h_law_norm : Def P π.w π.K mg base "_law_norm" 1 ["tie"] [] (S_law_norm π)) (h_law_pick : Def P π.w π.K mg base "_law_pick" 2 ["box", "some"] [] (S_law_pick π)) (h_law_full : Def P π.w π.K mg base "_law_full" 4 ["box", "ties", "size", "halves"] [] (S_law_full π)) (h_law_sums : Def P π.w π.K mg base "_law_sums" 2 ["points", "ties", "numbers"] [] (S_law_sums π)) (h_law_fills : Def P π.w π.K mg base "_law_fills" 3 ["points", "ties", "bounds", "totals", "z"] [] (S_law_fills π)) (h_law_asked : Def P π.w π.K mg base "_law_asked" 7 ["box", "points", "ties", "bounds", "totals", "value"] [] (S_law_asked π)) (h_law_bent : Def P π.w π.K mg base "_law_bent" 3 ["box", "value"] [] (S_law_bent π)) (h_law_cut : Def P π.w π.K mg base "_law_cut" 3 ["box", "bounds", "numbers", "at"] [] (S_law_cut π)) (h_law_sign : Def P π.w π.K mg base "_law_sign" 2 ["box"] [] (S_law_sign π)) (h_law_with : Def P π.w π.K mg base "_law_with" 1 ["row", "at", "value"] [] (S_law_with π)) (h_law_signs : Def P π.w π.K mg base "_law_signs" 3 ["box", "points"] [] (S_law_signs π)) (h_law_far : Def P π.w π.K mg base "_law_far" 2 ["box", "size"] [] (S_law_far π)) (h_law_short : Def P π.w π.K mg base "_law_short" 3 ["ties", "bounds", "totals", "signs"] [] (S_law_short π)) : FnOk P π.w π.K mg base (L2N.CX P π.w) 8 f fd ["script"] (spOf π.K (S_law π)) := by
    rw [S_law_eq]
    refine fn_ok F sc_law fun cdv A outer s H E hr tk => ?_
    refine ⟨_, (pss_cons (ps_set (i := 1) sc_law.nd rfl (Or.inl rfl) (kDef π.K rfl (W := (fun cls d _ H => E cls d H)) h_law_box hr (pass_E tk) (pa_cons (pv 0) pa_nil))) (pss_cons (ps_asg (kDef π.K rfl (W := (fun cls d _ H => E cls d H)) h_law_scales hr (pass_E tk) (pa_cons (pv 1) pa_nil)) (kGtup (n := 3) π.K rfl rfl (pgs_cons (pg_name (i := 2) sc_law.nd rfl (Or.inl rfl)) (pgs_cons (pg_name (i := 3) sc_law.nd rfl (Or.inl rfl)) (pgs_cons (pg_name (i := 4) sc_law.nd rfl (Or.inl rfl)) pgs_nil))))) (pss_cons (ps_set (i := 2) sc_law.nd rfl (Or.inl rfl) (pe_ifExp (pt_cmpR op_lt (pv 2) pe_int (nomark _)) (pe_op (kAdd π.K rfl) pe_int (kDef π.K rfl (W := (fun cls d _ H => E cls d H)) h_law_take hr (pass_E tk) (pa_cons (pv 1) (pa_cons (pv 2) pa_nil)))) (pv 2))) (pss_cons (ps_par (i := 5) (j := 6) rfl sc_law.nd rfl rfl (by decide) rfl rfl (pa_cons (pe_lst pa_nil) (pa_cons (pe_lst pa_nil) pa_nil)) (by rfl)) (pss_cons (ps_for (passes_of rfl) rfl (kSeq π.K rfl (kDef π.K rfl (W := (fun cls d _ H => E cls d H)) h_law_rings hr (pass_E tk) (pa_cons (pv 1) (pa_cons (pv 2) (pa_cons (pe_ifExp (pt_cmpR op_lt (pv 2) pe_int (nomark _)) (kDef π.K rfl (W := (fun cls d _ H => E cls d H)) h_law_take hr (pass_E tk) (pa_cons (pv 1) (pa_cons pe_int pa_nil))) pe_int) pa_nil))))) (pg_name (i := 7) sc_law.nd rfl (Or.inl rfl)) (pss_one (ps_par (i := 5) (j := 6) rfl sc_law.nd rfl rfl (by decide) rfl rfl (pa_cons (pe_op (kAdd π.K rfl) (pv 5) (pv 7)) (pa_cons (pe_op (kAdd π.K rfl) (pv 6) (pe_op (kMul π.K rfl) (pe_lst (pa_cons (kDef π.K rfl (W := (fun cls d _ H => E cls d H)) h_law_take hr (pass_E tk) (pa_cons (pv 1) (pa_cons pe_int pa_nil))) pa_nil)) (pe_callB (kLen π.K rfl) (by rfl) B.n_len bt_len (pa_cons (pv 7) pa_nil)))) pa_nil)) (by rfl)))) (pss_cons (ps_set (i := 8) sc_law.nd rfl (Or.inl rfl) (kDef π.K rfl (W := (fun cls d _ H => E cls d H)) h_law_web hr (pass_E tk) (pa_cons (pv 1) (pa_cons (pv 2) (pa_cons (pe_ifExp (pt_cmpR op_lt (pv 3) pe_int (nomark _)) (kDef π.K rfl (W := (fun cls d _ H => E cls d H)) h_law_take hr (pass_E tk) (pa_cons (pv 1) (pa_cons (pe_op (kAdd π.K rfl) (pv 3) pe_int) pa_nil))) (pe_op op_sub (pv 3) (pe_callB (kLen π.K rfl) (by rfl) B.n_len bt_len (pa_cons (pv 5) pa_nil)))) (pa_cons (kDef π.K rfl (W := (fun cls d _ H => E cls d H)) h_law_take hr (pass_E tk) (pa_cons (pv 1) (pa_cons (pe_op (kAdd π.K rfl) (pv 4) pe_int) pa_nil))) pa_nil)))))) (pss_cons (ps_par (i := 5) (j := 6) rfl sc_law.nd rfl rfl (by decide) rfl rfl (pa_cons (pe_lc (own := [("tie", 24)]) rfl sc_law.nd (kSeq π.K rfl (pe_op (kAdd π.K rfl) (pv 5) (pv 8))) (blkOk_by (N := N_law) (sc := defScope s_law) (own := [("tie", 24)]) (by decide +kernel)) (fun _ _ _ _ _ => (pg_name (i := 24) sc_law.nd rfl (Or.inl rfl))) (fun _ _ _ _ _ => pts_nil) (fun _ _ _ _ _ => (kDef π.K rfl (W := W0) h_law_norm hr pass_none (pa_cons (pv 24) pa_nil)))) (pa_cons (pe_op (kAdd π.K rfl) (pv 6) (pe_op (kMul π.K rfl) (pe_lst (pa_cons pe_int pa_nil)) (pe_callB (kLen π.K rfl) (by rfl) B.n_len bt_len (pa_cons (pv 8) pa_nil)))) pa_nil)) (by rfl)) (pss_cons (ps_set (i := 9) sc_law.nd rfl (Or.inl rfl) (pe_op op_sub (pe_op op_fdivW (pe_op op_pow pe_int pe_int) (pe_op (kMul π.K rfl) pe_int (pe_op (kAdd π.K rfl) (pe_op (kAdd π.K rfl) (pe_callB (kLen π.K rfl) (by rfl) B.n_len bt_len (pa_cons (pv 5) pa_nil)) (pv 2)) pe_int))) pe_int)) (pss_cons (ps_asg (kDef π.K rfl (W := (fun cls d _ H => E cls d H)) h_law_full hr (pass_E tk) (pa_cons (pv 1) (pa_cons (pv 5) (pa_cons (kDef π.K rfl (W := (fun cls d _ H => E cls d H)) h_law_pick hr (pass_E tk) (pa_cons (pv 1) (pa_cons (pe_lst (pa_cons pe_int (pa_cons pe_int (pa_cons pe_int (pa_cons pe_int (pa_cons (pv 9) (pa_cons (pv 9) pa_nil))))))) pa_nil))) (pa_cons (pv 6) pa_nil))))) (kGtup (n := 2) π.K rfl rfl (pgs_cons (pg_name (i := 10) sc_law.nd rfl (Or.inl rfl)) (pgs_cons (pg_name (i := 11) sc_law.nd rfl (Or.inl rfl)) pgs_nil)))) (pss_cons (ps_setLc (i := 12) (own := [("total", 21)]) rfl sc_law.nd rfl rfl (sw_true rfl rfl rfl (by decide +kernel)) (kSeq π.K rfl (kDef π.K rfl (W := (fun cls d _ H => E cls d H)) h_law_sums hr (pass_E tk) (pa_cons (pv 2) (pa_cons (pv 5) (pa_cons (pv 11) pa_nil))))) (blkOk_by (N := N_law) (sc := defScope s_law) (own := [("total", 21)]) (by decide +kernel)) (fun _ _ _ _ _ => (pg_name (i := 21) sc_law.nd rfl (Or.inl rfl))) (fun _ _ _ _ _ => pts_nil) (fun _ _ _ _ _ => (pe_op op_fdivW (pv 21) pe_int))) (pss_cons (ps_set (i := 13) sc_law.nd rfl (Or.inl rfl) (pe_callTy (kTup π.K rfl) (by rfl) B.n_tuple bt_tuple (pa_cons (pv 11) pa_nil))) (pss_cons (ps_if (PW.pt (pw_or (pt_not (kTru π.K rfl (kDef π.K rfl (W := (fun cls d _ H => E cls d H)) h_law_fills hr (pass_E tk) (pa_cons (pv 2) (pa_cons (pv 5) (pa_cons (pv 10) (pa_cons (pv 12) (pa_cons (pv 13) pa_nil)))))))) (pw_or1 (pt_not (kTru π.K rfl (kDef π.K rfl (W := (fun cls d _ H => E cls d H)) h_law_asked hr (pass_E tk) (pa_cons (pv 1) (pa_cons (pv 2) (pa_cons (pv 5) (pa_cons (pv 10) (pa_cons (pv 12) (pa_cons (pv 13) pa_nil)))))))))))) (pss_one (ps_ret pe_bl)) pss_nil) (pss_cons (ps_if (pt_not (kTru π.K rfl (kDef π.K rfl (W := (fun cls d _ H => E cls d H)) h_law_asked hr (pass_E tk) (pa_cons (pv 1) (pa_cons (pv 2) (pa_cons (pv 5) (pa_cons (pv 10) (pa_cons (pv 12) (pa_cons (kDef π.K rfl (W := (fun cls d _ H => E cls d H)) h_law_bent hr (pass_E tk) (pa_cons (pv 1) (pa_cons (pv 13) pa_nil))) pa_nil))))))))) (pss_one (ps_ret pe_bl)) pss_nil) (pss_cons (ps_if (pt_cmpR op_gt (pe_callB (kLen π.K rfl) (by rfl) B.n_len bt_len (pa_cons (pv 5) pa_nil)) pe_int (nomark _)) (pss_cons (ps_set (i := 14) sc_law.nd rfl (Or.inl rfl) (kDef π.K rfl (W := (fun cls d _ H => E cls d H)) h_law_cut hr (pass_E tk) (pa_cons (pv 1) (pa_cons (pv 10) (pa_cons (pv 11) (pa_cons (kDef π.K rfl (W := (fun cls d _ H => E cls d H)) h_law_take hr (pass_E tk) (pa_cons (pv 1) (pa_cons (pe_callB (kLen π.K rfl) (by rfl) B.n_len bt_len (pa_cons (pv 5) pa_nil)) pa_nil))) pa_nil)))))) (pss_one (ps_if (pt_not (kTru π.K rfl (kDef π.K rfl (W := (fun cls d _ H => E cls d H)) h_law_asked hr (pass_E tk) (pa_cons (pv 1) (pa_cons (pv 2) (pa_cons (pv 5) (pa_cons (pv 14) (pa_cons (pv 12) (pa_cons (pv 13) pa_nil))))))))) (pss_one (ps_ret pe_bl)) pss_nil))) pss_nil) (pss_cons (ps_set (i := 15) sc_law.nd rfl (Or.inl rfl) (kDef π.K rfl (W := (fun cls d _ H => E cls d H)) h_law_take hr (pass_E tk) (pa_cons (pv 1) (pa_cons (pv 2) pa_nil)))) (pss_cons (ps_if (pt_not (kTru π.K rfl (kDef π.K rfl (W := (fun cls d _ H => E cls d H)) h_law_asked hr (pass_E tk) (pa_cons (pv 1) (pa_cons (pv 2) (pa_cons (pv 5) (pa_cons (pv 10) (pa_cons (pe_callTy (kList π.K rfl) (by rfl) B.n_list bt_list (pa_cons (kDef π.K rfl (W := (fun cls d _ H => E cls d H)) h_law_with hr (pass_E tk) (pa_cons (pv 12) (pa_cons (pv 15) (pa_cons (pe_op (kAdd π.K rfl) (pe_ix (kIx π.K rfl) (pv 12) (pv 15) (fun _ _ => rfl)) (kDef π.K rfl (W := (fun cls d _ H => E cls d H)) h_law_sign hr (pass_E tk) (pa_cons (pv 1) pa_nil))) pa_nil)))) pa_nil)) (pa_cons (pv 13) pa_nil))))))))) (pss_one (ps_ret pe_bl)) pss_nil) (pss_cons (ps_set (i := 16) sc_law.nd rfl (Or.inl rfl) (kDef π.K rfl (W := (fun cls d _ H => E cls d H)) h_law_signs hr (pass_E tk) (pa_cons (pv 1) (pa_cons (pv 2) pa_nil)))) (pss_cons (ps_setLc (i := 17) (own := [("point", 22), ("sign", 23)]) rfl sc_law.nd rfl rfl (sw_true rfl rfl rfl (by decide +kernel)) (kEnum π.K rfl rfl B.n_enumerate (pa_cons (pv 16) pa_nil)) (blkOk_by (N := N_law) (sc := defScope s_law) (own := [("point", 22), ("sign", 23)]) (by decide +kernel)) (fun _ _ _ _ _ => (kGtup (n := 2) π.K rfl rfl (pgs_cons (pg_name (i := 22) sc_law.nd rfl (Or.inl rfl)) (pgs_cons (pg_name (i := 23) sc_law.nd rfl (Or.inl rfl)) pgs_nil)))) (fun _ _ _ _ _ => (pts_one (pt_cmpR (kNe π.K rfl hr) (pv 23) pe_int (nomark _)))) (fun _ _ _ _ _ => (pv 22))) (pss_cons (ps_if (pt_cmpR (kNe π.K rfl hr) (pv 17) (pe_lst pa_nil) (nomark _)) (pss_cons (ps_par (i := 15) (j := 18) rfl sc_law.nd rfl rfl (by decide) rfl rfl (pa_cons (kDef π.K rfl (W := (fun cls d _ H => E cls d H)) h_law_pick hr (pass_E tk) (pa_cons (pv 1) (pa_cons (pv 17) pa_nil))) (pa_cons (kDef π.K rfl (W := (fun cls d _ H => E cls d H)) h_law_pick hr (pass_E tk) (pa_cons (pv 1) (pa_cons (pe_lst (pa_cons pe_int (pa_cons pe_int (pa_cons pe_int (pa_cons pe_int (pa_cons (pe_callB call_abs (by rfl) B.n_abs bt_abs (pa_cons (kDef π.K rfl (W := (fun cls d _ H => E cls d H)) h_law_far hr (pass_E tk) (pa_cons (pv 1) (pa_cons (pe_op op_pow pe_int pe_int) pa_nil))) pa_nil)) pa_nil)))))) pa_nil))) pa_nil)) (by rfl)) (pss_cons (ps_set (i := 19) sc_law.nd rfl (Or.inl rfl) (pe_op (kMul π.K rfl) (pe_ix (kIx π.K rfl) (pv 16) (pv 15) (fun _ _ => rfl)) (pe_op op_sub (pv 18) (kDef π.K rfl (W := (fun cls d _ H => E cls d H)) h_law_short hr (pass_E tk) (pa_cons (pv 5) (pa_cons (pv 10) (pa_cons (pv 12) (pa_cons (pv 16) pa_nil)))))))) (pss_one (ps_set (i := 12) sc_law.nd rfl (Or.inl rfl) (pe_callTy (kList π.K rfl) (by rfl) B.n_list bt_list (pa_cons (kDef π.K rfl (W := (fun cls d _ H => E cls d H)) h_law_with hr (pass_E tk) (pa_cons (pv 12) (pa_cons (pv 15) (pa_cons (pe_op (kAdd π.K rfl) (pe_ix (kIx π.K rfl) (pv 12) (pv 15) (fun _ _ => rfl)) (pv 19)) pa_nil)))) pa_nil)))))) pss_nil) (pss_cons (ps_if (pt_not (kTru π.K rfl (kDef π.K rfl (W := (fun cls d _ H => E cls d H)) h_law_asked hr (pass_E tk) (pa_cons (pv 1) (pa_cons (pv 2) (pa_cons (pv 5) (pa_cons (pv 10) (pa_cons (pv 12) (pa_cons (pv 16) pa_nil))))))))) (pss_one (ps_ret pe_bl)) pss_nil) (pss_cons (ps_set (i := 20) sc_law.nd rfl (Or.inl rfl) (pe_callTy (kTup π.K rfl) (by rfl) B.n_tuple bt_tuple (pa_cons (pe_lc (own := [("sign", 23)]) rfl sc_law.nd (kSeq π.K rfl (pv 16)) (blkOk_by (N := N_law) (sc := defScope s_law) (own := [("sign", 23)]) (by decide +kernel)) (fun _ _ _ _ _ => (pg_name (i := 23) sc_law.nd rfl (Or.inl rfl))) (fun _ _ _ _ _ => pts_nil) (fun _ _ _ _ _ => (pe_un un_neg (pv 23)))) pa_nil))) (pss_cons (ps_if (pt_not (kTru π.K rfl (kDef π.K rfl (W := (fun cls d _ H => E cls d H)) h_law_asked hr (pass_E tk) (pa_cons (pv 1) (pa_cons (pv 2) (pa_cons (pv 5) (pa_cons (pv 10) (pa_cons (pv 12) (pa_cons (pv 20) pa_nil))))))))) (pss_one (ps_ret pe_bl)) pss_nil) (pss_one (ps_ret (kDef π.K rfl (W := (fun cls d _ H => E cls d H)) h_law_asked hr (pass_E tk) (pa_cons (pv 1) (pa_cons (pv 2) (pa_cons (pv 5) (pa_cons (pv 10) (pa_cons (pv 12) (pa_cons (kDef π.K rfl (W := (fun cls d _ H => E cls d H)) h_law_bent hr (pass_E tk) (pa_cons (pv 1) (pa_cons (pv 16) pa_nil))) pa_nil))))))))))))))))))))))))))))))), ?_⟩
    exact (ls_seq (ls_asg (le_call repc_nil (la_cons (le_var 0) la_nil)) (lg_name 1)) (ls_seq (ls_asg (le_call repc_nil (la_cons (le_var 1) la_nil)) (lg_tup (lgs_cons (lg_name 2) (lgs_cons (lg_name 3) (lgs_cons (lg_name 4) lgs_nil))))) (ls_seq (ls_asg (le_if (lt_test (le_op lr_B0 (le_var 2) le_int)) (le_op lr_add le_int (le_call repc_nil (la_cons (le_var 1) (la_cons (le_var 2) la_nil)))) (le_var 2)) (lg_name 2)) (ls_seq (ls_par (la_cons (le_lst la_nil) (la_cons (le_lst la_nil) la_nil))) (ls_seq (ls_for (li_seq (le_call repc_nil (la_cons (le_var 1) (la_cons (le_var 2) (la_cons (le_if (lt_test (le_op lr_B0 (le_var 2) le_int)) (le_call repc_nil (la_cons (le_var 1) (la_cons le_int la_nil))) le_int) la_nil))))) (lg_name 7) (ls_par (la_cons (le_op lr_add (le_var 5) (le_var 7)) (la_cons (le_op lr_add (le_var 6) (le_op lr_mul (le_lst (la_cons (le_call repc_nil (la_cons (le_var 1) (la_cons le_int la_nil))) la_nil)) (le_cb lr_len (la_cons (le_var 7) la_nil)))) la_nil)))) (ls_seq (ls_asg (le_call repc_nil (la_cons (le_var 1) (la_cons (le_var 2) (la_cons (le_if (lt_test (le_op lr_B0 (le_var 3) le_int)) (le_call repc_nil (la_cons (le_var 1) (la_cons (le_op lr_add (le_var 3) le_int) la_nil))) (le_op lr_I0 (le_var 3) (le_cb lr_len (la_cons (le_var 5) la_nil)))) (la_cons (le_call repc_nil (la_cons (le_var 1) (la_cons (le_op lr_add (le_var 4) le_int) la_nil))) la_nil))))) (lg_name 8)) (ls_seq (ls_par (la_cons (le_lc (li_seq (le_op lr_add (le_var 5) (le_var 8))) (lg_name 24) (own_name (by decide)) lt_yes (le_call repc_nil (la_cons (le_var 24) la_nil))) (la_cons (le_op lr_add (le_var 6) (le_op lr_mul (le_lst (la_cons le_int la_nil)) (le_cb lr_len (la_cons (le_var 8) la_nil)))) la_nil))) (ls_seq (ls_asg (le_op lr_I0 (le_op lr_I (le_op lr_I le_int le_int) (le_op lr_mul le_int (le_op lr_add (le_op lr_add (le_cb lr_len (la_cons (le_var 5) la_nil)) (le_var 2)) le_int))) le_int) (lg_name 9)) (ls_seq (ls_asg (le_call repc_nil (la_cons (le_var 1) (la_cons (le_var 5) (la_cons (le_call repc_nil (la_cons (le_var 1) (la_cons (le_lst (la_cons le_int (la_cons le_int (la_cons le_int (la_cons le_int (la_cons (le_var 9) (la_cons (le_var 9) la_nil))))))) la_nil))) (la_cons (le_var 6) la_nil))))) (lg_tup (lgs_cons (lg_name 10) (lgs_cons (lg_name 11) lgs_nil)))) (ls_seq (ls_asg (le_lc (li_seq (le_call repc_nil (la_cons (le_var 2) (la_cons (le_var 5) (la_cons (le_var 11) la_nil))))) (lg_name 21) (own_name (by decide)) lt_yes (le_op lr_I (le_var 21) le_int)) (lg_name 12)) (ls_seq (ls_asg (le_cb lr_tupC (la_cons (le_var 11) la_nil)) (lg_name 13)) (ls_seq (ls_if (lt_or (lt_not (lt_tru (le_call repc_nil (la_cons (le_var 2) (la_cons (le_var 5) (la_cons (le_var 10) (la_cons (le_var 12) (la_cons (le_var 13) la_nil)))))))) (lt_not (lt_tru (le_call repc_nil (la_cons (le_var 1) (la_cons (le_var 2) (la_cons (le_var 5) (la_cons (le_var 10) (la_cons (le_var 12) (la_cons (le_var 13) la_nil)))))))))) (ls_ret le_bl) ls_next) (ls_seq (ls_if (lt_not (lt_tru (le_call repc_nil (la_cons (le_var 1) (la_cons (le_var 2) (la_cons (le_var 5) (la_cons (le_var 10) (la_cons (le_var 12) (la_cons (le_call repc_nil (la_cons (le_var 1) (la_cons (le_var 13) la_nil))) la_nil))))))))) (ls_ret le_bl) ls_next) (ls_seq (ls_if (lt_test (le_op lr_B0 (le_cb lr_len (la_cons (le_var 5) la_nil)) le_int)) (ls_seq (ls_asg (le_call repc_nil (la_cons (le_var 1) (la_cons (le_var 10) (la_cons (le_var 11) (la_cons (le_call repc_nil (la_cons (le_var 1) (la_cons (le_cb lr_len (la_cons (le_var 5) la_nil)) la_nil))) la_nil))))) (lg_name 14)) (ls_if (lt_not (lt_tru (le_call repc_nil (la_cons (le_var 1) (la_cons (le_var 2) (la_cons (le_var 5) (la_cons (le_var 14) (la_cons (le_var 12) (la_cons (le_var 13) la_nil))))))))) (ls_ret le_bl) ls_next)) ls_next) (ls_seq (ls_asg (le_call repc_nil (la_cons (le_var 1) (la_cons (le_var 2) la_nil))) (lg_name 15)) (ls_seq (ls_if (lt_not (lt_tru (le_call repc_nil (la_cons (le_var 1) (la_cons (le_var 2) (la_cons (le_var 5) (la_cons (le_var 10) (la_cons (le_cb lr_listC (la_cons (le_call repc_nil (la_cons (le_var 12) (la_cons (le_var 15) (la_cons (le_op lr_add (le_op lr_ix (le_var 12) (le_var 15)) (le_call repc_nil (la_cons (le_var 1) la_nil))) la_nil)))) la_nil)) (la_cons (le_var 13) la_nil))))))))) (ls_ret le_bl) ls_next) (ls_seq (ls_asg (le_call repc_nil (la_cons (le_var 1) (la_cons (le_var 2) la_nil))) (lg_name 16)) (ls_seq (ls_asg (le_lc (li_enum (la_cons (le_var 16) la_nil)) (lg_tup (lgs_cons (lg_name 22) (lgs_cons (lg_name 23) lgs_nil))) (own_tup (own_consN (by decide) (own_consN (by decide) own_nil))) (lt_test (le_op lr_ne (le_var 23) le_int)) (le_var 22)) (lg_name 17)) (ls_seq (ls_if (lt_test (le_op lr_ne (le_var 17) (le_lst la_nil))) (ls_seq (ls_par (la_cons (le_call repc_nil (la_cons (le_var 1) (la_cons (le_var 17) la_nil))) (la_cons (le_call repc_nil (la_cons (le_var 1) (la_cons (le_lst (la_cons le_int (la_cons le_int (la_cons le_int (la_cons le_int (la_cons (le_cb lr_abs (la_cons (le_call repc_nil (la_cons (le_var 1) (la_cons (le_op lr_I le_int le_int) la_nil))) la_nil)) la_nil)))))) la_nil))) la_nil))) (ls_seq (ls_asg (le_op lr_mul (le_op lr_ix (le_var 16) (le_var 15)) (le_op lr_I0 (le_var 18) (le_call repc_nil (la_cons (le_var 5) (la_cons (le_var 10) (la_cons (le_var 12) (la_cons (le_var 16) la_nil))))))) (lg_name 19)) (ls_asg (le_cb lr_listC (la_cons (le_call repc_nil (la_cons (le_var 12) (la_cons (le_var 15) (la_cons (le_op lr_add (le_op lr_ix (le_var 12) (le_var 15)) (le_var 19)) la_nil)))) la_nil)) (lg_name 12)))) ls_next) (ls_seq (ls_if (lt_not (lt_tru (le_call repc_nil (la_cons (le_var 1) (la_cons (le_var 2) (la_cons (le_var 5) (la_cons (le_var 10) (la_cons (le_var 12) (la_cons (le_var 16) la_nil))))))))) (ls_ret le_bl) ls_next) (ls_seq (ls_asg (le_cb lr_tupC (la_cons (le_lc (li_seq (le_var 16)) (lg_name 23) (own_name (by decide)) lt_yes (le_un lr_neg (le_var 23))) la_nil)) (lg_name 20)) (ls_seq (ls_if (lt_not (lt_tru (le_call repc_nil (la_cons (le_var 1) (la_cons (le_var 2) (la_cons (le_var 5) (la_cons (le_var 10) (la_cons (le_var 12) (la_cons (le_var 20) la_nil))))))))) (ls_ret le_bl) ls_next) (ls_ret (le_call repc_nil (la_cons (le_var 1) (la_cons (le_var 2) (la_cons (le_var 5) (la_cons (le_var 10) (la_cons (le_var 12) (la_cons (le_call repc_nil (la_cons (le_var 1) (la_cons (le_var 16) la_nil))) la_nil))))))))))))))))))))))))))))))
end
end G
namespace G
open PySem L2 PL
local macro_rules | `(tactic| walk_at "own_ws") => `(tactic| try simp only [PL.fnW, PL.startD, List.map_cons, List.map_nil, List.length_cons, List.length_nil, List.replicate, List.replicate_succ, List.replicate_zero, List.append_nil, List.nil_append, List.cons_append, List.singleton_append, Nat.zero_add, Nat.add_zero, Nat.add_sub_cancel, Nat.reduceSub, Nat.reduceAdd, Nat.sub_zero, Nat.sub_self,
  PL.wSeq, PL.wIfS, PL.wRet, PL.wRetN, PL.wDrop, PL.wNext, PL.wBreak, PL.wCont, PL.wOp, PL.wUn, PL.wVar, PL.wC, PL.wCons, PL.wNil, PL.wTup, PL.wLst, PL.wTest, PL.wAnd, PL.wOr, PL.wNot, PL.wAndV, PL.wOrV, PL.wNotV, PL.wIf, PL.wChain, PL.wAsg, PL.wName, PL.wGtup, PL.wGunl, PL.wGcons, PL.wGnil, PL.wPar, PL.wPar3, PL.wAug, PL.wCB, PL.wCall, PL.wMake, PL.wMakeK, PL.wYes, PL.wTru, PL.wFor, PL.wSeqI, PL.wEnumI, PL.wZipI, PL.wRng1, PL.wRng2, PL.wBM, PL.wBM0, PL.wLstRg1, PL.wRaise, PL.wFldS, ↓PL.wFld_var, PL.wSet0, PL.wSAdd, PL.wNoPart, PL.wPart, PL.wSl, PL.wLc, PL.wipeD,
  PL.oSub, PL.oMod, PL.oFdiv, PL.oPow, PL.oLt, PL.oLe, PL.oGt, PL.oGe, PL.wI0, PL.wI2, PL.wB0, PL.wIp, PL.wNeg, PL.wR1, PL.one1, PL.two2, PL.ints1, PL.ints2,
  List.getElem?_cons_zero, List.getElem?_cons_succ, List.set_cons_zero, List.set_cons_succ, and_true, true_and, if_true, if_false, ite_true, ite_false, reduceIte, Bool.true_eq_false, Bool.false_eq_true, eq_self])
local macro_rules | `(tactic| walk_at "own_wt") => `(tactic| try simp only [PL.fnW, PL.startD, List.map_cons, List.map_nil, List.length_cons, List.length_nil, List.replicate, List.replicate_succ, List.replicate_zero, List.append_nil, List.nil_append, List.cons_append, List.singleton_append, Nat.zero_add, Nat.add_zero, Nat.add_sub_cancel, Nat.reduceSub, Nat.reduceAdd, Nat.sub_zero, Nat.sub_self,
  PL.wSeq_l, PL.wIfS, PL.wRet, PL.wRetN, PL.wDrop, PL.wNext, PL.wBreak, PL.wCont, PL.wOp, PL.wUn, PL.wVar, PL.wC, PL.wCons, PL.wNil, PL.wTup, PL.wLst_a, PL.wTest, PL.wAnd, PL.wOr, PL.wNot, PL.wAndV, PL.wOrV, PL.wNotV, PL.wIf, PL.wChain, PL.wAsg, PL.wName, PL.wGtup, PL.wGunl, PL.wGcons, PL.wGnil, PL.wPar, PL.wPar3, PL.wAug, PL.wCB, PL.wCall, PL.wMake, PL.wMakeK, PL.wYes, PL.wTru, PL.wFor, PL.wSeqI, PL.wEnumI, PL.wZipI, PL.wRng1, PL.wRng2, PL.wBM, PL.wBM0, PL.wLstRg1_a, PL.wRaise, PL.wFldS, ↓PL.wFld_var, PL.wSet0, PL.wSAdd, PL.wNoPart, PL.wPart, PL.wSl_eq, PL.wLc_a, PL.wipeD,
  PL.oSub, PL.oMod, PL.oFdiv, PL.oPow, PL.oLt, PL.oLe, PL.oGt, PL.oGe, PL.wI0, PL.wI2, PL.wB0, PL.wIp, PL.wNeg, PL.wR1, PL.one1, PL.two2, PL.ints1, PL.ints2,
  List.getElem?_cons_zero, List.getElem?_cons_succ, List.set_cons_zero, List.set_cons_succ, and_true, true_and, if_true, if_false, ite_true, ite_false, reduceIte, Bool.true_eq_false, Bool.false_eq_true, eq_self])
local macro_rules | `(tactic| walk_at "own_nx") => `(tactic| ((first | refine PL.later_i ?_ | (dsimp only; refine PL.later_i ?_)); walk_at "own_wt"))
local macro_rules | `(tactic| walk_at "own_wg") => `(tactic| simp only [PL.wGtup, PL.wGcons, PL.wGnil, PL.wName, List.length_cons, List.length_nil, List.set_cons_zero, List.set_cons_succ, Nat.zero_add, Nat.reduceAdd, true_and])
local macro_rules | `(tactic| walk_at "own_mem") => `(tactic| repeat (first | exact List.Mem.head _ | refine List.Mem.tail _ ?_))
local macro_rules | `(tactic| walk_at "own_mm") => `(tactic| exact PL.Own.get (by assumption) (by walk_at "own_mem"))
local macro_rules | `(tactic| walk_at "own_sq") => `(tactic| first | rfl | exact PL.seq_lst (PL.Own.get (by assumption) (by walk_at "own_mem")))
local macro_rules | `(tactic| walk_at "own_sub") => `(tactic| repeat (first | exact List.Sublist.refl _ | refine List.Sublist.cons_cons _ ?_ | refine List.Sublist.cons _ ?_))
local macro_rules | `(tactic| walk_at "own_putr") => `(tactic| repeat (first | exact PL.PutR.here | apply PL.PutR.there))
local macro_rules | `(tactic| walk_at "own_lat") => `(tactic| (first | refine PL.later_i ?_ | (dsimp only; refine PL.later_i ?_)))
local macro_rules | `(tactic| walk_at "own_wu") => `(tactic| try simp only [PL.fnW, PL.startD, List.map_cons, List.map_nil, List.length_cons, List.length_nil, List.replicate, List.replicate_succ, List.replicate_zero, List.append_nil, List.nil_append, List.cons_append, List.singleton_append, Nat.zero_add, Nat.add_zero, Nat.add_sub_cancel, Nat.reduceSub, Nat.reduceAdd, Nat.sub_zero, Nat.sub_self,
  PL.wSeq_l, PL.wIfS, PL.wRet, PL.wRetN, PL.wDrop, PL.wNext, PL.wBreak, PL.wCont, PL.wOp, PL.wUn, PL.wVar, PL.wC, PL.wCons, PL.wNil, PL.wTup, PL.wLst_a, PL.wTest, PL.wAnd, PL.wOr, PL.wNot, PL.wAndV, PL.wOrV, PL.wNotV, PL.wIf, PL.wAsg, PL.wName, PL.wPar, PL.wPar3, PL.wCB, PL.wCall, PL.wMake, PL.wYes, PL.wTru, PL.wFor, PL.wSeqI, PL.wRng1, PL.wRng2, PL.wBM, PL.wBM0, PL.wRaise, ↓PL.wFld_var, PL.wNoPart, PL.wPart, PL.wLc_a, PL.wipeD,
  List.getElem?_cons_zero, List.getElem?_cons_succ, List.set_cons_zero, List.set_cons_succ, and_true, true_and, if_true, if_false, ite_true, ite_false, reduceIte, Bool.true_eq_false, Bool.false_eq_true, eq_self])
local macro_rules | `(tactic| walk_at "own_nu") => `(tactic| ((first | refine PL.later_i ?_ | (dsimp only; refine PL.later_i ?_)); walk_at "own_wu"))
local macro_rules | `(tactic| walk_at "own_cn") => `(tactic| repeat (first | exact PL.Cn.c | exact PL.Cn.neg | exact PL.CnA.nil | exact PL.Cn.var rfl | apply PL.CnA.cons | apply PL.Cn.tup))
/-- what is known of the classes -/
structure Facts (π : Pr) : Prop where
  kb : ∀ T ∈ six, kitD π.K (.inl T) (.ref π.a_Web) = some false ∧ kitD π.K (.inl T) (.ref π.a_Box) = some false
  kw : kitD π.K (.inr π.a_Web) (.ref π.a_Web) = some true ∧ kitD π.K (.inr π.a_Web) (.ref π.a_Box) = some false
  kx : kitD π.K (.inr π.a_Box) (.ref π.a_Web) = some false ∧ kitD π.K (.inr π.a_Box) (.ref π.a_Box) = some true
  ko : ∀ C, C = π.a_Web ∨ C = π.a_Box → kitD π.K (.inr C) (.ty "list") = some false ∧ kitD π.K (.inr C) (.ty "tuple") = some false ∧ InsC π.K C
  fl : π.fld π.a_Web "points" ∧ π.fld π.a_Web "ties" ∧ π.fld π.a_Box "bounds" ∧ π.fld π.a_Box "totals"
  eqB : π.eqf π.a_Box (S_Box__eq_ π)
  nf : ∀ t, t = .inr π.a_Box ∨ t = .inr π.a_Web ∨ t = .inl "tuple" → PySem.W.notFirst π.K π.a_Box (tagV t) = true
theorem k6 {K : PySem.W.Frag} {T : String} (h : T ∈ six) : kitD K (.inl T) (.ty "int") = some (T == "int" || T == "bool") ∧ kitD K (.inl T) (.ty "bool") = some (T == "bool") ∧
    kitD K (.inl T) (.ty "str") = some (T == "str") ∧ kitD K (.inl T) (.ty "list") = some (T == "list") ∧ kitD K (.inl T) (.ty "tuple") = some (T == "tuple") := by
  rcases six_cases h with rfl | rfl | rfl | rfl | rfl | rfl
  · exact ⟨k_non_int, k_non_bool, k_non_str, k_non_lst, k_non_tup⟩
  · exact ⟨k_bool_int, k_bool_bool, k_bool_str, k_bool_lst, k_bool_tup⟩
  · exact ⟨k_int_int, k_int_bool, k_int_str, k_int_lst, k_int_tup⟩
  · exact ⟨k_str_int, k_str_bool, k_str_str, k_str_lst, k_str_tup⟩
  · exact ⟨k_tup_int, k_tup_bool, k_tup_str, k_tup_lst, k_tup_tup⟩
  · exact ⟨k_lst_int, k_lst_bool, k_lst_str, k_lst_lst, k_lst_tup⟩
section
variable {π : Pr} {μ : Mem} {P : D → Mem → Prop} {XP : Exn → Mem → Prop} {d : D} {T : String}
/-- isinstance with a built-in type, of built-in values -/
theorem wIsi_ty {t : String} {b : Bool} {P : D → Mem → Prop} (h : tagOf μ d = some (.inl T)) (e : kitD π.K (.inl T) (.ty t) = some b) (k : P (.bl b) μ) : wIsi π.K [d, .ty t] μ P := by
  unfold wIsi
  simp only [two2, isiD, h, e]
  exact ⟨(fun _ z => nomatch z), k⟩
theorem is_integer_s (h : tagOf μ d = some (.inl T)) (hT : T ∈ six) (k : P (.bl (T == "int")) μ) : S_is_integer π [d] μ P XP := by
  rw [S_is_integer_eq]
  refine ⟨rfl, ?_⟩
  unfold W_is_integer
  walk_at "own_ws"
  obtain ⟨k1, k2, k3, k4, k5⟩ := k6 (K := π.K) hT
  refine wIsi_ty h k1 ?_
  rcases six_cases hT with rfl | rfl | rfl | rfl | rfl | rfl <;> simp
  all_goals first
    | exact .here k
    | (refine wIsi_ty h k2 ?_; simp; exact .here k)

def isIntD : D → Bool | .int _ => true | _ => false
theorem tag_int (h : tagOf μ d = some (.inl T)) : (T == "int") = isIntD d := by
  cases d with
  | cell n =>
    rw [tag_cell] at h
    cases e : μ[n]? with
    | none => rw [e] at h; cases h
    | some m => rw [e] at h; cases m <;> first | (cases h; rfl) | cases h
  | _ => first | (cases h; rfl) | cases h
theorem is_integer_t (h : Tame μ d) (k : P (.bl (isIntD d)) μ) : S_is_integer π [d] μ P XP := by
  obtain ⟨T, hT, e⟩ := h
  exact is_integer_s e hT (by rw [tag_int e]; exact k)
theorem beqC (a b : Int) : (a == b) = decide (b = a) := by
  by_cases h : b = a
  · subst h; rw [decide_eq_true rfl]; exact beq_self_eq_true _
  · rw [decide_eq_false h]; exact beq_eq_false_iff_ne.mpr (Ne.symm h)
/-- a number below m -/
def belowD (d : D) (m : Int) : Bool := match d with | .int i => decide (0 ≤ i) && decide (i < m) | _ => false
theorem is_below_t {m : Int} (h : Tame μ d) (k : P (.bl (belowD d m)) μ) : S_is_below π [d, .int m] μ P XP := by
  rw [S_is_below_eq]
  refine ⟨rfl, ?_⟩
  unfold W_is_below
  walk_at "own_ws"
  refine is_integer_t h ?_
  cases d with
  | int i =>
    simp only [isIntD, if_true]
    by_cases h0 : 0 ≤ i
    · simp only [h0, decide_true, if_true]
      exact .here (by simpa [belowD, h0] using k)
    · simp only [h0, decide_false]
      exact .here (by simpa [belowD, h0] using k)
  | _ => exact .here k
def signD (d : D) : Bool := match d with | .int i => decide (i = -1) || decide (i = 1) | _ => false
theorem is_sign_t (h : Tame μ d) (k : P (.bl (signD d)) μ) : S_is_sign π [d] μ P XP := by
  rw [S_is_sign_eq]
  refine ⟨rfl, ?_⟩
  unfold W_is_sign
  walk_at "own_ws"
  refine is_integer_t h ?_
  cases d with
  | int i =>
    simp only [isIntD, if_true]
    unfold wIn
    simp only [seqOf]
    refine ⟨rfl, rfl, .here ?_⟩
    have e : inD (.int i) [.int (-1), .int 1] = signD (.int i) := by
      simp only [inD, eqFlat, signD, List.any_cons, List.any_nil, Bool.or_false, beqC]
    rw [if_neg Bool.false_ne_true, e]; exact k
  | _ => exact .here k
def seqTag : Sum String Addr → Bool | .inl T => T == "list" || T == "tuple" | .inr _ => false
theorem is_sequence_s {t : Sum String Addr} (F : Facts π) (h : tagOf μ d = some t) (hk : (∃ T ∈ six, t = .inl T) ∨ t = .inr π.a_Web ∨ t = .inr π.a_Box) (k : P (.bl (seqTag t)) μ) : S_is_sequence π [d] μ P XP := by
  rw [S_is_sequence_eq]
  refine ⟨rfl, ?_⟩
  unfold W_is_sequence
  walk_at "own_ws"
  unfold wIsi
  simp only [two2, isiD, h]
  rcases hk with ⟨T, hT, rfl⟩ | hk
  · obtain ⟨k1, k2, k3, k4, k5⟩ := k6 (K := π.K) hT
    have e : kitDs π.K (.inl T) [.ty "list", .ty "tuple"] = some (T == "list" || T == "tuple") := by
      simp only [kitDs, k4, k5]
      rcases six_cases hT with rfl | rfl | rfl | rfl | rfl | rfl <;> rfl
    rw [e]
    exact ⟨(fun _ z => nomatch z), .here k⟩
  · obtain ⟨C, rfl, hC⟩ : ∃ C, t = .inr C ∧ (C = π.a_Web ∨ C = π.a_Box) := by
      rcases hk with rfl | rfl
      · exact ⟨_, rfl, .inl rfl⟩
      · exact ⟨_, rfl, .inr rfl⟩
    obtain ⟨k4, k5, ki⟩ := F.ko C hC
    have e : kitDs π.K (.inr C) [.ty "list", .ty "tuple"] = some false := by simp only [kitDs, k4, k5]
    rw [e]
    exact ⟨(fun _ z => by cases z; exact ki), .here k⟩
theorem is_sequence_t (F : Facts π) (h : Tame μ d) (k : P (.bl (seqOf μ d).isSome) μ) : S_is_sequence π [d] μ P XP := by
  obtain ⟨T, hT, e⟩ := h
  exact is_sequence_s F e (.inl ⟨T, hT, rfl⟩) (by rw [seq_tag e] at k; exact k)
/-- a sequence of so many -/
def sizedD (μ : Mem) (d : D) (m : Int) : Bool := match seqOf μ d with | some xs => ((xs.length : Nat) : Int) == m | none => false
theorem is_sized_t {m : Int} (F : Facts π) (h : Tame μ d) (k : P (.bl (sizedD μ d m)) μ) : S_is_sized π [d, .int m] μ P XP := by
  rw [S_is_sized_eq]
  refine ⟨rfl, ?_⟩
  unfold W_is_sized
  walk_at "own_ws"
  refine is_sequence_t F h ?_
  unfold sizedD at k
  cases e : seqOf μ d with
  | none => simp only [e, Option.isSome] at k ⊢; exact .here k
  | some xs =>
    simp only [e, Option.isSome, if_true] at k ⊢
    refine wLen_i e (wEq_int ?_)
    exact .here k
/-- a pair of integers, the first not above the second -/
def bndI : D → D → Bool | .int a, .int b => decide (a ≤ b) | _, _ => false
def bnd2 : List D → Bool | [a, b] => bndI a b | _ => false
def bndD (μ : Mem) (d : D) : Bool := match seqOf μ d with | some xs => bnd2 xs | none => false
theorem are_bounds_t (F : Facts π) (h : Tame2 μ d) (k : P (.bl (bndD μ d)) μ) : S_are_bounds π [d] μ P XP := by
  rw [S_are_bounds_eq]
  refine ⟨rfl, ?_⟩
  unfold W_are_bounds
  walk_at "own_ws"
  refine is_sized_t F h.1 ?_
  unfold bndD at k
  unfold sizedD
  cases e : seqOf μ d with
  | none => simp only [e] at k ⊢; exact .here k
  | some xs =>
    simp only [e] at k ⊢
    have ht := h.2 xs e
    match xs, e, k, ht with
    | [], e, k, ht => exact .here k
    | [a], e, k, ht => exact .here k
    | a :: b :: c :: r, e, k, ht =>
      have z : (((a :: b :: c :: r).length : Nat) : Int) == 2 ↔ False := by simp; omega
      simp only [z, if_false]
      exact .here k
    | [a, b], e, k, ht =>
      simp only [List.length_cons, List.length_nil]
      refine (if_pos (by decide)).mpr ?_
      refine wIx_i e (atI_at (j := 0) rfl) ?_
      refine is_integer_t (ht a (by simp)) ?_
      cases a with
      | int a =>
        simp only [isIntD, if_true]
        refine wIx_i e (atI_at (j := 1) rfl) ?_
        refine is_integer_t (ht b (by simp)) ?_
        cases b with
        | int b =>
          simp only [isIntD, if_true]
          refine wIx_i e (atI_at (j := 0) rfl) ?_
          refine wIx_i e (atI_at (j := 1) rfl) ?_
          exact .here k
        | _ => exact .here k
      | _ => exact .here (by cases b <;> exact k)

/-! ### webs and boxes -/
def tieD (t : List Int) : D := .tup (litD t)
def pairD (p : Int × Int) : D := .tup [.int p.1, .int p.2]
def WebIs (π : Pr) (μ : Mem) (n : Nat) (pts : Int) (ties : List (List Int)) : Prop := μ[n]? = some (.ins π.a_Web [("points", .int pts), ("ties", .tup (ties.map tieD))])
def BoxIs (π : Pr) (μ : Mem) (n : Nat) (bs : List (Int × Int)) (ts : List Int) : Prop := μ[n]? = some (.ins π.a_Box [("bounds", .tup (bs.map pairD)), ("totals", .tup (litD ts))])
theorem WebIs.fr {S : List Nat} {μ μ' : Mem} {n : Nat} {p : Int} {t : List (List Int)} (h : WebIs π μ n p t) (f : Fr S μ μ') (o : n ∉ S) : WebIs π μ' n p t := f.get h o
theorem BoxIs.fr {S : List Nat} {μ μ' : Mem} {n : Nat} {p : List (Int × Int)} {t : List Int} (h : BoxIs π μ n p t) (f : Fr S μ μ') (o : n ∉ S) : BoxIs π μ' n p t := f.get h o
/-- any value that is handed in where a web, a box should be -/
def Known (π : Pr) (t : Sum String Addr) : Prop := (∃ T ∈ six, t = .inl T) ∨ t = .inr π.a_Web ∨ t = .inr π.a_Box
theorem isi_own {t : Sum String Addr} {C : Addr} {b : Bool} (F : Facts π) (h : tagOf μ d = some t) (hk : Known π t) (e : kitD π.K t (.ref C) = some b) (k : P (.bl b) μ) : wIsi π.K [d, .ref C] μ P := by
  unfold wIsi
  simp only [two2, isiD, h, e]
  refine ⟨fun C' z => ?_, k⟩
  subst z
  rcases hk with ⟨T, _, z⟩ | z | z
  · cases z
  · cases z; exact (F.ko _ (.inl rfl)).2.2
  · cases z; exact (F.ko _ (.inr rfl)).2.2
theorem check_web_ok {n : Nat} {p : Int} {t : List (List Int)} {a : D} (F : Facts π) (h : WebIs π μ n p t) (k : P .non μ) : S_check_web π [.cell n, a] μ P XP := by
  rw [S_check_web_eq]
  refine ⟨rfl, ?_⟩
  unfold W_check_web
  walk_at "own_ws"
  exact isi_own F (tag_ins h) (.inr (.inl rfl)) F.kw.1 (by simp only [truD, Bool.not_true, Bool.false_eq_true, if_false]; exact .here k)
theorem check_web_no {t : Sum String Addr} {a : D} (F : Facts π) (h : tagOf μ d = some t) (hk : (∃ T ∈ six, t = .inl T) ∨ t = .inr π.a_Box) (k : XP ⟨π.a_InvalidWeb, [("at", a)]⟩ μ) : S_check_web π [d, a] μ P XP := by
  rw [S_check_web_eq]
  refine ⟨rfl, ?_⟩
  unfold W_check_web
  walk_at "own_ws"
  have e : kitD π.K t (.ref π.a_Web) = some false := by
    rcases hk with ⟨T, hT, rfl⟩ | rfl
    · exact (F.kb T hT).1
    · exact F.kx.1
  exact isi_own F h (hk.imp id .inr) e (by simp only [truD, Bool.not_false, if_true]; exact .here k)
/-- a box of this web's sizes -/
def isBoxD (π : Pr) (μ : Mem) (d : D) (nt : Nat) (pts : Int) : Prop := ∃ n bs ts, d = .cell n ∧ BoxIs π μ n bs ts ∧ bs.length = nt ∧ ((ts.length : Nat) : Int) = pts
theorem len_litD (ns : List Int) : (litD ns).length = ns.length := by simp [litD]
theorem check_box_ok {w n : Nat} {p : Int} {t : List (List Int)} {bs : List (Int × Int)} {ts : List Int} (F : Facts π) (hw : WebIs π μ w p t) (hb : BoxIs π μ n bs ts) (h1 : bs.length = t.length) (h2 : ((ts.length : Nat) : Int) = p) (k : P .non μ) :
    S_check_box π [.cell w, .cell n] μ P XP := by
  rw [S_check_box_eq]
  refine ⟨rfl, ?_⟩
  unfold W_check_box
  walk_at "own_ws"
  refine isi_own F (tag_ins hb) (.inr (.inr rfl)) F.kx.2 ?_
  simp only [truD, Bool.not_true, Bool.false_eq_true, if_false]
  refine wFldV_i hb F.fl.2.2.1 rfl rfl ?_
  refine wLen_i rfl ?_
  refine wFldV_i hw F.fl.2.1 rfl rfl ?_
  refine wLen_i rfl ?_
  refine wEq_int ?_
  simp only [List.length_map, h1, beq_self_eq_true, Bool.not_true, Bool.false_eq_true, if_false, if_true]
  refine wFldV_i hb F.fl.2.2.2 rfl rfl ?_
  refine wLen_i rfl ?_
  refine wFldV_i hw F.fl.1 rfl rfl ?_
  refine wEq_int ?_
  simp only [len_litD, h2, beq_self_eq_true, Bool.not_true, Bool.false_eq_true, if_false, if_true]
  exact .here k
theorem check_box_far {w n : Nat} {p : Int} {t : List (List Int)} {bs : List (Int × Int)} {ts : List Int} (F : Facts π) (hw : WebIs π μ w p t) (hb : BoxIs π μ n bs ts) (h : bs.length ≠ t.length ∨ ((ts.length : Nat) : Int) ≠ p) (k : XP ⟨π.a_InvalidBox, [("at", .int (-1))]⟩ μ) :
    S_check_box π [.cell w, .cell n] μ P XP := by
  rw [S_check_box_eq]
  refine ⟨rfl, ?_⟩
  unfold W_check_box
  walk_at "own_ws"
  refine isi_own F (tag_ins hb) (.inr (.inr rfl)) F.kx.2 ?_
  simp only [truD, Bool.not_true, Bool.false_eq_true, if_false]
  refine wFldV_i hb F.fl.2.2.1 rfl rfl ?_
  refine wLen_i rfl ?_
  refine wFldV_i hw F.fl.2.1 rfl rfl ?_
  refine wLen_i rfl ?_
  refine wEq_int ?_
  simp only [List.length_map]
  by_cases h1 : bs.length = t.length
  · simp only [h1, beq_self_eq_true, Bool.not_true, Bool.false_eq_true, if_false, if_true]
    refine wFldV_i hb F.fl.2.2.2 rfl rfl ?_
    refine wLen_i rfl ?_
    refine wFldV_i hw F.fl.1 rfl rfl ?_
    refine wEq_int ?_
    have h2 : (((ts.length : Nat) : Int) == p) = false := by rcases h with h | h; exact absurd h1 h; exact beq_eq_false_iff_ne.mpr h
    simp only [len_litD, h2, Bool.not_false, if_true]
    exact .here k
  · have h2 : (((bs.length : Nat) : Int) == ((t.length : Nat) : Int)) = false := beq_eq_false_iff_ne.mpr fun z => h1 (by omega)
    simp only [h2, Bool.not_false, if_true]
    exact .here k
theorem check_box_no {w : Nat} {p : Int} {tt : List (List Int)} {t : Sum String Addr} (F : Facts π) (h : tagOf μ d = some t) (hk : (∃ T ∈ six, t = .inl T) ∨ t = .inr π.a_Web) (k : XP ⟨π.a_InvalidBox, [("at", .int (-1))]⟩ μ) : S_check_box π [.cell w, d] μ P XP := by
  rw [S_check_box_eq]
  refine ⟨rfl, ?_⟩
  unfold W_check_box
  walk_at "own_ws"
  have e : kitD π.K t (.ref π.a_Box) = some false := by
    rcases hk with ⟨T, hT, rfl⟩ | rfl
    · exact (F.kb T hT).2
    · exact F.kw.2
  exact isi_own F h (hk.imp id .inl) e (by simp only [truD, Bool.not_false, if_true]; exact .here k)

/-- the first thing that fails, its place -/
def firstBad (p : D → Bool) : Nat → List D → Option Nat
  | _, [] => none
  | i, x :: xs => if p x then firstBad p (i + 1) xs else some i
theorem firstBad_none {p : D → Bool} : ∀ {xs : List D} {i : Nat}, (∀ x ∈ xs, p x = true) → firstBad p i xs = none
  | [], _, _ => rfl
  | x :: xs, i, h => by rw [firstBad, if_pos (h x (by simp))]; exact firstBad_none fun y hy => h y (by simp [hy])
theorem firstBad_at {p : D → Bool} {x : D} {ys : List D} (hx : p x = false) : ∀ {xs : List D} {i : Nat}, (∀ x ∈ xs, p x = true) → firstBad p i (xs ++ x :: ys) = some (i + xs.length)
  | [], i, _ => by rw [List.nil_append, firstBad, if_neg (by rw [hx]; exact Bool.false_ne_true)]; rfl
  | z :: xs, i, h => by
    rw [List.cons_append, firstBad, if_pos (h z (by simp)), firstBad_at hx fun y hy => h y (by simp [hy])]
    simp; omega
/-- what a row's check says: -1, a place, none -/
def rowBad (μ : Mem) (p : D → Bool) (m : Int) (d : D) : Option Int := match seqOf μ d with
  | some xs => if ((xs.length : Nat) : Int) = m then (firstBad p 0 xs).map fun i => ((i : Nat) : Int) else some (-1)
  | none => some (-1)
theorem check_bounds_t {w : Nat} {p : Int} {t : List (List Int)} (F : Facts π) (hw : WebIs π μ w p t) (h : Tame μ d) (h2 : ∀ xs, seqOf μ d = some xs → ∀ x ∈ xs, Tame2 μ x)
    (k : match rowBad μ (bndD μ) ((t.length : Nat) : Int) d with | none => P .non μ | some i => XP ⟨π.a_InvalidBounds, [("at", .int i)]⟩ μ) : S_check_bounds π [.cell w, d] μ P XP := by
  rw [S_check_bounds_eq]
  refine ⟨rfl, ?_⟩
  unfold W_check_bounds
  walk_at "own_ws"
  refine wFldV_i hw F.fl.2.1 rfl rfl ?_
  refine wLen_i rfl ?_
  refine is_sized_t F h ?_
  rw [List.length_map]
  unfold rowBad at k
  unfold sizedD
  cases e : seqOf μ d with
  | none => simp only [e] at k; simp only [truD, Bool.not_false, if_true]; exact .here k
  | some xs =>
    simp only [e] at k
    by_cases hl : ((xs.length : Nat) : Int) = ((t.length : Nat) : Int)
    · simp only [hl, if_true] at k
      simp only [hl, beq_self_eq_true, truD, Bool.not_true, Bool.false_eq_true, if_false, e]
      have ht := h2 xs e
      clear hl h2
      have st := stays_refl μ d
      generalize stays μ d = chk at st
      suffices H : ∀ (xs : List D) (n : Nat) (o2 o3 : Option D), (∀ x ∈ xs, Tame2 μ x) → (match (firstBad (bndD μ) n xs).map fun i => ((i : Nat) : Int) with | none => P .non μ | some i => XP ⟨π.a_InvalidBounds, [("at", .int i)]⟩ μ) →
          loopL chk _ _ (PL.numbered n xs) [some (.cell w), some d, o2, o3] μ _ from H xs 0 none none ht k
      intro xs
      induction xs with
      | nil => intro n o2 o3 _ k; exact .here k
      | cons x xs ih =>
        intro n o2 o3 ht k
        rw [PL.numbered, loopL]
        walk_at "own_ws"
        refine are_bounds_t F (ht x (by simp)) ?_
        rw [firstBad] at k
        cases eb : bndD μ x with
        | true =>
          rw [eb, if_pos rfl] at k
          simp only [truD, Bool.not_true, Bool.false_eq_true, if_false]
          exact ⟨st, ih (n + 1) _ _ (fun y hy => ht y (by simp [hy])) k⟩
        | false =>
          rw [eb, if_neg Bool.false_ne_true] at k
          simp only [truD, Bool.not_false, if_true]
          exact .here k
    · simp only [hl, if_false] at k
      have z : (((xs.length : Nat) : Int) == ((t.length : Nat) : Int)) = false := beq_eq_false_iff_ne.mpr hl
      simp only [z, truD, Bool.not_false, if_true]
      exact .here k

theorem check_totals_t {w : Nat} {p : Int} {t : List (List Int)} (F : Facts π) (hw : WebIs π μ w p t) (h : Tame μ d) (h2 : ∀ xs, seqOf μ d = some xs → ∀ x ∈ xs, Tame μ x)
    (k : match rowBad μ isIntD p d with | none => P .non μ | some i => XP ⟨π.a_InvalidTotals, [("at", .int i)]⟩ μ) : S_check_totals π [.cell w, d] μ P XP := by
  rw [S_check_totals_eq]
  refine ⟨rfl, ?_⟩
  unfold W_check_totals
  walk_at "own_ws"
  refine wFldV_i hw F.fl.1 rfl rfl ?_
  refine is_sized_t F h ?_
  unfold rowBad at k
  unfold sizedD
  cases e : seqOf μ d with
  | none => simp only [e] at k; simp only [truD, Bool.not_false, if_true]; exact .here k
  | some xs =>
    simp only [e] at k
    by_cases hl : ((xs.length : Nat) : Int) = p
    · simp only [hl, if_true] at k
      simp only [hl, beq_self_eq_true, truD, Bool.not_true, Bool.false_eq_true, if_false, e]
      have ht := h2 xs e
      clear hl h2
      have st := stays_refl μ d
      generalize stays μ d = chk at st
      suffices H : ∀ (xs : List D) (n : Nat) (o2 o3 : Option D), (∀ x ∈ xs, Tame μ x) → (match (firstBad isIntD n xs).map fun i => ((i : Nat) : Int) with | none => P .non μ | some i => XP ⟨π.a_InvalidTotals, [("at", .int i)]⟩ μ) →
          loopL chk _ _ (PL.numbered n xs) [some (.cell w), some d, o2, o3] μ _ from H xs 0 none none ht k
      intro xs
      induction xs with
      | nil => intro n o2 o3 _ k; exact .here k
      | cons x xs ih =>
        intro n o2 o3 ht k
        rw [PL.numbered, loopL]
        walk_at "own_ws"
        refine is_integer_t (ht x (by simp)) ?_
        rw [firstBad] at k
        cases eb : isIntD x with
        | true =>
          rw [eb, if_pos rfl] at k
          simp only [truD, Bool.not_true, Bool.false_eq_true, if_false]
          exact ⟨st, ih (n + 1) _ _ (fun y hy => ht y (by simp [hy])) k⟩
        | false =>
          rw [eb, if_neg Bool.false_ne_true] at k
          simp only [truD, Bool.not_false, if_true]
          exact .here k
    · simp only [hl, if_false] at k
      have z : (((xs.length : Nat) : Int) == p) = false := beq_eq_false_iff_ne.mpr hl
      simp only [z, truD, Bool.not_false, if_true]
      exact .here k

/-! ### lots -/
/-! ### ties -/
def okSign (s : Int) : Prop := s = 1 ∨ s = -1
/-- a tie of so many points, as it is handed in -/
inductive TieOk (n : Int) : List Int → Prop
  | loose {p s : Int} : 0 ≤ p → p < n → okSign s → TieOk n [p, s]
  | two {p s q r : Int} : 0 ≤ p → p < n → okSign s → 0 ≤ q → q < n → okSign r → p ≠ q → TieOk n [p, s, q, r]
def normT : List Int → List Int
  | [p, s, q, r] => if q < p then [q, r, p, s] else [p, s, q, r]
  | t => t
theorem belowD_ok {p n : Int} (h0 : 0 ≤ p) (h1 : p < n) : belowD (.int p) n = true := by simp [belowD, h0, h1]
theorem signD_ok {s : Int} (h : okSign s) : signD (.int s) = true := by rcases h with rfl | rfl <;> rfl
theorem is_tie_ok {n : Int} {t : List Int} (F : Facts π) (h : TieOk n t) (k : P (.bl true) μ) : S_is_tie π [tieD t, .int n] μ P XP := by
  rw [S_is_tie_eq]
  refine ⟨rfl, ?_⟩
  unfold W_is_tie
  walk_at "own_ws"
  refine is_sequence_t F (tame_tup _) ?_
  simp only [truD, tieD, seqOf, Option.isSome, Bool.not_true, Bool.false_eq_true, if_false]
  refine wLen_i rfl ?_
  cases h with
  | @loose p s h0 h1 hs =>
    unfold wIn
    simp only [seqOf]
    refine ⟨rfl, rfl, ?_⟩
    have e : inD (.int (((litD [p, s]).length : Nat) : Int)) [.int 2, .int 4] = true := by rfl
    simp only [e, Bool.not_true, if_true, Bool.false_eq_true, if_false]
    refine wIx_i rfl (atI_at (j := 0) rfl) (is_below_t (tame_int _) ?_)
    simp only [belowD_ok h0 h1, truD, Bool.not_true, Bool.false_eq_true, if_false]
    refine wIx_i rfl (atI_at (j := 1) rfl) (is_sign_t (tame_int _) ?_)
    simp only [signD_ok hs, truD, Bool.not_true, Bool.false_eq_true, if_false]
    refine wLen_i rfl (wEq_int ?_)
    exact .here k
  | @two p s q r h0 h1 hs g0 g1 hr ne =>
    unfold wIn
    simp only [seqOf]
    refine ⟨rfl, rfl, ?_⟩
    have e : inD (.int (((litD [p, s, q, r]).length : Nat) : Int)) [.int 2, .int 4] = true := by rfl
    simp only [e, Bool.not_true, if_true, Bool.false_eq_true, if_false]
    refine wIx_i rfl (atI_at (j := 0) rfl) (is_below_t (tame_int _) ?_)
    simp only [belowD_ok h0 h1, truD, Bool.not_true, Bool.false_eq_true, if_false]
    refine wIx_i rfl (atI_at (j := 1) rfl) (is_sign_t (tame_int _) ?_)
    simp only [signD_ok hs, truD, Bool.not_true, Bool.false_eq_true, if_false]
    refine wLen_i rfl (wEq_int ?_)
    have e4 : ((((litD [p, s, q, r]).length : Nat) : Int) == 2) = false := rfl
    simp only [e4, Bool.false_eq_true, if_false]
    refine wIx_i rfl (atI_at (j := 2) rfl) (is_below_t (tame_int _) ?_)
    simp only [belowD_ok g0 g1, if_true]
    refine wIx_i rfl (atI_at (j := 3) rfl) (is_sign_t (tame_int _) ?_)
    simp only [signD_ok hr, if_true]
    refine wIx_i rfl (atI_at (j := 0) rfl) (wIx_i rfl (atI_at (j := 2) rfl) (wEq_int ?_))
    have ez : (p == q) = false := beq_eq_false_iff_ne.mpr ne
    simp only [ez, Bool.not_false, if_true]
    exact .here k
theorem ordered_tie_ok {n : Int} {t : List Int} (h : TieOk n t) (k : P (tieD (normT t)) μ) : S_ordered_tie π [tieD t] μ P XP := by
  rw [S_ordered_tie_eq]
  refine ⟨rfl, ?_⟩
  unfold W_ordered_tie
  walk_at "own_ws"
  rw [S_is_double_eq]
  refine ⟨rfl, ?_⟩
  unfold W_is_double
  walk_at "own_ws"
  refine wLen_i rfl (wEq_int (.here ?_))
  cases h with
  | @loose p s h0 h1 hs =>
    have e4 : ((((litD [p, s]).length : Nat) : Int) == 4) = false := rfl
    simp only [e4, truD, Bool.false_eq_true, if_false]
    exact wTupC_i rfl (.here k)
  | @two p s q r h0 h1 hs g0 g1 hr ne =>
    have e4 : ((((litD [p, s, q, r]).length : Nat) : Int) == 4) = true := rfl
    simp only [e4, truD, Bool.false_eq_true, if_false, if_true]
    refine wIx_i rfl (atI_at (j := 0) rfl) (wIx_i rfl (atI_at (j := 2) rfl) ?_)
    simp only [decide_eq_true_eq]
    rw [normT] at k
    by_cases c : q < p
    · rw [if_pos c] at k ⊢
      exact wIx_i rfl (atI_at (j := 2) rfl) (wIx_i rfl (atI_at (j := 3) rfl) (wIx_i rfl (atI_at (j := 0) rfl) (wIx_i rfl (atI_at (j := 1) rfl) (.here k))))
    · rw [if_neg c] at k ⊢
      exact wTupC_i rfl (.here k)
theorem check_points_ok {n : Int} (h1 : 1 ≤ n) (h2 : n ≤ 1000) (k : P .non μ) : S_check_points π [.int n] μ P XP := by
  rw [S_check_points_eq]
  refine ⟨rfl, ?_⟩
  unfold W_check_points
  walk_at "own_ws"
  refine is_integer_t (tame_int _) ?_
  simp only [isIntD, truD, Bool.not_true, Bool.false_eq_true, if_false, h1, h2, decide_true, if_true]
  exact .here k
/-- Web(points, ties), good ones -/
theorem web_init_ok {n : Int} {ties : List (List Int)} (F : Facts π) (h1 : 1 ≤ n) (h2 : n ≤ 1000) (hl : ties.length ≤ 3000) (ht : ∀ t ∈ ties, TieOk n t)
    (k : ∀ μ', Fr [] μ μ' → WebIs π μ' μ.length n (ties.map normT) → P .non μ') : S_Web__init_ π [.cell μ.length, .int n, .tup (ties.map tieD)] (μ ++ [.ins π.a_Web []]) P XP := by
  rw [S_Web__init__eq]
  refine ⟨rfl, ?_⟩
  unfold W_Web__init_
  walk_at "own_ws"
  refine check_points_ok h1 h2 ?_
  refine is_sequence_t F (tame_tup _) ?_
  simp only [truD, seqOf, Option.isSome, Bool.not_true, Bool.false_eq_true, if_false]
  refine wLen_i rfl ?_
  have e0 : ¬ ((3000 : Int) < (((ties.map tieD).length : Nat) : Int)) := by rw [List.length_map]; omega
  simp only [e0, decide_false, Bool.false_eq_true, if_false]
  suffices H : ∀ (ts : List (List Int)) (i : Nat) (o3 o4 : Option D) (Z : En → Mem → Prop) (R : D → Mem → Prop) (Y : QX), (∀ t ∈ ts, TieOk n t) → (∀ o3 o4, Z [some (.cell μ.length), some (.int n), some (.tup (ties.map tieD)), o3, o4] (μ ++ [.ins π.a_Web []])) →
      loopL (stays (μ ++ [.ins π.a_Web []]) (.tup (ties.map tieD))) (wGtup 2 (wGcons (wName 3) (wGcons (wName 4) wGnil))) (wIfS (PL.wNot (PL.wTru (wCall (S_is_tie π) [] (wCons (wVar 4) (wCons (wVar 1) wNil))))) (wRaise π.a_InvalidTies (PySem.Str.ofString "at") (wCons (wVar 3) wNil)) wNext)
        (PL.numbered i (ts.map tieD)) [some (.cell μ.length), some (.int n), some (.tup (ties.map tieD)), o3, o4] (μ ++ [.ins π.a_Web []]) ⟨Z, R, fun _ _ => False, fun _ _ => False, Y⟩ by
    refine H ties 0 none none _ _ _ ht fun o3 o4 => ?_
    have hself : cellI (μ ++ [.ins π.a_Web []]) (.cell μ.length) = some (μ.length, π.a_Web, []) := by
      show (match (μ ++ [M.ins π.a_Web []])[μ.length]? with | some (.ins C fs) => some (μ.length, C, fs) | _ => none) = _
      rw [get_new μ [] _]
    walk_at "own_ws"
    simp only [hself]
    refine ⟨F.fl.1, by simp, ?_⟩
    have e1 : (μ ++ [M.ins π.a_Web []]).set μ.length (.ins π.a_Web (putD "points" (.int n) [])) = μ ++ [M.ins π.a_Web [("points", .int n)]] := by simp [putD]
    rw [e1]
    have key : ∀ (ts : List (List Int)) (acc : List D) (δ : En) (R : List D → Mem → Prop), (∀ t ∈ ts, TieOk n t) → 4 < δ.length → R (acc ++ (ts.map normT).map tieD) (μ ++ [M.ins π.a_Web [("points", .int n)]]) →
        lcL (stays (μ ++ [M.ins π.a_Web [("points", .int n)]]) (.tup (ties.map tieD))) [4] (wName 4) wYes (wCall (S_ordered_tie π) [] (wCons (wVar 4) wNil)) (ts.map tieD) acc δ (μ ++ [M.ins π.a_Web [("points", .int n)]]) R := by
      intro ts
      induction ts with
      | nil => intro acc δ R _ _ r; simpa [lcL] using r
      | cons t ts ih =>
        intro acc δ R ht hd r
        rw [List.map_cons, lcL]
        simp only [wName, wYes, wCall, wCons, wNil, if_true, wipeD, List.append_nil]
        have hv : ((δ.set 4 none).set 4 (some (tieD t)))[4]? = some (some (tieD t)) := by simp [hd]
        simp only [wVar, hv]
        refine ordered_tie_ok (ht t (by simp)) ⟨trivial, ih _ δ R (fun y hy => ht y (by simp [hy])) hd ?_⟩
        simpa using r
    refine ⟨by rw [List.length_map, sizeLine_eq]; omega, key ties [] _ _ ht (by simp) ?_⟩
    refine wTupC_i (xs := (ties.map normT).map tieD) (seq_lst (get_new _ [] _)) ?_
    walk_at "own_ws"
    simp only [cellI_at (show (μ ++ [M.ins π.a_Web [(PySem.Str.ofString "points", D.int n)]] ++ [M.lst ((ties.map normT).map tieD)])[μ.length]? = some (.ins π.a_Web [(PySem.Str.ofString "points", D.int n)]) by rw [List.append_assoc, List.singleton_append]; exact get_new μ _ _)]
    refine ⟨F.fl.2.1, by simp, .here (k _ ?_ ?_)⟩
    · exact Fr.setNew _ (by rw [List.append_assoc]; exact Fr.app _ _ _) (Nat.le_refl _)
    · show (List.set _ _ _)[μ.length]? = _
      rw [get_set (by simp)]
      rfl
  intro ts
  induction ts with
  | nil => intro i o3 o4 Z R Y _ z; exact z o3 o4
  | cons t ts ih =>
    intro i o3 o4 Z R Y ht z
    rw [List.map_cons, PL.numbered, loopL]
    walk_at "own_ws"
    refine is_tie_ok F (ht t (by simp)) ?_
    simp only [truD, Bool.not_true, Bool.false_eq_true, if_false]
    exact ⟨trivial, ih (i + 1) _ _ Z R Y (fun y hy => ht y (by simp [hy])) z⟩

/-! ### boxes made -/
inductive PairsAt (μ : Mem) : List D → List (Int × Int) → Prop
  | nil : PairsAt μ [] []
  | cons {x : D} {p : Int × Int} {xs : List D} {bs : List (Int × Int)} (ht : Tame μ x) (hs : seqOf μ x = some [.int p.1, .int p.2]) (r : PairsAt μ xs bs) : PairsAt μ (x :: xs) (p :: bs)
def BndsAt (μ : Mem) (d : D) (bs : List (Int × Int)) : Prop := Tame μ d ∧ ∃ xs, seqOf μ d = some xs ∧ PairsAt μ xs bs
def IntsAt (μ : Mem) (d : D) (ts : List Int) : Prop := Tame μ d ∧ seqOf μ d = some (litD ts)
theorem tame_get {μ : Mem} {n : Nat} (h : Tame μ (.cell n)) : n < μ.length := by
  obtain ⟨T, _, e⟩ := h
  rw [tag_cell] at e
  cases q : μ[n]? with
  | none => rw [q] at e; cases e
  | some m => exact get_lt q
theorem PairsAt.fr {μ μ' : Mem} (f : Fr [] μ μ') {xs : List D} {bs : List (Int × Int)} (h : PairsAt μ xs bs) : PairsAt μ' xs bs := by
  induction h with
  | nil => exact .nil
  | cons ht hs _ ih => exact .cons (tame_fr f ht (offs_nil _)) (seq_fr f hs (offs_nil _)) ih
theorem BndsAt.fr {μ μ' : Mem} (f : Fr [] μ μ') {d : D} {bs : List (Int × Int)} (h : BndsAt μ d bs) : BndsAt μ' d bs := by
  obtain ⟨a, xs, b, c⟩ := h
  exact ⟨tame_fr f a (offs_nil _), xs, seq_fr f b (offs_nil _), c.fr f⟩
theorem IntsAt.fr {μ μ' : Mem} (f : Fr [] μ μ') {d : D} {ts : List Int} (h : IntsAt μ d ts) : IntsAt μ' d ts := ⟨tame_fr f h.1 (offs_nil _), seq_fr f h.2 (offs_nil _)⟩
theorem PairsAt.length {μ : Mem} {xs : List D} {bs : List (Int × Int)} (h : PairsAt μ xs bs) : xs.length = bs.length := by
  induction h with
  | nil => rfl
  | cons _ _ _ ih => simp [ih]
theorem pairsAt_map {μ : Mem} : ∀ bs : List (Int × Int), PairsAt μ (bs.map pairD) bs
  | [] => .nil
  | p :: bs => .cons (tame_tup _) rfl (pairsAt_map bs)
theorem PairsAt.good {μ : Mem} {xs : List D} {bs : List (Int × Int)} (h : PairsAt μ xs bs) (o : ∀ q ∈ bs, q.1 ≤ q.2) : ∀ x ∈ xs, bndD μ x = true := by
  induction h with
  | nil => intro x hx; cases hx
  | @cons y p xs bs ht hs r ih =>
    intro x hx
    rcases List.mem_cons.mp hx with e | hx
    · subst e
      unfold bndD
      rw [hs]
      exact decide_eq_true (o p (by simp))
    · exact ih (fun q hq => o q (by simp [hq])) x hx
theorem PairsAt.tame {μ : Mem} {xs : List D} {bs : List (Int × Int)} (h : PairsAt μ xs bs) : ∀ x ∈ xs, Tame2 μ x := by
  induction h with
  | nil => intro x hx; cases hx
  | @cons y p xs bs ht hs r ih =>
    intro x hx
    rcases List.mem_cons.mp hx with e | hx
    · subst e
      refine ⟨ht, fun zs hz z hm => ?_⟩
      rw [hs] at hz
      cases hz
      simp at hm
      rcases hm with e | e <;> (subst e; exact tame_int _)
    · exact ih x hx
theorem BndsAt.row {μ : Mem} {d : D} {bs : List (Int × Int)} (h : BndsAt μ d bs) (o : ∀ q ∈ bs, q.1 ≤ q.2) {m : Nat} (l : bs.length = m) : rowBad μ (bndD μ) (m : Nat) d = none := by
  obtain ⟨_, xs, e, p⟩ := h
  unfold rowBad
  simp only [e]
  rw [if_pos (by rw [p.length, l]), firstBad_none (p.good o)]; rfl
theorem tame_lit {μ : Mem} {ts : List Int} : ∀ x ∈ litD ts, Tame μ x := fun x hx => by
  obtain ⟨i, _, e⟩ := List.mem_map.mp hx
  subst e; exact tame_int i
theorem IntsAt.row {μ : Mem} {d : D} {ts : List Int} (h : IntsAt μ d ts) {m : Int} (l : ((ts.length : Nat) : Int) = m) : rowBad μ isIntD m d = none := by
  unfold rowBad
  simp only [h.2]
  rw [if_pos (by rw [len_litD]; exact l), firstBad_none fun x hx => by
    obtain ⟨i, _, e⟩ := List.mem_map.mp hx
    subst e; rfl]
  rfl
theorem seq_stays {μ : Mem} {d : D} {xs : List D} (h : seqOf μ d = some xs) {l : Mem} : stays μ d (μ ++ l) := by
  cases d with
  | cell n =>
    show (μ ++ l)[n]? = μ[n]?
    cases e : μ[n]? with
    | none => rw [seq_cell, e] at h; cases h
    | some m => exact get_app e
  | _ => trivial
/-- Box(web, bounds, totals): what is wrong -/
theorem box_bad_web {b tt : D} {t : Sum String Addr} {μ0 : Mem} {self : D} (F : Facts π) (h : tagOf μ0 d = some t) (hk : (∃ T ∈ six, t = .inl T) ∨ t = .inr π.a_Box) (k : XP ⟨π.a_InvalidWeb, [("at", .int (-1))]⟩ μ0) : S_Box__init_ π [self, d, b, tt] μ0 P XP := by
  rw [S_Box__init__eq]
  refine ⟨rfl, ?_⟩
  unfold W_Box__init_
  walk_at "own_ws"
  exact check_web_no F h hk (.here k)
theorem box_bad_bounds {w : Nat} {p : Int} {t : List (List Int)} {b tt : D} {i : Int} {self : D} (F : Facts π) (hw : WebIs π μ w p t) (h : Tame μ b) (h2 : ∀ xs, seqOf μ b = some xs → ∀ x ∈ xs, Tame2 μ x) (e : rowBad μ (bndD μ) ((t.length : Nat) : Int) b = some i)
    (k : XP ⟨π.a_InvalidBounds, [("at", .int i)]⟩ μ) : S_Box__init_ π [self, .cell w, b, tt] μ P XP := by
  rw [S_Box__init__eq]
  refine ⟨rfl, ?_⟩
  unfold W_Box__init_
  walk_at "own_ws"
  refine check_web_ok F hw (check_bounds_t F hw h h2 ?_)
  rw [e]
  exact .here k
theorem box_bad_totals {w : Nat} {p : Int} {t : List (List Int)} {b tt : D} {i : Int} {self : D} (F : Facts π) (hw : WebIs π μ w p t) (h : Tame μ b) (h2 : ∀ xs, seqOf μ b = some xs → ∀ x ∈ xs, Tame2 μ x) (e : rowBad μ (bndD μ) ((t.length : Nat) : Int) b = none)
    (g : Tame μ tt) (g2 : ∀ xs, seqOf μ tt = some xs → ∀ x ∈ xs, Tame μ x) (e2 : rowBad μ isIntD p tt = some i) (k : XP ⟨π.a_InvalidTotals, [("at", .int i)]⟩ μ) : S_Box__init_ π [self, .cell w, b, tt] μ P XP := by
  rw [S_Box__init__eq]
  refine ⟨rfl, ?_⟩
  unfold W_Box__init_
  walk_at "own_ws"
  refine check_web_ok F hw (check_bounds_t F hw h h2 ?_)
  rw [e]
  refine check_totals_t F hw g g2 ?_
  rw [e2]
  exact .here k
theorem mkBox_ok {w : Nat} {p : Int} {t : List (List Int)} {b tt : D} {bs : List (Int × Int)} {ts : List Int} (F : Facts π) (hw : WebIs π μ w p t) (hb : BndsAt μ b bs) (ht : IntsAt μ tt ts) (l1 : bs.length = t.length) (l2 : ((ts.length : Nat) : Int) = p) (o : ∀ q ∈ bs, q.1 ≤ q.2) (lz : bs.length ≤ 3000)
    (k : ∀ μ', Fr [] μ μ' → BoxIs π μ' μ.length bs ts → P (.cell μ.length) μ') : S_Box__init_ π [.cell μ.length, .cell w, b, tt] (μ ++ [.ins π.a_Box []]) (fun d μ2 => d = .non ∧ Rt μ.length P (.cell μ.length) μ2) XP := by
  have f0 : Fr [] μ (μ ++ [M.ins π.a_Box []]) := Fr.app _ _ _
  have hb0 := hb.fr f0
  have ht0 := ht.fr f0
  have hw0 := hw.fr f0 (by simp)
  have hs0 : (μ ++ [M.ins π.a_Box []])[μ.length]? = some (.ins π.a_Box []) := get_new μ [] _
  have hlen : (μ ++ [M.ins π.a_Box []]).length = μ.length + 1 := by simp
  generalize hμ0 : μ ++ [M.ins π.a_Box []] = μ0 at f0 hb0 ht0 hw0 hs0 hlen
  rw [S_Box__init__eq]
  refine ⟨rfl, ?_⟩
  unfold W_Box__init_
  walk_at "own_ws"
  obtain ⟨hb1, xs, ex, px⟩ := hb0
  refine check_web_ok F hw0 (check_bounds_t F hw0 hb1 (fun ys ey => by rw [ex] at ey; cases ey; exact px.tame) ?_)
  rw [BndsAt.row ⟨hb1, xs, ex, px⟩ o l1]
  refine check_totals_t F hw0 ht0.1 (fun ys ey => by rw [ht0.2] at ey; cases ey; exact tame_lit) ?_
  rw [ht0.row l2]
  simp only [ex]
  have key : ∀ (xs : List D) (bs : List (Int × Int)) (acc : List D) (δ : En) (R : List D → Mem → Prop), PairsAt μ0 xs bs → 4 < δ.length → R (acc ++ bs.map pairD) μ0 →
      lcL (stays μ0 b) [4] (wName 4) wYes (wCB wTupC (wCons (wVar 4) wNil)) xs acc δ μ0 R := by
    intro xs bs acc δ R hp
    induction hp generalizing acc with
    | nil => intro _ r; simpa [lcL] using r
    | @cons x p xs bs hx hs r ih =>
      intro hd z
      rw [lcL]
      simp only [wName, wYes, wCB, wCons, wNil, if_true, wipeD]
      have hv : ((δ.set 4 none).set 4 (some x))[4]? = some (some x) := by simp [hd]
      simp only [wVar, hv]
      refine wTupC_i hs ⟨stays_refl _ _, ih _ hd ?_⟩
      simpa [pairD] using z
  refine ⟨by rw [px.length, sizeLine_eq]; omega, key xs bs [] _ _ px (by simp) ?_⟩
  refine wTupC_i (xs := bs.map pairD) (seq_lst (get_new _ [] _)) ?_
  walk_at "own_ws"
  simp only [cellI_at (get_app hs0 : (μ0 ++ [M.lst (bs.map pairD)])[μ.length]? = some (.ins π.a_Box []))]
  refine ⟨F.fl.2.2.1, by simp, ?_⟩
  have f1 : Fr [μ.length] μ0 ((μ0 ++ [M.lst (bs.map pairD)]).set μ.length (.ins π.a_Box (putD "bounds" (.tup (bs.map pairD)) []))) := (Fr.app _ _ _).trans (Fr.set _ (by simp))
  have ht1 : seqOf ((μ0 ++ [M.lst (bs.map pairD)]).set μ.length (.ins π.a_Box (putD "bounds" (.tup (bs.map pairD)) []))) tt = some (litD ts) := by
    refine seq_fr f1 ht0.2 ?_
    intro n en
    subst en
    have := tame_get ht.1
    simp; omega
  refine wTupC_i ht1 ?_
  have hl2 : μ.length < (μ0 ++ [M.lst (bs.map pairD)]).length := by rw [List.length_append, hlen]; omega
  simp only [cellI_at (get_set hl2 (m' := .ins π.a_Box (putD "bounds" (.tup (bs.map pairD)) [])))]
  refine ⟨F.fl.2.2.2, by simp [putD], .here ⟨rfl, .here (k _ ?_ ?_)⟩⟩
  · refine Fr.setNew _ (Fr.setNew _ (f0.trans (Fr.app _ _ _)) (Nat.le_refl _)) (Nat.le_refl _)
  · show (List.set _ _ _)[μ.length]? = _
    rw [get_set (by rw [List.length_set]; exact hl2)]
    rfl

/-! ### what is refused -/
def NoWeb (π : Pr) (μ : Mem) (d : D) : Prop := ∃ t, tagOf μ d = some t ∧ ((∃ T ∈ six, t = .inl T) ∨ t = .inr π.a_Box)
def Strange (π : Pr) (μ : Mem) (d : D) (nt : Nat) (pts : Int) : Prop := (∃ t, tagOf μ d = some t ∧ ((∃ T ∈ six, t = .inl T) ∨ t = .inr π.a_Web)) ∨ ∃ n bs ts, d = .cell n ∧ BoxIs π μ n bs ts ∧ (bs.length ≠ nt ∨ ((ts.length : Nat) : Int) ≠ pts)
theorem check_web_box_ok {w n : Nat} {p : Int} {t : List (List Int)} {bs : List (Int × Int)} {ts : List Int} (F : Facts π) (hw : WebIs π μ w p t) (hb : BoxIs π μ n bs ts) (h1 : bs.length = t.length) (h2 : ((ts.length : Nat) : Int) = p) (k : P .non μ) :
    S_check_web_box π [.cell w, .cell n] μ P XP := by
  rw [S_check_web_box_eq]
  refine ⟨rfl, ?_⟩
  unfold W_check_web_box
  walk_at "own_ws"
  exact check_web_ok F hw (check_box_ok F hw hb h1 h2 (.here k))
theorem check_web_box_noweb {b : D} (F : Facts π) (h : NoWeb π μ d) (k : XP ⟨π.a_InvalidWeb, [("at", .int (-1))]⟩ μ) : S_check_web_box π [d, b] μ P XP := by
  obtain ⟨t, e, hk⟩ := h
  rw [S_check_web_box_eq]
  refine ⟨rfl, ?_⟩
  unfold W_check_web_box
  walk_at "own_ws"
  exact check_web_no F e hk (.here k)
theorem check_box_strange {w : Nat} {p : Int} {t : List (List Int)} (F : Facts π) (hw : WebIs π μ w p t) (h : Strange π μ d t.length p) (k : XP ⟨π.a_InvalidBox, [("at", .int (-1))]⟩ μ) : S_check_box π [.cell w, d] μ P XP := by
  rcases h with ⟨tt, e, hk⟩ | ⟨n, bs, ts, rfl, hb, hk⟩
  · exact check_box_no (p := p) (tt := t) F e hk k
  · exact check_box_far F hw hb hk k
theorem check_web_box_strange {w : Nat} {p : Int} {t : List (List Int)} (F : Facts π) (hw : WebIs π μ w p t) (h : Strange π μ d t.length p) (k : XP ⟨π.a_InvalidBox, [("at", .int (-1))]⟩ μ) : S_check_web_box π [.cell w, d] μ P XP := by
  rw [S_check_web_box_eq]
  refine ⟨rfl, ?_⟩
  unfold W_check_web_box
  walk_at "own_ws"
  exact check_web_ok F hw (check_box_strange F hw h (.here k))

/-! ### the deeds -/
/-- a good box of a web -/
structure Good (π : Pr) (μ : Mem) (w n : Nat) (p : Int) (t : List (List Int)) (bs : List (Int × Int)) (ts : List Int) : Prop where
  web : WebIs π μ w p t
  box : BoxIs π μ n bs ts
  l1 : bs.length = t.length
  l2 : ((ts.length : Nat) : Int) = p
  o : ∀ q ∈ bs, q.1 ≤ q.2
  few : bs.length ≤ 3000
theorem Good.fr {S : List Nat} {μ μ' : Mem} {w n : Nat} {p : Int} {t : List (List Int)} {bs : List (Int × Int)} {ts : List Int} (g : Good π μ w n p t bs ts) (f : Fr S μ μ') (hw : w ∉ S) (hn : n ∉ S) : Good π μ' w n p t bs ts := { g with web := g.web.fr f hw, box := g.box.fr f hn }
theorem offs_lit {S : List Nat} {l : List Int} : ∀ x ∈ litD l, OffS S x := fun x hx => by
  obtain ⟨i, _, e⟩ := List.mem_map.mp hx
  subst e
  intro n z
  cases z
/-- small: log2 below -/
theorem log2_small {x : Int} {m : Nat} (h : x.natAbs < 2 ^ m) : x.natAbs.log2 ≤ m := by
  by_cases h0 : x.natAbs = 0
  · rw [h0]; simp
  · exact Nat.le_of_lt ((Nat.log2_lt h0).mpr h)
theorem mul_ok {x y : Int} (h1 : x.natAbs < 2 ^ 250) (h2 : y.natAbs < 2 ^ 250) : CMulW x y := by
  have a := log2_small h1
  have b := log2_small h2
  unfold CMulW
  omega
def endsT : List Int → List (Int × Int)
  | [p, s, q, r] => [(p, s), (q, r)]
  | [p, s] => [(p, s)]
  | _ => []
theorem tie_ends_ok {m : Int} {tt : List Int} (h : TieOk m tt) (k : aLst P (pairDs (endsT tt)) μ) : S_tie_ends π [tieD tt] μ P XP := by
  rw [S_tie_ends_eq]
  refine ⟨rfl, ?_⟩
  unfold W_tie_ends
  walk_at "own_ws"
  refine wLen_i rfl (wEq_int ?_)
  cases h with
  | @loose p s h0 h1 hs =>
    have e2 : ((((litD [p, s]).length : Nat) : Int) == 2) = true := rfl
    simp only [e2, Bool.false_eq_true, if_false, if_true]
    exact .here k
  | @two p s q r h0 h1 hs g0 g1 hr ne =>
    have e2 : ((((litD [p, s, q, r]).length : Nat) : Int) == 2) = false := rfl
    simp only [e2, Bool.false_eq_true, if_false]
    exact wIx_i rfl (atI_at (j := 0) rfl) (wIx_i rfl (atI_at (j := 1) rfl) (wIx_i rfl (atI_at (j := 2) rfl) (wIx_i rfl (atI_at (j := 3) rfl) (.here k))))
theorem ends_ok {m : Int} {tt : List Int} (h : TieOk m tt) : ∀ e ∈ endsT tt, 0 ≤ e.1 ∧ e.1 < m ∧ okSign e.2 := by
  cases h with
  | loose h0 h1 hs => intro e he; simp [endsT] at he; subst he; exact ⟨h0, h1, hs⟩
  | two h0 h1 hs g0 g1 hr ne => intro e he; simp [endsT] at he; rcases he with rfl | rfl; exact ⟨h0, h1, hs⟩; exact ⟨g0, g1, hr⟩
theorem sign_small {s : Int} (h : okSign s) : s.natAbs < 2 ^ 250 := by
  have : (1 : Nat) < 2 ^ 250 := by decide +kernel
  rcases h with rfl | rfl <;> simpa using this
theorem map_set {α β : Type} (f : α → β) (l : List α) (i : Nat) (a : α) : (l.map f).set i (f a) = (l.set i a).map f := by
  induction l generalizing i with
  | nil => rfl
  | cons x l ih => cases i with
    | zero => rfl
    | succ i => exact congrArg (f x :: ·) (ih i)
theorem ixN_nat {m i : Nat} (h : i < m) : L2.ixN m (i : Int) = some i := by
  unfold L2.ixN
  rw [if_pos (by omega), if_pos (by omega)]
  simp
theorem get_pair {bs : List (Int × Int)} {i : Nat} {q : Int × Int} (h : bs[i]? = some q) : (bs.map pairD)[i]? = some (pairD q) := by rw [List.getElem?_map, h]; rfl
def webM (π : Pr) (p : Int) (t : List (List Int)) : M := .ins π.a_Web [("points", .int p), ("ties", .tup (t.map tieD))]
def boxM (π : Pr) (bs : List (Int × Int)) (ts : List Int) : M := .ins π.a_Box [("bounds", .tup (bs.map pairD)), ("totals", .tup (litD ts))]
theorem cut_none {xs : List D} {i : Nat} : cutD xs none (some ((i : Nat) : Int)) = xs.take i := by
  unfold cutD
  rw [HT.sIx_none, HT.sIx_nat, List.drop_zero, Nat.sub_zero]
  by_cases h : i ≤ xs.length
  · rw [Nat.min_eq_left h]
  · rw [Nat.min_eq_right (by omega), List.take_of_length_le (Nat.le_refl _), List.take_of_length_le (by omega)]
theorem cut_some {xs : List D} {i : Nat} : cutD xs (some ((i : Nat) : Int)) none = xs.drop i := by
  unfold cutD
  rw [HT.sIx_none, HT.sIx_nat]
  by_cases h : i ≤ xs.length
  · rw [Nat.min_eq_left h, List.take_of_length_le (by rw [List.length_drop]; omega)]
  · rw [Nat.min_eq_right (by omega), List.drop_of_length_le (i := i) (by omega), List.drop_of_length_le (Nat.le_refl _)]; simp
theorem lit_take (l : List Int) (i : Nat) : (litD l).take i = litD (l.take i) := by unfold litD; rw [List.map_take]
theorem lit_drop (l : List Int) (i : Nat) : (litD l).drop i = litD (l.drop i) := by unfold litD; rw [List.map_drop]
theorem lit_app (l m : List Int) : litD l ++ litD m = litD (l ++ m) := by unfold litD; rw [List.map_append]
theorem tie_more {p q : Int} {t : List Int} (h : TieOk p t) (l : p ≤ q) : TieOk q t := by
  cases h with
  | loose a b c => exact .loose a (by omega) c
  | two a b c d e f g => exact .two a (by omega) c d (by omega) f g
theorem const_pairs (t : List (List Int)) : ((t.map tieD).map fun _ => D.tup [.int 0, .int 1]) = (List.replicate t.length ((0 : Int), (1 : Int))).map pairD := by
  induction t with
  | nil => rfl
  | cons a t ih => simp only [List.map_cons, List.length_cons, List.replicate_succ]; rw [← ih]; rfl
theorem const_range (j : Nat) : ∀ lo : Int, (rangeD lo j).map (fun _ => D.int 0) = litD (List.replicate j 0) := by
  induction j with
  | zero => intro lo; rfl
  | succ j ih => intro lo; rw [rangeD, List.map_cons, ih]; rfl
theorem cpow18 : CPow 10 18 := by unfold CPow; decide
theorem rangeD_eq (n : Nat) : ∀ lo : Int, rangeD lo n = (List.range n).map fun (i : Nat) => D.int (lo + (i : Nat)) := by
  induction n with
  | zero => intro lo; rfl
  | succ n ih =>
    intro lo
    rw [rangeD, ih, List.range_succ_eq_map, List.map_cons, List.map_map]
    congr 1
    · simp
    · apply List.map_congr_left
      intro i _
      show D.int (lo + 1 + (i : Nat)) = D.int (lo + ((i + 1 : Nat) : Int))
      congr 1; omega
theorem normT4 (p s q r : Int) : normT [p, s, q, r] = if q < p then [q, r, p, s] else [p, s, q, r] := rfl
theorem norm_ok {m : Int} {tt : List Int} (h : TieOk m tt) : TieOk m (normT tt) := by
  cases h with
  | loose a b c => exact .loose a b c
  | two a b c d e f g =>
    rw [normT4]
    split
    · exact .two d e f a b c (Ne.symm g)
    · exact .two a b c d e f g
theorem wMaxL2 {P : D → Mem → Prop} {c : Nat} {x y : Int} (h : μ[c]? = some (.lst [.int x, .int y])) (k : P (.int (max x y)) μ) : wMaxC [.cell c] μ P := by
  have e : intL μ (.cell c) = some [x, y] := by unfold intL; simp only [seq_lst h, lst_lst h]; rfl
  unfold wMaxC
  simp only [ints2, one1, e]
  refine ⟨by simp, fun m h1 h2 => ?_⟩
  have a := h2 x (by simp)
  have b := h2 y (by simp)
  have : m = max x y := by
    simp at h1
    rcases h1 with rfl | rfl <;> omega
  rw [this]; exact k
theorem wMinL2 {P : D → Mem → Prop} {c : Nat} {x y : Int} (h : μ[c]? = some (.lst [.int x, .int y])) (k : P (.int (min x y)) μ) : wMinC [.cell c] μ P := by
  have e : intL μ (.cell c) = some [x, y] := by unfold intL; simp only [seq_lst h, lst_lst h]; rfl
  unfold wMinC
  simp only [ints2, one1, e]
  refine ⟨by simp, fun m h1 h2 => ?_⟩
  have a := h2 x (by simp)
  have b := h2 y (by simp)
  have : m = min x y := by
    simp at h1
    rcases h1 with rfl | rfl <;> omega
  rw [this]; exact k
theorem cpow6 : CPow 10 6 := by unfold CPow; decide
end
end G
namespace G
open PySem L2 PL
local macro_rules | `(tactic| walk_at "own_ws") => `(tactic| try simp only [PL.fnW, PL.startD, List.map_cons, List.map_nil, List.length_cons, List.length_nil, List.replicate, List.replicate_succ, List.replicate_zero, List.append_nil, List.nil_append, List.cons_append, List.singleton_append, Nat.zero_add, Nat.add_zero, Nat.add_sub_cancel, Nat.reduceSub, Nat.reduceAdd, Nat.sub_zero, Nat.sub_self,
  PL.wSeq, PL.wIfS, PL.wRet, PL.wRetN, PL.wDrop, PL.wNext, PL.wBreak, PL.wCont, PL.wOp, PL.wUn, PL.wVar, PL.wC, PL.wCons, PL.wNil, PL.wTup, PL.wLst, PL.wTest, PL.wAnd, PL.wOr, PL.wNot, PL.wAndV, PL.wOrV, PL.wNotV, PL.wIf, PL.wChain, PL.wAsg, PL.wName, PL.wGtup, PL.wGunl, PL.wGcons, PL.wGnil, PL.wPar, PL.wPar3, PL.wAug, PL.wCB, PL.wCall, PL.wMake, PL.wMakeK, PL.wYes, PL.wTru, PL.wFor, PL.wSeqI, PL.wEnumI, PL.wZipI, PL.wRng1, PL.wRng2, PL.wBM, PL.wBM0, PL.wLstRg1, PL.wRaise, PL.wFldS, ↓PL.wFld_var, PL.wSet0, PL.wSAdd, PL.wNoPart, PL.wPart, PL.wSl, PL.wLc, PL.wipeD,
  PL.oSub, PL.oMod, PL.oFdiv, PL.oPow, PL.oLt, PL.oLe, PL.oGt, PL.oGe, PL.wI0, PL.wI2, PL.wB0, PL.wIp, PL.wNeg, PL.wR1, PL.one1, PL.two2, PL.ints1, PL.ints2,
  List.getElem?_cons_zero, List.getElem?_cons_succ, List.set_cons_zero, List.set_cons_succ, and_true, true_and, if_true, if_false, ite_true, ite_false, reduceIte, Bool.true_eq_false, Bool.false_eq_true, eq_self])
local macro_rules | `(tactic| walk_at "own_wt") => `(tactic| try simp only [PL.fnW, PL.startD, List.map_cons, List.map_nil, List.length_cons, List.length_nil, List.replicate, List.replicate_succ, List.replicate_zero, List.append_nil, List.nil_append, List.cons_append, List.singleton_append, Nat.zero_add, Nat.add_zero, Nat.add_sub_cancel, Nat.reduceSub, Nat.reduceAdd, Nat.sub_zero, Nat.sub_self,
  PL.wSeq_l, PL.wIfS, PL.wRet, PL.wRetN, PL.wDrop, PL.wNext, PL.wBreak, PL.wCont, PL.wOp, PL.wUn, PL.wVar, PL.wC, PL.wCons, PL.wNil, PL.wTup, PL.wLst_a, PL.wTest, PL.wAnd, PL.wOr, PL.wNot, PL.wAndV, PL.wOrV, PL.wNotV, PL.wIf, PL.wChain, PL.wAsg, PL.wName, PL.wGtup, PL.wGunl, PL.wGcons, PL.wGnil, PL.wPar, PL.wPar3, PL.wAug, PL.wCB, PL.wCall, PL.wMake, PL.wMakeK, PL.wYes, PL.wTru, PL.wFor, PL.wSeqI, PL.wEnumI, PL.wZipI, PL.wRng1, PL.wRng2, PL.wBM, PL.wBM0, PL.wLstRg1_a, PL.wRaise, PL.wFldS, ↓PL.wFld_var, PL.wSet0, PL.wSAdd, PL.wNoPart, PL.wPart, PL.wSl_eq, PL.wLc_a, PL.wipeD,
  PL.oSub, PL.oMod, PL.oFdiv, PL.oPow, PL.oLt, PL.oLe, PL.oGt, PL.oGe, PL.wI0, PL.wI2, PL.wB0, PL.wIp, PL.wNeg, PL.wR1, PL.one1, PL.two2, PL.ints1, PL.ints2,
  List.getElem?_cons_zero, List.getElem?_cons_succ, List.set_cons_zero, List.set_cons_succ, and_true, true_and, if_true, if_false, ite_true, ite_false, reduceIte, Bool.true_eq_false, Bool.false_eq_true, eq_self])
local macro_rules | `(tactic| walk_at "own_nx") => `(tactic| ((first | refine PL.later_i ?_ | (dsimp only; refine PL.later_i ?_)); walk_at "own_wt"))
local macro_rules | `(tactic| walk_at "own_wg") => `(tactic| simp only [PL.wGtup, PL.wGcons, PL.wGnil, PL.wName, List.length_cons, List.length_nil, List.set_cons_zero, List.set_cons_succ, Nat.zero_add, Nat.reduceAdd, true_and])
local macro_rules | `(tactic| walk_at "own_mem") => `(tactic| repeat (first | exact List.Mem.head _ | refine List.Mem.tail _ ?_))
local macro_rules | `(tactic| walk_at "own_mm") => `(tactic| exact PL.Own.get (by assumption) (by walk_at "own_mem"))
local macro_rules | `(tactic| walk_at "own_sq") => `(tactic| first | rfl | exact PL.seq_lst (PL.Own.get (by assumption) (by walk_at "own_mem")))
local macro_rules | `(tactic| walk_at "own_sub") => `(tactic| repeat (first | exact List.Sublist.refl _ | refine List.Sublist.cons_cons _ ?_ | refine List.Sublist.cons _ ?_))
local macro_rules | `(tactic| walk_at "own_putr") => `(tactic| repeat (first | exact PL.PutR.here | apply PL.PutR.there))
local macro_rules | `(tactic| walk_at "own_lat") => `(tactic| (first | refine PL.later_i ?_ | (dsimp only; refine PL.later_i ?_)))
local macro_rules | `(tactic| walk_at "own_wu") => `(tactic| try simp only [PL.fnW, PL.startD, List.map_cons, List.map_nil, List.length_cons, List.length_nil, List.replicate, List.replicate_succ, List.replicate_zero, List.append_nil, List.nil_append, List.cons_append, List.singleton_append, Nat.zero_add, Nat.add_zero, Nat.add_sub_cancel, Nat.reduceSub, Nat.reduceAdd, Nat.sub_zero, Nat.sub_self,
  PL.wSeq_l, PL.wIfS, PL.wRet, PL.wRetN, PL.wDrop, PL.wNext, PL.wBreak, PL.wCont, PL.wOp, PL.wUn, PL.wVar, PL.wC, PL.wCons, PL.wNil, PL.wTup, PL.wLst_a, PL.wTest, PL.wAnd, PL.wOr, PL.wNot, PL.wAndV, PL.wOrV, PL.wNotV, PL.wIf, PL.wAsg, PL.wName, PL.wPar, PL.wPar3, PL.wCB, PL.wCall, PL.wMake, PL.wYes, PL.wTru, PL.wFor, PL.wSeqI, PL.wRng1, PL.wRng2, PL.wBM, PL.wBM0, PL.wRaise, ↓PL.wFld_var, PL.wNoPart, PL.wPart, PL.wLc_a, PL.wipeD,
  List.getElem?_cons_zero, List.getElem?_cons_succ, List.set_cons_zero, List.set_cons_succ, and_true, true_and, if_true, if_false, ite_true, ite_false, reduceIte, Bool.true_eq_false, Bool.false_eq_true, eq_self])
local macro_rules | `(tactic| walk_at "own_nu") => `(tactic| ((first | refine PL.later_i ?_ | (dsimp only; refine PL.later_i ?_)); walk_at "own_wu"))
local macro_rules | `(tactic| walk_at "own_cn") => `(tactic| repeat (first | exact PL.Cn.c | exact PL.Cn.neg | exact PL.CnA.nil | exact PL.Cn.var rfl | apply PL.CnA.cons | apply PL.Cn.tup))
section
variable {π : Pr} {μ : Mem} {P : D → Mem → Prop} {XP : Exn → Mem → Prop} {d : D} {b r : Nat}
theorem seqIx0 {n : Nat} (h : 0 < n) : seqIndex? 0 n = some 0 := seqIndex_of (by decide) (by omega)
theorem rangeD_cons (lo : Int) (n : Nat) : rangeD lo (n + 1) = .int lo :: rangeD (lo + 1) n := rfl
theorem div_ok {x y : Int} (h0 : 0 < y) (h : y.natAbs < 2 ^ 250) : CDivW x y := by
  have := log2_small h
  unfold CDivW
  omega
theorem own0 {L : List (Nat × M)} (h : ∀ p ∈ L, μ[p.1]? = some p.2) : Own [] (fun _ => True) μ μ L := Own.start ⟨fun _ _ _ => trivial, fun _ i h => by cases h⟩ trivial h (by simp)
theorem intsOf_lit : ∀ l : List Int, intsOf (litD l) = some l
  | [] => rfl
  | a :: l => by show (intsOf (litD l)).map (a :: ·) = _; rw [intsOf_lit l]; rfl
theorem wSum_i {μ : Mem} {P : D → Mem → Prop} {c : Nat} {l : List Int} (h : μ[c]? = some (.lst (litD l))) (k : P (.int l.sum) μ) : wSum [.cell c] μ P := by
  unfold wSum wR1
  have e : intL μ (.cell c) = some l := by unfold intL; simp only [seq_lst h, intsOf_lit]
  simp only [one1, e]; exact k
theorem wSub_i {μ : Mem} {P : D → Mem → Prop} {a b : Int} (k : P (.int (a - b)) μ) : oSub (.int a) (.int b) μ P := k
theorem wMin2_i {P : D → Mem → Prop} {x y : Int} (k : P (.int (min x y)) μ) : wMinC [.int x, .int y] μ P := by
  show P (.int (if y < x then y else x)) μ
  have : (if y < x then y else x) = min x y := by split <;> omega
  rw [this]; exact k
theorem wMax2_i {P : D → Mem → Prop} {x y : Int} (k : P (.int (max x y)) μ) : wMaxC [.int x, .int y] μ P := by
  show P (.int (if y > x then y else x)) μ
  have : (if y > x then y else x) = max x y := by split <;> omega
  rw [this]; exact k
/-- a list made turn by turn, each of which may make cells -/
theorem lc_to {chk : Mem → Prop} {vs : List Nat} {g : WG} {e : WE} {δ : En} (f : D → D) (I : Mem → Prop) (hchk : ∀ μ, I μ → chk μ) : ∀ {xs : List D}, (∀ x ∈ xs, ∀ (μ : Mem) (P : D → Mem → Prop), I μ → (∀ μ', I μ' → P (f x) μ') → g x (wipeD δ vs) μ (fun δ1 μ1 => e δ1 μ1 P QX0)) →
    ∀ (acc : List D) (μ : Mem) (R : List D → Mem → Prop), I μ → (∀ μ', I μ' → R (acc ++ xs.map f) μ') → lcL chk vs g wYes e xs acc δ μ R
  | [], _, acc, μ, R, i, r => by rw [lcL]; simpa using r μ i
  | x :: xs, turn, acc, μ, R, i, r => by
    rw [lcL]
    exact turn x (by simp) μ _ i fun μ' i' => ⟨hchk μ' i', lc_to f I hchk (fun y hy => turn y (by simp [hy])) (acc ++ [f x]) μ' R i' (by simpa using r)⟩
def wI0_i {μ : Mem} {P : D → Mem → Prop} {f : Int → Int → Int} {a b : Int} (k : P (.int (f a b)) μ) : wI0 f (.int a) (.int b) μ P := k
theorem wSeq_i {a b : WS} {δ : En} {μ : Mem} {P : PO} (h : a δ μ ⟨later b P, P.rt, P.bk, P.ct, P.xc⟩) : wSeq a b δ μ P := h
theorem wIfS_i {t : WT} {a b : WS} {δ : En} {P : PO} (h : t δ μ (fun c μ1 => if c = true then a δ μ1 P else b δ μ1 P) P.xc) : wIfS t a b δ μ P := h
theorem aLst_f {SS : List Nat} {I : Mem → Prop} {μ0 : Mem} {L : List (Nat × M)} {P : D → Mem → Prop} {ds : List D} (H : Own SS I μ0 μ L) (k : ∀ c μ', μ.length ≤ c → Fr [] μ μ' → Own SS I μ0 μ' ((c, .lst ds) :: L) → P (.cell c) μ') : aLst P ds μ := k _ _ (Nat.le_refl _) (Fr.app _ _ _) (H.new _)
theorem wEq_intN {neg : Bool} {a b : Int} (k : P (.bl (if neg then !decide (a = b) else decide (a = b))) μ) : wEq neg (.int a) (.int b) μ P := by
  refine wEq_int ?_
  rw [show (a == b) = decide (a = b) from by rw [beqC]; exact decide_eq_decide.mpr eq_comm]; exact k

theorem lits_of {Q : Int → Prop} : ∀ ds : List D, (∀ d ∈ ds, ∃ v, d = .int v ∧ Q v) → ∃ sm : List Int, ds = litD sm ∧ (∀ x ∈ sm, Q x)
  | [], _ => ⟨[], rfl, by simp⟩
  | d :: ds, h => by
    obtain ⟨v, rfl, q⟩ := h d (by simp)
    obtain ⟨sm, rfl, r⟩ := lits_of ds fun x hx => h x (by simp [hx])
    exact ⟨v :: sm, rfl, fun x hx => by
      rcases List.mem_cons.mp hx with rfl | h
      · exact q
      · exact r x h⟩
theorem wAdd_tt {a c : List D} (h : a.length + c.length ≤ sizeLine) (k : P (.tup (a ++ c)) μ) : wAdd (.tup a) (.tup c) μ P := ⟨h, k⟩
/-- the source of draws: a row of great cells, and a state -/
structure Srx (b r : Nat) (ns : List Int) (μ : Mem) : Prop where
  ex : ∃ st : Int, μ[b]? = some (.lst [.cell r, .int st]) ∧ 0 ≤ st ∧ st < 2147483648
  row : μ[r]? = some (.lst (litD ns))
  few : ns.length ≤ 63
  ne : b ≠ r
theorem srx_stb (b r : Nat) (ns : List Int) : Stb [b, r] (Srx b r ns) :=
  ⟨fun i f h => by
    obtain ⟨st, h1, h2⟩ := i.ex
    exact ⟨⟨st, f.get h1 (h b (by simp)), h2⟩, f.get i.row (h r (by simp)), i.few, i.ne⟩, fun i j hj => by
    obtain ⟨st, h1, h2⟩ := i.ex
    simp at hj
    rcases hj with rfl | rfl
    · exact get_lt h1
    · exact get_lt i.row⟩
/-- some draws later -/
structure Turn (b r : Nat) (ns : List Int) (μ μ' : Mem) (r' : Nat) (ns' : List Int) : Prop where
  fr : Fr [b] μ μ'
  src : Srx b r' ns' μ'
  way : (r' = r ∧ ns' = ns) ∨ μ.length ≤ r'
theorem Turn.refl {ns : List Int} (s : Srx b r ns μ) : Turn b r ns μ μ r ns := ⟨Fr.refl _ _, s, .inl ⟨rfl, rfl⟩⟩
theorem Turn.trans {r1 r2 : Nat} {ns n1 n2 : List Int} {μ1 μ2 : Mem} (x : Turn b r ns μ μ1 r1 n1) (y : Turn b r1 n1 μ1 μ2 r2 n2) : Turn b r ns μ μ2 r2 n2 :=
  ⟨x.fr.trans y.fr, y.src, by
    rcases y.way with ⟨rfl, rfl⟩ | h
    · exact x.way
    · exact .inr (Nat.le_trans x.fr.len h)⟩
abbrev OwnT (b r : Nat) (ns : List Int) (μ0 μ : Mem) (L : List (Nat × M)) : Prop := Own [b, r] (Srx b r ns) μ0 μ L
/-- the way from the beginning: the row is the first one, or a newer one -/
structure Zw (b r0 : Nat) (n0 : List Int) (μ0 : Mem) (r : Nat) (ns : List Int) : Prop where
  s0 : Srx b r0 n0 μ0
  way : (r = r0 ∧ ns = n0) ∨ μ0.length ≤ r
theorem Zw.start {ns : List Int} (s : Srx b r ns μ) : Zw b r ns μ r ns := ⟨s, .inl ⟨rfl, rfl⟩⟩
section
variable {r0 r1 : Nat} {n0 ns n1 : List Int} {μ0 μ1 : Mem} {L : List (Nat × M)}
theorem Zw.frB (z : Zw b r0 n0 μ0 r ns) (H : OwnT b r ns μ0 μ L) : Fr [b] μ0 μ :=
  ⟨H.fr.len, fun i hi hn => by
    by_cases c : i = r
    · subst c
      rcases z.way with ⟨rfl, rfl⟩ | h
      · rw [H.inv.row, z.s0.row]
      · omega
    · exact H.fr.at' i hi (by simp at hn ⊢; exact ⟨hn, c⟩)⟩
theorem Zw.to (z : Zw b r0 n0 μ0 r ns) (H : OwnT b r ns μ0 μ L) : Turn b r0 n0 μ0 μ r ns := ⟨z.frB H, H.inv, z.way⟩
theorem Zw.turn (z : Zw b r0 n0 μ0 r ns) (H : OwnT b r ns μ0 μ L) (t : Turn b r ns μ μ1 r1 n1) : Zw b r0 n0 μ0 r1 n1 ∧ OwnT b r1 n1 μ0 μ1 L := by
  have f := (z.frB H).trans t.fr
  refine ⟨⟨z.s0, ?_⟩, srx_stb _ _ _, f.mono (by simp), t.src, fun p hp => t.fr.get (H.has p hp) (by have := H.off p hp; simp at this ⊢; exact this.1), fun p hp => ?_, H.nd⟩
  · rcases t.way with ⟨rfl, rfl⟩ | h
    · exact z.way
    · exact .inr (Nat.le_trans H.fr.len h)
  · have o := H.off p hp
    have l := get_lt (H.has p hp)
    simp at o ⊢
    refine ⟨o.1, ?_⟩
    rcases t.way with ⟨rfl, rfl⟩ | h
    · exact o.2
    · omega
/-- with a cell that is made there -/
theorem Zw.turnN (z : Zw b r0 n0 μ0 r ns) (H : OwnT b r ns μ0 μ L) (t : Turn b r ns μ μ1 r1 n1) {c : Nat} {m : M} (g : μ1[c]? = some m) (hc : μ.length ≤ c) (hr : c ≠ r1) : Zw b r0 n0 μ0 r1 n1 ∧ OwnT b r1 n1 μ0 μ1 ((c, m) :: L) := by
  obtain ⟨z1, H1⟩ := z.turn H t
  refine ⟨z1, H1.more g ?_ fun p hp => .inl (by have := get_lt (H.has p hp); omega)⟩
  have := H.st.lt H.inv b (by simp)
  simp; exact ⟨by omega, hr⟩
theorem OwnT.start (s : Srx b r ns μ) (has : ∀ p ∈ L, μ[p.1]? = some p.2) (off : ∀ p ∈ L, p.1 ∉ [b, r]) : OwnT b r ns μ μ L := Own.start (srx_stb b r ns) s has off
end
theorem Srx.fr {S : List Nat} {ns : List Int} {μ' : Mem} (s : Srx b r ns μ) (f : Fr S μ μ') (hb : b ∉ S) (hr : r ∉ S) : Srx b r ns μ' :=
  (srx_stb b r ns).fr s f fun i hi => by simp at hi; rcases hi with rfl | rfl <;> assumption
theorem Srx.lt {ns : List Int} (s : Srx b r ns μ) : b < μ.length ∧ r < μ.length := ⟨(srx_stb b r ns).lt s b (by simp), (srx_stb b r ns).lt s r (by simp)⟩
theorem take_ok {m : Int} {ns : List Int} (s : Srx b r ns μ) (h0 : 0 < m) (hm : m.natAbs < 2 ^ 250) (k : ∀ v μ' r' ns', 0 ≤ v → v < m → Turn b r ns μ μ' r' ns' → P (.int v) μ') : S_law_take π [.cell b, .int m] μ P XP := by
  rw [S_law_take_eq]
  refine ⟨rfl, ?_⟩
  unfold W_law_take
  have H : Own [] (fun _ => True) μ μ [] := own0 (by simp)
  obtain ⟨st, hb, _, _⟩ := s.ex
  refine wSeq_i ?_
  refine wIfS_i ?_
  simp only [fnW, startD, List.map_cons, List.map_nil, List.length_cons, List.length_nil, List.replicate, List.replicate_succ, List.replicate_zero, List.append_nil, List.nil_append, List.cons_append, Nat.zero_add, Nat.reduceAdd, Nat.reduceSub, wTest, wOp, wVar, wC, wLst_a, wNil, List.getElem?_cons_zero, List.getElem?_cons_succ]
  refine wIx_i (seq_lst hb) (atI_at (j := 0) rfl) ?_
  refine aLst_f H ?_
  intro c1 μ1 hc1 f1 H1
  have s1 := s.fr f1 (by simp) (by simp)
  refine wEq_lI (a := ns) (b := []) s1.row (H1.get (c := c1) (by walk_at "own_mem")) ?_
  obtain ⟨st, hb, t0, t1⟩ := s1.ex
  have H2 := H1.tail
  cases ns with
  | cons a ns =>
    simp only [show decide (a :: ns = []) = false from rfl, Bool.not_false, if_true]
    refine wSeq_i ?_
    simp only [wAsg, wOp, wVar, wC, wName, List.getElem?_cons_zero, List.getElem?_cons_succ, List.set_cons_zero, List.set_cons_succ]
    refine wIx_i (seq_lst hb) (atI_at (j := 0) rfl) ?_
    refine wIx_i (seq_lst s1.row) (atI_at (v := .int a) rfl) ?_
    refine later_i ?_
    refine wSeq_i ?_
    simp only [wAsg, wOp, wIf, wTest, wVar, wC, wCons, wNil, wLst_a, List.getElem?_cons_zero, List.getElem?_cons_succ, wB0]
    have fin : ∀ (e : List Int) (c2 : Nat) (μ2 : Mem), e.length ≤ 1 → Fr [] μ1 μ2 → μ1.length ≤ c2 → Own [] (fun _ => True) μ μ2 [(c2, .lst (litD e))] →
        wSl (wOp wIx (wVar 0) (wC (.int 0))) (wPart (wC (.int 1))) wNoPart [some (.cell b), some (.int m), some (.int a)] μ2 (fun y μ3 => wAdd (.cell c2) y μ3 fun x μ1 => wGsub (wVar 0) (wC (.int 0)) x [some (.cell b), some (.int m), some (.int a)] μ1 (later (wRet (wOp oMod (wCB wIntC (wCons (wVar 2) wNil)) (wVar 1))) ⟨fun _ μ' => Rt μ.length P .non μ', Rt μ.length P, fun _ _ => False, fun _ _ => False, fun x _ μ' => Xt μ.length XP x μ'⟩)) (fun x _ μ' => Xt μ.length XP x μ') := by
      intro e c2 μ2 he f2 hc2 H3
      have s2 := s1.fr f2 (by simp) (by simp)
      obtain ⟨st2, hb2, u0, u1⟩ := s2.ex
      rw [wSl_eq]
      simp only [wOp, wVar, wC, wPart, wNoPart, List.getElem?_cons_zero, List.getElem?_cons_succ]
      refine wIx_i (seq_lst hb2) (atI_at (j := 0) rfl) ?_
      simp only [seq_lst s2.row]
      rw [show ((1 : Int)) = ((1 : Nat) : Int) from rfl, cut_some, lit_drop]
      refine aLst_f H3 ?_
      intro c3 μ3 hc3 f3 H4
      have few := s.few
      refine wAdd_ol (xs := litD e) (ys := litD ns) H4 (H4.get (c := c2) (by walk_at "own_mem")) (H4.get (c := c3) (by walk_at "own_mem")) (by rw [len_litD, len_litD, sizeLine_eq]; simp at few; omega) ?_
      intro c4 μ4 hc4 H5
      have s4 := s.fr H5.fr (by simp) (by simp)
      obtain ⟨st4, hb4, w0, w1⟩ := s4.ex
      have lt := s.lt
      have hc4' : μ.length ≤ c4 := by have := H4.fr.len; omega
      refine wGsub_i (fun _ _ h => h) (fun _ _ h => h) hb4 (ixN_nat (i := 0) (by simp)) ?_
      have g4 := H5.get (c := c4) (by walk_at "own_mem")
      rw [lit_app] at g4
      refine later_i ?_
      walk_at "own_wt"
      refine wIntC_i ?_
      walk_at "own_wt"
      refine ⟨h0, ?_⟩
      refine .here (k _ _ c4 (e ++ ns) (Int.emod_nonneg _ (by omega)) (Int.emod_lt_of_pos _ h0) ⟨(H5.fr.pure).trans (Fr.set _ (by simp)), ⟨⟨st4, get_set (get_lt hb4), w0, w1⟩, get_set_ne g4 (by omega), by simp at few ⊢; omega, by omega⟩, .inr hc4'⟩)
    by_cases hge : m ≤ a
    · simp only [decide_eq_true hge, if_true, wLst_a, wCons, wNil, wOp, wVar, List.getElem?_cons_zero, List.getElem?_cons_succ]
      refine ⟨div_ok h0 hm, ?_⟩
      refine aLst_f H2 ?_
      intro c2 μ2 hc2 f2 H3
      exact fin [a / m] c2 μ2 (by simp) f2 hc2 H3
    · simp only [decide_eq_false hge, Bool.false_eq_true, if_false, wLst_a, wCons, wNil]
      refine aLst_f H2 ?_
      intro c2 μ2 hc2 f2 H3
      exact fin [] c2 μ2 (by simp) f2 hc2 H3
  | nil =>
    simp only [eq_self, decide_true, Bool.not_true, Bool.false_eq_true, if_true, if_false, wNext]
    refine later_i ?_
    refine wSeq_i ?_
    simp only [wAsg, wOp, wCB, wCons, wNil, wVar, wC, List.getElem?_cons_zero, List.getElem?_cons_succ]
    refine wIx_i (seq_lst hb) (atI_at (j := 1) rfl) ?_
    refine wMul_i (mul_ok (by omega) (by omega)) ?_
    refine wIntC_i ?_
    refine ⟨by show (0 : Int) < 2147483647; decide, ?_⟩
    dsimp only
    generalize hst : st * 48271 % 2147483647 = st2
    have u0 : 0 ≤ st2 ∧ st2 < 2147483648 := by
      have a := Int.emod_nonneg (st * 48271) (b := 2147483647) (by decide)
      have c := Int.emod_lt_of_pos (st * 48271) (b := 2147483647) (by decide)
      omega
    refine wGsub_i (fun _ _ h => h) (fun _ _ h => h) hb (ixN_nat (i := 1) (by simp)) ?_
    have lt := s.lt
    have ne := s.ne
    have hb2 : (μ1.set b (.lst ([D.cell r, .int st].set 1 (.int st2))))[b]? = some (.lst [.cell r, .int st2]) := get_set (get_lt hb)
    have g2 : (μ1.set b (.lst ([D.cell r, .int st].set 1 (.int st2))))[r]? = some (.lst (litD [])) := get_set_ne s1.row ne
    have f2 : Fr [b] μ1 (μ1.set b (.lst ([D.cell r, .int st].set 1 (.int st2)))) := Fr.set _ (by simp)
    generalize μ1.set b (.lst ([D.cell r, .int st].set 1 (.int st2))) = μ2 at hb2 g2 f2
    refine later_i ?_
    simp only [wRet, wOp, wCB, wCons, wNil, wVar, wC, List.getElem?_cons_zero, List.getElem?_cons_succ]
    refine wIx_i (seq_lst hb2) (atI_at (j := 1) rfl) ?_
    refine wMul_i (mul_ok (by omega) (by omega)) ?_
    refine wAdd_i ?_
    refine ⟨div_ok (by decide) (by decide), ?_⟩
    refine wIntC_i ?_
    refine ⟨h0, ?_⟩
    exact .here (k _ _ r [] (Int.emod_nonneg _ (by omega)) (Int.emod_lt_of_pos _ h0) ⟨(f1.pure).trans f2, ⟨⟨st2, hb2, u0.1, u0.2⟩, g2, s.few, s.ne⟩, .inl ⟨rfl, rfl⟩⟩)
theorem pick_ok {xs : List D} {ns : List Int} (s : Srx b r ns μ) (h : seqOf μ d = some xs) (hne : 0 < xs.length) (hl : xs.length < 2 ^ 100) (o : OffS [b] d) (k : ∀ x μ' r' ns', x ∈ xs → Turn b r ns μ μ' r' ns' → P x μ') : S_law_pick π [.cell b, d] μ P XP := by
  rw [S_law_pick_eq]
  refine ⟨rfl, ?_⟩
  unfold W_law_pick
  walk_at "own_wt"
  refine wLen_i h ?_
  refine take_ok s (by omega) (by omega) ?_
  intro v μ1 r1 n1 v0 v1 t
  obtain ⟨i, rfl⟩ : ∃ i : Nat, v = (i : Nat) := ⟨v.toNat, by omega⟩
  have hi : i < xs.length := by omega
  refine wIx_i (seq_fr t.fr h o) (atI_at (List.getElem?_eq_getElem hi)) ?_
  exact .here (k _ _ _ _ (List.getElem_mem hi) t)
theorem cpow9 : CPow 10 9 := by unfold CPow; decide
theorem p9 : (10 : Int) ^ (9 : Int).toNat = 1000000000 := by decide
theorem far_ok {z : Int} {ns : List Int} (s : Srx b r ns μ) (h0 : 0 ≤ z) (hz : z < 2 ^ 200) (k : ∀ v μ' r' ns', -z ≤ v → v ≤ z → Turn b r ns μ μ' r' ns' → P (.int v) μ') : S_law_far π [.cell b, .int z] μ P XP := by
  rw [S_law_far_eq]
  refine ⟨rfl, ?_⟩
  unfold W_law_far
  walk_at "own_wt"
  refine ⟨cpow9, ?_⟩
  rw [p9]
  refine take_ok s (by decide) (by decide) ?_
  intro v1 μ1 r1 n1 a0 a1 t1
  refine ⟨cpow9, ?_⟩
  refine wMul_i (mul_ok (by omega) (by omega)) ?_
  refine ⟨cpow9, ?_⟩
  refine take_ok t1.src (by decide) (by decide) ?_
  intro v2 μ2 r2 n2 b0 b1 t2
  refine wAdd_i ?_
  refine wMul_i (mul_ok (by omega) (by omega)) ?_
  refine take_ok t2.src (by decide) (by decide) ?_
  intro v3 μ3 r3 n3 c0 c1 t3
  refine wAdd_i ?_
  walk_at "own_nx"
  refine wIntC_i ?_
  refine wMul_i (mul_ok (by omega) (by omega)) ?_
  refine wAdd_i ?_
  walk_at "own_wt"
  refine ⟨by omega, ?_⟩
  have e0 := Int.emod_nonneg ((v1 * 1000000000 + v2) * 4 + v3) (b := 2 * z + 1) (by omega)
  have e1 := Int.emod_lt_of_pos ((v1 * 1000000000 + v2) * 4 + v3) (b := 2 * z + 1) (by omega)
  exact .here (k _ _ _ _ (by omega) (by omega) ((t1.trans t2).trans t3))
theorem sign_ok {ns : List Int} (s : Srx b r ns μ) (k : ∀ v μ' r' ns', okSign v → Turn b r ns μ μ' r' ns' → P (.int v) μ') : S_law_sign π [.cell b] μ P XP := by
  rw [S_law_sign_eq]
  refine ⟨rfl, ?_⟩
  unfold W_law_sign
  walk_at "own_wt"
  refine take_ok s (by decide) (by decide) ?_
  intro v1 μ1 r1 n1 a0 a1 t1
  refine wMul_i (mul_ok (by omega) (by omega)) ?_
  refine .here (k _ _ _ _ ?_ t1)
  unfold okSign; omega
theorem wAbs_i {P : D → Mem → Prop} {i : Int} (k : P (.int (if i < 0 then -i else i)) μ) : wAbs [.int i] μ P := by unfold wAbs wR1; exact k
theorem amount_ok {z : Int} {ns : List Int} (s : Srx b r ns μ) (h0 : 0 ≤ z) (hz : z < 2 ^ 200) (k : ∀ v μ' r' ns', 0 ≤ v → v ≤ z → Turn b r ns μ μ' r' ns' → P (.int v) μ') : S_law_amount π [.cell b, .int z] μ P XP := by
  rw [S_law_amount_eq]
  refine ⟨rfl, ?_⟩
  unfold W_law_amount
  have H : OwnT b r ns μ μ [] := OwnT.start s (by simp) (by simp)
  have z0 := Zw.start s
  walk_at "own_wt"
  refine take_ok s (by decide) (by decide) ?_
  intro v1 μ1 r1 n1 a0 a1 t1
  obtain ⟨z1, H1⟩ := z0.turn H t1
  refine take_ok H1.inv (by decide) (by decide) ?_
  intro v2 μ2 r2 n2 b0 b1 t2
  obtain ⟨z2, H2⟩ := z1.turn H1 t2
  refine aLst_o H2 ?_
  intro c3 μ3 hc3 H3
  walk_at "own_nx"
  refine far_ok H3.inv h0 hz ?_
  intro v4 μ4 r4 n4 d0 d1 t4
  obtain ⟨z4, H4⟩ := z2.turn H3 t4
  refine wAbs_i ?_
  refine aLst_o H4 ?_
  intro c5 μ5 hc5 H5
  refine wAdd_ol H5 (H5.get (c := c3) (by walk_at "own_mem")) (H5.get (c := c5) (by walk_at "own_mem")) (by simp [sizeLine_eq]) ?_
  intro c6 μ6 hc6 H6
  refine pick_ok H6.inv (seq_lst (H6.get (c := c6) (by walk_at "own_mem"))) (by simp) (by simp) (fun n e => by cases e; have := H6.off (c6, _) (List.Mem.head _); simp at this ⊢; exact this.1) ?_
  intro x μ7 r7 n7 hx t7
  obtain ⟨z7, H7⟩ := z4.turn H6 t7
  obtain ⟨q, rfl, q0⟩ : ∃ q : Int, x = .int q ∧ 0 ≤ q := by
    simp only [List.cons_append, List.nil_append, List.mem_cons, List.not_mem_nil, or_false] at hx
    rcases hx with rfl | rfl | rfl | rfl
    · exact ⟨_, rfl, by decide⟩
    · exact ⟨_, rfl, a0⟩
    · exact ⟨_, rfl, b0⟩
    · exact ⟨_, rfl, by split <;> omega⟩
  refine wMin2_i ?_
  exact .here (k _ _ _ _ (by omega) (by omega) (z7.to H7))
end
end G
namespace G
open PySem L2 PL
local macro_rules | `(tactic| walk_at "own_ws") => `(tactic| try simp only [PL.fnW, PL.startD, List.map_cons, List.map_nil, List.length_cons, List.length_nil, List.replicate, List.replicate_succ, List.replicate_zero, List.append_nil, List.nil_append, List.cons_append, List.singleton_append, Nat.zero_add, Nat.add_zero, Nat.add_sub_cancel, Nat.reduceSub, Nat.reduceAdd, Nat.sub_zero, Nat.sub_self,
  PL.wSeq, PL.wIfS, PL.wRet, PL.wRetN, PL.wDrop, PL.wNext, PL.wBreak, PL.wCont, PL.wOp, PL.wUn, PL.wVar, PL.wC, PL.wCons, PL.wNil, PL.wTup, PL.wLst, PL.wTest, PL.wAnd, PL.wOr, PL.wNot, PL.wAndV, PL.wOrV, PL.wNotV, PL.wIf, PL.wChain, PL.wAsg, PL.wName, PL.wGtup, PL.wGunl, PL.wGcons, PL.wGnil, PL.wPar, PL.wPar3, PL.wAug, PL.wCB, PL.wCall, PL.wMake, PL.wMakeK, PL.wYes, PL.wTru, PL.wFor, PL.wSeqI, PL.wEnumI, PL.wZipI, PL.wRng1, PL.wRng2, PL.wBM, PL.wBM0, PL.wLstRg1, PL.wRaise, PL.wFldS, ↓PL.wFld_var, PL.wSet0, PL.wSAdd, PL.wNoPart, PL.wPart, PL.wSl, PL.wLc, PL.wipeD,
  PL.oSub, PL.oMod, PL.oFdiv, PL.oPow, PL.oLt, PL.oLe, PL.oGt, PL.oGe, PL.wI0, PL.wI2, PL.wB0, PL.wIp, PL.wNeg, PL.wR1, PL.one1, PL.two2, PL.ints1, PL.ints2,
  List.getElem?_cons_zero, List.getElem?_cons_succ, List.set_cons_zero, List.set_cons_succ, and_true, true_and, if_true, if_false, ite_true, ite_false, reduceIte, Bool.true_eq_false, Bool.false_eq_true, eq_self])
local macro_rules | `(tactic| walk_at "own_wt") => `(tactic| try simp only [PL.fnW, PL.startD, List.map_cons, List.map_nil, List.length_cons, List.length_nil, List.replicate, List.replicate_succ, List.replicate_zero, List.append_nil, List.nil_append, List.cons_append, List.singleton_append, Nat.zero_add, Nat.add_zero, Nat.add_sub_cancel, Nat.reduceSub, Nat.reduceAdd, Nat.sub_zero, Nat.sub_self,
  PL.wSeq_l, PL.wIfS, PL.wRet, PL.wRetN, PL.wDrop, PL.wNext, PL.wBreak, PL.wCont, PL.wOp, PL.wUn, PL.wVar, PL.wC, PL.wCons, PL.wNil, PL.wTup, PL.wLst_a, PL.wTest, PL.wAnd, PL.wOr, PL.wNot, PL.wAndV, PL.wOrV, PL.wNotV, PL.wIf, PL.wChain, PL.wAsg, PL.wName, PL.wGtup, PL.wGunl, PL.wGcons, PL.wGnil, PL.wPar, PL.wPar3, PL.wAug, PL.wCB, PL.wCall, PL.wMake, PL.wMakeK, PL.wYes, PL.wTru, PL.wFor, PL.wSeqI, PL.wEnumI, PL.wZipI, PL.wRng1, PL.wRng2, PL.wBM, PL.wBM0, PL.wLstRg1_a, PL.wRaise, PL.wFldS, ↓PL.wFld_var, PL.wSet0, PL.wSAdd, PL.wNoPart, PL.wPart, PL.wSl_eq, PL.wLc_a, PL.wipeD,
  PL.oSub, PL.oMod, PL.oFdiv, PL.oPow, PL.oLt, PL.oLe, PL.oGt, PL.oGe, PL.wI0, PL.wI2, PL.wB0, PL.wIp, PL.wNeg, PL.wR1, PL.one1, PL.two2, PL.ints1, PL.ints2,
  List.getElem?_cons_zero, List.getElem?_cons_succ, List.set_cons_zero, List.set_cons_succ, and_true, true_and, if_true, if_false, ite_true, ite_false, reduceIte, Bool.true_eq_false, Bool.false_eq_true, eq_self])
local macro_rules | `(tactic| walk_at "own_nx") => `(tactic| ((first | refine PL.later_i ?_ | (dsimp only; refine PL.later_i ?_)); walk_at "own_wt"))
local macro_rules | `(tactic| walk_at "own_wg") => `(tactic| simp only [PL.wGtup, PL.wGcons, PL.wGnil, PL.wName, List.length_cons, List.length_nil, List.set_cons_zero, List.set_cons_succ, Nat.zero_add, Nat.reduceAdd, true_and])
local macro_rules | `(tactic| walk_at "own_mem") => `(tactic| repeat (first | exact List.Mem.head _ | refine List.Mem.tail _ ?_))
local macro_rules | `(tactic| walk_at "own_mm") => `(tactic| exact PL.Own.get (by assumption) (by walk_at "own_mem"))
local macro_rules | `(tactic| walk_at "own_sq") => `(tactic| first | rfl | exact PL.seq_lst (PL.Own.get (by assumption) (by walk_at "own_mem")))
local macro_rules | `(tactic| walk_at "own_sub") => `(tactic| repeat (first | exact List.Sublist.refl _ | refine List.Sublist.cons_cons _ ?_ | refine List.Sublist.cons _ ?_))
local macro_rules | `(tactic| walk_at "own_putr") => `(tactic| repeat (first | exact PL.PutR.here | apply PL.PutR.there))
local macro_rules | `(tactic| walk_at "own_lat") => `(tactic| (first | refine PL.later_i ?_ | (dsimp only; refine PL.later_i ?_)))
local macro_rules | `(tactic| walk_at "own_wu") => `(tactic| try simp only [PL.fnW, PL.startD, List.map_cons, List.map_nil, List.length_cons, List.length_nil, List.replicate, List.replicate_succ, List.replicate_zero, List.append_nil, List.nil_append, List.cons_append, List.singleton_append, Nat.zero_add, Nat.add_zero, Nat.add_sub_cancel, Nat.reduceSub, Nat.reduceAdd, Nat.sub_zero, Nat.sub_self,
  PL.wSeq_l, PL.wIfS, PL.wRet, PL.wRetN, PL.wDrop, PL.wNext, PL.wBreak, PL.wCont, PL.wOp, PL.wUn, PL.wVar, PL.wC, PL.wCons, PL.wNil, PL.wTup, PL.wLst_a, PL.wTest, PL.wAnd, PL.wOr, PL.wNot, PL.wAndV, PL.wOrV, PL.wNotV, PL.wIf, PL.wAsg, PL.wName, PL.wPar, PL.wPar3, PL.wCB, PL.wCall, PL.wMake, PL.wYes, PL.wTru, PL.wFor, PL.wSeqI, PL.wRng1, PL.wRng2, PL.wBM, PL.wBM0, PL.wRaise, ↓PL.wFld_var, PL.wNoPart, PL.wPart, PL.wLc_a, PL.wipeD,
  List.getElem?_cons_zero, List.getElem?_cons_succ, List.set_cons_zero, List.set_cons_succ, and_true, true_and, if_true, if_false, ite_true, ite_false, reduceIte, Bool.true_eq_false, Bool.false_eq_true, eq_self])
local macro_rules | `(tactic| walk_at "own_nu") => `(tactic| ((first | refine PL.later_i ?_ | (dsimp only; refine PL.later_i ?_)); walk_at "own_wu"))
local macro_rules | `(tactic| walk_at "own_cn") => `(tactic| repeat (first | exact PL.Cn.c | exact PL.Cn.neg | exact PL.CnA.nil | exact PL.Cn.var rfl | apply PL.CnA.cons | apply PL.Cn.tup))
section
variable {π : Pr} {μ : Mem} {P : D → Mem → Prop} {XP : Exn → Mem → Prop} {d : D} {b r : Nat}
theorem other_ne {p a u : Int} (h2 : 2 ≤ p) (a0 : 0 ≤ a) (a1 : a < p) (u0 : 0 ≤ u) (u1 : u < p - 1) : 0 ≤ (a + 1 + u) % p ∧ (a + 1 + u) % p < p ∧ a ≠ (a + 1 + u) % p := by
  refine ⟨Int.emod_nonneg _ (by omega), Int.emod_lt_of_pos _ (by omega), fun e => ?_⟩
  by_cases c : a + 1 + u < p
  · rw [Int.emod_eq_of_lt (by omega) c] at e; omega
  · have : (a + 1 + u) % p = a + 1 + u - p := by
      rw [← Int.sub_emod_right, Int.emod_eq_of_lt (by omega) (by omega)]
    omega
theorem law_norm_ok {m : Int} {t : List Int} (h : TieOk m t) (k : P (tieD (normT t)) μ) : S_law_norm π [tieD t] μ P XP := by
  rw [S_law_norm_eq]
  refine ⟨rfl, ?_⟩
  unfold W_law_norm
  cases h with
  | @loose p s h0 h1 hs =>
    walk_at "own_wt"
    refine wLen_i (xs := litD [p, s]) rfl ?_
    refine wEq_int ?_
    simp only [litD, List.map_cons, List.map_nil, List.length_cons, List.length_nil, show (((0 + 1 + 1 : Nat) : Int) == 4) = false from rfl, Bool.false_eq_true, if_false]
    walk_at "own_nx"
    exact wTupC_i rfl (.here k)
  | @two p s q u h0 h1 hs g0 g1 hu ne =>
    walk_at "own_wt"
    refine wLen_i (xs := litD [p, s, q, u]) rfl ?_
    refine wEq_int ?_
    simp only [litD, List.map_cons, List.map_nil, List.length_cons, List.length_nil, show (((0 + 1 + 1 + 1 + 1 : Nat) : Int) == 4) = true from rfl, Bool.false_eq_true, if_false, if_true]
    refine wIx_i (xs := litD [p, s, q, u]) rfl (atI_at (j := 2) rfl) ?_
    refine wIx_i (xs := litD [p, s, q, u]) rfl (atI_at (j := 0) rfl) ?_
    rw [normT4] at k
    by_cases c : q < p
    · rw [if_pos c] at k
      simp only [decide_eq_true c, if_true]
      refine wIx_i (xs := litD [p, s, q, u]) rfl (atI_at (j := 2) rfl) ?_
      refine wIx_i (xs := litD [p, s, q, u]) rfl (atI_at (j := 3) rfl) ?_
      refine wIx_i (xs := litD [p, s, q, u]) rfl (atI_at (j := 0) rfl) ?_
      refine wIx_i (xs := litD [p, s, q, u]) rfl (atI_at (j := 1) rfl) ?_
      exact .here k
    · rw [if_neg c] at k
      simp only [decide_eq_false c, Bool.false_eq_true, if_false]
      walk_at "own_nx"
      exact wTupC_i rfl (.here k)
theorem set_cut {α : Type} (xs : List α) (i : Nat) (v : α) (h : i < xs.length) : xs.take i ++ [v] ++ xs.drop (i + 1) = xs.set i v := by
  rw [List.set_eq_take_append_cons_drop, if_pos h]; simp
theorem with_tup {xs : List D} {i : Nat} {v : D} (h : i < xs.length) (hl : xs.length ≤ 100000) (k : P (.tup (xs.set i v)) μ) : S_law_with π [.tup xs, .int (i : Nat), v] μ P XP := by
  rw [S_law_with_eq]
  refine ⟨rfl, ?_⟩
  unfold W_law_with
  walk_at "own_wt"
  rw [cut_none]
  refine wTupC_i rfl ?_
  refine wAdd_tt (by simp [sizeLine_eq]; omega) ?_
  refine wAdd_i ?_
  walk_at "own_wt"
  rw [show ((i : Nat) : Int) + 1 = ((i + 1 : Nat) : Int) by omega, cut_some]
  refine wTupC_i rfl ?_
  refine wAdd_tt (by simp [sizeLine_eq]; omega) ?_
  rw [set_cut _ _ _ h]
  exact .here k
theorem with_lst {xs : List D} {c i : Nat} {v : D} (g : μ[c]? = some (.lst xs)) (h : i < xs.length) (hl : xs.length ≤ 100000) (k : ∀ μ', Fr [] μ μ' → P (.tup (xs.set i v)) μ') : S_law_with π [.cell c, .int (i : Nat), v] μ P XP := by
  rw [S_law_with_eq]
  refine ⟨rfl, ?_⟩
  unfold W_law_with
  have H : Own [] (fun _ => True) μ μ [(c, .lst xs)] := own0 (by simpa using g)
  walk_at "own_wt"
  simp only [seq_lst g]
  rw [cut_none]
  refine aLst_o H ?_
  intro c1 μ1 hc1 H1
  refine wTupC_i (seq_lst (H1.get (c := c1) (by walk_at "own_mem"))) ?_
  refine wAdd_tt (by simp [sizeLine_eq]; omega) ?_
  refine wAdd_i ?_
  walk_at "own_wt"
  simp only [seq_lst (H1.get (c := c) (m := .lst xs) (by walk_at "own_mem"))]
  rw [show ((i : Nat) : Int) + 1 = ((i + 1 : Nat) : Int) by omega, cut_some]
  refine aLst_o H1 ?_
  intro c2 μ2 hc2 H2
  refine wTupC_i (seq_lst (H2.get (c := c2) (by walk_at "own_mem"))) ?_
  refine wAdd_tt (by simp [sizeLine_eq]; omega) ?_
  rw [set_cut _ _ _ h]
  exact .here (k _ H2.fr)
theorem tie_ok {p near ev : Int} {ns : List Int} (s : Srx b r ns μ) (h2 : 2 ≤ p) (hp : p < 2 ^ 200) (n0 : 1 ≤ near) (n1 : near ≤ p - 1) (k : ∀ t μ' r' ns', TieOk p t → Turn b r ns μ μ' r' ns' → P (tieD t) μ') : S_law_tie π [.cell b, .int p, .int near, .int ev] μ P XP := by
  rw [S_law_tie_eq]
  refine ⟨rfl, ?_⟩
  unfold W_law_tie
  walk_at "own_wt"
  refine take_ok s (by omega) (by omega) ?_
  intro a μ1 r1 m1 a0 a1 t1
  refine sign_ok t1.src ?_
  intro sg μ2 r2 m2 hs t2
  walk_at "own_nx"
  refine wAdd_i ?_
  refine take_ok t2.src (by omega) (by omega) ?_
  intro u μ3 r3 m3 u0 u1 t3
  refine wAdd_i ?_
  refine wIntC_i ?_
  walk_at "own_wt"
  refine ⟨by omega, ?_⟩
  obtain ⟨o0, o1, o2⟩ := other_ne h2 a0 a1 u0 (show u < p - 1 by omega)
  walk_at "own_nx"
  refine take_ok t3.src (by decide) (by decide) ?_
  intro q μ4 r4 m4 q0 q1 t4
  have tt := ((t1.trans t2).trans t3).trans t4
  by_cases c : ev ≤ q
  · simp only [decide_eq_true c, if_true]
    exact .here (k [a, sg, (a + 1 + u) % p, sg] _ _ _ (.two a0 a1 hs o0 o1 hs o2) tt)
  · simp only [decide_eq_false c, Bool.false_eq_true, if_false]
    exact .here (k [a, sg, (a + 1 + u) % p, -sg] _ _ _ (.two a0 a1 hs o0 o1 (by unfold okSign at hs ⊢; omega) o2) tt)
theorem scales_ok {ns : List Int} (s : Srx b r ns μ) (k : ∀ a c e μ' r' ns', (a, c, e) ∈ [((150 : Int), (300 : Int), (60 : Int)), (1, 0, 3), (2, 4, 2), (3, 5, 2), (5, 9, 3), (9, 15, 4), (24, 40, 9)] → Turn b r ns μ μ' r' ns' → P (.tup [.int a, .int c, .int e]) μ') : S_law_scales π [.cell b] μ P XP := by
  rw [S_law_scales_eq]
  refine ⟨rfl, ?_⟩
  unfold W_law_scales
  have H : OwnT b r ns μ μ [] := OwnT.start s (by simp) (by simp)
  have z0 := Zw.start s
  walk_at "own_wt"
  refine aLst_o H ?_
  intro c1 μ1 hc1 H1
  walk_at "own_nx"
  refine take_ok H1.inv (by decide) (by decide) ?_
  intro v μ2 r2 m2 v0 v1 t2
  obtain ⟨z2, H2⟩ := z0.turn H1 t2
  refine wEq_intN ?_
  by_cases c : v = 0
  · simp only [decide_eq_true c, if_true, Bool.false_eq_true, if_false]
    walk_at "own_wt"
    exact .here (k _ _ _ _ _ _ (by simp) (z2.to H2))
  · simp only [decide_eq_false c, if_true, Bool.false_eq_true, if_false]
    walk_at "own_wt"
    refine pick_ok H2.inv (seq_lst (H2.get (c := c1) (by walk_at "own_mem"))) (by simp) (by simp) (fun n e => by cases e; have := H2.off (c1, _) (List.Mem.head _); simp at this ⊢; exact this.1) ?_
    intro x μ3 r3 m3 hx t3
    obtain ⟨z3, H3⟩ := z2.turn H2 t3
    simp only [List.mem_cons, List.not_mem_nil, or_false] at hx
    rcases hx with rfl | rfl | rfl | rfl | rfl | rfl
    all_goals exact .here (k _ _ _ _ _ _ (by simp) (z3.to H3))
theorem lc_turn {chk : Mem → Prop} {vs : List Nat} {g : WG} {e : WE} {δ : En} (J : Mem → Prop) (ok : D → Prop) (hchk : ∀ μ, J μ → chk μ) : ∀ {xs : List D}, (∀ x ∈ xs, ∀ (μ : Mem) (P : D → Mem → Prop), J μ → (∀ d μ', J μ' → ok d → P d μ') → g x (wipeD δ vs) μ (fun δ1 μ1 => e δ1 μ1 P QX0)) →
    ∀ (acc : List D) (μ : Mem) (R : List D → Mem → Prop), J μ → (∀ d ∈ acc, ok d) → (∀ ds μ', J μ' → ds.length = acc.length + xs.length → (∀ d ∈ ds, ok d) → R ds μ') → lcL chk vs g wYes e xs acc δ μ R := lc_inv J ok hchk
theorem signs_ok {p : Nat} {ns : List Int} (s : Srx b r ns μ) (hp : p ≤ 1000) (k : ∀ (sg : List Int) μ' r' ns', sg.length = p → (∀ x ∈ sg, -1 ≤ x ∧ x ≤ 1) → Turn b r ns μ μ' r' ns' → P (.tup (litD sg)) μ') : S_law_signs π [.cell b, .int (p : Nat)] μ P XP := by
  rw [S_law_signs_eq]
  refine ⟨rfl, ?_⟩
  unfold W_law_signs
  have H : OwnT b r ns μ μ [] := OwnT.start s (by simp) (by simp)
  have z0 := Zw.start s
  refine wSeq_i (wAsg_i (Cn.call2 (Cn.var rfl) ?_))
  refine CnA.lst (ds := [.tup (litD [1, 0, -1]), .tup (litD [1, -1]), .tup (litD [0, 0, 0, 1, -1]), .tup (litD [1, 1, 1, -1])]) (by walk_at "own_cn") ?_
  refine aLst_o H ?_
  intro c1 μ1 hc1 H1
  refine pick_ok H1.inv (seq_lst (H1.get (c := c1) (by walk_at "own_mem"))) (by simp) (by simp) (fun n e => by cases e; have := H1.off (c1, _) (List.Mem.head _); simp at this ⊢; exact this.1) ?_
  intro x μ2 r2 m2 hx t2
  obtain ⟨z2, H2⟩ := z0.turn H1 t2
  obtain ⟨some_, rfl, hs, hl⟩ : ∃ l : List Int, x = .tup (litD l) ∧ (∀ y ∈ l, -1 ≤ y ∧ y ≤ 1) ∧ 0 < l.length ∧ l.length ≤ 5 := by
    simp only [List.mem_cons, List.not_mem_nil, or_false] at hx
    rcases hx with rfl | rfl | rfl | rfl
    · exact ⟨[1, 0, -1], rfl, by decide, by decide⟩
    · exact ⟨[1, -1], rfl, by decide, by decide⟩
    · exact ⟨[0, 0, 0, 1, -1], rfl, by decide, by decide⟩
    · exact ⟨[1, 1, 1, -1], rfl, by decide, by decide⟩
  simp only [wName, startD, List.map_cons, List.map_nil, List.length_cons, List.length_nil, List.replicate, List.replicate_succ, List.replicate_zero, List.cons_append, List.nil_append, List.append_nil, List.set_cons_zero, List.set_cons_succ, Nat.zero_add, Nat.reduceAdd, Nat.reduceSub]
  refine later_i ?_
  simp only [wRet, wCB, wCons, wNil, wLc_a, wRng1, ints1, wVar, List.getElem?_cons_zero, List.getElem?_cons_succ, List.set_cons_zero, List.set_cons_succ]
  refine ⟨⟨by omega, by omega⟩, by rw [rangeD_length, sizeLine_eq]; omega, ?_⟩
  refine lc_turn (fun μ' => ∃ r' ns', Zw b r ns μ r' ns' ∧ OwnT b r' ns' μ μ' []) (fun d => ∃ v, d = .int v ∧ -1 ≤ v ∧ v ≤ 1) (fun _ _ => trivial) ?_ [] _ _ ⟨_, _, z2, H2.tail⟩ (by simp) ?_
  · rintro y hy μ3 P3 ⟨r3, m3, z3, H3⟩ kk
    simp only [wName, wCall, wCons, wNil, wVar, wipeD, List.append_nil, List.getElem?_cons_zero, List.getElem?_cons_succ, List.set_cons_zero, List.set_cons_succ]
    refine pick_ok H3.inv (xs := litD some_) rfl (by rw [len_litD]; exact hl.1) (by rw [len_litD]; omega) (fun n e => by cases e) ?_
    intro x μ4 r4 m4 hx t4
    obtain ⟨z4, H4⟩ := z3.turn H3 t4
    obtain ⟨v, hv, rfl⟩ := List.mem_map.mp hx
    exact kk _ _ ⟨_, _, z4, H4⟩ ⟨v, rfl, hs v hv⟩
  · rintro ds μ3 ⟨r3, m3, z3, H3⟩ hl3 hds
    obtain ⟨sg, rfl, hsg⟩ := lits_of ds hds
    refine aLst_o H3 ?_
    intro c4 μ4 hc4 H4
    refine wTupC_i (seq_lst (H4.get (c := c4) (by walk_at "own_mem"))) ?_
    refine .here (k sg _ _ _ ?_ hsg (z3.to H4))
    rw [len_litD, List.length_nil, rangeD_length, Nat.zero_add] at hl3
    omega
end
end G
namespace G
open PySem L2 PL
local macro_rules | `(tactic| walk_at "own_ws") => `(tactic| try simp only [PL.fnW, PL.startD, List.map_cons, List.map_nil, List.length_cons, List.length_nil, List.replicate, List.replicate_succ, List.replicate_zero, List.append_nil, List.nil_append, List.cons_append, List.singleton_append, Nat.zero_add, Nat.add_zero, Nat.add_sub_cancel, Nat.reduceSub, Nat.reduceAdd, Nat.sub_zero, Nat.sub_self,
  PL.wSeq, PL.wIfS, PL.wRet, PL.wRetN, PL.wDrop, PL.wNext, PL.wBreak, PL.wCont, PL.wOp, PL.wUn, PL.wVar, PL.wC, PL.wCons, PL.wNil, PL.wTup, PL.wLst, PL.wTest, PL.wAnd, PL.wOr, PL.wNot, PL.wAndV, PL.wOrV, PL.wNotV, PL.wIf, PL.wChain, PL.wAsg, PL.wName, PL.wGtup, PL.wGunl, PL.wGcons, PL.wGnil, PL.wPar, PL.wPar3, PL.wAug, PL.wCB, PL.wCall, PL.wMake, PL.wMakeK, PL.wYes, PL.wTru, PL.wFor, PL.wSeqI, PL.wEnumI, PL.wZipI, PL.wRng1, PL.wRng2, PL.wBM, PL.wBM0, PL.wLstRg1, PL.wRaise, PL.wFldS, ↓PL.wFld_var, PL.wSet0, PL.wSAdd, PL.wNoPart, PL.wPart, PL.wSl, PL.wLc, PL.wipeD,
  PL.oSub, PL.oMod, PL.oFdiv, PL.oPow, PL.oLt, PL.oLe, PL.oGt, PL.oGe, PL.wI0, PL.wI2, PL.wB0, PL.wIp, PL.wNeg, PL.wR1, PL.one1, PL.two2, PL.ints1, PL.ints2,
  List.getElem?_cons_zero, List.getElem?_cons_succ, List.set_cons_zero, List.set_cons_succ, and_true, true_and, if_true, if_false, ite_true, ite_false, reduceIte, Bool.true_eq_false, Bool.false_eq_true, eq_self])
local macro_rules | `(tactic| walk_at "own_wt") => `(tactic| try simp only [PL.fnW, PL.startD, List.map_cons, List.map_nil, List.length_cons, List.length_nil, List.replicate, List.replicate_succ, List.replicate_zero, List.append_nil, List.nil_append, List.cons_append, List.singleton_append, Nat.zero_add, Nat.add_zero, Nat.add_sub_cancel, Nat.reduceSub, Nat.reduceAdd, Nat.sub_zero, Nat.sub_self,
  PL.wSeq_l, PL.wIfS, PL.wRet, PL.wRetN, PL.wDrop, PL.wNext, PL.wBreak, PL.wCont, PL.wOp, PL.wUn, PL.wVar, PL.wC, PL.wCons, PL.wNil, PL.wTup, PL.wLst_a, PL.wTest, PL.wAnd, PL.wOr, PL.wNot, PL.wAndV, PL.wOrV, PL.wNotV, PL.wIf, PL.wChain, PL.wAsg, PL.wName, PL.wGtup, PL.wGunl, PL.wGcons, PL.wGnil, PL.wPar, PL.wPar3, PL.wAug, PL.wCB, PL.wCall, PL.wMake, PL.wMakeK, PL.wYes, PL.wTru, PL.wFor, PL.wSeqI, PL.wEnumI, PL.wZipI, PL.wRng1, PL.wRng2, PL.wBM, PL.wBM0, PL.wLstRg1_a, PL.wRaise, PL.wFldS, ↓PL.wFld_var, PL.wSet0, PL.wSAdd, PL.wNoPart, PL.wPart, PL.wSl_eq, PL.wLc_a, PL.wipeD,
  PL.oSub, PL.oMod, PL.oFdiv, PL.oPow, PL.oLt, PL.oLe, PL.oGt, PL.oGe, PL.wI0, PL.wI2, PL.wB0, PL.wIp, PL.wNeg, PL.wR1, PL.one1, PL.two2, PL.ints1, PL.ints2,
  List.getElem?_cons_zero, List.getElem?_cons_succ, List.set_cons_zero, List.set_cons_succ, and_true, true_and, if_true, if_false, ite_true, ite_false, reduceIte, Bool.true_eq_false, Bool.false_eq_true, eq_self])
local macro_rules | `(tactic| walk_at "own_nx") => `(tactic| ((first | refine PL.later_i ?_ | (dsimp only; refine PL.later_i ?_)); walk_at "own_wt"))
local macro_rules | `(tactic| walk_at "own_wg") => `(tactic| simp only [PL.wGtup, PL.wGcons, PL.wGnil, PL.wName, List.length_cons, List.length_nil, List.set_cons_zero, List.set_cons_succ, Nat.zero_add, Nat.reduceAdd, true_and])
local macro_rules | `(tactic| walk_at "own_mem") => `(tactic| repeat (first | exact List.Mem.head _ | refine List.Mem.tail _ ?_))
local macro_rules | `(tactic| walk_at "own_mm") => `(tactic| exact PL.Own.get (by assumption) (by walk_at "own_mem"))
local macro_rules | `(tactic| walk_at "own_sq") => `(tactic| first | rfl | exact PL.seq_lst (PL.Own.get (by assumption) (by walk_at "own_mem")))
local macro_rules | `(tactic| walk_at "own_sub") => `(tactic| repeat (first | exact List.Sublist.refl _ | refine List.Sublist.cons_cons _ ?_ | refine List.Sublist.cons _ ?_))
local macro_rules | `(tactic| walk_at "own_putr") => `(tactic| repeat (first | exact PL.PutR.here | apply PL.PutR.there))
local macro_rules | `(tactic| walk_at "own_lat") => `(tactic| (first | refine PL.later_i ?_ | (dsimp only; refine PL.later_i ?_)))
local macro_rules | `(tactic| walk_at "own_wu") => `(tactic| try simp only [PL.fnW, PL.startD, List.map_cons, List.map_nil, List.length_cons, List.length_nil, List.replicate, List.replicate_succ, List.replicate_zero, List.append_nil, List.nil_append, List.cons_append, List.singleton_append, Nat.zero_add, Nat.add_zero, Nat.add_sub_cancel, Nat.reduceSub, Nat.reduceAdd, Nat.sub_zero, Nat.sub_self,
  PL.wSeq_l, PL.wIfS, PL.wRet, PL.wRetN, PL.wDrop, PL.wNext, PL.wBreak, PL.wCont, PL.wOp, PL.wUn, PL.wVar, PL.wC, PL.wCons, PL.wNil, PL.wTup, PL.wLst_a, PL.wTest, PL.wAnd, PL.wOr, PL.wNot, PL.wAndV, PL.wOrV, PL.wNotV, PL.wIf, PL.wAsg, PL.wName, PL.wPar, PL.wPar3, PL.wCB, PL.wCall, PL.wMake, PL.wYes, PL.wTru, PL.wFor, PL.wSeqI, PL.wRng1, PL.wRng2, PL.wBM, PL.wBM0, PL.wRaise, ↓PL.wFld_var, PL.wNoPart, PL.wPart, PL.wLc_a, PL.wipeD,
  List.getElem?_cons_zero, List.getElem?_cons_succ, List.set_cons_zero, List.set_cons_succ, and_true, true_and, if_true, if_false, ite_true, ite_false, reduceIte, Bool.true_eq_false, Bool.false_eq_true, eq_self])
local macro_rules | `(tactic| walk_at "own_nu") => `(tactic| ((first | refine PL.later_i ?_ | (dsimp only; refine PL.later_i ?_)); walk_at "own_wu"))
local macro_rules | `(tactic| walk_at "own_cn") => `(tactic| repeat (first | exact PL.Cn.c | exact PL.Cn.neg | exact PL.CnA.nil | exact PL.Cn.var rfl | apply PL.CnA.cons | apply PL.Cn.tup))
section
variable {π : Pr} {μ : Mem} {P : D → Mem → Prop} {XP : Exn → Mem → Prop} {d : D} {b r : Nat}
theorem ite_lst {c : Bool} {K : D → Mem → Prop} {x y : D} {ds : List D} (h : ∀ v, (c = true ∧ v = x ∨ c = false ∧ v = y) → aLst K (v :: ds) μ) : if c = true then aLst K (x :: ds) μ else aLst K (y :: ds) μ := by
  cases c with
  | true => rw [if_pos rfl]; exact h _ (.inl ⟨rfl, rfl⟩)
  | false => rw [if_neg Bool.false_ne_true]; exact h _ (.inr ⟨rfl, rfl⟩)
theorem web_ok {p twos loose : Int} {ns : List Int} (s : Srx b r ns μ) (h1 : 1 ≤ p) (hp : p ≤ 1000) (h2 : 0 ≤ twos) (h2' : twos ≤ 1000) (h3 : 0 ≤ loose) (h3' : loose ≤ 1000)
    (k : ∀ (c : Nat) (ts : List (List Int)) μ' r' ns', Turn b r ns μ μ' r' ns' → μ.length ≤ c → c ≠ r' → μ'[c]? = some (.lst (ts.map tieD)) → (∀ t ∈ ts, TieOk p t) → ((ts.length : Nat) : Int) ≤ twos + loose → P (.cell c) μ') : S_law_web π [.cell b, .int p, .int twos, .int loose] μ P XP := by
  rw [S_law_web_eq]
  refine ⟨rfl, ?_⟩
  unfold W_law_web
  have H : OwnT b r ns μ μ [] := OwnT.start s (by simp) (by simp)
  have z0 := Zw.start s
  walk_at "own_wt"
  refine aLst_o H ?_
  intro c1 μ1 hc1 H1
  refine wMax2_i ?_
  refine take_ok H1.inv (by omega) (by omega) ?_
  intro u μ2 r2 m2 u0 u1 t2
  obtain ⟨z2, H2⟩ := z0.turn H1 t2
  refine wAdd_i ?_
  refine take_ok H2.inv (by omega) (by omega) ?_
  intro ev μ3 r3 m3 e0 e1 t3
  obtain ⟨z3, H3⟩ := z2.turn H2 t3
  walk_at "own_nx"
  refine ite_lst fun v hv => ?_
  obtain ⟨lf, rfl, l0, l1, l2⟩ : ∃ lf : Int, v = .int lf ∧ 0 ≤ lf ∧ lf ≤ twos ∧ (0 < lf → 2 ≤ p) := by
    rcases hv with ⟨c, rfl⟩ | ⟨c, rfl⟩
    · have := of_decide_eq_true c
      exact ⟨twos, rfl, h2, Int.le_refl _, fun _ => by omega⟩
    · exact ⟨0, rfl, Int.le_refl _, h2, fun h => by omega⟩
  refine aLst_o H3 ?_
  intro c4 μ4 hc4 H4
  have lc1 : μ.length ≤ c1 := hc1
  have lc4 : μ.length ≤ c4 := Nat.le_trans H3.fr.len hc4
  refine later_i ?_
  refine wSeq_i ?_
  simp only [wFor, wRng1, wOp, wCons, wNil, wVar, wC, List.getElem?_cons_zero, List.getElem?_cons_succ]
  refine wIx_i (seq_lst (H4.get (c := c4) (by walk_at "own_mem"))) (atI_at (j := 0) rfl) ?_
  refine wIx_i (seq_lst (H4.get (c := c4) (by walk_at "own_mem"))) (atI_at (j := 1) rfl) ?_
  refine wAdd_i ?_
  simp only [ints1]
  refine ⟨⟨by omega, by omega⟩, ?_⟩
  refine loop_inv (fun xs δ μ5 => ∃ (i m : Nat) (a c : Int) (ts : List (List Int)) (o8 : Option D) (r5 : Nat) (m5 : List Int), xs = rangeD (i : Nat) m ∧ a + c = m ∧ 0 ≤ a ∧ 0 ≤ c ∧ a ≤ lf ∧ ((i + m : Nat) : Int) = lf + loose ∧ ts.length = i ∧ (∀ t ∈ ts, TieOk p t) ∧ δ = [some (.cell b), some (.int p), some (.int twos), some (.int loose), some (.cell c1), some (.int (1 + u)), some (.int ev), some (.cell c4), o8] ∧ Zw b r ns μ r5 m5 ∧ OwnT b r5 m5 μ μ5 [(c4, .lst [.int a, .int c]), (c1, .lst (ts.map tieD))])
    (fun _ _ _ _ => trivial) ?_ _ _ _ ⟨0, (lf + loose).toNat, lf, loose, [], none, r3, m3, by simp, by omega, l0, h3, Int.le_refl _, by omega, rfl, by simp, rfl, z3, H4⟩ ?_
  · rintro x xs δ μ5 ⟨i, m, a, c, ts, o8, r5, m5, ex, e1', a0, c0, al, ei, el, ht, rfl, z5, H5⟩ P' _ _ nx
    cases m with
    | zero => cases ex
    | succ m =>
    obtain ⟨rfl, rfl⟩ : x = .int (i : Nat) ∧ xs = rangeD ((i : Nat) + 1) m := by simpa [rangeD] using ex
    simp only [wName, List.set_cons_zero, List.set_cons_succ]
    refine wIfS_i ?_
    simp only [wTest, wOp, wCall, wCons, wNil, wVar, wC, List.append_nil, List.getElem?_cons_zero, List.getElem?_cons_succ]
    refine wIx_i (seq_lst (H5.get (c := c4) (by walk_at "own_mem"))) (atI_at (j := 0) rfl) ?_
    refine wIx_i (seq_lst (H5.get (c := c4) (by walk_at "own_mem"))) (atI_at (j := 1) rfl) ?_
    refine wAdd_i ?_
    refine take_ok H5.inv (by omega) (by omega) ?_
    intro v μ6 r6 m6 v0 v1 t6
    obtain ⟨z6, H6⟩ := z5.turn H5 t6
    refine wIx_i (seq_lst (H6.get (c := c4) (by walk_at "own_mem"))) (atI_at (j := 1) rfl) ?_
    simp only [wB0]
    by_cases hv : v < c
    · simp only [decide_eq_true hv, if_true]
      refine wSeq_i ?_
      simp only [wDrop, wBM, wTup, wOp, wCall, wCons, wNil, wVar, wC, List.append_nil, List.getElem?_cons_zero, List.getElem?_cons_succ]
      refine ⟨by rw [lst_lst (H6.get (c := c1) (by walk_at "own_mem"))]; rfl, ?_⟩
      refine take_ok H6.inv (by omega) (by omega) ?_
      intro q μ7 r7 m7 q0 q1 t7
      obtain ⟨z7, H7⟩ := z6.turn H6 t7
      refine sign_ok H7.inv ?_
      intro sg μ8 r8 m8 hs t8
      obtain ⟨z8, H8⟩ := z7.turn H7 t8
      refine wAppend_o H8 (n := c1) (xs := ts.map tieD) (d := tieD [q, sg]) (by walk_at "own_putr") lc1 (by rw [List.length_map, sizeLine_eq]; omega) ?_
      intro μ9 H9
      refine later_i ?_
      simp only [wAsg, wOp, wVar, wC, List.getElem?_cons_zero, List.getElem?_cons_succ]
      refine wIx_i (seq_lst (H9.get (c := c4) (by walk_at "own_mem"))) (atI_at (j := 1) rfl) ?_
      refine wI0_i ?_
      refine wGsub_o H9 (n := c4) (x := 1) (j := 1) (d := .int (c - 1)) (xs := [.int a, .int c]) (fun P XP h => h) (fun P XP h => h) (by walk_at "own_putr") lc4 (ixN_nat (i := 1) (by simp)) ?_
      intro μ10 H10
      refine nx _ _ ⟨i + 1, m, a, c - 1, ts ++ [[q, sg]], some (.int (i : Nat)), r8, m8, by simp, by omega, a0, by omega, al, by omega, by simp [el], ?_, rfl, z8, ?_⟩
      · intro t h
        rcases List.mem_append.mp h with h | h
        · exact ht t h
        · simp at h; subst h; exact .loose q0 q1 hs
      · rw [List.map_append]; exact H10
    · simp only [decide_eq_false hv, Bool.false_eq_true, if_false]
      refine wSeq_i ?_
      simp only [wDrop, wBM, wTup, wOp, wCall, wCons, wNil, wVar, wC, List.append_nil, List.getElem?_cons_zero, List.getElem?_cons_succ]
      refine ⟨by rw [lst_lst (H6.get (c := c1) (by walk_at "own_mem"))]; rfl, ?_⟩
      refine tie_ok H6.inv (l2 (by omega)) (by omega) (by omega) (by omega) ?_
      intro t μ8 r8 m8 htt t8
      obtain ⟨z8, H8⟩ := z6.turn H6 t8
      refine wAppend_o H8 (n := c1) (xs := ts.map tieD) (d := tieD t) (by walk_at "own_putr") lc1 (by rw [List.length_map, sizeLine_eq]; omega) ?_
      intro μ9 H9
      refine later_i ?_
      simp only [wAsg, wOp, wVar, wC, List.getElem?_cons_zero, List.getElem?_cons_succ]
      refine wIx_i (seq_lst (H9.get (c := c4) (by walk_at "own_mem"))) (atI_at (j := 0) rfl) ?_
      refine wI0_i ?_
      refine wGsub_o H9 (n := c4) (x := 0) (j := 0) (d := .int (a - 1)) (xs := [.int a, .int c]) (fun P XP h => h) (fun P XP h => h) (by walk_at "own_putr") lc4 (ixN_nat (i := 0) (by simp)) ?_
      intro μ10 H10
      refine nx _ _ ⟨i + 1, m, a - 1, c, ts ++ [t], some (.int (i : Nat)), r8, m8, by simp, by omega, by omega, c0, by omega, by omega, by simp [el], ?_, rfl, z8, ?_⟩
      · intro t' h
        rcases List.mem_append.mp h with h | h
        · exact ht t' h
        · simp at h; subst h; exact htt
      · rw [List.map_append]; exact H10
  · rintro δ μ5 ⟨i, m, a, c, ts, o8, r5, m5, ex, e1', a0, c0, al, ei, el, ht, rfl, z5, H5⟩
    cases m with
    | succ m => cases ex
    | zero =>
    walk_at "own_lat"
    simp only [wRet, wVar, List.getElem?_cons_zero, List.getElem?_cons_succ]
    have off := H5.off (c1, _) (by walk_at "own_mem")
    simp at off
    exact .here (k _ ts _ _ _ (z5.to H5) lc1 off.2 (H5.get (c := c1) (by walk_at "own_mem")) ht (by omega))
end
end G
namespace G
open PySem L2 PL
section
variable {π : Pr} {μ : Mem} {P : D → Mem → Prop} {XP : Exn → Mem → Prop} {d : D} {b r : Nat}
/-- how many ends of some ties are at a point -/
def cntE (j : Int) (ts : List (List Int)) : Nat := (ts.map fun t => ((endsT t).filter fun e => e.1 == j).length).sum
theorem cntE_app (j : Int) (a c : List (List Int)) : cntE j (a ++ c) = cntE j a + cntE j c := by unfold cntE; rw [List.map_append, List.sum_append]
/-- a row of ties round some points -/
structure RingOk (p : Int) (ts : List (List Int)) : Prop where
  ok : ∀ t ∈ ts, TieOk p t
  few : ts.length ≤ 8
  ev : ∀ j, cntE j ts % 2 = 0
def mkR (row : Nat → Int) (len : Nat) : Nat → List (Int × Int) → List (List Int)
  | _, [] => []
  | k, q :: l => [row k, q.1, row ((k + 1) % len), q.2] :: mkR row len (k + 1) l
theorem mkR_len (row : Nat → Int) (len : Nat) : ∀ (l : List (Int × Int)) (k : Nat), (mkR row len k l).length = l.length
  | [], _ => rfl
  | q :: l, k => by rw [mkR, List.length_cons, mkR_len row len l, List.length_cons]
theorem mkR_snoc (row : Nat → Int) (len : Nat) (q : Int × Int) : ∀ (l : List (Int × Int)) (k : Nat), mkR row len k (l ++ [q]) = mkR row len k l ++ [[row (k + l.length), q.1, row ((k + l.length + 1) % len), q.2]]
  | [], _ => rfl
  | x :: l, k => by
    rw [List.cons_append, mkR, mkR_snoc row len q l (k + 1), mkR, List.cons_append, List.length_cons, show k + 1 + l.length = k + (l.length + 1) by omega]
theorem mkR_mem (row : Nat → Int) (len : Nat) : ∀ (l : List (Int × Int)) (k : Nat) (t : List Int), t ∈ mkR row len k l → ∃ i q, i < l.length ∧ q ∈ l ∧ t = [row (k + i), q.1, row ((k + i + 1) % len), q.2]
  | [], _, _, h => by cases h
  | x :: l, k, t, h => by
    rw [mkR] at h
    rcases List.mem_cons.mp h with rfl | h
    · exact ⟨0, x, by simp, by simp, rfl⟩
    · obtain ⟨i, q, h1, h2, rfl⟩ := mkR_mem row len l (k + 1) t h
      exact ⟨i + 1, q, by simp; omega, by simp [h2], by rw [show k + (i + 1) = k + 1 + i by omega]⟩
def b2n (c : Bool) : Nat := if c then 1 else 0
theorem mkR_cnt (row : Nat → Int) (len : Nat) (j : Int) : ∀ (l : List (Int × Int)) (k : Nat), cntE j (mkR row len k l) = ((List.range l.length).map fun i => b2n (row (k + i) == j) + b2n (row ((k + i + 1) % len) == j)).sum
  | [], _ => rfl
  | x :: l, k => by
    have ih := mkR_cnt row len j l (k + 1)
    rw [List.length_cons, List.range_succ_eq_map, List.map_cons, List.map_map, List.sum_cons]
    have e : (fun i => b2n (row (k + i) == j) + b2n (row ((k + i + 1) % len) == j)) ∘ Nat.succ = fun i => b2n (row (k + 1 + i) == j) + b2n (row ((k + 1 + i + 1) % len) == j) := by
      funext i
      show b2n (row (k + (i + 1)) == j) + b2n (row ((k + (i + 1) + 1) % len) == j) = _
      rw [show k + (i + 1) = k + 1 + i by omega]
    rw [e, ← ih, mkR]
    show ((endsT [row k, x.1, row ((k + 1) % len), x.2]).filter fun e => e.1 == j).length + cntE j (mkR row len (k + 1) l) = _
    simp only [endsT, Nat.add_zero]
    by_cases h1 : (row k == j) = true <;> by_cases h2 : (row ((k + 1) % len) == j) = true <;> simp [List.filter, h1, h2, b2n]
theorem sum_add {α : Type} (f g : α → Nat) : ∀ l : List α, (l.map fun x => f x + g x).sum = (l.map f).sum + (l.map g).sum
  | [] => rfl
  | x :: l => by
    have := sum_add f g l
    simp only [List.map_cons, List.sum_cons]; omega
theorem rot_sum (g : Nat → Nat) : ∀ n : Nat, ((List.range n).map fun i => g ((i + 1) % n)).sum = ((List.range n).map g).sum
  | 0 => rfl
  | n + 1 => by
    have a : ((List.range (n + 1)).map fun i => g ((i + 1) % (n + 1))).sum = ((List.range n).map (g ∘ Nat.succ)).sum + g 0 := by
      rw [List.range_succ, List.map_append, List.sum_append]
      have e : (List.range n).map (fun i => g ((i + 1) % (n + 1))) = (List.range n).map (g ∘ Nat.succ) := List.map_congr_left fun i hi => by
        rw [List.mem_range] at hi
        show g ((i + 1) % (n + 1)) = g (i + 1)
        rw [Nat.mod_eq_of_lt (by omega)]
      rw [e]; simp
    have c : ((List.range (n + 1)).map g).sum = g 0 + ((List.range n).map (g ∘ Nat.succ)).sum := by
      rw [List.range_succ_eq_map, List.map_cons, List.map_map, List.sum_cons]
    rw [a, c]; omega
theorem ring_even (row : Nat → Int) (len : Nat) (j : Int) (l : List (Int × Int)) (h : l.length = len) : cntE j (mkR row len 0 l) % 2 = 0 := by
  rw [mkR_cnt, h]
  have e : (fun i => b2n (row (0 + i) == j) + b2n (row ((0 + i + 1) % len) == j)) = fun i => (fun i => b2n (row i == j)) i + (fun i => b2n (row ((i + 1) % len) == j)) i := by funext i; simp
  rw [e, sum_add, rot_sum (fun i => b2n (row i == j))]
  omega
theorem mod_ne {p s : Int} {i j : Nat} (hp : 0 < p) (hi : ((i : Nat) : Int) < p) (hj : ((j : Nat) : Int) < p) (ne : i ≠ j) : (s + (i : Nat)) % p ≠ (s + (j : Nat)) % p := fun e => by
  have h1 : (s + (i : Nat) - (s + (j : Nat))) % p = 0 := by rw [Int.sub_emod, e, Int.sub_self]; simp
  rw [show s + ((i : Nat) : Int) - (s + ((j : Nat) : Int)) = (i : Nat) - (j : Nat) by omega] at h1
  obtain ⟨q, hq⟩ := Int.dvd_of_emod_eq_zero h1
  rcases Int.lt_trichotomy q 0 with h | h | h
  · have : p * q ≤ p * (-1) := Int.mul_le_mul_of_nonneg_left (by omega) (by omega)
    omega
  · subst h; omega
  · have : p * 1 ≤ p * q := Int.mul_le_mul_of_nonneg_left (by omega) (by omega)
    omega
theorem ring_ok {p st : Int} {len : Nat} {l : List (Int × Int)} (hp : 2 ≤ p) (h2 : 2 ≤ len) (hl : ((len : Nat) : Int) ≤ p) (h8 : len ≤ 8) (hs : ∀ q ∈ l, okSign q.1 ∧ okSign q.2) (ll : l.length = len) : RingOk p (mkR (fun k => (st + (k : Nat)) % p) len 0 l) := by
  refine ⟨fun t ht => ?_, by rw [mkR_len]; omega, fun j => ring_even _ _ j l ll⟩
  obtain ⟨i, q, hi, hq, rfl⟩ := mkR_mem _ _ _ _ _ ht
  have m0 : ∀ x : Int, 0 ≤ x % p ∧ x % p < p := fun x => ⟨Int.emod_nonneg _ (by omega), Int.emod_lt_of_pos _ (by omega)⟩
  have b2 : (0 + i + 1) % len < len := Nat.mod_lt _ (by omega)
  refine .two (m0 _).1 (m0 _).2 (hs q hq).1 (m0 _).1 (m0 _).2 (hs q hq).2 ?_
  refine mod_ne (by omega) (by omega) (by omega) ?_
  by_cases c : 0 + i + 1 < len
  · rw [Nat.mod_eq_of_lt c]; omega
  · have : 0 + i + 1 = len := by omega
    rw [this, Nat.mod_self]; omega
end
end G
namespace G
open PySem L2 PL
local macro_rules | `(tactic| walk_at "own_ws") => `(tactic| try simp only [PL.fnW, PL.startD, List.map_cons, List.map_nil, List.length_cons, List.length_nil, List.replicate, List.replicate_succ, List.replicate_zero, List.append_nil, List.nil_append, List.cons_append, List.singleton_append, Nat.zero_add, Nat.add_zero, Nat.add_sub_cancel, Nat.reduceSub, Nat.reduceAdd, Nat.sub_zero, Nat.sub_self,
  PL.wSeq, PL.wIfS, PL.wRet, PL.wRetN, PL.wDrop, PL.wNext, PL.wBreak, PL.wCont, PL.wOp, PL.wUn, PL.wVar, PL.wC, PL.wCons, PL.wNil, PL.wTup, PL.wLst, PL.wTest, PL.wAnd, PL.wOr, PL.wNot, PL.wAndV, PL.wOrV, PL.wNotV, PL.wIf, PL.wChain, PL.wAsg, PL.wName, PL.wGtup, PL.wGunl, PL.wGcons, PL.wGnil, PL.wPar, PL.wPar3, PL.wAug, PL.wCB, PL.wCall, PL.wMake, PL.wMakeK, PL.wYes, PL.wTru, PL.wFor, PL.wSeqI, PL.wEnumI, PL.wZipI, PL.wRng1, PL.wRng2, PL.wBM, PL.wBM0, PL.wLstRg1, PL.wRaise, PL.wFldS, ↓PL.wFld_var, PL.wSet0, PL.wSAdd, PL.wNoPart, PL.wPart, PL.wSl, PL.wLc, PL.wipeD,
  PL.oSub, PL.oMod, PL.oFdiv, PL.oPow, PL.oLt, PL.oLe, PL.oGt, PL.oGe, PL.wI0, PL.wI2, PL.wB0, PL.wIp, PL.wNeg, PL.wR1, PL.one1, PL.two2, PL.ints1, PL.ints2,
  List.getElem?_cons_zero, List.getElem?_cons_succ, List.set_cons_zero, List.set_cons_succ, and_true, true_and, if_true, if_false, ite_true, ite_false, reduceIte, Bool.true_eq_false, Bool.false_eq_true, eq_self])
local macro_rules | `(tactic| walk_at "own_wt") => `(tactic| try simp only [PL.fnW, PL.startD, List.map_cons, List.map_nil, List.length_cons, List.length_nil, List.replicate, List.replicate_succ, List.replicate_zero, List.append_nil, List.nil_append, List.cons_append, List.singleton_append, Nat.zero_add, Nat.add_zero, Nat.add_sub_cancel, Nat.reduceSub, Nat.reduceAdd, Nat.sub_zero, Nat.sub_self,
  PL.wSeq_l, PL.wIfS, PL.wRet, PL.wRetN, PL.wDrop, PL.wNext, PL.wBreak, PL.wCont, PL.wOp, PL.wUn, PL.wVar, PL.wC, PL.wCons, PL.wNil, PL.wTup, PL.wLst_a, PL.wTest, PL.wAnd, PL.wOr, PL.wNot, PL.wAndV, PL.wOrV, PL.wNotV, PL.wIf, PL.wChain, PL.wAsg, PL.wName, PL.wGtup, PL.wGunl, PL.wGcons, PL.wGnil, PL.wPar, PL.wPar3, PL.wAug, PL.wCB, PL.wCall, PL.wMake, PL.wMakeK, PL.wYes, PL.wTru, PL.wFor, PL.wSeqI, PL.wEnumI, PL.wZipI, PL.wRng1, PL.wRng2, PL.wBM, PL.wBM0, PL.wLstRg1_a, PL.wRaise, PL.wFldS, ↓PL.wFld_var, PL.wSet0, PL.wSAdd, PL.wNoPart, PL.wPart, PL.wSl_eq, PL.wLc_a, PL.wipeD,
  PL.oSub, PL.oMod, PL.oFdiv, PL.oPow, PL.oLt, PL.oLe, PL.oGt, PL.oGe, PL.wI0, PL.wI2, PL.wB0, PL.wIp, PL.wNeg, PL.wR1, PL.one1, PL.two2, PL.ints1, PL.ints2,
  List.getElem?_cons_zero, List.getElem?_cons_succ, List.set_cons_zero, List.set_cons_succ, and_true, true_and, if_true, if_false, ite_true, ite_false, reduceIte, Bool.true_eq_false, Bool.false_eq_true, eq_self])
local macro_rules | `(tactic| walk_at "own_nx") => `(tactic| ((first | refine PL.later_i ?_ | (dsimp only; refine PL.later_i ?_)); walk_at "own_wt"))
local macro_rules | `(tactic| walk_at "own_wg") => `(tactic| simp only [PL.wGtup, PL.wGcons, PL.wGnil, PL.wName, List.length_cons, List.length_nil, List.set_cons_zero, List.set_cons_succ, Nat.zero_add, Nat.reduceAdd, true_and])
local macro_rules | `(tactic| walk_at "own_mem") => `(tactic| repeat (first | exact List.Mem.head _ | refine List.Mem.tail _ ?_))
local macro_rules | `(tactic| walk_at "own_mm") => `(tactic| exact PL.Own.get (by assumption) (by walk_at "own_mem"))
local macro_rules | `(tactic| walk_at "own_sq") => `(tactic| first | rfl | exact PL.seq_lst (PL.Own.get (by assumption) (by walk_at "own_mem")))
local macro_rules | `(tactic| walk_at "own_sub") => `(tactic| repeat (first | exact List.Sublist.refl _ | refine List.Sublist.cons_cons _ ?_ | refine List.Sublist.cons _ ?_))
local macro_rules | `(tactic| walk_at "own_putr") => `(tactic| repeat (first | exact PL.PutR.here | apply PL.PutR.there))
local macro_rules | `(tactic| walk_at "own_lat") => `(tactic| (first | refine PL.later_i ?_ | (dsimp only; refine PL.later_i ?_)))
local macro_rules | `(tactic| walk_at "own_wu") => `(tactic| try simp only [PL.fnW, PL.startD, List.map_cons, List.map_nil, List.length_cons, List.length_nil, List.replicate, List.replicate_succ, List.replicate_zero, List.append_nil, List.nil_append, List.cons_append, List.singleton_append, Nat.zero_add, Nat.add_zero, Nat.add_sub_cancel, Nat.reduceSub, Nat.reduceAdd, Nat.sub_zero, Nat.sub_self,
  PL.wSeq_l, PL.wIfS, PL.wRet, PL.wRetN, PL.wDrop, PL.wNext, PL.wBreak, PL.wCont, PL.wOp, PL.wUn, PL.wVar, PL.wC, PL.wCons, PL.wNil, PL.wTup, PL.wLst_a, PL.wTest, PL.wAnd, PL.wOr, PL.wNot, PL.wAndV, PL.wOrV, PL.wNotV, PL.wIf, PL.wAsg, PL.wName, PL.wPar, PL.wPar3, PL.wCB, PL.wCall, PL.wMake, PL.wYes, PL.wTru, PL.wFor, PL.wSeqI, PL.wRng1, PL.wRng2, PL.wBM, PL.wBM0, PL.wRaise, ↓PL.wFld_var, PL.wNoPart, PL.wPart, PL.wLc_a, PL.wipeD,
  List.getElem?_cons_zero, List.getElem?_cons_succ, List.set_cons_zero, List.set_cons_succ, and_true, true_and, if_true, if_false, ite_true, ite_false, reduceIte, Bool.true_eq_false, Bool.false_eq_true, eq_self])
local macro_rules | `(tactic| walk_at "own_nu") => `(tactic| ((first | refine PL.later_i ?_ | (dsimp only; refine PL.later_i ?_)); walk_at "own_wu"))
local macro_rules | `(tactic| walk_at "own_cn") => `(tactic| repeat (first | exact PL.Cn.c | exact PL.Cn.neg | exact PL.CnA.nil | exact PL.Cn.var rfl | apply PL.CnA.cons | apply PL.Cn.tup))
section
variable {π : Pr} {μ : Mem} {P : D → Mem → Prop} {XP : Exn → Mem → Prop} {d : D} {b r : Nat}
def cellR (q : Nat × List (List Int)) : D := .cell q.1
def ringM (q : Nat × List (List Int)) : Nat × M := (q.1, .lst (q.2.map tieD))
theorem rangeD_map : ∀ (n : Nat) (lo : Int), rangeD lo n = (List.range n).map fun (k : Nat) => D.int (lo + (k : Nat))
  | 0, _ => rfl
  | n + 1, lo => by
    rw [rangeD_cons, rangeD_map n (lo + 1), List.range_succ_eq_map, List.map_cons, List.map_map]
    congr 1
    · simp
    · refine List.map_congr_left fun k _ => ?_
      show D.int (lo + 1 + (k : Nat)) = D.int (lo + ((k + 1 : Nat) : Int))
      congr 1; omega
theorem ite_loop {c : Bool} {A B : Prop} {chk : Mem → Prop} {g : WG} {w : WS} {δ : En} {μ : Mem} {Q : PO} {xs ys : List D} (ha : c = true → A) (hb : c = false → B) (h : ∀ zs, (c = true ∧ zs = xs ∨ c = false ∧ zs = ys) → loopL chk g w zs δ μ Q) : if c = true then A ∧ loopL chk g w xs δ μ Q else B ∧ loopL chk g w ys δ μ Q := by
  cases c with
  | true => rw [if_pos rfl]; exact ⟨ha rfl, h _ (.inl ⟨rfl, rfl⟩)⟩
  | false => rw [if_neg Bool.false_ne_true]; exact ⟨hb rfl, h _ (.inr ⟨rfl, rfl⟩)⟩
theorem rings_ok {p many : Int} {ns : List Int} (s : Srx b r ns μ) (h1 : 1 ≤ p) (hp : p ≤ 1000) (h2 : 0 ≤ many) (h2' : many ≤ 1000)
    (k : ∀ (c : Nat) (rs : List (Nat × List (List Int))) μ' r' ns', Turn b r ns μ μ' r' ns' → OwnT b r' ns' μ μ' ((c, .lst (rs.map cellR)) :: rs.reverse.map ringM) → μ.length ≤ c → (∀ q ∈ rs, RingOk p q.2 ∧ μ.length ≤ q.1) → ((rs.length : Nat) : Int) ≤ many → P (.cell c) μ') : S_law_rings π [.cell b, .int p, .int many] μ P XP := by
  rw [S_law_rings_eq]
  refine ⟨rfl, ?_⟩
  unfold W_law_rings
  have H : OwnT b r ns μ μ [] := OwnT.start s (by simp) (by simp)
  have z0 := Zw.start s
  walk_at "own_wt"
  refine aLst_o H ?_
  intro c1 μ1 hc1 H1
  refine later_i ?_
  refine wSeq_i ?_
  simp only [wFor, wRng1, wIf, wTest, wOp, wCons, wNil, wVar, wC, wB0, List.getElem?_cons_zero, List.getElem?_cons_succ]
  simp only [ints1]
  refine ite_loop (fun _ => ⟨by omega, by omega⟩) (fun _ => ⟨by omega, by omega⟩) fun zs hz => ?_
  obtain ⟨mn, hmn, m0, m1, m2⟩ : ∃ mn : Int, zs = rangeD 0 mn.toNat ∧ 0 ≤ mn ∧ mn ≤ many ∧ (0 < mn → 2 ≤ p) := by
    rcases hz with ⟨c, rfl⟩ | ⟨c, rfl⟩
    · have := of_decide_eq_true c
      exact ⟨many, rfl, h2, Int.le_refl _, fun _ => by omega⟩
    · exact ⟨0, rfl, Int.le_refl _, h2, fun h => by omega⟩
  subst hmn
  refine loop_inv (fun xs δ μ5 => ∃ (rs : List (Nat × List (List Int))) (m : Nat) (o4 o5 o6 o7 o8 o9 : Option D) (r5 : Nat) (m5 : List Int), xs = rangeD (rs.length : Nat) m ∧ ((rs.length + m : Nat) : Int) = mn ∧ (∀ q ∈ rs, RingOk p q.2 ∧ μ.length ≤ q.1) ∧ δ = [some (.cell b), some (.int p), some (.int many), some (.cell c1), o4, o5, o6, o7, o8, o9] ∧ Zw b r ns μ r5 m5 ∧ OwnT b r5 m5 μ μ5 ((c1, .lst (rs.map cellR)) :: rs.reverse.map ringM))
    (fun _ _ _ _ => trivial) ?_ _ _ _ ⟨[], mn.toNat, none, none, none, none, none, none, r, ns, rfl, by simp; omega, by simp, rfl, z0, H1⟩ ?_
  · rintro x xs δ μ5 ⟨rs, m, o4, o5, o6, o7, o8, o9, r5, m5, ex, em, hrs, rfl, z5, H5⟩ P' _ _ nx
    cases m with
    | zero => cases ex
    | succ m =>
    obtain ⟨rfl, rfl⟩ : x = .int (rs.length : Nat) ∧ xs = rangeD ((rs.length : Nat) + 1) m := by simpa [rangeD] using ex
    have p2 := m2 (by omega)
    simp only [wName, List.set_cons_zero, List.set_cons_succ]
    refine wSeq_i ?_
    simp only [wAsg, wTup, wOp, wCall, wCB, wCons, wNil, wVar, wC, List.append_nil, List.getElem?_cons_zero, List.getElem?_cons_succ]
    refine take_ok H5.inv (by omega) (by omega) ?_
    intro st μ6 r6 m6 s0 s1 t6
    obtain ⟨z6, H6⟩ := z5.turn H5 t6
    refine wMin2_i ?_
    refine wI0_i ?_
    refine take_ok H6.inv (by omega) (by omega) ?_
    intro u μ7 r7 m7 u0 u1 t7
    obtain ⟨z7, H7⟩ := z6.turn H6 t7
    refine wAdd_i ?_
    obtain ⟨len, hlen⟩ : ∃ len : Nat, 2 + u = (len : Nat) := ⟨(2 + u).toNat, by omega⟩
    rw [hlen]
    walk_at "own_wg"
    walk_at "own_lat"
    refine wSeq_i ?_
    simp only [wPar, wCons, wNil, wLc_a, wRng1, wLst_a, wVar, ints1, List.getElem?_cons_zero, List.getElem?_cons_succ]
    refine ⟨⟨by omega, by omega⟩, by rw [rangeD_length, sizeLine_eq]; omega, ?_⟩
    refine lc_map (fun x => match x with | .int i => .int ((st + i) % p) | _ => .non) trivial ?_ [] _ ?_
    · intro y hy P3 hP
      rw [rangeD_map] at hy
      obtain ⟨i, _, rfl⟩ := List.mem_map.mp hy
      simp only [wName, wOp, wCB, wCons, wNil, wVar, wipeD, List.getElem?_cons_zero, List.getElem?_cons_succ, List.set_cons_zero, List.set_cons_succ]
      refine wAdd_i ?_
      refine wIntC_i ?_
      refine ⟨by omega, ?_⟩
      exact hP
    rw [List.nil_append, rangeD_map, List.map_map, Int.toNat_natCast]
    have eRow : (List.range len).map ((fun x => match x with | D.int i => D.int ((st + i) % p) | _ => D.non) ∘ fun (k : Nat) => D.int (0 + (k : Nat))) = (List.range len).map fun (k : Nat) => D.int ((st + (k : Nat)) % p) := by
      refine List.map_congr_left fun k _ => ?_
      simp only [Function.comp, Int.zero_add]
    rw [eRow]
    refine aLst_o H7 ?_
    intro c8 μ8 hc8 H8
    refine aLst_o H8 ?_
    intro c9 μ9 hc9 H9
    have lc9 : μ.length ≤ c9 := Nat.le_trans H8.fr.len hc9
    simp only [List.set_cons_zero, List.set_cons_succ]
    walk_at "own_lat"
    refine wSeq_i ?_
    simp only [wFor, wRng1, wCons, wNil, wVar, ints1, List.getElem?_cons_zero, List.getElem?_cons_succ]
    refine ⟨⟨by omega, by omega⟩, ?_⟩
    have rowAt : ∀ i : Nat, i < len → atI ((List.range len).map fun (k : Nat) => D.int ((st + (k : Nat)) % p)) ((i : Nat) : Int) = some (.int ((st + (i : Nat)) % p)) := fun i hi => atI_at (by rw [List.getElem?_map, List.getElem?_range hi]; rfl)
    refine loop_inv (fun ys δ μ10 => ∃ (l : List (Int × Int)) (m' : Nat) (o9 : Option D) (r10 : Nat) (m10 : List Int), ys = rangeD (l.length : Nat) m' ∧ l.length + m' = len ∧ (∀ q ∈ l, okSign q.1 ∧ okSign q.2) ∧ δ = [some (.cell b), some (.int p), some (.int many), some (.cell c1), some (.int (rs.length : Nat)), some (.int st), some (.int (len : Nat)), some (.cell c8), some (.cell c9), o9] ∧ Zw b r ns μ r10 m10 ∧ OwnT b r10 m10 μ μ10 ((c9, .lst ((mkR (fun k => (st + (k : Nat)) % p) len 0 l).map tieD)) :: (c8, .lst ((List.range len).map fun (k : Nat) => D.int ((st + (k : Nat)) % p))) :: (c1, .lst (rs.map cellR)) :: rs.reverse.map ringM))
      (fun _ _ _ _ => trivial) ?_ _ _ _ ⟨[], len, o9, r7, m7, by rw [Int.toNat_natCast]; rfl, by simp, by simp, rfl, z7, H9⟩ ?_
    · rintro y ys δ μ10 ⟨l, m', o9', r10, m10, ey, el, hl, rfl, z10, H10⟩ P'' _ _ nx2
      cases m' with
      | zero => cases ey
      | succ m' =>
      obtain ⟨rfl, rfl⟩ : y = .int (l.length : Nat) ∧ ys = rangeD ((l.length : Nat) + 1) m' := by simpa [rangeD] using ey
      simp only [wName, wDrop, wBM, wTup, wOp, wCall, wCB, wCons, wNil, wVar, wC, List.append_nil, List.getElem?_cons_zero, List.getElem?_cons_succ, List.set_cons_zero, List.set_cons_succ]
      refine ⟨by rw [lst_lst (H10.get (c := c9) (by walk_at "own_mem"))]; rfl, ?_⟩
      refine wIx_i (seq_lst (H10.get (c := c8) (by walk_at "own_mem"))) (rowAt l.length (by omega)) ?_
      refine sign_ok H10.inv ?_
      intro sa μ11 r11 m11 hsa t11
      obtain ⟨z11, H11⟩ := z10.turn H10 t11
      refine wAdd_i ?_
      refine wIntC_i ?_
      refine ⟨by omega, ?_⟩
      have em' : (((l.length : Nat) : Int) + 1) % ((len : Nat) : Int) = (((l.length + 1) % len : Nat) : Int) := by
        rw [Int.natCast_emod]; rfl
      dsimp only
      rw [em']
      refine wIx_i (seq_lst (H11.get (c := c8) (by walk_at "own_mem"))) (rowAt ((l.length + 1) % len) (Nat.mod_lt _ (by omega))) ?_
      refine sign_ok H11.inv ?_
      intro sb μ12 r12 m12 hsb t12
      obtain ⟨z12, H12⟩ := z11.turn H11 t12
      refine wAppend_o H12 (n := c9) (xs := (mkR (fun k => (st + (k : Nat)) % p) len 0 l).map tieD) (d := tieD [(st + (l.length : Nat)) % p, sa, (st + (((l.length + 1) % len : Nat) : Int)) % p, sb]) (by walk_at "own_putr") lc9 (by rw [List.length_map, mkR_len, sizeLine_eq]; omega) ?_
      intro μ13 H13
      refine nx2 _ _ ⟨l ++ [(sa, sb)], m', some (.int (l.length : Nat)), r12, m12, by simp, by simp; omega, ?_, rfl, z12, ?_⟩
      · intro q hq
        rcases List.mem_append.mp hq with h | h
        · exact hl q h
        · simp at h; subst h; exact ⟨hsa, hsb⟩
      · rw [mkR_snoc, List.map_append, Nat.zero_add]; exact H13
    · rintro δ μ10 ⟨l, m', o9', r10, m10, ey, el, hl, rfl, z10, H10⟩
      cases m' with
      | succ _ => cases ey
      | zero =>
      walk_at "own_lat"
      simp only [wDrop, wBM, wCons, wNil, wVar, List.getElem?_cons_zero, List.getElem?_cons_succ]
      refine ⟨by rw [lst_lst (H10.get (c := c1) (by walk_at "own_mem"))]; rfl, ?_⟩
      refine wAppend_o H10 (n := c1) (xs := rs.map cellR) (d := .cell c9) (by walk_at "own_putr") hc1 (by rw [List.length_map, sizeLine_eq]; omega) ?_
      intro μ14 H14
      refine nx _ _ ⟨rs ++ [(c9, mkR (fun k => (st + (k : Nat)) % p) len 0 l)], m, _, _, _, _, _, _, r10, m10, by simp, by simp; omega, ?_, rfl, z10, ?_⟩
      · intro q hq
        rcases List.mem_append.mp hq with h | h
        · exact hrs q h
        · simp at h; subst h
          exact ⟨ring_ok p2 (by omega) (by omega) (by omega) hl (by omega), lc9⟩
      · rw [List.map_append, List.reverse_append, List.map_append]
        have H15 : OwnT b r10 m10 μ μ14 ((c9, .lst ((mkR (fun k => (st + (k : Nat)) % p) len 0 l).map tieD)) :: (c1, .lst (rs.map cellR ++ [.cell c9])) :: rs.reverse.map ringM) := H14.less (by walk_at "own_sub")
        exact H15.swap
  · rintro δ μ5 ⟨rs, m, o4, o5, o6, o7, o8, o9, r5, m5, ex, em, hrs, rfl, z5, H5⟩
    walk_at "own_lat"
    simp only [wRet, wVar, List.getElem?_cons_zero, List.getElem?_cons_succ]
    exact .here (k _ rs _ _ _ (z5.to H5) H5 hc1 hrs (by omega))
end
end G
namespace G
open PySem L2 PL
local macro_rules | `(tactic| walk_at "own_ws") => `(tactic| try simp only [PL.fnW, PL.startD, List.map_cons, List.map_nil, List.length_cons, List.length_nil, List.replicate, List.replicate_succ, List.replicate_zero, List.append_nil, List.nil_append, List.cons_append, List.singleton_append, Nat.zero_add, Nat.add_zero, Nat.add_sub_cancel, Nat.reduceSub, Nat.reduceAdd, Nat.sub_zero, Nat.sub_self,
  PL.wSeq, PL.wIfS, PL.wRet, PL.wRetN, PL.wDrop, PL.wNext, PL.wBreak, PL.wCont, PL.wOp, PL.wUn, PL.wVar, PL.wC, PL.wCons, PL.wNil, PL.wTup, PL.wLst, PL.wTest, PL.wAnd, PL.wOr, PL.wNot, PL.wAndV, PL.wOrV, PL.wNotV, PL.wIf, PL.wChain, PL.wAsg, PL.wName, PL.wGtup, PL.wGunl, PL.wGcons, PL.wGnil, PL.wPar, PL.wPar3, PL.wAug, PL.wCB, PL.wCall, PL.wMake, PL.wMakeK, PL.wYes, PL.wTru, PL.wFor, PL.wSeqI, PL.wEnumI, PL.wZipI, PL.wRng1, PL.wRng2, PL.wBM, PL.wBM0, PL.wLstRg1, PL.wRaise, PL.wFldS, ↓PL.wFld_var, PL.wSet0, PL.wSAdd, PL.wNoPart, PL.wPart, PL.wSl, PL.wLc, PL.wipeD,
  PL.oSub, PL.oMod, PL.oFdiv, PL.oPow, PL.oLt, PL.oLe, PL.oGt, PL.oGe, PL.wI0, PL.wI2, PL.wB0, PL.wIp, PL.wNeg, PL.wR1, PL.one1, PL.two2, PL.ints1, PL.ints2,
  List.getElem?_cons_zero, List.getElem?_cons_succ, List.set_cons_zero, List.set_cons_succ, and_true, true_and, if_true, if_false, ite_true, ite_false, reduceIte, Bool.true_eq_false, Bool.false_eq_true, eq_self])
local macro_rules | `(tactic| walk_at "own_wt") => `(tactic| try simp only [PL.fnW, PL.startD, List.map_cons, List.map_nil, List.length_cons, List.length_nil, List.replicate, List.replicate_succ, List.replicate_zero, List.append_nil, List.nil_append, List.cons_append, List.singleton_append, Nat.zero_add, Nat.add_zero, Nat.add_sub_cancel, Nat.reduceSub, Nat.reduceAdd, Nat.sub_zero, Nat.sub_self,
  PL.wSeq_l, PL.wIfS, PL.wRet, PL.wRetN, PL.wDrop, PL.wNext, PL.wBreak, PL.wCont, PL.wOp, PL.wUn, PL.wVar, PL.wC, PL.wCons, PL.wNil, PL.wTup, PL.wLst_a, PL.wTest, PL.wAnd, PL.wOr, PL.wNot, PL.wAndV, PL.wOrV, PL.wNotV, PL.wIf, PL.wChain, PL.wAsg, PL.wName, PL.wGtup, PL.wGunl, PL.wGcons, PL.wGnil, PL.wPar, PL.wPar3, PL.wAug, PL.wCB, PL.wCall, PL.wMake, PL.wMakeK, PL.wYes, PL.wTru, PL.wFor, PL.wSeqI, PL.wEnumI, PL.wZipI, PL.wRng1, PL.wRng2, PL.wBM, PL.wBM0, PL.wLstRg1_a, PL.wRaise, PL.wFldS, ↓PL.wFld_var, PL.wSet0, PL.wSAdd, PL.wNoPart, PL.wPart, PL.wSl_eq, PL.wLc_a, PL.wipeD,
  PL.oSub, PL.oMod, PL.oFdiv, PL.oPow, PL.oLt, PL.oLe, PL.oGt, PL.oGe, PL.wI0, PL.wI2, PL.wB0, PL.wIp, PL.wNeg, PL.wR1, PL.one1, PL.two2, PL.ints1, PL.ints2,
  List.getElem?_cons_zero, List.getElem?_cons_succ, List.set_cons_zero, List.set_cons_succ, and_true, true_and, if_true, if_false, ite_true, ite_false, reduceIte, Bool.true_eq_false, Bool.false_eq_true, eq_self])
local macro_rules | `(tactic| walk_at "own_nx") => `(tactic| ((first | refine PL.later_i ?_ | (dsimp only; refine PL.later_i ?_)); walk_at "own_wt"))
local macro_rules | `(tactic| walk_at "own_wg") => `(tactic| simp only [PL.wGtup, PL.wGcons, PL.wGnil, PL.wName, List.length_cons, List.length_nil, List.set_cons_zero, List.set_cons_succ, Nat.zero_add, Nat.reduceAdd, true_and])
local macro_rules | `(tactic| walk_at "own_mem") => `(tactic| repeat (first | exact List.Mem.head _ | refine List.Mem.tail _ ?_))
local macro_rules | `(tactic| walk_at "own_mm") => `(tactic| exact PL.Own.get (by assumption) (by walk_at "own_mem"))
local macro_rules | `(tactic| walk_at "own_sq") => `(tactic| first | rfl | exact PL.seq_lst (PL.Own.get (by assumption) (by walk_at "own_mem")))
local macro_rules | `(tactic| walk_at "own_sub") => `(tactic| repeat (first | exact List.Sublist.refl _ | refine List.Sublist.cons_cons _ ?_ | refine List.Sublist.cons _ ?_))
local macro_rules | `(tactic| walk_at "own_putr") => `(tactic| repeat (first | exact PL.PutR.here | apply PL.PutR.there))
local macro_rules | `(tactic| walk_at "own_lat") => `(tactic| (first | refine PL.later_i ?_ | (dsimp only; refine PL.later_i ?_)))
local macro_rules | `(tactic| walk_at "own_wu") => `(tactic| try simp only [PL.fnW, PL.startD, List.map_cons, List.map_nil, List.length_cons, List.length_nil, List.replicate, List.replicate_succ, List.replicate_zero, List.append_nil, List.nil_append, List.cons_append, List.singleton_append, Nat.zero_add, Nat.add_zero, Nat.add_sub_cancel, Nat.reduceSub, Nat.reduceAdd, Nat.sub_zero, Nat.sub_self,
  PL.wSeq_l, PL.wIfS, PL.wRet, PL.wRetN, PL.wDrop, PL.wNext, PL.wBreak, PL.wCont, PL.wOp, PL.wUn, PL.wVar, PL.wC, PL.wCons, PL.wNil, PL.wTup, PL.wLst_a, PL.wTest, PL.wAnd, PL.wOr, PL.wNot, PL.wAndV, PL.wOrV, PL.wNotV, PL.wIf, PL.wAsg, PL.wName, PL.wPar, PL.wPar3, PL.wCB, PL.wCall, PL.wMake, PL.wYes, PL.wTru, PL.wFor, PL.wSeqI, PL.wRng1, PL.wRng2, PL.wBM, PL.wBM0, PL.wRaise, ↓PL.wFld_var, PL.wNoPart, PL.wPart, PL.wLc_a, PL.wipeD,
  List.getElem?_cons_zero, List.getElem?_cons_succ, List.set_cons_zero, List.set_cons_succ, and_true, true_and, if_true, if_false, ite_true, ite_false, reduceIte, Bool.true_eq_false, Bool.false_eq_true, eq_self])
local macro_rules | `(tactic| walk_at "own_nu") => `(tactic| ((first | refine PL.later_i ?_ | (dsimp only; refine PL.later_i ?_)); walk_at "own_wu"))
local macro_rules | `(tactic| walk_at "own_cn") => `(tactic| repeat (first | exact PL.Cn.c | exact PL.Cn.neg | exact PL.CnA.nil | exact PL.Cn.var rfl | apply PL.CnA.cons | apply PL.Cn.tup))
section
variable {π : Pr} {μ : Mem} {P : D → Mem → Prop} {XP : Exn → Mem → Prop} {d : D} {b r : Nat}
/-- bounds about numbers -/
def about (q : Int × Int) (z : Int) : Prop := 2 * q.1 ≤ z ∧ z ≤ 2 * q.2
inductive Abs : List (Int × Int) → List Int → Prop
  | nil : Abs [] []
  | cons {q : Int × Int} {z : Int} {bs : List (Int × Int)} {zs : List Int} : about q z → Abs bs zs → Abs (q :: bs) (z :: zs)
theorem Abs.snoc {bs : List (Int × Int)} {zs : List Int} {q : Int × Int} {z : Int} (h : Abs bs zs) (a : about q z) : Abs (bs ++ [q]) (zs ++ [z]) := by
  induction h with
  | nil => exact .cons a .nil
  | cons x _ ih => exact .cons x ih
theorem Abs.len {bs : List (Int × Int)} {zs : List Int} (h : Abs bs zs) : bs.length = zs.length := by
  induction h with
  | nil => rfl
  | cons _ _ ih => simp [ih]
theorem full_ok {ct ch : Nat} {z : Int} {ns : List Int} {xs : List D} {hv : List Int} (H : OwnT b r ns μ μ [(ct, .lst xs), (ch, .lst (litD hv))]) (h0 : 0 ≤ z) (hz : z < 2 ^ 100) (hl : hv.length = xs.length) (few : xs.length ≤ 2000) (h01 : ∀ x ∈ hv, 0 ≤ x ∧ x ≤ 1)
    (k : ∀ (cb cn : Nat) (bs : List (Int × Int)) (zs : List Int) μ' r' ns', Turn b r ns μ μ' r' ns' → OwnT b r' ns' μ μ' [(cn, .lst (litD zs)), (cb, .lst (bs.map pairD)), (ct, .lst xs), (ch, .lst (litD hv))] → μ.length ≤ cb → μ.length ≤ cn → Abs bs zs → zs.length = xs.length → (∀ q ∈ bs, q.1 ≤ q.2 ∧ -(2 * z) ≤ q.1 ∧ q.2 ≤ 2 * z + 1) → (∀ x ∈ zs, -(2 * z) ≤ x ∧ x ≤ 2 * z + 1) → (∀ (i : Nat) (h : Int), hv[i]? = some h → ∃ u, zs[i]? = some (2 * u + h)) → P (.tup [.cell cb, .cell cn]) μ') :
    S_law_full π [.cell b, .cell ct, .int z, .cell ch] μ P XP := by
  rw [S_law_full_eq]
  refine ⟨rfl, ?_⟩
  unfold W_law_full
  have z0 := Zw.start H.inv
  walk_at "own_wt"
  refine aLst_o H ?_
  intro cb μ1 hcb H1
  refine aLst_o H1 ?_
  intro cn μ2 hcn H2
  have lcn : μ.length ≤ cn := Nat.le_trans H1.fr.len hcn
  walk_at "own_nx"
  refine wLen_i (seq_lst (H2.get (c := ct) (by walk_at "own_mem"))) ?_
  refine ⟨⟨by omega, by omega⟩, ?_⟩
  rw [Int.toNat_natCast]
  refine loop_inv (fun ys δ μ3 => ∃ (m : Nat) (bs : List (Int × Int)) (zs : List Int) (o6 o7 : Option D) (r3 : Nat) (m3 : List Int), ys = rangeD (zs.length : Nat) m ∧ zs.length + m = xs.length ∧ δ = [some (.cell b), some (.cell ct), some (.int z), some (.cell ch), some (.cell cb), some (.cell cn), o6, o7] ∧ Abs bs zs ∧ (∀ q ∈ bs, q.1 ≤ q.2 ∧ -(2 * z) ≤ q.1 ∧ q.2 ≤ 2 * z + 1) ∧ (∀ x ∈ zs, -(2 * z) ≤ x ∧ x ≤ 2 * z + 1) ∧ (∀ (i : Nat) (h : Int), i < zs.length → hv[i]? = some h → ∃ u, zs[i]? = some (2 * u + h)) ∧ Zw b r ns μ r3 m3 ∧ OwnT b r3 m3 μ μ3 [(cn, .lst (litD zs)), (cb, .lst (bs.map pairD)), (ct, .lst xs), (ch, .lst (litD hv))])
    (fun _ _ _ _ => trivial) ?_ _ _ _ ⟨xs.length, [], [], none, none, r, ns, rfl, by simp, rfl, .nil, by simp, by simp, (fun i h hi => by cases hi), z0, H2⟩ ?_
  · rintro y ys δ μ3 ⟨m, bs, zs, o6, o7, r3, m3, ey, em, rfl, ab, hb, hzs, hu, z3, H3⟩ P' _ _ nx2
    cases m with
    | zero => cases ey
    | succ m =>
    obtain ⟨rfl, rfl⟩ : y = .int (zs.length : Nat) ∧ ys = rangeD ((zs.length : Nat) + 1) m := by simpa [rangeD] using ey
    have hi : zs.length < hv.length := by omega
    obtain ⟨hh, eh⟩ : ∃ hh, hv[zs.length]? = some hh := ⟨_, List.getElem?_eq_getElem hi⟩
    have h01' := h01 hh (List.mem_of_getElem? eh)
    simp only [wName, List.set_cons_zero, List.set_cons_succ]
    refine wSeq_i ?_
    simp only [wAsg, wOp, wCall, wCons, wNil, wVar, wC, wName, List.append_nil, List.getElem?_cons_zero, List.getElem?_cons_succ, List.set_cons_zero, List.set_cons_succ]
    refine far_ok H3.inv h0 (by omega) ?_
    intro v μ4 r4 m4 v0 v1 t4
    obtain ⟨z4, H4⟩ := z3.turn H3 t4
    refine wMul_i (mul_ok (by omega) (by omega)) ?_
    refine wIx_i (seq_lst (H4.get (c := ch) (by walk_at "own_mem"))) (atI_at (v := .int hh) (by unfold litD; rw [List.getElem?_map, eh]; rfl)) ?_
    refine wAdd_i ?_
    walk_at "own_lat"
    refine wSeq_i ?_
    simp only [wDrop, wBM, wTup, wOp, wCall, wCB, wCons, wNil, wVar, wC, List.append_nil, List.getElem?_cons_zero, List.getElem?_cons_succ]
    refine ⟨by rw [lst_lst (H4.get (c := cb) (by walk_at "own_mem"))]; rfl, ?_⟩
    refine ⟨div_ok (by decide) (by decide), ?_⟩
    refine amount_ok H4.inv h0 (by omega) ?_
    intro a μ5 r5 m5 a0 a1 t5
    obtain ⟨z5, H5⟩ := z4.turn H4 t5
    refine wI0_i ?_
    refine ⟨div_ok (by decide) (by decide), ?_⟩
    refine wIntC_i ?_
    refine ⟨by omega, ?_⟩
    refine wAdd_i ?_
    refine amount_ok H5.inv h0 (by omega) ?_
    intro c μ6 r6 m6 c0 c1 t6
    obtain ⟨z6, H6⟩ := z5.turn H5 t6
    refine wAdd_i ?_
    have lz := ab.len
    refine wAppend_o H6 (n := cb) (xs := bs.map pairD) (d := pairD ((2 * v + hh) / 2 - a, (2 * v + hh) / 2 + (2 * v + hh) % 2 + c)) (by walk_at "own_putr") hcb (by rw [List.length_map, sizeLine_eq]; omega) ?_
    intro μ7 H7
    walk_at "own_lat"
    simp only [wDrop, wBM, wCons, wNil, wVar, List.getElem?_cons_zero, List.getElem?_cons_succ]
    refine ⟨by rw [lst_lst (H7.get (c := cn) (by walk_at "own_mem"))]; rfl, ?_⟩
    refine wAppend_o H7 (n := cn) (xs := litD zs) (d := .int (2 * v + hh)) (by walk_at "own_putr") lcn (by rw [len_litD, sizeLine_eq]; omega) ?_
    intro μ8 H8
    refine nx2 _ _ ⟨m, bs ++ [((2 * v + hh) / 2 - a, (2 * v + hh) / 2 + (2 * v + hh) % 2 + c)], zs ++ [2 * v + hh], _, _, r6, m6, by simp, by simp; omega, rfl, ab.snoc ⟨by simp only; omega, by simp only; omega⟩, ?_, ?_, ?_, z6, ?_⟩
    · intro q hq
      rcases List.mem_append.mp hq with h | h
      · exact hb q h
      · simp at h; subst h; exact ⟨by simp only; omega, by simp only; omega, by simp only; omega⟩
    · intro x hx
      rcases List.mem_append.mp hx with h | h
      · exact hzs x h
      · simp at h; subst h; omega
    · intro i h hi2 he
      by_cases c : i < zs.length
      · obtain ⟨u, hu'⟩ := hu i h c he
        exact ⟨u, by rw [List.getElem?_append_left c]; exact hu'⟩
      · have : i = zs.length := by simp at hi2; omega
        subst this
        rw [eh] at he
        cases he
        exact ⟨v, by rw [List.getElem?_append_right (Nat.le_refl _), Nat.sub_self]; rfl⟩
    · rw [List.map_append, show litD (zs ++ [2 * v + hh]) = litD zs ++ [.int (2 * v + hh)] by unfold litD; simp]; exact H8
  · rintro δ μ3 ⟨m, bs, zs, o6, o7, r3, m3, ey, em, rfl, ab, hb, hzs, hu, z3, H3⟩
    cases m with
    | succ m => cases ey
    | zero =>
    walk_at "own_lat"
    simp only [wRet, wTup, wCons, wNil, wVar, List.getElem?_cons_zero, List.getElem?_cons_succ]
    refine .here (k _ _ bs zs _ _ _ (z3.to H3) H3 hcb lcn ab (by omega) hb hzs fun i h he => hu i h ?_ he)
    have := (List.getElem?_eq_some_iff.mp he).1
    omega
end
end G
namespace G
open PySem L2 PL
local macro_rules | `(tactic| walk_at "own_ws") => `(tactic| try simp only [PL.fnW, PL.startD, List.map_cons, List.map_nil, List.length_cons, List.length_nil, List.replicate, List.replicate_succ, List.replicate_zero, List.append_nil, List.nil_append, List.cons_append, List.singleton_append, Nat.zero_add, Nat.add_zero, Nat.add_sub_cancel, Nat.reduceSub, Nat.reduceAdd, Nat.sub_zero, Nat.sub_self,
  PL.wSeq, PL.wIfS, PL.wRet, PL.wRetN, PL.wDrop, PL.wNext, PL.wBreak, PL.wCont, PL.wOp, PL.wUn, PL.wVar, PL.wC, PL.wCons, PL.wNil, PL.wTup, PL.wLst, PL.wTest, PL.wAnd, PL.wOr, PL.wNot, PL.wAndV, PL.wOrV, PL.wNotV, PL.wIf, PL.wChain, PL.wAsg, PL.wName, PL.wGtup, PL.wGunl, PL.wGcons, PL.wGnil, PL.wPar, PL.wPar3, PL.wAug, PL.wCB, PL.wCall, PL.wMake, PL.wMakeK, PL.wYes, PL.wTru, PL.wFor, PL.wSeqI, PL.wEnumI, PL.wZipI, PL.wRng1, PL.wRng2, PL.wBM, PL.wBM0, PL.wLstRg1, PL.wRaise, PL.wFldS, ↓PL.wFld_var, PL.wSet0, PL.wSAdd, PL.wNoPart, PL.wPart, PL.wSl, PL.wLc, PL.wipeD,
  PL.oSub, PL.oMod, PL.oFdiv, PL.oPow, PL.oLt, PL.oLe, PL.oGt, PL.oGe, PL.wI0, PL.wI2, PL.wB0, PL.wIp, PL.wNeg, PL.wR1, PL.one1, PL.two2, PL.ints1, PL.ints2,
  List.getElem?_cons_zero, List.getElem?_cons_succ, List.set_cons_zero, List.set_cons_succ, and_true, true_and, if_true, if_false, ite_true, ite_false, reduceIte, Bool.true_eq_false, Bool.false_eq_true, eq_self])
local macro_rules | `(tactic| walk_at "own_wt") => `(tactic| try simp only [PL.fnW, PL.startD, List.map_cons, List.map_nil, List.length_cons, List.length_nil, List.replicate, List.replicate_succ, List.replicate_zero, List.append_nil, List.nil_append, List.cons_append, List.singleton_append, Nat.zero_add, Nat.add_zero, Nat.add_sub_cancel, Nat.reduceSub, Nat.reduceAdd, Nat.sub_zero, Nat.sub_self,
  PL.wSeq_l, PL.wIfS, PL.wRet, PL.wRetN, PL.wDrop, PL.wNext, PL.wBreak, PL.wCont, PL.wOp, PL.wUn, PL.wVar, PL.wC, PL.wCons, PL.wNil, PL.wTup, PL.wLst_a, PL.wTest, PL.wAnd, PL.wOr, PL.wNot, PL.wAndV, PL.wOrV, PL.wNotV, PL.wIf, PL.wChain, PL.wAsg, PL.wName, PL.wGtup, PL.wGunl, PL.wGcons, PL.wGnil, PL.wPar, PL.wPar3, PL.wAug, PL.wCB, PL.wCall, PL.wMake, PL.wMakeK, PL.wYes, PL.wTru, PL.wFor, PL.wSeqI, PL.wEnumI, PL.wZipI, PL.wRng1, PL.wRng2, PL.wBM, PL.wBM0, PL.wLstRg1_a, PL.wRaise, PL.wFldS, ↓PL.wFld_var, PL.wSet0, PL.wSAdd, PL.wNoPart, PL.wPart, PL.wSl_eq, PL.wLc_a, PL.wipeD,
  PL.oSub, PL.oMod, PL.oFdiv, PL.oPow, PL.oLt, PL.oLe, PL.oGt, PL.oGe, PL.wI0, PL.wI2, PL.wB0, PL.wIp, PL.wNeg, PL.wR1, PL.one1, PL.two2, PL.ints1, PL.ints2,
  List.getElem?_cons_zero, List.getElem?_cons_succ, List.set_cons_zero, List.set_cons_succ, and_true, true_and, if_true, if_false, ite_true, ite_false, reduceIte, Bool.true_eq_false, Bool.false_eq_true, eq_self])
local macro_rules | `(tactic| walk_at "own_nx") => `(tactic| ((first | refine PL.later_i ?_ | (dsimp only; refine PL.later_i ?_)); walk_at "own_wt"))
local macro_rules | `(tactic| walk_at "own_wg") => `(tactic| simp only [PL.wGtup, PL.wGcons, PL.wGnil, PL.wName, List.length_cons, List.length_nil, List.set_cons_zero, List.set_cons_succ, Nat.zero_add, Nat.reduceAdd, true_and])
local macro_rules | `(tactic| walk_at "own_mem") => `(tactic| repeat (first | exact List.Mem.head _ | refine List.Mem.tail _ ?_))
local macro_rules | `(tactic| walk_at "own_mm") => `(tactic| exact PL.Own.get (by assumption) (by walk_at "own_mem"))
local macro_rules | `(tactic| walk_at "own_sq") => `(tactic| first | rfl | exact PL.seq_lst (PL.Own.get (by assumption) (by walk_at "own_mem")))
local macro_rules | `(tactic| walk_at "own_sub") => `(tactic| repeat (first | exact List.Sublist.refl _ | refine List.Sublist.cons_cons _ ?_ | refine List.Sublist.cons _ ?_))
local macro_rules | `(tactic| walk_at "own_putr") => `(tactic| repeat (first | exact PL.PutR.here | apply PL.PutR.there))
local macro_rules | `(tactic| walk_at "own_lat") => `(tactic| (first | refine PL.later_i ?_ | (dsimp only; refine PL.later_i ?_)))
local macro_rules | `(tactic| walk_at "own_wu") => `(tactic| try simp only [PL.fnW, PL.startD, List.map_cons, List.map_nil, List.length_cons, List.length_nil, List.replicate, List.replicate_succ, List.replicate_zero, List.append_nil, List.nil_append, List.cons_append, List.singleton_append, Nat.zero_add, Nat.add_zero, Nat.add_sub_cancel, Nat.reduceSub, Nat.reduceAdd, Nat.sub_zero, Nat.sub_self,
  PL.wSeq_l, PL.wIfS, PL.wRet, PL.wRetN, PL.wDrop, PL.wNext, PL.wBreak, PL.wCont, PL.wOp, PL.wUn, PL.wVar, PL.wC, PL.wCons, PL.wNil, PL.wTup, PL.wLst_a, PL.wTest, PL.wAnd, PL.wOr, PL.wNot, PL.wAndV, PL.wOrV, PL.wNotV, PL.wIf, PL.wAsg, PL.wName, PL.wPar, PL.wPar3, PL.wCB, PL.wCall, PL.wMake, PL.wYes, PL.wTru, PL.wFor, PL.wSeqI, PL.wRng1, PL.wRng2, PL.wBM, PL.wBM0, PL.wRaise, ↓PL.wFld_var, PL.wNoPart, PL.wPart, PL.wLc_a, PL.wipeD,
  List.getElem?_cons_zero, List.getElem?_cons_succ, List.set_cons_zero, List.set_cons_succ, and_true, true_and, if_true, if_false, ite_true, ite_false, reduceIte, Bool.true_eq_false, Bool.false_eq_true, eq_self])
local macro_rules | `(tactic| walk_at "own_nu") => `(tactic| ((first | refine PL.later_i ?_ | (dsimp only; refine PL.later_i ?_)); walk_at "own_wu"))
local macro_rules | `(tactic| walk_at "own_cn") => `(tactic| repeat (first | exact PL.Cn.c | exact PL.Cn.neg | exact PL.CnA.nil | exact PL.Cn.var rfl | apply PL.CnA.cons | apply PL.Cn.tup))
/-- the text of a number is none of the words -/
theorem int_chars (i : Int) : ∀ c ∈ (toString i).toList, c = '-' ∨ c.isDigit = true := by
  intro c hc
  cases i with
  | ofNat m =>
    have hc : c ∈ (Nat.repr m).toList := hc
    rw [Nat.toList_repr] at hc
    exact .inr (Nat.isDigit_of_mem_toDigits (by decide) (by decide) hc)
  | negSucc m =>
    have hc : c ∈ ("-" ++ Nat.repr m.succ).toList := hc
    rw [String.toList_append, List.mem_append] at hc
    rcases hc with h | h
    · have : c ∈ ['-'] := h
      exact .inl (by simpa using this)
    · rw [Nat.toList_repr] at h
      exact .inr (Nat.isDigit_of_mem_toDigits (by decide) (by decide) h)
theorem int_ne {i : Int} {s : String} {x : Char} (hx : x ∈ s.toList) (h1 : x ≠ '-') (h2 : x.isDigit = false) : PySem.Str.ofString (toString i) ≠ PySem.Str.ofString s := fun e => by
  rw [PySem.Str.ofString_eq_toList, PySem.Str.ofString_eq_toList] at e
  have e2 : (toString i).toList.map Char.toNat = s.toList.map Char.toNat := by
    have := congrArg (fun z : PySem.Str => z.cps.toList) e
    simpa using this
  have hm : x.toNat ∈ (toString i).toList.map Char.toNat := by rw [e2]; exact List.mem_map.mpr ⟨x, hx, rfl⟩
  obtain ⟨c, hc, hn⟩ := List.mem_map.mp hm
  have hcx : c = x := Char.toNat_inj.mp hn
  subst hcx
  rcases int_chars i c hc with h | h
  · exact h1 h
  · rw [h2] at h; cases h
theorem int_strOk (i : Int) : PySem.PyData.strOk (PySem.Str.ofString (toString i)) = true := by
  unfold PySem.PyData.strOk
  rw [PySem.Str.ofString_eq_toList, Array.all_eq_true']
  intro n hn
  have hn' : n ∈ (toString i).toList.map Char.toNat := by simpa using hn
  obtain ⟨c, _, rfl⟩ := List.mem_map.mp hn'
  have h : c.val.toNat < 0xd800 ∨ (0xdfff < c.val.toNat ∧ c.val.toNat < 0x110000) := c.valid
  exact decide_eq_true (show c.val.toNat < 0x110000 by omega)
/-- what may stand in a value -/
inductive EvD : D → Prop
  | int {i : Int} : i.natAbs < 2 ^ 200 → EvD (.int i)
  | non : EvD .non
  | bl {c : Bool} : EvD (.bl c)
  | str {s : Str} : PySem.PyData.strOk s = true → s ≠ PySem.Str.ofString "filling" → s ≠ PySem.Str.ofString "signs" → EvD (.str s)
  | tup0 : EvD (.tup [])
  | tup1 {i : Int} : i.natAbs < 2 ^ 200 → EvD (.tup [.int i])
section
variable {π : Pr} {μ : Mem} {P : D → Mem → Prop} {XP : Exn → Mem → Prop} {d : D} {b r : Nat}
theorem litEv {zs : List Int} (h : ∀ x ∈ zs, x.natAbs < 2 ^ 200) : ∀ v ∈ litD zs, EvD v := fun v hv => by
  obtain ⟨x, hx, rfl⟩ := List.mem_map.mp hv
  exact .int (h x hx)
theorem wI2_i {P : D → Mem → Prop} {C : Int → Int → Prop} {g : Int → Int → Int} {a c : Int} (h : C a c) (k : P (.int (g a c)) μ) : wI2 C g (.int a) (.int c) μ P := ⟨h, k⟩
theorem wStr_i {P : D → Mem → Prop} {i : Int} (h : i.natAbs < 2 ^ 200) (k : P (.str (PySem.Str.ofString (toString i))) μ) : wStrI [.int i] μ P := by
  unfold wStrI wR1
  exact ⟨by have := log2_small h; omega, k⟩
theorem cut_ok {cb cn i : Nat} {bs : List (Int × Int)} {zs : List Int} {ns : List Int} {m : Int} (H : OwnT b r ns μ μ [(cb, .lst (bs.map pairD)), (cn, .lst (litD zs))]) (hi : i < bs.length) (hl : zs.length = bs.length) (few : bs.length ≤ 3000) (ab : Abs bs zs)
    (hb : ∀ q ∈ bs, q.1 ≤ q.2 ∧ -m ≤ q.1 ∧ q.2 ≤ m)
    (k : ∀ (c : Nat) (bs' : List (Int × Int)) μ' r' ns', Turn b r ns μ μ' r' ns' → c ≠ r' → μ.length ≤ c → μ'[c]? = some (.lst (bs'.map pairD)) → bs'.length = bs.length → (∀ q ∈ bs', q.1 ≤ q.2 ∧ -(2 * m + 20) ≤ q.1 ∧ q.2 ≤ 2 * m + 20) → P (.cell c) μ') : S_law_cut π [.cell b, .cell cb, .cell cn, .int (i : Nat)] μ P XP := by
  rw [S_law_cut_eq]
  refine ⟨rfl, ?_⟩
  unfold W_law_cut
  have z0 := Zw.start H.inv
  obtain ⟨z, hz⟩ : ∃ z, zs[i]? = some z := ⟨_, List.getElem?_eq_getElem (by omega)⟩
  obtain ⟨q, hq⟩ : ∃ q, bs[i]? = some q := ⟨_, List.getElem?_eq_getElem hi⟩
  have hqb := hb q (List.mem_of_getElem? hq)
  have habout : about q z := by
    have : ∀ {bs : List (Int × Int)} {zs : List Int} {i : Nat}, Abs bs zs → bs[i]? = some q → zs[i]? = some z → about q z := by
      intro bs zs i a
      induction a generalizing i with
      | nil => intro h; cases h
      | cons x _ ih =>
        cases i with
        | zero => intro h1 h2; simp at h1 h2; subst h1 h2; exact x
        | succ i => intro h1 h2; exact ih (by simpa using h1) (by simpa using h2)
    exact this ab hq hz
  unfold about at habout
  have eb : ∀ {μ' : Mem}, μ'[cb]? = some (.lst (bs.map pairD)) → ∀ {P : D → Mem → Prop}, P (pairD q) μ' → wIx (.cell cb) (.int (i : Nat)) μ' P := fun h P kk => wIx_i (seq_lst h) (atI_at (v := pairD q) (by rw [List.getElem?_map, hq]; rfl)) kk
  have ez : ∀ {μ' : Mem}, μ'[cn]? = some (.lst (litD zs)) → ∀ {P : D → Mem → Prop}, P (.int z) μ' → wIx (.cell cn) (.int (i : Nat)) μ' P := fun h P kk => wIx_i (seq_lst h) (atI_at (v := .int z) (by unfold litD; rw [List.getElem?_map, hz]; rfl)) kk
  walk_at "own_wu"
  refine ez (H.get (c := cn) (by walk_at "own_mem")) ?_
  refine wI2_i (div_ok (by decide) (by decide)) ?_
  refine ez (H.get (c := cn) (by walk_at "own_mem")) ?_
  refine wI0_i ?_
  refine wI2_i (div_ok (by decide) (by decide)) ?_
  refine wI0_i ?_
  generalize hlo : z / 2 = lo
  generalize hhi : 0 - (0 - z) / 2 = hi'
  walk_at "own_lat"
  refine wSeq_i ?_
  simp only [wAsg, wTup, wCB, wOp, wLst_a, wCons, wNil, wVar, wC, wName, List.getElem?_cons_zero, List.getElem?_cons_succ, List.set_cons_zero, List.set_cons_succ]
  refine eb (H.get (c := cb) (by walk_at "own_mem")) ?_
  refine wIx_i (xs := [.int q.1, .int q.2]) rfl (atI_at (j := 1) rfl) ?_
  refine wMax2_i ?_
  refine eb (H.get (c := cb) (by walk_at "own_mem")) ?_
  refine wIx_i (xs := [.int q.1, .int q.2]) rfl (atI_at (j := 0) rfl) ?_
  refine wMin2_i ?_
  refine wAdd_i ?_
  refine wAdd_i ?_
  refine wI0_i ?_
  refine wI0_i ?_
  refine aLst_o H ?_
  intro c1 μ1 hc1 H1
  walk_at "own_lat"
  simp only [wRet, wCall, wCB, wCons, wNil, wVar, List.append_nil, List.getElem?_cons_zero, List.getElem?_cons_succ]
  refine pick_ok H1.inv (seq_lst (H1.get (c := c1) (by walk_at "own_mem"))) (by simp) (by simp) (fun n e => by cases e; have := H1.off (c1, _) (List.Mem.head _); simp at this ⊢; exact this.1) ?_
  intro x μ2 r2 m2 hx t2
  obtain ⟨z2, H2⟩ := z0.turn H1 t2
  obtain ⟨u, rfl, hu⟩ : ∃ u : Int × Int, x = pairD u ∧ u.1 ≤ u.2 ∧ -(2 * m + 20) ≤ u.1 ∧ u.2 ≤ 2 * m + 20 := by
    simp only [List.mem_cons, List.not_mem_nil, or_false] at hx
    rcases hx with rfl | rfl | rfl | rfl
    · exact ⟨(lo, max hi' q.2), rfl, by simp only; omega, by simp only; omega, by simp only; omega⟩
    · exact ⟨(min lo q.1, hi'), rfl, by simp only; omega, by simp only; omega, by simp only; omega⟩
    · exact ⟨(lo + 1, hi' + 9), rfl, by simp only; omega, by simp only; omega, by simp only; omega⟩
    · exact ⟨(lo - 9, hi' - 1), rfl, by simp only; omega, by simp only; omega, by simp only; omega⟩
  refine with_lst (xs := bs.map pairD) (H2.get (c := cb) (by walk_at "own_mem")) (by rw [List.length_map]; exact hi) (by rw [List.length_map]; omega) ?_
  intro μ3 f3
  have H3 := H2.pure f3
  rw [map_set]
  refine wListC_o H3 (d := .tup _) rfl ?_
  intro c4 μ4 hc4 H4
  have off := H4.off (c4, _) (by walk_at "own_mem")
  simp at off
  refine .here (k c4 (bs.set i u) _ _ _ (z2.to H4) off.2 (Nat.le_trans H3.fr.len hc4) (H4.get (c := c4) (by walk_at "own_mem")) (by rw [List.length_set]) ?_)
  intro y hy
  rcases List.mem_or_eq_of_mem_set hy with h | rfl
  · have := hb y h
    have := hqb
    omega
  · exact hu
end
end G
namespace G
open PySem L2 PL
local macro_rules | `(tactic| walk_at "own_ws") => `(tactic| try simp only [PL.fnW, PL.startD, List.map_cons, List.map_nil, List.length_cons, List.length_nil, List.replicate, List.replicate_succ, List.replicate_zero, List.append_nil, List.nil_append, List.cons_append, List.singleton_append, Nat.zero_add, Nat.add_zero, Nat.add_sub_cancel, Nat.reduceSub, Nat.reduceAdd, Nat.sub_zero, Nat.sub_self,
  PL.wSeq, PL.wIfS, PL.wRet, PL.wRetN, PL.wDrop, PL.wNext, PL.wBreak, PL.wCont, PL.wOp, PL.wUn, PL.wVar, PL.wC, PL.wCons, PL.wNil, PL.wTup, PL.wLst, PL.wTest, PL.wAnd, PL.wOr, PL.wNot, PL.wAndV, PL.wOrV, PL.wNotV, PL.wIf, PL.wChain, PL.wAsg, PL.wName, PL.wGtup, PL.wGunl, PL.wGcons, PL.wGnil, PL.wPar, PL.wPar3, PL.wAug, PL.wCB, PL.wCall, PL.wMake, PL.wMakeK, PL.wYes, PL.wTru, PL.wFor, PL.wSeqI, PL.wEnumI, PL.wZipI, PL.wRng1, PL.wRng2, PL.wBM, PL.wBM0, PL.wLstRg1, PL.wRaise, PL.wFldS, ↓PL.wFld_var, PL.wSet0, PL.wSAdd, PL.wNoPart, PL.wPart, PL.wSl, PL.wLc, PL.wipeD,
  PL.oSub, PL.oMod, PL.oFdiv, PL.oPow, PL.oLt, PL.oLe, PL.oGt, PL.oGe, PL.wI0, PL.wI2, PL.wB0, PL.wIp, PL.wNeg, PL.wR1, PL.one1, PL.two2, PL.ints1, PL.ints2,
  List.getElem?_cons_zero, List.getElem?_cons_succ, List.set_cons_zero, List.set_cons_succ, and_true, true_and, if_true, if_false, ite_true, ite_false, reduceIte, Bool.true_eq_false, Bool.false_eq_true, eq_self])
local macro_rules | `(tactic| walk_at "own_wt") => `(tactic| try simp only [PL.fnW, PL.startD, List.map_cons, List.map_nil, List.length_cons, List.length_nil, List.replicate, List.replicate_succ, List.replicate_zero, List.append_nil, List.nil_append, List.cons_append, List.singleton_append, Nat.zero_add, Nat.add_zero, Nat.add_sub_cancel, Nat.reduceSub, Nat.reduceAdd, Nat.sub_zero, Nat.sub_self,
  PL.wSeq_l, PL.wIfS, PL.wRet, PL.wRetN, PL.wDrop, PL.wNext, PL.wBreak, PL.wCont, PL.wOp, PL.wUn, PL.wVar, PL.wC, PL.wCons, PL.wNil, PL.wTup, PL.wLst_a, PL.wTest, PL.wAnd, PL.wOr, PL.wNot, PL.wAndV, PL.wOrV, PL.wNotV, PL.wIf, PL.wChain, PL.wAsg, PL.wName, PL.wGtup, PL.wGunl, PL.wGcons, PL.wGnil, PL.wPar, PL.wPar3, PL.wAug, PL.wCB, PL.wCall, PL.wMake, PL.wMakeK, PL.wYes, PL.wTru, PL.wFor, PL.wSeqI, PL.wEnumI, PL.wZipI, PL.wRng1, PL.wRng2, PL.wBM, PL.wBM0, PL.wLstRg1_a, PL.wRaise, PL.wFldS, ↓PL.wFld_var, PL.wSet0, PL.wSAdd, PL.wNoPart, PL.wPart, PL.wSl_eq, PL.wLc_a, PL.wipeD,
  PL.oSub, PL.oMod, PL.oFdiv, PL.oPow, PL.oLt, PL.oLe, PL.oGt, PL.oGe, PL.wI0, PL.wI2, PL.wB0, PL.wIp, PL.wNeg, PL.wR1, PL.one1, PL.two2, PL.ints1, PL.ints2,
  List.getElem?_cons_zero, List.getElem?_cons_succ, List.set_cons_zero, List.set_cons_succ, and_true, true_and, if_true, if_false, ite_true, ite_false, reduceIte, Bool.true_eq_false, Bool.false_eq_true, eq_self])
local macro_rules | `(tactic| walk_at "own_nx") => `(tactic| ((first | refine PL.later_i ?_ | (dsimp only; refine PL.later_i ?_)); walk_at "own_wt"))
local macro_rules | `(tactic| walk_at "own_wg") => `(tactic| simp only [PL.wGtup, PL.wGcons, PL.wGnil, PL.wName, List.length_cons, List.length_nil, List.set_cons_zero, List.set_cons_succ, Nat.zero_add, Nat.reduceAdd, true_and])
local macro_rules | `(tactic| walk_at "own_mem") => `(tactic| repeat (first | exact List.Mem.head _ | refine List.Mem.tail _ ?_))
local macro_rules | `(tactic| walk_at "own_mm") => `(tactic| exact PL.Own.get (by assumption) (by walk_at "own_mem"))
local macro_rules | `(tactic| walk_at "own_sq") => `(tactic| first | rfl | exact PL.seq_lst (PL.Own.get (by assumption) (by walk_at "own_mem")))
local macro_rules | `(tactic| walk_at "own_sub") => `(tactic| repeat (first | exact List.Sublist.refl _ | refine List.Sublist.cons_cons _ ?_ | refine List.Sublist.cons _ ?_))
local macro_rules | `(tactic| walk_at "own_putr") => `(tactic| repeat (first | exact PL.PutR.here | apply PL.PutR.there))
local macro_rules | `(tactic| walk_at "own_lat") => `(tactic| (first | refine PL.later_i ?_ | (dsimp only; refine PL.later_i ?_)))
local macro_rules | `(tactic| walk_at "own_wu") => `(tactic| try simp only [PL.fnW, PL.startD, List.map_cons, List.map_nil, List.length_cons, List.length_nil, List.replicate, List.replicate_succ, List.replicate_zero, List.append_nil, List.nil_append, List.cons_append, List.singleton_append, Nat.zero_add, Nat.add_zero, Nat.add_sub_cancel, Nat.reduceSub, Nat.reduceAdd, Nat.sub_zero, Nat.sub_self,
  PL.wSeq_l, PL.wIfS, PL.wRet, PL.wRetN, PL.wDrop, PL.wNext, PL.wBreak, PL.wCont, PL.wOp, PL.wUn, PL.wVar, PL.wC, PL.wCons, PL.wNil, PL.wTup, PL.wLst_a, PL.wTest, PL.wAnd, PL.wOr, PL.wNot, PL.wAndV, PL.wOrV, PL.wNotV, PL.wIf, PL.wAsg, PL.wName, PL.wPar, PL.wPar3, PL.wCB, PL.wCall, PL.wMake, PL.wYes, PL.wTru, PL.wFor, PL.wSeqI, PL.wRng1, PL.wRng2, PL.wBM, PL.wBM0, PL.wRaise, ↓PL.wFld_var, PL.wNoPart, PL.wPart, PL.wLc_a, PL.wipeD,
  List.getElem?_cons_zero, List.getElem?_cons_succ, List.set_cons_zero, List.set_cons_succ, and_true, true_and, if_true, if_false, ite_true, ite_false, reduceIte, Bool.true_eq_false, Bool.false_eq_true, eq_self])
local macro_rules | `(tactic| walk_at "own_nu") => `(tactic| ((first | refine PL.later_i ?_ | (dsimp only; refine PL.later_i ?_)); walk_at "own_wu"))
local macro_rules | `(tactic| walk_at "own_cn") => `(tactic| repeat (first | exact PL.Cn.c | exact PL.Cn.neg | exact PL.CnA.nil | exact PL.Cn.var rfl | apply PL.CnA.cons | apply PL.Cn.tup))
section
variable {π : Pr} {μ : Mem} {P : D → Mem → Prop} {XP : Exn → Mem → Prop} {d : D} {b r : Nat}
def OkV (m : Nat) (d : D) : Prop := ∃ vs, d = .tup vs ∧ (∀ v ∈ vs, EvD v) ∧ vs.length ≤ m
theorem okV_set {zs : List Int} {i : Nat} {v : D} (hz : ∀ x ∈ zs, x.natAbs < 2 ^ 200) (hv : EvD v) : OkV (zs.length + 1) (.tup ((litD zs).set i v)) :=
  ⟨_, rfl, fun u hu => by
    rcases List.mem_or_eq_of_mem_set hu with h | rfl
    · exact litEv hz u h
    · exact hv, by rw [List.length_set, len_litD]; omega⟩
theorem okV_lit {zs ys : List Int} (hz : ∀ x ∈ ys, x.natAbs < 2 ^ 200) (hl : ys.length ≤ zs.length + 1) : OkV (zs.length + 1) (.tup (litD ys)) := ⟨_, rfl, litEv hz, by rw [len_litD]; exact hl⟩
theorem wEq_i01 {P : D → Mem → Prop} {v : Int} {xs : List D} (h : xs = [.int 0, .int 1]) (k : ∀ c : Bool, P (.bl c) μ) : wIn false (.int v) (.tup xs) μ P := by
  subst h
  exact ⟨rfl, rfl, by simp only [Bool.false_eq_true, if_false]; exact k _⟩
theorem wNeg_i {P : D → Mem → Prop} {a : Int} (k : P (.int (-a)) μ) : wNeg (.int a) μ P := k
theorem bent_ok {zs : List Int} {ns : List Int} (s : Srx b r ns μ) (hz : ∀ x ∈ zs, x.natAbs < 2 ^ 190) (hl : zs.length ≤ 3000)
    (k : ∀ vs μ' r' ns', Turn b r ns μ μ' r' ns' → (∀ v ∈ vs, EvD v) → vs.length ≤ zs.length + 1 → P (.tup vs) μ') : S_law_bent π [.cell b, .tup (litD zs)] μ P XP := by
  rw [S_law_bent_eq]
  refine ⟨rfl, ?_⟩
  unfold W_law_bent
  have H : OwnT b r ns μ μ [] := OwnT.start s (by simp) (by simp)
  have z0 := Zw.start s
  have hz2 : ∀ x ∈ zs, x.natAbs < 2 ^ 200 := fun x hx => by have := hz x hx; omega
  walk_at "own_wu"
  refine wLen_i (xs := litD zs) rfl ?_
  refine wEq_intN ?_
  rw [len_litD]
  by_cases h0 : zs.length = 0
  · simp only [decide_eq_true (show ((zs.length : Nat) : Int) = 0 by omega), if_true, Bool.false_eq_true, if_false]
    refine aLst_o H ?_
    intro c1 μ1 hc1 H1
    refine pick_ok H1.inv (seq_lst (H1.get (c := c1) (by walk_at "own_mem"))) (by simp) (by simp) (fun n e => by cases e; have := H1.off (c1, _) (List.Mem.head _); simp at this ⊢; exact this.1) ?_
    intro x μ2 r2 m2 hx t2
    obtain ⟨z2, H2⟩ := z0.turn H1 t2
    simp only [List.mem_cons, List.not_mem_nil, or_false] at hx
    rcases hx with rfl | rfl | rfl
    · exact .here (k _ _ _ _ (z2.to H2) (by intro v hv; simp at hv; subst hv; exact .int (by decide)) (by simp))
    · exact .here (k _ _ _ _ (z2.to H2) (by intro v hv; simp at hv; subst hv; exact .non) (by simp))
    · exact .here (k _ _ _ _ (z2.to H2) (by intro v hv; simp at hv; subst hv; exact .tup0) (by simp))
  simp only [decide_eq_false (show ¬ ((zs.length : Nat) : Int) = 0 by omega), if_true, Bool.false_eq_true, if_false]
  walk_at "own_lat"
  refine wSeq_i ?_
  simp only [wAsg, wCall, wCB, wCons, wNil, wVar, wName, List.append_nil, List.getElem?_cons_zero, List.getElem?_cons_succ, List.set_cons_zero, List.set_cons_succ]
  refine wLen_i (xs := litD zs) rfl ?_
  rw [len_litD]
  refine take_ok H.inv (by omega) (by omega) ?_
  intro v μ1 r1 m1 v0 v1 t1
  obtain ⟨z1, H1⟩ := z0.turn H t1
  obtain ⟨i, rfl⟩ : ∃ i : Nat, v = (i : Nat) := ⟨v.toNat, by omega⟩
  have hi : i < (litD zs).length := by rw [len_litD]; omega
  have hlz : (litD zs).length ≤ 100000 := by rw [len_litD]; omega
  obtain ⟨e, he⟩ : ∃ e, zs[i]? = some e := ⟨_, List.getElem?_eq_getElem (by omega)⟩
  have eb := hz e (List.mem_of_getElem? he)
  have hat : atI (litD zs) ((i : Nat) : Int) = some (.int e) := atI_at (by unfold litD; rw [List.getElem?_map, he]; rfl)
  have e200 : e.natAbs < 2 ^ 200 := by omega
  walk_at "own_lat"
  refine wSeq_i ?_
  refine wAsg_i ?_
  have some1 : ∀ K XK, (∀ ds, (∀ x ∈ ds, OkV (zs.length + 1) x) → ds.length = 4 → K ds μ1) → (wCons (wOp wAdd (wVar 1) (wTup (wCons (wC (.int 0)) wNil))) (wCons (wSl (wVar 1) (wPart (wC (.int 1))) wNoPart) (wCons (wCall (S_law_with π) [] (wCons (wVar 1) (wCons (wVar 2) (wCons (wC .non) wNil)))) (wCons (wCall (S_law_with π) [] (wCons (wVar 1) (wCons (wVar 2) (wCons (wCB wStrI (wCons (wOp wIx (wVar 1) (wVar 2)) wNil)) wNil)))) wNil)))) [some (.cell b), some (.tup (litD zs)), some (.int (i : Nat)), none, none] μ1 K XK := by
    intro K XK hK
    simp only [wCons, wNil, wOp, wVar, wC, wTup, wSl, wPart, wNoPart, wCall, wCB, List.append_nil, List.getElem?_cons_zero, List.getElem?_cons_succ]
    refine wAdd_tt (by rw [len_litD, sizeLine_eq]; simp; omega) ?_
    rw [show ((1 : Int)) = ((1 : Nat) : Int) from rfl, cut_some, lit_drop]
    refine with_tup hi hlz ?_
    refine wIx_i (xs := litD zs) rfl hat ?_
    refine wStr_i e200 ?_
    refine with_tup hi hlz ?_
    refine hK _ ?_ rfl
    intro x hx
    simp only [List.mem_cons, List.not_mem_nil, or_false] at hx
    rcases hx with rfl | rfl | rfl | rfl
    · refine ⟨_, rfl, fun u hu => ?_, by simp [len_litD]⟩
      rcases List.mem_append.mp hu with h | h
      · exact litEv hz2 u h
      · simp at h; subst h; exact .int (by decide)
    · exact okV_lit (fun x hx => hz2 x (List.mem_of_mem_drop hx)) (by rw [List.length_drop]; omega)
    · exact okV_set hz2 .non
    · refine okV_set hz2 (.str (int_strOk e) ?_ ?_)
      · exact int_ne (s := "filling") (x := 'f') (by decide) (by decide) (by decide)
      · exact int_ne (s := "signs") (x := 's') (by decide) (by decide) (by decide)
  rw [wLst_a]
  refine some1 _ _ fun ds hds hdl => ?_
  refine aLst_o H1 ?_
  intro c2 μ2 hc2 H2
  have lc2 : μ.length ≤ c2 := Nat.le_trans H1.fr.len hc2
  simp only [wName, List.set_cons_zero, List.set_cons_succ]
  walk_at "own_lat"
  refine wSeq_i ?_
  simp only [wDrop, wBM, wCall, wOp, wTup, wCons, wNil, wVar, List.append_nil, List.getElem?_cons_zero, List.getElem?_cons_succ]
  refine ⟨by rw [lst_lst (H2.get (c := c2) (by walk_at "own_mem"))]; rfl, ?_⟩
  refine wIx_i (xs := litD zs) rfl hat ?_
  refine with_tup hi hlz ?_
  refine wAppend_o H2 (n := c2) (xs := ds) (by walk_at "own_putr") lc2 (by rw [hdl, sizeLine_eq]; omega) ?_
  intro μ3 H3
  have hd3 : ∀ x ∈ ds ++ [D.tup ((litD zs).set i (.tup [.int e]))], OkV (zs.length + 1) x := fun x hx => by
    rcases List.mem_append.mp hx with h | h
    · exact hds x h
    · simp at h; subst h; exact okV_set hz2 (.tup1 e200)
  have hl3 : (ds ++ [D.tup ((litD zs).set i (.tup [.int e]))]).length = 5 := by simp [hdl]
  generalize ds ++ [D.tup ((litD zs).set i (.tup [.int e]))] = ds3 at H3 hd3 hl3
  refine later_mid (fun δ μ' => δ = [some (.cell b), some (.tup (litD zs)), some (.int (i : Nat)), some (.cell c2), none] ∧ ∃ ds4, (∀ x ∈ ds4, OkV (zs.length + 1) x) ∧ ds4.length = 6 ∧ OwnT b r1 m1 μ μ' [(c2, .lst ds4)]) (fun NN nx' => ?_) ?_
  · simp only [wDrop, wBM, wIf, wTest, wCall, wOp, wTup, wCons, wNil, wVar, wC, List.append_nil, List.getElem?_cons_zero, List.getElem?_cons_succ]
    refine ⟨by rw [lst_lst (H3.get (c := c2) (by walk_at "own_mem"))]; rfl, ?_⟩
    refine wIx_i (xs := litD zs) rfl hat ?_
    refine wEq_i01 rfl fun cc => ?_
    have app : ∀ v, EvD v → wAppend (.cell c2) [.tup ((litD zs).set i v)] μ3 (fun x μ' => NN [some (.cell b), some (.tup (litD zs)), some (.int (i : Nat)), some (.cell c2), none] μ') := fun v hv => by
      refine wAppend_o H3 (n := c2) (xs := ds3) (by walk_at "own_putr") lc2 (by rw [hl3, sizeLine_eq]; omega) ?_
      intro μ4 H4
      refine nx' _ _ ⟨rfl, _, fun x hx => ?_, ?_, H4⟩
      · rcases List.mem_append.mp hx with h | h
        · exact hd3 x h
        · simp at h; subst h; exact okV_set hz2 hv
      · simp [hl3]
    cases cc with
    | true =>
      simp only [if_true]
      refine wIx_i (xs := litD zs) rfl hat ?_
      refine wEq_intN ?_
      exact with_tup hi hlz (app _ .bl)
    | false =>
      simp only [Bool.false_eq_true, if_false]
      exact with_tup hi hlz (app _ .bl)
  rintro δ μ4 ⟨rfl, ds4, hd4, hl4, H4⟩
  refine wSeq_i ?_
  simp only [wAsg, wOp, wLc_a, wSeqI, wTup, wUn, wCons, wNil, wVar, wC, wName, List.getElem?_cons_zero, List.getElem?_cons_succ, List.set_cons_zero, List.set_cons_succ]
  refine wNeg_i ?_
  refine wNeg_i ?_
  simp only [seqOf]
  refine ⟨by simp [sizeLine_eq], lc_map (fun x => match x with | .int y => .tup ((litD zs).set i (.int (e + y))) | _ => .non) trivial ?_ [] _ ?_⟩
  · intro x hx P3 hP
    simp only [List.mem_cons, List.not_mem_nil, or_false] at hx
    obtain ⟨y, rfl⟩ : ∃ y, x = .int y := by rcases hx with rfl | rfl | rfl | rfl <;> exact ⟨_, rfl⟩
    simp only [wName, wCall, wOp, wCons, wNil, wVar, wipeD, List.append_nil, List.getElem?_cons_zero, List.getElem?_cons_succ, List.set_cons_zero, List.set_cons_succ]
    refine wIx_i (xs := litD zs) rfl hat ?_
    refine wAdd_i ?_
    exact with_tup hi hlz hP
  simp only [List.nil_append, List.map_cons, List.map_nil]
  refine aLst_o H4 ?_
  intro c5 μ5 hc5 H5
  refine wAdd_ol H5 (H5.get (c := c2) (by walk_at "own_mem")) (H5.get (c := c5) (by walk_at "own_mem")) (by rw [hl4, sizeLine_eq]; simp) ?_
  intro c6 μ6 hc6 H6
  simp only [wLst_a, wRev, wCons, wNil, wVar, List.getElem?_cons_zero, List.getElem?_cons_succ]
  refine aLst_o H6 ?_
  intro c7 μ7 hc7 H7
  refine wAdd_ol H7 (H7.get (c := c6) (by walk_at "own_mem")) (H7.get (c := c7) (by walk_at "own_mem")) (by rw [List.length_append, hl4, sizeLine_eq]; simp) ?_
  intro c8 μ8 hc8 H8
  have lc8 : μ.length ≤ c8 := Nat.le_trans H7.fr.len hc8
  have H9 : OwnT b r1 m1 μ μ8 [(c8, .lst ((ds4 ++ [D.tup ((litD zs).set i (.int (e + -2))), D.tup ((litD zs).set i (.int (e + -1))), D.tup ((litD zs).set i (.int (e + 1))), D.tup ((litD zs).set i (.int (e + 2)))]) ++ [D.tup (litD zs).reverse]))] := H8.less (by walk_at "own_sub")
  have hd9 : ∀ x ∈ (ds4 ++ [D.tup ((litD zs).set i (.int (e + -2))), D.tup ((litD zs).set i (.int (e + -1))), D.tup ((litD zs).set i (.int (e + 1))), D.tup ((litD zs).set i (.int (e + 2)))]) ++ [D.tup (litD zs).reverse], OkV (zs.length + 1) x := fun x hx => by
    rcases List.mem_append.mp hx with h | h
    · rcases List.mem_append.mp h with h | h
      · exact hd4 x h
      · simp only [List.mem_cons, List.not_mem_nil, or_false] at h
        rcases h with rfl | rfl | rfl | rfl
        all_goals exact okV_set hz2 (.int (by omega))
    · simp at h; subst h
      refine ⟨_, rfl, fun v hv => litEv hz2 v (by simpa using hv), by simp [len_litD]⟩
  have hl9 : ((ds4 ++ [D.tup ((litD zs).set i (.int (e + -2))), D.tup ((litD zs).set i (.int (e + -1))), D.tup ((litD zs).set i (.int (e + 1))), D.tup ((litD zs).set i (.int (e + 2)))]) ++ [D.tup (litD zs).reverse]).length = 11 := by simp [hl4]
  generalize (ds4 ++ [D.tup ((litD zs).set i (.int (e + -2))), D.tup ((litD zs).set i (.int (e + -1))), D.tup ((litD zs).set i (.int (e + 1))), D.tup ((litD zs).set i (.int (e + 2)))]) ++ [D.tup (litD zs).reverse] = ds9 at H9 hd9 hl9
  walk_at "own_lat"
  refine wSeq_i ?_
  simp only [wDrop, wBM, wCall, wOp, wCons, wNil, wVar, wC, List.append_nil, List.getElem?_cons_zero, List.getElem?_cons_succ]
  refine ⟨by rw [lst_lst (H9.get (c := c8) (by walk_at "own_mem"))]; rfl, ?_⟩
  refine wIx_i (xs := litD zs) rfl hat ?_
  refine wI0_i ?_
  refine with_tup hi hlz ?_
  refine wAppend_o H9 (n := c8) (xs := ds9) (by walk_at "own_putr") lc8 (by rw [hl9, sizeLine_eq]; omega) ?_
  intro μ10 H10
  walk_at "own_lat"
  simp only [wRet, wCall, wCons, wNil, wVar, List.append_nil, List.getElem?_cons_zero, List.getElem?_cons_succ]
  refine pick_ok H10.inv (seq_lst (H10.get (c := c8) (by walk_at "own_mem"))) (by rw [List.length_append, hl9]; simp) (by rw [List.length_append, hl9]; simp) (fun n e => by cases e; have := H10.off (c8, _) (List.Mem.head _); simp at this ⊢; exact this.1) ?_
  intro x μ11 r11 m11 hx t11
  obtain ⟨z11, H11⟩ := z1.turn H10 t11
  have hxk : OkV (zs.length + 1) x := by
    rcases List.mem_append.mp hx with h | h
    · exact hd9 x h
    · simp at h; subst h; exact okV_set hz2 (.int (by omega))
  obtain ⟨vs, rfl, hvs, hvl⟩ := hxk
  exact .here (k vs _ _ _ (z11.to H11) hvs hvl)
end
end G
namespace G
open PySem L2 PL
local macro_rules | `(tactic| walk_at "own_ws") => `(tactic| try simp only [PL.fnW, PL.startD, List.map_cons, List.map_nil, List.length_cons, List.length_nil, List.replicate, List.replicate_succ, List.replicate_zero, List.append_nil, List.nil_append, List.cons_append, List.singleton_append, Nat.zero_add, Nat.add_zero, Nat.add_sub_cancel, Nat.reduceSub, Nat.reduceAdd, Nat.sub_zero, Nat.sub_self,
  PL.wSeq, PL.wIfS, PL.wRet, PL.wRetN, PL.wDrop, PL.wNext, PL.wBreak, PL.wCont, PL.wOp, PL.wUn, PL.wVar, PL.wC, PL.wCons, PL.wNil, PL.wTup, PL.wLst, PL.wTest, PL.wAnd, PL.wOr, PL.wNot, PL.wAndV, PL.wOrV, PL.wNotV, PL.wIf, PL.wChain, PL.wAsg, PL.wName, PL.wGtup, PL.wGunl, PL.wGcons, PL.wGnil, PL.wPar, PL.wPar3, PL.wAug, PL.wCB, PL.wCall, PL.wMake, PL.wMakeK, PL.wYes, PL.wTru, PL.wFor, PL.wSeqI, PL.wEnumI, PL.wZipI, PL.wRng1, PL.wRng2, PL.wBM, PL.wBM0, PL.wLstRg1, PL.wRaise, PL.wFldS, ↓PL.wFld_var, PL.wSet0, PL.wSAdd, PL.wNoPart, PL.wPart, PL.wSl, PL.wLc, PL.wipeD,
  PL.oSub, PL.oMod, PL.oFdiv, PL.oPow, PL.oLt, PL.oLe, PL.oGt, PL.oGe, PL.wI0, PL.wI2, PL.wB0, PL.wIp, PL.wNeg, PL.wR1, PL.one1, PL.two2, PL.ints1, PL.ints2,
  List.getElem?_cons_zero, List.getElem?_cons_succ, List.set_cons_zero, List.set_cons_succ, and_true, true_and, if_true, if_false, ite_true, ite_false, reduceIte, Bool.true_eq_false, Bool.false_eq_true, eq_self])
local macro_rules | `(tactic| walk_at "own_wt") => `(tactic| try simp only [PL.fnW, PL.startD, List.map_cons, List.map_nil, List.length_cons, List.length_nil, List.replicate, List.replicate_succ, List.replicate_zero, List.append_nil, List.nil_append, List.cons_append, List.singleton_append, Nat.zero_add, Nat.add_zero, Nat.add_sub_cancel, Nat.reduceSub, Nat.reduceAdd, Nat.sub_zero, Nat.sub_self,
  PL.wSeq_l, PL.wIfS, PL.wRet, PL.wRetN, PL.wDrop, PL.wNext, PL.wBreak, PL.wCont, PL.wOp, PL.wUn, PL.wVar, PL.wC, PL.wCons, PL.wNil, PL.wTup, PL.wLst_a, PL.wTest, PL.wAnd, PL.wOr, PL.wNot, PL.wAndV, PL.wOrV, PL.wNotV, PL.wIf, PL.wChain, PL.wAsg, PL.wName, PL.wGtup, PL.wGunl, PL.wGcons, PL.wGnil, PL.wPar, PL.wPar3, PL.wAug, PL.wCB, PL.wCall, PL.wMake, PL.wMakeK, PL.wYes, PL.wTru, PL.wFor, PL.wSeqI, PL.wEnumI, PL.wZipI, PL.wRng1, PL.wRng2, PL.wBM, PL.wBM0, PL.wLstRg1_a, PL.wRaise, PL.wFldS, ↓PL.wFld_var, PL.wSet0, PL.wSAdd, PL.wNoPart, PL.wPart, PL.wSl_eq, PL.wLc_a, PL.wipeD,
  PL.oSub, PL.oMod, PL.oFdiv, PL.oPow, PL.oLt, PL.oLe, PL.oGt, PL.oGe, PL.wI0, PL.wI2, PL.wB0, PL.wIp, PL.wNeg, PL.wR1, PL.one1, PL.two2, PL.ints1, PL.ints2,
  List.getElem?_cons_zero, List.getElem?_cons_succ, List.set_cons_zero, List.set_cons_succ, and_true, true_and, if_true, if_false, ite_true, ite_false, reduceIte, Bool.true_eq_false, Bool.false_eq_true, eq_self])
local macro_rules | `(tactic| walk_at "own_nx") => `(tactic| ((first | refine PL.later_i ?_ | (dsimp only; refine PL.later_i ?_)); walk_at "own_wt"))
local macro_rules | `(tactic| walk_at "own_wg") => `(tactic| simp only [PL.wGtup, PL.wGcons, PL.wGnil, PL.wName, List.length_cons, List.length_nil, List.set_cons_zero, List.set_cons_succ, Nat.zero_add, Nat.reduceAdd, true_and])
local macro_rules | `(tactic| walk_at "own_mem") => `(tactic| repeat (first | exact List.Mem.head _ | refine List.Mem.tail _ ?_))
local macro_rules | `(tactic| walk_at "own_mm") => `(tactic| exact PL.Own.get (by assumption) (by walk_at "own_mem"))
local macro_rules | `(tactic| walk_at "own_sq") => `(tactic| first | rfl | exact PL.seq_lst (PL.Own.get (by assumption) (by walk_at "own_mem")))
local macro_rules | `(tactic| walk_at "own_sub") => `(tactic| repeat (first | exact List.Sublist.refl _ | refine List.Sublist.cons_cons _ ?_ | refine List.Sublist.cons _ ?_))
local macro_rules | `(tactic| walk_at "own_putr") => `(tactic| repeat (first | exact PL.PutR.here | apply PL.PutR.there))
local macro_rules | `(tactic| walk_at "own_lat") => `(tactic| (first | refine PL.later_i ?_ | (dsimp only; refine PL.later_i ?_)))
local macro_rules | `(tactic| walk_at "own_wu") => `(tactic| try simp only [PL.fnW, PL.startD, List.map_cons, List.map_nil, List.length_cons, List.length_nil, List.replicate, List.replicate_succ, List.replicate_zero, List.append_nil, List.nil_append, List.cons_append, List.singleton_append, Nat.zero_add, Nat.add_zero, Nat.add_sub_cancel, Nat.reduceSub, Nat.reduceAdd, Nat.sub_zero, Nat.sub_self,
  PL.wSeq_l, PL.wIfS, PL.wRet, PL.wRetN, PL.wDrop, PL.wNext, PL.wBreak, PL.wCont, PL.wOp, PL.wUn, PL.wVar, PL.wC, PL.wCons, PL.wNil, PL.wTup, PL.wLst_a, PL.wTest, PL.wAnd, PL.wOr, PL.wNot, PL.wAndV, PL.wOrV, PL.wNotV, PL.wIf, PL.wAsg, PL.wName, PL.wPar, PL.wPar3, PL.wCB, PL.wCall, PL.wMake, PL.wYes, PL.wTru, PL.wFor, PL.wSeqI, PL.wRng1, PL.wRng2, PL.wBM, PL.wBM0, PL.wRaise, ↓PL.wFld_var, PL.wNoPart, PL.wPart, PL.wLc_a, PL.wipeD,
  List.getElem?_cons_zero, List.getElem?_cons_succ, List.set_cons_zero, List.set_cons_succ, and_true, true_and, if_true, if_false, ite_true, ite_false, reduceIte, Bool.true_eq_false, Bool.false_eq_true, eq_self])
local macro_rules | `(tactic| walk_at "own_nu") => `(tactic| ((first | refine PL.later_i ?_ | (dsimp only; refine PL.later_i ?_)); walk_at "own_wu"))
local macro_rules | `(tactic| walk_at "own_cn") => `(tactic| repeat (first | exact PL.Cn.c | exact PL.Cn.neg | exact PL.CnA.nil | exact PL.Cn.var rfl | apply PL.CnA.cons | apply PL.Cn.tup))
section
variable {π : Pr} {μ : Mem} {P : D → Mem → Prop} {XP : Exn → Mem → Prop} {d : D} {b r : Nat}
theorem p18 : (10 : Int) ^ (18 : Int).toNat = 1000000000000000000 := by decide
theorem numbered_lit : ∀ (l : List Int) (i : Nat), numbered i (litD l) = (l.zipIdx i).map fun q => D.tup [.int (q.2 : Nat), .int q.1]
  | [], _ => rfl
  | a :: l, i => by
    have ih := numbered_lit l (i + 1)
    rw [List.zipIdx_cons, List.map_cons, ← ih]; rfl
theorem cmul_small {x y : Int} (h : (-(2 ^ 64) < x ∧ x < 2 ^ 64) ∨ (-(2 ^ 64) < y ∧ y < 2 ^ 64)) : CMul x y := h
theorem wPow_i {P : D → Mem → Prop} {a c : Int} (h : CPow a c) (k : P (.int (a ^ c.toNat)) μ) : oPow (.int a) (.int c) μ P := ⟨h, k⟩
theorem wIntB_i {P : D → Mem → Prop} {c : Bool} (k : P (.int (if c then 1 else 0)) μ) : wIntC [.bl c] μ P := by unfold wIntC wR1; exact k
theorem wB0_i {P : D → Mem → Prop} {f : Int → Int → Bool} {a c : Int} (k : P (.bl (f a c)) μ) : wB0 f (.int a) (.int c) μ P := k
theorem law_box_ok {ns : List Int} (k : ∀ b r ms μ', Srx b r ms μ' → P (.cell b) μ') : S_law_box π [.scr ns] μ P XP := by
  rw [S_law_box_eq]
  refine ⟨rfl, ?_⟩
  unfold W_law_box
  have H : Own [] (fun _ => True) μ μ [] := own0 (by simp)
  refine wSeq_i ?_
  simp only [fnW, startD, List.map_cons, List.map_nil, List.length_cons, List.length_nil, List.replicate, List.replicate_succ, List.replicate_zero, List.append_nil, List.nil_append, List.cons_append, Nat.zero_add, Nat.reduceAdd, Nat.reduceSub, wPar, wLst_a, wCons, wNil, wC]
  refine aLst_o H ?_
  intro c1 μ1 hc1 H1
  simp only [List.set_cons_zero, List.set_cons_succ]
  walk_at "own_lat"
  refine wSeq_i ?_
  simp only [wFor, wEnumI, wSl_eq, wNoPart, wPart, wCons, wNil, wC, wVar, List.getElem?_cons_zero, List.getElem?_cons_succ]
  simp only [show seqOf μ1 (.scr ns) = some (litD ns) from rfl]
  rw [show ((63 : Int)) = ((63 : Nat) : Int) from rfl, cut_none, lit_take]
  refine aLst_o H1 ?_
  intro c2 μ2 hc2 H2
  have l63 : (ns.take 63).length ≤ 63 := by rw [List.length_take]; omega
  generalize ns.take 63 = ms at H2 l63
  simp only [seq_lst (H2.get (c := c2) (m := .lst (litD ms)) (by walk_at "own_mem"))]
  rw [numbered_lit]
  refine loop_inv (fun xs δ μ3 => ∃ (tl : List Int) (i : Nat) (big : List Int) (st : Int) (o3 o4 o5 : Option D), xs = (tl.zipIdx i).map (fun q => D.tup [.int (q.2 : Nat), .int q.1]) ∧ i + tl.length = ms.length ∧ big.length ≤ i ∧ 0 ≤ st ∧ st < 2147483648 ∧ δ = [some (.scr ns), some (.cell c1), some (.int st), o3, o4, o5] ∧ Own [] (fun _ => True) μ μ3 [(c2, .lst (litD ms)), (c1, .lst (litD big))])
    (fun _ _ μ3 ⟨_, _, _, _, _, _, _, _, _, _, _, _, _, H3⟩ => H2.stay H3 (c := c2) (by walk_at "own_mem") (by walk_at "own_mem")) ?_ _ _ _ ⟨ms, 0, [], 40503, none, none, none, rfl, by simp, by simp, by decide, by decide, rfl, H2⟩ ?_
  · rintro x xs δ μ3 ⟨tl, i, big, st, o3, o4, o5, ex, el, hb, s0, s1, rfl, H3⟩ P' _ _ nx
    cases tl with
    | nil => cases ex
    | cons a tl =>
    rw [List.zipIdx_cons, List.map_cons] at ex
    obtain ⟨rfl, rfl⟩ := List.cons.inj ex
    dsimp only
    walk_at "own_wg"
    refine wSeq_i ?_
    simp only [wAsg, wOp, wCB, wCons, wNil, wVar, wC, wName, List.getElem?_cons_zero, List.getElem?_cons_succ, List.set_cons_zero, List.set_cons_succ]
    refine wAbs_i ?_
    refine wMulB_i (.inr ⟨by decide, by decide⟩) ?_
    refine wB0_i ?_
    refine wIntB_i ?_
    refine wAdd_i ?_
    generalize (if a < 0 then -a else a) * 2 + (if decide (a < 0) = true then 1 else 0) = sz
    refine later_mid (fun δ μ' => ∃ big', big'.length ≤ i + 1 ∧ δ = [some (.scr ns), some (.cell c1), some (.int st), some (.int (i : Nat)), some (.int a), some (.int sz)] ∧ Own [] (fun _ => True) μ μ' [(c2, .lst (litD ms)), (c1, .lst (litD big'))]) (fun NN nx' => ?_) ?_
    · refine wIfS_i ?_
      simp only [wTest, wOp, wCB, wCons, wNil, wVar, wC, List.getElem?_cons_zero, List.getElem?_cons_succ]
      refine wAbs_i ?_
      refine wPow_i cpow18 ?_
      refine wB0_i ?_
      rw [p18]
      by_cases c : 1000000000000000000 ≤ (if a < 0 then -a else a)
      · simp only [decide_eq_true c, if_true]
        simp only [wDrop, wBM, wCB, wCons, wNil, wVar, List.getElem?_cons_zero, List.getElem?_cons_succ]
        refine ⟨by rw [lst_lst (H3.get (c := c1) (by walk_at "own_mem"))]; rfl, ?_⟩
        refine wAbs_i ?_
        refine wAppend_o H3 (n := c1) (xs := litD big) (by walk_at "own_putr") hc1 (by rw [len_litD, sizeLine_eq]; omega) ?_
        intro μ4 H4
        refine nx' _ _ ⟨big ++ [if a < 0 then -a else a], by simp; omega, rfl, ?_⟩
        rw [show litD (big ++ [if a < 0 then -a else a]) = litD big ++ [.int (if a < 0 then -a else a)] by unfold litD; simp]; exact H4
      · simp only [decide_eq_false c, Bool.false_eq_true, if_false, wNext]
        exact nx' _ _ ⟨big, by omega, rfl, H3⟩
    rintro δ μ4 ⟨big', hb', rfl, H4⟩
    simp only [wAsg, wOp, wCB, wCons, wNil, wVar, wC, wName, List.getElem?_cons_zero, List.getElem?_cons_succ, List.set_cons_zero, List.set_cons_succ]
    refine wMulB_i (.inl ⟨by omega, by omega⟩) ?_
    refine wIntC_i ?_
    refine wI2_i (by show (0 : Int) < 2147483629; decide) ?_
    refine wMulB_i (.inl ⟨by decide, by decide⟩) ?_
    refine wAdd_i ?_
    have e0 := Int.emod_nonneg sz (b := 2147483629) (by decide)
    have e1 := Int.emod_lt_of_pos sz (b := 2147483629) (by decide)
    refine wMulB_i (.inl ⟨by omega, by omega⟩) ?_
    refine wAdd_i ?_
    refine wAdd_i ?_
    refine wIntC_i ?_
    refine wI2_i (by show (0 : Int) < 2147483629; decide) ?_
    refine wAdd_i ?_
    generalize hq : st * 48271 + sz % 2147483629 * (2 * ((i : Nat) : Int) + 69621) + 11 = q
    have f0 := Int.emod_nonneg q (b := 2147483629) (by decide)
    have f1 := Int.emod_lt_of_pos q (b := 2147483629) (by decide)
    refine nx _ _ ⟨tl, i + 1, big', q % 2147483629 + 1, _, _, _, rfl, by simp at el; omega, hb', by omega, by omega, rfl, H4⟩
  · rintro δ μ3 ⟨tl, i, big, st, o3, o4, o5, ex, el, hb, s0, s1, rfl, H3⟩
    cases tl with
    | cons a tl => rw [List.zipIdx_cons] at ex; cases ex
    | nil =>
    walk_at "own_lat"
    simp only [wRet, wLst_a, wCons, wNil, wVar, List.getElem?_cons_zero, List.getElem?_cons_succ]
    refine aLst_o H3 ?_
    intro b μ4 hb4 H4
    have lt := H3.lt (c := c1) (by walk_at "own_mem")
    exact .here (k b c1 big _ ⟨⟨st, H4.get (c := b) (by walk_at "own_mem"), s0, s1⟩, H4.get (c := c1) (by walk_at "own_mem"), by simp at el; omega, by omega⟩)
end
end G
namespace G
open PySem L2 PL
local macro_rules | `(tactic| walk_at "own_ws") => `(tactic| try simp only [PL.fnW, PL.startD, List.map_cons, List.map_nil, List.length_cons, List.length_nil, List.replicate, List.replicate_succ, List.replicate_zero, List.append_nil, List.nil_append, List.cons_append, List.singleton_append, Nat.zero_add, Nat.add_zero, Nat.add_sub_cancel, Nat.reduceSub, Nat.reduceAdd, Nat.sub_zero, Nat.sub_self,
  PL.wSeq, PL.wIfS, PL.wRet, PL.wRetN, PL.wDrop, PL.wNext, PL.wBreak, PL.wCont, PL.wOp, PL.wUn, PL.wVar, PL.wC, PL.wCons, PL.wNil, PL.wTup, PL.wLst, PL.wTest, PL.wAnd, PL.wOr, PL.wNot, PL.wAndV, PL.wOrV, PL.wNotV, PL.wIf, PL.wChain, PL.wAsg, PL.wName, PL.wGtup, PL.wGunl, PL.wGcons, PL.wGnil, PL.wPar, PL.wPar3, PL.wAug, PL.wCB, PL.wCall, PL.wMake, PL.wMakeK, PL.wYes, PL.wTru, PL.wFor, PL.wSeqI, PL.wEnumI, PL.wZipI, PL.wRng1, PL.wRng2, PL.wBM, PL.wBM0, PL.wLstRg1, PL.wRaise, PL.wFldS, ↓PL.wFld_var, PL.wSet0, PL.wSAdd, PL.wNoPart, PL.wPart, PL.wSl, PL.wLc, PL.wipeD,
  PL.oSub, PL.oMod, PL.oFdiv, PL.oPow, PL.oLt, PL.oLe, PL.oGt, PL.oGe, PL.wI0, PL.wI2, PL.wB0, PL.wIp, PL.wNeg, PL.wR1, PL.one1, PL.two2, PL.ints1, PL.ints2,
  List.getElem?_cons_zero, List.getElem?_cons_succ, List.set_cons_zero, List.set_cons_succ, and_true, true_and, if_true, if_false, ite_true, ite_false, reduceIte, Bool.true_eq_false, Bool.false_eq_true, eq_self])
local macro_rules | `(tactic| walk_at "own_wt") => `(tactic| try simp only [PL.fnW, PL.startD, List.map_cons, List.map_nil, List.length_cons, List.length_nil, List.replicate, List.replicate_succ, List.replicate_zero, List.append_nil, List.nil_append, List.cons_append, List.singleton_append, Nat.zero_add, Nat.add_zero, Nat.add_sub_cancel, Nat.reduceSub, Nat.reduceAdd, Nat.sub_zero, Nat.sub_self,
  PL.wSeq_l, PL.wIfS, PL.wRet, PL.wRetN, PL.wDrop, PL.wNext, PL.wBreak, PL.wCont, PL.wOp, PL.wUn, PL.wVar, PL.wC, PL.wCons, PL.wNil, PL.wTup, PL.wLst_a, PL.wTest, PL.wAnd, PL.wOr, PL.wNot, PL.wAndV, PL.wOrV, PL.wNotV, PL.wIf, PL.wChain, PL.wAsg, PL.wName, PL.wGtup, PL.wGunl, PL.wGcons, PL.wGnil, PL.wPar, PL.wPar3, PL.wAug, PL.wCB, PL.wCall, PL.wMake, PL.wMakeK, PL.wYes, PL.wTru, PL.wFor, PL.wSeqI, PL.wEnumI, PL.wZipI, PL.wRng1, PL.wRng2, PL.wBM, PL.wBM0, PL.wLstRg1_a, PL.wRaise, PL.wFldS, ↓PL.wFld_var, PL.wSet0, PL.wSAdd, PL.wNoPart, PL.wPart, PL.wSl_eq, PL.wLc_a, PL.wipeD,
  PL.oSub, PL.oMod, PL.oFdiv, PL.oPow, PL.oLt, PL.oLe, PL.oGt, PL.oGe, PL.wI0, PL.wI2, PL.wB0, PL.wIp, PL.wNeg, PL.wR1, PL.one1, PL.two2, PL.ints1, PL.ints2,
  List.getElem?_cons_zero, List.getElem?_cons_succ, List.set_cons_zero, List.set_cons_succ, and_true, true_and, if_true, if_false, ite_true, ite_false, reduceIte, Bool.true_eq_false, Bool.false_eq_true, eq_self])
local macro_rules | `(tactic| walk_at "own_nx") => `(tactic| ((first | refine PL.later_i ?_ | (dsimp only; refine PL.later_i ?_)); walk_at "own_wt"))
local macro_rules | `(tactic| walk_at "own_wg") => `(tactic| simp only [PL.wGtup, PL.wGcons, PL.wGnil, PL.wName, List.length_cons, List.length_nil, List.set_cons_zero, List.set_cons_succ, Nat.zero_add, Nat.reduceAdd, true_and])
local macro_rules | `(tactic| walk_at "own_mem") => `(tactic| repeat (first | exact List.Mem.head _ | refine List.Mem.tail _ ?_))
local macro_rules | `(tactic| walk_at "own_mm") => `(tactic| exact PL.Own.get (by assumption) (by walk_at "own_mem"))
local macro_rules | `(tactic| walk_at "own_sq") => `(tactic| first | rfl | exact PL.seq_lst (PL.Own.get (by assumption) (by walk_at "own_mem")))
local macro_rules | `(tactic| walk_at "own_sub") => `(tactic| repeat (first | exact List.Sublist.refl _ | refine List.Sublist.cons_cons _ ?_ | refine List.Sublist.cons _ ?_))
local macro_rules | `(tactic| walk_at "own_putr") => `(tactic| repeat (first | exact PL.PutR.here | apply PL.PutR.there))
local macro_rules | `(tactic| walk_at "own_lat") => `(tactic| (first | refine PL.later_i ?_ | (dsimp only; refine PL.later_i ?_)))
local macro_rules | `(tactic| walk_at "own_wu") => `(tactic| try simp only [PL.fnW, PL.startD, List.map_cons, List.map_nil, List.length_cons, List.length_nil, List.replicate, List.replicate_succ, List.replicate_zero, List.append_nil, List.nil_append, List.cons_append, List.singleton_append, Nat.zero_add, Nat.add_zero, Nat.add_sub_cancel, Nat.reduceSub, Nat.reduceAdd, Nat.sub_zero, Nat.sub_self,
  PL.wSeq_l, PL.wIfS, PL.wRet, PL.wRetN, PL.wDrop, PL.wNext, PL.wBreak, PL.wCont, PL.wOp, PL.wUn, PL.wVar, PL.wC, PL.wCons, PL.wNil, PL.wTup, PL.wLst_a, PL.wTest, PL.wAnd, PL.wOr, PL.wNot, PL.wAndV, PL.wOrV, PL.wNotV, PL.wIf, PL.wAsg, PL.wName, PL.wPar, PL.wPar3, PL.wCB, PL.wCall, PL.wMake, PL.wYes, PL.wTru, PL.wFor, PL.wSeqI, PL.wRng1, PL.wRng2, PL.wBM, PL.wBM0, PL.wRaise, ↓PL.wFld_var, PL.wNoPart, PL.wPart, PL.wLc_a, PL.wipeD,
  List.getElem?_cons_zero, List.getElem?_cons_succ, List.set_cons_zero, List.set_cons_succ, and_true, true_and, if_true, if_false, ite_true, ite_false, reduceIte, Bool.true_eq_false, Bool.false_eq_true, eq_self])
local macro_rules | `(tactic| walk_at "own_nu") => `(tactic| ((first | refine PL.later_i ?_ | (dsimp only; refine PL.later_i ?_)); walk_at "own_wu"))
local macro_rules | `(tactic| walk_at "own_cn") => `(tactic| repeat (first | exact PL.Cn.c | exact PL.Cn.neg | exact PL.CnA.nil | exact PL.Cn.var rfl | apply PL.CnA.cons | apply PL.Cn.tup))
section
variable {π : Pr} {μ : Mem} {P : D → Mem → Prop} {XP : Exn → Mem → Prop} {d : D} {b r : Nat}
theorem law_ends_ok {m : Int} {tt : List Int} (h : TieOk m tt) (k : aLst P (pairDs (endsT tt)) μ) : S_law_ends π [tieD tt] μ P XP := by
  rw [S_law_ends_eq]
  refine ⟨rfl, ?_⟩
  unfold W_law_ends
  walk_at "own_ws"
  refine wLen_i rfl (wEq_int ?_)
  cases h with
  | @loose p s h0 h1 hs =>
    have e2 : ((((litD [p, s]).length : Nat) : Int) == 2) = true := rfl
    simp only [e2, Bool.false_eq_true, if_false, if_true]
    exact wIx_i rfl (atI_at (j := 0) rfl) (wIx_i rfl (atI_at (j := 1) rfl) (.here k))
  | @two p s q r h0 h1 hs g0 g1 hr ne =>
    have e2 : ((((litD [p, s, q, r]).length : Nat) : Int) == 2) = false := rfl
    simp only [e2, Bool.false_eq_true, if_false]
    exact wIx_i rfl (atI_at (j := 0) rfl) (wIx_i rfl (atI_at (j := 1) rfl) (wIx_i rfl (atI_at (j := 2) rfl) (wIx_i rfl (atI_at (j := 3) rfl) (.here k))))
/-- a tie's pull -/
def pullZ (sg : List Int) (t : List Int) : Int := ((endsT t).map fun e => e.2 * (sg[e.1.toNat]?.getD 0)).sum
theorem pull_norm {m : Int} {sg t : List Int} (h : TieOk m t) : pullZ sg (normT t) = pullZ sg t := by
  cases h with
  | loose => rfl
  | @two p s q r h0 h1 hs g0 g1 hr ne =>
    rw [normT4]
    split
    · simp [pullZ, endsT]; omega
    · rfl
theorem pull_small {m : Int} {sg t : List Int} (h : TieOk m t) (hs : ∀ x ∈ sg, -1 ≤ x ∧ x ≤ 1) : (pullZ sg t).natAbs ≤ 2 := by
  have g : ∀ i : Nat, -1 ≤ sg[i]?.getD 0 ∧ sg[i]?.getD 0 ≤ 1 := fun i => by
    cases e : sg[i]? with
    | none => simp
    | some x => exact hs x (List.mem_of_getElem? e)
  have o : ∀ (s x : Int), okSign s → -1 ≤ x ∧ x ≤ 1 → -1 ≤ s * x ∧ s * x ≤ 1 := fun s x a c => by rcases a with rfl | rfl <;> omega
  cases h with
  | @loose p s h0 h1 hs' =>
    have := o s _ hs' (g p.toNat)
    simp [pullZ, endsT]; omega
  | @two p s q r h0 h1 hs' g0 g1 hr ne =>
    have a := o s _ hs' (g p.toNat)
    have c := o r _ hr (g q.toNat)
    simp [pullZ, endsT]; omega
/-- the turns of both pulls -/
theorem pull_turn {m : Int} {tt sg : List Int} {q : Int × Int} {chk : Mem → Prop} (ht : TieOk m tt) (hm : ((sg.length : Nat) : Int) = m) (hs : ∀ x ∈ sg, -1 ≤ x ∧ x ≤ 1) (hq : q ∈ endsT tt) : ∃ v, sg[q.1.toNat]? = some v ∧ sg[q.1.toNat]?.getD 0 = v ∧ -1 ≤ v ∧ v ≤ 1 ∧ ((q.1.toNat : Nat) : Int) = q.1 := by
  obtain ⟨a, c, _⟩ := ends_ok ht q hq
  have hi : q.1.toNat < sg.length := by omega
  exact ⟨sg[q.1.toNat], List.getElem?_eq_getElem hi, by rw [List.getElem?_eq_getElem hi]; rfl, (hs _ (List.getElem_mem hi)).1, (hs _ (List.getElem_mem hi)).2, by omega⟩
theorem law_pull_ok {m : Int} {tt sg : List Int} (ht : TieOk m tt) (hd : seqOf μ d = some (litD sg)) (hm : ((sg.length : Nat) : Int) = m) (hs : ∀ x ∈ sg, -1 ≤ x ∧ x ≤ 1) (k : ∀ μ', Fr [] μ μ' → P (.int (pullZ sg tt)) μ') : S_law_pull π [tieD tt, d] μ P XP := by
  rw [S_law_pull_eq]
  refine ⟨rfl, ?_⟩
  unfold W_law_pull
  walk_at "own_wt"
  have H : Own [] (fun _ => True) μ μ [] := Own.start ⟨fun _ _ _ => trivial, fun _ i h => by cases h⟩ trivial (by simp) (by simp)
  refine law_ends_ok ht ?_
  refine aLst_o H ?_
  intro c1 μ1 hc1 H1
  simp only [seq_lst (H1.get (c := c1) List.mem_cons_self)]
  refine ⟨by rw [show (pairDs (endsT tt)).length = (endsT tt).length from List.length_map _, sizeLine_eq]; cases ht <;> simp [endsT], lc_map (fun d => match d with | .tup [.int a, .int s] => .int (s * (sg[a.toNat]?.getD 0)) | _ => .non) (H1.stay H1 (c := c1) List.mem_cons_self List.mem_cons_self) ?_ [] _ ?_⟩
  · intro x hx P z
    obtain ⟨q, hq, rfl⟩ := List.mem_map.mp hx
    obtain ⟨v, h1, h2, h3, h4, h5⟩ := pull_turn (chk := fun _ => True) ht hm hs hq
    have hsg := (ends_ok ht q hq).2.2
    walk_at "own_wt"
    refine wIx_i (seq_fr H1.fr hd (offs_nil _)) (by have := atI_at (show (litD sg)[q.1.toNat]? = some (.int v) by rw [litD, List.getElem?_map, h1]; rfl); rwa [h5] at this) ?_
    refine wMul_i (mul_ok (sign_small hsg) (by omega)) ?_
    simp only [h2] at z
    exact z
  have e : ([] ++ (pairDs (endsT tt)).map fun d => match d with | .tup [.int a, .int s] => D.int (s * (sg[a.toNat]?.getD 0)) | _ => D.non) = litD ((endsT tt).map fun e => e.2 * (sg[e.1.toNat]?.getD 0)) := by simp [pairDs, litD]
  rw [e]
  refine aLst_o H1 ?_
  intro c2 μ2 hc2 H2
  refine wSum_i (H2.get (c := c2) List.mem_cons_self) ?_
  exact .here (k _ H2.fr)
theorem tie_pull_ok {m : Int} {tt sg : List Int} (ht : TieOk m tt) (hd : seqOf μ d = some (litD sg)) (hm : ((sg.length : Nat) : Int) = m) (hs : ∀ x ∈ sg, -1 ≤ x ∧ x ≤ 1) (k : ∀ μ', Fr [] μ μ' → P (.int (pullZ sg tt)) μ') : S_tie_pull π [tieD tt, d] μ P XP := by
  rw [S_tie_pull_eq]
  refine ⟨rfl, ?_⟩
  unfold W_tie_pull
  walk_at "own_wt"
  have H : Own [] (fun _ => True) μ μ [] := Own.start ⟨fun _ _ _ => trivial, fun _ i h => by cases h⟩ trivial (by simp) (by simp)
  refine tie_ends_ok ht ?_
  refine aLst_o H ?_
  intro c1 μ1 hc1 H1
  simp only [seq_lst (H1.get (c := c1) List.mem_cons_self)]
  refine ⟨by rw [show (pairDs (endsT tt)).length = (endsT tt).length from List.length_map _, sizeLine_eq]; cases ht <;> simp [endsT], lc_map (fun d => match d with | .tup [.int a, .int s] => .int (s * (sg[a.toNat]?.getD 0)) | _ => .non) (H1.stay H1 (c := c1) List.mem_cons_self List.mem_cons_self) ?_ [] _ ?_⟩
  · intro x hx P z
    obtain ⟨q, hq, rfl⟩ := List.mem_map.mp hx
    obtain ⟨v, h1, h2, h3, h4, h5⟩ := pull_turn (chk := fun _ => True) ht hm hs hq
    have hsg := (ends_ok ht q hq).2.2
    walk_at "own_wt"
    refine wIx_i (seq_fr H1.fr hd (offs_nil _)) (by have := atI_at (show (litD sg)[q.1.toNat]? = some (.int v) by rw [litD, List.getElem?_map, h1]; rfl); rwa [h5] at this) ?_
    refine wMul_i (mul_ok (sign_small hsg) (by omega)) ?_
    simp only [h2] at z
    exact z
  have e : ([] ++ (pairDs (endsT tt)).map fun d => match d with | .tup [.int a, .int s] => D.int (s * (sg[a.toNat]?.getD 0)) | _ => D.non) = litD ((endsT tt).map fun e => e.2 * (sg[e.1.toNat]?.getD 0)) := by simp [pairDs, litD]
  rw [e]
  refine aLst_o H1 ?_
  intro c2 μ2 hc2 H2
  refine wSum_i (H2.get (c := c2) List.mem_cons_self) ?_
  exact .here (k _ H2.fr)
def lkMin (sg : List Int) (ts : List (List Int)) (bs : List (Int × Int)) : Int := ((ts.zip bs).map fun q => min (pullZ sg q.1 * q.2.1) (pullZ sg q.1 * q.2.2)).sum
def lkMax (sg : List Int) (ts : List (List Int)) (bs : List (Int × Int)) : Int := ((ts.zip bs).map fun q => max (pullZ sg q.1 * q.2.1) (pullZ sg q.1 * q.2.2)).sum
def totZ (sg sm : List Int) : Int := ((sg.zip sm).map fun q => q.1 * q.2).sum
theorem lk_cons {sg : List Int} {t : List Int} {q : Int × Int} {ts : List (List Int)} {bs : List (Int × Int)} :
    lkMin sg (t :: ts) (q :: bs) = min (pullZ sg t * q.1) (pullZ sg t * q.2) + lkMin sg ts bs ∧ lkMax sg (t :: ts) (q :: bs) = max (pullZ sg t * q.1) (pullZ sg t * q.2) + lkMax sg ts bs := by
  simp [lkMin, lkMax]
theorem lk_norm {m : Int} {sg : List Int} : ∀ (ts : List (List Int)) (bs : List (Int × Int)), (∀ t ∈ ts, TieOk m t) → lkMin sg (ts.map normT) bs = lkMin sg ts bs ∧ lkMax sg (ts.map normT) bs = lkMax sg ts bs
  | [], _, _ => ⟨rfl, rfl⟩
  | t :: ts, [], _ => by simp [lkMin, lkMax]
  | t :: ts, q :: bs, h => by
    obtain ⟨a, c⟩ := lk_norm ts bs fun x hx => h x (by simp [hx])
    rw [List.map_cons, lk_cons.1, lk_cons.2, lk_cons.1, lk_cons.2, a, c, pull_norm (h t (by simp))]
    exact ⟨rfl, rfl⟩
theorem pairs_lit : ∀ a c : List Int, pairs (litD a) (litD c) = pairDs (a.zip c)
  | [], _ => by simp [litD, pairs, pairDs]
  | _ :: _, [] => by simp [litD, pairs, pairDs]
  | x :: a, y :: c => by
    have ih := pairs_lit a c
    unfold litD pairDs at ih ⊢
    simp only [List.map_cons, pairs, List.zip_cons_cons, ih]

theorem stays_of {μ1 μ3 : Mem} {d : D} {xs : List D} (h : seqOf μ d = some xs) (f : Fr [] μ μ1) (f3 : Fr [] μ μ3) : stays μ1 d μ3 := by
  cases d with
  | cell n =>
    rw [seq_cell] at h
    cases e : μ[n]? with
    | none => rw [e] at h; cases h
    | some m => exact (f3.get e (by simp)).trans (f.get e (by simp)).symm
  | _ => trivial
/-! sums at the points -/
def addE (z : Int) (l : List Int) (e : Int × Int) : List Int := l.set e.1.toNat (l[e.1.toNat]?.getD 0 + e.2 * z)
def sumsT (z : Int) (t : List Int) (l : List Int) : List Int := (endsT t).foldl (addE z) l
def sumsF : List (List Int) → List Int → List Int → List Int
  | t :: ts, z :: zs, l => sumsF ts zs (sumsT z t l)
  | _, _, l => l
theorem sumsF_eq (ts : List (List Int)) (zs l : List Int) : sumsF ts zs l = (ts.zip zs).foldl (fun l q => sumsT q.2 q.1 l) l := by
  induction ts generalizing zs l with
  | nil => cases zs <;> rfl
  | cons t ts ih =>
    cases zs with
    | nil => rfl
    | cons z zs => rw [sumsF, ih]; rfl
theorem addE_len (z : Int) (l : List Int) (e : Int × Int) : (addE z l e).length = l.length := List.length_set
theorem sumsT_len (z : Int) (t l : List Int) : (sumsT z t l).length = l.length := by
  unfold sumsT
  generalize endsT t = es
  induction es generalizing l with
  | nil => rfl
  | cons e es ih => rw [List.foldl_cons, ih, addE_len]
theorem sumsF_len : ∀ (ts : List (List Int)) (zs l : List Int), (sumsF ts zs l).length = l.length
  | [], zs, l => by cases zs <;> rfl
  | _ :: _, [], l => rfl
  | t :: ts, z :: zs, l => by rw [sumsF, sumsF_len ts zs, sumsT_len]
theorem sumsT_norm {m : Int} {z : Int} {t l : List Int} (h : TieOk m t) : sumsT z (normT t) l = sumsT z t l := by
  cases h with
  | loose => rfl
  | @two p s q u h0 h1 hs g0 g1 hu ne =>
    rw [normT4]
    split
    · simp only [sumsT, endsT, List.foldl_cons, List.foldl_nil, addE]
      have a : p.toNat ≠ q.toNat := by omega
      rw [List.getElem?_set_ne (Ne.symm a), List.getElem?_set_ne a, List.set_comm _ _ a]
    · rfl
theorem sumsF_norm {m : Int} : ∀ (ts : List (List Int)) (zs l : List Int), (∀ t ∈ ts, TieOk m t) → sumsF (ts.map normT) zs l = sumsF ts zs l
  | [], zs, l, _ => rfl
  | _ :: _, [], l, _ => rfl
  | t :: ts, z :: zs, l, h => by rw [List.map_cons, sumsF, sumsF, sumsT_norm (h t (by simp)), sumsF_norm ts zs _ fun x hx => h x (by simp [hx])]
def sumsZ (p : Nat) (ts : List (List Int)) (zs : List Int) : List Int := sumsF ts zs (List.replicate p 0)
theorem sumsZ_len (p : Nat) (ts : List (List Int)) (zs : List Int) : (sumsZ p ts zs).length = p := by unfold sumsZ; rw [sumsF_len]; simp
theorem pairs_app (a c : List D) : pairs a c = (a.zip c).map fun q => D.tup [q.1, q.2] := by
  induction a generalizing c with
  | nil => cases c <;> rfl
  | cons x a ih =>
    cases c with
    | nil => rfl
    | cons y c => rw [pairs, ih]; rfl
theorem pairs_ties (ts : List (List Int)) (zs : List Int) : pairs (ts.map tieD) (litD zs) = (ts.zip zs).map fun q => D.tup [tieD q.1, .int q.2] := by
  rw [pairs_app]; unfold litD; rw [List.zip_map, List.map_map]; rfl
theorem litAt {l : List Int} {i : Nat} (h : i < l.length) : atI (litD l) ((i : Nat) : Int) = some (.int (l[i]?.getD 0)) := atI_at (by unfold litD; rw [List.getElem?_map, List.getElem?_eq_getElem h]; rfl)
theorem wMul_lit0 {SS : List Nat} {I : Mem → Prop} {μ0 : Mem} {L : List (Nat × M)} {P : D → Mem → Prop} {p : Nat} {c : Nat} (H : Own SS I μ0 μ L) (g : μ[c]? = some (.lst [.int 0])) (hp : p ≤ 5000) (k : ∀ c' μ', μ.length ≤ c' → Own SS I μ0 μ' ((c', .lst (litD (List.replicate p 0))) :: L) → P (.cell c') μ') : wMul (.cell c) (.int (p : Nat)) μ P := by
  show (match lstOf μ (.cell c) with | some a => _ | none => False)
  rw [lst_lst g]
  refine ⟨by omega, by omega, by simp [sizeLine_eq]; omega, ?_⟩
  have e : (List.replicate (((p : Nat) : Int)).toNat [D.int 0]).flatten = litD (List.replicate p 0) := by
    rw [Int.toNat_natCast]
    unfold litD
    rw [List.map_replicate]
    clear k hp
    induction p with
    | zero => rfl
    | succ n ih => rw [List.replicate_succ, List.flatten_cons, List.replicate_succ, ih]; rfl
  rw [e]
  exact k _ _ (Nat.le_refl _) (H.new _)
theorem sign_mul {s z : Int} (h : okSign s) (hz : z.natAbs < 2 ^ 240) : CMulW s z := mul_ok (by rcases h with rfl | rfl <;> decide) (by omega)
theorem law_sums_ok {p ct : Nat} {ts : List (List Int)} {zs : List Int} {d2 : D} (ht : ∀ t ∈ ts, TieOk (p : Nat) t) (g : μ[ct]? = some (.lst (ts.map tieD))) (h2 : seqOf μ d2 = some (litD zs)) (hp : p ≤ 5000) (few : ts.length ≤ 3000) (hz : ∀ x ∈ zs, x.natAbs < 2 ^ 240)
    (k : ∀ c μ', Fr [] μ μ' → μ.length ≤ c → μ'[c]? = some (.lst (litD (sumsZ p ts zs))) → P (.cell c) μ') : S_law_sums π [.int (p : Nat), .cell ct, d2] μ P XP := by
  rw [S_law_sums_eq]
  refine ⟨rfl, ?_⟩
  unfold W_law_sums
  have H : Own [] (fun _ => True) μ μ [(ct, .lst (ts.map tieD))] := own0 (by simpa using g)
  walk_at "own_wu"
  refine aLst_o H ?_
  intro c1 μ1 hc1 H1
  refine wMul_lit0 H1 (H1.get (c := c1) (by walk_at "own_mem")) hp ?_
  intro c2 μ2 hc2 H2
  have lc2 : μ.length ≤ c2 := Nat.le_trans H1.fr.len hc2
  have H3 : Own [] (fun _ => True) μ μ2 [(c2, .lst (litD (List.replicate p 0))), (ct, .lst (ts.map tieD))] := H2.less (by walk_at "own_sub")
  have st2 := seq_fr H3.fr h2 (offs_nil _)
  walk_at "own_lat"
  refine wSeq_i ?_
  simp only [wFor, wZipI, wCons, wNil, wVar, List.getElem?_cons_zero, List.getElem?_cons_succ, seq_lst (H3.get (c := ct) (m := .lst (ts.map tieD)) (by walk_at "own_mem")), st2]
  rw [pairs_ties]
  refine loop_inv (fun xs δ μ3 => ∃ (dn tl : List (List Int × Int)) (o4 o5 o6 o7 : Option D), xs = tl.map (fun q => D.tup [tieD q.1, .int q.2]) ∧ ts.zip zs = dn ++ tl ∧ δ = [some (.int (p : Nat)), some (.cell ct), some d2, some (.cell c2), o4, o5, o6, o7] ∧ Own [] (fun _ => True) μ μ3 [(c2, .lst (litD (dn.foldl (fun l q => sumsT q.2 q.1 l) (List.replicate p 0)))), (ct, .lst (ts.map tieD))])
    (fun _ _ μ3 ⟨_, _, _, _, _, _, _, _, _, H4⟩ => ⟨H3.stay H4 (c := ct) (by walk_at "own_mem") (by walk_at "own_mem"), stays_of h2 H3.fr H4.fr⟩) ?_ _ _ _ ⟨[], ts.zip zs, none, none, none, none, rfl, rfl, rfl, H3⟩ ?_
  · rintro x xs δ μ3 ⟨dn, tl, o4, o5, o6, o7, ex, eS, rfl, H4⟩ P' _ _ nx
    cases tl with
    | nil => cases ex
    | cons q tl =>
    obtain ⟨rfl, rfl⟩ : x = D.tup [tieD q.1, .int q.2] ∧ xs = tl.map (fun q => D.tup [tieD q.1, .int q.2]) := by simpa using ex
    have hq : q ∈ ts.zip zs := by rw [eS]; simp
    have hq1 : q.1 ∈ ts := (List.of_mem_zip hq).1
    have hq2 : q.2 ∈ zs := (List.of_mem_zip hq).2
    have hTie := ht q.1 hq1
    generalize hl : dn.foldl (fun l q => sumsT q.2 q.1 l) (List.replicate p 0) = l at H4
    have ll : l.length = p := by
      rw [← hl]
      have : ∀ (dn : List (List Int × Int)) (l : List Int), (dn.foldl (fun l q => sumsT q.2 q.1 l) l).length = l.length := fun dn => by
        induction dn with
        | nil => intro l; rfl
        | cons x dn ih => intro l; rw [List.foldl_cons, ih, sumsT_len]
      rw [this]; simp
    walk_at "own_wg"
    simp only [wFor, wSeqI, wCall, wCons, wNil, wVar, List.append_nil, List.getElem?_cons_zero, List.getElem?_cons_succ]
    refine law_ends_ok hTie ?_
    refine aLst_o H4 ?_
    intro c5 μ5 hc5 H5
    simp only [seq_lst (H5.get (c := c5) (m := .lst (pairDs (endsT q.1))) (by walk_at "own_mem"))]
    refine loop_inv (fun ys δ μ6 => ∃ (d2' t2 : List (Int × Int)) (o6 o7 : Option D), ys = pairDs t2 ∧ endsT q.1 = d2' ++ t2 ∧ δ = [some (.int (p : Nat)), some (.cell ct), some d2, some (.cell c2), some (tieD q.1), some (.int q.2), o6, o7] ∧ Own [] (fun _ => True) μ μ6 [(c5, .lst (pairDs (endsT q.1))), (c2, .lst (litD (d2'.foldl (addE q.2) l))), (ct, .lst (ts.map tieD))])
      (fun _ _ μ6 ⟨_, _, _, _, _, _, _, H6⟩ => H5.stay H6 (c := c5) (by walk_at "own_mem") (by walk_at "own_mem")) ?_ _ _ _ ⟨[], endsT q.1, _, _, rfl, rfl, rfl, H5⟩ ?_
    · rintro y ys δ μ6 ⟨d2', t2, o6, o7, ey, eE, rfl, H6⟩ P'' _ _ nx2
      cases t2 with
      | nil => cases ey
      | cons e t2 =>
      obtain ⟨rfl, rfl⟩ : y = .tup [.int e.1, .int e.2] ∧ ys = pairDs t2 := by simpa [pairDs] using ey
      obtain ⟨e0, e1, es⟩ := ends_ok hTie e (by rw [eE]; simp)
      have hlen : (d2'.foldl (addE q.2) l).length = p := by
        have : ∀ (dn : List (Int × Int)) (l : List Int), (dn.foldl (addE q.2) l).length = l.length := fun dn => by
          induction dn with
          | nil => intro l; rfl
          | cons x dn ih => intro l; rw [List.foldl_cons, ih, addE_len]
        rw [this, ll]
      obtain ⟨i, hi⟩ : ∃ i : Nat, e.1 = (i : Nat) := ⟨e.1.toNat, by omega⟩
      walk_at "own_wg"
      simp only [wAsg, wOp, wVar, List.getElem?_cons_zero, List.getElem?_cons_succ]
      rw [hi]
      refine wIx_i (seq_lst (H6.get (c := c2) (by walk_at "own_mem"))) (litAt (by rw [hlen]; omega)) ?_
      refine wMul_i (sign_mul es (hz q.2 hq2)) ?_
      refine wAdd_i ?_
      refine wGsub_o H6 (n := c2) (x := (i : Nat)) (j := i) (xs := litD (d2'.foldl (addE q.2) l)) (fun P XP h => h) (fun P XP h => h) (by walk_at "own_putr") lc2 (ixN_nat (by rw [len_litD, hlen]; omega)) ?_
      intro μ7 H7
      rw [← hi]
      refine nx2 _ _ ⟨d2' ++ [e], t2, some (.int e.1), some (.int e.2), rfl, by rw [eE]; simp, rfl, ?_⟩
      rw [List.foldl_append]
      show Own _ _ _ _ [_, (c2, .lst (litD (addE q.2 (d2'.foldl (addE q.2) l) e))), _]
      unfold addE
      rw [hi, Int.toNat_natCast]
      have eset : (litD (d2'.foldl (addE q.2) l)).set i (.int ((d2'.foldl (addE q.2) l)[i]?.getD 0 + e.2 * q.2)) = litD ((d2'.foldl (addE q.2) l).set i ((d2'.foldl (addE q.2) l)[i]?.getD 0 + e.2 * q.2)) := by unfold litD; rw [List.map_set]
      unfold addE at eset H7
      rw [← eset]; exact H7
    · rintro δ μ6 ⟨d2', t2, o6, o7, ey, eE, rfl, H6⟩
      cases t2 with
      | cons _ _ => cases ey
      | nil =>
      rw [List.append_nil] at eE
      refine nx _ _ ⟨dn ++ [q], tl, _, _, _, _, rfl, by rw [eS]; simp, rfl, ?_⟩
      rw [List.foldl_append, hl]
      show Own _ _ _ _ [(c2, .lst (litD (sumsT q.2 q.1 l))), _]
      unfold sumsT
      rw [eE]
      exact H6.tail
  · rintro δ μ3 ⟨dn, tl, o4, o5, o6, o7, ex, eS, rfl, H4⟩
    cases tl with
    | cons _ _ => cases ex
    | nil =>
    rw [List.append_nil] at eS
    rw [← eS, ← sumsF_eq] at H4
    walk_at "own_lat"
    simp only [wRet, wVar, List.getElem?_cons_zero, List.getElem?_cons_succ]
    exact .here (k c2 _ H4.fr lc2 (H4.get (c := c2) (by walk_at "own_mem")))
end
end G
namespace G
open PySem L2 PL
local macro_rules | `(tactic| walk_at "own_ws") => `(tactic| try simp only [PL.fnW, PL.startD, List.map_cons, List.map_nil, List.length_cons, List.length_nil, List.replicate, List.replicate_succ, List.replicate_zero, List.append_nil, List.nil_append, List.cons_append, List.singleton_append, Nat.zero_add, Nat.add_zero, Nat.add_sub_cancel, Nat.reduceSub, Nat.reduceAdd, Nat.sub_zero, Nat.sub_self,
  PL.wSeq, PL.wIfS, PL.wRet, PL.wRetN, PL.wDrop, PL.wNext, PL.wBreak, PL.wCont, PL.wOp, PL.wUn, PL.wVar, PL.wC, PL.wCons, PL.wNil, PL.wTup, PL.wLst, PL.wTest, PL.wAnd, PL.wOr, PL.wNot, PL.wAndV, PL.wOrV, PL.wNotV, PL.wIf, PL.wChain, PL.wAsg, PL.wName, PL.wGtup, PL.wGunl, PL.wGcons, PL.wGnil, PL.wPar, PL.wPar3, PL.wAug, PL.wCB, PL.wCall, PL.wMake, PL.wMakeK, PL.wYes, PL.wTru, PL.wFor, PL.wSeqI, PL.wEnumI, PL.wZipI, PL.wRng1, PL.wRng2, PL.wBM, PL.wBM0, PL.wLstRg1, PL.wRaise, PL.wFldS, ↓PL.wFld_var, PL.wSet0, PL.wSAdd, PL.wNoPart, PL.wPart, PL.wSl, PL.wLc, PL.wipeD,
  PL.oSub, PL.oMod, PL.oFdiv, PL.oPow, PL.oLt, PL.oLe, PL.oGt, PL.oGe, PL.wI0, PL.wI2, PL.wB0, PL.wIp, PL.wNeg, PL.wR1, PL.one1, PL.two2, PL.ints1, PL.ints2,
  List.getElem?_cons_zero, List.getElem?_cons_succ, List.set_cons_zero, List.set_cons_succ, and_true, true_and, if_true, if_false, ite_true, ite_false, reduceIte, Bool.true_eq_false, Bool.false_eq_true, eq_self])
local macro_rules | `(tactic| walk_at "own_wt") => `(tactic| try simp only [PL.fnW, PL.startD, List.map_cons, List.map_nil, List.length_cons, List.length_nil, List.replicate, List.replicate_succ, List.replicate_zero, List.append_nil, List.nil_append, List.cons_append, List.singleton_append, Nat.zero_add, Nat.add_zero, Nat.add_sub_cancel, Nat.reduceSub, Nat.reduceAdd, Nat.sub_zero, Nat.sub_self,
  PL.wSeq_l, PL.wIfS, PL.wRet, PL.wRetN, PL.wDrop, PL.wNext, PL.wBreak, PL.wCont, PL.wOp, PL.wUn, PL.wVar, PL.wC, PL.wCons, PL.wNil, PL.wTup, PL.wLst_a, PL.wTest, PL.wAnd, PL.wOr, PL.wNot, PL.wAndV, PL.wOrV, PL.wNotV, PL.wIf, PL.wChain, PL.wAsg, PL.wName, PL.wGtup, PL.wGunl, PL.wGcons, PL.wGnil, PL.wPar, PL.wPar3, PL.wAug, PL.wCB, PL.wCall, PL.wMake, PL.wMakeK, PL.wYes, PL.wTru, PL.wFor, PL.wSeqI, PL.wEnumI, PL.wZipI, PL.wRng1, PL.wRng2, PL.wBM, PL.wBM0, PL.wLstRg1_a, PL.wRaise, PL.wFldS, ↓PL.wFld_var, PL.wSet0, PL.wSAdd, PL.wNoPart, PL.wPart, PL.wSl_eq, PL.wLc_a, PL.wipeD,
  PL.oSub, PL.oMod, PL.oFdiv, PL.oPow, PL.oLt, PL.oLe, PL.oGt, PL.oGe, PL.wI0, PL.wI2, PL.wB0, PL.wIp, PL.wNeg, PL.wR1, PL.one1, PL.two2, PL.ints1, PL.ints2,
  List.getElem?_cons_zero, List.getElem?_cons_succ, List.set_cons_zero, List.set_cons_succ, and_true, true_and, if_true, if_false, ite_true, ite_false, reduceIte, Bool.true_eq_false, Bool.false_eq_true, eq_self])
local macro_rules | `(tactic| walk_at "own_nx") => `(tactic| ((first | refine PL.later_i ?_ | (dsimp only; refine PL.later_i ?_)); walk_at "own_wt"))
local macro_rules | `(tactic| walk_at "own_wg") => `(tactic| simp only [PL.wGtup, PL.wGcons, PL.wGnil, PL.wName, List.length_cons, List.length_nil, List.set_cons_zero, List.set_cons_succ, Nat.zero_add, Nat.reduceAdd, true_and])
local macro_rules | `(tactic| walk_at "own_mem") => `(tactic| repeat (first | exact List.Mem.head _ | refine List.Mem.tail _ ?_))
local macro_rules | `(tactic| walk_at "own_mm") => `(tactic| exact PL.Own.get (by assumption) (by walk_at "own_mem"))
local macro_rules | `(tactic| walk_at "own_sq") => `(tactic| first | rfl | exact PL.seq_lst (PL.Own.get (by assumption) (by walk_at "own_mem")))
local macro_rules | `(tactic| walk_at "own_sub") => `(tactic| repeat (first | exact List.Sublist.refl _ | refine List.Sublist.cons_cons _ ?_ | refine List.Sublist.cons _ ?_))
local macro_rules | `(tactic| walk_at "own_putr") => `(tactic| repeat (first | exact PL.PutR.here | apply PL.PutR.there))
local macro_rules | `(tactic| walk_at "own_lat") => `(tactic| (first | refine PL.later_i ?_ | (dsimp only; refine PL.later_i ?_)))
local macro_rules | `(tactic| walk_at "own_wu") => `(tactic| try simp only [PL.fnW, PL.startD, List.map_cons, List.map_nil, List.length_cons, List.length_nil, List.replicate, List.replicate_succ, List.replicate_zero, List.append_nil, List.nil_append, List.cons_append, List.singleton_append, Nat.zero_add, Nat.add_zero, Nat.add_sub_cancel, Nat.reduceSub, Nat.reduceAdd, Nat.sub_zero, Nat.sub_self,
  PL.wSeq_l, PL.wIfS, PL.wRet, PL.wRetN, PL.wDrop, PL.wNext, PL.wBreak, PL.wCont, PL.wOp, PL.wUn, PL.wVar, PL.wC, PL.wCons, PL.wNil, PL.wTup, PL.wLst_a, PL.wTest, PL.wAnd, PL.wOr, PL.wNot, PL.wAndV, PL.wOrV, PL.wNotV, PL.wIf, PL.wAsg, PL.wName, PL.wPar, PL.wPar3, PL.wCB, PL.wCall, PL.wMake, PL.wYes, PL.wTru, PL.wFor, PL.wSeqI, PL.wRng1, PL.wRng2, PL.wBM, PL.wBM0, PL.wRaise, ↓PL.wFld_var, PL.wNoPart, PL.wPart, PL.wLc_a, PL.wipeD,
  List.getElem?_cons_zero, List.getElem?_cons_succ, List.set_cons_zero, List.set_cons_succ, and_true, true_and, if_true, if_false, ite_true, ite_false, reduceIte, Bool.true_eq_false, Bool.false_eq_true, eq_self])
local macro_rules | `(tactic| walk_at "own_nu") => `(tactic| ((first | refine PL.later_i ?_ | (dsimp only; refine PL.later_i ?_)); walk_at "own_wu"))
local macro_rules | `(tactic| walk_at "own_cn") => `(tactic| repeat (first | exact PL.Cn.c | exact PL.Cn.neg | exact PL.CnA.nil | exact PL.Cn.var rfl | apply PL.CnA.cons | apply PL.Cn.tup))
section
variable {π : Pr} {μ : Mem} {P : D → Mem → Prop} {XP : Exn → Mem → Prop} {d : D} {b r w n p : Nat} {ts : List (List Int)} {bs : List (Int × Int)} {sm : List Int}
theorem wAugS_o {SS : List Nat} {I : Mem → Prop} {μ0 : Mem} {L L' : List (Nat × M)} {f : Int → Int → Int} {i j n : Nat} {k u v : Int} {e : WE} {iW : Nat} {δ : En} {Q : PO} {xs : List D} (H : Own SS I μ0 μ L) (h1 : δ[i]? = some (some (.cell n))) (h2 : δ[iW]? = some (some (.int k))) (ha : atI xs k = some (.int u))
    (he : ∀ (P : D → Mem → Prop) (XP : QX), P (.int v) μ → e δ μ P XP) (r : PutR n (.lst xs) (.lst (xs.set j (.int (f u v)))) L L') (h0 : μ0.length ≤ n) (hj : L2.ixN xs.length k = some j) (kk : ∀ μ', Own SS I μ0 μ' L' → Q.nx δ μ') : wAugS f (wVar i) (wVar iW) e δ μ Q := by
  have g := H.get r.mem
  unfold wAugS wVar
  rw [h1, h2]
  simp only [lst_lst g, ha]
  refine he _ _ ?_
  simp only [cell_lst g, hj]
  exact kk _ (H.put h0 r)
theorem sums_at_ok {zs : List Int} (F : Facts π) (hw : WebIs π μ w (p : Nat) ts) (ht : ∀ t ∈ ts, TieOk (p : Nat) t) (hp : p ≤ 5000) (few : ts.length ≤ 3000) (hz : ∀ x ∈ zs, x.natAbs < 2 ^ 240)
    (k : ∀ c μ', Fr [] μ μ' → μ.length ≤ c → μ'[c]? = some (.lst (litD (sumsZ p ts zs))) → P (.cell c) μ') : S_sums_at π [.cell w, .tup (litD zs)] μ P XP := by
  rw [S_sums_at_eq]
  refine ⟨rfl, ?_⟩
  unfold W_sums_at
  have H : Own [] (fun _ => True) μ μ [(w, webM π (p : Nat) ts)] := own0 (by simp; exact hw)
  walk_at "own_wu"
  refine aLst_o H ?_
  intro c1 μ1 hc1 H1
  refine wFldV_i (H1.get (c := w) (by walk_at "own_mem")) F.fl.1 rfl rfl ?_
  refine wMul_lit0 H1 (H1.get (c := c1) (by walk_at "own_mem")) hp ?_
  intro c2 μ2 hc2 H2
  have lc2 : μ.length ≤ c2 := Nat.le_trans H1.fr.len hc2
  have H3 : Own [] (fun _ => True) μ μ2 [(c2, .lst (litD (List.replicate p 0))), (w, webM π (p : Nat) ts)] := H2.less (by walk_at "own_sub")
  walk_at "own_lat"
  refine wSeq_i ?_
  simp only [wFor, wZipI, wCons, wNil, wVar, ↓wFld_var, List.getElem?_cons_zero, List.getElem?_cons_succ]
  refine wFldV_i (H3.get (c := w) (by walk_at "own_mem")) F.fl.2.1 rfl rfl ?_
  simp only [seqOf]
  rw [pairs_ties]
  refine loop_inv (fun xs δ μ3 => ∃ (dn tl : List (List Int × Int)) (o4 o5 o6 o7 : Option D), xs = tl.map (fun q => D.tup [tieD q.1, .int q.2]) ∧ ts.zip zs = dn ++ tl ∧ δ = [some (.cell w), some (.tup (litD zs)), some (.cell c2), o4, o5, o6, o7] ∧ Own [] (fun _ => True) μ μ3 [(c2, .lst (litD (dn.foldl (fun l q => sumsT q.2 q.1 l) (List.replicate p 0)))), (w, webM π (p : Nat) ts)])
    (fun _ _ μ3 _ => ⟨trivial, trivial⟩) ?_ _ _ _ ⟨[], ts.zip zs, none, none, none, none, rfl, rfl, rfl, H3⟩ ?_
  · rintro x xs δ μ3 ⟨dn, tl, o4, o5, o6, o7, ex, eS, rfl, H4⟩ P' _ _ nx
    cases tl with
    | nil => cases ex
    | cons q tl =>
    obtain ⟨rfl, rfl⟩ : x = D.tup [tieD q.1, .int q.2] ∧ xs = tl.map (fun q => D.tup [tieD q.1, .int q.2]) := by simpa using ex
    have hq : q ∈ ts.zip zs := by rw [eS]; simp
    have hq1 : q.1 ∈ ts := (List.of_mem_zip hq).1
    have hq2 : q.2 ∈ zs := (List.of_mem_zip hq).2
    have hTie := ht q.1 hq1
    generalize hl : dn.foldl (fun l q => sumsT q.2 q.1 l) (List.replicate p 0) = l at H4
    have ll : l.length = p := by
      rw [← hl]
      have : ∀ (dn : List (List Int × Int)) (l : List Int), (dn.foldl (fun l q => sumsT q.2 q.1 l) l).length = l.length := fun dn => by
        induction dn with
        | nil => intro l; rfl
        | cons x dn ih => intro l; rw [List.foldl_cons, ih, sumsT_len]
      rw [this]; simp
    walk_at "own_wg"
    simp only [wFor, wSeqI, wCall, wCons, wNil, wVar, List.append_nil, List.getElem?_cons_zero, List.getElem?_cons_succ]
    refine tie_ends_ok hTie ?_
    refine aLst_o H4 ?_
    intro c5 μ5 hc5 H5
    simp only [seq_lst (H5.get (c := c5) (m := .lst (pairDs (endsT q.1))) (by walk_at "own_mem"))]
    refine loop_inv (fun ys δ μ6 => ∃ (d2' t2 : List (Int × Int)) (o6 o7 : Option D), ys = pairDs t2 ∧ endsT q.1 = d2' ++ t2 ∧ δ = [some (.cell w), some (.tup (litD zs)), some (.cell c2), some (tieD q.1), some (.int q.2), o6, o7] ∧ Own [] (fun _ => True) μ μ6 [(c5, .lst (pairDs (endsT q.1))), (c2, .lst (litD (d2'.foldl (addE q.2) l))), (w, webM π (p : Nat) ts)])
      (fun _ _ μ6 ⟨_, _, _, _, _, _, _, H6⟩ => H5.stay H6 (c := c5) (by walk_at "own_mem") (by walk_at "own_mem")) ?_ _ _ _ ⟨[], endsT q.1, _, _, rfl, rfl, rfl, H5⟩ ?_
    · rintro y ys δ μ6 ⟨d2', t2, o6, o7, ey, eE, rfl, H6⟩ P'' _ _ nx2
      cases t2 with
      | nil => cases ey
      | cons e t2 =>
      obtain ⟨rfl, rfl⟩ : y = .tup [.int e.1, .int e.2] ∧ ys = pairDs t2 := by simpa [pairDs] using ey
      obtain ⟨e0, e1, es⟩ := ends_ok hTie e (by rw [eE]; simp)
      have hlen : (d2'.foldl (addE q.2) l).length = p := by
        have : ∀ (dn : List (Int × Int)) (l : List Int), (dn.foldl (addE q.2) l).length = l.length := fun dn => by
          induction dn with
          | nil => intro l; rfl
          | cons x dn ih => intro l; rw [List.foldl_cons, ih, addE_len]
        rw [this, ll]
      obtain ⟨i, hi⟩ : ∃ i : Nat, e.1 = (i : Nat) := ⟨e.1.toNat, by omega⟩
      walk_at "own_wg"
      refine wAugS_o H6 (n := c2) (k := (i : Nat)) (j := i) (u := (d2'.foldl (addE q.2) l)[i]?.getD 0) (v := e.2 * q.2) (xs := litD (d2'.foldl (addE q.2) l)) rfl (by rw [← hi]; rfl) (litAt (by rw [hlen]; omega)) ?_ (by walk_at "own_putr") lc2 (ixN_nat (by rw [len_litD, hlen]; omega)) ?_
      · intro P XP hP
        simp only [wOp, wVar, List.getElem?_cons_zero, List.getElem?_cons_succ]
        exact wMul_i (sign_mul es (hz q.2 hq2)) hP
      intro μ7 H7
      refine nx2 _ _ ⟨d2' ++ [e], t2, some (.int e.1), some (.int e.2), rfl, by rw [eE]; simp, rfl, ?_⟩
      rw [List.foldl_append]
      show Own _ _ _ _ [_, (c2, .lst (litD (addE q.2 (d2'.foldl (addE q.2) l) e))), _]
      unfold addE
      rw [hi, Int.toNat_natCast]
      have eset : (litD (d2'.foldl (addE q.2) l)).set i (.int ((d2'.foldl (addE q.2) l)[i]?.getD 0 + e.2 * q.2)) = litD ((d2'.foldl (addE q.2) l).set i ((d2'.foldl (addE q.2) l)[i]?.getD 0 + e.2 * q.2)) := by unfold litD; rw [List.map_set]
      unfold addE at eset H7
      rw [← eset]; exact H7
    · rintro δ μ6 ⟨d2', t2, o6, o7, ey, eE, rfl, H6⟩
      cases t2 with
      | cons _ _ => cases ey
      | nil =>
      rw [List.append_nil] at eE
      refine nx _ _ ⟨dn ++ [q], tl, _, _, _, _, rfl, by rw [eS]; simp, rfl, ?_⟩
      rw [List.foldl_append, hl]
      show Own _ _ _ _ [(c2, .lst (litD (sumsT q.2 q.1 l))), _]
      unfold sumsT
      rw [eE]
      exact H6.tail
  · rintro δ μ3 ⟨dn, tl, o4, o5, o6, o7, ex, eS, rfl, H4⟩
    cases tl with
    | cons _ _ => cases ex
    | nil =>
    rw [List.append_nil] at eS
    rw [← eS, ← sumsF_eq] at H4
    walk_at "own_lat"
    simp only [wRet, wVar, List.getElem?_cons_zero, List.getElem?_cons_succ]
    exact .here (k c2 _ H4.fr lc2 (H4.get (c := c2) (by walk_at "own_mem")))
end
end G
namespace G
open PySem L2 PL
local macro_rules | `(tactic| walk_at "own_ws") => `(tactic| try simp only [PL.fnW, PL.startD, List.map_cons, List.map_nil, List.length_cons, List.length_nil, List.replicate, List.replicate_succ, List.replicate_zero, List.append_nil, List.nil_append, List.cons_append, List.singleton_append, Nat.zero_add, Nat.add_zero, Nat.add_sub_cancel, Nat.reduceSub, Nat.reduceAdd, Nat.sub_zero, Nat.sub_self,
  PL.wSeq, PL.wIfS, PL.wRet, PL.wRetN, PL.wDrop, PL.wNext, PL.wBreak, PL.wCont, PL.wOp, PL.wUn, PL.wVar, PL.wC, PL.wCons, PL.wNil, PL.wTup, PL.wLst, PL.wTest, PL.wAnd, PL.wOr, PL.wNot, PL.wAndV, PL.wOrV, PL.wNotV, PL.wIf, PL.wChain, PL.wAsg, PL.wName, PL.wGtup, PL.wGunl, PL.wGcons, PL.wGnil, PL.wPar, PL.wPar3, PL.wAug, PL.wCB, PL.wCall, PL.wMake, PL.wMakeK, PL.wYes, PL.wTru, PL.wFor, PL.wSeqI, PL.wEnumI, PL.wZipI, PL.wRng1, PL.wRng2, PL.wBM, PL.wBM0, PL.wLstRg1, PL.wRaise, PL.wFldS, ↓PL.wFld_var, PL.wSet0, PL.wSAdd, PL.wNoPart, PL.wPart, PL.wSl, PL.wLc, PL.wipeD,
  PL.oSub, PL.oMod, PL.oFdiv, PL.oPow, PL.oLt, PL.oLe, PL.oGt, PL.oGe, PL.wI0, PL.wI2, PL.wB0, PL.wIp, PL.wNeg, PL.wR1, PL.one1, PL.two2, PL.ints1, PL.ints2,
  List.getElem?_cons_zero, List.getElem?_cons_succ, List.set_cons_zero, List.set_cons_succ, and_true, true_and, if_true, if_false, ite_true, ite_false, reduceIte, Bool.true_eq_false, Bool.false_eq_true, eq_self])
local macro_rules | `(tactic| walk_at "own_wt") => `(tactic| try simp only [PL.fnW, PL.startD, List.map_cons, List.map_nil, List.length_cons, List.length_nil, List.replicate, List.replicate_succ, List.replicate_zero, List.append_nil, List.nil_append, List.cons_append, List.singleton_append, Nat.zero_add, Nat.add_zero, Nat.add_sub_cancel, Nat.reduceSub, Nat.reduceAdd, Nat.sub_zero, Nat.sub_self,
  PL.wSeq_l, PL.wIfS, PL.wRet, PL.wRetN, PL.wDrop, PL.wNext, PL.wBreak, PL.wCont, PL.wOp, PL.wUn, PL.wVar, PL.wC, PL.wCons, PL.wNil, PL.wTup, PL.wLst_a, PL.wTest, PL.wAnd, PL.wOr, PL.wNot, PL.wAndV, PL.wOrV, PL.wNotV, PL.wIf, PL.wChain, PL.wAsg, PL.wName, PL.wGtup, PL.wGunl, PL.wGcons, PL.wGnil, PL.wPar, PL.wPar3, PL.wAug, PL.wCB, PL.wCall, PL.wMake, PL.wMakeK, PL.wYes, PL.wTru, PL.wFor, PL.wSeqI, PL.wEnumI, PL.wZipI, PL.wRng1, PL.wRng2, PL.wBM, PL.wBM0, PL.wLstRg1_a, PL.wRaise, PL.wFldS, ↓PL.wFld_var, PL.wSet0, PL.wSAdd, PL.wNoPart, PL.wPart, PL.wSl_eq, PL.wLc_a, PL.wipeD,
  PL.oSub, PL.oMod, PL.oFdiv, PL.oPow, PL.oLt, PL.oLe, PL.oGt, PL.oGe, PL.wI0, PL.wI2, PL.wB0, PL.wIp, PL.wNeg, PL.wR1, PL.one1, PL.two2, PL.ints1, PL.ints2,
  List.getElem?_cons_zero, List.getElem?_cons_succ, List.set_cons_zero, List.set_cons_succ, and_true, true_and, if_true, if_false, ite_true, ite_false, reduceIte, Bool.true_eq_false, Bool.false_eq_true, eq_self])
local macro_rules | `(tactic| walk_at "own_nx") => `(tactic| ((first | refine PL.later_i ?_ | (dsimp only; refine PL.later_i ?_)); walk_at "own_wt"))
local macro_rules | `(tactic| walk_at "own_wg") => `(tactic| simp only [PL.wGtup, PL.wGcons, PL.wGnil, PL.wName, List.length_cons, List.length_nil, List.set_cons_zero, List.set_cons_succ, Nat.zero_add, Nat.reduceAdd, true_and])
local macro_rules | `(tactic| walk_at "own_mem") => `(tactic| repeat (first | exact List.Mem.head _ | refine List.Mem.tail _ ?_))
local macro_rules | `(tactic| walk_at "own_mm") => `(tactic| exact PL.Own.get (by assumption) (by walk_at "own_mem"))
local macro_rules | `(tactic| walk_at "own_sq") => `(tactic| first | rfl | exact PL.seq_lst (PL.Own.get (by assumption) (by walk_at "own_mem")))
local macro_rules | `(tactic| walk_at "own_sub") => `(tactic| repeat (first | exact List.Sublist.refl _ | refine List.Sublist.cons_cons _ ?_ | refine List.Sublist.cons _ ?_))
local macro_rules | `(tactic| walk_at "own_putr") => `(tactic| repeat (first | exact PL.PutR.here | apply PL.PutR.there))
local macro_rules | `(tactic| walk_at "own_lat") => `(tactic| (first | refine PL.later_i ?_ | (dsimp only; refine PL.later_i ?_)))
local macro_rules | `(tactic| walk_at "own_wu") => `(tactic| try simp only [PL.fnW, PL.startD, List.map_cons, List.map_nil, List.length_cons, List.length_nil, List.replicate, List.replicate_succ, List.replicate_zero, List.append_nil, List.nil_append, List.cons_append, List.singleton_append, Nat.zero_add, Nat.add_zero, Nat.add_sub_cancel, Nat.reduceSub, Nat.reduceAdd, Nat.sub_zero, Nat.sub_self,
  PL.wSeq_l, PL.wIfS, PL.wRet, PL.wRetN, PL.wDrop, PL.wNext, PL.wBreak, PL.wCont, PL.wOp, PL.wUn, PL.wVar, PL.wC, PL.wCons, PL.wNil, PL.wTup, PL.wLst_a, PL.wTest, PL.wAnd, PL.wOr, PL.wNot, PL.wAndV, PL.wOrV, PL.wNotV, PL.wIf, PL.wAsg, PL.wName, PL.wPar, PL.wPar3, PL.wCB, PL.wCall, PL.wMake, PL.wYes, PL.wTru, PL.wFor, PL.wSeqI, PL.wRng1, PL.wRng2, PL.wBM, PL.wBM0, PL.wRaise, ↓PL.wFld_var, PL.wNoPart, PL.wPart, PL.wLc_a, PL.wipeD,
  List.getElem?_cons_zero, List.getElem?_cons_succ, List.set_cons_zero, List.set_cons_succ, and_true, true_and, if_true, if_false, ite_true, ite_false, reduceIte, Bool.true_eq_false, Bool.false_eq_true, eq_self])
local macro_rules | `(tactic| walk_at "own_nu") => `(tactic| ((first | refine PL.later_i ?_ | (dsimp only; refine PL.later_i ?_)); walk_at "own_wu"))
local macro_rules | `(tactic| walk_at "own_cn") => `(tactic| repeat (first | exact PL.Cn.c | exact PL.Cn.neg | exact PL.CnA.nil | exact PL.Cn.var rfl | apply PL.CnA.cons | apply PL.Cn.tup))
section
variable {π : Pr} {μ : Mem} {P : D → Mem → Prop} {XP : Exn → Mem → Prop} {d : D} {b r w n p : Nat} {ts : List (List Int)} {bs : List (Int × Int)} {sm : List Int}
theorem ev_tame {v : D} (h : EvD v) (μ : Mem) : Tame μ v := by
  cases h with
  | int _ => exact tame_int _
  | non => exact tame_non
  | bl => exact tame_bl _
  | str _ _ _ => exact tame_str _
  | tup0 => exact tame_tup _
  | tup1 _ => exact tame_tup _
theorem wAny_i {P : D → Mem → Prop} {c : Nat} {l : List Bool} (h : μ[c]? = some (.lst (l.map D.bl))) (k : P (.bl (l.any id)) μ) : wAny [.cell c] μ P := by
  unfold wAny wR1
  have e : blL μ (.cell c) = some l := by unfold blL; simp only [seq_lst h, blsOf_map]
  simp only [one1, e]; exact k
theorem wAll_i {P : D → Mem → Prop} {c : Nat} {l : List Bool} (h : μ[c]? = some (.lst (l.map D.bl))) (k : P (.bl (l.all id)) μ) : wAll [.cell c] μ P := by
  unfold wAll wR1
  have e : blL μ (.cell c) = some l := by unfold blL; simp only [seq_lst h, blsOf_map]
  simp only [one1, e]; exact k
theorem isi_tupS {xs : List D} (k : P (.bl true) μ) : wIsi π.K [.tup xs, .ty "tuple"] μ P := wIsi_ty (T := "tuple") rfl (k6 (by decide)).2.2.2.2 (by exact k)
theorem is_tuple_tup {xs : List D} {m : Int} (k : P (.bl (decide (((xs.length : Nat) : Int) = m))) μ) : S_is_tuple π [.tup xs, .int m] μ P XP := by
  rw [S_is_tuple_eq]
  refine ⟨rfl, ?_⟩
  unfold W_is_tuple
  walk_at "own_wu"
  refine isi_tupS ?_
  simp only [if_true]
  refine wLen_i rfl ?_
  exact wEq_intN (.here k)
theorem is_tuple_no {T : String} {m : D} (h : tagOf μ d = some (.inl T)) (hT : T ∈ six) (ne : T ≠ "tuple") (k : P (.bl false) μ) : S_is_tuple π [d, m] μ P XP := by
  rw [S_is_tuple_eq]
  refine ⟨rfl, ?_⟩
  unfold W_is_tuple
  walk_at "own_wu"
  refine wIsi_ty h (k6 hT).2.2.2.2 ?_
  simp only [beq_eq_false_iff_ne.mpr ne, Bool.false_eq_true, if_false]
  exact .here k
theorem all_ints : ∀ vs : List D, (vs.map isIntD).all id = (intsOf vs).isSome
  | [] => rfl
  | v :: vs => by
    have ih := all_ints vs
    rw [List.map_cons, List.all_cons, ih]
    cases v <;> simp [isIntD, intsOf]
theorem ints_of_some : ∀ {vs : List D} {zs : List Int}, intsOf vs = some zs → vs = litD zs
  | [], _, h => by cases h; rfl
  | v :: vs, zs, h => by
    cases v with
    | int i =>
      rw [intsOf] at h
      cases e : intsOf vs with
      | none => rw [e] at h; cases h
      | some l => rw [e] at h; cases h; rw [ints_of_some e]; rfl
    | _ => rw [intsOf] at h <;> first | cases h | (intros; rintro ⟨⟩)
def withinB (bs : List (Int × Int)) (zs : List Int) : Bool := (zs.zip bs).all fun q => decide (2 * q.2.1 ≤ q.1) && decide (q.1 ≤ 2 * q.2.2)
def fillB (p : Nat) (ts : List (List Int)) (bs : List (Int × Int)) (sm : List Int) (vs : List D) : Bool := match intsOf vs with
  | some zs => decide (zs.length = ts.length) && (withinB bs zs && decide (sumsZ p ts zs = sm.map (2 * ·)))
  | none => false
theorem pairs_zb (zs : List Int) (bs : List (Int × Int)) : pairs (litD zs) (pairDs bs) = (zs.zip bs).map fun q => D.tup [.int q.1, .tup [.int q.2.1, .int q.2.2]] := by
  rw [pairs_app]; unfold litD pairDs; rw [List.zip_map, List.map_map]; rfl
theorem fits_ok {cb ct : Nat} {vs : List D} (F : Facts π) (hw : WebIs π μ w (p : Nat) ts) (ht : ∀ t ∈ ts, TieOk (p : Nat) t) (hp : p ≤ 5000) (few : ts.length ≤ 3000) (g1 : μ[cb]? = some (.lst (pairDs (bs.map fun q => (2 * q.1, 2 * q.2))))) (g2 : μ[ct]? = some (.lst (litD (sm.map (2 * ·))))) (hv : ∀ v ∈ vs, EvD v)
    (k : ∀ μ', Fr [] μ μ' → P (.bl (fillB p ts bs sm vs)) μ') : S_fits π [.cell w, .cell cb, .cell ct, .tup vs] μ P XP := by
  rw [S_fits_eq]
  refine ⟨rfl, ?_⟩
  unfold W_fits
  have H : Own [] (fun _ => True) μ μ [(w, webM π (p : Nat) ts), (cb, .lst (pairDs (bs.map fun q => (2 * q.1, 2 * q.2)))), (ct, .lst (litD (sm.map (2 * ·))))] := own0 (by simp; exact ⟨hw, g1, g2⟩)
  refine wSeq_i ?_
  refine wIfS_i ?_
  simp only [fnW, startD, List.map_cons, List.map_nil, List.length_cons, List.length_nil, List.replicate, List.replicate_succ, List.replicate_zero, List.append_nil, List.nil_append, List.cons_append, Nat.zero_add, Nat.reduceAdd, Nat.reduceSub, wOr, PL.wNot, PL.wTru, wCall, wCB, wLc_a, wSeqI, wCons, wNil, wVar, ↓wFld_var, List.getElem?_cons_zero, List.getElem?_cons_succ]
  refine wFldV_i (H.get (c := w) (by walk_at "own_mem")) F.fl.2.1 rfl rfl ?_
  refine wLen_i (xs := ts.map tieD) rfl ?_
  refine is_tuple_tup ?_
  rw [List.length_map]
  by_cases hl : vs.length = ts.length
  · simp only [decide_eq_true (show ((vs.length : Nat) : Int) = ((ts.length : Nat) : Int) by omega), truD, Bool.not_true, Bool.false_eq_true, if_false, seqOf]
    refine ⟨by rw [sizeLine_eq]; omega, lc_map (fun d => .bl (isIntD d)) trivial ?_ [] _ ?_⟩
    · intro x hx P3 hP
      simp only [wName, wCall, wCons, wNil, wVar, wipeD, List.append_nil, List.getElem?_cons_zero, List.getElem?_cons_succ, List.set_cons_zero, List.set_cons_succ]
      exact is_integer_t (ev_tame (hv x hx) _) hP
    rw [List.nil_append, show vs.map (fun d => D.bl (isIntD d)) = (vs.map isIntD).map D.bl by rw [List.map_map]; rfl]
    refine aLst_o H ?_
    intro c1 μ1 hc1 H1
    refine wAll_i (H1.get (c := c1) (by walk_at "own_mem")) ?_
    rw [all_ints]
    cases eI : intsOf vs with
    | none =>
      simp only [Option.isSome_none, Bool.not_false, if_true, wRet, wC]
      have z := k _ H1.fr
      unfold fillB at z
      rw [eI] at z
      exact .here z
    | some zs =>
      have ev := ints_of_some eI
      subst ev
      rw [len_litD] at hl
      have hzz : ∀ x ∈ zs, x.natAbs < 2 ^ 240 := fun x hx => by
        have := hv (.int x) (List.mem_map.mpr ⟨x, hx, rfl⟩)
        cases this with
        | int h => omega
      simp only [Option.isSome_some, Bool.not_true, Bool.false_eq_true, if_false, wNext]
      have H2 := H1.tail
      walk_at "own_lat"
      refine wSeq_i ?_
      refine wIfS_i ?_
      simp only [PL.wTru, wCB, wLc_a, wZipI, wCons, wNil, wVar, List.getElem?_cons_zero, List.getElem?_cons_succ, seq_lst (H2.get (c := cb) (m := .lst (pairDs (bs.map fun q => (2 * q.1, 2 * q.2)))) (by walk_at "own_mem")), show seqOf μ1 (.tup (litD zs)) = some (litD zs) from rfl]
      rw [pairs_zb]
      refine ⟨by rw [List.length_map, List.length_zip, sizeLine_eq]; omega, lc_map (fun x => match x with | .tup [.int z, .tup [.int a, .int c]] => .bl (!(decide (a ≤ z) && decide (z ≤ c))) | _ => .non) (by constructor; trivial; exact stays_refl _ _) ?_ [] _ ?_⟩
      · intro x hx P3 hP
        obtain ⟨q, hq, rfl⟩ := List.mem_map.mp hx
        dsimp only at hP ⊢
        simp only [wGtup, wGcons, wGnil, wName, wipeD, List.length_cons, List.length_nil, List.set_cons_zero, List.set_cons_succ, Nat.zero_add, Nat.reduceAdd, true_and, wNotV, wChain, wVar, List.getElem?_cons_zero, List.getElem?_cons_succ]
        refine wB0_i ?_
        by_cases c1 : q.2.1 ≤ q.1
        · rw [decide_eq_true c1] at hP ⊢
          simp only [if_true]
          refine wB0_i ?_
          simpa using hP
        · rw [decide_eq_false c1] at hP ⊢
          simp only [Bool.false_eq_true, if_false]
          simpa using hP
      rw [List.nil_append, show ((zs.zip (bs.map fun q => (2 * q.1, 2 * q.2))).map fun q => D.tup [.int q.1, .tup [.int q.2.1, .int q.2.2]]).map (fun x => match x with | .tup [.int z, .tup [.int a, .int c]] => .bl (!(decide (a ≤ z) && decide (z ≤ c))) | _ => D.non) = ((zs.zip (bs.map fun q => (2 * q.1, 2 * q.2))).map fun q => !(decide (q.2.1 ≤ q.1) && decide (q.1 ≤ q.2.2))).map D.bl by rw [List.map_map, List.map_map]; rfl]
      refine aLst_o H2 ?_
      intro c3 μ3 hc3 H3
      refine wAny_i (H3.get (c := c3) (by walk_at "own_mem")) ?_
      have eW : (((zs.zip (bs.map fun q => (2 * q.1, 2 * q.2))).map fun q => !(decide (q.2.1 ≤ q.1) && decide (q.1 ≤ q.2.2))).any id) = !withinB bs zs := by
        unfold withinB
        rw [List.any_map, List.zip_map_right, List.any_map, List.not_all_eq_any_not]
        rfl
      rw [eW]
      have H4 := H3.tail
      by_cases hwi : withinB bs zs = true
      · simp only [hwi, truD, Bool.not_true, Bool.false_eq_true, if_false, wNext]
        walk_at "own_lat"
        simp only [wRet, wOp, wCall, wCB, wCons, wNil, wVar, List.append_nil, List.getElem?_cons_zero, List.getElem?_cons_succ]
        refine sums_at_ok F (H4.get (c := w) (by walk_at "own_mem")) ht hp few hzz ?_
        intro c5 μ5 f5 hc5 g5
        have H5 := H4.fresh f5 g5 hc5
        refine wListC_o H5 (seq_lst (H5.get (c := ct) (by walk_at "own_mem"))) ?_
        intro c6 μ6 hc6 H6
        refine wEq_lI (H6.get (c := c5) (by walk_at "own_mem")) (H6.get (c := c6) (by walk_at "own_mem")) ?_
        have z := k _ H6.fr
        unfold fillB at z
        rw [eI] at z
        dsimp only at z
        rw [decide_eq_true hl, hwi, Bool.true_and, Bool.true_and] at z
        simp only [Bool.false_eq_true, if_false]
        exact .here z
      · have hwf : withinB bs zs = false := by simpa using hwi
        simp only [hwf, truD, Bool.not_false, if_true, wRet, wC]
        have z := k _ H4.fr
        unfold fillB at z
        rw [eI] at z
        dsimp only at z
        rw [hwf, Bool.false_and, Bool.and_false] at z
        exact .here z
  · simp only [decide_eq_false (show ¬ ((vs.length : Nat) : Int) = ((ts.length : Nat) : Int) by omega), truD, Bool.not_false, if_true, wRet, wC]
    have z := k _ H.fr
    have e : fillB p ts bs sm vs = false := by
      unfold fillB
      cases eI : intsOf vs with
      | none => rfl
      | some zs =>
        have ev := ints_of_some eI
        subst ev
        rw [len_litD] at hl
        simp [hl]
    rw [e] at z
    exact .here z
theorem fits_lst {cb ct cv : Nat} {xs : List D} (F : Facts π) (hw : WebIs π μ w (p : Nat) ts) (g : μ[cv]? = some (.lst xs)) (k : P (.bl false) μ) : S_fits π [.cell w, .cell cb, .cell ct, .cell cv] μ P XP := by
  rw [S_fits_eq]
  refine ⟨rfl, ?_⟩
  unfold W_fits
  refine wSeq_i ?_
  refine wIfS_i ?_
  simp only [fnW, startD, List.map_cons, List.map_nil, List.length_cons, List.length_nil, List.replicate, List.replicate_succ, List.replicate_zero, List.append_nil, List.nil_append, List.cons_append, Nat.zero_add, Nat.reduceAdd, Nat.reduceSub, wOr, PL.wNot, PL.wTru, wCall, wCB, wCons, wNil, wVar, ↓wFld_var, List.getElem?_cons_zero, List.getElem?_cons_succ]
  refine wFldV_i hw F.fl.2.1 rfl rfl ?_
  refine wLen_i (xs := ts.map tieD) rfl ?_
  refine is_tuple_no (T := "list") (by rw [tag_cell, g]; rfl) (by decide) (by decide) ?_
  simp only [truD, Bool.not_false, if_true, wRet, wC]
  exact .here k
def isTupD : D → Bool | .tup _ => true | _ => false
theorem filling_ok {vs : List D} (F : Facts π) (gd : Good π μ w n (p : Nat) ts bs sm) (ht : ∀ t ∈ ts, TieOk (p : Nat) t) (hp : p ≤ 5000) (hb : ∀ q ∈ bs, q.1.natAbs < 2 ^ 240 ∧ q.2.natAbs < 2 ^ 240) (hs : ∀ x ∈ sm, x.natAbs < 2 ^ 240) (hv : ∀ v ∈ vs, EvD v) (dv : D) (hd : dv = .tup vs ∨ ∃ c xs, dv = .cell c ∧ μ[c]? = some (.lst xs))
    (k : ∀ μ', Fr [] μ μ' → P (.bl (isTupD dv && fillB p ts bs sm vs)) μ') : S_filling_holds π [.cell w, .cell n, dv] μ P XP := by
  rw [S_filling_holds_eq]
  refine ⟨rfl, ?_⟩
  unfold W_filling_holds
  have few : ts.length ≤ 3000 := by rw [← gd.l1]; exact gd.few
  have H : Own [] (fun _ => True) μ μ [(w, webM π (p : Nat) ts), (n, boxM π bs sm)] := own0 (by simp; exact ⟨gd.web, gd.box⟩)
  refine wSeq_i ?_
  simp only [fnW, startD, List.map_cons, List.map_nil, List.length_cons, List.length_nil, List.replicate, List.replicate_succ, List.replicate_zero, List.append_nil, List.nil_append, List.cons_append, Nat.zero_add, Nat.reduceAdd, Nat.reduceSub, wDrop, wCall, wCons, wNil, wVar, List.getElem?_cons_zero, List.getElem?_cons_succ]
  refine check_web_box_ok F gd.web gd.box gd.l1 gd.l2 ?_
  walk_at "own_lat"
  simp only [wRet, wCall, wLc_a, wSeqI, wCons, wNil, wVar, ↓wFld_var, List.append_nil, List.getElem?_cons_zero, List.getElem?_cons_succ]
  refine wFldV_i (H.get (c := n) (by walk_at "own_mem")) F.fl.2.2.1 rfl rfl ?_
  simp only [seqOf]
  refine ⟨by rw [List.length_map, sizeLine_eq]; have := gd.few; omega, lc_map (fun x => match x with | .tup [.int a, .int c] => .tup [.int (2 * a), .int (2 * c)] | _ => .non) trivial ?_ [] _ ?_⟩
  · intro x hx P3 hP
    obtain ⟨q, hq, rfl⟩ := List.mem_map.mp hx
    have b := hb q hq
    simp only [pairD] at hP ⊢
    simp only [wGtup, wGcons, wGnil, wName, wipeD, List.length_cons, List.length_nil, List.set_cons_zero, List.set_cons_succ, Nat.zero_add, Nat.reduceAdd, true_and, wTup, wOp, wCons, wNil, wC, wVar, List.getElem?_cons_zero, List.getElem?_cons_succ]
    refine wMul_i (mul_ok (by decide) (by omega)) ?_
    exact wMul_i (mul_ok (by decide) (by omega)) hP
  rw [List.nil_append, show (bs.map pairD).map (fun x => match x with | .tup [.int a, .int c] => .tup [.int (2 * a), .int (2 * c)] | _ => D.non) = pairDs (bs.map fun q => (2 * q.1, 2 * q.2)) by unfold pairDs; rw [List.map_map, List.map_map]; rfl]
  refine aLst_o H ?_
  intro c1 μ1 hc1 H1
  refine wFldV_i (H1.get (c := n) (by walk_at "own_mem")) F.fl.2.2.2 rfl rfl ?_
  have l2 := gd.l2
  refine ⟨by rw [len_litD, sizeLine_eq]; omega, lc_map (fun x => match x with | .int a => .int (2 * a) | _ => .non) trivial ?_ [] _ ?_⟩
  · intro x hx P3 hP
    obtain ⟨q, hq, rfl⟩ := List.mem_map.mp hx
    have b := hs q hq
    simp only [wName, wipeD, wOp, wC, wVar, List.getElem?_cons_zero, List.getElem?_cons_succ, List.set_cons_zero, List.set_cons_succ]
    exact wMul_i (mul_ok (by decide) (by omega)) hP
  rw [List.nil_append, show (litD sm).map (fun x => match x with | .int a => .int (2 * a) | _ => D.non) = litD (sm.map (2 * ·)) by unfold litD; rw [List.map_map, List.map_map]; rfl]
  refine aLst_o H1 ?_
  intro c2 μ2 hc2 H2
  rcases hd with rfl | ⟨c, xs, rfl, g⟩
  · refine fits_ok F (H2.get (c := w) (by walk_at "own_mem")) ht hp few (H2.get (c := c1) (by walk_at "own_mem")) (H2.get (c := c2) (by walk_at "own_mem")) hv ?_
    intro μ3 f3
    have z := k _ (H2.pure f3).fr
    rw [show isTupD (.tup vs) = true from rfl, Bool.true_and] at z
    exact .here z
  · refine fits_lst F (H2.get (c := w) (by walk_at "own_mem")) (H2.fr.get g (by simp)) ?_
    have z := k _ H2.fr
    rw [show isTupD (.cell c) = false from rfl, Bool.false_and] at z
    exact .here z
end
end G
namespace G
open PySem L2 PL
local macro_rules | `(tactic| walk_at "own_ws") => `(tactic| try simp only [PL.fnW, PL.startD, List.map_cons, List.map_nil, List.length_cons, List.length_nil, List.replicate, List.replicate_succ, List.replicate_zero, List.append_nil, List.nil_append, List.cons_append, List.singleton_append, Nat.zero_add, Nat.add_zero, Nat.add_sub_cancel, Nat.reduceSub, Nat.reduceAdd, Nat.sub_zero, Nat.sub_self,
  PL.wSeq, PL.wIfS, PL.wRet, PL.wRetN, PL.wDrop, PL.wNext, PL.wBreak, PL.wCont, PL.wOp, PL.wUn, PL.wVar, PL.wC, PL.wCons, PL.wNil, PL.wTup, PL.wLst, PL.wTest, PL.wAnd, PL.wOr, PL.wNot, PL.wAndV, PL.wOrV, PL.wNotV, PL.wIf, PL.wChain, PL.wAsg, PL.wName, PL.wGtup, PL.wGunl, PL.wGcons, PL.wGnil, PL.wPar, PL.wPar3, PL.wAug, PL.wCB, PL.wCall, PL.wMake, PL.wMakeK, PL.wYes, PL.wTru, PL.wFor, PL.wSeqI, PL.wEnumI, PL.wZipI, PL.wRng1, PL.wRng2, PL.wBM, PL.wBM0, PL.wLstRg1, PL.wRaise, PL.wFldS, ↓PL.wFld_var, PL.wSet0, PL.wSAdd, PL.wNoPart, PL.wPart, PL.wSl, PL.wLc, PL.wipeD,
  PL.oSub, PL.oMod, PL.oFdiv, PL.oPow, PL.oLt, PL.oLe, PL.oGt, PL.oGe, PL.wI0, PL.wI2, PL.wB0, PL.wIp, PL.wNeg, PL.wR1, PL.one1, PL.two2, PL.ints1, PL.ints2,
  List.getElem?_cons_zero, List.getElem?_cons_succ, List.set_cons_zero, List.set_cons_succ, and_true, true_and, if_true, if_false, ite_true, ite_false, reduceIte, Bool.true_eq_false, Bool.false_eq_true, eq_self])
local macro_rules | `(tactic| walk_at "own_wt") => `(tactic| try simp only [PL.fnW, PL.startD, List.map_cons, List.map_nil, List.length_cons, List.length_nil, List.replicate, List.replicate_succ, List.replicate_zero, List.append_nil, List.nil_append, List.cons_append, List.singleton_append, Nat.zero_add, Nat.add_zero, Nat.add_sub_cancel, Nat.reduceSub, Nat.reduceAdd, Nat.sub_zero, Nat.sub_self,
  PL.wSeq_l, PL.wIfS, PL.wRet, PL.wRetN, PL.wDrop, PL.wNext, PL.wBreak, PL.wCont, PL.wOp, PL.wUn, PL.wVar, PL.wC, PL.wCons, PL.wNil, PL.wTup, PL.wLst_a, PL.wTest, PL.wAnd, PL.wOr, PL.wNot, PL.wAndV, PL.wOrV, PL.wNotV, PL.wIf, PL.wChain, PL.wAsg, PL.wName, PL.wGtup, PL.wGunl, PL.wGcons, PL.wGnil, PL.wPar, PL.wPar3, PL.wAug, PL.wCB, PL.wCall, PL.wMake, PL.wMakeK, PL.wYes, PL.wTru, PL.wFor, PL.wSeqI, PL.wEnumI, PL.wZipI, PL.wRng1, PL.wRng2, PL.wBM, PL.wBM0, PL.wLstRg1_a, PL.wRaise, PL.wFldS, ↓PL.wFld_var, PL.wSet0, PL.wSAdd, PL.wNoPart, PL.wPart, PL.wSl_eq, PL.wLc_a, PL.wipeD,
  PL.oSub, PL.oMod, PL.oFdiv, PL.oPow, PL.oLt, PL.oLe, PL.oGt, PL.oGe, PL.wI0, PL.wI2, PL.wB0, PL.wIp, PL.wNeg, PL.wR1, PL.one1, PL.two2, PL.ints1, PL.ints2,
  List.getElem?_cons_zero, List.getElem?_cons_succ, List.set_cons_zero, List.set_cons_succ, and_true, true_and, if_true, if_false, ite_true, ite_false, reduceIte, Bool.true_eq_false, Bool.false_eq_true, eq_self])
local macro_rules | `(tactic| walk_at "own_nx") => `(tactic| ((first | refine PL.later_i ?_ | (dsimp only; refine PL.later_i ?_)); walk_at "own_wt"))
local macro_rules | `(tactic| walk_at "own_wg") => `(tactic| simp only [PL.wGtup, PL.wGcons, PL.wGnil, PL.wName, List.length_cons, List.length_nil, List.set_cons_zero, List.set_cons_succ, Nat.zero_add, Nat.reduceAdd, true_and])
local macro_rules | `(tactic| walk_at "own_mem") => `(tactic| repeat (first | exact List.Mem.head _ | refine List.Mem.tail _ ?_))
local macro_rules | `(tactic| walk_at "own_mm") => `(tactic| exact PL.Own.get (by assumption) (by walk_at "own_mem"))
local macro_rules | `(tactic| walk_at "own_sq") => `(tactic| first | rfl | exact PL.seq_lst (PL.Own.get (by assumption) (by walk_at "own_mem")))
local macro_rules | `(tactic| walk_at "own_sub") => `(tactic| repeat (first | exact List.Sublist.refl _ | refine List.Sublist.cons_cons _ ?_ | refine List.Sublist.cons _ ?_))
local macro_rules | `(tactic| walk_at "own_putr") => `(tactic| repeat (first | exact PL.PutR.here | apply PL.PutR.there))
local macro_rules | `(tactic| walk_at "own_lat") => `(tactic| (first | refine PL.later_i ?_ | (dsimp only; refine PL.later_i ?_)))
local macro_rules | `(tactic| walk_at "own_wu") => `(tactic| try simp only [PL.fnW, PL.startD, List.map_cons, List.map_nil, List.length_cons, List.length_nil, List.replicate, List.replicate_succ, List.replicate_zero, List.append_nil, List.nil_append, List.cons_append, List.singleton_append, Nat.zero_add, Nat.add_zero, Nat.add_sub_cancel, Nat.reduceSub, Nat.reduceAdd, Nat.sub_zero, Nat.sub_self,
  PL.wSeq_l, PL.wIfS, PL.wRet, PL.wRetN, PL.wDrop, PL.wNext, PL.wBreak, PL.wCont, PL.wOp, PL.wUn, PL.wVar, PL.wC, PL.wCons, PL.wNil, PL.wTup, PL.wLst_a, PL.wTest, PL.wAnd, PL.wOr, PL.wNot, PL.wAndV, PL.wOrV, PL.wNotV, PL.wIf, PL.wAsg, PL.wName, PL.wPar, PL.wPar3, PL.wCB, PL.wCall, PL.wMake, PL.wYes, PL.wTru, PL.wFor, PL.wSeqI, PL.wRng1, PL.wRng2, PL.wBM, PL.wBM0, PL.wRaise, ↓PL.wFld_var, PL.wNoPart, PL.wPart, PL.wLc_a, PL.wipeD,
  List.getElem?_cons_zero, List.getElem?_cons_succ, List.set_cons_zero, List.set_cons_succ, and_true, true_and, if_true, if_false, ite_true, ite_false, reduceIte, Bool.true_eq_false, Bool.false_eq_true, eq_self])
local macro_rules | `(tactic| walk_at "own_nu") => `(tactic| ((first | refine PL.later_i ?_ | (dsimp only; refine PL.later_i ?_)); walk_at "own_wu"))
local macro_rules | `(tactic| walk_at "own_cn") => `(tactic| repeat (first | exact PL.Cn.c | exact PL.Cn.neg | exact PL.CnA.nil | exact PL.Cn.var rfl | apply PL.CnA.cons | apply PL.Cn.tup))
section
variable {π : Pr} {μ : Mem} {P : D → Mem → Prop} {XP : Exn → Mem → Prop} {d : D} {b r w n p : Nat} {ts : List (List Int)} {bs : List (Int × Int)} {sm : List Int}
def sgnD (d : D) : Bool := match d with | .int i => decide (i = -1) || decide (i = 0) || decide (i = 1) | _ => false
theorem signs_fault_t {xs : List D} (h : seqOf μ d = some xs) (ht : ∀ x ∈ xs, Tame μ x) (k : P (match (firstBad sgnD 0 xs).map fun i => ((i : Nat) : Int) with | none => .non | some i => .int i) μ) : S_signs_fault π [d] μ P XP := by
  rw [S_signs_fault_eq]
  refine ⟨rfl, ?_⟩
  unfold W_signs_fault
  walk_at "own_ws"
  simp only [h]
  have st := stays_refl μ d
  generalize stays μ d = chk at st
  suffices H : ∀ (xs : List D) (n : Nat) (o1 o2 : Option D), (∀ x ∈ xs, Tame μ x) → P (match (firstBad sgnD n xs).map fun i => ((i : Nat) : Int) with | none => .non | some i => .int i) μ →
      loopL chk _ _ (PL.numbered n xs) [some d, o1, o2] μ _ from H xs 0 none none ht k
  intro xs
  induction xs with
  | nil => intro n o1 o2 _ k; exact .here k
  | cons x xs ih =>
    intro n o1 o2 ht k
    rw [PL.numbered, loopL]
    walk_at "own_ws"
    refine is_integer_t (ht x (by simp)) ?_
    rw [firstBad] at k
    cases x with
    | int i =>
      simp only [isIntD, truD, Bool.not_true, Bool.false_eq_true, if_false]
      unfold wIn
      simp only [seqOf]
      refine ⟨rfl, rfl, ?_⟩
      have e : inD (.int i) [.int (-1), .int 0, .int 1] = sgnD (.int i) := by
        simp only [inD, eqFlat, sgnD, List.any_cons, List.any_nil, Bool.or_false, beqC, Bool.or_assoc]
      rw [e]
      cases eb : sgnD (.int i) with
      | true =>
        rw [eb, if_pos rfl] at k
        simp only [Bool.not_true, if_true, Bool.false_eq_true, if_false]
        exact ⟨st, ih (n + 1) _ _ (fun y hy => ht y (by simp [hy])) k⟩
      | false =>
        rw [eb, if_neg Bool.false_ne_true] at k
        simp only [Bool.not_false, if_true]
        exact .here k
    | _ =>
      rw [if_neg (by exact Bool.false_ne_true)] at k
      simp only [isIntD, truD, Bool.not_false, if_true]
      exact .here k
theorem lc_filt {chk : Mem → Prop} {vs : List Nat} {g : WG} {t : WT} {e : WE} {δ : En} {μ : Mem} (f : D → D) (p : D → Bool) (hchk : chk μ) : ∀ {xs : List D}, (∀ x ∈ xs, ∀ (A : D → Mem → Prop) (B : Mem → Prop), (p x = true → A (f x) μ) → (p x = false → B μ) → g x (wipeD δ vs) μ (fun δ1 μ1 => t δ1 μ1 (fun b μ2 => if b = true then e δ1 μ2 A QX0 else B μ2) QX0)) →
    ∀ (acc : List D) (R : List D → Mem → Prop), R (acc ++ (xs.filter p).map f) μ → lcL chk vs g t e xs acc δ μ R
  | [], _, acc, R, r => by rw [lcL]; simpa using r
  | x :: xs, turn, acc, R, r => by
    rw [lcL]
    have ih := lc_filt f p hchk (fun y hy => turn y (by simp [hy])) (xs := xs)
    refine turn x (by simp) (fun d μ3 => chk μ3 ∧ lcL chk vs g t e xs (acc ++ [d]) δ μ3 R) (fun μ2 => chk μ2 ∧ lcL chk vs g t e xs acc δ μ2 R) (fun hp => ⟨hchk, ih _ R ?_⟩) (fun hp => ⟨hchk, ih _ R ?_⟩)
    · rw [List.filter_cons_of_pos hp] at r; simpa using r
    · rw [List.filter_cons_of_neg (by rw [hp]; exact Bool.false_ne_true)] at r; exact r

def pyE : D → PyData
  | .non => .none | .bl c => .bool c | .int i => .int i | .str s => .str s
  | .tup [] => .tuple [] | .tup (.int i :: _) => .tuple [.int i]
  | _ => .none
theorem pyE_ok {v : D} (h : EvD v) (μ : Mem) (n : Nat) : pyF μ (n + 2) v = some (pyE v) ∧ (pyE v).canLay0 = true ∧ (pyE v).depth ≤ 1 := by
  cases h with
  | int _ => exact ⟨by simp [pyF, pyE], by simp [pyE, PyData.canLay0], by simp [pyE, PyData.depth]⟩
  | non => exact ⟨by simp [pyF, pyE], by simp [pyE, PyData.canLay0], by simp [pyE, PyData.depth]⟩
  | bl => exact ⟨by simp [pyF, pyE], by simp [pyE, PyData.canLay0], by simp [pyE, PyData.depth]⟩
  | str h _ _ => exact ⟨by simp [pyF, pyE], by simp [pyE, PyData.canLay0, h], by simp [pyE, PyData.depth]⟩
  | tup0 => exact ⟨by simp [pyF, pyE, pyL], by simp [pyE, PyData.canLay0, PyData.canLayAll0], by simp [pyE, PyData.depth, PyData.depthAll]⟩
  | tup1 _ => exact ⟨by simp [pyF, pyE, pyL], by simp [pyE, PyData.canLay0, PyData.canLayAll0], by simp [pyE, PyData.depth, PyData.depthAll]⟩
theorem pyL_ev (μ : Mem) (n : Nat) : ∀ xs : List D, (∀ x ∈ xs, EvD x) → pyL μ (n + 2) xs = some (xs.map pyE) ∧ PyData.canLayAll0 (xs.map pyE) = true ∧ PyData.depthAll (xs.map pyE) ≤ 1
  | [], _ => ⟨by simp [pyL], by simp [PyData.canLayAll0], by simp [PyData.depthAll]⟩
  | x :: xs, h => by
    obtain ⟨a, b, c⟩ := pyL_ev μ n xs fun y hy => h y (by simp [hy])
    obtain ⟨e, f, g⟩ := pyE_ok (h x (by simp)) μ n
    refine ⟨by rw [pyL, e, a]; rfl, by rw [List.map_cons, PyData.canLayAll0, f, b]; rfl, ?_⟩
    rw [List.map_cons, PyData.depthAll]
    omega
theorem shaped_lE {xs : List D} (h : ∀ x ∈ xs, EvD x) : SeqAt.shaped (.list (xs.map pyE)) = true := by
  obtain ⟨_, b, c⟩ := pyL_ev [] 0 xs h
  unfold SeqAt.shaped
  simp [PyData.canLay0, PyData.depth, b]
  omega
theorem shaped_tE {xs : List D} (h : ∀ x ∈ xs, EvD x) : SeqAt.shaped (.tuple (xs.map pyE)) = true := by
  obtain ⟨_, b, c⟩ := pyL_ev [] 0 xs h
  unfold SeqAt.shaped
  simp [PyData.canLay0, PyData.depth, b]
  omega
theorem wEq_nilE {c c0 : Nat} {xs : List D} {neg : Bool} (h1 : μ[c]? = some (.lst xs)) (h2 : μ[c0]? = some (.lst [])) (h : ∀ x ∈ xs, EvD x) (k : P (.bl (if neg then !xs.isEmpty else xs.isEmpty)) μ) : wEq neg (.cell c) (.cell c0) μ P := by
  refine wEq_py (a := .list (xs.map pyE)) (b := .list []) (by simp [pyF, h1, (pyL_ev μ 13 xs h).1]) (by simp [pyF, h2, pyL]) (shaped_lE h) (by decide +kernel) ?_
  have z : PyData.eqv (.list (xs.map pyE)) (.list []) = xs.isEmpty := by cases xs <;> simp [PyData.eqv, PyData.eqvAll]
  rw [z]; exact k
theorem filt_ints : ∀ vs : List D, (vs.filter fun d => !isIntD d).isEmpty = (intsOf vs).isSome
  | [] => rfl
  | v :: vs => by
    have ih := filt_ints vs
    cases v with
    | int i =>
      rw [List.filter_cons, if_neg (by simp [isIntD]), ih, intsOf]
      cases intsOf vs <;> rfl
    | _ => rw [List.filter_cons, if_pos (by simp [isIntD])]; simp [intsOf]
theorem are_ints_ok {vs : List D} {m : Int} (hv : ∀ v ∈ vs, EvD v) (few : vs.length ≤ 5000) (k : ∀ μ', Fr [] μ μ' → P (.bl (decide (((vs.length : Nat) : Int) = m) && (intsOf vs).isSome)) μ') : S_law_are_ints π [.tup vs, .int m] μ P XP := by
  rw [S_law_are_ints_eq]
  refine ⟨rfl, ?_⟩
  unfold W_law_are_ints
  have H : Own [] (fun _ => True) μ μ [] := own0 (by simp)
  refine wSeq_i ?_
  refine wIfS_i ?_
  simp only [fnW, startD, List.map_cons, List.map_nil, List.length_cons, List.length_nil, List.replicate, List.replicate_succ, List.replicate_zero, List.append_nil, List.nil_append, List.cons_append, Nat.zero_add, Nat.reduceAdd, Nat.reduceSub, wOr, PL.wNot, PL.wTru, wTest, wOp, wCB, wCons, wNil, wVar, wC, List.getElem?_cons_zero, List.getElem?_cons_succ]
  refine isi_tupS ?_
  simp only [truD, Bool.not_true, Bool.false_eq_true, if_false]
  refine wLen_i rfl ?_
  refine wEq_intN ?_
  by_cases hl : ((vs.length : Nat) : Int) = m
  · simp only [decide_eq_true hl, Bool.not_true, if_true, Bool.false_eq_true, if_false, wNext]
    rw [decide_eq_true hl] at k
    walk_at "own_lat"
    simp only [wRet, wOp, wLc_a, wSeqI, wLst_a, wNil, wVar, List.getElem?_cons_zero, List.getElem?_cons_succ, seqOf]
    refine ⟨by rw [sizeLine_eq]; omega, lc_filt (fun d => d) (fun d => !isIntD d) trivial ?_ [] _ ?_⟩
    · intro x hx A B hA hB
      obtain ⟨T, hT, e⟩ := ev_tame (hv x hx) μ
      have ti := tag_int e
      obtain ⟨k1, k2, _⟩ := k6 (K := π.K) hT
      simp only [wName, wOr, PL.wNot, PL.wTru, wCB, wCons, wNil, wVar, wC, wipeD, List.getElem?_cons_zero, List.getElem?_cons_succ, List.set_cons_zero, List.set_cons_succ]
      refine wIsi_ty e k1 ?_
      rw [← ti] at hA hB
      rcases six_cases hT with rfl | rfl | rfl | rfl | rfl | rfl
      · simp [truD] at hA ⊢; exact hA
      · simp [truD] at hA ⊢
        refine wIsi_ty e k2 ?_
        simp; exact hA
      · simp [truD] at hB ⊢
        refine wIsi_ty e k2 ?_
        simp; exact hB
      · simp [truD] at hA ⊢; exact hA
      · simp [truD] at hA ⊢; exact hA
      · simp [truD] at hA ⊢; exact hA
    rw [List.nil_append, List.map_id']
    refine aLst_o H ?_
    intro c1 μ1 hc1 H1
    refine aLst_o H1 ?_
    intro c2 μ2 hc2 H2
    refine wEq_nilE (H2.get (c := c1) (by walk_at "own_mem")) (H2.get (c := c2) (by walk_at "own_mem")) (fun x hx => hv x (List.mem_filter.mp hx).1) ?_
    rw [filt_ints]
    have z := k _ H2.fr
    rw [Bool.true_and] at z
    simp only [Bool.false_eq_true, if_false]
    exact .here z
  · simp only [decide_eq_false hl, Bool.not_false, if_true, wRet, wC]
    have z := k _ H.fr
    rw [decide_eq_false hl, Bool.false_and] at z
    exact .here z
def signB (p : Nat) (vs : List D) : Bool := decide (vs.length = p) && vs.all sgnD
theorem all_sgn : ∀ vs : List D, vs.all sgnD = true → ∃ sg, vs = litD sg ∧ intsOf vs = some sg ∧ ∀ x ∈ sg, -1 ≤ x ∧ x ≤ 1
  | [], _ => ⟨[], rfl, rfl, by simp⟩
  | v :: vs, h => by
    rw [List.all_cons, Bool.and_eq_true] at h
    obtain ⟨sg, h1, h2, h3⟩ := all_sgn vs h.2
    cases v with
    | int i =>
      refine ⟨i :: sg, by rw [h1]; rfl, by rw [intsOf, h2]; rfl, fun x hx => ?_⟩
      rcases List.mem_cons.mp hx with rfl | hx
      · have := h.1
        simp [sgnD] at this
        omega
      · exact h3 x hx
    | _ => exact absurd h.1 (by simp [sgnD])
theorem sgn_ints : ∀ {vs : List D} {zs : List Int}, intsOf vs = some zs → vs.all sgnD = (zs.filter fun x => decide (1 < (if x < 0 then -x else x))).isEmpty
  | [], _, h => by cases h; rfl
  | v :: vs, zs, h => by
    have e := ints_of_some h
    cases zs with
    | nil => cases e
    | cons z zs =>
      obtain ⟨rfl, rfl⟩ : v = .int z ∧ vs = litD zs := by unfold litD at e ⊢; simpa using e
      rw [List.all_cons, sgn_ints (intsOf_lit zs), List.filter_cons]
      by_cases c : 1 < (if z < 0 then -z else z)
      · have : sgnD (.int z) = false := by simp [sgnD]; split at c <;> omega
        rw [this, if_pos (decide_eq_true c)]; rfl
      · have : sgnD (.int z) = true := by simp [sgnD]; split at c <;> omega
        rw [this, if_neg (by simpa using c)]; rfl
theorem all_sgn_none {vs : List D} (h : intsOf vs = none) : vs.all sgnD = false := by
  cases e : vs.all sgnD with
  | false => rfl
  | true => obtain ⟨_, _, h2, _⟩ := all_sgn vs e; rw [h] at h2; cases h2
theorem are_signs_ok {vs : List D} (hv : ∀ v ∈ vs, EvD v) (few : vs.length ≤ 5000) (k : ∀ μ', Fr [] μ μ' → P (.bl (signB p vs)) μ') : S_law_are_signs π [.tup vs, .int (p : Nat)] μ P XP := by
  rw [S_law_are_signs_eq]
  refine ⟨rfl, ?_⟩
  unfold W_law_are_signs
  simp only [fnW, startD, List.map_cons, List.map_nil, List.length_cons, List.length_nil, List.replicate, List.replicate_succ, List.replicate_zero, List.append_nil, List.nil_append, List.cons_append, Nat.zero_add, Nat.reduceAdd, Nat.reduceSub, wRet, wAndV, wCall, wOp, wCons, wNil, wVar, List.getElem?_cons_zero, List.getElem?_cons_succ]
  refine are_ints_ok hv few ?_
  intro μ1 f1
  have H : Own [] (fun _ => True) μ μ1 [] := (own0 (μ := μ) (L := []) (by simp)).pure f1
  unfold signB at k
  by_cases hl : vs.length = p
  · rw [decide_eq_true (show ((vs.length : Nat) : Int) = (p : Nat) by omega), Bool.true_and]
    rw [decide_eq_true hl] at k
    cases eI : intsOf vs with
    | none =>
      simp only [Option.isSome_none, Bool.false_eq_true, if_false]
      have z := k _ H.fr
      rw [all_sgn_none eI] at z
      exact .here z
    | some zs =>
      simp only [Option.isSome_some, if_true]
      have ev := ints_of_some eI
      simp only [wLc_a, wSeqI, wLst_a, wNil, wVar, List.getElem?_cons_zero, List.getElem?_cons_succ, seqOf]
      refine ⟨by rw [sizeLine_eq]; omega, lc_filt (fun d => d) (fun d => match d with | .int x => decide (1 < (if x < 0 then -x else x)) | _ => false) trivial ?_ [] _ ?_⟩
      · intro x hx A B hA hB
        rw [ev] at hx
        obtain ⟨i, _, rfl⟩ := List.mem_map.mp hx
        simp only [wName, wTest, wOp, wCB, wCons, wNil, wVar, wC, wipeD, List.getElem?_cons_zero, List.getElem?_cons_succ, List.set_cons_zero, List.set_cons_succ]
        refine wAbs_i ?_
        refine wB0_i ?_
        dsimp only at hA hB
        by_cases c : 1 < (if i < 0 then -i else i)
        · simp only [decide_eq_true c, if_true]; exact hA (decide_eq_true c)
        · simp only [decide_eq_false c, Bool.false_eq_true, if_false]; exact hB (decide_eq_false c)
      rw [List.nil_append, List.map_id']
      have eF : (vs.filter fun d => match d with | .int x => decide (1 < (if x < 0 then -x else x)) | _ => false) = litD (zs.filter fun x => decide (1 < (if x < 0 then -x else x))) := by
        rw [ev]; unfold litD; rw [List.filter_map]; rfl
      rw [eF]
      refine aLst_o H ?_
      intro c1 μ2 hc1 H1
      refine aLst_o H1 ?_
      intro c2 μ3 hc2 H2
      refine wEq_lI (b := []) (H2.get (c := c1) (by walk_at "own_mem")) (H2.get (c := c2) (by walk_at "own_mem")) ?_
      have z := k _ H2.fr
      rw [Bool.true_and, sgn_ints eI] at z
      simp only [Bool.false_eq_true, if_false]
      have e2 : ∀ l : List Int, decide (l = []) = l.isEmpty := fun l => by cases l <;> rfl
      rw [e2]
      exact .here z
  · rw [decide_eq_false (show ¬ ((vs.length : Nat) : Int) = (p : Nat) by omega), Bool.false_and]
    simp only [Bool.false_eq_true, if_false]
    have z := k _ H.fr
    rw [decide_eq_false hl, Bool.false_and] at z
    exact .here z
end
end G
namespace G
open PySem L2 PL
local macro_rules | `(tactic| walk_at "own_ws") => `(tactic| try simp only [PL.fnW, PL.startD, List.map_cons, List.map_nil, List.length_cons, List.length_nil, List.replicate, List.replicate_succ, List.replicate_zero, List.append_nil, List.nil_append, List.cons_append, List.singleton_append, Nat.zero_add, Nat.add_zero, Nat.add_sub_cancel, Nat.reduceSub, Nat.reduceAdd, Nat.sub_zero, Nat.sub_self,
  PL.wSeq, PL.wIfS, PL.wRet, PL.wRetN, PL.wDrop, PL.wNext, PL.wBreak, PL.wCont, PL.wOp, PL.wUn, PL.wVar, PL.wC, PL.wCons, PL.wNil, PL.wTup, PL.wLst, PL.wTest, PL.wAnd, PL.wOr, PL.wNot, PL.wAndV, PL.wOrV, PL.wNotV, PL.wIf, PL.wChain, PL.wAsg, PL.wName, PL.wGtup, PL.wGunl, PL.wGcons, PL.wGnil, PL.wPar, PL.wPar3, PL.wAug, PL.wCB, PL.wCall, PL.wMake, PL.wMakeK, PL.wYes, PL.wTru, PL.wFor, PL.wSeqI, PL.wEnumI, PL.wZipI, PL.wRng1, PL.wRng2, PL.wBM, PL.wBM0, PL.wLstRg1, PL.wRaise, PL.wFldS, ↓PL.wFld_var, PL.wSet0, PL.wSAdd, PL.wNoPart, PL.wPart, PL.wSl, PL.wLc, PL.wipeD,
  PL.oSub, PL.oMod, PL.oFdiv, PL.oPow, PL.oLt, PL.oLe, PL.oGt, PL.oGe, PL.wI0, PL.wI2, PL.wB0, PL.wIp, PL.wNeg, PL.wR1, PL.one1, PL.two2, PL.ints1, PL.ints2,
  List.getElem?_cons_zero, List.getElem?_cons_succ, List.set_cons_zero, List.set_cons_succ, and_true, true_and, if_true, if_false, ite_true, ite_false, reduceIte, Bool.true_eq_false, Bool.false_eq_true, eq_self])
local macro_rules | `(tactic| walk_at "own_wt") => `(tactic| try simp only [PL.fnW, PL.startD, List.map_cons, List.map_nil, List.length_cons, List.length_nil, List.replicate, List.replicate_succ, List.replicate_zero, List.append_nil, List.nil_append, List.cons_append, List.singleton_append, Nat.zero_add, Nat.add_zero, Nat.add_sub_cancel, Nat.reduceSub, Nat.reduceAdd, Nat.sub_zero, Nat.sub_self,
  PL.wSeq_l, PL.wIfS, PL.wRet, PL.wRetN, PL.wDrop, PL.wNext, PL.wBreak, PL.wCont, PL.wOp, PL.wUn, PL.wVar, PL.wC, PL.wCons, PL.wNil, PL.wTup, PL.wLst_a, PL.wTest, PL.wAnd, PL.wOr, PL.wNot, PL.wAndV, PL.wOrV, PL.wNotV, PL.wIf, PL.wChain, PL.wAsg, PL.wName, PL.wGtup, PL.wGunl, PL.wGcons, PL.wGnil, PL.wPar, PL.wPar3, PL.wAug, PL.wCB, PL.wCall, PL.wMake, PL.wMakeK, PL.wYes, PL.wTru, PL.wFor, PL.wSeqI, PL.wEnumI, PL.wZipI, PL.wRng1, PL.wRng2, PL.wBM, PL.wBM0, PL.wLstRg1_a, PL.wRaise, PL.wFldS, ↓PL.wFld_var, PL.wSet0, PL.wSAdd, PL.wNoPart, PL.wPart, PL.wSl_eq, PL.wLc_a, PL.wipeD,
  PL.oSub, PL.oMod, PL.oFdiv, PL.oPow, PL.oLt, PL.oLe, PL.oGt, PL.oGe, PL.wI0, PL.wI2, PL.wB0, PL.wIp, PL.wNeg, PL.wR1, PL.one1, PL.two2, PL.ints1, PL.ints2,
  List.getElem?_cons_zero, List.getElem?_cons_succ, List.set_cons_zero, List.set_cons_succ, and_true, true_and, if_true, if_false, ite_true, ite_false, reduceIte, Bool.true_eq_false, Bool.false_eq_true, eq_self])
local macro_rules | `(tactic| walk_at "own_nx") => `(tactic| ((first | refine PL.later_i ?_ | (dsimp only; refine PL.later_i ?_)); walk_at "own_wt"))
local macro_rules | `(tactic| walk_at "own_wg") => `(tactic| simp only [PL.wGtup, PL.wGcons, PL.wGnil, PL.wName, List.length_cons, List.length_nil, List.set_cons_zero, List.set_cons_succ, Nat.zero_add, Nat.reduceAdd, true_and])
local macro_rules | `(tactic| walk_at "own_mem") => `(tactic| repeat (first | exact List.Mem.head _ | refine List.Mem.tail _ ?_))
local macro_rules | `(tactic| walk_at "own_mm") => `(tactic| exact PL.Own.get (by assumption) (by walk_at "own_mem"))
local macro_rules | `(tactic| walk_at "own_sq") => `(tactic| first | rfl | exact PL.seq_lst (PL.Own.get (by assumption) (by walk_at "own_mem")))
local macro_rules | `(tactic| walk_at "own_sub") => `(tactic| repeat (first | exact List.Sublist.refl _ | refine List.Sublist.cons_cons _ ?_ | refine List.Sublist.cons _ ?_))
local macro_rules | `(tactic| walk_at "own_putr") => `(tactic| repeat (first | exact PL.PutR.here | apply PL.PutR.there))
local macro_rules | `(tactic| walk_at "own_lat") => `(tactic| (first | refine PL.later_i ?_ | (dsimp only; refine PL.later_i ?_)))
local macro_rules | `(tactic| walk_at "own_wu") => `(tactic| try simp only [PL.fnW, PL.startD, List.map_cons, List.map_nil, List.length_cons, List.length_nil, List.replicate, List.replicate_succ, List.replicate_zero, List.append_nil, List.nil_append, List.cons_append, List.singleton_append, Nat.zero_add, Nat.add_zero, Nat.add_sub_cancel, Nat.reduceSub, Nat.reduceAdd, Nat.sub_zero, Nat.sub_self,
  PL.wSeq_l, PL.wIfS, PL.wRet, PL.wRetN, PL.wDrop, PL.wNext, PL.wBreak, PL.wCont, PL.wOp, PL.wUn, PL.wVar, PL.wC, PL.wCons, PL.wNil, PL.wTup, PL.wLst_a, PL.wTest, PL.wAnd, PL.wOr, PL.wNot, PL.wAndV, PL.wOrV, PL.wNotV, PL.wIf, PL.wAsg, PL.wName, PL.wPar, PL.wPar3, PL.wCB, PL.wCall, PL.wMake, PL.wYes, PL.wTru, PL.wFor, PL.wSeqI, PL.wRng1, PL.wRng2, PL.wBM, PL.wBM0, PL.wRaise, ↓PL.wFld_var, PL.wNoPart, PL.wPart, PL.wLc_a, PL.wipeD,
  List.getElem?_cons_zero, List.getElem?_cons_succ, List.set_cons_zero, List.set_cons_succ, and_true, true_and, if_true, if_false, ite_true, ite_false, reduceIte, Bool.true_eq_false, Bool.false_eq_true, eq_self])
local macro_rules | `(tactic| walk_at "own_nu") => `(tactic| ((first | refine PL.later_i ?_ | (dsimp only; refine PL.later_i ?_)); walk_at "own_wu"))
local macro_rules | `(tactic| walk_at "own_cn") => `(tactic| repeat (first | exact PL.Cn.c | exact PL.Cn.neg | exact PL.CnA.nil | exact PL.Cn.var rfl | apply PL.CnA.cons | apply PL.Cn.tup))
section
variable {π : Pr} {μ : Mem} {P : D → Mem → Prop} {XP : Exn → Mem → Prop} {d : D} {b r w n p : Nat} {ts : List (List Int)} {bs : List (Int × Int)} {sm : List Int}
/-- what the signs lack of the totals -/
def lackS (sg : List Int) (ts : List (List Int)) (bs : List (Int × Int)) (sm : List Int) : Int := totZ sg sm - lkMax sg ts bs
def lackP (sg : List Int) (a : Int) (l : List (List Int × (Int × Int))) : Int := l.foldl (fun a q => a - max (pullZ sg q.1 * q.2.1) (pullZ sg q.1 * q.2.2)) a
theorem lackP_eq (sg : List Int) : ∀ (l : List (List Int × (Int × Int))) (a : Int), lackP sg a l = a - (l.map fun q => max (pullZ sg q.1 * q.2.1) (pullZ sg q.1 * q.2.2)).sum
  | [], a => by simp [lackP]
  | q :: l, a => by
    rw [show lackP sg a (q :: l) = lackP sg (a - max (pullZ sg q.1 * q.2.1) (pullZ sg q.1 * q.2.2)) l from rfl, lackP_eq sg l, List.map_cons, List.sum_cons]; omega
theorem pairs_tb (ts : List (List Int)) (bs : List (Int × Int)) : pairs (ts.map tieD) (bs.map pairD) = (ts.zip bs).map fun q => D.tup [tieD q.1, pairD q.2] := by
  rw [pairs_app, List.zip_map, List.map_map]; rfl
theorem sgmul_ok {x t : Int} (h : -1 ≤ x ∧ x ≤ 1) (ht : t.natAbs < 2 ^ 240) : CMulW x t := mul_ok (by omega) (by omega)
theorem lack_of_ok {sg : List Int} (ht : ∀ t ∈ ts, TieOk (p : Nat) t) (hm : ((sg.length : Nat) : Int) = (p : Nat)) (hs : ∀ x ∈ sg, -1 ≤ x ∧ x ≤ 1) (fewp : p ≤ 3000) (few : ts.length ≤ 3000) (hb : ∀ q ∈ bs, q.1.natAbs < 2 ^ 240 ∧ q.2.natAbs < 2 ^ 240) (hsm : ∀ x ∈ sm, x.natAbs < 2 ^ 240)
    (k : ∀ μ', Fr [] μ μ' → P (.int (lackS sg ts bs sm)) μ') : S_lack_of π [.tup (ts.map tieD), .tup (bs.map pairD), .tup (litD sm), .tup (litD sg)] μ P XP := by
  rw [S_lack_of_eq]
  refine ⟨rfl, ?_⟩
  unfold W_lack_of
  have H : Own [] (fun _ => True) μ μ [] := own0 (by simp)
  refine wSeq_i ?_
  refine start_i (δ' := [some (.tup (ts.map tieD)), some (.tup (bs.map pairD)), some (.tup (litD sm)), some (.tup (litD sg)), none, none, none, none, none, none, none]) rfl ?_
  refine wAsg_i (wCB1_i (lc_i (zipI_i (Cn.var rfl) (Cn.var rfl) (xs := litD sg) (ys := litD sm) rfl rfl ?_)))
  rw [pairs_lit]
  refine ⟨by rw [show (pairDs (sg.zip sm)).length = (sg.zip sm).length from List.length_map _, List.length_zip, sizeLine_eq]; omega, lc_map (fun x => match x with | .tup [.int a, .int c] => .int (a * c) | _ => .non) ⟨trivial, trivial⟩ ?_ [] _ ?_⟩
  · intro x hx P3 hP
    obtain ⟨q, hq, rfl⟩ := List.mem_map.mp hx
    have a := hs q.1 (List.of_mem_zip hq).1
    have c := hsm q.2 (List.of_mem_zip hq).2
    simp only [wGtup, wGcons, wGnil, wName, wipeD, List.length_cons, List.length_nil, List.set_cons_zero, List.set_cons_succ, Nat.zero_add, Nat.reduceAdd, true_and, wOp, wVar, List.getElem?_cons_zero, List.getElem?_cons_succ]
    exact wMul_i (sgmul_ok a c) hP
  rw [List.nil_append, show (pairDs (sg.zip sm)).map (fun x => match x with | .tup [.int a, .int c] => .int (a * c) | _ => D.non) = litD ((sg.zip sm).map fun q => q.1 * q.2) by unfold litD pairDs; rw [List.map_map, List.map_map]; rfl]
  refine aLst_o H ?_
  intro c1 μ1 hc1 H1
  refine wSum_i (H1.get (c := c1) (by walk_at "own_mem")) ?_
  rw [show ((sg.zip sm).map fun q => q.1 * q.2).sum = totZ sg sm from rfl]
  have H2 := H1.tail
  refine name_i rfl ?_
  simp only [List.set_cons_zero, List.set_cons_succ]
  walk_at "own_lat"
  refine wSeq_i ?_
  refine for_i (zipI_i (Cn.var rfl) (Cn.var rfl) (xs := ts.map tieD) (ys := bs.map pairD) rfl rfl ?_)
  rw [pairs_tb]
  refine loop_inv (fun xs δ μ3 => ∃ (dn tl : List (List Int × (Int × Int))) (o5 o6 o7 o8 o9 o10 : Option D), xs = tl.map (fun q => D.tup [tieD q.1, pairD q.2]) ∧ ts.zip bs = dn ++ tl ∧ δ = [some (.tup (ts.map tieD)), some (.tup (bs.map pairD)), some (.tup (litD sm)), some (.tup (litD sg)), some (.int (lackP sg (totZ sg sm) dn)), o5, o6, o7, o8, o9, o10] ∧ Own [] (fun _ => True) μ μ3 [])
    (fun _ _ _ _ => ⟨trivial, trivial⟩) ?_ _ _ _ ⟨[], ts.zip bs, none, none, none, none, none, none, rfl, rfl, rfl, H2⟩ ?_
  · rintro x xs δ μ3 ⟨dn, tl, o5, o6, o7, o8, o9, o10, ex, eS, rfl, H3⟩ P' _ _ nx
    cases tl with
    | nil => cases ex
    | cons q tl =>
    obtain ⟨rfl, rfl⟩ : x = D.tup [tieD q.1, pairD q.2] ∧ xs = tl.map (fun q => D.tup [tieD q.1, pairD q.2]) := by simpa using ex
    have hq : q ∈ ts.zip bs := by rw [eS]; simp
    have hq1 := ht q.1 (List.of_mem_zip hq).1
    have hq2 := hb q.2 (List.of_mem_zip hq).2
    have ps := pull_small hq1 hs
    simp only [pairD]
    walk_at "own_wg"
    refine wSeq_i ?_
    simp only [wAsg, wCall, wCons, wNil, wVar, wName, List.append_nil, List.getElem?_cons_zero, List.getElem?_cons_succ, List.set_cons_zero, List.set_cons_succ]
    refine tie_pull_ok hq1 (d := .tup (litD sg)) rfl hm hs ?_
    intro μ4 f4
    walk_at "own_lat"
    simp only [wAug, wCB, wOp, wCons, wNil, wVar, List.getElem?_cons_zero, List.getElem?_cons_succ]
    refine wMul_i (mul_ok (by omega) (by omega)) ?_
    refine wMul_i (mul_ok (by omega) (by omega)) ?_
    refine wMax2_i ?_
    simp only [wIp, List.set_cons_zero, List.set_cons_succ]
    refine nx _ _ ⟨dn ++ [q], tl, some (tieD q.1), some (.int q.2.1), some (.int q.2.2), some (.int (pullZ sg q.1)), o9, o10, rfl, by rw [eS]; simp, ?_, H3.pure f4⟩
    rw [show lackP sg (totZ sg sm) (dn ++ [q]) = lackP sg (totZ sg sm) dn - max (pullZ sg q.1 * q.2.1) (pullZ sg q.1 * q.2.2) by unfold lackP; rw [List.foldl_append]; rfl]
  · rintro δ μ3 ⟨dn, tl, o5, o6, o7, o8, o9, o10, ex, eS, rfl, H3⟩
    cases tl with
    | cons _ _ => cases ex
    | nil =>
    rw [List.append_nil] at eS
    walk_at "own_lat"
    simp only [wRet, wVar, List.getElem?_cons_zero, List.getElem?_cons_succ]
    rw [← eS, lackP_eq]
    exact .here (k _ H3.fr)
theorem short_ok {sg : List Int} {ct cb cs : Nat} (ht : ∀ t ∈ ts, TieOk (p : Nat) t) (hm : ((sg.length : Nat) : Int) = (p : Nat)) (hs : ∀ x ∈ sg, -1 ≤ x ∧ x ≤ 1) (fewp : p ≤ 3000) (few : ts.length ≤ 3000) (hb : ∀ q ∈ bs, q.1.natAbs < 2 ^ 240 ∧ q.2.natAbs < 2 ^ 240) (ho : ∀ q ∈ bs, q.1 ≤ q.2) (hsm : ∀ x ∈ sm, x.natAbs < 2 ^ 240)
    (g1 : μ[ct]? = some (.lst (ts.map tieD))) (g2 : μ[cb]? = some (.lst (bs.map pairD))) (g3 : μ[cs]? = some (.lst (litD sm)))
    (k : ∀ μ', Fr [] μ μ' → P (.int (lackS sg ts bs sm)) μ') : S_law_short π [.cell ct, .cell cb, .cell cs, .tup (litD sg)] μ P XP := by
  rw [S_law_short_eq]
  refine ⟨rfl, ?_⟩
  unfold W_law_short
  have H : Own [] (fun _ => True) μ μ [(ct, .lst (ts.map tieD)), (cb, .lst (bs.map pairD)), (cs, .lst (litD sm))] := own0 (by simp; exact ⟨g1, g2, g3⟩)
  refine wSeq_i ?_
  refine start_i (δ' := [some (.cell ct), some (.cell cb), some (.cell cs), some (.tup (litD sg)), none, none, none, none, none, none]) rfl ?_
  refine wAsg_i (wCB1_i (lc_i (zipI_i (Cn.var rfl) (Cn.var rfl) (xs := litD sg) (ys := litD sm) rfl (seq_lst g3) ?_)))
  rw [pairs_lit]
  refine ⟨by rw [show (pairDs (sg.zip sm)).length = (sg.zip sm).length from List.length_map _, List.length_zip, sizeLine_eq]; omega, lc_map (fun x => match x with | .tup [.int a, .int c] => .int (a * c) | _ => .non) ⟨stays_refl _ _, stays_refl _ _⟩ ?_ [] _ ?_⟩
  · intro x hx P3 hP
    obtain ⟨q, hq, rfl⟩ := List.mem_map.mp hx
    have a := hs q.1 (List.of_mem_zip hq).1
    have c := hsm q.2 (List.of_mem_zip hq).2
    simp only [wGtup, wGcons, wGnil, wName, wipeD, List.length_cons, List.length_nil, List.set_cons_zero, List.set_cons_succ, Nat.zero_add, Nat.reduceAdd, true_and, wOp, wVar, List.getElem?_cons_zero, List.getElem?_cons_succ]
    exact wMul_i (sgmul_ok a c) hP
  rw [List.nil_append, show (pairDs (sg.zip sm)).map (fun x => match x with | .tup [.int a, .int c] => .int (a * c) | _ => D.non) = litD ((sg.zip sm).map fun q => q.1 * q.2) by unfold litD pairDs; rw [List.map_map, List.map_map]; rfl]
  refine aLst_o H ?_
  intro c1 μ1 hc1 H1
  refine wSum_i (H1.get (c := c1) (by walk_at "own_mem")) ?_
  rw [show ((sg.zip sm).map fun q => q.1 * q.2).sum = totZ sg sm from rfl]
  have H2 := H1.tail
  refine name_i rfl ?_
  simp only [List.set_cons_zero, List.set_cons_succ]
  walk_at "own_lat"
  refine wSeq_i ?_
  refine for_i (zipI_i (Cn.var rfl) (Cn.var rfl) (xs := ts.map tieD) (ys := bs.map pairD) (seq_lst (H2.get (c := ct) (by walk_at "own_mem"))) (seq_lst (H2.get (c := cb) (by walk_at "own_mem"))) ?_)
  rw [pairs_tb]
  refine loop_inv (fun xs δ μ3 => ∃ (dn tl : List (List Int × (Int × Int))) (o5 o6 o7 o8 o9 : Option D), xs = tl.map (fun q => D.tup [tieD q.1, pairD q.2]) ∧ ts.zip bs = dn ++ tl ∧ δ = [some (.cell ct), some (.cell cb), some (.cell cs), some (.tup (litD sg)), some (.int (lackP sg (totZ sg sm) dn)), o5, o6, o7, o8, o9] ∧ Own [] (fun _ => True) μ μ3 [(ct, .lst (ts.map tieD)), (cb, .lst (bs.map pairD)), (cs, .lst (litD sm))])
    (fun _ _ _ ⟨_, _, _, _, _, _, _, _, _, _, H3⟩ => ⟨H2.stay H3 (c := ct) (by walk_at "own_mem") (by walk_at "own_mem"), H2.stay H3 (c := cb) (by walk_at "own_mem") (by walk_at "own_mem")⟩) ?_ _ _ _ ⟨[], ts.zip bs, none, none, none, none, none, rfl, rfl, rfl, H2⟩ ?_
  · rintro x xs δ μ3 ⟨dn, tl, o5, o6, o7, o8, o9, ex, eS, rfl, H3⟩ P' _ _ nx
    cases tl with
    | nil => cases ex
    | cons q tl =>
    obtain ⟨rfl, rfl⟩ : x = D.tup [tieD q.1, pairD q.2] ∧ xs = tl.map (fun q => D.tup [tieD q.1, pairD q.2]) := by simpa using ex
    have hq : q ∈ ts.zip bs := by rw [eS]; simp
    have hq1 := ht q.1 (List.of_mem_zip hq).1
    have hq2 := hb q.2 (List.of_mem_zip hq).2
    have hqo := ho q.2 (List.of_mem_zip hq).2
    have ps := pull_small hq1 hs
    walk_at "own_wg"
    refine wSeq_i ?_
    simp only [wAsg, wCall, wCons, wNil, wVar, wName, List.append_nil, List.getElem?_cons_zero, List.getElem?_cons_succ, List.set_cons_zero, List.set_cons_succ]
    refine law_pull_ok hq1 (d := .tup (litD sg)) rfl hm hs ?_
    intro μ4 f4
    walk_at "own_lat"
    simp only [wAsg, wIf, wTest, wOp, wCons, wNil, wVar, wC, wName, List.getElem?_cons_zero, List.getElem?_cons_succ, List.set_cons_zero, List.set_cons_succ]
    refine wB0_i ?_
    have fin : lackP sg (totZ sg sm) (dn ++ [q]) = lackP sg (totZ sg sm) dn - max (pullZ sg q.1 * q.2.1) (pullZ sg q.1 * q.2.2) := by unfold lackP; rw [List.foldl_append]; rfl
    by_cases c : 0 < pullZ sg q.1
    · simp only [decide_eq_true c, if_true]
      refine wIx_i (xs := [.int q.2.1, .int q.2.2]) rfl (atI_at (j := 1) rfl) ?_
      refine wMul_i (mul_ok (by omega) (by omega)) ?_
      refine wI0_i ?_
      refine nx _ _ ⟨dn ++ [q], tl, some (tieD q.1), some (pairD q.2), some (.int (pullZ sg q.1)), o8, o9, rfl, by rw [eS]; simp, ?_, H3.pure f4⟩
      have : max (pullZ sg q.1 * q.2.1) (pullZ sg q.1 * q.2.2) = pullZ sg q.1 * q.2.2 := by
        have := Int.mul_le_mul_of_nonneg_left hqo (show 0 ≤ pullZ sg q.1 by omega)
        omega
      rw [fin, this]
    · simp only [decide_eq_false c, Bool.false_eq_true, if_false]
      refine wIx_i (xs := [.int q.2.1, .int q.2.2]) rfl (atI_at (j := 0) rfl) ?_
      refine wMul_i (mul_ok (by omega) (by omega)) ?_
      refine wI0_i ?_
      refine nx _ _ ⟨dn ++ [q], tl, some (tieD q.1), some (pairD q.2), some (.int (pullZ sg q.1)), o8, o9, rfl, by rw [eS]; simp, ?_, H3.pure f4⟩
      have : max (pullZ sg q.1 * q.2.1) (pullZ sg q.1 * q.2.2) = pullZ sg q.1 * q.2.1 := by
        have := Int.mul_le_mul_of_nonpos_left (show pullZ sg q.1 ≤ 0 by omega) hqo
        omega
      rw [fin, this]
  · rintro δ μ3 ⟨dn, tl, o5, o6, o7, o8, o9, ex, eS, rfl, H3⟩
    cases tl with
    | cons _ _ => cases ex
    | nil =>
    rw [List.append_nil] at eS
    walk_at "own_lat"
    simp only [wRet, wVar, List.getElem?_cons_zero, List.getElem?_cons_succ]
    rw [← eS, lackP_eq]
    exact .here (k _ H3.fr)
end
end G
namespace G
open PySem L2 PL
local macro_rules | `(tactic| walk_at "own_ws") => `(tactic| try simp only [PL.fnW, PL.startD, List.map_cons, List.map_nil, List.length_cons, List.length_nil, List.replicate, List.replicate_succ, List.replicate_zero, List.append_nil, List.nil_append, List.cons_append, List.singleton_append, Nat.zero_add, Nat.add_zero, Nat.add_sub_cancel, Nat.reduceSub, Nat.reduceAdd, Nat.sub_zero, Nat.sub_self,
  PL.wSeq, PL.wIfS, PL.wRet, PL.wRetN, PL.wDrop, PL.wNext, PL.wBreak, PL.wCont, PL.wOp, PL.wUn, PL.wVar, PL.wC, PL.wCons, PL.wNil, PL.wTup, PL.wLst, PL.wTest, PL.wAnd, PL.wOr, PL.wNot, PL.wAndV, PL.wOrV, PL.wNotV, PL.wIf, PL.wChain, PL.wAsg, PL.wName, PL.wGtup, PL.wGunl, PL.wGcons, PL.wGnil, PL.wPar, PL.wPar3, PL.wAug, PL.wCB, PL.wCall, PL.wMake, PL.wMakeK, PL.wYes, PL.wTru, PL.wFor, PL.wSeqI, PL.wEnumI, PL.wZipI, PL.wRng1, PL.wRng2, PL.wBM, PL.wBM0, PL.wLstRg1, PL.wRaise, PL.wFldS, ↓PL.wFld_var, PL.wSet0, PL.wSAdd, PL.wNoPart, PL.wPart, PL.wSl, PL.wLc, PL.wipeD,
  PL.oSub, PL.oMod, PL.oFdiv, PL.oPow, PL.oLt, PL.oLe, PL.oGt, PL.oGe, PL.wI0, PL.wI2, PL.wB0, PL.wIp, PL.wNeg, PL.wR1, PL.one1, PL.two2, PL.ints1, PL.ints2,
  List.getElem?_cons_zero, List.getElem?_cons_succ, List.set_cons_zero, List.set_cons_succ, and_true, true_and, if_true, if_false, ite_true, ite_false, reduceIte, Bool.true_eq_false, Bool.false_eq_true, eq_self])
local macro_rules | `(tactic| walk_at "own_wt") => `(tactic| try simp only [PL.fnW, PL.startD, List.map_cons, List.map_nil, List.length_cons, List.length_nil, List.replicate, List.replicate_succ, List.replicate_zero, List.append_nil, List.nil_append, List.cons_append, List.singleton_append, Nat.zero_add, Nat.add_zero, Nat.add_sub_cancel, Nat.reduceSub, Nat.reduceAdd, Nat.sub_zero, Nat.sub_self,
  PL.wSeq_l, PL.wIfS, PL.wRet, PL.wRetN, PL.wDrop, PL.wNext, PL.wBreak, PL.wCont, PL.wOp, PL.wUn, PL.wVar, PL.wC, PL.wCons, PL.wNil, PL.wTup, PL.wLst_a, PL.wTest, PL.wAnd, PL.wOr, PL.wNot, PL.wAndV, PL.wOrV, PL.wNotV, PL.wIf, PL.wChain, PL.wAsg, PL.wName, PL.wGtup, PL.wGunl, PL.wGcons, PL.wGnil, PL.wPar, PL.wPar3, PL.wAug, PL.wCB, PL.wCall, PL.wMake, PL.wMakeK, PL.wYes, PL.wTru, PL.wFor, PL.wSeqI, PL.wEnumI, PL.wZipI, PL.wRng1, PL.wRng2, PL.wBM, PL.wBM0, PL.wLstRg1_a, PL.wRaise, PL.wFldS, ↓PL.wFld_var, PL.wSet0, PL.wSAdd, PL.wNoPart, PL.wPart, PL.wSl_eq, PL.wLc_a, PL.wipeD,
  PL.oSub, PL.oMod, PL.oFdiv, PL.oPow, PL.oLt, PL.oLe, PL.oGt, PL.oGe, PL.wI0, PL.wI2, PL.wB0, PL.wIp, PL.wNeg, PL.wR1, PL.one1, PL.two2, PL.ints1, PL.ints2,
  List.getElem?_cons_zero, List.getElem?_cons_succ, List.set_cons_zero, List.set_cons_succ, and_true, true_and, if_true, if_false, ite_true, ite_false, reduceIte, Bool.true_eq_false, Bool.false_eq_true, eq_self])
local macro_rules | `(tactic| walk_at "own_nx") => `(tactic| ((first | refine PL.later_i ?_ | (dsimp only; refine PL.later_i ?_)); walk_at "own_wt"))
local macro_rules | `(tactic| walk_at "own_wg") => `(tactic| simp only [PL.wGtup, PL.wGcons, PL.wGnil, PL.wName, List.length_cons, List.length_nil, List.set_cons_zero, List.set_cons_succ, Nat.zero_add, Nat.reduceAdd, true_and])
local macro_rules | `(tactic| walk_at "own_mem") => `(tactic| repeat (first | exact List.Mem.head _ | refine List.Mem.tail _ ?_))
local macro_rules | `(tactic| walk_at "own_mm") => `(tactic| exact PL.Own.get (by assumption) (by walk_at "own_mem"))
local macro_rules | `(tactic| walk_at "own_sq") => `(tactic| first | rfl | exact PL.seq_lst (PL.Own.get (by assumption) (by walk_at "own_mem")))
local macro_rules | `(tactic| walk_at "own_sub") => `(tactic| repeat (first | exact List.Sublist.refl _ | refine List.Sublist.cons_cons _ ?_ | refine List.Sublist.cons _ ?_))
local macro_rules | `(tactic| walk_at "own_putr") => `(tactic| repeat (first | exact PL.PutR.here | apply PL.PutR.there))
local macro_rules | `(tactic| walk_at "own_lat") => `(tactic| (first | refine PL.later_i ?_ | (dsimp only; refine PL.later_i ?_)))
local macro_rules | `(tactic| walk_at "own_wu") => `(tactic| try simp only [PL.fnW, PL.startD, List.map_cons, List.map_nil, List.length_cons, List.length_nil, List.replicate, List.replicate_succ, List.replicate_zero, List.append_nil, List.nil_append, List.cons_append, List.singleton_append, Nat.zero_add, Nat.add_zero, Nat.add_sub_cancel, Nat.reduceSub, Nat.reduceAdd, Nat.sub_zero, Nat.sub_self,
  PL.wSeq_l, PL.wIfS, PL.wRet, PL.wRetN, PL.wDrop, PL.wNext, PL.wBreak, PL.wCont, PL.wOp, PL.wUn, PL.wVar, PL.wC, PL.wCons, PL.wNil, PL.wTup, PL.wLst_a, PL.wTest, PL.wAnd, PL.wOr, PL.wNot, PL.wAndV, PL.wOrV, PL.wNotV, PL.wIf, PL.wAsg, PL.wName, PL.wPar, PL.wPar3, PL.wCB, PL.wCall, PL.wMake, PL.wYes, PL.wTru, PL.wFor, PL.wSeqI, PL.wRng1, PL.wRng2, PL.wBM, PL.wBM0, PL.wRaise, ↓PL.wFld_var, PL.wNoPart, PL.wPart, PL.wLc_a, PL.wipeD,
  List.getElem?_cons_zero, List.getElem?_cons_succ, List.set_cons_zero, List.set_cons_succ, and_true, true_and, if_true, if_false, ite_true, ite_false, reduceIte, Bool.true_eq_false, Bool.false_eq_true, eq_self])
local macro_rules | `(tactic| walk_at "own_nu") => `(tactic| ((first | refine PL.later_i ?_ | (dsimp only; refine PL.later_i ?_)); walk_at "own_wu"))
local macro_rules | `(tactic| walk_at "own_cn") => `(tactic| repeat (first | exact PL.Cn.c | exact PL.Cn.neg | exact PL.CnA.nil | exact PL.Cn.var rfl | apply PL.CnA.cons | apply PL.Cn.tup))
section
variable {π : Pr} {μ : Mem} {P : D → Mem → Prop} {XP : Exn → Mem → Prop} {d : D} {b r w n p : Nat} {ts : List (List Int)} {bs : List (Int × Int)} {sm : List Int}
def showB (p : Nat) (ts : List (List Int)) (bs : List (Int × Int)) (sm : List Int) (vs : List D) : Bool := signB p vs && decide (0 < lackS ((intsOf vs).getD []) ts bs sm)
theorem firstBad_all {f : D → Bool} : ∀ (xs : List D) (i : Nat), (firstBad f i xs = none ↔ xs.all f = true)
  | [], _ => by simp [firstBad]
  | x :: xs, i => by
    rw [firstBad, List.all_cons]
    by_cases h : f x = true
    · rw [if_pos h, firstBad_all xs (i + 1), h, Bool.true_and]
    · rw [if_neg h]; simp [h]
theorem sign_row_ok {vs : List D} (hv : ∀ v ∈ vs, EvD v) (k : P (.bl (signB p vs)) μ) : S_is_sign_row π [.tup vs, .int (p : Nat)] μ P XP := by
  rw [S_is_sign_row_eq]
  refine ⟨rfl, ?_⟩
  unfold W_is_sign_row
  refine start_i (δ' := [some (.tup vs), some (.int (p : Nat))]) rfl ?_
  simp only [wRet, wAndV, wCall, wOp, wCons, wNil, wVar, wC, List.append_nil, List.getElem?_cons_zero, List.getElem?_cons_succ]
  refine is_tuple_tup ?_
  unfold signB at k
  by_cases hl : vs.length = p
  · rw [decide_eq_true hl, Bool.true_and] at k
    rw [decide_eq_true (show ((vs.length : Nat) : Int) = (p : Nat) by omega)]
    simp only [if_true]
    refine signs_fault_t (d := .tup vs) (xs := vs) rfl (fun x hx => ev_tame (hv x hx) μ) ?_
    cases e : firstBad sgnD 0 vs with
    | none =>
      rw [(firstBad_all vs 0).mp e] at k
      exact .here k
    | some i =>
      have ne : vs.all sgnD = false := by
        cases q : vs.all sgnD with
        | false => rfl
        | true => rw [(firstBad_all vs 0).mpr q] at e; cases e
      rw [ne] at k
      exact .here k
  · rw [decide_eq_false hl, Bool.false_and] at k
    rw [decide_eq_false (show ¬ ((vs.length : Nat) : Int) = (p : Nat) by omega)]
    simp only [Bool.false_eq_true, if_false]
    exact .here k
theorem sign_row_no {cv : Nat} {xs : List D} {m : D} (g : μ[cv]? = some (.lst xs)) (k : P (.bl false) μ) : S_is_sign_row π [.cell cv, m] μ P XP := by
  rw [S_is_sign_row_eq]
  refine ⟨rfl, ?_⟩
  unfold W_is_sign_row
  refine start_i (δ' := [some (.cell cv), some m]) rfl ?_
  simp only [wRet, wAndV, wCall, wOp, wCons, wNil, wVar, wC, List.append_nil, List.getElem?_cons_zero, List.getElem?_cons_succ]
  refine is_tuple_no (T := "list") (by rw [tag_cell, g]; rfl) (by decide) (by decide) ?_
  simp only [Bool.false_eq_true, if_false]
  exact .here k
theorem do_show_ok {vs : List D} (F : Facts π) (hw : WebIs π μ w (p : Nat) ts) (ht : ∀ t ∈ ts, TieOk (p : Nat) t) (fewp : p ≤ 3000) (few : ts.length ≤ 3000) (hb : ∀ q ∈ bs, q.1.natAbs < 2 ^ 240 ∧ q.2.natAbs < 2 ^ 240) (hsm : ∀ x ∈ sm, x.natAbs < 2 ^ 240) (hv : ∀ v ∈ vs, EvD v) (dv : D) (hd : dv = .tup vs ∨ ∃ c xs, dv = .cell c ∧ μ[c]? = some (.lst xs))
    (k : ∀ μ', Fr [] μ μ' → P (.bl (isTupD dv && showB p ts bs sm vs)) μ') : S_do_show π [.cell w, .tup (bs.map pairD), .tup (litD sm), dv] μ P XP := by
  rw [S_do_show_eq]
  refine ⟨rfl, ?_⟩
  unfold W_do_show
  refine start_i (δ' := [some (.cell w), some (.tup (bs.map pairD)), some (.tup (litD sm)), some dv]) rfl ?_
  simp only [wRet, wAndV, wCall, wOp, wCons, wNil, wVar, wC, ↓wFld_var, List.append_nil, List.getElem?_cons_zero, List.getElem?_cons_succ]
  refine wFldV_i hw F.fl.1 rfl rfl ?_
  rcases hd with rfl | ⟨c, xs, rfl, g⟩
  · refine sign_row_ok hv ?_
    rw [show isTupD (.tup vs) = true from rfl, Bool.true_and] at k
    unfold showB at k
    by_cases hS : signB p vs = true
    · rw [hS, Bool.true_and] at k
      simp only [hS, if_true]
      have hS' := hS
      unfold signB at hS'
      rw [Bool.and_eq_true] at hS'
      obtain ⟨sg, rfl, e2, h3⟩ := all_sgn vs hS'.2
      have hl := of_decide_eq_true hS'.1
      rw [len_litD] at hl
      rw [e2, Option.getD_some] at k
      refine wFldV_i hw F.fl.2.1 rfl rfl ?_
      refine lack_of_ok ht (by omega) h3 fewp few hb hsm ?_
      intro μ1 f1
      refine wB0_i ?_
      exact .here (k _ f1)
    · have hF : signB p vs = false := by simpa using hS
      rw [hF, Bool.false_and] at k
      simp only [hF, Bool.false_eq_true, if_false]
      exact .here (k _ (Fr.refl _ _))
  · refine sign_row_no g ?_
    simp only [Bool.false_eq_true, if_false]
    have z := k _ (Fr.refl _ _)
    rw [show isTupD (.cell c) = false from rfl, Bool.false_and] at z
    exact .here z
theorem signs_show_ok {vs : List D} (F : Facts π) (gd : Good π μ w n (p : Nat) ts bs sm) (ht : ∀ t ∈ ts, TieOk (p : Nat) t) (fewp : p ≤ 3000) (hb : ∀ q ∈ bs, q.1.natAbs < 2 ^ 240 ∧ q.2.natAbs < 2 ^ 240) (hsm : ∀ x ∈ sm, x.natAbs < 2 ^ 240) (hv : ∀ v ∈ vs, EvD v)
    (k : ∀ μ', Fr [] μ μ' → P (.bl (showB p ts bs sm vs)) μ') : S_signs_show π [.cell w, .cell n, .tup vs] μ P XP := by
  rw [S_signs_show_eq]
  refine ⟨rfl, ?_⟩
  unfold W_signs_show
  refine wSeq_i ?_
  refine start_i (δ' := [some (.cell w), some (.cell n), some (.tup vs)]) rfl ?_
  simp only [wDrop, wCall, wCons, wNil, wVar, List.append_nil, List.getElem?_cons_zero, List.getElem?_cons_succ]
  refine check_web_box_ok F gd.web gd.box gd.l1 gd.l2 ?_
  walk_at "own_lat"
  simp only [wRet, wCall, wCons, wNil, wVar, ↓wFld_var, List.append_nil, List.getElem?_cons_zero, List.getElem?_cons_succ]
  refine wFldV_i gd.box F.fl.2.2.1 rfl rfl ?_
  refine wFldV_i gd.box F.fl.2.2.2 rfl rfl ?_
  refine do_show_ok F gd.web ht fewp (by rw [← gd.l1]; exact gd.few) hb hsm hv _ (.inl rfl) ?_
  intro μ1 f1
  have z := k _ f1
  exact .here z
/-! papers -/
theorem wEq_word {y : D} {a : PyData} {t : Str} {c : Bool} {P : D → Mem → Prop} (hy : pyF μ 16 y = some a) (sa : SeqAt.shaped a = true) (st : SeqAt.shaped (.str t) = true) (e : PyData.eqv a (.str t) = c) (k : P (.bl c) μ) : wEq false y (.str t) μ P :=
  wEq_py (a := a) (b := .str t) hy (by simp [pyF]) sa st (by rw [e]; exact k)
/-- what is none of the words -/
def NoWord (y : D) : Prop := ∃ a : PyData, (∀ μ, pyF μ 16 y = some a) ∧ SeqAt.shaped a = true ∧ PyData.eqv a (.str (PySem.Str.ofString "filling")) = false ∧ PyData.eqv a (.str (PySem.Str.ofString "signs")) = false
theorem shF : SeqAt.shaped (.str (PySem.Str.ofString "filling")) = true := by decide +kernel
theorem shS : SeqAt.shaped (.str (PySem.Str.ofString "signs")) = true := by decide +kernel
theorem ev_noword {v : D} (h : EvD v) : NoWord v := by
  refine ⟨pyE v, fun μ => (pyE_ok h μ 14).1, ?_, ?_⟩
  · obtain ⟨_, a, c⟩ := pyE_ok h [] 0
    unfold SeqAt.shaped
    simp [a]; omega
  · cases h with
    | int _ => exact ⟨by simp [pyE, PyData.eqv], by simp [pyE, PyData.eqv]⟩
    | non => exact ⟨by simp [pyE, PyData.eqv], by simp [pyE, PyData.eqv]⟩
    | bl => exact ⟨by simp [pyE, PyData.eqv], by simp [pyE, PyData.eqv]⟩
    | str _ h1 h2 => exact ⟨by simp [pyE, PyData.eqv, h1], by simp [pyE, PyData.eqv, h2]⟩
    | tup0 => exact ⟨by simp [pyE, PyData.eqv], by simp [pyE, PyData.eqv]⟩
    | tup1 _ => exact ⟨by simp [pyE, PyData.eqv], by simp [pyE, PyData.eqv]⟩
theorem tup_noword {vs : List D} (h : ∀ v ∈ vs, EvD v) : NoWord (.tup vs) :=
  ⟨.tuple (vs.map pyE), fun μ => by simp [pyF, (pyL_ev μ 13 vs h).1], shaped_tE h, by simp [PyData.eqv], by simp [PyData.eqv]⟩
theorem big_noword : NoWord (.str (PySem.Str.ofString "Filling")) := ⟨.str (PySem.Str.ofString "Filling"), fun μ => by simp [pyF], by decide +kernel, by decide +kernel, by decide +kernel⟩
theorem is_paper_pair {y x : D} {t : Str} {a : PyData} {c : Bool} (hy : pyF μ 16 y = some a) (sa : SeqAt.shaped a = true) (st : SeqAt.shaped (.str t) = true) (e : PyData.eqv a (.str t) = c) (k : P (.bl c) μ) : S_is_paper π [.tup [y, x], .str t, .int 2] μ P XP := by
  rw [S_is_paper_eq]
  refine ⟨rfl, ?_⟩
  unfold W_is_paper
  refine start_i (δ' := [some (.tup [y, x]), some (.str t), some (.int 2)]) rfl ?_
  simp only [wRet, wAndV, wCall, wOp, wCons, wNil, wVar, wC, List.append_nil, List.getElem?_cons_zero, List.getElem?_cons_succ]
  refine is_tuple_tup ?_
  rw [decide_eq_true (by rfl)]
  simp only [if_true]
  refine wIx_i (xs := [y, x]) rfl (atI_at (j := 0) rfl) ?_
  exact wEq_word hy sa st e (.here k)
theorem is_paper_len {xs : List D} {t : D} (h : xs.length ≠ 2) (k : P (.bl false) μ) : S_is_paper π [.tup xs, t, .int 2] μ P XP := by
  rw [S_is_paper_eq]
  refine ⟨rfl, ?_⟩
  unfold W_is_paper
  refine start_i (δ' := [some (.tup xs), some t, some (.int 2)]) rfl ?_
  simp only [wRet, wAndV, wCall, wOp, wCons, wNil, wVar, wC, List.append_nil, List.getElem?_cons_zero, List.getElem?_cons_succ]
  refine is_tuple_tup ?_
  rw [decide_eq_false (by omega)]
  simp only [Bool.false_eq_true, if_false]
  exact .here k
theorem is_paper_no {T : String} {t : D} (h : tagOf μ d = some (.inl T)) (hT : T ∈ six) (ne : T ≠ "tuple") (k : P (.bl false) μ) : S_is_paper π [d, t, .int 2] μ P XP := by
  rw [S_is_paper_eq]
  refine ⟨rfl, ?_⟩
  unfold W_is_paper
  refine start_i (δ' := [some d, some t, some (.int 2)]) rfl ?_
  simp only [wRet, wAndV, wCall, wOp, wCons, wNil, wVar, wC, List.append_nil, List.getElem?_cons_zero, List.getElem?_cons_succ]
  refine is_tuple_no h hT ne ?_
  simp only [Bool.false_eq_true, if_false]
  exact .here k
/-- what is no paper, whatever it is -/
def NoPaper (π : Pr) (μ : Mem) (d : D) : Prop := ∀ (t : Str) (μ' : Mem) (P : D → Mem → Prop) (XP : Exn → Mem → Prop), (t = PySem.Str.ofString "filling" ∨ t = PySem.Str.ofString "signs") → Fr [] μ μ' → P (.bl false) μ' → S_is_paper π [d, .str t, .int 2] μ' P XP
theorem np_pair {y x : D} (h : NoWord y) : NoPaper π μ (.tup [y, x]) := fun t μ' P XP ht _ k => by
  obtain ⟨a, h1, h2, h3, h4⟩ := h
  rcases ht with rfl | rfl
  · exact is_paper_pair (h1 _) h2 shF h3 k
  · exact is_paper_pair (h1 _) h2 shS h4 k
theorem np_len {xs : List D} (h : xs.length ≠ 2) : NoPaper π μ (.tup xs) := fun t μ' P XP ht _ k => is_paper_len h k
theorem np_tag {T : String} (h : tagOf μ d = some (.inl T)) (hT : T ∈ six) (ne : T ≠ "tuple") : NoPaper π μ d := fun t μ' P XP ht f k => is_paper_no (tag_fr f h (offs_nil _)) hT ne k
theorem np_val {vs : List D} (h : ∀ v ∈ vs, EvD v) : NoPaper π μ (.tup vs) := by
  by_cases hl : vs.length = 2
  · match vs, hl with
    | [y, x], _ => exact np_pair (ev_noword (h y (by simp)))
  · exact np_len hl
theorem fill_no (F : Facts π) (gd : Good π μ w n (p : Nat) ts bs sm) (h : NoPaper π μ d) (k : P (.bl false) μ) : S_fill_holds π [.cell w, .cell n, d] μ P XP := by
  rw [S_fill_holds_eq]
  refine ⟨rfl, ?_⟩
  unfold W_fill_holds
  refine wSeq_i ?_
  refine start_i (δ' := [some (.cell w), some (.cell n), some d]) rfl ?_
  simp only [wDrop, wCall, wCons, wNil, wVar, List.append_nil, List.getElem?_cons_zero, List.getElem?_cons_succ]
  refine check_web_box_ok F gd.web gd.box gd.l1 gd.l2 ?_
  walk_at "own_lat"
  refine wSeq_i ?_
  refine wIfS_i ?_
  simp only [PL.wTru, wCall, wCons, wNil, wVar, wC, List.append_nil, List.getElem?_cons_zero, List.getElem?_cons_succ]
  refine h _ _ _ _ (.inl rfl) (Fr.refl _ _) ?_
  simp only [truD, Bool.false_eq_true, if_false, wNext]
  walk_at "own_lat"
  simp only [wRet, wAndV, wCall, wCons, wNil, wVar, wC, List.append_nil, List.getElem?_cons_zero, List.getElem?_cons_succ]
  refine h _ _ _ _ (.inr rfl) (Fr.refl _ _) ?_
  simp only [Bool.false_eq_true, if_false]
  exact .here k
theorem fill_filling {vs : List D} {dv : D} (F : Facts π) (gd : Good π μ w n (p : Nat) ts bs sm) (ht : ∀ t ∈ ts, TieOk (p : Nat) t) (hp : p ≤ 3000) (hb : ∀ q ∈ bs, q.1.natAbs < 2 ^ 240 ∧ q.2.natAbs < 2 ^ 240) (hsm : ∀ x ∈ sm, x.natAbs < 2 ^ 240) (hv : ∀ v ∈ vs, EvD v) (hd : dv = .tup vs ∨ ∃ c xs, dv = .cell c ∧ μ[c]? = some (.lst xs))
    (k : ∀ μ', Fr [] μ μ' → P (.bl (isTupD dv && fillB p ts bs sm vs)) μ') : S_fill_holds π [.cell w, .cell n, .tup [.str (PySem.Str.ofString "filling"), dv]] μ P XP := by
  rw [S_fill_holds_eq]
  refine ⟨rfl, ?_⟩
  unfold W_fill_holds
  refine wSeq_i ?_
  refine start_i (δ' := [some (.cell w), some (.cell n), some (.tup [.str (PySem.Str.ofString "filling"), dv])]) rfl ?_
  simp only [wDrop, wCall, wCons, wNil, wVar, List.append_nil, List.getElem?_cons_zero, List.getElem?_cons_succ]
  refine check_web_box_ok F gd.web gd.box gd.l1 gd.l2 ?_
  walk_at "own_lat"
  refine wSeq_i ?_
  refine wIfS_i ?_
  simp only [PL.wTru, wCall, wCons, wNil, wVar, wC, List.append_nil, List.getElem?_cons_zero, List.getElem?_cons_succ]
  refine is_paper_pair (a := .str (PySem.Str.ofString "filling")) (c := true) (by simp [pyF]) shF shF (by simp [PyData.eqv]) ?_
  simp only [truD, if_true]
  simp only [wRet, wCall, wOp, wCons, wNil, wVar, wC, List.append_nil, List.getElem?_cons_zero, List.getElem?_cons_succ]
  refine wIx_i (xs := [.str (PySem.Str.ofString "filling"), dv]) rfl (atI_at (j := 1) rfl) ?_
  refine filling_ok F gd ht (by omega) hb hsm hv dv hd ?_
  intro μ1 f1
  exact .here (k _ f1)
theorem fill_signs {vs : List D} {dv : D} (F : Facts π) (gd : Good π μ w n (p : Nat) ts bs sm) (ht : ∀ t ∈ ts, TieOk (p : Nat) t) (hp : p ≤ 3000) (hb : ∀ q ∈ bs, q.1.natAbs < 2 ^ 240 ∧ q.2.natAbs < 2 ^ 240) (hsm : ∀ x ∈ sm, x.natAbs < 2 ^ 240) (hv : ∀ v ∈ vs, EvD v) (hd : dv = .tup vs ∨ ∃ c xs, dv = .cell c ∧ μ[c]? = some (.lst xs))
    (k : ∀ μ', Fr [] μ μ' → P (.bl (isTupD dv && showB p ts bs sm vs)) μ') : S_fill_holds π [.cell w, .cell n, .tup [.str (PySem.Str.ofString "signs"), dv]] μ P XP := by
  rw [S_fill_holds_eq]
  refine ⟨rfl, ?_⟩
  unfold W_fill_holds
  refine wSeq_i ?_
  refine start_i (δ' := [some (.cell w), some (.cell n), some (.tup [.str (PySem.Str.ofString "signs"), dv])]) rfl ?_
  simp only [wDrop, wCall, wCons, wNil, wVar, List.append_nil, List.getElem?_cons_zero, List.getElem?_cons_succ]
  refine check_web_box_ok F gd.web gd.box gd.l1 gd.l2 ?_
  walk_at "own_lat"
  refine wSeq_i ?_
  refine wIfS_i ?_
  simp only [PL.wTru, wCall, wCons, wNil, wVar, wC, List.append_nil, List.getElem?_cons_zero, List.getElem?_cons_succ]
  refine is_paper_pair (a := .str (PySem.Str.ofString "signs")) (c := false) (by simp [pyF]) shS shF (by decide +kernel) ?_
  simp only [truD, Bool.false_eq_true, if_false, wNext]
  walk_at "own_lat"
  simp only [wRet, wAndV, wCall, wOp, wCons, wNil, wVar, wC, ↓wFld_var, List.append_nil, List.getElem?_cons_zero, List.getElem?_cons_succ]
  refine is_paper_pair (a := .str (PySem.Str.ofString "signs")) (c := true) (by simp [pyF]) shS shS (by simp [PyData.eqv]) ?_
  simp only [if_true]
  refine wFldV_i gd.box F.fl.2.2.1 rfl rfl ?_
  refine wFldV_i gd.box F.fl.2.2.2 rfl rfl ?_
  refine wIx_i (xs := [.str (PySem.Str.ofString "signs"), dv]) rfl (atI_at (j := 1) rfl) ?_
  refine do_show_ok F gd.web ht hp (by rw [← gd.l1]; exact gd.few) hb hsm hv dv hd ?_
  intro μ1 f1
  exact .here (k _ f1)
end
end G
namespace G
open PySem L2 PL
local macro_rules | `(tactic| walk_at "own_ws") => `(tactic| try simp only [PL.fnW, PL.startD, List.map_cons, List.map_nil, List.length_cons, List.length_nil, List.replicate, List.replicate_succ, List.replicate_zero, List.append_nil, List.nil_append, List.cons_append, List.singleton_append, Nat.zero_add, Nat.add_zero, Nat.add_sub_cancel, Nat.reduceSub, Nat.reduceAdd, Nat.sub_zero, Nat.sub_self,
  PL.wSeq, PL.wIfS, PL.wRet, PL.wRetN, PL.wDrop, PL.wNext, PL.wBreak, PL.wCont, PL.wOp, PL.wUn, PL.wVar, PL.wC, PL.wCons, PL.wNil, PL.wTup, PL.wLst, PL.wTest, PL.wAnd, PL.wOr, PL.wNot, PL.wAndV, PL.wOrV, PL.wNotV, PL.wIf, PL.wChain, PL.wAsg, PL.wName, PL.wGtup, PL.wGunl, PL.wGcons, PL.wGnil, PL.wPar, PL.wPar3, PL.wAug, PL.wCB, PL.wCall, PL.wMake, PL.wMakeK, PL.wYes, PL.wTru, PL.wFor, PL.wSeqI, PL.wEnumI, PL.wZipI, PL.wRng1, PL.wRng2, PL.wBM, PL.wBM0, PL.wLstRg1, PL.wRaise, PL.wFldS, ↓PL.wFld_var, PL.wSet0, PL.wSAdd, PL.wNoPart, PL.wPart, PL.wSl, PL.wLc, PL.wipeD,
  PL.oSub, PL.oMod, PL.oFdiv, PL.oPow, PL.oLt, PL.oLe, PL.oGt, PL.oGe, PL.wI0, PL.wI2, PL.wB0, PL.wIp, PL.wNeg, PL.wR1, PL.one1, PL.two2, PL.ints1, PL.ints2,
  List.getElem?_cons_zero, List.getElem?_cons_succ, List.set_cons_zero, List.set_cons_succ, and_true, true_and, if_true, if_false, ite_true, ite_false, reduceIte, Bool.true_eq_false, Bool.false_eq_true, eq_self])
local macro_rules | `(tactic| walk_at "own_wt") => `(tactic| try simp only [PL.fnW, PL.startD, List.map_cons, List.map_nil, List.length_cons, List.length_nil, List.replicate, List.replicate_succ, List.replicate_zero, List.append_nil, List.nil_append, List.cons_append, List.singleton_append, Nat.zero_add, Nat.add_zero, Nat.add_sub_cancel, Nat.reduceSub, Nat.reduceAdd, Nat.sub_zero, Nat.sub_self,
  PL.wSeq_l, PL.wIfS, PL.wRet, PL.wRetN, PL.wDrop, PL.wNext, PL.wBreak, PL.wCont, PL.wOp, PL.wUn, PL.wVar, PL.wC, PL.wCons, PL.wNil, PL.wTup, PL.wLst_a, PL.wTest, PL.wAnd, PL.wOr, PL.wNot, PL.wAndV, PL.wOrV, PL.wNotV, PL.wIf, PL.wChain, PL.wAsg, PL.wName, PL.wGtup, PL.wGunl, PL.wGcons, PL.wGnil, PL.wPar, PL.wPar3, PL.wAug, PL.wCB, PL.wCall, PL.wMake, PL.wMakeK, PL.wYes, PL.wTru, PL.wFor, PL.wSeqI, PL.wEnumI, PL.wZipI, PL.wRng1, PL.wRng2, PL.wBM, PL.wBM0, PL.wLstRg1_a, PL.wRaise, PL.wFldS, ↓PL.wFld_var, PL.wSet0, PL.wSAdd, PL.wNoPart, PL.wPart, PL.wSl_eq, PL.wLc_a, PL.wipeD,
  PL.oSub, PL.oMod, PL.oFdiv, PL.oPow, PL.oLt, PL.oLe, PL.oGt, PL.oGe, PL.wI0, PL.wI2, PL.wB0, PL.wIp, PL.wNeg, PL.wR1, PL.one1, PL.two2, PL.ints1, PL.ints2,
  List.getElem?_cons_zero, List.getElem?_cons_succ, List.set_cons_zero, List.set_cons_succ, and_true, true_and, if_true, if_false, ite_true, ite_false, reduceIte, Bool.true_eq_false, Bool.false_eq_true, eq_self])
local macro_rules | `(tactic| walk_at "own_nx") => `(tactic| ((first | refine PL.later_i ?_ | (dsimp only; refine PL.later_i ?_)); walk_at "own_wt"))
local macro_rules | `(tactic| walk_at "own_wg") => `(tactic| simp only [PL.wGtup, PL.wGcons, PL.wGnil, PL.wName, List.length_cons, List.length_nil, List.set_cons_zero, List.set_cons_succ, Nat.zero_add, Nat.reduceAdd, true_and])
local macro_rules | `(tactic| walk_at "own_mem") => `(tactic| repeat (first | exact List.Mem.head _ | refine List.Mem.tail _ ?_))
local macro_rules | `(tactic| walk_at "own_mm") => `(tactic| exact PL.Own.get (by assumption) (by walk_at "own_mem"))
local macro_rules | `(tactic| walk_at "own_sq") => `(tactic| first | rfl | exact PL.seq_lst (PL.Own.get (by assumption) (by walk_at "own_mem")))
local macro_rules | `(tactic| walk_at "own_sub") => `(tactic| repeat (first | exact List.Sublist.refl _ | refine List.Sublist.cons_cons _ ?_ | refine List.Sublist.cons _ ?_))
local macro_rules | `(tactic| walk_at "own_putr") => `(tactic| repeat (first | exact PL.PutR.here | apply PL.PutR.there))
local macro_rules | `(tactic| walk_at "own_lat") => `(tactic| (first | refine PL.later_i ?_ | (dsimp only; refine PL.later_i ?_)))
local macro_rules | `(tactic| walk_at "own_wu") => `(tactic| try simp only [PL.fnW, PL.startD, List.map_cons, List.map_nil, List.length_cons, List.length_nil, List.replicate, List.replicate_succ, List.replicate_zero, List.append_nil, List.nil_append, List.cons_append, List.singleton_append, Nat.zero_add, Nat.add_zero, Nat.add_sub_cancel, Nat.reduceSub, Nat.reduceAdd, Nat.sub_zero, Nat.sub_self,
  PL.wSeq_l, PL.wIfS, PL.wRet, PL.wRetN, PL.wDrop, PL.wNext, PL.wBreak, PL.wCont, PL.wOp, PL.wUn, PL.wVar, PL.wC, PL.wCons, PL.wNil, PL.wTup, PL.wLst_a, PL.wTest, PL.wAnd, PL.wOr, PL.wNot, PL.wAndV, PL.wOrV, PL.wNotV, PL.wIf, PL.wAsg, PL.wName, PL.wPar, PL.wPar3, PL.wCB, PL.wCall, PL.wMake, PL.wYes, PL.wTru, PL.wFor, PL.wSeqI, PL.wRng1, PL.wRng2, PL.wBM, PL.wBM0, PL.wRaise, ↓PL.wFld_var, PL.wNoPart, PL.wPart, PL.wLc_a, PL.wipeD,
  List.getElem?_cons_zero, List.getElem?_cons_succ, List.set_cons_zero, List.set_cons_succ, and_true, true_and, if_true, if_false, ite_true, ite_false, reduceIte, Bool.true_eq_false, Bool.false_eq_true, eq_self])
local macro_rules | `(tactic| walk_at "own_nu") => `(tactic| ((first | refine PL.later_i ?_ | (dsimp only; refine PL.later_i ?_)); walk_at "own_wu"))
local macro_rules | `(tactic| walk_at "own_cn") => `(tactic| repeat (first | exact PL.Cn.c | exact PL.Cn.neg | exact PL.CnA.nil | exact PL.Cn.var rfl | apply PL.CnA.cons | apply PL.Cn.tup))
section
variable {π : Pr} {μ : Mem} {P : D → Mem → Prop} {XP : Exn → Mem → Prop} {d : D} {b r w n p : Nat} {ts : List (List Int)} {bs : List (Int × Int)} {sm : List Int}
theorem law_fills_ok {ct cb cs : Nat} {vs : List D} (ht : ∀ t ∈ ts, TieOk (p : Nat) t) (hp : p ≤ 3000) (few : ts.length ≤ 3000) (fb : bs.length ≤ 3000) (hb : ∀ q ∈ bs, q.1.natAbs < 2 ^ 240 ∧ q.2.natAbs < 2 ^ 240) (hsm : ∀ x ∈ sm, x.natAbs < 2 ^ 240) (hl : sm.length ≤ 3000) (hv : ∀ v ∈ vs, EvD v) (fv : vs.length ≤ 4000)
    (g1 : μ[ct]? = some (.lst (ts.map tieD))) (g2 : μ[cb]? = some (.lst (bs.map pairD))) (g3 : μ[cs]? = some (.lst (litD sm)))
    (k : ∀ μ', Fr [] μ μ' → P (.bl (fillB p ts bs sm vs)) μ') : S_law_fills π [.int (p : Nat), .cell ct, .cell cb, .cell cs, .tup vs] μ P XP := by
  rw [S_law_fills_eq]
  refine ⟨rfl, ?_⟩
  unfold W_law_fills
  have H : Own [] (fun _ => True) μ μ [(ct, .lst (ts.map tieD)), (cb, .lst (bs.map pairD)), (cs, .lst (litD sm))] := own0 (by simp; exact ⟨g1, g2, g3⟩)
  refine wSeq_i ?_
  refine start_i (δ' := [some (.int (p : Nat)), some (.cell ct), some (.cell cb), some (.cell cs), some (.tup vs), none, none, none]) rfl ?_
  refine wIfS_i ?_
  simp only [PL.wNot, PL.wTru, wCall, wCB, wCons, wNil, wVar, List.append_nil, List.getElem?_cons_zero, List.getElem?_cons_succ]
  refine wLen_i (seq_lst (H.get (c := ct) (by walk_at "own_mem"))) ?_
  rw [List.length_map]
  refine are_ints_ok hv (by omega) ?_
  intro μ1 f1
  have H1 := H.pure f1
  unfold fillB at k
  by_cases hlen : vs.length = ts.length
  · rw [decide_eq_true (show ((vs.length : Nat) : Int) = ((ts.length : Nat) : Int) by omega), Bool.true_and]
    cases eI : intsOf vs with
    | none =>
      simp only [Option.isSome_none, truD, Bool.not_false, if_true, wRet, wC]
      have z := k _ H1.fr
      rw [eI] at z
      exact .here z
    | some zs =>
      have ev := ints_of_some eI
      subst ev
      rw [len_litD] at hlen fv
      have hzz : ∀ x ∈ zs, x.natAbs < 2 ^ 240 := fun x hx => by
        have := hv (.int x) (List.mem_map.mpr ⟨x, hx, rfl⟩)
        cases this with
        | int h => omega
      rw [eI] at k
      dsimp only at k
      rw [decide_eq_true hlen, Bool.true_and] at k
      simp only [Option.isSome_some, truD, Bool.not_true, Bool.false_eq_true, if_false, wNext]
      walk_at "own_lat"
      refine wSeq_i ?_
      refine wIfS_i ?_
      show wOp (wEq true) _ _ _ _ _ _
      show wLc _ _ _ _ _ _ _ _ _
      refine lc_i (zipI_i (Cn.var rfl) (Cn.var rfl) (xs := litD zs) (ys := bs.map pairD) rfl (seq_lst (H1.get (c := cb) (by walk_at "own_mem"))) ?_)
      have epz : pairs (litD zs) (bs.map pairD) = (zs.zip bs).map fun q => D.tup [.int q.1, pairD q.2] := by
        rw [pairs_app]; unfold litD; rw [List.zip_map, List.map_map]; rfl
      rw [epz]
      have far : Bool := true
      refine ⟨by rw [List.length_map, List.length_zip, sizeLine_eq]; omega, lc_filt (fun _ => .int 1) (fun x => match x with | .tup [.int z, .tup [.int a, .int c]] => decide (z < 2 * a) || decide (2 * c < z) | _ => false) (by constructor; trivial; exact stays_refl _ _) ?_ [] _ ?_⟩
      · intro x hx A B hA hB
        obtain ⟨q, hq, rfl⟩ := List.mem_map.mp hx
        have hq2 := hb q.2 (List.of_mem_zip hq).2
        simp only [pairD] at hA hB
        simp only [wGtup, wGcons, wGnil, wName, wipeD, List.length_cons, List.length_nil, List.set_cons_zero, List.set_cons_succ, Nat.zero_add, Nat.reduceAdd, true_and, wOr, wTest, wOp, wVar, wC, List.getElem?_cons_zero, List.getElem?_cons_succ]
        refine wIx_i (xs := [.int q.2.1, .int q.2.2]) rfl (atI_at (j := 0) rfl) ?_
        refine wMul_i (mul_ok (by decide) (by omega)) ?_
        refine wB0_i ?_
        by_cases c1 : q.1 < 2 * q.2.1
        · simp only [decide_eq_true c1, if_true]
          exact hA (by simp [c1])
        · simp only [decide_eq_false c1, Bool.false_eq_true, if_false]
          refine wIx_i (xs := [.int q.2.1, .int q.2.2]) rfl (atI_at (j := 1) rfl) ?_
          refine wMul_i (mul_ok (by decide) (by omega)) ?_
          refine wB0_i ?_
          by_cases c2 : 2 * q.2.2 < q.1
          · simp only [decide_eq_true c2, if_true]
            exact hA (by simp [c2])
          · simp only [decide_eq_false c2, Bool.false_eq_true, if_false]
            exact hB (by simp [c1, c2])
      rw [List.nil_append]
      have eFl : ((((zs.zip bs).map fun q => D.tup [.int q.1, pairD q.2]).filter (fun x => match x with | .tup [.int z, .tup [.int a, .int c]] => decide (z < 2 * a) || decide (2 * c < z) | _ => false)).map fun _ => D.int 1) = litD (((zs.zip bs).filter fun q => decide (q.1 < 2 * q.2.1) || decide (2 * q.2.2 < q.1)).map fun _ => (1 : Int)) := by
        unfold litD; rw [List.filter_map, List.map_map, List.map_map]; rfl
      rw [eFl]
      refine aLst_o H1 ?_
      intro c2 μ2 hc2 H2
      simp only [wLst_a, wNil]
      refine aLst_o H2 ?_
      intro c3 μ3 hc3 H3
      refine wEq_lI (b := []) (H3.get (c := c2) (by walk_at "own_mem")) (H3.get (c := c3) (by walk_at "own_mem")) ?_
      have eW : decide ((((zs.zip bs).filter fun q => decide (q.1 < 2 * q.2.1) || decide (2 * q.2.2 < q.1)).map fun _ => (1 : Int)) = []) = withinB bs zs := by
        unfold withinB
        induction zs.zip bs with
        | nil => rfl
        | cons q l ih =>
          rw [List.filter_cons, List.all_cons, ← ih]
          by_cases c1 : q.1 < 2 * q.2.1
          · rw [if_pos (by simp [c1]), decide_eq_false (show ¬ 2 * q.2.1 ≤ q.1 by omega)]; simp
          · by_cases c2 : 2 * q.2.2 < q.1
            · rw [if_pos (by simp [c2]), decide_eq_false (show ¬ q.1 ≤ 2 * q.2.2 by omega)]; simp
            · rw [if_neg (by simp [c1, c2]), decide_eq_true (show 2 * q.2.1 ≤ q.1 by omega), decide_eq_true (show q.1 ≤ 2 * q.2.2 by omega)]; simp
      rw [eW]
      have H4 := H3.tail.tail
      cases hW : withinB bs zs with
      | true =>
        rw [hW, Bool.true_and] at k
        simp only [if_true, Bool.not_true, Bool.false_eq_true, if_false, wNext]
        walk_at "own_lat"
        show wOp (wEq false) _ _ _ _ _ _
        show S_law_sums π _ _ _ _
        refine law_sums_ok (d2 := .tup (litD zs)) ht (H4.get (c := ct) (by walk_at "own_mem")) rfl (by omega) few hzz ?_
        intro c5 μ5 f5 hc5 g5
        have H5 := H4.fresh f5 g5 hc5
        refine lc_i (seqI_i (Cn.var rfl) (seq_lst (H5.get (c := cs) (by walk_at "own_mem"))) ?_)
        refine ⟨by rw [len_litD, sizeLine_eq]; omega, lc_map (fun x => match x with | .int a => .int (2 * a) | _ => .non) (stays_refl _ _) ?_ [] _ ?_⟩
        · intro x hx P3 hP
          obtain ⟨q, hq, rfl⟩ := List.mem_map.mp hx
          have hbq := hsm q hq
          simp only [wName, wipeD, wOp, wC, wVar, List.getElem?_cons_zero, List.getElem?_cons_succ, List.set_cons_zero, List.set_cons_succ]
          exact wMul_i (mul_ok (by decide) (by omega)) hP
        rw [List.nil_append, show (litD sm).map (fun x => match x with | .int a => .int (2 * a) | _ => D.non) = litD (sm.map (2 * ·)) by unfold litD; rw [List.map_map, List.map_map]; rfl]
        refine aLst_o H5 ?_
        intro c6 μ6 hc6 H6
        refine wEq_lI (H6.get (c := c5) (by walk_at "own_mem")) (H6.get (c := c6) (by walk_at "own_mem")) ?_
        simp only [Bool.false_eq_true, if_false]
        exact .here (k _ H6.fr)
      | false =>
        rw [hW, Bool.false_and] at k
        simp only [if_true, Bool.not_false, wRet, wC]
        exact .here (k _ H4.fr)
  · rw [decide_eq_false (show ¬ ((vs.length : Nat) : Int) = ((ts.length : Nat) : Int) by omega), Bool.false_and]
    simp only [truD, Bool.not_false, if_true, wRet, wC]
    have z := k _ H1.fr
    cases eI : intsOf vs with
    | none => rw [eI] at z; exact .here z
    | some zs =>
      have ev := ints_of_some eI
      subst ev
      rw [len_litD] at hlen
      rw [eI] at z
      dsimp only at z
      rw [decide_eq_false hlen, Bool.false_and] at z
      exact .here z
end
end G
namespace G
open PySem L2 PL
local macro_rules | `(tactic| walk_at "own_ws") => `(tactic| try simp only [PL.fnW, PL.startD, List.map_cons, List.map_nil, List.length_cons, List.length_nil, List.replicate, List.replicate_succ, List.replicate_zero, List.append_nil, List.nil_append, List.cons_append, List.singleton_append, Nat.zero_add, Nat.add_zero, Nat.add_sub_cancel, Nat.reduceSub, Nat.reduceAdd, Nat.sub_zero, Nat.sub_self,
  PL.wSeq, PL.wIfS, PL.wRet, PL.wRetN, PL.wDrop, PL.wNext, PL.wBreak, PL.wCont, PL.wOp, PL.wUn, PL.wVar, PL.wC, PL.wCons, PL.wNil, PL.wTup, PL.wLst, PL.wTest, PL.wAnd, PL.wOr, PL.wNot, PL.wAndV, PL.wOrV, PL.wNotV, PL.wIf, PL.wChain, PL.wAsg, PL.wName, PL.wGtup, PL.wGunl, PL.wGcons, PL.wGnil, PL.wPar, PL.wPar3, PL.wAug, PL.wCB, PL.wCall, PL.wMake, PL.wMakeK, PL.wYes, PL.wTru, PL.wFor, PL.wSeqI, PL.wEnumI, PL.wZipI, PL.wRng1, PL.wRng2, PL.wBM, PL.wBM0, PL.wLstRg1, PL.wRaise, PL.wFldS, ↓PL.wFld_var, PL.wSet0, PL.wSAdd, PL.wNoPart, PL.wPart, PL.wSl, PL.wLc, PL.wipeD,
  PL.oSub, PL.oMod, PL.oFdiv, PL.oPow, PL.oLt, PL.oLe, PL.oGt, PL.oGe, PL.wI0, PL.wI2, PL.wB0, PL.wIp, PL.wNeg, PL.wR1, PL.one1, PL.two2, PL.ints1, PL.ints2,
  List.getElem?_cons_zero, List.getElem?_cons_succ, List.set_cons_zero, List.set_cons_succ, and_true, true_and, if_true, if_false, ite_true, ite_false, reduceIte, Bool.true_eq_false, Bool.false_eq_true, eq_self])
local macro_rules | `(tactic| walk_at "own_wt") => `(tactic| try simp only [PL.fnW, PL.startD, List.map_cons, List.map_nil, List.length_cons, List.length_nil, List.replicate, List.replicate_succ, List.replicate_zero, List.append_nil, List.nil_append, List.cons_append, List.singleton_append, Nat.zero_add, Nat.add_zero, Nat.add_sub_cancel, Nat.reduceSub, Nat.reduceAdd, Nat.sub_zero, Nat.sub_self,
  PL.wSeq_l, PL.wIfS, PL.wRet, PL.wRetN, PL.wDrop, PL.wNext, PL.wBreak, PL.wCont, PL.wOp, PL.wUn, PL.wVar, PL.wC, PL.wCons, PL.wNil, PL.wTup, PL.wLst_a, PL.wTest, PL.wAnd, PL.wOr, PL.wNot, PL.wAndV, PL.wOrV, PL.wNotV, PL.wIf, PL.wChain, PL.wAsg, PL.wName, PL.wGtup, PL.wGunl, PL.wGcons, PL.wGnil, PL.wPar, PL.wPar3, PL.wAug, PL.wCB, PL.wCall, PL.wMake, PL.wMakeK, PL.wYes, PL.wTru, PL.wFor, PL.wSeqI, PL.wEnumI, PL.wZipI, PL.wRng1, PL.wRng2, PL.wBM, PL.wBM0, PL.wLstRg1_a, PL.wRaise, PL.wFldS, ↓PL.wFld_var, PL.wSet0, PL.wSAdd, PL.wNoPart, PL.wPart, PL.wSl_eq, PL.wLc_a, PL.wipeD,
  PL.oSub, PL.oMod, PL.oFdiv, PL.oPow, PL.oLt, PL.oLe, PL.oGt, PL.oGe, PL.wI0, PL.wI2, PL.wB0, PL.wIp, PL.wNeg, PL.wR1, PL.one1, PL.two2, PL.ints1, PL.ints2,
  List.getElem?_cons_zero, List.getElem?_cons_succ, List.set_cons_zero, List.set_cons_succ, and_true, true_and, if_true, if_false, ite_true, ite_false, reduceIte, Bool.true_eq_false, Bool.false_eq_true, eq_self])
local macro_rules | `(tactic| walk_at "own_nx") => `(tactic| ((first | refine PL.later_i ?_ | (dsimp only; refine PL.later_i ?_)); walk_at "own_wt"))
local macro_rules | `(tactic| walk_at "own_wg") => `(tactic| simp only [PL.wGtup, PL.wGcons, PL.wGnil, PL.wName, List.length_cons, List.length_nil, List.set_cons_zero, List.set_cons_succ, Nat.zero_add, Nat.reduceAdd, true_and])
local macro_rules | `(tactic| walk_at "own_mem") => `(tactic| repeat (first | exact List.Mem.head _ | refine List.Mem.tail _ ?_))
local macro_rules | `(tactic| walk_at "own_mm") => `(tactic| exact PL.Own.get (by assumption) (by walk_at "own_mem"))
local macro_rules | `(tactic| walk_at "own_sq") => `(tactic| first | rfl | exact PL.seq_lst (PL.Own.get (by assumption) (by walk_at "own_mem")))
local macro_rules | `(tactic| walk_at "own_sub") => `(tactic| repeat (first | exact List.Sublist.refl _ | refine List.Sublist.cons_cons _ ?_ | refine List.Sublist.cons _ ?_))
local macro_rules | `(tactic| walk_at "own_putr") => `(tactic| repeat (first | exact PL.PutR.here | apply PL.PutR.there))
local macro_rules | `(tactic| walk_at "own_lat") => `(tactic| (first | refine PL.later_i ?_ | (dsimp only; refine PL.later_i ?_)))
local macro_rules | `(tactic| walk_at "own_wu") => `(tactic| try simp only [PL.fnW, PL.startD, List.map_cons, List.map_nil, List.length_cons, List.length_nil, List.replicate, List.replicate_succ, List.replicate_zero, List.append_nil, List.nil_append, List.cons_append, List.singleton_append, Nat.zero_add, Nat.add_zero, Nat.add_sub_cancel, Nat.reduceSub, Nat.reduceAdd, Nat.sub_zero, Nat.sub_self,
  PL.wSeq_l, PL.wIfS, PL.wRet, PL.wRetN, PL.wDrop, PL.wNext, PL.wBreak, PL.wCont, PL.wOp, PL.wUn, PL.wVar, PL.wC, PL.wCons, PL.wNil, PL.wTup, PL.wLst_a, PL.wTest, PL.wAnd, PL.wOr, PL.wNot, PL.wAndV, PL.wOrV, PL.wNotV, PL.wIf, PL.wAsg, PL.wName, PL.wPar, PL.wPar3, PL.wCB, PL.wCall, PL.wMake, PL.wYes, PL.wTru, PL.wFor, PL.wSeqI, PL.wRng1, PL.wRng2, PL.wBM, PL.wBM0, PL.wRaise, ↓PL.wFld_var, PL.wNoPart, PL.wPart, PL.wLc_a, PL.wipeD,
  List.getElem?_cons_zero, List.getElem?_cons_succ, List.set_cons_zero, List.set_cons_succ, and_true, true_and, if_true, if_false, ite_true, ite_false, reduceIte, Bool.true_eq_false, Bool.false_eq_true, eq_self])
local macro_rules | `(tactic| walk_at "own_nu") => `(tactic| ((first | refine PL.later_i ?_ | (dsimp only; refine PL.later_i ?_)); walk_at "own_wu"))
local macro_rules | `(tactic| walk_at "own_cn") => `(tactic| repeat (first | exact PL.Cn.c | exact PL.Cn.neg | exact PL.CnA.nil | exact PL.Cn.var rfl | apply PL.CnA.cons | apply PL.Cn.tup))
section
variable {π : Pr} {μ : Mem} {P : D → Mem → Prop} {XP : Exn → Mem → Prop} {d : D} {b r w n p : Nat} {ts : List (List Int)} {bs : List (Int × Int)} {sm : List Int}
theorem law_is_bl {x : Bool} {n : Nat} (k : P (.bl true) μ) : S_law_is π (n + 1) [.bl x, .bl x] μ P XP := by
  rw [S_law_is_eq]
  refine ⟨rfl, ?_⟩
  unfold W_law_is
  refine wSeq_i ?_
  refine start_i (δ' := [some (.bl x), some (.bl x), none, none]) rfl ?_
  refine wIfS_i ?_
  simp only [PL.wTru, wCB, wCons, wNil, wVar, wC, List.getElem?_cons_zero, List.getElem?_cons_succ]
  refine wIsi_ty (T := "bool") rfl (k6 (by decide)).2.2.2.2 ?_
  rw [show ("bool" == "tuple") = false from by decide]
  simp only [truD, Bool.false_eq_true, if_false, wNext]
  walk_at "own_lat"
  refine wSeq_i ?_
  refine wIfS_i ?_
  cases x with
  | true =>
    simp only [wOr, wTest, wOp, wIs, wVar, wC, PL.isNon, decide_true, Bool.false_eq_true, if_false, if_true, List.getElem?_cons_zero, List.getElem?_cons_succ]
    simp only [wRet, wIf, wTest, wOp, wIs, wVar, wC, PL.isNon, decide_true, Bool.false_eq_true, if_false, if_true, List.getElem?_cons_zero, List.getElem?_cons_succ]
    exact .here k
  | false =>
    simp only [wOr, wTest, wOp, wIs, wVar, wC, PL.isNon, decide_true, Bool.false_eq_true, if_false, if_true, show decide (false = true) = false from rfl, List.getElem?_cons_zero, List.getElem?_cons_succ]
    simp only [wRet, wIf, wTest, wOp, wIs, wVar, wC, PL.isNon, decide_true, Bool.false_eq_true, if_false, if_true, show decide (false = true) = false from rfl, List.getElem?_cons_zero, List.getElem?_cons_succ]
    exact .here k
theorem fillB_norm (ht : ∀ t ∈ ts, TieOk (p : Nat) t) (vs : List D) : fillB p (ts.map normT) bs sm vs = fillB p ts bs sm vs := by
  unfold fillB
  cases intsOf vs with
  | none => rfl
  | some zs =>
    have e : sumsZ p (ts.map normT) zs = sumsZ p ts zs := sumsF_norm ts _ _ ht
    show (decide (zs.length = (ts.map normT).length) && (withinB bs zs && decide (sumsZ p (ts.map normT) zs = sm.map (2 * ·)))) = _
    rw [e, List.length_map]
theorem showB_norm (ht : ∀ t ∈ ts, TieOk (p : Nat) t) (vs : List D) : showB p (ts.map normT) bs sm vs = showB p ts bs sm vs := by
  unfold showB lackS
  rw [(lk_norm ts bs ht).2]
end
end G
namespace G
open PySem L2 PL
local macro_rules | `(tactic| walk_at "own_ws") => `(tactic| try simp only [PL.fnW, PL.startD, List.map_cons, List.map_nil, List.length_cons, List.length_nil, List.replicate, List.replicate_succ, List.replicate_zero, List.append_nil, List.nil_append, List.cons_append, List.singleton_append, Nat.zero_add, Nat.add_zero, Nat.add_sub_cancel, Nat.reduceSub, Nat.reduceAdd, Nat.sub_zero, Nat.sub_self,
  PL.wSeq, PL.wIfS, PL.wRet, PL.wRetN, PL.wDrop, PL.wNext, PL.wBreak, PL.wCont, PL.wOp, PL.wUn, PL.wVar, PL.wC, PL.wCons, PL.wNil, PL.wTup, PL.wLst, PL.wTest, PL.wAnd, PL.wOr, PL.wNot, PL.wAndV, PL.wOrV, PL.wNotV, PL.wIf, PL.wChain, PL.wAsg, PL.wName, PL.wGtup, PL.wGunl, PL.wGcons, PL.wGnil, PL.wPar, PL.wPar3, PL.wAug, PL.wCB, PL.wCall, PL.wMake, PL.wMakeK, PL.wYes, PL.wTru, PL.wFor, PL.wSeqI, PL.wEnumI, PL.wZipI, PL.wRng1, PL.wRng2, PL.wBM, PL.wBM0, PL.wLstRg1, PL.wRaise, PL.wFldS, ↓PL.wFld_var, PL.wSet0, PL.wSAdd, PL.wNoPart, PL.wPart, PL.wSl, PL.wLc, PL.wipeD,
  PL.oSub, PL.oMod, PL.oFdiv, PL.oPow, PL.oLt, PL.oLe, PL.oGt, PL.oGe, PL.wI0, PL.wI2, PL.wB0, PL.wIp, PL.wNeg, PL.wR1, PL.one1, PL.two2, PL.ints1, PL.ints2,
  List.getElem?_cons_zero, List.getElem?_cons_succ, List.set_cons_zero, List.set_cons_succ, and_true, true_and, if_true, if_false, ite_true, ite_false, reduceIte, Bool.true_eq_false, Bool.false_eq_true, eq_self])
local macro_rules | `(tactic| walk_at "own_wt") => `(tactic| try simp only [PL.fnW, PL.startD, List.map_cons, List.map_nil, List.length_cons, List.length_nil, List.replicate, List.replicate_succ, List.replicate_zero, List.append_nil, List.nil_append, List.cons_append, List.singleton_append, Nat.zero_add, Nat.add_zero, Nat.add_sub_cancel, Nat.reduceSub, Nat.reduceAdd, Nat.sub_zero, Nat.sub_self,
  PL.wSeq_l, PL.wIfS, PL.wRet, PL.wRetN, PL.wDrop, PL.wNext, PL.wBreak, PL.wCont, PL.wOp, PL.wUn, PL.wVar, PL.wC, PL.wCons, PL.wNil, PL.wTup, PL.wLst_a, PL.wTest, PL.wAnd, PL.wOr, PL.wNot, PL.wAndV, PL.wOrV, PL.wNotV, PL.wIf, PL.wChain, PL.wAsg, PL.wName, PL.wGtup, PL.wGunl, PL.wGcons, PL.wGnil, PL.wPar, PL.wPar3, PL.wAug, PL.wCB, PL.wCall, PL.wMake, PL.wMakeK, PL.wYes, PL.wTru, PL.wFor, PL.wSeqI, PL.wEnumI, PL.wZipI, PL.wRng1, PL.wRng2, PL.wBM, PL.wBM0, PL.wLstRg1_a, PL.wRaise, PL.wFldS, ↓PL.wFld_var, PL.wSet0, PL.wSAdd, PL.wNoPart, PL.wPart, PL.wSl_eq, PL.wLc_a, PL.wipeD,
  PL.oSub, PL.oMod, PL.oFdiv, PL.oPow, PL.oLt, PL.oLe, PL.oGt, PL.oGe, PL.wI0, PL.wI2, PL.wB0, PL.wIp, PL.wNeg, PL.wR1, PL.one1, PL.two2, PL.ints1, PL.ints2,
  List.getElem?_cons_zero, List.getElem?_cons_succ, List.set_cons_zero, List.set_cons_succ, and_true, true_and, if_true, if_false, ite_true, ite_false, reduceIte, Bool.true_eq_false, Bool.false_eq_true, eq_self])
local macro_rules | `(tactic| walk_at "own_nx") => `(tactic| ((first | refine PL.later_i ?_ | (dsimp only; refine PL.later_i ?_)); walk_at "own_wt"))
local macro_rules | `(tactic| walk_at "own_wg") => `(tactic| simp only [PL.wGtup, PL.wGcons, PL.wGnil, PL.wName, List.length_cons, List.length_nil, List.set_cons_zero, List.set_cons_succ, Nat.zero_add, Nat.reduceAdd, true_and])
local macro_rules | `(tactic| walk_at "own_mem") => `(tactic| repeat (first | exact List.Mem.head _ | refine List.Mem.tail _ ?_))
local macro_rules | `(tactic| walk_at "own_mm") => `(tactic| exact PL.Own.get (by assumption) (by walk_at "own_mem"))
local macro_rules | `(tactic| walk_at "own_sq") => `(tactic| first | rfl | exact PL.seq_lst (PL.Own.get (by assumption) (by walk_at "own_mem")))
local macro_rules | `(tactic| walk_at "own_sub") => `(tactic| repeat (first | exact List.Sublist.refl _ | refine List.Sublist.cons_cons _ ?_ | refine List.Sublist.cons _ ?_))
local macro_rules | `(tactic| walk_at "own_putr") => `(tactic| repeat (first | exact PL.PutR.here | apply PL.PutR.there))
local macro_rules | `(tactic| walk_at "own_lat") => `(tactic| (first | refine PL.later_i ?_ | (dsimp only; refine PL.later_i ?_)))
local macro_rules | `(tactic| walk_at "own_wu") => `(tactic| try simp only [PL.fnW, PL.startD, List.map_cons, List.map_nil, List.length_cons, List.length_nil, List.replicate, List.replicate_succ, List.replicate_zero, List.append_nil, List.nil_append, List.cons_append, List.singleton_append, Nat.zero_add, Nat.add_zero, Nat.add_sub_cancel, Nat.reduceSub, Nat.reduceAdd, Nat.sub_zero, Nat.sub_self,
  PL.wSeq_l, PL.wIfS, PL.wRet, PL.wRetN, PL.wDrop, PL.wNext, PL.wBreak, PL.wCont, PL.wOp, PL.wUn, PL.wVar, PL.wC, PL.wCons, PL.wNil, PL.wTup, PL.wLst_a, PL.wTest, PL.wAnd, PL.wOr, PL.wNot, PL.wAndV, PL.wOrV, PL.wNotV, PL.wIf, PL.wAsg, PL.wName, PL.wPar, PL.wPar3, PL.wCB, PL.wCall, PL.wMake, PL.wYes, PL.wTru, PL.wFor, PL.wSeqI, PL.wRng1, PL.wRng2, PL.wBM, PL.wBM0, PL.wRaise, ↓PL.wFld_var, PL.wNoPart, PL.wPart, PL.wLc_a, PL.wipeD,
  List.getElem?_cons_zero, List.getElem?_cons_succ, List.set_cons_zero, List.set_cons_succ, and_true, true_and, if_true, if_false, ite_true, ite_false, reduceIte, Bool.true_eq_false, Bool.false_eq_true, eq_self])
local macro_rules | `(tactic| walk_at "own_nu") => `(tactic| ((first | refine PL.later_i ?_ | (dsimp only; refine PL.later_i ?_)); walk_at "own_wu"))
local macro_rules | `(tactic| walk_at "own_cn") => `(tactic| repeat (first | exact PL.Cn.c | exact PL.Cn.neg | exact PL.CnA.nil | exact PL.Cn.var rfl | apply PL.CnA.cons | apply PL.Cn.tup))
section
variable {π : Pr} {μ : Mem} {P : D → Mem → Prop} {XP : Exn → Mem → Prop} {d : D} {b r w n p : Nat} {ts : List (List Int)} {bs : List (Int × Int)} {sm : List Int}
theorem ifN_i {c : Prop} [Decidable c] {A B : Prop} (h : ¬ c) (k : B) : if c then A else B := by rw [if_neg h]; exact k
theorem wNext_i {δ : En} {Q : PO} (k : Q.nx δ μ) : wNext δ μ Q := k
theorem asked_ok {ct cb cs : Nat} {vs : List D} {ns : List Int} (F : Facts π) (H : OwnT b r ns μ μ [(ct, .lst (ts.map tieD)), (cb, .lst (bs.map pairD)), (cs, .lst (litD sm))])
    (ht : ∀ t ∈ ts, TieOk (p : Nat) t) (h1 : 1 ≤ p) (hp : p ≤ 1000) (few : ts.length ≤ 3000) (l1 : bs.length = ts.length) (l2 : sm.length = p) (o : ∀ q ∈ bs, q.1 ≤ q.2)
    (hb : ∀ q ∈ bs, q.1.natAbs < 2 ^ 240 ∧ q.2.natAbs < 2 ^ 240) (hsm : ∀ x ∈ sm, x.natAbs < 2 ^ 240) (hv : ∀ v ∈ vs, EvD v) (fv : vs.length ≤ 4000)
    (k : ∀ μ' r' ns', Turn b r ns μ μ' r' ns' → P (.bl true) μ') : S_law_asked π [.cell b, .int (p : Nat), .cell ct, .cell cb, .cell cs, .tup vs] μ P XP := by
  rw [S_law_asked_eq]
  refine ⟨rfl, ?_⟩
  unfold W_law_asked
  have z0 := Zw.start H.inv
  refine wSeq_i ?_
  refine start_i (δ' := [some (.cell b), some (.int (p : Nat)), some (.cell ct), some (.cell cb), some (.cell cs), some (.tup vs), none, none, none, none, none]) rfl ?_
  refine wAsg_i ?_
  simp only [wMake, wCons, wNil, wCB, wVar, List.append_nil, List.getElem?_cons_zero, List.getElem?_cons_succ]
  refine wTupC_i (seq_lst (H.get (c := ct) (by walk_at "own_mem"))) ?_
  refine web_init_ok F (by omega) (by omega) few ht ?_
  intro μ1 f1 hw1
  refine ⟨rfl, .here ?_⟩
  have H1 := H.fresh f1 hw1 (Nat.le_refl _)
  generalize μ.length = w at H1 hw1
  refine name_i rfl ?_
  walk_at "own_lat"
  refine wSeq_i ?_
  refine wAsg_i ?_
  simp only [wMake, wCons, wNil, wCB, wVar, List.append_nil, List.getElem?_cons_zero, List.getElem?_cons_succ, List.set_cons_zero, List.set_cons_succ]
  refine wTupC_i (seq_lst (H1.get (c := cb) (by walk_at "own_mem"))) ?_
  refine wTupC_i (seq_lst (H1.get (c := cs) (by walk_at "own_mem"))) ?_
  have l1' : bs.length = (ts.map normT).length := by rw [List.length_map]; exact l1
  have l2' : ((sm.length : Nat) : Int) = (p : Nat) := by omega
  refine mkBox_ok F hw1 ⟨tame_tup _, _, rfl, pairsAt_map _⟩ ⟨tame_tup _, rfl⟩ l1' l2' o (by omega) ?_
  intro μ2 f2 hn2
  have H2 := H1.fresh f2 hn2 (Nat.le_refl _)
  have lw := get_lt hw1
  generalize μ1.length = n at H2 hn2
  have gd : ∀ {μ' : Mem}, WebIs π μ' w (p : Nat) (ts.map normT) → BoxIs π μ' n bs sm → Good π μ' w n (p : Nat) (ts.map normT) bs sm := fun x y => ⟨x, y, l1', l2', o, by omega⟩
  have htn : ∀ t ∈ ts.map normT, TieOk (p : Nat) t := fun t h => by
    obtain ⟨u, hu, rfl⟩ := List.mem_map.mp h
    exact norm_ok (ht u hu)
  refine name_i rfl ?_
  walk_at "own_lat"
  refine wSeq_i ?_
  refine wAsg_i ?_
  simp only [wCall, wCons, wNil, wVar, List.append_nil, List.getElem?_cons_zero, List.getElem?_cons_succ, List.set_cons_zero, List.set_cons_succ]
  refine law_fills_ok ht (by omega) few (by omega) hb hsm (by omega) hv fv (H2.get (c := ct) (by walk_at "own_mem")) (H2.get (c := cb) (by walk_at "own_mem")) (H2.get (c := cs) (by walk_at "own_mem")) ?_
  intro μ3 f3
  have H3 := H2.pure f3
  refine name_i rfl ?_
  walk_at "own_lat"
  refine later_mid (fun δ μ' => δ = [some (.cell b), some (.int (p : Nat)), some (.cell ct), some (.cell cb), some (.cell cs), some (.tup vs), some (.cell w), some (.cell n), some (.bl (fillB p ts bs sm vs)), some (.bl (showB p ts bs sm vs)), none] ∧ Fr [] μ3 μ') (fun NN nx' => ?_) ?_
  · refine wAsg_i ?_
    simp only [wAndV, wOp, wCall, wCons, wNil, wVar, wC, List.append_nil, List.getElem?_cons_zero, List.getElem?_cons_succ, List.set_cons_zero, List.set_cons_succ]
    refine are_signs_ok hv (by omega) ?_
    intro μ4 f4
    cases eS : signB p vs with
    | false =>
      simp only [Bool.false_eq_true, if_false]
      refine name_i rfl ?_
      refine nx' _ _ ⟨by unfold showB; rw [eS, Bool.false_and]; rfl, f4⟩
    | true =>
      simp only [if_true]
      have eS' := eS
      unfold signB at eS'
      rw [Bool.and_eq_true] at eS'
      obtain ⟨el, ea⟩ := eS'
      obtain ⟨sg, rfl, ei, hs⟩ := all_sgn _ ea
      have el' := of_decide_eq_true el
      rw [len_litD] at el'
      have H4 := H3.pure f4
      refine short_ok ht (by omega) hs (by omega) few hb o hsm (H4.get (c := ct) (by walk_at "own_mem")) (H4.get (c := cb) (by walk_at "own_mem")) (H4.get (c := cs) (by walk_at "own_mem")) ?_
      intro μ5 f5
      refine wB0_i ?_
      refine name_i rfl ?_
      refine nx' _ _ ⟨?_, f4.trans f5⟩
      unfold showB
      rw [eS, ei, Bool.true_and]
      rfl
  rintro δ μ4 ⟨rfl, f4⟩
  have H4 := H3.pure f4
  refine wSeq_i ?_
  refine wIfS_i ?_
  simp only [wOr, PL.wNot, PL.wTru, wCall, wCons, wNil, wVar, List.append_nil, List.getElem?_cons_zero, List.getElem?_cons_succ]
  refine filling_ok F (gd (H4.get (c := w) (by walk_at "own_mem")) (H4.get (c := n) (by walk_at "own_mem"))) htn (by omega) hb hsm hv _ (.inl rfl) ?_
  intro μ5 f5
  have H5 := H4.pure f5
  rw [fillB_norm ht]
  simp only [isTupD, Bool.true_and]
  refine law_is_bl ?_
  simp only [truD, Bool.not_true, Bool.false_eq_true, if_false]
  refine signs_show_ok F (gd (H5.get (c := w) (by walk_at "own_mem")) (H5.get (c := n) (by walk_at "own_mem"))) htn (by omega) hb hsm hv ?_
  intro μ6 f6
  have H6 := H5.pure f6
  rw [showB_norm ht]
  refine law_is_bl ?_
  refine ifN_i (by decide) ?_
  refine wNext_i ?_
  walk_at "own_lat"
  refine wSeq_i ?_
  refine wIfS_i ?_
  simp only [PL.wNot, PL.wTru, wCall, wTup, wCons, wNil, wVar, wC, List.append_nil, List.getElem?_cons_zero, List.getElem?_cons_succ]
  refine fill_filling F (gd (H6.get (c := w) (by walk_at "own_mem")) (H6.get (c := n) (by walk_at "own_mem"))) htn (by omega) hb hsm hv (.inl rfl) ?_
  intro μ7 f7
  have H7 := H6.pure f7
  rw [fillB_norm ht]
  simp only [isTupD, Bool.true_and]
  refine law_is_bl ?_
  refine ifN_i (by decide) ?_
  refine wNext_i ?_
  walk_at "own_lat"
  refine wSeq_i ?_
  refine wIfS_i ?_
  simp only [PL.wNot, PL.wTru, wCall, wTup, wCons, wNil, wVar, wC, List.append_nil, List.getElem?_cons_zero, List.getElem?_cons_succ]
  refine fill_signs F (gd (H7.get (c := w) (by walk_at "own_mem")) (H7.get (c := n) (by walk_at "own_mem"))) htn (by omega) hb hsm hv (.inl rfl) ?_
  intro μ8 f8
  have H8 := H7.pure f8
  rw [showB_norm ht]
  simp only [isTupD, Bool.true_and]
  refine law_is_bl ?_
  refine ifN_i (by decide) ?_
  refine wNext_i ?_
  walk_at "own_lat"
  refine wSeq_i ?_
  refine wAsg_i ?_
  simp only [wLst_a, wTup, wCB, wCons, wNil, wVar, wC, List.append_nil, List.getElem?_cons_zero, List.getElem?_cons_succ]
  refine wListC_o H8 (xs := vs) rfl ?_
  intro c9 μ9 hc9 H9
  refine aLst_o H9 ?_
  intro c10 μ10 hc10 H10
  refine aLst_o H10 ?_
  intro c11 μ11 hc11 H11
  refine name_i rfl ?_
  walk_at "own_lat"
  refine wSeq_i ?_
  refine wAsg_i ?_
  simp only [wLst_a, wOp, wTup, wCB, wCons, wNil, wVar, wC, List.append_nil, List.getElem?_cons_zero, List.getElem?_cons_succ, List.set_cons_zero, List.set_cons_succ]
  refine wListC_o H11 (xs := vs) rfl ?_
  intro c12 μ12 hc12 H12
  refine aLst_o H12 ?_
  intro c13 μ13 hc13 H13
  refine aLst_o H13 ?_
  intro c14 μ14 hc14 H14
  refine wAdd_ol H14 (H14.get (c := c11) (by walk_at "own_mem")) (H14.get (c := c14) (by walk_at "own_mem")) (by simp [sizeLine_eq]) ?_
  intro c15 μ15 hc15 H15
  refine name_i rfl ?_
  walk_at "own_lat"
  refine wRet_i ?_
  simp only [wAndV, wOp, wCall, wCB, wCons, wNil, wVar, wC, List.append_nil, List.getElem?_cons_zero, List.getElem?_cons_succ, List.set_cons_zero, List.set_cons_succ]
  refine pick_ok H15.inv (seq_lst (H15.get (c := c15) (by walk_at "own_mem"))) (by simp) (by simp) (fun n e => by cases e; have := H15.off (c15, _) (List.Mem.head _); simp at this ⊢; exact this.1) ?_
  intro x μ16 r16 m16 hx t16
  obtain ⟨z16, H16⟩ := z0.turn H15 t16
  have key : ∀ (Q : D → Mem → Prop) (XQ : Exn → Mem → Prop), (∀ μ', Fr [] μ16 μ' → Q (.bl false) μ') → S_fill_holds π [.cell w, .cell n, x] μ16 Q XQ := fun Q XQ hQ => by
    have gg := gd (H16.get (c := w) (by walk_at "own_mem")) (H16.get (c := n) (by walk_at "own_mem"))
    have no : NoPaper π μ16 x → S_fill_holds π [.cell w, .cell n, x] μ16 Q XQ := fun h => fill_no F gg h (hQ _ (Fr.refl _ _))
    simp only [List.cons_append, List.nil_append, List.mem_cons, List.not_mem_nil, or_false] at hx
    rcases hx with rfl | rfl | rfl | rfl | rfl | rfl | rfl | rfl | rfl | rfl | rfl | rfl
    · refine fill_filling F gg htn (by omega) hb hsm hv (.inr ⟨c9, vs, rfl, H16.get (c := c9) (by walk_at "own_mem")⟩) fun μ' f' => ?_
      exact hQ _ f'
    · exact no (np_tag (T := "list") (by rw [tag_cell, H16.get (c := c10) (m := .lst [.str (PySem.Str.ofString "filling"), .tup vs]) (by walk_at "own_mem")]; rfl) (by decide) (by decide))
    · exact no (np_len (by simp))
    · exact no (np_len (by simp))
    · exact no (np_pair big_noword)
    · refine fill_signs F gg htn (by omega) hb hsm hv (.inr ⟨c12, vs, rfl, H16.get (c := c12) (by walk_at "own_mem")⟩) fun μ' f' => ?_
      exact hQ _ f'
    · exact no (np_tag (T := "list") (by rw [tag_cell, H16.get (c := c13) (m := .lst [.str (PySem.Str.ofString "signs"), .tup vs]) (by walk_at "own_mem")]; rfl) (by decide) (by decide))
    · exact no (np_pair (tup_noword hv))
    · exact no (np_pair (ev_noword .bl))
    · exact no (np_val hv)
    · exact no (np_pair (ev_noword .non))
    · exact no (np_tag (T := "str") rfl (by decide) (by decide))
  refine key _ _ fun μ17 f17 => ?_
  have H17 := H16.pure f17
  simp only [wIs, decide_true, Bool.false_eq_true, if_false, if_true]
  refine wListC_o H17 (xs := vs) rfl ?_
  intro c18 μ18 hc18 H18
  refine filling_ok F (gd (H18.get (c := w) (by walk_at "own_mem")) (H18.get (c := n) (by walk_at "own_mem"))) htn (by omega) hb hsm hv _ (.inr ⟨c18, vs, rfl, H18.get (c := c18) (by walk_at "own_mem")⟩) ?_
  intro μ19 f19
  have H19 := H18.pure f19
  simp only [isTupD, Bool.false_and, wIs, decide_true, Bool.false_eq_true, if_false, if_true]
  exact .here (k _ _ _ (z16.to H19))
end
end G
namespace G
open PySem L2 PL
/-! ### sums at a point are even -/
def cE (j : Int) (t : List Int) : Nat := ((endsT t).filter fun e => e.1 == j).length
def cdot (j : Int) : List (List Int) → List Int → Int
  | t :: ts, h :: hs => h * ((cE j t : Nat) : Int) + cdot j ts hs
  | _, _ => 0
theorem cdot_app (j : Int) : ∀ (a : List (List Int)) (h : List Int) (c : List (List Int)) (g : List Int), a.length = h.length → cdot j (a ++ c) (h ++ g) = cdot j a h + cdot j c g
  | [], [], c, g, _ => by simp [cdot]
  | [], _ :: _, c, g, e => by cases e
  | _ :: _, [], c, g, e => by cases e
  | t :: a, x :: h, c, g, e => by
    rw [List.cons_append, List.cons_append, cdot, cdot_app j a h c g (by simpa using e), cdot]; omega
theorem cdot_rep (j h : Int) : ∀ c : List (List Int), cdot j c (List.replicate c.length h) = h * ((cntE j c : Nat) : Int)
  | [] => by simp [cdot, cntE]
  | t :: c => by
    rw [List.length_cons, List.replicate_succ, cdot, cdot_rep j h c]
    have e : cntE j (t :: c) = cE j t + cntE j c := by unfold cntE cE; rw [List.map_cons, List.sum_cons]
    rw [e, Int.natCast_add, Int.mul_add]
theorem cE_norm {m j : Int} {t : List Int} (h : TieOk m t) : cE j (normT t) = cE j t := by
  cases h with
  | loose => rfl
  | @two p s q r =>
    rw [normT4]
    by_cases c : q < p
    · rw [if_pos c]
      unfold cE
      simp only [endsT, List.filter_cons, List.filter_nil]
      by_cases a : (p == j) = true <;> by_cases c : (q == j) = true <;> simp [a, c]
    · rw [if_neg c]
theorem cdot_norm {m j : Int} : ∀ (ts : List (List Int)) (hs : List Int), (∀ t ∈ ts, TieOk m t) → cdot j (ts.map normT) hs = cdot j ts hs
  | [], hs, _ => rfl
  | _ :: _, [], _ => rfl
  | t :: ts, x :: hs, h => by
    rw [List.map_cons, cdot, cdot, cE_norm (h t (by simp)), cdot_norm ts hs fun y hy => h y (by simp [hy])]
theorem cdot_par (j : Int) : ∀ (ts : List (List Int)) (zs hs : List Int), ts.length = hs.length → zs.length = hs.length → (∀ (i : Nat) (h : Int), hs[i]? = some h → ∃ u, zs[i]? = some (2 * u + h)) → ∃ v, cdot j ts zs = cdot j ts hs + 2 * v
  | [], zs, hs, _, _, _ => ⟨0, by simp [cdot]⟩
  | _ :: _, [], [], _, _, _ => ⟨0, by simp [cdot]⟩
  | _ :: _, [], _ :: _, _, e, _ => by cases e
  | _ :: _, _ :: _, [], _, e, _ => by cases e
  | t :: ts, z :: zs, x :: hs, e1, e2, h => by
    obtain ⟨v, ev⟩ := cdot_par j ts zs hs (by simpa using e1) (by simpa using e2) fun i y hy => h (i + 1) y (by simpa using hy)
    obtain ⟨u, eu⟩ := h 0 x rfl
    have eu' : z = 2 * u + x := by simpa using eu
    refine ⟨u * ((cE j t : Nat) : Int) + v, ?_⟩
    rw [cdot, cdot, ev, eu', Int.add_mul, Int.mul_assoc]; omega
theorem addE_at {z : Int} {l : List Int} {e : Int × Int} {i : Nat} (hi : i < l.length) (h0 : 0 ≤ e.1) (hs : okSign e.2) : ∃ u, (addE z l e)[i]?.getD 0 = l[i]?.getD 0 + z * (if e.1 == ((i : Nat) : Int) then 1 else 0) + 2 * u := by
  unfold addE
  by_cases c : e.1 = ((i : Nat) : Int)
  · have ct : e.1.toNat = i := by omega
    rw [ct, List.getElem?_set_self hi]
    simp only [c, beq_self_eq_true, if_true, Option.getD_some]
    rcases hs with h | h
    · exact ⟨0, by rw [h]; omega⟩
    · exact ⟨-z, by rw [h]; omega⟩
  · have ct : e.1.toNat ≠ i := by omega
    rw [List.getElem?_set_ne ct]
    refine ⟨0, ?_⟩
    rw [if_neg (by simpa using c)]
    omega
theorem foldE_at {z : Int} {i : Nat} : ∀ (es : List (Int × Int)) (l : List Int), i < l.length → (∀ e ∈ es, 0 ≤ e.1 ∧ okSign e.2) → ∃ u, (es.foldl (addE z) l)[i]?.getD 0 = l[i]?.getD 0 + z * (((es.filter fun e => e.1 == ((i : Nat) : Int)).length : Nat) : Int) + 2 * u
  | [], l, _, _ => ⟨0, by simp⟩
  | e :: es, l, hi, h => by
    obtain ⟨u, eu⟩ := addE_at (z := z) hi (h e (by simp)).1 (h e (by simp)).2
    obtain ⟨v, ev⟩ := foldE_at (z := z) es (addE z l e) (by rw [addE_len]; exact hi) fun x hx => h x (by simp [hx])
    refine ⟨u + v, ?_⟩
    rw [List.foldl_cons, ev, eu, List.filter_cons]
    by_cases c : (e.1 == ((i : Nat) : Int)) = true
    · simp only [c, if_true, List.length_cons]
      rw [Int.natCast_add, Int.mul_add]; omega
    · simp only [c, if_false, Bool.false_eq_true]
      omega
theorem sumsT_at {m z : Int} {t l : List Int} {i : Nat} (h : TieOk m t) (hi : i < l.length) : ∃ u, (sumsT z t l)[i]?.getD 0 = l[i]?.getD 0 + z * ((cE (i : Nat) t : Nat) : Int) + 2 * u := by
  refine foldE_at (endsT t) l hi ?_
  cases h with
  | loose a _ s => intro e he; simp [endsT] at he; subst he; exact ⟨a, s⟩
  | two a _ s c _ q _ =>
    intro e he
    simp [endsT] at he
    rcases he with rfl | rfl
    · exact ⟨a, s⟩
    · exact ⟨c, q⟩
theorem sumsF_at {m : Int} {i : Nat} : ∀ (ts : List (List Int)) (zs l : List Int), (∀ t ∈ ts, TieOk m t) → i < l.length → ∃ u, (sumsF ts zs l)[i]?.getD 0 = l[i]?.getD 0 + cdot (i : Nat) ts zs + 2 * u
  | [], zs, l, _, _ => ⟨0, by simp [sumsF, cdot]⟩
  | _ :: _, [], l, _, _ => ⟨0, by simp [sumsF, cdot]⟩
  | t :: ts, z :: zs, l, h, hi => by
    obtain ⟨u, eu⟩ := sumsT_at (z := z) (h t (by simp)) hi
    obtain ⟨v, ev⟩ := sumsF_at (i := i) ts zs (sumsT z t l) (fun x hx => h x (by simp [hx])) (by rw [sumsT_len]; exact hi)
    refine ⟨u + v, ?_⟩
    rw [sumsF, ev, eu, cdot]; omega
/-- halves that make every sum even -/
structure EvenH (p : Int) (ts : List (List Int)) (hs : List Int) : Prop where
  ok : ∀ t ∈ ts, TieOk p t
  len : ts.length = hs.length
  ev : ∀ j, cdot j ts hs % 2 = 0
  h01 : ∀ x ∈ hs, 0 ≤ x ∧ x ≤ 1
theorem EvenH.nil {p : Int} : EvenH p [] [] := ⟨by simp, rfl, fun _ => rfl, by simp⟩
theorem EvenH.ring {p : Int} {ts c : List (List Int)} {hs : List Int} {h : Int} (e : EvenH p ts hs) (rg : RingOk p c) (h0 : 0 ≤ h) (h1 : h ≤ 1) : EvenH p (ts ++ c) (hs ++ List.replicate c.length h) where
  ok := fun t ht => by
    rcases List.mem_append.mp ht with x | x
    · exact e.ok t x
    · exact rg.ok t x
  len := by simp [e.len]
  ev := fun j => by
    have a := e.ev j
    have c1 := rg.ev j
    rw [cdot_app j _ _ _ _ e.len, cdot_rep]
    obtain rfl | rfl : h = 0 ∨ h = 1 := by omega
    · omega
    · omega
  h01 := fun x hx => by
    rcases List.mem_append.mp hx with y | y
    · exact e.h01 x y
    · have := List.eq_of_mem_replicate y; omega
theorem EvenH.rest {p : Int} {ts c : List (List Int)} {hs : List Int} (e : EvenH p ts hs) (hc : ∀ t ∈ c, TieOk p t) : EvenH p (ts ++ c) (hs ++ List.replicate c.length 0) where
  ok := fun t ht => by
    rcases List.mem_append.mp ht with x | x
    · exact e.ok t x
    · exact hc t x
  len := by simp [e.len]
  ev := fun j => by
    have a := e.ev j
    rw [cdot_app j _ _ _ _ e.len, cdot_rep]
    omega
  h01 := fun x hx => by
    rcases List.mem_append.mp hx with y | y
    · exact e.h01 x y
    · have := List.eq_of_mem_replicate y; omega
theorem EvenH.norm {p : Int} {ts : List (List Int)} {hs : List Int} (e : EvenH p ts hs) : EvenH p (ts.map normT) hs where
  ok := fun t ht => by
    obtain ⟨u, hu, rfl⟩ := List.mem_map.mp ht
    exact norm_ok (e.ok u hu)
  len := by rw [List.length_map, e.len]
  ev := fun j => by rw [cdot_norm ts hs e.ok]; exact e.ev j
  h01 := e.h01
theorem even_sums {p : Nat} {ts : List (List Int)} {zs hs : List Int} (e : EvenH (p : Nat) ts hs) (hl : zs.length = hs.length) (h : ∀ (i : Nat) (h : Int), hs[i]? = some h → ∃ u, zs[i]? = some (2 * u + h)) : ((sumsZ p ts zs).map (· / 2)).map (2 * ·) = sumsZ p ts zs := by
  rw [List.map_map]
  refine (List.map_congr_left fun x hx => ?_).trans (List.map_id _)
  obtain ⟨i, hi, rfl⟩ := List.mem_iff_getElem.mp hx
  rw [sumsZ_len] at hi
  obtain ⟨u, eu⟩ := sumsF_at (i := i) ts zs (List.replicate p 0) e.ok (by simp; exact hi)
  obtain ⟨v, ev⟩ := cdot_par (i : Nat) ts zs hs e.len hl h
  have ec := e.ev (i : Nat)
  have e0 : (List.replicate p (0 : Int))[i]?.getD 0 = 0 := by simp [hi]
  rw [e0] at eu
  have eg : (sumsF ts zs (List.replicate p 0))[i]?.getD 0 = (sumsZ p ts zs)[i] := by
    show (sumsZ p ts zs)[i]?.getD 0 = _
    rw [List.getElem?_eq_getElem (by rw [sumsZ_len]; exact hi)]; rfl
  rw [eg] at eu
  simp only [Function.comp, id]
  omega
theorem abs_within : ∀ {bs : List (Int × Int)} {zs : List Int}, Abs bs zs → withinB bs zs = true := fun h => by
  induction h with
  | nil => rfl
  | @cons q z bs zs a _ ih =>
    unfold withinB at ih ⊢
    rw [List.zip_cons_cons, List.all_cons, ih]
    simp [a.1, a.2]
theorem ints_lit : ∀ zs : List Int, intsOf (litD zs) = some zs
  | [] => rfl
  | z :: zs => by
    have ih := ints_lit zs
    show intsOf (.int z :: litD zs) = _
    simp [intsOf, ih]
theorem fill_true {p : Nat} {ts : List (List Int)} {bs : List (Int × Int)} {zs hs : List Int} (e : EvenH (p : Nat) ts hs) (ab : Abs bs zs) (hl : zs.length = ts.length) (h : ∀ (i : Nat) (h : Int), hs[i]? = some h → ∃ u, zs[i]? = some (2 * u + h)) : fillB p ts bs ((sumsZ p ts zs).map (· / 2)) (litD zs) = true := by
  unfold fillB
  rw [ints_lit, even_sums e (by rw [hl, e.len]) h]
  dsimp only
  rw [abs_within ab]
  simp [hl]
end G
namespace G
open PySem L2 PL
section
variable {π : Pr} {μ0 μ μ' : Mem} {P : D → Mem → Prop} {XP : Exn → Mem → Prop} {d : D} {b r r' w n p : Nat} {ns ns' : List Int} {ts : List (List Int)} {bs : List (Int × Int)} {sm : List Int} {L L' : List (Nat × M)}
theorem tstep (H : OwnT b r ns μ0 μ L) (t : Turn b r ns μ μ' r' ns') : OwnT b r' ns' μ' μ' L :=
  ((Zw.start H.inv).turn (H.hereOf fun p h => h) t).2.hereOf fun p h => h
theorem tjoin (H : OwnT b r ns μ0 μ L) (t : Turn b r ns μ μ' r' ns') {μ1 : Mem} (H' : OwnT b r' ns' μ1 μ' L') : OwnT b r' ns' μ' μ' (L' ++ L) :=
  OwnT.start H'.inv (fun p hp => (List.mem_append.mp hp).elim (H'.has p) ((tstep H t).has p)) (fun p hp => (List.mem_append.mp hp).elim (H'.off p) ((tstep H t).off p))
theorem tcell (H : OwnT b r ns μ0 μ L) (t : Turn b r ns μ μ' r' ns') {c : Nat} {m : M} (g : μ'[c]? = some m) (hc : μ.length ≤ c) (hr : c ≠ r') : OwnT b r' ns' μ' μ' ((c, m) :: L) :=
  ((Zw.start H.inv).turnN (H.hereOf fun p h => h) t g hc hr).2.hereOf fun p h => h
theorem litD_app (a c : List Int) : litD (a ++ c) = litD a ++ litD c := by unfold litD; simp
theorem wMul_litN {SS : List Nat} {I : Mem → Prop} {L : List (Nat × M)} {P : D → Mem → Prop} {p : Nat} {c : Nat} {h : Int} (H : Own SS I μ0 μ L) (g : μ[c]? = some (.lst [.int h])) (hp : p ≤ 5000) (k : ∀ c' μ', μ.length ≤ c' → Own SS I μ0 μ' ((c', .lst (litD (List.replicate p h))) :: L) → P (.cell c') μ') : wMul (.cell c) (.int (p : Nat)) μ P := by
  show (match lstOf μ (.cell c) with | some a => _ | none => False)
  rw [lst_lst g]
  refine ⟨by omega, by omega, by simp [sizeLine_eq]; omega, ?_⟩
  have e : (List.replicate (((p : Nat) : Int)).toNat [D.int h]).flatten = litD (List.replicate p h) := by
    rw [Int.toNat_natCast]
    unfold litD
    rw [List.map_replicate]
    clear k hp
    induction p with
    | zero => rfl
    | succ n ih => rw [List.replicate_succ, List.flatten_cons, List.replicate_succ, ih]; rfl
  rw [e]
  exact k _ _ (Nat.le_refl _) (H.new _)
theorem ite_call {c : Bool} {f : FS} {as : List D} {K : D → Mem → Prop} {XP : Exn → Mem → Prop} {y : D} (Md : D → Mem → Prop) (h1 : c = true → ∀ (P : D → Mem → Prop), (∀ d μ', Md d μ' → P d μ') → f as μ P XP) (h2 : c = false → Md y μ) (k : ∀ d μ', Md d μ' → K d μ') : if c = true then f as μ K XP else K y μ := by
  cases c with
  | true => rw [if_pos rfl]; exact h1 rfl K k
  | false => rw [if_neg Bool.false_ne_true]; exact k _ _ (h2 rfl)
/-! ### sizes -/
theorem addE_small {z : Int} {l : List Int} {e : Int × Int} {B : Nat} (hs : okSign e.2) (hz : z.natAbs ≤ 2 ^ 64) (hl : ∀ x ∈ l, x.natAbs ≤ B) : ∀ x ∈ addE z l e, x.natAbs ≤ B + 2 ^ 64 := fun x hx => by
  unfold addE at hx
  rcases List.mem_or_eq_of_mem_set hx with h | h
  · have := hl x h; omega
  · have h0 : (l[e.1.toNat]?.getD 0).natAbs ≤ B := by
      cases c : l[e.1.toNat]? with
      | none => simp
      | some y => exact hl y (List.mem_of_getElem? c)
    generalize l[e.1.toNat]?.getD 0 = y at h h0
    rcases hs with s | s <;> rw [s] at h <;> omega
theorem foldE_small {z : Int} (hz : z.natAbs ≤ 2 ^ 64) : ∀ (es : List (Int × Int)) (l : List Int) (B : Nat), (∀ e ∈ es, okSign e.2) → (∀ x ∈ l, x.natAbs ≤ B) → ∀ x ∈ es.foldl (addE z) l, x.natAbs ≤ B + 2 ^ 64 * es.length
  | [], l, B, _, hl => fun x hx => by have := hl x hx; simp; omega
  | e :: es, l, B, hs, hl => fun x hx => by
    have := foldE_small hz es (addE z l e) (B + 2 ^ 64) (fun y hy => hs y (by simp [hy])) (addE_small (hs e (by simp)) hz hl) x hx
    rw [List.length_cons]; omega
theorem ends_fine {m : Int} {t : List Int} (h : TieOk m t) : (∀ e ∈ endsT t, okSign e.2) ∧ (endsT t).length ≤ 2 := by
  cases h with
  | loose a _ s => exact ⟨fun e he => by simp [endsT] at he; subst he; exact s, by simp [endsT]⟩
  | two a _ s c _ q _ => exact ⟨fun e he => by simp [endsT] at he; rcases he with rfl | rfl <;> assumption, by simp [endsT]⟩
theorem sumsF_small {m : Int} : ∀ (ts : List (List Int)) (zs l : List Int) (B : Nat), (∀ t ∈ ts, TieOk m t) → (∀ z ∈ zs, z.natAbs ≤ 2 ^ 64) → (∀ x ∈ l, x.natAbs ≤ B) → ∀ x ∈ sumsF ts zs l, x.natAbs ≤ B + 2 ^ 65 * ts.length
  | [], zs, l, B, _, _, hl => fun x hx => by
    have hx' : x ∈ l := by cases zs <;> exact hx
    have := hl x hx'; simp; omega
  | t :: ts, [], l, B, _, _, hl => fun x hx => by have := hl x hx; omega
  | t :: ts, z :: zs, l, B, ht, hz, hl => fun x hx => by
    obtain ⟨h1, h2⟩ := ends_fine (ht t (by simp))
    have step : ∀ x ∈ sumsT z t l, x.natAbs ≤ B + 2 ^ 65 := fun y hy => by
      have := foldE_small (hz z (by simp)) (endsT t) l B h1 hl y hy
      omega
    have := sumsF_small ts zs (sumsT z t l) (B + 2 ^ 65) (fun y hy => ht y (by simp [hy])) (fun y hy => hz y (by simp [hy])) step x hx
    rw [List.length_cons]; omega
theorem sumsZ_small {m : Int} {zs : List Int} (ht : ∀ t ∈ ts, TieOk m t) (few : ts.length ≤ 3000) (hz : ∀ z ∈ zs, z.natAbs ≤ 2 ^ 64) : ∀ x ∈ sumsZ p ts zs, x.natAbs ≤ 2 ^ 80 := fun x hx => by
  have := sumsF_small ts zs (List.replicate p 0) 0 ht hz (fun y hy => by have := List.eq_of_mem_replicate hy; subst this; simp) x hx
  omega
theorem tot_small : ∀ (sg sm : List Int), (∀ x ∈ sg, -1 ≤ x ∧ x ≤ 1) → (∀ x ∈ sm, x.natAbs ≤ 2 ^ 100) → (totZ sg sm).natAbs ≤ 2 ^ 100 * sg.length
  | [], sm, _, _ => by simp [totZ]
  | _ :: _, [], _, _ => by simp [totZ]
  | x :: sg, y :: sm, h1, h2 => by
    have ih := tot_small sg sm (fun z hz => h1 z (by simp [hz])) fun z hz => h2 z (by simp [hz])
    have e : totZ (x :: sg) (y :: sm) = x * y + totZ sg sm := by simp [totZ]
    have hx := h1 x (by simp)
    have hy := h2 y (by simp)
    rw [e, List.length_cons]
    obtain rfl | rfl | rfl : x = -1 ∨ x = 0 ∨ x = 1 := by omega
    · omega
    · omega
    · omega
theorem lk_small {m : Int} {sg : List Int} (hs : ∀ x ∈ sg, -1 ≤ x ∧ x ≤ 1) : ∀ (ts : List (List Int)) (bs : List (Int × Int)), (∀ t ∈ ts, TieOk m t) → (∀ q ∈ bs, q.1.natAbs ≤ 2 ^ 90 ∧ q.2.natAbs ≤ 2 ^ 90) → (lkMax sg ts bs).natAbs ≤ 2 ^ 100 * ts.length
  | [], bs, _, _ => by simp [lkMax]
  | _ :: _, [], _, _ => by simp [lkMax]
  | t :: ts, q :: bs, h1, h2 => by
    have ih := lk_small hs ts bs (fun z hz => h1 z (by simp [hz])) fun z hz => h2 z (by simp [hz])
    have hp := pull_small (h1 t (by simp)) hs
    have hq := h2 q (by simp)
    rw [lk_cons.2, List.length_cons]
    generalize pullZ sg t = u at hp
    obtain rfl | rfl | rfl | rfl | rfl : u = -2 ∨ u = -1 ∨ u = 0 ∨ u = 1 ∨ u = 2 := by omega
    all_goals omega
theorem lack_small {m : Int} {sg : List Int} (hs : ∀ x ∈ sg, -1 ≤ x ∧ x ≤ 1) (hg : sg.length ≤ 3000) (few : ts.length ≤ 3000) (ht : ∀ t ∈ ts, TieOk m t) (hb : ∀ q ∈ bs, q.1.natAbs ≤ 2 ^ 90 ∧ q.2.natAbs ≤ 2 ^ 90) (hsm : ∀ x ∈ sm, x.natAbs ≤ 2 ^ 100) : (lackS sg ts bs sm).natAbs ≤ 2 ^ 120 := by
  have a := tot_small sg sm hs hsm
  have c := lk_small hs ts bs ht hb
  unfold lackS
  omega
end
end G
namespace G
open PySem L2 PL
local macro_rules | `(tactic| walk_at "own_ws") => `(tactic| try simp only [PL.fnW, PL.startD, List.map_cons, List.map_nil, List.length_cons, List.length_nil, List.replicate, List.replicate_succ, List.replicate_zero, List.append_nil, List.nil_append, List.cons_append, List.singleton_append, Nat.zero_add, Nat.add_zero, Nat.add_sub_cancel, Nat.reduceSub, Nat.reduceAdd, Nat.sub_zero, Nat.sub_self,
  PL.wSeq, PL.wIfS, PL.wRet, PL.wRetN, PL.wDrop, PL.wNext, PL.wBreak, PL.wCont, PL.wOp, PL.wUn, PL.wVar, PL.wC, PL.wCons, PL.wNil, PL.wTup, PL.wLst, PL.wTest, PL.wAnd, PL.wOr, PL.wNot, PL.wAndV, PL.wOrV, PL.wNotV, PL.wIf, PL.wChain, PL.wAsg, PL.wName, PL.wGtup, PL.wGunl, PL.wGcons, PL.wGnil, PL.wPar, PL.wPar3, PL.wAug, PL.wCB, PL.wCall, PL.wMake, PL.wMakeK, PL.wYes, PL.wTru, PL.wFor, PL.wSeqI, PL.wEnumI, PL.wZipI, PL.wRng1, PL.wRng2, PL.wBM, PL.wBM0, PL.wLstRg1, PL.wRaise, PL.wFldS, ↓PL.wFld_var, PL.wSet0, PL.wSAdd, PL.wNoPart, PL.wPart, PL.wSl, PL.wLc, PL.wipeD,
  PL.oSub, PL.oMod, PL.oFdiv, PL.oPow, PL.oLt, PL.oLe, PL.oGt, PL.oGe, PL.wI0, PL.wI2, PL.wB0, PL.wIp, PL.wNeg, PL.wR1, PL.one1, PL.two2, PL.ints1, PL.ints2,
  List.getElem?_cons_zero, List.getElem?_cons_succ, List.set_cons_zero, List.set_cons_succ, and_true, true_and, if_true, if_false, ite_true, ite_false, reduceIte, Bool.true_eq_false, Bool.false_eq_true, eq_self])
local macro_rules | `(tactic| walk_at "own_wt") => `(tactic| try simp only [PL.fnW, PL.startD, List.map_cons, List.map_nil, List.length_cons, List.length_nil, List.replicate, List.replicate_succ, List.replicate_zero, List.append_nil, List.nil_append, List.cons_append, List.singleton_append, Nat.zero_add, Nat.add_zero, Nat.add_sub_cancel, Nat.reduceSub, Nat.reduceAdd, Nat.sub_zero, Nat.sub_self,
  PL.wSeq_l, PL.wIfS, PL.wRet, PL.wRetN, PL.wDrop, PL.wNext, PL.wBreak, PL.wCont, PL.wOp, PL.wUn, PL.wVar, PL.wC, PL.wCons, PL.wNil, PL.wTup, PL.wLst_a, PL.wTest, PL.wAnd, PL.wOr, PL.wNot, PL.wAndV, PL.wOrV, PL.wNotV, PL.wIf, PL.wChain, PL.wAsg, PL.wName, PL.wGtup, PL.wGunl, PL.wGcons, PL.wGnil, PL.wPar, PL.wPar3, PL.wAug, PL.wCB, PL.wCall, PL.wMake, PL.wMakeK, PL.wYes, PL.wTru, PL.wFor, PL.wSeqI, PL.wEnumI, PL.wZipI, PL.wRng1, PL.wRng2, PL.wBM, PL.wBM0, PL.wLstRg1_a, PL.wRaise, PL.wFldS, ↓PL.wFld_var, PL.wSet0, PL.wSAdd, PL.wNoPart, PL.wPart, PL.wSl_eq, PL.wLc_a, PL.wipeD,
  PL.oSub, PL.oMod, PL.oFdiv, PL.oPow, PL.oLt, PL.oLe, PL.oGt, PL.oGe, PL.wI0, PL.wI2, PL.wB0, PL.wIp, PL.wNeg, PL.wR1, PL.one1, PL.two2, PL.ints1, PL.ints2,
  List.getElem?_cons_zero, List.getElem?_cons_succ, List.set_cons_zero, List.set_cons_succ, and_true, true_and, if_true, if_false, ite_true, ite_false, reduceIte, Bool.true_eq_false, Bool.false_eq_true, eq_self])
local macro_rules | `(tactic| walk_at "own_nx") => `(tactic| ((first | refine PL.later_i ?_ | (dsimp only; refine PL.later_i ?_)); walk_at "own_wt"))
local macro_rules | `(tactic| walk_at "own_wg") => `(tactic| simp only [PL.wGtup, PL.wGcons, PL.wGnil, PL.wName, List.length_cons, List.length_nil, List.set_cons_zero, List.set_cons_succ, Nat.zero_add, Nat.reduceAdd, true_and])
local macro_rules | `(tactic| walk_at "own_mem") => `(tactic| repeat (first | exact List.Mem.head _ | refine List.Mem.tail _ ?_))
local macro_rules | `(tactic| walk_at "own_mm") => `(tactic| exact PL.Own.get (by assumption) (by walk_at "own_mem"))
local macro_rules | `(tactic| walk_at "own_sq") => `(tactic| first | rfl | exact PL.seq_lst (PL.Own.get (by assumption) (by walk_at "own_mem")))
local macro_rules | `(tactic| walk_at "own_sub") => `(tactic| repeat (first | exact List.Sublist.refl _ | refine List.Sublist.cons_cons _ ?_ | refine List.Sublist.cons _ ?_))
local macro_rules | `(tactic| walk_at "own_putr") => `(tactic| repeat (first | exact PL.PutR.here | apply PL.PutR.there))
local macro_rules | `(tactic| walk_at "own_lat") => `(tactic| (first | refine PL.later_i ?_ | (dsimp only; refine PL.later_i ?_)))
local macro_rules | `(tactic| walk_at "own_wu") => `(tactic| try simp only [PL.fnW, PL.startD, List.map_cons, List.map_nil, List.length_cons, List.length_nil, List.replicate, List.replicate_succ, List.replicate_zero, List.append_nil, List.nil_append, List.cons_append, List.singleton_append, Nat.zero_add, Nat.add_zero, Nat.add_sub_cancel, Nat.reduceSub, Nat.reduceAdd, Nat.sub_zero, Nat.sub_self,
  PL.wSeq_l, PL.wIfS, PL.wRet, PL.wRetN, PL.wDrop, PL.wNext, PL.wBreak, PL.wCont, PL.wOp, PL.wUn, PL.wVar, PL.wC, PL.wCons, PL.wNil, PL.wTup, PL.wLst_a, PL.wTest, PL.wAnd, PL.wOr, PL.wNot, PL.wAndV, PL.wOrV, PL.wNotV, PL.wIf, PL.wAsg, PL.wName, PL.wPar, PL.wPar3, PL.wCB, PL.wCall, PL.wMake, PL.wYes, PL.wTru, PL.wFor, PL.wSeqI, PL.wRng1, PL.wRng2, PL.wBM, PL.wBM0, PL.wRaise, ↓PL.wFld_var, PL.wNoPart, PL.wPart, PL.wLc_a, PL.wipeD,
  List.getElem?_cons_zero, List.getElem?_cons_succ, List.set_cons_zero, List.set_cons_succ, and_true, true_and, if_true, if_false, ite_true, ite_false, reduceIte, Bool.true_eq_false, Bool.false_eq_true, eq_self])
local macro_rules | `(tactic| walk_at "own_nu") => `(tactic| ((first | refine PL.later_i ?_ | (dsimp only; refine PL.later_i ?_)); walk_at "own_wu"))
local macro_rules | `(tactic| walk_at "own_cn") => `(tactic| repeat (first | exact PL.Cn.c | exact PL.Cn.neg | exact PL.CnA.nil | exact PL.Cn.var rfl | apply PL.CnA.cons | apply PL.Cn.tup))
section
variable {π : Pr} {μ : Mem} {P : D → Mem → Prop} {XP : Exn → Mem → Prop} {d : D}
theorem seq_mid {a b : WS} {δ : En} {μ : Mem} {P : PO} (Mid : En → Mem → Prop) (first : ∀ N : En → Mem → Prop, (∀ δ' μ', Mid δ' μ' → N δ' μ') → a δ μ ⟨N, P.rt, P.bk, P.ct, P.xc⟩) (rest : ∀ δ' μ', Mid δ' μ' → b δ' μ' P) : wSeq a b δ μ P := first _ rest
def normD : D → D
  | .tup [.int p, .int s, .int q, .int r] => if q < p then .tup [.int q, .int r, .int p, .int s] else .tup [.int p, .int s, .int q, .int r]
  | d => d
theorem normD_tie {m : Int} {t : List Int} (h : TieOk m t) : normD (tieD t) = tieD (normT t) := by
  cases h with
  | loose => rfl
  | @two p s q r =>
    rw [normT4]
    show (if q < p then D.tup [.int q, .int r, .int p, .int s] else D.tup [.int p, .int s, .int q, .int r]) = _
    by_cases c : q < p
    · rw [if_pos c, if_pos c]; rfl
    · rw [if_neg c, if_neg c]; rfl
theorem ifY_i {c : Prop} [Decidable c] {A B : Prop} (h : c) (k : A) : if c then A else B := by rw [if_pos h]; exact k
theorem law_ok {ns : List Int} (F : Facts π) (k : ∀ μ', P (.bl true) μ') : S_law π [.scr ns] μ P XP := by
  rw [S_law_eq]
  refine ⟨rfl, ?_⟩
  unfold W_law
  refine wSeq_i ?_
  refine start_i (δ' := [some (.scr ns), none, none, none, none, none, none, none, none, none, none, none, none, none, none, none, none, none, none, none, none, none, none, none, none]) rfl ?_
  refine wAsg_i ?_
  simp only [wCall, wCons, wNil, wVar, List.append_nil, List.getElem?_cons_zero, List.getElem?_cons_succ, List.set_cons_zero, List.set_cons_succ]
  refine law_box_ok ?_
  intro b r0 m0 μ0 s0
  have H0 : OwnT b r0 m0 μ0 μ0 [] := OwnT.start s0 (by simp) (by simp)
  refine name_i rfl ?_
  walk_at "own_lat"
  refine wSeq_i ?_
  refine wAsg_i ?_
  simp only [wCall, wCons, wNil, wVar, List.append_nil, List.getElem?_cons_zero, List.getElem?_cons_succ, List.set_cons_zero, List.set_cons_succ]
  refine scales_ok H0.inv ?_
  intro a c e μ1 r1 m1 hsc t1
  have H1 := tstep H0 t1
  have hfact : (1 ≤ a ∧ a ≤ 24 ∧ 0 ≤ c ∧ c ≤ 40 ∧ 0 ≤ e ∧ e ≤ 9) ∨ (a = 150 ∧ c = 300 ∧ e = 60) := by
    simp only [List.mem_cons, List.not_mem_nil, or_false, Prod.mk.injEq] at hsc
    omega
  clear hsc
  walk_at "own_wg"
  refine later_mid (fun δ μ' => ∃ (p r : Nat) (ms : List Int), δ = [some (.scr ns), some (.cell b), some (.int (p : Nat)), some (.int c), some (.int e), none, none, none, none, none, none, none, none, none, none, none, none, none, none, none, none, none, none, none, none] ∧ ((1 ≤ p ∧ p ≤ 24 ∧ 0 ≤ c ∧ c ≤ 40 ∧ 0 ≤ e ∧ e ≤ 9) ∨ (p = 150 ∧ c = 300 ∧ e = 60)) ∧ OwnT b r ms μ' μ' []) (fun NN nx' => ?_) ?_
  · refine wAsg_i ?_
    simp only [wIf, wTest, wOp, wB0, wCall, wCons, wNil, wVar, wC, List.append_nil, List.getElem?_cons_zero, List.getElem?_cons_succ, List.set_cons_zero, List.set_cons_succ]
    by_cases h : a < 150
    · simp only [decide_eq_true h, if_true]
      refine take_ok H1.inv (by omega) (by omega) ?_
      intro v μ2 r2 m2 v0 v1 t2
      refine wAdd_i ?_
      obtain ⟨p, hp⟩ : ∃ p : Nat, 1 + v = (p : Nat) := ⟨(1 + v).toNat, by omega⟩
      rw [hp]
      refine name_i rfl ?_
      exact nx' _ _ ⟨p, r2, m2, rfl, by omega, tstep H1 t2⟩
    · simp only [decide_eq_false h, Bool.false_eq_true, if_false]
      obtain rfl : a = 150 := by omega
      refine name_i rfl ?_
      exact nx' _ _ ⟨150, r1, m1, rfl, by omega, H1⟩
  rintro δ μ2 ⟨p, r2, m2, rfl, hfact, H2⟩
  have p1 : 1 ≤ p := by omega
  have p150 : p ≤ 150 := by omega
  refine wSeq_i ?_
  simp only [wPar, wLst_a, wCons, wNil]
  refine aLst_o H2 ?_
  intro ct μ3 hct H3
  refine aLst_o H3 ?_
  intro ch μ4 hch H4
  simp only [List.set_cons_zero, List.set_cons_succ]
  refine later_mid (fun δ μ' => ∃ (ts : List (List Int)) (hs : List Int) (ct ch r : Nat) (ms : List Int) (o7 : Option D), δ = [some (.scr ns), some (.cell b), some (.int (p : Nat)), some (.int c), some (.int e), some (.cell ct), some (.cell ch), o7, none, none, none, none, none, none, none, none, none, none, none, none, none, none, none, none, none] ∧ EvenH (p : Nat) ts hs ∧ ts.length ≤ 160 ∧ OwnT b r ms μ' μ' [(ct, .lst (ts.map tieD)), (ch, .lst (litD hs))]) (fun NN nx' => ?_) ?_
  · simp only [wFor, wSeqI, wIf, wTest, wOp, wB0, wCall, wCons, wNil, wVar, wC, List.append_nil, List.getElem?_cons_zero, List.getElem?_cons_succ, List.set_cons_zero, List.set_cons_succ]
    refine ite_call (fun d μ' => ∃ (many : Int) (r : Nat) (ms : List Int), d = .int many ∧ 0 ≤ many ∧ many ≤ 20 ∧ OwnT b r ms μ' μ' [(ch, .lst (litD [])), (ct, .lst [])]) ?_ ?_ ?_
    · intro _ P' hP
      refine take_ok H4.inv (by decide) (by decide) ?_
      intro v μ5 r5 m5 v0 v1 t5
      exact hP _ _ ⟨v, r5, m5, rfl, v0, by omega, tstep H4 t5⟩
    · intro _
      exact ⟨20, r2, m2, rfl, by decide, by decide, H4.hereOf fun p h => h⟩
    rintro dm μ5 ⟨many, r5, m5, rfl, h0, h20, H5⟩
    refine rings_ok H5.inv (by omega) (by omega) h0 (by omega) ?_
    intro cR rs μ6 r6 m6 t6 O6 hcR hrs hfew
    have H6 := tjoin H5 t6 O6
    simp only [seq_lst (O6.get (c := cR) (m := .lst (rs.map cellR)) List.mem_cons_self)]
    refine loop_inv (fun xs δ μ7 => ∃ (todo : List (Nat × List (List Int))) (i : Nat) (ts : List (List Int)) (hs : List Int) (ct ch r : Nat) (ms : List Int) (o7 : Option D), xs = todo.map cellR ∧ i + todo.length = rs.length ∧ (∀ q ∈ todo, q ∈ rs) ∧ δ = [some (.scr ns), some (.cell b), some (.int (p : Nat)), some (.int c), some (.int e), some (.cell ct), some (.cell ch), o7, none, none, none, none, none, none, none, none, none, none, none, none, none, none, none, none, none] ∧ EvenH (p : Nat) ts hs ∧ ts.length ≤ 8 * i ∧ OwnT b r ms μ7 μ7 ((ch, .lst (litD hs)) :: (ct, .lst (ts.map tieD)) :: (cR, .lst (rs.map cellR)) :: rs.reverse.map ringM))
      (fun _ _ μ7 ⟨_, _, _, _, _, _, _, _, _, _, _, _, _, _, _, H7⟩ => (H7.get (c := cR) (by walk_at "own_mem")).trans (O6.get (c := cR) (m := .lst (rs.map cellR)) List.mem_cons_self).symm) ?_ _ _ _ ⟨rs, 0, [], [], ct, ch, r6, m6, none, rfl, by simp, fun q h => h, rfl, EvenH.nil, by simp, ?_⟩ ?_
    · rintro x xs δ μ7 ⟨todo, i, ts, hs, ct, ch, r7, m7, o7, ex, ei, em, rfl, ev, fl, H7⟩ P' _ _ nx
      cases todo with
      | nil => cases ex
      | cons q todo =>
      rw [List.map_cons] at ex
      obtain ⟨rfl, rfl⟩ := List.cons.inj ex
      have hq := (hrs q (em q (by simp))).1
      have mq : (q.1, M.lst (q.2.map tieD)) ∈ rs.reverse.map ringM := List.mem_map.mpr ⟨q, List.mem_reverse.mpr (em q (by simp)), rfl⟩
      refine name_i rfl ?_
      simp only [cellR, wPar, wOp, wCall, wCB, wLst_a, wCons, wNil, wVar, wC, List.append_nil, List.getElem?_cons_zero, List.getElem?_cons_succ, List.set_cons_zero, List.set_cons_succ]
      have lts : ts.length ≤ 1000 := by simp at ei; omega
      have lhs : hs.length ≤ 1000 := by rw [← ev.len]; exact lts
      have lq := hq.few
      refine wAdd_ol H7 (H7.get (c := ct) (by walk_at "own_mem")) (H7.get (c := q.1) (m := .lst (q.2.map tieD)) (by repeat (first | exact mq | refine List.Mem.tail _ ?_))) (by rw [List.length_map, List.length_map, sizeLine_eq]; omega) ?_
      intro c8 μ8 hc8 H8
      refine take_ok H8.inv (by decide) (by decide) ?_
      intro h μ9 r9 m9 h0 h1 t9
      have H9 := tstep H8 t9
      refine aLst_o H9 ?_
      intro c10 μ10 hc10 H10
      refine wLen_i (seq_lst (H10.get (c := q.1) (m := .lst (q.2.map tieD)) (by repeat (first | exact mq | refine List.Mem.tail _ ?_)))) ?_
      rw [List.length_map]
      refine wMul_litN H10 (H10.get (c := c10) (by walk_at "own_mem")) (by omega) ?_
      intro c11 μ11 hc11 H11
      refine wAdd_ol H11 (H11.get (c := ch) (by walk_at "own_mem")) (H11.get (c := c11) (by walk_at "own_mem")) (by rw [len_litD, len_litD, List.length_replicate, sizeLine_eq]; omega) ?_
      intro c12 μ12 hc12 H12
      rw [← litD_app, ← List.map_append] at H12
      refine nx _ _ ⟨todo, i + 1, ts ++ q.2, hs ++ List.replicate q.2.length h, c8, c12, r9, m9, some (.cell q.1), rfl, by simp at ei; omega, fun y hy => em y (by simp [hy]), rfl, ev.ring hq h0 (by omega), by rw [List.length_append]; omega, H12.hereOf ?_⟩
      intro y hy
      rcases List.mem_cons.mp hy with rfl | hy
      · walk_at "own_mem"
      rcases List.mem_cons.mp hy with rfl | hy
      · walk_at "own_mem"
      rcases List.mem_cons.mp hy with rfl | hy
      · walk_at "own_mem"
      repeat (first | exact hy | refine List.Mem.tail _ ?_)
    · refine H6.hereOf fun y hy => ?_
      rcases List.mem_cons.mp hy with rfl | hy
      · exact List.mem_append_right _ (by walk_at "own_mem")
      rcases List.mem_cons.mp hy with rfl | hy
      · exact List.mem_append_right _ (by walk_at "own_mem")
      exact List.mem_append_left _ hy
    · rintro δ μ7 ⟨todo, i, ts, hs, ct, ch, r7, m7, o7, ex, ei, em, rfl, ev, fl, H7⟩
      cases todo with
      | cons _ _ => cases ex
      | nil =>
      refine nx' _ _ ⟨ts, hs, ct, ch, r7, m7, o7, rfl, ev, by simp at ei; omega, H7.hereOf ?_⟩
      intro q hq; simp only [List.mem_cons, List.not_mem_nil, or_false] at hq; rcases hq with rfl | rfl <;> walk_at "own_mem"
  rintro δ μ5 ⟨ts, hs, ct, ch, r5, m5, o7, rfl, ev, fl, H5⟩
  refine seq_mid (fun δ μ' => ∃ (rest : List (List Int)) (cr r : Nat) (ms : List Int), δ = [some (.scr ns), some (.cell b), some (.int (p : Nat)), some (.int c), some (.int e), some (.cell ct), some (.cell ch), o7, some (.cell cr), none, none, none, none, none, none, none, none, none, none, none, none, none, none, none, none] ∧ (∀ t ∈ rest, TieOk (p : Nat) t) ∧ rest.length ≤ 400 ∧ OwnT b r ms μ' μ' [(cr, .lst (rest.map tieD)), (ct, .lst (ts.map tieD)), (ch, .lst (litD hs))]) (fun NN nx' => ?_) ?_
  · refine wAsg_i ?_
    simp only [wIf, wTest, wOp, wB0, wCall, wCB, wCons, wNil, wVar, wC, List.append_nil, List.getElem?_cons_zero, List.getElem?_cons_succ, List.set_cons_zero, List.set_cons_succ]
    by_cases h : c < 300
    · simp only [decide_eq_true h, if_true]
      refine wAdd_i ?_
      refine take_ok H5.inv (by omega) (by omega) ?_
      intro tw μ6 r6 m6 v0 v1 t6
      have H6 := tstep H5 t6
      refine wAdd_i ?_
      refine take_ok H6.inv (by omega) (by omega) ?_
      intro lo μ7 r7 m7 w0 w1 t7
      have H7 := tstep H6 t7
      refine web_ok H7.inv (by omega) (by omega) v0 (by omega) w0 (by omega) ?_
      intro cr rest μ8 r8 m8 t8 hcr hne g8 hr hl
      have H8 := tcell H7 t8 g8 hcr hne
      refine name_i rfl ?_
      exact nx' _ _ ⟨rest, cr, r8, m8, rfl, hr, by omega, H8⟩
    · simp only [decide_eq_false h, Bool.false_eq_true, if_false]
      refine wLen_i (seq_lst (H5.get (c := ct) (by walk_at "own_mem"))) ?_
      rw [List.length_map]
      refine wI0_i ?_
      refine wAdd_i ?_
      refine take_ok H5.inv (by omega) (by omega) ?_
      intro lo μ7 r7 m7 w0 w1 t7
      have H7 := tstep H5 t7
      refine web_ok H7.inv (by omega) (by omega) (by omega) (by omega) w0 (by omega) ?_
      intro cr rest μ8 r8 m8 t8 hcr hne g8 hr hl
      have H8 := tcell H7 t8 g8 hcr hne
      refine name_i rfl ?_
      exact nx' _ _ ⟨rest, cr, r8, m8, rfl, hr, by omega, H8⟩
  rintro δ μ6 ⟨rest, cr, r6, m6, rfl, hrest, frest, H6⟩
  have lhs : hs.length ≤ 1000 := by rw [← ev.len]; omega
  refine wSeq_i ?_
  simp only [wPar, wLc_a, wSeqI, wOp, wCB, wLst_a, wCons, wNil, wVar, wC, List.append_nil, List.getElem?_cons_zero, List.getElem?_cons_succ, List.set_cons_zero, List.set_cons_succ]
  refine wAdd_ol H6 (H6.get (c := ct) (by walk_at "own_mem")) (H6.get (c := cr) (by walk_at "own_mem")) (by rw [List.length_map, List.length_map, sizeLine_eq]; omega) ?_
  intro c7 μ7 hc7 H7
  rw [← List.map_append] at H7
  simp only [seq_lst (H7.get (c := c7) (m := .lst ((ts ++ rest).map tieD)) (by walk_at "own_mem"))]
  have ev1 := ev.rest hrest
  refine ⟨by rw [List.length_map, List.length_append, sizeLine_eq]; omega, lc_map normD (stays_refl _ _) ?_ [] _ ?_⟩
  · intro x hx P3 hP
    obtain ⟨t, ht, rfl⟩ := List.mem_map.mp hx
    rw [normD_tie (ev1.ok t ht)] at hP
    simp only [wName, wCall, wCons, wNil, wVar, wipeD, List.append_nil, List.getElem?_cons_zero, List.getElem?_cons_succ, List.set_cons_zero, List.set_cons_succ]
    exact law_norm_ok (ev1.ok t ht) hP
  have eN : ((ts ++ rest).map tieD).map normD = ((ts ++ rest).map normT).map tieD := by
    rw [List.map_map, List.map_map]
    exact List.map_congr_left fun t ht => normD_tie (ev1.ok t ht)
  rw [List.nil_append, eN]
  have ev2 := ev1.norm
  have few2 : ((ts ++ rest).map normT).length ≤ 560 := by rw [List.length_map, List.length_append]; omega
  refine aLst_o H7 ?_
  intro c8 μ8 hc8 H8
  refine aLst_o H8 ?_
  intro c9 μ9 hc9 H9
  refine wLen_i (seq_lst (H9.get (c := cr) (by walk_at "own_mem"))) ?_
  rw [List.length_map]
  refine wMul_litN H9 (H9.get (c := c9) (by walk_at "own_mem")) (by omega) ?_
  intro c10 μ10 hc10 H10
  refine wAdd_ol H10 (H10.get (c := ch) (by walk_at "own_mem")) (H10.get (c := c10) (by walk_at "own_mem")) (by rw [len_litD, len_litD, List.length_replicate, sizeLine_eq]; omega) ?_
  intro c11 μ11 hc11 H11
  rw [← litD_app] at H11
  have H12 : OwnT b r6 m6 μ11 μ11 [(c8, .lst (((ts ++ rest).map normT).map tieD)), (c11, .lst (litD (hs ++ List.replicate rest.length 0)))] := H11.hereOf (by intro q hq; simp only [List.mem_cons, List.not_mem_nil, or_false] at hq; rcases hq with rfl | rfl <;> walk_at "own_mem")
  clear H11 H10 H9 H8 H7 H6 H5 eN
  generalize (ts ++ rest).map normT = us at H12 ev2 few2
  generalize hs ++ List.replicate rest.length 0 = hh at H12 ev2
  walk_at "own_lat"
  refine wSeq_i ?_
  refine wAsg_i ?_
  simp only [wOp, wCB, wCons, wNil, wVar, wC, List.append_nil, List.getElem?_cons_zero, List.getElem?_cons_succ, List.set_cons_zero, List.set_cons_succ]
  refine wPow_i cpow18 ?_
  refine wLen_i (seq_lst (H12.get (c := c8) (by walk_at "own_mem"))) ?_
  rw [List.length_map, p18]
  refine wAdd_i ?_
  refine wAdd_i ?_
  refine wMul_i (mul_ok (by decide) (by omega)) ?_
  refine wI2_i (div_ok (by omega) (by omega)) ?_
  refine wI0_i ?_
  have hg : 0 ≤ (1000000000000000000 : Int) / (20 * (((us.length : Nat) : Int) + (p : Nat) + 1)) - 9 ∧ (1000000000000000000 : Int) / (20 * (((us.length : Nat) : Int) + (p : Nat) + 1)) - 9 ≤ 1000000000000000000 := by
    have x1 : (9 : Int) ≤ (1000000000000000000 : Int) / (20 * (((us.length : Nat) : Int) + (p : Nat) + 1)) := by
      rw [Int.le_ediv_iff_mul_le (by omega)]; omega
    have x2 : (1000000000000000000 : Int) / (20 * (((us.length : Nat) : Int) + (p : Nat) + 1)) ≤ 1000000000000000000 := Int.ediv_le_self _ (by decide)
    omega
  generalize (1000000000000000000 : Int) / (20 * (((us.length : Nat) : Int) + (p : Nat) + 1)) - 9 = g at hg
  refine name_i rfl ?_
  walk_at "own_lat"
  refine wSeq_i ?_
  refine wAsg_i ?_
  simp only [wCall, wLst_a, wCons, wNil, wVar, wC, List.append_nil, List.getElem?_cons_zero, List.getElem?_cons_succ, List.set_cons_zero, List.set_cons_succ]
  refine aLst_o H12 ?_
  intro c13 μ13 hc13 H13
  refine pick_ok H13.inv (seq_lst (H13.get (c := c13) (by walk_at "own_mem"))) (by simp) (by simp) (fun n e => by cases e; have := H13.off (c13, _) (List.Mem.head _); simp at this ⊢; exact this.1) ?_
  intro x μ14 r14 m14 hx t14
  have H14 := tstep H13 t14
  obtain ⟨z, rfl, z0, z1⟩ : ∃ z : Int, x = .int z ∧ 0 ≤ z ∧ z ≤ 1000000000000000000 := by
    simp only [List.mem_cons, List.not_mem_nil, or_false] at hx
    rcases hx with rfl | rfl | rfl | rfl | rfl | rfl <;> exact ⟨_, rfl, by omega, by omega⟩
  refine full_ok (H14.hereOf (by intro q hq; simp only [List.mem_cons, List.not_mem_nil, or_false] at hq; rcases hq with rfl | rfl <;> walk_at "own_mem")) z0 (by omega) (by rw [List.length_map, ev2.len]) (by rw [List.length_map]; omega) ev2.h01 ?_
  intro cb cn bs zs μ15 r15 m15 t15 H15 hcb hcn ab hzl hbs hzs hpar
  rw [List.length_map] at hzl
  have few : us.length ≤ 3000 := by omega
  have hz64 : ∀ x ∈ zs, x.natAbs ≤ 2 ^ 64 := fun x hx => by have := hzs x hx; omega
  have hz240 : ∀ x ∈ zs, x.natAbs < 2 ^ 240 := fun x hx => by have := hz64 x hx; omega
  have hb90 : ∀ q ∈ bs, q.1.natAbs ≤ 2 ^ 90 ∧ q.2.natAbs ≤ 2 ^ 90 := fun q hq => by have := hbs q hq; omega
  have hb : ∀ q ∈ bs, q.1.natAbs < 2 ^ 240 ∧ q.2.natAbs < 2 ^ 240 := fun q hq => by have := hb90 q hq; omega
  have o : ∀ q ∈ bs, q.1 ≤ q.2 := fun q hq => (hbs q hq).1
  have l1 : bs.length = us.length := by rw [ab.len, hzl]
  walk_at "own_wg"
  walk_at "own_lat"
  refine wSeq_i ?_
  refine wAsg_i ?_
  simp only [wLc_a, wSeqI, wCall, wCons, wNil, wVar, List.append_nil, List.getElem?_cons_zero, List.getElem?_cons_succ, List.set_cons_zero, List.set_cons_succ]
  refine law_sums_ok ev2.ok (H15.get (c := c8) (by walk_at "own_mem")) (seq_lst (H15.get (c := cn) (by walk_at "own_mem"))) (by omega) (by omega) hz240 ?_
  intro c16 μ16 f16 hc16 g16
  have H16 := H15.fresh f16 g16 hc16
  simp only [seq_lst g16]
  refine ⟨by rw [len_litD, sumsZ_len, sizeLine_eq]; omega, lc_map (fun x => match x with | .int y => .int (y / 2) | _ => .non) (stays_refl _ _) ?_ [] _ ?_⟩
  · intro x hx P3 hP
    obtain ⟨y, hy, rfl⟩ := List.mem_map.mp hx
    simp only [wName, wOp, wVar, wC, wipeD, List.append_nil, List.getElem?_cons_zero, List.getElem?_cons_succ, List.set_cons_zero, List.set_cons_succ]
    exact wI2_i (div_ok (by decide) (by decide)) hP
  rw [List.nil_append, show (litD (sumsZ p us zs)).map (fun x => match x with | .int y => .int (y / 2) | _ => D.non) = litD ((sumsZ p us zs).map (· / 2)) by unfold litD; rw [List.map_map, List.map_map]; rfl]
  have hfill := fill_true ev2 ab hzl hpar
  have lsm : ((sumsZ p us zs).map (· / 2)).length = p := by rw [List.length_map, sumsZ_len]
  have bsm : ∀ x ∈ (sumsZ p us zs).map (· / 2), x.natAbs ≤ 2 ^ 80 := fun x hx => by
    obtain ⟨y, hy, rfl⟩ := List.mem_map.mp hx
    have := sumsZ_small ev2.ok few hz64 y hy
    omega
  generalize (sumsZ p us zs).map (· / 2) = sm at hfill lsm bsm
  refine aLst_o H16 ?_
  intro c17 μ17 hc17 H17
  refine name_i rfl ?_
  walk_at "own_lat"
  refine wSeq_i ?_
  refine wAsg_i ?_
  simp only [wCB, wCons, wNil, wVar, List.append_nil, List.getElem?_cons_zero, List.getElem?_cons_succ, List.set_cons_zero, List.set_cons_succ]
  refine wTupC_i (seq_lst (H17.get (c := cn) (by walk_at "own_mem"))) ?_
  refine name_i rfl ?_
  have H18 : OwnT b r15 m15 μ17 μ17 [(c8, .lst (us.map tieD)), (cb, .lst (bs.map pairD)), (c17, .lst (litD sm)), (cn, .lst (litD zs))] := H17.hereOf (by intro q hq; simp only [List.mem_cons, List.not_mem_nil, or_false] at hq; rcases hq with rfl | rfl | rfl | rfl <;> walk_at "own_mem")
  clear H17 H16 H15 H14 H13 H12
  have hsm : ∀ x ∈ sm, x.natAbs < 2 ^ 240 := fun x hx => by have := bsm x hx; omega
  have hv : ∀ v ∈ litD zs, EvD v := litEv fun x hx => by have := hz64 x hx; omega
  have fv : (litD zs).length ≤ 4000 := by rw [len_litD]; omega
  walk_at "own_lat"
  refine wSeq_i ?_
  refine wIfS_i ?_
  simp only [wOr, wCall, wCons, wNil, wVar, wC, PL.wNot, PL.wTru, List.append_nil, List.getElem?_cons_zero, List.getElem?_cons_succ, List.set_cons_zero, List.set_cons_succ]
  refine law_fills_ok ev2.ok (by omega) few (by omega) hb hsm (by omega) hv fv (H18.get (c := c8) (by walk_at "own_mem")) (H18.get (c := cb) (by walk_at "own_mem")) (H18.get (c := c17) (by walk_at "own_mem")) ?_
  intro μ19 f19
  have H19 := H18.pure f19
  rw [hfill]
  refine ifN_i (by decide) ?_
  refine asked_ok F (H19.hereOf (by intro q hq; simp only [List.mem_cons, List.not_mem_nil, or_false] at hq; rcases hq with rfl | rfl | rfl <;> walk_at "own_mem")) ev2.ok p1 (by omega) (by omega) l1 lsm o hb hsm hv fv ?_
  intro μ20 r20 m20 t20
  have H20 := tstep H19 t20
  refine ifN_i (by decide) ?_
  refine wNext_i ?_
  walk_at "own_lat"
  refine wSeq_i ?_
  refine wIfS_i ?_
  simp only [wCall, wCons, wNil, wVar, wC, PL.wNot, PL.wTru, List.append_nil, List.getElem?_cons_zero, List.getElem?_cons_succ, List.set_cons_zero, List.set_cons_succ]
  refine bent_ok H20.inv (fun x hx => by have := hz64 x hx; omega) (by omega) ?_
  intro vs μ21 r21 m21 t21 hvs fvs
  have H21 := tstep H20 t21
  refine asked_ok F (H21.hereOf (by intro q hq; simp only [List.mem_cons, List.not_mem_nil, or_false] at hq; rcases hq with rfl | rfl | rfl <;> walk_at "own_mem")) ev2.ok p1 (by omega) (by omega) l1 lsm o hb hsm hvs (by omega) ?_
  intro μ22 r22 m22 t22
  have H22 := tstep H21 t22
  refine ifN_i (by decide) ?_
  refine wNext_i ?_
  walk_at "own_lat"
  refine seq_mid (fun δ μ' => ∃ (r : Nat) (ms : List Int) (o14 : Option D), δ = [some (.scr ns), some (.cell b), some (.int (p : Nat)), some (.int c), some (.int e), some (.cell c8), some (.cell c11), o7, some (.cell cr), some (.int g), some (.cell cb), some (.cell cn), some (.cell c17), some (.tup (litD zs)), o14, none, none, none, none, none, none, none, none, none, none] ∧ OwnT b r ms μ' μ' [(c8, .lst (us.map tieD)), (cb, .lst (bs.map pairD)), (c17, .lst (litD sm)), (cn, .lst (litD zs))]) (fun NN nx' => ?_) ?_
  · refine wIfS_i ?_
    simp only [wTest, wOp, wCB, wCons, wNil, wVar, wC, List.append_nil, List.getElem?_cons_zero, List.getElem?_cons_succ, List.set_cons_zero, List.set_cons_succ]
    refine wLen_i (seq_lst (H22.get (c := c8) (by walk_at "own_mem"))) ?_
    rw [List.length_map]
    refine wB0_i ?_
    by_cases h : 0 < us.length
    · refine ifY_i (by simpa using h) ?_
      refine wSeq_i ?_
      refine wAsg_i ?_
      simp only [wCall, wOp, wCB, wCons, wNil, wVar, wC, List.append_nil, List.getElem?_cons_zero, List.getElem?_cons_succ, List.set_cons_zero, List.set_cons_succ]
      refine wLen_i (seq_lst (H22.get (c := c8) (by walk_at "own_mem"))) ?_
      rw [List.length_map]
      refine take_ok H22.inv (by omega) (by omega) ?_
      intro v μ23 r23 m23 v0 v1 t23
      have H23 := tstep H22 t23
      obtain ⟨i, rfl⟩ : ∃ i : Nat, v = (i : Nat) := ⟨v.toNat, by omega⟩
      refine cut_ok (m := 4000000000000000000) (H23.hereOf (by intro q hq; simp only [List.mem_cons, List.not_mem_nil, or_false] at hq; rcases hq with rfl | rfl <;> walk_at "own_mem")) (by omega) (by omega) (by omega) ab (fun q hq => by have := hbs q hq; omega) ?_
      intro cc bs' μ24 r24 m24 t24 hne hcc g24 lb' hb'
      have H24 := tcell H23 t24 g24 hcc hne
      refine name_i rfl ?_
      walk_at "own_lat"
      refine wIfS_i ?_
      simp only [wCall, wCons, wNil, wVar, wC, PL.wNot, PL.wTru, List.append_nil, List.getElem?_cons_zero, List.getElem?_cons_succ, List.set_cons_zero, List.set_cons_succ]
      refine asked_ok F (bs := bs') (H24.hereOf (by intro q hq; simp only [List.mem_cons, List.not_mem_nil, or_false] at hq; rcases hq with rfl | rfl | rfl <;> walk_at "own_mem")) ev2.ok p1 (by omega) (by omega) (by omega) lsm (fun q hq => (hb' q hq).1) (fun q hq => by have := hb' q hq; omega) hsm hv fv ?_
      intro μ25 r25 m25 t25
      refine ifN_i (by decide) ?_
      refine wNext_i ?_
      exact nx' _ _ ⟨r25, m25, _, rfl, (tstep H24 t25).hereOf (by intro q hq; simp only [List.mem_cons, List.not_mem_nil, or_false] at hq; rcases hq with rfl | rfl | rfl | rfl <;> walk_at "own_mem")⟩
    · refine ifN_i (by simpa using h) ?_
      refine wNext_i ?_
      exact nx' _ _ ⟨r22, m22, none, rfl, H22⟩
  rintro δ μ23 ⟨r23, m23, o14, rfl, H23⟩
  have ip0 : ((p : Nat) : Int) ≠ 0 := by omega
  refine wSeq_i ?_
  refine wAsg_i ?_
  simp only [wCall, wCons, wNil, wVar, List.append_nil, List.getElem?_cons_zero, List.getElem?_cons_succ, List.set_cons_zero, List.set_cons_succ]
  refine take_ok H23.inv (by omega) (by omega) ?_
  intro v μ24 r24 m24 v0 v1 t24
  have H24 := tstep H23 t24
  obtain ⟨i, rfl⟩ : ∃ i : Nat, v = (i : Nat) := ⟨v.toNat, by omega⟩
  refine name_i rfl ?_
  walk_at "own_lat"
  refine wSeq_i ?_
  refine wIfS_i ?_
  simp only [wOp, wCB, wCall, wCons, wNil, wVar, wC, PL.wNot, PL.wTru, List.append_nil, List.getElem?_cons_zero, List.getElem?_cons_succ, List.set_cons_zero, List.set_cons_succ]
  refine wIx_i (seq_lst (H24.get (c := c17) (by walk_at "own_mem"))) (litAt (by omega)) ?_
  refine sign_ok H24.inv ?_
  intro sv μ25 r25 m25 hsv t25
  have H25 := tstep H24 t25
  refine wAdd_i ?_
  refine with_lst (H25.get (c := c17) (by walk_at "own_mem")) (by rw [len_litD]; omega) (by rw [len_litD]; omega) ?_
  intro μ26 f26
  have H26 := H25.pure f26
  rw [show (litD sm).set i (.int (sm[i]?.getD 0 + sv)) = litD (sm.set i (sm[i]?.getD 0 + sv)) from map_set D.int sm i _]
  refine wListC_o H26 (d := .tup _) rfl ?_
  intro c27 μ27 hc27 H27
  have bset : ∀ (B : Nat) (y : Int), y.natAbs ≤ B → 2 ^ 80 ≤ B → ∀ x ∈ sm.set i y, x.natAbs ≤ B := fun B y hy hB x hx => by
    rcases List.mem_or_eq_of_mem_set hx with h | h
    · have := bsm x h; omega
    · subst h; exact hy
  have bat : ∀ i : Nat, (sm[i]?.getD 0).natAbs ≤ 2 ^ 80 := fun i => by
    cases c : sm[i]? with
    | none => simp
    | some y => exact bsm y (List.mem_of_getElem? c)
  have bsm27 : ∀ x ∈ sm.set i (sm[i]?.getD 0 + sv), x.natAbs < 2 ^ 240 := fun x hx => by
    have := bset (2 ^ 81) _ (by have := bat i; rcases hsv with rfl | rfl <;> omega) (by omega) x hx
    omega
  refine asked_ok F (H27.hereOf (by intro q hq; simp only [List.mem_cons, List.not_mem_nil, or_false] at hq; rcases hq with rfl | rfl | rfl <;> walk_at "own_mem")) ev2.ok p1 (by omega) (by omega) l1 (by rw [List.length_set]; exact lsm) o hb bsm27 hv fv ?_
  intro μ28 r28 m28 t28
  have H28 := (tstep H27 t28).tail
  refine ifN_i (by decide) ?_
  refine wNext_i ?_
  walk_at "own_lat"
  refine wSeq_i ?_
  refine wAsg_i ?_
  simp only [wCall, wCons, wNil, wVar, List.append_nil, List.getElem?_cons_zero, List.getElem?_cons_succ, List.set_cons_zero, List.set_cons_succ]
  refine signs_ok H28.inv (by omega) ?_
  intro sg μ29 r29 m29 lsg hsg t29
  have H29 := tstep H28 t29
  refine name_i rfl ?_
  walk_at "own_lat"
  refine wSeq_i ?_
  refine wAsg_i ?_
  refine lc_i (enumI_i (Cn.var rfl) rfl ?_)
  rw [numbered_lit]
  refine ⟨by rw [List.length_map, List.length_zipIdx, sizeLine_eq]; omega, lc_filt (fun x => match x with | .tup [.int i, _] => .int i | _ => .non) (fun x => match x with | .tup [_, .int s] => !decide (s = 0) | _ => false) (stays_refl _ _) ?_ [] _ ?_⟩
  · intro x hx A B hA hB
    obtain ⟨q, hq, rfl⟩ := List.mem_map.mp hx
    simp only [wGtup, wGcons, wGnil, wName, wipeD, List.length_cons, List.length_nil, List.set_cons_zero, List.set_cons_succ, Nat.zero_add, Nat.reduceAdd, true_and, wTest, wOp, wVar, wC, List.getElem?_cons_zero, List.getElem?_cons_succ]
    refine wEq_intN ?_
    by_cases hq0 : q.1 = 0
    · simp only [if_true, decide_eq_true hq0, Bool.not_true, Bool.false_eq_true, if_false]
      exact hB (by simp [hq0])
    · simp only [if_true, decide_eq_false hq0, Bool.not_false]
      exact hA (by simp [hq0])
  rw [List.nil_append]
  have eId : (((sg.zipIdx 0).map fun q => D.tup [.int (q.2 : Nat), .int q.1]).filter (fun x => match x with | .tup [_, .int s] => !decide (s = 0) | _ => false)).map (fun x => match x with | .tup [.int i, _] => D.int i | _ => .non) = litD (((sg.zipIdx 0).filter fun q => !decide (q.1 = 0)).map fun q => ((q.2 : Nat) : Int)) := by
    unfold litD
    rw [List.filter_map, List.map_map, List.map_map]; rfl
  rw [eId]
  have hid : ∀ x ∈ ((sg.zipIdx 0).filter fun q => !decide (q.1 = 0)).map (fun q => ((q.2 : Nat) : Int)), ∃ j : Nat, x = (j : Nat) ∧ j < p := fun x hx => by
    obtain ⟨q, hq, rfl⟩ := List.mem_map.mp hx
    have := List.mem_zipIdx (List.mem_filter.mp hq).1
    exact ⟨q.2, rfl, by omega⟩
  have hidl : (((sg.zipIdx 0).filter fun q => !decide (q.1 = 0)).map (fun q => ((q.2 : Nat) : Int))).length ≤ 3000 := by
    rw [List.length_map]
    have := List.length_filter_le (fun q : Int × Nat => !decide (q.1 = 0)) (sg.zipIdx 0)
    rw [List.length_zipIdx] at this
    omega
  generalize ((sg.zipIdx 0).filter fun q => !decide (q.1 = 0)).map (fun q => ((q.2 : Nat) : Int)) = ids at hid hidl
  refine aLst_o H29 ?_
  intro c30 μ30 hc30 H30
  refine name_i rfl ?_
  walk_at "own_lat"
  refine seq_mid (fun δ μ' => ∃ (sm : List Int) (cs r : Nat) (ms : List Int) (o15 o17 o18 o19 : Option D), δ = [some (.scr ns), some (.cell b), some (.int (p : Nat)), some (.int c), some (.int e), some (.cell c8), some (.cell c11), o7, some (.cell cr), some (.int g), some (.cell cb), some (.cell cn), some (.cell cs), some (.tup (litD zs)), o14, o15, some (.tup (litD sg)), o17, o18, o19, none, none, none, none, none] ∧ sm.length = p ∧ (∀ x ∈ sm, x.natAbs < 2 ^ 240) ∧ OwnT b r ms μ' μ' [(c8, .lst (us.map tieD)), (cb, .lst (bs.map pairD)), (cs, .lst (litD sm))]) (fun NN nx' => ?_) ?_
  · refine wIfS_i ?_
    simp only [wTest, wOp, wLst_a, wCons, wNil, wVar, wC, List.append_nil, List.getElem?_cons_zero, List.getElem?_cons_succ, List.set_cons_zero, List.set_cons_succ]
    refine aLst_o H30 ?_
    intro c31 μ31 hc31 H31
    refine wEq_lI (b := []) (H31.get (c := c30) (by walk_at "own_mem")) (H31.get (c := c31) (by walk_at "own_mem")) ?_
    by_cases he : ids = []
    · simp only [if_true, decide_eq_true he, Bool.not_true, Bool.false_eq_true, if_false]
      refine wNext_i ?_
      exact nx' _ _ ⟨sm, c17, r29, m29, _, _, _, _, rfl, lsm, hsm, H31.hereOf (by intro q hq; simp only [List.mem_cons, List.not_mem_nil, or_false] at hq; rcases hq with rfl | rfl | rfl <;> walk_at "own_mem")⟩
    simp only [if_true, decide_eq_false he, Bool.not_false]
    refine wSeq_i ?_
    simp only [wPar, wOp, wCall, wCB, wLst_a, wCons, wNil, wVar, wC, List.append_nil, List.getElem?_cons_zero, List.getElem?_cons_succ, List.set_cons_zero, List.set_cons_succ]
    have lid : 0 < ids.length := List.length_pos_iff.mpr he
    refine pick_ok H31.inv (seq_lst (H31.get (c := c30) (by walk_at "own_mem"))) (by rw [len_litD]; exact lid) (by rw [len_litD]; omega) (fun n e => by cases e; have := H31.off (c30, _) (by walk_at "own_mem"); simp at this ⊢; exact this.1) ?_
    intro x μ32 r32 m32 hx t32
    have H32 := tstep H31 t32
    obtain ⟨y, hy, rfl⟩ := List.mem_map.mp hx
    obtain ⟨j, rfl, hj⟩ := hid y hy
    refine wPow_i cpow9 ?_
    rw [p9]
    refine far_ok H32.inv (by decide) (by decide) ?_
    intro w μ33 r33 m33 w0 w1 t33
    have H33 := tstep H32 t33
    refine wAbs_i ?_
    refine aLst_o H33 ?_
    intro c34 μ34 hc34 H34
    refine pick_ok H34.inv (seq_lst (H34.get (c := c34) (by walk_at "own_mem"))) (by simp) (by simp) (fun n e => by cases e; have := H34.off (c34, _) (List.Mem.head _); simp at this ⊢; exact this.1) ?_
    intro x μ35 r35 m35 hx t35
    have H35 := tstep H34 t35
    obtain ⟨by', rfl, y0, y1⟩ : ∃ y : Int, x = .int y ∧ 0 ≤ y ∧ y ≤ 1000000000 := by
      simp only [List.mem_cons, List.not_mem_nil, or_false] at hx
      rcases hx with rfl | rfl | rfl | rfl | rfl
      · exact ⟨_, rfl, by omega, by omega⟩
      · exact ⟨_, rfl, by omega, by omega⟩
      · exact ⟨_, rfl, by omega, by omega⟩
      · exact ⟨_, rfl, by omega, by omega⟩
      · refine ⟨_, rfl, ?_, ?_⟩ <;> split <;> omega
    walk_at "own_lat"
    refine wSeq_i ?_
    refine wAsg_i ?_
    simp only [wOp, wCall, wCons, wNil, wVar, List.append_nil, List.getElem?_cons_zero, List.getElem?_cons_succ, List.set_cons_zero, List.set_cons_succ]
    refine wIx_i (xs := litD sg) rfl (litAt (by omega)) ?_
    have hm : ((sg.length : Nat) : Int) = (p : Nat) := by omega
    refine short_ok ev2.ok hm hsg (by omega) few hb o hsm (H35.get (c := c8) (by walk_at "own_mem")) (H35.get (c := cb) (by walk_at "own_mem")) (H35.get (c := c17) (by walk_at "own_mem")) ?_
    intro μ36 f36
    have H36 := H35.pure f36
    refine wI0_i ?_
    have hlk := lack_small (sm := sm) hsg (by omega) few ev2.ok hb90 fun x hx => by have := bsm x hx; omega
    generalize lackS sg us bs sm = lk at hlk
    have hsj : ∃ s : Int, sg[j]?.getD 0 = s ∧ -1 ≤ s ∧ s ≤ 1 := ⟨_, rfl, by
      rw [List.getElem?_eq_getElem (by omega)]
      exact hsg _ (List.getElem_mem _)⟩
    obtain ⟨s, es, s0', s1'⟩ := hsj
    rw [es]
    refine wMul_i (mul_ok (by omega) (by omega)) ?_
    have hmore : (s * (by' - lk)).natAbs ≤ 2 ^ 121 := by
      obtain rfl | rfl | rfl : s = -1 ∨ s = 0 ∨ s = 1 := by omega
      · omega
      · omega
      · omega
    generalize s * (by' - lk) = more at hmore
    refine name_i rfl ?_
    walk_at "own_lat"
    refine wAsg_i ?_
    simp only [wOp, wCall, wCB, wCons, wNil, wVar, List.append_nil, List.getElem?_cons_zero, List.getElem?_cons_succ, List.set_cons_zero, List.set_cons_succ]
    refine wIx_i (seq_lst (H36.get (c := c17) (by walk_at "own_mem"))) (litAt (by omega)) ?_
    refine wAdd_i ?_
    refine with_lst (H36.get (c := c17) (by walk_at "own_mem")) (by rw [len_litD]; omega) (by rw [len_litD]; omega) ?_
    intro μ37 f37
    have H37 := H36.pure f37
    have hy' : (sm[j]?.getD 0 + more).natAbs ≤ 2 ^ 122 := by have := bat j; omega
    generalize sm[j]?.getD 0 + more = yy at hy'
    rw [show (litD sm).set j (.int yy) = litD (sm.set j yy) from map_set D.int sm j _]
    refine wListC_o H37 (d := .tup _) rfl ?_
    intro c38 μ38 hc38 H38
    refine name_i rfl ?_
    refine nx' _ _ ⟨sm.set j yy, c38, _, _, _, _, _, _, rfl, by rw [List.length_set]; exact lsm, fun x hx => ?_, H38.hereOf (by intro q hq; simp only [List.mem_cons, List.not_mem_nil, or_false] at hq; rcases hq with rfl | rfl | rfl <;> walk_at "own_mem")⟩
    rcases List.mem_or_eq_of_mem_set hx with h | h
    · exact hsm x h
    · subst h; omega
  clear H30 H29 H28 H27 H26 H25 H24 H23 H22 H21 H20 H19 H18
  rintro δ μ39 ⟨sm, cs, r39, m39, o15, o17, o18, o19, rfl, lsm, hsm, H39⟩
  have hvs : ∀ v ∈ litD sg, EvD v := litEv fun x hx => by have := hsg x hx; omega
  refine wSeq_i ?_
  refine wIfS_i ?_
  simp only [wCall, wCons, wNil, wVar, wC, PL.wNot, PL.wTru, List.append_nil, List.getElem?_cons_zero, List.getElem?_cons_succ, List.set_cons_zero, List.set_cons_succ]
  refine asked_ok F (H39.hereOf (by intro q hq; simp only [List.mem_cons, List.not_mem_nil, or_false] at hq; rcases hq with rfl | rfl | rfl <;> walk_at "own_mem")) ev2.ok p1 (by omega) (by omega) l1 lsm o hb hsm hvs (by rw [len_litD]; omega) ?_
  intro μ40 r40 m40 t40
  have H40 := tstep H39 t40
  refine ifN_i (by decide) ?_
  refine wNext_i ?_
  walk_at "own_lat"
  refine wSeq_i ?_
  refine wAsg_i ?_
  refine wCB1_i (lc_i (seqI_i (Cn.var rfl) rfl ?_))
  refine ⟨by rw [len_litD, sizeLine_eq]; omega, lc_map (fun x => match x with | .int y => .int (-y) | _ => .non) (stays_refl _ _) ?_ [] _ ?_⟩
  · intro x hx P3 hP
    obtain ⟨y, hy, rfl⟩ := List.mem_map.mp hx
    simp only [wName, wUn, wVar, wC, wipeD, List.append_nil, List.getElem?_cons_zero, List.getElem?_cons_succ, List.set_cons_zero, List.set_cons_succ]
    exact wNeg_i hP
  rw [List.nil_append, show (litD sg).map (fun x => match x with | .int y => .int (-y) | _ => D.non) = litD (sg.map fun y => -y) by unfold litD; rw [List.map_map, List.map_map]; rfl]
  refine aLst_o H40 ?_
  intro c41 μ41 hc41 H41
  refine wTupC_i (seq_lst (H41.get (c := c41) (by walk_at "own_mem"))) ?_
  refine name_i rfl ?_
  walk_at "own_lat"
  refine wSeq_i ?_
  refine wIfS_i ?_
  simp only [wCall, wCons, wNil, wVar, wC, PL.wNot, PL.wTru, List.append_nil, List.getElem?_cons_zero, List.getElem?_cons_succ, List.set_cons_zero, List.set_cons_succ]
  refine asked_ok F (H41.hereOf (by intro q hq; simp only [List.mem_cons, List.not_mem_nil, or_false] at hq; rcases hq with rfl | rfl | rfl <;> walk_at "own_mem")) ev2.ok p1 (by omega) (by omega) l1 lsm o hb hsm (litEv fun x hx => by obtain ⟨y, hy, rfl⟩ := List.mem_map.mp hx; have := hsg y hy; omega) (by rw [len_litD, List.length_map]; omega) ?_
  intro μ42 r42 m42 t42
  have H42 := (tstep H41 t42).tail
  refine ifN_i (by decide) ?_
  refine wNext_i ?_
  walk_at "own_lat"
  refine wRet_i ?_
  simp only [wCall, wCons, wNil, wVar, List.append_nil, List.getElem?_cons_zero, List.getElem?_cons_succ, List.set_cons_zero, List.set_cons_succ]
  refine bent_ok H42.inv (fun x hx => by have := hsg x hx; omega) (by omega) ?_
  intro vs μ43 r43 m43 t43 hvv fvv
  have H43 := tstep H42 t43
  refine asked_ok F (H43.hereOf (by intro q hq; simp only [List.mem_cons, List.not_mem_nil, or_false] at hq; rcases hq with rfl | rfl | rfl <;> walk_at "own_mem")) ev2.ok p1 (by omega) (by omega) l1 lsm o hb hsm hvv (by omega) ?_
  intro μ44 r44 m44 t44
  exact .here (k _)
end
end G
namespace G
open PySem L2 PL PySem.Spec PyProof.Rows
theorem all_mk {l : PySem.W.OpenLaw} {w : World} {K : PySem.W.Frag} {h : Heap} {mg : Str → Option Value} {fa C_Web C_Box f0 f1 f2 f3 f4 f5 f6 T6 f7 f8 f9 f10 f11 f12 f13 f14 f15 f16 f17 f18 f19 f20 f21 f22 f23 f24 f25 f26 f27 f28 f29 f30 f31 f32 f33 f34 f35 f36 f37 f38 f39 f40 f41 f42 f43 f44 f45 f46 f47 f48 f49 f50 f51 f52 f53 f54 f55 f56 f57 E_InvalidBounds g0 E_InvalidBox g1 E_InvalidSize g2 E_InvalidTies g3 E_InvalidTotals g4 E_InvalidWeb g5 : Addr}
    {oc0 kV0 dc0 pm0 cd0 ct0 oc1 kV1 dc1 pm1 cd1 ct1 oc2 kV2 dc2 pm2 cd2 ct2 oc3 kV3 dc3 pm3 cd3 ct3 oc4 kV4 dc4 pm4 cd4 ct4 oc5 kV5 dc5 pm5 cd5 ct5 oc6 kV6 dc6 pm6 cd6 ct6 oT6 oc7 kV7 dc7 pm7 cd7 ct7 oc8 kV8 dc8 pm8 cd8 ct8 oc9 kV9 dc9 pm9 cd9 ct9 oc10 kV10 dc10 pm10 cd10 ct10 oc11 kV11 dc11 pm11 cd11 ct11 oc12 kV12 dc12 pm12 cd12 ct12 oc13 kV13 dc13 pm13 cd13 ct13 oc14 kV14 dc14 pm14 cd14 ct14 oc15 kV15 dc15 pm15 cd15 ct15 oc16 kV16 dc16 pm16 cd16 ct16 oc17 kV17 dc17 pm17 cd17 ct17 oc18 kV18 dc18 pm18 cd18 ct18 oc19 kV19 dc19 pm19 cd19 ct19 oc20 kV20 dc20 pm20 cd20 ct20 oc21 kV21 dc21 pm21 cd21 ct21 oc22 kV22 dc22 pm22 cd22 ct22 oc23 kV23 dc23 pm23 cd23 ct23 oc24 kV24 dc24 pm24 cd24 ct24 oc25 kV25 dc25 pm25 cd25 ct25 oc26 kV26 dc26 pm26 cd26 ct26 oc27 kV27 dc27 pm27 cd27 ct27 oc28 kV28 dc28 pm28 cd28 ct28 oc29 kV29 dc29 pm29 cd29 ct29 oc30 kV30 dc30 pm30 cd30 ct30 oc31 kV31 dc31 pm31 cd31 ct31 oc32 kV32 dc32 pm32 cd32 ct32 oc33 kV33 dc33 pm33 cd33 ct33 oc34 kV34 dc34 pm34 cd34 ct34 oc35 kV35 dc35 pm35 cd35 ct35 oc36 kV36 dc36 pm36 cd36 ct36 oc37 kV37 dc37 pm37 cd37 ct37 oc38 kV38 dc38 pm38 cd38 ct38 oc39 kV39 dc39 pm39 cd39 ct39 oc40 kV40 dc40 pm40 cd40 ct40 oc41 kV41 dc41 pm41 cd41 ct41 oc42 kV42 dc42 pm42 cd42 ct42 oc43 kV43 dc43 pm43 cd43 ct43 oc44 kV44 dc44 pm44 cd44 ct44 oc45 kV45 dc45 pm45 cd45 ct45 oc46 kV46 dc46 pm46 cd46 ct46 oc47 kV47 dc47 pm47 cd47 ct47 oc48 kV48 dc48 pm48 cd48 ct48 oc49 kV49 dc49 pm49 cd49 ct49 oc50 kV50 dc50 pm50 cd50 ct50 oc51 kV51 dc51 pm51 cd51 ct51 oc52 kV52 dc52 pm52 cd52 ct52 oc53 kV53 dc53 pm53 cd53 ct53 oc54 kV54 dc54 pm54 cd54 ct54 oc55 kV55 dc55 pm55 cd55 ct55 oc56 kV56 dc56 pm56 cd56 ct56 oc57 kV57 dc57 pm57 cd57 ct57 : Value}
    {od0 an0 od1 an1 od2 an2 od3 an3 od4 an4 od5 an5 od6 an6 dT6 od7 an7 od8 an8 od9 an9 od10 an10 od11 an11 od12 an12 od13 an13 od14 an14 od15 an15 od16 an16 od17 an17 od18 an18 od19 an19 od20 an20 od21 an21 od22 an22 od23 an23 od24 an24 od25 an25 od26 an26 od27 an27 od28 an28 od29 an29 od30 an30 od31 an31 od32 an32 od33 an33 od34 an34 od35 an35 od36 an36 od37 an37 od38 an38 od39 an39 od40 an40 od41 an41 od42 an42 od43 an43 od44 an44 od45 an45 od46 an46 od47 an47 od48 an48 od49 an49 od50 an50 od51 an51 od52 an52 od53 an53 od54 an54 od55 an55 od56 an56 od57 an57 : Option Addr}
    {sl0 sl1 sl2 sl3 sl4 sl5 sl6 slT6 sl7 sl8 sl9 sl10 sl11 sl12 sl13 sl14 sl15 sl16 sl17 sl18 sl19 sl20 sl21 sl22 sl23 sl24 sl25 sl26 sl27 sl28 sl29 sl30 sl31 sl32 sl33 sl34 sl35 sl36 sl37 sl38 sl39 sl40 sl41 sl42 sl43 sl44 sl45 sl46 sl47 sl48 sl49 sl50 sl51 sl52 sl53 sl54 sl55 sl56 sl57 : Array (Option Value)}
    {nT6 : Nat}
    {tk6_0 : Tok}
    {tc0 tc1 : Tok}
    {nm0 nm1 nm2 nm3 nm4 nm5 qE0 qE1 qE2 qE3 qE4 qE5 : Str}
    {NE0 NE1 NE2 NE3 NE4 NE5 PE0 PE1 PE2 PE3 PE4 PE5 : Addr}
    {bs0 bs1 bs2 bs3 bs4 bs5 : List Value}
    {sn0 sn1 sn2 sn3 sn4 sn5 : List Str}
    {sub0 sub1 sub2 sub3 sub4 sub5 : List Value}
    {ab0 ab1 ab2 ab3 ab4 ab5 : Bool}
    {col0 col1 col2 col3 col4 col5 : Option Bool}
    {dd0 dd1 dd2 dd3 dd4 dd5 odE0 odE1 odE2 odE3 odE4 odE5 anE0 anE1 anE2 anE3 anE4 anE5 : Option Addr}
    {m0_0 m0_1 m0_2 m0_3 m0_4 m0_5 m1_0 m1_1 m1_2 m1_3 m1_4 m1_5 m2_0 m2_1 m2_2 m2_3 m2_4 m2_5 m3_0 m3_1 m3_2 m3_3 m3_4 m3_5 m5_0 m5_1 m5_2 m5_3 m5_4 m5_5 : Option Value}
    {ocE0 ocE1 ocE2 ocE3 ocE4 ocE5 dE0 dE1 dE2 dE3 dE4 dE5 pmE0 pmE1 pmE2 pmE3 pmE4 pmE5 cdE0 cdE1 cdE2 cdE3 cdE4 cdE5 ctE0 ctE1 ctE2 ctE3 ctE4 ctE5 : Value}
    {slE0 slE1 slE2 slE3 slE4 slE5 : Array (Option Value)}
    {pE0 pE1 pE2 pE3 pE4 pE5 pF0 pF1 pF2 pF3 pF4 pF5 qA0 qA1 qA2 qA3 qA4 qA5 qB0 qB1 qB2 qB3 qB4 qB5 qC0 qC1 qC2 qC3 qC4 qC5 qD0 qD1 qD2 qD3 qD4 qD5 : Pos}
    (X : K.In h) (G : h.Ns mainGlobals mg) (hfa : mg "law" = some (.ref fa))
    (aC0 : PySem.W.nsIn K mainGlobals "Web" = some (some (.ref C_Web)))
    (aC1 : PySem.W.nsIn K mainGlobals "Box" = some (some (.ref C_Box)))
    (a0 : PySem.W.nsIn K mainGlobals "is_integer" = some (some (.ref f0)))
    (l0 : K.lookup f0 = some ⟨oc0, od0, .func (PySem.W.fnOf "is_integer" "is_integer" (defArgs s_is_integer) (defBody s_is_integer) (defScope s_is_integer) .none kV0 dc0 pm0 an0 cd0 ct0), sl0⟩)
    (c0 : PySem.W.codeIn K cd0 "is_integer" = true)
    (k0 : PySem.W.keepIn K (.ref f0) = true)
    (a1 : PySem.W.nsIn K mainGlobals "is_sequence" = some (some (.ref f1)))
    (l1 : K.lookup f1 = some ⟨oc1, od1, .func (PySem.W.fnOf "is_sequence" "is_sequence" (defArgs s_is_sequence) (defBody s_is_sequence) (defScope s_is_sequence) .none kV1 dc1 pm1 an1 cd1 ct1), sl1⟩)
    (c1 : PySem.W.codeIn K cd1 "is_sequence" = true)
    (k1 : PySem.W.keepIn K (.ref f1) = true)
    (a2 : PySem.W.nsIn K mainGlobals "is_tuple" = some (some (.ref f2)))
    (l2 : K.lookup f2 = some ⟨oc2, od2, .func (PySem.W.fnOf "is_tuple" "is_tuple" (defArgs s_is_tuple) (defBody s_is_tuple) (defScope s_is_tuple) .none kV2 dc2 pm2 an2 cd2 ct2), sl2⟩)
    (c2 : PySem.W.codeIn K cd2 "is_tuple" = true)
    (k2 : PySem.W.keepIn K (.ref f2) = true)
    (a3 : PySem.W.nsIn K mainGlobals "is_double" = some (some (.ref f3)))
    (l3 : K.lookup f3 = some ⟨oc3, od3, .func (PySem.W.fnOf "is_double" "is_double" (defArgs s_is_double) (defBody s_is_double) (defScope s_is_double) .none kV3 dc3 pm3 an3 cd3 ct3), sl3⟩)
    (c3 : PySem.W.codeIn K cd3 "is_double" = true)
    (k3 : PySem.W.keepIn K (.ref f3) = true)
    (a4 : PySem.W.nsIn K mainGlobals "tie_ends" = some (some (.ref f4)))
    (l4 : K.lookup f4 = some ⟨oc4, od4, .func (PySem.W.fnOf "tie_ends" "tie_ends" (defArgs s_tie_ends) (defBody s_tie_ends) (defScope s_tie_ends) .none kV4 dc4 pm4 an4 cd4 ct4), sl4⟩)
    (c4 : PySem.W.codeIn K cd4 "tie_ends" = true)
    (k4 : PySem.W.keepIn K (.ref f4) = true)
    (a5 : PySem.W.findIn K (.ref C_Web) "__eq__" = some (some (.ref f5)))
    (i5 : PySem.W.isFn K (.ref f5) = true)
    (l5 : K.lookup f5 = some ⟨oc5, od5, .func (PySem.W.fnOf "__eq__" "Web.__eq__" (defArgs s_Web__eq_) (defBody s_Web__eq_) (defScope s_Web__eq_) .none kV5 dc5 pm5 an5 cd5 ct5), sl5⟩)
    (c5 : PySem.W.codeIn K cd5 "Web.__eq__" = true)
    (k5 : PySem.W.keepIn K (.ref f5) = true)
    (a6 : PySem.W.nsIn K mainGlobals "check_web" = some (some (.ref f6)))
    (l6 : K.lookup f6 = some ⟨oc6, od6, .func (PySem.W.fnOf "check_web" "check_web" (defArgs s_check_web) (defBody s_check_web) (defScope s_check_web) (.ref T6) kV6 dc6 pm6 an6 cd6 ct6), sl6⟩)
    (lT6 : K.lookup T6 = some ⟨oT6, dT6, .seq [Value.int (-1) tk6_0].toArray nT6, slT6⟩)
    (c6 : PySem.W.codeIn K cd6 "check_web" = true)
    (k6 : PySem.W.keepIn K (.ref f6) = true)
    (a7 : PySem.W.findIn K (.ref C_Box) "__eq__" = some (some (.ref f7)))
    (i7 : PySem.W.isFn K (.ref f7) = true)
    (l7 : K.lookup f7 = some ⟨oc7, od7, .func (PySem.W.fnOf "__eq__" "Box.__eq__" (defArgs s_Box__eq_) (defBody s_Box__eq_) (defScope s_Box__eq_) .none kV7 dc7 pm7 an7 cd7 ct7), sl7⟩)
    (c7 : PySem.W.codeIn K cd7 "Box.__eq__" = true)
    (k7 : PySem.W.keepIn K (.ref f7) = true)
    (a8 : PySem.W.nsIn K mainGlobals "check_box" = some (some (.ref f8)))
    (l8 : K.lookup f8 = some ⟨oc8, od8, .func (PySem.W.fnOf "check_box" "check_box" (defArgs s_check_box) (defBody s_check_box) (defScope s_check_box) .none kV8 dc8 pm8 an8 cd8 ct8), sl8⟩)
    (c8 : PySem.W.codeIn K cd8 "check_box" = true)
    (k8 : PySem.W.keepIn K (.ref f8) = true)
    (a9 : PySem.W.nsIn K mainGlobals "_law_box" = some (some (.ref f9)))
    (l9 : K.lookup f9 = some ⟨oc9, od9, .func (PySem.W.fnOf "_law_box" "_law_box" (defArgs s_law_box) (defBody s_law_box) (defScope s_law_box) .none kV9 dc9 pm9 an9 cd9 ct9), sl9⟩)
    (c9 : PySem.W.codeIn K cd9 "_law_box" = true)
    (k9 : PySem.W.keepIn K (.ref f9) = true)
    (a10 : PySem.W.nsIn K mainGlobals "_law_take" = some (some (.ref f10)))
    (l10 : K.lookup f10 = some ⟨oc10, od10, .func (PySem.W.fnOf "_law_take" "_law_take" (defArgs s_law_take) (defBody s_law_take) (defScope s_law_take) .none kV10 dc10 pm10 an10 cd10 ct10), sl10⟩)
    (c10 : PySem.W.codeIn K cd10 "_law_take" = true)
    (k10 : PySem.W.keepIn K (.ref f10) = true)
    (a11 : PySem.W.nsIn K mainGlobals "_law_norm" = some (some (.ref f11)))
    (l11 : K.lookup f11 = some ⟨oc11, od11, .func (PySem.W.fnOf "_law_norm" "_law_norm" (defArgs s_law_norm) (defBody s_law_norm) (defScope s_law_norm) .none kV11 dc11 pm11 an11 cd11 ct11), sl11⟩)
    (c11 : PySem.W.codeIn K cd11 "_law_norm" = true)
    (k11 : PySem.W.keepIn K (.ref f11) = true)
    (a12 : PySem.W.nsIn K mainGlobals "_law_ends" = some (some (.ref f12)))
    (l12 : K.lookup f12 = some ⟨oc12, od12, .func (PySem.W.fnOf "_law_ends" "_law_ends" (defArgs s_law_ends) (defBody s_law_ends) (defScope s_law_ends) .none kV12 dc12 pm12 an12 cd12 ct12), sl12⟩)
    (c12 : PySem.W.codeIn K cd12 "_law_ends" = true)
    (k12 : PySem.W.keepIn K (.ref f12) = true)
    (a13 : PySem.W.nsIn K mainGlobals "_law_are_ints" = some (some (.ref f13)))
    (l13 : K.lookup f13 = some ⟨oc13, od13, .func (PySem.W.fnOf "_law_are_ints" "_law_are_ints" (defArgs s_law_are_ints) (defBody s_law_are_ints) (defScope s_law_are_ints) .none kV13 dc13 pm13 an13 cd13 ct13), sl13⟩)
    (c13 : PySem.W.codeIn K cd13 "_law_are_ints" = true)
    (k13 : PySem.W.keepIn K (.ref f13) = true)
    (a14 : PySem.W.nsIn K mainGlobals "_law_with" = some (some (.ref f14)))
    (l14 : K.lookup f14 = some ⟨oc14, od14, .func (PySem.W.fnOf "_law_with" "_law_with" (defArgs s_law_with) (defBody s_law_with) (defScope s_law_with) .none kV14 dc14 pm14 an14 cd14 ct14), sl14⟩)
    (c14 : PySem.W.codeIn K cd14 "_law_with" = true)
    (k14 : PySem.W.keepIn K (.ref f14) = true)
    (a15 : PySem.W.nsIn K mainGlobals "is_below" = some (some (.ref f15)))
    (l15 : K.lookup f15 = some ⟨oc15, od15, .func (PySem.W.fnOf "is_below" "is_below" (defArgs s_is_below) (defBody s_is_below) (defScope s_is_below) .none kV15 dc15 pm15 an15 cd15 ct15), sl15⟩)
    (c15 : PySem.W.codeIn K cd15 "is_below" = true)
    (k15 : PySem.W.keepIn K (.ref f15) = true)
    (a16 : PySem.W.nsIn K mainGlobals "is_sign" = some (some (.ref f16)))
    (l16 : K.lookup f16 = some ⟨oc16, od16, .func (PySem.W.fnOf "is_sign" "is_sign" (defArgs s_is_sign) (defBody s_is_sign) (defScope s_is_sign) .none kV16 dc16 pm16 an16 cd16 ct16), sl16⟩)
    (c16 : PySem.W.codeIn K cd16 "is_sign" = true)
    (k16 : PySem.W.keepIn K (.ref f16) = true)
    (a17 : PySem.W.nsIn K mainGlobals "is_sized" = some (some (.ref f17)))
    (l17 : K.lookup f17 = some ⟨oc17, od17, .func (PySem.W.fnOf "is_sized" "is_sized" (defArgs s_is_sized) (defBody s_is_sized) (defScope s_is_sized) .none kV17 dc17 pm17 an17 cd17 ct17), sl17⟩)
    (c17 : PySem.W.codeIn K cd17 "is_sized" = true)
    (k17 : PySem.W.keepIn K (.ref f17) = true)
    (a18 : PySem.W.nsIn K mainGlobals "is_paper" = some (some (.ref f18)))
    (l18 : K.lookup f18 = some ⟨oc18, od18, .func (PySem.W.fnOf "is_paper" "is_paper" (defArgs s_is_paper) (defBody s_is_paper) (defScope s_is_paper) .none kV18 dc18 pm18 an18 cd18 ct18), sl18⟩)
    (c18 : PySem.W.codeIn K cd18 "is_paper" = true)
    (k18 : PySem.W.keepIn K (.ref f18) = true)
    (a19 : PySem.W.nsIn K mainGlobals "signs_fault" = some (some (.ref f19)))
    (l19 : K.lookup f19 = some ⟨oc19, od19, .func (PySem.W.fnOf "signs_fault" "signs_fault" (defArgs s_signs_fault) (defBody s_signs_fault) (defScope s_signs_fault) .none kV19 dc19 pm19 an19 cd19 ct19), sl19⟩)
    (c19 : PySem.W.codeIn K cd19 "signs_fault" = true)
    (k19 : PySem.W.keepIn K (.ref f19) = true)
    (a20 : PySem.W.nsIn K mainGlobals "check_points" = some (some (.ref f20)))
    (l20 : K.lookup f20 = some ⟨oc20, od20, .func (PySem.W.fnOf "check_points" "check_points" (defArgs s_check_points) (defBody s_check_points) (defScope s_check_points) .none kV20 dc20 pm20 an20 cd20 ct20), sl20⟩)
    (c20 : PySem.W.codeIn K cd20 "check_points" = true)
    (k20 : PySem.W.keepIn K (.ref f20) = true)
    (a21 : PySem.W.nsIn K mainGlobals "ordered_tie" = some (some (.ref f21)))
    (l21 : K.lookup f21 = some ⟨oc21, od21, .func (PySem.W.fnOf "ordered_tie" "ordered_tie" (defArgs s_ordered_tie) (defBody s_ordered_tie) (defScope s_ordered_tie) .none kV21 dc21 pm21 an21 cd21 ct21), sl21⟩)
    (c21 : PySem.W.codeIn K cd21 "ordered_tie" = true)
    (k21 : PySem.W.keepIn K (.ref f21) = true)
    (a22 : PySem.W.nsIn K mainGlobals "check_web_box" = some (some (.ref f22)))
    (l22 : K.lookup f22 = some ⟨oc22, od22, .func (PySem.W.fnOf "check_web_box" "check_web_box" (defArgs s_check_web_box) (defBody s_check_web_box) (defScope s_check_web_box) .none kV22 dc22 pm22 an22 cd22 ct22), sl22⟩)
    (c22 : PySem.W.codeIn K cd22 "check_web_box" = true)
    (k22 : PySem.W.keepIn K (.ref f22) = true)
    (a23 : PySem.W.nsIn K mainGlobals "tie_pull" = some (some (.ref f23)))
    (l23 : K.lookup f23 = some ⟨oc23, od23, .func (PySem.W.fnOf "tie_pull" "tie_pull" (defArgs s_tie_pull) (defBody s_tie_pull) (defScope s_tie_pull) .none kV23 dc23 pm23 an23 cd23 ct23), sl23⟩)
    (c23 : PySem.W.codeIn K cd23 "tie_pull" = true)
    (k23 : PySem.W.keepIn K (.ref f23) = true)
    (a24 : PySem.W.nsIn K mainGlobals "sums_at" = some (some (.ref f24)))
    (l24 : K.lookup f24 = some ⟨oc24, od24, .func (PySem.W.fnOf "sums_at" "sums_at" (defArgs s_sums_at) (defBody s_sums_at) (defScope s_sums_at) .none kV24 dc24 pm24 an24 cd24 ct24), sl24⟩)
    (c24 : PySem.W.codeIn K cd24 "sums_at" = true)
    (k24 : PySem.W.keepIn K (.ref f24) = true)
    (a25 : PySem.W.nsIn K mainGlobals "_law_pick" = some (some (.ref f25)))
    (l25 : K.lookup f25 = some ⟨oc25, od25, .func (PySem.W.fnOf "_law_pick" "_law_pick" (defArgs s_law_pick) (defBody s_law_pick) (defScope s_law_pick) .none kV25 dc25 pm25 an25 cd25 ct25), sl25⟩)
    (c25 : PySem.W.codeIn K cd25 "_law_pick" = true)
    (k25 : PySem.W.keepIn K (.ref f25) = true)
    (a26 : PySem.W.nsIn K mainGlobals "_law_far" = some (some (.ref f26)))
    (l26 : K.lookup f26 = some ⟨oc26, od26, .func (PySem.W.fnOf "_law_far" "_law_far" (defArgs s_law_far) (defBody s_law_far) (defScope s_law_far) .none kV26 dc26 pm26 an26 cd26 ct26), sl26⟩)
    (c26 : PySem.W.codeIn K cd26 "_law_far" = true)
    (k26 : PySem.W.keepIn K (.ref f26) = true)
    (a27 : PySem.W.nsIn K mainGlobals "_law_sign" = some (some (.ref f27)))
    (l27 : K.lookup f27 = some ⟨oc27, od27, .func (PySem.W.fnOf "_law_sign" "_law_sign" (defArgs s_law_sign) (defBody s_law_sign) (defScope s_law_sign) .none kV27 dc27 pm27 an27 cd27 ct27), sl27⟩)
    (c27 : PySem.W.codeIn K cd27 "_law_sign" = true)
    (k27 : PySem.W.keepIn K (.ref f27) = true)
    (a28 : PySem.W.nsIn K mainGlobals "_law_is" = some (some (.ref f28)))
    (l28 : K.lookup f28 = some ⟨oc28, od28, .func (PySem.W.fnOf "_law_is" "_law_is" (defArgs s_law_is) (defBody s_law_is) (defScope s_law_is) .none kV28 dc28 pm28 an28 cd28 ct28), sl28⟩)
    (c28 : PySem.W.codeIn K cd28 "_law_is" = true)
    (k28 : PySem.W.keepIn K (.ref f28) = true)
    (a29 : PySem.W.nsIn K mainGlobals "_law_sums" = some (some (.ref f29)))
    (l29 : K.lookup f29 = some ⟨oc29, od29, .func (PySem.W.fnOf "_law_sums" "_law_sums" (defArgs s_law_sums) (defBody s_law_sums) (defScope s_law_sums) .none kV29 dc29 pm29 an29 cd29 ct29), sl29⟩)
    (c29 : PySem.W.codeIn K cd29 "_law_sums" = true)
    (k29 : PySem.W.keepIn K (.ref f29) = true)
    (a30 : PySem.W.nsIn K mainGlobals "_law_pull" = some (some (.ref f30)))
    (l30 : K.lookup f30 = some ⟨oc30, od30, .func (PySem.W.fnOf "_law_pull" "_law_pull" (defArgs s_law_pull) (defBody s_law_pull) (defScope s_law_pull) .none kV30 dc30 pm30 an30 cd30 ct30), sl30⟩)
    (c30 : PySem.W.codeIn K cd30 "_law_pull" = true)
    (k30 : PySem.W.keepIn K (.ref f30) = true)
    (a31 : PySem.W.nsIn K mainGlobals "_law_are_signs" = some (some (.ref f31)))
    (l31 : K.lookup f31 = some ⟨oc31, od31, .func (PySem.W.fnOf "_law_are_signs" "_law_are_signs" (defArgs s_law_are_signs) (defBody s_law_are_signs) (defScope s_law_are_signs) .none kV31 dc31 pm31 an31 cd31 ct31), sl31⟩)
    (c31 : PySem.W.codeIn K cd31 "_law_are_signs" = true)
    (k31 : PySem.W.keepIn K (.ref f31) = true)
    (a32 : PySem.W.nsIn K mainGlobals "is_sign_row" = some (some (.ref f32)))
    (l32 : K.lookup f32 = some ⟨oc32, od32, .func (PySem.W.fnOf "is_sign_row" "is_sign_row" (defArgs s_is_sign_row) (defBody s_is_sign_row) (defScope s_is_sign_row) .none kV32 dc32 pm32 an32 cd32 ct32), sl32⟩)
    (c32 : PySem.W.codeIn K cd32 "is_sign_row" = true)
    (k32 : PySem.W.keepIn K (.ref f32) = true)
    (a33 : PySem.W.nsIn K mainGlobals "is_tie" = some (some (.ref f33)))
    (l33 : K.lookup f33 = some ⟨oc33, od33, .func (PySem.W.fnOf "is_tie" "is_tie" (defArgs s_is_tie) (defBody s_is_tie) (defScope s_is_tie) .none kV33 dc33 pm33 an33 cd33 ct33), sl33⟩)
    (c33 : PySem.W.codeIn K cd33 "is_tie" = true)
    (k33 : PySem.W.keepIn K (.ref f33) = true)
    (a34 : PySem.W.nsIn K mainGlobals "are_bounds" = some (some (.ref f34)))
    (l34 : K.lookup f34 = some ⟨oc34, od34, .func (PySem.W.fnOf "are_bounds" "are_bounds" (defArgs s_are_bounds) (defBody s_are_bounds) (defScope s_are_bounds) .none kV34 dc34 pm34 an34 cd34 ct34), sl34⟩)
    (c34 : PySem.W.codeIn K cd34 "are_bounds" = true)
    (k34 : PySem.W.keepIn K (.ref f34) = true)
    (a35 : PySem.W.nsIn K mainGlobals "check_totals" = some (some (.ref f35)))
    (l35 : K.lookup f35 = some ⟨oc35, od35, .func (PySem.W.fnOf "check_totals" "check_totals" (defArgs s_check_totals) (defBody s_check_totals) (defScope s_check_totals) .none kV35 dc35 pm35 an35 cd35 ct35), sl35⟩)
    (c35 : PySem.W.codeIn K cd35 "check_totals" = true)
    (k35 : PySem.W.keepIn K (.ref f35) = true)
    (a36 : PySem.W.nsIn K mainGlobals "lack_of" = some (some (.ref f36)))
    (l36 : K.lookup f36 = some ⟨oc36, od36, .func (PySem.W.fnOf "lack_of" "lack_of" (defArgs s_lack_of) (defBody s_lack_of) (defScope s_lack_of) .none kV36 dc36 pm36 an36 cd36 ct36), sl36⟩)
    (c36 : PySem.W.codeIn K cd36 "lack_of" = true)
    (k36 : PySem.W.keepIn K (.ref f36) = true)
    (a37 : PySem.W.nsIn K mainGlobals "fits" = some (some (.ref f37)))
    (l37 : K.lookup f37 = some ⟨oc37, od37, .func (PySem.W.fnOf "fits" "fits" (defArgs s_fits) (defBody s_fits) (defScope s_fits) .none kV37 dc37 pm37 an37 cd37 ct37), sl37⟩)
    (c37 : PySem.W.codeIn K cd37 "fits" = true)
    (k37 : PySem.W.keepIn K (.ref f37) = true)
    (a38 : PySem.W.nsIn K mainGlobals "_law_amount" = some (some (.ref f38)))
    (l38 : K.lookup f38 = some ⟨oc38, od38, .func (PySem.W.fnOf "_law_amount" "_law_amount" (defArgs s_law_amount) (defBody s_law_amount) (defScope s_law_amount) .none kV38 dc38 pm38 an38 cd38 ct38), sl38⟩)
    (c38 : PySem.W.codeIn K cd38 "_law_amount" = true)
    (k38 : PySem.W.keepIn K (.ref f38) = true)
    (a39 : PySem.W.nsIn K mainGlobals "_law_tie" = some (some (.ref f39)))
    (l39 : K.lookup f39 = some ⟨oc39, od39, .func (PySem.W.fnOf "_law_tie" "_law_tie" (defArgs s_law_tie) (defBody s_law_tie) (defScope s_law_tie) .none kV39 dc39 pm39 an39 cd39 ct39), sl39⟩)
    (c39 : PySem.W.codeIn K cd39 "_law_tie" = true)
    (k39 : PySem.W.keepIn K (.ref f39) = true)
    (a40 : PySem.W.nsIn K mainGlobals "_law_rings" = some (some (.ref f40)))
    (l40 : K.lookup f40 = some ⟨oc40, od40, .func (PySem.W.fnOf "_law_rings" "_law_rings" (defArgs s_law_rings) (defBody s_law_rings) (defScope s_law_rings) .none kV40 dc40 pm40 an40 cd40 ct40), sl40⟩)
    (c40 : PySem.W.codeIn K cd40 "_law_rings" = true)
    (k40 : PySem.W.keepIn K (.ref f40) = true)
    (a41 : PySem.W.nsIn K mainGlobals "_law_short" = some (some (.ref f41)))
    (l41 : K.lookup f41 = some ⟨oc41, od41, .func (PySem.W.fnOf "_law_short" "_law_short" (defArgs s_law_short) (defBody s_law_short) (defScope s_law_short) .none kV41 dc41 pm41 an41 cd41 ct41), sl41⟩)
    (c41 : PySem.W.codeIn K cd41 "_law_short" = true)
    (k41 : PySem.W.keepIn K (.ref f41) = true)
    (a42 : PySem.W.nsIn K mainGlobals "_law_fills" = some (some (.ref f42)))
    (l42 : K.lookup f42 = some ⟨oc42, od42, .func (PySem.W.fnOf "_law_fills" "_law_fills" (defArgs s_law_fills) (defBody s_law_fills) (defScope s_law_fills) .none kV42 dc42 pm42 an42 cd42 ct42), sl42⟩)
    (c42 : PySem.W.codeIn K cd42 "_law_fills" = true)
    (k42 : PySem.W.keepIn K (.ref f42) = true)
    (a43 : PySem.W.nsIn K mainGlobals "_law_scales" = some (some (.ref f43)))
    (l43 : K.lookup f43 = some ⟨oc43, od43, .func (PySem.W.fnOf "_law_scales" "_law_scales" (defArgs s_law_scales) (defBody s_law_scales) (defScope s_law_scales) .none kV43 dc43 pm43 an43 cd43 ct43), sl43⟩)
    (c43 : PySem.W.codeIn K cd43 "_law_scales" = true)
    (k43 : PySem.W.keepIn K (.ref f43) = true)
    (a44 : PySem.W.nsIn K mainGlobals "_law_signs" = some (some (.ref f44)))
    (l44 : K.lookup f44 = some ⟨oc44, od44, .func (PySem.W.fnOf "_law_signs" "_law_signs" (defArgs s_law_signs) (defBody s_law_signs) (defScope s_law_signs) .none kV44 dc44 pm44 an44 cd44 ct44), sl44⟩)
    (c44 : PySem.W.codeIn K cd44 "_law_signs" = true)
    (k44 : PySem.W.keepIn K (.ref f44) = true)
    (a45 : PySem.W.nsIn K mainGlobals "_law_bent" = some (some (.ref f45)))
    (l45 : K.lookup f45 = some ⟨oc45, od45, .func (PySem.W.fnOf "_law_bent" "_law_bent" (defArgs s_law_bent) (defBody s_law_bent) (defScope s_law_bent) .none kV45 dc45 pm45 an45 cd45 ct45), sl45⟩)
    (c45 : PySem.W.codeIn K cd45 "_law_bent" = true)
    (k45 : PySem.W.keepIn K (.ref f45) = true)
    (a46 : PySem.W.nsIn K mainGlobals "_law_cut" = some (some (.ref f46)))
    (l46 : K.lookup f46 = some ⟨oc46, od46, .func (PySem.W.fnOf "_law_cut" "_law_cut" (defArgs s_law_cut) (defBody s_law_cut) (defScope s_law_cut) .none kV46 dc46 pm46 an46 cd46 ct46), sl46⟩)
    (c46 : PySem.W.codeIn K cd46 "_law_cut" = true)
    (k46 : PySem.W.keepIn K (.ref f46) = true)
    (a47 : PySem.W.findIn K (.ref C_Web) "__init__" = some (some (.ref f47)))
    (i47 : PySem.W.isFn K (.ref f47) = true)
    (l47 : K.lookup f47 = some ⟨oc47, od47, .func (PySem.W.fnOf "__init__" "Web.__init__" (defArgs s_Web__init_) (defBody s_Web__init_) (defScope s_Web__init_) .none kV47 dc47 pm47 an47 cd47 ct47), sl47⟩)
    (c47 : PySem.W.codeIn K cd47 "Web.__init__" = true)
    (k47 : PySem.W.keepIn K (.ref f47) = true)
    (a48 : PySem.W.nsIn K mainGlobals "check_bounds" = some (some (.ref f48)))
    (l48 : K.lookup f48 = some ⟨oc48, od48, .func (PySem.W.fnOf "check_bounds" "check_bounds" (defArgs s_check_bounds) (defBody s_check_bounds) (defScope s_check_bounds) .none kV48 dc48 pm48 an48 cd48 ct48), sl48⟩)
    (c48 : PySem.W.codeIn K cd48 "check_bounds" = true)
    (k48 : PySem.W.keepIn K (.ref f48) = true)
    (a49 : PySem.W.nsIn K mainGlobals "do_show" = some (some (.ref f49)))
    (l49 : K.lookup f49 = some ⟨oc49, od49, .func (PySem.W.fnOf "do_show" "do_show" (defArgs s_do_show) (defBody s_do_show) (defScope s_do_show) .none kV49 dc49 pm49 an49 cd49 ct49), sl49⟩)
    (c49 : PySem.W.codeIn K cd49 "do_show" = true)
    (k49 : PySem.W.keepIn K (.ref f49) = true)
    (a50 : PySem.W.nsIn K mainGlobals "filling_holds" = some (some (.ref f50)))
    (l50 : K.lookup f50 = some ⟨oc50, od50, .func (PySem.W.fnOf "filling_holds" "filling_holds" (defArgs s_filling_holds) (defBody s_filling_holds) (defScope s_filling_holds) .none kV50 dc50 pm50 an50 cd50 ct50), sl50⟩)
    (c50 : PySem.W.codeIn K cd50 "filling_holds" = true)
    (k50 : PySem.W.keepIn K (.ref f50) = true)
    (a51 : PySem.W.nsIn K mainGlobals "_law_web" = some (some (.ref f51)))
    (l51 : K.lookup f51 = some ⟨oc51, od51, .func (PySem.W.fnOf "_law_web" "_law_web" (defArgs s_law_web) (defBody s_law_web) (defScope s_law_web) .none kV51 dc51 pm51 an51 cd51 ct51), sl51⟩)
    (c51 : PySem.W.codeIn K cd51 "_law_web" = true)
    (k51 : PySem.W.keepIn K (.ref f51) = true)
    (a52 : PySem.W.nsIn K mainGlobals "_law_full" = some (some (.ref f52)))
    (l52 : K.lookup f52 = some ⟨oc52, od52, .func (PySem.W.fnOf "_law_full" "_law_full" (defArgs s_law_full) (defBody s_law_full) (defScope s_law_full) .none kV52 dc52 pm52 an52 cd52 ct52), sl52⟩)
    (c52 : PySem.W.codeIn K cd52 "_law_full" = true)
    (k52 : PySem.W.keepIn K (.ref f52) = true)
    (a53 : PySem.W.findIn K (.ref C_Box) "__init__" = some (some (.ref f53)))
    (i53 : PySem.W.isFn K (.ref f53) = true)
    (l53 : K.lookup f53 = some ⟨oc53, od53, .func (PySem.W.fnOf "__init__" "Box.__init__" (defArgs s_Box__init_) (defBody s_Box__init_) (defScope s_Box__init_) .none kV53 dc53 pm53 an53 cd53 ct53), sl53⟩)
    (c53 : PySem.W.codeIn K cd53 "Box.__init__" = true)
    (k53 : PySem.W.keepIn K (.ref f53) = true)
    (a54 : PySem.W.nsIn K mainGlobals "signs_show" = some (some (.ref f54)))
    (l54 : K.lookup f54 = some ⟨oc54, od54, .func (PySem.W.fnOf "signs_show" "signs_show" (defArgs s_signs_show) (defBody s_signs_show) (defScope s_signs_show) .none kV54 dc54 pm54 an54 cd54 ct54), sl54⟩)
    (c54 : PySem.W.codeIn K cd54 "signs_show" = true)
    (k54 : PySem.W.keepIn K (.ref f54) = true)
    (a55 : PySem.W.nsIn K mainGlobals "fill_holds" = some (some (.ref f55)))
    (l55 : K.lookup f55 = some ⟨oc55, od55, .func (PySem.W.fnOf "fill_holds" "fill_holds" (defArgs s_fill_holds) (defBody s_fill_holds) (defScope s_fill_holds) .none kV55 dc55 pm55 an55 cd55 ct55), sl55⟩)
    (c55 : PySem.W.codeIn K cd55 "fill_holds" = true)
    (k55 : PySem.W.keepIn K (.ref f55) = true)
    (a56 : PySem.W.nsIn K mainGlobals "_law_asked" = some (some (.ref f56)))
    (l56 : K.lookup f56 = some ⟨oc56, od56, .func (PySem.W.fnOf "_law_asked" "_law_asked" (defArgs s_law_asked) (defBody s_law_asked) (defScope s_law_asked) .none kV56 dc56 pm56 an56 cd56 ct56), sl56⟩)
    (c56 : PySem.W.codeIn K cd56 "_law_asked" = true)
    (k56 : PySem.W.keepIn K (.ref f56) = true)
    (a57 : PySem.W.nsIn K mainGlobals "law" = some (some (.ref f57)))
    (l57 : K.lookup f57 = some ⟨oc57, od57, .func (PySem.W.fnOf "law" "law" (defArgs s_law) (defBody s_law) (defScope s_law) .none kV57 dc57 pm57 an57 cd57 ct57), sl57⟩)
    (c57 : PySem.W.codeIn K cd57 "law" = true)
    (k57 : PySem.W.keepIn K (.ref f57) = true)
    (z0 : PySem.W.nsIn K mainGlobals "MOST_POINTS" = some (some (.int (1000) tc0)))
    (z1 : PySem.W.nsIn K mainGlobals "MOST_TIES" = some (some (.int (3000) tc1)))
    (n_abs : PySem.W.nsIn K mainGlobals "abs" = some none)
    (n_all : PySem.W.nsIn K mainGlobals "all" = some none)
    (n_any : PySem.W.nsIn K mainGlobals "any" = some none)
    (n_bool : PySem.W.nsIn K mainGlobals "bool" = some none)
    (n_enumerate : PySem.W.nsIn K mainGlobals "enumerate" = some none)
    (n_int : PySem.W.nsIn K mainGlobals "int" = some none)
    (n_isinstance : PySem.W.nsIn K mainGlobals "isinstance" = some none)
    (n_len : PySem.W.nsIn K mainGlobals "len" = some none)
    (n_list : PySem.W.nsIn K mainGlobals "list" = some none)
    (n_max : PySem.W.nsIn K mainGlobals "max" = some none)
    (n_min : PySem.W.nsIn K mainGlobals "min" = some none)
    (n_range : PySem.W.nsIn K mainGlobals "range" = some none)
    (n_str : PySem.W.nsIn K mainGlobals "str" = some none)
    (n_sum : PySem.W.nsIn K mainGlobals "sum" = some none)
    (n_tuple : PySem.W.nsIn K mainGlobals "tuple" = some none)
    (n_zip : PySem.W.nsIn K mainGlobals "zip" = some none)
    (aE0 : PySem.W.nsIn K mainGlobals "InvalidBounds" = some (some (.ref E_InvalidBounds)))
    (xE0 : K.lookup E_InvalidBounds = some (excClassObj nm0 qE0 E_InvalidBounds NE0 bs0 [.ref PE0, .type "Exception", .type "BaseException", .type "object"] true sn0 sub0 ab0 col0 dd0 m0_0 m1_0 m2_0 m3_0 m5_0 "Exception.__new__"))
    (sE0 : PySem.W.findIn K (.ref E_InvalidBounds) "__setattr__" = some (some (.builtin "object.__setattr__")))
    (gE0 : PySem.W.findIn K (.ref E_InvalidBounds) "__getattribute__" = some (some (.builtin "BaseException.__getattribute__")))
    (tE0 : PySem.W.findIn K (.ref E_InvalidBounds) "__getattr__" = some none)
    (nE0 : PySem.W.findIn K (.ref E_InvalidBounds) "at" = some none)
    (iE0 : PySem.W.findIn K (.ref E_InvalidBounds) "__init__" = some (some (.ref g0)))
    (fE0 : PySem.W.typeIn K (.ref g0) = some (.type "function"))
    (kE0 : PySem.W.keepIn K (.ref E_InvalidBounds) = true)
    (bE0 : PySem.W.subIn K (.ref E_InvalidBounds) (.type "BaseException") = some true)
    (yE0 : PySem.W.typeIn K (.ref E_InvalidBounds) = some (.type "type"))
    (hE0 : PySem.W.hasDictIn K E_InvalidBounds = true)
    (cE0 : PySem.W.isClsIn K E_InvalidBounds = true)
    (lE0 : K.lookup g0 = some ⟨ocE0, odE0, .func (PySem.W.fnOf "__init__" "InvalidBounds.__init__" (PL.Errat.iA pE0 pF0) (PL.Errat.iB qA0 qB0 qC0 qD0) PL.Errat.iS .none .none dE0 pmE0 anE0 cdE0 ctE0), slE0⟩)
    (dE0_c : PySem.W.codeIn K cdE0 "InvalidBounds.__init__" = true)
    (aE1 : PySem.W.nsIn K mainGlobals "InvalidBox" = some (some (.ref E_InvalidBox)))
    (xE1 : K.lookup E_InvalidBox = some (excClassObj nm1 qE1 E_InvalidBox NE1 bs1 [.ref PE1, .type "Exception", .type "BaseException", .type "object"] true sn1 sub1 ab1 col1 dd1 m0_1 m1_1 m2_1 m3_1 m5_1 "Exception.__new__"))
    (sE1 : PySem.W.findIn K (.ref E_InvalidBox) "__setattr__" = some (some (.builtin "object.__setattr__")))
    (gE1 : PySem.W.findIn K (.ref E_InvalidBox) "__getattribute__" = some (some (.builtin "BaseException.__getattribute__")))
    (tE1 : PySem.W.findIn K (.ref E_InvalidBox) "__getattr__" = some none)
    (nE1 : PySem.W.findIn K (.ref E_InvalidBox) "at" = some none)
    (iE1 : PySem.W.findIn K (.ref E_InvalidBox) "__init__" = some (some (.ref g1)))
    (fE1 : PySem.W.typeIn K (.ref g1) = some (.type "function"))
    (kE1 : PySem.W.keepIn K (.ref E_InvalidBox) = true)
    (bE1 : PySem.W.subIn K (.ref E_InvalidBox) (.type "BaseException") = some true)
    (yE1 : PySem.W.typeIn K (.ref E_InvalidBox) = some (.type "type"))
    (hE1 : PySem.W.hasDictIn K E_InvalidBox = true)
    (cE1 : PySem.W.isClsIn K E_InvalidBox = true)
    (lE1 : K.lookup g1 = some ⟨ocE1, odE1, .func (PySem.W.fnOf "__init__" "InvalidBox.__init__" (PL.Errat.iA pE1 pF1) (PL.Errat.iB qA1 qB1 qC1 qD1) PL.Errat.iS .none .none dE1 pmE1 anE1 cdE1 ctE1), slE1⟩)
    (dE1_c : PySem.W.codeIn K cdE1 "InvalidBox.__init__" = true)
    (aE2 : PySem.W.nsIn K mainGlobals "InvalidSize" = some (some (.ref E_InvalidSize)))
    (xE2 : K.lookup E_InvalidSize = some (excClassObj nm2 qE2 E_InvalidSize NE2 bs2 [.ref PE2, .type "Exception", .type "BaseException", .type "object"] true sn2 sub2 ab2 col2 dd2 m0_2 m1_2 m2_2 m3_2 m5_2 "Exception.__new__"))
    (sE2 : PySem.W.findIn K (.ref E_InvalidSize) "__setattr__" = some (some (.builtin "object.__setattr__")))
    (gE2 : PySem.W.findIn K (.ref E_InvalidSize) "__getattribute__" = some (some (.builtin "BaseException.__getattribute__")))
    (tE2 : PySem.W.findIn K (.ref E_InvalidSize) "__getattr__" = some none)
    (nE2 : PySem.W.findIn K (.ref E_InvalidSize) "word" = some none)
    (iE2 : PySem.W.findIn K (.ref E_InvalidSize) "__init__" = some (some (.ref g2)))
    (fE2 : PySem.W.typeIn K (.ref g2) = some (.type "function"))
    (kE2 : PySem.W.keepIn K (.ref E_InvalidSize) = true)
    (bE2 : PySem.W.subIn K (.ref E_InvalidSize) (.type "BaseException") = some true)
    (yE2 : PySem.W.typeIn K (.ref E_InvalidSize) = some (.type "type"))
    (hE2 : PySem.W.hasDictIn K E_InvalidSize = true)
    (cE2 : PySem.W.isClsIn K E_InvalidSize = true)
    (lE2 : K.lookup g2 = some ⟨ocE2, odE2, .func (PySem.W.fnOf "__init__" "InvalidSize.__init__" (PL.Errword.iA pE2 pF2) (PL.Errword.iB qA2 qB2 qC2 qD2) PL.Errword.iS .none .none dE2 pmE2 anE2 cdE2 ctE2), slE2⟩)
    (dE2_c : PySem.W.codeIn K cdE2 "InvalidSize.__init__" = true)
    (aE3 : PySem.W.nsIn K mainGlobals "InvalidTies" = some (some (.ref E_InvalidTies)))
    (xE3 : K.lookup E_InvalidTies = some (excClassObj nm3 qE3 E_InvalidTies NE3 bs3 [.ref PE3, .type "Exception", .type "BaseException", .type "object"] true sn3 sub3 ab3 col3 dd3 m0_3 m1_3 m2_3 m3_3 m5_3 "Exception.__new__"))
    (sE3 : PySem.W.findIn K (.ref E_InvalidTies) "__setattr__" = some (some (.builtin "object.__setattr__")))
    (gE3 : PySem.W.findIn K (.ref E_InvalidTies) "__getattribute__" = some (some (.builtin "BaseException.__getattribute__")))
    (tE3 : PySem.W.findIn K (.ref E_InvalidTies) "__getattr__" = some none)
    (nE3 : PySem.W.findIn K (.ref E_InvalidTies) "at" = some none)
    (iE3 : PySem.W.findIn K (.ref E_InvalidTies) "__init__" = some (some (.ref g3)))
    (fE3 : PySem.W.typeIn K (.ref g3) = some (.type "function"))
    (kE3 : PySem.W.keepIn K (.ref E_InvalidTies) = true)
    (bE3 : PySem.W.subIn K (.ref E_InvalidTies) (.type "BaseException") = some true)
    (yE3 : PySem.W.typeIn K (.ref E_InvalidTies) = some (.type "type"))
    (hE3 : PySem.W.hasDictIn K E_InvalidTies = true)
    (cE3 : PySem.W.isClsIn K E_InvalidTies = true)
    (lE3 : K.lookup g3 = some ⟨ocE3, odE3, .func (PySem.W.fnOf "__init__" "InvalidTies.__init__" (PL.Errat.iA pE3 pF3) (PL.Errat.iB qA3 qB3 qC3 qD3) PL.Errat.iS .none .none dE3 pmE3 anE3 cdE3 ctE3), slE3⟩)
    (dE3_c : PySem.W.codeIn K cdE3 "InvalidTies.__init__" = true)
    (aE4 : PySem.W.nsIn K mainGlobals "InvalidTotals" = some (some (.ref E_InvalidTotals)))
    (xE4 : K.lookup E_InvalidTotals = some (excClassObj nm4 qE4 E_InvalidTotals NE4 bs4 [.ref PE4, .type "Exception", .type "BaseException", .type "object"] true sn4 sub4 ab4 col4 dd4 m0_4 m1_4 m2_4 m3_4 m5_4 "Exception.__new__"))
    (sE4 : PySem.W.findIn K (.ref E_InvalidTotals) "__setattr__" = some (some (.builtin "object.__setattr__")))
    (gE4 : PySem.W.findIn K (.ref E_InvalidTotals) "__getattribute__" = some (some (.builtin "BaseException.__getattribute__")))
    (tE4 : PySem.W.findIn K (.ref E_InvalidTotals) "__getattr__" = some none)
    (nE4 : PySem.W.findIn K (.ref E_InvalidTotals) "at" = some none)
    (iE4 : PySem.W.findIn K (.ref E_InvalidTotals) "__init__" = some (some (.ref g4)))
    (fE4 : PySem.W.typeIn K (.ref g4) = some (.type "function"))
    (kE4 : PySem.W.keepIn K (.ref E_InvalidTotals) = true)
    (bE4 : PySem.W.subIn K (.ref E_InvalidTotals) (.type "BaseException") = some true)
    (yE4 : PySem.W.typeIn K (.ref E_InvalidTotals) = some (.type "type"))
    (hE4 : PySem.W.hasDictIn K E_InvalidTotals = true)
    (cE4 : PySem.W.isClsIn K E_InvalidTotals = true)
    (lE4 : K.lookup g4 = some ⟨ocE4, odE4, .func (PySem.W.fnOf "__init__" "InvalidTotals.__init__" (PL.Errat.iA pE4 pF4) (PL.Errat.iB qA4 qB4 qC4 qD4) PL.Errat.iS .none .none dE4 pmE4 anE4 cdE4 ctE4), slE4⟩)
    (dE4_c : PySem.W.codeIn K cdE4 "InvalidTotals.__init__" = true)
    (aE5 : PySem.W.nsIn K mainGlobals "InvalidWeb" = some (some (.ref E_InvalidWeb)))
    (xE5 : K.lookup E_InvalidWeb = some (excClassObj nm5 qE5 E_InvalidWeb NE5 bs5 [.ref PE5, .type "Exception", .type "BaseException", .type "object"] true sn5 sub5 ab5 col5 dd5 m0_5 m1_5 m2_5 m3_5 m5_5 "Exception.__new__"))
    (sE5 : PySem.W.findIn K (.ref E_InvalidWeb) "__setattr__" = some (some (.builtin "object.__setattr__")))
    (gE5 : PySem.W.findIn K (.ref E_InvalidWeb) "__getattribute__" = some (some (.builtin "BaseException.__getattribute__")))
    (tE5 : PySem.W.findIn K (.ref E_InvalidWeb) "__getattr__" = some none)
    (nE5 : PySem.W.findIn K (.ref E_InvalidWeb) "at" = some none)
    (iE5 : PySem.W.findIn K (.ref E_InvalidWeb) "__init__" = some (some (.ref g5)))
    (fE5 : PySem.W.typeIn K (.ref g5) = some (.type "function"))
    (kE5 : PySem.W.keepIn K (.ref E_InvalidWeb) = true)
    (bE5 : PySem.W.subIn K (.ref E_InvalidWeb) (.type "BaseException") = some true)
    (yE5 : PySem.W.typeIn K (.ref E_InvalidWeb) = some (.type "type"))
    (hE5 : PySem.W.hasDictIn K E_InvalidWeb = true)
    (cE5 : PySem.W.isClsIn K E_InvalidWeb = true)
    (lE5 : K.lookup g5 = some ⟨ocE5, odE5, .func (PySem.W.fnOf "__init__" "InvalidWeb.__init__" (PL.Errat.iA pE5 pF5) (PL.Errat.iB qA5 qB5 qC5 qD5) PL.Errat.iS .none .none dE5 pmE5 anE5 cdE5 ctE5), slE5⟩)
    (dE5_c : PySem.W.codeIn K cdE5 "InvalidWeb.__init__" = true)
    (mk0 : PySem.W.makesIn K C_Web = true)
    (kc0 : PySem.W.keepIn K (.ref C_Web) = true)
    (pg0 : PySem.W.plainGet K C_Web Str.empty = true)
    (hd0 : PySem.W.hasDictIn K C_Web = true)
    (po0 : PySem.W.plainOver K C_Web = true)
    (sa0 : PySem.W.findIn K (.ref C_Web) "__setattr__" = some (some (.builtin "object.__setattr__")))
    (no0_points : PySem.W.findIn K (.ref C_Web) "points" = some none)
    (no0_ties : PySem.W.findIn K (.ref C_Web) "ties" = some none)
    (hc0 : PySem.W.findIn K (.ref C_Web) "__class__" = some (some (.builtin "object.__class__")))
    (mo0 : PySem.W.mroIn K C_Web (.type "object") = some true)
    (ic0 : PySem.W.isClsIn K C_Web = true)
    (ty0 : PySem.W.typeIn K (.ref C_Web) = some (.type "type"))
    (ne0 : PySem.W.findIn K (.ref C_Web) "__ne__" = some (some (.builtin "object.__ne__")))
    (nf0_0 : PySem.W.notFirst K C_Web (.ref C_Web) = true)
    (sc0_1 : PySem.W.subIn K (.ref C_Web) (.ref C_Box) = some false)
    (d0_1 : (Value.ref C_Web == Value.ref C_Box) = false)
    (nf0_1 : PySem.W.notFirst K C_Web (.ref C_Box) = true)
    (st0_NoneType : PySem.W.subIn K (.type "NoneType") (.ref C_Web) = some false)
    (nt0_NoneType : PySem.W.notFirst K C_Web (.type "NoneType") = true)
    (st0_bool : PySem.W.subIn K (.type "bool") (.ref C_Web) = some false)
    (nt0_bool : PySem.W.notFirst K C_Web (.type "bool") = true)
    (st0_int : PySem.W.subIn K (.type "int") (.ref C_Web) = some false)
    (nt0_int : PySem.W.notFirst K C_Web (.type "int") = true)
    (st0_str : PySem.W.subIn K (.type "str") (.ref C_Web) = some false)
    (nt0_str : PySem.W.notFirst K C_Web (.type "str") = true)
    (st0_tuple : PySem.W.subIn K (.type "tuple") (.ref C_Web) = some false)
    (nt0_tuple : PySem.W.notFirst K C_Web (.type "tuple") = true)
    (st0_list : PySem.W.subIn K (.type "list") (.ref C_Web) = some false)
    (nt0_list : PySem.W.notFirst K C_Web (.type "list") = true)
    (sl0_list : PySem.W.subIn K (.ref C_Web) (.type "list") = some false)
    (sl0_tuple : PySem.W.subIn K (.ref C_Web) (.type "tuple") = some false)
    (sl0_int : PySem.W.subIn K (.ref C_Web) (.type "int") = some false)
    (sl0_bool : PySem.W.subIn K (.ref C_Web) (.type "bool") = some false)
    (sl0_str : PySem.W.subIn K (.ref C_Web) (.type "str") = some false)
    (mk1 : PySem.W.makesIn K C_Box = true)
    (kc1 : PySem.W.keepIn K (.ref C_Box) = true)
    (pg1 : PySem.W.plainGet K C_Box Str.empty = true)
    (hd1 : PySem.W.hasDictIn K C_Box = true)
    (po1 : PySem.W.plainOver K C_Box = true)
    (sa1 : PySem.W.findIn K (.ref C_Box) "__setattr__" = some (some (.builtin "object.__setattr__")))
    (no1_bounds : PySem.W.findIn K (.ref C_Box) "bounds" = some none)
    (no1_totals : PySem.W.findIn K (.ref C_Box) "totals" = some none)
    (hc1 : PySem.W.findIn K (.ref C_Box) "__class__" = some (some (.builtin "object.__class__")))
    (mo1 : PySem.W.mroIn K C_Box (.type "object") = some true)
    (ic1 : PySem.W.isClsIn K C_Box = true)
    (ty1 : PySem.W.typeIn K (.ref C_Box) = some (.type "type"))
    (ne1 : PySem.W.findIn K (.ref C_Box) "__ne__" = some (some (.builtin "object.__ne__")))
    (sc1_0 : PySem.W.subIn K (.ref C_Box) (.ref C_Web) = some false)
    (d1_0 : (Value.ref C_Box == Value.ref C_Web) = false)
    (nf1_0 : PySem.W.notFirst K C_Box (.ref C_Web) = true)
    (nf1_1 : PySem.W.notFirst K C_Box (.ref C_Box) = true)
    (st1_NoneType : PySem.W.subIn K (.type "NoneType") (.ref C_Box) = some false)
    (nt1_NoneType : PySem.W.notFirst K C_Box (.type "NoneType") = true)
    (st1_bool : PySem.W.subIn K (.type "bool") (.ref C_Box) = some false)
    (nt1_bool : PySem.W.notFirst K C_Box (.type "bool") = true)
    (st1_int : PySem.W.subIn K (.type "int") (.ref C_Box) = some false)
    (nt1_int : PySem.W.notFirst K C_Box (.type "int") = true)
    (st1_str : PySem.W.subIn K (.type "str") (.ref C_Box) = some false)
    (nt1_str : PySem.W.notFirst K C_Box (.type "str") = true)
    (st1_tuple : PySem.W.subIn K (.type "tuple") (.ref C_Box) = some false)
    (nt1_tuple : PySem.W.notFirst K C_Box (.type "tuple") = true)
    (st1_list : PySem.W.subIn K (.type "list") (.ref C_Box) = some false)
    (nt1_list : PySem.W.notFirst K C_Box (.type "list") = true)
    (sl1_list : PySem.W.subIn K (.ref C_Box) (.type "list") = some false)
    (sl1_tuple : PySem.W.subIn K (.ref C_Box) (.type "tuple") = some false)
    (sl1_int : PySem.W.subIn K (.ref C_Box) (.type "int") = some false)
    (sl1_bool : PySem.W.subIn K (.ref C_Box) (.type "bool") = some false)
    (sl1_str : PySem.W.subIn K (.ref C_Box) (.type "str") = some false)
    (sp : PySem.W.specialIn K (.builtin "object.__class__") "__get__" = some (some (.builtin "getset_descriptor.__get__")))
    (tk : PySem.W.takesIn K (.builtin "object.__class__") = some true) :
    ∃ fd : FuncData, (∀ (s : Shared) (v : Value), BindsTo s fd ⟨[v], []⟩ [("script", v)]) ∧ ∀ base : Heap, K.In base → base.Ns mainGlobals mg → FnOk l.prog w K mg base (L2N.CX l.prog w) 8 fa fd ["script"] (spLaw K) := by
  have e := hfa.symm.trans (PySem.W.mg_of X G a57)
  cases e
  let π0 : Pr := { K := K, w := w, fld := fun C f => (C = C_Web ∧ f = "points") ∨ (C = C_Web ∧ f = "ties") ∨ (C = C_Box ∧ f = "bounds") ∨ (C = C_Box ∧ f = "totals"), eqf := fun _ _ => False, a_Box := C_Box, a_InvalidBounds := E_InvalidBounds, a_InvalidBox := E_InvalidBox, a_InvalidSize := E_InvalidSize, a_InvalidTies := E_InvalidTies, a_InvalidTotals := E_InvalidTotals, a_InvalidWeb := E_InvalidWeb, a_Web := C_Web }
  let π : Pr := { K := K, w := w, fld := fun C f => (C = C_Web ∧ f = "points") ∨ (C = C_Web ∧ f = "ties") ∨ (C = C_Box ∧ f = "bounds") ∨ (C = C_Box ∧ f = "totals"), eqf := fun C S => (C = C_Web ∧ S = S_Web__eq_ π0) ∨ (C = C_Box ∧ S = S_Box__eq_ π0), a_Box := C_Box, a_InvalidBounds := E_InvalidBounds, a_InvalidBox := E_InvalidBox, a_InvalidSize := E_InvalidSize, a_InvalidTies := E_InvalidTies, a_InvalidTotals := E_InvalidTotals, a_InvalidWeb := E_InvalidWeb, a_Web := C_Web }
  have cls0 : Cls K C_Web := ⟨pg0, hd0, po0, sa0⟩
  have ins0 : InsC K C_Web := ⟨cls0, hc0, sp, tk, mo0⟩
  have cls1 : Cls K C_Box := ⟨pg1, hd1, po1, sa1⟩
  have ins1 : InsC K C_Box := ⟨cls1, hc1, sp, tk, mo1⟩
  have er0 : ErrMk K mg "InvalidBounds" "at" E_InvalidBounds := PL.Errat.mk (fI := g0) { gC := PySem.W.mg_of X G aE0, cls := ⟨_, _, _, _, _, _, _, _, _, _, _, _, _, _, _, xE0, .own _ .tail⟩, sa := sE0, ga := gE0, gg := tE0, noN := nE0, iC := iE0, tC := fE0, kC := kE0, exC := bE0, tyC := yE0, hdC := hE0, fn := ⟨_, _, _, _, _, _, _, _, _, _, _, _, _, _, _, lE0, dE0_c⟩ }
  have er1 : ErrMk K mg "InvalidBox" "at" E_InvalidBox := PL.Errat.mk (fI := g1) { gC := PySem.W.mg_of X G aE1, cls := ⟨_, _, _, _, _, _, _, _, _, _, _, _, _, _, _, xE1, .own _ .tail⟩, sa := sE1, ga := gE1, gg := tE1, noN := nE1, iC := iE1, tC := fE1, kC := kE1, exC := bE1, tyC := yE1, hdC := hE1, fn := ⟨_, _, _, _, _, _, _, _, _, _, _, _, _, _, _, lE1, dE1_c⟩ }
  have er2 : ErrMk K mg "InvalidSize" "word" E_InvalidSize := PL.Errword.mk (fI := g2) { gC := PySem.W.mg_of X G aE2, cls := ⟨_, _, _, _, _, _, _, _, _, _, _, _, _, _, _, xE2, .own _ .tail⟩, sa := sE2, ga := gE2, gg := tE2, noN := nE2, iC := iE2, tC := fE2, kC := kE2, exC := bE2, tyC := yE2, hdC := hE2, fn := ⟨_, _, _, _, _, _, _, _, _, _, _, _, _, _, _, lE2, dE2_c⟩ }
  have er3 : ErrMk K mg "InvalidTies" "at" E_InvalidTies := PL.Errat.mk (fI := g3) { gC := PySem.W.mg_of X G aE3, cls := ⟨_, _, _, _, _, _, _, _, _, _, _, _, _, _, _, xE3, .own _ .tail⟩, sa := sE3, ga := gE3, gg := tE3, noN := nE3, iC := iE3, tC := fE3, kC := kE3, exC := bE3, tyC := yE3, hdC := hE3, fn := ⟨_, _, _, _, _, _, _, _, _, _, _, _, _, _, _, lE3, dE3_c⟩ }
  have er4 : ErrMk K mg "InvalidTotals" "at" E_InvalidTotals := PL.Errat.mk (fI := g4) { gC := PySem.W.mg_of X G aE4, cls := ⟨_, _, _, _, _, _, _, _, _, _, _, _, _, _, _, xE4, .own _ .tail⟩, sa := sE4, ga := gE4, gg := tE4, noN := nE4, iC := iE4, tC := fE4, kC := kE4, exC := bE4, tyC := yE4, hdC := hE4, fn := ⟨_, _, _, _, _, _, _, _, _, _, _, _, _, _, _, lE4, dE4_c⟩ }
  have er5 : ErrMk K mg "InvalidWeb" "at" E_InvalidWeb := PL.Errat.mk (fI := g5) { gC := PySem.W.mg_of X G aE5, cls := ⟨_, _, _, _, _, _, _, _, _, _, _, _, _, _, _, xE5, .own _ .tail⟩, sa := sE5, ga := gE5, gg := tE5, noN := nE5, iC := iE5, tC := fE5, kC := kE5, exC := bE5, tyC := yE5, hdC := hE5, fn := ⟨_, _, _, _, _, _, _, _, _, _, _, _, _, _, _, lE5, dE5_c⟩ }
  have B : Base π mg := {
    fl := by
      intro C f hf
      rcases hf with ⟨rfl, rfl⟩ | ⟨rfl, rfl⟩ | ⟨rfl, rfl⟩ | ⟨rfl, rfl⟩
      · exact ⟨cls0, no0_points⟩
      · exact ⟨cls0, no0_ties⟩
      · exact ⟨cls1, no1_bounds⟩
      · exact ⟨cls1, no1_totals⟩
    n_abs := PySem.W.mg_none_of X G n_abs
    n_all := PySem.W.mg_none_of X G n_all
    n_any := PySem.W.mg_none_of X G n_any
    n_bool := PySem.W.mg_none_of X G n_bool
    n_enumerate := PySem.W.mg_none_of X G n_enumerate
    n_int := PySem.W.mg_none_of X G n_int
    n_isinstance := PySem.W.mg_none_of X G n_isinstance
    n_len := PySem.W.mg_none_of X G n_len
    n_list := PySem.W.mg_none_of X G n_list
    n_max := PySem.W.mg_none_of X G n_max
    n_min := PySem.W.mg_none_of X G n_min
    n_range := PySem.W.mg_none_of X G n_range
    n_str := PySem.W.mg_none_of X G n_str
    n_sum := PySem.W.mg_none_of X G n_sum
    n_tuple := PySem.W.mg_none_of X G n_tuple
    n_zip := PySem.W.mg_none_of X G n_zip
    c_MOST_POINTS := ⟨_, PySem.W.mg_of X G z0⟩
    c_MOST_TIES := ⟨_, PySem.W.mg_of X G z1⟩
    g_Box := PySem.W.mg_of X G aC1
    g_InvalidBounds := PySem.W.mg_of X G aE0
    g_InvalidBox := PySem.W.mg_of X G aE1
    g_InvalidSize := PySem.W.mg_of X G aE2
    g_InvalidTies := PySem.W.mg_of X G aE3
    g_InvalidTotals := PySem.W.mg_of X G aE4
    g_InvalidWeb := PySem.W.mg_of X G aE5
    g_Web := PySem.W.mg_of X G aC0
    e_InvalidBounds := er0
    e_InvalidBox := er1
    e_InvalidSize := er2
    e_InvalidTies := er3
    e_InvalidTotals := er4
    e_InvalidWeb := er5
  }
  have F0 := fn_mk (st := s_is_integer) l0 c0 k0
  have b0 := (fun_mk (st := s_is_integer) l0 c0 k0).binds (ps := ["value"]) fun _ _ _ _ _ _ us hl => match us, hl with | [_], _ => rfl
  have F1 := fn_mk (st := s_is_sequence) l1 c1 k1
  have b1 := (fun_mk (st := s_is_sequence) l1 c1 k1).binds (ps := ["value"]) fun _ _ _ _ _ _ us hl => match us, hl with | [_], _ => rfl
  have F2 := fn_mk (st := s_is_tuple) l2 c2 k2
  have b2 := (fun_mk (st := s_is_tuple) l2 c2 k2).binds (ps := ["value", "many"]) fun _ _ _ _ _ _ us hl => match us, hl with | [_, _], _ => rfl
  have F3 := fn_mk (st := s_is_double) l3 c3 k3
  have b3 := (fun_mk (st := s_is_double) l3 c3 k3).binds (ps := ["tie"]) fun _ _ _ _ _ _ us hl => match us, hl with | [_], _ => rfl
  have F4 := fn_mk (st := s_tie_ends) l4 c4 k4
  have b4 := (fun_mk (st := s_tie_ends) l4 c4 k4).binds (ps := ["tie"]) fun _ _ _ _ _ _ us hl => match us, hl with | [_], _ => rfl
  have F5 := fn_mk (st := s_Web__eq_) l5 c5 k5
  have b5 := (fun_mk (st := s_Web__eq_) l5 c5 k5).binds (ps := ["self", "other"]) fun _ _ _ _ _ _ us hl => match us, hl with | [_, _], _ => rfl
  have F6 := fn_mk (st := s_check_web) l6 c6 k6
  obtain ⟨ds6, dv6, b6⟩ := (fnD_mk (st := s_check_web) (dvs := [V.int (-1)]) l6 c6 k6 lT6 (.cons ⟨_, rfl⟩ (.nil)) (by simp)).binds1 (ps := ["web", "at"]) 1 0 (by simp) rfl (fun T kV doc pm an cdv ct us its h1 h2 => match us, its, h1, h2 with | [_], [_], _, _ => ⟨_, rfl, rfl⟩)
  have F7 := fn_mk (st := s_Box__eq_) l7 c7 k7
  have b7 := (fun_mk (st := s_Box__eq_) l7 c7 k7).binds (ps := ["self", "other"]) fun _ _ _ _ _ _ us hl => match us, hl with | [_, _], _ => rfl
  have F8 := fn_mk (st := s_check_box) l8 c8 k8
  have b8 := (fun_mk (st := s_check_box) l8 c8 k8).binds (ps := ["web", "box"]) fun _ _ _ _ _ _ us hl => match us, hl with | [_, _], _ => rfl
  have F9 := fn_mk (st := s_law_box) l9 c9 k9
  have b9 := (fun_mk (st := s_law_box) l9 c9 k9).binds (ps := ["script"]) fun _ _ _ _ _ _ us hl => match us, hl with | [_], _ => rfl
  have F10 := fn_mk (st := s_law_take) l10 c10 k10
  have b10 := (fun_mk (st := s_law_take) l10 c10 k10).binds (ps := ["box", "many"]) fun _ _ _ _ _ _ us hl => match us, hl with | [_, _], _ => rfl
  have F11 := fn_mk (st := s_law_norm) l11 c11 k11
  have b11 := (fun_mk (st := s_law_norm) l11 c11 k11).binds (ps := ["tie"]) fun _ _ _ _ _ _ us hl => match us, hl with | [_], _ => rfl
  have F12 := fn_mk (st := s_law_ends) l12 c12 k12
  have b12 := (fun_mk (st := s_law_ends) l12 c12 k12).binds (ps := ["tie"]) fun _ _ _ _ _ _ us hl => match us, hl with | [_], _ => rfl
  have F13 := fn_mk (st := s_law_are_ints) l13 c13 k13
  have b13 := (fun_mk (st := s_law_are_ints) l13 c13 k13).binds (ps := ["value", "many"]) fun _ _ _ _ _ _ us hl => match us, hl with | [_, _], _ => rfl
  have F14 := fn_mk (st := s_law_with) l14 c14 k14
  have b14 := (fun_mk (st := s_law_with) l14 c14 k14).binds (ps := ["row", "at", "value"]) fun _ _ _ _ _ _ us hl => match us, hl with | [_, _, _], _ => rfl
  have F15 := fn_mk (st := s_is_below) l15 c15 k15
  have b15 := (fun_mk (st := s_is_below) l15 c15 k15).binds (ps := ["value", "many"]) fun _ _ _ _ _ _ us hl => match us, hl with | [_, _], _ => rfl
  have F16 := fn_mk (st := s_is_sign) l16 c16 k16
  have b16 := (fun_mk (st := s_is_sign) l16 c16 k16).binds (ps := ["value"]) fun _ _ _ _ _ _ us hl => match us, hl with | [_], _ => rfl
  have F17 := fn_mk (st := s_is_sized) l17 c17 k17
  have b17 := (fun_mk (st := s_is_sized) l17 c17 k17).binds (ps := ["value", "many"]) fun _ _ _ _ _ _ us hl => match us, hl with | [_, _], _ => rfl
  have F18 := fn_mk (st := s_is_paper) l18 c18 k18
  have b18 := (fun_mk (st := s_is_paper) l18 c18 k18).binds (ps := ["value", "word", "many"]) fun _ _ _ _ _ _ us hl => match us, hl with | [_, _, _], _ => rfl
  have F19 := fn_mk (st := s_signs_fault) l19 c19 k19
  have b19 := (fun_mk (st := s_signs_fault) l19 c19 k19).binds (ps := ["signs"]) fun _ _ _ _ _ _ us hl => match us, hl with | [_], _ => rfl
  have F20 := fn_mk (st := s_check_points) l20 c20 k20
  have b20 := (fun_mk (st := s_check_points) l20 c20 k20).binds (ps := ["points"]) fun _ _ _ _ _ _ us hl => match us, hl with | [_], _ => rfl
  have F21 := fn_mk (st := s_ordered_tie) l21 c21 k21
  have b21 := (fun_mk (st := s_ordered_tie) l21 c21 k21).binds (ps := ["tie"]) fun _ _ _ _ _ _ us hl => match us, hl with | [_], _ => rfl
  have F22 := fn_mk (st := s_check_web_box) l22 c22 k22
  have b22 := (fun_mk (st := s_check_web_box) l22 c22 k22).binds (ps := ["web", "box"]) fun _ _ _ _ _ _ us hl => match us, hl with | [_, _], _ => rfl
  have F23 := fn_mk (st := s_tie_pull) l23 c23 k23
  have b23 := (fun_mk (st := s_tie_pull) l23 c23 k23).binds (ps := ["told", "signs"]) fun _ _ _ _ _ _ us hl => match us, hl with | [_, _], _ => rfl
  have F24 := fn_mk (st := s_sums_at) l24 c24 k24
  have b24 := (fun_mk (st := s_sums_at) l24 c24 k24).binds (ps := ["web", "numbers"]) fun _ _ _ _ _ _ us hl => match us, hl with | [_, _], _ => rfl
  have F25 := fn_mk (st := s_law_pick) l25 c25 k25
  have b25 := (fun_mk (st := s_law_pick) l25 c25 k25).binds (ps := ["box", "some"]) fun _ _ _ _ _ _ us hl => match us, hl with | [_, _], _ => rfl
  have F26 := fn_mk (st := s_law_far) l26 c26 k26
  have b26 := (fun_mk (st := s_law_far) l26 c26 k26).binds (ps := ["box", "size"]) fun _ _ _ _ _ _ us hl => match us, hl with | [_, _], _ => rfl
  have F27 := fn_mk (st := s_law_sign) l27 c27 k27
  have b27 := (fun_mk (st := s_law_sign) l27 c27 k27).binds (ps := ["box"]) fun _ _ _ _ _ _ us hl => match us, hl with | [_], _ => rfl
  have F28 := fn_mk (st := s_law_is) l28 c28 k28
  have b28 := (fun_mk (st := s_law_is) l28 c28 k28).binds (ps := ["told", "due"]) fun _ _ _ _ _ _ us hl => match us, hl with | [_, _], _ => rfl
  have F29 := fn_mk (st := s_law_sums) l29 c29 k29
  have b29 := (fun_mk (st := s_law_sums) l29 c29 k29).binds (ps := ["points", "ties", "numbers"]) fun _ _ _ _ _ _ us hl => match us, hl with | [_, _, _], _ => rfl
  have F30 := fn_mk (st := s_law_pull) l30 c30 k30
  have b30 := (fun_mk (st := s_law_pull) l30 c30 k30).binds (ps := ["tie", "signs"]) fun _ _ _ _ _ _ us hl => match us, hl with | [_, _], _ => rfl
  have F31 := fn_mk (st := s_law_are_signs) l31 c31 k31
  have b31 := (fun_mk (st := s_law_are_signs) l31 c31 k31).binds (ps := ["value", "points"]) fun _ _ _ _ _ _ us hl => match us, hl with | [_, _], _ => rfl
  have F32 := fn_mk (st := s_is_sign_row) l32 c32 k32
  have b32 := (fun_mk (st := s_is_sign_row) l32 c32 k32).binds (ps := ["value", "points"]) fun _ _ _ _ _ _ us hl => match us, hl with | [_, _], _ => rfl
  have F33 := fn_mk (st := s_is_tie) l33 c33 k33
  have b33 := (fun_mk (st := s_is_tie) l33 c33 k33).binds (ps := ["value", "points"]) fun _ _ _ _ _ _ us hl => match us, hl with | [_, _], _ => rfl
  have F34 := fn_mk (st := s_are_bounds) l34 c34 k34
  have b34 := (fun_mk (st := s_are_bounds) l34 c34 k34).binds (ps := ["value"]) fun _ _ _ _ _ _ us hl => match us, hl with | [_], _ => rfl
  have F35 := fn_mk (st := s_check_totals) l35 c35 k35
  have b35 := (fun_mk (st := s_check_totals) l35 c35 k35).binds (ps := ["web", "totals"]) fun _ _ _ _ _ _ us hl => match us, hl with | [_, _], _ => rfl
  have F36 := fn_mk (st := s_lack_of) l36 c36 k36
  have b36 := (fun_mk (st := s_lack_of) l36 c36 k36).binds (ps := ["ties", "bounds", "totals", "signs"]) fun _ _ _ _ _ _ us hl => match us, hl with | [_, _, _, _], _ => rfl
  have F37 := fn_mk (st := s_fits) l37 c37 k37
  have b37 := (fun_mk (st := s_fits) l37 c37 k37).binds (ps := ["web", "bounds", "totals", "value"]) fun _ _ _ _ _ _ us hl => match us, hl with | [_, _, _, _], _ => rfl
  have F38 := fn_mk (st := s_law_amount) l38 c38 k38
  have b38 := (fun_mk (st := s_law_amount) l38 c38 k38).binds (ps := ["box", "size"]) fun _ _ _ _ _ _ us hl => match us, hl with | [_, _], _ => rfl
  have F39 := fn_mk (st := s_law_tie) l39 c39 k39
  have b39 := (fun_mk (st := s_law_tie) l39 c39 k39).binds (ps := ["box", "points", "near", "even"]) fun _ _ _ _ _ _ us hl => match us, hl with | [_, _, _, _], _ => rfl
  have F40 := fn_mk (st := s_law_rings) l40 c40 k40
  have b40 := (fun_mk (st := s_law_rings) l40 c40 k40).binds (ps := ["box", "points", "many"]) fun _ _ _ _ _ _ us hl => match us, hl with | [_, _, _], _ => rfl
  have F41 := fn_mk (st := s_law_short) l41 c41 k41
  have b41 := (fun_mk (st := s_law_short) l41 c41 k41).binds (ps := ["ties", "bounds", "totals", "signs"]) fun _ _ _ _ _ _ us hl => match us, hl with | [_, _, _, _], _ => rfl
  have F42 := fn_mk (st := s_law_fills) l42 c42 k42
  have b42 := (fun_mk (st := s_law_fills) l42 c42 k42).binds (ps := ["points", "ties", "bounds", "totals", "z"]) fun _ _ _ _ _ _ us hl => match us, hl with | [_, _, _, _, _], _ => rfl
  have F43 := fn_mk (st := s_law_scales) l43 c43 k43
  have b43 := (fun_mk (st := s_law_scales) l43 c43 k43).binds (ps := ["box"]) fun _ _ _ _ _ _ us hl => match us, hl with | [_], _ => rfl
  have F44 := fn_mk (st := s_law_signs) l44 c44 k44
  have b44 := (fun_mk (st := s_law_signs) l44 c44 k44).binds (ps := ["box", "points"]) fun _ _ _ _ _ _ us hl => match us, hl with | [_, _], _ => rfl
  have F45 := fn_mk (st := s_law_bent) l45 c45 k45
  have b45 := (fun_mk (st := s_law_bent) l45 c45 k45).binds (ps := ["box", "value"]) fun _ _ _ _ _ _ us hl => match us, hl with | [_, _], _ => rfl
  have F46 := fn_mk (st := s_law_cut) l46 c46 k46
  have b46 := (fun_mk (st := s_law_cut) l46 c46 k46).binds (ps := ["box", "bounds", "numbers", "at"]) fun _ _ _ _ _ _ us hl => match us, hl with | [_, _, _, _], _ => rfl
  have F47 := fn_mk (st := s_Web__init_) l47 c47 k47
  have b47 := (fun_mk (st := s_Web__init_) l47 c47 k47).binds (ps := ["self", "points", "ties"]) fun _ _ _ _ _ _ us hl => match us, hl with | [_, _, _], _ => rfl
  have F48 := fn_mk (st := s_check_bounds) l48 c48 k48
  have b48 := (fun_mk (st := s_check_bounds) l48 c48 k48).binds (ps := ["web", "bounds"]) fun _ _ _ _ _ _ us hl => match us, hl with | [_, _], _ => rfl
  have F49 := fn_mk (st := s_do_show) l49 c49 k49
  have b49 := (fun_mk (st := s_do_show) l49 c49 k49).binds (ps := ["web", "bounds", "totals", "value"]) fun _ _ _ _ _ _ us hl => match us, hl with | [_, _, _, _], _ => rfl
  have F50 := fn_mk (st := s_filling_holds) l50 c50 k50
  have b50 := (fun_mk (st := s_filling_holds) l50 c50 k50).binds (ps := ["web", "box", "value"]) fun _ _ _ _ _ _ us hl => match us, hl with | [_, _, _], _ => rfl
  have F51 := fn_mk (st := s_law_web) l51 c51 k51
  have b51 := (fun_mk (st := s_law_web) l51 c51 k51).binds (ps := ["box", "points", "twos", "loose"]) fun _ _ _ _ _ _ us hl => match us, hl with | [_, _, _, _], _ => rfl
  have F52 := fn_mk (st := s_law_full) l52 c52 k52
  have b52 := (fun_mk (st := s_law_full) l52 c52 k52).binds (ps := ["box", "ties", "size", "halves"]) fun _ _ _ _ _ _ us hl => match us, hl with | [_, _, _, _], _ => rfl
  have F53 := fn_mk (st := s_Box__init_) l53 c53 k53
  have b53 := (fun_mk (st := s_Box__init_) l53 c53 k53).binds (ps := ["self", "web", "bounds", "totals"]) fun _ _ _ _ _ _ us hl => match us, hl with | [_, _, _, _], _ => rfl
  have F54 := fn_mk (st := s_signs_show) l54 c54 k54
  have b54 := (fun_mk (st := s_signs_show) l54 c54 k54).binds (ps := ["web", "box", "value"]) fun _ _ _ _ _ _ us hl => match us, hl with | [_, _, _], _ => rfl
  have F55 := fn_mk (st := s_fill_holds) l55 c55 k55
  have b55 := (fun_mk (st := s_fill_holds) l55 c55 k55).binds (ps := ["web", "box", "value"]) fun _ _ _ _ _ _ us hl => match us, hl with | [_, _, _], _ => rfl
  have F56 := fn_mk (st := s_law_asked) l56 c56 k56
  have b56 := (fun_mk (st := s_law_asked) l56 c56 k56).binds (ps := ["box", "points", "ties", "bounds", "totals", "value"]) fun _ _ _ _ _ _ us hl => match us, hl with | [_, _, _, _, _, _], _ => rfl
  have F57 := fn_mk (st := s_law) l57 c57 k57
  have b57 := (fun_mk (st := s_law) l57 c57 k57).binds (ps := ["script"]) fun _ _ _ _ _ _ us hl => match us, hl with | [_], _ => rfl
  have Fx : Facts π := {
    kb := by
      intro T hT
      rcases six_cases hT with rfl | rfl | rfl | rfl | rfl | rfl
      · exact ⟨kit_own ic0 ty0 st0_NoneType rfl, kit_own ic1 ty1 st1_NoneType rfl⟩
      · exact ⟨kit_own ic0 ty0 st0_bool rfl, kit_own ic1 ty1 st1_bool rfl⟩
      · exact ⟨kit_own ic0 ty0 st0_int rfl, kit_own ic1 ty1 st1_int rfl⟩
      · exact ⟨kit_own ic0 ty0 st0_str rfl, kit_own ic1 ty1 st1_str rfl⟩
      · exact ⟨kit_own ic0 ty0 st0_tuple rfl, kit_own ic1 ty1 st1_tuple rfl⟩
      · exact ⟨kit_own ic0 ty0 st0_list rfl, kit_own ic1 ty1 st1_list rfl⟩
    kw := ⟨kit_self, kit_own ic1 ty1 sc0_1 d0_1⟩
    kx := ⟨kit_own ic0 ty0 sc1_0 d1_0, kit_self⟩
    ko := by
      intro C hC
      rcases hC with rfl | rfl
      · exact ⟨kit_ty (by decide) sl0_list rfl, kit_ty (by decide) sl0_tuple rfl, ins0⟩
      · exact ⟨kit_ty (by decide) sl1_list rfl, kit_ty (by decide) sl1_tuple rfl, ins1⟩
    fl := ⟨Or.inl (⟨rfl, rfl⟩), Or.inr (Or.inl (⟨rfl, rfl⟩)), Or.inr (Or.inr (Or.inl (⟨rfl, rfl⟩))), Or.inr (Or.inr (Or.inr (⟨rfl, rfl⟩)))⟩
    eqB := Or.inr (⟨rfl, (by rw [S_Box__eq__eq, S_Box__eq__eq]; rfl)⟩)
    nf := by
      intro t ht
      rcases ht with rfl | rfl | rfl
      · exact nf1_1
      · exact nf1_0
      · exact nt1_tuple
  }
  refine ⟨PySem.W.fnOf "law" "law" (defArgs s_law) (defBody s_law) (defScope s_law) .none kV57 dc57 pm57 an57 cd57 ct57, fun s v => .of_eq rfl, fun base _ _ => ?_⟩
  have h_is_integer := def_mk (base := base) (P := l.prog) (ok_is_integer F0 B ) (PySem.W.mg_of X G a0) k0 b0
  have h_is_sequence := def_mk (base := base) (P := l.prog) (ok_is_sequence F1 B ) (PySem.W.mg_of X G a1) k1 b1
  have h_is_tuple := def_mk (base := base) (P := l.prog) (ok_is_tuple F2 B ) (PySem.W.mg_of X G a2) k2 b2
  have h_is_double := def_mk (base := base) (P := l.prog) (ok_is_double F3 B ) (PySem.W.mg_of X G a3) k3 b3
  have h_tie_ends := def_mk (base := base) (P := l.prog) (ok_tie_ends F4 B ) (PySem.W.mg_of X G a4) k4 b4
  have h_check_web_d : Def l.prog π.w π.K mg base "check_web" 1 ["web", "at"] [.int (-1)] (S_check_web π) := ⟨⟨_, _, ds6, ok_check_web F6 B , PySem.W.mg_of X G a6, k6, b6, dv6⟩⟩
  have h_check_box := def_mk (base := base) (P := l.prog) (ok_check_box F8 B ) (PySem.W.mg_of X G a8) k8 b8
  have h_law_box := def_mk (base := base) (P := l.prog) (ok_law_box F9 B ) (PySem.W.mg_of X G a9) k9 b9
  have h_law_take := def_mk (base := base) (P := l.prog) (ok_law_take F10 B ) (PySem.W.mg_of X G a10) k10 b10
  have h_law_norm := def_mk (base := base) (P := l.prog) (ok_law_norm F11 B ) (PySem.W.mg_of X G a11) k11 b11
  have h_law_ends := def_mk (base := base) (P := l.prog) (ok_law_ends F12 B ) (PySem.W.mg_of X G a12) k12 b12
  have h_law_are_ints := def_mk (base := base) (P := l.prog) (ok_law_are_ints F13 B ) (PySem.W.mg_of X G a13) k13 b13
  have h_law_with := def_mk (base := base) (P := l.prog) (ok_law_with F14 B ) (PySem.W.mg_of X G a14) k14 b14
  have h_is_below := def_mk (base := base) (P := l.prog) (ok_is_below F15 B h_is_integer) (PySem.W.mg_of X G a15) k15 b15
  have h_is_sign := def_mk (base := base) (P := l.prog) (ok_is_sign F16 B h_is_integer) (PySem.W.mg_of X G a16) k16 b16
  have h_is_sized := def_mk (base := base) (P := l.prog) (ok_is_sized F17 B h_is_sequence) (PySem.W.mg_of X G a17) k17 b17
  have h_is_paper := def_mk (base := base) (P := l.prog) (ok_is_paper F18 B h_is_tuple) (PySem.W.mg_of X G a18) k18 b18
  have h_signs_fault := def_mk (base := base) (P := l.prog) (ok_signs_fault F19 B h_is_integer) (PySem.W.mg_of X G a19) k19 b19
  have h_check_points := def_mk (base := base) (P := l.prog) (ok_check_points F20 B h_is_integer) (PySem.W.mg_of X G a20) k20 b20
  have h_ordered_tie := def_mk (base := base) (P := l.prog) (ok_ordered_tie F21 B h_is_double) (PySem.W.mg_of X G a21) k21 b21
  have h_check_web_box := def_mk (base := base) (P := l.prog) (ok_check_web_box F22 B h_check_box h_check_web_d) (PySem.W.mg_of X G a22) k22 b22
  have h_tie_pull := def_mk (base := base) (P := l.prog) (ok_tie_pull F23 B h_tie_ends) (PySem.W.mg_of X G a23) k23 b23
  have h_sums_at := def_mk (base := base) (P := l.prog) (ok_sums_at F24 B h_tie_ends) (PySem.W.mg_of X G a24) k24 b24
  have h_law_pick := def_mk (base := base) (P := l.prog) (ok_law_pick F25 B h_law_take) (PySem.W.mg_of X G a25) k25 b25
  have h_law_far := def_mk (base := base) (P := l.prog) (ok_law_far F26 B h_law_take) (PySem.W.mg_of X G a26) k26 b26
  have h_law_sign := def_mk (base := base) (P := l.prog) (ok_law_sign F27 B h_law_take) (PySem.W.mg_of X G a27) k27 b27
  have r_law_is : ∀ n, Def l.prog π.w π.K mg base "_law_is" n ["told", "due"] [] (S_law_is π n) := fun n => by
    induction n with
    | zero => exact def_mk (by rw [S_law_is_zero]; exact fn_zero) (PySem.W.mg_of X G a28) k28 b28
    | succ n ih => exact def_mk (base := base) (P := l.prog) (ok_law_is F28 B  ih) (PySem.W.mg_of X G a28) k28 b28
  have h_law_is := r_law_is 2
  have h_law_sums := def_mk (base := base) (P := l.prog) (ok_law_sums F29 B h_law_ends) (PySem.W.mg_of X G a29) k29 b29
  have h_law_pull := def_mk (base := base) (P := l.prog) (ok_law_pull F30 B h_law_ends) (PySem.W.mg_of X G a30) k30 b30
  have h_law_are_signs := def_mk (base := base) (P := l.prog) (ok_law_are_signs F31 B h_law_are_ints) (PySem.W.mg_of X G a31) k31 b31
  have h_is_sign_row := def_mk (base := base) (P := l.prog) (ok_is_sign_row F32 B h_is_tuple h_signs_fault) (PySem.W.mg_of X G a32) k32 b32
  have h_is_tie := def_mk (base := base) (P := l.prog) (ok_is_tie F33 B h_is_sequence h_is_below h_is_sign) (PySem.W.mg_of X G a33) k33 b33
  have h_are_bounds := def_mk (base := base) (P := l.prog) (ok_are_bounds F34 B h_is_sized h_is_integer) (PySem.W.mg_of X G a34) k34 b34
  have h_check_totals := def_mk (base := base) (P := l.prog) (ok_check_totals F35 B h_is_sized h_is_integer) (PySem.W.mg_of X G a35) k35 b35
  have h_lack_of := def_mk (base := base) (P := l.prog) (ok_lack_of F36 B h_tie_pull) (PySem.W.mg_of X G a36) k36 b36
  have h_fits := def_mk (base := base) (P := l.prog) (ok_fits F37 B h_is_tuple h_is_integer h_sums_at) (PySem.W.mg_of X G a37) k37 b37
  have h_law_amount := def_mk (base := base) (P := l.prog) (ok_law_amount F38 B h_law_take h_law_far h_law_pick) (PySem.W.mg_of X G a38) k38 b38
  have h_law_tie := def_mk (base := base) (P := l.prog) (ok_law_tie F39 B h_law_sign h_law_take) (PySem.W.mg_of X G a39) k39 b39
  have h_law_rings := def_mk (base := base) (P := l.prog) (ok_law_rings F40 B h_law_take h_law_sign) (PySem.W.mg_of X G a40) k40 b40
  have h_law_short := def_mk (base := base) (P := l.prog) (ok_law_short F41 B h_law_pull) (PySem.W.mg_of X G a41) k41 b41
  have h_law_fills := def_mk (base := base) (P := l.prog) (ok_law_fills F42 B h_law_are_ints h_law_sums) (PySem.W.mg_of X G a42) k42 b42
  have h_law_scales := def_mk (base := base) (P := l.prog) (ok_law_scales F43 B h_law_take h_law_pick) (PySem.W.mg_of X G a43) k43 b43
  have h_law_signs := def_mk (base := base) (P := l.prog) (ok_law_signs F44 B h_law_pick) (PySem.W.mg_of X G a44) k44 b44
  have h_law_bent := def_mk (base := base) (P := l.prog) (ok_law_bent F45 B h_law_pick h_law_take h_law_with) (PySem.W.mg_of X G a45) k45 b45
  have h_law_cut := def_mk (base := base) (P := l.prog) (ok_law_cut F46 B h_law_pick h_law_with) (PySem.W.mg_of X G a46) k46 b46
  have mk_Web : Mk K C_Web f47 := ⟨mk0, a47, i47, kc0⟩
  have o_Web := ok_Web__init_ (base := base) (P := l.prog) F47 B h_check_points h_is_sequence h_is_tie h_ordered_tie
  have h_Web : DefM l.prog π.w π.K mg base "Web" π.a_Web 4 ["self", "points", "ties"] (S_Web__init_ π) := ⟨⟨_, _, mk_Web, o_Web, PySem.W.mg_of X G aC0, b47⟩⟩
  have h_check_bounds := def_mk (base := base) (P := l.prog) (ok_check_bounds F48 B h_is_sized h_are_bounds) (PySem.W.mg_of X G a48) k48 b48
  have h_do_show := def_mk (base := base) (P := l.prog) (ok_do_show F49 B h_is_sign_row h_lack_of) (PySem.W.mg_of X G a49) k49 b49
  have h_filling_holds := def_mk (base := base) (P := l.prog) (ok_filling_holds F50 B h_check_web_box h_fits) (PySem.W.mg_of X G a50) k50 b50
  have h_law_web := def_mk (base := base) (P := l.prog) (ok_law_web F51 B h_law_take h_law_sign h_law_tie) (PySem.W.mg_of X G a51) k51 b51
  have h_law_full := def_mk (base := base) (P := l.prog) (ok_law_full F52 B h_law_far h_law_amount) (PySem.W.mg_of X G a52) k52 b52
  have mk_Box : Mk K C_Box f53 := ⟨mk1, a53, i53, kc1⟩
  have o_Box := ok_Box__init_ (base := base) (P := l.prog) F53 B h_check_bounds h_check_totals h_check_web_d
  have h_Box : DefM l.prog π.w π.K mg base "Box" π.a_Box 5 ["self", "web", "bounds", "totals"] (S_Box__init_ π) := ⟨⟨_, _, mk_Box, o_Box, PySem.W.mg_of X G aC1, b53⟩⟩
  have h_signs_show := def_mk (base := base) (P := l.prog) (ok_signs_show F54 B h_check_web_box h_do_show) (PySem.W.mg_of X G a54) k54 b54
  have h_fill_holds := def_mk (base := base) (P := l.prog) (ok_fill_holds F55 B h_check_web_box h_is_paper h_filling_holds h_do_show) (PySem.W.mg_of X G a55) k55 b55
  have h_law_asked := def_mk (base := base) (P := l.prog) (ok_law_asked F56 B h_law_fills h_law_are_signs h_law_short h_filling_holds h_law_is h_signs_show h_fill_holds h_law_pick h_Web h_Box) (PySem.W.mg_of X G a56) k56 b56
  exact (ok_law F57 B h_law_box h_law_scales h_law_take h_law_rings h_law_web h_law_norm h_law_pick h_law_full h_law_sums h_law_fills h_law_asked h_law_bent h_law_cut h_law_sign h_law_with h_law_signs h_law_far h_law_short).imp (sp_law fun ns μ P XP hk => law_ok Fx hk)
end G
open PySem PySem.W PyProof.Rows
set_option maxRecDepth 100000 in
set_option maxHeartbeats 0 in
theorem PySem.Challenge.cw_pushtells_k26_whole_judges_of_fillings_a_holds : PySem.Challenge.rw_pushtells_k26_whole_judges_of_fillings_a.Holds := by
  w_on; o_law; k_head; (case hw => w_witness2)
  k_fill
  refine PL.walk (k := 8) (l := PySem.Challenge.rw_pushtells_k26_whole_judges_of_fillings_a) rfl rfl ⟨rfl, by decide, by decide⟩ (fun w h Y => PySem.W.kIn_of Y) ?F
  case F =>
    intro w mg fa h KX KG hmg
    refine' G.all_mk KX KG hmg ?aC0 ?aC1 ?a0 ?l0 ?c0 ?k0 ?a1 ?l1 ?c1 ?k1 ?a2 ?l2 ?c2 ?k2 ?a3 ?l3 ?c3 ?k3 ?a4 ?l4 ?c4 ?k4 ?a5 ?i5 ?l5 ?c5 ?k5 ?a6 ?l6 ?lT6 ?c6 ?k6 ?a7 ?i7 ?l7 ?c7 ?k7 ?a8 ?l8 ?c8 ?k8 ?a9 ?l9 ?c9 ?k9 ?a10 ?l10 ?c10 ?k10 ?a11 ?l11 ?c11 ?k11 ?a12 ?l12 ?c12 ?k12 ?a13 ?l13 ?c13 ?k13 ?a14 ?l14 ?c14 ?k14 ?a15 ?l15 ?c15 ?k15 ?a16 ?l16 ?c16 ?k16 ?a17 ?l17 ?c17 ?k17 ?a18 ?l18 ?c18 ?k18 ?a19 ?l19 ?c19 ?k19 ?a20 ?l20 ?c20 ?k20 ?a21 ?l21 ?c21 ?k21 ?a22 ?l22 ?c22 ?k22 ?a23 ?l23 ?c23 ?k23 ?a24 ?l24 ?c24 ?k24 ?a25 ?l25 ?c25 ?k25 ?a26 ?l26 ?c26 ?k26 ?a27 ?l27 ?c27 ?k27 ?a28 ?l28 ?c28 ?k28 ?a29 ?l29 ?c29 ?k29 ?a30 ?l30 ?c30 ?k30 ?a31 ?l31 ?c31 ?k31 ?a32 ?l32 ?c32 ?k32 ?a33 ?l33 ?c33 ?k33 ?a34 ?l34 ?c34 ?k34 ?a35 ?l35 ?c35 ?k35 ?a36 ?l36 ?c36 ?k36 ?a37 ?l37 ?c37 ?k37 ?a38 ?l38 ?c38 ?k38 ?a39 ?l39 ?c39 ?k39 ?a40 ?l40 ?c40 ?k40 ?a41 ?l41 ?c41 ?k41 ?a42 ?l42 ?c42 ?k42 ?a43 ?l43 ?c43 ?k43 ?a44 ?l44 ?c44 ?k44 ?a45 ?l45 ?c45 ?k45 ?a46 ?l46 ?c46 ?k46 ?a47 ?i47 ?l47 ?c47 ?k47 ?a48 ?l48 ?c48 ?k48 ?a49 ?l49 ?c49 ?k49 ?a50 ?l50 ?c50 ?k50 ?a51 ?l51 ?c51 ?k51 ?a52 ?l52 ?c52 ?k52 ?a53 ?i53 ?l53 ?c53 ?k53 ?a54 ?l54 ?c54 ?k54 ?a55 ?l55 ?c55 ?k55 ?a56 ?l56 ?c56 ?k56 ?a57 ?l57 ?c57 ?k57 ?z0 ?z1 ?n_abs ?n_all ?n_any ?n_bool ?n_enumerate ?n_int ?n_isinstance ?n_len ?n_list ?n_max ?n_min ?n_range ?n_str ?n_sum ?n_tuple ?n_zip ?aE0 ?xE0 ?sE0 ?gE0 ?tE0 ?nE0 ?iE0 ?fE0 ?kE0 ?bE0 ?yE0 ?hE0 ?cE0 ?lE0 ?dE0_c ?aE1 ?xE1 ?sE1 ?gE1 ?tE1 ?nE1 ?iE1 ?fE1 ?kE1 ?bE1 ?yE1 ?hE1 ?cE1 ?lE1 ?dE1_c ?aE2 ?xE2 ?sE2 ?gE2 ?tE2 ?nE2 ?iE2 ?fE2 ?kE2 ?bE2 ?yE2 ?hE2 ?cE2 ?lE2 ?dE2_c ?aE3 ?xE3 ?sE3 ?gE3 ?tE3 ?nE3 ?iE3 ?fE3 ?kE3 ?bE3 ?yE3 ?hE3 ?cE3 ?lE3 ?dE3_c ?aE4 ?xE4 ?sE4 ?gE4 ?tE4 ?nE4 ?iE4 ?fE4 ?kE4 ?bE4 ?yE4 ?hE4 ?cE4 ?lE4 ?dE4_c ?aE5 ?xE5 ?sE5 ?gE5 ?tE5 ?nE5 ?iE5 ?fE5 ?kE5 ?bE5 ?yE5 ?hE5 ?cE5 ?lE5 ?dE5_c ?mk0 ?kc0 ?pg0 ?hd0 ?po0 ?sa0 ?no0_points ?no0_ties ?hc0 ?mo0 ?ic0 ?ty0 ?ne0 ?nf0_0 ?sc0_1 ?d0_1 ?nf0_1 ?st0_NoneType ?nt0_NoneType ?st0_bool ?nt0_bool ?st0_int ?nt0_int ?st0_str ?nt0_str ?st0_tuple ?nt0_tuple ?st0_list ?nt0_list ?sl0_list ?sl0_tuple ?sl0_int ?sl0_bool ?sl0_str ?mk1 ?kc1 ?pg1 ?hd1 ?po1 ?sa1 ?no1_bounds ?no1_totals ?hc1 ?mo1 ?ic1 ?ty1 ?ne1 ?sc1_0 ?d1_0 ?nf1_0 ?nf1_1 ?st1_NoneType ?nt1_NoneType ?st1_bool ?nt1_bool ?st1_int ?nt1_int ?st1_str ?nt1_str ?st1_tuple ?nt1_tuple ?st1_list ?nt1_list ?sl1_list ?sl1_tuple ?sl1_int ?sl1_bool ?sl1_str ?sp ?tk
    (case aC0 => k_is)
    (case aC1 => k_is)
    (case a0 => k_is)
    (case l0 => k_is)
    (case c0 => k_is)
    (case k0 => k_is)
    (case a1 => k_is)
    (case l1 => k_is)
    (case c1 => k_is)
    (case k1 => k_is)
    (case a2 => k_is)
    (case l2 => k_is)
    (case c2 => k_is)
    (case k2 => k_is)
    (case a3 => k_is)
    (case l3 => k_is)
    (case c3 => k_is)
    (case k3 => k_is)
    (case a4 => k_is)
    (case l4 => k_is)
    (case c4 => k_is)
    (case k4 => k_is)
    (case a5 => k_is)
    (case i5 => k_is)
    (case l5 => k_is)
    (case c5 => k_is)
    (case k5 => k_is)
    (case a6 => k_is)
    (case l6 => k_is)
    (case lT6 => k_is)
    (case c6 => k_is)
    (case k6 => k_is)
    (case a7 => k_is)
    (case i7 => k_is)
    (case l7 => k_is)
    (case c7 => k_is)
    (case k7 => k_is)
    (case a8 => k_is)
    (case l8 => k_is)
    (case c8 => k_is)
    (case k8 => k_is)
    (case a9 => k_is)
    (case l9 => k_is)
    (case c9 => k_is)
    (case k9 => k_is)
    (case a10 => k_is)
    (case l10 => k_is)
    (case c10 => k_is)
    (case k10 => k_is)
    (case a11 => k_is)
    (case l11 => k_is)
    (case c11 => k_is)
    (case k11 => k_is)
    (case a12 => k_is)
    (case l12 => k_is)
    (case c12 => k_is)
    (case k12 => k_is)
    (case a13 => k_is)
    (case l13 => k_is)
    (case c13 => k_is)
    (case k13 => k_is)
    (case a14 => k_is)
    (case l14 => k_is)
    (case c14 => k_is)
    (case k14 => k_is)
    (case a15 => k_is)
    (case l15 => k_is)
    (case c15 => k_is)
    (case k15 => k_is)
    (case a16 => k_is)
    (case l16 => k_is)
    (case c16 => k_is)
    (case k16 => k_is)
    (case a17 => k_is)
    (case l17 => k_is)
    (case c17 => k_is)
    (case k17 => k_is)
    (case a18 => k_is)
    (case l18 => k_is)
    (case c18 => k_is)
    (case k18 => k_is)
    (case a19 => k_is)
    (case l19 => k_is)
    (case c19 => k_is)
    (case k19 => k_is)
    (case a20 => k_is)
    (case l20 => k_is)
    (case c20 => k_is)
    (case k20 => k_is)
    (case a21 => k_is)
    (case l21 => k_is)
    (case c21 => k_is)
    (case k21 => k_is)
    (case a22 => k_is)
    (case l22 => k_is)
    (case c22 => k_is)
    (case k22 => k_is)
    (case a23 => k_is)
    (case l23 => k_is)
    (case c23 => k_is)
    (case k23 => k_is)
    (case a24 => k_is)
    (case l24 => k_is)
    (case c24 => k_is)
    (case k24 => k_is)
    (case a25 => k_is)
    (case l25 => k_is)
    (case c25 => k_is)
    (case k25 => k_is)
    (case a26 => k_is)
    (case l26 => k_is)
    (case c26 => k_is)
    (case k26 => k_is)
    (case a27 => k_is)
    (case l27 => k_is)
    (case c27 => k_is)
    (case k27 => k_is)
    (case a28 => k_is)
    (case l28 => k_is)
    (case c28 => k_is)
    (case k28 => k_is)
    (case a29 => k_is)
    (case l29 => k_is)
    (case c29 => k_is)
    (case k29 => k_is)
    (case a30 => k_is)
    (case l30 => k_is)
    (case c30 => k_is)
    (case k30 => k_is)
    (case a31 => k_is)
    (case l31 => k_is)
    (case c31 => k_is)
    (case k31 => k_is)
    (case a32 => k_is)
    (case l32 => k_is)
    (case c32 => k_is)
    (case k32 => k_is)
    (case a33 => k_is)
    (case l33 => k_is)
    (case c33 => k_is)
    (case k33 => k_is)
    (case a34 => k_is)
    (case l34 => k_is)
    (case c34 => k_is)
    (case k34 => k_is)
    (case a35 => k_is)
    (case l35 => k_is)
    (case c35 => k_is)
    (case k35 => k_is)
    (case a36 => k_is)
    (case l36 => k_is)
    (case c36 => k_is)
    (case k36 => k_is)
    (case a37 => k_is)
    (case l37 => k_is)
    (case c37 => k_is)
    (case k37 => k_is)
    (case a38 => k_is)
    (case l38 => k_is)
    (case c38 => k_is)
    (case k38 => k_is)
    (case a39 => k_is)
    (case l39 => k_is)
    (case c39 => k_is)
    (case k39 => k_is)
    (case a40 => k_is)
    (case l40 => k_is)
    (case c40 => k_is)
    (case k40 => k_is)
    (case a41 => k_is)
    (case l41 => k_is)
    (case c41 => k_is)
    (case k41 => k_is)
    (case a42 => k_is)
    (case l42 => k_is)
    (case c42 => k_is)
    (case k42 => k_is)
    (case a43 => k_is)
    (case l43 => k_is)
    (case c43 => k_is)
    (case k43 => k_is)
    (case a44 => k_is)
    (case l44 => k_is)
    (case c44 => k_is)
    (case k44 => k_is)
    (case a45 => k_is)
    (case l45 => k_is)
    (case c45 => k_is)
    (case k45 => k_is)
    (case a46 => k_is)
    (case l46 => k_is)
    (case c46 => k_is)
    (case k46 => k_is)
    (case a47 => k_is)
    (case i47 => k_is)
    (case l47 => k_is)
    (case c47 => k_is)
    (case k47 => k_is)
    (case a48 => k_is)
    (case l48 => k_is)
    (case c48 => k_is)
    (case k48 => k_is)
    (case a49 => k_is)
    (case l49 => k_is)
    (case c49 => k_is)
    (case k49 => k_is)
    (case a50 => k_is)
    (case l50 => k_is)
    (case c50 => k_is)
    (case k50 => k_is)
    (case a51 => k_is)
    (case l51 => k_is)
    (case c51 => k_is)
    (case k51 => k_is)
    (case a52 => k_is)
    (case l52 => k_is)
    (case c52 => k_is)
    (case k52 => k_is)
    (case a53 => k_is)
    (case i53 => k_is)
    (case l53 => k_is)
    (case c53 => k_is)
    (case k53 => k_is)
    (case a54 => k_is)
    (case l54 => k_is)
    (case c54 => k_is)
    (case k54 => k_is)
    (case a55 => k_is)
    (case l55 => k_is)
    (case c55 => k_is)
    (case k55 => k_is)
    (case a56 => k_is)
    (case l56 => k_is)
    (case c56 => k_is)
    (case k56 => k_is)
    (case a57 => k_is)
    (case l57 => k_is)
    (case c57 => k_is)
    (case k57 => k_is)
    (case z0 => k_is)
    (case z1 => k_is)
    (case n_abs => k_is)
    (case n_all => k_is)
    (case n_any => k_is)
    (case n_bool => k_is)
    (case n_enumerate => k_is)
    (case n_int => k_is)
    (case n_isinstance => k_is)
    (case n_len => k_is)
    (case n_list => k_is)
    (case n_max => k_is)
    (case n_min => k_is)
    (case n_range => k_is)
    (case n_str => k_is)
    (case n_sum => k_is)
    (case n_tuple => k_is)
    (case n_zip => k_is)
    (case aE0 => k_is)
    (case xE0 => k_is)
    (case sE0 => k_is)
    (case gE0 => k_is)
    (case tE0 => k_is)
    (case nE0 => k_is)
    (case iE0 => k_is)
    (case fE0 => k_is)
    (case kE0 => k_is)
    (case bE0 => k_is)
    (case yE0 => k_is)
    (case hE0 => k_is)
    (case cE0 => k_is)
    (case lE0 => k_is)
    (case dE0_c => k_is)
    (case aE1 => k_is)
    (case xE1 => k_is)
    (case sE1 => k_is)
    (case gE1 => k_is)
    (case tE1 => k_is)
    (case nE1 => k_is)
    (case iE1 => k_is)
    (case fE1 => k_is)
    (case kE1 => k_is)
    (case bE1 => k_is)
    (case yE1 => k_is)
    (case hE1 => k_is)
    (case cE1 => k_is)
    (case lE1 => k_is)
    (case dE1_c => k_is)
    (case aE2 => k_is)
    (case xE2 => k_is)
    (case sE2 => k_is)
    (case gE2 => k_is)
    (case tE2 => k_is)
    (case nE2 => k_is)
    (case iE2 => k_is)
    (case fE2 => k_is)
    (case kE2 => k_is)
    (case bE2 => k_is)
    (case yE2 => k_is)
    (case hE2 => k_is)
    (case cE2 => k_is)
    (case lE2 => k_is)
    (case dE2_c => k_is)
    (case aE3 => k_is)
    (case xE3 => k_is)
    (case sE3 => k_is)
    (case gE3 => k_is)
    (case tE3 => k_is)
    (case nE3 => k_is)
    (case iE3 => k_is)
    (case fE3 => k_is)
    (case kE3 => k_is)
    (case bE3 => k_is)
    (case yE3 => k_is)
    (case hE3 => k_is)
    (case cE3 => k_is)
    (case lE3 => k_is)
    (case dE3_c => k_is)
    (case aE4 => k_is)
    (case xE4 => k_is)
    (case sE4 => k_is)
    (case gE4 => k_is)
    (case tE4 => k_is)
    (case nE4 => k_is)
    (case iE4 => k_is)
    (case fE4 => k_is)
    (case kE4 => k_is)
    (case bE4 => k_is)
    (case yE4 => k_is)
    (case hE4 => k_is)
    (case cE4 => k_is)
    (case lE4 => k_is)
    (case dE4_c => k_is)
    (case aE5 => k_is)
    (case xE5 => k_is)
    (case sE5 => k_is)
    (case gE5 => k_is)
    (case tE5 => k_is)
    (case nE5 => k_is)
    (case iE5 => k_is)
    (case fE5 => k_is)
    (case kE5 => k_is)
    (case bE5 => k_is)
    (case yE5 => k_is)
    (case hE5 => k_is)
    (case cE5 => k_is)
    (case lE5 => k_is)
    (case dE5_c => k_is)
    (case mk0 => k_is)
    (case kc0 => k_is)
    (case pg0 => k_is)
    (case hd0 => k_is)
    (case po0 => k_is)
    (case sa0 => k_is)
    (case no0_points => k_is)
    (case no0_ties => k_is)
    (case hc0 => k_is)
    (case mo0 => k_is)
    (case ic0 => k_is)
    (case ty0 => k_is)
    (case ne0 => k_is)
    (case nf0_0 => k_is)
    (case sc0_1 => k_is)
    (case d0_1 => first | rfl | decide)
    (case nf0_1 => k_is)
    (case st0_NoneType => k_is)
    (case nt0_NoneType => k_is)
    (case st0_bool => k_is)
    (case nt0_bool => k_is)
    (case st0_int => k_is)
    (case nt0_int => k_is)
    (case st0_str => k_is)
    (case nt0_str => k_is)
    (case st0_tuple => k_is)
    (case nt0_tuple => k_is)
    (case st0_list => k_is)
    (case nt0_list => k_is)
    (case sl0_list => k_is)
    (case sl0_tuple => k_is)
    (case sl0_int => k_is)
    (case sl0_bool => k_is)
    (case sl0_str => k_is)
    (case mk1 => k_is)
    (case kc1 => k_is)
    (case pg1 => k_is)
    (case hd1 => k_is)
    (case po1 => k_is)
    (case sa1 => k_is)
    (case no1_bounds => k_is)
    (case no1_totals => k_is)
    (case hc1 => k_is)
    (case mo1 => k_is)
    (case ic1 => k_is)
    (case ty1 => k_is)
    (case ne1 => k_is)
    (case sc1_0 => k_is)
    (case d1_0 => first | rfl | decide)
    (case nf1_0 => k_is)
    (case nf1_1 => k_is)
    (case st1_NoneType => k_is)
    (case nt1_NoneType => k_is)
    (case st1_bool => k_is)
    (case nt1_bool => k_is)
    (case st1_int => k_is)
    (case nt1_int => k_is)
    (case st1_str => k_is)
    (case nt1_str => k_is)
    (case st1_tuple => k_is)
    (case nt1_tuple => k_is)
    (case st1_list => k_is)
    (case nt1_list => k_is)
    (case sl1_list => k_is)
    (case sl1_tuple => k_is)
    (case sl1_int => k_is)
    (case sl1_bool => k_is)
    (case sl1_str => k_is)
    (case sp => k_is)
    (case tk => k_is)
