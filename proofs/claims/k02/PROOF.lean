import PyProof.Rows.All
import Wide.All
import OpenK.AllK
import Wide.FinOn
import HandS.ForMost
import HandS.ForExc
import HandS.CallSlots
import HandS.Star
import HandS.Property
import HandS.ClsMeth
import HandS.CallLocal
import HandS.GenList
import HandS.TupAny
import HandS.SortOrd
import HandS.SortInts
import HandS.Deep
import HandS.TupMul
import HandS.IsInst
import HandS.FStr
import HandS.Conv
import HandS.Zip
import HandS.TryMany
import HandS.ExcField
import HandS.Flow
import KE.GoesMore
import KE.KFmtOwn
import HandS.RaiseMore
import KE.KCallOwn
import PySem.Challenge.RW_shelfdoors_k02_texts_of_chains
set_option Elab.async false
set_option linter.all false
set_option maxRecDepth 100000
set_option maxHeartbeats 4000000
set_option autoImplicit false
namespace CL
open PySem PySem.Spec PyProof.Rows L2

/-! ## the clean values, the store, the state -/
inductive D where
  | non | bl (b : Bool) | int (i : Int) | str (x : Str)
  | tup (xs : List D) | lst (xs : List D) | obj (c : Nat) (vs : List D) | ref (n : Nat)
  | scr (ns : List Int)

inductive O where
  | lst (xs : List D)
  | ins (c : Nat) (fs : List (Str × D))

inductive Sl where
  | no | val (d : D) | own (o : O)

structure CS where
  sl : List Sl
  S : List O

inductive R (α : Type) where
  | ok (a : α) (c : CS)
  | exc (cn : Nat) (vs : List D) (c : CS)
  | stuck

abbrev M (α : Type) := CS → R α
def R.bind {α β : Type} (r : R α) (k : α → CS → R β) : R β := match r with
  | .ok a c => k a c
  | .exc cn vs c => .exc cn vs c
  | .stuck => .stuck
theorem R.bind_ok {α β : Type} (a : α) (c : CS) (k : α → CS → R β) : (R.ok a c).bind k = k a c := rfl
theorem R.bind_exc {α β : Type} (n : Nat) (vs : List D) (c : CS) (k : α → CS → R β) : (R.exc n vs c).bind k = .exc n vs c := rfl
theorem R.bind_stuck {α β : Type} (k : α → CS → R β) : R.stuck.bind k = .stuck := rfl
def M.bind {α β : Type} (f : M α) (k : α → M β) : M β := fun c => (f c).bind k
def M.ret {α : Type} (a : α) : M α := fun c => .ok a c
/-- an option's value, or no way on -/
def M.opt {α : Type} : Option α → M α
  | some a => fun c => .ok a c
  | none => fun _ => .stuck

/-! ## what they stand for -/
structure G where
  prog : Program
  w : World
  K : PySem.W.Frag
  mg : Str → Option Value
  base : Heap
  cls : Nat → Option (Addr × List Str)
  exc : Nat → Option (Addr × List Str)

structure Mp where
  rho : List Addr
  F : Hp
  B : Hp
  lam : Nat → Addr
  ini : Addr

structure Ext (m m' : Mp) : Prop where
  r : ∀ (n : Nat) (a : Addr), m.rho[n]? = some a → m'.rho[n]? = some a
  f : ∀ (a : Addr) (o : HO), m.F a = some o → m'.F a = some o
  b : m'.B = m.B
  i : m'.ini = m.ini
theorem Ext.rfl' {m : Mp} : Ext m m := ⟨fun _ _ h => h, fun _ _ h => h, rfl, rfl⟩
theorem Ext.trans {m m1 m2 : Mp} (a : Ext m m1) (b : Ext m1 m2) : Ext m m2 := ⟨fun n x h => b.r n x (a.r n x h), fun x o h => b.f x o (a.f x o h), b.b.trans a.b, b.i.trans a.i⟩

mutual
inductive Sv (g : G) (m : Mp) : D → V → Prop
  | non : Sv g m .non .non
  | bl (b : Bool) : Sv g m (.bl b) (.bl b)
  | int (i : Int) : Sv g m (.int i) (.int i)
  | str (x : Str) : Sv g m (.str x) (.str x)
  | tup {a : Addr} {ds : List D} {xs : List V} : SqT g.K m.F a xs → Svs g m ds xs → Sv g m (.tup ds) (.ref a)
  | lst {a : Addr} {ds : List D} {xs : List V} : m.F a = some (.lst xs) → Svs g m ds xs → Sv g m (.lst ds) (.ref a)
  | obj {c : Nat} {ds : List D} {a C dx : Addr} {ns : List Str} {ws : List V} : g.cls c = some (C, ns) → m.F a = some (.ins C dx (ns.zip ws)) → Svs g m ds ws → ds.length = ns.length → Sv g m (.obj c ds) (.ref a)
  | ref {n : Nat} {a : Addr} : m.rho[n]? = some a → Sv g m (.ref n) (.ref a)
  | scr {ns : List Int} {a : Addr} : SqL g.K m.F a (ns.map V.int) → Sv g m (.scr ns) (.ref a)
inductive Svs (g : G) (m : Mp) : List D → List V → Prop
  | nil : Svs g m [] []
  | cons {d : D} {v : V} {ds : List D} {vs : List V} : Sv g m d v → Svs g m ds vs → Svs g m (d :: ds) (v :: vs)
end

theorem sqT_mono {K : PySem.W.Frag} {H H' : Hp} {a : Addr} {xs : List V} (e : ∀ a o, H a = some o → H' a = some o) (h : SqT K H a xs) : SqT K H' a xs := by
  rcases h with h | h
  · refine Or.inl ?_
    rcases h with h | ⟨o, h⟩
    · exact Or.inl (e _ _ h)
    · exact Or.inr ⟨o, e _ _ h⟩
  · exact Or.inr h
theorem sqL_mono {K : PySem.W.Frag} {H H' : Hp} {a : Addr} {xs : List V} (e : ∀ a o, H a = some o → H' a = some o) (h : SqL K H a xs) : SqL K H' a xs := by
  rcases h with h | h
  · refine Or.inl ?_
    rcases h with h | ⟨o, h⟩
    · exact Or.inl (e _ _ h)
    · exact Or.inr ⟨o, e _ _ h⟩
  · exact Or.inr h

mutual
theorem Sv.mono {g : G} {m m' : Mp} (e : Ext m m') : ∀ {d : D} {v : V}, Sv g m d v → Sv g m' d v
  | _, _, .non => .non
  | _, _, .bl b => .bl b
  | _, _, .int i => .int i
  | _, _, .str x => .str x
  | _, _, .tup h r => .tup (sqT_mono e.f h) (Svs.mono e r)
  | _, _, .lst h r => .lst (e.f _ _ h) (Svs.mono e r)
  | _, _, .scr h => .scr (sqL_mono e.f h)
  | _, _, .obj c h r l => .obj c (e.f _ _ h) (Svs.mono e r) l
  | _, _, .ref h => .ref (e.r _ _ h)
theorem Svs.mono {g : G} {m m' : Mp} (e : Ext m m') : ∀ {ds : List D} {vs : List V}, Svs g m ds vs → Svs g m' ds vs
  | _, _, .nil => .nil
  | _, _, .cons a b => .cons (Sv.mono e a) (Svs.mono e b)
end
section
variable {g : G} {m : Mp}
theorem Svs.length {ds : List D} {vs : List V} (h : Svs g m ds vs) : ds.length = vs.length := by
  induction ds generalizing vs with
  | nil => cases h; rfl
  | cons d ds ih =>
    cases h with
    | cons a b => rw [List.length_cons, List.length_cons, ih b]
theorem Svs.get {ds : List D} {vs : List V} (h : Svs g m ds vs) {i : Nat} {d : D} (e : ds[i]? = some d) : ∃ v, vs[i]? = some v ∧ Sv g m d v := by
  induction ds generalizing vs i with
  | nil => simp at e
  | cons x ds ih =>
    cases h with
    | cons a b =>
      cases i with
      | zero =>
        simp at e
        subst e
        exact ⟨_, rfl, a⟩
      | succ i =>
        obtain ⟨v, e1, e2⟩ := ih b (i := i) (by simpa using e)
        exact ⟨v, by simpa using e1, e2⟩
theorem Svs.getV {ds : List D} {vs : List V} (h : Svs g m ds vs) {i : Nat} {v : V} (e : vs[i]? = some v) : ∃ d, ds[i]? = some d ∧ Sv g m d v := by
  have hl := h.length
  have hi : i < vs.length := (List.getElem?_eq_some_iff.mp e).1
  have hd : ds[i]? = some ds[i] := List.getElem?_eq_getElem (by omega)
  obtain ⟨v', e1, e2⟩ := h.get hd
  rw [e] at e1
  cases e1
  exact ⟨_, hd, e2⟩
theorem Svs.append {ds es : List D} {vs ws : List V} (h : Svs g m ds vs) (k : Svs g m es ws) : Svs g m (ds ++ es) (vs ++ ws) := by
  induction ds generalizing vs with
  | nil => cases h; exact k
  | cons d ds ih =>
    cases h with
    | cons a b => exact .cons a (ih b)
theorem Svs.take {ds : List D} {vs : List V} (n : Nat) (h : Svs g m ds vs) : Svs g m (ds.take n) (vs.take n) := by
  induction ds generalizing vs n with
  | nil => cases h; simp; exact .nil
  | cons d ds ih =>
    cases h with
    | cons a b =>
      cases n with
      | zero => simp; exact .nil
      | succ n => exact .cons a (ih n b)
theorem Svs.drop {ds : List D} {vs : List V} (n : Nat) (h : Svs g m ds vs) : Svs g m (ds.drop n) (vs.drop n) := by
  induction ds generalizing vs n with
  | nil => cases h; simp; exact .nil
  | cons d ds ih =>
    cases h with
    | cons a b =>
      cases n with
      | zero => exact .cons a b
      | succ n => exact ih n b
theorem Svs.set {ds : List D} {vs : List V} (i : Nat) {d : D} {v : V} (h : Svs g m ds vs) (k : Sv g m d v) : Svs g m (ds.set i d) (vs.set i v) := by
  induction ds generalizing vs i with
  | nil => cases h; simp; exact .nil
  | cons x ds ih =>
    cases h with
    | cons a b =>
      cases i with
      | zero => exact .cons k b
      | succ i => exact .cons a (ih i b)
theorem Svs.eraseIdx {ds : List D} {vs : List V} (i : Nat) (h : Svs g m ds vs) : Svs g m (ds.eraseIdx i) (vs.eraseIdx i) := by
  induction ds generalizing vs i with
  | nil => cases h; simp; exact .nil
  | cons x ds ih =>
    cases h with
    | cons a b =>
      cases i with
      | zero => exact b
      | succ i => exact .cons a (ih i b)
end

/-- fields, by name -/
inductive Sfs (g : G) (m : Mp) : List (Str × D) → List (Str × V) → Prop
  | nil : Sfs g m [] []
  | cons {f : Str} {d : D} {v : V} {fs : List (Str × D)} {ws : List (Str × V)} : Sv g m d v → Sfs g m fs ws → Sfs g m ((f, d) :: fs) ((f, v) :: ws)
theorem Sfs.mono {g : G} {m m' : Mp} (e : Ext m m') {fs : List (Str × D)} {ws : List (Str × V)} (h : Sfs g m fs ws) : Sfs g m' fs ws := by
  induction h with
  | nil => exact .nil
  | cons a _ ih => exact .cons (a.mono e) ih
theorem Sfs.lookup {g : G} {m : Mp} {fs : List (Str × D)} {ws : List (Str × V)} (h : Sfs g m fs ws) {f : Str} {d : D} (e : fs.lookup f = some d) : ∃ v, ws.lookup f = some v ∧ Sv g m d v := by
  induction h with
  | nil => simp at e
  | @cons x d' v fs ws a _ ih =>
    rw [List.lookup_cons] at e ⊢
    by_cases q : f = x
    · subst q
      simp at e ⊢
      subst e
      exact a
    · have qb : (f == x) = false := beq_eq_false_iff_ne.mpr q
      rw [qb] at e ⊢
      exact ih e
theorem Sfs.lookup_none {g : G} {m : Mp} {fs : List (Str × D)} {ws : List (Str × V)} (h : Sfs g m fs ws) {f : Str} (e : fs.lookup f = none) : ws.lookup f = none := by
  induction h with
  | nil => rfl
  | @cons x d' v fs ws a _ ih =>
    rw [List.lookup_cons] at e ⊢
    by_cases q : f = x
    · subst q
      simp at e
    · have qb : (f == x) = false := beq_eq_false_iff_ne.mpr q
      rw [qb] at e ⊢
      exact ih e
/-- a field stored, on the clean side -/
def putD (f : Str) (d : D) : List (Str × D) → List (Str × D)
  | [] => [(f, d)]
  | (x, y) :: r => if x = f then (x, d) :: r else (x, y) :: putD f d r
theorem Sfs.put {g : G} {m : Mp} {fs : List (Str × D)} {ws : List (Str × V)} (h : Sfs g m fs ws) {f : Str} {d : D} {v : V} (k : Sv g m d v) : Sfs g m (putD f d fs) (putF f v ws) := by
  induction h with
  | nil => exact .cons k .nil
  | @cons x d' v' fs ws a b ih =>
    unfold putD putF
    by_cases q : x = f
    · rw [if_pos q, if_pos q]
      exact .cons k b
    · rw [if_neg q, if_neg q]
      exact .cons a ih
theorem Sfs.length {g : G} {m : Mp} {fs : List (Str × D)} {ws : List (Str × V)} (h : Sfs g m fs ws) : fs.length = ws.length := by
  induction h with
  | nil => rfl
  | cons _ _ ih => rw [List.length_cons, List.length_cons, ih]

def So (g : G) (m : Mp) (H : Hp) (a : Addr) : O → Prop
  | .lst xs => ∃ vs, H a = some (.lst vs) ∧ Svs g m xs vs
  | .ins c fs => ∃ C ns dx ws, g.cls c = some (C, ns) ∧ H a = some (.ins C dx ws) ∧ Sfs g m fs ws
theorem So.mono {g : G} {m m' : Mp} {H H' : Hp} {a : Addr} {o : O} (e : Ext m m') (k : H' a = H a) (h : So g m H a o) : So g m' H' a o := by
  cases o with
  | lst xs =>
    obtain ⟨vs, h1, h2⟩ := h
    exact ⟨vs, k.trans h1, h2.mono e⟩
  | ins c fs =>
    obtain ⟨C, ns, dx, ws, h1, h2, h3⟩ := h
    exact ⟨C, ns, dx, ws, h1, k.trans h2, h3.mono e⟩
theorem So.here {g : G} {m : Mp} {H : Hp} {a : Addr} {o : O} (h : So g m H a o) : ∃ u, H a = Option.some u ∧ Mut (Option.some u) := by
  cases o with
  | lst xs =>
    obtain ⟨vs, h1, _⟩ := h
    exact ⟨_, h1, trivial⟩
  | ins c fs =>
    obtain ⟨C, ns, dx, ws, _, h2, _⟩ := h
    exact ⟨_, h2, trivial⟩

/-- a slot's object stands apart -/
structure Own (m : Mp) (sl : List Sl) (i : Nat) : Prop where
  fr : m.F (m.lam i) = none
  bk : m.B (m.lam i) = none
  rh : m.lam i ∉ m.rho
  ap : ∀ (j : Nat) (o : O), sl[j]? = some (.own o) → m.lam j = m.lam i → j = i
def SlOk (g : G) (m : Mp) (sl : List Sl) (σ : L2.St) (H : Hp) (i : Nat) : Sl → Prop
  | .no => True
  | .val d => ∃ v, σ[i]? = some (some v) ∧ Sv g m d v
  | .own o => σ[i]? = some (some (.ref (m.lam i))) ∧ So g m H (m.lam i) o ∧ Own m sl i

/-- a new instance stands at the first slot -/
def IniOk (m : Mp) (sl : List Sl) : Prop := ∀ (c : Nat) (fs : List (Str × D)), sl[(0 : Nat)]? = some (.own (.ins c fs)) → m.lam 0 = m.ini
theorem IniOk.set {m : Mp} {sl : List Sl} {i : Nat} {s : Sl} (h : IniOk m sl) (hs : ∀ c fs, s ≠ .own (.ins c fs)) : IniOk m (sl.set i s) := fun c fs e => by
  by_cases q : i = 0
  · subst q
    by_cases hl : 0 < sl.length
    · rw [List.getElem?_set_self hl] at e
      exact absurd (Option.some.inj e) (hs c fs)
    · rw [List.getElem?_eq_none (by rw [List.length_set]; omega)] at e
      cases e
  · rw [List.getElem?_set_ne q] at e
    exact h c fs e
theorem iniOk_nil {m : Mp} : IniOk m [] := fun c fs e => by simp at e
structure Sim (g : G) (m : Mp) (c : CS) (σ : L2.St) (H : Hp) : Prop where
  fr : ∀ (a : Addr) (o : HO), m.F a = some o → H a = some o
  nd : m.rho.Nodup
  len : m.rho.length = c.S.length
  ini : IniOk m c.sl
  ln : c.sl.length = σ.length
  st : ∀ (n : Nat) (a : Addr) (o : O), m.rho[n]? = some a → c.S[n]? = some o → m.F a = none ∧ So g m H a o
  bk : ∀ (a : Addr) (o : HO), m.B a = some o → H a = some o ∧ m.F a = none ∧ a ∉ m.rho ∧ ∀ ps, o ≠ .tbl ps
  sl : ∀ (i : Nat) (s : Sl), c.sl[i]? = some s → SlOk g m c.sl σ H i s

/-- a new thing that is frozen at once -/
theorem Sim.frozen {g : G} {m : Mp} {c : CS} {σ : L2.St} {H : Hp} (h : Sim g m c σ H) {p : Addr} {u : HO} (hp : H p = none) : Sim g { m with F := upd m.F p u } c σ (upd H p u) ∧ Ext m { m with F := upd m.F p u } := by
  have hF : m.F p = none := by
    cases e : m.F p with
    | none => rfl
    | some o => rw [h.fr p o e] at hp; cases hp
  have ex : Ext m { m with F := upd m.F p u } := ⟨fun _ _ z => z, fun a o z => by
    show upd m.F p u a = some o
    rw [upd_ne (ne_of_none z hF)]
    exact z, rfl, rfl⟩
  have keep : ∀ {a : Addr} {o : O}, So g m H a o → a ≠ p := fun {a o} z => by
    obtain ⟨w, e, _⟩ := z.here
    exact ne_of_none e hp
  refine ⟨⟨fun a o z => ?_, h.nd, h.len, h.ini, h.ln, fun n a o h1 h2 => ?_, fun a o z => ?_, fun i s hs => ?_⟩, ex⟩
  · by_cases e : a = p
    · subst e
      have z' : upd m.F a u a = some o := z
      rw [upd_same] at z'
      rw [upd_same]
      exact z'
    · have z' : upd m.F p u a = some o := z
      rw [upd_ne e] at z' ⊢
      exact h.fr a o z'
  · obtain ⟨k1, k2⟩ := h.st n a o h1 h2
    have ne := keep k2
    refine ⟨?_, k2.mono ex (upd_ne ne)⟩
    show upd m.F p u a = none
    rw [upd_ne ne]
    exact k1
  · obtain ⟨z1, z2, z3, z4⟩ := h.bk a o z
    have ne : a ≠ p := ne_of_none z1 hp
    refine ⟨?_, ?_, z3, z4⟩
    · rw [upd_ne ne]
      exact z1
    · show upd m.F p u a = none
      rw [upd_ne ne]
      exact z2
  · have q := h.sl i s hs
    cases s with
    | no => trivial
    | val d =>
      obtain ⟨v, e1, e2⟩ := q
      exact ⟨v, e1, e2.mono ex⟩
    | own o =>
      obtain ⟨e1, e2, e3⟩ := q
      have ne := keep e2
      refine ⟨e1, e2.mono ex (upd_ne ne), ⟨?_, e3.bk, e3.rh, e3.ap⟩⟩
      show upd m.F p u (m.lam i) = none
      rw [upd_ne ne]
      exact e3.fr
/-- a slot's list is read as a value: from now on it doesn't change -/
theorem Sim.freeze {g : G} {m : Mp} {c : CS} {σ : L2.St} {H : Hp} (h : Sim g m c σ H) {i : Nat} {xs : List D} (hi : c.sl[i]? = some (.own (.lst xs))) :
    ∃ m' v, Ext m m' ∧ Sim g m' { c with sl := c.sl.set i (.val (.lst xs)) } σ H ∧ σ[i]? = some (some v) ∧ Sv g m' (.lst xs) v := by
  obtain ⟨e1, ⟨vs, e2, e3⟩, e4⟩ := h.sl i _ hi
  have ex : Ext m { m with F := upd m.F (m.lam i) (.lst vs) } := ⟨fun _ _ z => z, fun a o z => by
    show upd m.F _ _ a = some o
    rw [upd_ne (ne_of_none z e4.fr)]
    exact z, rfl, rfl⟩
  have val : Sv g { m with F := upd m.F (m.lam i) (.lst vs) } (.lst xs) (.ref (m.lam i)) := .lst upd_same (e3.mono ex)
  have hlt : i < c.sl.length := (List.getElem?_eq_some_iff.mp hi).1
  refine ⟨{ m with F := upd m.F (m.lam i) (.lst vs) }, .ref (m.lam i), ex, ⟨fun a o z => ?_, h.nd, h.len, h.ini.set (fun _ _ z => nomatch z), by rw [← h.ln]; exact List.length_set, fun n a o h1 h2 => ?_, fun a o z => ?_, fun j s hs => ?_⟩, e1, val⟩
  · have z' : upd m.F (m.lam i) (.lst vs) a = some o := z
    by_cases e : a = m.lam i
    · subst e
      rw [upd_same] at z'
      cases z'
      exact e2
    · rw [upd_ne e] at z'
      exact h.fr a o z'
  · obtain ⟨k1, k2⟩ := h.st n a o h1 h2
    refine ⟨?_, k2.mono ex rfl⟩
    show upd m.F _ _ a = none
    rw [upd_ne (fun e => e4.rh (by rw [← e]; exact List.mem_of_getElem? h1))]
    exact k1
  · obtain ⟨z1, z2, z3, z4⟩ := h.bk a o z
    refine ⟨z1, ?_, z3, z4⟩
    show upd m.F _ _ a = none
    rw [upd_ne (fun e => by
      have z : m.B a = some o := z
      rw [e, e4.bk] at z
      cases z)]
    exact z2
  · have hs : (c.sl.set i (.val (.lst xs)))[j]? = some s := hs
    by_cases e : i = j
    · subst e
      rw [List.getElem?_set_self hlt] at hs
      cases hs
      exact ⟨_, e1, val⟩
    · rw [List.getElem?_set_ne e] at hs
      have q := h.sl j s hs
      cases s with
      | no => trivial
      | val d =>
        obtain ⟨v, q1, q2⟩ := q
        exact ⟨v, q1, q2.mono ex⟩
      | own o =>
        obtain ⟨q1, q2, q3⟩ := q
        have ne : m.lam j ≠ m.lam i := fun z => e (e4.ap j o hs z).symm
        refine ⟨q1, q2.mono ex rfl, ⟨?_, q3.bk, q3.rh, fun k o' hk z => ?_⟩⟩
        · show upd m.F _ _ (m.lam j) = none
          rw [upd_ne ne]
          exact q3.fr
        · have hk : (c.sl.set i (.val (.lst xs)))[k]? = some (.own o') := hk
          by_cases ek : i = k
          · subst ek
            rw [List.getElem?_set_self hlt] at hk
            cases hk
          · rw [List.getElem?_set_ne ek] at hk
            exact q3.ap k o' hk z
end CL
namespace CL
open PySem PySem.Spec PyProof.Rows L2

/-! ## what is wanted of a result -/
/-- an exception of the class cn, its fields vs -/
def Exr (g : G) (m : Mp) (cn : Nat) (vs : List D) (C : Value) (d : Option Addr) : Prop :=
  ∃ Ca ns dd ws, g.exc cn = some (Ca, ns) ∧ C = .ref Ca ∧ d = some dd ∧ m.F dd = some (.xd (ns.zip ws)) ∧ Svs g m vs ws ∧ vs.length = ns.length
abbrev Rl (α β : Type) := Mp → CS → Hp → α → β → Prop
def Out {α β : Type} (rel : Rl α β) (g : G) (W : WX) (σ : L2.St) (m : Mp) (r : R α) (Q : β → Hp → Prop) : Prop := match r with
  | .ok a c => ∀ m' b H', Ext m m' → Sim g m' c σ H' → rel m' c H' a b → Q b H'
  | .exc cn vs c => ∀ m' H' C d, Ext m m' → Sim g m' c σ H' → Exr g m' cn vs C d → W C d σ H'
  | .stuck => False
def rE (g : G) : Rl D V := fun m _ _ d v => Sv g m d v
def rB : Rl Bool Bool := fun _ _ _ a b => a = b
def rA (g : G) : Rl (List D) (List V) := fun m _ _ ds vs => Svs g m ds vs
def rO : Rl (Option Int) (Option Int) := fun _ _ _ a b => a = b
/-- free of all that is known -/
structure Fre (m : Mp) (c : CS) (p : Addr) : Prop where
  f : m.F p = none
  b : m.B p = none
  r : p ∉ m.rho
  o : ∀ (j : Nat) (o : O), c.sl[j]? = some (.own o) → m.lam j ≠ p
/-- a new list that nothing else refers to -/
def rL (g : G) : Rl (List D) V := fun m c H xs v => ∃ p vs, v = .ref p ∧ H p = some (.lst vs) ∧ Svs g m xs vs ∧ Fre m c p
def tX {α β : Type} (rel : Rl α β) (g : G) (W : WX) (f : M α) : L2.St → Hp → (β → Hp → Prop) → Prop := fun σ H Q => ∃ m c, Sim g m c σ H ∧ Out rel g W σ m (f c) Q
abbrev tE (g : G) (W : WX) (f : M D) : TE := tX (rE g) g W f
abbrev tT (g : G) (W : WX) (f : M Bool) : TT := tX rB g W f
abbrev tA (g : G) (W : WX) (f : M (List D)) : TA := tX (rA g) g W f
abbrev tP (g : G) (W : WX) (f : M (Option Int)) : TO := tX rO g W f
abbrev tL (g : G) (W : WX) (f : M (List D)) : TE := tX (rL g) g W f

section
variable {α β γ δ : Type} {rel : Rl α β} {rel2 : Rl γ δ} {g : G} {W : WX} {σ : L2.St} {m m' : Mp} {H : Hp} {c : CS}
theorem Out.mono {r : R α} {Q : β → Hp → Prop} (e : Ext m m') (h : Out rel g W σ m r Q) : Out rel g W σ m' r Q := by
  cases r with
  | ok a c => exact fun m2 b H' x s k => h m2 b H' (e.trans x) s k
  | exc cn vs c => exact fun m2 H' C d x s k => h m2 H' C d (e.trans x) s k
  | stuck => exact h
theorem Out.imp {r : R α} {Q Q' : β → Hp → Prop} (h : Out rel g W σ m r Q) (i : ∀ b H, Q b H → Q' b H) : Out rel g W σ m r Q' := by
  cases r with
  | ok a c => exact fun m2 b H' x s k => i b H' (h m2 b H' x s k)
  | exc cn vs c => exact h
  | stuck => exact h
/-- a value here and now -/
theorem Out.here {a : α} {b : β} {Q : β → Hp → Prop} (s : Sim g m c σ H) (h : Out rel g W σ m (.ok a c) Q) (k : rel m c H a b) : Q b H := h m b H Ext.rfl' s k
/-- the first part of two -/
theorem Out.bind {r : R α} {k : α → CS → R γ} {Q : δ → Hp → Prop} (h : Out rel2 g W σ m (r.bind k) Q) :
    Out rel g W σ m r (fun b H' => ∃ m' a c', Ext m m' ∧ Sim g m' c' σ H' ∧ rel m' c' H' a b ∧ Out rel2 g W σ m' (k a c') Q) := by
  cases r with
  | ok a c => exact fun m2 b H' x s k' => ⟨m2, a, c, x, s, k', Out.mono x h⟩
  | exc cn vs c => exact h
  | stuck => exact h
end

/-- on, if the test holds -/
def M.guard {α : Type} (b : Bool) (f : M α) : M α := fun c => match b with
  | true => f c
  | false => .stuck
theorem Out.guard {α β : Type} {rel : Rl α β} {g : G} {W : WX} {σ : L2.St} {m : Mp} {b : Bool} {f : M α} {c : CS} {Q : β → Hp → Prop} (h : Out rel g W σ m (M.guard b f c) Q) : b = true ∧ Out rel g W σ m (f c) Q := by
  cases b with
  | true => exact ⟨rfl, h⟩
  | false => exact h.elim
theorem M.guard_true {α : Type} (f : M α) (c : CS) : M.guard true f c = f c := rfl
theorem Out.opt {α β γ : Type} {rel : Rl α β} {g : G} {W : WX} {σ : L2.St} {m : Mp} {a : Option α} {c : CS} {Q : β → Hp → Prop} (h : Out rel g W σ m (M.opt a c) Q) : ∃ x, a = some x ∧ Out rel g W σ m (.ok x c) Q := by
  cases a with
  | none => exact h.elim
  | some x => exact ⟨x, rfl, h⟩

theorem pe_imp {X : Cx} {e : Expr} {t t' : TE} (h : PE X e t) (i : ∀ σ H Q, t' σ H Q → t σ H Q) : PE X e t' := ⟨fun pins s σ H Q I q => h.run pins s σ H Q I (i σ H Q q)⟩
theorem pt_imp {X : Cx} {e : Expr} {t t' : TT} (h : PT X e t) (i : ∀ σ H Q, t' σ H Q → t σ H Q) : PT X e t' := ⟨fun pins s σ H Q I q => h.run pins s σ H Q I (i σ H Q q)⟩
theorem pw_imp {X : Cx} {e : Expr} {t t' : TT} (h : PW X e t) (i : ∀ σ H Q, t' σ H Q → t σ H Q) : PW X e t' := ⟨fun wh pins s σ H Q I q => h.run wh pins s σ H Q I (i σ H Q q)⟩
theorem pa_imp {X : Cx} {es : List Expr} {t t' : TA} (h : PA X es t) (i : ∀ σ H Q, t' σ H Q → t σ H Q) : PA X es t' := ⟨fun p pins s σ H Q I q => h.run p pins s σ H Q I (i σ H Q q)⟩
theorem po_imp {X : Cx} {e : Option Expr} {t t' : TO} (h : PO X e t) (i : ∀ σ H Q, t' σ H Q → t σ H Q) : PO X e t' := ⟨fun pins s σ H Q I q => h.run pins s σ H Q I (i σ H Q q)⟩

/-! ## names, constants -/
def cVar (i : Nat) : M D := fun c => match c.sl[i]? with
  | some (.val d) => .ok d c
  | some (.own (.lst xs)) => .ok (.lst xs) { c with sl := c.sl.set i (.val (.lst xs)) }
  | _ => .stuck
section
variable {X : Cx} {g : G} {W : WX} {pos : Pos}
theorem se_var {i : Nat} {x : Str} (hN : X.N[i]? = some x) (hv : Vis X.env.scope x) (hd : (x == ("__debug__" : Str)) = false) (hcd : (x == ("__classdict__" : Str)) = false) : PE X (.Name x pos) (tE g W (cVar i)) := by
  refine pe_imp (pe_var hN hv hd hcd) fun σ H Q ⟨m, c, s, h⟩ => ?_
  unfold cVar at h
  cases e : c.sl[i]? with
  | none => rw [e] at h; exact h.elim
  | some t =>
    rw [e] at h
    cases t with
    | no => exact h.elim
    | val d =>
      obtain ⟨v, e1, e2⟩ := s.sl i _ e
      exact ⟨v, e1, h.here s e2⟩
    | own o =>
      cases o with
      | ins _ _ => exact h.elim
      | lst xs =>
        obtain ⟨m', v, x1, s1, e1, e2⟩ := s.freeze e
        exact ⟨v, e1, (h.mono x1).here s1 e2⟩
theorem se_int {i : Int} {j : Nat} : PE X (.Constant (.int i) j pos) (tE g W (M.ret (.int i))) := pe_imp pe_int fun σ H Q ⟨m, c, s, h⟩ => h.here s (.int i)
theorem se_bl {b : Bool} {j : Nat} : PE X (.Constant (.bool b) j pos) (tE g W (M.ret (.bl b))) := pe_imp pe_bl fun σ H Q ⟨m, c, s, h⟩ => h.here s (.bl b)
theorem se_non {j : Nat} : PE X (.Constant .none j pos) (tE g W (M.ret .non)) := pe_imp pe_non fun σ H Q ⟨m, c, s, h⟩ => h.here s .non
theorem se_str {x : Str} {j : Nat} : PE X (.Constant (.str x) j pos) (tE g W (M.ret (.str x))) := pe_imp pe_str fun σ H Q ⟨m, c, s, h⟩ => h.here s (.str x)
end

/-! ## operators by values -/
/-- a two-place operation by values, f its clean side -/
def S2 (g : G) (r : R2) (f : D → D → M D) : Prop := ∀ (W : WX) (m : Mp) (c : CS) (σ : L2.St) (H : Hp) (a b : D) (x y : V) (Q : VK), Sim g m c σ H → Sv g m a x → Sv g m b y → Out (rE g) g W σ m (f a b c) Q → r x y H Q
def cOp (f : D → D → M D) (a b : M D) : M D := a.bind fun x => b.bind fun y => f x y
section
variable {X : Cx} {g : G} {W : WX} {pos : Pos}
/-- the two operands -/
theorem two {r : R2} {f : D → D → M D} (h : S2 g r f) {fa fb : M D} (σ : L2.St) (H : Hp) (Q : VK) (q : tE g W (cOp f fa fb) σ H Q) : tOp r (tE g W fa) (tE g W fb) σ H Q := by
  obtain ⟨m, c, s, o⟩ := q
  refine ⟨m, c, s, o.bind.imp fun x H1 ⟨m1, a, c1, x1, s1, k1, o1⟩ => ⟨m1, c1, s1, o1.bind.imp fun y H2 ⟨m2, b, c2, x2, s2, k2, o2⟩ => ?_⟩⟩
  exact h W m2 c2 σ H2 a b x y Q s2 (k1.mono x2) k2 o2
theorem se_op {op : Operator} {r : R2} {f : D → D → M D} (ho : OpR X (binaryOp op) r) (h : S2 g r f) {a b : Expr} {fa fb : M D} (ha : PE X a (tE g W fa)) (hb : PE X b (tE g W fb)) : PE X (.BinOp a op b pos) (tE g W (cOp f fa fb)) := pe_imp (pe_op ho ha hb) (two h)
theorem se_cmp {op : CmpOp} {r : R2} {f : D → D → M D} (ho : OpR X (compareOp op) r) (h : S2 g r f) {a b : Expr} {fa fb : M D} (ha : PE X a (tE g W fa)) (hb : PE X b (tE g W fb)) (hm : behindInMarks op b = false) : PE X (.Compare a [op] [b] pos) (tE g W (cOp f fa fb)) := pe_imp (pe_cmpR ho ha hb hm) (two h)
theorem se_ix {r : R2} {f : D → D → M D} (ho : IxR X r) (h : S2 g r f) {a b : Expr} {fa fb : M D} (ha : PE X a (tE g W fa)) (hb : PE X b (tE g W fb)) (hs : PlainIx b) : PE X (.Subscript a b pos) (tE g W (cOp f fa fb)) := pe_imp (pe_ix ho ha hb hs) (two h)
/-- a bool's value as a test -/
def cB (d : D) : M Bool := fun c => match d with | .bl b => .ok b c | _ => .stuck
def asB (f : M D) : M Bool := f.bind cB
theorem st_cmp {op : CmpOp} {r : R2} {f : D → D → M D} (ho : OpR X (compareOp op) r) (h : S2 g r f) {a b : Expr} {fa fb : M D} (ha : PE X a (tE g W fa)) (hb : PE X b (tE g W fb)) (hm : behindInMarks op b = false) : PT X (.Compare a [op] [b] pos) (tT g W (asB (cOp f fa fb))) := by
  refine pt_imp (pt_cmpR ho ha hb hm) fun σ H Q ⟨m, c, s, o⟩ => ?_
  refine two (W := W) h σ H _ ⟨m, c, s, o.bind.imp fun x H1 ⟨m1, d, c1, x1, s1, k1, o1⟩ => ?_⟩
  cases k1 with
  | bl b => exact ⟨b, rfl, o1.here s1 rfl⟩
  | _ => exact o1.elim
end
end CL
namespace CL
open PySem PySem.Spec PyProof.Rows L2

/-! ## new objects -/
theorem Sim.new {g : G} {m : Mp} {c : CS} {σ : L2.St} {H : Hp} (h : Sim g m c σ H) {p : Addr} {u : HO} (hp : H p = none) : Sim g m c σ (upd H p u) ∧ Fre m c p := by
  have hF : m.F p = none := by
    cases e : m.F p with
    | none => rfl
    | some o => rw [h.fr p o e] at hp; cases hp
  have hB : m.B p = none := by
    cases e : m.B p with
    | none => rfl
    | some o => rw [(h.bk p o e).1] at hp; cases hp
  have keep : ∀ {a : Addr} {o : O}, So g m H a o → a ≠ p := fun {a o} z => by
    obtain ⟨w, e, _⟩ := z.here
    exact ne_of_none e hp
  refine ⟨⟨fun a o z => ?_, h.nd, h.len, h.ini, h.ln, fun n a o h1 h2 => ?_, fun a o z => ?_, fun i s hs => ?_⟩, ⟨hF, hB, fun hm => ?_, fun j o hj z => ?_⟩⟩
  · rw [upd_ne (ne_of_none z hF)]
    exact h.fr a o z
  · obtain ⟨k1, k2⟩ := h.st n a o h1 h2
    exact ⟨k1, k2.mono Ext.rfl' (upd_ne (keep k2))⟩
  · obtain ⟨z1, z2⟩ := h.bk a o z
    rw [upd_ne (ne_of_none z1 hp)]
    exact ⟨z1, z2⟩
  · have q := h.sl i s hs
    cases s with
    | no => trivial
    | val d => exact q
    | own o =>
      obtain ⟨e1, e2, e3⟩ := q
      exact ⟨e1, e2.mono Ext.rfl' (upd_ne (keep e2)), e3⟩
  · obtain ⟨n, hn⟩ := List.getElem?_of_mem hm
    have hlt : n < c.S.length := by
      rw [← h.len]
      exact (List.getElem?_eq_some_iff.mp hn).1
    obtain ⟨_, k2⟩ := h.st n p _ hn (List.getElem?_eq_getElem hlt)
    exact keep k2 rfl
  · obtain ⟨_, e2, _⟩ := h.sl j _ hj
    exact keep e2 z
section
variable {g : G} {W : WX} {m : Mp} {c : CS} {σ : L2.St} {H : Hp} {ds : List D} {vs : List V} {Q : VK} {p : Addr}
theorem out_newL (s : Sim g m c σ H) (hv : Svs g m ds vs) (o : Out (rE g) g W σ m (.ok (.lst ds) c) Q) (hp : H p = none) : Q (.ref p) (upd H p (.lst vs)) := by
  obtain ⟨s1, x1⟩ := s.frozen (u := .lst vs) hp
  exact (o.mono x1).here s1 (.lst upd_same (hv.mono x1))
theorem out_newT (s : Sim g m c σ H) (hv : Svs g m ds vs) (o : Out (rE g) g W σ m (.ok (.tup ds) c) Q) (hp : H p = none) : Q (.ref p) (upd H p (.tup vs)) := by
  obtain ⟨s1, x1⟩ := s.frozen (u := .tup vs) hp
  exact (o.mono x1).here s1 (.tup (SqT.of upd_same) (hv.mono x1))
theorem out_freshL (s : Sim g m c σ H) (hv : Svs g m ds vs) (o : Out (rL g) g W σ m (.ok ds c) Q) (hp : H p = none) : Q (.ref p) (upd H p (.lst vs)) := by
  obtain ⟨s1, f⟩ := s.new (u := .lst vs) hp
  exact o.here s1 ⟨p, vs, rfl, upd_same, hv, f⟩
end
/-- a fresh list may be frozen -/
def froz (f : M (List D)) : M D := f.bind fun xs => M.ret (.lst xs)
theorem Sim.freezeL {g : G} {m : Mp} {c : CS} {σ : L2.St} {H : Hp} {xs : List D} {v : V} (h : Sim g m c σ H) (k : rL g m c H xs v) : ∃ m', Ext m m' ∧ Sim g m' c σ H ∧ Sv g m' (.lst xs) v := by
  obtain ⟨p, vs, rfl, hp, hv, f⟩ := k
  have ex : Ext m { m with F := upd m.F p (.lst vs) } := ⟨fun _ _ z => z, fun a o z => by
    show upd m.F _ _ a = some o
    rw [upd_ne (ne_of_none z f.f)]
    exact z, rfl, rfl⟩
  refine ⟨{ m with F := upd m.F p (.lst vs) }, ex, ⟨fun a o z => ?_, h.nd, h.len, h.ini, h.ln, fun n a o h1 h2 => ?_, fun a o z => ?_, fun i s hs => ?_⟩, .lst upd_same (hv.mono ex)⟩
  · have z' : upd m.F p (.lst vs) a = some o := z
    by_cases e : a = p
    · subst e
      rw [upd_same] at z'
      cases z'
      exact hp
    · rw [upd_ne e] at z'
      exact h.fr a o z'
  · obtain ⟨k1, k2⟩ := h.st n a o h1 h2
    refine ⟨?_, k2.mono ex rfl⟩
    show upd m.F _ _ a = none
    rw [upd_ne (fun e => f.r (by rw [← e]; exact List.mem_of_getElem? h1))]
    exact k1
  · obtain ⟨z1, z2, z3, z4⟩ := h.bk a o z
    refine ⟨z1, ?_, z3, z4⟩
    show upd m.F _ _ a = none
    rw [upd_ne (fun e => by
      have z : m.B a = some o := z
      rw [e, f.b] at z
      cases z)]
    exact z2
  · have q := h.sl i s hs
    cases s with
    | no => trivial
    | val d =>
      obtain ⟨v, q1, q2⟩ := q
      exact ⟨v, q1, q2.mono ex⟩
    | own o =>
      obtain ⟨q1, q2, q3⟩ := q
      refine ⟨q1, q2.mono ex rfl, ⟨?_, q3.bk, q3.rh, q3.ap⟩⟩
      show upd m.F _ _ (m.lam i) = none
      rw [upd_ne (f.o i o hs)]
      exact q3.fr
theorem se_froz {X : Cx} {g : G} {W : WX} {e : Expr} {f : M (List D)} (h : PE X e (tL g W f)) : PE X e (tE g W (froz f)) := by
  refine pe_imp h fun σ H Q ⟨m, c, s, o⟩ => ⟨m, c, s, o.bind.imp fun v H1 ⟨m1, xs, c1, x1, s1, k1, o1⟩ => ?_⟩
  obtain ⟨m2, x2, s2, k2⟩ := s1.freezeL k1
  exact (o1.mono x2).here s2 k2

/-! ## what is a list, a tuple -/
def CS.seqL (c : CS) : D → Option (List D)
  | .lst xs => some xs
  | .ref n => match c.S[n]? with
    | some (.lst xs) => some xs
    | _ => none
  | _ => none
theorem Sim.seqL {g : G} {m : Mp} {c : CS} {σ : L2.St} {H : Hp} (s : Sim g m c σ H) {d : D} {xs : List D} (e : c.seqL d = some xs) {v : V} (h : Sv g m d v) : ∃ p vs, v = .ref p ∧ H p = some (.lst vs) ∧ Svs g m xs vs := by
  cases h with
  | lst h1 h2 =>
    cases e
    exact ⟨_, _, rfl, s.fr _ _ h1, h2⟩
  | @ref n a h1 =>
    have e : (match c.S[n]? with
      | some (.lst xs) => some xs
      | _ => none) = some xs := e
    cases q : c.S[n]? with
    | none => rw [q] at e; cases e
    | some o =>
      rw [q] at e
      cases o with
      | ins _ _ => cases e
      | lst ys =>
        cases e
        obtain ⟨_, vs, k1, k2⟩ := s.st n a _ h1 q
        exact ⟨a, vs, rfl, k1, k2⟩
  | _ => cases e
theorem Sim.sqT {g : G} {m : Mp} {c : CS} {σ : L2.St} {H : Hp} (s : Sim g m c σ H) {a : Addr} {xs : List V} (h : SqT g.K m.F a xs) : SqT g.K H a xs := sqT_mono s.fr h
theorem Sim.sqL {g : G} {m : Mp} {c : CS} {σ : L2.St} {H : Hp} (s : Sim g m c σ H) {a : Addr} {xs : List V} (h : SqL g.K m.F a xs) : SqL g.K H a xs := sqL_mono s.fr h

/-! ## the operators -/
def szOk (n : Nat) : Bool := decide (n ≤ sizeLine)
def dAdd : D → D → M D
  | .int i, .int j => M.ret (.int (i + j))
  | .str x, .str y => M.guard (szOk (x.length + y.length)) (M.ret (.str (x ++ y)))
  | .tup xs, .tup ys => M.guard (szOk (xs.length + ys.length)) (M.ret (.tup (xs ++ ys)))
  | _, _ => fun _ => .stuck
def rAdd3 (K : PySem.W.Frag) : R2 := fun x y H Q => (∃ i j, x = .int i ∧ y = .int j ∧ Q (.int (i + j)) H) ∨ (∃ i j, x = .str i ∧ y = .str j ∧ i.length + j.length ≤ sizeLine ∧ Q (.str (i ++ j)) H) ∨ rCatA K x y H Q
theorem op_add3 {X : Cx} : OpR X (binaryOp .Add) (rAdd3 X.K) := OpR.or op_add (OpR.or op_add_str op_catA)
theorem s2_add {g : G} : S2 g (rAdd3 g.K) dAdd := by
  intro W m c σ H a b x y Q s ha hb o
  cases ha with
  | int i =>
    cases hb with
    | int j => exact .inl ⟨i, j, rfl, rfl, o.here s (.int _)⟩
    | _ => exact o.elim
  | str i =>
    cases hb with
    | str j =>
      obtain ⟨hz, o⟩ := Out.guard o
      exact .inr (.inl ⟨i, j, rfl, rfl, of_decide_eq_true hz, o.here s (.str _)⟩)
    | _ => exact o.elim
  | @tup a xs vs h1 h2 =>
    cases hb with
    | @tup b ys ws k1 k2 =>
      obtain ⟨hz, o⟩ := Out.guard o
      have hz : xs.length + ys.length ≤ sizeLine := of_decide_eq_true hz
      have e1 := h2.length
      have e2 := k2.length
      · refine .inr (.inr ⟨a, b, vs, ws, rfl, rfl, s.sqT h1, s.sqT k1, by omega, fun e => ?_, fun _ e => ?_, fun _ _ p hp => ?_⟩)
        · subst e
          cases h2
          exact o.here s (.tup k1 k2)
        · subst e
          cases k2
          have o' : Out (rE g) g W σ m (.ok (.tup (xs ++ [])) c) Q := o
          rw [List.append_nil] at o'
          exact o'.here s (.tup h1 h2)
        · exact out_newT s (h2.append k2) o hp
    | _ => exact o.elim
  | _ => exact o.elim
/-- list + list, a fresh list -/
def dCat (a b : D) : M (List D) := fun c => match c.seqL a, c.seqL b with
  | some xs, some ys => M.guard (szOk (xs.length + ys.length)) (M.ret (xs ++ ys)) c
  | _, _ => .stuck
def S2L (g : G) (r : R2) (f : D → D → M (List D)) : Prop := ∀ (W : WX) (m : Mp) (c : CS) (σ : L2.St) (H : Hp) (a b : D) (x y : V) (Q : VK), Sim g m c σ H → Sv g m a x → Sv g m b y → Out (rL g) g W σ m (f a b c) Q → r x y H Q
theorem s2_cat {g : G} : S2L g rCat dCat := by
  intro W m c σ H a b x y Q s ha hb o
  unfold dCat at o
  cases e1 : c.seqL a with
  | none => rw [e1] at o; exact o.elim
  | some xs =>
    cases e2 : c.seqL b with
    | none => rw [e1, e2] at o; exact o.elim
    | some ys =>
      rw [e1, e2] at o
      obtain ⟨p, vs, rfl, hp, hv⟩ := s.seqL e1 ha
      obtain ⟨q, ws, rfl, hq, hw⟩ := s.seqL e2 hb
      obtain ⟨hz, o⟩ := Out.guard o
      have hz : xs.length + ys.length ≤ sizeLine := of_decide_eq_true hz
      · have l1 := hv.length
        have l2 := hw.length
        exact ⟨p, q, vs, ws, rfl, rfl, hp, hq, by omega, fun r hr => out_freshL s (hv.append hw) o hr⟩
/-- list * int -/
def dRep (a b : D) : M (List D) := fun c => match c.seqL a, b with
  | some xs, .int k => M.guard (decide (-(2 ^ 63) ≤ k ∧ k < 2 ^ 63) && szOk (xs.length * k.toNat)) (M.ret (List.replicate k.toNat xs).flatten) c
  | _, _ => .stuck
theorem Svs.rep {g : G} {m : Mp} {ds : List D} {vs : List V} (h : Svs g m ds vs) (k : Nat) : Svs g m (List.replicate k ds).flatten (List.replicate k vs).flatten := by
  induction k with
  | zero => exact .nil
  | succ k ih =>
    rw [List.replicate_succ, List.replicate_succ, List.flatten_cons, List.flatten_cons]
    exact h.append ih
theorem s2_rep {g : G} : S2L g rRep dRep := by
  intro W m c σ H a b x y Q s ha hb o
  unfold dRep at o
  cases e1 : c.seqL a with
  | none => rw [e1] at o; exact o.elim
  | some xs =>
    rw [e1] at o
    obtain ⟨p, vs, rfl, hp, hv⟩ := s.seqL e1 ha
    cases hb with
    | int k =>
      obtain ⟨hz, o⟩ := Out.guard o
      rw [Bool.and_eq_true] at hz
      · have hk := of_decide_eq_true hz.1
        have hz : xs.length * k.toNat ≤ sizeLine := of_decide_eq_true hz.2
        exact ⟨p, k, vs, rfl, rfl, hp, hk.1, hk.2, by rw [← hv.length]; exact hz, fun r hr => out_freshL s (hv.rep _) o hr⟩
    | _ => exact o.elim
def cOpL (f : D → D → M (List D)) (a b : M D) : M (List D) := a.bind fun x => b.bind fun y => f x y
section
variable {X : Cx} {g : G} {W : WX} {pos : Pos}
theorem twoL {r : R2} {f : D → D → M (List D)} (h : S2L g r f) {fa fb : M D} (σ : L2.St) (H : Hp) (Q : VK) (q : tL g W (cOpL f fa fb) σ H Q) : tOp r (tE g W fa) (tE g W fb) σ H Q := by
  obtain ⟨m, c, s, o⟩ := q
  refine ⟨m, c, s, o.bind.imp fun x H1 ⟨m1, a, c1, x1, s1, k1, o1⟩ => ⟨m1, c1, s1, o1.bind.imp fun y H2 ⟨m2, b, c2, x2, s2, k2, o2⟩ => ?_⟩⟩
  exact h W m2 c2 σ H2 a b x y Q s2 (k1.mono x2) k2 o2
theorem sl_op {op : Operator} {r : R2} {f : D → D → M (List D)} (ho : OpR X (binaryOp op) r) (h : S2L g r f) {a b : Expr} {fa fb : M D} (ha : PE X a (tE g W fa)) (hb : PE X b (tE g W fb)) : PE X (.BinOp a op b pos) (tL g W (cOpL f fa fb)) := pe_imp (pe_op ho ha hb) (twoL h)
end
/-- ints alone -/
def dI2 (C : Int → Int → Bool) (f : Int → Int → D) : D → D → M D
  | .int i, .int j => M.guard (C i j) (M.ret (f i j))
  | _, _ => fun _ => .stuck
theorem s2_int {g : G} {C : Int → Int → Bool} {C' : Int → Int → Prop} {f : Int → Int → D} {f' : Int → Int → V} (hC : ∀ i j, C i j = true → C' i j) (hf : ∀ m i j, Sv g m (f i j) (f' i j)) : S2 g (rI C' f') (dI2 C f) := by
  intro W m c σ H a b x y Q s ha hb o
  cases ha with
  | int i =>
    cases hb with
    | int j =>
      obtain ⟨hz, o⟩ := Out.guard o
      exact ⟨i, j, rfl, rfl, hC i j hz, o.here s (hf m i j)⟩
    | _ => exact o.elim
  | _ => exact o.elim
theorem s2_int0 {g : G} {f : Int → Int → D} {f' : Int → Int → V} (hf : ∀ m i j, Sv g m (f i j) (f' i j)) : S2 g (rI0 f') (dI2 (fun _ _ => true) f) := by
  intro W m c σ H a b x y Q s ha hb o
  cases ha with
  | int i =>
    cases hb with
    | int j => exact ⟨i, j, rfl, rfl, o.here s (hf m i j)⟩
    | _ => exact o.elim
  | _ => exact o.elim
def cMul (i j : Int) : Bool := decide ((-(2 ^ 64) < i ∧ i < 2 ^ 64) ∨ (-(2 ^ 64) < j ∧ j < 2 ^ 64))
def cDiv (i j : Int) : Bool := decide (0 < j ∧ j < 1073741824)
def cPow (i j : Int) : Bool := decide (0 ≤ j ∧ j ≤ 1000000 ∧ i.natAbs < 2 ^ 64)
abbrev dSub : D → D → M D := dI2 (fun _ _ => true) fun i j => .int (i - j)
abbrev dMul : D → D → M D := dI2 cMul fun i j => .int (i * j)
abbrev dDiv : D → D → M D := dI2 cDiv fun i j => .int (i / j)
abbrev dMod : D → D → M D := dI2 (fun _ j => decide (0 < j)) fun i j => .int (i % j)
abbrev dPow : D → D → M D := dI2 cPow fun i j => .int (i ^ j.toNat)
abbrev dLt : D → D → M D := dI2 (fun _ _ => true) fun i j => .bl (decide (i < j))
abbrev dLe : D → D → M D := dI2 (fun _ _ => true) fun i j => .bl (decide (i ≤ j))
abbrev dGt : D → D → M D := dI2 (fun _ _ => true) fun i j => .bl (decide (j < i))
abbrev dGe : D → D → M D := dI2 (fun _ _ => true) fun i j => .bl (decide (j ≤ i))
section
variable {g : G}
theorem s2_sub : S2 g (rI0 fun i j => .int (i - j)) dSub := s2_int0 fun _ _ _ => .int _
theorem s2_mul : S2 g (rI CMul fun i j => .int (i * j)) dMul := s2_int (C := cMul) (fun i j h => (of_decide_eq_true h : (-(2 ^ 64) < i ∧ i < 2 ^ 64) ∨ (-(2 ^ 64) < j ∧ j < 2 ^ 64))) fun _ _ _ => .int _
theorem s2_div : S2 g (rI CDiv fun i j => .int (i / j)) dDiv := s2_int (C := cDiv) (fun i j h => (of_decide_eq_true h : 0 < j ∧ j < 1073741824)) fun _ _ _ => .int _
theorem s2_mod : S2 g (rI (fun _ j => 0 < j) fun i j => .int (i % j)) dMod := s2_int (fun _ _ h => of_decide_eq_true h) fun _ _ _ => .int _
theorem s2_pow : S2 g (rI CPow fun i j => .int (i ^ j.toNat)) dPow := s2_int (C := cPow) (fun i j h => (of_decide_eq_true h : 0 ≤ j ∧ j ≤ 1000000 ∧ i.natAbs < 2 ^ 64)) fun _ _ _ => .int _
theorem s2_lt : S2 g (rI0 fun i j => .bl (decide (i < j))) dLt := s2_int0 fun _ _ _ => .bl _
theorem s2_le : S2 g (rI0 fun i j => .bl (decide (i ≤ j))) dLe := s2_int0 fun _ _ _ => .bl _
theorem s2_gt : S2 g (rI0 fun i j => .bl (decide (j < i))) dGt := s2_int0 fun _ _ _ => .bl _
theorem s2_ge : S2 g (rI0 fun i j => .bl (decide (j ≤ i))) dGe := s2_int0 fun _ _ _ => .bl _
end

/-! ## equality of data -/
mutual
def toP : D → Option PyData
  | .non => some .none
  | .bl b => some (.bool b)
  | .int i => some (.int i)
  | .str x => some (.str x)
  | .tup xs => (toPs xs).map .tuple
  | .lst xs => (toPs xs).map .list
  | .obj _ _ => none
  | .ref _ => none
  | .scr _ => none
def toPs : List D → Option (List PyData)
  | [] => some []
  | d :: ds => match toP d, toPs ds with
    | some p, some ps => some (p :: ps)
    | _, _ => none
end
mutual
theorem Sim.dp {g : G} {m : Mp} {c : CS} {σ : L2.St} {H : Hp} (s : Sim g m c σ H) : ∀ {d : D} {v : V} {p : PyData}, Sv g m d v → toP d = some p → Dp g.K H v p
  | _, _, _, .non, e => by
    simp only [toP, Option.some.injEq] at e
    subst e
    exact .non
  | _, _, _, .bl b, e => by
    simp only [toP, Option.some.injEq] at e
    subst e
    exact .bl b
  | _, _, _, .int i, e => by
    simp only [toP, Option.some.injEq] at e
    subst e
    exact .int i
  | _, _, _, .str x, e => by
    simp only [toP, Option.some.injEq] at e
    subst e
    exact .str x
  | .tup xs, _, _, .tup h1 h2, e => by
    simp only [toP, Option.map_eq_some_iff] at e
    obtain ⟨ps, e1, e2⟩ := e
    subst e2
    exact .tup (s.sqT h1) (Sim.dps s h2 e1)
  | .lst xs, _, _, .lst h1 h2, e => by
    simp only [toP, Option.map_eq_some_iff] at e
    obtain ⟨ps, e1, e2⟩ := e
    subst e2
    exact .lst (SqL.of (s.fr _ _ h1)) (Sim.dps s h2 e1)
  | _, _, _, .obj _ _ _ _, e => by simp [toP] at e
  | _, _, _, .ref _, e => by simp [toP] at e
  | _, _, _, .scr _, e => by simp [toP] at e
theorem Sim.dps {g : G} {m : Mp} {c : CS} {σ : L2.St} {H : Hp} (s : Sim g m c σ H) : ∀ {ds : List D} {vs : List V} {ps : List PyData}, Svs g m ds vs → toPs ds = some ps → DpAll g.K H vs ps
  | _, _, _, .nil, e => by
    simp only [toPs, Option.some.injEq] at e
    subst e
    exact .nil
  | d :: ds, _, _, .cons h1 h2, e => by
    rw [toPs] at e
    cases e1 : toP d with
    | none => rw [e1] at e; cases e
    | some p =>
      cases e2 : toPs ds with
      | none => rw [e1, e2] at e; cases e
      | some ps =>
        rw [e1, e2] at e
        cases e
        exact .cons (Sim.dp s h1 e1) (Sim.dps s h2 e2)
end
/-- two data, and what is asked of them -/
def dP2 (f : PyData → PyData → D) (a b : D) : M D := match toP a, toP b with
  | some p, some q => M.guard (SeqAt.shaped p && SeqAt.shaped q) (M.ret (f p q))
  | _, _ => fun _ => .stuck
abbrev dEq : D → D → M D := dP2 fun p q => .bl (PyData.eqv p q)
abbrev dNe : D → D → M D := dP2 fun p q => .bl (!PyData.eqv p q)
theorem s2_dp {g : G} {f : PyData → PyData → Bool} : S2 g (fun x y H Q => ∃ d e, Dp g.K H x d ∧ Dp g.K H y e ∧ SeqAt.shaped d = true ∧ SeqAt.shaped e = true ∧ Q (.bl (f d e)) H) (dP2 fun p q => .bl (f p q)) := by
  intro W m c σ H a b x y Q s ha hb o
  unfold dP2 at o
  cases e1 : toP a with
  | none => rw [e1] at o; exact o.elim
  | some p =>
    cases e2 : toP b with
    | none => rw [e1, e2] at o; exact o.elim
    | some q =>
      rw [e1, e2] at o
      obtain ⟨hz, o⟩ := Out.guard o
      rw [Bool.and_eq_true] at hz
      · exact ⟨p, q, s.dp ha e1, s.dp hb e2, hz.1, hz.2, o.here s (.bl _)⟩
theorem s2_eq {g : G} : S2 g (rEqD g.K) dEq := s2_dp
theorem s2_ne {g : G} : S2 g (rNeD g.K) dNe := s2_dp
/-- is None, is not None -/
def D.isNon : D → Bool
  | .non => true
  | _ => false
def dIs : D → D → M D := fun a b => match b with
  | .non => M.ret (.bl a.isNon)
  | _ => fun _ => .stuck
def dIsNot : D → D → M D := fun a b => match b with
  | .non => M.ret (.bl (!a.isNon))
  | _ => fun _ => .stuck
theorem Sv.isNon {g : G} {m : Mp} {d : D} {v : V} (h : Sv g m d v) : decide (v = .non) = d.isNon := by
  cases h <;> first | rfl | exact decide_eq_false (fun z => nomatch z)
theorem s2_is {g : G} : S2 g (fun x y H Q => y = .non ∧ Q (.bl (decide (x = .non))) H) dIs := by
  intro W m c σ H a b x y Q s ha hb o
  cases hb with
  | non => exact ⟨rfl, by rw [ha.isNon]; exact o.here s (.bl _)⟩
  | _ => exact o.elim
theorem s2_isnot {g : G} : S2 g (fun x y H Q => y = .non ∧ Q (.bl (!decide (x = .non))) H) dIsNot := by
  intro W m c σ H a b x y Q s ha hb o
  cases hb with
  | non => exact ⟨rfl, by rw [ha.isNon]; exact o.here s (.bl _)⟩
  | _ => exact o.elim

/-! ## places -/
def dIx (a b : D) : M D := fun c => match b with
  | .int i => match a with
    | .tup xs => M.opt (atI xs i) c
    | .str x => M.guard (szOk x.length) (M.opt ((atI x.cps.toList i).map fun k => .str ⟨#[k]⟩)) c
    | _ => match c.seqL a with
      | some xs => M.opt (atI xs i) c
      | none => .stuck
  | _ => .stuck
theorem Svs.atI {g : G} {m : Mp} {ds : List D} {vs : List V} (h : Svs g m ds vs) {i : Int} {d : D} (e : L2.atI ds i = some d) : ∃ v, L2.atI vs i = some v ∧ Sv g m d v := by
  unfold L2.atI at e ⊢
  rw [← h.length]
  cases q : ixN ds.length i with
  | none => rw [q] at e; cases e
  | some j =>
    rw [q] at e
    exact h.get (i := j) e
theorem s2_ix {g : G} : S2 g (rIx g.K) dIx := by
  intro W m c σ H a b x y Q s ha hb o
  have hb0 := hb
  cases hb with
  | int i =>
    have go : ∀ {xs : List D} {vs : List V}, Svs g m xs vs → Out (rE g) g W σ m (M.opt (atI xs i) c) Q → ∃ v, atI vs i = some v ∧ Q v H := fun {xs vs} hv o => by
      cases e : atI xs i with
      | none => rw [e] at o; exact o.elim
      | some d =>
        rw [e] at o
        obtain ⟨v, e1, e2⟩ := hv.atI e
        exact ⟨v, e1, o.here s e2⟩
    have lst : ∀ {xs : List D}, c.seqL a = some xs → Out (rE g) g W σ m (M.opt (atI xs i) c) Q → rIx g.K x (.int i) H Q := fun {xs} e o => by
      obtain ⟨p, vs, rfl, hp, hv⟩ := s.seqL e ha
      obtain ⟨v, e1, q⟩ := go hv o
      exact .inl ⟨p, vs, i, v, rfl, rfl, SqL.of hp, e1, q⟩
    unfold dIx at o
    dsimp only at o
    cases ha with
    | @tup p xs vs h1 h2 =>
      obtain ⟨v, e1, q⟩ := go h2 o
      exact .inr (.inl ⟨p, vs, i, v, rfl, rfl, s.sqT h1, e1, q⟩)
    | str z =>
      obtain ⟨hz, o⟩ := Out.guard o
      · cases e : atI z.cps.toList i with
        | none => rw [e] at o; exact o.elim
        | some k =>
          rw [e] at o
          exact .inr (.inr ⟨z, i, k, rfl, rfl, of_decide_eq_true hz, e, o.here s (.str _)⟩)
    | @lst p xs vs h1 h2 => exact lst rfl o
    | @ref n p h1 =>
      dsimp only at o
      cases e : c.seqL (.ref n) with
      | none => rw [e] at o; exact o.elim
      | some xs =>
        rw [e] at o
        exact lst e o
    | _ => exact o.elim
  | _ => exact o.elim
/-! ## in -/
def flatP : PyData → Bool
  | .list _ => false
  | .tuple _ => false
  | .dict _ => false
  | _ => true
theorem flat_of {K : PySem.W.Frag} {H : Hp} {v : V} {p : PyData} (h : Dp K H v p) (f : flatP p = true) : flatV v = true := by
  cases h <;> first | rfl | cases f
theorem eqV_of {K : PySem.W.Frag} {H : Hp} {x y : V} {p q : PyData} (h : Dp K H x p) (k : Dp K H y q) (f : flatP p = true) (f' : flatP q = true) : eqV x y = PyData.eqv p q := by
  cases h <;> first | (cases f; done) | (cases k <;> first | (cases f'; done) | rfl | (simp [eqV, PyData.eqv]; done) | (rename_i a b; cases a <;> rfl) | (rename_i a b; cases b <;> rfl))
theorem flats_of {K : PySem.W.Frag} {H : Hp} : ∀ {vs : List V} {ps : List PyData}, DpAll K H vs ps → ps.all flatP = true → vs.all flatV = true
  | _, _, .nil, _ => rfl
  | _, _, .cons h r, f => by
    rw [List.all_cons, Bool.and_eq_true] at f
    rw [List.all_cons, Bool.and_eq_true]
    exact ⟨flat_of h f.1, flats_of r f.2⟩
theorem inV_of {K : PySem.W.Frag} {H : Hp} {x : V} {p : PyData} (h : Dp K H x p) (f : flatP p = true) : ∀ {vs : List V} {ps : List PyData}, DpAll K H vs ps → ps.all flatP = true → inV x vs = ps.any fun z => PyData.eqv z p
  | _, _, .nil, _ => rfl
  | _, _, .cons k r, f' => by
    rw [List.all_cons, Bool.and_eq_true] at f'
    have ih := inV_of h f r f'.2
    unfold inV at ih ⊢
    rw [List.any_cons, List.any_cons, ih, eqV_of k h f'.1 f]
def ynot (neg b : Bool) : Bool := if neg then !b else b
def dIn (neg : Bool) (a b : D) : M D := fun c => match b with
  | .tup xs => match toP a, toPs xs with
    | some p, some ps => M.guard (flatP p && ps.all flatP) (M.ret (.bl (ynot neg (ps.any fun z => PyData.eqv z p)))) c
    | _, _ => .stuck
  | .lst xs => match toP a, toPs xs with
    | some p, some ps => M.guard (SeqAt.shaped p && SeqAt.shaped (.list ps)) (M.ret (.bl (ynot neg (ps.any fun z => PyData.eqv z p)))) c
    | _, _ => .stuck
  | _ => .stuck
def rInA (K : PySem.W.Frag) (neg : Bool) : R2 := fun x y H Q => rIn K neg x y H Q ∨ ∃ d ds, Dp K H x d ∧ Dp K H y (.list ds) ∧ SeqAt.shaped d = true ∧ SeqAt.shaped (.list ds) = true ∧ Q (.bl (ynot neg (ds.any fun z => PyData.eqv z d))) H
theorem op_inA {X : Cx} (hu : X.A.units + 65 < cLine) : OpR X (compareOp .In) (rInA X.K false) := OpR.or op_in_seq (op_inD hu)
theorem op_notInA {X : Cx} (hu : X.A.units + 65 < cLine) : OpR X (compareOp .NotIn) (rInA X.K true) := OpR.or op_notIn_seq (op_notInD hu)
theorem s2_in {g : G} {neg : Bool} : S2 g (rInA g.K neg) (dIn neg) := by
  intro W m c σ H a b x y Q s ha hb o
  cases hb with
  | @tup t xs vs h1 h2 =>
    have o : Out (rE g) g W σ m (match toP a, toPs xs with
      | some p, some ps => M.guard (flatP p && ps.all flatP) (M.ret (.bl (ynot neg (ps.any fun z => PyData.eqv z p)))) c
      | _, _ => .stuck) Q := o
    cases e1 : toP a with
    | none => rw [e1] at o; exact o.elim
    | some p =>
      cases e2 : toPs xs with
      | none => rw [e1, e2] at o; exact o.elim
      | some ps =>
        rw [e1, e2] at o
        obtain ⟨hz, o⟩ := Out.guard o
        rw [Bool.and_eq_true] at hz
        have d1 := s.dp ha e1
        have d2 := s.dps h2 e2
        refine .inl ⟨t, vs, rfl, .inr (s.sqT h1), flat_of d1 hz.1, flats_of d2 hz.2, ?_⟩
        rw [inV_of d1 hz.1 d2 hz.2]
        exact o.here s (.bl _)
  | @lst t xs vs h1 h2 =>
    have o : Out (rE g) g W σ m (match toP a, toPs xs with
      | some p, some ps => M.guard (SeqAt.shaped p && SeqAt.shaped (.list ps)) (M.ret (.bl (ynot neg (ps.any fun z => PyData.eqv z p)))) c
      | _, _ => .stuck) Q := o
    cases e1 : toP a with
    | none => rw [e1] at o; exact o.elim
    | some p =>
      cases e2 : toPs xs with
      | none => rw [e1, e2] at o; exact o.elim
      | some ps =>
        rw [e1, e2] at o
        obtain ⟨hz, o⟩ := Out.guard o
        rw [Bool.and_eq_true] at hz
        exact .inr ⟨p, ps, s.dp ha e1, .lst (SqL.of (s.fr _ _ h1)) (s.dps h2 e2), hz.1, hz.2, o.here s (.bl _)⟩
  | _ => exact o.elim
/-! ## slices -/
def dCutT (a : D) (lo hi : Option Int) : M D := match a with
  | .tup xs => M.ret (.tup ((xs.drop (HT.sIx xs.length 0 lo)).take (HT.sIx xs.length xs.length hi - HT.sIx xs.length 0 lo)))
  | .str x => M.guard (szOk x.length) (M.ret (.str (cutS x lo hi)))
  | _ => fun _ => .stuck
def dCutL (a : D) (lo hi : Option Int) : M (List D) := fun c => match a with
  | .scr ns => .ok (((ns.drop (HT.sIx ns.length 0 lo)).take (HT.sIx ns.length ns.length hi - HT.sIx ns.length 0 lo)).map D.int) c
  | _ => match c.seqL a with
    | some xs => .ok ((xs.drop (HT.sIx xs.length 0 lo)).take (HT.sIx xs.length xs.length hi - HT.sIx xs.length 0 lo)) c
    | none => .stuck
theorem svs_ints {g : G} {m : Mp} : ∀ ns : List Int, Svs g m (ns.map D.int) (ns.map V.int)
  | [] => .nil
  | n :: ns => .cons (.int n) (svs_ints ns)
theorem cut_all {α : Type} {xs : List α} {lo hi : Option Int} (h : HT.sIx xs.length 0 lo = 0 ∧ HT.sIx xs.length xs.length hi = xs.length) : (xs.drop (HT.sIx xs.length 0 lo)).take (HT.sIx xs.length xs.length hi - HT.sIx xs.length 0 lo) = xs := by
  rw [h.1, h.2]
  simp
def rCutT (K : PySem.W.Frag) : V → Option Int → Option Int → Hp → VK → Prop := fun x lo hi H Q => rSlA K x lo hi H Q ∨ rSlS x lo hi H Q
def cCutT (a : M D) (lo hi : M (Option Int)) : M D := a.bind fun x => lo.bind fun l => hi.bind fun u => dCutT x l u
def cCutL (a : M D) (lo hi : M (Option Int)) : M (List D) := a.bind fun x => lo.bind fun l => hi.bind fun u => dCutL x l u
section
variable {X : Cx} {g : G} {W : WX} {pos p2 : Pos} {e : Expr} {lo hi : Option Expr} {fa : M D} {fl fh : M (Option Int)}
theorem se_cutT (hK : X.K = g.K) (he : PE X e (tE g W fa)) (hl : PO X lo (tP g W fl)) (hu : PO X hi (tP g W fh)) : PE X (.Subscript e (.Slice lo hi none p2) pos) (tE g W (cCutT fa fl fh)) := by
  refine pe_imp (pe_slice (r := rCutT X.K) (SlR.or sl_tupA sl_str) he hl hu) fun σ H Q ⟨m, c, s, o⟩ => ⟨m, c, s, o.bind.imp fun x H1 ⟨m1, a, c1, x1, s1, k1, o1⟩ => ⟨m1, c1, s1, o1.bind.imp fun l H2 ⟨m2, l', c2, x2, s2, k2, o2⟩ => ⟨m2, c2, s2, o2.bind.imp fun u H3 ⟨m3, u', c3, x3, s3, k3, o3⟩ => ?_⟩⟩⟩
  have k2 : l' = l := k2
  have k3 : u' = u := k3
  subst k2 k3
  have k1 := (k1.mono x2).mono x3
  rw [hK]
  cases k1 with
  | @tup a xs vs h1 h2 =>
    refine .inl ⟨a, vs, rfl, s3.sqT h1, fun hw => ?_, fun _ p hp => ?_⟩
    · rw [← h2.length] at hw
      have o3 : Out (rE g) g W σ m3 (.ok (.tup ((xs.drop (HT.sIx xs.length 0 l')).take (HT.sIx xs.length xs.length u' - HT.sIx xs.length 0 l'))) c3) Q := o3
      rw [cut_all hw] at o3
      exact o3.here s3 (.tup h1 h2)
    · unfold cutV
      rw [← h2.length]
      exact out_newT s3 ((h2.drop _).take _) o3 hp
  | str z =>
    obtain ⟨hz, o3⟩ := Out.guard o3
    exact .inr ⟨z, rfl, of_decide_eq_true hz, o3.here s3 (.str _)⟩
  | _ => exact o3.elim
theorem sl_cut (hK : X.K = g.K) (he : PE X e (tE g W fa)) (hl : PO X lo (tP g W fl)) (hu : PO X hi (tP g W fh)) : PE X (.Subscript e (.Slice lo hi none p2) pos) (tL g W (cCutL fa fl fh)) := by
  refine pe_imp (pe_slice sl_list he hl hu) fun σ H Q ⟨m, c, s, o⟩ => ⟨m, c, s, o.bind.imp fun x H1 ⟨m1, a, c1, x1, s1, k1, o1⟩ => ⟨m1, c1, s1, o1.bind.imp fun l H2 ⟨m2, l', c2, x2, s2, k2, o2⟩ => ⟨m2, c2, s2, o2.bind.imp fun u H3 ⟨m3, u', c3, x3, s3, k3, o3⟩ => ?_⟩⟩⟩
  have k2 : l' = l := k2
  have k3 : u' = u := k3
  subst k2 k3
  have k1 := (k1.mono x2).mono x3
  rw [hK]
  have go : ∀ {xs : List D}, c3.seqL a = some xs → Out (rL g) g W σ m3 (.ok ((xs.drop (HT.sIx xs.length 0 l')).take (HT.sIx xs.length xs.length u' - HT.sIx xs.length 0 l')) c3) Q → rSlL g.K x l' u' H3 Q := fun {xs} eq o => by
    obtain ⟨p, vs, rfl, hp, hv⟩ := s3.seqL eq k1
    refine ⟨p, vs, rfl, SqL.of hp, fun q hq => ?_⟩
    unfold cutV
    rw [← hv.length]
    exact out_freshL s3 ((hv.drop _).take _) o hq
  cases a with
  | scr ns =>
    cases k1 with
    | scr h1 =>
      refine ⟨_, _, rfl, s3.sqL h1, fun q hq => ?_⟩
      unfold cutV
      rw [List.length_map, ← List.map_drop, ← List.map_take]
      exact out_freshL s3 (svs_ints _) o3 hq
  | lst xs => exact go rfl o3
  | ref n =>
    cases eq : c3.seqL (.ref n) with
    | none =>
      have o3 : Out (rL g) g W σ m3 (match c3.seqL (.ref n) with
        | some xs => .ok ((xs.drop (HT.sIx xs.length 0 l')).take (HT.sIx xs.length xs.length u' - HT.sIx xs.length 0 l')) c3
        | none => .stuck) Q := o3
      rw [eq] at o3
      exact o3.elim
    | some xs =>
      have o3 : Out (rL g) g W σ m3 (match c3.seqL (.ref n) with
        | some xs => .ok ((xs.drop (HT.sIx xs.length 0 l')).take (HT.sIx xs.length xs.length u' - HT.sIx xs.length 0 l')) c3
        | none => .stuck) Q := o3
      rw [eq] at o3
      exact go eq o3
  | _ => exact o3.elim
def cNoPart : M (Option Int) := M.ret none
def dPart (d : D) : M (Option Int) := match d with
  | .int i => M.ret (some i)
  | _ => fun _ => .stuck
def cPart (f : M D) : M (Option Int) := f.bind dPart
theorem so_none : PO X none (tP g W cNoPart) := po_imp po_none fun σ H Q ⟨m, c, s, o⟩ => o.here s rfl
theorem so_some {e : Expr} {f : M D} (h : PE X e (tE g W f)) : PO X (some e) (tP g W (cPart f)) := by
  refine po_imp (po_some h) fun σ H Q ⟨m, c, s, o⟩ => ⟨m, c, s, o.bind.imp fun x H1 ⟨m1, d, c1, x1, s1, k1, o1⟩ => ?_⟩
  cases k1 with
  | int i => exact ⟨i, rfl, o1.here s1 rfl⟩
  | _ => exact o1.elim
end
end CL
namespace CL
open PySem PySem.Spec PyProof.Rows L2

/-! ## the text's forms -/
def isStar : Expr → Bool
  | .Starred _ _ => true
  | _ => false
theorem star_plain {e : Expr} {es : List Expr} {env : Env} (h : isStar e = false) : starEach (e :: es) env = (false, eval e env) :: starEach es env := by
  cases e <;> first | rfl | cases h
def plainArgs (es : List Expr) : Bool := es.all fun e => !isStar e
theorem plain_any {pos : Pos} {env : Env} : ∀ {es : List Expr}, plainArgs es = true → (backTo pos (starEach es env)).any (·.1) = false
  | [], _ => rfl
  | e :: es, h => by
    unfold plainArgs at h
    rw [List.all_cons, Bool.and_eq_true] at h
    have h1 : isStar e = false := by simpa using h.1
    rw [star_plain h1]
    show (false || (backTo pos (starEach es env)).any (·.1)) = false
    rw [plain_any (es := es) h.2]
    rfl
theorem plain_all {pos : Pos} {env : Env} : ∀ {es : List Expr}, plainArgs es = true → (backTo pos (starEach es env)).all (!·.1) = true
  | [], _ => rfl
  | e :: es, h => by
    unfold plainArgs at h
    rw [List.all_cons, Bool.and_eq_true] at h
    have h1 : isStar e = false := by simpa using h.1
    rw [star_plain h1]
    show (true && (backTo pos (starEach es env)).all (!·.1)) = true
    rw [plain_all (es := es) h.2]
    rfl
/-- no super() -/
def okBase : Expr → Bool
  | .Call (.Name _ _) [] [] _ => false
  | _ => true
theorem base_ok {o : Expr} {f : Str} {env : Env} {t : Sem Value} (h : okBase o = true) : attributeBase o f env t = t := by
  unfold attributeBase
  split
  · cases h
  · rfl
theorem meth_form {o : Expr} {m : Str} {apos pos : Pos} {args : List Expr} {env : Env} (h1 : okBase o = true) (h2 : plainArgs args = true) (h3 : (apos.endLine == pos.line) = true) (h4 : decide (args.length < 30) = true) :
    eval (.Call (.Attribute o m apos) args [] pos) env = (do
      let ov ← eval o env
      standAt apos.atName
      let (f, first) ← holding [ov] (getMethod ov m (do return (← importBound o env).getD true))
      callWith pos f first (backTo pos (starEach args env)) (backToKw pos (keywordEach [] env))) := by
  rw [arm_eval_Call, base_ok h1]
  have e : methodCallForm (args.length + ([] : List Keyword).length) (backTo pos (starEach args env)) (backToKw pos (keywordEach [] env)) = true := by
    unfold methodCallForm
    rw [plain_all h2]
    have h5 := of_decide_eq_true h4
    show (true && true && decide (args.length + 0 + 0 < 30)) = true
    rw [decide_eq_true (show args.length + 0 + 0 < 30 by omega)]
    rfl
  have e2 : methodCallPos true o env apos pos = pure pos := by
    unfold methodCallPos
    rw [if_pos (by rw [h3]; rfl)]
  unfold methodCall
  rw [e, e2]
  rfl
def notSet : Expr → Bool
  | .Set _ _ _ => false
  | _ => true
theorem marks_ok {op : CmpOp} {b : Expr} (h : notSet b = true) : behindInMarks op b = false := by
  cases b <;> first | rfl | cases h
theorem folded_ok {e : Expr} {env : Env} (h : notSet e = true) (x : Value) : foldedSetIterable e env x = pure x := by
  cases e <;> first | rfl | cases h
def notSlice : Expr → Bool
  | .Slice _ _ _ _ => false
  | _ => true
theorem plainIx_ok {b : Expr} (h : notSlice b = true) : PlainIx b := by
  intro o i
  cases b <;> first | rfl | cases h
/-- its test is its value's truth -/
def plainTest : Expr → Bool
  | .UnaryOp .Not _ _ => false
  | .BoolOp _ _ _ => false
  | .IfExp _ _ _ _ => false
  | .Compare _ _ _ _ => false
  | _ => true
theorem test_ok {e : Expr} {env : Env} (h : plainTest e = true) (whole : Sem Value) : isTrue e env whole = (do let v ← whole; standAt e.pos; holding [v] (truthy v)) := by
  cases e <;> first | rfl | (cases h; done) | skip
  case UnaryOp op x p => cases op <;> first | rfl | cases h

/-! ## and, or, not, if -/
def cAnd (a b : M D) : M D := a.bind fun x => match x with
  | .bl true => b
  | .bl false => M.ret (.bl false)
  | _ => fun _ => .stuck
def cOr (a b : M D) : M D := a.bind fun x => match x with
  | .bl true => M.ret (.bl true)
  | .bl false => b
  | _ => fun _ => .stuck
def cNot (a : M D) : M D := a.bind fun x => match x with
  | .bl b => M.ret (.bl (!b))
  | _ => fun _ => .stuck
def cAndT (a b : M Bool) : M Bool := a.bind fun x => match x with
  | true => b
  | false => M.ret false
def cOrT (a b : M Bool) : M Bool := a.bind fun x => match x with
  | true => M.ret true
  | false => b
def cNotT (a : M Bool) : M Bool := a.bind fun x => M.ret (!x)
def cIf {α : Type} (t : M Bool) (a b : M α) : M α := t.bind fun x => match x with
  | true => a
  | false => b
def dTru (d : D) : M Bool := fun c => match d with
  | .non => .ok false c
  | .bl b => .ok b c
  | .int i => .ok (i != 0) c
  | .str x => M.guard (szOk x.length) (M.ret ((x.length : Int) != 0)) c
  | .tup xs => .ok (!xs.isEmpty) c
  | .scr _ => .stuck
  | .obj _ _ => .stuck
  | _ => match c.seqL d with
    | some xs => .ok (!xs.isEmpty) c
    | none => .stuck
def cTru (f : M D) : M Bool := f.bind dTru
section
variable {X : Cx} {g : G} {W : WX} {pos : Pos} {a b e : Expr} {rest : List Expr} {fa fb : M D} {ta tb : M Bool}
theorem se_one {op : PySem.BoolOp} (h : PE X a (tE g W fa)) : PE X (.BoolOp op [a] pos) (tE g W fa) := pe_one h
theorem se_and (ha : PE X a (tE g W fa)) (hb : PE X (.BoolOp .And (b :: rest) pos) (tE g W fb)) : PE X (.BoolOp .And (a :: b :: rest) pos) (tE g W (cAnd fa fb)) := by
  refine pe_imp (pe_and ha hb) fun σ H Q ⟨m, c, s, o⟩ => ⟨m, c, s, o.bind.imp fun x H1 ⟨m1, d, c1, x1, s1, k1, o1⟩ => ?_⟩
  cases k1 with
  | bl b =>
    refine ⟨b, rfl, ?_⟩
    cases b with
    | true => exact ⟨m1, c1, s1, o1⟩
    | false => exact o1.here s1 (.bl _)
  | _ => exact o1.elim
theorem se_or (ha : PE X a (tE g W fa)) (hb : PE X (.BoolOp .Or (b :: rest) pos) (tE g W fb)) : PE X (.BoolOp .Or (a :: b :: rest) pos) (tE g W (cOr fa fb)) := by
  refine pe_imp (pe_or ha hb) fun σ H Q ⟨m, c, s, o⟩ => ⟨m, c, s, o.bind.imp fun x H1 ⟨m1, d, c1, x1, s1, k1, o1⟩ => ?_⟩
  cases k1 with
  | bl b =>
    refine ⟨b, rfl, ?_⟩
    cases b with
    | true => exact o1.here s1 (.bl _)
    | false => exact ⟨m1, c1, s1, o1⟩
  | _ => exact o1.elim
theorem se_not (ha : PE X a (tE g W fa)) : PE X (.UnaryOp .Not a pos) (tE g W (cNot fa)) := by
  refine pe_imp (pe_not ha) fun σ H Q ⟨m, c, s, o⟩ => ⟨m, c, s, o.bind.imp fun x H1 ⟨m1, d, c1, x1, s1, k1, o1⟩ => ?_⟩
  cases k1 with
  | bl b => exact ⟨b, rfl, o1.here s1 (.bl _)⟩
  | _ => exact o1.elim
/-- not of what is no bool -/
def cNotV (t : M Bool) : M D := t.bind fun x => M.ret (.bl (!x))
theorem se_if {t : Expr} (ht : PT X t (tT g W ta)) (ha : PE X a (tE g W fa)) (hb : PE X b (tE g W fb)) : PE X (.IfExp t a b pos) (tE g W (cIf ta fa fb)) := by
  refine pe_imp (pe_ifExp ht ha hb) fun σ H Q ⟨m, c, s, o⟩ => ⟨m, c, s, o.bind.imp fun x H1 ⟨m1, d, c1, x1, s1, k1, o1⟩ => ?_⟩
  have k1 : d = x := k1
  subst k1
  cases d with
  | true => exact ⟨m1, c1, s1, o1⟩
  | false => exact ⟨m1, c1, s1, o1⟩
theorem sw_and1 (ha : PT X a (tT g W ta)) : PW X (.BoolOp .And [a] pos) (tT g W ta) := pw_and1 ha
theorem sw_or1 (ha : PT X a (tT g W ta)) : PW X (.BoolOp .Or [a] pos) (tT g W ta) := pw_or1 ha
theorem sw_and (ha : PT X a (tT g W ta)) (hb : PW X (.BoolOp .And (b :: rest) pos) (tT g W tb)) : PW X (.BoolOp .And (a :: b :: rest) pos) (tT g W (cAndT ta tb)) := by
  refine pw_imp (pw_and ha hb) fun σ H Q ⟨m, c, s, o⟩ => ⟨m, c, s, o.bind.imp fun x H1 ⟨m1, d, c1, x1, s1, k1, o1⟩ => ?_⟩
  have k1 : d = x := k1
  subst k1
  cases d with
  | true => exact ⟨m1, c1, s1, o1⟩
  | false => exact o1.here s1 rfl
theorem sw_or (ha : PT X a (tT g W ta)) (hb : PW X (.BoolOp .Or (b :: rest) pos) (tT g W tb)) : PW X (.BoolOp .Or (a :: b :: rest) pos) (tT g W (cOrT ta tb)) := by
  refine pw_imp (pw_or ha hb) fun σ H Q ⟨m, c, s, o⟩ => ⟨m, c, s, o.bind.imp fun x H1 ⟨m1, d, c1, x1, s1, k1, o1⟩ => ?_⟩
  have k1 : d = x := k1
  subst k1
  cases d with
  | true => exact o1.here s1 rfl
  | false => exact ⟨m1, c1, s1, o1⟩
theorem st_not (ha : PT X a (tT g W ta)) : PT X (.UnaryOp .Not a pos) (tT g W (cNotT ta)) := by
  refine pt_imp (pt_not ha) fun σ H Q ⟨m, c, s, o⟩ => ⟨m, c, s, o.bind.imp fun x H1 ⟨m1, d, c1, x1, s1, k1, o1⟩ => ?_⟩
  have k1 : d = x := k1
  subst k1
  exact o1.here s1 rfl
/-- a value's truth -/
theorem st_tru (hK : X.K = g.K) (h : PE X e (tE g W fa)) (hp : plainTest e = true) : PT X e (tT g W (cTru fa)) := by
  refine pt_imp (pt_truth h fun whole => test_ok hp whole) fun σ H Q ⟨m, c, s, o⟩ => ⟨m, c, s, o.bind.imp fun x H1 ⟨m1, d, c1, x1, s1, k1, o1⟩ => ?_⟩
  rw [hK]
  have lst : ∀ {xs : List D}, c1.seqL d = some xs → Out rB g W σ m1 (.ok (!xs.isEmpty) c1) Q → ∃ k, TruV g.K x H1 k ∧ Q k H1 := fun {xs} e o => by
    obtain ⟨p, vs, rfl, hp, hv⟩ := s1.seqL e k1
    refine ⟨!xs.isEmpty, .inl ⟨vs, SqL.of hp, ?_⟩, o.here s1 rfl⟩
    cases hv <;> rfl
  cases k1 with
  | non => exact ⟨false, rfl, o1.here s1 rfl⟩
  | bl b => exact ⟨b, rfl, o1.here s1 rfl⟩
  | int i => exact ⟨_, rfl, o1.here s1 rfl⟩
  | str z =>
    obtain ⟨hz, o1⟩ := Out.guard o1
    exact ⟨_, ⟨of_decide_eq_true hz, rfl⟩, o1.here s1 rfl⟩
  | @tup p xs vs h1 h2 =>
    refine ⟨!xs.isEmpty, .inr (.inl ⟨vs, s1.sqT h1, ?_⟩), o1.here s1 rfl⟩
    cases h2 <;> rfl
  | @lst p xs vs h1 h2 => exact lst rfl o1
  | @ref n p h1 =>
    have o2 : Out rB g W σ m1 (match c1.seqL (.ref n) with
      | some xs => .ok (!xs.isEmpty) c1
      | none => .stuck) Q := o1
    cases e : c1.seqL (.ref n) with
    | none => rw [e] at o2; exact o2.elim
    | some xs =>
      rw [e] at o2
      exact lst e o2
  | _ => exact o1.elim
end

/-! ## displays and arguments -/
def cCons (a : M D) (r : M (List D)) : M (List D) := a.bind fun x => r.bind fun xs => M.ret (x :: xs)
def cTup (r : M (List D)) : M D := r.bind fun xs => M.guard (szOk xs.length) (M.ret (.tup xs))
def cLst (r : M (List D)) : M (List D) := r.bind fun xs => M.guard (szOk xs.length) (M.ret xs)
/-- *e -/
def dItems (d : D) : M (List D) := fun c => match d with
  | .tup xs => .ok xs c
  | _ => match c.seqL d with
    | some xs => .ok xs c
    | none => .stuck
def cStar (a : M D) (r : M (List D)) : M (List D) := a.bind fun x => (dItems x).bind fun xs => r.bind fun ys => M.ret (xs ++ ys)
theorem Sim.items {g : G} {W : WX} {m : Mp} {c : CS} {σ : L2.St} {H : Hp} (s : Sim g m c σ H) {d : D} {v : V} (k : Sv g m d v) {β γ : Type} {rel : Rl γ β} {r : List D → CS → R γ} {Q : β → Hp → Prop} (o : Out rel g W σ m ((dItems d c).bind r) Q) :
    ∃ p xs vs, v = .ref p ∧ (SqT g.K H p vs ∨ SqL g.K H p vs) ∧ Svs g m xs vs ∧ Out rel g W σ m (r xs c) Q := by
  have lst : ∀ {xs : List D}, c.seqL d = some xs → Out rel g W σ m (r xs c) Q → ∃ p xs vs, v = .ref p ∧ (SqT g.K H p vs ∨ SqL g.K H p vs) ∧ Svs g m xs vs ∧ Out rel g W σ m (r xs c) Q := fun {xs} e o => by
    obtain ⟨p, vs, rfl, hp, hv⟩ := s.seqL e k
    exact ⟨p, xs, vs, rfl, .inr (SqL.of hp), hv, o⟩
  cases k with
  | @tup p xs vs h1 h2 => exact ⟨p, xs, vs, rfl, .inl (s.sqT h1), h2, o⟩
  | @lst p xs vs h1 h2 => exact lst rfl o
  | @ref n p h1 =>
    have o : Out rel g W σ m (R.bind (match c.seqL (.ref n) with
      | some xs => .ok xs c
      | none => .stuck) r) Q := o
    cases e : c.seqL (.ref n) with
    | none => rw [e] at o; exact o.elim
    | some xs =>
      rw [e] at o
      exact lst e o
  | _ => exact o.elim
section
variable {X : Cx} {g : G} {W : WX} {pos : Pos} {e : Expr} {es : List Expr} {fa : M D} {fr : M (List D)}
theorem sa_nil : PA X [] (tA g W (M.ret [])) := pa_imp pa_nil fun σ H Q ⟨m, c, s, o⟩ => o.here s .nil
theorem sa_cons (ha : PE X e (tE g W fa)) (hr : PA X es (tA g W fr)) (hs : isStar e = false) : PA X (e :: es) (tA g W (cCons fa fr)) := by
  refine pa_imp (pa_cons ha hr (star_plain hs)) fun σ H Q ⟨m, c, s, o⟩ => ⟨m, c, s, o.bind.imp fun x H1 ⟨m1, d, c1, x1, s1, k1, o1⟩ => ⟨m1, c1, s1, o1.bind.imp fun xs H2 ⟨m2, ds, c2, x2, s2, k2, o2⟩ => ?_⟩⟩
  exact o2.here s2 (.cons (k1.mono x2) k2)
theorem sa_star {p : Pos} (hK : X.K = g.K) (ha : PE X e (tE g W fa)) (hr : PA X es (tA g W fr)) : PA X (.Starred e p :: es) (tA g W (cStar fa fr)) := by
  refine pa_imp (StX.pa_star ha hr) fun σ H Q ⟨m, c, s, o⟩ => ⟨m, c, s, o.bind.imp fun x H1 ⟨m1, d, c1, x1, s1, k1, o1⟩ => ?_⟩
  obtain ⟨q, xs, vs, rfl, h1, h2, o2⟩ := s1.items k1 o1
  refine ⟨q, vs, rfl, by rw [hK]; exact h1, ?_⟩
  exact ⟨m1, c1, s1, o2.bind.imp fun ys H2 ⟨m2, ds, c2, x2, s2, k2, o3⟩ => o3.here s2 ((h2.mono x2).append k2)⟩
theorem se_tup {k : Nat} (h : PA X es (tA g W fr)) : PE X (.Tuple es k pos) (tE g W (cTup fr)) := by
  refine pe_imp (pe_tup h) fun σ H Q ⟨m, c, s, o⟩ => ⟨m, c, s, o.bind.imp fun xs H1 ⟨m1, ds, c1, x1, s1, k1, o1⟩ => ?_⟩
  have k1 : Svs g m1 ds xs := k1
  obtain ⟨hz, o1⟩ := Out.guard o1
  exact ⟨by rw [← k1.length]; exact of_decide_eq_true hz, fun p hp => out_newT s1 k1 o1 hp⟩
theorem sl_lst (h : PA X es (tA g W fr)) : PE X (.List es pos) (tL g W (cLst fr)) := by
  refine pe_imp (pe_lst h) fun σ H Q ⟨m, c, s, o⟩ => ⟨m, c, s, o.bind.imp fun xs H1 ⟨m1, ds, c1, x1, s1, k1, o1⟩ => ?_⟩
  have k1 : Svs g m1 ds xs := k1
  obtain ⟨hz, o1⟩ := Out.guard o1
  exact ⟨by rw [← k1.length]; exact of_decide_eq_true hz, fun p hp => out_freshL s1 k1 o1 hp⟩
end

/-! ## what a def promises, and its call -/
inductive FR where
  | ok (d : D) (S : List O)
  | exc (cn : Nat) (vs : List D) (S : List O)
  | stuck
abbrev Fn := List D → List O → FR
def OutF (g : G) (m : Mp) (r : FR) (Q : VK) (E : XK) : Prop := match r with
  | .ok d S => ∀ m' v H', Ext m m' → Sim g m' ⟨[], S⟩ [] H' → Sv g m' d v → Q v H'
  | .exc cn vs S => ∀ m' H' C dd, Ext m m' → Sim g m' ⟨[], S⟩ [] H' → Exr g m' cn vs C dd → E C dd H'
  | .stuck => False
def spOf (g : G) (f : Fn) : Sp := fun vs H Q E => ∃ m S ds, Sim g m ⟨[], S⟩ [] H ∧ Svs g m ds vs ∧ OutF g m (f ds S) Q E
/-- .. of a given number of arguments -/
def spN (g : G) (n : Nat) (f : Fn) : Sp := fun vs H Q E => vs.length = n ∧ spOf g f vs H Q E
def liftF (r : FR) (c : CS) : R D := match r with
  | .ok d S => .ok d { c with S := S }
  | .exc cn vs S => .exc cn vs { c with S := S }
  | .stuck => .stuck

/-! values by the frozen part and the addresses alone -/
mutual
theorem Sv.like {g : G} {m m' : Mp} (er : ∀ (n : Nat) (a : Addr), m.rho[n]? = some a → m'.rho[n]? = some a) (ef : ∀ (a : Addr) (o : HO), m.F a = some o → m'.F a = some o) : ∀ {d : D} {v : V}, Sv g m d v → Sv g m' d v
  | _, _, .non => .non
  | _, _, .bl b => .bl b
  | _, _, .int i => .int i
  | _, _, .str x => .str x
  | _, _, .tup h r => .tup (sqT_mono ef h) (Svs.like er ef r)
  | _, _, .lst h r => .lst (ef _ _ h) (Svs.like er ef r)
  | _, _, .scr h => .scr (sqL_mono ef h)
  | _, _, .obj c h r l => .obj c (ef _ _ h) (Svs.like er ef r) l
  | _, _, .ref h => .ref (er _ _ h)
theorem Svs.like {g : G} {m m' : Mp} (er : ∀ (n : Nat) (a : Addr), m.rho[n]? = some a → m'.rho[n]? = some a) (ef : ∀ (a : Addr) (o : HO), m.F a = some o → m'.F a = some o) : ∀ {ds : List D} {vs : List V}, Svs g m ds vs → Svs g m' ds vs
  | _, _, .nil => .nil
  | _, _, .cons a b => .cons (Sv.like er ef a) (Svs.like er ef b)
end
theorem So.like {g : G} {m m' : Mp} {H H' : Hp} {a : Addr} {o : O} (er : ∀ (n : Nat) (a : Addr), m.rho[n]? = some a → m'.rho[n]? = some a) (ef : ∀ (a : Addr) (o : HO), m.F a = some o → m'.F a = some o) (k : H' a = H a) (h : So g m H a o) : So g m' H' a o := by
  cases o with
  | lst xs =>
    obtain ⟨vs, h1, h2⟩ := h
    exact ⟨vs, k.trans h1, h2.like er ef⟩
  | ins c fs =>
    obtain ⟨C, ns, dx, ws, h1, h2, h3⟩ := h
    refine ⟨C, ns, dx, ws, h1, k.trans h2, ?_⟩
    clear h2
    induction h3 with
    | nil => exact .nil
    | cons a _ ih => exact .cons (a.like er ef) ih

/-- the map that a callee is given: all that it doesn't know is in the background, but for ex -/
def Mp.call (m : Mp) (H : Hp) (ex : List Addr) (ni : Addr) : Mp := { m with ini := ni, B := fun a => if a ∈ m.rho ∨ a ∈ ex then none else match m.F a with
  | some _ => none
  | none => match H a with
    | some (.tbl _) => none
    | o => o }
theorem call_bg {m : Mp} {H : Hp} {ex : List Addr} {ni : Addr} {a : Addr} {o : HO} (h1 : a ∉ m.rho) (hx : a ∉ ex) (h2 : m.F a = none) (h3 : H a = some o) (h4 : ∀ ps, o ≠ .tbl ps) : (m.call H ex ni).B a = some o := by
  show (if a ∈ m.rho ∨ a ∈ ex then none else _) = some o
  rw [if_neg (fun z => z.elim h1 hx), h2, h3]
  cases o <;> first | rfl | (exact absurd rfl (h4 _))
theorem of_call_bg {m : Mp} {H : Hp} {ex : List Addr} {ni : Addr} {a : Addr} {o : HO} (h : (m.call H ex ni).B a = some o) : H a = some o ∧ m.F a = none ∧ a ∉ m.rho ∧ (∀ ps, o ≠ .tbl ps) ∧ a ∉ ex := by
  have h : (if a ∈ m.rho ∨ a ∈ ex then none else match m.F a with
    | some _ => none
    | none => match H a with
      | some (.tbl _) => none
      | o => o) = some o := h
  by_cases h1 : a ∈ m.rho ∨ a ∈ ex
  · rw [if_pos h1] at h; cases h
  · rw [if_neg h1] at h
    have n1 : a ∉ m.rho := fun z => h1 (.inl z)
    have n2 : a ∉ ex := fun z => h1 (.inr z)
    cases h2 : m.F a with
    | some u => rw [h2] at h; cases h
    | none =>
      rw [h2] at h
      cases h3 : H a with
      | none => rw [h3] at h; cases h
      | some u =>
        rw [h3] at h
        cases u <;> first | (cases h; done) | (cases h; exact ⟨rfl, rfl, n1, (fun ps z => nomatch z), n2⟩)
theorem Sim.call {g : G} {m : Mp} {c : CS} {σ : L2.St} {H : Hp} (s : Sim g m c σ H) (ex : List Addr) (ni : Addr) : Sim g (m.call H ex ni) ⟨[], c.S⟩ [] H :=
  ⟨s.fr, s.nd, s.len, iniOk_nil, rfl, fun n a o h1 h2 => ⟨(s.st n a o h1 h2).1, So.like (m := m) (m' := m.call H ex ni) (fun _ _ z => z) (fun _ _ z => z) rfl (s.st n a o h1 h2).2⟩, fun a o h => let ⟨z1, z2, z3, z4, _⟩ := of_call_bg h; ⟨z1, z2, z3, z4⟩, fun i t h => by
    have h : ([] : List Sl)[i]? = some t := h
    simp at h⟩
/-- behind the call: our own slots stand as they stood -/
theorem Sim.back {g : G} {m m' : Mp} {c : CS} {σ : L2.St} {H H' : Hp} {S' : List O} {ex : List Addr} {ni : Addr} (s : Sim g m c σ H) (fx : ∀ a ∈ ex, Fre m c a) (x : Ext (m.call H ex ni) m') (s' : Sim g m' ⟨[], S'⟩ [] H') :
    Ext m ⟨m'.rho, m'.F, m.B, m.lam, m.ini⟩ ∧ Sim g ⟨m'.rho, m'.F, m.B, m.lam, m.ini⟩ { c with S := S' } σ H' := by
  have e1 : Ext m ⟨m'.rho, m'.F, m.B, m.lam, m.ini⟩ := ⟨x.r, x.f, rfl, rfl⟩
  have bg : ∀ {a : Addr} {o : HO}, a ∉ m.rho → a ∉ ex → m.F a = none → H a = some o → (∀ ps, o ≠ .tbl ps) → H' a = some o ∧ m'.F a = none ∧ a ∉ m'.rho := fun {a o} h1 hx h2 h3 h4 => by
    have z := call_bg (ni := ni) h1 hx h2 h3 h4
    rw [← x.b] at z
    obtain ⟨z1, z2, z3, _⟩ := s'.bk a o z
    exact ⟨z1, z2, z3⟩
  refine ⟨e1, ⟨s'.fr, s'.nd, s'.len, s.ini, s.ln, fun n a o h1 h2 => ?_, fun a o z => ?_, fun i t h => ?_⟩⟩
  · obtain ⟨k1, k2⟩ := s'.st n a o h1 h2
    exact ⟨k1, So.like (m := m') (m' := ⟨m'.rho, m'.F, m.B, m.lam, m.ini⟩) (fun _ _ z => z) (fun _ _ z => z) rfl k2⟩
  · obtain ⟨z1, z2, z3, z4⟩ := s.bk a o z
    obtain ⟨y1, y2, y3⟩ := bg z3 (fun hx => by
      have q := (fx a hx).b
      have z : m.B a = some o := z
      rw [q] at z
      cases z) z2 z1 z4
    exact ⟨y1, y2, y3, z4⟩
  · have q := s.sl i t h
    cases t with
    | no => trivial
    | val d =>
      obtain ⟨v, q1, q2⟩ := q
      exact ⟨v, q1, Sv.like (m := m) (m' := ⟨m'.rho, m'.F, m.B, m.lam, m.ini⟩) x.r x.f q2⟩
    | own o =>
      obtain ⟨q1, q2, q3⟩ := q
      obtain ⟨u, e, mu⟩ := q2.here
      have nt : ∀ ps, u ≠ .tbl ps := fun ps z => by
        subst z
        exact mu
      obtain ⟨y1, y2, y3⟩ := bg q3.rh (fun hx => (fx _ hx).o i o h rfl) q3.fr e nt
      exact ⟨q1, So.like (m := m) (m' := ⟨m'.rho, m'.F, m.B, m.lam, m.ini⟩) x.r x.f (by rw [y1]; exact e.symm) q2, ⟨y2, q3.bk, y3, q3.ap⟩⟩
theorem exr_like {g : G} {m m' : Mp} {cn : Nat} {vs : List D} {C : Value} {d : Option Addr} (er : ∀ (n : Nat) (a : Addr), m.rho[n]? = some a → m'.rho[n]? = some a) (ef : ∀ (a : Addr) (o : HO), m.F a = some o → m'.F a = some o) (h : Exr g m cn vs C d) : Exr g m' cn vs C d := by
  obtain ⟨Ca, ns, d2, us, k1, k2, k3, k4, k5, k6⟩ := h
  exact ⟨Ca, ns, d2, us, k1, k2, k3, ef _ _ k4, k5.like er ef, k6⟩
/-- what a caller shows of the promise -/
theorem call_sp {g : G} {W : WX} {m : Mp} {c : CS} {σ : L2.St} {H : Hp} {f : Fn} {ds : List D} {vs : List V} {Q : VK} (s : Sim g m c σ H) (hv : Svs g m ds vs) (o : Out (rE g) g W σ m (liftF (f ds c.S) c) Q) : spOf g f vs H Q (fun C d H' => W C d σ H') := by
  refine ⟨m.call H [] m.ini, c.S, ds, s.call [] m.ini, Svs.like (m := m) (m' := m.call H [] m.ini) (fun _ _ z => z) (fun _ _ z => z) hv, ?_⟩
  cases e : f ds c.S with
  | ok d S' =>
    rw [e] at o
    intro m' v H' x s' k
    obtain ⟨x2, s2⟩ := s.back (ex := []) (fun a z => absurd z List.not_mem_nil) x s'
    exact o _ v H' x2 s2 (Sv.like (m := m') (m' := ⟨m'.rho, m'.F, m.B, m.lam, m.ini⟩) (fun _ _ z => z) (fun _ _ z => z) k)
  | exc cn ws S' =>
    rw [e] at o
    intro m' H' C dd x s' k
    obtain ⟨x2, s2⟩ := s.back (ex := []) (fun a z => absurd z List.not_mem_nil) x s'
    exact o _ H' C dd x2 s2 (exr_like (m := m') (m' := ⟨m'.rho, m'.F, m.B, m.lam, m.ini⟩) (fun _ _ z => z) (fun _ _ z => z) k)
  | stuck => rw [e] at o; exact o.elim
/-- a callee at f keeps the promise of fn -/
abbrev FnC (g : G) (k : Nat) (f : Addr) (fn : Fn) : Prop := FnR g.prog g.w g.K g.mg g.base (L2.CX g.prog g.w) k f (spOf g fn)
section
variable {X : Cx} {g : G} {W : WX} {pins : List (Addr × Obj)} {m : Mp} {c : CS} {σ : L2.St} {H : Hp} {s : Shared} {k : Nat} {f : Addr} {fn : Fn}
theorem run_cA {A : Around} (F : FnR X.prog X.w X.K X.mg X.base (L2.CX X.prog X.w) k f (spOf g fn)) (hr : Room k A) (e0 : Env0 X.prog X.w X.K X.mg X.base A X.stack s H) (tk : Takes X W) (I : Inv X pins σ H s) {ds : List D} {vs : List V} {us : List Value} {Q : VK} (r : Vals vs us) (sm : Sim g m c σ H) (hv : Svs g m ds vs) (o : Out (rE g) g W σ m (liftF (fn ds c.S) c) Q) :
    codeAny (model X.prog X.w) A (.call (.ref f) ⟨us, []⟩) (fun r s' => match r with | .ok (.ret v) => EP X pins σ Q v s' | .ok _ => False | .error e => X.xe e s') s := by
  refine codeAny_mono (F A X.stack s H us vs Q _ hr e0 r (call_sp (W := W) sm hv o)) fun r s' hq => ?_
  match r, hq with
  | .error e, hq => exact passAt tk σ pins H s e s' I hq
  | .ok (.ret u), hq => exact I.after hq
theorem run_c (F : FnR X.prog X.w X.K X.mg X.base (L2.CX X.prog X.w) k f (spOf g fn)) (hr : Room k X.A) (tk : Takes X W) (I : Inv X pins σ H s) {ds : List D} {vs : List V} {us : List Value} {Q : VK} (r : Vals vs us) (sm : Sim g m c σ H) (hv : Svs g m ds vs) (o : Out (rE g) g W σ m (liftF (fn ds c.S) c) Q) :
    codeAny (model X.prog X.w) X.A (.call (.ref f) ⟨us, []⟩) (fun r s' => match r with | .ok (.ret v) => EP X pins σ Q v s' | .ok _ => False | .error e => X.xe e s') s :=
  run_cA F hr I.env0 tk I r sm hv o
end
end CL
namespace CL
open PySem PySem.Spec PyProof.Rows L2

/-! ## statements -/
inductive Fl where
  | next | ret (d : D) | brk | cont
def OutS (g : G) (W : WX) (m : Mp) (r : R Fl) (Dn : Ends) : Prop := match r with
  | .ok .next c => ∀ m' σ' H', Ext m m' → Sim g m' c σ' H' → Dn.nx σ' H'
  | .ok (.ret d) c => ∀ m' σ' v H', Ext m m' → Sim g m' c σ' H' → Sv g m' d v → Dn.rt v H'
  | .ok .brk c => ∀ m' σ' H', Ext m m' → Sim g m' c σ' H' → Dn.bk σ' H'
  | .ok .cont c => ∀ m' σ' H', Ext m m' → Sim g m' c σ' H' → Dn.ct σ' H'
  | .exc cn vs c => ∀ m' σ' H' C d, Ext m m' → Sim g m' c σ' H' → Exr g m' cn vs C d → W C d σ' H'
  | .stuck => False
def tS (g : G) (W : WX) (f : M Fl) : TS := fun Dn σ H => ∃ m c, Sim g m c σ H ∧ OutS g W m (f c) Dn
theorem ps_imp {X : Cx} {st : Stmt} {t t' : TS} (h : PS X st t) (i : ∀ Dn σ H, t' Dn σ H → t Dn σ H) : PS X st t' := ⟨fun pins s σ H Dn I q => h.run pins s σ H Dn I (i Dn σ H q)⟩
theorem pss_imp {X : Cx} {st : List Stmt} {t t' : TS} (h : PSs X st t) (i : ∀ Dn σ H, t' Dn σ H → t Dn σ H) : PSs X st t' := ⟨fun pins s σ H Dn I q => h.run pins s σ H Dn I (i Dn σ H q)⟩
section
variable {g : G} {W : WX} {m m' : Mp} {Dn Dn' : Ends} {α β : Type} {rel : Rl α β} {σ : L2.St}
theorem OutS.mono {r : R Fl} (e : Ext m m') (h : OutS g W m r Dn) : OutS g W m' r Dn := by
  cases r with
  | ok a c =>
    cases a with
    | next => exact fun m2 σ' H' x s => h m2 σ' H' (e.trans x) s
    | ret d => exact fun m2 σ' v H' x s k => h m2 σ' v H' (e.trans x) s k
    | brk => exact fun m2 σ' H' x s => h m2 σ' H' (e.trans x) s
    | cont => exact fun m2 σ' H' x s => h m2 σ' H' (e.trans x) s
  | exc cn vs c => exact fun m2 σ' H' C d x s k => h m2 σ' H' C d (e.trans x) s k
  | stuck => exact h
/-- an expression, then something -/
theorem OutS.bind {r : R α} {k : α → CS → R Fl} (h : OutS g W m (r.bind k) Dn) :
    Out rel g W σ m r (fun b H' => ∃ m' a c', Ext m m' ∧ Sim g m' c' σ H' ∧ rel m' c' H' a b ∧ OutS g W m' (k a c') Dn) := by
  cases r with
  | ok a c => exact fun m2 b H' x s k' => ⟨m2, a, c, x, s, k', OutS.mono x h⟩
  | exc cn vs c => exact fun m2 H' C d x s k => h m2 σ H' C d x s k
  | stuck => exact h
theorem OutS.nx {c : CS} {σ' : L2.St} {H : Hp} (s : Sim g m c σ' H) (h : OutS g W m (.ok .next c) Dn) : Dn.nx σ' H := h m σ' H Ext.rfl' s
end
def cSeq (f h : M Fl) : M Fl := fun c => match f c with
  | .ok .next c' => h c'
  | r => r
def cNext : M Fl := fun c => .ok .next c
section
variable {X : Cx} {g : G} {W : WX} {pos : Pos} {st : Stmt} {rest : List Stmt} {e : Expr} {f h : M Fl} {fe : M D} {fl : M (List D)} {ft : M Bool}
theorem ss_nil : PSs X [] (tS g W cNext) := pss_imp pss_nil fun Dn σ H ⟨m, c, s, o⟩ => o.nx s
theorem ss_cons (h1 : PS X st (tS g W f)) (h2 : PSs X rest (tS g W h)) : PSs X (st :: rest) (tS g W (cSeq f h)) := by
  refine pss_imp (pss_cons h1 h2) fun Dn σ H ⟨m, c, s, o⟩ => ⟨m, c, s, ?_⟩
  unfold cSeq at o
  cases q : f c with
  | ok a c' =>
    rw [q] at o
    cases a with
    | next => exact fun m' σ' H' x s' => ⟨m', c', s', OutS.mono x o⟩
    | ret d => exact o
    | brk => exact o
    | cont => exact o
  | exc cn vs c' => rw [q] at o; exact o
  | stuck => rw [q] at o; exact o
theorem ss_pass : PS X (.Pass pos) (tS g W cNext) := ps_imp ps_pass fun Dn σ H ⟨m, c, s, o⟩ => o.nx s
def cBrk : M Fl := fun c => .ok .brk c
def cCont : M Fl := fun c => .ok .cont c
theorem ss_brk : PS X (.Break pos) (tS g W cBrk) := ps_imp ps_break fun Dn σ H ⟨m, c, s, o⟩ => o m σ H Ext.rfl' s
theorem ss_cont : PS X (.Continue pos) (tS g W cCont) := ps_imp ps_continue fun Dn σ H ⟨m, c, s, o⟩ => o m σ H Ext.rfl' s
def cRet (fe : M D) : M Fl := fun c => (fe c).bind fun d c' => .ok (.ret d) c'
theorem ss_ret (he : PE X e (tE g W fe)) : PS X (.Return (some e) pos) (tS g W (cRet fe)) := by
  refine ps_imp (ps_ret he) fun Dn σ H ⟨m, c, s, o⟩ => ⟨m, c, s, o.bind.imp fun v H1 ⟨m1, d, c1, x1, s1, k1, o1⟩ => ?_⟩
  exact o1 m1 σ v H1 Ext.rfl' s1 k1
def cRetN : M Fl := fun c => .ok (.ret .non) c
theorem ss_retN : PS X (.Return none pos) (tS g W cRetN) := ps_imp ps_retN fun Dn σ H ⟨m, c, s, o⟩ => o m σ .non H Ext.rfl' s .non
def cDrop (fe : M D) : M Fl := fun c => (fe c).bind fun _ c' => .ok .next c'
theorem ss_drop (he : PE X e (tE g W fe)) (hs : swapsWith e none pos.line X.env = pure false) : PS X (.Expr e pos) (tS g W (cDrop fe)) := by
  refine ps_imp (ps_expr he hs) fun Dn σ H ⟨m, c, s, o⟩ => ⟨m, c, s, o.bind.imp fun v H1 ⟨m1, d, c1, x1, s1, k1, o1⟩ => ?_⟩
  exact o1.nx s1
def cIfS (ft : M Bool) (f h : M Fl) : M Fl := fun c => (ft c).bind fun b c' => match b with
  | true => f c'
  | false => h c'
theorem ss_if {t : Expr} {a b : List Stmt} (ht : PT X t (tT g W ft)) (ha : PSs X a (tS g W f)) (hb : PSs X b (tS g W h)) : PS X (.If t a b pos) (tS g W (cIfS ft f h)) := by
  refine ps_imp (ps_if ht ha hb) fun Dn σ H ⟨m, c, s, o⟩ => ⟨m, c, s, o.bind.imp fun x H1 ⟨m1, d, c1, x1, s1, k1, o1⟩ => ?_⟩
  have k1 : d = x := k1
  subst k1
  cases d with
  | true => exact ⟨m1, c1, s1, o1⟩
  | false => exact ⟨m1, c1, s1, o1⟩
end

/-! ## slots are stored -/
def CS.put (c : CS) (i : Nat) (s : Sl) : CS := { c with sl := c.sl.set i s }
theorem Sim.val {g : G} {m : Mp} {c : CS} {σ : L2.St} {H : Hp} (h : Sim g m c σ H) {i : Nat} {d : D} {v : V} (k : Sv g m d v) : Sim g m (c.put i (.val d)) (σ.set i (some v)) H := by
  refine ⟨h.fr, h.nd, h.len, h.ini.set (fun _ _ z => nomatch z), by show (c.sl.set i _).length = (σ.set i _).length; rw [List.length_set, List.length_set]; exact h.ln, h.st, h.bk, fun j s hs => ?_⟩
  have hs : (c.sl.set i (.val d))[j]? = some s := hs
  by_cases e : i = j
  · subst e
    by_cases hi : i < c.sl.length
    · rw [List.getElem?_set_self hi] at hs
      cases hs
      exact ⟨v, List.getElem?_set_self (by rw [← h.ln]; exact hi), k⟩
    · rw [List.getElem?_eq_none (by rw [List.length_set]; omega)] at hs
      cases hs
  · rw [List.getElem?_set_ne e] at hs
    have q := h.sl j s hs
    cases s with
    | no => trivial
    | val d' =>
      obtain ⟨w, q1, q2⟩ := q
      exact ⟨w, by rw [List.getElem?_set_ne e]; exact q1, q2⟩
    | own o =>
      obtain ⟨q1, q2, q3⟩ := q
      refine ⟨by rw [List.getElem?_set_ne e]; exact q1, q2, ⟨q3.fr, q3.bk, q3.rh, fun k o' hk z => ?_⟩⟩
      have hk : (c.sl.set i (.val d))[k]? = some (.own o') := hk
      by_cases ek : i = k
      · subst ek
        by_cases hi : i < c.sl.length
        · rw [List.getElem?_set_self hi] at hk
          cases hk
        · rw [List.getElem?_eq_none (by rw [List.length_set]; omega)] at hk
          cases hk
      · rw [List.getElem?_set_ne ek] at hk
        exact q3.ap k o' hk z
/-- a fresh list becomes a slot's own -/
theorem Sim.own {g : G} {m : Mp} {c : CS} {σ : L2.St} {H : Hp} (h : Sim g m c σ H) {i : Nat} {xs : List D} {v : V} (k : rL g m c H xs v) : ∃ m', Ext m m' ∧ Sim g m' (c.put i (.own (.lst xs))) (σ.set i (some v)) H := by
  obtain ⟨p, vs, rfl, hp, hv, f⟩ := k
  have ex : Ext m { m with lam := fun j => if j = i then p else m.lam j } := ⟨fun _ _ z => z, fun _ _ z => z, rfl, rfl⟩
  have l1 : ∀ {j : Nat}, j = i → (fun j => if j = i then p else m.lam j) j = p := fun {j} e => if_pos e
  have l2 : ∀ {j : Nat}, j ≠ i → (fun j => if j = i then p else m.lam j) j = m.lam j := fun {j} e => if_neg e
  have iniL : IniOk { m with lam := fun j => if j = i then p else m.lam j } (c.sl.set i (.own (.lst xs))) := fun k fs e => by
    have e2 := (h.ini.set (i := i) (s := .own (.lst xs)) (fun _ _ z => nomatch z)) k fs e
    by_cases q : (0 : Nat) = i
    · subst q
      by_cases hl : 0 < c.sl.length
      · rw [List.getElem?_set_self hl] at e
        cases e
      · rw [List.getElem?_eq_none (by rw [List.length_set]; omega)] at e
        cases e
    · show (if (0 : Nat) = i then p else m.lam 0) = m.ini
      rw [if_neg q]
      exact e2
  refine ⟨{ m with lam := fun j => if j = i then p else m.lam j }, ex, h.fr, h.nd, h.len, iniL, by show (c.sl.set i _).length = (σ.set i _).length; rw [List.length_set, List.length_set]; exact h.ln, fun n a o h1 h2 => ?_, h.bk, fun j s hs => ?_⟩
  · obtain ⟨k1, k2⟩ := h.st n a o h1 h2
    exact ⟨k1, k2.mono ex rfl⟩
  · have hs : (c.sl.set i (.own (.lst xs)))[j]? = some s := hs
    by_cases e : i = j
    · subst e
      by_cases hi : i < c.sl.length
      · rw [List.getElem?_set_self hi] at hs
        cases hs
        refine ⟨?_, ⟨vs, ?_, hv.mono ex⟩, ⟨?_, ?_, ?_, fun k o' hk z => ?_⟩⟩
        · show (σ.set i _)[i]? = some (some (.ref ((fun j => if j = i then p else m.lam j) i)))
          rw [l1 rfl]
          exact List.getElem?_set_self (by rw [← h.ln]; exact hi)
        · show H ((fun j => if j = i then p else m.lam j) i) = _
          rw [l1 rfl]
          exact hp
        · show m.F ((fun j => if j = i then p else m.lam j) i) = _
          rw [l1 rfl]
          exact f.f
        · show m.B ((fun j => if j = i then p else m.lam j) i) = _
          rw [l1 rfl]
          exact f.b
        · show (fun j => if j = i then p else m.lam j) i ∉ m.rho
          rw [l1 rfl]
          exact f.r
        · have hk : (c.sl.set i (.own (.lst xs)))[k]? = some (.own o') := hk
          have z : (fun j => if j = i then p else m.lam j) k = (fun j => if j = i then p else m.lam j) i := z
          rw [l1 (j := i) rfl] at z
          by_cases ek : i = k
          · exact ek.symm
          · rw [List.getElem?_set_ne ek] at hk
            rw [l2 (fun e => ek e.symm)] at z
            exact absurd z (f.o k o' hk)
      · rw [List.getElem?_eq_none (by rw [List.length_set]; omega)] at hs
        cases hs
    · rw [List.getElem?_set_ne e] at hs
      have q := h.sl j s hs
      cases s with
      | no => trivial
      | val d' =>
        obtain ⟨w, q1, q2⟩ := q
        exact ⟨w, by rw [List.getElem?_set_ne e]; exact q1, q2.mono ex⟩
      | own o =>
        obtain ⟨q1, q2, q3⟩ := q
        have ej : (fun j => if j = i then p else m.lam j) j = m.lam j := l2 (fun z => e z.symm)
        refine ⟨?_, ?_, ⟨?_, ?_, ?_, fun k o' hk z => ?_⟩⟩
        · show (σ.set i _)[j]? = some (some (.ref ((fun j => if j = i then p else m.lam j) j)))
          rw [ej, List.getElem?_set_ne e]
          exact q1
        · show So g _ H ((fun j => if j = i then p else m.lam j) j) o
          rw [ej]
          exact q2.mono ex rfl
        · show m.F ((fun j => if j = i then p else m.lam j) j) = _
          rw [ej]
          exact q3.fr
        · show m.B ((fun j => if j = i then p else m.lam j) j) = _
          rw [ej]
          exact q3.bk
        · show (fun j => if j = i then p else m.lam j) j ∉ m.rho
          rw [ej]
          exact q3.rh
        · have hk : (c.sl.set i (.own (.lst xs)))[k]? = some (.own o') := hk
          have z : (fun j => if j = i then p else m.lam j) k = (fun j => if j = i then p else m.lam j) j := z
          rw [ej] at z
          by_cases ek : i = k
          · subst ek
            rw [l1 rfl] at z
            exact absurd z.symm (f.o j o hs)
          · rw [List.getElem?_set_ne ek] at hk
            rw [l2 (fun e => ek e.symm)] at z
            exact q3.ap k o' hk z
/-- nothing is known of a slot -/
theorem Sim.no {g : G} {m : Mp} {c : CS} {σ : L2.St} {H : Hp} (h : Sim g m c σ H) {i : Nat} (o : Option V) : Sim g m (c.put i .no) (σ.set i o) H := by
  refine ⟨h.fr, h.nd, h.len, h.ini.set (fun _ _ z => nomatch z), by show (c.sl.set i _).length = (σ.set i _).length; rw [List.length_set, List.length_set]; exact h.ln, h.st, h.bk, fun j s hs => ?_⟩
  have hs : (c.sl.set i .no)[j]? = some s := hs
  by_cases e : i = j
  · subst e
    by_cases hi : i < c.sl.length
    · rw [List.getElem?_set_self hi] at hs
      cases hs
      trivial
    · rw [List.getElem?_eq_none (by rw [List.length_set]; omega)] at hs
      cases hs
  · rw [List.getElem?_set_ne e] at hs
    have q := h.sl j s hs
    cases s with
    | no => trivial
    | val d' =>
      obtain ⟨w, q1, q2⟩ := q
      exact ⟨w, by rw [List.getElem?_set_ne e]; exact q1, q2⟩
    | own o =>
      obtain ⟨q1, q2, q3⟩ := q
      refine ⟨by rw [List.getElem?_set_ne e]; exact q1, q2, ⟨q3.fr, q3.bk, q3.rh, fun k o' hk z => ?_⟩⟩
      have hk : (c.sl.set i .no)[k]? = some (.own o') := hk
      by_cases ek : i = k
      · subst ek
        by_cases hi : i < c.sl.length
        · rw [List.getElem?_set_self hi] at hk
          cases hk
        · rw [List.getElem?_eq_none (by rw [List.length_set]; omega)] at hk
          cases hk
      · rw [List.getElem?_set_ne ek] at hk
        exact q3.ap k o' hk z

/-! ## a slot's own object, a store's object, written -/
theorem nodup_at {l : List Addr} (h : l.Nodup) {i j : Nat} {a : Addr} (hi : l[i]? = some a) (hj : l[j]? = some a) : i = j := by
  obtain ⟨h1, e1⟩ := List.getElem?_eq_some_iff.mp hi
  obtain ⟨h2, e2⟩ := List.getElem?_eq_some_iff.mp hj
  rcases Nat.lt_trichotomy i j with q | q | q
  · exact absurd (e1.trans e2.symm) (List.pairwise_iff_getElem.mp h i j h1 h2 q)
  · exact q
  · exact absurd (e2.trans e1.symm) (List.pairwise_iff_getElem.mp h j i h2 h1 q)
theorem Sim.wrOwn {g : G} {m : Mp} {c : CS} {σ : L2.St} {H : Hp} (h : Sim g m c σ H) {i : Nat} {o o' : O} (hi : c.sl[i]? = some (.own o)) {u : HO} (k : ∀ H', H' (m.lam i) = some u → So g m H' (m.lam i) o') (hk : ∀ c fs, o' = .ins c fs → ∃ c fs, o = .ins c fs) : Sim g m (c.put i (.own o')) σ (upd H (m.lam i) u) := by
  obtain ⟨e1, e2, e3⟩ := h.sl i _ hi
  have hlt : i < c.sl.length := (List.getElem?_eq_some_iff.mp hi).1
  have iniL : IniOk m (c.sl.set i (.own o')) := fun k fs e => by
    by_cases q : i = 0
    · subst q
      rw [List.getElem?_set_self hlt] at e
      cases e
      obtain ⟨c2, fs2, e2⟩ := hk _ _ rfl
      subst e2
      exact h.ini _ _ hi
    · rw [List.getElem?_set_ne q] at e
      exact h.ini k fs e
  refine ⟨fun a w z => ?_, h.nd, h.len, iniL, by show (c.sl.set i _).length = _; rw [List.length_set]; exact h.ln, fun n a w h1 h2 => ?_, fun a w z => ?_, fun j s hs => ?_⟩
  · rw [upd_ne (fun e => by rw [e, e3.fr] at z; cases z)]
    exact h.fr a w z
  · obtain ⟨k1, k2⟩ := h.st n a w h1 h2
    exact ⟨k1, k2.mono Ext.rfl' (upd_ne fun e => e3.rh (by rw [← e]; exact List.mem_of_getElem? h1))⟩
  · rw [upd_ne (fun e => by rw [e, e3.bk] at z; cases z)]
    exact h.bk a w z
  · have hs : (c.sl.set i (.own o'))[j]? = some s := hs
    by_cases e : i = j
    · subst e
      rw [List.getElem?_set_self hlt] at hs
      cases hs
      refine ⟨e1, k _ upd_same, ⟨e3.fr, e3.bk, e3.rh, fun k o'' hk z => ?_⟩⟩
      have hk : (c.sl.set i (.own o'))[k]? = some (.own o'') := hk
      by_cases ek : i = k
      · exact ek.symm
      · rw [List.getElem?_set_ne ek] at hk
        exact e3.ap k o'' hk z
    · rw [List.getElem?_set_ne e] at hs
      have q := h.sl j s hs
      cases s with
      | no => trivial
      | val d' => exact q
      | own w =>
        obtain ⟨q1, q2, q3⟩ := q
        have ne : m.lam j ≠ m.lam i := fun z => e (e3.ap j w hs z).symm
        refine ⟨q1, q2.mono Ext.rfl' (upd_ne ne), ⟨q3.fr, q3.bk, q3.rh, fun k o'' hk z => ?_⟩⟩
        have hk : (c.sl.set i (.own o'))[k]? = some (.own o'') := hk
        by_cases ek : i = k
        · subst ek
          exact absurd z.symm ne
        · rw [List.getElem?_set_ne ek] at hk
          exact q3.ap k o'' hk z
theorem Sim.wrSt {g : G} {m : Mp} {c : CS} {σ : L2.St} {H : Hp} (h : Sim g m c σ H) {n : Nat} {a : Addr} {o o' : O} (ha : m.rho[n]? = some a) (ho : c.S[n]? = some o) {u : HO} (k : ∀ H', H' a = some u → So g m H' a o') : Sim g m { c with S := c.S.set n o' } σ (upd H a u) := by
  have hlt : n < c.S.length := (List.getElem?_eq_some_iff.mp ho).1
  obtain ⟨f1, f2⟩ := h.st n a o ha ho
  refine ⟨fun b w z => ?_, h.nd, by show _ = (c.S.set n o').length; rw [List.length_set]; exact h.len, h.ini, h.ln, fun n' b w h1 h2 => ?_, fun b w z => ?_, fun j s hs => ?_⟩
  · rw [upd_ne (fun e => by rw [e, f1] at z; cases z)]
    exact h.fr b w z
  · have h2 : (c.S.set n o')[n']? = some w := h2
    by_cases e : n = n'
    · subst e
      rw [ha] at h1
      cases h1
      rw [List.getElem?_set_self hlt] at h2
      cases h2
      exact ⟨f1, k _ upd_same⟩
    · rw [List.getElem?_set_ne e] at h2
      obtain ⟨k1, k2⟩ := h.st n' b w h1 h2
      have ne : b ≠ a := fun z => by
        subst z
        exact e (nodup_at h.nd ha h1)
      exact ⟨k1, k2.mono Ext.rfl' (upd_ne ne)⟩
  · have z := h.bk b w z
    rw [upd_ne (fun e => z.2.2.1 (by rw [e]; exact List.mem_of_getElem? ha))]
    exact z
  · have q := h.sl j s hs
    cases s with
    | no => trivial
    | val d' => exact q
    | own w =>
      obtain ⟨q1, q2, q3⟩ := q
      exact ⟨q1, q2.mono Ext.rfl' (upd_ne fun e => q3.rh (by rw [e]; exact List.mem_of_getElem? ha)), q3⟩
end CL
namespace CL
open PySem PySem.Spec PyProof.Rows L2

/-! ## where one stands -/
def isLoc (o : Option NameKind) : Bool := match o with
  | some .local => true
  | some .cell => true
  | _ => false
def isVis (o : Option NameKind) : Bool := match o with
  | some .local => true
  | some .cell => true
  | some .free => true
  | _ => false
theorem vis_of {sc : Scope} {x : Str} (h : isVis (sc.names.lookup x) = true) : Vis sc x := by
  unfold Vis
  cases e : sc.names.lookup x with
  | none => rw [e] at h; cases h
  | some k => rw [e] at h; cases k <;> first | (cases h; done) | simp
structure Good (g : G) (k : Nat) (N : List Str) (X : Cx) (sc ws : Scope) (W : WX) : Prop where
  hN : X.N = N
  nd : N.Nodup
  hsc : X.env.scope = sc
  calm : X.calm = true
  room : Room k X.A
  hK : X.K = g.K
  hP : X.prog = g.prog
  hw : X.w = g.w
  hmg : X.mg = g.mg
  hbs : X.base = g.base
  tk : Takes X W
  own : PassesOwn (model X.prog X.w) X.A X.env X.xe
  sto : ∀ x, isLoc (ws.names.lookup x) = true → Loc X.env.scope x ∧ (X.fn x = true ∨ X.env.scope.names.lookup x = some .local)
section
variable {g : G} {k : Nat} {N : List Str} {X : Cx} {sc ws : Scope} {W : WX}
theorem Good.vis (q : Good g k N X sc ws W) {x : Str} (h : isVis (sc.names.lookup x) = true) : Vis X.env.scope x := by
  rw [q.hsc]
  exact vis_of h
/-- a global name -/
def isGl (sc : Scope) (x : Str) : Bool := match sc.names.lookup x with
  | some .globalImplicit => !(x == ("__debug__" : Str)) && !(x == ("__name__" : Str))
  | _ => false
theorem Good.gl (q : Good g k N X sc ws W) {x : Str} (h : isGl sc x = true) : Gl X x ∧ (x == ("__debug__" : Str)) = false ∧ x ≠ "__name__" := by
  unfold isGl at h
  split at h
  · rename_i e
    rw [Bool.and_eq_true] at h
    refine ⟨?_, by simpa using h.1, fun z => ?_⟩
    · show X.env.scope.names.lookup x = _
      rw [q.hsc]
      exact e
    · have h2 := h.2
      rw [z] at h2
      revert h2
      decide
  · cases h
theorem Good.fn (q : Good g k N X sc ws W) {j : Nat} {f : Addr} {fn : Fn} (F : FnC g j f fn) : FnR X.prog X.w X.K X.mg X.base (L2.CX X.prog X.w) j f (spOf g fn) := by
  rw [q.hP, q.hw, q.hK, q.hmg, q.hbs]
  exact F
theorem Good.ndX (q : Good g k N X sc ws W) : X.N.Nodup := by rw [q.hN]; exact q.nd
theorem Good.at_ (q : Good g k N X sc ws W) {i : Nat} {x : Str} (h : N[i]? = some x) : X.N[i]? = some x := by rw [q.hN]; exact h
end
def noDbg (x : Str) : Bool := !(x == ("__debug__" : Str)) && !(x == ("__classdict__" : Str))
theorem noDbg_1 {x : Str} (h : noDbg x = true) : (x == ("__debug__" : Str)) = false := by
  unfold noDbg at h
  rw [Bool.and_eq_true] at h
  simpa using h.1
theorem noDbg_2 {x : Str} (h : noDbg x = true) : (x == ("__classdict__" : Str)) = false := by
  unfold noDbg at h
  rw [Bool.and_eq_true] at h
  simpa using h.2

/-! ## name = .. -/
def notComp : Expr → Bool
  | .ListComp _ _ _ _ => false
  | .SetComp _ _ _ _ => false
  | .DictComp _ _ _ _ _ => false
  | _ => true
theorem swaps_no {e : Expr} {t : Option Expr} {l : Nat} {env : Env} (h : notComp e = true) : swapsWith e t l env = pure false := by
  cases e <;> first | rfl | cases h
def cSet (i : Nat) (fe : M D) : M Fl := fun c => (fe c).bind fun d c' => .ok .next (c'.put i (.val d))
def cSetL (i : Nat) (fl : M (List D)) : M Fl := fun c => (fl c).bind fun xs c' => .ok .next (c'.put i (.own (.lst xs)))
section
variable {X : Cx} {g : G} {k : Nat} {N : List Str} {sc ws : Scope} {W : WX} {pos pos' : Pos} {e : Expr} {fe : M D} {fl : M (List D)} {i : Nat} {x : Str}
theorem set_imp {te : TE} (f : M Fl) (h : PS X (.Assign [.Name x pos'] e pos) (tAsg te (gName i))) (j : ∀ Dn σ H, tS g W f Dn σ H → te σ H fun v H1 => Dn.nx (σ.set i (some v)) H1) : PS X (.Assign [.Name x pos'] e pos) (tS g W f) := ps_imp h j
theorem cSet_ok (Dn : Ends) (σ : L2.St) (H : Hp) (q : tS g W (cSet i fe) Dn σ H) : tE g W fe σ H fun v H1 => Dn.nx (σ.set i (some v)) H1 := by
  obtain ⟨m, c, s, o⟩ := q
  exact ⟨m, c, s, o.bind.imp fun v H1 ⟨m1, d, c1, x1, s1, k1, o1⟩ => o1.nx (s1.val k1)⟩
theorem cSetL_ok (Dn : Ends) (σ : L2.St) (H : Hp) (q : tS g W (cSetL i fl) Dn σ H) : tL g W fl σ H fun v H1 => Dn.nx (σ.set i (some v)) H1 := by
  obtain ⟨m, c, s, o⟩ := q
  refine ⟨m, c, s, o.bind.imp fun v H1 ⟨m1, d, c1, x1, s1, k1, o1⟩ => ?_⟩
  obtain ⟨m2, x2, s2⟩ := s1.own (i := i) k1
  exact (o1.mono x2).nx s2
theorem ss_set (q : Good g k N X sc ws W) (hi : N[i]? = some x) (hl : isLoc (ws.names.lookup x) = true) (he : PE X e (tE g W fe)) (hs : swapsWith e (some (.Name x pos')) pos.line X.env = pure false) : PS X (.Assign [.Name x pos'] e pos) (tS g W (cSet i fe)) :=
  ps_imp (ps_set q.ndX (q.at_ hi) (q.sto x hl).1 he hs (q.sto x hl).2) cSet_ok
theorem ss_setL (q : Good g k N X sc ws W) (hi : N[i]? = some x) (hl : isLoc (ws.names.lookup x) = true) (he : PE X e (tL g W fl)) (hs : swapsWith e (some (.Name x pos')) pos.line X.env = pure false) : PS X (.Assign [.Name x pos'] e pos) (tS g W (cSetL i fl)) :=
  ps_imp (ps_set q.ndX (q.at_ hi) (q.sto x hl).1 he hs (q.sto x hl).2) cSetL_ok
end

/-! ## a list at a name, or in the store, is written -/
/-- the list that slot i holds or tells of -/
inductive Pl where
  | own (xs : List D)
  | st (n : Nat) (xs : List D)
def CS.pl (c : CS) (i : Nat) : Option Pl := match c.sl[i]? with
  | some (.own (.lst xs)) => some (.own xs)
  | some (.val (.ref n)) => match c.S[n]? with
    | some (.lst xs) => some (.st n xs)
    | _ => none
  | _ => none
def Pl.xs : Pl → List D
  | .own xs => xs
  | .st _ xs => xs
def CS.wr (c : CS) (i : Nat) (p : Pl) (ys : List D) : CS := match p with
  | .own _ => c.put i (.own (.lst ys))
  | .st n _ => { c with S := c.S.set n (.lst ys) }
theorem Sim.pl {g : G} {m : Mp} {c : CS} {σ : L2.St} {H : Hp} (s : Sim g m c σ H) {i : Nat} {p : Pl} (e : c.pl i = some p) :
    ∃ a vs, σ[i]? = some (some (.ref a)) ∧ H a = some (.lst vs) ∧ Svs g m p.xs vs ∧ ∀ ys ws, Svs g m ys ws → Sim g m (c.wr i p ys) σ (upd H a (.lst ws)) := by
  unfold CS.pl at e
  cases q : c.sl[i]? with
  | none => rw [q] at e; cases e
  | some t =>
    rw [q] at e
    cases t with
    | no => cases e
    | own o =>
      cases o with
      | ins _ _ => cases e
      | lst xs =>
        cases e
        obtain ⟨h1, ⟨vs, h2, h3⟩, h4⟩ := s.sl i _ q
        exact ⟨m.lam i, vs, h1, h2, h3, fun ys ws k => s.wrOwn q (fun H' z => ⟨ws, z, k⟩) (fun _ _ z => nomatch z)⟩
    | val d =>
      cases d with
      | ref n =>
        have e : (match c.S[n]? with
          | some (.lst xs) => some (Pl.st n xs)
          | _ => none) = some p := e
        cases r : c.S[n]? with
        | none => rw [r] at e; cases e
        | some o =>
          rw [r] at e
          cases o with
          | ins _ _ => cases e
          | lst xs =>
            cases e
            obtain ⟨v, h1, h2⟩ := s.sl i _ q
            cases h2 with
            | @ref _ a ha =>
              obtain ⟨_, vs, k1, k2⟩ := s.st n a _ ha r
              exact ⟨a, vs, h1, k1, k2, fun ys ws k => s.wrSt ha r fun H' z => ⟨ws, z, k⟩⟩
      | _ => cases e
theorem asgSub_ok {o i : Expr} {pos : Pos} {env : Env} (h : notSlice i = true) (v : Value) : assign (.Subscript o i pos) env v = (do
      let ov ← holding [v] (eval o env)
      let iv ← holding [v, ov] (eval i env)
      standAt pos
      holding [v, ov, iv] (setItem ov iv v)
      release [v, ov, iv] []) := by
  cases i <;> first | rfl | cases h
theorem swaps_sub {e o i : Expr} {p : Pos} {l : Nat} {env : Env} : swapsWithSole [.Subscript o i p] e l env = pure false := by
  cases e <;> rfl
theorem swst_sub {e o i : Expr} {p : Pos} {env : Env} : swappedStores [.Subscript o i p] e env = pure none := by
  cases e <;> rfl
/-- x[i] = e -/
def cSetIx (i : Nat) (fi fe : M D) : M Fl := fun c => (fe c).bind fun d c1 => match c1.pl i with
  | none => .stuck
  | some _ => (fi c1).bind fun j c2 => match j, c2.pl i with
    | .int j, some p => match ixN p.xs.length j with
      | some n => .ok .next (c2.wr i p (p.xs.set n d))
      | none => .stuck
    | _, _ => .stuck
section
variable {X : Cx} {g : G} {k : Nat} {N : List Str} {sc ws : Scope} {W : WX} {pos pos' px : Pos} {e ie : Expr} {fe fi : M D} {i : Nat} {x : Str}
theorem ss_setIx (q : Good g k N X sc ws W) (hi : N[i]? = some x) (hv : isVis (sc.names.lookup x) = true) (hd : noDbg x = true) (he : PE X e (tE g W fe)) (hie : PE X ie (tE g W fi)) (hs : notSlice ie = true) : PS X (.Assign [.Subscript (.Name x px) ie pos'] e pos) (tS g W (cSetIx i fi fe)) := by
  refine ps_imp (ps_asg he (pg_sub (pe_var (q.at_ hi) (q.vis hv) (noDbg_1 hd) (noDbg_2 hd)) hie set_list (asgSub_ok hs)) swaps_sub swst_sub rfl) fun Dn σ H ⟨m, c, s, o⟩ => ?_
  refine ⟨m, c, s, o.bind.imp fun v H1 ⟨m1, d, c1, x1, s1, k1, o1⟩ => ?_⟩
  cases e1 : c1.pl i with
  | none => rw [e1] at o1; exact o1.elim
  | some p =>
    rw [e1] at o1
    obtain ⟨a, vs, h1, h2, h3, h4⟩ := s1.pl e1
    refine ⟨.ref a, h1, m1, c1, s1, o1.bind.imp fun y H2 ⟨m2, j, c2, x2, s2, k2, o2⟩ => ?_⟩
    cases k2 with
    | int j =>
      cases e2 : c2.pl i with
      | none => rw [e2] at o2; exact o2.elim
      | some p2 =>
        obtain ⟨a2, vs2, g1, g2, g3, g4⟩ := s2.pl e2
        rw [h1] at g1
        cases g1
        have o2 : OutS g W m2 (match c2.pl i with
          | some p => match ixN p.xs.length j with
            | some n => .ok .next (c2.wr i p (p.xs.set n d))
            | none => .stuck
          | none => .stuck) Dn := by
          cases e3 : c2.pl i with
          | none => rw [e3] at e2; cases e2
          | some p3 => rw [e3] at o2; exact o2
        rw [e2] at o2
        dsimp only at o2
        cases e3 : ixN p2.xs.length j with
        | none => rw [e3] at o2; exact o2.elim
        | some n =>
          rw [e3] at o2
          refine ⟨a, vs2, j, n, rfl, rfl, g2, by rw [← g3.length]; exact e3, ?_⟩
          exact o2.nx (g4 _ _ (g3.set n (k1.mono x2)))
    | _ => exact o2.elim
end

/-! ## what is walked -/
/-- J yields ds, one after the other; the heap may grow by it -/
def Yld (g : G) (m : Mp) (J : It) (ds : List D) : Prop := ∀ (m1 : Mp) (c : CS) (σ : L2.St) (H : Hp), (∀ (n : Nat) (a : Addr), m.rho[n]? = some a → m1.rho[n]? = some a) → (∀ (a : Addr) (o : HO), m.F a = some o → m1.F a = some o) → Sim g m1 c σ H → ∀ i : Nat,
  (i = ds.length → J.stop i H) ∧ ∀ d, ds[i]? = some d → J.go i H ∧ ∀ x H', J.yld i H x H' → ∃ m2, Ext m1 m2 ∧ Sim g m2 c σ H' ∧ Sv g m2 d x
def rI (g : G) : Rl (List D) It := fun m _ _ ds J => Yld g m J ds
abbrev tI (g : G) (W : WX) (f : M (List D)) : TI := tX (rI g) g W f
theorem pi_imp {X : Cx} {tg e : Expr} {t t' : TI} (h : PI X tg e t) (i : ∀ σ H R, t' σ H R → t σ H R) : PI X tg e t' := ⟨fun pins s σ H R I q => h.run pins s σ H R I (i σ H R q)⟩
theorem yld_list {g : G} {m : Mp} {a : Addr} {ds : List D} {vs : List V} (h : m.F a = some (.lst vs)) (k : Svs g m ds vs) : Yld g m (Itl g.K a) ds := fun m1 c σ H xr xf s i => by
  have hq : SqL g.K H a vs := SqL.of (s.fr _ _ (xf _ _ h))
  have kl := k.length
  refine ⟨fun hi => ⟨vs, hq, by omega⟩, fun d hd => ?_⟩
  obtain ⟨v, h1, h2⟩ := k.get hd
  refine ⟨⟨vs, v, hq, h1⟩, fun y H' ⟨e1, e2⟩ => ?_⟩
  have e3 := e2 vs hq
  rw [h1] at e3
  cases e3
  subst e1
  exact ⟨m1, Ext.rfl', s, Sv.like xr xf h2⟩
theorem yld_tup {g : G} {m : Mp} {a : Addr} {ds : List D} {vs : List V} (h : SqT g.K m.F a vs) (k : Svs g m ds vs) : Yld g m (Itt g.K a) ds := fun m1 c σ H xr xf s i => by
  have hq : SqT g.K H a vs := s.sqT (sqT_mono xf h)
  have kl := k.length
  refine ⟨fun hi => ⟨vs, hq, by omega⟩, fun d hd => ?_⟩
  obtain ⟨v, h1, h2⟩ := k.get hd
  refine ⟨⟨vs, v, hq, h1⟩, fun y H' ⟨e1, e2⟩ => ?_⟩
  have e3 := e2 vs hq
  rw [h1] at e3
  cases e3
  subst e1
  exact ⟨m1, Ext.rfl', s, Sv.like xr xf h2⟩
/-- the ints lo, lo + 1, .. -/
def rangeD (lo : Int) (n : Nat) : List D := (List.range n).map fun (i : Nat) => D.int (lo + i)
theorem yld_range {g : G} {m : Mp} {lo : Int} {n : Nat} : Yld g m (Itr lo n) (rangeD lo n) := fun m1 c σ H xr xf s i => by
  have hl : (rangeD lo n).length = n := by unfold rangeD; simp
  refine ⟨fun hi => by rw [hl] at hi; exact Nat.le_of_eq hi.symm, fun d hd => ?_⟩
  have hi : i < n := by
    rw [← hl]
    exact (List.getElem?_eq_some_iff.mp hd).1
  unfold rangeD at hd
  rw [List.getElem?_map, List.getElem?_range hi] at hd
  cases hd
  refine ⟨hi, fun y H' ⟨e1, e2⟩ => ?_⟩
  subst e1
  subst e2
  exact ⟨m1, Ext.rfl', s, .int _⟩
def fitsR (i : Int) : Bool := decide (-(2 ^ 62) ≤ i ∧ i < 2 ^ 62)
/-- a list, a tuple as it stands -/
def dWalk (d : D) : M (List D) := fun c => match d with
  | .lst xs => .ok xs c
  | .tup xs => .ok xs c
  | _ => .stuck
def cWalk (f : M D) : M (List D) := f.bind dWalk
/-- range(n), range(a, b) -/
def cRange1 (f : M D) : M (List D) := f.bind fun x => match x with
  | .int n => M.guard (fitsR n) (M.ret (rangeD 0 n.toNat))
  | _ => fun _ => .stuck
def cRange2 (f h : M D) : M (List D) := f.bind fun x => h.bind fun y => match x, y with
  | .int i, .int j => M.guard (fitsR i && fitsR j) (M.ret (rangeD i (j - i).toNat))
  | _, _ => fun _ => .stuck
section
variable {X : Cx} {g : G} {W : WX} {tg e e2 : Expr} {fe fe2 : M D} {p pos : Pos}
theorem pi_seq (hK : X.K = g.K) (he : PE X e (tE g W fe)) : PI X tg e (tI g W (cWalk fe)) := by
  refine ⟨fun pins s σ H R I ⟨m, c, sm, o⟩ => ?_⟩
  refine thn (he.run pins s σ H _ I ⟨m, c, sm, o.bind⟩) fun u s1 ⟨v, H1, I1, r1, m1, d, c1, x1, s2, k1, o1⟩ => ?_
  cases k1 with
  | @lst a ds vs h1 h2 =>
    cases r1
    obtain ⟨its, _, pl, _⟩ := I1.list (SqL.of (s2.fr _ _ h1))
    refine wpAny_pyIter_list pl.isList ⟨s1.heap.objs.size, [s1.heap.objs.size], _, _, H1, rfl, I1.kept (t' := s1.toks) fun b ob q => Heap.get?_push_of_some _ q, turn_list a _, ⟨_, Heap.get?_push_size _ rfl, rfl, rfl⟩, fun b hb => ?_, ?_⟩
    · cases List.mem_singleton.mp hb
      exact I1.fpOk (Nat.le_refl _) (I1.hok.fresh (Nat.le_refl _))
    · rw [hK]
      exact o1.here s2 (yld_list h1 h2)
  | @tup a ds vs h1 h2 =>
    cases r1
    have hq : SqT X.K H1 a vs := by
      rw [hK]
      exact s2.sqT h1
    obtain ⟨its, _, pl, _⟩ := I1.tuple hq
    refine wpAny_pyIter_tuple (show s1.heap.IsTuple a its.toArray from pl) ⟨s1.heap.objs.size, [s1.heap.objs.size], _, _, H1, rfl, I1.kept (t' := s1.toks) fun b ob q => Heap.get?_push_of_some _ q, turn_tuple a _, ⟨_, Heap.get?_push_size _ rfl, rfl, rfl⟩, fun b hb => ?_, ?_⟩
    · cases List.mem_singleton.mp hb
      exact I1.fpOk (Nat.le_refl _) (I1.hok.fresh (Nat.le_refl _))
    · rw [hK]
      exact o1.here s2 (yld_tup h1 h2)
  | _ => exact o1.elim
theorem si_range1 (hg : Gl X "range") (hm : X.mg "range" = none) (he : PE X e (tE g W fe)) (hs : isStar e = false) : PI X tg (.Call (.Name "range" p) [e] [] pos) (tI g W (cRange1 fe)) := by
  refine pi_imp (pi_range1 hg hm (pa_cons he pa_nil (star_plain hs)) (star_plain hs)) fun σ H R ⟨m, c, s, o⟩ => ⟨m, c, s, o.bind.imp fun v H1 ⟨m1, d, c1, x1, s1, k1, o1⟩ => ?_⟩
  cases k1 with
  | int n =>
    obtain ⟨hz, o1⟩ := Out.guard o1
    have hz := of_decide_eq_true hz
    exact ⟨n, rfl, hz.1, hz.2, o1.here s1 yld_range⟩
  | _ => exact o1.elim
theorem si_range2 (hg : Gl X "range") (hm : X.mg "range" = none) (he : PE X e (tE g W fe)) (he2 : PE X e2 (tE g W fe2)) (hs : isStar e = false) (hs2 : isStar e2 = false) : PI X tg (.Call (.Name "range" p) [e, e2] [] pos) (tI g W (cRange2 fe fe2)) := by
  refine pi_imp (pi_range2 hg hm (pa_cons he (pa_cons he2 pa_nil (star_plain hs2)) (star_plain hs)) (by rw [star_plain hs, star_plain hs2]; rfl) (star_plain hs2)) fun σ H R ⟨m, c, s, o⟩ => ⟨m, c, s, o.bind.imp fun v H1 ⟨m1, d, c1, x1, s1, k1, o1⟩ => ⟨m1, c1, s1, o1.bind.imp fun v2 H2 ⟨m2, d2, c2, x2, s2, k2, o2⟩ => ?_⟩⟩
  cases k1 with
  | int i =>
    cases k2 with
    | int j =>
      obtain ⟨hz, o2⟩ := Out.guard o2
      rw [Bool.and_eq_true] at hz
      have h1 := of_decide_eq_true hz.1
      have h2 := of_decide_eq_true hz.2
      exact ⟨i, j, rfl, ⟨h1.1, h1.2, h2.1, h2.2⟩, o2.here s2 yld_range⟩
    | _ => exact o2.elim
  | _ => cases k2 <;> exact o2.elim
end

/-! ## targets -/
/-- what is assigned where -/
inductive Tg where
  | nm (i : Nat)
  | tp (is : List Nat)
def putAll : List Nat → List D → CS → CS
  | i :: is, d :: ds, c => putAll is ds (c.put i (.val d))
  | _, _, c => c
def cTg : Tg → D → M Fl
  | .nm i, d => fun c => .ok .next (c.put i (.val d))
  | .tp is, .tup ds => fun c => match decide (ds.length = is.length) with
    | true => .ok .next (putAll is ds c)
    | false => .stuck
  | .tp _, _ => fun _ => .stuck
/-- σ behind the stores -/
def setAll : List Nat → List V → L2.St → L2.St
  | i :: is, v :: vs, σ => setAll is vs (σ.set i (some v))
  | _, _, σ => σ
theorem Sim.putAll {g : G} {m : Mp} {H : Hp} : ∀ (is : List Nat) {ds : List D} {vs : List V} {c : CS} {σ : L2.St}, Sim g m c σ H → Svs g m ds vs → Sim g m (CL.putAll is ds c) (setAll is vs σ) H
  | [], _, _, _, _, s, _ => by
    unfold CL.putAll setAll
    exact s
  | i :: is, _, _, _, _, s, .nil => s
  | i :: is, _, _, _, _, s, .cons k r => Sim.putAll is (s.val k) r
/-- a target by its slots -/
def gT (g : G) (t : Tg) : TG := fun v σ H Q => match t with
  | .nm i => Q (σ.set i (some v)) H
  | .tp is => ∃ a xs, v = .ref a ∧ SqT g.K H a xs ∧ xs.length = is.length ∧ Q (setAll is xs σ) H
structure PTg (g : G) (X : Cx) (tg : Expr) (t : Tg) : Prop where
  run : PG X tg (gT g t)
def Tg.slots : Tg → List Nat
  | .nm i => [i]
  | .tp is => is
theorem wipe_get (σ : L2.St) (j : Nat) : ∀ vs : List Nat, (wipe σ vs)[j]? = if j ∈ vs then σ[j]?.map (fun _ => none) else σ[j]?
  | [] => by simp [wipe]
  | v :: vs => by
    have ih := wipe_get σ j vs
    unfold wipe
    by_cases e : v = j
    · subst e
      rw [if_pos (List.mem_cons_self)]
      by_cases h : v < σ.length
      · rw [List.getElem?_set_self (by rw [wipe_length]; exact h), List.getElem?_eq_getElem h]
        rfl
      · rw [List.getElem?_eq_none (by rw [List.length_set, wipe_length]; omega), List.getElem?_eq_none (by omega)]
        rfl
    · rw [List.getElem?_set_ne e, ih]
      by_cases h : j ∈ vs
      · rw [if_pos h, if_pos (List.mem_cons_of_mem _ h)]
      · rw [if_neg h, if_neg (fun z => (List.mem_cons.mp z).elim (fun z => e z.symm) h)]
theorem wipe_set {σ : L2.St} {i : Nat} {o : Option V} {vs : List Nat} (h : i ∈ vs) : wipe (σ.set i o) vs = wipe σ vs := by
  refine List.ext_getElem? fun j => ?_
  rw [wipe_get, wipe_get]
  by_cases e : i = j
  · subst e
    rw [if_pos h, if_pos h, List.getElem?_set]
    by_cases h : i < σ.length
    · simp [h]
    · simp [h]
  · rw [List.getElem?_set_ne e]
theorem wipe_wipe (σ : L2.St) (vs : List Nat) : wipe (wipe σ vs) vs = wipe σ vs := by
  refine List.ext_getElem? fun j => ?_
  rw [wipe_get, wipe_get]
  by_cases h : j ∈ vs
  · rw [if_pos h, if_pos h]
    cases σ[j]? <;> rfl
  · rw [if_neg h, if_neg h]
theorem wipe_setAll {vs : List Nat} : ∀ (is : List Nat) (xs : List V) (σ : L2.St), (∀ i ∈ is, i ∈ vs) → wipe (setAll is xs σ) vs = wipe σ vs
  | [], _, _, _ => by unfold setAll; rfl
  | i :: is, [], _, _ => rfl
  | i :: is, x :: xs, σ, h => by
    show wipe (setAll is xs (σ.set i (some x))) vs = _
    rw [wipe_setAll is xs _ fun j hj => h j (List.mem_cons_of_mem _ hj), wipe_set (h i List.mem_cons_self)]
theorem PTg.go {g : G} {t : Tg} {m : Mp} {c c' : CS} {σ : L2.St} {H : Hp} {d : D} {v : V} {Q : L2.St → Hp → Prop} (s : Sim g m c σ H) (k : Sv g m d v) (e : cTg t d c = .ok .next c') (q : ∀ σ', Sim g m c' σ' H → (∀ vs : List Nat, (∀ i ∈ t.slots, i ∈ vs) → wipe σ' vs = wipe σ vs) → Q σ' H) : gT g t v σ H Q := by
  cases t with
  | nm i =>
    cases e
    exact q _ (s.val k) fun vs h => wipe_set (h i List.mem_cons_self)
  | tp is =>
    cases k with
    | @tup a ds vs h1 h2 =>
      have e : (match decide (ds.length = is.length) with
        | true => R.ok Fl.next (putAll is ds c)
        | false => .stuck) = .ok .next c' := e
      cases hd : decide (ds.length = is.length) with
      | false => rw [hd] at e; cases e
      | true =>
        rw [hd] at e
        cases e
        have hl := of_decide_eq_true hd
        exact ⟨a, vs, rfl, s.sqT h1, by rw [← h2.length]; exact hl, q _ (s.putAll is h2) fun us h => wipe_setAll is vs σ h⟩
    | _ => cases e
theorem cTg_next (t : Tg) (d : D) (c : CS) : (∃ c', cTg t d c = .ok .next c') ∨ cTg t d c = .stuck := by
  cases t with
  | nm i => exact .inl ⟨_, rfl⟩
  | tp is =>
    cases d with
    | tup ds =>
      show (∃ c', (match decide (ds.length = is.length) with
        | true => R.ok Fl.next (putAll is ds c)
        | false => .stuck) = .ok .next c') ∨ (match decide (ds.length = is.length) with
        | true => R.ok Fl.next (putAll is ds c)
        | false => .stuck) = .stuck
      cases decide (ds.length = is.length) with
      | true => exact .inl ⟨_, rfl⟩
      | false => exact .inr rfl
    | _ => exact .inr rfl
section
variable {g : G} {k : Nat} {N : List Str} {X : Cx} {sc ws : Scope} {W : WX} {pos : Pos} {x : Str} {i : Nat}
theorem tg_name (q : Good g k N X sc ws W) (hi : N[i]? = some x) (hl : isLoc (ws.names.lookup x) = true) : PTg g X (.Name x pos) (.nm i) := ⟨pg_name q.ndX (q.at_ hi) (q.sto x hl).1 (q.sto x hl).2⟩
/-- the names of a tuple of targets -/
def tgNames (N : List Str) (ws : Scope) : List Expr → List Nat → Bool
  | [], [] => true
  | .Name x _ :: es, i :: is => decide (N[i]? = some x) && isLoc (ws.names.lookup x) && tgNames N ws es is
  | _, _ => false
theorem pgs_all (q : Good g k N X sc ws W) : ∀ (es : List Expr) (is : List Nat), tgNames N ws es is = true → PGs X es (fun vs σ H Q => vs.length = is.length ∧ Q (setAll is vs σ) H) ∧ (assignEach es X.env).length = is.length ∧ (assignEach es X.env).findIdx? (·.1) = none
  | [], [], _ => ⟨⟨fun pins s σ H vs us Q I r h => by
      obtain ⟨h1, h2⟩ := h
      have e : vs = [] := by cases vs with
        | nil => rfl
        | cons _ _ => cases h1
      subst e
      exact pgs_nil.run pins s σ H [] us Q I r ⟨rfl, by unfold setAll at h2; exact h2⟩⟩, rfl, rfl⟩
  | [], _ :: _, h => by cases h
  | e :: es, is, h => by
    cases e with
    | Name x p =>
      cases is with
      | nil => cases h
      | cons i is =>
        have h : (decide (N[i]? = some x) && isLoc (ws.names.lookup x) && tgNames N ws es is) = true := h
        rw [Bool.and_eq_true, Bool.and_eq_true] at h
        obtain ⟨⟨h1, h2⟩, h3⟩ := h
        obtain ⟨r1, r2, r3⟩ := pgs_all q es is h3
        refine ⟨⟨fun pins s σ H vs us Q I r hq => ?_⟩, ?_, ?_⟩
        · refine (pgs_cons (pg_name (pos := p) q.ndX (q.at_ (of_decide_eq_true h1)) (q.sto x h2).1 (q.sto x h2).2) r1).run pins s σ H vs us Q I r ?_
          obtain ⟨hl, hq⟩ := hq
          cases vs with
          | nil => cases hl
          | cons v vs => exact ⟨v, vs, rfl, by simpa using hl, hq⟩
        · show (assignEach es X.env).length + 1 = is.length + 1
          rw [r2]
        · show List.findIdx? _ ((false, assign (.Name x p) X.env) :: assignEach es X.env) = none
          rw [List.findIdx?_cons, r3]
          rfl
    | _ => cases is <;> cases h
theorem tg_tup (q : Good g k N X sc ws W) {es : List Expr} {is : List Nat} {j : Nat} (h : tgNames N ws es is = true) : PTg g X (.Tuple es j pos) (.tp is) := by
  obtain ⟨r1, r2, r3⟩ := pgs_all q es is h
  refine ⟨⟨fun pins s σ H v u Q I r hq => ?_⟩⟩
  obtain ⟨a, xs, e, hs, hl, hq⟩ := hq
  exact (pg_tup (n := is.length) q.calm r1 r2 r3).run pins s σ H v u Q I r ⟨a, xs, e, by rw [q.hK]; exact hs, hl, hl, hq⟩
end

/-! ## for -/
def forL (body : D → M Fl) : List D → M Fl
  | [] => fun c => .ok .next c
  | d :: ds => fun c => match body d c with
    | .ok .next c' => forL body ds c'
    | .ok .cont c' => forL body ds c'
    | .ok .brk c' => .ok .next c'
    | .ok (.ret v) c' => .ok (.ret v) c'
    | .exc cn vs c' => .exc cn vs c'
    | .stuck => .stuck
def cFor (fi : M (List D)) (t : Tg) (body : M Fl) : M Fl := fun c => (fi c).bind fun ds c' => forL (fun d => cSeq (cTg t d) body) ds c'
section
variable {g : G} {k : Nat} {N : List Str} {X : Cx} {sc ws : Scope} {W : WX} {pos : Pos} {tg iter : Expr} {bd : List Stmt} {fi : M (List D)} {t : Tg} {fb : M Fl}
theorem ss_for (q : Good g k N X sc ws W) (hi : PI X tg iter (tI g W fi)) (ht : PTg g X tg t) (hb : PSs X bd (tS g W fb)) (hs : notSet iter = true) : PS X (.For tg iter bd [] pos) (tS g W (cFor fi t fb)) := by
  refine ps_imp (ps_for q.own q.calm hi ht.run hb (folded_ok hs)) fun Dn σ H ⟨m, c, s, o⟩ => ⟨m, c, s, o.bind.imp fun J H1 ⟨m1, ds, c1, x1, s1, y, o1⟩ => ?_⟩
  refine ⟨fun i mm σ H => mm = ds.length - i ∧ i ≤ ds.length ∧ ∃ m2 c2, Ext m1 m2 ∧ Sim g m2 c2 σ H ∧ OutS g W m2 (forL (fun d => cSeq (cTg t d) fb) (ds.drop i) c2) Dn, ⟨ds.length, by simp, Nat.zero_le _, m1, c1, Ext.rfl', s1, o1⟩, ?_⟩
  rintro i mm σ2 H2 ⟨rfl, hi, m2, c2, x2, s2, o2⟩
  obtain ⟨y1, y2⟩ := y m2 c2 σ2 H2 x2.r x2.f s2 i
  by_cases hlt : i < ds.length
  · obtain ⟨go, yl⟩ := y2 _ (List.getElem?_eq_getElem hlt)
    rw [List.drop_eq_getElem_cons hlt] at o2
    refine .inr ⟨go, fun σ3 H3 => ∃ m3 c3, Ext m1 m3 ∧ Sim g m3 c3 σ3 H3 ∧ OutS g W m3 (forL (fun d => cSeq (cTg t d) fb) (ds.drop (i + 1)) c3) Dn, fun σ3 H3 ⟨m3, c3, z1, z2, z3⟩ => ⟨ds.length - (i + 1), by omega, rfl, hlt, m3, c3, z1, z2, z3⟩, fun x H3 yx => ?_⟩
    obtain ⟨m3, x3, s3, k3⟩ := yl x H3 yx
    have o3 := OutS.mono x3 o2
    unfold forL at o3
    rcases cTg_next t ds[i] c2 with ⟨c4, e4⟩ | e4
    · refine PTg.go s3 k3 e4 fun σ4 s4 _ => ⟨m3, c4, s4, ?_⟩
      have e5 : cSeq (cTg t ds[i]) fb c2 = fb c4 := by
        unfold cSeq
        rw [e4]
      rw [e5] at o3
      cases q : fb c4 with
      | ok f c5 =>
        rw [q] at o3
        cases f with
        | next => exact fun m6 σ6 H6 x6 s6 => ⟨m6, c5, (x2.trans x3).trans x6, s6, OutS.mono x6 o3⟩
        | cont => exact fun m6 σ6 H6 x6 s6 => ⟨m6, c5, (x2.trans x3).trans x6, s6, OutS.mono x6 o3⟩
        | brk => exact o3
        | ret v => exact o3
      | exc cn vs c5 => rw [q] at o3; exact o3
      | stuck => rw [q] at o3; exact o3
    · have e5 : cSeq (cTg t ds[i]) fb c2 = .stuck := by
        unfold cSeq
        rw [e4]
      rw [e5] at o3
      exact o3.elim
  · have e : i = ds.length := by omega
    subst e
    rw [List.drop_length] at o2
    exact .inl ⟨y1 rfl, o2.nx s2⟩
end
end CL
namespace CL
open PySem PySem.Spec PyProof.Rows L2

/-! ## list comprehensions -/
abbrev WF : WX := fun _ _ _ _ => False
def wipeC (vs : List Nat) (c : CS) : CS := vs.foldr (fun v c => c.put v .no) c
theorem Sim.wipe {g : G} {m : Mp} {H : Hp} {c : CS} {σ : L2.St} (s : Sim g m c σ H) : ∀ vs : List Nat, Sim g m (wipeC vs c) (L2.wipe σ vs) H
  | [] => s
  | v :: vs => by
    show Sim g m ((wipeC vs c).put v .no) ((L2.wipe σ vs).set v none) H
    exact (s.wipe vs).no none
theorem Sim.unwipe {g : G} {m : Mp} {H : Hp} {c : CS} {σ : L2.St} {vs : List Nat} (s : Sim g m c (L2.wipe σ vs) H) : Sim g m c σ H :=
  ⟨s.fr, s.nd, s.len, s.ini, by rw [s.ln, wipe_length], s.st, s.bk, fun i t h => by
    have q := s.sl i t h
    cases t with
    | no => trivial
    | val d =>
      obtain ⟨v, q1, q2⟩ := q
      exact ⟨v, (wipe_some q1).1, q2⟩
    | own o =>
      obtain ⟨q1, q2, q3⟩ := q
      exact ⟨(wipe_some q1).1, q2, q3⟩⟩
/-- a free object is put into the background -/
theorem Sim.hide {g : G} {m : Mp} {H : Hp} {c : CS} {σ : L2.St} (s : Sim g m c σ H) {p : Addr} {u : HO} (f : Fre m c p) (hp : H p = some u) (nt : ∀ ps, u ≠ .tbl ps) : Sim g { m with B := upd m.B p u } c σ H := by
  refine ⟨s.fr, s.nd, s.len, s.ini, s.ln, fun n a o h1 h2 => ⟨(s.st n a o h1 h2).1, So.like (m := m) (m' := { m with B := upd m.B p u }) (fun _ _ z => z) (fun _ _ z => z) rfl (s.st n a o h1 h2).2⟩, fun a o z => ?_, fun i t h => ?_⟩
  · have z : upd m.B p u a = some o := z
    by_cases e : a = p
    · subst e
      rw [upd_same] at z
      cases z
      exact ⟨hp, f.f, f.r, nt⟩
    · rw [upd_ne e] at z
      exact s.bk a o z
  · have q := s.sl i t h
    cases t with
    | no => trivial
    | val d =>
      obtain ⟨v, q1, q2⟩ := q
      exact ⟨v, q1, Sv.like (m := m) (m' := { m with B := upd m.B p u }) (fun _ _ z => z) (fun _ _ z => z) q2⟩
    | own o =>
      obtain ⟨q1, q2, q3⟩ := q
      refine ⟨q1, So.like (m := m) (m' := { m with B := upd m.B p u }) (fun _ _ z => z) (fun _ _ z => z) rfl q2, ⟨q3.fr, ?_, q3.rh, q3.ap⟩⟩
      show upd m.B p u (m.lam i) = none
      rw [upd_ne (f.o i o h)]
      exact q3.bk
/-- it comes back, changed -/
theorem Sim.unhide {g : G} {m : Mp} {B : Hp} {H : Hp} {c : CS} {σ : L2.St} {p : Addr} {u u' : HO} (s : Sim g m c σ H) (hB : m.B = upd B p u) (hn : B p = none) : H p = some u ∧ Sim g { m with B := B } c σ (upd H p u') ∧ Fre { m with B := B } c p := by
  have hp : m.B p = some u := by rw [hB, upd_same]
  obtain ⟨z1, z2, z3, z4⟩ := s.bk p u hp
  have no : ∀ (i : Nat) (o : O), c.sl[i]? = some (.own o) → m.lam i ≠ p := fun i o h e => by
    obtain ⟨_, _, q3⟩ := s.sl i _ h
    have q := q3.bk
    rw [e, hp] at q
    cases q
  refine ⟨z1, ⟨fun a o z => ?_, s.nd, s.len, s.ini, s.ln, fun n a o h1 h2 => ?_, fun a o z => ?_, fun i t h => ?_⟩, ⟨z2, hn, z3, no⟩⟩
  · rw [upd_ne (fun e => by
      have z : m.F a = some o := z
      rw [e, z2] at z
      cases z)]
    exact s.fr a o z
  · obtain ⟨k1, k2⟩ := s.st n a o h1 h2
    exact ⟨k1, So.like (m := m) (m' := { m with B := B }) (fun _ _ z => z) (fun _ _ z => z) (upd_ne fun e => z3 (by rw [← e]; exact List.mem_of_getElem? h1)) k2⟩
  · have z : B a = some o := z
    have ne : a ≠ p := fun e => by rw [e, hn] at z; cases z
    rw [upd_ne ne]
    exact s.bk a o (by rw [hB, upd_ne ne]; exact z)
  · have q := s.sl i t h
    cases t with
    | no => trivial
    | val d =>
      obtain ⟨v, q1, q2⟩ := q
      exact ⟨v, q1, Sv.like (m := m) (m' := { m with B := B }) (fun _ _ z => z) (fun _ _ z => z) q2⟩
    | own o =>
      obtain ⟨q1, q2, q3⟩ := q
      have ne := no i o h
      refine ⟨q1, So.like (m := m) (m' := { m with B := B }) (fun _ _ z => z) (fun _ _ z => z) (upd_ne ne) q2, ⟨q3.fr, ?_, q3.rh, q3.ap⟩⟩
      show B (m.lam i) = none
      have q := q3.bk
      rw [hB, upd_ne ne] at q
      exact q
theorem Fre.wipe {m : Mp} {p : Addr} : ∀ (vs : List Nat) {c : CS}, Fre m c p → Fre m (wipeC vs c) p
  | [], _, f => f
  | v :: vs, c, f => by
    have ih := Fre.wipe vs f
    refine ⟨ih.f, ih.b, ih.r, fun j o h => ?_⟩
    have h : ((wipeC vs c).sl.set v .no)[j]? = some (.own o) := h
    by_cases e : v = j
    · subst e
      by_cases hi : v < (wipeC vs c).sl.length
      · rw [List.getElem?_set_self hi] at h
        cases h
      · rw [List.getElem?_eq_none (by rw [List.length_set]; omega)] at h
        cases h
    · rw [List.getElem?_set_ne e] at h
      exact ih.o j o h

def lcL (t : Tg) (ft : M Bool) (fe : M D) (vs : List Nat) : List D → List D → M (List D)
  | [], acc => M.ret acc
  | d :: ds, acc => fun c => match cTg t d c with
    | .ok .next c1 => match ft c1 with
      | .ok true c2 => match fe c2 with
        | .ok y c3 => M.guard (decide (acc.length < sizeLine)) (lcL t ft fe vs ds (acc ++ [y])) (wipeC vs c3)
        | _ => .stuck
      | .ok false c2 => lcL t ft fe vs ds acc (wipeC vs c2)
      | _ => .stuck
    | _ => .stuck
def cLc (fi : M (List D)) (t : Tg) (ft : M Bool) (fe : M D) (vs : List Nat) : M (List D) := fun c => (fi c).bind fun ds c' => lcL t ft fe vs ds [] (wipeC vs c')

/-- the invariant of a comprehension -/
def LcI (g : G) (W : WX) (σ : L2.St) (vs : List Nat) (Q : VK) (t : Tg) (ft : M Bool) (fe : M D) (m1 : Mp) (Dl : Addr) (rest : List D) (H : Hp) : Prop :=
  ∃ m2 c2 acc av, Ext m1 m2 ∧ Sim g m2 c2 (L2.wipe σ vs) H ∧ H Dl = some (.lst av) ∧ Svs g m2 acc av ∧ Fre m2 c2 Dl ∧ Out (rL g) g W σ m2 (lcL t ft fe vs rest acc c2) Q
section
variable {g : G} {k : Nat} {N : List Str} {X : Cx} {sc ws : Scope} {W : WX} {pos : Pos} {tg iter elt : Expr} {ifs : List Expr} {fi : M (List D)} {t : Tg} {ft : M Bool} {fe : M D} {scope : Scope} {own : List (Str × Nat)}
/-- the reading of a comprehension -/
theorem lc_read (hv : ∀ i ∈ t.slots, i ∈ own.map (·.2)) (σ : L2.St) (H : Hp) (Q : VK) (q : tL g W (cLc fi t ft fe (own.map (·.2))) σ H Q) : tLc (tI g W fi) (gT g t) (tT g WF ft) (tE g WF fe) (own.map (·.2)) σ H Q := by
  obtain ⟨m, c, s, o⟩ := q
  refine ⟨m, c, s, o.bind.imp fun J H1 ⟨m1, ds, c1, x1, s1, y, o1⟩ => fun Dl hD => ?_⟩
  obtain ⟨s2, f2⟩ := (s1.wipe (own.map (·.2))).new (u := .lst []) hD
  refine ⟨fun i mm H => mm = ds.length - i ∧ i ≤ ds.length ∧ LcI g W σ (own.map (·.2)) Q t ft fe m1 Dl (ds.drop i) H, ⟨ds.length, by simp, Nat.zero_le _, m1, _, [], [], Ext.rfl', s2, upd_same, .nil, f2, o1⟩, ?_⟩
  rintro i mm H2 ⟨rfl, hi, m2, c2, acc, av, x2, s2, hp, ha, f2, o2⟩
  by_cases hlt : i < ds.length
  · have sB := s2.hide f2 hp (fun ps z => nomatch z)
    obtain ⟨_, y2⟩ := y { m2 with B := upd m2.B Dl (.lst av) } c2 _ H2 x2.r x2.f sB i
    obtain ⟨go, yl⟩ := y2 _ (List.getElem?_eq_getElem hlt)
    rw [List.drop_eq_getElem_cons hlt] at o2
    refine .inr ⟨go, LcI g W σ (own.map (·.2)) Q t ft fe m1 Dl (ds.drop (i + 1)), fun H3 z => ⟨ds.length - (i + 1), by omega, rfl, hlt, z⟩, fun x H3 yx => ?_⟩
    obtain ⟨m3, x3, s3, k3⟩ := yl x H3 yx
    unfold lcL at o2
    -- whatever stands behind the element
    have fin : ∀ {m6 : Mp} {c6 : CS} {σ4 : L2.St} {H4 : Hp} {acc' : List D} {av' : List V}, Ext { m2 with B := upd m2.B Dl (.lst av) } m6 → Sim g m6 c6 σ4 H4 → L2.wipe σ4 (own.map (·.2)) = L2.wipe σ (own.map (·.2)) → Svs g m6 acc' av' → Out (rL g) g W σ m2 (lcL t ft fe (own.map (·.2)) (ds.drop (i + 1)) acc' (wipeC (own.map (·.2)) c6)) Q →
        H4 Dl = some (.lst av) ∧ LcI g W σ (own.map (·.2)) Q t ft fe m1 Dl (ds.drop (i + 1)) (upd H4 Dl (.lst av')) := fun {m6 c6 σ4 H4 acc' av'} x6 s6 w6 k6 o6 => by
      obtain ⟨z1, z2, z3⟩ := s6.unhide (u' := .lst av') x6.b f2.b
      have ex : Ext m2 { m6 with B := m2.B } := ⟨x6.r, x6.f, rfl, x6.i⟩
      refine ⟨z1, { m6 with B := m2.B }, wipeC (own.map (·.2)) c6, acc', av', x2.trans ex, ?_, upd_same, Svs.like (m := m6) (m' := { m6 with B := m2.B }) (fun _ _ z => z) (fun _ _ z => z) k6, z3.wipe _, o6.mono ex⟩
      have z := z2.wipe (own.map (·.2))
      rw [w6] at z
      exact z
    have same : ∀ {H4 : Hp}, H4 Dl = some (.lst av) → upd H4 Dl (.lst av) = H4 := fun {H4} h => by
      funext b
      by_cases e : b = Dl
      · rw [e, upd_same, h]
      · rw [upd_ne e]
    rcases cTg_next t ds[i] c2 with ⟨c4, e4⟩ | e4
    · rw [e4] at o2
      dsimp only at o2
      refine PTg.go s3 k3 e4 fun σ4 s4 w4 => ⟨?_, m3, c4, s4, ?_⟩
      · rw [w4 _ hv, wipe_wipe]
      · have w4 := (w4 _ hv).trans (wipe_wipe σ _)
        cases q : ft c4 with
        | ok b c5 =>
          rw [q] at o2
          intro m5 b' H5 x5 s5 kb
          have kb : b = b' := kb
          subst kb
          cases b with
          | true =>
            dsimp only at o2
            show tE g WF fe σ4 H5 _
            refine ⟨m5, c5, s5, ?_⟩
            cases r : fe c5 with
            | ok yv c6 =>
              rw [r] at o2
              obtain ⟨hz, o2⟩ := Out.guard o2
              intro m6 v H6 x6 s6 k6
              have xx := (x3.trans x5).trans x6
              obtain ⟨z1, z2⟩ := fin xx s6 w4 ((Svs.like (m := m2) (m' := m6) xx.r xx.f ha).append (.cons k6 .nil)) o2
              exact ⟨av, z1, by rw [← ha.length]; exact of_decide_eq_true hz, z2⟩
            | exc cn us c6 => rw [r] at o2; exact o2.elim
            | stuck => rw [r] at o2; exact o2.elim
          | false =>
            dsimp only at o2
            have xx := x3.trans x5
            obtain ⟨z1, z2⟩ := fin xx s5 w4 (Svs.like (m := m2) (m' := m5) xx.r xx.f ha) o2
            rw [same z1] at z2
            exact z2
        | exc cn us c5 => rw [q] at o2; exact o2.elim
        | stuck => rw [q] at o2; exact o2.elim
    · rw [e4] at o2
      exact o2.elim
  · have e : i = ds.length := by omega
    subst e
    obtain ⟨y1, _⟩ := y m2 c2 _ H2 x2.r x2.f s2 ds.length
    rw [List.drop_length] at o2
    exact .inl ⟨y1 rfl, o2.here s2.unwipe ⟨Dl, av, rfl, hp, ha, f2⟩⟩
/-- the inner judgements of a comprehension -/
structure LcJ (g : G) (X : Cx) (scope : Scope) (tg : Expr) (t : Tg) (ifs : List Expr) (ft : M Bool) (elt : Expr) (fe : M D) : Prop where
  tg : ∀ (s : Shared) (H : Hp) (C : Addr) (cl : List (Str × Addr)) (fp : List Addr), PTg g (X.blk s H scope (compEnvC scope cl C X.env) fp) tg t
  ts : ∀ (s : Shared) (H : Hp) (C : Addr) (cl : List (Str × Addr)) (fp : List Addr), PTs (X.blk s H scope (compEnvC scope cl C X.env) fp) ifs (tT g WF ft)
  el : ∀ (s : Shared) (H : Hp) (C : Addr) (cl : List (Str × Addr)) (fp : List Addr), PE (X.blk s H scope (compEnvC scope cl C X.env) fp) elt (tE g WF fe)
theorem sl_lc (q : Good g k N X sc ws W) (hi : PI X tg iter (tI g W fi)) (ok : BlkOk X.N X.env.scope scope own) (J : LcJ g X scope tg t ifs ft elt fe) (hv : ∀ i ∈ t.slots, i ∈ own.map (·.2)) (hs : notSet iter = true) : PE X (.ListComp elt [⟨tg, iter, ifs, 0⟩] scope pos) (tL g W (cLc fi t ft fe (own.map (·.2)))) :=
  pe_imp (pe_lc q.calm q.ndX hi ok (fun s H C cl fp => (J.tg s H C cl fp).run) J.ts J.el (folded_ok hs)) (lc_read hv)
/-- x = [..] on one line -/
theorem ss_setLc {i : Nat} {y : Str} {py spos : Pos} (q : Good g k N X sc ws W) (hy : N[i]? = some y) (hyl : sc.names.lookup y = some .local) (hsw : swapsWith (.ListComp elt [⟨tg, iter, ifs, 0⟩] scope pos) (some (.Name y py)) spos.line X.env = pure true)
    (hi : PI X tg iter (tI g W fi)) (ok : BlkOk X.N X.env.scope scope own) (J : LcJ g X scope tg t ifs ft elt fe) (hv : ∀ i ∈ t.slots, i ∈ own.map (·.2)) (hs : notSet iter = true) :
    PS X (.Assign [.Name y py] (.ListComp elt [⟨tg, iter, ifs, 0⟩] scope pos) spos) (tS g W (cSetL i (cLc fi t ft fe (own.map (·.2))))) :=
  ps_imp (ps_setLc q.calm q.ndX (q.at_ hy) (by rw [q.hsc]; exact hyl) hsw hi ok (fun s H C cl fp => (J.tg s H C cl fp).run) J.ts J.el (folded_ok hs)) fun Dn σ H h => lc_read hv σ H _ (cSetL_ok Dn σ H h)
/-- .. frozen at once -/
theorem ss_setLcV {i : Nat} {y : Str} {py spos : Pos} (q : Good g k N X sc ws W) (hy : N[i]? = some y) (hyl : sc.names.lookup y = some .local) (hsw : swapsWith (.ListComp elt [⟨tg, iter, ifs, 0⟩] scope pos) (some (.Name y py)) spos.line X.env = pure true)
    (hi : PI X tg iter (tI g W fi)) (ok : BlkOk X.N X.env.scope scope own) (J : LcJ g X scope tg t ifs ft elt fe) (hv : ∀ i ∈ t.slots, i ∈ own.map (·.2)) (hs : notSet iter = true) :
    PS X (.Assign [.Name y py] (.ListComp elt [⟨tg, iter, ifs, 0⟩] scope pos) spos) (tS g W (cSet i (froz (cLc fi t ft fe (own.map (·.2)))))) :=
  ps_imp (ps_setLc q.calm q.ndX (q.at_ hy) (by rw [q.hsc]; exact hyl) hsw hi ok (fun s H C cl fp => (J.tg s H C cl fp).run) J.ts J.el (folded_ok hs)) fun Dn σ H h => lc_read hv σ H _ (by
    obtain ⟨m, c, s, o⟩ := cSet_ok Dn σ H h
    refine ⟨m, c, s, o.bind.imp fun v H1 ⟨m1, xs, c1, x1, s1, k1, o1⟩ => ?_⟩
    obtain ⟨m2, x2, s2, k2⟩ := s1.freezeL k1
    exact (o1.mono x2).here (Q := fun v H1 => Dn.nx (σ.set i (some v)) H1) s2 k2)
theorem sts_nil : PTs X [] (tT g WF (M.ret true)) := ⟨fun pins s σ H Q I ⟨m, c, sm, o⟩ => pts_nil.run pins s σ H Q I (o.here sm rfl)⟩
theorem sts_one {c : Expr} (h : PT X c (tT g WF ft)) : PTs X [c] (tT g WF ft) := pts_one h
end
end CL
namespace CL
open PySem PySem.Spec PyProof.Rows L2

/-! ## built-in functions -/
def SC {β γ : Type} (rel : G → Rl γ V) (g : G) (r : List V → Hp → VK → Prop) (f : List D → M γ) : Prop := ∀ (W : WX) (m : Mp) (c : CS) (σ : L2.St) (H : Hp) (ds : List D) (vs : List V) (Q : VK), Sim g m c σ H → Svs g m ds vs → Out (rel g) g W σ m (f ds c) Q → r vs H Q
abbrev SCE (g : G) (r : List V → Hp → VK → Prop) (f : List D → M D) : Prop := SC (β := Unit) (fun g => rE g) g r f
abbrev SCL (g : G) (r : List V → Hp → VK → Prop) (f : List D → M (List D)) : Prop := SC (β := Unit) (fun g => rL g) g r f
section
variable {X : Cx} {g : G} {W : WX} {x : Str} {p pos : Pos} {e : Expr} {es : List Expr} {id T : String} {r : List V → Hp → VK → Prop} {fa : M (List D)} {γ : Type} {rel : G → Rl γ V} {f : List D → M γ}
theorem sx_args (h : SC (β := Unit) rel g r f) (σ : L2.St) (H : Hp) (Q : VK) (q : tX (rel g) g W (fa.bind f) σ H Q) : tCB r (tA g W fa) σ H Q := by
  obtain ⟨m, c, s, o⟩ := q
  exact ⟨m, c, s, o.bind.imp fun vs H1 ⟨m1, ds, c1, x1, s1, k1, o1⟩ => h W m1 c1 σ H1 ds vs Q s1 k1 o1⟩
theorem sx_callB (hc : CallR X (.builtin id) r) (h : SC (β := Unit) rel g r f) (hg : Gl X x) (hm : X.mg x = none) (hv : bootBuiltins x = some (.builtin id)) (ha : PA X (e :: es) (tA g W fa)) (hn : x ≠ "__name__") (hd : (x == ("__debug__" : Str)) = false) (hp : plainArgs (e :: es) = true) : PE X (.Call (.Name x p) (e :: es) [] pos) (tX (rel g) g W (fa.bind f)) := by
  have hp' := hp
  unfold plainArgs at hp'
  rw [List.all_cons, Bool.and_eq_true] at hp'
  exact pe_imp (pe_callB hc hg hm hv ha hn hd (star_plain (by simpa using hp'.1)) (plain_any (es := es) hp'.2)) (sx_args h)
theorem sx_callTy (hc : CallR X (.type T) r) (h : SC (β := Unit) rel g r f) (hg : Gl X x) (hm : X.mg x = none) (hv : bootBuiltins x = some (.type T)) (ha : PA X (e :: es) (tA g W fa)) (hn : x ≠ "__name__") (hd : (x == ("__debug__" : Str)) = false) (hp : plainArgs (e :: es) = true) : PE X (.Call (.Name x p) (e :: es) [] pos) (tX (rel g) g W (fa.bind f)) := by
  have hp' := hp
  unfold plainArgs at hp'
  rw [List.all_cons, Bool.and_eq_true] at hp'
  exact pe_imp (pe_callTy hc hg hm hv ha hn hd (star_plain (by simpa using hp'.1)) (plain_any (es := es) hp'.2)) (sx_args h)
end
/-- len -/
def bLen : List D → M D
  | [.str x] => M.guard (szOk x.length) (M.ret (.int x.length))
  | [.tup xs] => M.ret (.int xs.length)
  | [.scr ns] => M.ret (.int ns.length)
  | [d] => fun c => match c.seqL d with
    | some xs => .ok (.int xs.length) c
    | none => .stuck
  | _ => fun _ => .stuck
theorem Svs.one {g : G} {m : Mp} {d : D} {vs : List V} (h : Svs g m [d] vs) : ∃ v, vs = [v] ∧ Sv g m d v := by
  cases h with
  | cons a b => cases b; exact ⟨_, rfl, a⟩
theorem sc_len {g : G} : SCE g (fun xs H Q => ∃ x n, xs = [x] ∧ LenV g.K x H n ∧ Q (.int n) H) bLen := by
  intro W m c σ H ds vs Q s hv o
  cases hv with
  | nil => exact o.elim
  | @cons d v ds vs k r =>
    cases r with
    | cons _ _ => cases k <;> exact o.elim
    | nil =>
      have lst : ∀ {xs : List D}, c.seqL d = some xs → Out (rE g) g W σ m (.ok (.int xs.length) c) Q → ∃ x n, [v] = [x] ∧ LenV g.K x H n ∧ Q (.int n) H := fun {xs} e o => by
        obtain ⟨p, ws, rfl, hp, hw⟩ := s.seqL e k
        exact ⟨_, xs.length, rfl, .inl ⟨ws, SqL.of hp, hw.length⟩, o.here s (.int _)⟩
      cases k with
      | str z =>
        obtain ⟨hz, o⟩ := Out.guard o
        exact ⟨_, _, rfl, ⟨of_decide_eq_true hz, rfl⟩, o.here s (.int _)⟩
      | @tup p xs ws h1 h2 => exact ⟨_, xs.length, rfl, .inr ⟨ws, s.sqT h1, h2.length⟩, o.here s (.int _)⟩
      | @scr ns p h1 => exact ⟨_, ns.length, rfl, .inl ⟨_, s.sqL h1, by rw [List.length_map]⟩, o.here s (.int _)⟩
      | @lst p xs ws h1 h2 => exact lst rfl o
      | @ref n p h1 =>
        have o : Out (rE g) g W σ m (match c.seqL (.ref n) with
          | some xs => .ok (.int xs.length) c
          | none => .stuck) Q := o
        cases e : c.seqL (.ref n) with
        | none => rw [e] at o; exact o.elim
        | some xs =>
          rw [e] at o
          exact lst e o
      | _ => exact o.elim
/-- list(x): a fresh list; tuple(x) -/
def bList : List D → M (List D)
  | [.tup xs] => M.ret xs
  | [.scr ns] => M.ret (ns.map .int)
  | [d] => fun c => match c.seqL d with
    | some xs => .ok xs c
    | none => .stuck
  | _ => fun _ => .stuck
def rListOf (K : PySem.W.Frag) : List V → Hp → VK → Prop := fun xs H Q => ∃ p ys, xs = [.ref p] ∧ (SqL K H p ys ∨ SqT K H p ys) ∧ ∀ l, H l = none → Q (.ref l) (upd H l (.lst ys))
theorem sc_list {g : G} : SCL g (rListOf g.K) bList := by
  intro W m c σ H ds vs Q s hv o
  cases hv with
  | nil => exact o.elim
  | @cons d v ds vs k r =>
    cases r with
    | cons _ _ => cases k <;> exact o.elim
    | nil =>
      have lst : ∀ {xs : List D}, c.seqL d = some xs → Out (rL g) g W σ m (.ok xs c) Q → rListOf g.K [v] H Q := fun {xs} e o => by
        obtain ⟨p, ws, rfl, hp, hw⟩ := s.seqL e k
        exact ⟨p, ws, rfl, .inl (SqL.of hp), fun l hl => out_freshL s hw o hl⟩
      cases k with
      | @tup p xs ws h1 h2 => exact ⟨p, ws, rfl, .inr (s.sqT h1), fun l hl => out_freshL s h2 o hl⟩
      | @scr ns p h1 => exact ⟨p, _, rfl, .inl (s.sqL h1), fun l hl => out_freshL s (svs_ints ns) o hl⟩
      | @lst p xs ws h1 h2 => exact lst rfl o
      | @ref n p h1 =>
        have o : Out (rL g) g W σ m (match c.seqL (.ref n) with
          | some xs => .ok xs c
          | none => .stuck) Q := o
        cases e : c.seqL (.ref n) with
        | none => rw [e] at o; exact o.elim
        | some xs =>
          rw [e] at o
          exact lst e o
      | _ => exact o.elim
def bTuple : List D → M D
  | [.tup xs] => M.ret (.tup xs)
  | [d] => fun c => match c.seqL d with
    | some xs => .ok (.tup xs) c
    | none => .stuck
  | _ => fun _ => .stuck
theorem sc_tuple {g : G} : SCE g (fun xs H Q => ∃ p ys, xs = [.ref p] ∧ ((SqL g.K H p ys ∧ ∀ l, H l = none → Q (.ref l) (upd H l (.tup ys))) ∨ (SqT g.K H p ys ∧ Q (.ref p) H))) bTuple := by
  intro W m c σ H ds vs Q s hv o
  cases hv with
  | nil => exact o.elim
  | @cons d v ds vs k r =>
    cases r with
    | cons _ _ => cases k <;> exact o.elim
    | nil =>
      have lst : ∀ {xs : List D}, c.seqL d = some xs → Out (rE g) g W σ m (.ok (.tup xs) c) Q → ∃ p ys, [v] = [.ref p] ∧ ((SqL g.K H p ys ∧ ∀ l, H l = none → Q (.ref l) (upd H l (.tup ys))) ∨ (SqT g.K H p ys ∧ Q (.ref p) H)) := fun {xs} e o => by
        obtain ⟨p, ws, rfl, hp, hw⟩ := s.seqL e k
        exact ⟨p, ws, rfl, .inl ⟨SqL.of hp, fun l hl => out_newT s hw o hl⟩⟩
      cases k with
      | @tup p xs ws h1 h2 => exact ⟨p, ws, rfl, .inr ⟨s.sqT h1, o.here s (.tup h1 h2)⟩⟩
      | @lst p xs ws h1 h2 => exact lst rfl o
      | @ref n p h1 =>
        have o : Out (rE g) g W σ m (match c.seqL (.ref n) with
          | some xs => .ok (.tup xs) c
          | none => .stuck) Q := o
        cases e : c.seqL (.ref n) with
        | none => rw [e] at o; exact o.elim
        | some xs =>
          rw [e] at o
          exact lst e o
      | _ => exact o.elim
/-- lists of ints, of bools, of texts -/
def asInts : List D → Option (List Int)
  | [] => some []
  | .int i :: r => (asInts r).map (i :: ·)
  | _ => none
theorem asInts_ok {g : G} {m : Mp} : ∀ {ds : List D} {vs : List V} {ns : List Int}, Svs g m ds vs → asInts ds = some ns → vs = ns.map V.int ∧ ds = ns.map D.int
  | [], _, ns, h, e => by
    cases h
    cases e
    exact ⟨rfl, rfl⟩
  | d :: ds, _, ns, h, e => by
    cases h with
    | cons a b =>
      cases a with
      | int i =>
        have e : (asInts ds).map (i :: ·) = some ns := e
        obtain ⟨ms, e1, e2⟩ := Option.map_eq_some_iff.mp e
        subst e2
        obtain ⟨h1, h2⟩ := asInts_ok b e1
        rw [h1, h2]
        exact ⟨rfl, rfl⟩
      | _ => cases e
def asBls : List D → Option (List Bool)
  | [] => some []
  | .bl i :: r => (asBls r).map (i :: ·)
  | _ => none
theorem asBls_ok {g : G} {m : Mp} : ∀ {ds : List D} {vs : List V} {ns : List Bool}, Svs g m ds vs → asBls ds = some ns → vs = ns.map V.bl
  | [], _, ns, h, e => by
    cases h
    cases e
    rfl
  | d :: ds, _, ns, h, e => by
    cases h with
    | cons a b =>
      cases a with
      | bl i =>
        have e : (asBls ds).map (i :: ·) = some ns := e
        obtain ⟨ms, e1, e2⟩ := Option.map_eq_some_iff.mp e
        subst e2
        rw [asBls_ok b e1]
        rfl
      | _ => cases e
def asStrs : List D → Option (List Str)
  | [] => some []
  | .str i :: r => (asStrs r).map (i :: ·)
  | _ => none
theorem asStrs_ok {g : G} {m : Mp} : ∀ {ds : List D} {vs : List V} {ns : List Str}, Svs g m ds vs → asStrs ds = some ns → vs = ns.map V.str
  | [], _, ns, h, e => by
    cases h
    cases e
    rfl
  | d :: ds, _, ns, h, e => by
    cases h with
    | cons a b =>
      cases a with
      | str i =>
        have e : (asStrs ds).map (i :: ·) = some ns := e
        obtain ⟨ms, e1, e2⟩ := Option.map_eq_some_iff.mp e
        subst e2
        rw [asStrs_ok b e1]
        rfl
      | _ => cases e
/-- one list, its items of one kind -/
def bOne {β γ : Type} (as : List D → Option β) (f : β → M γ) : List D → M γ
  | [d] => fun c => match (c.seqL d).bind as with
    | some x => f x c
    | none => .stuck
  | _ => fun _ => .stuck
theorem sc_one {β γ : Type} {rel : G → Rl γ V} {g : G} {r : List V → Hp → VK → Prop} {as : List D → Option β} {f : β → M γ}
    (h : ∀ (W : WX) (m : Mp) (c : CS) (σ : L2.St) (H : Hp) (p : Addr) (xs : List D) (vs : List V) (b : β) (Q : VK), Sim g m c σ H → H p = some (.lst vs) → Svs g m xs vs → as xs = some b → Out (rel g) g W σ m (f b c) Q → r [.ref p] H Q) : SC (β := Unit) rel g r (bOne as f) := by
  intro W m c σ H ds vs Q s hv o
  cases hv with
  | nil => exact o.elim
  | @cons d v ds vs k t =>
    cases t with
    | cons _ _ => exact o.elim
    | nil =>
      have o : Out (rel g) g W σ m (match (c.seqL d).bind as with
        | some x => f x c
        | none => .stuck) Q := o
      cases e : c.seqL d with
      | none => rw [e] at o; exact o.elim
      | some xs =>
        rw [e] at o
        have o : Out (rel g) g W σ m (match as xs with
          | some x => f x c
          | none => .stuck) Q := o
        cases e2 : as xs with
        | none => rw [e2] at o; exact o.elim
        | some b =>
          rw [e2] at o
          obtain ⟨p, ws, rfl, hp, hw⟩ := s.seqL e k
          exact h W m c σ H p xs ws b Q s hp hw e2 o
def bSum : List D → M D := bOne asInts fun ns => M.ret (.int ns.sum)
theorem sc_sum {g : G} : SCE g (rSum g.K) bSum := sc_one fun W m c σ H p xs vs ns Q s hp hv e o => by
  obtain ⟨rfl, _⟩ := asInts_ok hv e
  exact ⟨p, ns, rfl, SqL.of hp, o.here s (.int _)⟩
def bAny : List D → M D := bOne asBls fun bs => M.ret (.bl (bs.any id))
theorem sc_any {g : G} : SCE g (rAny g.K) bAny := sc_one fun W m c σ H p xs vs bs Q s hp hv e o => by
  have e := asBls_ok hv e
  subst e
  exact ⟨p, bs, rfl, SqL.of hp, o.here s (.bl _)⟩
def bAll : List D → M D := bOne asBls fun bs => M.ret (.bl (bs.all id))
theorem sc_all {g : G} : SCE g (rAll g.K) bAll := sc_one fun W m c σ H p xs vs bs Q s hp hv e o => by
  have e := asBls_ok hv e
  subst e
  exact ⟨p, bs, rfl, SqL.of hp, o.here s (.bl _)⟩
/-- ints in ascending order -/
def sortI (ns : List Int) : List Int := ns.mergeSort fun a b => decide (a ≤ b)
theorem sortI_perm (ns : List Int) : (sortI ns).Perm ns := List.mergeSort_perm ns _
theorem sortI_sorted (ns : List Int) : (sortI ns).Pairwise (· ≤ ·) := by
  have h := List.pairwise_mergeSort (le := fun a b : Int => decide (a ≤ b)) (fun a b c h1 h2 => by simp at h1 h2 ⊢; omega) (fun a b => by simp; omega) ns
  exact h.imp fun {a b} h => of_decide_eq_true h
def bSorted : List D → M (List D) := bOne asInts fun ns => M.ret ((sortI ns).map .int)
theorem sc_sorted {g : G} : SCL g (rSortedI g.K) bSorted := sc_one fun W m c σ H p xs vs ns Q s hp hv e o => by
  obtain ⟨rfl, _⟩ := asInts_ok hv e
  refine ⟨p, ns, rfl, SqL.of hp, fun ns' q h1 h2 hq => ?_⟩
  have e : ns' = sortI ns := (h1.trans (sortI_perm ns).symm).eq_of_pairwise (fun x y _ _ a b => Int.le_antisymm a b) h2 (sortI_sorted ns)
  rw [e]
  exact out_freshL s (svs_ints _) o hq
def maxI : List Int → Int
  | [] => 0
  | x :: r => r.foldl max x
def minI : List Int → Int
  | [] => 0
  | x :: r => r.foldl min x
theorem foldl_max (r : List Int) : ∀ x : Int, (r.foldl max x ∈ x :: r) ∧ ∀ y ∈ x :: r, y ≤ r.foldl max x := by
  induction r with
  | nil => intro x; simp
  | cons a r ih =>
    intro x
    obtain ⟨h1, h2⟩ := ih (max x a)
    refine ⟨?_, fun y hy => ?_⟩
    · show r.foldl max (max x a) ∈ _
      rcases List.mem_cons.mp h1 with e | e
      · rw [e]
        rcases Int.le_total x a with q | q
        · rw [Int.max_eq_right q]; simp
        · rw [Int.max_eq_left q]; simp
      · exact List.mem_cons_of_mem _ (List.mem_cons_of_mem _ e)
    · show y ≤ r.foldl max (max x a)
      have h3 := h2 (max x a) List.mem_cons_self
      rcases List.mem_cons.mp hy with e | e
      · subst e
        omega
      · rcases List.mem_cons.mp e with e | e
        · subst e
          omega
        · exact h2 y (List.mem_cons_of_mem _ e)
theorem foldl_min (r : List Int) : ∀ x : Int, (r.foldl min x ∈ x :: r) ∧ ∀ y ∈ x :: r, r.foldl min x ≤ y := by
  induction r with
  | nil => intro x; simp
  | cons a r ih =>
    intro x
    obtain ⟨h1, h2⟩ := ih (min x a)
    refine ⟨?_, fun y hy => ?_⟩
    · show r.foldl min (min x a) ∈ _
      rcases List.mem_cons.mp h1 with e | e
      · rw [e]
        rcases Int.le_total x a with q | q
        · rw [Int.min_eq_left q]; simp
        · rw [Int.min_eq_right q]; simp
      · exact List.mem_cons_of_mem _ (List.mem_cons_of_mem _ e)
    · show r.foldl min (min x a) ≤ y
      have h3 := h2 (min x a) List.mem_cons_self
      rcases List.mem_cons.mp hy with e | e
      · subst e
        omega
      · rcases List.mem_cons.mp e with e | e
        · subst e
          omega
        · exact h2 y (List.mem_cons_of_mem _ e)
def bMax : List D → M D := bOne asInts fun ns => M.guard (decide (0 < ns.length)) (M.ret (.int (maxI ns)))
def bMin : List D → M D := bOne asInts fun ns => M.guard (decide (0 < ns.length)) (M.ret (.int (minI ns)))
theorem sc_max {g : G} : SCE g (rMax g.K) bMax := sc_one fun W m c σ H p xs vs ns Q s hp hv e o => by
  obtain ⟨rfl, _⟩ := asInts_ok hv e
  obtain ⟨hz, o⟩ := Out.guard o
  refine ⟨p, ns, rfl, SqL.of hp, of_decide_eq_true hz, fun z h1 h2 => ?_⟩
  have e : z = maxI ns := by
    cases ns with
    | nil => cases h1
    | cons x r =>
      obtain ⟨g1, g2⟩ := foldl_max r x
      exact Int.le_antisymm (g2 z h1) (h2 _ g1)
  rw [e]
  exact o.here s (.int _)
theorem sc_min {g : G} : SCE g (rMin g.K) bMin := sc_one fun W m c σ H p xs vs ns Q s hp hv e o => by
  obtain ⟨rfl, _⟩ := asInts_ok hv e
  obtain ⟨hz, o⟩ := Out.guard o
  refine ⟨p, ns, rfl, SqL.of hp, of_decide_eq_true hz, fun z h1 h2 => ?_⟩
  have e : z = minI ns := by
    cases ns with
    | nil => cases h1
    | cons x r =>
      obtain ⟨g1, g2⟩ := foldl_min r x
      exact Int.le_antisymm (h2 _ g1) (g2 z h1)
  rw [e]
  exact o.here s (.int _)
/-- str of an int, of a text -/
def bStr : List D → M D
  | [.int i] => M.guard (decide (i.natAbs.log2 < 1920)) (M.ret (.str (toString i)))
  | _ => fun _ => .stuck
theorem sc_str {g : G} : SCE g (fun xs H Q => ∃ i, xs = [.int i] ∧ i.natAbs.log2 < 1920 ∧ Q (.str (toString i)) H) bStr := by
  intro W m c σ H ds vs Q s hv o
  cases hv with
  | nil => exact o.elim
  | cons k t =>
    cases t with
    | cons _ _ => cases k <;> exact o.elim
    | nil =>
      cases k with
      | int i =>
        obtain ⟨hz, o⟩ := Out.guard o
        exact ⟨i, rfl, of_decide_eq_true hz, o.here s (.str _)⟩
      | _ => exact o.elim

/-! ## isinstance -/
inductive Ty where
  | non | bl | int | str | tup | lst
  deriving DecidableEq
def Ty.nm : Ty → String
  | .non => "NoneType"
  | .bl => "bool"
  | .int => "int"
  | .str => "str"
  | .tup => "tuple"
  | .lst => "list"
def isTy (a b : Ty) : Bool := decide (a = b) || (decide (a = .bl) && decide (b = .int))
theorem isTy_ok (a b : Ty) (h : b ≠ .non) : kitB a.nm b.nm = some (isTy a b) := by
  cases b <;> first | (exact absurd rfl h) | (cases a <;> decide +kernel)
/-- what is asked of the table of classes -/
structure KlsOk (g : G) (ci : Nat) (C : Addr) (ns : List Str) : Prop where
  cls : Cls g.K C
  na : ∀ f ∈ ns, NoAttr g.K C f
  ha : PySem.W.findIn g.K (.ref C) "__class__" = some (some (.builtin "object.__class__"))
  hn : PySem.W.specialIn g.K (.builtin "object.__class__") "__get__" = some (some (.builtin "getset_descriptor.__get__"))
  ht : PySem.W.takesIn g.K (.builtin "object.__class__") = some true
  hm : PySem.W.mroIn g.K C (.type "object") = some true
  ic : ∀ t : Ty, t ≠ .non → PySem.W.kitOne g.K (.ref C) (.type t.nm) = some false
  ci : ∀ t : Ty, PySem.W.kitOne g.K (.type t.nm) (.ref C) = some false
structure TabK (g : G) : Prop where
  kls : ∀ (ci : Nat) (C : Addr) (ns : List Str), g.cls ci = some (C, ns) → KlsOk g ci C ns
  two : ∀ (i j : Nat) (C C' : Addr) (ns ns' : List Str), g.cls i = some (C, ns) → g.cls j = some (C', ns') → PySem.W.kitOne g.K (.ref C) (.ref C') = some (i == j)
/-- a value's type as a class -/
def tyB : D → Option Ty
  | .non => some .non
  | .bl _ => some .bl
  | .int _ => some .int
  | .str _ => some .str
  | .tup _ => some .tup
  | .lst _ => some .lst
  | .scr _ => some .lst
  | _ => none
/-- a class that is asked for: a built-in type, an own class -/
inductive Kn where
  | ty (n : Ty)
  | cl (c : Nat)
def CS.clsOf (c : CS) : D → Option Nat
  | .obj k _ => some k
  | .ref n => match c.S[n]? with
    | some (.ins k _) => some k
    | _ => none
  | _ => none
/-- the type of a value, as the table tells it: a built-in type or an own class -/
def CS.knOf (c : CS) (d : D) : Option Kn := match tyB d with
  | some t => some (.ty t)
  | none => match c.clsOf d with
    | some k => some (.cl k)
    | none => match c.seqL d with
      | some _ => some (.ty .lst)
      | none => none
def isKn : Kn → Kn → Bool
  | .ty a, .ty b => isTy a b
  | .cl a, .cl b => a == b
  | _, _ => false
def knV (g : G) : Kn → Option Value
  | .ty n => some (.type n.nm)
  | .cl k => (g.cls k).map fun p => .ref p.1
theorem Sim.tyX {g : G} {m : Mp} {c : CS} {σ : L2.St} {H : Hp} (T : TabK g) (s : Sim g m c σ H) {d : D} {v : V} (k : Sv g m d v) {kn : Kn} (e : c.knOf d = some kn) : ∃ t, knV g kn = some t ∧ TyX g.K H v t := by
  unfold CS.knOf at e
  cases k with
  | non => cases e; exact ⟨_, rfl, .base .non⟩
  | bl b => cases e; exact ⟨_, rfl, .base (.bl b)⟩
  | int i => cases e; exact ⟨_, rfl, .base (.int i)⟩
  | str x => cases e; exact ⟨_, rfl, .base (.str x)⟩
  | @tup a xs vs h1 h2 =>
    cases e
    refine ⟨_, rfl, ?_⟩
    rcases s.sqT h1 with h | ⟨o, its, n, q1, q2, _⟩
    · rcases h with h | ⟨o, h⟩
      · exact .base (.tup h)
      · exact .fTuple h
    · exact .kTuple q1 q2
  | @lst a xs vs h1 h2 =>
    cases e
    exact ⟨_, rfl, .base (.lst (s.fr _ _ h1))⟩
  | @scr ns a h1 =>
    cases e
    refine ⟨_, rfl, ?_⟩
    rcases s.sqL h1 with h | ⟨o, its, n, q1, q2, _⟩
    · rcases h with h | ⟨o, h⟩
      · exact .base (.lst h)
      · exact .base (.frz h)
    · exact .kList q1 q2
  | @obj ci ds a C dx ns ws h1 h2 h3 h4 =>
    cases e
    have K := T.kls ci C ns h1
    exact ⟨_, by show (g.cls ci).map _ = _; rw [h1]; rfl, .base (.ins (s.fr _ _ h2) K.cls K.ha K.hn K.ht K.hm)⟩
  | @ref n a h1 =>
    have e : (match (match c.S[n]? with
      | some (.ins k _) => some k
      | _ => none) with
      | some k => some (Kn.cl k)
      | none => match c.seqL (.ref n) with
        | some _ => some (.ty .lst)
        | none => none) = some kn := e
    cases q : c.S[n]? with
    | none =>
      rw [q] at e
      have z : c.seqL (.ref n) = none := by
        show (match c.S[n]? with
          | some (.lst xs) => some xs
          | _ => none) = none
        rw [q]
      rw [z] at e
      cases e
    | some o =>
      rw [q] at e
      obtain ⟨_, k2⟩ := s.st n a o h1 q
      cases o with
      | ins ci fs =>
        cases e
        obtain ⟨C, ns, dx, ws, j1, j2, j3⟩ := k2
        have K := T.kls ci C ns j1
        exact ⟨_, by show (g.cls ci).map _ = _; rw [j1]; rfl, .base (.ins j2 K.cls K.ha K.hn K.ht K.hm)⟩
      | lst xs =>
        have z : c.seqL (.ref n) = some xs := by
          show (match c.S[n]? with
            | some (.lst xs) => some xs
            | _ => none) = _
          rw [q]
        rw [z] at e
        cases e
        obtain ⟨vs, j1, _⟩ := k2
        exact ⟨_, rfl, .base (.lst j1)⟩
end CL
namespace CL
open PySem PySem.Spec PyProof.Rows L2

/-! ## isinstance -/
/-- an expression that is a class -/
def PCl (g : G) (X : Cx) (e : Expr) (kn : Kn) : Prop := ∃ c u, PE X e (tC c) ∧ ClsV c u ∧ knV g kn = some u ∧ kn ≠ .ty .non
section
variable {X : Cx} {g : G} {k : Nat} {N : List Str} {sc ws : Scope} {W : WX}
theorem pcl_ty (q : Good g k N X sc ws W) {x : Str} {pos : Pos} {t : Ty} (hg : isGl sc x = true) (hm : g.mg x = none) (hv : bootBuiltins x = some (.type t.nm)) (ht : t ≠ .non) : PCl g X (.Name x pos) (.ty t) :=
  ⟨.ty t.nm, .type t.nm, pe_bltn (q.gl hg).1 (by rw [q.hmg]; exact hm) hv rfl (q.gl hg).2.2 (q.gl hg).2.1, .ty _, rfl, fun z => by cases z; exact ht rfl⟩
theorem pcl_cl (q : Good g k N X sc ws W) {x : Str} {pos : Pos} {ci : Nat} {C : Addr} {ns : List Str} (hc : g.cls ci = some (C, ns)) (hg : isGl sc x = true) (hm : g.mg x = some (.ref C)) : PCl g X (.Name x pos) (.cl ci) :=
  ⟨.ref C, .ref C, pe_glob (q.gl hg).1 (by rw [q.hmg]; exact hm) rfl (q.gl hg).2.1, .own C, by show (g.cls ci).map _ = _; rw [hc]; rfl, fun z => nomatch z⟩
end
theorem kit_kn {g : G} (T : TabK g) {a b : Kn} {t u : Value} (ha : knV g a = some t) (hb : knV g b = some u) (hn : b ≠ .ty .non) : PySem.W.kitOne g.K t u = some (isKn a b) := by
  cases a with
  | ty x =>
    cases ha
    cases b with
    | ty y =>
      cases hb
      exact kit_ty (isTy_ok x y fun z => hn (by rw [z]))
    | cl j =>
      have hb : (g.cls j).map (fun p => Value.ref p.1) = some u := hb
      obtain ⟨⟨C, ns⟩, e1, e2⟩ := Option.map_eq_some_iff.mp hb
      subst e2
      exact (T.kls j C ns e1).ci x
  | cl i =>
    have ha : (g.cls i).map (fun p => Value.ref p.1) = some t := ha
    obtain ⟨⟨C, ns⟩, e1, e2⟩ := Option.map_eq_some_iff.mp ha
    subst e2
    cases b with
    | ty y =>
      cases hb
      exact (T.kls i C ns e1).ic y fun z => hn (by rw [z])
    | cl j =>
      have hb : (g.cls j).map (fun p => Value.ref p.1) = some u := hb
      obtain ⟨⟨C', ns'⟩, e3, e4⟩ := Option.map_eq_some_iff.mp hb
      subst e4
      exact T.two i j C C' ns ns' e1 e3
def cIsi (k : Kn) (fe : M D) : M D := fe.bind fun d c => match c.knOf d with
  | some t => .ok (.bl (isKn t k)) c
  | none => .stuck
def cIsiT (ks : List Kn) (fe : M D) : M D := fe.bind fun d c => match c.knOf d with
  | some t => .ok (.bl (ks.any (isKn t))) c
  | none => .stuck
section
variable {X : Cx} {g : G} {k : Nat} {N : List Str} {sc ws : Scope} {W : WX} {p pos tpos : Pos} {e ce : Expr} {ces : List Expr} {fe : M D} {kn : Kn} {kns : List Kn} {j : Nat}
theorem sx_isi (T : TabK g) (q : Good g k N X sc ws W) (hg : isGl sc "isinstance" = true) (hm : g.mg "isinstance" = none) (he : PE X e (tE g W fe)) (hc : PCl g X ce kn) (hs : isStar e = false) (hs2 : isStar ce = false) : PE X (.Call (.Name "isinstance" p) [e, ce] [] pos) (tE g W (cIsi kn fe)) := by
  obtain ⟨c, u, h1, h2, h3, h4⟩ := hc
  obtain ⟨hg, hd, _⟩ := q.gl hg
  rw [← q.hmg] at hm
  refine pe_imp (pe_callB call_isi hg hm (by rfl) (pa_cons he (pa_cons h1 pa_nil (star_plain hs2)) (star_plain hs)) (by decide) (by decide) (star_plain hs) (plain_any (es := [ce]) (by unfold plainArgs; simp [hs2]))) fun σ H Q ⟨m, c, s, o⟩ => ⟨m, c, s, o.bind.imp fun v H1 ⟨m1, d, c1, x1, s1, k1, o1⟩ => ?_⟩
  cases e2 : c1.knOf d with
  | none => rw [e2] at o1; exact o1.elim
  | some t =>
    rw [e2] at o1
    obtain ⟨tv, g1, g2⟩ := s1.tyX T k1 e2
    exact ⟨v, _, tv, u, isKn t kn, rfl, h2, by rw [q.hK]; exact g2, by rw [q.hK]; exact kit_kn T g1 h3 h4, o1.here s1 (.bl _)⟩
/-- classes, one after the other -/
def PCls (g : G) (X : Cx) : List Expr → List Kn → Prop
  | [], [] => True
  | e :: es, k :: ks => PCl g X e k ∧ isStar e = false ∧ PCls g X es ks
  | _, _ => False
def tCs (cs : List V) : TA := fun _ H Q => Q cs H
theorem pcls_pa {X : Cx} {g : G} : ∀ {es : List Expr} {ks : List Kn}, PCls g X es ks → ∃ cs us, PA X es (tCs cs) ∧ Paired ClsV cs us ∧ us.length = ks.length ∧ ∀ i (h : i < us.length) (h2 : i < ks.length), knV g ks[i] = some us[i] ∧ ks[i] ≠ .ty .non
  | [], [], _ => ⟨[], [], pa_imp pa_nil fun _ _ _ h => h, .nil, rfl, fun i h => absurd h (Nat.not_lt_zero _)⟩
  | [], _ :: _, h => h.elim
  | _ :: _, [], h => h.elim
  | e :: es, k :: ks, h => by
    obtain ⟨⟨c, u, h1, h2, h3, h4⟩, hs, hr⟩ := h
    obtain ⟨cs, us, r1, r2, r3, r4⟩ := pcls_pa hr
    refine ⟨c :: cs, u :: us, pa_imp (pa_cons h1 r1 (star_plain hs)) fun σ H Q h => h, .cons h2 r2, by rw [List.length_cons, List.length_cons, r3], fun i g1 g2 => ?_⟩
    cases i with
    | zero => exact ⟨h3, h4⟩
    | succ i => exact r4 i (by simpa using g1) (by simpa using g2)
theorem kit_any {g : G} (T : TabK g) {a : Kn} {t : Value} (ha : knV g a = some t) : ∀ {us : List Value} {ks : List Kn}, us.length = ks.length → (∀ i (h : i < us.length) (h2 : i < ks.length), knV g ks[i] = some us[i] ∧ ks[i] ≠ .ty .non) → PySem.W.kitAny g.K t us = some (ks.any (isKn a))
  | [], [], _, _ => rfl
  | [], _ :: _, h, _ => by cases h
  | _ :: _, [], h, _ => by cases h
  | u :: us, k :: ks, h, hk => by
    have h0 := hk 0 (by simp) (by simp)
    have e := kit_kn T ha h0.1 h0.2
    have ih := kit_any T ha (us := us) (ks := ks) (by simpa using h) fun i g1 g2 => by
      have := hk (i + 1) (by simpa using g1) (by simpa using g2)
      simpa using this
    unfold PySem.W.kitAny
    have e' : PySem.W.kitOne g.K t u = some (isKn a k) := e
    rw [e', List.any_cons]
    cases isKn a k with
    | true => rfl
    | false => rw [Bool.false_or]; exact ih
theorem sx_isiT (T : TabK g) (q : Good g k N X sc ws W) (hg : isGl sc "isinstance" = true) (hm : g.mg "isinstance" = none) (he : PE X e (tE g W fe)) (hc : PCls g X ces kns) (hz : szOk ces.length = true) (hs : isStar e = false) : PE X (.Call (.Name "isinstance" p) [e, .Tuple ces j tpos] [] pos) (tE g W (cIsiT kns fe)) := by
  obtain ⟨cs, us, h1, h2, h3, h4⟩ := pcls_pa hc
  have hl : cs.length = ces.length := by
    have a1 : cs.length = us.length := by clear h1 h4 h3; induction h2 <;> simp_all
    have a2 : ces.length = kns.length := by
      clear h1 h2 h3 h4 hz a1 cs us
      induction ces generalizing kns with
      | nil => cases kns <;> first | rfl | exact hc.elim
      | cons e es ih => cases kns with
        | nil => exact hc.elim
        | cons k ks => rw [List.length_cons, List.length_cons, ih hc.2.2]
    omega
  obtain ⟨hg, hd, _⟩ := q.gl hg
  rw [← q.hmg] at hm
  refine pe_imp (pe_callB call_isiT hg hm (by rfl) (pa_cons he (pa_cons (pe_tup h1) pa_nil (by rfl)) (star_plain hs)) (by decide) (by decide) (star_plain hs) (by rfl)) fun σ H Q ⟨m, c, s, o⟩ => ⟨m, c, s, o.bind.imp fun v H1 ⟨m1, d, c1, x1, s1, k1, o1⟩ => ?_⟩
  cases e2 : c1.knOf d with
  | none => rw [e2] at o1; exact o1.elim
  | some t =>
    rw [e2] at o1
    refine ⟨by rw [hl]; exact of_decide_eq_true hz, fun tp ht => ?_⟩
    obtain ⟨s2, x2⟩ := s1.frozen (u := .tup cs) ht
    obtain ⟨tv, g1, g2⟩ := s2.tyX T (k1.mono x2) e2
    exact ⟨v, tp, cs, tv, us, _, rfl, upd_same, h2, by rw [q.hK]; exact g2, by rw [q.hK]; exact kit_any T g1 h3 h4, (o1.mono x2).here s2 (.bl _)⟩
end

/-! ## calls -/
def cCall (fn : Fn) (fa : M (List D)) : M D := fa.bind fun ds c => liftF (fn ds c.S) c
section
variable {X : Cx} {g : G} {k j : Nat} {N : List Str} {sc ws : Scope} {W : WX} {p pos apos sp : Pos} {x : Str} {e o : Expr} {es : List Expr} {fa : M (List D)} {fe fo : M D} {f C : Addr} {fn : Fn}
theorem plain_tail {e : Expr} {es : List Expr} (hp : plainArgs (e :: es) = true) : isStar e = false ∧ plainArgs es = true := by
  unfold plainArgs at hp ⊢
  rw [List.all_cons, Bool.and_eq_true] at hp
  exact ⟨by simpa using hp.1, hp.2⟩
theorem sx_call (q : Good g k N X sc ws W) (F : FnC g j f fn) (hj : j ≤ k) (hg : isGl sc x = true) (hm : g.mg x = some (.ref f)) (hk : PySem.W.keepIn g.K (.ref f) = true) (ha : PA X (e :: es) (tA g W fa)) (hp : plainArgs (e :: es) = true) :
    PE X (.Call (.Name x p) (e :: es) [] pos) (tE g W (cCall fn fa)) := by
  obtain ⟨p1, p2⟩ := plain_tail hp
  refine ⟨fun pins s σ H Q I ⟨m, c, sm, o⟩ => ?_⟩
  obtain ⟨hg, hd, _⟩ := q.gl hg
  rw [← q.hmg] at hm
  rw [← q.hK] at hk
  refine wpAny_Call_Name_kw (ld_glob I hg hm ?_ hd)
  refine PySem.W.callWith_K (h₀ := X.base) I.ok.mod.kin hk (thn (ha.run pos pins s σ H _ I ⟨m, c, sm, o.bind⟩) fun us s1 ⟨vs, H1, I1, r, m1, ds, c1, x1, s2, k1, o1⟩ => ⟨I1.kIn, ?_⟩) (star_plain p1) (plain_any p2)
  exact wpAny_call (run_c (q.fn F) (q.room.mono hj) q.tk I1 r s2 k1 o1)
theorem sx_call0 (q : Good g k N X sc ws W) (F : FnC g j f fn) (hj : j ≤ k) (hg : isGl sc x = true) (hm : g.mg x = some (.ref f)) (hk : PySem.W.keepIn g.K (.ref f) = true) :
    PE X (.Call (.Name x p) [] [] pos) (tE g W (cCall fn (M.ret []))) := by
  refine ⟨fun pins s σ H Q I ⟨m, c, sm, o⟩ => ?_⟩
  obtain ⟨hg, hd, _⟩ := q.gl hg
  rw [← q.hmg] at hm
  rw [← q.hK] at hk
  refine wpAny_Call_Name_kw (ld_glob I hg hm ?_ hd)
  exact PySem.W.callWith_K0 I.kIn hk (wpAny_call (run_c (q.fn F) (q.room.mono hj) q.tk I (us := []) .nil sm .nil o))
/-! ### methods -/
theorem zip_none {ns : List Str} {ws : List V} {m : Str} (h : m ∉ ns) : (ns.zip ws).lookup m = none := by
  induction ns generalizing ws with
  | nil => rfl
  | cons n ns ih =>
    cases ws with
    | nil => rfl
    | cons w ws =>
      rw [List.zip_cons_cons, List.lookup_cons]
      have ne : (m == n) = false := beq_eq_false_iff_ne.mpr fun z => h (by rw [z]; exact List.mem_cons_self)
      rw [ne]
      exact ih fun z => h (List.mem_cons_of_mem _ z)
theorem zip_at {ns : List Str} (hn : ns.Nodup) {ws : List V} {i : Nat} {m : Str} (h : ns[i]? = some m) : (ns.zip ws).lookup m = ws[i]? := by
  induction ns generalizing ws i with
  | nil => simp at h
  | cons n ns ih =>
    cases ws with
    | nil => simp
    | cons w ws =>
      rw [List.zip_cons_cons, List.lookup_cons]
      rw [List.nodup_cons] at hn
      cases i with
      | zero =>
        simp at h
        subst h
        simp
      | succ i =>
        have h : ns[i]? = some m := by simpa using h
        have ne : (m == n) = false := beq_eq_false_iff_ne.mpr fun z => hn.1 (by rw [← z]; exact List.mem_of_getElem? h)
        rw [ne, List.getElem?_cons_succ]
        exact ih hn.2 h
/-- an object of class ci that has no field m -/
def CS.has (c : CS) (ci : Nat) (mn : Str) (d : D) : Bool := match d with
  | .obj k _ => k == ci
  | .ref n => match c.S[n]? with
    | some (.ins k fs) => k == ci && (fs.lookup mn).isNone
    | _ => false
  | _ => false
theorem Sim.has {m : Mp} {c : CS} {σ : L2.St} {H : Hp} (s : Sim g m c σ H) {d : D} {v : V} (k : Sv g m d v) {ci : Nat} {mn : Str} {ns : List Str} (h : c.has ci mn d = true) (hc : g.cls ci = some (C, ns)) (hn : ns.contains mn = false) :
    ∃ a dx fs, v = .ref a ∧ H a = some (.ins C dx fs) ∧ fs.lookup mn = none := by
  have hn : mn ∉ ns := fun z => by
    rw [List.contains_iff_mem.mpr z] at hn
    cases hn
  cases k with
  | @obj i ds a C' dx ns' us h1 h2 h3 h4 =>
    have h : (i == ci) = true := h
    have e := beq_iff_eq.mp h
    subst e
    rw [hc] at h1
    cases h1
    exact ⟨a, dx, _, rfl, s.fr _ _ h2, zip_none hn⟩
  | @ref n a h1 =>
    have h : (match c.S[n]? with
      | some (.ins k fs) => k == ci && (fs.lookup mn).isNone
      | _ => false) = true := h
    cases e : c.S[n]? with
    | none => rw [e] at h; cases h
    | some o =>
      rw [e] at h
      cases o with
      | lst _ => cases h
      | ins i fs =>
        have h : (i == ci && (fs.lookup mn).isNone) = true := h
        rw [Bool.and_eq_true] at h
        have e2 := beq_iff_eq.mp h.1
        subst e2
        obtain ⟨_, C', ns', dx, us, j1, j2, j3⟩ := s.st n a _ h1 e
        rw [hc] at j1
        cases j1
        exact ⟨a, dx, us, rfl, j2, j3.lookup_none (by simpa using h.2)⟩
  | _ => cases h
def cMeth (ci : Nat) (mn : Str) (fn : Fn) (fo : M D) (fa : M (List D)) : M D := fo.bind fun o c => match c.has ci mn o with
  | true => (fa c).bind fun ds c' => liftF (fn (o :: ds) c'.S) c'
  | false => .stuck
theorem sx_meth {ci : Nat} {mn : Str} {ns : List Str} (q : Good g k N X sc ws W) (hc : g.cls ci = some (C, ns)) (hn : ns.contains mn = false) (kc : Cls g.K C) (me : Meth g.K C mn f) (F : FnC g j f fn) (hj : j ≤ k) (ho : PE X o (tE g W fo)) (ha : PA X (e :: es) (tA g W fa))
    (h1 : okBase o = true) (hp : plainArgs (e :: es) = true) (h3 : (apos.endLine == pos.line) = true) (h4 : decide ((e :: es).length < 30) = true) : PE X (.Call (.Attribute o mn apos) (e :: es) [] pos) (tE g W (cMeth ci mn fn fo fa)) := by
  rw [← q.hK] at kc me
  obtain ⟨p1, p2⟩ := plain_tail hp
  refine ⟨fun pins s σ H Q I ⟨m, c, sm, h⟩ => ?_⟩
  refine PySem.W.methodCall_KW (thn (ho.run pins s σ H _ I ⟨m, c, sm, h.bind⟩) fun u s1 ⟨x, H1, I1, rx, m1, d, c1, x1, s2, k1, o1⟩ => ?_) (meth_form h1 hp h3 h4)
  cases e1 : c1.has ci mn d with
  | false => rw [e1] at o1; exact o1.elim
  | true =>
    rw [e1] at o1
    obtain ⟨a, dx, fs, ex, ea, l⟩ := s2.has k1 e1 hc hn
    subst ex
    obtain rfl : u = Value.ref a := rx
    refine getmeth_ok I1 ea kc me l ?_
    refine PySem.W.callWith_K (first := [.ref a]) (h₀ := X.base) I1.ok.mod.kin me.kp (thn (ha.run pos pins s1 σ H1 _ I1 ⟨m1, c1, s2, o1.bind⟩) fun us s3 ⟨vs, H2, I2, r, m2, ds, c2, x2, s4, k2, o2⟩ => ⟨I2.kIn, ?_⟩) (star_plain p1) (plain_any p2)
    exact wpAny_call (run_c (q.fn F) (q.room.mono hj) q.tk I2 (us := .ref a :: us) (vs := .ref a :: vs) (.cons rfl r) s4 (.cons (k1.mono x2) k2) o2)
theorem sx_meth0 {ci : Nat} {mn : Str} {ns : List Str} (q : Good g k N X sc ws W) (hc : g.cls ci = some (C, ns)) (hn : ns.contains mn = false) (kc : Cls g.K C) (me : Meth g.K C mn f) (F : FnC g j f fn) (hj : j ≤ k) (ho : PE X o (tE g W fo))
    (h1 : okBase o = true) (h3 : (apos.endLine == pos.line) = true) : PE X (.Call (.Attribute o mn apos) [] [] pos) (tE g W (cMeth ci mn fn fo (M.ret []))) := by
  rw [← q.hK] at kc me
  refine ⟨fun pins s σ H Q I ⟨m, c, sm, h⟩ => ?_⟩
  refine PySem.W.methodCall_KW (thn (ho.run pins s σ H _ I ⟨m, c, sm, h.bind⟩) fun u s1 ⟨x, H1, I1, rx, m1, d, c1, x1, s2, k1, o1⟩ => ?_) (meth_form h1 (by rfl) h3 (by rfl))
  cases e1 : c1.has ci mn d with
  | false => rw [e1] at o1; exact o1.elim
  | true =>
    rw [e1] at o1
    obtain ⟨a, dx, fs, ex, ea, l⟩ := s2.has k1 e1 hc hn
    subst ex
    obtain rfl : u = Value.ref a := rx
    refine getmeth_ok I1 ea kc me l ?_
    exact PySem.W.callWith_K0 (first := [.ref a]) I1.kIn me.kp (wpAny_call (run_c (q.fn F) (q.room.mono hj) q.tk I1 (us := [.ref a]) (vs := [.ref a]) (.cons rfl .nil) s2 (.cons k1 .nil) o1))
/-! ### fields -/
def CS.fld (c : CS) (ci i : Nat) (f : Str) (d : D) : Option D := match d with
  | .obj k vs => if k = ci then vs[i]? else none
  | .ref n => match c.S[n]? with
    | some (.ins k fs) => if k = ci then fs.lookup f else none
    | _ => none
  | _ => none
theorem Sim.fld {m : Mp} {c : CS} {σ : L2.St} {H : Hp} (s : Sim g m c σ H) {d r : D} {v : V} (k : Sv g m d v) {ci i : Nat} {f : Str} {ns : List Str} (h : c.fld ci i f d = some r) (hc : g.cls ci = some (C, ns)) (hn : ns.Nodup) (hi : ns[i]? = some f) :
    ∃ a dx fs z, v = .ref a ∧ H a = some (.ins C dx fs) ∧ fs.lookup f = some z ∧ Sv g m r z := by
  cases k with
  | @obj j ds a C' dx ns' us h1 h2 h3 h4 =>
    have h : (if j = ci then ds[i]? else none) = some r := h
    by_cases e : j = ci
    · subst e
      rw [if_pos rfl] at h
      rw [hc] at h1
      cases h1
      obtain ⟨z, e1, e2⟩ := h3.get h
      exact ⟨a, dx, _, z, rfl, s.fr _ _ h2, by rw [zip_at hn hi]; exact e1, e2⟩
    · rw [if_neg e] at h; cases h
  | @ref n a h1 =>
    have h : (match c.S[n]? with
      | some (.ins k fs) => if k = ci then fs.lookup f else none
      | _ => none) = some r := h
    cases e : c.S[n]? with
    | none => rw [e] at h; cases h
    | some o =>
      rw [e] at h
      cases o with
      | lst _ => cases h
      | ins j fs =>
        have h : (if j = ci then fs.lookup f else none) = some r := h
        by_cases e2 : j = ci
        · subst e2
          rw [if_pos rfl] at h
          obtain ⟨_, C', ns', dx, us, j1, j2, j3⟩ := s.st n a _ h1 e
          rw [hc] at j1
          cases j1
          obtain ⟨z, q1, q2⟩ := j3.lookup h
          exact ⟨a, dx, us, z, rfl, j2, q1, q2⟩
        · rw [if_neg e2] at h; cases h
  | _ => cases h
def cFld (ci i : Nat) (f : Str) (fo : M D) : M D := fo.bind fun o c => match c.fld ci i f o with
  | some r => .ok r c
  | none => .stuck
theorem sx_fld {ci i : Nat} {f : Str} {ns : List Str} (q : Good g k N X sc ws W) (hc : g.cls ci = some (C, ns)) (hn : ns.Nodup) (hi : ns[i]? = some f) (kc : Cls g.K C) (na : NoAttr g.K C f) (ho : PE X o (tE g W fo)) (h1 : okBase o = true) : PE X (.Attribute o f pos) (tE g W (cFld ci i f fo)) := by
  rw [← q.hK] at kc na
  refine pe_imp (pe_fld ho (base_ok h1)) fun σ H Q ⟨m, c, s, h⟩ => ⟨m, c, s, h.bind.imp fun v H1 ⟨m1, d, c1, x1, s1, k1, o1⟩ => ?_⟩
  cases e : c1.fld ci i f d with
  | none => rw [e] at o1; exact o1.elim
  | some r =>
    rw [e] at o1
    obtain ⟨a, dx, fs, z, rfl, g2, g3, g4⟩ := s1.fld k1 e hc hn hi
    exact ⟨a, C, dx, fs, z, rfl, g2, kc, na, g3, o1.here s1 g4⟩
/-- a constant of a class -/
theorem sx_cval (q : Good g k N X sc ws W) {f : Str} {mc : Value} {v : V} {u : Value} {d : D} {xc : Str} (hg : isGl sc xc = true) (hm : g.mg xc = some (.ref C)) (cr : ClX.CRead g.K C mc) (cv : ClX.CVal g.K C mc f v u) (hv : ∀ m : Mp, Sv g m d v) : PE X (.Attribute (.Name xc p) f pos) (tE g W (M.ret d)) := by
  obtain ⟨hg, hd, _⟩ := q.gl hg
  rw [← q.hmg] at hm
  rw [← q.hK] at cr cv
  refine pe_imp (ClX.pe_cval (pe_glob (v := .ref C) hg hm rfl hd) (by rfl)) fun σ H Q ⟨m, c, s, h⟩ => ?_
  exact ⟨C, mc, v, u, rfl, cr, cv, h.here s (hv m)⟩
/-! ### properties -/
def noExc (r : R D) : R D := match r with
  | .ok d c => .ok d c
  | _ => .stuck
def cProp (ci : Nat) (f : Str) (fn : Fn) (fo : M D) : M D := fo.bind fun o c => match c.has ci f o with
  | true => noExc (liftF (fn [o] c.S) c)
  | false => .stuck
theorem sx_prop {ci : Nat} {mn : Str} {ns : List Str} {pa : Addr} (q : Good g k N X sc ws W) (hc : g.cls ci = some (C, ns)) (hn : ns.contains mn = false) (kc : Cls g.K C) (pr : PropOf g.K C mn pa f) (F : FnC g j f fn) (hj : j + 1 ≤ k) (ho : PE X o (tE g W fo)) (h1 : okBase o = true) : PE X (.Attribute o mn pos) (tE g W (cProp ci mn fn fo)) := by
  rw [← q.hK] at kc pr
  refine ⟨fun pins s σ H Q I ⟨m, c, sm, h⟩ => ?_⟩
  refine attr_of (base_ok h1) (thn (ho.run pins s σ H _ I ⟨m, c, sm, h.bind⟩) fun u s1 ⟨x, H1, I1, rx, m1, d, c1, x1, s2, k1, o1⟩ => ?_)
  cases e1 : c1.has ci mn d with
  | false => rw [e1] at o1; exact o1.elim
  | true =>
    rw [e1] at o1
    obtain ⟨a, dx, fs, ex, ea, l⟩ := s2.has k1 e1 hc hn
    subst ex
    obtain rfl : u = Value.ref a := rx
    obtain ⟨mA, O, _, _, _, _⟩ := ins_get I1.hok ea
    obtain ⟨od, J, _⟩ := O.look
    obtain ⟨rest, hrec⟩ := pr.rec_
    have I2 := I1.tok (s1.toks + 1)
    have hcl : (PySem.W.clsIn X.K C).isSome = true := by
      obtain ⟨cd, hc, _⟩ := PySem.W.any_some kc.hd
      rw [hc]
      rfl
    have o2 : Out (rE g) g WF σ m1 (liftF (fn [d] c1.S) c1) Q := by
      cases e3 : fn [d] c1.S with
      | ok d' S' => rw [e3] at o1; exact o1
      | exc cn ws S' => rw [e3] at o1; exact o1.elim
      | stuck => rw [e3] at o1; exact o1.elim
    refine PySem.W.get_bind I1.kIn J (PySem.W.plainGet_of (kc.get mn)).1 (PySem.W.findObj_data hcl pr.at_ pr.get pr.tak) (PySem.W.plainGet_of (kc.get mn)).2 (wpAny_call (PySem.W.prop_get (s := { s1 with toks := s1.toks + 1 }) I1.kIn hrec ?_))
    refine codeAny_mono ((q.fn F) X.A.in1 X.stack { s1 with toks := s1.toks + 1 } H1 [.ref a] [V.ref a] Q (fun C d H' => WF C d σ H') (q.room.mono hj).in1 I2.env0.in1 (.cons rfl .nil) (call_sp s2 (.cons k1 .nil) o2)) fun r s' hq => ?_
    cases r with
    | error er => exact (passAt (X := X.nox) (W := WF) (fun u s' ⟨_, _, _, _, _, _, _, _, _, _, _, _, _, _, _, _, w⟩ => w.elim) σ pins H1 { s1 with toks := s1.toks + 1 } er s' (I2.wish _) hq).elim
    | ok fl =>
      cases fl with
      | ret u =>
        obtain ⟨v, H', I3, rv, q3⟩ := I2.after hq
        show wpAny _ _ (handedOut u) _ _ _
        rw [PySem.W.handedOut_of (handed_of rv)]
        exact wpAny_pure ⟨v, H', I3, rv, q3⟩
      | next => exact False.elim hq
      | brk => exact False.elim hq
      | cont => exact False.elim hq
end
end CL
namespace CL
open PySem PySem.Spec PyProof.Rows L2

/-! ## inside a comprehension -/
theorem rel_keep {sc : Scope} {x : Str} {kd : NameKind} : ∀ {l : List (Str × NameKind)}, l.lookup x = some kd → kd ≠ .free →
    (l.map fun (n, k) => if (k == .free && sc.kind == .function && sc.names.lookup n == some .cell) then (n, NameKind.cell) else (n, k)).lookup x = some kd
  | [], h, _ => by simp at h
  | (n, k) :: r, h, hk => by
    rw [List.lookup_cons] at h
    rw [List.map_cons]
    have hn : ((fun (p : Str × NameKind) => if (p.2 == .free && sc.kind == .function && sc.names.lookup p.1 == some .cell) then (p.1, NameKind.cell) else (p.1, p.2)) (n, k)).1 = n := by
      dsimp only
      split <;> rfl
    show List.lookup x ((if (k == .free && sc.kind == .function && sc.names.lookup n == some .cell) then (n, NameKind.cell) else (n, k)) :: _) = _
    by_cases e : x = n
    · subst e
      simp at h
      subst h
      have kf : (k == NameKind.free) = false := by
        cases k <;> first | rfl | exact absurd rfl hk
      rw [kf]
      simp
    · have eb : (x == n) = false := beq_eq_false_iff_ne.mpr e
      rw [eb] at h
      have ih := rel_keep (sc := sc) (l := r) h hk
      split
      · rw [List.lookup_cons, eb]; exact ih
      · rw [List.lookup_cons, eb]; exact ih
section
variable {g : G} {k : Nat} {N : List Str} {X : Cx} {sc ws : Scope} {W : WX}
theorem Good.blk (q : Good g k N X sc ws W) {s : Shared} {H : Hp} {scope : Scope} {cl : List (Str × Addr)} {C : Addr} {fp : List Addr} : Good g k N (X.blk s H scope (compEnvC scope cl C X.env) fp) (relS scope sc) scope WF := by
  refine ⟨q.hN, q.nd, ?_, q.calm, q.room, q.hK, q.hP, q.hw, q.hmg, q.hbs, fun u s' ⟨_, _, _, _, _, _, _, _, _, _, _, _, _, _, _, _, w⟩ => w.elim, PassesOwn.never, fun x hx => ?_⟩
  · show relabel scope X.env = relS scope sc
    rw [← q.hsc]
    rfl
  · unfold isLoc at hx
    show Loc (relabel scope X.env) x ∧ ((scope.names.lookup x == some .cell) = true ∨ (relabel scope X.env).names.lookup x = some .local)
    split at hx
    · rename_i e
      have h := rel_keep (sc := X.env.scope) e (fun z => nomatch z)
      exact ⟨.inl h, .inr h⟩
    · rename_i e
      have h := rel_keep (sc := X.env.scope) e (fun z => nomatch z)
      exact ⟨.inr h, .inl (by rw [e]; rfl)⟩
    · cases hx
end

/-! ## built-in functions, from where one stands -/
section
variable {X : Cx} {g : G} {k : Nat} {N : List Str} {sc ws : Scope} {W : WX} {x : Str} {p pos : Pos} {e e2 tg : Expr} {es : List Expr} {id T : String} {r : List V → Hp → VK → Prop} {fa : M (List D)} {γ : Type} {rel : G → Rl γ V} {f : List D → M γ} {fe fe2 : M D}
theorem sq_B (q : Good g k N X sc ws W) (hc : CallR X (.builtin id) r) (h : SC (β := Unit) rel g r f) (hg : isGl sc x = true) (hm : g.mg x = none) (hv : bootBuiltins x = some (.builtin id)) (ha : PA X (e :: es) (tA g W fa)) (hp : plainArgs (e :: es) = true) : PE X (.Call (.Name x p) (e :: es) [] pos) (tX (rel g) g W (fa.bind f)) :=
  sx_callB hc h (q.gl hg).1 (by rw [q.hmg]; exact hm) hv ha (q.gl hg).2.2 (q.gl hg).2.1 hp
theorem sq_Ty (q : Good g k N X sc ws W) (hc : CallR X (.type T) r) (h : SC (β := Unit) rel g r f) (hg : isGl sc x = true) (hm : g.mg x = none) (hv : bootBuiltins x = some (.type T)) (ha : PA X (e :: es) (tA g W fa)) (hp : plainArgs (e :: es) = true) : PE X (.Call (.Name x p) (e :: es) [] pos) (tX (rel g) g W (fa.bind f)) :=
  sx_callTy hc h (q.gl hg).1 (by rw [q.hmg]; exact hm) hv ha (q.gl hg).2.2 (q.gl hg).2.1 hp
theorem sq_range1 (q : Good g k N X sc ws W) (hg : isGl sc "range" = true) (hm : g.mg "range" = none) (he : PE X e (tE g W fe)) (hs : isStar e = false) : PI X tg (.Call (.Name "range" p) [e] [] pos) (tI g W (cRange1 fe)) := si_range1 (q.gl hg).1 (by rw [q.hmg]; exact hm) he hs
theorem sq_range2 (q : Good g k N X sc ws W) (hg : isGl sc "range" = true) (hm : g.mg "range" = none) (he : PE X e (tE g W fe)) (he2 : PE X e2 (tE g W fe2)) (hs : isStar e = false) (hs2 : isStar e2 = false) : PI X tg (.Call (.Name "range" p) [e, e2] [] pos) (tI g W (cRange2 fe fe2)) := si_range2 (q.gl hg).1 (by rw [q.hmg]; exact hm) he he2 hs hs2
theorem sq_var {i : Nat} (q : Good g k N X sc ws W) (hN : N[i]? = some x) (hv : isVis (sc.names.lookup x) = true) (hd : noDbg x = true) : PE X (.Name x pos) (tE g W (cVar i)) := se_var (q.at_ hN) (q.vis hv) (noDbg_1 hd) (noDbg_2 hd)
theorem sq_seq (q : Good g k N X sc ws W) (he : PE X e (tE g W fe)) : PI X tg e (tI g W (cWalk fe)) := pi_seq q.hK he
theorem sq_star (q : Good g k N X sc ws W) (ha : PE X e (tE g W fe)) (hr : PA X es (tA g W fa)) : PA X (.Starred e p :: es) (tA g W (cStar fe fa)) := sa_star q.hK ha hr
theorem sq_tru (q : Good g k N X sc ws W) (h : PE X e (tE g W fe)) (hp : plainTest e = true) : PT X e (tT g W (cTru fe)) := st_tru q.hK h hp
end

/-! ## what is never reached -/
def cNever {α : Type} : M α := fun _ => .stuck
theorem ss_any {X : Cx} {g : G} {W : WX} {st : Stmt} : PS X st (tS g W cNever) := ⟨fun _ _ _ _ _ _ ⟨_, _, _, o⟩ => o.elim⟩
theorem sss_any {X : Cx} {g : G} {W : WX} {st : List Stmt} : PSs X st (tS g W cNever) := ⟨fun _ _ _ _ _ _ ⟨_, _, _, o⟩ => o.elim⟩
theorem se_any {X : Cx} {g : G} {W : WX} {e : Expr} : PE X e (tE g W cNever) := ⟨fun _ _ _ _ _ _ ⟨_, _, _, o⟩ => o.elim⟩

/-! ## a new list in the store -/
def cStore (f : M (List D)) : M D := f.bind fun xs c => .ok (.ref c.S.length) { c with S := c.S ++ [.lst xs] }
theorem Sim.store {g : G} {m : Mp} {c : CS} {σ : L2.St} {H : Hp} {xs : List D} {v : V} (h : Sim g m c σ H) (k : rL g m c H xs v) : ∃ m', Ext m m' ∧ Sim g m' { c with S := c.S ++ [.lst xs] } σ H ∧ Sv g m' (.ref c.S.length) v := by
  obtain ⟨p, vs, rfl, hp, hv, f⟩ := k
  have ex : Ext m { m with rho := m.rho ++ [p] } := ⟨fun n a z => by
    show (m.rho ++ [p])[n]? = some a
    rw [List.getElem?_append_left (List.getElem?_eq_some_iff.mp z).1]
    exact z, fun _ _ z => z, rfl, rfl⟩
  have last : (m.rho ++ [p])[c.S.length]? = some p := by
    rw [← h.len, List.getElem?_append_right (Nat.le_refl _), Nat.sub_self]
    rfl
  refine ⟨{ m with rho := m.rho ++ [p] }, ex, ⟨h.fr, ?_, ?_, h.ini, h.ln, fun n a o h1 h2 => ?_, fun a o z => ?_, fun i s hs => ?_⟩, .ref last⟩
  · show (m.rho ++ [p]).Nodup
    rw [List.nodup_append]
    exact ⟨h.nd, by simp, fun a ha b hb => by
      cases List.mem_singleton.mp hb
      exact fun z => f.r (by rw [← z]; exact ha)⟩
  · show (m.rho ++ [p]).length = (c.S ++ [O.lst xs]).length
    rw [List.length_append, List.length_append, h.len]
    rfl
  · have h1 : (m.rho ++ [p])[n]? = some a := h1
    have h2 : (c.S ++ [O.lst xs])[n]? = some o := h2
    by_cases q : n < c.S.length
    · rw [List.getElem?_append_left (by rw [h.len]; exact q)] at h1
      rw [List.getElem?_append_left q] at h2
      obtain ⟨k1, k2⟩ := h.st n a o h1 h2
      exact ⟨k1, k2.mono ex rfl⟩
    · have hl : n < (c.S ++ [O.lst xs]).length := (List.getElem?_eq_some_iff.mp h2).1
      rw [List.length_append] at hl
      have e : n = c.S.length := by
        have : ([O.lst xs] : List O).length = 1 := rfl
        omega
      subst e
      rw [last] at h1
      cases h1
      rw [List.getElem?_append_right (Nat.le_refl _), Nat.sub_self] at h2
      cases h2
      exact ⟨f.f, vs, hp, hv.mono ex⟩
  · obtain ⟨z1, z2, z3, z4⟩ := h.bk a o z
    refine ⟨z1, z2, fun q => ?_, z4⟩
    have q : a ∈ m.rho ++ [p] := q
    rcases List.mem_append.mp q with q | q
    · exact z3 q
    · rw [List.mem_singleton.mp q] at z
      have z : m.B p = some o := z
      rw [f.b] at z
      cases z
  · have q := h.sl i s hs
    cases s with
    | no => trivial
    | val d =>
      obtain ⟨v, q1, q2⟩ := q
      exact ⟨v, q1, q2.mono ex⟩
    | own o =>
      obtain ⟨q1, q2, q3⟩ := q
      refine ⟨q1, q2.mono ex rfl, ⟨q3.fr, q3.bk, fun z => ?_, q3.ap⟩⟩
      have z : m.lam i ∈ m.rho ++ [p] := z
      rcases List.mem_append.mp z with z | z
      · exact q3.rh z
      · exact f.o i o hs (List.mem_singleton.mp z)
theorem se_store {X : Cx} {g : G} {W : WX} {e : Expr} {f : M (List D)} (h : PE X e (tL g W f)) : PE X e (tE g W (cStore f)) := by
  refine pe_imp h fun σ H Q ⟨m, c, s, o⟩ => ⟨m, c, s, o.bind.imp fun v H1 ⟨m1, xs, c1, x1, s1, k1, o1⟩ => ?_⟩
  obtain ⟨m2, x2, s2, k2⟩ := s1.store k1
  exact (o1.mono x2).here s2 k2

/-! ## a def by its body -/
def startC (n : Nat) (ds : List D) (S : List O) : CS := ⟨ds.map .val ++ List.replicate (n - ds.length) .no, S⟩
/-- what comes out of a body -/
def outF (r : R Fl) : FR := match r with
  | .ok .next c => .ok .non c.S
  | .ok (.ret d) c => .ok d c.S
  | .exc cn vs c => .exc cn vs c.S
  | _ => .stuck
def fnB (n np : Nat) (fb : M Fl) : Fn := fun ds S => match decide (ds.length = np) with
  | true => outF (fb (startC n ds S))
  | false => .stuck
theorem Sim.drop {g : G} {m : Mp} {c : CS} {σ : L2.St} {H : Hp} (h : Sim g m c σ H) : Sim g m ⟨[], c.S⟩ [] H :=
  ⟨h.fr, h.nd, h.len, iniOk_nil, rfl, h.st, h.bk, fun i s hs => by
    have hs : ([] : List Sl)[i]? = some s := hs
    simp at hs⟩
theorem Sim.start {g : G} {m : Mp} {S : List O} {H : Hp} {N : List Str} {ds : List D} {vs : List V} (h : Sim g m ⟨[], S⟩ [] H) (hv : Svs g m ds vs) : Sim g m (startC N.length ds S) (L2.start N vs) H := by
  have iniS : IniOk m (ds.map Sl.val ++ List.replicate (N.length - ds.length) Sl.no) := fun k fs e => by
    rcases List.mem_append.mp (List.mem_of_getElem? e) with z | z
    · obtain ⟨d, _, z⟩ := List.mem_map.mp z
      cases z
    · cases (List.mem_replicate.mp z).2
  refine ⟨h.fr, h.nd, h.len, iniS, ?_, h.st, h.bk, fun i s hs => ?_⟩
  · show (ds.map Sl.val ++ List.replicate (N.length - ds.length) Sl.no).length = (vs.map some ++ List.replicate (N.length - vs.length) none).length
    rw [List.length_append, List.length_append, List.length_map, List.length_map, List.length_replicate, List.length_replicate, hv.length]
  · have hs : (ds.map Sl.val ++ List.replicate (N.length - ds.length) Sl.no)[i]? = some s := hs
    by_cases q : i < ds.length
    · rw [List.getElem?_append_left (by rw [List.length_map]; exact q), List.getElem?_map, List.getElem?_eq_getElem q] at hs
      cases hs
      obtain ⟨v, e1, e2⟩ := hv.get (List.getElem?_eq_getElem q)
      refine ⟨v, ?_, e2⟩
      show (vs.map some ++ List.replicate (N.length - vs.length) none)[i]? = some (some v)
      rw [List.getElem?_append_left (by rw [List.length_map, ← hv.length]; exact q), List.getElem?_map, e1]
      rfl
    · rw [List.getElem?_append_right (by rw [List.length_map]; omega)] at hs
      have e := List.mem_of_getElem? hs
      have e := (List.mem_replicate.mp e).2
      subst e
      trivial
theorem outS_F {g : G} {W : WX} {m : Mp} {S : List O} {r : R Fl} {Q : VK} {E : XK} (hW : ∀ C d σ H, E C d H → W C d σ H) (o : OutF g m (outF r) Q E) : OutS g W m r { nx := fun _ H' => Q .non H', rt := Q } := by
  cases r with
  | ok a c =>
    cases a with
    | next => exact fun m' σ' H' x s => o m' .non H' x s.drop .non
    | ret d => exact fun m' σ' v H' x s k => o m' v H' x s.drop k
    | brk => exact o.elim
    | cont => exact o.elim
  | exc cn vs c => exact fun m' σ' H' C d x s k => hW C d σ' H' (o m' H' C d x s.drop k)
  | stuck => exact o.elim
/-- its scope is the body's scope -/
def StoOk (sc : Scope) : Prop := ∀ x, isLoc (sc.names.lookup x) = true → Loc sc x
theorem sto_ok {sc : Scope} : StoOk sc := fun x h => by
  unfold isLoc at h
  split at h
  · rename_i e; exact .inl e
  · rename_i e; exact .inr e
  · cases h
theorem good_of {g : G} {N ps : List Str} {qual : Str} {sc : Scope} {f : Addr} {cd : Value} {A : Around} {outer : List Env} {s : Shared} {H : Hp} {E : XK} {k : Nat} (S : FnScope N ps sc) (hr : Room k (A.deeper (envOfC qual sc s.heap.objs.size f cd))) :
    Good g k N (cxOf (L2.CX g.prog g.w) g.prog g.w g.K g.mg g.base N qual sc f cd A outer s H E) sc sc (fun C d _ H' => E C d H') :=
  ⟨rfl, S.nd, rfl, rfl, hr, rfl, rfl, rfl, rfl, rfl, takes_of rfl rfl rfl rfl, passes_of rfl, fun x hx => ⟨sto_ok x hx, .inl rfl⟩⟩
theorem fn_c {g : G} {x qual : Str} {st : Stmt} {f : Addr} {fd : FuncData} {N ps : List Str} {k : Nat} {fb : M Fl} (F : L2.Fun g.K x qual st f fd) (S : FnScope N ps (defScope st)) (hb : Binds g.K fd ps [])
    (h : ∀ (X : Cx) (W : WX), Good g k N X (defScope st) (defScope st) W → PSs X (defBody st) (tS g W fb)) : FnC g (k + 1) f (fnB N.length ps.length fb) := by
  have z : FnOk g.prog g.w g.K g.mg g.base (L2.CX g.prog g.w) (k + 1) f fd ps (spOf g (fnB N.length ps.length fb)) := by
    refine F.okX S (fun vs H Q E hs => ?_) (fun cdv A outer s H vs Q E hr hs => ?_)
    · obtain ⟨m, S', ds, sm, hv, o⟩ := hs
      unfold fnB at o
      cases e : decide (ds.length = ps.length) with
      | false => rw [e] at o; exact o.elim
      | true => rw [← hv.length]; exact of_decide_eq_true e
    · obtain ⟨m, S', ds, sm, hv, o⟩ := hs
      unfold fnB at o
      cases e : decide (ds.length = ps.length) with
      | false => rw [e] at o; exact o.elim
      | true =>
        rw [e] at o
        exact ⟨_, h _ _ (good_of S hr), m, _, sm.start hv, outS_F (S := S') (fun _ _ _ _ h => h) o⟩
  exact (z.raw hb (dvs := []) .nil).imp fun vs H Q E hs => by rw [List.append_nil]; exact hs
end CL
namespace CL
open PySem PySem.Spec PyProof.Rows L2

/-! ## enumerate over a tuple -/
abbrev tupIt (a : Addr) : Obj := { cls := .type "tuple_iterator", data := .fields #[.ref a, .int 0 0] }
abbrev enuOb (i : Addr) : Obj := { cls := .type "enumerate", data := .fields #[.none, .bool false, .ref i, rawInt 0, .none, .none] }
open AutoSeq1 in
theorem enuT_new (a : Addr) (its : Array Value) (n : Nat) (dc : Option Addr) (ss : Array (Option Value)) :
    Meets (Builtin.«enumerate.__new__» ⟨[.type "enumerate", .ref a], []⟩)
      (fun _ R s => s.heap.get? a = some ⟨.type "tuple", dc, .seq its n, ss⟩ ∧
        R (.ok (.ret (.ref (s.heap.push (tupIt a)).objs.size))) { s with heap := (s.heap.push (tupIt a)).push (enuOb s.heap.objs.size) }) :=
  .of_wp fun P w A R s h => by
    obtain ⟨hh, gs, dd, tt, os⟩ := s
    obtain ⟨hl, h⟩ := h
    have hs := sub_enumerate
    have ht : Heap.IsTuple (Shared.heap ⟨hh, gs, dd, tt, os⟩) a its := ⟨_, hl, rfl, n, rfl⟩
    wp_walk using wpAny_loadPart' hl
    refine wpAny_stack_any fun sk => wpAny_pure ?_
    split
    · rename_i k _ _ _ _ _
      cases (k == Value.type "enumerate") <;> wp_walk using wpAny_loadPart' hl, wpAny_pyIter_tuple ht
      all_goals exact ⟨_, rfl, h⟩
    · wp_walk using wpAny_loadPart' hl, wpAny_pyIter_tuple ht
      exact ⟨_, rfl, h⟩

theorem enuT_call {P : Program} {w : World} {A : Around} {E : Value → Shared → Prop} {s : Shared} {a : Addr} {its : Array Value} {Q : Value → Shared → Prop} (ht : s.heap.IsTuple a its)
    (h : ∀ h', IsEnum h' (s.heap.objs.size + 1) s.heap.objs.size 0 .none → h'.IsTupleIter s.heap.objs.size a 0 →
      (∀ b o, s.heap.get? b = some o → h'.get? b = some o) → Q (.ref (s.heap.objs.size + 1)) { s with heap := h' }) :
    wpAny (model P w) A (call (.type "enumerate") [.ref a]) Q E s := by
  obtain ⟨⟨oc, od, dt, ss⟩, e1, e2, n, e3⟩ := ht
  have e2 : oc = .type "tuple" := e2
  have e3 : dt = .seq its n := e3
  subst e2 e3
  have sz : (s.heap.push (tupIt a)).objs.size = s.heap.objs.size + 1 := Heap.size_push ..
  refine callType_new F.called_enumerate (by decide) (F.typeCall_enumerate_1 _) (F.newCall_enumerate_1 _) (fun ob => F.args_object_init_2 ob _) F.entry_enumerate_new (enuT_new a its n od ss) ⟨e1, ?_⟩
  show _ ∧ _
  rw [sz]
  have g1 : IsEnum ((s.heap.push (tupIt a)).push (enuOb s.heap.objs.size)) (s.heap.objs.size + 1) s.heap.objs.size 0 .none := by
    have q := Heap.get?_push_size (s.heap.push (tupIt a)) (o := enuOb s.heap.objs.size) rfl
    rw [sz] at q
    exact q
  exact ⟨⟨_, g1, rfl⟩, h _ g1 ⟨_, Heap.get?_push_of_some _ (Heap.get?_push_size _ rfl), rfl, rfl⟩ fun b o x => Heap.get?_push_of_some _ (Heap.get?_push_of_some _ x)⟩

def IteT (K : PySem.W.Frag) (a : Addr) : It where
  go := fun i H => ∃ (xs : List V) (x : V), SqT K H a xs ∧ xs[i]? = some x
  yld := fun i H v H' => ∃ T x, v = .ref T ∧ H T = none ∧ H' = upd H T (.tup [.int (i : Nat), x]) ∧ ∀ xs, SqT K H a xs → xs[i]? = some x
  stop := fun i H => ∃ xs : List V, SqT K H a xs ∧ i = xs.length
theorem turn_enumT {P : Program} {w : World} {K : PySem.W.Frag} {elts : List Expr} {kk : Nat} {tpos : Pos} (a e it : Addr) :
    Turn P w K (.Tuple elts kk tpos) (IteT K a) [e, it] e (fun i h => (∃ u, IsEnum h e it ((i : Nat) : Int) u) ∧ h.IsTupleIter it a i ∧ e ≠ it ∧ a ≠ it ∧ a ≠ e) where
  mem := List.mem_cons_self
  obj := by
    intro i h hx b hb
    obtain ⟨⟨u, he⟩, ⟨o, ho, _, hd⟩, _⟩ := hx
    rcases List.mem_cons.mp hb with z | z
    · rw [z]
      exact ⟨_, he, fun v q => nomatch q⟩
    · exact ⟨o, by rw [List.mem_singleton.mp z]; exact ho, fun v q => by rw [hd] at q; cases q⟩
  keep := by
    intro i h h' hx k
    obtain ⟨⟨u, he⟩, hi, ne⟩ := hx
    exact ⟨⟨u, k e List.mem_cons_self _ he⟩, hi.at fun o q => k it (List.mem_cons_of_mem _ List.mem_cons_self) o q, ne⟩
  item := by
    intro X e1 e2 e3 hc i pins s σ H E I fp ht hg
    obtain ⟨⟨u0, he⟩, hit, ne, n2, n3⟩ := ht
    obtain ⟨xs, x, hq, hx⟩ := hg
    subst e1 e2 e3
    obtain ⟨its, rv, pl, _⟩ := I.tuple hq
    obtain ⟨u, hu, ru⟩ := rv.get hx
    have le : e < s.heap.objs.size := Heap.lt_size he
    have li : it < s.heap.objs.size := let ⟨_, q, _⟩ := hit; Heap.lt_size q
    have la : a < s.heap.objs.size := let ⟨_, q, _⟩ := pl; Heap.lt_size q
    have D := PySem.Draws.tuple (prog := X.prog) (w := X.w) (A := X.A.in1) (I.ok.hd hc) it a n2 its.toArray
    have lt : i < its.toArray.size := by
      have := (List.getElem?_eq_some_iff.mp hu).1
      simpa using this
    have nf : e ∉ [it, a] := fun z => by
      rcases List.mem_cons.mp z with z | z
      · exact ne z
      · exact n3 (List.mem_singleton.mp z).symm
    refine wpAny_pyNext_enum_itemD D he ⟨hit, pl⟩ lt ne nf fun y h' tk hy ho st hT sz hk => ?_
    have ey : y = u := by
      rw [List.getElem?_toArray, hu] at hy
      exact (Option.some.inj hy).symm
    subst ey
    refine ⟨_, rfl, wpAny_letOwnedTupleGo_enum (s := { s with heap := h', toks := tk + 1 }) ho fun h2 he2 sb => ?_⟩
    have hT2 : h2.get? s.heap.objs.size = some { cls := .type "tuple", data := .seq #[.int i tk, y] } := (sb.2 _ (Nat.ne_of_gt le)).trans hT
    have nw : ObjOk X.prog X.w (upd H s.heap.objs.size (.tup [.int (i : Nat), x])) h2 s.heap.objs.size (.tup [.int (i : Nat), x]) :=
      ⟨by show 2 ≤ sizeLine; decide, [.int i tk, y], .cons ⟨_, rfl⟩ (.cons ru .nil), _, hT2, rfl, _, rfl⟩
    have kp : ∀ b o, b ∉ [e, it] → s.heap.get? b = some o → h2.get? b = some o := fun b o hb q => by
      have b1 : b ≠ e := fun z => hb (by rw [z]; exact List.mem_cons_self)
      have b2 : b ≠ it := fun z => hb (by rw [z]; exact List.mem_cons_of_mem _ List.mem_cons_self)
      exact (sb.2 b b1).trans (hk b o b1 b2 q)
    have J : Inv X pins σ (upd H s.heap.objs.size (.tup [.int (i : Nat), x])) { s with heap := h2, toks := tk + 1 } := I.turnedNew (ch := [e, it]) kp fp (Nat.le_refl _) nw
    refine ⟨.ref s.heap.objs.size, _, J, rfl, ⟨_, x, rfl, I.hok.fresh (Nat.le_refl _), rfl, fun ys hy => by rw [I.tuple_inj hy hq]; exact hx⟩, ⟨⟨y, ?_⟩, st.1.at fun o q => (sb.2 it (Ne.symm ne)).trans q, ne, n2, n3⟩, fun b hb => ?_⟩
    · rw [show ((i + 1 : Nat) : Int) = (i : Int) + 1 by omega]
      exact he2
    · have lb : b < s.heap.objs.size := by
        rcases List.mem_cons.mp hb with z | z
        · rw [z]; exact le
        · rw [List.mem_singleton.mp z]; exact li
      rw [upd_ne (Nat.ne_of_lt lb)]
      exact (fp b hb).1
  done := by
    intro X e1 e2 e3 hc i pins s σ H E I fp ht hg
    obtain ⟨⟨u0, he⟩, hit, ne, n2, n3⟩ := ht
    obtain ⟨xs, hq, hx⟩ := hg
    subst e1 e2 e3
    obtain ⟨its, rv, pl, _⟩ := I.tuple hq
    obtain ⟨f0, f1, f2, f3, f4, f5⟩ := fp it (List.mem_cons_of_mem _ List.mem_cons_self)
    have D := PySem.Draws.tuple (prog := X.prog) (w := X.w) (A := X.A.in1) (I.ok.hd hc) it a n2 its.toArray
    have hl := rv.length
    have q : i = its.toArray.size := by
      rw [List.size_toArray, ← hl]
      exact hx
    subst q
    exact wpAny_pyNext_enum_endD D he ⟨hit, pl⟩ fun h' eb => ⟨rfl, I.turned (t' := s.toks) (fun b o hb q => eb b o hb q) f0 f1 f3 f4 f5⟩
  self := by
    intro A i s Q E hx h
    obtain ⟨⟨_, he⟩, _⟩ := hx
    exact wpAny_pyIter_enum he h

/-- the pairs of enumerate -/
def enumD (xs : List D) : List D := xs.zipIdx.map fun p => .tup [.int (p.2 : Nat), p.1]
theorem enumD_at {xs : List D} {i : Nat} {d : D} (h : (enumD xs)[i]? = some d) : ∃ x, xs[i]? = some x ∧ d = .tup [.int (i : Nat), x] := by
  unfold enumD at h
  rw [List.getElem?_map, List.getElem?_zipIdx] at h
  cases e : xs[i]? with
  | none => rw [e] at h; cases h
  | some x =>
    rw [e] at h
    cases h
    exact ⟨x, rfl, by simp⟩
theorem enumD_length (xs : List D) : (enumD xs).length = xs.length := by unfold enumD; simp
theorem yld_pair {g : G} {m1 : Mp} {c : CS} {σ : L2.St} {H : Hp} {d : D} {v : V} {i : Int} {T : Addr} (s : Sim g m1 c σ H) (k : Sv g m1 d v) (hT : H T = none) : ∃ m2, Ext m1 m2 ∧ Sim g m2 c σ (upd H T (.tup [.int i, v])) ∧ Sv g m2 (.tup [.int i, d]) (.ref T) := by
  obtain ⟨s2, x2⟩ := s.frozen (u := .tup [.int i, v]) hT
  exact ⟨_, x2, s2, .tup (SqT.of upd_same) (.cons (.int i) (.cons (k.mono x2) .nil))⟩
theorem yld_enumT {g : G} {m : Mp} {a : Addr} {ds : List D} {vs : List V} (h : SqT g.K m.F a vs) (k : Svs g m ds vs) : Yld g m (IteT g.K a) (enumD ds) := fun m1 c σ H xr xf s i => by
  have hq : SqT g.K H a vs := s.sqT (sqT_mono xf h)
  have kl := k.length
  refine ⟨fun hi => ⟨vs, hq, by rw [hi, enumD_length]; exact kl⟩, fun d hd => ?_⟩
  obtain ⟨x, hx, rfl⟩ := enumD_at hd
  obtain ⟨v, h1, h2⟩ := k.get hx
  refine ⟨⟨vs, v, hq, h1⟩, fun y H' ⟨T, w, e1, e2, e3, e4⟩ => ?_⟩
  have e5 := e4 vs hq
  rw [h1] at e5
  cases e5
  subst e1 e3
  exact yld_pair s (Sv.like xr xf h2) e2
theorem yld_enumL {g : G} {m : Mp} {a : Addr} {ds : List D} {vs : List V} (h : m.F a = some (.lst vs)) (k : Svs g m ds vs) : Yld g m (Ite g.K a) (enumD ds) := fun m1 c σ H xr xf s i => by
  have hq : SqL g.K H a vs := SqL.of (s.fr _ _ (xf _ _ h))
  have kl := k.length
  refine ⟨fun hi => ⟨vs, hq, by rw [hi, enumD_length]; omega⟩, fun d hd => ?_⟩
  obtain ⟨x, hx, rfl⟩ := enumD_at hd
  obtain ⟨v, h1, h2⟩ := k.get hx
  refine ⟨⟨vs, v, hq, h1⟩, fun y H' ⟨T, w, e1, e2, e3, e4⟩ => ?_⟩
  have e5 := e4 vs hq
  rw [h1] at e5
  cases e5
  subst e1 e3
  exact yld_pair s (Sv.like xr xf h2) e2
def dEnum (d : D) : M (List D) := fun c => match d with
  | .lst xs => .ok (enumD xs) c
  | .tup xs => .ok (enumD xs) c
  | _ => .stuck
def cEnum (f : M D) : M (List D) := f.bind dEnum
/-- what one argument brings -/
def OneQ {β γ : Type} (rel : Rl γ β) (g : G) (W : WX) (σ : L2.St) (m : Mp) (f : D → M γ) (R : β → Hp → Prop) : List V → Hp → Prop := fun vs H1 => ∃ v m' d c', vs = [v] ∧ Ext m m' ∧ Sim g m' c' σ H1 ∧ Sv g m' d v ∧ Out rel g W σ m' (f d c') R
section
variable {g : G} {k : Nat} {N : List Str} {X : Cx} {sc ws : Scope} {W : WX} {p pos tpos : Pos} {e : Expr} {fe : M D} {es : List Expr} {kk : Nat}
theorem sq_enum (q : Good g k N X sc ws W) (hg : isGl sc "enumerate" = true) (hm : g.mg "enumerate" = none) (he : PE X e (tE g W fe)) (hs : isStar e = false) : PI X (.Tuple es kk tpos) (.Call (.Name "enumerate" p) [e] [] pos) (tI g W (cEnum fe)) := by
  refine ⟨fun pins s σ H R I ⟨m, c, sm, o⟩ => ?_⟩
  have hst : starEach [e] X.env = (false, eval e X.env) :: starEach [] X.env := star_plain hs
  have one : PA X [e] (fun σ H Q => tE g W fe σ H fun x H1 => Q [x] H1) := pa_cons he pa_nil hst
  have o2 : tE g W fe σ H fun x H1 => OneQ (rI g) g W σ m dEnum R [x] H1 := ⟨m, c, sm, o.bind.imp fun v H1 ⟨m1, d, c1, x1, s1, k1, o1⟩ => ⟨v, m1, d, c1, rfl, x1, s1, k1, o1⟩⟩
  refine Call_ (ld_blt I (q.gl hg).1 (by rw [q.hmg]; exact hm) boot_enumerate (PyProof.Rows.callWith_type1 (thn (one.run pos pins s σ H (OneQ (rI g) g W σ m dEnum R) I o2) fun us s1 ⟨vs, H1, I1, r1, z1⟩ => ?_) hst rfl))
  obtain ⟨v0, m1, d, c1, ev, x1, s2, k1, o1⟩ := z1
  subst ev
  cases r1 with
  | cons r rr =>
    cases rr
    cases k1 with
    | @lst a ds vs h1 h2 =>
      cases r
      have hq : SqL X.K H1 a vs := SqL.of (s2.fr _ _ h1)
      obtain ⟨its, rv, p', hz⟩ := I1.list hq
      refine call_enumerate_list p'.isList fun h' g1 g2 _ hk => wpAny_pyIter_enum g1 ?_
      have I2 : Inv X pins σ H1 { s1 with heap := h' } := I1.kept (t' := s1.toks) hk
      refine ⟨s1.heap.objs.size + 1, [s1.heap.objs.size + 1, s1.heap.objs.size], _, _, H1, rfl, I2, turn_enum a (s1.heap.objs.size + 1) s1.heap.objs.size, ⟨⟨.none, g1⟩, g2, Nat.succ_ne_self _⟩, fun b hb => ?_, ?_⟩
      · have lb : s1.heap.objs.size ≤ b := by
          rcases List.mem_cons.mp hb with z | z
          · rw [z]; exact Nat.le_succ _
          · rw [List.mem_singleton.mp z]; exact Nat.le_refl _
        exact I1.fpOk lb (I1.hok.fresh lb)
      · rw [q.hK]
        exact o1.here s2 (yld_enumL h1 h2)
    | @tup a ds vs h1 h2 =>
      cases r
      have hq : SqT X.K H1 a vs := by
        rw [q.hK]
        exact s2.sqT h1
      obtain ⟨its, rv, p', hz⟩ := I1.tuple hq
      have la : a < s1.heap.objs.size := let ⟨_, z, _⟩ := p'; Heap.lt_size z
      refine enuT_call (show s1.heap.IsTuple a its.toArray from p') fun h' g1 g2 hk => wpAny_pyIter_enum g1 ?_
      have I2 : Inv X pins σ H1 { s1 with heap := h' } := I1.kept (t' := s1.toks) hk
      refine ⟨s1.heap.objs.size + 1, [s1.heap.objs.size + 1, s1.heap.objs.size], _, _, H1, rfl, I2, turn_enumT a (s1.heap.objs.size + 1) s1.heap.objs.size, ⟨⟨.none, g1⟩, g2, Nat.succ_ne_self _, Nat.ne_of_lt la, Nat.ne_of_lt (Nat.lt_succ_of_lt la)⟩, fun b hb => ?_, ?_⟩
      · have lb : s1.heap.objs.size ≤ b := by
          rcases List.mem_cons.mp hb with z | z
          · rw [z]; exact Nat.le_succ _
          · rw [List.mem_singleton.mp z]; exact Nat.le_refl _
        exact I1.fpOk lb (I1.hok.fresh lb)
      · rw [q.hK]
        exact o1.here s2 (yld_enumT h1 h2)
    | _ => exact o1.elim
end
end CL
namespace CL
open PySem PySem.Spec PyProof.Rows L2

/-! ## making an instance -/
def OutMk (g : G) (m : Mp) (x : Addr) (r : FR) (Q : VK) (E : XK) : Prop := match r with
  | .ok d S => ∀ m' H', Ext m m' → Sim g m' ⟨[], S⟩ [] H' → Sv g m' d (.ref x) → Q .non H'
  | .exc cn vs S => ∀ m' H' C dd, Ext m m' → Sim g m' ⟨[], S⟩ [] H' → Exr g m' cn vs C dd → E C dd H'
  | .stuck => False
/-- what __init__ promises of a new instance of class ci; fn gives what it becomes -/
def spMk (g : G) (ci : Nat) (fn : Fn) : Sp := fun vs H Q E => ∃ x us m S ds C ns dx, vs = V.ref x :: us ∧ g.cls ci = some (C, ns) ∧ H x = some (.ins C dx []) ∧ Sim g m ⟨[], S⟩ [] H ∧ m.F x = none ∧ m.B x = none ∧ x ∉ m.rho ∧ m.ini = x ∧ Svs g m ds us ∧ OutMk g m x (fn ds S) Q E
abbrev FnMk (g : G) (k : Nat) (f : Addr) (ci : Nat) (fn : Fn) : Prop := FnR g.prog g.w g.K g.mg g.base (L2.CX g.prog g.w) k f (spMk g ci fn)
section
variable {X : Cx} {g : G} {k j : Nat} {N : List Str} {sc ws : Scope} {W : WX} {p pos : Pos} {x : Str} {e : Expr} {es : List Expr} {fa : M (List D)} {f C : Addr} {fn : Fn} {ci : Nat} {ns : List Str}
theorem run_mk (q : Good g k N X sc ws W) (hc : g.cls ci = some (C, ns)) (M : Mk g.K C f) (F : FnMk g j f ci fn) (hj : j + 1 ≤ k) {pins : List (Addr × Obj)} {m : Mp} {c : CS} {σ : L2.St} {H : Hp} {s : Shared} {ds : List D} {vs : List V} {us : List Value} {Q : VK}
    (I : Inv X pins σ H s) (r : Vals vs us) (sm : Sim g m c σ H) (hv : Svs g m ds vs) (o : Out (rE g) g W σ m (liftF (fn ds c.S) c) Q) : wpAny (model X.prog X.w) X.A (call (.ref C) us) (EP X pins σ Q) X.xe s := by
  rw [← q.hK] at M
  have F : FnR X.prog X.w X.K X.mg X.base (L2.CX X.prog X.w) j f (spMk g ci fn) := by
    rw [q.hP, q.hw, q.hK, q.hmg, q.hbs]
    exact F
  have hdx : H s.heap.objs.size = none := I.hok.fresh (Nat.le_refl _)
  have hx : H (s.heap.objs.size + 1) = none := I.hok.fresh (Nat.le_succ _)
  have ne : s.heap.objs.size + 1 ≠ s.heap.objs.size := Nat.ne_of_gt (Nat.lt_succ_self _)
  obtain ⟨s1, _⟩ := sm.new (u := .own (s.heap.objs.size + 1)) hdx
  obtain ⟨s2, f2⟩ := s1.new (p := s.heap.objs.size + 1) (u := .ins C s.heap.objs.size []) (by rw [upd_ne ne]; exact hx)
  have fx : ∀ a ∈ [s.heap.objs.size + 1], Fre m c a := fun a ha => by
    rw [List.mem_singleton.mp ha]
    exact f2
  have hq : spMk g ci fn (V.ref (s.heap.objs.size + 1) :: vs) (upd (upd H s.heap.objs.size (.own (s.heap.objs.size + 1))) (s.heap.objs.size + 1) (.ins C s.heap.objs.size [])) (fun v H2 => v = .non ∧ Q (.ref (s.heap.objs.size + 1)) H2) (WE W σ) := by
    refine ⟨_, vs, _, c.S, ds, C, ns, _, rfl, hc, upd_same, s2.call [s.heap.objs.size + 1] (s.heap.objs.size + 1), f2.f, ?_, f2.r, rfl, Svs.like (m := m) (m' := m.call _ [s.heap.objs.size + 1] (s.heap.objs.size + 1)) (fun _ _ z => z) (fun _ _ z => z) hv, ?_⟩
    · show (if _ then none else _) = none
      rw [if_pos (.inr List.mem_cons_self)]
    · cases e : fn ds c.S with
      | ok d S' =>
        rw [e] at o
        intro m' H' x' s' k'
        obtain ⟨x3, s3⟩ := s2.back fx x' s'
        exact ⟨rfl, o _ _ H' x3 s3 (Sv.like (m := m') (m' := ⟨m'.rho, m'.F, m.B, m.lam, m.ini⟩) (fun _ _ z => z) (fun _ _ z => z) k')⟩
      | exc cn ws S' =>
        rw [e] at o
        intro m' H' C' dd x' s' k'
        obtain ⟨x3, s3⟩ := s2.back fx x' s'
        exact o _ H' C' dd x3 s3 (exr_like (m := m') (m' := ⟨m'.rho, m'.F, m.B, m.lam, m.ini⟩) (fun _ _ z => z) (fun _ _ z => z) k')
      | stuck => rw [e] at o; exact o.elim
  have I2 := Inv.made (C := C) I
  have r2 : Vals (V.ref (s.heap.objs.size + 1) :: vs) (Value.ref (s.heap.objs.size + 1) :: us) := .cons rfl r
  refine wpAny_call (make_map (f := f) I.kIn M.makes M.init (beq_iff_eq.mp M.fn) (codeAny_mono (F _ X.stack _ _ _ _ _ _ ((q.room.mono hj).make C us []) (I2.env0.make C us []) r2 hq) fun r s' hr => ?_))
  match r, hr with
  | .error er, hr => exact passAt q.tk σ pins _ _ er s' I2 hr
  | .ok (.ret u), hr =>
    obtain ⟨v, H', I3, rv, ev, q3⟩ := I2.after hr
    subst ev
    exact ⟨rv, V.ref (s.heap.objs.size + 1), H', I3, rfl, q3⟩
theorem sx_make (q : Good g k N X sc ws W) (hc : g.cls ci = some (C, ns)) (M : Mk g.K C f) (F : FnMk g j f ci fn) (hj : j + 1 ≤ k) (hg : isGl sc x = true) (hm : g.mg x = some (.ref C)) (ha : PA X (e :: es) (tA g W fa)) (hp : plainArgs (e :: es) = true) :
    PE X (.Call (.Name x p) (e :: es) [] pos) (tE g W (cCall fn fa)) := by
  obtain ⟨p1, p2⟩ := plain_tail hp
  refine ⟨fun pins s σ H Q I ⟨m, c, sm, o⟩ => ?_⟩
  obtain ⟨hg, hd, _⟩ := q.gl hg
  rw [← q.hmg] at hm
  refine wpAny_Call_Name_kw (ld_glob I hg hm ?_ hd)
  refine PySem.W.callWith_K (K := X.K) (h₀ := X.base) I.ok.mod.kin (by rw [q.hK]; exact M.kp) (thn (ha.run pos pins s σ H _ I ⟨m, c, sm, o.bind⟩) fun us s1 ⟨vs, H1, I1, r, m1, ds, c1, x1, s2, k1, o1⟩ => ⟨I1.kIn, ?_⟩) (star_plain p1) (plain_any p2)
  exact run_mk q hc M F hj I1 r s2 k1 o1
/-- C( *e) -/
def cCallS (fn : Fn) (fe : M D) : M D := fe.bind fun d => (dItems d).bind fun ds c => liftF (fn ds c.S) c
theorem sx_makeS {sp : Pos} {fe : M D} (q : Good g k N X sc ws W) (hc : g.cls ci = some (C, ns)) (M : Mk g.K C f) (F : FnMk g j f ci fn) (hj : j + 1 ≤ k) (hg : isGl sc x = true) (hm : g.mg x = some (.ref C)) (he : PE X e (tE g W fe)) :
    PE X (.Call (.Name x p) [.Starred e sp] [] pos) (tE g W (cCallS fn fe)) := by
  refine ⟨fun pins s σ H Q I ⟨m, c, sm, o⟩ => ?_⟩
  obtain ⟨hg, hd, _⟩ := q.gl hg
  rw [← q.hmg] at hm
  refine wpAny_Call_Name_kw (ld_glob I hg hm ?_ hd)
  refine PySem.W.callWith_S (K := X.K) (h₀ := X.base) I.ok.mod.kin (by rw [q.hK]; exact M.kp) (thn (he.run pins s σ H _ I ⟨m, c, sm, o.bind⟩) fun v s1 ⟨y, H1, I1, ry, m1, d, c1, x1, s2, k1, o1⟩ => ?_) (by rfl)
  obtain ⟨a, xs, vs, rfl, h1, h2, o2⟩ := s2.items k1 o1
  obtain rfl : v = Value.ref a := ry
  rw [← q.hK] at h1
  exact StX.star_any I1 h1 fun us s3 I3 rv => ⟨I3.kIn, run_mk q hc M F hj I3 rv s2 h2 o2⟩
end

/-! ## a field of an own or of a store's instance is written -/
inductive Pi where
  | own (fs : List (Str × D))
  | st (n : Nat) (fs : List (Str × D))
def Pi.fs : Pi → List (Str × D)
  | .own fs => fs
  | .st _ fs => fs
def CS.pi (c : CS) (ci i : Nat) : Option Pi := match c.sl[i]? with
  | some (.own (.ins k fs)) => if k = ci then some (.own fs) else none
  | some (.val (.ref n)) => match c.S[n]? with
    | some (.ins k fs) => if k = ci then some (.st n fs) else none
    | _ => none
  | _ => none
def CS.wi (c : CS) (ci i : Nat) (p : Pi) (fs : List (Str × D)) : CS := match p with
  | .own _ => c.put i (.own (.ins ci fs))
  | .st n _ => { c with S := c.S.set n (.ins ci fs) }
theorem Sim.pi {g : G} {m : Mp} {c : CS} {σ : L2.St} {H : Hp} (s : Sim g m c σ H) {ci i : Nat} {p : Pi} {C : Addr} {ns : List Str} (hc : g.cls ci = some (C, ns)) (e : c.pi ci i = some p) :
    ∃ a dx us, σ[i]? = some (some (.ref a)) ∧ H a = some (.ins C dx us) ∧ Sfs g m p.fs us ∧ ∀ fs ws, Sfs g m fs ws → Sim g m (c.wi ci i p fs) σ (upd H a (.ins C dx ws)) := by
  unfold CS.pi at e
  cases q : c.sl[i]? with
  | none => rw [q] at e; cases e
  | some t =>
    rw [q] at e
    cases t with
    | no => cases e
    | own o =>
      cases o with
      | lst _ => cases e
      | ins k fs =>
        have e : (if k = ci then some (Pi.own fs) else none) = some p := e
        by_cases z : k = ci
        · subst z
          rw [if_pos rfl] at e
          cases e
          obtain ⟨h1, ⟨C', ns', dx, us, j1, j2, j3⟩, h3⟩ := s.sl i _ q
          rw [hc] at j1
          cases j1
          exact ⟨m.lam i, dx, us, h1, j2, j3, fun fs ws k => s.wrOwn q (fun H' z => ⟨C, ns, dx, ws, hc, z, k⟩) (fun _ _ _ => ⟨_, _, rfl⟩)⟩
        · rw [if_neg z] at e; cases e
    | val d =>
      cases d with
      | ref n =>
        have e : (match c.S[n]? with
          | some (.ins k fs) => if k = ci then some (Pi.st n fs) else none
          | _ => none) = some p := e
        cases r : c.S[n]? with
        | none => rw [r] at e; cases e
        | some o =>
          rw [r] at e
          cases o with
          | lst _ => cases e
          | ins k fs =>
            have e : (if k = ci then some (Pi.st n fs) else none) = some p := e
            by_cases z : k = ci
            · subst z
              rw [if_pos rfl] at e
              cases e
              obtain ⟨v, h1, h2⟩ := s.sl i _ q
              cases h2 with
              | @ref _ a ha =>
                obtain ⟨_, C', ns', dx, us, j1, j2, j3⟩ := s.st n a _ ha r
                rw [hc] at j1
                cases j1
                exact ⟨a, dx, us, h1, j2, j3, fun fs ws k => s.wrSt ha r fun H' z => ⟨C, ns, dx, ws, hc, z, k⟩⟩
            · rw [if_neg z] at e; cases e
      | _ => cases e
/-- x.f = e -/
def cSetF (ci i : Nat) (f : Str) (fe : M D) : M Fl := fun c => (fe c).bind fun d c1 => match c1.pi ci i with
  | some p => match decide (p.fs.length < 1000) with
    | true => .ok .next (c1.wi ci i p (putD f d p.fs))
    | false => .stuck
  | none => .stuck
section
variable {X : Cx} {g : G} {k : Nat} {N : List Str} {sc ws : Scope} {W : WX} {pos pos' px : Pos} {x f : Str} {e : Expr} {fe : M D} {C : Addr} {ci i : Nat} {ns : List Str}
theorem ss_setF (q : Good g k N X sc ws W) (hc : g.cls ci = some (C, ns)) (kc : Cls g.K C) (na : NoAttr g.K C f) (hi : N[i]? = some x) (hv : isVis (sc.names.lookup x) = true) (hd : noDbg x = true) (he : PE X e (tE g W fe)) (hs : swapsWith e (some (.Attribute (.Name x px) f pos')) pos.line X.env = pure false) :
    PS X (.Assign [.Attribute (.Name x px) f pos'] e pos) (tS g W (cSetF ci i f fe)) := by
  rw [← q.hK] at kc na
  refine ps_imp (ps_fld (pe_var (q.at_ hi) (q.vis hv) (noDbg_1 hd) (noDbg_2 hd)) he hs) fun Dn σ H ⟨m, c, s, o⟩ => ⟨m, c, s, o.bind.imp fun v H1 ⟨m1, d, c1, x1, s1, k1, o1⟩ => ?_⟩
  cases e1 : c1.pi ci i with
  | none => rw [e1] at o1; exact o1.elim
  | some p =>
    rw [e1] at o1
    have o1 : OutS g W m1 (match decide (p.fs.length < 1000) with
      | true => .ok .next (c1.wi ci i p (putD f d p.fs))
      | false => .stuck) Dn := o1
    obtain ⟨a, dx, us, h1, h2, h3, h4⟩ := s1.pi hc e1
    cases z : decide (p.fs.length < 1000) with
    | false => rw [z] at o1; exact o1.elim
    | true =>
      rw [z] at o1
      exact ⟨.ref a, h1, a, C, dx, us, rfl, h2, kc, na, by rw [← h3.length]; exact of_decide_eq_true z, o1.nx (h4 _ _ (h3.put k1))⟩
end

/-! ## __init__ by its body -/
/-- slot 0 holds the new instance -/
def startM (n ci : Nat) (ds : List D) (S : List O) : CS := ⟨.own (.ins ci []) :: (ds.map .val ++ List.replicate (n - 1 - ds.length) .no), S⟩
def outM (ci : Nat) (ns : List Str) (c : CS) : FR := match c.sl[(0 : Nat)]? with
  | some (.own (.ins k fs)) => match decide (k = ci ∧ fs.map (·.1) = ns) with
    | true => .ok (.obj ci (fs.map (·.2))) c.S
    | false => .stuck
  | _ => .stuck
def mkB (n np ci : Nat) (ns : List Str) (fb : M Fl) : Fn := fun ds S => match decide (ds.length = np) with
  | true => match fb (startM n ci ds S) with
    | .ok .next c => outM ci ns c
    | .ok (.ret .non) c => outM ci ns c
    | .exc cn vs c => .exc cn vs c.S
    | _ => .stuck
  | false => .stuck
theorem Sim.startM {g : G} {m : Mp} {S : List O} {H : Hp} {N : List Str} {ds : List D} {vs : List V} {ci : Nat} {C : Addr} {ns : List Str} {x dx : Addr} (h : Sim g m ⟨[], S⟩ [] H) (hv : Svs g m ds vs) (hc : g.cls ci = some (C, ns)) (hx : H x = some (.ins C dx [])) (hF : m.F x = none) (hB : m.B x = none) (hr : x ∉ m.rho) (hi : m.ini = x) :
    ∃ m', Ext m m' ∧ Sim g m' (CL.startM N.length ci ds S) (L2.start N (V.ref x :: vs)) H := by
  have ex : Ext m { m with lam := fun _ => x } := ⟨fun _ _ z => z, fun _ _ z => z, rfl, rfl⟩
  refine ⟨{ m with lam := fun _ => x }, ex, h.fr, h.nd, h.len, fun _ _ _ => hi.symm, ?_, fun n a o h1 h2 => ⟨(h.st n a o h1 h2).1, (h.st n a o h1 h2).2.mono ex rfl⟩, h.bk, fun i s hs => ?_⟩
  · show (Sl.own (.ins ci []) :: (ds.map Sl.val ++ List.replicate (N.length - 1 - ds.length) Sl.no)).length = (((V.ref x :: vs).map some) ++ List.replicate (N.length - (V.ref x :: vs).length) none).length
    rw [List.length_cons, List.length_append, List.length_append, List.length_map, List.length_map, List.length_replicate, List.length_replicate, List.length_cons, hv.length]
    omega
  · have hs : (Sl.own (.ins ci []) :: (ds.map Sl.val ++ List.replicate (N.length - 1 - ds.length) Sl.no))[i]? = some s := hs
    cases i with
    | zero =>
      cases hs
      refine ⟨rfl, ⟨C, ns, dx, [], hc, hx, .nil⟩, ⟨hF, hB, hr, fun j o hj _ => ?_⟩⟩
      have hj : (Sl.own (.ins ci []) :: (ds.map Sl.val ++ List.replicate (N.length - 1 - ds.length) Sl.no))[j]? = some (.own o) := hj
      cases j with
      | zero => rfl
      | succ j =>
        rw [List.getElem?_cons_succ] at hj
        rcases List.mem_append.mp (List.mem_of_getElem? hj) with z | z
        · obtain ⟨d, _, z⟩ := List.mem_map.mp z
          cases z
        · cases (List.mem_replicate.mp z).2
    | succ i =>
      rw [List.getElem?_cons_succ] at hs
      by_cases q : i < ds.length
      · rw [List.getElem?_append_left (by rw [List.length_map]; exact q), List.getElem?_map, List.getElem?_eq_getElem q] at hs
        cases hs
        obtain ⟨v, e1, e2⟩ := hv.get (List.getElem?_eq_getElem q)
        refine ⟨v, ?_, e2.mono ex⟩
        show ((some (V.ref x) :: vs.map some) ++ List.replicate (N.length - (V.ref x :: vs).length) none)[i + 1]? = some (some v)
        rw [List.cons_append, List.getElem?_cons_succ, List.getElem?_append_left (by rw [List.length_map, ← hv.length]; exact q), List.getElem?_map, e1]
        rfl
      · rw [List.getElem?_append_right (by rw [List.length_map]; omega)] at hs
        cases (List.mem_replicate.mp (List.mem_of_getElem? hs)).2
        trivial
theorem Sfs.zip {g : G} {m : Mp} {fs : List (Str × D)} {us : List (Str × V)} (h : Sfs g m fs us) : us = (fs.map (·.1)).zip (us.map (·.2)) ∧ Svs g m (fs.map (·.2)) (us.map (·.2)) := by
  induction h with
  | nil => exact ⟨rfl, .nil⟩
  | cons a _ ih => exact ⟨by
      rw [List.map_cons, List.map_cons, List.zip_cons_cons, ← ih.1], .cons a ih.2⟩
/-- the instance is done: from now on a value -/
theorem outM_ok {g : G} {m m' : Mp} {c : CS} {σ : L2.St} {H : Hp} {ci : Nat} {C : Addr} {ns : List Str} {x : Addr} {Q : VK} {E : XK} (hc : g.cls ci = some (C, ns)) (xx : Ext m m') (s : Sim g m' c σ H) (hi : m.ini = x) (o : OutMk g m x (outM ci ns c) Q E) : Q .non H := by
  unfold outM at o
  cases e : c.sl[0]? with
  | none => rw [e] at o; exact o.elim
  | some t =>
    rw [e] at o
    cases t with
    | no => exact o.elim
    | val d => exact o.elim
    | own ob =>
      cases ob with
      | lst _ => exact o.elim
      | ins k fs =>
        have o : OutMk g m x (match decide (k = ci ∧ fs.map (·.1) = ns) with
          | true => FR.ok (.obj ci (fs.map (·.2))) c.S
          | false => .stuck) Q E := o
        cases z : decide (k = ci ∧ fs.map (·.1) = ns) with
        | false => rw [z] at o; exact o.elim
        | true =>
          rw [z] at o
          obtain ⟨rfl, hn⟩ := of_decide_eq_true z
          obtain ⟨h1, ⟨C', ns', dx, us, j1, j2, j3⟩, h3⟩ := s.sl 0 _ e
          rw [hc] at j1
          cases j1
          have ex : m'.lam 0 = x := (s.ini _ _ e).trans (xx.i.trans hi)
          obtain ⟨z1, z2⟩ := j3.zip
          rw [hn] at z1
          have xf : Ext m' { m' with F := upd m'.F x (.ins C dx us) } := ⟨fun _ _ z => z, fun a o z => by
            show upd m'.F _ _ a = some o
            rw [upd_ne (ne_of_none z (by rw [← ex]; exact h3.fr))]
            exact z, rfl, rfl⟩
          have sm : Sim g { m' with F := upd m'.F x (.ins C dx us) } ⟨[], c.S⟩ [] H := by
            refine ⟨fun a o z => ?_, s.nd, s.len, iniOk_nil, rfl, fun n a o g1 g2 => ?_, fun a o z => ?_, fun i t h => by
              have h : ([] : List Sl)[i]? = some t := h
              simp at h⟩
            · have z' : upd m'.F x (.ins C dx us) a = some o := z
              by_cases q : a = x
              · rw [q, upd_same] at z'
                cases z'
                rw [q, ← ex]
                exact j2
              · rw [upd_ne q] at z'
                exact s.fr a o z'
            · obtain ⟨k1, k2⟩ := s.st n a o g1 g2
              refine ⟨?_, k2.mono xf rfl⟩
              show upd m'.F _ _ a = none
              rw [upd_ne (fun q => h3.rh (by rw [ex, ← q]; exact List.mem_of_getElem? g1))]
              exact k1
            · obtain ⟨z1, z2, z3, z4⟩ := s.bk a o z
              refine ⟨z1, ?_, z3, z4⟩
              show upd m'.F _ _ a = none
              rw [upd_ne (fun q => by
                have z : m'.B a = some o := z
                rw [q, ← ex, h3.bk] at z
                cases z)]
              exact z2
          refine o _ H (xx.trans xf) sm (.obj (dx := dx) hc ?_ (z2.mono xf) ?_)
          · show upd m'.F x _ x = _
            rw [upd_same, ← z1]
          · rw [← hn, List.length_map, List.length_map]
theorem outM_S {g : G} {W : WX} {m m1 : Mp} {ci np : Nat} {C : Addr} {ns : List Str} {x : Addr} {r : R Fl} {Q : VK} {E : XK} (hc : g.cls ci = some (C, ns)) (xx : Ext m m1) (hi : m.ini = x) (hW : ∀ C d σ H, E C d H → W C d σ H)
    (o : OutMk g m x (match r with
      | .ok .next c => outM ci ns c
      | .ok (.ret .non) c => outM ci ns c
      | .exc cn vs c => .exc cn vs c.S
      | _ => .stuck) Q E) : OutS g W m1 r { nx := fun _ H' => Q .non H', rt := Q } := by
  cases r with
  | ok a c =>
    cases a with
    | next => exact fun m' σ' H' x' s => outM_ok hc (xx.trans x') s hi o
    | ret d =>
      cases d <;> first | exact o.elim | skip
      intro m' σ' v H' x' s k
      cases k
      exact outM_ok hc (xx.trans x') s hi o
    | brk => exact o.elim
    | cont => exact o.elim
  | exc cn vs c => exact fun m' σ' H' C d x' s k => hW C d σ' H' (o m' H' C d (xx.trans x') s.drop k)
  | stuck => exact o.elim
/-- what is passed becomes one tuple -/
def fnStar (fn : Fn) : Fn := fun ds S => match szOk ds.length with
  | true => fn [.tup ds] S
  | false => .stuck
/-- def __init__(self, *rest): rest comes as a tuple -/
theorem fn_mkS {g : G} {x qual : Str} {st : Stmt} {f : Addr} {fd : FuncData} {N : List Str} {k ci : Nat} {C : Addr} {ns : List Str} {fb : M Fl} {ps pv : Str} (F : L2.Fun g.K x qual st f fd) (S : FnScope N ([ps] ++ [pv]) (defScope st)) (hc : g.cls ci = some (C, ns))
    (hb : ∀ (kV doc pm : Value) (an : Option Addr) (cdv ct : Value) (us rest : List Value), us.length = [ps].length → bindArgs (PySem.W.fnOf x qual (defArgs st) (defBody st) (defScope st) .none kV doc pm an cdv ct) ⟨us ++ rest, []⟩ = (newTuple rest >>= fun t => pure ([ps].zip us ++ [(pv, t)])))
    (h : ∀ (X : Cx) (W : WX), Good g k N X (defScope st) (defScope st) W → PSs X (defBody st) (tS g W fb)) :
    FnMk g (k + 1) f ci (fnStar (mkB N.length 1 ci ns fb)) := by
  obtain ⟨oc, od, kV, doc, pm, an, cdv, ct, osl, rfl, lk, hcd⟩ := F.ex
  refine (StX.fn_star (sp := spMk g ci (mkB N.length 1 ci ns fb)) lk hcd S StX.cxUp (hb kV doc pm an cdv ct) fun A outer s H vs Q E hr hsp => ?_).imp fun vs H Q E hs => ?_
  · obtain ⟨y, us, m, S', ds, C', ns', dx, rfl, hc', hx, sm, hF, hB, hrr, hi, hv, o⟩ := hsp
    unfold mkB at o
    cases e : decide (ds.length = 1) with
    | false => rw [e] at o; exact o.elim
    | true =>
      rw [e] at o
      obtain ⟨m1, x1, s1⟩ := sm.startM (N := N) hv hc' hx hF hB hrr hi
      exact ⟨_, h _ _ (good_of S hr), m1, _, s1, outM_S (np := 1) hc x1 hi (fun _ _ _ _ h => h) o⟩
  · obtain ⟨y, us, m, S', ds, C', ns', dx, rfl, hc', hx, sm, hF, hB, hrr, hi, hv, o⟩ := hs
    unfold fnStar at o
    cases e : szOk ds.length with
    | false => rw [e] at o; exact o.elim
    | true =>
      rw [e] at o
      refine ⟨[V.ref y], us, rfl, rfl, by rw [← hv.length]; exact of_decide_eq_true e, fun p hp => ?_⟩
      obtain ⟨s2, x2⟩ := sm.frozen (u := .tup us) hp
      have ny : y ≠ p := ne_of_none hx hp
      refine ⟨y, [V.ref p], _, S', [.tup ds], C', ns', dx, rfl, hc', by rw [upd_ne ny]; exact hx, s2, ?_, hB, hrr, hi, .cons (.tup (SqT.of upd_same) (hv.mono x2)) .nil, ?_⟩
      · show upd m.F p _ y = none
        rw [upd_ne ny]
        exact hF
      · cases r : mkB N.length 1 ci ns fb [.tup ds] S' with
        | ok d S2 =>
          rw [r] at o
          exact fun m' H' x' s' k' => o m' H' (x2.trans x') s' k'
        | exc cn ws S2 =>
          rw [r] at o
          exact fun m' H' C dd x' s' k' => o m' H' C dd (x2.trans x') s' k'
        | stuck => rw [r] at o; exact o.elim
end CL
namespace CL
open PySem PySem.Spec PyProof.Rows L2

/-! ## operators, own ones among them -/
def MOp (X : Cx) (g : G) (W : WX) (f : Value → Value → Sem Value) (h : D → D → M D) : Prop := ∀ (pins : List (Addr × Obj)) (s : Shared) (σ : L2.St) (H : Hp) (m : Mp) (c : CS) (a b : D) (x y : V) (v u : Value) (Q : VK),
  Inv X pins σ H s → Sim g m c σ H → Sv g m a x → Sv g m b y → RelV x v → RelV y u → Out (rE g) g W σ m (h a b c) Q → wpAny (model X.prog X.w) X.A (f v u) (EP X pins σ Q) X.xe s
theorem mop_of {X : Cx} {g : G} {W : WX} {f : Value → Value → Sem Value} {r : R2} {h : D → D → M D} (ho : OpR X f r) (hs : S2 g r h) : MOp X g W f h := fun pins s σ H m c a b x y v u Q I sm ka kb rx ry o => ho pins s σ H x y v u Q I rx ry (hs W m c σ H a b x y Q sm ka kb o)
/-- two values at hand -/
def TwoQ (g : G) (W : WX) (σ : L2.St) (h : D → D → M D) (Q : VK) : V → V → Hp → Prop := fun x y H => ∃ m c a b, Sim g m c σ H ∧ Sv g m a x ∧ Sv g m b y ∧ Out (rE g) g W σ m (h a b c) Q
section
variable {X : Cx} {g : G} {k j : Nat} {N : List Str} {sc ws : Scope} {W : WX} {p pos : Pos} {a b e : Expr} {fa fb : M D} {h h' : D → D → M D}
theorem two2 {σ : L2.St} {H : Hp} {Q : VK} (q : tE g W (cOp h fa fb) σ H Q) : tE g W fa σ H fun x H1 => tE g W fb σ H1 fun y H2 => TwoQ g W σ h Q x y H2 := by
  obtain ⟨m, c, s, o⟩ := q
  exact ⟨m, c, s, o.bind.imp fun x H1 ⟨m1, a, c1, x1, s1, k1, o1⟩ => ⟨m1, c1, s1, o1.bind.imp fun y H2 ⟨m2, b, c2, x2, s2, k2, o2⟩ => ⟨m2, c2, a, b, s2, k1.mono x2, k2, o2⟩⟩⟩
theorem sx_bin {op : Operator} (ho : MOp X g W (binaryOp op) h) (ha : PE X a (tE g W fa)) (hb : PE X b (tE g W fb)) : PE X (.BinOp a op b pos) (tE g W (cOp h fa fb)) := by
  refine ⟨fun pins s σ H Q I q => ?_⟩
  exact wpAny_BinOp (binT ha hb I (two2 q) fun v u s2 x y H2 I2 rx ry ⟨m, c, d1, d2, sm, k1, k2, o⟩ => ho pins s2 σ H2 m c d1 d2 x y v u Q I2 sm k1 k2 rx ry o)
theorem sx_cmp {op : CmpOp} (ho : MOp X g W (compareOp op) h) (ha : PE X a (tE g W fa)) (hb : PE X b (tE g W fb)) (hm : behindInMarks op b = false) : PE X (.Compare a [op] [b] pos) (tE g W (cOp h fa fb)) := by
  refine ⟨fun pins s σ H Q I q => ?_⟩
  exact wpAny_Compare1 (binT ha hb I (two2 q) fun v u s2 x y H2 I2 rx ry ⟨m, c, d1, d2, sm, k1, k2, o⟩ => ho pins s2 σ H2 m c d1 d2 x y v u Q I2 sm k1 k2 rx ry o) hm
theorem sx_cmpT {op : CmpOp} (ho : MOp X g W (compareOp op) h) (ha : PE X a (tE g W fa)) (hb : PE X b (tE g W fb)) (hm : behindInMarks op b = false) : PT X (.Compare a [op] [b] pos) (tT g W (asB (cOp h fa fb))) := by
  refine ⟨fun pins s σ H Q I ⟨m, c, sm, o⟩ => ?_⟩
  have q : tE g W (cOp h fa fb) σ H (fun z H3 => ∃ k, z = .bl k ∧ Q k H3) := ⟨m, c, sm, o.bind.imp fun x H1 ⟨m1, d, c1, x1, s1, k1, o1⟩ => by
    cases k1 with
    | bl b => exact ⟨b, rfl, o1.here s1 rfl⟩
    | _ => exact o1.elim⟩
  refine wpAny_isTrue_Compare1 (binT ha hb I (two2 q) fun v u s2 x y H2 I2 rx ry ⟨m, c, d1, d2, sm, k1, k2, o⟩ => thn (ho pins s2 σ H2 m c d1 d2 x y v u _ I2 sm k1 k2 rx ry o) fun w s3 ⟨z, H3, I3, r3, kk, ez, q3⟩ => ?_) hm
  subst ez
  cases r3
  exact wpAny_truthy_bool ⟨H3, I3, q3⟩
theorem sx_sub {r : R2} (ho : ∀ (vl sl : Expr), notSlice sl = true → MOp X g W (fun v u => subscriptTail vl sl v u) h) (ha : PE X a (tE g W fa)) (hb : PE X b (tE g W fb)) (hs : notSlice b = true) : PE X (.Subscript a b pos) (tE g W (cOp h fa fb)) := by
  refine ⟨fun pins s σ H Q I q => ?_⟩
  exact Subscript_ (binT ha hb I (two2 q) fun v u s2 x y H2 I2 rx ry ⟨m, c, d1, d2, sm, k1, k2, o⟩ => ho a b hs pins s2 σ H2 m c d1 d2 x y v u Q I2 sm k1 k2 rx ry o)
/-! a op b op c -/
def cChain (h h' : D → D → M D) (fa fb fc : M D) : M D := fa.bind fun x => fb.bind fun y => (h x y).bind fun z => match z with
  | .bl true => fc.bind fun w => h' y w
  | .bl false => M.ret (.bl false)
  | _ => fun _ => .stuck
theorem chain_read {r r' : R2} {fc : M D} (hs : S2 g r h) (hs' : S2 g r' h') {σ : L2.St} {H : Hp} {Q : VK} (q : tE g W (cChain h h' fa fb fc) σ H Q) : tChain r r' (tE g W fa) (tE g W fb) (tE g W fc) σ H Q := by
  obtain ⟨m, c, s, o⟩ := q
  refine ⟨m, c, s, o.bind.imp fun x H1 ⟨m1, a, c1, x1, s1, k1, o1⟩ => ⟨m1, c1, s1, o1.bind.imp fun y H2 ⟨m2, b, c2, x2, s2, k2, o2⟩ => ?_⟩⟩
  refine hs W m2 c2 σ H2 a b x y _ s2 (k1.mono x2) k2 (o2.bind.imp fun z H3 ⟨m3, d, c3, x3, s3, k3, o3⟩ => ?_)
  cases k3 with
  | bl bb =>
    refine ⟨bb, rfl, ?_⟩
    cases bb with
    | true =>
      rw [if_pos rfl]
      exact ⟨m3, c3, s3, o3.bind.imp fun w H4 ⟨m4, e, c4, x4, s4, k4, o4⟩ => hs' W m4 c4 σ H4 b e y w Q s4 ((k2.mono x3).mono x4) k4 o4⟩
    | false =>
      rw [if_neg (fun z => nomatch z)]
      exact o3.here s3 (.bl _)
  | _ => exact o3.elim
theorem sx_chain {op op' : CmpOp} {r r' : R2} {c : Expr} {fc : M D} (ho : OpR X (compareOp op) r) (ho' : OpR X (compareOp op') r') (hs : S2 g r h) (hs' : S2 g r' h') (ha : PE X a (tE g W fa)) (hb : PE X b (tE g W fb)) (hc : PE X c (tE g W fc)) (hm : lastMarks [op, op'] [b, c] = false) : PE X (.Compare a [op, op'] [b, c] pos) (tE g W (cChain h h' fa fb fc)) :=
  pe_imp (pe_chain ho ho' ha hb hc hm) fun σ H Q q => chain_read hs hs' q
theorem sx_chainT {op op' : CmpOp} {r r' : R2} {c : Expr} {fc : M D} (ho : OpR X (compareOp op) r) (ho' : OpR X (compareOp op') r') (hs : S2 g r h) (hs' : S2 g r' h') (ha : PE X a (tE g W fa)) (hb : PE X b (tE g W fb)) (hc : PE X c (tE g W fc)) (hm : lastMarks [op, op'] [b, c] = false) : PT X (.Compare a [op, op'] [b, c] pos) (tT g W (asB (cChain h h' fa fb fc))) := by
  refine pt_imp (pt_chain ho ho' ha hb hc hm) fun σ H Q ⟨m, c, s, o⟩ => chain_read (W := W) hs hs' ⟨m, c, s, o.bind.imp fun x H1 ⟨m1, d, c1, x1, s1, k1, o1⟩ => ?_⟩
  cases k1 with
  | bl b => exact ⟨b, rfl, o1.here s1 rfl⟩
  | _ => exact o1.elim
end

/-! ## the own operators of a class -/
theorem cmp_back {v : V} {u : Value} (r : RelV v u) {Q : Value → Shared → Prop} {s : Shared} (h : Q u s) : PySem.W.CmpBack Q u s := by
  cases v with
  | non => cases (show u = Value.none from r); exact h
  | bl b => cases (show u = Value.bool b from r); exact h
  | int i => obtain ⟨t, q⟩ := (show ∃ t, u = Value.int i t from r); cases q; exact h
  | str y => obtain ⟨t, q⟩ := (show ∃ t, u = Value.str y t from r); cases q; exact h
  | byt y => obtain ⟨t, q⟩ := (show ∃ t, u = Value.bytes y t from r); cases q; exact h
  | flt y => obtain ⟨t, q⟩ := (show ∃ t, u = Value.float y t from r); cases q; exact h
  | ref a => cases (show u = Value.ref a from r); exact h
  | ty n => cases (show u = Value.type n from r); exact h
/-- a special method of class C at f -/
structure Spc (K : PySem.W.Frag) (C : Addr) (mn : Str) (f : Addr) : Prop where
  at_ : PySem.W.findIn K (.ref C) mn = some (some (.ref f))
  fn : PySem.W.isFn K (.ref f) = true
section
variable {X : Cx} {g : G} {k j : Nat} {N : List Str} {sc ws : Scope} {W : WX} {f C : Addr} {fn : Fn} {ci : Nat} {ns : List Str} {mn : Str}
theorem run_own {A : Around} (q : Good g k N X sc ws W) (F : FnC g j f fn) (hr : Room j A) {pins : List (Addr × Obj)} {s : Shared} {σ : L2.St} {H : Hp} {m : Mp} {c : CS} {ds : List D} {vs : List V} {us : List Value} {Q : VK} (e0 : Env0 X.prog X.w X.K X.mg X.base A X.stack s H) (I : Inv X pins σ H s) (r : Vals vs us) (sm : Sim g m c σ H) (hv : Svs g m ds vs) (o : Out (rE g) g W σ m (liftF (fn ds c.S) c) Q) : wpAny (model X.prog X.w) A (call (.ref f) us) (EP X pins σ Q) X.xe s :=
  wpAny_call (run_cA (q.fn F) hr e0 q.tk I r sm hv o)
def dOwn (ci : Nat) (mn : Str) (fn : Fn) (h : D → D → M D) : D → D → M D := fun a b c => match c.has ci mn a with
  | true => liftF (fn [a, b] c.S) c
  | false => h a b c
def negB (r : R D) : R D := match r with
  | .ok (.bl b) c => .ok (.bl (!b)) c
  | .exc n vs c => .exc n vs c
  | _ => .stuck
def dOwnNe (ci : Nat) (mn : Str) (fn : Fn) (h : D → D → M D) : D → D → M D := fun a b c => match c.has ci mn a with
  | true => negB (liftF (fn [a, b] c.S) c)
  | false => h a b c
/-- the second operand's type -/
def CS.typed (c : CS) (d : D) : Bool := (c.knOf d).isSome
def dEqO (ci : Nat) (fn : Fn) (h : D → D → M D) : D → D → M D := fun a b c => match c.has ci "__eq__" a with
  | true => M.guard (c.typed b) (fun c => liftF (fn [a, b] c.S) c) c
  | false => h a b c
def dNeO (ci : Nat) (fn : Fn) (h : D → D → M D) : D → D → M D := fun a b c => match c.has ci "__eq__" a with
  | true => M.guard (c.typed b) (fun c => negB (liftF (fn [a, b] c.S) c)) c
  | false => h a b c
theorem notFirst_of {K : PySem.W.Frag} {t : Value} {r : Bool} (h : PySem.W.kitOne K t (.ref C) = some r) (hr : r = true → t = .ref C) : PySem.W.notFirst K C t = true := by
  unfold PySem.W.notFirst
  unfold PySem.W.kitOne at h
  by_cases e : (t == Value.ref C) = true
  · rw [e]; rfl
  · rw [if_neg e] at h
    cases r with
    | true => rw [hr rfl] at e; exact absurd (beq_self_eq_true _) e
    | false =>
      unfold PySem.W.kitCls at h
      dsimp only at h
      split at h
      · rw [h]
        simp
      · cases h
theorem second (T : TabK g) (q : Good g k N X sc ws W) (hc : g.cls ci = some (C, ns)) {pins : List (Addr × Obj)} {s : Shared} {σ : L2.St} {H : Hp} {m : Mp} {c : CS} {b : D} {y : V} {u : Value} (I : Inv X pins σ H s) (sm : Sim g m c σ H) (kb : Sv g m b y) (ry : RelV y u) (ht : c.typed b = true) : ∃ tb, PySem.W.Looks (model X.prog X.w) s.heap (typeOf u) tb ∧ PySem.W.notFirst X.K C tb = true := by
  unfold CS.typed at ht
  obtain ⟨kn, e⟩ := Option.isSome_iff_exists.mp ht
  obtain ⟨t, g1, g2⟩ := sm.tyX T kb e
  rw [← q.hK] at g2
  obtain ⟨P, Z, p, _⟩ := kit_of I ry g2
  refine ⟨t, Z.ty _ _ I.kIn p, ?_⟩
  rw [q.hK]
  have ck : knV g (.cl ci) = some (.ref C) := by
    show (g.cls ci).map _ = _
    rw [hc]
    rfl
  refine notFirst_of (kit_kn T g1 ck (fun z => nomatch z)) fun hr => ?_
  cases kn with
  | ty x => cases hr
  | cl i =>
    have e2 : i = ci := beq_iff_eq.mp hr
    subst e2
    rw [ck] at g1
    exact (Option.some.inj g1).symm
theorem mop_eq (T : TabK g) (q : Good g k N X sc ws W) (hc : g.cls ci = some (C, ns)) (hn : ns.contains "__eq__" = false) (sp : Spc g.K C "__eq__" f) (F : FnC g j f fn) (hj : j ≤ k) {h : D → D → M D} (ho : MOp X g W (compareOp .Eq) h) : MOp X g W (compareOp .Eq) (dEqO ci fn h) := by
  intro pins s σ H m c a b x y v u Q I sm ka kb rx ry o
  unfold dEqO at o
  cases e : c.has ci "__eq__" a with
  | false => rw [e] at o; exact ho pins s σ H m c a b x y v u Q I sm ka kb rx ry o
  | true =>
    rw [e] at o
    obtain ⟨hz, o⟩ := Out.guard o
    obtain ⟨p, dx, fs, ex, ea, _⟩ := sm.has ka e hc hn
    subst ex
    obtain rfl : v = Value.ref p := rx
    obtain ⟨mA, Ob, _⟩ := ins_get I.hok ea
    obtain ⟨od, J, _⟩ := Ob.look
    obtain ⟨mm, fr⟩ := I.fr
    obtain ⟨tb, l1, l2⟩ := second T q hc I sm kb ry hz
    have sp2 := sp
    rw [← q.hK] at sp2
    exact PySem.W.cmp_K (op := .Eq) q.room.units0 fr I.ok.mod.kin J l1 l2 sp2.at_ sp2.fn (thn (run_own q F (q.room.mono hj) I.env0 I (vs := [.ref p, y]) (us := [.ref p, u]) (.cons rfl (.cons ry .nil)) sm (.cons ka (.cons kb .nil)) o) fun w s' ⟨z, H', I', rz, qz⟩ => cmp_back rz ⟨z, H', I', rz, qz⟩)
/-- `!=` by `==`: object's own `__ne__` -/
structure NeK (K : PySem.W.Frag) (C : Addr) : Prop where
  at_ : PySem.W.findIn K (.ref C) "__ne__" = some (some (.builtin "object.__ne__"))
  ob : PySem.W.subIn K (.ref C) (.type "object") = some true
end
theorem bind_ne (self : Value) : bindSpecial (.builtin "object.__ne__") self = pure (.builtin "object.__ne__", [self]) := by kernel_rfl
section
open PySem.W
variable {P : Program} {w : World} {A : Around} {E : Value → Shared → Prop} {s : Shared} {K : Frag} {x C : Addr} {ox : Obj} {od : Option Obj}
/-- a bound special method, whatever it is -/
theorem ifB {nm : Str} {w0 w1 : Value} {xs : List Value} {Q : Option Value → Shared → Prop} (X : K.In s.heap) (I : InstAt s.heap x ox C od) (hs : findIn K (.ref C) nm = some (some w0)) (hb : Looks (model P w) s.heap (bindSpecial w0 (.ref x)) (w1, [.ref x]))
    (h : wpAny (model P w) A (call w1 (.ref x :: xs)) (fun v => Q (some v)) E s) : wpAny (model P w) A (callSpecialIfBound? (.ref x) nm xs) Q E s := by
  have last : wpAny (model P w) A (call w1 ([.ref x] ++ xs) >>= fun v => pure (some v)) Q E s := wpAny_bind (wpAny_mono h (fun _ _ z => wpAny_pure z) fun _ _ z => z)
  simp only [callSpecialIfBound?, bindSpecialIfBound?]
  refine wpAny_holding ?_
  refine wpAny_bind (wpAny_bind (wpAny_bind (I.type.here ?_)))
  refine (looks_findIn X hs).here ?_
  refine wpAny_bind (wpAny_askSetting ?_)
  refine wpAny_ite ?_
  split
  · refine wpAny_bind (hb.here ?_)
    exact wpAny_pure (by exact last)
  · refine wpAny_tryCatch (wpAny_bind (hb.here ?_))
    exact wpAny_pure (by exact last)
theorem ne_call {f : Addr} {b : Value} {Q : Value → Shared → Prop} (hu : A.in1.units < cLine) (X : K.In s.heap) (I : InstAt s.heap x ox C od) (ob : Looks (model P w) s.heap (isInstance (.ref x) (.type "object")) true) (hs : findIn K (.ref C) "__eq__" = some (some (.ref f))) (hf : isFn K (.ref f) = true)
    (h : wpAny (model P w) A.in1 (call (.ref f) [.ref x, b]) (fun r s' => ∃ bb, r = .bool bb ∧ Q (.bool (!bb)) s') E s) : wpAny (model P w) A (call (.builtin "object.__ne__") [.ref x, b]) Q E s := by
  have hp : plainId "object.__ne__" = true := by decide +kernel
  refine wpAny_call (codeAny_call_builtin hp PySem.F.cmpEntry_ne ?_)
  refine @check_slot (model P w) _ _ _ "object.__ne__" "object" "__ne__" (.ref x) [b] [] _ PySem.F.cmpKind_ne PySem.F.cmpSplit_ne ob (PySem.F.cmpArgs_ne _ _) ?_
  unfold Builtin.«object.__ne__»
  refine wpAny_bind (m := slotArgs _ _ _) (wpAny_pure ?_)
  refine wpAny_bind (wpAny_cRoomFor hu ?_)
  refine wpAny_bind (ifB X I hs (bind_fn X _ (beq_iff_eq.mp hf)) (wpAny_mono h (fun r s' hr => ?_) fun _ _ z => z))
  obtain ⟨bb, rfl, q⟩ := hr
  exact wpAny_bind (wpAny_truthy_bool (wpAny_pure q))
theorem ne_own {f : Addr} {b tb : Value} {Q : Value → Shared → Prop} (hu : A.in1.units < cLine) (hu0 : A.units < cLine) (X : K.In s.heap) (I : InstAt s.heap x ox C od) (hb : Looks (model P w) s.heap (typeOf b) tb) (hn : notFirst K C tb = true)
    (hs : findIn K (.ref C) "__eq__" = some (some (.ref f))) (hne : NeK K C) (hf : isFn K (.ref f) = true)
    (h : wpAny (model P w) A.in1 (call (.ref f) [.ref x, b]) (fun r s' => ∃ bb, r = .bool bb ∧ Q (.bool (!bb)) s') E s) : wpAny (model P w) A (compareOp .NotEq (.ref x) b) Q E s := by
  have ob : Looks (model P w) s.heap (isInstance (.ref x) (.type "object")) true := I.type.andThen (looks_subIn X hne.ob)
  have one : wpAny (model P w) A (tryCompare (.ref x) "__ne__" b) (fun r s' => ∃ v, r = some v ∧ Q v s') E s := by
    unfold tryCompare
    refine wpAny_bind (ifB X I hne.at_ (Looks.of_pure (bind_ne _)) (ne_call hu X I ob hs hf (wpAny_mono h (fun r s' hr => ?_) fun _ _ z => z)))
    obtain ⟨bb, e, q⟩ := hr
    exact ⟨bb, e, wpAny_pure ⟨_, rfl, q⟩⟩
  have fin : ∀ s', s' = s → wpAny (model P w) A (tryCompare (.ref x) "__ne__" b) (fun r s' => ∃ v, r = some v ∧ Q v s') E s' := fun s' e => by rw [e]; exact one
  show wpAny _ A (richCompare .NotEq (.ref x) b) Q E s
  unfold richCompare
  simp only [oneThing_ref]
  refine wpAny_holding (wpAny_bind (wpAny_cRoomFor hu0 ?_))
  refine wpAny_bind (I.type.here ?_)
  refine wpAny_bind (hb.here ?_)
  split
  · rename_i q
    have e : subIn K tb (.ref C) = some false := by
      unfold notFirst at hn
      rw [Bool.or_eq_true] at hn
      rcases hn with e | e
      · rw [beq_iff_eq.mp e] at q
        simp at q
      · exact beq_iff_eq.mp e
    refine wpAny_bind ((looks_subIn X e).here ?_)
    rw [if_neg (by simp)]
    refine wpAny_bind (wpAny_mono (fin s rfl) (fun r s' z => ?_) fun _ _ z => z)
    obtain ⟨v, rfl, hq⟩ := z
    exact wpAny_pure hq
  · refine wpAny_bind (wpAny_pure ?_)
    rw [if_neg (by simp)]
    refine wpAny_bind (wpAny_mono (fin s rfl) (fun r s' z => ?_) fun _ _ z => z)
    obtain ⟨v, rfl, hq⟩ := z
    exact wpAny_pure hq
end
section
variable {X : Cx} {g : G} {k j : Nat} {N : List Str} {sc ws : Scope} {W : WX} {f C : Addr} {fn : Fn} {ci : Nat} {ns : List Str} {mn : Str}
theorem mop_ne (T : TabK g) (q : Good g k N X sc ws W) (hc : g.cls ci = some (C, ns)) (hn : ns.contains "__eq__" = false) (sp : Spc g.K C "__eq__" f) (nk : NeK g.K C) (F : FnC g j f fn) (hj : j + 1 ≤ k) {h : D → D → M D} (ho : MOp X g W (compareOp .NotEq) h) : MOp X g W (compareOp .NotEq) (dNeO ci fn h) := by
  intro pins s σ H m c a b x y v u Q I sm ka kb rx ry o
  unfold dNeO at o
  cases e : c.has ci "__eq__" a with
  | false => rw [e] at o; exact ho pins s σ H m c a b x y v u Q I sm ka kb rx ry o
  | true =>
    rw [e] at o
    obtain ⟨hz, o⟩ := Out.guard o
    obtain ⟨p, dx, fs, ex, ea, _⟩ := sm.has ka e hc hn
    subst ex
    obtain rfl : v = Value.ref p := rx
    obtain ⟨mA, Ob, _⟩ := ins_get I.hok ea
    obtain ⟨od, J, _⟩ := Ob.look
    obtain ⟨tb, l1, l2⟩ := second T q hc I sm kb ry hz
    have sp2 := sp
    rw [← q.hK] at sp2 nk
    have r1 := (q.room.mono hj).in1
    have o2 : Out (rE g) g W σ m (liftF (fn [a, b] c.S) c) (fun z H' => ∃ bb, z = .bl bb ∧ Q (.bl (!bb)) H') := by
      cases e2 : fn [a, b] c.S with
      | ok d S' =>
        rw [e2] at o
        cases d <;> first | exact o.elim | skip
        rename_i bb
        intro m' z H' x' s' k'
        cases k'
        exact ⟨bb, rfl, o m' _ H' x' s' (.bl _)⟩
      | exc cn vs S' => rw [e2] at o; exact o
      | stuck => rw [e2] at o; exact o
    refine ne_own r1.units0 (q.room.mono hj).units0 I.kIn J l1 l2 sp2.at_ nk sp2.fn (thn (run_own q F r1 I.env0.in1 I (vs := [.ref p, y]) (us := [.ref p, u]) (.cons rfl (.cons ry .nil)) sm (.cons ka (.cons kb .nil)) o2) fun w s' ⟨z, H', I', rz, bb, ez, qz⟩ => ?_)
    subst ez
    cases rz
    exact ⟨bb, rfl, V.bl (!bb), H', I', rfl, qz⟩
/-- a + b, a * b of two instances -/
def dBinO (ci : Nat) (mn : Str) (fn : Fn) (h : D → D → M D) : D → D → M D := fun a b c => match c.has ci mn a with
  | true => M.guard (c.has ci mn b) (fun c => liftF (fn [a, b] c.S) c) c
  | false => h a b c
theorem mop_bin {op : Operator} (q : Good g k N X sc ws W) (hc : g.cls ci = some (C, ns)) (hmn : mn = PySem.dunder op.info.2) (hn : ns.contains mn = false) (sf : PySem.W.selfFirst g.K C = true) (sp : Spc g.K C mn f) (F : FnC g j f fn) (hj : j ≤ k) {h : D → D → M D} (ho : MOp X g W (binaryOp op) h) : MOp X g W (binaryOp op) (dBinO ci mn fn h) := by
  intro pins s σ H m c a b x y v u Q I sm ka kb rx ry o
  unfold dBinO at o
  cases e : c.has ci mn a with
  | false => rw [e] at o; exact ho pins s σ H m c a b x y v u Q I sm ka kb rx ry o
  | true =>
    rw [e] at o
    obtain ⟨hz, o⟩ := Out.guard o
    obtain ⟨p, dx, fs, ex, ea, _⟩ := sm.has ka e hc hn
    obtain ⟨p2, dx2, fs2, ex2, ea2, _⟩ := sm.has kb hz hc hn
    subst ex ex2
    obtain rfl : v = Value.ref p := rx
    obtain rfl : u = Value.ref p2 := ry
    obtain ⟨mA, Ob, _⟩ := ins_get I.hok ea
    obtain ⟨od, J, _⟩ := Ob.look
    obtain ⟨mB, Ob2, _⟩ := ins_get I.hok ea2
    obtain ⟨od2, J2, _⟩ := Ob2.look
    obtain ⟨mm, fr⟩ := I.fr
    rw [← q.hK] at sp sf
    have at2 := sp.at_
    rw [hmn] at at2
    exact PySem.W.binop_K fr I.ok.mod.kin J J2.type sf at2 sp.fn (thn (run_own q F (q.room.mono hj) I.env0 I (vs := [.ref p, .ref p2]) (us := [.ref p, .ref p2]) (.cons rfl (.cons rfl .nil)) sm (.cons ka (.cons kb .nil)) o) fun w s' ⟨z, H', I', rz, qz⟩ => cmp_back rz ⟨z, H', I', rz, qz⟩)
/-- b in a, a an instance -/
def boolOnly (r : R D) : R D := match r with
  | .ok (.bl b) c => .ok (.bl b) c
  | .exc n vs c => .exc n vs c
  | _ => .stuck
def dInO (ci : Nat) (fn : Fn) (h : D → D → M D) : D → D → M D := fun b a c => match c.has ci "__contains__" a with
  | true => boolOnly (liftF (fn [a, b] c.S) c)
  | false => h b a c
def dNotInO (ci : Nat) (fn : Fn) (h : D → D → M D) : D → D → M D := fun b a c => match c.has ci "__contains__" a with
  | true => negB (liftF (fn [a, b] c.S) c)
  | false => h b a c
theorem mop_in (q : Good g k N X sc ws W) (hc : g.cls ci = some (C, ns)) (hn : ns.contains "__contains__" = false) (sp : Spc g.K C "__contains__" f) (F : FnC g j f fn) (hj : j ≤ k) {h : D → D → M D} (ho : MOp X g W (compareOp .In) h) : MOp X g W (compareOp .In) (dInO ci fn h) := by
  intro pins s σ H m c b a y x u v Q I sm kb ka ry rx o
  unfold dInO at o
  cases e : c.has ci "__contains__" a with
  | false => rw [e] at o; exact ho pins s σ H m c b a y x u v Q I sm kb ka ry rx o
  | true =>
    rw [e] at o
    obtain ⟨p, dx, fs, ex, ea, _⟩ := sm.has ka e hc hn
    subst ex
    obtain rfl : v = Value.ref p := rx
    obtain ⟨mA, Ob, _⟩ := ins_get I.hok ea
    obtain ⟨od, J, _⟩ := Ob.look
    obtain ⟨mm, fr⟩ := I.fr
    rw [← q.hK] at sp
    have o2 : Out (rE g) g W σ m (liftF (fn [a, b] c.S) c) (fun z H' => ∃ bb, z = .bl bb ∧ Q (.bl bb) H') := by
      cases e2 : fn [a, b] c.S with
      | ok d S' =>
        rw [e2] at o
        cases d <;> first | exact o.elim | skip
        rename_i bb
        intro m' z H' x' s' k'
        cases k'
        exact ⟨bb, rfl, o m' _ H' x' s' (.bl _)⟩
      | exc cn vs S' => rw [e2] at o; exact o
      | stuck => rw [e2] at o; exact o
    refine PySem.W.in_K fr I.ok.mod.kin J sp.at_ sp.fn (thn (run_own q F (q.room.mono hj) I.env0 I (vs := [.ref p, y]) (us := [.ref p, u]) (.cons rfl (.cons ry .nil)) sm (.cons ka (.cons kb .nil)) o2) fun w s' ⟨z, H', I', rz, bb, ez, qz⟩ => ?_)
    subst ez
    cases rz
    exact wpAny_truthy_bool ⟨V.bl bb, H', I', rfl, qz⟩
theorem mop_notin (q : Good g k N X sc ws W) (hc : g.cls ci = some (C, ns)) (hn : ns.contains "__contains__" = false) (sp : Spc g.K C "__contains__" f) (F : FnC g j f fn) (hj : j ≤ k) {h : D → D → M D} (ho : MOp X g W (compareOp .NotIn) h) : MOp X g W (compareOp .NotIn) (dNotInO ci fn h) := by
  intro pins s σ H m c b a y x u v Q I sm kb ka ry rx o
  unfold dNotInO at o
  cases e : c.has ci "__contains__" a with
  | false => rw [e] at o; exact ho pins s σ H m c b a y x u v Q I sm kb ka ry rx o
  | true =>
    rw [e] at o
    obtain ⟨p, dx, fs, ex, ea, _⟩ := sm.has ka e hc hn
    subst ex
    obtain rfl : v = Value.ref p := rx
    obtain ⟨mA, Ob, _⟩ := ins_get I.hok ea
    obtain ⟨od, J, _⟩ := Ob.look
    obtain ⟨mm, fr⟩ := I.fr
    rw [← q.hK] at sp
    have o2 : Out (rE g) g W σ m (liftF (fn [a, b] c.S) c) (fun z H' => ∃ bb, z = .bl bb ∧ Q (.bl (!bb)) H') := by
      cases e2 : fn [a, b] c.S with
      | ok d S' =>
        rw [e2] at o
        cases d <;> first | exact o.elim | skip
        rename_i bb
        intro m' z H' x' s' k'
        cases k'
        exact ⟨bb, rfl, o m' _ H' x' s' (.bl _)⟩
      | exc cn vs S' => rw [e2] at o; exact o
      | stuck => rw [e2] at o; exact o
    refine PySem.W.notIn_K fr I.ok.mod.kin J sp.at_ sp.fn (thn (run_own q F (q.room.mono hj) I.env0 I (vs := [.ref p, y]) (us := [.ref p, u]) (.cons rfl (.cons ry .nil)) sm (.cons ka (.cons kb .nil)) o2) fun w s' ⟨z, H', I', rz, bb, ez, qz⟩ => ?_)
    subst ez
    cases rz
    exact wpAny_truthy_bool ⟨V.bl (!bb), H', I', rfl, qz⟩
/-- a[i], a an instance -/
theorem mop_sub (q : Good g k N X sc ws W) (hc : g.cls ci = some (C, ns)) (hn : ns.contains "__getitem__" = false) (sp : Spc g.K C "__getitem__" f) (fi : PySem.W.fnIn g.K f = true) (F : FnC g j f fn) (hj : j + 1 ≤ k) {h : D → D → M D} (vl sl : Expr) (hs : notSlice sl = true) (ho : MOp X g W (fun v u => subscriptTail vl sl v u) h) : MOp X g W (fun v u => subscriptTail vl sl v u) (dOwn ci "__getitem__" fn h) := by
  intro pins s σ H m c a b x y v u Q I sm ka kb rx ry o
  unfold dOwn at o
  cases e : c.has ci "__getitem__" a with
  | false => rw [e] at o; exact ho pins s σ H m c a b x y v u Q I sm ka kb rx ry o
  | true =>
    rw [e] at o
    obtain ⟨p, dx, fs, ex, ea, _⟩ := sm.has ka e hc hn
    subst ex
    obtain rfl : v = Value.ref p := rx
    obtain ⟨mA, Ob, _⟩ := ins_get I.hok ea
    obtain ⟨od, J, _⟩ := Ob.look
    obtain ⟨mm, fr⟩ := I.fr
    rw [← q.hK] at sp fi
    have r1 := (q.room.mono hj).in1
    exact PySem.W.sub_K fr I.ok.mod.kin J sp.at_ fi sp.fn (run_own q F r1 I.env0.in1 I (vs := [.ref p, y]) (us := [.ref p, u]) (.cons rfl (.cons ry .nil)) sm (.cons ka (.cons kb .nil)) o) (by cases sl <;> first | rfl | cases hs)
theorem mop_ix {r : R2} {h : D → D → M D} (ho : IxR X r) (hs2 : S2 g r h) (vl sl : Expr) (hs : notSlice sl = true) : MOp X g W (fun v u => subscriptTail vl sl v u) h := fun pins s σ H m c a b x y v u Q I sm ka kb rx ry o => ho vl sl pins s σ H x y v u Q I rx ry (hs2 W m c σ H a b x y Q sm ka kb o) (plainIx_ok hs _ _)
end
end CL
namespace CL
open PySem PySem.Spec PyProof.Rows L2

/-! ## xs.append(e), del xs[i] -/
def cApp (i : Nat) (fe : M D) : M Fl := fun c => match c.pl i with
  | none => .stuck
  | some _ => (fe c).bind fun d c2 => match c2.pl i with
    | none => .stuck
    | some p => match decide (p.xs.length < sizeLine) with
      | true => .ok .next (c2.wr i p (p.xs ++ [d]))
      | false => .stuck
def cDel (i : Nat) (fi : M D) : M Fl := fun c => match c.pl i with
  | none => .stuck
  | some _ => (fi c).bind fun j c2 => match j, c2.pl i with
    | .int j, some p => match decide (-(2 ^ 63) ≤ j ∧ j < 2 ^ 63), seqIndex? j p.xs.length with
      | true, some n => .ok .next (c2.wr i p (p.xs.eraseIdx n))
      | _, _ => .stuck
    | _, _ => .stuck
section
variable {X : Cx} {g : G} {k : Nat} {N : List Str} {sc ws : Scope} {W : WX} {pos px apos cpos tpos : Pos} {e : Expr} {fe : M D} {i : Nat} {x : Str}
theorem ss_append (q : Good g k N X sc ws W) (hi : N[i]? = some x) (hv : isVis (sc.names.lookup x) = true) (hd : noDbg x = true) (he : PE X e (tE g W fe)) (hs : isStar e = false) (hline : (apos.endLine == cpos.line) = true) :
    PS X (.Expr (.Call (.Attribute (.Name x px) "append" apos) [e] [] cpos) pos) (tS g W (cApp i fe)) := by
  refine ps_imp (ps_expr (pe_bm PySem.F.plainAttrs_list PySem.F.slot_list_append PySem.F.type_list_append mt_append (pe_var (q.at_ hi) (q.vis hv) (noDbg_1 hd) (noDbg_2 hd)) (pa_cons he pa_nil (star_plain hs)) (by rfl)
    (by rw [star_plain hs]; rfl) hline (star_plain hs) (by rfl)) (by rfl)) fun Dn σ H ⟨m, c, s, o⟩ => ?_
  unfold cApp at o
  cases e1 : c.pl i with
  | none => rw [e1] at o; exact o.elim
  | some p =>
    rw [e1] at o
    obtain ⟨a, vs, h1, h2, h3, h4⟩ := s.pl e1
    refine ⟨.ref a, h1, .inl ⟨rfl, _, SqL.of h2⟩, m, c, s, o.bind.imp fun y H2 ⟨m2, d, c2, x2, s2, k2, o2⟩ => ?_⟩
    cases e2 : c2.pl i with
    | none => rw [e2] at o2; exact o2.elim
    | some p2 =>
      rw [e2] at o2
      have o2 : OutS g W m2 (match decide (p2.xs.length < sizeLine) with
        | true => .ok .next (c2.wr i p2 (p2.xs ++ [d]))
        | false => .stuck) Dn := o2
      obtain ⟨a2, vs2, g1, g2, g3, g4⟩ := s2.pl e2
      rw [h1] at g1
      cases g1
      cases z : decide (p2.xs.length < sizeLine) with
      | false => rw [z] at o2; exact o2.elim
      | true =>
        rw [z] at o2
        exact ⟨a, vs2, y, rfl, rfl, g2, by rw [← g3.length]; exact of_decide_eq_true z, o2.nx (g4 _ _ (g3.append (.cons k2 .nil)))⟩
theorem ss_del (q : Good g k N X sc ws W) (hi : N[i]? = some x) (hv : isVis (sc.names.lookup x) = true) (hd : noDbg x = true) (he : PE X e (tE g W fe)) : PS X (.Delete [.Subscript (.Name x px) e tpos] pos) (tS g W (cDel i fe)) := by
  refine ps_imp (ps_delL (pe_var (q.at_ hi) (q.vis hv) (noDbg_1 hd) (noDbg_2 hd)) he) fun Dn σ H ⟨m, c, s, o⟩ => ?_
  unfold cDel at o
  cases e1 : c.pl i with
  | none => rw [e1] at o; exact o.elim
  | some p =>
    rw [e1] at o
    obtain ⟨a, vs, h1, h2, h3, h4⟩ := s.pl e1
    refine ⟨.ref a, h1, m, c, s, o.bind.imp fun y H2 ⟨m2, d, c2, x2, s2, k2, o2⟩ => ?_⟩
    cases k2 with
    | int j =>
      cases e2 : c2.pl i with
      | none =>
        have o3 : OutS g W m2 .stuck Dn := by
          have o2 : OutS g W m2 (match c2.pl i with
            | some p => match decide (-(2 ^ 63) ≤ j ∧ j < 2 ^ 63), seqIndex? j p.xs.length with
              | true, some n => .ok .next (c2.wr i p (p.xs.eraseIdx n))
              | _, _ => .stuck
            | none => .stuck) Dn := by
              cases e3 : c2.pl i with
              | none => rw [e3] at o2; exact o2
              | some p3 => rw [e3] at o2; exact o2
          rw [e2] at o2
          exact o2
        exact o3.elim
      | some p2 =>
        have o2 : OutS g W m2 (match decide (-(2 ^ 63) ≤ j ∧ j < 2 ^ 63), seqIndex? j p2.xs.length with
              | true, some n => .ok .next (c2.wr i p2 (p2.xs.eraseIdx n))
              | _, _ => .stuck) Dn := by
          rw [e2] at o2
          exact o2
        obtain ⟨a2, vs2, g1, g2, g3, g4⟩ := s2.pl e2
        rw [h1] at g1
        cases g1
        cases z : decide (-(2 ^ 63) ≤ j ∧ j < 2 ^ 63) with
        | false => rw [z] at o2; exact o2.elim
        | true =>
          rw [z] at o2
          cases z2 : seqIndex? j p2.xs.length with
          | none => rw [z2] at o2; exact o2.elim
          | some n =>
            rw [z2] at o2
            have z := of_decide_eq_true z
            exact ⟨a, vs2, j, n, rfl, rfl, g2, z.1, z.2, by rw [← g3.length]; exact z2, o2.nx (g4 _ _ (g3.eraseIdx n))⟩
    | _ => exact o2.elim

/-! ## a, b = e -/
def cSetTp (is : List Nat) (fe : M D) : M Fl := fun c => (fe c).bind fun d c1 => match d with
  | .tup ds => match decide (ds.length = is.length) with
    | true => .ok .next (putAll is ds c1)
    | false => .stuck
  | .lst ds => match decide (ds.length = is.length) with
    | true => .ok .next (putAll is ds c1)
    | false => .stuck
  | _ => .stuck
/-- a list's items, or a tuple's -/
def gTA (g : G) (is : List Nat) : TG := fun v σ H Q => ∃ a xs, v = V.ref a ∧ (SqT g.K H a xs ∨ SqL g.K H a xs) ∧ xs.length = is.length ∧ Q (setAll is xs σ) H
theorem pg_tupA (q : Good g k N X sc ws W) {es : List Expr} {is : List Nat} {j : Nat} (h : tgNames N ws es is = true) : PG X (.Tuple es j pos) (gTA g is) := by
  obtain ⟨r1, r2, r3⟩ := pgs_all q es is h
  refine ⟨fun pins s σ H v u Q I r hq => ?_⟩
  obtain ⟨a, xs, e, hs, hl, hq⟩ := hq
  rw [← q.hK] at hs
  rcases hs with hs | hs
  · exact (pg_tup (n := is.length) q.calm r1 r2 r3).run pins s σ H v u Q I r ⟨a, xs, e, hs, hl, hl, hq⟩
  · exact (pg_lst (n := is.length) q.calm r1 r2 r3).run pins s σ H v u Q I r ⟨a, xs, e, hs, hl, hl, hq⟩
theorem ss_setTp (q : Good g k N X sc ws W) {es : List Expr} {is : List Nat} {j : Nat} (h : tgNames N ws es is = true) (he : PE X e (tE g W fe)) (h1 : swapsWithSole [.Tuple es j tpos] e pos.line X.env = pure false) (h2 : swappedStores [.Tuple es j tpos] e X.env = pure none) :
    PS X (.Assign [.Tuple es j tpos] e pos) (tS g W (cSetTp is fe)) := by
  refine ps_imp (ps_asg he (pg_tupA q h) h1 h2 (by rfl)) fun Dn σ H ⟨m, c, s, o⟩ => ⟨m, c, s, o.bind.imp fun v H1 ⟨m1, d, c1, x1, s1, k1, o1⟩ => ?_⟩
  cases k1 with
  | @tup a ds vs h1 h2 =>
    have o1 : OutS g W m1 (match decide (ds.length = is.length) with
      | true => .ok .next (putAll is ds c1)
      | false => .stuck) Dn := o1
    cases hd : decide (ds.length = is.length) with
    | false => rw [hd] at o1; exact o1.elim
    | true =>
      rw [hd] at o1
      exact ⟨a, vs, rfl, .inl (s1.sqT h1), by rw [← h2.length]; exact of_decide_eq_true hd, o1.nx (s1.putAll is h2)⟩
  | @lst a ds vs h1 h2 =>
    have o1 : OutS g W m1 (match decide (ds.length = is.length) with
      | true => .ok .next (putAll is ds c1)
      | false => .stuck) Dn := o1
    cases hd : decide (ds.length = is.length) with
    | false => rw [hd] at o1; exact o1.elim
    | true =>
      rw [hd] at o1
      exact ⟨a, vs, rfl, .inr (SqL.of (s1.fr _ _ h1)), by rw [← h2.length]; exact of_decide_eq_true hd, o1.nx (s1.putAll is h2)⟩
  | _ => exact o1.elim
end
end CL
namespace CL
open PySem PySem.Spec PyProof.Rows L2
section
variable {X : Cx} {g : G} {k : Nat} {N : List Str} {sc ws : Scope} {W : WX} {pos p2 : Pos} {e : Expr} {fe : M D} {lo hi : Option Expr} {fl fh : M (Option Int)} {op : Operator}
theorem mq {f : Value → Value → Sem Value} {r : PySem.W.Frag → R2} {h : D → D → M D} (q : Good g k N X sc ws W) (ho : OpR X f (r X.K)) (hs : S2 g (r g.K) h) : MOp X g W f h := by
  rw [q.hK] at ho
  exact mop_of ho hs
theorem mq_add (q : Good g k N X sc ws W) : MOp X g W (binaryOp .Add) dAdd := mq (r := rAdd3) q op_add3 s2_add
theorem mq_sub (q : Good g k N X sc ws W) : MOp X g W (binaryOp .Sub) dSub := mq (r := fun _ => _) q op_sub s2_sub
theorem mq_eq (q : Good g k N X sc ws W) : MOp X g W (compareOp .Eq) dEq := mq (r := rEqD) q (op_eqD (by have := q.room.un; omega)) s2_eq
theorem mq_ne (q : Good g k N X sc ws W) : MOp X g W (compareOp .NotEq) dNe := mq (r := rNeD) q (op_neD (by have := q.room.un; omega)) s2_ne
theorem mq_in (q : Good g k N X sc ws W) : MOp X g W (compareOp .In) (dIn false) := mq (r := fun K => rInA K false) q (op_inA (by have := q.room.un; omega)) s2_in
theorem mq_notin (q : Good g k N X sc ws W) : MOp X g W (compareOp .NotIn) (dIn true) := mq (r := fun K => rInA K true) q (op_notInA (by have := q.room.un; omega)) s2_in
theorem mq_ix (q : Good g k N X sc ws W) (vl sl : Expr) (hs : notSlice sl = true) : MOp X g W (fun v u => subscriptTail vl sl v u) dIx := by
  have h := ix_seq (X := X)
  rw [q.hK] at h
  exact mop_ix h s2_ix vl sl hs
/-- -e -/
def dNeg (d : D) : M D := fun c => match d with
  | .int i => .ok (.int (-i)) c
  | _ => .stuck
theorem sx_neg (he : PE X e (tE g W fe)) : PE X (.UnaryOp .USub e pos) (tE g W (fe.bind dNeg)) := by
  refine pe_imp (pe_un un_neg he) fun σ H Q ⟨m, c, s, o⟩ => ⟨m, c, s, o.bind.imp fun v H1 ⟨m1, d, c1, x1, s1, k1, o1⟩ => ?_⟩
  cases k1 with
  | int i => exact ⟨i, rfl, o1.here s1 (.int _)⟩
  | _ => exact o1.elim
theorem sq_cutT (q : Good g k N X sc ws W) (he : PE X e (tE g W fe)) (hl : PO X lo (tP g W fl)) (hu : PO X hi (tP g W fh)) : PE X (.Subscript e (.Slice lo hi none p2) pos) (tE g W (cCutT fe fl fh)) := se_cutT q.hK he hl hu
theorem sq_cutL (q : Good g k N X sc ws W) (he : PE X e (tE g W fe)) (hl : PO X lo (tP g W fl)) (hu : PO X hi (tP g W fh)) : PE X (.Subscript e (.Slice lo hi none p2) pos) (tL g W (cCutL fe fl fh)) := sl_cut q.hK he hl hu
end
end CL
namespace CL
open PySem PySem.Spec PyProof.Rows L2

/-! ## a slot's list is looked at, not handed on -/
def CS.see (c : CS) (i : Nat) : Option (List D) := match c.sl[i]? with
  | some (.own (.lst xs)) => some xs
  | some (.val d) => c.seqL d
  | _ => none
theorem Sim.see {g : G} {m : Mp} {c : CS} {σ : L2.St} {H : Hp} (s : Sim g m c σ H) {i : Nat} {xs : List D} (e : c.see i = some xs) : ∃ a vs, σ[i]? = some (some (.ref a)) ∧ H a = some (.lst vs) ∧ Svs g m xs vs := by
  unfold CS.see at e
  cases q : c.sl[i]? with
  | none => rw [q] at e; cases e
  | some t =>
    rw [q] at e
    cases t with
    | no => cases e
    | own o =>
      cases o with
      | ins _ _ => cases e
      | lst ys =>
        cases e
        obtain ⟨h1, ⟨vs, h2, h3⟩, _⟩ := s.sl i _ q
        exact ⟨_, vs, h1, h2, h3⟩
    | val d =>
      obtain ⟨v, h1, h2⟩ := s.sl i _ q
      obtain ⟨p, vs, rfl, hp, hv⟩ := s.seqL e h2
      exact ⟨p, vs, h1, hp, hv⟩
def cLenP (i : Nat) : M D := fun c => match c.see i with
  | some xs => .ok (.int xs.length) c
  | none => .stuck
def cIxP (i : Nat) (fe : M D) : M D := fun c => match c.see i with
  | some _ => (fe c).bind fun j c2 => match j, c2.see i with
    | .int j, some xs => match atI xs j with
      | some d => .ok d c2
      | none => .stuck
    | _, _ => .stuck
  | none => .stuck
def cEqP (ne : Bool) (i : Nat) (fe : M D) : M D := fun c => match c.see i with
  | some _ => (fe c).bind fun y c2 => match c2.see i with
    | some xs => match toPs xs, toP y with
      | some ps, some q => M.guard (SeqAt.shaped (.list ps) && SeqAt.shaped q) (M.ret (.bl (if ne then !PyData.eqv (.list ps) q else PyData.eqv (.list ps) q))) c2
      | _, _ => .stuck
    | none => .stuck
  | none => .stuck
section
variable {X : Cx} {g : G} {k : Nat} {N : List Str} {sc ws : Scope} {W : WX} {p px pos : Pos} {x : Str} {e : Expr} {fe : M D} {i : Nat}
theorem sx_lenP (q : Good g k N X sc ws W) (hg : isGl sc "len" = true) (hm : g.mg "len" = none) (hi : N[i]? = some x) (hv : isVis (sc.names.lookup x) = true) (hd : noDbg x = true) : PE X (.Call (.Name "len" p) [.Name x px] [] pos) (tE g W (cLenP i)) := by
  refine pe_imp (pe_callB call_len_seq (q.gl hg).1 (by rw [q.hmg]; exact hm) (by rfl) (pa_cons (pe_var (q.at_ hi) (q.vis hv) (noDbg_1 hd) (noDbg_2 hd)) pa_nil (by rfl)) (q.gl hg).2.2 (q.gl hg).2.1 (by rfl) (by rfl)) fun σ H Q ⟨m, c, s, o⟩ => ?_
  unfold cLenP at o
  cases e1 : c.see i with
  | none => rw [e1] at o; exact o.elim
  | some xs =>
    rw [e1] at o
    obtain ⟨a, vs, h1, h2, h3⟩ := s.see e1
    refine ⟨.ref a, h1, a, vs, rfl, .inl (SqL.of h2), ?_⟩
    rw [← h3.length]
    exact o.here s (.int _)
theorem sx_ixP (q : Good g k N X sc ws W) (hi : N[i]? = some x) (hv : isVis (sc.names.lookup x) = true) (hd : noDbg x = true) (he : PE X e (tE g W fe)) (hs : notSlice e = true) : PE X (.Subscript (.Name x px) e pos) (tE g W (cIxP i fe)) := by
  refine pe_imp (pe_ix ix_list (pe_var (q.at_ hi) (q.vis hv) (noDbg_1 hd) (noDbg_2 hd)) he (plainIx_ok hs)) fun σ H Q ⟨m, c, s, o⟩ => ?_
  unfold cIxP at o
  cases e1 : c.see i with
  | none => rw [e1] at o; exact o.elim
  | some xs =>
    rw [e1] at o
    obtain ⟨a, vs, h1, h2, h3⟩ := s.see e1
    refine ⟨.ref a, h1, m, c, s, o.bind.imp fun y H2 ⟨m2, j, c2, x2, s2, k2, o2⟩ => ?_⟩
    cases k2 with
    | int j =>
      cases e2 : c2.see i with
      | none =>
        have o3 : Out (rE g) g W σ m2 (.stuck : R D) Q := by
          have o2 : Out (rE g) g W σ m2 (match c2.see i with
            | some xs => match atI xs j with
              | some d => .ok d c2
              | none => .stuck
            | none => .stuck) Q := by
              cases e3 : c2.see i with
              | none => rw [e3] at o2; exact o2
              | some p3 => rw [e3] at o2; exact o2
          rw [e2] at o2
          exact o2
        exact o3.elim
      | some ys =>
        have o2 : Out (rE g) g W σ m2 (match atI ys j with
          | some d => .ok d c2
          | none => .stuck) Q := by
            rw [e2] at o2
            exact o2
        obtain ⟨a2, vs2, g1, g2, g3⟩ := s2.see e2
        rw [h1] at g1
        cases g1
        cases e3 : atI ys j with
        | none => rw [e3] at o2; exact o2.elim
        | some d =>
          rw [e3] at o2
          obtain ⟨v, z1, z2⟩ := g3.atI e3
          exact ⟨a, vs2, j, v, rfl, rfl, SqL.of g2, z1, o2.here s2 z2⟩
    | _ => exact o2.elim
theorem eqP_read (q : Good g k N X sc ws W) {ne : Bool} (f : PyData → PyData → Bool) (hf : ∀ p q, f p q = if ne then !PyData.eqv p q else PyData.eqv p q) {a0 : TE} (ha : ∀ σ H Q, (∃ v, σ[i]? = some (some v) ∧ Q v H) → a0 σ H Q) {σ : L2.St} {H : Hp} {Q : VK} (z : tE g W (cEqP ne i fe) σ H Q) :
    tOp (fun x y H Q => ∃ d e, Dp X.K H x d ∧ Dp X.K H y e ∧ SeqAt.shaped d = true ∧ SeqAt.shaped e = true ∧ Q (.bl (f d e)) H) a0 (tE g W fe) σ H Q := by
  obtain ⟨m, c, s, o⟩ := z
  unfold cEqP at o
  cases e1 : c.see i with
  | none => rw [e1] at o; exact o.elim
  | some xs =>
    rw [e1] at o
    obtain ⟨a, vs, h1, h2, h3⟩ := s.see e1
    refine ha _ _ _ ⟨.ref a, h1, m, c, s, o.bind.imp fun y H2 ⟨m2, d, c2, x2, s2, k2, o2⟩ => ?_⟩
    cases e2 : c2.see i with
    | none => rw [e2] at o2; exact o2.elim
    | some ys =>
      rw [e2] at o2
      obtain ⟨a2, vs2, g1, g2, g3⟩ := s2.see e2
      rw [h1] at g1
      cases g1
      have o2 : Out (rE g) g W σ m2 (match toPs ys, toP d with
        | some ps, some q => M.guard (SeqAt.shaped (.list ps) && SeqAt.shaped q) (M.ret (.bl (if ne then !PyData.eqv (.list ps) q else PyData.eqv (.list ps) q))) c2
        | _, _ => .stuck) Q := o2
      cases e3 : toPs ys with
      | none => rw [e3] at o2; exact o2.elim
      | some ps =>
        cases e4 : toP d with
        | none => rw [e3, e4] at o2; exact o2.elim
        | some pq =>
          rw [e3, e4] at o2
          obtain ⟨hz, o2⟩ := Out.guard o2
          rw [Bool.and_eq_true] at hz
          rw [q.hK]
          exact ⟨.list ps, pq, .lst (SqL.of g2) (s2.dps g3 e3), s2.dp k2 e4, hz.1, hz.2, by rw [hf]; exact o2.here s2 (.bl _)⟩
theorem sx_eqP (q : Good g k N X sc ws W) (hi : N[i]? = some x) (hv : isVis (sc.names.lookup x) = true) (hd : noDbg x = true) (he : PE X e (tE g W fe)) (hs : notSet e = true) : PE X (.Compare (.Name x px) [.Eq] [e] pos) (tE g W (cEqP false i fe)) :=
  pe_imp (pe_cmpR (op_eqD (by have := q.room.un; omega)) (pe_var (q.at_ hi) (q.vis hv) (noDbg_1 hd) (noDbg_2 hd)) he (marks_ok hs)) fun σ H Q z => eqP_read q _ (fun _ _ => rfl) (fun _ _ _ h => h) z
theorem sx_neP (q : Good g k N X sc ws W) (hi : N[i]? = some x) (hv : isVis (sc.names.lookup x) = true) (hd : noDbg x = true) (he : PE X e (tE g W fe)) (hs : notSet e = true) : PE X (.Compare (.Name x px) [.NotEq] [e] pos) (tE g W (cEqP true i fe)) :=
  pe_imp (pe_cmpR (op_neD (by have := q.room.un; omega)) (pe_var (q.at_ hi) (q.vis hv) (noDbg_1 hd) (noDbg_2 hd)) he (marks_ok hs)) fun σ H Q z => eqP_read q _ (fun _ _ => rfl) (fun _ _ _ h => h) z
/-- a bool as a test -/
theorem sx_boolT (h : PE X e (tE g W fe)) (hp : plainTest e = true) (q : Good g k N X sc ws W) : PT X e (tT g W (cTru fe)) := st_tru q.hK h hp
/-- a comparison as a test, from its value -/
theorem sx_eqPT (q : Good g k N X sc ws W) (hi : N[i]? = some x) (hv : isVis (sc.names.lookup x) = true) (hd : noDbg x = true) (he : PE X e (tE g W fe)) (hs : notSet e = true) : PT X (.Compare (.Name x px) [.Eq] [e] pos) (tT g W (asB (cEqP false i fe))) := by
  refine pt_imp (pt_cmpR (op_eqD (by have := q.room.un; omega)) (pe_var (q.at_ hi) (q.vis hv) (noDbg_1 hd) (noDbg_2 hd)) he (marks_ok hs)) fun σ H Q ⟨m, c, s, o⟩ => eqP_read (W := W) q _ (fun _ _ => rfl) (fun _ _ _ h => h) ⟨m, c, s, o.bind.imp fun x H1 ⟨m1, d, c1, x1, s1, k1, o1⟩ => ?_⟩
  cases k1 with
  | bl b => exact ⟨b, rfl, o1.here s1 rfl⟩
  | _ => exact o1.elim
theorem sx_nePT (q : Good g k N X sc ws W) (hi : N[i]? = some x) (hv : isVis (sc.names.lookup x) = true) (hd : noDbg x = true) (he : PE X e (tE g W fe)) (hs : notSet e = true) : PT X (.Compare (.Name x px) [.NotEq] [e] pos) (tT g W (asB (cEqP true i fe))) := by
  refine pt_imp (pt_cmpR (op_neD (by have := q.room.un; omega)) (pe_var (q.at_ hi) (q.vis hv) (noDbg_1 hd) (noDbg_2 hd)) he (marks_ok hs)) fun σ H Q ⟨m, c, s, o⟩ => eqP_read (W := W) q _ (fun _ _ => rfl) (fun _ _ _ h => h) ⟨m, c, s, o.bind.imp fun x H1 ⟨m1, d, c1, x1, s1, k1, o1⟩ => ?_⟩
  cases k1 with
  | bl b => exact ⟨b, rfl, o1.here s1 rfl⟩
  | _ => exact o1.elim
/-! ## a comprehension's scope -/
def blkB (N : List Str) (sc scope : Scope) (own : List (Str × Nat)) : Bool :=
  decide (scope.kind = .function) && scope.names.all (fun y => decide (scope.names.lookup y.1 = some y.2)) && own.all (fun p => decide (N[p.2]? = some p.1)) &&
    scope.names.all (fun y => !decide (y.2 = .free) || (decide (sc.names.lookup y.1 = some .cell) || decide (sc.names.lookup y.1 = some .free))) &&
    scope.names.all (fun y => !(decide (y.2 = .local) || decide (y.2 = .cell)) || (decide (y.1 ∈ own.map (·.1)) || decide (y.1 ∉ N)))
theorem blk_of (q : Good g k N X sc ws W) {scope : Scope} {own : List (Str × Nat)} (h : blkB N sc scope own = true) : BlkOk X.N X.env.scope scope own := by
  unfold blkB at h
  simp only [Bool.and_eq_true, List.all_eq_true, Bool.or_eq_true, decide_eq_true_eq, Bool.not_eq_true', decide_eq_false_iff_not] at h
  obtain ⟨⟨⟨⟨h1, h2⟩, h3⟩, h4⟩, h5⟩ := h
  rw [q.hN, q.hsc]
  refine ⟨h1, h2, h3, fun y hy e => ?_, fun y hy e => ?_⟩
  · rcases h4 y hy with z | z
    · exact absurd e z
    · exact z
  · rcases h5 y hy with z | z
    · rcases e with e | e
      · rw [e] at z; simp at z
      · rw [e] at z; simp at z
    · exact z
end
end CL
namespace CL
open PySem PySem.Spec PyProof.Rows L2
def swB (sc scope : Scope) (y : Str) (l l' : Nat) : Bool := decide (sc.kind = .function) && decide (sc.names.lookup y = some .local) && decide (l = l') && !(scope.names.any fun (n, k) => n == y && (k == .local || k == .cell))
theorem swaps_lc {g : G} {k : Nat} {N : List Str} {X : Cx} {sc ws : Scope} {W : WX} (q : Good g k N X sc ws W) {elt : Expr} {gens : List Comprehension} {scope : Scope} {y : Str} {pos p : Pos} {l : Nat} (h : swB sc scope y p.line pos.line = true) : swapsWith (.ListComp elt gens scope pos) (some (.Name y p)) l X.env = pure true := by
  unfold swB at h
  simp only [Bool.and_eq_true, decide_eq_true_eq] at h
  obtain ⟨⟨⟨h1, h2⟩, h3⟩, h4⟩ := h
  have e1 : (X.env.blockKind == .function) = true := by
    unfold Env.blockKind
    rw [q.hsc, h1]
    rfl
  have e2 : (X.env.kindOf y == some .local) = true := by
    show (X.env.scope.names.lookup y == some .local) = true
    rw [q.hsc, h2]
    rfl
  have e3 : (p.line == (Expr.ListComp elt gens scope pos).pos.line) = true := beq_iff_eq.mpr h3
  show (pure (X.env.blockKind == .function && X.env.kindOf y == some .local && p.line == (Expr.ListComp elt gens scope pos).pos.line && !(scope.names.any fun (n, k) => n == y && (k == .local || k == .cell))) : Sem Bool) = pure true
  rw [e1, e2, e3, h4]
  rfl
end CL
namespace CL
open PySem PySem.Spec PyProof.Rows L2
section
variable {X : Cx} {g : G} {k : Nat} {N : List Str} {sc ws : Scope} {W : WX} {p pos : Pos} {e : Expr} {es : List Expr} {fa : M (List D)}
theorem sq_len (q : Good g k N X sc ws W) (hg : isGl sc "len" = true) (hm : g.mg "len" = none) (ha : PA X (e :: es) (tA g W fa)) (hp : plainArgs (e :: es) = true) : PE X (.Call (.Name "len" p) (e :: es) [] pos) (tE g W (fa.bind bLen)) := by
  have h := call_len (X := X)
  rw [q.hK] at h
  exact sq_B q h sc_len hg hm (by rfl) ha hp
theorem sq_list (q : Good g k N X sc ws W) (hg : isGl sc "list" = true) (hm : g.mg "list" = none) (ha : PA X (e :: es) (tA g W fa)) (hp : plainArgs (e :: es) = true) : PE X (.Call (.Name "list" p) (e :: es) [] pos) (tL g W (fa.bind bList)) := by
  have h := call_list_of (X := X)
  rw [q.hK] at h
  exact sq_Ty q h sc_list hg hm (by rfl) ha hp
theorem sq_tuple (q : Good g k N X sc ws W) (hg : isGl sc "tuple" = true) (hm : g.mg "tuple" = none) (ha : PA X (e :: es) (tA g W fa)) (hp : plainArgs (e :: es) = true) : PE X (.Call (.Name "tuple" p) (e :: es) [] pos) (tE g W (fa.bind bTuple)) := by
  have h := call_tuple_of (X := X)
  rw [q.hK] at h
  exact sq_Ty q h sc_tuple hg hm (by rfl) ha hp
theorem sq_sorted (q : Good g k N X sc ws W) (hg : isGl sc "sorted" = true) (hm : g.mg "sorted" = none) (ha : PA X (e :: es) (tA g W fa)) (hp : plainArgs (e :: es) = true) : PE X (.Call (.Name "sorted" p) (e :: es) [] pos) (tL g W (fa.bind bSorted)) := by
  have h := cr_sortedI (X := X)
  rw [q.hK] at h
  exact sq_B q h sc_sorted hg hm (by rfl) ha hp
theorem sq_any (q : Good g k N X sc ws W) (hg : isGl sc "any" = true) (hm : g.mg "any" = none) (ha : PA X (e :: es) (tA g W fa)) (hp : plainArgs (e :: es) = true) : PE X (.Call (.Name "any" p) (e :: es) [] pos) (tE g W (fa.bind bAny)) := by
  have h := cr_any (X := X) q.calm
  rw [q.hK] at h
  exact sq_B q h sc_any hg hm (by rfl) ha hp
theorem sq_all (q : Good g k N X sc ws W) (hg : isGl sc "all" = true) (hm : g.mg "all" = none) (ha : PA X (e :: es) (tA g W fa)) (hp : plainArgs (e :: es) = true) : PE X (.Call (.Name "all" p) (e :: es) [] pos) (tE g W (fa.bind bAll)) := by
  have h := cr_all (X := X) q.calm
  rw [q.hK] at h
  exact sq_B q h sc_all hg hm (by rfl) ha hp
theorem sq_str (q : Good g k N X sc ws W) (hg : isGl sc "str" = true) (hm : g.mg "str" = none) (ha : PA X (e :: es) (tA g W fa)) (hp : plainArgs (e :: es) = true) : PE X (.Call (.Name "str" p) (e :: es) [] pos) (tE g W (fa.bind bStr)) := sq_Ty q call_str_int sc_str hg hm (by rfl) ha hp
end
end CL
namespace CL
open PySem PySem.Spec PyProof.Rows L2
theorem fn_cOk {g : G} {x qual : Str} {st : Stmt} {f : Addr} {fd : FuncData} {N ps : List Str} {k : Nat} {fb : M Fl} (F : L2.Fun g.K x qual st f fd) (S : FnScope N ps (defScope st))
    (h : ∀ (X : Cx) (W : WX), Good g k N X (defScope st) (defScope st) W → PSs X (defBody st) (tS g W fb)) : FnOk g.prog g.w g.K g.mg g.base (L2.CX g.prog g.w) (k + 1) f fd ps (spOf g (fnB N.length ps.length fb)) := by
  refine F.okX S (fun vs H Q E hs => ?_) (fun cdv A outer s H vs Q E hr hs => ?_)
  · obtain ⟨m, S', ds, sm, hv, o⟩ := hs
    unfold fnB at o
    cases e : decide (ds.length = ps.length) with
    | false => rw [e] at o; exact o.elim
    | true => rw [← hv.length]; exact of_decide_eq_true e
  · obtain ⟨m, S', ds, sm, hv, o⟩ := hs
    unfold fnB at o
    cases e : decide (ds.length = ps.length) with
    | false => rw [e] at o; exact o.elim
    | true =>
      rw [e] at o
      exact ⟨_, h _ _ (good_of S hr), m, _, sm.start hv, outS_F (S := S') (fun _ _ _ _ h => h) o⟩
/-- what a law promises -/
def spLaw (K : PySem.W.Frag) : Sp := fun vs H Q _ => ∃ (a : Addr) (ns : List Int), vs = [V.ref a] ∧ SqL K H a (ns.map V.int) ∧ ns.length ≤ 63 ∧ ∀ H', Q (.bl true) H'
theorem law_end {g : G} {fn : Fn} (hm : ∀ ns : List Int, ns.length ≤ 63 → ∃ S, fn [.scr ns] [] = .ok (.bl true) S) (vs : List V) (H : Hp) (Q : VK) (E : XK) (h : spLaw g.K vs H Q E) : spOf g fn vs H Q E := by
  obtain ⟨a, ns, rfl, hS, hl, q⟩ := h
  obtain ⟨S, e⟩ := hm ns hl
  refine ⟨⟨[], H, fun _ => none, fun _ => 0, 0⟩, [], [.scr ns], ⟨fun _ _ h => h, List.nodup_nil, rfl, iniOk_nil, rfl, fun n a o h1 h2 => ?_, fun a o h => ?_, fun i s h => ?_⟩, .cons (.scr hS) .nil, ?_⟩
  · have h1 : ([] : List Addr)[n]? = some a := h1
    simp at h1
  · cases h
  · have h : ([] : List Sl)[i]? = some s := h
    simp at h
  · rw [e]
    intro m' v H' _ _ k
    cases k
    exact q H'
/-- one class, no own exceptions -/
def clsOne (C : Addr) (ns : List Str) : Nat → Option (Addr × List Str)
  | 0 => some (C, ns)
  | _ => none
theorem kit_ct {K : PySem.W.Frag} {C : Addr} {T : String} (hm : PySem.W.kitMeta T = true) (h : PySem.W.subIn K (.ref C) (.type T) = some false) : PySem.W.kitOne K (.ref C) (.type T) = some false := by
  unfold PySem.W.kitOne
  rw [if_neg (by simp)]
  unfold PySem.W.kitCls
  dsimp only
  rw [if_pos hm]
  exact h
theorem kit_tc {K : PySem.W.Frag} {C : Addr} {T : String} (h1 : PySem.W.isClsIn K C = true) (h2 : PySem.W.typeIn K (.ref C) = some (.type "type")) (h : PySem.W.subIn K (.type T) (.ref C) = some false) : PySem.W.kitOne K (.type T) (.ref C) = some false := by
  unfold PySem.W.kitOne
  rw [if_neg (by simp)]
  unfold PySem.W.kitCls
  dsimp only
  have e : (PySem.W.clsIn K C).isSome = true := h1
  rw [e, h2]
  rw [if_pos (by decide)]
  exact h
theorem kit_same {K : PySem.W.Frag} {C : Addr} : PySem.W.kitOne K (.ref C) (.ref C) = some true := by
  unfold PySem.W.kitOne
  rw [if_pos (by simp)]
structure OneK (K : PySem.W.Frag) (C : Addr) : Prop where
  ha : PySem.W.findIn K (.ref C) "__class__" = some (some (.builtin "object.__class__"))
  hn : PySem.W.specialIn K (.builtin "object.__class__") "__get__" = some (some (.builtin "getset_descriptor.__get__"))
  ht : PySem.W.takesIn K (.builtin "object.__class__") = some true
  hm : PySem.W.mroIn K C (.type "object") = some true
  i1 : PySem.W.subIn K (.ref C) (.type "bool") = some false
  i2 : PySem.W.subIn K (.ref C) (.type "int") = some false
  i3 : PySem.W.subIn K (.ref C) (.type "str") = some false
  i4 : PySem.W.subIn K (.ref C) (.type "tuple") = some false
  i5 : PySem.W.subIn K (.ref C) (.type "list") = some false
  kc : PySem.W.isClsIn K C = true
  kt : PySem.W.typeIn K (.ref C) = some (.type "type")
  j0 : PySem.W.subIn K (.type "NoneType") (.ref C) = some false
  j1 : PySem.W.subIn K (.type "bool") (.ref C) = some false
  j2 : PySem.W.subIn K (.type "int") (.ref C) = some false
  j3 : PySem.W.subIn K (.type "str") (.ref C) = some false
  j4 : PySem.W.subIn K (.type "tuple") (.ref C) = some false
  j5 : PySem.W.subIn K (.type "list") (.ref C) = some false
theorem tab_one {g : G} {C : Addr} {ns : List Str} (hg : g.cls = clsOne C ns) (kc : Cls g.K C) (na : ∀ f ∈ ns, NoAttr g.K C f) (o : OneK g.K C) : TabK g := by
  refine ⟨fun ci C' ns' h => ?_, fun i j C1 C2 n1 n2 h1 h2 => ?_⟩
  · rw [hg] at h
    cases ci with
    | succ _ => cases h
    | zero =>
      cases h
      refine ⟨kc, na, o.ha, o.hn, o.ht, o.hm, fun t h => ?_, fun t => ?_⟩
      · cases t with
        | non => exact absurd rfl h
        | bl => exact kit_ct (by decide +kernel) o.i1
        | int => exact kit_ct (by decide +kernel) o.i2
        | str => exact kit_ct (by decide +kernel) o.i3
        | tup => exact kit_ct (by decide +kernel) o.i4
        | lst => exact kit_ct (by decide +kernel) o.i5
      · cases t with
        | non => exact kit_tc o.kc o.kt o.j0
        | bl => exact kit_tc o.kc o.kt o.j1
        | int => exact kit_tc o.kc o.kt o.j2
        | str => exact kit_tc o.kc o.kt o.j3
        | tup => exact kit_tc o.kc o.kt o.j4
        | lst => exact kit_tc o.kc o.kt o.j5
  · rw [hg] at h1 h2
    cases i with
    | succ _ => cases h1
    | zero =>
      cases j with
      | succ _ => cases h2
      | zero =>
        cases h1
        cases h2
        exact kit_same
theorem cx_none {P : Program} {w : World} (H : Hp) (s : Shared) (e : Value) (s' : Shared) (h : L2.CX P w [] H s (fun _ _ _ => False) e s') : False := by
  obtain ⟨_, _, _, _, _, _, _, _, _, _, _, _, z⟩ := h
  exact z
end CL
namespace CL
open PySem PySem.Spec PyProof.Rows L2

/-! ## zip -/
def zipD (xs ys : List D) : List D := (xs.zip ys).map fun p => .tup [p.1, p.2]
theorem zipD_at {xs ys : List D} {i : Nat} {d : D} (h : (zipD xs ys)[i]? = some d) : ∃ x y, xs[i]? = some x ∧ ys[i]? = some y ∧ d = .tup [x, y] := by
  unfold zipD at h
  rw [List.getElem?_map, Option.map_eq_some_iff] at h
  obtain ⟨⟨x, y⟩, h1, h2⟩ := h
  rw [List.getElem?_zip_eq_some] at h1
  exact ⟨x, y, h1.1, h1.2, h2.symm⟩
theorem zipD_length (xs ys : List D) : (zipD xs ys).length = min xs.length ys.length := by
  unfold zipD
  simp
theorem yld_pair2 {g : G} {m1 : Mp} {c : CS} {σ : L2.St} {H : Hp} {d e : D} {v w : V} {T : Addr} (s : Sim g m1 c σ H) (k : Sv g m1 d v) (l : Sv g m1 e w) (hT : H T = none) : ∃ m2, Ext m1 m2 ∧ Sim g m2 c σ (upd H T (.tup [v, w])) ∧ Sv g m2 (.tup [d, e]) (.ref T) := by
  obtain ⟨s2, x2⟩ := s.frozen (u := .tup [v, w]) hT
  exact ⟨_, x2, s2, .tup (SqT.of upd_same) (.cons (k.mono x2) (.cons (l.mono x2) .nil))⟩
theorem yld_zipL {g : G} {m : Mp} {a b : Addr} {ds es : List D} {vs ws : List V} (h : m.F a = some (.lst vs)) (k : Svs g m ds vs) (h' : m.F b = some (.lst ws)) (k' : Svs g m es ws) : Yld g m (Itz g.K a b) (zipD ds es) := fun m1 c σ H xr xf s i => by
  have hq : SqL g.K H a vs := SqL.of (s.fr _ _ (xf _ _ h))
  have hq' : SqL g.K H b ws := SqL.of (s.fr _ _ (xf _ _ h'))
  have kl := k.length
  have kl' := k'.length
  refine ⟨fun hi => ⟨vs, ws, hq, hq', by rw [zipD_length] at hi; omega⟩, fun d hd => ?_⟩
  obtain ⟨x, y, hx, hy, rfl⟩ := zipD_at hd
  obtain ⟨v, h1, h2⟩ := k.get hx
  obtain ⟨w, g1, g2⟩ := k'.get hy
  refine ⟨⟨vs, ws, v, w, hq, hq', h1, g1⟩, fun z H' ⟨T, v', w', e1, e2, e3, e4, e5⟩ => ?_⟩
  have f4 := e4 vs hq
  have f5 := e5 ws hq'
  rw [h1] at f4
  rw [g1] at f5
  cases f4
  cases f5
  subst e1 e3
  exact yld_pair2 s (Sv.like xr xf h2) (Sv.like xr xf g2) e2
theorem yld_zipT {g : G} {m : Mp} {a b : Addr} {ds es : List D} {vs ws : List V} (h : SqT g.K m.F a vs) (k : Svs g m ds vs) (h' : SqT g.K m.F b ws) (k' : Svs g m es ws) : Yld g m (RZ.ItzT g.K a b) (zipD ds es) := fun m1 c σ H xr xf s i => by
  have hq : SqT g.K H a vs := s.sqT (sqT_mono xf h)
  have hq' : SqT g.K H b ws := s.sqT (sqT_mono xf h')
  have kl := k.length
  have kl' := k'.length
  refine ⟨fun hi => ⟨vs, ws, hq, hq', by rw [zipD_length] at hi; omega⟩, fun d hd => ?_⟩
  obtain ⟨x, y, hx, hy, rfl⟩ := zipD_at hd
  obtain ⟨v, h1, h2⟩ := k.get hx
  obtain ⟨w, g1, g2⟩ := k'.get hy
  refine ⟨⟨vs, ws, v, w, hq, hq', h1, g1⟩, fun z H' ⟨T, v', w', e1, e2, e3, e4, e5⟩ => ?_⟩
  have f4 := e4 vs hq
  have f5 := e5 ws hq'
  rw [h1] at f4
  rw [g1] at f5
  cases f4
  cases f5
  subst e1 e3
  exact yld_pair2 s (Sv.like xr xf h2) (Sv.like xr xf g2) e2
def dZip (x y : D) : M (List D) := fun c => match x, y with
  | .lst xs, .lst ys => .ok (zipD xs ys) c
  | .tup xs, .tup ys => .ok (zipD xs ys) c
  | _, _ => .stuck
def cZip (f h : M D) : M (List D) := f.bind fun x => h.bind fun y => dZip x y
section
variable {g : G} {k : Nat} {N : List Str} {X : Cx} {sc ws : Scope} {W : WX} {p pos tpos : Pos} {e e2 : Expr} {fe fe2 : M D} {es : List Expr} {kk : Nat}
theorem sq_zip (q : Good g k N X sc ws W) (hg : isGl sc "zip" = true) (hm : g.mg "zip" = none) (he : PE X e (tE g W fe)) (he2 : PE X e2 (tE g W fe2)) (hs : isStar e = false) (hs2 : isStar e2 = false) : PI X (.Tuple es kk tpos) (.Call (.Name "zip" p) [e, e2] [] pos) (tI g W (cZip fe fe2)) := by
  refine pi_imp (RZ.pi_zipA (q.gl hg).1 (by rw [q.hmg]; exact hm) (pa_cons he (pa_cons he2 pa_nil (star_plain hs2)) (star_plain hs)) (star_plain hs) (plain_any (es := [e2]) (by unfold plainArgs; simp [hs2]))) fun σ H R ⟨m, c, s, o⟩ => ⟨m, c, s, o.bind.imp fun v H1 ⟨m1, d, c1, x1, s1, k1, o1⟩ => ⟨m1, c1, s1, o1.bind.imp fun w H2 ⟨m2, d2, c2, x2, s2, k2, o2⟩ => ?_⟩⟩
  have k1 := k1.mono x2
  rw [q.hK]
  cases k1 with
  | @lst a xs vs h1 h2 =>
    cases k2 with
    | @lst b ys us g1 g2 => exact ⟨a, b, vs, us, rfl, .inl ⟨SqL.of (s2.fr _ _ h1), SqL.of (s2.fr _ _ g1), o2.here s2 (yld_zipL h1 h2 g1 g2)⟩⟩
    | _ => exact o2.elim
  | @tup a xs vs h1 h2 =>
    cases k2 with
    | @tup b ys us g1 g2 => exact ⟨a, b, vs, us, rfl, .inr ⟨s2.sqT h1, s2.sqT g1, o2.here s2 (yld_zipT h1 h2 g1 g2)⟩⟩
    | _ => exact o2.elim
  | _ => cases k2 <;> exact o2.elim
end
end CL
namespace CL
open PySem PySem.Spec PyProof.Rows L2

/-! ## texts: join, split -/
def dJoin (a : Str) (d : D) : M D := fun c => match (c.seqL d).bind asStrs with
  | some ys => M.guard (decide ((ys.map (·.length)).sum + ys.length * a.length ≤ 16777216)) (M.ret (.str (Txt.join a ys))) c
  | none => .stuck
def cJoin (fo fe : M D) : M D := fo.bind fun o => match o with
  | .str a => fe.bind (dJoin a)
  | _ => fun _ => .stuck
def dSplit (a : Str) (d : D) : M (List D) := match d with
  | .str b => M.guard (!(b.length == 0) && decide (a.length + 2 ≤ sizeLine)) (M.ret ((Txt.split a b).map .str))
  | _ => fun _ => .stuck
def cSplit (fo fe : M D) : M (List D) := fo.bind fun o => match o with
  | .str a => fe.bind (dSplit a)
  | _ => fun _ => .stuck
theorem svs_strs {g : G} {m : Mp} : ∀ ys : List Str, Svs g m (ys.map D.str) (ys.map V.str)
  | [] => .nil
  | n :: ys => .cons (.str n) (svs_strs ys)
section
variable {X : Cx} {g : G} {k j : Nat} {N : List Str} {sc ws : Scope} {W : WX} {p pos apos : Pos} {o e : Expr} {fo fe : M D}
theorem sx_join (q : Good g k N X sc ws W) (ho : PE X o (tE g W fo)) (he : PE X e (tE g W fe)) (hb : okBase o = true) (hs : isStar e = false) (hl : (apos.endLine == pos.line) = true) : PE X (.Call (.Attribute o "join" apos) [e] [] pos) (tE g W (cJoin fo fe)) := by
  refine pe_imp (pe_m1 F.slot_str_join F.type_str_join mt_join ho he (star_plain hs) (base_ok hb) hl) fun σ H Q ⟨m, c, s, o1⟩ => ⟨m, c, s, o1.bind.imp fun x H1 ⟨m1, d, c1, x1, s1, k1, o2⟩ => ?_⟩
  cases k1 with
  | str a =>
    refine ⟨⟨a, rfl⟩, m1, c1, s1, o2.bind.imp fun y H2 ⟨m2, d2, c2, x2, s2, k2, o3⟩ => ?_⟩
    unfold dJoin at o3
    cases e1 : c2.seqL d2 with
    | none => rw [e1] at o3; exact o3.elim
    | some xs =>
      rw [e1] at o3
      have o3 : Out (rE g) g W σ m2 (match asStrs xs with
        | some ys => M.guard (decide ((ys.map (·.length)).sum + ys.length * a.length ≤ 16777216)) (M.ret (.str (Txt.join a ys))) c2
        | none => .stuck) Q := o3
      cases e2 : asStrs xs with
      | none => rw [e2] at o3; exact o3.elim
      | some ys =>
        rw [e2] at o3
        obtain ⟨hz, o3⟩ := Out.guard o3
        obtain ⟨pp, vs, rfl, hp, hv⟩ := s2.seqL e1 k2
        have ev := asStrs_ok hv e2
        subst ev
        exact ⟨a, pp, ys, rfl, rfl, .inl (SqL.of hp), of_decide_eq_true hz, o3.here s2 (.str _)⟩
  | _ => exact o2.elim
theorem sl_split (q : Good g k N X sc ws W) (ho : PE X o (tE g W fo)) (he : PE X e (tE g W fe)) (hb : okBase o = true) (hs : isStar e = false) (hl : (apos.endLine == pos.line) = true) : PE X (.Call (.Attribute o "split" apos) [e] [] pos) (tL g W (cSplit fo fe)) := by
  refine pe_imp (pe_m1 F.slot_str_split F.type_str_split mt_split ho he (star_plain hs) (base_ok hb) hl) fun σ H Q ⟨m, c, s, o1⟩ => ⟨m, c, s, o1.bind.imp fun x H1 ⟨m1, d, c1, x1, s1, k1, o2⟩ => ?_⟩
  cases k1 with
  | str a =>
    refine ⟨⟨a, rfl⟩, m1, c1, s1, o2.bind.imp fun y H2 ⟨m2, d2, c2, x2, s2, k2, o3⟩ => ?_⟩
    cases k2 with
    | str b =>
      obtain ⟨hz, o3⟩ := Out.guard o3
      rw [Bool.and_eq_true] at hz
      exact ⟨a, b, rfl, rfl, by simpa using hz.1, of_decide_eq_true hz.2, fun l hl => out_freshL s2 (svs_strs _) o3 hl⟩
    | _ => exact o3.elim
  | _ => exact o2.elim
end

/-! ## str, repr, len of own objects; texts with parts -/
def strOnly (r : R D) : R D := match r with
  | .ok (.str x) c => .ok (.str x) c
  | .exc n vs c => .exc n vs c
  | _ => .stuck
theorem str_back {v : V} {u : Value} {Q : Value → Shared → Prop} {s : Shared} {x : Str} (r : RelV v u) (e : v = .str x) (h : Q u s) : PySem.W.StrBack Q u s := by
  subst e
  obtain ⟨t, rfl⟩ := (show ∃ t, u = Value.str x t from r)
  exact h
section
variable {X : Cx} {g : G} {k j : Nat} {N : List Str} {sc ws : Scope} {W : WX} {p pos : Pos} {e : Expr} {fe : M D} {f C : Addr} {fn : Fn} {ci : Nat} {ns : List Str}
theorem strOnly_out {σ : L2.St} {m : Mp} {c : CS} {ds : List D} {Q : VK} (o : Out (rE g) g W σ m (strOnly (liftF (fn ds c.S) c)) Q) : Out (rE g) g W σ m (liftF (fn ds c.S) c) (fun z H' => ∃ x, z = .str x ∧ Q (.str x) H') := by
  cases e2 : fn ds c.S with
  | ok d S' =>
    rw [e2] at o
    cases d <;> first | exact o.elim | skip
    rename_i x
    intro m' z H' x' s' k'
    cases k'
    exact ⟨x, rfl, o m' _ H' x' s' (.str _)⟩
  | exc cn vs S' => rw [e2] at o; exact o
  | stuck => rw [e2] at o; exact o
/-- str(x) of a text, an int, an own object -/
def dStrO (ci : Nat) (fn : Fn) (d : D) : M D := fun c => match c.has ci "__str__" d with
  | true => strOnly (liftF (fn [d] c.S) c)
  | false => match d with
    | .int i => M.guard (decide (i.natAbs.log2 < 1920)) (M.ret (.str (toString i))) c
    | .str x => .ok (.str x) c
    | _ => .stuck
theorem sx_str (q : Good g k N X sc ws W) (hc : g.cls ci = some (C, ns)) (hn : ns.contains "__str__" = false) (sp : Spc g.K C "__str__" f) (F : FnC g j f fn) (hj : j + 2 ≤ k) (hg : isGl sc "str" = true) (hm : g.mg "str" = none) (he : PE X e (tE g W fe)) (hs : isStar e = false) : PE X (.Call (.Name "str" p) [e] [] pos) (tE g W (fe.bind (dStrO ci fn))) := by
  refine ⟨fun pins s σ H Q I ⟨m, c, sm, o⟩ => ?_⟩
  have hst : starEach [e] X.env = (false, eval e X.env) :: starEach [] X.env := star_plain hs
  have one : PA X [e] (fun σ H Q => tE g W fe σ H fun x H1 => Q [x] H1) := pa_cons he pa_nil hst
  have o2 : tE g W fe σ H fun x H1 => OneQ (rE g) g W σ m (dStrO ci fn) Q [x] H1 := ⟨m, c, sm, o.bind.imp fun v H1 ⟨m1, d, c1, x1, s1, k1, o1⟩ => ⟨v, m1, d, c1, rfl, x1, s1, k1, o1⟩⟩
  refine wpAny_Call_Name_kw (ld_blt I (q.gl hg).1 (by rw [q.hmg]; exact hm) (by rfl) (PyProof.Rows.callWith_type1 (T := "str") (thn (one.run pos pins s σ H (OneQ (rE g) g W σ m (dStrO ci fn) Q) I o2) fun us s1 ⟨vs, H1, I1, r1, z1⟩ => ?_) hst (by rfl)) (q.gl hg).2.2 (q.gl hg).2.1)
  obtain ⟨v0, m1, d, c1, ev, x1, s2, k1, o1⟩ := z1
  subst ev
  unfold dStrO at o1
  cases e1 : c1.has ci "__str__" d with
  | true =>
    rw [e1] at o1
    obtain ⟨a, dx, fs, ex, ea, _⟩ := s2.has k1 e1 hc hn
    subst ex
    cases r1 with
    | cons r rr =>
      cases rr
      cases r
      obtain ⟨mA, Ob, _⟩ := ins_get I1.hok ea
      obtain ⟨od, J, _⟩ := Ob.look
      have sp2 := sp
      rw [← q.hK] at sp2
      have r2 := (q.room.mono hj).in1.in1
      exact PySem.W.kso_call r2.units0 I1.kIn J sp2.at_ sp2.fn (thn (run_own q F r2 I1.env0.in1.in1 I1 (vs := [.ref a]) (us := [.ref a]) (.cons rfl .nil) s2 (.cons k1 .nil) (strOnly_out o1)) fun w s' ⟨z, H', I', rz, y, ez, qz⟩ => str_back rz ez ⟨z, H', I', rz, by rw [ez]; exact qz⟩)
  | false =>
    rw [e1] at o1
    cases k1 with
    | int i =>
      obtain ⟨hz, o1⟩ := Out.guard o1
      exact call_str_int pins s1 σ H1 _ us Q I1 r1 ⟨i, rfl, of_decide_eq_true hz, o1.here s2 (.str _)⟩
    | str x => exact SkE.call_str_str pins s1 σ H1 _ us Q I1 r1 ⟨x, rfl, o1.here s2 (.str _)⟩
    | _ => exact o1.elim
/-- repr(x) of an own object -/
def dReprO (ci : Nat) (fn : Fn) (d : D) : M D := fun c => match c.has ci "__repr__" d with
  | true => strOnly (liftF (fn [d] c.S) c)
  | false => .stuck
theorem sx_repr (q : Good g k N X sc ws W) (hc : g.cls ci = some (C, ns)) (hn : ns.contains "__repr__" = false) (sp : Spc g.K C "__repr__" f) (F : FnC g j f fn) (hj : j + 1 ≤ k) (hg : isGl sc "repr" = true) (hm : g.mg "repr" = none) (he : PE X e (tE g W fe)) (hs : isStar e = false) : PE X (.Call (.Name "repr" p) [e] [] pos) (tE g W (fe.bind (dReprO ci fn))) := by
  refine ⟨fun pins s σ H Q I ⟨m, c, sm, o⟩ => ?_⟩
  have hst : starEach [e] X.env = (false, eval e X.env) :: starEach [] X.env := star_plain hs
  have one : PA X [e] (fun σ H Q => tE g W fe σ H fun x H1 => Q [x] H1) := pa_cons he pa_nil hst
  have o2 : tE g W fe σ H fun x H1 => OneQ (rE g) g W σ m (dReprO ci fn) Q [x] H1 := ⟨m, c, sm, o.bind.imp fun v H1 ⟨m1, d, c1, x1, s1, k1, o1⟩ => ⟨v, m1, d, c1, rfl, x1, s1, k1, o1⟩⟩
  refine wpAny_Call_Name_kw (ld_blt I (q.gl hg).1 (by rw [q.hmg]; exact hm) (by rfl) (PyProof.Rows.callWith_builtin1 (thn (one.run pos pins s σ H (OneQ (rE g) g W σ m (dReprO ci fn) Q) I o2) fun us s1 ⟨vs, H1, I1, r1, z1⟩ => ?_) hst (by rfl)) (q.gl hg).2.2 (q.gl hg).2.1)
  obtain ⟨v0, m1, d, c1, ev, x1, s2, k1, o1⟩ := z1
  subst ev
  unfold dReprO at o1
  cases e1 : c1.has ci "__repr__" d with
  | true =>
    rw [e1] at o1
    obtain ⟨a, dx, fs, ex, ea, _⟩ := s2.has k1 e1 hc hn
    subst ex
    cases r1 with
    | cons r rr =>
      cases rr
      cases r
      obtain ⟨mA, Ob, _⟩ := ins_get I1.hok ea
      obtain ⟨od, J, _⟩ := Ob.look
      obtain ⟨mm, fr⟩ := I1.fr
      have sp2 := sp
      rw [← q.hK] at sp2
      have r2 := (q.room.mono hj).in1
      exact PySem.W.repr_K r2.units0 fr I1.ok.mod.kin J sp2.at_ sp2.fn (thn (run_own q F r2 I1.env0.in1 I1 (vs := [.ref a]) (us := [.ref a]) (.cons rfl .nil) s2 (.cons k1 .nil) (strOnly_out o1)) fun w s' ⟨z, H', I', rz, y, ez, qz⟩ => str_back rz ez ⟨z, H', I', rz, by rw [ez]; exact qz⟩)
  | false => rw [e1] at o1; exact o1.elim
/-- len(x) of a sequence or of an own object -/
def intOnly (r : R D) : R D := match r with
  | .ok (.int i) c => M.guard (decide (0 ≤ i ∧ i < 2 ^ 63)) (M.ret (.int i)) c
  | .exc n vs c => .exc n vs c
  | _ => .stuck
def dLenO (ci : Nat) (fn : Fn) (d : D) : M D := fun c => match c.has ci "__len__" d with
  | true => intOnly (liftF (fn [d] c.S) c)
  | false => bLen [d] c
theorem sx_len (q : Good g k N X sc ws W) (hc : g.cls ci = some (C, ns)) (hn : ns.contains "__len__" = false) (sp : Spc g.K C "__len__" f) (F : FnC g j f fn) (hj : j + 1 ≤ k) (hg : isGl sc "len" = true) (hm : g.mg "len" = none) (he : PE X e (tE g W fe)) (hs : isStar e = false) : PE X (.Call (.Name "len" p) [e] [] pos) (tE g W (fe.bind (dLenO ci fn))) := by
  refine ⟨fun pins s σ H Q I ⟨m, c, sm, o⟩ => ?_⟩
  have hst : starEach [e] X.env = (false, eval e X.env) :: starEach [] X.env := star_plain hs
  have one : PA X [e] (fun σ H Q => tE g W fe σ H fun x H1 => Q [x] H1) := pa_cons he pa_nil hst
  have o2 : tE g W fe σ H fun x H1 => OneQ (rE g) g W σ m (dLenO ci fn) Q [x] H1 := ⟨m, c, sm, o.bind.imp fun v H1 ⟨m1, d, c1, x1, s1, k1, o1⟩ => ⟨v, m1, d, c1, rfl, x1, s1, k1, o1⟩⟩
  refine wpAny_Call_Name_kw (ld_blt I (q.gl hg).1 (by rw [q.hmg]; exact hm) (by rfl) (PyProof.Rows.callWith_builtin1 (thn (one.run pos pins s σ H (OneQ (rE g) g W σ m (dLenO ci fn) Q) I o2) fun us s1 ⟨vs, H1, I1, r1, z1⟩ => ?_) hst (by rfl)) (q.gl hg).2.2 (q.gl hg).2.1)
  obtain ⟨v0, m1, d, c1, ev, x1, s2, k1, o1⟩ := z1
  subst ev
  unfold dLenO at o1
  cases e1 : c1.has ci "__len__" d with
  | true =>
    rw [e1] at o1
    obtain ⟨a, dx, fs, ex, ea, _⟩ := s2.has k1 e1 hc hn
    subst ex
    cases r1 with
    | cons r rr =>
      cases rr
      cases r
      obtain ⟨mA, Ob, _⟩ := ins_get I1.hok ea
      obtain ⟨od, J, _⟩ := Ob.look
      obtain ⟨mm, fr⟩ := I1.fr
      have sp2 := sp
      rw [← q.hK] at sp2
      have r2 := (q.room.mono hj).in1
      have o3 : Out (rE g) g W σ m1 (liftF (fn [d] c1.S) c1) (fun z H' => ∃ i : Int, z = .int i ∧ (0 ≤ i ∧ i < 2 ^ 63) ∧ Q (.int i) H') := by
        cases e2 : fn [d] c1.S with
        | ok d' S' =>
          rw [e2] at o1
          cases d' <;> first | exact o1.elim | skip
          rename_i i
          obtain ⟨hz, o1⟩ := Out.guard (f := M.ret (D.int i)) o1
          intro m' z H' x' s' k'
          cases k'
          exact ⟨i, rfl, of_decide_eq_true hz, o1 m' _ H' x' s' (.int _)⟩
        | exc cn vs S' => rw [e2] at o1; exact o1
        | stuck => rw [e2] at o1; exact o1
      refine PySem.W.len_K fr I1.ok.mod.kin J sp2.at_ sp2.fn (thn (run_own q F r2 I1.env0.in1 I1 (vs := [.ref a]) (us := [.ref a]) (.cons rfl .nil) s2 (.cons k1 .nil) o3) fun w s' ⟨z, H', I', rz, i, ez, hi, qz⟩ => ?_)
      subst ez
      obtain ⟨t, rfl⟩ := (show ∃ t, w = Value.int i t from rz)
      exact ⟨hi, V.int i, H', I'.tok _, ⟨_, rfl⟩, qz⟩
  | false =>
    rw [e1] at o1
    have h := call_len (X := X)
    rw [q.hK] at h
    exact h pins s1 σ H1 _ us Q I1 r1 (sc_len W m1 c1 σ H1 [d] [v0] Q s2 (.cons k1 .nil) o1)
/-- {x} in a text, x a text or an own object -/
def dFmtO (ci : Nat) (fn : Fn) (d : D) : M D := fun c => match c.has ci "__str__" d with
  | true => strOnly (liftF (fn [d] c.S) c)
  | false => match d with
    | .int i => M.guard (decide (i.natAbs.log2 < 1920)) (M.ret (.str (toString i))) c
    | .str x => M.guard (szOk x.length) (M.ret (.str x)) c
    | _ => .stuck
structure FmtK (K : PySem.W.Frag) (C : Addr) : Prop where
  fm : PySem.W.findIn K (.ref C) "__format__" = some (some (.builtin "object.__format__"))
  ob : PySem.W.mroIn K C (.type "object") = some true
theorem sx_fmt (q : Good g k N X sc ws W) (hc : g.cls ci = some (C, ns)) (hn : ns.contains "__str__" = false) (fk : FmtK g.K C) (sp : Spc g.K C "__str__" f) (F : FnC g j f fn) (hj : j + 1 ≤ k) (he : PE X e (tE g W fe)) : PE X (.FormattedValue e (-1) none pos) (tE g W (fe.bind (dFmtO ci fn))) := by
  refine ⟨fun pins s σ H Q I ⟨m, c, sm, o⟩ => ?_⟩
  refine wpAny_FormattedValue_plain (thn (he.run pins s σ H _ I ⟨m, c, sm, o.bind⟩) fun v s1 ⟨x, H1, I1, r1, m1, d, c1, x1, s2, k1, o1⟩ => ?_)
  unfold dFmtO at o1
  cases e1 : c1.has ci "__str__" d with
  | true =>
    rw [e1] at o1
    obtain ⟨a, dx, fs, ex, ea, _⟩ := s2.has k1 e1 hc hn
    subst ex
    obtain rfl : v = Value.ref a := r1
    obtain ⟨mA, Ob, _⟩ := ins_get I1.hok ea
    obtain ⟨od, J, _⟩ := Ob.look
    have sp2 := sp
    have fk2 := fk
    rw [← q.hK] at sp2 fk2
    have r2 := (q.room.mono hj).in1
    have I2 := I1.tok (s1.toks + 1)
    exact PySem.W.kfo_fieldS r2.units0 I1.kIn J fk2.fm fk2.ob sp2.at_ sp2.fn (thn (run_own q F r2 I2.env0.in1 I2 (vs := [.ref a]) (us := [.ref a]) (.cons rfl .nil) s2 (.cons k1 .nil) (strOnly_out o1)) fun w s' ⟨z, H', I', rz, y, ez, qz⟩ => str_back rz ez ⟨z, H', I', rz, by rw [ez]; exact qz⟩)
  | false =>
    rw [e1] at o1
    cases k1 with
    | int i =>
      obtain ⟨hz, o1⟩ := Out.guard o1
      obtain ⟨t, rfl⟩ := (show ∃ t, v = Value.int i t from r1)
      exact wpAny_formatField_int (of_decide_eq_true hz) ⟨.str (toString i), H1, I1.tok _, ⟨_, rfl⟩, o1.here s2 (.str _)⟩
    | str y =>
      obtain ⟨hz, o1⟩ := Out.guard o1
      obtain ⟨t, rfl⟩ := (show ∃ t, v = Value.str y t from r1)
      exact wpAny_formatField_str ⟨.str y, H1, I1, ⟨t, rfl⟩, o1.here s2 (.str _)⟩ ⟨.str y, H1, I1.tok _, ⟨_, rfl⟩, o1.here s2 (.str _)⟩ (of_decide_eq_true hz)
    | _ => exact o1.elim
end

/-! ## a text of parts -/
def cParts : List (M D) → Str → M Str
  | [], acc => M.ret acc
  | f :: fs, acc => f.bind fun d => match d with
    | .str y => M.guard (szOk (acc ++ y).length) (cParts fs (acc ++ y))
    | _ => fun _ => .stuck
def cJoined (fs : List (M D)) : M D := (cParts fs Str.empty).bind fun x => M.ret (.str x)
/-- the parts' readings -/
def PParts (g : G) (W : WX) (X : Cx) : List Expr → List (M D) → Prop
  | [], [] => True
  | e :: es, f :: fs => PE X e (tE g W f) ∧ PParts g W X es fs
  | _, _ => False
theorem pparts_pj {g : G} {W : WX} {X : Cx} : ∀ {es : List Expr} {fs : List (M D)}, PParts g W X es fs → PJ X es (fs.map fun f => tE g W f)
  | [], [], _ => .nil
  | [], _ :: _, h => h.elim
  | _ :: _, [], h => h.elim
  | e :: es, f :: fs, h => .cons h.1 (pparts_pj h.2)
theorem parts_read {g : G} {W : WX} {σ : L2.St} {Q : VK} : ∀ (fs : List (M D)) (acc : Str) (m : Mp) (c : CS) (H : Hp), Sim g m c σ H → Out (rE g) g W σ m (((cParts fs acc).bind fun x => M.ret (.str x)) c) Q → tJs (fs.map fun f => tE g W f) acc σ H (fun out H1 => Q (.str out) H1)
  | [], acc, m, c, H, s, o => by
    have o : Out (rE g) g W σ m (.ok (.str acc) c) Q := o
    exact o.here s (.str _)
  | f :: fs, acc, m, c, H, s, o => by
    have e : ((cParts (f :: fs) acc).bind fun x => M.ret (.str x)) c = (f c).bind fun d c1 => (match d with
      | .str y => (M.guard (szOk (acc ++ y).length) ((cParts fs (acc ++ y)).bind fun x => M.ret (.str x)) c1)
      | _ => .stuck : R D) := by
      show (((f c).bind fun d => _).bind _ : R D) = _
      cases q : f c with
      | ok d c1 =>
        cases d <;> first | rfl | skip
        rename_i y
        show (M.guard (szOk (acc ++ y).length) (cParts fs (acc ++ y)) c1).bind _ = M.guard _ _ c1
        cases szOk (acc ++ y).length <;> rfl
      | exc cn vs c1 => rfl
      | stuck => rfl
    rw [e] at o
    refine ⟨m, c, s, o.bind.imp fun x H1 ⟨m1, d, c1, x1, s1, k1, o1⟩ => ?_⟩
    cases k1 with
    | str y =>
      obtain ⟨hz, o1⟩ := Out.guard o1
      exact ⟨y, rfl, of_decide_eq_true hz, parts_read fs (acc ++ y) m1 c1 H1 s1 o1⟩
    | _ => exact o1.elim
theorem sx_joined {X : Cx} {g : G} {W : WX} {e1 e2 : Expr} {es : List Expr} {fs : List (M D)} {pos : Pos} (h : PParts g W X (e1 :: e2 :: es) fs) : PE X (.JoinedStr (e1 :: e2 :: es) pos) (tE g W (cJoined fs)) := by
  refine pe_imp (pe_joined (pparts_pj h)) fun σ H Q ⟨m, c, s, o⟩ => parts_read fs Str.empty m c H s o

/-! ## class methods -/
/-- the class comes first; nothing is known of it -/
def spCm (g : G) (C : Addr) (fn : Fn) : Sp := fun vs H Q E => ∃ us, vs = V.ref C :: us ∧ spOf g fn us H Q E
abbrev FnCm (g : G) (k : Nat) (f C : Addr) (fn : Fn) : Prop := FnR g.prog g.w g.K g.mg g.base (L2.CX g.prog g.w) k f (spCm g C fn)
def startK (n : Nat) (ds : List D) (S : List O) : CS := ⟨.no :: (ds.map .val ++ List.replicate (n - 1 - ds.length) .no), S⟩
def cmB (n np : Nat) (fb : M Fl) : Fn := fun ds S => match decide (ds.length + 1 = np) with
  | true => outF (fb (startK n ds S))
  | false => .stuck
theorem Sim.startK {g : G} {m : Mp} {S : List O} {H : Hp} {N : List Str} {ds : List D} {vs : List V} {x : V} (h : Sim g m ⟨[], S⟩ [] H) (hv : Svs g m ds vs) : Sim g m (CL.startK N.length ds S) (L2.start N (x :: vs)) H := by
  refine ⟨h.fr, h.nd, h.len, fun k fs e => ?_, ?_, h.st, h.bk, fun i s hs => ?_⟩
  · have e : (some Sl.no) = some (Sl.own (.ins k fs)) := e
    cases e
  · show (Sl.no :: (ds.map Sl.val ++ List.replicate (N.length - 1 - ds.length) Sl.no)).length = ((x :: vs).map some ++ List.replicate (N.length - (x :: vs).length) none).length
    rw [List.length_cons, List.length_append, List.length_append, List.length_map, List.length_map, List.length_replicate, List.length_replicate, List.length_cons, hv.length]
    omega
  · have hs : (Sl.no :: (ds.map Sl.val ++ List.replicate (N.length - 1 - ds.length) Sl.no))[i]? = some s := hs
    cases i with
    | zero => cases hs; trivial
    | succ i =>
      rw [List.getElem?_cons_succ] at hs
      by_cases q : i < ds.length
      · rw [List.getElem?_append_left (by rw [List.length_map]; exact q), List.getElem?_map, List.getElem?_eq_getElem q] at hs
        cases hs
        obtain ⟨v, e1, e2⟩ := hv.get (List.getElem?_eq_getElem q)
        refine ⟨v, ?_, e2⟩
        show ((some x :: vs.map some) ++ List.replicate (N.length - (x :: vs).length) none)[i + 1]? = some (some v)
        rw [List.cons_append, List.getElem?_cons_succ, List.getElem?_append_left (by rw [List.length_map, ← hv.length]; exact q), List.getElem?_map, e1]
        rfl
      · rw [List.getElem?_append_right (by rw [List.length_map]; omega)] at hs
        cases (List.mem_replicate.mp (List.mem_of_getElem? hs)).2
        trivial
theorem fn_cm {g : G} {x qual : Str} {st : Stmt} {f C : Addr} {fd : FuncData} {N ps : List Str} {k : Nat} {fb : M Fl} (F : L2.Fun g.K x qual st f fd) (S : FnScope N ps (defScope st)) (hb : Binds g.K fd ps [])
    (h : ∀ (X : Cx) (W : WX), Good g k N X (defScope st) (defScope st) W → PSs X (defBody st) (tS g W fb)) : FnCm g (k + 1) f C (cmB N.length ps.length fb) := by
  have z : FnOk g.prog g.w g.K g.mg g.base (L2.CX g.prog g.w) (k + 1) f fd ps (spCm g C (cmB N.length ps.length fb)) := by
    refine F.okX S (fun vs H Q E hs => ?_) (fun cdv A outer s H vs Q E hr hs => ?_)
    · obtain ⟨us, rfl, m, S', ds, sm, hv, o⟩ := hs
      unfold cmB at o
      cases e : decide (ds.length + 1 = ps.length) with
      | false => rw [e] at o; exact o.elim
      | true =>
        rw [List.length_cons, ← hv.length]
        exact of_decide_eq_true e
    · obtain ⟨us, rfl, m, S', ds, sm, hv, o⟩ := hs
      unfold cmB at o
      cases e : decide (ds.length + 1 = ps.length) with
      | false => rw [e] at o; exact o.elim
      | true =>
        rw [e] at o
        exact ⟨_, h _ _ (good_of S hr), m, _, sm.startK hv, outS_F (S := S') (fun _ _ _ _ h => h) o⟩
  exact (z.raw hb (dvs := []) .nil).imp fun vs H Q E hs => by rw [List.append_nil]; exact hs
section
variable {X : Cx} {g : G} {k j : Nat} {N : List Str} {sc ws : Scope} {W : WX} {p pos apos : Pos} {e : Expr} {es : List Expr} {fa : M (List D)} {f C pa : Addr} {fn : Fn} {mc : Value} {mn xc : Str}
/-- C.m(e, ..), m a classmethod -/
theorem sx_cmeth (q : Good g k N X sc ws W) (hg : isGl sc xc = true) (hm : g.mg xc = some (.ref C)) (cr : ClX.CRead g.K C mc) (cm : ClX.CMet g.K C mc mn pa f) (F : FnCm g j f C fn) (hj : j ≤ k) (ha : PA X (e :: es) (tA g W fa)) (hp : plainArgs (e :: es) = true) (h3 : (apos.endLine == pos.line) = true) (h4 : decide ((e :: es).length < 30) = true) :
    PE X (.Call (.Attribute (.Name xc p) mn apos) (e :: es) [] pos) (tE g W (cCall fn fa)) := by
  obtain ⟨p1, p2⟩ := plain_tail hp
  obtain ⟨hg, hd, _⟩ := q.gl hg
  rw [← q.hmg] at hm
  rw [← q.hK] at cr cm
  have F : FnR X.prog X.w X.K X.mg X.base (L2.CX X.prog X.w) j f (spCm g C fn) := by
    rw [q.hP, q.hw, q.hK, q.hmg, q.hbs]
    exact F
  refine ⟨fun pins s σ H Q I ⟨m, c, sm, o⟩ => ?_⟩
  refine PySem.W.methodCall_KW (ld_glob I hg hm ?_ hd) (meth_form (by rfl) hp h3 h4)
  refine ClX.getmethcm_ok I cr cm fun s' I' => ?_
  refine ClX.callwith_cm I' (ClX.base_none I (Nat.le_refl _)) cm.fi (thn (ha.run pos _ s' σ H _ I' ⟨m, c, sm, o.bind⟩) fun us s1 ⟨vs, H1, I1, r, m1, ds, c1, x1, s2, k1, o1⟩ => ⟨⟨ClX.pin_at I1, I1.kIn⟩, ?_⟩) (star_plain p1) (plain_any p2)
  have hsp : spCm g C fn (V.ref C :: vs) H1 Q (WE W σ) := ⟨vs, rfl, call_sp (W := W) s2 k1 o1⟩
  have z := codeAny_mono (F X.A X.stack s1 H1 (.ref C :: us) (V.ref C :: vs) Q _ (q.room.mono hj) I1.env0 (.cons rfl r) hsp) (R' := fun r s' => match r with | .ok (.ret v) => EP X ((s.heap.objs.size, PySem.W.methodObj (.ref f) (.ref C)) :: pins) σ Q v s' | .ok _ => False | .error e => X.xe e s') fun r s' hq => by
    match r, hq with
    | .error e, hq => exact passAt q.tk σ _ H1 s1 e s' I1 hq
    | .ok (.ret u), hq => exact I1.after hq
  exact thn (wpAny_call (PySem.W.method_call (ClX.pin_at I1) z)) fun _ _ y => ClX.unpinE y
end
end CL
namespace CL
open PySem PySem.Spec PyProof.Rows L2

/-! ## a, b = x, y -/
def dumE (sc : Scope) : Env := envOfC Str.empty sc 0 0 .none
theorem sw_env {ts : List Expr} {v : Expr} {e1 e2 : Env} (h : e1.scope = e2.scope) : swappedStores ts v e1 = swappedStores ts v e2 := by
  unfold swappedStores Env.blockKind Env.kindOf
  rw [h]
theorem sw_of {g : G} {k : Nat} {N : List Str} {X : Cx} {sc ws : Scope} {W : WX} (q : Good g k N X sc ws W) {ts : List Expr} {v : Expr} {r : Option (List Str)} (h : swappedStores ts v (dumE sc) = pure r) : swappedStores ts v X.env = pure r := by
  rw [← h]
  exact sw_env q.hsc
def cPar (i j : Nat) (fr : M (List D)) : M Fl := fun c => (fr c).bind fun ds c1 => match ds with
  | [x, y] => .ok .next ((c1.put i (.val x)).put j (.val y))
  | _ => .stuck
theorem ss_par {g : G} {k : Nat} {N : List Str} {X : Cx} {sc ws : Scope} {W : WX} {i j : Nat} {x y : Str} {a b : Expr} {fr : M (List D)} {px py pt pos : Pos} {kt k2 : Nat} {pt2 : Pos} (q : Good g k N X sc ws W) (hi : N[i]? = some x) (hj : N[j]? = some y) (hij : i ≠ j) (hx : sc.names.lookup x = some .local) (hy : sc.names.lookup y = some .local) (ha : PA X [a, b] (tA g W fr))
    (hw : swappedStores [.Tuple [.Name x px, .Name y py] kt pt] (.Tuple [a, b] k2 pt2) X.env = pure (some [x, y])) : PS X (.Assign [.Tuple [.Name x px, .Name y py] kt pt] (.Tuple [a, b] k2 pt2) pos) (tS g W (cPar i j fr)) := by
  refine ps_imp (ps_par q.calm q.ndX (q.at_ hi) (q.at_ hj) hij (by rw [q.hsc]; exact hx) (by rw [q.hsc]; exact hy) ha hw (by rfl)) fun Dn σ H ⟨m, c, s, o⟩ => ⟨m, c, s, o.bind.imp fun vs H1 ⟨m1, ds, c1, x1, s1, k1, o1⟩ => ?_⟩
  have k1 : Svs g m1 ds vs := k1
  cases k1 with
  | nil => exact o1.elim
  | cons ka kr =>
    cases kr with
    | nil => exact o1.elim
    | cons kb kr =>
      cases kr with
      | nil => exact ⟨_, _, rfl, o1.nx ((s1.val ka).val kb)⟩
      | cons _ _ => exact o1.elim
end CL
namespace K02
open PySem PySem.Spec PyProof.Rows L2 CL
def topS (i : Nat) : Stmt := PySem.Challenge.pw_shelfdoors_k02_texts_of_chains.main.body.getD i (.Pass ⟨0, 0, 0, 0⟩)
def clsB : Stmt → List Stmt
  | .ClassDef (body := b) .. => b
  | _ => []
def inS (i j : Nat) : Stmt := (clsB (topS i)).getD j (.Pass ⟨0, 0, 0, 0⟩)
structure Ad where
  a_is_between : Addr
  a_check_rows : Addr
  mc_Chain : Value
  u_Chain_MAX_CAPACITY : Value
  u_Chain_MAX_LEVELS : Value
  u_Chain_MAX_SEGMENTS : Value
  a_row_text : Addr
  a_read_capacity : Addr
  a_read_row : Addr
  a_Chain__init : Addr
  a_Chain_read : Addr
  p_Chain_read : Addr
  a_Chain_segments : Addr
  p_Chain_segments : Addr
  a_Chain__eq : Addr
  a_Chain__str : Addr
  a_Chain__repr : Addr
  a_law_tape : Addr
  a_law_pick : Addr
  a_law_same : Addr
  a_law_made : Addr
  a_law_row : Addr
  a_law_rows : Addr
  a_law_text : Addr
  a_law : Addr
  C_Chain : Addr
structure Tx (g : G) (A : Ad) : Prop where
  f_is_between : ∃ fd, L2.Fun g.K "is_between" "is_between" (topS 7) A.a_is_between fd ∧ Binds g.K fd (["value", "low", "high"] : List Str) []
  m_is_between : g.mg "is_between" = some (.ref A.a_is_between)
  kp_is_between : PySem.W.keepIn g.K (.ref A.a_is_between) = true
  n_bool : g.mg "bool" = none
  n_int : g.mg "int" = none
  n_isinstance : g.mg "isinstance" = none
  f_check_rows : ∃ fd, L2.Fun g.K "_check_rows" "_check_rows" (topS 10) A.a_check_rows fd ∧ Binds g.K fd (["rows"] : List Str) []
  m_check_rows : g.mg "_check_rows" = some (.ref A.a_check_rows)
  kp_check_rows : PySem.W.keepIn g.K (.ref A.a_check_rows) = true
  cr_Chain : ClX.CRead g.K A.C_Chain A.mc_Chain
  cv_Chain_MAX_CAPACITY : ClX.CVal g.K A.C_Chain A.mc_Chain "MAX_CAPACITY" (.int 12) A.u_Chain_MAX_CAPACITY
  cv_Chain_MAX_LEVELS : ClX.CVal g.K A.C_Chain A.mc_Chain "MAX_LEVELS" (.int 12) A.u_Chain_MAX_LEVELS
  cv_Chain_MAX_SEGMENTS : ClX.CVal g.K A.C_Chain A.mc_Chain "MAX_SEGMENTS" (.int 4) A.u_Chain_MAX_SEGMENTS
  n_all : g.mg "all" = none
  n_enumerate : g.mg "enumerate" = none
  n_len : g.mg "len" = none
  f_row_text : ∃ fd, L2.Fun g.K "_row_text" "_row_text" (topS 11) A.a_row_text fd ∧ Binds g.K fd (["row"] : List Str) []
  m_row_text : g.mg "_row_text" = some (.ref A.a_row_text)
  kp_row_text : PySem.W.keepIn g.K (.ref A.a_row_text) = true
  n_str : g.mg "str" = none
  f_read_capacity : ∃ fd, L2.Fun g.K "_read_capacity" "_read_capacity" (topS 13) A.a_read_capacity fd ∧ Binds g.K fd (["word"] : List Str) []
  m_read_capacity : g.mg "_read_capacity" = some (.ref A.a_read_capacity)
  kp_read_capacity : PySem.W.keepIn g.K (.ref A.a_read_capacity) = true
  n_range : g.mg "range" = none
  f_read_row : ∃ fd, L2.Fun g.K "_read_row" "_read_row" (topS 12) A.a_read_row fd ∧ Binds g.K fd (["text"] : List Str) []
  m_read_row : g.mg "_read_row" = some (.ref A.a_read_row)
  kp_read_row : PySem.W.keepIn g.K (.ref A.a_read_row) = true
  n_tuple : g.mg "tuple" = none
  f_Chain__init : ∃ fd, L2.Fun g.K "__init__" "Chain.__init__" (inS 9 3) A.a_Chain__init fd
  mk_Chain : Mk g.K A.C_Chain A.a_Chain__init
  na_Chain_rows : NoAttr g.K A.C_Chain "_rows"
  f_Chain_read : ∃ fd, L2.Fun g.K "read" "Chain.read" (inS 9 4) A.a_Chain_read fd ∧ Binds g.K fd (["cls", "text"] : List Str) []
  cm_Chain_read : ClX.CMet g.K A.C_Chain A.mc_Chain "read" A.p_Chain_read A.a_Chain_read
  f_Chain_segments : ∃ fd, L2.Fun g.K "segments" "Chain.segments" (inS 9 6) A.a_Chain_segments fd ∧ Binds g.K fd (["self"] : List Str) []
  pr_Chain_segments : PropOf g.K A.C_Chain "segments" A.p_Chain_segments A.a_Chain_segments
  f_Chain__eq : ∃ fd, L2.Fun g.K "__eq__" "Chain.__eq__" (inS 9 9) A.a_Chain__eq fd ∧ Binds g.K fd (["self", "other"] : List Str) []
  sp_Chain__eq : Spc g.K A.C_Chain "__eq__" A.a_Chain__eq
  f_Chain__str : ∃ fd, L2.Fun g.K "__str__" "Chain.__str__" (inS 9 10) A.a_Chain__str fd ∧ Binds g.K fd (["self"] : List Str) []
  sp_Chain__str : Spc g.K A.C_Chain "__str__" A.a_Chain__str
  f_Chain__repr : ∃ fd, L2.Fun g.K "__repr__" "Chain.__repr__" (inS 9 11) A.a_Chain__repr fd ∧ Binds g.K fd (["self"] : List Str) []
  sp_Chain__repr : Spc g.K A.C_Chain "__repr__" A.a_Chain__repr
  fm_Chain : FmtK g.K A.C_Chain
  f_law_tape : ∃ fd, L2.Fun g.K "_law_tape" "_law_tape" (topS 15) A.a_law_tape fd ∧ Binds g.K fd (["_law_script"] : List Str) []
  m_law_tape : g.mg "_law_tape" = some (.ref A.a_law_tape)
  kp_law_tape : PySem.W.keepIn g.K (.ref A.a_law_tape) = true
  n_list : g.mg "list" = none
  f_law_pick : ∃ fd, L2.Fun g.K "_law_pick" "_law_pick" (topS 16) A.a_law_pick fd ∧ Binds g.K fd (["_law_tape_here", "_law_many"] : List Str) []
  m_law_pick : g.mg "_law_pick" = some (.ref A.a_law_pick)
  kp_law_pick : PySem.W.keepIn g.K (.ref A.a_law_pick) = true
  f_law_same : ∃ fd, L2.Fun g.K "_law_same" "_law_same" (topS 17) A.a_law_same fd ∧ Binds g.K fd (["_law_found", "_law_due"] : List Str) []
  m_law_same : g.mg "_law_same" = some (.ref A.a_law_same)
  kp_law_same : PySem.W.keepIn g.K (.ref A.a_law_same) = true
  n_zip : g.mg "zip" = none
  f_law_made : ∃ fd, L2.Fun g.K "_law_made" "_law_made" (topS 18) A.a_law_made fd ∧ Binds g.K fd (["_law_rows_here"] : List Str) []
  m_law_made : g.mg "_law_made" = some (.ref A.a_law_made)
  kp_law_made : PySem.W.keepIn g.K (.ref A.a_law_made) = true
  f_law_row : ∃ fd, L2.Fun g.K "_law_row" "_law_row" (topS 19) A.a_law_row fd ∧ Binds g.K fd (["_law_tape_here", "_law_levels", "_law_top"] : List Str) []
  m_law_row : g.mg "_law_row" = some (.ref A.a_law_row)
  kp_law_row : PySem.W.keepIn g.K (.ref A.a_law_row) = true
  n_sorted : g.mg "sorted" = none
  f_law_rows : ∃ fd, L2.Fun g.K "_law_rows" "_law_rows" (topS 20) A.a_law_rows fd ∧ Binds g.K fd (["_law_tape_here", "_law_segments", "_law_levels", "_law_top"] : List Str) []
  m_law_rows : g.mg "_law_rows" = some (.ref A.a_law_rows)
  kp_law_rows : PySem.W.keepIn g.K (.ref A.a_law_rows) = true
  f_law_text : ∃ fd, L2.Fun g.K "_law_text" "_law_text" (topS 21) A.a_law_text fd ∧ Binds g.K fd (["_law_rows_here"] : List Str) []
  m_law_text : g.mg "_law_text" = some (.ref A.a_law_text)
  kp_law_text : PySem.W.keepIn g.K (.ref A.a_law_text) = true
  f_law : ∃ fd, L2.Fun g.K "law" "law" (topS 22) A.a_law fd ∧ Binds g.K fd (["_law_script"] : List Str) []
  m_law : g.mg "law" = some (.ref A.a_law)
  kp_law : PySem.W.keepIn g.K (.ref A.a_law) = true
  n_repr : g.mg "repr" = none
  ne_Chain : NeK g.K A.C_Chain
  c_Chain : g.cls 0 = some (A.C_Chain, (["_rows"] : List Str))
  mC_Chain : g.mg "Chain" = some (.ref A.C_Chain)
  kl_Chain : Cls g.K A.C_Chain
  tab : TabK g
/-! ### is_between -/
theorem sc_is_between : FnScope (["value", "low", "high"] : List Str) (["value", "low", "high"] : List Str) (defScope (topS 7)) := ⟨rfl, rfl, rfl, by decide +kernel, rfl, by decide +kernel, by decide +kernel⟩
def cl_is_between : M Fl := (cSeq (cRet (cAnd (cIsi (.ty .int) (cVar 0)) (cAnd (cNot (cIsi (.ty .bl) (cVar 0))) (cChain dLe dLe (cVar 1) (cVar 0) (cVar 2)))))
  cNext)
def fn_is_between : Fn := fnB 3 3 cl_is_between
theorem ok_is_between {g : G} {A : Ad} (T : Tx g A) : FnC g 1 A.a_is_between fn_is_between := by
  obtain ⟨fd, F, B⟩ := T.f_is_between
  exact fn_c F sc_is_between B fun X W q => (ss_cons (ss_ret (se_and (sx_isi T.tab q rfl T.n_isinstance (sq_var q (i := 0) rfl rfl rfl) (pcl_ty q rfl T.n_int rfl (by decide)) rfl rfl) (se_and (se_not (sx_isi T.tab q rfl T.n_isinstance (sq_var q (i := 0) rfl rfl rfl) (pcl_ty q rfl T.n_bool rfl (by decide)) rfl rfl)) (se_one (sx_chain op_le op_le s2_le s2_le (sq_var q (i := 1) rfl rfl rfl) (sq_var q (i := 0) rfl rfl rfl) (sq_var q (i := 2) rfl rfl rfl) rfl)))))
  ss_nil)
/-! ### _check_rows -/
theorem sc_check_rows : FnScope (["rows", "segment", "row", "capacity"] : List Str) (["rows"] : List Str) (defScope (topS 10)) := ⟨rfl, rfl, rfl, by decide +kernel, rfl, by decide +kernel, by decide +kernel⟩
def cl_check_rows : M Fl := (cSeq (cIfS (cNotT (asB (cChain dLe dLe (M.ret (.int 1)) ((cCons (cVar 0) (M.ret [])).bind bLen) (M.ret (.int 4))))) (cSeq cNever
  cNext) cNext)
  (cSeq (cFor (cEnum (cVar 0)) (.tp [1, 2]) (cSeq (cIfS (asB (cOp dGt ((cCons (cVar 2) (M.ret [])).bind bLen) (M.ret (.int 12)))) (cSeq cNever
  cNext) cNext)
  (cSeq (cIfS (cNotT (cTru ((cCons (froz (cLc (cWalk (cVar 2)) (.nm 3) (M.ret true) (cCall fn_is_between (cCons (cVar 3) (cCons (M.ret (.int 1)) (cCons (M.ret (.int 12)) (M.ret []))))) [3])) (M.ret [])).bind bAll))) (cSeq cNever
  cNext) cNext)
  cNext)))
  cNext))
def fn_check_rows : Fn := fnB 4 1 cl_check_rows
theorem ok_check_rows {g : G} {A : Ad} (T : Tx g A) : FnC g 2 A.a_check_rows fn_check_rows := by
  obtain ⟨fd, F, B⟩ := T.f_check_rows
  exact fn_c F sc_check_rows B fun X W q => (ss_cons (ss_if (st_not (sx_chainT op_le op_le s2_le s2_le se_int (sq_len q rfl T.n_len (sa_cons (sq_var q (i := 0) rfl rfl rfl) sa_nil rfl) rfl) (sx_cval q rfl T.mC_Chain T.cr_Chain T.cv_Chain_MAX_SEGMENTS (fun _ => .int _)) rfl)) (ss_cons ss_any
  ss_nil) ss_nil)
  (ss_cons (ss_for q (sq_enum q rfl T.n_enumerate (sq_var q (i := 0) rfl rfl rfl) rfl) (tg_tup q (is := [1, 2]) rfl) (ss_cons (ss_if (sx_cmpT (mop_of op_gt s2_gt) (sq_len q rfl T.n_len (sa_cons (sq_var q (i := 2) rfl rfl rfl) sa_nil rfl) rfl) (sx_cval q rfl T.mC_Chain T.cr_Chain T.cv_Chain_MAX_LEVELS (fun _ => .int _)) (marks_ok rfl)) (ss_cons ss_any
  ss_nil) ss_nil)
  (ss_cons (ss_if (st_not (sq_tru q (sq_all q rfl T.n_all (sa_cons (se_froz (sl_lc q (sq_seq q (sq_var q (i := 2) rfl rfl rfl)) (blk_of q (own := ([("capacity", 3)] : List (Str × Nat))) rfl) ⟨fun _ _ _ _ _ => (tg_name (q.blk) (i := 3) rfl rfl), fun _ _ _ _ _ => sts_nil, fun _ _ _ _ _ => (sx_call (q.blk) (ok_is_between T) (by omega) rfl T.m_is_between T.kp_is_between (sa_cons (sq_var (q.blk) (i := 3) rfl rfl rfl) (sa_cons se_int (sa_cons (sx_cval (q.blk) rfl T.mC_Chain T.cr_Chain T.cv_Chain_MAX_CAPACITY (fun _ => .int _)) sa_nil rfl) rfl) rfl) rfl)⟩ (by decide) rfl)) sa_nil rfl) rfl) rfl)) (ss_cons ss_any
  ss_nil) ss_nil)
  ss_nil)) rfl)
  ss_nil))
/-! ### _row_text -/
theorem sc_row_text : FnScope (["row", "capacity"] : List Str) (["row"] : List Str) (defScope (topS 11)) := ⟨rfl, rfl, rfl, by decide +kernel, rfl, by decide +kernel, by decide +kernel⟩
def cl_row_text : M Fl := (cSeq (cIfS (asB (cOp dEq ((cCons (cVar 0) (M.ret [])).bind bLen) (M.ret (.int 0)))) (cSeq (cRet (M.ret (.str (PySem.Str.ofString "-"))))
  cNext) cNext)
  (cSeq (cRet (cJoin (M.ret (.str (PySem.Str.ofString " "))) (froz (cLc (cWalk (cVar 0)) (.nm 1) (M.ret true) ((cCons (cVar 1) (M.ret [])).bind bStr) [1]))))
  cNext))
def fn_row_text : Fn := fnB 2 1 cl_row_text
theorem ok_row_text {g : G} {A : Ad} (T : Tx g A) : FnC g 1 A.a_row_text fn_row_text := by
  obtain ⟨fd, F, B⟩ := T.f_row_text
  exact fn_c F sc_row_text B fun X W q => (ss_cons (ss_if (sx_cmpT (mq_eq q) (sq_len q rfl T.n_len (sa_cons (sq_var q (i := 0) rfl rfl rfl) sa_nil rfl) rfl) se_int (marks_ok rfl)) (ss_cons (ss_ret se_str)
  ss_nil) ss_nil)
  (ss_cons (ss_ret (sx_join q se_str (se_froz (sl_lc q (sq_seq q (sq_var q (i := 0) rfl rfl rfl)) (blk_of q (own := ([("capacity", 1)] : List (Str × Nat))) rfl) ⟨fun _ _ _ _ _ => (tg_name (q.blk) (i := 1) rfl rfl), fun _ _ _ _ _ => sts_nil, fun _ _ _ _ _ => (sq_str (q.blk) rfl T.n_str (sa_cons (sq_var (q.blk) (i := 1) rfl rfl rfl) sa_nil rfl) rfl)⟩ (by decide) rfl)) rfl rfl rfl))
  ss_nil))
/-! ### _read_capacity -/
theorem sc_read_capacity : FnScope (["word", "capacity"] : List Str) (["word"] : List Str) (defScope (topS 13)) := ⟨rfl, rfl, rfl, by decide +kernel, rfl, by decide +kernel, by decide +kernel⟩
def cl_read_capacity : M Fl := (cSeq (cFor (cRange2 (M.ret (.int 1)) (cOp dAdd (M.ret (.int 12)) (M.ret (.int 1)))) (.nm 1) (cSeq (cIfS (asB (cOp dEq (cVar 0) ((cCons (cVar 1) (M.ret [])).bind bStr))) (cSeq (cRet (cVar 1))
  cNext) cNext)
  cNext))
  (cSeq cNever
  cNext))
def fn_read_capacity : Fn := fnB 2 1 cl_read_capacity
theorem ok_read_capacity {g : G} {A : Ad} (T : Tx g A) : FnC g 1 A.a_read_capacity fn_read_capacity := by
  obtain ⟨fd, F, B⟩ := T.f_read_capacity
  exact fn_c F sc_read_capacity B fun X W q => (ss_cons (ss_for q (sq_range2 q rfl T.n_range se_int (sx_bin (mq_add q) (sx_cval q rfl T.mC_Chain T.cr_Chain T.cv_Chain_MAX_CAPACITY (fun _ => .int _)) se_int) rfl rfl) (tg_name q (i := 1) rfl rfl) (ss_cons (ss_if (sx_cmpT (mq_eq q) (sq_var q (i := 0) rfl rfl rfl) (sq_str q rfl T.n_str (sa_cons (sq_var q (i := 1) rfl rfl rfl) sa_nil rfl) rfl) (marks_ok rfl)) (ss_cons (ss_ret (sq_var q (i := 1) rfl rfl rfl))
  ss_nil) ss_nil)
  ss_nil) rfl)
  (ss_cons ss_any
  ss_nil))
/-! ### _read_row -/
theorem sc_read_row : FnScope (["text", "row", "word"] : List Str) (["text"] : List Str) (defScope (topS 12)) := ⟨rfl, rfl, rfl, by decide +kernel, rfl, by decide +kernel, by decide +kernel⟩
def cl_read_row : M Fl := (cSeq (cIfS (asB (cOp dEq (cVar 0) (M.ret (.str (PySem.Str.ofString "-"))))) (cSeq (cRet (cTup (M.ret [])))
  cNext) cNext)
  (cSeq (cSet 1 ((cCons (froz (cLc (cWalk (froz (cSplit (cVar 0) (M.ret (.str (PySem.Str.ofString " ")))))) (.nm 2) (M.ret true) (cCall fn_read_capacity (cCons (cVar 2) (M.ret []))) [2])) (M.ret [])).bind bTuple))
  (cSeq (cIfS (asB (cOp dGt ((cCons (cVar 1) (M.ret [])).bind bLen) (M.ret (.int 12)))) (cSeq cNever
  cNext) cNext)
  (cSeq (cRet (cVar 1))
  cNext))))
def fn_read_row : Fn := fnB 3 1 cl_read_row
theorem ok_read_row {g : G} {A : Ad} (T : Tx g A) : FnC g 2 A.a_read_row fn_read_row := by
  obtain ⟨fd, F, B⟩ := T.f_read_row
  exact fn_c F sc_read_row B fun X W q => (ss_cons (ss_if (sx_cmpT (mq_eq q) (sq_var q (i := 0) rfl rfl rfl) se_str (marks_ok rfl)) (ss_cons (ss_ret (se_tup sa_nil))
  ss_nil) ss_nil)
  (ss_cons (ss_set q (i := 1) rfl rfl (sq_tuple q rfl T.n_tuple (sa_cons (se_froz (sl_lc q (sq_seq q (se_froz (sl_split q (sq_var q (i := 0) rfl rfl rfl) se_str rfl rfl rfl))) (blk_of q (own := ([("word", 2)] : List (Str × Nat))) rfl) ⟨fun _ _ _ _ _ => (tg_name (q.blk) (i := 2) rfl rfl), fun _ _ _ _ _ => sts_nil, fun _ _ _ _ _ => (sx_call (q.blk) (ok_read_capacity T) (by omega) rfl T.m_read_capacity T.kp_read_capacity (sa_cons (sq_var (q.blk) (i := 2) rfl rfl rfl) sa_nil rfl) rfl)⟩ (by decide) rfl)) sa_nil rfl) rfl) (swaps_no rfl))
  (ss_cons (ss_if (sx_cmpT (mop_of op_gt s2_gt) (sq_len q rfl T.n_len (sa_cons (sq_var q (i := 1) rfl rfl rfl) sa_nil rfl) rfl) (sx_cval q rfl T.mC_Chain T.cr_Chain T.cv_Chain_MAX_LEVELS (fun _ => .int _)) (marks_ok rfl)) (ss_cons ss_any
  ss_nil) ss_nil)
  (ss_cons (ss_ret (sq_var q (i := 1) rfl rfl rfl))
  ss_nil))))
/-! ### Chain.__init__ -/
theorem sc_Chain__init : FnScope (["self", "segments", "rows", "row"] : List Str) ((["self"] : List Str) ++ (["segments"] : List Str)) (defScope (inS 9 3)) := ⟨rfl, rfl, rfl, by decide +kernel, rfl, by decide +kernel, by decide +kernel⟩
def cl_Chain__init : M Fl := (cSeq (cSet 2 ((cCons (froz (cLc (cWalk (cVar 1)) (.nm 3) (M.ret true) ((cCons (cVar 3) (M.ret [])).bind bTuple) [3])) (M.ret [])).bind bTuple))
  (cSeq (cDrop (cCall fn_check_rows (cCons (cVar 2) (M.ret []))))
  (cSeq (cSetF 0 0 "_rows" (cVar 2))
  cNext)))
def fn_Chain__init : Fn := fnStar (mkB 4 1 0 (["_rows"] : List Str) cl_Chain__init)
theorem ok_Chain__init {g : G} {A : Ad} (T : Tx g A) : FnMk g 3 A.a_Chain__init 0 fn_Chain__init := by
  obtain ⟨fd, F⟩ := T.f_Chain__init
  exact fn_mkS F sc_Chain__init T.c_Chain (fun kV doc pm an cdv ct us rest hl => match us, rest, hl with | [_], [], _ => rfl | [_], _ :: _, _ => rfl) fun X W q => (ss_cons (ss_set q (i := 2) rfl rfl (sq_tuple q rfl T.n_tuple (sa_cons (se_froz (sl_lc q (sq_seq q (sq_var q (i := 1) rfl rfl rfl)) (blk_of q (own := ([("row", 3)] : List (Str × Nat))) rfl) ⟨fun _ _ _ _ _ => (tg_name (q.blk) (i := 3) rfl rfl), fun _ _ _ _ _ => sts_nil, fun _ _ _ _ _ => (sq_tuple (q.blk) rfl T.n_tuple (sa_cons (sq_var (q.blk) (i := 3) rfl rfl rfl) sa_nil rfl) rfl)⟩ (by decide) rfl)) sa_nil rfl) rfl) (swaps_no rfl))
  (ss_cons (ss_drop (sx_call q (ok_check_rows T) (by omega) rfl T.m_check_rows T.kp_check_rows (sa_cons (sq_var q (i := 2) rfl rfl rfl) sa_nil rfl) rfl) (swaps_no rfl))
  (ss_cons (ss_setF q T.c_Chain T.kl_Chain T.na_Chain_rows (i := 0) rfl rfl rfl (sq_var q (i := 2) rfl rfl rfl) (swaps_no rfl))
  ss_nil)))
/-! ### Chain.read -/
theorem sc_Chain_read : FnScope (["cls", "text", "rows", "part"] : List Str) (["cls", "text"] : List Str) (defScope (inS 9 4)) := ⟨rfl, rfl, rfl, by decide +kernel, rfl, by decide +kernel, by decide +kernel⟩
def cl_Chain_read : M Fl := (cSeq (cSet 2 (froz (cLc (cWalk (froz (cSplit (cVar 1) (M.ret (.str (PySem.Str.ofString " | ")))))) (.nm 3) (M.ret true) (cCall fn_read_row (cCons (cVar 3) (M.ret []))) [3])))
  (cSeq (cIfS (asB (cOp dGt ((cCons (cVar 2) (M.ret [])).bind bLen) (M.ret (.int 4)))) (cSeq cNever
  cNext) cNext)
  (cSeq (cRet (cCallS fn_Chain__init (cVar 2)))
  cNext)))
def fn_Chain_read : Fn := cmB 4 2 cl_Chain_read
theorem ok_Chain_read {g : G} {A : Ad} (T : Tx g A) : FnCm g 5 A.a_Chain_read A.C_Chain fn_Chain_read := by
  obtain ⟨fd, F, B⟩ := T.f_Chain_read
  exact fn_cm F sc_Chain_read B fun X W q => (ss_cons (ss_setLcV q (i := 2) rfl rfl (swaps_lc q rfl) (sq_seq q (se_froz (sl_split q (sq_var q (i := 1) rfl rfl rfl) se_str rfl rfl rfl))) (blk_of q (own := ([("part", 3)] : List (Str × Nat))) rfl) ⟨fun _ _ _ _ _ => (tg_name (q.blk) (i := 3) rfl rfl), fun _ _ _ _ _ => sts_nil, fun _ _ _ _ _ => (sx_call (q.blk) (ok_read_row T) (by omega) rfl T.m_read_row T.kp_read_row (sa_cons (sq_var (q.blk) (i := 3) rfl rfl rfl) sa_nil rfl) rfl)⟩ (by decide) rfl)
  (ss_cons (ss_if (sx_cmpT (mop_of op_gt s2_gt) (sq_len q rfl T.n_len (sa_cons (sq_var q (i := 2) rfl rfl rfl) sa_nil rfl) rfl) (sx_cval q rfl T.mC_Chain T.cr_Chain T.cv_Chain_MAX_SEGMENTS (fun _ => .int _)) (marks_ok rfl)) (ss_cons ss_any
  ss_nil) ss_nil)
  (ss_cons (ss_ret (sx_makeS q T.c_Chain T.mk_Chain (ok_Chain__init T) (by omega) rfl T.mC_Chain (sq_var q (i := 2) rfl rfl rfl)))
  ss_nil)))
/-! ### Chain.segments -/
theorem sc_Chain_segments : FnScope (["self"] : List Str) (["self"] : List Str) (defScope (inS 9 6)) := ⟨rfl, rfl, rfl, by decide +kernel, rfl, by decide +kernel, by decide +kernel⟩
def cl_Chain_segments : M Fl := (cSeq (cRet (cFld 0 0 "_rows" (cVar 0)))
  cNext)
def fn_Chain_segments : Fn := fnB 1 1 cl_Chain_segments
theorem ok_Chain_segments {g : G} {A : Ad} (T : Tx g A) : FnC g 1 A.a_Chain_segments fn_Chain_segments := by
  obtain ⟨fd, F, B⟩ := T.f_Chain_segments
  exact fn_c F sc_Chain_segments B fun X W q => (ss_cons (ss_ret (sx_fld q (i := 0) T.c_Chain (by decide) rfl T.kl_Chain T.na_Chain_rows (sq_var q (i := 0) rfl rfl rfl) rfl))
  ss_nil)
/-! ### Chain.__eq__ -/
theorem sc_Chain__eq : FnScope (["self", "other"] : List Str) (["self", "other"] : List Str) (defScope (inS 9 9)) := ⟨rfl, rfl, rfl, by decide +kernel, rfl, by decide +kernel, by decide +kernel⟩
def cl_Chain__eq : M Fl := (cSeq (cRet (cAnd (cIsi (.cl 0) (cVar 1)) (cOp dEq (cFld 0 0 "_rows" (cVar 0)) (cFld 0 0 "_rows" (cVar 1)))))
  cNext)
def fn_Chain__eq : Fn := fnB 2 2 cl_Chain__eq
theorem ok_Chain__eq {g : G} {A : Ad} (T : Tx g A) : FnC g 1 A.a_Chain__eq fn_Chain__eq := by
  obtain ⟨fd, F, B⟩ := T.f_Chain__eq
  exact fn_c F sc_Chain__eq B fun X W q => (ss_cons (ss_ret (se_and (sx_isi T.tab q rfl T.n_isinstance (sq_var q (i := 1) rfl rfl rfl) (pcl_cl q T.c_Chain rfl T.mC_Chain) rfl rfl) (se_one (sx_cmp (mq_eq q) (sx_fld q (i := 0) T.c_Chain (by decide) rfl T.kl_Chain T.na_Chain_rows (sq_var q (i := 0) rfl rfl rfl) rfl) (sx_fld q (i := 0) T.c_Chain (by decide) rfl T.kl_Chain T.na_Chain_rows (sq_var q (i := 1) rfl rfl rfl) rfl) (marks_ok rfl)))))
  ss_nil)
/-! ### Chain.__str__ -/
theorem sc_Chain__str : FnScope (["self", "row"] : List Str) (["self"] : List Str) (defScope (inS 9 10)) := ⟨rfl, rfl, rfl, by decide +kernel, rfl, by decide +kernel, by decide +kernel⟩
def cl_Chain__str : M Fl := (cSeq (cRet (cJoin (M.ret (.str (PySem.Str.ofString " | "))) (froz (cLc (cWalk (cFld 0 0 "_rows" (cVar 0))) (.nm 1) (M.ret true) (cCall fn_row_text (cCons (cVar 1) (M.ret []))) [1]))))
  cNext)
def fn_Chain__str : Fn := fnB 2 1 cl_Chain__str
theorem ok_Chain__str {g : G} {A : Ad} (T : Tx g A) : FnC g 2 A.a_Chain__str fn_Chain__str := by
  obtain ⟨fd, F, B⟩ := T.f_Chain__str
  exact fn_c F sc_Chain__str B fun X W q => (ss_cons (ss_ret (sx_join q se_str (se_froz (sl_lc q (sq_seq q (sx_fld q (i := 0) T.c_Chain (by decide) rfl T.kl_Chain T.na_Chain_rows (sq_var q (i := 0) rfl rfl rfl) rfl)) (blk_of q (own := ([("row", 1)] : List (Str × Nat))) rfl) ⟨fun _ _ _ _ _ => (tg_name (q.blk) (i := 1) rfl rfl), fun _ _ _ _ _ => sts_nil, fun _ _ _ _ _ => (sx_call (q.blk) (ok_row_text T) (by omega) rfl T.m_row_text T.kp_row_text (sa_cons (sq_var (q.blk) (i := 1) rfl rfl rfl) sa_nil rfl) rfl)⟩ (by decide) rfl)) rfl rfl rfl))
  ss_nil)
/-! ### Chain.__repr__ -/
theorem sc_Chain__repr : FnScope (["self"] : List Str) (["self"] : List Str) (defScope (inS 9 11)) := ⟨rfl, rfl, rfl, by decide +kernel, rfl, by decide +kernel, by decide +kernel⟩
def cl_Chain__repr : M Fl := (cSeq (cRet (cJoined [(M.ret (.str (PySem.Str.ofString "Chain("))), ((cVar 0).bind (dFmtO 0 fn_Chain__str)), (M.ret (.str (PySem.Str.ofString ")")))]))
  cNext)
def fn_Chain__repr : Fn := fnB 1 1 cl_Chain__repr
theorem ok_Chain__repr {g : G} {A : Ad} (T : Tx g A) : FnC g 4 A.a_Chain__repr fn_Chain__repr := by
  obtain ⟨fd, F, B⟩ := T.f_Chain__repr
  exact fn_c F sc_Chain__repr B fun X W q => (ss_cons (ss_ret (sx_joined ⟨se_str, ⟨(sx_fmt q T.c_Chain rfl T.fm_Chain T.sp_Chain__str (ok_Chain__str T) (by omega) (sq_var q (i := 0) rfl rfl rfl)), ⟨se_str, trivial⟩⟩⟩))
  ss_nil)
/-! ### _law_tape -/
theorem sc_law_tape : FnScope (["_law_script"] : List Str) (["_law_script"] : List Str) (defScope (topS 15)) := ⟨rfl, rfl, rfl, by decide +kernel, rfl, by decide +kernel, by decide +kernel⟩
def cl_law_tape : M Fl := (cSeq (cRet (cStore (cLst (cCons (froz ((cCons (froz (cCutL (cVar 0) cNoPart (cPart (M.ret (.int 63))))) (M.ret [])).bind bList)) (cCons (M.ret (.int 0)) (cCons (M.ret (.int 0)) (cCons (M.ret (.int 3815)) (M.ret []))))))))
  cNext)
def fn_law_tape : Fn := fnB 1 1 cl_law_tape
theorem ok_law_tape {g : G} {A : Ad} (T : Tx g A) : FnC g 1 A.a_law_tape fn_law_tape := by
  obtain ⟨fd, F, B⟩ := T.f_law_tape
  exact fn_c F sc_law_tape B fun X W q => (ss_cons (ss_ret (se_store (sl_lst (sa_cons (se_froz (sq_list q rfl T.n_list (sa_cons (se_froz (sq_cutL q (sq_var q (i := 0) rfl rfl rfl) so_none (so_some se_int))) sa_nil rfl) rfl)) (sa_cons se_int (sa_cons se_int (sa_cons se_int sa_nil rfl) rfl) rfl) rfl))))
  ss_nil)
/-! ### _law_pick -/
theorem sc_law_pick : FnScope (["_law_tape_here", "_law_many", "_law_cell", "_law_digit", "_law_square"] : List Str) (["_law_tape_here", "_law_many"] : List Str) (defScope (topS 16)) := ⟨rfl, rfl, rfl, by decide +kernel, rfl, by decide +kernel, by decide +kernel⟩
def cl_law_pick : M Fl := (cSeq (cIfS (cAndT (asB (cOp dEq (cOp dIx (cVar 0) (M.ret (.int 2))) (M.ret (.int 0)))) (asB (cOp dLt (cOp dIx (cVar 0) (M.ret (.int 1))) ((cCons (cOp dIx (cVar 0) (M.ret (.int 0))) (M.ret [])).bind bLen)))) (cSeq (cSet 2 (cOp dIx (cOp dIx (cVar 0) (M.ret (.int 0))) (cOp dIx (cVar 0) (M.ret (.int 1)))))
  (cSeq (cSetIx 0 (M.ret (.int 1)) (cOp dAdd (cOp dIx (cVar 0) (M.ret (.int 1))) (M.ret (.int 1))))
  (cSeq (cIfS (asB (cOp dGe (cVar 2) (cOp dPow (M.ret (.int 10)) (M.ret (.int 18))))) (cSeq (cSetIx 0 (M.ret (.int 2)) (cVar 2))
  cNext) (cSeq (cSetIx 0 (M.ret (.int 3)) (cOp dMod (cOp dAdd (cOp dAdd (cOp dMul (cOp dIx (cVar 0) (M.ret (.int 3))) (M.ret (.int 48611))) (cOp dMul (cOp dMod (cVar 2) (M.ret (.int 2147483549))) (M.ret (.int 389)))) (M.ret (.int 41))) (M.ret (.int 2147483587))))
  cNext))
  cNext))) cNext)
  (cSeq (cIfS (asB (cOp dGt (cOp dIx (cVar 0) (M.ret (.int 2))) (M.ret (.int 0)))) (cSeq (cSet 3 (cOp dMod (cOp dIx (cVar 0) (M.ret (.int 2))) (cVar 1)))
  (cSeq (cSetIx 0 (M.ret (.int 2)) (cOp dDiv (cOp dIx (cVar 0) (M.ret (.int 2))) (cVar 1)))
  (cSeq (cRet (cVar 3))
  cNext))) cNext)
  (cSeq (cSet 4 (cOp dMod (cOp dMul (cOp dIx (cVar 0) (M.ret (.int 3))) (cOp dIx (cVar 0) (M.ret (.int 3)))) (M.ret (.int 2147483587))))
  (cSeq (cSetIx 0 (M.ret (.int 3)) (cOp dMod (cOp dAdd (cOp dAdd (cOp dMul (cVar 4) (M.ret (.int 30011))) (cOp dMul (cOp dIx (cVar 0) (M.ret (.int 3))) (M.ret (.int 16807)))) (M.ret (.int 9973))) (M.ret (.int 2147483587))))
  (cSeq (cRet (cOp dMod (cOp dAdd (cOp dDiv (cOp dIx (cVar 0) (M.ret (.int 3))) (M.ret (.int 83))) (cOp dMul (cOp dMod (cOp dIx (cVar 0) (M.ret (.int 3))) (M.ret (.int 7919))) (M.ret (.int 53)))) (cVar 1)))
  cNext)))))
def fn_law_pick : Fn := fnB 5 2 cl_law_pick
theorem ok_law_pick {g : G} {A : Ad} (T : Tx g A) : FnC g 1 A.a_law_pick fn_law_pick := by
  obtain ⟨fd, F, B⟩ := T.f_law_pick
  exact fn_c F sc_law_pick B fun X W q => (ss_cons (ss_if (PW.pt (sw_and (sx_cmpT (mq_eq q) (sx_sub (r := fun _ _ _ _ => True) (mq_ix q) (sq_var q (i := 0) rfl rfl rfl) se_int rfl) se_int (marks_ok rfl)) (sw_and1 (sx_cmpT (mop_of op_lt s2_lt) (sx_sub (r := fun _ _ _ _ => True) (mq_ix q) (sq_var q (i := 0) rfl rfl rfl) se_int rfl) (sq_len q rfl T.n_len (sa_cons (sx_sub (r := fun _ _ _ _ => True) (mq_ix q) (sq_var q (i := 0) rfl rfl rfl) se_int rfl) sa_nil rfl) rfl) (marks_ok rfl))))) (ss_cons (ss_set q (i := 2) rfl rfl (sx_sub (r := fun _ _ _ _ => True) (mq_ix q) (sx_sub (r := fun _ _ _ _ => True) (mq_ix q) (sq_var q (i := 0) rfl rfl rfl) se_int rfl) (sx_sub (r := fun _ _ _ _ => True) (mq_ix q) (sq_var q (i := 0) rfl rfl rfl) se_int rfl) rfl) (swaps_no rfl))
  (ss_cons (ss_setIx q (i := 0) rfl rfl rfl (sx_bin (mq_add q) (sx_sub (r := fun _ _ _ _ => True) (mq_ix q) (sq_var q (i := 0) rfl rfl rfl) se_int rfl) se_int) se_int rfl)
  (ss_cons (ss_if (sx_cmpT (mop_of op_ge s2_ge) (sq_var q (i := 2) rfl rfl rfl) (sx_bin (mop_of op_pow s2_pow) se_int se_int) (marks_ok rfl)) (ss_cons (ss_setIx q (i := 0) rfl rfl rfl (sq_var q (i := 2) rfl rfl rfl) se_int rfl)
  ss_nil) (ss_cons (ss_setIx q (i := 0) rfl rfl rfl (sx_bin (mop_of op_mod s2_mod) (sx_bin (mq_add q) (sx_bin (mq_add q) (sx_bin (mop_of op_mul s2_mul) (sx_sub (r := fun _ _ _ _ => True) (mq_ix q) (sq_var q (i := 0) rfl rfl rfl) se_int rfl) se_int) (sx_bin (mop_of op_mul s2_mul) (sx_bin (mop_of op_mod s2_mod) (sq_var q (i := 2) rfl rfl rfl) se_int) se_int)) se_int) se_int) se_int rfl)
  ss_nil))
  ss_nil))) ss_nil)
  (ss_cons (ss_if (sx_cmpT (mop_of op_gt s2_gt) (sx_sub (r := fun _ _ _ _ => True) (mq_ix q) (sq_var q (i := 0) rfl rfl rfl) se_int rfl) se_int (marks_ok rfl)) (ss_cons (ss_set q (i := 3) rfl rfl (sx_bin (mop_of op_mod s2_mod) (sx_sub (r := fun _ _ _ _ => True) (mq_ix q) (sq_var q (i := 0) rfl rfl rfl) se_int rfl) (sq_var q (i := 1) rfl rfl rfl)) (swaps_no rfl))
  (ss_cons (ss_setIx q (i := 0) rfl rfl rfl (sx_bin (mop_of op_fdiv s2_div) (sx_sub (r := fun _ _ _ _ => True) (mq_ix q) (sq_var q (i := 0) rfl rfl rfl) se_int rfl) (sq_var q (i := 1) rfl rfl rfl)) se_int rfl)
  (ss_cons (ss_ret (sq_var q (i := 3) rfl rfl rfl))
  ss_nil))) ss_nil)
  (ss_cons (ss_set q (i := 4) rfl rfl (sx_bin (mop_of op_mod s2_mod) (sx_bin (mop_of op_mul s2_mul) (sx_sub (r := fun _ _ _ _ => True) (mq_ix q) (sq_var q (i := 0) rfl rfl rfl) se_int rfl) (sx_sub (r := fun _ _ _ _ => True) (mq_ix q) (sq_var q (i := 0) rfl rfl rfl) se_int rfl)) se_int) (swaps_no rfl))
  (ss_cons (ss_setIx q (i := 0) rfl rfl rfl (sx_bin (mop_of op_mod s2_mod) (sx_bin (mq_add q) (sx_bin (mq_add q) (sx_bin (mop_of op_mul s2_mul) (sq_var q (i := 4) rfl rfl rfl) se_int) (sx_bin (mop_of op_mul s2_mul) (sx_sub (r := fun _ _ _ _ => True) (mq_ix q) (sq_var q (i := 0) rfl rfl rfl) se_int rfl) se_int)) se_int) se_int) se_int rfl)
  (ss_cons (ss_ret (sx_bin (mop_of op_mod s2_mod) (sx_bin (mq_add q) (sx_bin (mop_of op_fdiv s2_div) (sx_sub (r := fun _ _ _ _ => True) (mq_ix q) (sq_var q (i := 0) rfl rfl rfl) se_int rfl) se_int) (sx_bin (mop_of op_mul s2_mul) (sx_bin (mop_of op_mod s2_mod) (sx_sub (r := fun _ _ _ _ => True) (mq_ix q) (sq_var q (i := 0) rfl rfl rfl) se_int rfl) se_int) se_int)) (sq_var q (i := 1) rfl rfl rfl)))
  ss_nil)))))
/-! ### _law_same -/
theorem sc_law_same : FnScope (["_law_found", "_law_due", "_law_one", "_law_other"] : List Str) (["_law_found", "_law_due"] : List Str) (defScope (topS 17)) := ⟨rfl, rfl, rfl, by decide +kernel, rfl, by decide +kernel, by decide +kernel⟩
def cl_law_same (fr : Fn) : M Fl := (cSeq (cIfS (cOrT (asB (cOp dIs (cVar 1) (M.ret .non))) (asB (cOp dIs (cVar 0) (M.ret .non)))) (cSeq (cRet (cAnd (cOp dIs (cVar 1) (M.ret .non)) (cOp dIs (cVar 0) (M.ret .non))))
  cNext) cNext)
  (cSeq (cIfS (cTru (cIsiT [.ty .lst, .ty .tup] (cVar 1))) (cSeq (cIfS (cOrT (asB (cOp dNe (cIsi (.ty .lst) (cVar 0)) (cIsi (.ty .lst) (cVar 1)))) (asB (cOp dNe (cIsi (.ty .tup) (cVar 0)) (cIsi (.ty .tup) (cVar 1))))) (cSeq (cRet (M.ret (.bl false)))
  cNext) cNext)
  (cSeq (cRet (cAnd (cOp dEq ((cCons (cVar 0) (M.ret [])).bind bLen) ((cCons (cVar 1) (M.ret [])).bind bLen)) ((cCons (froz (cLc (cZip (cVar 0) (cVar 1)) (.tp [2, 3]) (M.ret true) (cCall fr (cCons (cVar 2) (cCons (cVar 3) (M.ret [])))) [2, 3])) (M.ret [])).bind bAll)))
  cNext)) cNext)
  (cSeq (cIfS (cOrT (asB (cOp dNe (cIsi (.ty .bl) (cVar 1)) (cIsi (.ty .bl) (cVar 0)))) (asB (cOp dNe (cIsi (.ty .int) (cVar 1)) (cIsi (.ty .int) (cVar 0))))) (cSeq (cRet (M.ret (.bl false)))
  cNext) cNext)
  (cSeq (cRet (cAnd (cOp dEq (cIsi (.ty .str) (cVar 1)) (cIsi (.ty .str) (cVar 0))) (cOp dEq (cVar 0) (cVar 1))))
  cNext))))
def fn_law_same : Nat → Fn
  | 0 => fun _ _ => .stuck
  | n + 1 => fnB 4 2 (cl_law_same (fn_law_same n))
theorem ok_law_same {g : G} {A : Ad} (T : Tx g A) : ∀ n, FnC g (n + 1) A.a_law_same (fn_law_same n)
  | 0 => fun _ _ _ _ _ _ _ _ _ _ _ hs => by
    obtain ⟨_, _, _, _, _, o⟩ := hs
    exact o.elim
  | n + 1 => by
    obtain ⟨fd, F, B⟩ := T.f_law_same
    have ih := ok_law_same T n
    exact FnR.mono (fn_c (k := n + 1) (fb := cl_law_same (fn_law_same n)) F sc_law_same B fun X W q => (ss_cons (ss_if (PW.pt (sw_or (sx_cmpT (mop_of op_isN s2_is) (sq_var q (i := 1) rfl rfl rfl) se_non (marks_ok rfl)) (sw_or1 (sx_cmpT (mop_of op_isN s2_is) (sq_var q (i := 0) rfl rfl rfl) se_non (marks_ok rfl))))) (ss_cons (ss_ret (se_and (sx_cmp (mop_of op_isN s2_is) (sq_var q (i := 1) rfl rfl rfl) se_non (marks_ok rfl)) (se_one (sx_cmp (mop_of op_isN s2_is) (sq_var q (i := 0) rfl rfl rfl) se_non (marks_ok rfl)))))
  ss_nil) ss_nil)
  (ss_cons (ss_if (sq_tru q (sx_isiT T.tab q rfl T.n_isinstance (sq_var q (i := 1) rfl rfl rfl) ⟨(pcl_ty q rfl T.n_list rfl (by decide)), rfl, ⟨(pcl_ty q rfl T.n_tuple rfl (by decide)), rfl, trivial⟩⟩ rfl rfl) rfl) (ss_cons (ss_if (PW.pt (sw_or (sx_cmpT (mq_ne q) (sx_isi T.tab q rfl T.n_isinstance (sq_var q (i := 0) rfl rfl rfl) (pcl_ty q rfl T.n_list rfl (by decide)) rfl rfl) (sx_isi T.tab q rfl T.n_isinstance (sq_var q (i := 1) rfl rfl rfl) (pcl_ty q rfl T.n_list rfl (by decide)) rfl rfl) (marks_ok rfl)) (sw_or1 (sx_cmpT (mq_ne q) (sx_isi T.tab q rfl T.n_isinstance (sq_var q (i := 0) rfl rfl rfl) (pcl_ty q rfl T.n_tuple rfl (by decide)) rfl rfl) (sx_isi T.tab q rfl T.n_isinstance (sq_var q (i := 1) rfl rfl rfl) (pcl_ty q rfl T.n_tuple rfl (by decide)) rfl rfl) (marks_ok rfl))))) (ss_cons (ss_ret se_bl)
  ss_nil) ss_nil)
  (ss_cons (ss_ret (se_and (sx_cmp (mq_eq q) (sq_len q rfl T.n_len (sa_cons (sq_var q (i := 0) rfl rfl rfl) sa_nil rfl) rfl) (sq_len q rfl T.n_len (sa_cons (sq_var q (i := 1) rfl rfl rfl) sa_nil rfl) rfl) (marks_ok rfl)) (se_one (sq_all q rfl T.n_all (sa_cons (se_froz (sl_lc q (sq_zip q rfl T.n_zip (sq_var q (i := 0) rfl rfl rfl) (sq_var q (i := 1) rfl rfl rfl) rfl rfl) (blk_of q (own := ([("_law_one", 2), ("_law_other", 3)] : List (Str × Nat))) rfl) ⟨fun _ _ _ _ _ => (tg_tup (q.blk) (is := [2, 3]) rfl), fun _ _ _ _ _ => sts_nil, fun _ _ _ _ _ => (sx_call (q.blk) ih (by omega) rfl T.m_law_same T.kp_law_same (sa_cons (sq_var (q.blk) (i := 2) rfl rfl rfl) (sa_cons (sq_var (q.blk) (i := 3) rfl rfl rfl) sa_nil rfl) rfl) rfl)⟩ (by decide) rfl)) sa_nil rfl) rfl))))
  ss_nil)) ss_nil)
  (ss_cons (ss_if (PW.pt (sw_or (sx_cmpT (mq_ne q) (sx_isi T.tab q rfl T.n_isinstance (sq_var q (i := 1) rfl rfl rfl) (pcl_ty q rfl T.n_bool rfl (by decide)) rfl rfl) (sx_isi T.tab q rfl T.n_isinstance (sq_var q (i := 0) rfl rfl rfl) (pcl_ty q rfl T.n_bool rfl (by decide)) rfl rfl) (marks_ok rfl)) (sw_or1 (sx_cmpT (mq_ne q) (sx_isi T.tab q rfl T.n_isinstance (sq_var q (i := 1) rfl rfl rfl) (pcl_ty q rfl T.n_int rfl (by decide)) rfl rfl) (sx_isi T.tab q rfl T.n_isinstance (sq_var q (i := 0) rfl rfl rfl) (pcl_ty q rfl T.n_int rfl (by decide)) rfl rfl) (marks_ok rfl))))) (ss_cons (ss_ret se_bl)
  ss_nil) ss_nil)
  (ss_cons (ss_ret (se_and (sx_cmp (mq_eq q) (sx_isi T.tab q rfl T.n_isinstance (sq_var q (i := 1) rfl rfl rfl) (pcl_ty q rfl T.n_str rfl (by decide)) rfl rfl) (sx_isi T.tab q rfl T.n_isinstance (sq_var q (i := 0) rfl rfl rfl) (pcl_ty q rfl T.n_str rfl (by decide)) rfl rfl) (marks_ok rfl)) (se_one (sx_cmp (mq_eq q) (sq_var q (i := 0) rfl rfl rfl) (sq_var q (i := 1) rfl rfl rfl) (marks_ok rfl)))))
  ss_nil))))) (by omega)
/-! ### _law_made -/
theorem sc_law_made : FnScope (["_law_rows_here"] : List Str) (["_law_rows_here"] : List Str) (defScope (topS 18)) := ⟨rfl, rfl, rfl, by decide +kernel, rfl, by decide +kernel, by decide +kernel⟩
def cl_law_made : M Fl := (cSeq (cIfS (asB (cOp dEq ((cCons (cVar 0) (M.ret [])).bind bLen) (M.ret (.int 1)))) (cSeq (cRet (cCall fn_Chain__init (cCons (cOp dIx (cVar 0) (M.ret (.int 0))) (M.ret []))))
  cNext) cNext)
  (cSeq (cIfS (asB (cOp dEq ((cCons (cVar 0) (M.ret [])).bind bLen) (M.ret (.int 2)))) (cSeq (cRet (cCall fn_Chain__init (cCons (cOp dIx (cVar 0) (M.ret (.int 0))) (cCons (cOp dIx (cVar 0) (M.ret (.int 1))) (M.ret [])))))
  cNext) cNext)
  (cSeq (cIfS (asB (cOp dEq ((cCons (cVar 0) (M.ret [])).bind bLen) (M.ret (.int 3)))) (cSeq (cRet (cCall fn_Chain__init (cCons (cOp dIx (cVar 0) (M.ret (.int 0))) (cCons (cOp dIx (cVar 0) (M.ret (.int 1))) (cCons (cOp dIx (cVar 0) (M.ret (.int 2))) (M.ret []))))))
  cNext) cNext)
  (cSeq (cRet (cCall fn_Chain__init (cCons (cOp dIx (cVar 0) (M.ret (.int 0))) (cCons (cOp dIx (cVar 0) (M.ret (.int 1))) (cCons (cOp dIx (cVar 0) (M.ret (.int 2))) (cCons (cOp dIx (cVar 0) (M.ret (.int 3))) (M.ret [])))))))
  cNext))))
def fn_law_made : Fn := fnB 1 1 cl_law_made
theorem ok_law_made {g : G} {A : Ad} (T : Tx g A) : FnC g 5 A.a_law_made fn_law_made := by
  obtain ⟨fd, F, B⟩ := T.f_law_made
  exact fn_c F sc_law_made B fun X W q => (ss_cons (ss_if (sx_cmpT (mq_eq q) (sq_len q rfl T.n_len (sa_cons (sq_var q (i := 0) rfl rfl rfl) sa_nil rfl) rfl) se_int (marks_ok rfl)) (ss_cons (ss_ret (sx_make q T.c_Chain T.mk_Chain (ok_Chain__init T) (by omega) rfl T.mC_Chain (sa_cons (sx_sub (r := fun _ _ _ _ => True) (mq_ix q) (sq_var q (i := 0) rfl rfl rfl) se_int rfl) sa_nil rfl) rfl))
  ss_nil) ss_nil)
  (ss_cons (ss_if (sx_cmpT (mq_eq q) (sq_len q rfl T.n_len (sa_cons (sq_var q (i := 0) rfl rfl rfl) sa_nil rfl) rfl) se_int (marks_ok rfl)) (ss_cons (ss_ret (sx_make q T.c_Chain T.mk_Chain (ok_Chain__init T) (by omega) rfl T.mC_Chain (sa_cons (sx_sub (r := fun _ _ _ _ => True) (mq_ix q) (sq_var q (i := 0) rfl rfl rfl) se_int rfl) (sa_cons (sx_sub (r := fun _ _ _ _ => True) (mq_ix q) (sq_var q (i := 0) rfl rfl rfl) se_int rfl) sa_nil rfl) rfl) rfl))
  ss_nil) ss_nil)
  (ss_cons (ss_if (sx_cmpT (mq_eq q) (sq_len q rfl T.n_len (sa_cons (sq_var q (i := 0) rfl rfl rfl) sa_nil rfl) rfl) se_int (marks_ok rfl)) (ss_cons (ss_ret (sx_make q T.c_Chain T.mk_Chain (ok_Chain__init T) (by omega) rfl T.mC_Chain (sa_cons (sx_sub (r := fun _ _ _ _ => True) (mq_ix q) (sq_var q (i := 0) rfl rfl rfl) se_int rfl) (sa_cons (sx_sub (r := fun _ _ _ _ => True) (mq_ix q) (sq_var q (i := 0) rfl rfl rfl) se_int rfl) (sa_cons (sx_sub (r := fun _ _ _ _ => True) (mq_ix q) (sq_var q (i := 0) rfl rfl rfl) se_int rfl) sa_nil rfl) rfl) rfl) rfl))
  ss_nil) ss_nil)
  (ss_cons (ss_ret (sx_make q T.c_Chain T.mk_Chain (ok_Chain__init T) (by omega) rfl T.mC_Chain (sa_cons (sx_sub (r := fun _ _ _ _ => True) (mq_ix q) (sq_var q (i := 0) rfl rfl rfl) se_int rfl) (sa_cons (sx_sub (r := fun _ _ _ _ => True) (mq_ix q) (sq_var q (i := 0) rfl rfl rfl) se_int rfl) (sa_cons (sx_sub (r := fun _ _ _ _ => True) (mq_ix q) (sq_var q (i := 0) rfl rfl rfl) se_int rfl) (sa_cons (sx_sub (r := fun _ _ _ _ => True) (mq_ix q) (sq_var q (i := 0) rfl rfl rfl) se_int rfl) sa_nil rfl) rfl) rfl) rfl) rfl))
  ss_nil))))
/-! ### _law_row -/
theorem sc_law_row : FnScope (["_law_tape_here", "_law_levels", "_law_top", "_law_way", "_law_row_here", "_law_k"] : List Str) (["_law_tape_here", "_law_levels", "_law_top"] : List Str) (defScope (topS 19)) := ⟨rfl, rfl, rfl, by decide +kernel, rfl, by decide +kernel, by decide +kernel⟩
def cl_law_row : M Fl := (cSeq (cSet 3 (cCall fn_law_pick (cCons (cVar 0) (cCons (M.ret (.int 4)) (M.ret [])))))
  (cSeq (cSetL 4 (cLc (cRange1 (cCall fn_law_pick (cCons (cVar 0) (cCons (cOp dAdd (cVar 1) (M.ret (.int 1))) (M.ret []))))) (.nm 5) (M.ret true) (cOp dAdd (M.ret (.int 1)) (cCall fn_law_pick (cCons (cVar 0) (cCons (cVar 2) (M.ret []))))) [5]))
  (cSeq (cIfS (asB (cOp dEq (cVar 3) (M.ret (.int 0)))) (cSeq (cSetL 4 ((cCons (cVar 4) (M.ret [])).bind bSorted))
  cNext) cNext)
  (cSeq (cIfS (cAndT (asB (cOp dEq (cVar 3) (M.ret (.int 1)))) (asB (cEqP true 4 (froz (cLst (M.ret [])))))) (cSeq (cSetIx 4 (M.ret (.int 0)) (M.ret (.int 1)))
  cNext) cNext)
  (cSeq (cRet ((cCons (cVar 4) (M.ret [])).bind bTuple))
  cNext)))))
def fn_law_row : Fn := fnB 6 3 cl_law_row
theorem ok_law_row {g : G} {A : Ad} (T : Tx g A) : FnC g 2 A.a_law_row fn_law_row := by
  obtain ⟨fd, F, B⟩ := T.f_law_row
  exact fn_c F sc_law_row B fun X W q => (ss_cons (ss_set q (i := 3) rfl rfl (sx_call q (ok_law_pick T) (by omega) rfl T.m_law_pick T.kp_law_pick (sa_cons (sq_var q (i := 0) rfl rfl rfl) (sa_cons se_int sa_nil rfl) rfl) rfl) (swaps_no rfl))
  (ss_cons (ss_setLc q (i := 4) rfl rfl (swaps_lc q rfl) (sq_range1 q rfl T.n_range (sx_call q (ok_law_pick T) (by omega) rfl T.m_law_pick T.kp_law_pick (sa_cons (sq_var q (i := 0) rfl rfl rfl) (sa_cons (sx_bin (mq_add q) (sq_var q (i := 1) rfl rfl rfl) se_int) sa_nil rfl) rfl) rfl) rfl) (blk_of q (own := ([("_law_k", 5)] : List (Str × Nat))) rfl) ⟨fun _ _ _ _ _ => (tg_name (q.blk) (i := 5) rfl rfl), fun _ _ _ _ _ => sts_nil, fun _ _ _ _ _ => (sx_bin (mq_add (q.blk)) se_int (sx_call (q.blk) (ok_law_pick T) (by omega) rfl T.m_law_pick T.kp_law_pick (sa_cons (sq_var (q.blk) (i := 0) rfl rfl rfl) (sa_cons (sq_var (q.blk) (i := 2) rfl rfl rfl) sa_nil rfl) rfl) rfl))⟩ (by decide) rfl)
  (ss_cons (ss_if (sx_cmpT (mq_eq q) (sq_var q (i := 3) rfl rfl rfl) se_int (marks_ok rfl)) (ss_cons (ss_setL q (i := 4) rfl rfl (sq_sorted q rfl T.n_sorted (sa_cons (sq_var q (i := 4) rfl rfl rfl) sa_nil rfl) rfl) (swaps_no rfl))
  ss_nil) ss_nil)
  (ss_cons (ss_if (PW.pt (sw_and (sx_cmpT (mq_eq q) (sq_var q (i := 3) rfl rfl rfl) se_int (marks_ok rfl)) (sw_and1 (sx_nePT q (i := 4) rfl rfl rfl (se_froz (sl_lst sa_nil)) rfl)))) (ss_cons (ss_setIx q (i := 4) rfl rfl rfl se_int se_int rfl)
  ss_nil) ss_nil)
  (ss_cons (ss_ret (sq_tuple q rfl T.n_tuple (sa_cons (sq_var q (i := 4) rfl rfl rfl) sa_nil rfl) rfl))
  ss_nil)))))
/-! ### _law_rows -/
theorem sc_law_rows : FnScope (["_law_tape_here", "_law_segments", "_law_levels", "_law_top", "_law_k"] : List Str) (["_law_tape_here", "_law_segments", "_law_levels", "_law_top"] : List Str) (defScope (topS 20)) := ⟨rfl, rfl, rfl, by decide +kernel, rfl, by decide +kernel, by decide +kernel⟩
def cl_law_rows : M Fl := (cSeq (cRet (froz (cLc (cRange1 (cOp dAdd (M.ret (.int 1)) (cCall fn_law_pick (cCons (cVar 0) (cCons (cVar 1) (M.ret [])))))) (.nm 4) (M.ret true) (cCall fn_law_row (cCons (cVar 0) (cCons (cVar 2) (cCons (cVar 3) (M.ret []))))) [4])))
  cNext)
def fn_law_rows : Fn := fnB 5 4 cl_law_rows
theorem ok_law_rows {g : G} {A : Ad} (T : Tx g A) : FnC g 3 A.a_law_rows fn_law_rows := by
  obtain ⟨fd, F, B⟩ := T.f_law_rows
  exact fn_c F sc_law_rows B fun X W q => (ss_cons (ss_ret (se_froz (sl_lc q (sq_range1 q rfl T.n_range (sx_bin (mq_add q) se_int (sx_call q (ok_law_pick T) (by omega) rfl T.m_law_pick T.kp_law_pick (sa_cons (sq_var q (i := 0) rfl rfl rfl) (sa_cons (sq_var q (i := 1) rfl rfl rfl) sa_nil rfl) rfl) rfl)) rfl) (blk_of q (own := ([("_law_k", 4)] : List (Str × Nat))) rfl) ⟨fun _ _ _ _ _ => (tg_name (q.blk) (i := 4) rfl rfl), fun _ _ _ _ _ => sts_nil, fun _ _ _ _ _ => (sx_call (q.blk) (ok_law_row T) (by omega) rfl T.m_law_row T.kp_law_row (sa_cons (sq_var (q.blk) (i := 0) rfl rfl rfl) (sa_cons (sq_var (q.blk) (i := 2) rfl rfl rfl) (sa_cons (sq_var (q.blk) (i := 3) rfl rfl rfl) sa_nil rfl) rfl) rfl) rfl)⟩ (by decide) rfl)))
  ss_nil)
/-! ### _law_text -/
theorem sc_law_text : FnScope (["_law_rows_here", "_law_one", "_law_row_here"] : List Str) (["_law_rows_here"] : List Str) (defScope (topS 21)) := ⟨rfl, rfl, rfl, by decide +kernel, rfl, by decide +kernel, by decide +kernel⟩
def cl_law_text : M Fl := (cSeq (cRet (cJoin (M.ret (.str (PySem.Str.ofString " | "))) (froz (cLc (cWalk (cVar 0)) (.nm 2) (M.ret true) (cIf (asB (cOp dGt ((cCons (cVar 2) (M.ret [])).bind bLen) (M.ret (.int 0)))) (cJoin (M.ret (.str (PySem.Str.ofString " "))) (froz (cLc (cWalk (cVar 2)) (.nm 1) (M.ret true) ((cCons (cVar 1) (M.ret [])).bind bStr) [1]))) (M.ret (.str (PySem.Str.ofString "-")))) [2]))))
  cNext)
def fn_law_text : Fn := fnB 3 1 cl_law_text
theorem ok_law_text {g : G} {A : Ad} (T : Tx g A) : FnC g 1 A.a_law_text fn_law_text := by
  obtain ⟨fd, F, B⟩ := T.f_law_text
  exact fn_c F sc_law_text B fun X W q => (ss_cons (ss_ret (sx_join q se_str (se_froz (sl_lc q (sq_seq q (sq_var q (i := 0) rfl rfl rfl)) (blk_of q (own := ([("_law_row_here", 2)] : List (Str × Nat))) rfl) ⟨fun _ _ _ _ _ => (tg_name (q.blk) (i := 2) rfl rfl), fun _ _ _ _ _ => sts_nil, fun _ _ _ _ _ => (se_if (sx_cmpT (mop_of op_gt s2_gt) (sq_len (q.blk) rfl T.n_len (sa_cons (sq_var (q.blk) (i := 2) rfl rfl rfl) sa_nil rfl) rfl) se_int (marks_ok rfl)) (sx_join (q.blk) se_str (se_froz (sl_lc (q.blk) (sq_seq (q.blk) (sq_var (q.blk) (i := 2) rfl rfl rfl)) (blk_of (q.blk) (own := ([("_law_one", 1)] : List (Str × Nat))) rfl) ⟨fun _ _ _ _ _ => (tg_name ((q.blk).blk) (i := 1) rfl rfl), fun _ _ _ _ _ => sts_nil, fun _ _ _ _ _ => (sq_str ((q.blk).blk) rfl T.n_str (sa_cons (sq_var ((q.blk).blk) (i := 1) rfl rfl rfl) sa_nil rfl) rfl)⟩ (by decide) rfl)) rfl rfl rfl) se_str)⟩ (by decide) rfl)) rfl rfl rfl))
  ss_nil)
/-! ### law -/
theorem sc_law : FnScope (["_law_script", "_law_tape_here", "_law_turn", "_law_rows_here", "_law_chain", "_law_text_here", "_law_again", "_law_read_back"] : List Str) (["_law_script"] : List Str) (defScope (topS 22)) := ⟨rfl, rfl, rfl, by decide +kernel, rfl, by decide +kernel, by decide +kernel⟩
def cl_law : M Fl := (cSeq (cSet 1 (cCall fn_law_tape (cCons (cVar 0) (M.ret []))))
  (cSeq (cFor (cRange1 (M.ret (.int 6))) (.nm 2) (cSeq (cSet 3 (cCall fn_law_rows (cCons (cVar 1) (cCons (M.ret (.int 4)) (cCons (M.ret (.int 12)) (cCons (M.ret (.int 12)) (M.ret [])))))))
  (cSeq (cPar 4 5 (cCons (cCall fn_law_made (cCons (cVar 3) (M.ret []))) (cCons (cCall fn_law_text (cCons (cVar 3) (M.ret []))) (M.ret []))))
  (cSeq (cFor (cRange1 (M.ret (.int 2))) (.nm 6) (cSeq (cIfS (cNotT (cTru (cCall (fn_law_same 4) (cCons (froz (cLst (cCons ((cVar 4).bind (dStrO 0 fn_Chain__str)) (cCons ((cVar 4).bind (dReprO 0 fn_Chain__repr)) (M.ret []))))) (cCons (froz (cLst (cCons (cVar 5) (cCons (cOp dAdd (cOp dAdd (M.ret (.str (PySem.Str.ofString "Chain("))) (cVar 5)) (M.ret (.str (PySem.Str.ofString ")")))) (M.ret []))))) (M.ret [])))))) (cSeq (cRet (M.ret (.bl false)))
  cNext) cNext)
  cNext))
  (cSeq (cSet 7 (cCall fn_Chain_read (cCons (cVar 5) (M.ret []))))
  (cSeq (cIfS (cOrT (asB (cOp (dNeO 0 fn_Chain__eq dNe) (cVar 7) (cVar 4))) (cOrT (cNotT (cTru (cCall (fn_law_same 4) (cCons (cProp 0 "segments" fn_Chain_segments (cVar 7)) (cCons ((cCons (cVar 3) (M.ret [])).bind bTuple) (M.ret [])))))) (asB (cOp (dNeO 0 fn_Chain__eq dNe) ((cVar 7).bind (dStrO 0 fn_Chain__str)) (cVar 5))))) (cSeq (cRet (M.ret (.bl false)))
  cNext) cNext)
  cNext))))))
  (cSeq (cRet (cAnd (cOp dEq ((cCall fn_Chain__init (cCons (cTup (M.ret [])) (M.ret []))).bind (dStrO 0 fn_Chain__str)) (M.ret (.str (PySem.Str.ofString "-")))) (cOp dEq ((cCall fn_Chain_read (cCons (M.ret (.str (PySem.Str.ofString "- | 12 1"))) (M.ret []))).bind (dStrO 0 fn_Chain__str)) (M.ret (.str (PySem.Str.ofString "- | 12 1"))))))
  cNext)))
def fn_law : Fn := fnB 8 1 cl_law
theorem ok_law {g : G} {A : Ad} (T : Tx g A) {fd : FuncData} (F : L2.Fun g.K "law" "law" (topS 22) A.a_law fd) : FnOk g.prog g.w g.K g.mg g.base (L2.CX g.prog g.w) 6 A.a_law fd (["_law_script"] : List Str) (spOf g fn_law) :=
  fn_cOk F sc_law fun X W q => (ss_cons (ss_set q (i := 1) rfl rfl (sx_call q (ok_law_tape T) (by omega) rfl T.m_law_tape T.kp_law_tape (sa_cons (sq_var q (i := 0) rfl rfl rfl) sa_nil rfl) rfl) (swaps_no rfl))
  (ss_cons (ss_for q (sq_range1 q rfl T.n_range se_int rfl) (tg_name q (i := 2) rfl rfl) (ss_cons (ss_set q (i := 3) rfl rfl (sx_call q (ok_law_rows T) (by omega) rfl T.m_law_rows T.kp_law_rows (sa_cons (sq_var q (i := 1) rfl rfl rfl) (sa_cons se_int (sa_cons se_int (sa_cons se_int sa_nil rfl) rfl) rfl) rfl) rfl) (swaps_no rfl))
  (ss_cons (ss_par q (i := 4) (j := 5) rfl rfl (by decide) rfl rfl (sa_cons (sx_call q (ok_law_made T) (by omega) rfl T.m_law_made T.kp_law_made (sa_cons (sq_var q (i := 3) rfl rfl rfl) sa_nil rfl) rfl) (sa_cons (sx_call q (ok_law_text T) (by omega) rfl T.m_law_text T.kp_law_text (sa_cons (sq_var q (i := 3) rfl rfl rfl) sa_nil rfl) rfl) sa_nil rfl) rfl) (sw_of q rfl))
  (ss_cons (ss_for q (sq_range1 q rfl T.n_range se_int rfl) (tg_name q (i := 6) rfl rfl) (ss_cons (ss_if (st_not (sq_tru q (sx_call q (ok_law_same T 4) (by omega) rfl T.m_law_same T.kp_law_same (sa_cons (se_froz (sl_lst (sa_cons (sx_str q T.c_Chain rfl T.sp_Chain__str (ok_Chain__str T) (by omega) rfl T.n_str (sq_var q (i := 4) rfl rfl rfl) rfl) (sa_cons (sx_repr q T.c_Chain rfl T.sp_Chain__repr (ok_Chain__repr T) (by omega) rfl T.n_repr (sq_var q (i := 4) rfl rfl rfl) rfl) sa_nil rfl) rfl))) (sa_cons (se_froz (sl_lst (sa_cons (sq_var q (i := 5) rfl rfl rfl) (sa_cons (sx_bin (mq_add q) (sx_bin (mq_add q) se_str (sq_var q (i := 5) rfl rfl rfl)) se_str) sa_nil rfl) rfl))) sa_nil rfl) rfl) rfl) rfl)) (ss_cons (ss_ret se_bl)
  ss_nil) ss_nil)
  ss_nil) rfl)
  (ss_cons (ss_set q (i := 7) rfl rfl (sx_cmeth q rfl T.mC_Chain T.cr_Chain T.cm_Chain_read (ok_Chain_read T) (by omega) (sa_cons (sq_var q (i := 5) rfl rfl rfl) sa_nil rfl) rfl rfl rfl) (swaps_no rfl))
  (ss_cons (ss_if (PW.pt (sw_or (sx_cmpT (mop_ne T.tab q T.c_Chain rfl T.sp_Chain__eq T.ne_Chain (ok_Chain__eq T) (by omega) (mq_ne q)) (sq_var q (i := 7) rfl rfl rfl) (sq_var q (i := 4) rfl rfl rfl) (marks_ok rfl)) (sw_or (st_not (sq_tru q (sx_call q (ok_law_same T 4) (by omega) rfl T.m_law_same T.kp_law_same (sa_cons (sx_prop q T.c_Chain rfl T.kl_Chain T.pr_Chain_segments (ok_Chain_segments T) (by omega) (sq_var q (i := 7) rfl rfl rfl) rfl) (sa_cons (sq_tuple q rfl T.n_tuple (sa_cons (sq_var q (i := 3) rfl rfl rfl) sa_nil rfl) rfl) sa_nil rfl) rfl) rfl) rfl)) (sw_or1 (sx_cmpT (mop_ne T.tab q T.c_Chain rfl T.sp_Chain__eq T.ne_Chain (ok_Chain__eq T) (by omega) (mq_ne q)) (sx_str q T.c_Chain rfl T.sp_Chain__str (ok_Chain__str T) (by omega) rfl T.n_str (sq_var q (i := 7) rfl rfl rfl) rfl) (sq_var q (i := 5) rfl rfl rfl) (marks_ok rfl)))))) (ss_cons (ss_ret se_bl)
  ss_nil) ss_nil)
  ss_nil))))) rfl)
  (ss_cons (ss_ret (se_and (sx_cmp (mq_eq q) (sx_str q T.c_Chain rfl T.sp_Chain__str (ok_Chain__str T) (by omega) rfl T.n_str (sx_make q T.c_Chain T.mk_Chain (ok_Chain__init T) (by omega) rfl T.mC_Chain (sa_cons (se_tup sa_nil) sa_nil rfl) rfl) rfl) se_str (marks_ok rfl)) (se_one (sx_cmp (mq_eq q) (sx_str q T.c_Chain rfl T.sp_Chain__str (ok_Chain__str T) (by omega) rfl T.n_str (sx_cmeth q rfl T.mC_Chain T.cr_Chain T.cm_Chain_read (ok_Chain_read T) (by omega) (sa_cons se_str sa_nil rfl) rfl rfl rfl) rfl) se_str (marks_ok rfl)))))
  ss_nil)))
end K02
namespace K02
open CL PySem

theorem s_isb (v lo hi : Int) (S : List O) : fn_is_between [.int v, .int lo, .int hi] S = .ok (.bl (decide (lo ≤ v) && decide (v ≤ hi))) S := by
  simp [M.bind, M.ret, R.bind, cSeq, cRet, cVar, cOp, cAnd, cOr, cNot, cIf, cAndT, cOrT, cNotT, asB, cB, cNext, cIfS, cSet, CS.put, cChain, dLe, dLt, dGt, dGe, dI2, startC, outF, fnB, cIsi, CS.knOf, tyB, isKn, isTy, M.guard, cTru, dTru, liftF, cCall, cCons, fn_is_between, cl_is_between]
  by_cases h : lo ≤ v
  · simp [M.bind, M.ret, R.bind, cSeq, cRet, cVar, cOp, cAnd, cOr, cNot, cIf, cAndT, cOrT, cNotT, asB, cB, cNext, cIfS, cSet, CS.put, cChain, dLe, dLt, dGt, dGe, dI2, startC, outF, fnB, cIsi, CS.knOf, tyB, isKn, isTy, M.guard, cTru, dTru, liftF, cCall, cCons, h]
  · simp [M.bind, M.ret, R.bind, cSeq, cRet, cVar, cOp, cAnd, cOr, cNot, cIf, cAndT, cOrT, cNotT, asB, cB, cNext, cIfS, cSet, CS.put, cChain, dLe, dLt, dGt, dGe, dI2, startC, outF, fnB, cIsi, CS.knOf, tyB, isKn, isTy, M.guard, cTru, dTru, liftF, cCall, cCons, h]
theorem cSeq_next {f h : M Fl} {c c' : CS} (e : f c = .ok .next c') : cSeq f h c = h c' := by
  unfold cSeq
  rw [e]
theorem cSeq_ret {f h : M Fl} {c c' : CS} {d : D} (e : f c = .ok (.ret d) c') : cSeq f h c = .ok (.ret d) c' := by
  unfold cSeq
  rw [e]
/-- a row of ints; a chain -/
def rowD (r : List Int) : D := .tup (r.map .int)
def chD (rs : List (List Int)) : D := .obj 0 [.tup (rs.map rowD)]
/-- the rows of a chain that may be made -/
def RowOk (r : List Int) : Prop := r.length ≤ 12 ∧ ∀ x ∈ r, 1 ≤ x ∧ x ≤ 12

theorem szOk_small {n : Nat} (h : n ≤ 1000) : szOk n = true := by
  unfold szOk
  exact decide_eq_true (Nat.le_trans h (by decide))
/-- all items between -/
theorem s_lcB (r : List Int) : ∀ (acc : List D) (c : CS), c.sl.length = 4 → acc.length + r.length ≤ 1000 →
    ∃ c', lcL (.nm 3) (M.ret true) (cCall fn_is_between (cCons (cVar 3) (cCons (M.ret (.int 1)) (cCons (M.ret (.int 12)) (M.ret []))))) [3] (r.map .int) acc c = .ok (acc ++ r.map fun x => .bl (decide (1 ≤ x) && decide (x ≤ 12))) c' ∧ c'.S = c.S ∧ c'.sl.length = 4 ∧ c'.sl.take 3 = c.sl.take 3 := by
  induction r with
  | nil => intro acc c h _; exact ⟨c, by simp [M.bind, M.ret, R.bind, cSeq, cRet, cVar, cOp, cAnd, cOr, cNot, cIf, cAndT, cOrT, cNotT, asB, cB, cNext, cIfS, cSet, CS.put, cChain, dLe, dLt, dGt, dGe, dI2, startC, outF, fnB, cIsi, CS.knOf, tyB, isKn, isTy, M.guard, cTru, dTru, liftF, cCall, cCons, cFor, forL, cEnum, dEnum, cTg, cLc, lcL, wipeC, cWalk, dWalk, cNever, cSetTp, putAll, bLen], rfl, h, rfl⟩
  | cons x r ih =>
    intro acc c h hl
    obtain ⟨sl, S⟩ := c
    match sl, h with
    | [a, b, d, e], _ =>
      obtain ⟨c', e1, e2, e3, e4⟩ := ih (acc ++ [.bl (decide (1 ≤ x) && decide (x ≤ 12))]) ⟨[a, b, d, .no], S⟩ rfl (by simp [M.bind, M.ret, R.bind, cSeq, cRet, cVar, cOp, cAnd, cOr, cNot, cIf, cAndT, cOrT, cNotT, asB, cB, cNext, cIfS, cSet, CS.put, cChain, dLe, dLt, dGt, dGe, dI2, startC, outF, fnB, cIsi, CS.knOf, tyB, isKn, isTy, M.guard, cTru, dTru, liftF, cCall, cCons, cFor, forL, cEnum, dEnum, cTg, cLc, lcL, wipeC, cWalk, dWalk, cNever, cSetTp, putAll, bLen] at hl ⊢; omega)
      refine ⟨c', ?_, e2, e3, e4⟩
      have hz : acc.length < sizeLine := Nat.lt_of_lt_of_le (by simp [M.bind, M.ret, R.bind, cSeq, cRet, cVar, cOp, cAnd, cOr, cNot, cIf, cAndT, cOrT, cNotT, asB, cB, cNext, cIfS, cSet, CS.put, cChain, dLe, dLt, dGt, dGe, dI2, startC, outF, fnB, cIsi, CS.knOf, tyB, isKn, isTy, M.guard, cTru, dTru, liftF, cCall, cCons, cFor, forL, cEnum, dEnum, cTg, cLc, lcL, wipeC, cWalk, dWalk, cNever, cSetTp, putAll, bLen] at hl; omega : acc.length < 1001) (by decide)
      simp [M.bind, M.ret, R.bind, cSeq, cRet, cVar, cOp, cAnd, cOr, cNot, cIf, cAndT, cOrT, cNotT, asB, cB, cNext, cIfS, cSet, CS.put, cChain, dLe, dLt, dGt, dGe, dI2, startC, outF, fnB, cIsi, CS.knOf, tyB, isKn, isTy, M.guard, cTru, dTru, liftF, cCall, cCons, cFor, forL, cEnum, dEnum, cTg, cLc, lcL, wipeC, cWalk, dWalk, cNever, cSetTp, putAll, bLen, s_isb, hz] at e1 ⊢
      exact e1

theorem s_row {r : List Int} (h : RowOk r) : (r.map fun x => D.bl (decide (1 ≤ x) && decide (x ≤ 12))) = (List.replicate r.length true).map D.bl := by
  rw [List.map_replicate]
  refine List.eq_replicate_iff.mpr ⟨by simp [M.bind, M.ret, R.bind, cSeq, cRet, cVar, cOp, cAnd, cOr, cNot, cIf, cAndT, cOrT, cNotT, asB, cB, cNext, cIfS, cSet, CS.put, cChain, dLe, dLt, dGt, dGe, dI2, startC, outF, fnB, cIsi, CS.knOf, tyB, isKn, isTy, M.guard, cTru, dTru, liftF, cCall, cCons, cFor, forL, cEnum, dEnum, cTg, cLc, lcL, wipeC, cWalk, dWalk, cNever, cSetTp, putAll, bLen], fun d hd => ?_⟩
  obtain ⟨x, hx, rfl⟩ := List.mem_map.mp hd
  obtain ⟨h1, h2⟩ := h.2 x hx
  simp [M.bind, M.ret, R.bind, cSeq, cRet, cVar, cOp, cAnd, cOr, cNot, cIf, cAndT, cOrT, cNotT, asB, cB, cNext, cIfS, cSet, CS.put, cChain, dLe, dLt, dGt, dGe, dI2, startC, outF, fnB, cIsi, CS.knOf, tyB, isKn, isTy, M.guard, cTru, dTru, liftF, cCall, cCons, cFor, forL, cEnum, dEnum, cTg, cLc, lcL, wipeC, cWalk, dWalk, cNever, cSetTp, putAll, bLen, h1, h2]
theorem asBls_map (bs : List Bool) : asBls (bs.map D.bl) = some bs := by
  induction bs with
  | nil => rfl
  | cons b bs ih => simp [M.bind, M.ret, R.bind, cSeq, cRet, cVar, cOp, cAnd, cOr, cNot, cIf, cAndT, cOrT, cNotT, asB, cB, cNext, cIfS, cSet, CS.put, cChain, dLe, dLt, dGt, dGe, dI2, startC, outF, fnB, cIsi, CS.knOf, tyB, isKn, isTy, M.guard, cTru, dTru, liftF, cCall, cCons, cFor, forL, cEnum, dEnum, cTg, cLc, lcL, wipeC, cWalk, dWalk, cNever, cSetTp, putAll, bLen, asBls, ih]
abbrev ckBody : M Fl := cSeq (cIfS (asB (cOp dGt ((cCons (cVar 2) (M.ret [])).bind bLen) (M.ret (.int 12)))) (cSeq cNever
  cNext) cNext)
  (cSeq (cIfS (cNotT (cTru ((cCons (froz (cLc (cWalk (cVar 2)) (.nm 3) (M.ret true) (cCall fn_is_between (cCons (cVar 3) (cCons (M.ret (.int 1)) (cCons (M.ret (.int 12)) (M.ret []))))) [3])) (M.ret [])).bind bAll))) (cSeq cNever
  cNext) cNext)
  cNext)
theorem s_ckRow (r : List Int) (h : RowOk r) (k : Nat) (c : CS) (hc : c.sl.length = 4) : ∃ c', cSeq (cTg (.tp [1, 2]) (.tup [.int k, rowD r])) ckBody c = .ok .next c' ∧ c'.S = c.S ∧ c'.sl.length = 4 := by
  obtain ⟨sl, S⟩ := c
  match sl, hc with
  | [a, b, d, e], _ =>
    obtain ⟨c', e1, e2, e3, e4⟩ := s_lcB r [] ⟨[a, .val (.int k), .val (rowD r), .no], S⟩ rfl (by have := h.1; simp [M.bind, M.ret, R.bind, cSeq, cRet, cVar, cOp, cAnd, cOr, cNot, cIf, cAndT, cOrT, cNotT, asB, cB, cNext, cIfS, cSet, CS.put, cChain, dLe, dLt, dGt, dGe, dI2, startC, outF, fnB, cIsi, CS.knOf, tyB, isKn, isTy, M.guard, cTru, dTru, liftF, cCall, cCons, cFor, forL, cEnum, dEnum, cTg, cLc, lcL, wipeC, cWalk, dWalk, cNever, cSetTp, putAll, bLen]; omega)
    rw [s_row h] at e1
    have hl : (r.map D.int).length ≤ 1000 := by have := h.1; simp [M.bind, M.ret, R.bind, cSeq, cRet, cVar, cOp, cAnd, cOr, cNot, cIf, cAndT, cOrT, cNotT, asB, cB, cNext, cIfS, cSet, CS.put, cChain, dLe, dLt, dGt, dGe, dI2, startC, outF, fnB, cIsi, CS.knOf, tyB, isKn, isTy, M.guard, cTru, dTru, liftF, cCall, cCons, cFor, forL, cEnum, dEnum, cTg, cLc, lcL, wipeC, cWalk, dWalk, cNever, cSetTp, putAll, bLen]; omega
    have hz : szOk (r.length) = true := szOk_small (by have := h.1; omega)
    have h12 : ¬ (12 : Int) < r.length := by have := h.1; omega
    refine ⟨c', ?_, e2, e3⟩
    simp only [List.nil_append] at e1
    simp [M.bind, M.ret, R.bind, cSeq, cRet, cVar, cOp, cAnd, cOr, cNot, cIf, cAndT, cOrT, cNotT, asB, cB, cNext, cIfS, cSet, CS.put, cChain, dLe, dLt, dGt, dGe, dI2, startC, outF, fnB, cIsi, CS.knOf, tyB, isKn, isTy, M.guard, cTru, dTru, liftF, cCall, cCons, cFor, forL, cEnum, dEnum, cTg, cLc, lcL, wipeC, cWalk, dWalk, cNever, cSetTp, putAll, bLen, rowD, froz, bAll, bOne, CS.seqL, hz, h12] at e1 ⊢
    rw [e1]
    have e5 := asBls_map (List.replicate r.length true)
    simp [M.bind, M.ret, R.bind, cSeq, cRet, cVar, cOp, cAnd, cOr, cNot, cIf, cAndT, cOrT, cNotT, asB, cB, cNext, cIfS, cSet, CS.put, cChain, dLe, dLt, dGt, dGe, dI2, startC, outF, fnB, cIsi, CS.knOf, tyB, isKn, isTy, M.guard, cTru, dTru, liftF, cCall, cCons, cFor, forL, cEnum, dEnum, cTg, cLc, lcL, wipeC, cWalk, dWalk, cNever, cSetTp, putAll, bLen] at e5
    simp [M.bind, M.ret, R.bind, cSeq, cRet, cVar, cOp, cAnd, cOr, cNot, cIf, cAndT, cOrT, cNotT, asB, cB, cNext, cIfS, cSet, CS.put, cChain, dLe, dLt, dGt, dGe, dI2, startC, outF, fnB, cIsi, CS.knOf, tyB, isKn, isTy, M.guard, cTru, dTru, liftF, cCall, cCons, cFor, forL, cEnum, dEnum, cTg, cLc, lcL, wipeC, cWalk, dWalk, cNever, cSetTp, putAll, bLen, e5]

theorem s_ckL (rs : List (List Int)) : ∀ (k : Nat) (c : CS), (∀ r ∈ rs, RowOk r) → c.sl.length = 4 → ∃ c', forL (fun d => cSeq (cTg (.tp [1, 2]) d) ckBody) (((rs.map rowD).zipIdx k).map fun p => .tup [.int (p.2 : Nat), p.1]) c = .ok .next c' ∧ c'.S = c.S := by
  induction rs with
  | nil => intro k c _ _; exact ⟨c, rfl, rfl⟩
  | cons r rs ih =>
    intro k c h hc
    obtain ⟨c1, e1, e2, e3⟩ := s_ckRow r (h r (by simp [M.bind, M.ret, R.bind, cSeq, cRet, cVar, cOp, cAnd, cOr, cNot, cIf, cAndT, cOrT, cNotT, asB, cB, cNext, cIfS, cSet, CS.put, cChain, dLe, dLt, dGt, dGe, dI2, startC, outF, fnB, cIsi, CS.knOf, tyB, isKn, isTy, M.guard, cTru, dTru, liftF, cCall, cCons, cFor, forL, cEnum, dEnum, cTg, cLc, lcL, wipeC, cWalk, dWalk, cNever, cSetTp, putAll, bLen])) k c hc
    obtain ⟨c2, g1, g2⟩ := ih (k + 1) c1 (fun x hx => h x (by simp [M.bind, M.ret, R.bind, cSeq, cRet, cVar, cOp, cAnd, cOr, cNot, cIf, cAndT, cOrT, cNotT, asB, cB, cNext, cIfS, cSet, CS.put, cChain, dLe, dLt, dGt, dGe, dI2, startC, outF, fnB, cIsi, CS.knOf, tyB, isKn, isTy, M.guard, cTru, dTru, liftF, cCall, cCons, cFor, forL, cEnum, dEnum, cTg, cLc, lcL, wipeC, cWalk, dWalk, cNever, cSetTp, putAll, bLen, hx])) e3
    refine ⟨c2, ?_, g2.trans e2⟩
    rw [List.map_cons, List.zipIdx_cons, List.map_cons]
    unfold forL
    rw [e1]
    exact g1
theorem s_check (rs : List (List Int)) (S : List O) (h1 : 1 ≤ rs.length) (h4 : rs.length ≤ 4) (h : ∀ r ∈ rs, RowOk r) : fn_check_rows [.tup (rs.map rowD)] S = .ok .non S := by
  obtain ⟨c', e1, e2⟩ := s_ckL rs 0 ⟨[.val (.tup (rs.map rowD)), .no, .no, .no], S⟩ h rfl
  have hz : szOk rs.length = true := szOk_small (by omega)
  have i1 : (1 : Int) ≤ rs.length := by omega
  have i2 : (rs.length : Int) ≤ 4 := by omega
  have hL : cFor (cEnum (cVar 0)) (.tp [1, 2]) ckBody ⟨[.val (.tup (rs.map rowD)), .no, .no, .no], S⟩ = .ok .next c' := e1
  have hI : cIfS (cNotT (asB (cChain dLe dLe (M.ret (.int 1)) ((cCons (cVar 0) (M.ret [])).bind bLen) (M.ret (.int 4))))) (cSeq cNever cNext) cNext ⟨[.val (.tup (rs.map rowD)), .no, .no, .no], S⟩ = .ok .next ⟨[.val (.tup (rs.map rowD)), .no, .no, .no], S⟩ := by
    simp [M.bind, M.ret, R.bind, cSeq, cRet, cVar, cOp, cAnd, cOr, cNot, cIf, cAndT, cOrT, cNotT, asB, cB, cNext, cIfS, cSet, CS.put, cChain, dLe, dLt, dGt, dGe, dI2, startC, outF, fnB, cIsi, CS.knOf, tyB, isKn, isTy, M.guard, cTru, dTru, liftF, cCall, cCons, cFor, forL, cEnum, dEnum, cTg, cLc, lcL, wipeC, cWalk, dWalk, cNever, cSetTp, putAll, bLen, hz, i1, i2]
  show outF (cSeq _ (cSeq (cFor (cEnum (cVar 0)) (.tp [1, 2]) ckBody) cNext) ⟨[.val (.tup (rs.map rowD)), .no, .no, .no], S⟩) = _
  rw [cSeq_next hI, cSeq_next hL]
  simp [M.bind, M.ret, R.bind, cSeq, cRet, cVar, cOp, cAnd, cOr, cNot, cIf, cAndT, cOrT, cNotT, asB, cB, cNext, cIfS, cSet, CS.put, cChain, dLe, dLt, dGt, dGe, dI2, startC, outF, fnB, cIsi, CS.knOf, tyB, isKn, isTy, M.guard, cTru, dTru, liftF, cCall, cCons, cFor, forL, cEnum, dEnum, cTg, cLc, lcL, wipeC, cWalk, dWalk, cNever, cSetTp, putAll, bLen, e2]
/-- rows that may be passed: tuples, lists -/
def RowIn (r : List Int) (d : D) : Prop := d = rowD r ∨ d = .lst (r.map .int)
inductive RowsIn : List (List Int) → List D → Prop
  | nil : RowsIn [] []
  | cons {r : List Int} {d : D} {rs : List (List Int)} {ds : List D} : RowIn r d → RowsIn rs ds → RowsIn (r :: rs) (d :: ds)
theorem RowsIn.length {rs : List (List Int)} {ds : List D} (h : RowsIn rs ds) : ds.length = rs.length := by
  induction h with
  | nil => rfl
  | cons _ _ ih => simp [M.bind, M.ret, R.bind, cSeq, cRet, cVar, cOp, cAnd, cOr, cNot, cIf, cAndT, cOrT, cNotT, asB, cB, cNext, cIfS, cSet, CS.put, cChain, dLe, dLt, dGt, dGe, dI2, startC, outF, fnB, cIsi, CS.knOf, tyB, isKn, isTy, M.guard, cTru, dTru, liftF, cCall, cCons, cFor, forL, cEnum, dEnum, cTg, cLc, lcL, wipeC, cWalk, dWalk, cNever, cSetTp, putAll, bLen, ih]
theorem putD_nil (f : Str) (d : D) : putD f d [] = [(f, d)] := rfl
theorem s_lcT (rs : List (List Int)) : ∀ (ds : List D) (acc : List D) (c : CS), c.sl.length = 4 → acc.length + rs.length ≤ 1000 → RowsIn rs ds →
    ∃ c', lcL (.nm 3) (M.ret true) ((cCons (cVar 3) (M.ret [])).bind bTuple) [3] ds acc c = .ok (acc ++ rs.map rowD) c' ∧ c'.S = c.S ∧ c'.sl.length = 4 ∧ c'.sl.take 3 = c.sl.take 3 := by
  induction rs with
  | nil => intro ds acc c h _ hf; cases hf; exact ⟨c, by simp [M.bind, M.ret, R.bind, cSeq, cRet, cVar, cOp, cAnd, cOr, cNot, cIf, cAndT, cOrT, cNotT, asB, cB, cNext, cIfS, cSet, CS.put, cChain, dLe, dLt, dGt, dGe, dI2, startC, outF, fnB, cIsi, CS.knOf, tyB, isKn, isTy, M.guard, cTru, dTru, liftF, cCall, cCons, cFor, forL, cEnum, dEnum, cTg, cLc, lcL, wipeC, cWalk, dWalk, cNever, cSetTp, putAll, bLen], rfl, h, rfl⟩
  | cons r rs ih =>
    intro ds acc c h hl hf
    cases hf with
    | @cons _ d _ ds hd hf =>
      obtain ⟨sl, S⟩ := c
      match sl, h with
      | [a, b, x, e], _ =>
        obtain ⟨c', e1, e2, e3, e4⟩ := ih ds (acc ++ [rowD r]) ⟨[a, b, x, .no], S⟩ rfl (by simp [M.bind, M.ret, R.bind, cSeq, cRet, cVar, cOp, cAnd, cOr, cNot, cIf, cAndT, cOrT, cNotT, asB, cB, cNext, cIfS, cSet, CS.put, cChain, dLe, dLt, dGt, dGe, dI2, startC, outF, fnB, cIsi, CS.knOf, tyB, isKn, isTy, M.guard, cTru, dTru, liftF, cCall, cCons, cFor, forL, cEnum, dEnum, cTg, cLc, lcL, wipeC, cWalk, dWalk, cNever, cSetTp, putAll, bLen] at hl ⊢; omega) hf
        refine ⟨c', ?_, e2, e3, e4⟩
        have hz : acc.length < sizeLine := Nat.lt_of_lt_of_le (by simp [M.bind, M.ret, R.bind, cSeq, cRet, cVar, cOp, cAnd, cOr, cNot, cIf, cAndT, cOrT, cNotT, asB, cB, cNext, cIfS, cSet, CS.put, cChain, dLe, dLt, dGt, dGe, dI2, startC, outF, fnB, cIsi, CS.knOf, tyB, isKn, isTy, M.guard, cTru, dTru, liftF, cCall, cCons, cFor, forL, cEnum, dEnum, cTg, cLc, lcL, wipeC, cWalk, dWalk, cNever, cSetTp, putAll, bLen] at hl; omega : acc.length < 1001) (by decide)
        rcases hd with rfl | rfl
        · simp [M.bind, M.ret, R.bind, cSeq, cRet, cVar, cOp, cAnd, cOr, cNot, cIf, cAndT, cOrT, cNotT, asB, cB, cNext, cIfS, cSet, CS.put, cChain, dLe, dLt, dGt, dGe, dI2, startC, outF, fnB, cIsi, CS.knOf, tyB, isKn, isTy, M.guard, cTru, dTru, liftF, cCall, cCons, cFor, forL, cEnum, dEnum, cTg, cLc, lcL, wipeC, cWalk, dWalk, cNever, cSetTp, putAll, bLen, rowD, bTuple, hz] at e1 ⊢
          exact e1
        · simp [M.bind, M.ret, R.bind, cSeq, cRet, cVar, cOp, cAnd, cOr, cNot, cIf, cAndT, cOrT, cNotT, asB, cB, cNext, cIfS, cSet, CS.put, cChain, dLe, dLt, dGt, dGe, dI2, startC, outF, fnB, cIsi, CS.knOf, tyB, isKn, isTy, M.guard, cTru, dTru, liftF, cCall, cCons, cFor, forL, cEnum, dEnum, cTg, cLc, lcL, wipeC, cWalk, dWalk, cNever, cSetTp, putAll, bLen, rowD, bTuple, hz, CS.seqL] at e1 ⊢
          exact e1
theorem s_init (rs : List (List Int)) (ds : List D) (S : List O) (h1 : 1 ≤ rs.length) (h4 : rs.length ≤ 4) (h : ∀ r ∈ rs, RowOk r) (hf : RowsIn rs ds) : fn_Chain__init ds S = .ok (chD rs) S := by
  have hl : ds.length = rs.length := hf.length
  have hz : szOk ds.length = true := szOk_small (by omega)
  obtain ⟨c', e1, e2, e3, e4⟩ := s_lcT rs ds [] ⟨[.own (.ins 0 []), .val (.tup ds), .no, .no], S⟩ rfl (by simp [M.bind, M.ret, R.bind, cSeq, cRet, cVar, cOp, cAnd, cOr, cNot, cIf, cAndT, cOrT, cNotT, asB, cB, cNext, cIfS, cSet, CS.put, cChain, dLe, dLt, dGt, dGe, dI2, startC, outF, fnB, cIsi, CS.knOf, tyB, isKn, isTy, M.guard, cTru, dTru, liftF, cCall, cCons, cFor, forL, cEnum, dEnum, cTg, cLc, lcL, wipeC, cWalk, dWalk, cNever, cSetTp, putAll, bLen]; omega) hf
  have ck := s_check rs S h1 h4 h
  obtain ⟨sl, S'⟩ := c'
  match sl, e3 with
  | [a, b, x, y], _ =>
    simp [M.bind, M.ret, R.bind, cSeq, cRet, cVar, cOp, cAnd, cOr, cNot, cIf, cAndT, cOrT, cNotT, asB, cB, cNext, cIfS, cSet, CS.put, cChain, dLe, dLt, dGt, dGe, dI2, startC, outF, fnB, cIsi, CS.knOf, tyB, isKn, isTy, M.guard, cTru, dTru, liftF, cCall, cCons, cFor, forL, cEnum, dEnum, cTg, cLc, lcL, wipeC, cWalk, dWalk, cNever, cSetTp, putAll, bLen] at e4 e2
    obtain ⟨rfl, rfl, rfl⟩ := e4
    subst e2
    unfold fn_Chain__init fnStar mkB cl_Chain__init
    simp [M.bind, M.ret, R.bind, cSeq, cRet, cVar, cOp, cAnd, cOr, cNot, cIf, cAndT, cOrT, cNotT, asB, cB, cNext, cIfS, cSet, CS.put, cChain, dLe, dLt, dGt, dGe, dI2, startC, outF, fnB, cIsi, CS.knOf, tyB, isKn, isTy, M.guard, cTru, dTru, liftF, cCall, cCons, cFor, forL, cEnum, dEnum, cTg, cLc, wipeC, cWalk, dWalk, cNever, cSetTp, putAll, bLen, hz, startM, froz, cDrop, cSetF, CS.pi, CS.wi, outM] at e1 ⊢
    rw [e1]
    simp [M.bind, M.ret, R.bind, cSeq, cRet, cVar, cOp, cAnd, cOr, cNot, cIf, cAndT, cOrT, cNotT, asB, cB, cNext, cIfS, cSet, CS.put, cChain, dLe, dLt, dGt, dGe, dI2, startC, outF, fnB, cIsi, CS.knOf, tyB, isKn, isTy, M.guard, cTru, dTru, liftF, cCall, cCons, cFor, forL, cEnum, dEnum, cTg, cLc, lcL, wipeC, cWalk, dWalk, cNever, cSetTp, putAll, bLen, bTuple, CS.seqL, ck, Pi.fs, chD, putD_nil]
end K02
namespace K02
open CL PySem
def pdR (r : List Int) : PyData := .tuple (r.map .int)
theorem toPs_int (r : List Int) : toPs (r.map D.int) = some (r.map PyData.int) := by
  induction r with
  | nil => simp [M.bind, M.ret, R.bind, cSeq, cRet, cVar, cOp, cAnd, cOr, cNot, cIf, cAndT, cOrT, cNotT, asB, cB, cNext, cIfS, cSet, CS.put, cChain, dLe, dLt, dGt, dGe, dI2, startC, outF, fnB, cIsi, CS.knOf, tyB, isKn, isTy, M.guard, cTru, dTru, liftF, cCall, cCons, cFor, forL, cEnum, dEnum, cTg, cLc, lcL, wipeC, cWalk, dWalk, cNever, cSetTp, putAll, bLen, toPs]
  | cons x r ih => simp [M.bind, M.ret, R.bind, cSeq, cRet, cVar, cOp, cAnd, cOr, cNot, cIf, cAndT, cOrT, cNotT, asB, cB, cNext, cIfS, cSet, CS.put, cChain, dLe, dLt, dGt, dGe, dI2, startC, outF, fnB, cIsi, CS.knOf, tyB, isKn, isTy, M.guard, cTru, dTru, liftF, cCall, cCons, cFor, forL, cEnum, dEnum, cTg, cLc, lcL, wipeC, cWalk, dWalk, cNever, cSetTp, putAll, bLen, toPs, toP, ih]
theorem toP_row (r : List Int) : toP (rowD r) = some (pdR r) := by
  unfold rowD pdR
  simp [M.bind, M.ret, R.bind, cSeq, cRet, cVar, cOp, cAnd, cOr, cNot, cIf, cAndT, cOrT, cNotT, asB, cB, cNext, cIfS, cSet, CS.put, cChain, dLe, dLt, dGt, dGe, dI2, startC, outF, fnB, cIsi, CS.knOf, tyB, isKn, isTy, M.guard, cTru, dTru, liftF, cCall, cCons, cFor, forL, cEnum, dEnum, cTg, cLc, lcL, wipeC, cWalk, dWalk, cNever, cSetTp, putAll, bLen, toP, toPs_int]
theorem toPs_rows (rs : List (List Int)) : toPs (rs.map rowD) = some (rs.map pdR) := by
  induction rs with
  | nil => simp [M.bind, M.ret, R.bind, cSeq, cRet, cVar, cOp, cAnd, cOr, cNot, cIf, cAndT, cOrT, cNotT, asB, cB, cNext, cIfS, cSet, CS.put, cChain, dLe, dLt, dGt, dGe, dI2, startC, outF, fnB, cIsi, CS.knOf, tyB, isKn, isTy, M.guard, cTru, dTru, liftF, cCall, cCons, cFor, forL, cEnum, dEnum, cTg, cLc, lcL, wipeC, cWalk, dWalk, cNever, cSetTp, putAll, bLen, toPs]
  | cons x r ih => simp [M.bind, M.ret, R.bind, cSeq, cRet, cVar, cOp, cAnd, cOr, cNot, cIf, cAndT, cOrT, cNotT, asB, cB, cNext, cIfS, cSet, CS.put, cChain, dLe, dLt, dGt, dGe, dI2, startC, outF, fnB, cIsi, CS.knOf, tyB, isKn, isTy, M.guard, cTru, dTru, liftF, cCall, cCons, cFor, forL, cEnum, dEnum, cTg, cLc, lcL, wipeC, cWalk, dWalk, cNever, cSetTp, putAll, bLen, toPs, toP_row, ih]
theorem eqv_ints (a b : List Int) : PyData.eqvAll (a.map PyData.int) (b.map PyData.int) = decide (a = b) := by
  induction a generalizing b with
  | nil => cases b <;> simp [M.bind, M.ret, R.bind, cSeq, cRet, cVar, cOp, cAnd, cOr, cNot, cIf, cAndT, cOrT, cNotT, asB, cB, cNext, cIfS, cSet, CS.put, cChain, dLe, dLt, dGt, dGe, dI2, startC, outF, fnB, cIsi, CS.knOf, tyB, isKn, isTy, M.guard, cTru, dTru, liftF, cCall, cCons, cFor, forL, cEnum, dEnum, cTg, cLc, lcL, wipeC, cWalk, dWalk, cNever, cSetTp, putAll, bLen, PyData.eqvAll]
  | cons x a ih =>
    cases b with
    | nil => simp [M.bind, M.ret, R.bind, cSeq, cRet, cVar, cOp, cAnd, cOr, cNot, cIf, cAndT, cOrT, cNotT, asB, cB, cNext, cIfS, cSet, CS.put, cChain, dLe, dLt, dGt, dGe, dI2, startC, outF, fnB, cIsi, CS.knOf, tyB, isKn, isTy, M.guard, cTru, dTru, liftF, cCall, cCons, cFor, forL, cEnum, dEnum, cTg, cLc, lcL, wipeC, cWalk, dWalk, cNever, cSetTp, putAll, bLen, PyData.eqvAll]
    | cons y b => 
      simp [M.bind, M.ret, R.bind, cSeq, cRet, cVar, cOp, cAnd, cOr, cNot, cIf, cAndT, cOrT, cNotT, asB, cB, cNext, cIfS, cSet, CS.put, cChain, dLe, dLt, dGt, dGe, dI2, startC, outF, fnB, cIsi, CS.knOf, tyB, isKn, isTy, M.guard, cTru, dTru, liftF, cCall, cCons, cFor, forL, cEnum, dEnum, cTg, cLc, lcL, wipeC, cWalk, dWalk, cNever, cSetTp, putAll, bLen, PyData.eqvAll, PyData.eqv, ih, Bool.decide_and]
      by_cases h : x = y <;> simp [M.bind, M.ret, R.bind, cSeq, cRet, cVar, cOp, cAnd, cOr, cNot, cIf, cAndT, cOrT, cNotT, asB, cB, cNext, cIfS, cSet, CS.put, cChain, dLe, dLt, dGt, dGe, dI2, startC, outF, fnB, cIsi, CS.knOf, tyB, isKn, isTy, M.guard, cTru, dTru, liftF, cCall, cCons, cFor, forL, cEnum, dEnum, cTg, cLc, lcL, wipeC, cWalk, dWalk, cNever, cSetTp, putAll, bLen, h]
theorem eqv_rows (a b : List (List Int)) : PyData.eqvAll (a.map pdR) (b.map pdR) = decide (a = b) := by
  induction a generalizing b with
  | nil => cases b <;> simp [M.bind, M.ret, R.bind, cSeq, cRet, cVar, cOp, cAnd, cOr, cNot, cIf, cAndT, cOrT, cNotT, asB, cB, cNext, cIfS, cSet, CS.put, cChain, dLe, dLt, dGt, dGe, dI2, startC, outF, fnB, cIsi, CS.knOf, tyB, isKn, isTy, M.guard, cTru, dTru, liftF, cCall, cCons, cFor, forL, cEnum, dEnum, cTg, cLc, lcL, wipeC, cWalk, dWalk, cNever, cSetTp, putAll, bLen, PyData.eqvAll]
  | cons x a ih =>
    cases b with
    | nil => simp [M.bind, M.ret, R.bind, cSeq, cRet, cVar, cOp, cAnd, cOr, cNot, cIf, cAndT, cOrT, cNotT, asB, cB, cNext, cIfS, cSet, CS.put, cChain, dLe, dLt, dGt, dGe, dI2, startC, outF, fnB, cIsi, CS.knOf, tyB, isKn, isTy, M.guard, cTru, dTru, liftF, cCall, cCons, cFor, forL, cEnum, dEnum, cTg, cLc, lcL, wipeC, cWalk, dWalk, cNever, cSetTp, putAll, bLen, PyData.eqvAll]
    | cons y b => simp [M.bind, M.ret, R.bind, cSeq, cRet, cVar, cOp, cAnd, cOr, cNot, cIf, cAndT, cOrT, cNotT, asB, cB, cNext, cIfS, cSet, CS.put, cChain, dLe, dLt, dGt, dGe, dI2, startC, outF, fnB, cIsi, CS.knOf, tyB, isKn, isTy, M.guard, cTru, dTru, liftF, cCall, cCons, cFor, forL, cEnum, dEnum, cTg, cLc, lcL, wipeC, cWalk, dWalk, cNever, cSetTp, putAll, bLen, PyData.eqvAll, PyData.eqv, pdR, eqv_ints, Bool.decide_and] at ih ⊢; simp [M.bind, M.ret, R.bind, cSeq, cRet, cVar, cOp, cAnd, cOr, cNot, cIf, cAndT, cOrT, cNotT, asB, cB, cNext, cIfS, cSet, CS.put, cChain, dLe, dLt, dGt, dGe, dI2, startC, outF, fnB, cIsi, CS.knOf, tyB, isKn, isTy, M.guard, cTru, dTru, liftF, cCall, cCons, cFor, forL, cEnum, dEnum, cTg, cLc, lcL, wipeC, cWalk, dWalk, cNever, cSetTp, putAll, bLen, ih]
theorem lay_ints (a : List Int) : PyData.canLayAll0 (a.map PyData.int) = true := by
  induction a with
  | nil => simp [M.bind, M.ret, R.bind, cSeq, cRet, cVar, cOp, cAnd, cOr, cNot, cIf, cAndT, cOrT, cNotT, asB, cB, cNext, cIfS, cSet, CS.put, cChain, dLe, dLt, dGt, dGe, dI2, startC, outF, fnB, cIsi, CS.knOf, tyB, isKn, isTy, M.guard, cTru, dTru, liftF, cCall, cCons, cFor, forL, cEnum, dEnum, cTg, cLc, lcL, wipeC, cWalk, dWalk, cNever, cSetTp, putAll, bLen, PyData.canLayAll0]
  | cons x a ih => simp [M.bind, M.ret, R.bind, cSeq, cRet, cVar, cOp, cAnd, cOr, cNot, cIf, cAndT, cOrT, cNotT, asB, cB, cNext, cIfS, cSet, CS.put, cChain, dLe, dLt, dGt, dGe, dI2, startC, outF, fnB, cIsi, CS.knOf, tyB, isKn, isTy, M.guard, cTru, dTru, liftF, cCall, cCons, cFor, forL, cEnum, dEnum, cTg, cLc, lcL, wipeC, cWalk, dWalk, cNever, cSetTp, putAll, bLen, PyData.canLayAll0, PyData.canLay0, ih]
theorem lay_rows (a : List (List Int)) : PyData.canLayAll0 (a.map pdR) = true := by
  induction a with
  | nil => simp [M.bind, M.ret, R.bind, cSeq, cRet, cVar, cOp, cAnd, cOr, cNot, cIf, cAndT, cOrT, cNotT, asB, cB, cNext, cIfS, cSet, CS.put, cChain, dLe, dLt, dGt, dGe, dI2, startC, outF, fnB, cIsi, CS.knOf, tyB, isKn, isTy, M.guard, cTru, dTru, liftF, cCall, cCons, cFor, forL, cEnum, dEnum, cTg, cLc, lcL, wipeC, cWalk, dWalk, cNever, cSetTp, putAll, bLen, PyData.canLayAll0]
  | cons x a ih => simp [M.bind, M.ret, R.bind, cSeq, cRet, cVar, cOp, cAnd, cOr, cNot, cIf, cAndT, cOrT, cNotT, asB, cB, cNext, cIfS, cSet, CS.put, cChain, dLe, dLt, dGt, dGe, dI2, startC, outF, fnB, cIsi, CS.knOf, tyB, isKn, isTy, M.guard, cTru, dTru, liftF, cCall, cCons, cFor, forL, cEnum, dEnum, cTg, cLc, lcL, wipeC, cWalk, dWalk, cNever, cSetTp, putAll, bLen, PyData.canLayAll0, PyData.canLay0, pdR, lay_ints] at ih ⊢; simp [M.bind, M.ret, R.bind, cSeq, cRet, cVar, cOp, cAnd, cOr, cNot, cIf, cAndT, cOrT, cNotT, asB, cB, cNext, cIfS, cSet, CS.put, cChain, dLe, dLt, dGt, dGe, dI2, startC, outF, fnB, cIsi, CS.knOf, tyB, isKn, isTy, M.guard, cTru, dTru, liftF, cCall, cCons, cFor, forL, cEnum, dEnum, cTg, cLc, lcL, wipeC, cWalk, dWalk, cNever, cSetTp, putAll, bLen, ih]
theorem dep_ints (a : List Int) : PyData.depthAll (a.map PyData.int) ≤ 1 := by
  induction a with
  | nil => simp [M.bind, M.ret, R.bind, cSeq, cRet, cVar, cOp, cAnd, cOr, cNot, cIf, cAndT, cOrT, cNotT, asB, cB, cNext, cIfS, cSet, CS.put, cChain, dLe, dLt, dGt, dGe, dI2, startC, outF, fnB, cIsi, CS.knOf, tyB, isKn, isTy, M.guard, cTru, dTru, liftF, cCall, cCons, cFor, forL, cEnum, dEnum, cTg, cLc, lcL, wipeC, cWalk, dWalk, cNever, cSetTp, putAll, bLen, PyData.depthAll]
  | cons x a ih => simp [M.bind, M.ret, R.bind, cSeq, cRet, cVar, cOp, cAnd, cOr, cNot, cIf, cAndT, cOrT, cNotT, asB, cB, cNext, cIfS, cSet, CS.put, cChain, dLe, dLt, dGt, dGe, dI2, startC, outF, fnB, cIsi, CS.knOf, tyB, isKn, isTy, M.guard, cTru, dTru, liftF, cCall, cCons, cFor, forL, cEnum, dEnum, cTg, cLc, lcL, wipeC, cWalk, dWalk, cNever, cSetTp, putAll, bLen, PyData.depthAll, PyData.depth]; omega
theorem dep_rows (a : List (List Int)) : PyData.depthAll (a.map pdR) ≤ 2 := by
  induction a with
  | nil => simp [M.bind, M.ret, R.bind, cSeq, cRet, cVar, cOp, cAnd, cOr, cNot, cIf, cAndT, cOrT, cNotT, asB, cB, cNext, cIfS, cSet, CS.put, cChain, dLe, dLt, dGt, dGe, dI2, startC, outF, fnB, cIsi, CS.knOf, tyB, isKn, isTy, M.guard, cTru, dTru, liftF, cCall, cCons, cFor, forL, cEnum, dEnum, cTg, cLc, lcL, wipeC, cWalk, dWalk, cNever, cSetTp, putAll, bLen, PyData.depthAll]
  | cons x a ih =>
    have := dep_ints x
    simp [M.bind, M.ret, R.bind, cSeq, cRet, cVar, cOp, cAnd, cOr, cNot, cIf, cAndT, cOrT, cNotT, asB, cB, cNext, cIfS, cSet, CS.put, cChain, dLe, dLt, dGt, dGe, dI2, startC, outF, fnB, cIsi, CS.knOf, tyB, isKn, isTy, M.guard, cTru, dTru, liftF, cCall, cCons, cFor, forL, cEnum, dEnum, cTg, cLc, lcL, wipeC, cWalk, dWalk, cNever, cSetTp, putAll, bLen, PyData.depthAll, PyData.depth, pdR] at ih ⊢
    omega
theorem shp_rows (a : List (List Int)) : SeqAt.shaped (.tuple (a.map pdR)) = true := by
  have h := dep_rows a
  unfold SeqAt.shaped
  simp [M.bind, M.ret, R.bind, cSeq, cRet, cVar, cOp, cAnd, cOr, cNot, cIf, cAndT, cOrT, cNotT, asB, cB, cNext, cIfS, cSet, CS.put, cChain, dLe, dLt, dGt, dGe, dI2, startC, outF, fnB, cIsi, CS.knOf, tyB, isKn, isTy, M.guard, cTru, dTru, liftF, cCall, cCons, cFor, forL, cEnum, dEnum, cTg, cLc, lcL, wipeC, cWalk, dWalk, cNever, cSetTp, putAll, bLen, PyData.canLay0, lay_rows, PyData.depth]
  omega
theorem s_dEq (a b : List (List Int)) (c : CS) : dEq (.tup (a.map rowD)) (.tup (b.map rowD)) c = .ok (.bl (decide (a = b))) c := by
  simp [M.bind, M.ret, R.bind, cSeq, cRet, cVar, cOp, cAnd, cOr, cNot, cIf, cAndT, cOrT, cNotT, asB, cB, cNext, cIfS, cSet, CS.put, cChain, dLe, dLt, dGt, dGe, dI2, startC, outF, fnB, cIsi, CS.knOf, tyB, isKn, isTy, M.guard, cTru, dTru, liftF, cCall, cCons, cFor, forL, cEnum, dEnum, cTg, cLc, lcL, wipeC, cWalk, dWalk, cNever, cSetTp, putAll, bLen, dEq, dP2, toP, toPs_rows, shp_rows, PyData.eqv, eqv_rows]

theorem fld_ch (rs : List (List Int)) (c : CS) : c.fld 0 0 "_rows" (chD rs) = some (.tup (rs.map rowD)) := rfl
theorem has_ch (rs : List (List Int)) (c : CS) (mn : Str) : c.has 0 mn (chD rs) = true := rfl
theorem kn_ch (rs : List (List Int)) (c : CS) : c.knOf (chD rs) = some (.cl 0) := rfl
theorem s_seg (rs : List (List Int)) (S : List O) : fn_Chain_segments [chD rs] S = .ok (.tup (rs.map rowD)) S := rfl
theorem s_eq (a b : List (List Int)) (S : List O) : fn_Chain__eq [chD a, chD b] S = .ok (.bl (decide (a = b))) S := by
  have e := s_dEq a b ⟨[.val (chD a), .val (chD b)], S⟩
  simp [M.bind, M.ret, R.bind, cSeq, cRet, cVar, cOp, cAnd, cOr, cNot, cIf, cAndT, cOrT, cNotT, asB, cB, cNext, cIfS, cSet, CS.put, cChain, dLe, dLt, dGt, dGe, startC, outF, fnB, cIsi, CS.knOf, tyB, isKn, isTy, M.guard, cTru, dTru, liftF, cCall, cCons, cFor, forL, cEnum, dEnum, cTg, cLc, lcL, wipeC, cWalk, dWalk, cNever, cSetTp, putAll, bLen, cFld, CS.fld, cProp, noExc, CS.clsOf, fn_Chain__eq, cl_Chain__eq, kn_ch] at e ⊢
  simp [M.bind, M.ret, R.bind, cSeq, cRet, cVar, cOp, cAnd, cOr, cNot, cIf, cAndT, cOrT, cNotT, asB, cB, cNext, cIfS, cSet, CS.put, cChain, dLe, dLt, dGt, dGe, dI2, startC, outF, fnB, cIsi, CS.knOf, tyB, isKn, isTy, M.guard, cTru, dTru, liftF, cCall, cCons, cFor, forL, cEnum, dEnum, cTg, cLc, lcL, wipeC, cWalk, dWalk, cNever, cSetTp, putAll, bLen, cFld, CS.fld, cProp, noExc, CS.clsOf, chD] at e ⊢
  first | (rw [e]; done) | (rw [e]; rfl)
/-- a chain that may be made -/
def ChOk (rs : List (List Int)) : Prop := 1 ≤ rs.length ∧ rs.length ≤ 4 ∧ ∀ r ∈ rs, RowOk r
theorem rowsIn_rows (rs : List (List Int)) : RowsIn rs (rs.map rowD) := by
  induction rs with
  | nil => exact .nil
  | cons r rs ih => exact .cons (.inl rfl) ih
theorem s_make (rs : List (List Int)) (S : List O) (h : ChOk rs) : fn_Chain__init (rs.map rowD) S = .ok (chD rs) S := s_init rs _ S h.1 h.2.1 h.2.2 (rowsIn_rows rs)


theorem shp_int (i : Int) : SeqAt.shaped (.int i) = true := by
  unfold SeqAt.shaped
  simp [M.bind, M.ret, R.bind, cSeq, cRet, cVar, cOp, cAnd, cOr, cNot, cIf, cAndT, cOrT, cNotT, asB, cB, cNext, cIfS, cSet, CS.put, cChain, dLe, dLt, dGt, dGe, dI2, startC, outF, fnB, cIsi, CS.knOf, tyB, isKn, isTy, M.guard, cTru, dTru, liftF, cCall, cCons, cFor, forL, cEnum, dEnum, cTg, cLc, lcL, wipeC, cWalk, dWalk, cNever, cSetTp, putAll, bLen, cFld, CS.fld, cProp, noExc, CS.clsOf, cCallS, dItems, cLenP, cIxP, CS.see, cApp, CS.pl, CS.wr, Pl.xs, dNeg, PyData.canLay0, PyData.depth]
theorem dEq_int (i j : Int) (c : CS) : dEq (.int i) (.int j) c = .ok (.bl (decide (i = j))) c := by
  simp [M.bind, M.ret, R.bind, cSeq, cRet, cVar, cOp, cAnd, cOr, cNot, cIf, cAndT, cOrT, cNotT, asB, cB, cNext, cIfS, cSet, CS.put, cChain, dLe, dLt, dGt, dGe, dI2, startC, outF, fnB, cIsi, CS.knOf, tyB, isKn, isTy, M.guard, cTru, dTru, liftF, cCall, cCons, cFor, forL, cEnum, dEnum, cTg, cLc, lcL, wipeC, cWalk, dWalk, cNever, cSetTp, putAll, bLen, cFld, CS.fld, cProp, noExc, CS.clsOf, cCallS, dItems, cLenP, cIxP, CS.see, cApp, CS.pl, CS.wr, Pl.xs, dNeg, dEq, dP2, toP, shp_int, PyData.eqv]
  by_cases h : i = j <;> simp [M.bind, M.ret, R.bind, cSeq, cRet, cVar, cOp, cAnd, cOr, cNot, cIf, cAndT, cOrT, cNotT, asB, cB, cNext, cIfS, cSet, CS.put, cChain, dLe, dLt, dGt, dGe, dI2, startC, outF, fnB, cIsi, CS.knOf, tyB, isKn, isTy, M.guard, cTru, dTru, liftF, cCall, cCons, cFor, forL, cEnum, dEnum, cTg, cLc, lcL, wipeC, cWalk, dWalk, cNever, cSetTp, putAll, bLen, cFld, CS.fld, cProp, noExc, CS.clsOf, cCallS, dItems, cLenP, cIxP, CS.see, cApp, CS.pl, CS.wr, Pl.xs, dNeg, h]
end K02
namespace K02
open CL PySem
/-- the tape -/
def tpS (xs : List Int) (a b c : Int) : List O := [.lst [.lst (xs.map .int), .int a, .int b, .int c]]
def TapeOk (S : List O) : Prop := ∃ (xs : List Int) (a : Nat) (b c : Int), S = tpS xs a b c ∧ xs.length ≤ 63 ∧ 0 ≤ b ∧ 0 ≤ c ∧ c < 2147483587

theorem s_tape (ns : List Int) (h : ns.length ≤ 63) : fn_law_tape [.scr ns] [] = .ok (.ref 0) (tpS ns 0 0 3815) := by
  have z4 : szOk 4 = true := szOk_small (by omega)
  have e : ∀ (zs : List D), zs.length = ns.length → ((zs.drop (HT.sIx ns.length 0 none)).take (HT.sIx ns.length ns.length (some 63) - HT.sIx ns.length 0 none)) = zs := by
    intro zs hz
    have e1 : HT.sIx ns.length 0 none = 0 := rfl
    have e2 : HT.sIx ns.length ns.length (some 63) = ns.length := by
      show (if (63 : Int) < 0 then ((63 : Int) + (ns.length : Int)).toNat else min (63 : Int).toNat ns.length) = _
      rw [if_neg (by omega)]
      exact Nat.min_eq_right (by simpa using h)
    rw [e1, e2]
    simp [M.bind, M.ret, R.bind, cSeq, cRet, cVar, cOp, cAnd, cOr, cNot, cIf, cAndT, cOrT, cNotT, asB, cB, cNext, cIfS, cSet, CS.put, cChain, dLe, dLt, dGt, dGe, dI2, startC, outF, fnB, cIsi, CS.knOf, tyB, isKn, isTy, M.guard, cTru, dTru, liftF, cCall, cCons, cFor, forL, cEnum, dEnum, cTg, cLc, lcL, wipeC, cWalk, dWalk, cNever, cSetTp, putAll, bLen, cFld, CS.fld, cProp, noExc, CS.clsOf, cCallS, dItems, cLenP, cIxP, CS.see, cApp, CS.pl, CS.wr, Pl.xs, dNeg, cSetIx, cStore, froz, cLst, cCutL, dCutL, cNoPart, cPart, dPart, CS.seqL, bList, M.opt, ← hz]
  simp [M.bind, M.ret, R.bind, cSeq, cRet, cVar, cOp, cAnd, cOr, cNot, cIf, cAndT, cOrT, cNotT, asB, cB, cNext, cIfS, cSet, CS.put, cChain, dLe, dLt, dGt, dGe, dI2, startC, outF, fnB, cIsi, CS.knOf, tyB, isKn, isTy, M.guard, cTru, dTru, liftF, cCall, cCons, cFor, forL, cEnum, dEnum, cTg, cLc, lcL, wipeC, cWalk, dWalk, cNever, cSetTp, putAll, bLen, cFld, CS.fld, cProp, noExc, CS.clsOf, cCallS, dItems, cLenP, cIxP, CS.see, cApp, CS.pl, CS.wr, Pl.xs, dNeg, cSetIx, cStore, froz, cLst, cCutL, dCutL, cNoPart, cPart, dPart, CS.seqL, bList, M.opt, fn_law_tape, cl_law_tape, z4, tpS] at e ⊢
  exact e _ (by simp [M.bind, M.ret, R.bind, cSeq, cRet, cVar, cOp, cAnd, cOr, cNot, cIf, cAndT, cOrT, cNotT, asB, cB, cNext, cIfS, cSet, CS.put, cChain, dLe, dLt, dGt, dGe, dI2, startC, outF, fnB, cIsi, CS.knOf, tyB, isKn, isTy, M.guard, cTru, dTru, liftF, cCall, cCons, cFor, forL, cEnum, dEnum, cTg, cLc, lcL, wipeC, cWalk, dWalk, cNever, cSetTp, putAll, bLen, cFld, CS.fld, cProp, noExc, CS.clsOf, cCallS, dItems, cLenP, cIxP, CS.see, cApp, CS.pl, CS.wr, Pl.xs, dNeg, cSetIx, cStore, froz, cLst, cCutL, dCutL, cNoPart, cPart, dPart, CS.seqL, bList, M.opt])
theorem ix0 (xs : List Int) (a b c : Int) : L2.atI [D.lst (xs.map .int), .int a, .int b, .int c] 0 = some (.lst (xs.map .int)) := rfl
theorem ix1 (xs : List Int) (a b c : Int) : L2.atI [D.lst (xs.map .int), .int a, .int b, .int c] 1 = some (.int a) := rfl
theorem ix2 (xs : List Int) (a b c : Int) : L2.atI [D.lst (xs.map .int), .int a, .int b, .int c] 2 = some (.int b) := rfl
theorem ix3 (xs : List Int) (a b c : Int) : L2.atI [D.lst (xs.map .int), .int a, .int b, .int c] 3 = some (.int c) := rfl
/-- the first part of a pick: a cell is read -/
abbrev pkA : M Fl := (cIfS (cAndT (asB (cOp dEq (cOp dIx (cVar 0) (M.ret (.int 2))) (M.ret (.int 0)))) (asB (cOp dLt (cOp dIx (cVar 0) (M.ret (.int 1))) ((cCons (cOp dIx (cVar 0) (M.ret (.int 0))) (M.ret [])).bind bLen)))) (cSeq (cSet 2 (cOp dIx (cOp dIx (cVar 0) (M.ret (.int 0))) (cOp dIx (cVar 0) (M.ret (.int 1)))))
  (cSeq (cSetIx 0 (M.ret (.int 1)) (cOp dAdd (cOp dIx (cVar 0) (M.ret (.int 1))) (M.ret (.int 1))))
  (cSeq (cIfS (asB (cOp dGe (cVar 2) (cOp dPow (M.ret (.int 10)) (M.ret (.int 18))))) (cSeq (cSetIx 0 (M.ret (.int 2)) (cVar 2))
  cNext) (cSeq (cSetIx 0 (M.ret (.int 3)) (cOp dMod (cOp dAdd (cOp dAdd (cOp dMul (cOp dIx (cVar 0) (M.ret (.int 3))) (M.ret (.int 48611))) (cOp dMul (cOp dMod (cVar 2) (M.ret (.int 2147483549))) (M.ret (.int 389)))) (M.ret (.int 41))) (M.ret (.int 2147483587))))
  cNext))
  cNext))) cNext)
theorem dP_int (i j : Int) (c : CS) : dP2 (fun p q => .bl (PyData.eqv p q)) (.int i) (.int j) c = .ok (.bl (decide (i = j))) c := dEq_int i j c
theorem ixN4 : L2.ixN 4 1 = some 1 ∧ L2.ixN 4 2 = some 2 ∧ L2.ixN 4 3 = some 3 := ⟨rfl, rfl, rfl⟩
theorem s_pkA (many : Int) (xs : List Int) (a : Nat) (b c : Int) (hl : xs.length ≤ 63) (hb : 0 ≤ b) (hc : 0 ≤ c) (hc2 : c < 2147483587) :
    ∃ y a' b' c', pkA ⟨[.val (.ref 0), .val (.int many), .no, .no, .no], tpS xs a b c⟩ = .ok .next ⟨[.val (.ref 0), .val (.int many), y, .no, .no], tpS xs (a' : Nat) b' c'⟩ ∧ 0 ≤ b' ∧ 0 ≤ c' ∧ c' < 2147483587 := by
  have zl : szOk xs.length = true := szOk_small (by omega)
  by_cases h2 : b = 0
  · subst h2
    by_cases h1 : (a : Int) < xs.length
    · have ha : a < xs.length := by omega
      have hx : L2.atI (xs.map D.int) (a : Int) = some (.int xs[a]) := by
        unfold L2.atI L2.ixN
        rw [if_pos (by omega), if_pos (by simp [M.bind, M.ret, R.bind, cSeq, cRet, cVar, cOp, cAnd, cOr, cNot, cIf, cAndT, cOrT, cNotT, asB, cB, cNext, cIfS, cSet, CS.put, cChain, dLe, dLt, dGt, dGe, dI2, startC, outF, fnB, cIsi, CS.knOf, tyB, isKn, isTy, M.guard, cTru, dTru, liftF, cCall, cCons, cFor, forL, cEnum, dEnum, cTg, cLc, lcL, wipeC, cWalk, dWalk, cNever, cSetTp, putAll, bLen, cFld, CS.fld, cProp, noExc, CS.clsOf, cCallS, dItems, cLenP, cIxP, CS.see, cApp, CS.pl, CS.wr, Pl.xs, dNeg, cSetIx, cStore, froz, cLst, cCutL, dCutL, cNoPart, cPart, dPart, CS.seqL, bList, M.opt]; omega)]
        simp [M.bind, M.ret, R.bind, cSeq, cRet, cVar, cOp, cAnd, cOr, cNot, cIf, cAndT, cOrT, cNotT, asB, cB, cNext, cIfS, cSet, CS.put, cChain, dLe, dLt, dGt, dGe, dI2, startC, outF, fnB, cIsi, CS.knOf, tyB, isKn, isTy, M.guard, cTru, dTru, liftF, cCall, cCons, cFor, forL, cEnum, dEnum, cTg, cLc, lcL, wipeC, cWalk, dWalk, cNever, cSetTp, putAll, bLen, cFld, CS.fld, cProp, noExc, CS.clsOf, cCallS, dItems, cLenP, cIxP, CS.see, cApp, CS.pl, CS.wr, Pl.xs, dNeg, cSetIx, cStore, froz, cLst, cCutL, dCutL, cNoPart, cPart, dPart, CS.seqL, bList, M.opt, ha]
      by_cases h3 : (1000000000000000000 : Int) ≤ xs[a]
      · refine ⟨.val (.int xs[a]), a + 1, xs[a], c, ?_, by omega, hc, hc2⟩
        simp [M.bind, M.ret, R.bind, cSeq, cRet, cVar, cOp, cAnd, cOr, cNot, cIf, cAndT, cOrT, cNotT, asB, cB, cNext, cIfS, cSet, CS.put, cChain, dLe, dLt, dGt, dGe, dI2, startC, outF, fnB, cIsi, CS.knOf, tyB, isKn, isTy, M.guard, cTru, dTru, liftF, cCall, cCons, cFor, forL, cEnum, dEnum, cTg, cLc, lcL, wipeC, cWalk, dWalk, cNever, cSetTp, putAll, bLen, cFld, CS.fld, cProp, noExc, CS.clsOf, cCallS, dItems, cLenP, cIxP, CS.see, cApp, CS.pl, CS.wr, Pl.xs, dNeg, cSetIx, cStore, froz, cLst, cCutL, dCutL, cNoPart, cPart, dPart, CS.seqL, bList, M.opt, dIx, tpS, ix0, ix1, ix2, ix3, dP_int, zl, h1, hx, dAdd, ixN4.1, ixN4.2.1, dPow, cPow, h3]
      · refine ⟨.val (.int xs[a]), a + 1, 0, (c * 48611 + xs[a] % 2147483549 * 389 + 41) % 2147483587, ?_, by omega, by omega, by omega⟩
        have m1 : cMul c 48611 = true := by unfold cMul; simp [M.bind, M.ret, R.bind, cSeq, cRet, cVar, cOp, cAnd, cOr, cNot, cIf, cAndT, cOrT, cNotT, asB, cB, cNext, cIfS, cSet, CS.put, cChain, dLe, dLt, dGt, dGe, dI2, startC, outF, fnB, cIsi, CS.knOf, tyB, isKn, isTy, M.guard, cTru, dTru, liftF, cCall, cCons, cFor, forL, cEnum, dEnum, cTg, cLc, lcL, wipeC, cWalk, dWalk, cNever, cSetTp, putAll, bLen, cFld, CS.fld, cProp, noExc, CS.clsOf, cCallS, dItems, cLenP, cIxP, CS.see, cApp, CS.pl, CS.wr, Pl.xs, dNeg, cSetIx, cStore, froz, cLst, cCutL, dCutL, cNoPart, cPart, dPart, CS.seqL, bList, M.opt]
        have m2 : cMul (xs[a] % 2147483549) 389 = true := by unfold cMul; simp [M.bind, M.ret, R.bind, cSeq, cRet, cVar, cOp, cAnd, cOr, cNot, cIf, cAndT, cOrT, cNotT, asB, cB, cNext, cIfS, cSet, CS.put, cChain, dLe, dLt, dGt, dGe, dI2, startC, outF, fnB, cIsi, CS.knOf, tyB, isKn, isTy, M.guard, cTru, dTru, liftF, cCall, cCons, cFor, forL, cEnum, dEnum, cTg, cLc, lcL, wipeC, cWalk, dWalk, cNever, cSetTp, putAll, bLen, cFld, CS.fld, cProp, noExc, CS.clsOf, cCallS, dItems, cLenP, cIxP, CS.see, cApp, CS.pl, CS.wr, Pl.xs, dNeg, cSetIx, cStore, froz, cLst, cCutL, dCutL, cNoPart, cPart, dPart, CS.seqL, bList, M.opt]
        simp [M.bind, M.ret, R.bind, cSeq, cRet, cVar, cOp, cAnd, cOr, cNot, cIf, cAndT, cOrT, cNotT, asB, cB, cNext, cIfS, cSet, CS.put, cChain, dLe, dLt, dGt, dGe, dI2, startC, outF, fnB, cIsi, CS.knOf, tyB, isKn, isTy, M.guard, cTru, dTru, liftF, cCall, cCons, cFor, forL, cEnum, dEnum, cTg, cLc, lcL, wipeC, cWalk, dWalk, cNever, cSetTp, putAll, bLen, cFld, CS.fld, cProp, noExc, CS.clsOf, cCallS, dItems, cLenP, cIxP, CS.see, cApp, CS.pl, CS.wr, Pl.xs, dNeg, cSetIx, cStore, froz, cLst, cCutL, dCutL, cNoPart, cPart, dPart, CS.seqL, bList, M.opt, dIx, tpS, ix0, ix1, ix2, ix3, dP_int, zl, h1, hx, dAdd, ixN4.1, ixN4.2.1, ixN4.2.2, dPow, cPow, h3, dMul, dMod, m1, m2]
    · refine ⟨.no, a, 0, c, ?_, by omega, hc, hc2⟩
      simp [M.bind, M.ret, R.bind, cSeq, cRet, cVar, cOp, cAnd, cOr, cNot, cIf, cAndT, cOrT, cNotT, asB, cB, cNext, cIfS, cSet, CS.put, cChain, dLe, dLt, dGt, dGe, dI2, startC, outF, fnB, cIsi, CS.knOf, tyB, isKn, isTy, M.guard, cTru, dTru, liftF, cCall, cCons, cFor, forL, cEnum, dEnum, cTg, cLc, lcL, wipeC, cWalk, dWalk, cNever, cSetTp, putAll, bLen, cFld, CS.fld, cProp, noExc, CS.clsOf, cCallS, dItems, cLenP, cIxP, CS.see, cApp, CS.pl, CS.wr, Pl.xs, dNeg, cSetIx, cStore, froz, cLst, cCutL, dCutL, cNoPart, cPart, dPart, CS.seqL, bList, M.opt, dIx, tpS, ix0, ix1, ix2, dP_int, zl, h1]
  · refine ⟨.no, a, b, c, ?_, hb, hc, hc2⟩
    simp [M.bind, M.ret, R.bind, cSeq, cRet, cVar, cOp, cAnd, cOr, cNot, cIf, cAndT, cOrT, cNotT, asB, cB, cNext, cIfS, cSet, CS.put, cChain, dLe, dLt, dGt, dGe, dI2, startC, outF, fnB, cIsi, CS.knOf, tyB, isKn, isTy, M.guard, cTru, dTru, liftF, cCall, cCons, cFor, forL, cEnum, dEnum, cTg, cLc, lcL, wipeC, cWalk, dWalk, cNever, cSetTp, putAll, bLen, cFld, CS.fld, cProp, noExc, CS.clsOf, cCallS, dItems, cLenP, cIxP, CS.see, cApp, CS.pl, CS.wr, Pl.xs, dNeg, cSetIx, cStore, froz, cLst, cCutL, dCutL, cNoPart, cPart, dPart, CS.seqL, bList, M.opt, dIx, tpS, ix2, dP_int, h2]

abbrev pkB : M Fl := (cIfS (asB (cOp dGt (cOp dIx (cVar 0) (M.ret (.int 2))) (M.ret (.int 0)))) (cSeq (cSet 3 (cOp dMod (cOp dIx (cVar 0) (M.ret (.int 2))) (cVar 1)))
  (cSeq (cSetIx 0 (M.ret (.int 2)) (cOp dDiv (cOp dIx (cVar 0) (M.ret (.int 2))) (cVar 1)))
  (cSeq (cRet (cVar 3))
  cNext))) cNext)
abbrev pkC : M Fl := (cSeq (cSet 4 (cOp dMod (cOp dMul (cOp dIx (cVar 0) (M.ret (.int 3))) (cOp dIx (cVar 0) (M.ret (.int 3)))) (M.ret (.int 2147483587))))
  (cSeq (cSetIx 0 (M.ret (.int 3)) (cOp dMod (cOp dAdd (cOp dAdd (cOp dMul (cVar 4) (M.ret (.int 30011))) (cOp dMul (cOp dIx (cVar 0) (M.ret (.int 3))) (M.ret (.int 16807)))) (M.ret (.int 9973))) (M.ret (.int 2147483587))))
  (cSeq (cRet (cOp dMod (cOp dAdd (cOp dDiv (cOp dIx (cVar 0) (M.ret (.int 3))) (M.ret (.int 83))) (cOp dMul (cOp dMod (cOp dIx (cVar 0) (M.ret (.int 3))) (M.ret (.int 7919))) (M.ret (.int 53)))) (cVar 1)))
  cNext)))
theorem s_pick (many : Int) (S : List O) (hm : 0 < many) (hm2 : many < 1073741824) (hS : TapeOk S) : ∃ v S', fn_law_pick [.ref 0, .int many] S = .ok (.int v) S' ∧ TapeOk S' ∧ 0 ≤ v ∧ v < many := by
  obtain ⟨xs, a, b, c, rfl, hl, hb, hc, hc2⟩ := hS
  obtain ⟨y, a', b', c', e, hb', hc', hc2'⟩ := s_pkA many xs a b c hl hb hc hc2
  have md : cDiv b' many = true := by unfold cDiv; simp [M.bind, M.ret, R.bind, cSeq, cRet, cVar, cOp, cAnd, cOr, cNot, cIf, cAndT, cOrT, cNotT, asB, cB, cNext, cIfS, cSet, CS.put, cChain, dLe, dLt, dGt, dGe, dI2, startC, outF, fnB, cIsi, CS.knOf, tyB, isKn, isTy, M.guard, cTru, dTru, liftF, cCall, cCons, cFor, forL, cEnum, dEnum, cTg, cLc, lcL, wipeC, cWalk, dWalk, cNever, cSetTp, putAll, bLen, cFld, CS.fld, cProp, noExc, CS.clsOf, cCallS, dItems, cLenP, cIxP, CS.see, cApp, CS.pl, CS.wr, Pl.xs, dNeg, cSetIx, cStore, froz, cLst, cCutL, dCutL, cNoPart, cPart, dPart, CS.seqL, bList, M.opt]; omega
  by_cases h : 0 < b'
  · refine ⟨b' % many, tpS xs a' (b' / many) c', ?_, ⟨xs, a', b' / many, c', rfl, hl, Int.ediv_nonneg hb' (by omega), hc', hc2'⟩, Int.emod_nonneg _ (by omega), Int.emod_lt_of_pos _ hm⟩
    have e2 : pkB ⟨[.val (.ref 0), .val (.int many), y, .no, .no], tpS xs a' b' c'⟩ = .ok (.ret (.int (b' % many))) ⟨[.val (.ref 0), .val (.int many), y, .val (.int (b' % many)), .no], tpS xs a' (b' / many) c'⟩ := by
      simp [M.bind, M.ret, R.bind, cSeq, cRet, cVar, cOp, cAnd, cOr, cNot, cIf, cAndT, cOrT, cNotT, asB, cB, cNext, cIfS, cSet, CS.put, cChain, dLe, dLt, dGt, dGe, dI2, startC, outF, fnB, cIsi, CS.knOf, tyB, isKn, isTy, M.guard, cTru, dTru, liftF, cCall, cCons, cFor, forL, cEnum, dEnum, cTg, cLc, lcL, wipeC, cWalk, dWalk, cNever, cSetTp, putAll, bLen, cFld, CS.fld, cProp, noExc, CS.clsOf, cCallS, dItems, cLenP, cIxP, CS.see, cApp, CS.pl, CS.wr, Pl.xs, dNeg, cSetIx, cStore, froz, cLst, cCutL, dCutL, cNoPart, cPart, dPart, CS.seqL, bList, M.opt, dIx, tpS, ix2, h, dMod, dDiv, md, hm, ixN4.2.1]
    show outF (cSeq pkA (cSeq pkB pkC) ⟨[.val (.ref 0), .val (.int many), .no, .no, .no], tpS xs a b c⟩) = _
    rw [cSeq_next e, cSeq_ret e2]
    rfl
  · have b0 : b' = 0 := by omega
    subst b0
    have hs : 0 ≤ c' * c' % 2147483587 ∧ c' * c' % 2147483587 < 2147483587 := ⟨by omega, by omega⟩
    have hn : 0 ≤ (c' * c' % 2147483587 * 30011 + c' * 16807 + 9973) % 2147483587 ∧ (c' * c' % 2147483587 * 30011 + c' * 16807 + 9973) % 2147483587 < 2147483587 := ⟨by omega, by omega⟩
    have e2 : pkB ⟨[.val (.ref 0), .val (.int many), y, .no, .no], tpS xs a' 0 c'⟩ = .ok .next ⟨[.val (.ref 0), .val (.int many), y, .no, .no], tpS xs a' 0 c'⟩ := by
      simp [M.bind, M.ret, R.bind, cSeq, cRet, cVar, cOp, cAnd, cOr, cNot, cIf, cAndT, cOrT, cNotT, asB, cB, cNext, cIfS, cSet, CS.put, cChain, dLe, dLt, dGt, dGe, dI2, startC, outF, fnB, cIsi, CS.knOf, tyB, isKn, isTy, M.guard, cTru, dTru, liftF, cCall, cCons, cFor, forL, cEnum, dEnum, cTg, cLc, lcL, wipeC, cWalk, dWalk, cNever, cSetTp, putAll, bLen, cFld, CS.fld, cProp, noExc, CS.clsOf, cCallS, dItems, cLenP, cIxP, CS.see, cApp, CS.pl, CS.wr, Pl.xs, dNeg, cSetIx, cStore, froz, cLst, cCutL, dCutL, cNoPart, cPart, dPart, CS.seqL, bList, M.opt, dIx, tpS, ix2]
    generalize hq : (c' * c' % 2147483587 * 30011 + c' * 16807 + 9973) % 2147483587 = w at hn
    refine ⟨(w / 83 + w % 7919 * 53) % many, tpS xs a' 0 w, ?_, ⟨xs, a', 0, w, rfl, hl, by omega, hn.1, hn.2⟩, Int.emod_nonneg _ (by omega), Int.emod_lt_of_pos _ hm⟩
    have m1 : cMul c' c' = true := by unfold cMul; simp [M.bind, M.ret, R.bind, cSeq, cRet, cVar, cOp, cAnd, cOr, cNot, cIf, cAndT, cOrT, cNotT, asB, cB, cNext, cIfS, cSet, CS.put, cChain, dLe, dLt, dGt, dGe, dI2, startC, outF, fnB, cIsi, CS.knOf, tyB, isKn, isTy, M.guard, cTru, dTru, liftF, cCall, cCons, cFor, forL, cEnum, dEnum, cTg, cLc, lcL, wipeC, cWalk, dWalk, cNever, cSetTp, putAll, bLen, cFld, CS.fld, cProp, noExc, CS.clsOf, cCallS, dItems, cLenP, cIxP, CS.see, cApp, CS.pl, CS.wr, Pl.xs, dNeg, cSetIx, cStore, froz, cLst, cCutL, dCutL, cNoPart, cPart, dPart, CS.seqL, bList, M.opt]; omega
    have m2 : ∀ z : Int, cMul z 30011 = true := fun z => by unfold cMul; simp [M.bind, M.ret, R.bind, cSeq, cRet, cVar, cOp, cAnd, cOr, cNot, cIf, cAndT, cOrT, cNotT, asB, cB, cNext, cIfS, cSet, CS.put, cChain, dLe, dLt, dGt, dGe, dI2, startC, outF, fnB, cIsi, CS.knOf, tyB, isKn, isTy, M.guard, cTru, dTru, liftF, cCall, cCons, cFor, forL, cEnum, dEnum, cTg, cLc, lcL, wipeC, cWalk, dWalk, cNever, cSetTp, putAll, bLen, cFld, CS.fld, cProp, noExc, CS.clsOf, cCallS, dItems, cLenP, cIxP, CS.see, cApp, CS.pl, CS.wr, Pl.xs, dNeg, cSetIx, cStore, froz, cLst, cCutL, dCutL, cNoPart, cPart, dPart, CS.seqL, bList, M.opt]
    have m3 : ∀ z : Int, cMul z 16807 = true := fun z => by unfold cMul; simp [M.bind, M.ret, R.bind, cSeq, cRet, cVar, cOp, cAnd, cOr, cNot, cIf, cAndT, cOrT, cNotT, asB, cB, cNext, cIfS, cSet, CS.put, cChain, dLe, dLt, dGt, dGe, dI2, startC, outF, fnB, cIsi, CS.knOf, tyB, isKn, isTy, M.guard, cTru, dTru, liftF, cCall, cCons, cFor, forL, cEnum, dEnum, cTg, cLc, lcL, wipeC, cWalk, dWalk, cNever, cSetTp, putAll, bLen, cFld, CS.fld, cProp, noExc, CS.clsOf, cCallS, dItems, cLenP, cIxP, CS.see, cApp, CS.pl, CS.wr, Pl.xs, dNeg, cSetIx, cStore, froz, cLst, cCutL, dCutL, cNoPart, cPart, dPart, CS.seqL, bList, M.opt]
    have m4 : ∀ z : Int, cMul z 53 = true := fun z => by unfold cMul; simp [M.bind, M.ret, R.bind, cSeq, cRet, cVar, cOp, cAnd, cOr, cNot, cIf, cAndT, cOrT, cNotT, asB, cB, cNext, cIfS, cSet, CS.put, cChain, dLe, dLt, dGt, dGe, dI2, startC, outF, fnB, cIsi, CS.knOf, tyB, isKn, isTy, M.guard, cTru, dTru, liftF, cCall, cCons, cFor, forL, cEnum, dEnum, cTg, cLc, lcL, wipeC, cWalk, dWalk, cNever, cSetTp, putAll, bLen, cFld, CS.fld, cProp, noExc, CS.clsOf, cCallS, dItems, cLenP, cIxP, CS.see, cApp, CS.pl, CS.wr, Pl.xs, dNeg, cSetIx, cStore, froz, cLst, cCutL, dCutL, cNoPart, cPart, dPart, CS.seqL, bList, M.opt]
    have m5 : ∀ z : Int, cDiv z 83 = true := fun z => by unfold cDiv; simp [M.bind, M.ret, R.bind, cSeq, cRet, cVar, cOp, cAnd, cOr, cNot, cIf, cAndT, cOrT, cNotT, asB, cB, cNext, cIfS, cSet, CS.put, cChain, dLe, dLt, dGt, dGe, dI2, startC, outF, fnB, cIsi, CS.knOf, tyB, isKn, isTy, M.guard, cTru, dTru, liftF, cCall, cCons, cFor, forL, cEnum, dEnum, cTg, cLc, lcL, wipeC, cWalk, dWalk, cNever, cSetTp, putAll, bLen, cFld, CS.fld, cProp, noExc, CS.clsOf, cCallS, dItems, cLenP, cIxP, CS.see, cApp, CS.pl, CS.wr, Pl.xs, dNeg, cSetIx, cStore, froz, cLst, cCutL, dCutL, cNoPart, cPart, dPart, CS.seqL, bList, M.opt]
    have e3 : pkC ⟨[.val (.ref 0), .val (.int many), y, .no, .no], tpS xs a' 0 c'⟩ = .ok (.ret (.int ((w / 83 + w % 7919 * 53) % many))) ⟨[.val (.ref 0), .val (.int many), y, .no, .val (.int (c' * c' % 2147483587))], tpS xs a' 0 w⟩ := by
      simp [M.bind, M.ret, R.bind, cSeq, cRet, cVar, cOp, cAnd, cOr, cNot, cIf, cAndT, cOrT, cNotT, asB, cB, cNext, cIfS, cSet, CS.put, cChain, dLe, dLt, dGt, dGe, dI2, startC, outF, fnB, cIsi, CS.knOf, tyB, isKn, isTy, M.guard, cTru, dTru, liftF, cCall, cCons, cFor, forL, cEnum, dEnum, cTg, cLc, lcL, wipeC, cWalk, dWalk, cNever, cSetTp, putAll, bLen, cFld, CS.fld, cProp, noExc, CS.clsOf, cCallS, dItems, cLenP, cIxP, CS.see, cApp, CS.pl, CS.wr, Pl.xs, dNeg, cSetIx, cStore, froz, cLst, cCutL, dCutL, cNoPart, cPart, dPart, CS.seqL, bList, M.opt, dIx, tpS, ix3, dMod, dDiv, dMul, dAdd, m1, m2, m3, m4, m5, hm, ixN4.2.2, hq]
    show outF (cSeq pkA (cSeq pkB pkC) ⟨[.val (.ref 0), .val (.int many), .no, .no, .no], tpS xs a b c⟩) = _
    rw [cSeq_next e, cSeq_next e2, e3]
    rfl
end K02
namespace K02
open CL PySem
theorem s_rowL (lv top way : Int) (ht : 0 < top) (ht2 : top ≤ 12) (ds : List D) : ∀ (rs : List Int) (S : List O), rs.length + ds.length ≤ 1000 → (∀ r ∈ rs, 1 ≤ r ∧ r ≤ top) → TapeOk S →
    ∃ (rs' : List Int) (S' : List O), lcL (.nm 5) (M.ret true) (cOp dAdd (M.ret (.int 1)) (cCall fn_law_pick (cCons (cVar 0) (cCons (cVar 2) (M.ret []))))) [5] ds (rs.map .int) ⟨[.val (.ref 0), .val (.int lv), .val (.int top), .val (.int way), .no, .no], S⟩ = .ok (rs'.map .int) ⟨[.val (.ref 0), .val (.int lv), .val (.int top), .val (.int way), .no, .no], S'⟩ ∧ TapeOk S' ∧ rs'.length = rs.length + ds.length ∧ ∀ r ∈ rs', 1 ≤ r ∧ r ≤ top := by
  induction ds with
  | nil => intro rs S _ h hS; exact ⟨rs, S, by simp [M.bind, M.ret, R.bind, cSeq, cRet, cVar, cOp, cAnd, cOr, cNot, cIf, cAndT, cOrT, cNotT, asB, cB, cNext, cIfS, cSet, CS.put, cChain, dLe, dLt, dGt, dGe, dI2, startC, outF, fnB, cIsi, CS.knOf, tyB, isKn, isTy, M.guard, cTru, dTru, liftF, cCall, cCons, cFor, forL, cEnum, dEnum, cTg, cLc, lcL, wipeC, cWalk, dWalk, cNever, cSetTp, putAll, bLen, cFld, CS.fld, cProp, noExc, CS.clsOf, cCallS, dItems, cLenP, cIxP, CS.see, cApp, CS.pl, CS.wr, Pl.xs, dNeg, cSetIx, cStore, froz, cLst, cCutL, dCutL, cNoPart, cPart, dPart, CS.seqL, bList, M.opt], hS, by simp [M.bind, M.ret, R.bind, cSeq, cRet, cVar, cOp, cAnd, cOr, cNot, cIf, cAndT, cOrT, cNotT, asB, cB, cNext, cIfS, cSet, CS.put, cChain, dLe, dLt, dGt, dGe, dI2, startC, outF, fnB, cIsi, CS.knOf, tyB, isKn, isTy, M.guard, cTru, dTru, liftF, cCall, cCons, cFor, forL, cEnum, dEnum, cTg, cLc, lcL, wipeC, cWalk, dWalk, cNever, cSetTp, putAll, bLen, cFld, CS.fld, cProp, noExc, CS.clsOf, cCallS, dItems, cLenP, cIxP, CS.see, cApp, CS.pl, CS.wr, Pl.xs, dNeg, cSetIx, cStore, froz, cLst, cCutL, dCutL, cNoPart, cPart, dPart, CS.seqL, bList, M.opt], h⟩
  | cons d ds ih =>
    intro rs S hl h hS
    simp [M.bind, M.ret, R.bind, cSeq, cRet, cVar, cOp, cAnd, cOr, cNot, cIf, cAndT, cOrT, cNotT, asB, cB, cNext, cIfS, cSet, CS.put, cChain, dLe, dLt, dGt, dGe, dI2, startC, outF, fnB, cIsi, CS.knOf, tyB, isKn, isTy, M.guard, cTru, dTru, liftF, cCall, cCons, cFor, forL, cEnum, dEnum, cTg, cLc, lcL, wipeC, cWalk, dWalk, cNever, cSetTp, putAll, bLen, cFld, CS.fld, cProp, noExc, CS.clsOf, cCallS, dItems, cLenP, cIxP, CS.see, cApp, CS.pl, CS.wr, Pl.xs, dNeg, cSetIx, cStore, froz, cLst, cCutL, dCutL, cNoPart, cPart, dPart, CS.seqL, bList, M.opt] at hl
    obtain ⟨v, S', e, hS', v0, v1⟩ := s_pick top S ht (by omega) hS
    obtain ⟨rs', S2, e2, hS2, l2, h2⟩ := ih (rs ++ [1 + v]) S' (by simp [M.bind, M.ret, R.bind, cSeq, cRet, cVar, cOp, cAnd, cOr, cNot, cIf, cAndT, cOrT, cNotT, asB, cB, cNext, cIfS, cSet, CS.put, cChain, dLe, dLt, dGt, dGe, dI2, startC, outF, fnB, cIsi, CS.knOf, tyB, isKn, isTy, M.guard, cTru, dTru, liftF, cCall, cCons, cFor, forL, cEnum, dEnum, cTg, cLc, lcL, wipeC, cWalk, dWalk, cNever, cSetTp, putAll, bLen, cFld, CS.fld, cProp, noExc, CS.clsOf, cCallS, dItems, cLenP, cIxP, CS.see, cApp, CS.pl, CS.wr, Pl.xs, dNeg, cSetIx, cStore, froz, cLst, cCutL, dCutL, cNoPart, cPart, dPart, CS.seqL, bList, M.opt]; omega) (fun r hr => by
      simp [M.bind, M.ret, R.bind, cSeq, cRet, cVar, cOp, cAnd, cOr, cNot, cIf, cAndT, cOrT, cNotT, asB, cB, cNext, cIfS, cSet, CS.put, cChain, dLe, dLt, dGt, dGe, dI2, startC, outF, fnB, cIsi, CS.knOf, tyB, isKn, isTy, M.guard, cTru, dTru, liftF, cCall, cCons, cFor, forL, cEnum, dEnum, cTg, cLc, lcL, wipeC, cWalk, dWalk, cNever, cSetTp, putAll, bLen, cFld, CS.fld, cProp, noExc, CS.clsOf, cCallS, dItems, cLenP, cIxP, CS.see, cApp, CS.pl, CS.wr, Pl.xs, dNeg, cSetIx, cStore, froz, cLst, cCutL, dCutL, cNoPart, cPart, dPart, CS.seqL, bList, M.opt] at hr
      rcases hr with hr | hr
      · exact h r hr
      · omega) hS'
    refine ⟨rs', S2, ?_, hS2, by simp [M.bind, M.ret, R.bind, cSeq, cRet, cVar, cOp, cAnd, cOr, cNot, cIf, cAndT, cOrT, cNotT, asB, cB, cNext, cIfS, cSet, CS.put, cChain, dLe, dLt, dGt, dGe, dI2, startC, outF, fnB, cIsi, CS.knOf, tyB, isKn, isTy, M.guard, cTru, dTru, liftF, cCall, cCons, cFor, forL, cEnum, dEnum, cTg, cLc, lcL, wipeC, cWalk, dWalk, cNever, cSetTp, putAll, bLen, cFld, CS.fld, cProp, noExc, CS.clsOf, cCallS, dItems, cLenP, cIxP, CS.see, cApp, CS.pl, CS.wr, Pl.xs, dNeg, cSetIx, cStore, froz, cLst, cCutL, dCutL, cNoPart, cPart, dPart, CS.seqL, bList, M.opt] at l2 ⊢; omega, h2⟩
    have hz : rs.length < sizeLine := Nat.lt_of_lt_of_le (by omega : rs.length < 1001) (by decide)
    simp [M.bind, M.ret, R.bind, cSeq, cRet, cVar, cOp, cAnd, cOr, cNot, cIf, cAndT, cOrT, cNotT, asB, cB, cNext, cIfS, cSet, CS.put, cChain, dLe, dLt, dGt, dGe, dI2, startC, outF, fnB, cIsi, CS.knOf, tyB, isKn, isTy, M.guard, cTru, dTru, liftF, cCall, cCons, cFor, forL, cEnum, dEnum, cTg, cLc, lcL, wipeC, cWalk, dWalk, cNever, cSetTp, putAll, bLen, cFld, CS.fld, cProp, noExc, CS.clsOf, cCallS, dItems, cLenP, cIxP, CS.see, cApp, CS.pl, CS.wr, Pl.xs, dNeg, cSetIx, cStore, froz, cLst, cCutL, dCutL, cNoPart, cPart, dPart, CS.seqL, bList, M.opt, e, dAdd, hz] at e2 ⊢
    exact e2
theorem eqv_nil (xs : List Int) : PyData.eqv (.list (xs.map .int)) (.list []) = decide (xs = []) := by
  cases xs <;> simp [M.bind, M.ret, R.bind, cSeq, cRet, cVar, cOp, cAnd, cOr, cNot, cIf, cAndT, cOrT, cNotT, asB, cB, cNext, cIfS, cSet, CS.put, cChain, dLe, dLt, dGt, dGe, dI2, startC, outF, fnB, cIsi, CS.knOf, tyB, isKn, isTy, M.guard, cTru, dTru, liftF, cCall, cCons, cFor, forL, cEnum, dEnum, cTg, cLc, lcL, wipeC, cWalk, dWalk, cNever, cSetTp, putAll, bLen, cFld, CS.fld, cProp, noExc, CS.clsOf, cCallS, dItems, cLenP, cIxP, CS.see, cApp, CS.pl, CS.wr, Pl.xs, dNeg, cSetIx, cStore, froz, cLst, cCutL, dCutL, cNoPart, cPart, dPart, CS.seqL, bList, M.opt, PyData.eqv, PyData.eqvAll]
theorem shp_ints (xs : List Int) : SeqAt.shaped (.list (xs.map .int)) = true := by
  have h := dep_ints xs
  unfold SeqAt.shaped
  simp [M.bind, M.ret, R.bind, cSeq, cRet, cVar, cOp, cAnd, cOr, cNot, cIf, cAndT, cOrT, cNotT, asB, cB, cNext, cIfS, cSet, CS.put, cChain, dLe, dLt, dGt, dGe, dI2, startC, outF, fnB, cIsi, CS.knOf, tyB, isKn, isTy, M.guard, cTru, dTru, liftF, cCall, cCons, cFor, forL, cEnum, dEnum, cTg, cLc, lcL, wipeC, cWalk, dWalk, cNever, cSetTp, putAll, bLen, cFld, CS.fld, cProp, noExc, CS.clsOf, cCallS, dItems, cLenP, cIxP, CS.see, cApp, CS.pl, CS.wr, Pl.xs, dNeg, cSetIx, cStore, froz, cLst, cCutL, dCutL, cNoPart, cPart, dPart, CS.seqL, bList, M.opt, PyData.canLay0, lay_ints, PyData.depth]
  omega
theorem s_neP (i : Nat) (xs : List Int) (c : CS) (h : c.see i = some (xs.map .int)) : cEqP true i (froz (cLst (M.ret []))) c = .ok (.bl (!decide (xs = []))) c := by
  have z0 : szOk 0 = true := szOk_small (by omega)
  have e : froz (cLst (M.ret [])) c = .ok (.lst []) c := by simp [M.bind, M.ret, R.bind, cSeq, cRet, cVar, cOp, cAnd, cOr, cNot, cIf, cAndT, cOrT, cNotT, asB, cB, cNext, cIfS, cSet, CS.put, cChain, dLe, dLt, dGt, dGe, dI2, startC, outF, fnB, cIsi, CS.knOf, tyB, isKn, isTy, M.guard, cTru, dTru, liftF, cCall, cCons, cFor, forL, cEnum, dEnum, cTg, cLc, lcL, wipeC, cWalk, dWalk, cNever, cSetTp, putAll, bLen, cFld, CS.fld, cProp, noExc, CS.clsOf, cCallS, dItems, cLenP, cIxP, CS.see, cApp, CS.pl, CS.wr, Pl.xs, dNeg, cSetIx, cStore, froz, cLst, cCutL, dCutL, cNoPart, cPart, dPart, CS.seqL, bList, M.opt, z0]
  have t : toP (.lst []) = some (.list []) := by simp [M.bind, M.ret, R.bind, cSeq, cRet, cVar, cOp, cAnd, cOr, cNot, cIf, cAndT, cOrT, cNotT, asB, cB, cNext, cIfS, cSet, CS.put, cChain, dLe, dLt, dGt, dGe, dI2, startC, outF, fnB, cIsi, CS.knOf, tyB, isKn, isTy, M.guard, cTru, dTru, liftF, cCall, cCons, cFor, forL, cEnum, dEnum, cTg, cLc, lcL, wipeC, cWalk, dWalk, cNever, cSetTp, putAll, bLen, cFld, CS.fld, cProp, noExc, CS.clsOf, cCallS, dItems, cLenP, cIxP, CS.see, cApp, CS.pl, CS.wr, Pl.xs, dNeg, cSetIx, cStore, froz, cLst, cCutL, dCutL, cNoPart, cPart, dPart, CS.seqL, bList, M.opt, toP, toPs]
  have sh0 : SeqAt.shaped (.list []) = true := shp_ints []
  unfold cEqP
  rw [h]
  dsimp only
  rw [e]
  show (match c.see i with
    | some ys => match toPs ys, toP (.lst []) with
      | some ps, some q => M.guard (SeqAt.shaped (.list ps) && SeqAt.shaped q) (M.ret (D.bl (if true then !PyData.eqv (.list ps) q else PyData.eqv (.list ps) q))) c
      | _, _ => .stuck
    | none => .stuck) = _
  rw [h]
  dsimp only
  rw [toPs_int, t]
  dsimp only
  rw [shp_ints, sh0, eqv_nil]
  rfl
theorem sortI_mem {ns : List Int} {x : Int} (h : x ∈ sortI ns) : x ∈ ns := (sortI_perm ns).mem_iff.mp h
theorem sortI_len (ns : List Int) : (sortI ns).length = ns.length := (sortI_perm ns).length_eq
theorem asInts_map (ns : List Int) : asInts (ns.map D.int) = some ns := by
  induction ns with
  | nil => rfl
  | cons b bs ih => simp [M.bind, M.ret, R.bind, cSeq, cRet, cVar, cOp, cAnd, cOr, cNot, cIf, cAndT, cOrT, cNotT, asB, cB, cNext, cIfS, cSet, CS.put, cChain, dLe, dLt, dGt, dGe, dI2, startC, outF, fnB, cIsi, CS.knOf, tyB, isKn, isTy, M.guard, cTru, dTru, liftF, cCall, cCons, cFor, forL, cEnum, dEnum, cTg, cLc, lcL, wipeC, cWalk, dWalk, cNever, cSetTp, putAll, bLen, cFld, CS.fld, cProp, noExc, CS.clsOf, cCallS, dItems, cLenP, cIxP, CS.see, cApp, CS.pl, CS.wr, Pl.xs, dNeg, cSetIx, cStore, froz, cLst, cCutL, dCutL, cNoPart, cPart, dPart, CS.seqL, bList, M.opt, asInts, ih]
theorem rangeD_len (lo : Int) (n : Nat) : (rangeD lo n).length = n := by unfold rangeD; simp [M.bind, M.ret, R.bind, cSeq, cRet, cVar, cOp, cAnd, cOr, cNot, cIf, cAndT, cOrT, cNotT, asB, cB, cNext, cIfS, cSet, CS.put, cChain, dLe, dLt, dGt, dGe, dI2, startC, outF, fnB, cIsi, CS.knOf, tyB, isKn, isTy, M.guard, cTru, dTru, liftF, cCall, cCons, cFor, forL, cEnum, dEnum, cTg, cLc, lcL, wipeC, cWalk, dWalk, cNever, cSetTp, putAll, bLen, cFld, CS.fld, cProp, noExc, CS.clsOf, cCallS, dItems, cLenP, cIxP, CS.see, cApp, CS.pl, CS.wr, Pl.xs, dNeg, cSetIx, cStore, froz, cLst, cCutL, dCutL, cNoPart, cPart, dPart, CS.seqL, bList, M.opt]
theorem s_lrow (lv top : Int) (S : List O) (hv : 0 ≤ lv) (hv2 : lv ≤ 12) (ht : 0 < top) (ht2 : top ≤ 12) (hS : TapeOk S) : ∃ (r : List Int) (S' : List O), fn_law_row [.ref 0, .int lv, .int top] S = .ok (rowD r) S' ∧ TapeOk S' ∧ (r.length : Int) ≤ lv ∧ ∀ x ∈ r, 1 ≤ x ∧ x ≤ top := by
  obtain ⟨way, S1, e1, hS1, w0, w1⟩ := s_pick 4 S (by omega) (by omega) hS
  obtain ⟨n, S2, e2, hS2, n0, n1⟩ := s_pick (lv + 1) S1 (by omega) (by omega) hS1
  obtain ⟨rs, S3, e3, hS3, l3, h3⟩ := s_rowL lv top way ht ht2 (rangeD 0 n.toNat) [] S2 (by rw [rangeD_len]; simp [M.bind, M.ret, R.bind, cSeq, cRet, cVar, cOp, cAnd, cOr, cNot, cIf, cAndT, cOrT, cNotT, asB, cB, cNext, cIfS, cSet, CS.put, cChain, dLe, dLt, dGt, dGe, dI2, startC, outF, fnB, cIsi, CS.knOf, tyB, isKn, isTy, M.guard, cTru, dTru, liftF, cCall, cCons, cFor, forL, cEnum, dEnum, cTg, cLc, lcL, wipeC, cWalk, dWalk, cNever, cSetTp, putAll, bLen, cFld, CS.fld, cProp, noExc, CS.clsOf, cCallS, dItems, cLenP, cIxP, CS.see, cApp, CS.pl, CS.wr, Pl.xs, dNeg, cSetIx, cStore, froz, cLst, cCutL, dCutL, cNoPart, cPart, dPart, CS.seqL, bList, M.opt]; omega) (fun r hr => by simp [M.bind, M.ret, R.bind, cSeq, cRet, cVar, cOp, cAnd, cOr, cNot, cIf, cAndT, cOrT, cNotT, asB, cB, cNext, cIfS, cSet, CS.put, cChain, dLe, dLt, dGt, dGe, dI2, startC, outF, fnB, cIsi, CS.knOf, tyB, isKn, isTy, M.guard, cTru, dTru, liftF, cCall, cCons, cFor, forL, cEnum, dEnum, cTg, cLc, lcL, wipeC, cWalk, dWalk, cNever, cSetTp, putAll, bLen, cFld, CS.fld, cProp, noExc, CS.clsOf, cCallS, dItems, cLenP, cIxP, CS.see, cApp, CS.pl, CS.wr, Pl.xs, dNeg, cSetIx, cStore, froz, cLst, cCutL, dCutL, cNoPart, cPart, dPart, CS.seqL, bList, M.opt] at hr) hS2
  rw [rangeD_len] at l3
  simp [M.bind, M.ret, R.bind, cSeq, cRet, cVar, cOp, cAnd, cOr, cNot, cIf, cAndT, cOrT, cNotT, asB, cB, cNext, cIfS, cSet, CS.put, cChain, dLe, dLt, dGt, dGe, dI2, startC, outF, fnB, cIsi, CS.knOf, tyB, isKn, isTy, M.guard, cTru, dTru, liftF, cCall, cCons, cFor, forL, cEnum, dEnum, cTg, cLc, lcL, wipeC, cWalk, dWalk, cNever, cSetTp, putAll, bLen, cFld, CS.fld, cProp, noExc, CS.clsOf, cCallS, dItems, cLenP, cIxP, CS.see, cApp, CS.pl, CS.wr, Pl.xs, dNeg, cSetIx, cStore, froz, cLst, cCutL, dCutL, cNoPart, cPart, dPart, CS.seqL, bList, M.opt] at l3
  have hf : fitsR n = true := by unfold fitsR; simp [M.bind, M.ret, R.bind, cSeq, cRet, cVar, cOp, cAnd, cOr, cNot, cIf, cAndT, cOrT, cNotT, asB, cB, cNext, cIfS, cSet, CS.put, cChain, dLe, dLt, dGt, dGe, dI2, startC, outF, fnB, cIsi, CS.knOf, tyB, isKn, isTy, M.guard, cTru, dTru, liftF, cCall, cCons, cFor, forL, cEnum, dEnum, cTg, cLc, lcL, wipeC, cWalk, dWalk, cNever, cSetTp, putAll, bLen, cFld, CS.fld, cProp, noExc, CS.clsOf, cCallS, dItems, cLenP, cIxP, CS.see, cApp, CS.pl, CS.wr, Pl.xs, dNeg, cSetIx, cStore, froz, cLst, cCutL, dCutL, cNoPart, cPart, dPart, CS.seqL, bList, M.opt]; omega
  have g1 : cSet 3 (cCall fn_law_pick (cCons (cVar 0) (cCons (M.ret (.int 4)) (M.ret [])))) ⟨[.val (.ref 0), .val (.int lv), .val (.int top), .no, .no, .no], S⟩ = .ok .next ⟨[.val (.ref 0), .val (.int lv), .val (.int top), .val (.int way), .no, .no], S1⟩ := by
    simp [M.bind, M.ret, R.bind, cSeq, cRet, cVar, cOp, cAnd, cOr, cNot, cIf, cAndT, cOrT, cNotT, asB, cB, cNext, cIfS, cSet, CS.put, cChain, dLe, dLt, dGt, dGe, dI2, startC, outF, fnB, cIsi, CS.knOf, tyB, isKn, isTy, M.guard, cTru, dTru, liftF, cCall, cCons, cFor, forL, cEnum, dEnum, cTg, cLc, lcL, wipeC, cWalk, dWalk, cNever, cSetTp, putAll, bLen, cFld, CS.fld, cProp, noExc, CS.clsOf, cCallS, dItems, cLenP, cIxP, CS.see, cApp, CS.pl, CS.wr, Pl.xs, dNeg, cSetIx, cStore, froz, cLst, cCutL, dCutL, cNoPart, cPart, dPart, CS.seqL, bList, M.opt, e1]
  have g2 : cSetL 4 (cLc (cRange1 (cCall fn_law_pick (cCons (cVar 0) (cCons (cOp dAdd (cVar 1) (M.ret (.int 1))) (M.ret []))))) (.nm 5) (M.ret true) (cOp dAdd (M.ret (.int 1)) (cCall fn_law_pick (cCons (cVar 0) (cCons (cVar 2) (M.ret []))))) [5]) ⟨[.val (.ref 0), .val (.int lv), .val (.int top), .val (.int way), .no, .no], S1⟩ = .ok .next ⟨[.val (.ref 0), .val (.int lv), .val (.int top), .val (.int way), .own (.lst (rs.map .int)), .no], S3⟩ := by
    simp [M.bind, M.ret, R.bind, cSeq, cRet, cVar, cOp, cAnd, cOr, cNot, cIf, cAndT, cOrT, cNotT, asB, cB, cNext, cIfS, cSet, CS.put, cChain, dLe, dLt, dGt, dGe, dI2, startC, outF, fnB, cIsi, CS.knOf, tyB, isKn, isTy, M.guard, cTru, dTru, liftF, cCall, cCons, cFor, forL, cEnum, dEnum, cTg, cLc, wipeC, cWalk, dWalk, cNever, cSetTp, putAll, bLen, cFld, CS.fld, cProp, noExc, CS.clsOf, cCallS, dItems, cLenP, cIxP, CS.see, cApp, CS.pl, CS.wr, Pl.xs, dNeg, cSetIx, cStore, froz, cLst, cCutL, dCutL, cNoPart, cPart, dPart, CS.seqL, bList, M.opt, cSetL, cRange1, dAdd, e2, hf] at e3 ⊢
    rw [e3]
    simp [M.bind, M.ret, R.bind, cSeq, cRet, cVar, cOp, cAnd, cOr, cNot, cIf, cAndT, cOrT, cNotT, asB, cB, cNext, cIfS, cSet, CS.put, cChain, dLe, dLt, dGt, dGe, dI2, startC, outF, fnB, cIsi, CS.knOf, tyB, isKn, isTy, M.guard, cTru, dTru, liftF, cCall, cCons, cFor, forL, cEnum, dEnum, cTg, cLc, lcL, wipeC, cWalk, dWalk, cNever, cSetTp, putAll, bLen, cFld, CS.fld, cProp, noExc, CS.clsOf, cCallS, dItems, cLenP, cIxP, CS.see, cApp, CS.pl, CS.wr, Pl.xs, dNeg, cSetIx, cStore, froz, cLst, cCutL, dCutL, cNoPart, cPart, dPart, CS.seqL, bList, M.opt]
  -- sorted where way is 0
  obtain ⟨rs2, g3, l4, h4⟩ : ∃ rs2 : List Int, cIfS (asB (cOp dEq (cVar 3) (M.ret (.int 0)))) (cSeq (cSetL 4 ((cCons (cVar 4) (M.ret [])).bind bSorted)) cNext) cNext ⟨[.val (.ref 0), .val (.int lv), .val (.int top), .val (.int way), .own (.lst (rs.map .int)), .no], S3⟩ = .ok .next ⟨[.val (.ref 0), .val (.int lv), .val (.int top), .val (.int way), .own (.lst (rs2.map .int)), .no], S3⟩ ∧ rs2.length = rs.length ∧ ∀ r ∈ rs2, 1 ≤ r ∧ r ≤ top := by
    by_cases hw : way = 0
    · refine ⟨sortI rs, ?_, sortI_len rs, fun r hr => h3 r (sortI_mem hr)⟩
      simp [M.bind, M.ret, R.bind, cSeq, cRet, cVar, cOp, cAnd, cOr, cNot, cIf, cAndT, cOrT, cNotT, asB, cB, cNext, cIfS, cSet, CS.put, cChain, dLe, dLt, dGt, dGe, dI2, startC, outF, fnB, cIsi, CS.knOf, tyB, isKn, isTy, M.guard, cTru, dTru, liftF, cCall, cCons, cFor, forL, cEnum, dEnum, cTg, cLc, lcL, wipeC, cWalk, dWalk, cNever, cSetTp, putAll, bLen, cFld, CS.fld, cProp, noExc, CS.clsOf, cCallS, dItems, cLenP, cIxP, CS.see, cApp, CS.pl, CS.wr, Pl.xs, dNeg, cSetIx, cStore, froz, cLst, cCutL, dCutL, cNoPart, cPart, dPart, CS.seqL, bList, M.opt, dP_int, hw, cSetL, bSorted, bOne, asInts_map]
    · exact ⟨rs, by simp [M.bind, M.ret, R.bind, cSeq, cRet, cVar, cOp, cAnd, cOr, cNot, cIf, cAndT, cOrT, cNotT, asB, cB, cNext, cIfS, cSet, CS.put, cChain, dLe, dLt, dGt, dGe, dI2, startC, outF, fnB, cIsi, CS.knOf, tyB, isKn, isTy, M.guard, cTru, dTru, liftF, cCall, cCons, cFor, forL, cEnum, dEnum, cTg, cLc, lcL, wipeC, cWalk, dWalk, cNever, cSetTp, putAll, bLen, cFld, CS.fld, cProp, noExc, CS.clsOf, cCallS, dItems, cLenP, cIxP, CS.see, cApp, CS.pl, CS.wr, Pl.xs, dNeg, cSetIx, cStore, froz, cLst, cCutL, dCutL, cNoPart, cPart, dPart, CS.seqL, bList, M.opt, dP_int, hw], rfl, h3⟩
  obtain ⟨rs3, g4, l5, h5⟩ : ∃ rs3 : List Int, cIfS (cAndT (asB (cOp dEq (cVar 3) (M.ret (.int 1)))) (asB (cEqP true 4 (froz (cLst (M.ret [])))))) (cSeq (cSetIx 4 (M.ret (.int 0)) (M.ret (.int 1))) cNext) cNext ⟨[.val (.ref 0), .val (.int lv), .val (.int top), .val (.int way), .own (.lst (rs2.map .int)), .no], S3⟩ = .ok .next ⟨[.val (.ref 0), .val (.int lv), .val (.int top), .val (.int way), .own (.lst (rs3.map .int)), .no], S3⟩ ∧ rs3.length = rs2.length ∧ ∀ r ∈ rs3, 1 ≤ r ∧ r ≤ top := by
    have ne := s_neP 4 rs2 ⟨[.val (.ref 0), .val (.int lv), .val (.int top), .val (.int way), .own (.lst (rs2.map .int)), .no], S3⟩ rfl
    by_cases hw : way = 1
    · subst hw
      cases rs2 with
      | nil => exact ⟨[], by simp [M.bind, M.ret, R.bind, cSeq, cRet, cVar, cOp, cAnd, cOr, cNot, cIf, cAndT, cOrT, cNotT, asB, cB, cNext, cIfS, cSet, CS.put, cChain, dLe, dLt, dGt, dGe, dI2, startC, outF, fnB, cIsi, CS.knOf, tyB, isKn, isTy, M.guard, cTru, dTru, liftF, cCall, cCons, cFor, forL, cEnum, dEnum, cTg, cLc, lcL, wipeC, cWalk, dWalk, cNever, cSetTp, putAll, bLen, cFld, CS.fld, cProp, noExc, CS.clsOf, cCallS, dItems, cLenP, cIxP, CS.see, cApp, CS.pl, CS.wr, Pl.xs, dNeg, cSetIx, cStore, cCutL, dCutL, cNoPart, cPart, dPart, CS.seqL, bList, M.opt, dP_int] at ne ⊢; rw [ne], rfl, fun r hr => by simp [M.bind, M.ret, R.bind, cSeq, cRet, cVar, cOp, cAnd, cOr, cNot, cIf, cAndT, cOrT, cNotT, asB, cB, cNext, cIfS, cSet, CS.put, cChain, dLe, dLt, dGt, dGe, dI2, startC, outF, fnB, cIsi, CS.knOf, tyB, isKn, isTy, M.guard, cTru, dTru, liftF, cCall, cCons, cFor, forL, cEnum, dEnum, cTg, cLc, lcL, wipeC, cWalk, dWalk, cNever, cSetTp, putAll, bLen, cFld, CS.fld, cProp, noExc, CS.clsOf, cCallS, dItems, cLenP, cIxP, CS.see, cApp, CS.pl, CS.wr, Pl.xs, dNeg, cSetIx, cStore, froz, cLst, cCutL, dCutL, cNoPart, cPart, dPart, CS.seqL, bList, M.opt] at hr⟩
      | cons x rs2 =>
        refine ⟨1 :: rs2, ?_, rfl, fun r hr => ?_⟩
        · simp [M.bind, M.ret, R.bind, cSeq, cRet, cVar, cOp, cAnd, cOr, cNot, cIf, cAndT, cOrT, cNotT, asB, cB, cNext, cIfS, cSet, CS.put, cChain, dLe, dLt, dGt, dGe, dI2, startC, outF, fnB, cIsi, CS.knOf, tyB, isKn, isTy, M.guard, cTru, dTru, liftF, cCall, cCons, cFor, forL, cEnum, dEnum, cTg, cLc, lcL, wipeC, cWalk, dWalk, cNever, cSetTp, putAll, bLen, cFld, CS.fld, cProp, noExc, CS.clsOf, cCallS, dItems, cLenP, cIxP, CS.see, cApp, CS.pl, CS.wr, Pl.xs, dNeg, cSetIx, cStore, cCutL, dCutL, cNoPart, cPart, dPart, CS.seqL, bList, M.opt, dP_int] at ne ⊢
          rw [ne]
          simp [M.bind, M.ret, R.bind, cSeq, cRet, cVar, cOp, cAnd, cOr, cNot, cIf, cAndT, cOrT, cNotT, asB, cB, cNext, cIfS, cSet, CS.put, cChain, dLe, dLt, dGt, dGe, dI2, startC, outF, fnB, cIsi, CS.knOf, tyB, isKn, isTy, M.guard, cTru, dTru, liftF, cCall, cCons, cFor, forL, cEnum, dEnum, cTg, cLc, lcL, wipeC, cWalk, dWalk, cNever, cSetTp, putAll, bLen, cFld, CS.fld, cProp, noExc, CS.clsOf, cCallS, dItems, cLenP, cIxP, CS.see, cApp, CS.pl, CS.wr, Pl.xs, dNeg, cSetIx, cStore, froz, cLst, cCutL, dCutL, cNoPart, cPart, dPart, CS.seqL, bList, M.opt, L2.ixN]
        · simp [M.bind, M.ret, R.bind, cSeq, cRet, cVar, cOp, cAnd, cOr, cNot, cIf, cAndT, cOrT, cNotT, asB, cB, cNext, cIfS, cSet, CS.put, cChain, dLe, dLt, dGt, dGe, dI2, startC, outF, fnB, cIsi, CS.knOf, tyB, isKn, isTy, M.guard, cTru, dTru, liftF, cCall, cCons, cFor, forL, cEnum, dEnum, cTg, cLc, lcL, wipeC, cWalk, dWalk, cNever, cSetTp, putAll, bLen, cFld, CS.fld, cProp, noExc, CS.clsOf, cCallS, dItems, cLenP, cIxP, CS.see, cApp, CS.pl, CS.wr, Pl.xs, dNeg, cSetIx, cStore, froz, cLst, cCutL, dCutL, cNoPart, cPart, dPart, CS.seqL, bList, M.opt] at hr
          rcases hr with hr | hr
          · omega
          · exact h4 r (by simp [M.bind, M.ret, R.bind, cSeq, cRet, cVar, cOp, cAnd, cOr, cNot, cIf, cAndT, cOrT, cNotT, asB, cB, cNext, cIfS, cSet, CS.put, cChain, dLe, dLt, dGt, dGe, dI2, startC, outF, fnB, cIsi, CS.knOf, tyB, isKn, isTy, M.guard, cTru, dTru, liftF, cCall, cCons, cFor, forL, cEnum, dEnum, cTg, cLc, lcL, wipeC, cWalk, dWalk, cNever, cSetTp, putAll, bLen, cFld, CS.fld, cProp, noExc, CS.clsOf, cCallS, dItems, cLenP, cIxP, CS.see, cApp, CS.pl, CS.wr, Pl.xs, dNeg, cSetIx, cStore, froz, cLst, cCutL, dCutL, cNoPart, cPart, dPart, CS.seqL, bList, M.opt, hr])
    · exact ⟨rs2, by simp [M.bind, M.ret, R.bind, cSeq, cRet, cVar, cOp, cAnd, cOr, cNot, cIf, cAndT, cOrT, cNotT, asB, cB, cNext, cIfS, cSet, CS.put, cChain, dLe, dLt, dGt, dGe, dI2, startC, outF, fnB, cIsi, CS.knOf, tyB, isKn, isTy, M.guard, cTru, dTru, liftF, cCall, cCons, cFor, forL, cEnum, dEnum, cTg, cLc, lcL, wipeC, cWalk, dWalk, cNever, cSetTp, putAll, bLen, cFld, CS.fld, cProp, noExc, CS.clsOf, cCallS, dItems, cLenP, cIxP, CS.see, cApp, CS.pl, CS.wr, Pl.xs, dNeg, cSetIx, cStore, froz, cLst, cCutL, dCutL, cNoPart, cPart, dPart, CS.seqL, bList, M.opt, dP_int, hw], rfl, h4⟩
  refine ⟨rs3, S3, ?_, hS3, by omega, h5⟩
  show outF (cSeq _ (cSeq _ (cSeq _ (cSeq _ (cSeq _ _)))) ⟨[.val (.ref 0), .val (.int lv), .val (.int top), .no, .no, .no], S⟩) = _
  rw [cSeq_next g1, cSeq_next g2, cSeq_next g3, cSeq_next g4]
  simp [M.bind, M.ret, R.bind, cSeq, cRet, cVar, cOp, cAnd, cOr, cNot, cIf, cAndT, cOrT, cNotT, asB, cB, cNext, cIfS, cSet, CS.put, cChain, dLe, dLt, dGt, dGe, dI2, startC, outF, fnB, cIsi, CS.knOf, tyB, isKn, isTy, M.guard, cTru, dTru, liftF, cCall, cCons, cFor, forL, cEnum, dEnum, cTg, cLc, lcL, wipeC, cWalk, dWalk, cNever, cSetTp, putAll, bLen, cFld, CS.fld, cProp, noExc, CS.clsOf, cCallS, dItems, cLenP, cIxP, CS.see, cApp, CS.pl, CS.wr, Pl.xs, dNeg, cSetIx, cStore, froz, cLst, cCutL, dCutL, cNoPart, cPart, dPart, CS.seqL, bList, M.opt, bTuple, rowD]
end K02
namespace K02
open CL PySem
/-- plain data, not too deep, not too long -/
def plD : Nat → D → Prop
  | _, .non => True
  | _, .bl _ => True
  | _, .int _ => True
  | _, .str x => SeqAt.shaped (.str x) = true
  | n + 1, .tup xs => xs.length ≤ 1000 ∧ ∀ x ∈ xs, plD n x
  | n + 1, .lst xs => xs.length ≤ 1000 ∧ ∀ x ∈ xs, plD n x
  | _, _ => False
theorem shp_bl (b : Bool) : SeqAt.shaped (.bool b) = true := by
  unfold SeqAt.shaped
  simp [M.bind, M.ret, R.bind, cSeq, cRet, cVar, cOp, cAnd, cOr, cNot, cIf, cAndT, cOrT, cNotT, asB, cB, cNext, cIfS, cSet, CS.put, cChain, dLe, dLt, dGt, dGe, dI2, startC, outF, fnB, cIsi, CS.knOf, tyB, isKn, isTy, M.guard, cTru, dTru, liftF, cCall, cCons, cFor, forL, cEnum, dEnum, cTg, cLc, lcL, wipeC, cWalk, dWalk, cNever, cSetTp, putAll, bLen, cFld, CS.fld, cProp, noExc, CS.clsOf, cCallS, dItems, cLenP, cIxP, CS.see, cApp, CS.pl, CS.wr, Pl.xs, dNeg, cSetIx, cStore, froz, cLst, cCutL, dCutL, cNoPart, cPart, dPart, CS.seqL, bList, M.opt, PyData.canLay0, PyData.depth]
theorem dP_bl (a b : Bool) (c : CS) : dP2 (fun p q => .bl (PyData.eqv p q)) (.bl a) (.bl b) c = .ok (.bl (a == b)) c := by
  have e : PyData.eqv (.bool a) (.bool b) = (a == b) := by simp [M.bind, M.ret, R.bind, cSeq, cRet, cVar, cOp, cAnd, cOr, cNot, cIf, cAndT, cOrT, cNotT, asB, cB, cNext, cIfS, cSet, CS.put, cChain, dLe, dLt, dGt, dGe, dI2, startC, outF, fnB, cIsi, CS.knOf, tyB, isKn, isTy, M.guard, cTru, dTru, liftF, cCall, cCons, cFor, forL, cEnum, dEnum, cTg, cLc, lcL, wipeC, cWalk, dWalk, cNever, cSetTp, putAll, bLen, cFld, CS.fld, cProp, noExc, CS.clsOf, cCallS, dItems, cLenP, cIxP, CS.see, cApp, CS.pl, CS.wr, Pl.xs, dNeg, cSetIx, cStore, froz, cLst, cCutL, dCutL, cNoPart, cPart, dPart, CS.seqL, bList, M.opt, PyData.eqv]
  show (match toP (.bl a), toP (.bl b) with
    | some p, some q => M.guard (SeqAt.shaped p && SeqAt.shaped q) (M.ret (D.bl (PyData.eqv p q)))
    | _, _ => fun _ => .stuck : M D) c = _
  have t : ∀ b, toP (.bl b) = some (.bool b) := fun b => by simp [M.bind, M.ret, R.bind, cSeq, cRet, cVar, cOp, cAnd, cOr, cNot, cIf, cAndT, cOrT, cNotT, asB, cB, cNext, cIfS, cSet, CS.put, cChain, dLe, dLt, dGt, dGe, dI2, startC, outF, fnB, cIsi, CS.knOf, tyB, isKn, isTy, M.guard, cTru, dTru, liftF, cCall, cCons, cFor, forL, cEnum, dEnum, cTg, cLc, lcL, wipeC, cWalk, dWalk, cNever, cSetTp, putAll, bLen, cFld, CS.fld, cProp, noExc, CS.clsOf, cCallS, dItems, cLenP, cIxP, CS.see, cApp, CS.pl, CS.wr, Pl.xs, dNeg, cSetIx, cStore, froz, cLst, cCutL, dCutL, cNoPart, cPart, dPart, CS.seqL, bList, M.opt, toP]
  rw [t, t]
  dsimp only
  rw [shp_bl, shp_bl, e]
  rfl
theorem dN_bl (a b : Bool) (c : CS) : dP2 (fun p q => .bl (!PyData.eqv p q)) (.bl a) (.bl b) c = .ok (.bl (a != b)) c := by
  have e : PyData.eqv (.bool a) (.bool b) = (a == b) := by simp [M.bind, M.ret, R.bind, cSeq, cRet, cVar, cOp, cAnd, cOr, cNot, cIf, cAndT, cOrT, cNotT, asB, cB, cNext, cIfS, cSet, CS.put, cChain, dLe, dLt, dGt, dGe, dI2, startC, outF, fnB, cIsi, CS.knOf, tyB, isKn, isTy, M.guard, cTru, dTru, liftF, cCall, cCons, cFor, forL, cEnum, dEnum, cTg, cLc, lcL, wipeC, cWalk, dWalk, cNever, cSetTp, putAll, bLen, cFld, CS.fld, cProp, noExc, CS.clsOf, cCallS, dItems, cLenP, cIxP, CS.see, cApp, CS.pl, CS.wr, Pl.xs, dNeg, cSetIx, cStore, froz, cLst, cCutL, dCutL, cNoPart, cPart, dPart, CS.seqL, bList, M.opt, PyData.eqv]
  show (match toP (.bl a), toP (.bl b) with
    | some p, some q => M.guard (SeqAt.shaped p && SeqAt.shaped q) (M.ret (D.bl (!PyData.eqv p q)))
    | _, _ => fun _ => .stuck : M D) c = _
  have t : ∀ b, toP (.bl b) = some (.bool b) := fun b => by simp [M.bind, M.ret, R.bind, cSeq, cRet, cVar, cOp, cAnd, cOr, cNot, cIf, cAndT, cOrT, cNotT, asB, cB, cNext, cIfS, cSet, CS.put, cChain, dLe, dLt, dGt, dGe, dI2, startC, outF, fnB, cIsi, CS.knOf, tyB, isKn, isTy, M.guard, cTru, dTru, liftF, cCall, cCons, cFor, forL, cEnum, dEnum, cTg, cLc, lcL, wipeC, cWalk, dWalk, cNever, cSetTp, putAll, bLen, cFld, CS.fld, cProp, noExc, CS.clsOf, cCallS, dItems, cLenP, cIxP, CS.see, cApp, CS.pl, CS.wr, Pl.xs, dNeg, cSetIx, cStore, froz, cLst, cCutL, dCutL, cNoPart, cPart, dPart, CS.seqL, bList, M.opt, toP]
  rw [t, t]
  dsimp only
  rw [shp_bl, shp_bl, e]
  rfl
theorem dP_str (x : Str) (h : SeqAt.shaped (.str x) = true) (c : CS) : dP2 (fun p q => .bl (PyData.eqv p q)) (.str x) (.str x) c = .ok (.bl true) c := by
  have e : PyData.eqv (.str x) (.str x) = true := by simp [M.bind, M.ret, R.bind, cSeq, cRet, cVar, cOp, cAnd, cOr, cNot, cIf, cAndT, cOrT, cNotT, asB, cB, cNext, cIfS, cSet, CS.put, cChain, dLe, dLt, dGt, dGe, dI2, startC, outF, fnB, cIsi, CS.knOf, tyB, isKn, isTy, M.guard, cTru, dTru, liftF, cCall, cCons, cFor, forL, cEnum, dEnum, cTg, cLc, lcL, wipeC, cWalk, dWalk, cNever, cSetTp, putAll, bLen, cFld, CS.fld, cProp, noExc, CS.clsOf, cCallS, dItems, cLenP, cIxP, CS.see, cApp, CS.pl, CS.wr, Pl.xs, dNeg, cSetIx, cStore, froz, cLst, cCutL, dCutL, cNoPart, cPart, dPart, CS.seqL, bList, M.opt, PyData.eqv]
  show (match toP (.str x), toP (.str x) with
    | some p, some q => M.guard (SeqAt.shaped p && SeqAt.shaped q) (M.ret (D.bl (PyData.eqv p q)))
    | _, _ => fun _ => .stuck : M D) c = _
  have t : toP (.str x) = some (.str x) := by simp [M.bind, M.ret, R.bind, cSeq, cRet, cVar, cOp, cAnd, cOr, cNot, cIf, cAndT, cOrT, cNotT, asB, cB, cNext, cIfS, cSet, CS.put, cChain, dLe, dLt, dGt, dGe, dI2, startC, outF, fnB, cIsi, CS.knOf, tyB, isKn, isTy, M.guard, cTru, dTru, liftF, cCall, cCons, cFor, forL, cEnum, dEnum, cTg, cLc, lcL, wipeC, cWalk, dWalk, cNever, cSetTp, putAll, bLen, cFld, CS.fld, cProp, noExc, CS.clsOf, cCallS, dItems, cLenP, cIxP, CS.see, cApp, CS.pl, CS.wr, Pl.xs, dNeg, cSetIx, cStore, froz, cLst, cCutL, dCutL, cNoPart, cPart, dPart, CS.seqL, bList, M.opt, toP]
  rw [t]
  dsimp only
  rw [h, e]
  rfl

theorem s_sameL (n : Nat) (ih : ∀ (d : D) (S : List O), plD n d → fn_law_same (n + 1) [d, d] S = .ok (.bl true) S) (xs : List D) : ∀ (acc : List D) (c : CS), c.sl.length = 4 → acc.length + xs.length ≤ 1000 → (∀ x ∈ xs, plD n x) →
    ∃ c', lcL (.tp [2, 3]) (M.ret true) (cCall (fn_law_same (n + 1)) (cCons (cVar 2) (cCons (cVar 3) (M.ret [])))) [2, 3] (zipD xs xs) acc c = .ok (acc ++ List.replicate xs.length (.bl true)) c' ∧ c'.S = c.S ∧ c'.sl.length = 4 ∧ c'.sl.take 2 = c.sl.take 2 := by
  induction xs with
  | nil => intro acc c h _ _; exact ⟨c, by simp [M.bind, M.ret, R.bind, cSeq, cRet, cVar, cOp, cAnd, cOr, cNot, cIf, cAndT, cOrT, cNotT, asB, cB, cNext, cIfS, cSet, CS.put, cChain, dLe, dLt, dGt, dGe, dI2, startC, outF, fnB, cIsi, CS.knOf, tyB, isKn, isTy, M.guard, cTru, dTru, liftF, cCall, cCons, cFor, forL, cEnum, dEnum, cTg, cLc, lcL, wipeC, cWalk, dWalk, cNever, cSetTp, putAll, bLen, cFld, CS.fld, cProp, noExc, CS.clsOf, cCallS, dItems, cLenP, cIxP, CS.see, cApp, CS.pl, CS.wr, Pl.xs, dNeg, cSetIx, cStore, froz, cLst, cCutL, dCutL, cNoPart, cPart, dPart, CS.seqL, bList, M.opt, dIs, cZip, dZip, cIsiT, D.isNon, zipD], rfl, h, rfl⟩
  | cons x xs ihx =>
    intro acc c h hl hx
    obtain ⟨sl, S⟩ := c
    match sl, h with
    | [a, b, y, z], _ =>
      obtain ⟨c', e1, e2, e3, e4⟩ := ihx (acc ++ [.bl true]) ⟨[a, b, .no, .no], S⟩ rfl (by simp [M.bind, M.ret, R.bind, cSeq, cRet, cVar, cOp, cAnd, cOr, cNot, cIf, cAndT, cOrT, cNotT, asB, cB, cNext, cIfS, cSet, CS.put, cChain, dLe, dLt, dGt, dGe, dI2, startC, outF, fnB, cIsi, CS.knOf, tyB, isKn, isTy, M.guard, cTru, dTru, liftF, cCall, cCons, cFor, forL, cEnum, dEnum, cTg, cLc, lcL, wipeC, cWalk, dWalk, cNever, cSetTp, putAll, bLen, cFld, CS.fld, cProp, noExc, CS.clsOf, cCallS, dItems, cLenP, cIxP, CS.see, cApp, CS.pl, CS.wr, Pl.xs, dNeg, cSetIx, cStore, froz, cLst, cCutL, dCutL, cNoPart, cPart, dPart, CS.seqL, bList, M.opt, dIs, cZip, dZip, cIsiT, D.isNon] at hl ⊢; omega) (fun y hy => hx y (by simp [M.bind, M.ret, R.bind, cSeq, cRet, cVar, cOp, cAnd, cOr, cNot, cIf, cAndT, cOrT, cNotT, asB, cB, cNext, cIfS, cSet, CS.put, cChain, dLe, dLt, dGt, dGe, dI2, startC, outF, fnB, cIsi, CS.knOf, tyB, isKn, isTy, M.guard, cTru, dTru, liftF, cCall, cCons, cFor, forL, cEnum, dEnum, cTg, cLc, lcL, wipeC, cWalk, dWalk, cNever, cSetTp, putAll, bLen, cFld, CS.fld, cProp, noExc, CS.clsOf, cCallS, dItems, cLenP, cIxP, CS.see, cApp, CS.pl, CS.wr, Pl.xs, dNeg, cSetIx, cStore, froz, cLst, cCutL, dCutL, cNoPart, cPart, dPart, CS.seqL, bList, M.opt, dIs, cZip, dZip, cIsiT, D.isNon, hy]))
      refine ⟨c', ?_, e2, e3, e4⟩
      have hz : acc.length < sizeLine := Nat.lt_of_lt_of_le (by simp [M.bind, M.ret, R.bind, cSeq, cRet, cVar, cOp, cAnd, cOr, cNot, cIf, cAndT, cOrT, cNotT, asB, cB, cNext, cIfS, cSet, CS.put, cChain, dLe, dLt, dGt, dGe, dI2, startC, outF, fnB, cIsi, CS.knOf, tyB, isKn, isTy, M.guard, cTru, dTru, liftF, cCall, cCons, cFor, forL, cEnum, dEnum, cTg, cLc, lcL, wipeC, cWalk, dWalk, cNever, cSetTp, putAll, bLen, cFld, CS.fld, cProp, noExc, CS.clsOf, cCallS, dItems, cLenP, cIxP, CS.see, cApp, CS.pl, CS.wr, Pl.xs, dNeg, cSetIx, cStore, froz, cLst, cCutL, dCutL, cNoPart, cPart, dPart, CS.seqL, bList, M.opt, dIs, cZip, dZip, cIsiT, D.isNon] at hl; omega : acc.length < 1001) (by decide)
      have z := ih x S (hx x (by simp [M.bind, M.ret, R.bind, cSeq, cRet, cVar, cOp, cAnd, cOr, cNot, cIf, cAndT, cOrT, cNotT, asB, cB, cNext, cIfS, cSet, CS.put, cChain, dLe, dLt, dGt, dGe, dI2, startC, outF, fnB, cIsi, CS.knOf, tyB, isKn, isTy, M.guard, cTru, dTru, liftF, cCall, cCons, cFor, forL, cEnum, dEnum, cTg, cLc, lcL, wipeC, cWalk, dWalk, cNever, cSetTp, putAll, bLen, cFld, CS.fld, cProp, noExc, CS.clsOf, cCallS, dItems, cLenP, cIxP, CS.see, cApp, CS.pl, CS.wr, Pl.xs, dNeg, cSetIx, cStore, froz, cLst, cCutL, dCutL, cNoPart, cPart, dPart, CS.seqL, bList, M.opt, dIs, cZip, dZip, cIsiT, D.isNon]))
      have ez : zipD (x :: xs) (x :: xs) = .tup [x, x] :: zipD xs xs := rfl
      rw [ez]
      simp [M.bind, M.ret, R.bind, cSeq, cRet, cVar, cOp, cAnd, cOr, cNot, cIf, cAndT, cOrT, cNotT, asB, cB, cNext, cIfS, cSet, CS.put, cChain, dLe, dLt, dGt, dGe, dI2, startC, outF, fnB, cIsi, CS.knOf, tyB, isKn, isTy, M.guard, cTru, dTru, liftF, cCall, cCons, cFor, forL, cEnum, dEnum, cTg, cLc, lcL, wipeC, cWalk, dWalk, cNever, cSetTp, putAll, bLen, cFld, CS.fld, cProp, noExc, CS.clsOf, cCallS, dItems, cLenP, cIxP, CS.see, cApp, CS.pl, CS.wr, Pl.xs, dNeg, cSetIx, cStore, froz, cLst, cCutL, dCutL, cNoPart, cPart, dPart, CS.seqL, bList, M.opt, dIs, cZip, dZip, cIsiT, D.isNon, z, hz] at e1 ⊢
      rw [e1]
      simp [M.bind, M.ret, R.bind, cSeq, cRet, cVar, cOp, cAnd, cOr, cNot, cIf, cAndT, cOrT, cNotT, asB, cB, cNext, cIfS, cSet, CS.put, cChain, dLe, dLt, dGt, dGe, dI2, startC, outF, fnB, cIsi, CS.knOf, tyB, isKn, isTy, M.guard, cTru, dTru, liftF, cCall, cCons, cFor, forL, cEnum, dEnum, cTg, cLc, lcL, wipeC, cWalk, dWalk, cNever, cSetTp, putAll, bLen, cFld, CS.fld, cProp, noExc, CS.clsOf, cCallS, dItems, cLenP, cIxP, CS.see, cApp, CS.pl, CS.wr, Pl.xs, dNeg, cSetIx, cStore, froz, cLst, cCutL, dCutL, cNoPart, cPart, dPart, CS.seqL, bList, M.opt, dIs, cZip, dZip, cIsiT, D.isNon, List.replicate_succ]
theorem s_sameS (n : Nat) (d : D) (S : List O) (h : plD 0 d) : fn_law_same (n + 1) [d, d] S = .ok (.bl true) S := by
  cases d with
  | non => simp [M.bind, M.ret, R.bind, cSeq, cRet, cVar, cOp, cAnd, cOr, cNot, cIf, cAndT, cOrT, cNotT, asB, cB, cNext, cIfS, cSet, CS.put, cChain, dLe, dLt, dGt, dGe, dI2, startC, outF, fnB, cIsi, CS.knOf, tyB, isKn, isTy, M.guard, cTru, dTru, liftF, cCall, cCons, cFor, forL, cEnum, dEnum, cTg, cLc, lcL, wipeC, cWalk, dWalk, cNever, cSetTp, putAll, bLen, cFld, CS.fld, cProp, noExc, CS.clsOf, cCallS, dItems, cLenP, cIxP, CS.see, cApp, CS.pl, CS.wr, Pl.xs, dNeg, cSetIx, cStore, froz, cLst, cCutL, dCutL, cNoPart, cPart, dPart, CS.seqL, bList, M.opt, dIs, cZip, dZip, cIsiT, D.isNon, fn_law_same, cl_law_same]
  | bl b => simp [M.bind, M.ret, R.bind, cSeq, cRet, cVar, cOp, cAnd, cOr, cNot, cIf, cAndT, cOrT, cNotT, asB, cB, cNext, cIfS, cSet, CS.put, cChain, dLe, dLt, dGt, dGe, dI2, startC, outF, fnB, cIsi, CS.knOf, tyB, isKn, isTy, M.guard, cTru, dTru, liftF, cCall, cCons, cFor, forL, cEnum, dEnum, cTg, cLc, lcL, wipeC, cWalk, dWalk, cNever, cSetTp, putAll, bLen, cFld, CS.fld, cProp, noExc, CS.clsOf, cCallS, dItems, cLenP, cIxP, CS.see, cApp, CS.pl, CS.wr, Pl.xs, dNeg, cSetIx, cStore, froz, cLst, cCutL, dCutL, cNoPart, cPart, dPart, CS.seqL, bList, M.opt, dIs, cZip, dZip, cIsiT, D.isNon, fn_law_same, cl_law_same, dN_bl, dP_bl]
  | int i => simp [M.bind, M.ret, R.bind, cSeq, cRet, cVar, cOp, cAnd, cOr, cNot, cIf, cAndT, cOrT, cNotT, asB, cB, cNext, cIfS, cSet, CS.put, cChain, dLe, dLt, dGt, dGe, dI2, startC, outF, fnB, cIsi, CS.knOf, tyB, isKn, isTy, M.guard, cTru, dTru, liftF, cCall, cCons, cFor, forL, cEnum, dEnum, cTg, cLc, lcL, wipeC, cWalk, dWalk, cNever, cSetTp, putAll, bLen, cFld, CS.fld, cProp, noExc, CS.clsOf, cCallS, dItems, cLenP, cIxP, CS.see, cApp, CS.pl, CS.wr, Pl.xs, dNeg, cSetIx, cStore, froz, cLst, cCutL, dCutL, cNoPart, cPart, dPart, CS.seqL, bList, M.opt, dIs, cZip, dZip, cIsiT, D.isNon, fn_law_same, cl_law_same, dN_bl, dP_bl, dP_int]
  | str x =>
    have hx : SeqAt.shaped (.str x) = true := h
    simp [M.bind, M.ret, R.bind, cSeq, cRet, cVar, cOp, cAnd, cOr, cNot, cIf, cAndT, cOrT, cNotT, asB, cB, cNext, cIfS, cSet, CS.put, cChain, dLe, dLt, dGt, dGe, dI2, startC, outF, fnB, cIsi, CS.knOf, tyB, isKn, isTy, M.guard, cTru, dTru, liftF, cCall, cCons, cFor, forL, cEnum, dEnum, cTg, cLc, lcL, wipeC, cWalk, dWalk, cNever, cSetTp, putAll, bLen, cFld, CS.fld, cProp, noExc, CS.clsOf, cCallS, dItems, cLenP, cIxP, CS.see, cApp, CS.pl, CS.wr, Pl.xs, dNeg, cSetIx, cStore, froz, cLst, cCutL, dCutL, cNoPart, cPart, dPart, CS.seqL, bList, M.opt, dIs, cZip, dZip, cIsiT, D.isNon, fn_law_same, cl_law_same, dN_bl, dP_bl, dP_str x hx]
  | _ => exact h.elim
theorem s_sameX (n : Nat) (ih : ∀ (d : D) (S : List O), plD n d → fn_law_same (n + 1) [d, d] S = .ok (.bl true) S) (xs : List D) (S : List O) (hl : xs.length ≤ 1000) (hx : ∀ x ∈ xs, plD n x) : fn_law_same (n + 2) [.tup xs, .tup xs] S = .ok (.bl true) S ∧ fn_law_same (n + 2) [.lst xs, .lst xs] S = .ok (.bl true) S := by
  have zl : szOk xs.length = true := szOk_small hl
  have ab := asBls_map (List.replicate xs.length true)
  simp [M.bind, M.ret, R.bind, cSeq, cRet, cVar, cOp, cAnd, cOr, cNot, cIf, cAndT, cOrT, cNotT, asB, cB, cNext, cIfS, cSet, CS.put, cChain, dLe, dLt, dGt, dGe, dI2, startC, outF, fnB, cIsi, CS.knOf, tyB, isKn, isTy, M.guard, cTru, dTru, liftF, cCall, cCons, cFor, forL, cEnum, dEnum, cTg, cLc, lcL, wipeC, cWalk, dWalk, cNever, cSetTp, putAll, bLen, cFld, CS.fld, cProp, noExc, CS.clsOf, cCallS, dItems, cLenP, cIxP, CS.see, cApp, CS.pl, CS.wr, Pl.xs, dNeg, cSetIx, cStore, froz, cLst, cCutL, dCutL, cNoPart, cPart, dPart, CS.seqL, bList, M.opt, dIs, cZip, dZip, cIsiT, D.isNon] at ab
  constructor
  · obtain ⟨c', e1, e2, e3, e4⟩ := s_sameL n ih xs [] ⟨[.val (.tup xs), .val (.tup xs), .no, .no], S⟩ rfl (by simpa using hl) hx
    rw [fn_law_same]
    simp [M.bind, M.ret, R.bind, cSeq, cRet, cVar, cOp, cAnd, cOr, cNot, cIf, cAndT, cOrT, cNotT, asB, cB, cNext, cIfS, cSet, CS.put, cChain, dLe, dLt, dGt, dGe, dI2, startC, outF, fnB, cIsi, CS.knOf, tyB, isKn, isTy, M.guard, cTru, dTru, liftF, cCall, cCons, cFor, forL, cEnum, dEnum, cTg, cLc, wipeC, cWalk, dWalk, cNever, cSetTp, putAll, bLen, cFld, CS.fld, cProp, noExc, CS.clsOf, cCallS, dItems, cLenP, cIxP, CS.see, cApp, CS.pl, CS.wr, Pl.xs, dNeg, cSetIx, cStore, froz, cLst, cCutL, dCutL, cNoPart, cPart, dPart, CS.seqL, bList, M.opt, dIs, cZip, dZip, cIsiT, D.isNon, cl_law_same, dN_bl, dP_bl, dP_int, zl] at e1 ⊢
    rw [e1]
    simp [M.bind, M.ret, R.bind, cSeq, cRet, cVar, cOp, cAnd, cOr, cNot, cIf, cAndT, cOrT, cNotT, asB, cB, cNext, cIfS, cSet, CS.put, cChain, dLe, dLt, dGt, dGe, dI2, startC, outF, fnB, cIsi, CS.knOf, tyB, isKn, isTy, M.guard, cTru, dTru, liftF, cCall, cCons, cFor, forL, cEnum, dEnum, cTg, cLc, lcL, wipeC, cWalk, dWalk, cNever, cSetTp, putAll, bLen, cFld, CS.fld, cProp, noExc, CS.clsOf, cCallS, dItems, cLenP, cIxP, CS.see, cApp, CS.pl, CS.wr, Pl.xs, dNeg, cSetIx, cStore, froz, cLst, cCutL, dCutL, cNoPart, cPart, dPart, CS.seqL, bList, M.opt, dIs, cZip, dZip, cIsiT, D.isNon, bAll, bOne, ab, e2]
  · obtain ⟨c', e1, e2, e3, e4⟩ := s_sameL n ih xs [] ⟨[.val (.lst xs), .val (.lst xs), .no, .no], S⟩ rfl (by simpa using hl) hx
    rw [fn_law_same]
    simp [M.bind, M.ret, R.bind, cSeq, cRet, cVar, cOp, cAnd, cOr, cNot, cIf, cAndT, cOrT, cNotT, asB, cB, cNext, cIfS, cSet, CS.put, cChain, dLe, dLt, dGt, dGe, dI2, startC, outF, fnB, cIsi, CS.knOf, tyB, isKn, isTy, M.guard, cTru, dTru, liftF, cCall, cCons, cFor, forL, cEnum, dEnum, cTg, cLc, wipeC, cWalk, dWalk, cNever, cSetTp, putAll, bLen, cFld, CS.fld, cProp, noExc, CS.clsOf, cCallS, dItems, cLenP, cIxP, CS.see, cApp, CS.pl, CS.wr, Pl.xs, dNeg, cSetIx, cStore, froz, cLst, cCutL, dCutL, cNoPart, cPart, dPart, CS.seqL, bList, M.opt, dIs, cZip, dZip, cIsiT, D.isNon, cl_law_same, dN_bl, dP_bl, dP_int, zl] at e1 ⊢
    rw [e1]
    simp [M.bind, M.ret, R.bind, cSeq, cRet, cVar, cOp, cAnd, cOr, cNot, cIf, cAndT, cOrT, cNotT, asB, cB, cNext, cIfS, cSet, CS.put, cChain, dLe, dLt, dGt, dGe, dI2, startC, outF, fnB, cIsi, CS.knOf, tyB, isKn, isTy, M.guard, cTru, dTru, liftF, cCall, cCons, cFor, forL, cEnum, dEnum, cTg, cLc, lcL, wipeC, cWalk, dWalk, cNever, cSetTp, putAll, bLen, cFld, CS.fld, cProp, noExc, CS.clsOf, cCallS, dItems, cLenP, cIxP, CS.see, cApp, CS.pl, CS.wr, Pl.xs, dNeg, cSetIx, cStore, froz, cLst, cCutL, dCutL, cNoPart, cPart, dPart, CS.seqL, bList, M.opt, dIs, cZip, dZip, cIsiT, D.isNon, bAll, bOne, ab, e2]
theorem s_same : ∀ (n : Nat) (d : D) (S : List O), plD n d → fn_law_same (n + 1) [d, d] S = .ok (.bl true) S
  | 0, d, S, h => s_sameS 0 d S h
  | n + 1, d, S, h => by
    cases d with
    | tup xs => exact (s_sameX n (s_same n) xs S h.1 h.2).1
    | lst xs => exact (s_sameX n (s_same n) xs S h.1 h.2).2
    | non => exact s_sameS (n + 1) _ S trivial
    | bl b => exact s_sameS (n + 1) _ S trivial
    | int i => exact s_sameS (n + 1) _ S trivial
    | str x => exact s_sameS (n + 1) _ S h
    | _ => exact h.elim
end K02
namespace K02
open CL PySem
theorem s_rowsL (sg lv top : Int) (hv : 0 ≤ lv) (hv2 : lv ≤ 12) (ht : 0 < top) (ht2 : top ≤ 12) (ds : List D) : ∀ (rs : List (List Int)) (S : List O), rs.length + ds.length ≤ 1000 → (∀ r ∈ rs, RowOk r) → TapeOk S →
    ∃ (rs' : List (List Int)) (S' : List O), lcL (.nm 4) (M.ret true) (cCall fn_law_row (cCons (cVar 0) (cCons (cVar 2) (cCons (cVar 3) (M.ret []))))) [4] ds (rs.map rowD) ⟨[.val (.ref 0), .val (.int sg), .val (.int lv), .val (.int top), .no], S⟩ = .ok (rs'.map rowD) ⟨[.val (.ref 0), .val (.int sg), .val (.int lv), .val (.int top), .no], S'⟩ ∧ TapeOk S' ∧ rs'.length = rs.length + ds.length ∧ ∀ r ∈ rs', RowOk r := by
  induction ds with
  | nil => intro rs S _ h hS; exact ⟨rs, S, by simp [M.bind, M.ret, R.bind, cSeq, cRet, cVar, cOp, cAnd, cOr, cNot, cIf, cAndT, cOrT, cNotT, asB, cB, cNext, cIfS, cSet, CS.put, cChain, dLe, dLt, dGt, dGe, dI2, startC, outF, fnB, cIsi, CS.knOf, tyB, isKn, isTy, M.guard, cTru, dTru, liftF, cCall, cCons, cFor, forL, cEnum, dEnum, cTg, cLc, lcL, wipeC, cWalk, dWalk, cNever, cSetTp, putAll, bLen, cFld, CS.fld, cProp, noExc, CS.clsOf, cCallS, dItems, cLenP, cIxP, CS.see, cApp, CS.pl, CS.wr, Pl.xs, dNeg, cSetIx, cStore, froz, cLst, cCutL, dCutL, cNoPart, cPart, dPart, CS.seqL, bList, M.opt, dIs, cZip, dZip, cIsiT, D.isNon], hS, by simp [M.bind, M.ret, R.bind, cSeq, cRet, cVar, cOp, cAnd, cOr, cNot, cIf, cAndT, cOrT, cNotT, asB, cB, cNext, cIfS, cSet, CS.put, cChain, dLe, dLt, dGt, dGe, dI2, startC, outF, fnB, cIsi, CS.knOf, tyB, isKn, isTy, M.guard, cTru, dTru, liftF, cCall, cCons, cFor, forL, cEnum, dEnum, cTg, cLc, lcL, wipeC, cWalk, dWalk, cNever, cSetTp, putAll, bLen, cFld, CS.fld, cProp, noExc, CS.clsOf, cCallS, dItems, cLenP, cIxP, CS.see, cApp, CS.pl, CS.wr, Pl.xs, dNeg, cSetIx, cStore, froz, cLst, cCutL, dCutL, cNoPart, cPart, dPart, CS.seqL, bList, M.opt, dIs, cZip, dZip, cIsiT, D.isNon], h⟩
  | cons d ds ih =>
    intro rs S hl h hS
    simp [M.bind, M.ret, R.bind, cSeq, cRet, cVar, cOp, cAnd, cOr, cNot, cIf, cAndT, cOrT, cNotT, asB, cB, cNext, cIfS, cSet, CS.put, cChain, dLe, dLt, dGt, dGe, dI2, startC, outF, fnB, cIsi, CS.knOf, tyB, isKn, isTy, M.guard, cTru, dTru, liftF, cCall, cCons, cFor, forL, cEnum, dEnum, cTg, cLc, lcL, wipeC, cWalk, dWalk, cNever, cSetTp, putAll, bLen, cFld, CS.fld, cProp, noExc, CS.clsOf, cCallS, dItems, cLenP, cIxP, CS.see, cApp, CS.pl, CS.wr, Pl.xs, dNeg, cSetIx, cStore, froz, cLst, cCutL, dCutL, cNoPart, cPart, dPart, CS.seqL, bList, M.opt, dIs, cZip, dZip, cIsiT, D.isNon] at hl
    obtain ⟨r, S', e, hS', l1, h1⟩ := s_lrow lv top S hv hv2 ht ht2 hS
    have hr : RowOk r := ⟨by omega, fun x hx => ⟨(h1 x hx).1, by have := (h1 x hx).2; omega⟩⟩
    obtain ⟨rs', S2, e2, hS2, l2, h2⟩ := ih (rs ++ [r]) S' (by simp [M.bind, M.ret, R.bind, cSeq, cRet, cVar, cOp, cAnd, cOr, cNot, cIf, cAndT, cOrT, cNotT, asB, cB, cNext, cIfS, cSet, CS.put, cChain, dLe, dLt, dGt, dGe, dI2, startC, outF, fnB, cIsi, CS.knOf, tyB, isKn, isTy, M.guard, cTru, dTru, liftF, cCall, cCons, cFor, forL, cEnum, dEnum, cTg, cLc, lcL, wipeC, cWalk, dWalk, cNever, cSetTp, putAll, bLen, cFld, CS.fld, cProp, noExc, CS.clsOf, cCallS, dItems, cLenP, cIxP, CS.see, cApp, CS.pl, CS.wr, Pl.xs, dNeg, cSetIx, cStore, froz, cLst, cCutL, dCutL, cNoPart, cPart, dPart, CS.seqL, bList, M.opt, dIs, cZip, dZip, cIsiT, D.isNon]; omega) (fun x hx => by
      simp [M.bind, M.ret, R.bind, cSeq, cRet, cVar, cOp, cAnd, cOr, cNot, cIf, cAndT, cOrT, cNotT, asB, cB, cNext, cIfS, cSet, CS.put, cChain, dLe, dLt, dGt, dGe, dI2, startC, outF, fnB, cIsi, CS.knOf, tyB, isKn, isTy, M.guard, cTru, dTru, liftF, cCall, cCons, cFor, forL, cEnum, dEnum, cTg, cLc, lcL, wipeC, cWalk, dWalk, cNever, cSetTp, putAll, bLen, cFld, CS.fld, cProp, noExc, CS.clsOf, cCallS, dItems, cLenP, cIxP, CS.see, cApp, CS.pl, CS.wr, Pl.xs, dNeg, cSetIx, cStore, froz, cLst, cCutL, dCutL, cNoPart, cPart, dPart, CS.seqL, bList, M.opt, dIs, cZip, dZip, cIsiT, D.isNon] at hx
      rcases hx with hx | hx
      · exact h x hx
      · rw [hx]; exact hr) hS'
    refine ⟨rs', S2, ?_, hS2, by simp [M.bind, M.ret, R.bind, cSeq, cRet, cVar, cOp, cAnd, cOr, cNot, cIf, cAndT, cOrT, cNotT, asB, cB, cNext, cIfS, cSet, CS.put, cChain, dLe, dLt, dGt, dGe, dI2, startC, outF, fnB, cIsi, CS.knOf, tyB, isKn, isTy, M.guard, cTru, dTru, liftF, cCall, cCons, cFor, forL, cEnum, dEnum, cTg, cLc, lcL, wipeC, cWalk, dWalk, cNever, cSetTp, putAll, bLen, cFld, CS.fld, cProp, noExc, CS.clsOf, cCallS, dItems, cLenP, cIxP, CS.see, cApp, CS.pl, CS.wr, Pl.xs, dNeg, cSetIx, cStore, froz, cLst, cCutL, dCutL, cNoPart, cPart, dPart, CS.seqL, bList, M.opt, dIs, cZip, dZip, cIsiT, D.isNon] at l2 ⊢; omega, h2⟩
    have hz : rs.length < sizeLine := Nat.lt_of_lt_of_le (by omega : rs.length < 1001) (by decide)
    simp [M.bind, M.ret, R.bind, cSeq, cRet, cVar, cOp, cAnd, cOr, cNot, cIf, cAndT, cOrT, cNotT, asB, cB, cNext, cIfS, cSet, CS.put, cChain, dLe, dLt, dGt, dGe, dI2, startC, outF, fnB, cIsi, CS.knOf, tyB, isKn, isTy, M.guard, cTru, dTru, liftF, cCall, cCons, cFor, forL, cEnum, dEnum, cTg, cLc, lcL, wipeC, cWalk, dWalk, cNever, cSetTp, putAll, bLen, cFld, CS.fld, cProp, noExc, CS.clsOf, cCallS, dItems, cLenP, cIxP, CS.see, cApp, CS.pl, CS.wr, Pl.xs, dNeg, cSetIx, cStore, froz, cLst, cCutL, dCutL, cNoPart, cPart, dPart, CS.seqL, bList, M.opt, dIs, cZip, dZip, cIsiT, D.isNon, e, hz] at e2 ⊢
    exact e2
theorem s_rows (sg lv top : Int) (S : List O) (h0 : 0 < sg) (h4 : sg ≤ 4) (hv : 0 ≤ lv) (hv2 : lv ≤ 12) (ht : 0 < top) (ht2 : top ≤ 12) (hS : TapeOk S) : ∃ (rs : List (List Int)) (S' : List O), fn_law_rows [.ref 0, .int sg, .int lv, .int top] S = .ok (.lst (rs.map rowD)) S' ∧ TapeOk S' ∧ ChOk rs := by
  obtain ⟨n, S1, e1, hS1, n0, n1⟩ := s_pick sg S h0 (by omega) hS
  obtain ⟨rs, S2, e2, hS2, l2, h2⟩ := s_rowsL sg lv top hv hv2 ht ht2 (rangeD 0 (1 + n).toNat) [] S1 (by rw [rangeD_len]; simp [M.bind, M.ret, R.bind, cSeq, cRet, cVar, cOp, cAnd, cOr, cNot, cIf, cAndT, cOrT, cNotT, asB, cB, cNext, cIfS, cSet, CS.put, cChain, dLe, dLt, dGt, dGe, dI2, startC, outF, fnB, cIsi, CS.knOf, tyB, isKn, isTy, M.guard, cTru, dTru, liftF, cCall, cCons, cFor, forL, cEnum, dEnum, cTg, cLc, lcL, wipeC, cWalk, dWalk, cNever, cSetTp, putAll, bLen, cFld, CS.fld, cProp, noExc, CS.clsOf, cCallS, dItems, cLenP, cIxP, CS.see, cApp, CS.pl, CS.wr, Pl.xs, dNeg, cSetIx, cStore, froz, cLst, cCutL, dCutL, cNoPart, cPart, dPart, CS.seqL, bList, M.opt, dIs, cZip, dZip, cIsiT, D.isNon]; omega) (fun r hr => by simp [M.bind, M.ret, R.bind, cSeq, cRet, cVar, cOp, cAnd, cOr, cNot, cIf, cAndT, cOrT, cNotT, asB, cB, cNext, cIfS, cSet, CS.put, cChain, dLe, dLt, dGt, dGe, dI2, startC, outF, fnB, cIsi, CS.knOf, tyB, isKn, isTy, M.guard, cTru, dTru, liftF, cCall, cCons, cFor, forL, cEnum, dEnum, cTg, cLc, lcL, wipeC, cWalk, dWalk, cNever, cSetTp, putAll, bLen, cFld, CS.fld, cProp, noExc, CS.clsOf, cCallS, dItems, cLenP, cIxP, CS.see, cApp, CS.pl, CS.wr, Pl.xs, dNeg, cSetIx, cStore, froz, cLst, cCutL, dCutL, cNoPart, cPart, dPart, CS.seqL, bList, M.opt, dIs, cZip, dZip, cIsiT, D.isNon] at hr) hS1
  rw [rangeD_len] at l2
  simp [M.bind, M.ret, R.bind, cSeq, cRet, cVar, cOp, cAnd, cOr, cNot, cIf, cAndT, cOrT, cNotT, asB, cB, cNext, cIfS, cSet, CS.put, cChain, dLe, dLt, dGt, dGe, dI2, startC, outF, fnB, cIsi, CS.knOf, tyB, isKn, isTy, M.guard, cTru, dTru, liftF, cCall, cCons, cFor, forL, cEnum, dEnum, cTg, cLc, lcL, wipeC, cWalk, dWalk, cNever, cSetTp, putAll, bLen, cFld, CS.fld, cProp, noExc, CS.clsOf, cCallS, dItems, cLenP, cIxP, CS.see, cApp, CS.pl, CS.wr, Pl.xs, dNeg, cSetIx, cStore, froz, cLst, cCutL, dCutL, cNoPart, cPart, dPart, CS.seqL, bList, M.opt, dIs, cZip, dZip, cIsiT, D.isNon] at l2
  have hf : fitsR (1 + n) = true := by unfold fitsR; simp [M.bind, M.ret, R.bind, cSeq, cRet, cVar, cOp, cAnd, cOr, cNot, cIf, cAndT, cOrT, cNotT, asB, cB, cNext, cIfS, cSet, CS.put, cChain, dLe, dLt, dGt, dGe, dI2, startC, outF, fnB, cIsi, CS.knOf, tyB, isKn, isTy, M.guard, cTru, dTru, liftF, cCall, cCons, cFor, forL, cEnum, dEnum, cTg, cLc, lcL, wipeC, cWalk, dWalk, cNever, cSetTp, putAll, bLen, cFld, CS.fld, cProp, noExc, CS.clsOf, cCallS, dItems, cLenP, cIxP, CS.see, cApp, CS.pl, CS.wr, Pl.xs, dNeg, cSetIx, cStore, froz, cLst, cCutL, dCutL, cNoPart, cPart, dPart, CS.seqL, bList, M.opt, dIs, cZip, dZip, cIsiT, D.isNon]; omega
  refine ⟨rs, S2, ?_, hS2, by omega, by omega, h2⟩
  simp [M.bind, M.ret, R.bind, cSeq, cRet, cVar, cOp, cAnd, cOr, cNot, cIf, cAndT, cOrT, cNotT, asB, cB, cNext, cIfS, cSet, CS.put, cChain, dLe, dLt, dGt, dGe, dI2, startC, outF, fnB, cIsi, CS.knOf, tyB, isKn, isTy, M.guard, cTru, dTru, liftF, cCall, cCons, cFor, forL, cEnum, dEnum, cTg, cLc, wipeC, cWalk, dWalk, cNever, cSetTp, putAll, bLen, cFld, CS.fld, cProp, noExc, CS.clsOf, cCallS, dItems, cLenP, cIxP, CS.see, cApp, CS.pl, CS.wr, Pl.xs, dNeg, cSetIx, cStore, froz, cLst, cCutL, dCutL, cNoPart, cPart, dPart, CS.seqL, bList, M.opt, dIs, cZip, dZip, cIsiT, D.isNon, fn_law_rows, cl_law_rows, cRange1, dAdd, e1, hf] at e2 ⊢
  rw [e2]
theorem dE_int (i j : Int) (c : CS) : dP2 (fun p q => .bl (PyData.eqv p q)) (.int i) (.int j) c = .ok (.bl (decide (i = j))) c := dEq_int i j c
theorem s_madeX (rs : List (List Int)) (S : List O) (h : ChOk rs) : fn_law_made [.lst (rs.map rowD)] S = .ok (chD rs) S := by
  have e := s_make rs S h
  obtain ⟨h1, h4, hr⟩ := h
  match rs, h1, h4 with
  | [a], _, _ => 
    have z : szOk 1 = true := szOk_small (by omega)
    simp [M.bind, M.ret, R.bind, cSeq, cRet, cVar, cOp, cAnd, cOr, cNot, cIf, cAndT, cOrT, cNotT, asB, cB, cNext, cIfS, cSet, CS.put, cChain, dLe, dLt, dGt, dGe, dI2, startC, outF, fnB, cIsi, CS.knOf, tyB, isKn, isTy, M.guard, cTru, dTru, liftF, cCall, cCons, cFor, forL, cEnum, dEnum, cTg, cLc, lcL, wipeC, cWalk, dWalk, cNever, cSetTp, putAll, bLen, cFld, CS.fld, cProp, noExc, CS.clsOf, cCallS, dItems, cLenP, cIxP, CS.see, cApp, CS.pl, CS.wr, Pl.xs, dNeg, cSetIx, cStore, froz, cLst, cCutL, dCutL, cNoPart, cPart, dPart, CS.seqL, bList, M.opt, dIs, cZip, dZip, cIsiT, D.isNon, fn_law_made, cl_law_made, z, dE_int, dIx, L2.atI, L2.ixN] at e ⊢
    rw [e]
  | [a, b], _, _ =>
    have z : szOk 2 = true := szOk_small (by omega)
    simp [M.bind, M.ret, R.bind, cSeq, cRet, cVar, cOp, cAnd, cOr, cNot, cIf, cAndT, cOrT, cNotT, asB, cB, cNext, cIfS, cSet, CS.put, cChain, dLe, dLt, dGt, dGe, dI2, startC, outF, fnB, cIsi, CS.knOf, tyB, isKn, isTy, M.guard, cTru, dTru, liftF, cCall, cCons, cFor, forL, cEnum, dEnum, cTg, cLc, lcL, wipeC, cWalk, dWalk, cNever, cSetTp, putAll, bLen, cFld, CS.fld, cProp, noExc, CS.clsOf, cCallS, dItems, cLenP, cIxP, CS.see, cApp, CS.pl, CS.wr, Pl.xs, dNeg, cSetIx, cStore, froz, cLst, cCutL, dCutL, cNoPart, cPart, dPart, CS.seqL, bList, M.opt, dIs, cZip, dZip, cIsiT, D.isNon, fn_law_made, cl_law_made, z, dE_int, dIx, L2.atI, L2.ixN] at e ⊢
    rw [e]
  | [a, b, c], _, _ =>
    have z : szOk 3 = true := szOk_small (by omega)
    simp [M.bind, M.ret, R.bind, cSeq, cRet, cVar, cOp, cAnd, cOr, cNot, cIf, cAndT, cOrT, cNotT, asB, cB, cNext, cIfS, cSet, CS.put, cChain, dLe, dLt, dGt, dGe, dI2, startC, outF, fnB, cIsi, CS.knOf, tyB, isKn, isTy, M.guard, cTru, dTru, liftF, cCall, cCons, cFor, forL, cEnum, dEnum, cTg, cLc, lcL, wipeC, cWalk, dWalk, cNever, cSetTp, putAll, bLen, cFld, CS.fld, cProp, noExc, CS.clsOf, cCallS, dItems, cLenP, cIxP, CS.see, cApp, CS.pl, CS.wr, Pl.xs, dNeg, cSetIx, cStore, froz, cLst, cCutL, dCutL, cNoPart, cPart, dPart, CS.seqL, bList, M.opt, dIs, cZip, dZip, cIsiT, D.isNon, fn_law_made, cl_law_made, z, dE_int, dIx, L2.atI, L2.ixN] at e ⊢
    rw [e]
  | [a, b, c, d], _, _ =>
    have z : szOk 4 = true := szOk_small (by omega)
    simp [M.bind, M.ret, R.bind, cSeq, cRet, cVar, cOp, cAnd, cOr, cNot, cIf, cAndT, cOrT, cNotT, asB, cB, cNext, cIfS, cSet, CS.put, cChain, dLe, dLt, dGt, dGe, dI2, startC, outF, fnB, cIsi, CS.knOf, tyB, isKn, isTy, M.guard, cTru, dTru, liftF, cCall, cCons, cFor, forL, cEnum, dEnum, cTg, cLc, lcL, wipeC, cWalk, dWalk, cNever, cSetTp, putAll, bLen, cFld, CS.fld, cProp, noExc, CS.clsOf, cCallS, dItems, cLenP, cIxP, CS.see, cApp, CS.pl, CS.wr, Pl.xs, dNeg, cSetIx, cStore, froz, cLst, cCutL, dCutL, cNoPart, cPart, dPart, CS.seqL, bList, M.opt, dIs, cZip, dZip, cIsiT, D.isNon, fn_law_made, cl_law_made, z, dE_int, dIx, L2.atI, L2.ixN] at e ⊢
    rw [e]
  | a :: b :: c :: d :: x :: r, _, h4 => simp [M.bind, M.ret, R.bind, cSeq, cRet, cVar, cOp, cAnd, cOr, cNot, cIf, cAndT, cOrT, cNotT, asB, cB, cNext, cIfS, cSet, CS.put, cChain, dLe, dLt, dGt, dGe, dI2, startC, outF, fnB, cIsi, CS.knOf, tyB, isKn, isTy, M.guard, cTru, dTru, liftF, cCall, cCons, cFor, forL, cEnum, dEnum, cTg, cLc, lcL, wipeC, cWalk, dWalk, cNever, cSetTp, putAll, bLen, cFld, CS.fld, cProp, noExc, CS.clsOf, cCallS, dItems, cLenP, cIxP, CS.see, cApp, CS.pl, CS.wr, Pl.xs, dNeg, cSetIx, cStore, froz, cLst, cCutL, dCutL, cNoPart, cPart, dPart, CS.seqL, bList, M.opt, dIs, cZip, dZip, cIsiT, D.isNon] at h4
end K02
namespace K02
open CL PySem
/-! cut at " | " -/
abbrev bar : List Nat := [32, 124, 32]
theorem pre_bar (c : Nat) (r : List Nat) : TL.pre bar (c :: r) = ((c :: r).take 3 == bar) := rfl
theorem bar_miss {c d : Nat} {r : List Nat} (h : d ≠ 124) : TL.pre bar (c :: d :: r) = false := by
  rw [pre_bar]
  cases r with
  | nil => simp [M.bind, M.ret, R.bind, cSeq, cRet, cVar, cOp, cAnd, cOr, cNot, cIf, cAndT, cOrT, cNotT, asB, cB, cNext, cIfS, cSet, CS.put, cChain, dLe, dLt, dGt, dGe, dI2, startC, outF, fnB, cIsi, CS.knOf, tyB, isKn, isTy, M.guard, cTru, dTru, liftF, cCall, cCons, cFor, forL, cEnum, dEnum, cTg, cLc, lcL, wipeC, cWalk, dWalk, cNever, cSetTp, putAll, bLen, cFld, CS.fld, cProp, noExc, CS.clsOf, cCallS, dItems, cLenP, cIxP, CS.see, cApp, CS.pl, CS.wr, Pl.xs, dNeg, cSetIx, cStore, froz, cLst, cCutL, dCutL, cNoPart, cPart, dPart, CS.seqL, bList, M.opt, dIs, cZip, dZip, cIsiT, D.isNon]
  | cons e r => simp [M.bind, M.ret, R.bind, cSeq, cRet, cVar, cOp, cAnd, cOr, cNot, cIf, cAndT, cOrT, cNotT, asB, cB, cNext, cIfS, cSet, CS.put, cChain, dLe, dLt, dGt, dGe, dI2, startC, outF, fnB, cIsi, CS.knOf, tyB, isKn, isTy, M.guard, cTru, dTru, liftF, cCall, cCons, cFor, forL, cEnum, dEnum, cTg, cLc, lcL, wipeC, cWalk, dWalk, cNever, cSetTp, putAll, bLen, cFld, CS.fld, cProp, noExc, CS.clsOf, cCallS, dItems, cLenP, cIxP, CS.see, cApp, CS.pl, CS.wr, Pl.xs, dNeg, cSetIx, cStore, froz, cLst, cCutL, dCutL, cNoPart, cPart, dPart, CS.seqL, bList, M.opt, dIs, cZip, dZip, cIsiT, D.isNon, h]
theorem bar_part : ∀ (p acc rest : List Nat), 124 ∉ p → TL.spl bar 0 acc (p ++ (bar ++ rest)) = (acc ++ p) :: TL.spl bar 0 [] rest
  | [], acc, rest, _ => by
    show TL.spl bar 0 acc (32 :: (124 :: 32 :: rest)) = _
    rw [TL.spl_hit (by rw [pre_bar]; simp [M.bind, M.ret, R.bind, cSeq, cRet, cVar, cOp, cAnd, cOr, cNot, cIf, cAndT, cOrT, cNotT, asB, cB, cNext, cIfS, cSet, CS.put, cChain, dLe, dLt, dGt, dGe, dI2, startC, outF, fnB, cIsi, CS.knOf, tyB, isKn, isTy, M.guard, cTru, dTru, liftF, cCall, cCons, cFor, forL, cEnum, dEnum, cTg, cLc, lcL, wipeC, cWalk, dWalk, cNever, cSetTp, putAll, bLen, cFld, CS.fld, cProp, noExc, CS.clsOf, cCallS, dItems, cLenP, cIxP, CS.see, cApp, CS.pl, CS.wr, Pl.xs, dNeg, cSetIx, cStore, froz, cLst, cCutL, dCutL, cNoPart, cPart, dPart, CS.seqL, bList, M.opt, dIs, cZip, dZip, cIsiT, D.isNon]), TL.spl_pass]
    simp [M.bind, M.ret, R.bind, cSeq, cRet, cVar, cOp, cAnd, cOr, cNot, cIf, cAndT, cOrT, cNotT, asB, cB, cNext, cIfS, cSet, CS.put, cChain, dLe, dLt, dGt, dGe, dI2, startC, outF, fnB, cIsi, CS.knOf, tyB, isKn, isTy, M.guard, cTru, dTru, liftF, cCall, cCons, cFor, forL, cEnum, dEnum, cTg, cLc, lcL, wipeC, cWalk, dWalk, cNever, cSetTp, putAll, bLen, cFld, CS.fld, cProp, noExc, CS.clsOf, cCallS, dItems, cLenP, cIxP, CS.see, cApp, CS.pl, CS.wr, Pl.xs, dNeg, cSetIx, cStore, froz, cLst, cCutL, dCutL, cNoPart, cPart, dPart, CS.seqL, bList, M.opt, dIs, cZip, dZip, cIsiT, D.isNon]
  | c :: p, acc, rest, h => by
    have hp : 124 ∉ p := fun z => h (List.mem_cons_of_mem _ z)
    have miss : TL.pre bar (c :: (p ++ (bar ++ rest))) = false := by
      cases p with
      | nil => exact bar_miss (d := 32) (by decide)
      | cons d p => exact bar_miss (d := d) fun z => hp (by rw [z]; exact List.mem_cons_self)
    rw [List.cons_append, TL.spl_miss miss, bar_part p _ rest hp]
    simp [M.bind, M.ret, R.bind, cSeq, cRet, cVar, cOp, cAnd, cOr, cNot, cIf, cAndT, cOrT, cNotT, asB, cB, cNext, cIfS, cSet, CS.put, cChain, dLe, dLt, dGt, dGe, dI2, startC, outF, fnB, cIsi, CS.knOf, tyB, isKn, isTy, M.guard, cTru, dTru, liftF, cCall, cCons, cFor, forL, cEnum, dEnum, cTg, cLc, lcL, wipeC, cWalk, dWalk, cNever, cSetTp, putAll, bLen, cFld, CS.fld, cProp, noExc, CS.clsOf, cCallS, dItems, cLenP, cIxP, CS.see, cApp, CS.pl, CS.wr, Pl.xs, dNeg, cSetIx, cStore, froz, cLst, cCutL, dCutL, cNoPart, cPart, dPart, CS.seqL, bList, M.opt, dIs, cZip, dZip, cIsiT, D.isNon]
theorem bar_last : ∀ (p acc : List Nat), 124 ∉ p → TL.spl bar 0 acc p = [acc ++ p]
  | [], acc, _ => by rw [TL.spl_nil, List.append_nil]
  | c :: p, acc, h => by
    have hp : 124 ∉ p := fun z => h (List.mem_cons_of_mem _ z)
    have miss : TL.pre bar (c :: p) = false := by
      cases p with
      | nil => rw [pre_bar]; simp [M.bind, M.ret, R.bind, cSeq, cRet, cVar, cOp, cAnd, cOr, cNot, cIf, cAndT, cOrT, cNotT, asB, cB, cNext, cIfS, cSet, CS.put, cChain, dLe, dLt, dGt, dGe, dI2, startC, outF, fnB, cIsi, CS.knOf, tyB, isKn, isTy, M.guard, cTru, dTru, liftF, cCall, cCons, cFor, forL, cEnum, dEnum, cTg, cLc, lcL, wipeC, cWalk, dWalk, cNever, cSetTp, putAll, bLen, cFld, CS.fld, cProp, noExc, CS.clsOf, cCallS, dItems, cLenP, cIxP, CS.see, cApp, CS.pl, CS.wr, Pl.xs, dNeg, cSetIx, cStore, froz, cLst, cCutL, dCutL, cNoPart, cPart, dPart, CS.seqL, bList, M.opt, dIs, cZip, dZip, cIsiT, D.isNon]
      | cons d p => exact bar_miss (d := d) fun z => hp (by rw [z]; exact List.mem_cons_self)
    rw [TL.spl_miss miss, bar_last p _ hp]
    simp [M.bind, M.ret, R.bind, cSeq, cRet, cVar, cOp, cAnd, cOr, cNot, cIf, cAndT, cOrT, cNotT, asB, cB, cNext, cIfS, cSet, CS.put, cChain, dLe, dLt, dGt, dGe, dI2, startC, outF, fnB, cIsi, CS.knOf, tyB, isKn, isTy, M.guard, cTru, dTru, liftF, cCall, cCons, cFor, forL, cEnum, dEnum, cTg, cLc, lcL, wipeC, cWalk, dWalk, cNever, cSetTp, putAll, bLen, cFld, CS.fld, cProp, noExc, CS.clsOf, cCallS, dItems, cLenP, cIxP, CS.see, cApp, CS.pl, CS.wr, Pl.xs, dNeg, cSetIx, cStore, froz, cLst, cCutL, dCutL, cNoPart, cPart, dPart, CS.seqL, bList, M.opt, dIs, cZip, dZip, cIsiT, D.isNon]
theorem bar_join : ∀ {parts : List (List Nat)}, parts ≠ [] → (∀ p ∈ parts, 124 ∉ p) → TL.spl bar 0 [] (TL.joinL bar parts) = parts
  | [], h, _ => absurd rfl h
  | [p], _, hp => by
    show TL.spl bar 0 [] p = [p]
    rw [bar_last p [] (hp p (by simp [M.bind, M.ret, R.bind, cSeq, cRet, cVar, cOp, cAnd, cOr, cNot, cIf, cAndT, cOrT, cNotT, asB, cB, cNext, cIfS, cSet, CS.put, cChain, dLe, dLt, dGt, dGe, dI2, startC, outF, fnB, cIsi, CS.knOf, tyB, isKn, isTy, M.guard, cTru, dTru, liftF, cCall, cCons, cFor, forL, cEnum, dEnum, cTg, cLc, lcL, wipeC, cWalk, dWalk, cNever, cSetTp, putAll, bLen, cFld, CS.fld, cProp, noExc, CS.clsOf, cCallS, dItems, cLenP, cIxP, CS.see, cApp, CS.pl, CS.wr, Pl.xs, dNeg, cSetIx, cStore, froz, cLst, cCutL, dCutL, cNoPart, cPart, dPart, CS.seqL, bList, M.opt, dIs, cZip, dZip, cIsiT, D.isNon]))]
    rfl
  | p :: q :: r, _, hp => by
    show TL.spl bar 0 [] (p ++ (bar ++ TL.joinL bar (q :: r))) = p :: q :: r
    rw [bar_part p [] _ (hp p (by simp [M.bind, M.ret, R.bind, cSeq, cRet, cVar, cOp, cAnd, cOr, cNot, cIf, cAndT, cOrT, cNotT, asB, cB, cNext, cIfS, cSet, CS.put, cChain, dLe, dLt, dGt, dGe, dI2, startC, outF, fnB, cIsi, CS.knOf, tyB, isKn, isTy, M.guard, cTru, dTru, liftF, cCall, cCons, cFor, forL, cEnum, dEnum, cTg, cLc, lcL, wipeC, cWalk, dWalk, cNever, cSetTp, putAll, bLen, cFld, CS.fld, cProp, noExc, CS.clsOf, cCallS, dItems, cLenP, cIxP, CS.see, cApp, CS.pl, CS.wr, Pl.xs, dNeg, cSetIx, cStore, froz, cLst, cCutL, dCutL, cNoPart, cPart, dPart, CS.seqL, bList, M.opt, dIs, cZip, dZip, cIsiT, D.isNon])), bar_join (by simp [M.bind, M.ret, R.bind, cSeq, cRet, cVar, cOp, cAnd, cOr, cNot, cIf, cAndT, cOrT, cNotT, asB, cB, cNext, cIfS, cSet, CS.put, cChain, dLe, dLt, dGt, dGe, dI2, startC, outF, fnB, cIsi, CS.knOf, tyB, isKn, isTy, M.guard, cTru, dTru, liftF, cCall, cCons, cFor, forL, cEnum, dEnum, cTg, cLc, lcL, wipeC, cWalk, dWalk, cNever, cSetTp, putAll, bLen, cFld, CS.fld, cProp, noExc, CS.clsOf, cCallS, dItems, cLenP, cIxP, CS.see, cApp, CS.pl, CS.wr, Pl.xs, dNeg, cSetIx, cStore, froz, cLst, cCutL, dCutL, cNoPart, cPart, dPart, CS.seqL, bList, M.opt, dIs, cZip, dZip, cIsiT, D.isNon]) fun z hz => hp z (List.mem_cons_of_mem _ hz)]
    rfl
def barS : Str := PySem.Str.ofString " | "
theorem tl_bar : TL.tl barS = bar := by decide
theorem split_bar {parts : List Str} (hne : parts ≠ []) (hp : ∀ p ∈ parts, 124 ∉ TL.tl p) : Txt.split (Txt.join barS parts) barS = parts := by
  refine TL.map_tl_inj ?_
  rw [TL.split_spl _ barS (by rw [tl_bar]; simp [M.bind, M.ret, R.bind, cSeq, cRet, cVar, cOp, cAnd, cOr, cNot, cIf, cAndT, cOrT, cNotT, asB, cB, cNext, cIfS, cSet, CS.put, cChain, dLe, dLt, dGt, dGe, dI2, startC, outF, fnB, cIsi, CS.knOf, tyB, isKn, isTy, M.guard, cTru, dTru, liftF, cCall, cCons, cFor, forL, cEnum, dEnum, cTg, cLc, lcL, wipeC, cWalk, dWalk, cNever, cSetTp, putAll, bLen, cFld, CS.fld, cProp, noExc, CS.clsOf, cCallS, dItems, cLenP, cIxP, CS.see, cApp, CS.pl, CS.wr, Pl.xs, dNeg, cSetIx, cStore, froz, cLst, cCutL, dCutL, cNoPart, cPart, dPart, CS.seqL, bList, M.opt, dIs, cZip, dZip, cIsiT, D.isNon]) (TL.kind_ok (by decide +kernel)), TL.join_eq, TL.tl_join, tl_bar]
  refine bar_join (fun e => hne (List.map_eq_nil_iff.mp e)) fun p h => ?_
  obtain ⟨z, hz, rfl⟩ := List.mem_map.mp h
  exact hp z hz
/-! the words of capacities -/
def wd (c : Int) : Str := (toString c : String)
theorem caps {P : Int → Prop} (h : ∀ n : Fin 12, P ((n.val : Int) + 1)) {c : Int} (h1 : 1 ≤ c) (h2 : c ≤ 12) : P c := by
  have e : c = (((c - 1).toNat : Nat) : Int) + 1 := by omega
  rw [e]
  exact h ⟨(c - 1).toNat, by omega⟩
theorem wd_len {c : Int} (h1 : 1 ≤ c) (h2 : c ≤ 12) : (wd c).length ≤ 2 := caps (P := fun c => (wd c).length ≤ 2) (by decide) h1 h2
theorem wd_sgn {c : Int} (h1 : 1 ≤ c) (h2 : c ≤ 12) : 32 ∉ TL.tl (wd c) ∧ 124 ∉ TL.tl (wd c) := caps (P := fun c => 32 ∉ TL.tl (wd c) ∧ 124 ∉ TL.tl (wd c)) (by decide) h1 h2
theorem wd_shp {c : Int} (h1 : 1 ≤ c) (h2 : c ≤ 12) : SeqAt.shaped (.str (wd c)) = true := caps (P := fun c => SeqAt.shaped (.str (wd c)) = true) (by decide +kernel) h1 h2
theorem wd_log {c : Int} (h1 : 1 ≤ c) (h2 : c ≤ 12) : c.natAbs.log2 < 1920 := caps (P := fun c => c.natAbs.log2 < 1920) (by decide) h1 h2
end K02
namespace K02
open CL PySem
def blk : Str := PySem.Str.ofString " "
def rowT (r : List Int) : Str := match r with
  | [] => PySem.Str.ofString "-"
  | x :: r => Txt.join blk ((x :: r).map wd)
def chT (rs : List (List Int)) : Str := Txt.join barS (rs.map rowT)
theorem asStrs_map (ys : List Str) : asStrs (ys.map D.str) = some ys := by
  induction ys with
  | nil => rfl
  | cons b bs ih => simp [M.bind, M.ret, R.bind, cSeq, cRet, cVar, cOp, cAnd, cOr, cNot, cIf, cAndT, cOrT, cNotT, asB, cB, cNext, cIfS, cSet, CS.put, cChain, dLe, dLt, dGt, dGe, dI2, startC, outF, fnB, cIsi, CS.knOf, tyB, isKn, isTy, M.guard, cTru, dTru, liftF, cCall, cCons, cFor, forL, cEnum, dEnum, cTg, cLc, lcL, wipeC, cWalk, dWalk, cNever, cSetTp, putAll, bLen, cFld, CS.fld, cProp, noExc, CS.clsOf, cCallS, dItems, cLenP, cIxP, CS.see, cApp, CS.pl, CS.wr, Pl.xs, dNeg, cSetIx, cStore, froz, cLst, cCutL, dCutL, cNoPart, cPart, dPart, CS.seqL, bList, M.opt, dIs, cZip, dZip, cIsiT, D.isNon, asStrs, ih]
theorem sum_wd {r : List Int} (h : ∀ x ∈ r, 1 ≤ x ∧ x ≤ 12) : ((r.map wd).map (·.length)).sum ≤ 2 * r.length := by
  induction r with
  | nil => simp [M.bind, M.ret, R.bind, cSeq, cRet, cVar, cOp, cAnd, cOr, cNot, cIf, cAndT, cOrT, cNotT, asB, cB, cNext, cIfS, cSet, CS.put, cChain, dLe, dLt, dGt, dGe, dI2, startC, outF, fnB, cIsi, CS.knOf, tyB, isKn, isTy, M.guard, cTru, dTru, liftF, cCall, cCons, cFor, forL, cEnum, dEnum, cTg, cLc, lcL, wipeC, cWalk, dWalk, cNever, cSetTp, putAll, bLen, cFld, CS.fld, cProp, noExc, CS.clsOf, cCallS, dItems, cLenP, cIxP, CS.see, cApp, CS.pl, CS.wr, Pl.xs, dNeg, cSetIx, cStore, froz, cLst, cCutL, dCutL, cNoPart, cPart, dPart, CS.seqL, bList, M.opt, dIs, cZip, dZip, cIsiT, D.isNon]
  | cons x r ih =>
    have h1 := wd_len (h x (by simp [M.bind, M.ret, R.bind, cSeq, cRet, cVar, cOp, cAnd, cOr, cNot, cIf, cAndT, cOrT, cNotT, asB, cB, cNext, cIfS, cSet, CS.put, cChain, dLe, dLt, dGt, dGe, dI2, startC, outF, fnB, cIsi, CS.knOf, tyB, isKn, isTy, M.guard, cTru, dTru, liftF, cCall, cCons, cFor, forL, cEnum, dEnum, cTg, cLc, lcL, wipeC, cWalk, dWalk, cNever, cSetTp, putAll, bLen, cFld, CS.fld, cProp, noExc, CS.clsOf, cCallS, dItems, cLenP, cIxP, CS.see, cApp, CS.pl, CS.wr, Pl.xs, dNeg, cSetIx, cStore, froz, cLst, cCutL, dCutL, cNoPart, cPart, dPart, CS.seqL, bList, M.opt, dIs, cZip, dZip, cIsiT, D.isNon])).1 (h x (by simp [M.bind, M.ret, R.bind, cSeq, cRet, cVar, cOp, cAnd, cOr, cNot, cIf, cAndT, cOrT, cNotT, asB, cB, cNext, cIfS, cSet, CS.put, cChain, dLe, dLt, dGt, dGe, dI2, startC, outF, fnB, cIsi, CS.knOf, tyB, isKn, isTy, M.guard, cTru, dTru, liftF, cCall, cCons, cFor, forL, cEnum, dEnum, cTg, cLc, lcL, wipeC, cWalk, dWalk, cNever, cSetTp, putAll, bLen, cFld, CS.fld, cProp, noExc, CS.clsOf, cCallS, dItems, cLenP, cIxP, CS.see, cApp, CS.pl, CS.wr, Pl.xs, dNeg, cSetIx, cStore, froz, cLst, cCutL, dCutL, cNoPart, cPart, dPart, CS.seqL, bList, M.opt, dIs, cZip, dZip, cIsiT, D.isNon])).2
    have h2 := ih fun y hy => h y (by simp [M.bind, M.ret, R.bind, cSeq, cRet, cVar, cOp, cAnd, cOr, cNot, cIf, cAndT, cOrT, cNotT, asB, cB, cNext, cIfS, cSet, CS.put, cChain, dLe, dLt, dGt, dGe, dI2, startC, outF, fnB, cIsi, CS.knOf, tyB, isKn, isTy, M.guard, cTru, dTru, liftF, cCall, cCons, cFor, forL, cEnum, dEnum, cTg, cLc, lcL, wipeC, cWalk, dWalk, cNever, cSetTp, putAll, bLen, cFld, CS.fld, cProp, noExc, CS.clsOf, cCallS, dItems, cLenP, cIxP, CS.see, cApp, CS.pl, CS.wr, Pl.xs, dNeg, cSetIx, cStore, froz, cLst, cCutL, dCutL, cNoPart, cPart, dPart, CS.seqL, bList, M.opt, dIs, cZip, dZip, cIsiT, D.isNon, hy])
    simp [M.bind, M.ret, R.bind, cSeq, cRet, cVar, cOp, cAnd, cOr, cNot, cIf, cAndT, cOrT, cNotT, asB, cB, cNext, cIfS, cSet, CS.put, cChain, dLe, dLt, dGt, dGe, dI2, startC, outF, fnB, cIsi, CS.knOf, tyB, isKn, isTy, M.guard, cTru, dTru, liftF, cCall, cCons, cFor, forL, cEnum, dEnum, cTg, cLc, lcL, wipeC, cWalk, dWalk, cNever, cSetTp, putAll, bLen, cFld, CS.fld, cProp, noExc, CS.clsOf, cCallS, dItems, cLenP, cIxP, CS.see, cApp, CS.pl, CS.wr, Pl.xs, dNeg, cSetIx, cStore, froz, cLst, cCutL, dCutL, cNoPart, cPart, dPart, CS.seqL, bList, M.opt, dIs, cZip, dZip, cIsiT, D.isNon] at h2 ⊢
    omega

/-- the texts of a row's capacities, at slots [a, b] -/
theorem s_tx2 (r : List Int) : ∀ (acc : List D) (a b : Sl) (S : List O), acc.length + r.length ≤ 1000 → (∀ x ∈ r, 1 ≤ x ∧ x ≤ 12) →
    ∃ b', lcL (.nm 1) (M.ret true) ((cCons (cVar 1) (M.ret [])).bind bStr) [1] (r.map .int) acc ⟨[a, b], S⟩ = .ok (acc ++ r.map fun x => .str (wd x)) ⟨[a, b'], S⟩ := by
  induction r with
  | nil => intro acc a b S _ _; exact ⟨b, by simp [M.bind, M.ret, R.bind, cSeq, cRet, cVar, cOp, cAnd, cOr, cNot, cIf, cAndT, cOrT, cNotT, asB, cB, cNext, cIfS, cSet, CS.put, cChain, dLe, dLt, dGt, dGe, dI2, startC, outF, fnB, cIsi, CS.knOf, tyB, isKn, isTy, M.guard, cTru, dTru, liftF, cCall, cCons, cFor, forL, cEnum, dEnum, cTg, cLc, lcL, wipeC, cWalk, dWalk, cNever, cSetTp, putAll, bLen, cFld, CS.fld, cProp, noExc, CS.clsOf, cCallS, dItems, cLenP, cIxP, CS.see, cApp, CS.pl, CS.wr, Pl.xs, dNeg, cSetIx, cStore, froz, cLst, cCutL, dCutL, cNoPart, cPart, dPart, CS.seqL, bList, M.opt, dIs, cZip, dZip, cIsiT, D.isNon, bStr]⟩
  | cons x r ih =>
    intro acc a b S hl h
    obtain ⟨b', e⟩ := ih (acc ++ [.str (wd x)]) a .no S (by simp [M.bind, M.ret, R.bind, cSeq, cRet, cVar, cOp, cAnd, cOr, cNot, cIf, cAndT, cOrT, cNotT, asB, cB, cNext, cIfS, cSet, CS.put, cChain, dLe, dLt, dGt, dGe, dI2, startC, outF, fnB, cIsi, CS.knOf, tyB, isKn, isTy, M.guard, cTru, dTru, liftF, cCall, cCons, cFor, forL, cEnum, dEnum, cTg, cLc, lcL, wipeC, cWalk, dWalk, cNever, cSetTp, putAll, bLen, cFld, CS.fld, cProp, noExc, CS.clsOf, cCallS, dItems, cLenP, cIxP, CS.see, cApp, CS.pl, CS.wr, Pl.xs, dNeg, cSetIx, cStore, froz, cLst, cCutL, dCutL, cNoPart, cPart, dPart, CS.seqL, bList, M.opt, dIs, cZip, dZip, cIsiT, D.isNon, bStr] at hl ⊢; omega) (fun y hy => h y (by simp [M.bind, M.ret, R.bind, cSeq, cRet, cVar, cOp, cAnd, cOr, cNot, cIf, cAndT, cOrT, cNotT, asB, cB, cNext, cIfS, cSet, CS.put, cChain, dLe, dLt, dGt, dGe, dI2, startC, outF, fnB, cIsi, CS.knOf, tyB, isKn, isTy, M.guard, cTru, dTru, liftF, cCall, cCons, cFor, forL, cEnum, dEnum, cTg, cLc, lcL, wipeC, cWalk, dWalk, cNever, cSetTp, putAll, bLen, cFld, CS.fld, cProp, noExc, CS.clsOf, cCallS, dItems, cLenP, cIxP, CS.see, cApp, CS.pl, CS.wr, Pl.xs, dNeg, cSetIx, cStore, froz, cLst, cCutL, dCutL, cNoPart, cPart, dPart, CS.seqL, bList, M.opt, dIs, cZip, dZip, cIsiT, D.isNon, bStr, hy]))
    refine ⟨b', ?_⟩
    have hz : acc.length < sizeLine := Nat.lt_of_lt_of_le (by simp [M.bind, M.ret, R.bind, cSeq, cRet, cVar, cOp, cAnd, cOr, cNot, cIf, cAndT, cOrT, cNotT, asB, cB, cNext, cIfS, cSet, CS.put, cChain, dLe, dLt, dGt, dGe, dI2, startC, outF, fnB, cIsi, CS.knOf, tyB, isKn, isTy, M.guard, cTru, dTru, liftF, cCall, cCons, cFor, forL, cEnum, dEnum, cTg, cLc, lcL, wipeC, cWalk, dWalk, cNever, cSetTp, putAll, bLen, cFld, CS.fld, cProp, noExc, CS.clsOf, cCallS, dItems, cLenP, cIxP, CS.see, cApp, CS.pl, CS.wr, Pl.xs, dNeg, cSetIx, cStore, froz, cLst, cCutL, dCutL, cNoPart, cPart, dPart, CS.seqL, bList, M.opt, dIs, cZip, dZip, cIsiT, D.isNon, bStr] at hl; omega : acc.length < 1001) (by decide)
    have hg := wd_log (h x (by simp [M.bind, M.ret, R.bind, cSeq, cRet, cVar, cOp, cAnd, cOr, cNot, cIf, cAndT, cOrT, cNotT, asB, cB, cNext, cIfS, cSet, CS.put, cChain, dLe, dLt, dGt, dGe, dI2, startC, outF, fnB, cIsi, CS.knOf, tyB, isKn, isTy, M.guard, cTru, dTru, liftF, cCall, cCons, cFor, forL, cEnum, dEnum, cTg, cLc, lcL, wipeC, cWalk, dWalk, cNever, cSetTp, putAll, bLen, cFld, CS.fld, cProp, noExc, CS.clsOf, cCallS, dItems, cLenP, cIxP, CS.see, cApp, CS.pl, CS.wr, Pl.xs, dNeg, cSetIx, cStore, froz, cLst, cCutL, dCutL, cNoPart, cPart, dPart, CS.seqL, bList, M.opt, dIs, cZip, dZip, cIsiT, D.isNon, bStr])).1 (h x (by simp [M.bind, M.ret, R.bind, cSeq, cRet, cVar, cOp, cAnd, cOr, cNot, cIf, cAndT, cOrT, cNotT, asB, cB, cNext, cIfS, cSet, CS.put, cChain, dLe, dLt, dGt, dGe, dI2, startC, outF, fnB, cIsi, CS.knOf, tyB, isKn, isTy, M.guard, cTru, dTru, liftF, cCall, cCons, cFor, forL, cEnum, dEnum, cTg, cLc, lcL, wipeC, cWalk, dWalk, cNever, cSetTp, putAll, bLen, cFld, CS.fld, cProp, noExc, CS.clsOf, cCallS, dItems, cLenP, cIxP, CS.see, cApp, CS.pl, CS.wr, Pl.xs, dNeg, cSetIx, cStore, froz, cLst, cCutL, dCutL, cNoPart, cPart, dPart, CS.seqL, bList, M.opt, dIs, cZip, dZip, cIsiT, D.isNon, bStr])).2
    simp [M.bind, M.ret, R.bind, cSeq, cRet, cVar, cOp, cAnd, cOr, cNot, cIf, cAndT, cOrT, cNotT, asB, cB, cNext, cIfS, cSet, CS.put, cChain, dLe, dLt, dGt, dGe, dI2, startC, outF, fnB, cIsi, CS.knOf, tyB, isKn, isTy, M.guard, cTru, dTru, liftF, cCall, cCons, cFor, forL, cEnum, dEnum, cTg, cLc, lcL, wipeC, cWalk, dWalk, cNever, cSetTp, putAll, bLen, cFld, CS.fld, cProp, noExc, CS.clsOf, cCallS, dItems, cLenP, cIxP, CS.see, cApp, CS.pl, CS.wr, Pl.xs, dNeg, cSetIx, cStore, froz, cLst, cCutL, dCutL, cNoPart, cPart, dPart, CS.seqL, bList, M.opt, dIs, cZip, dZip, cIsiT, D.isNon, bStr, hz, hg] at e ⊢
    exact e
/-- .. at slots [a, b, c] -/
theorem s_tx3 (r : List Int) : ∀ (acc : List D) (a b d : Sl) (S : List O), acc.length + r.length ≤ 1000 → (∀ x ∈ r, 1 ≤ x ∧ x ≤ 12) →
    ∃ b', lcL (.nm 1) (M.ret true) ((cCons (cVar 1) (M.ret [])).bind bStr) [1] (r.map .int) acc ⟨[a, b, d], S⟩ = .ok (acc ++ r.map fun x => .str (wd x)) ⟨[a, b', d], S⟩ := by
  induction r with
  | nil => intro acc a b d S _ _; exact ⟨b, by simp [M.bind, M.ret, R.bind, cSeq, cRet, cVar, cOp, cAnd, cOr, cNot, cIf, cAndT, cOrT, cNotT, asB, cB, cNext, cIfS, cSet, CS.put, cChain, dLe, dLt, dGt, dGe, dI2, startC, outF, fnB, cIsi, CS.knOf, tyB, isKn, isTy, M.guard, cTru, dTru, liftF, cCall, cCons, cFor, forL, cEnum, dEnum, cTg, cLc, lcL, wipeC, cWalk, dWalk, cNever, cSetTp, putAll, bLen, cFld, CS.fld, cProp, noExc, CS.clsOf, cCallS, dItems, cLenP, cIxP, CS.see, cApp, CS.pl, CS.wr, Pl.xs, dNeg, cSetIx, cStore, froz, cLst, cCutL, dCutL, cNoPart, cPart, dPart, CS.seqL, bList, M.opt, dIs, cZip, dZip, cIsiT, D.isNon, bStr]⟩
  | cons x r ih =>
    intro acc a b d S hl h
    obtain ⟨b', e⟩ := ih (acc ++ [.str (wd x)]) a .no d S (by simp [M.bind, M.ret, R.bind, cSeq, cRet, cVar, cOp, cAnd, cOr, cNot, cIf, cAndT, cOrT, cNotT, asB, cB, cNext, cIfS, cSet, CS.put, cChain, dLe, dLt, dGt, dGe, dI2, startC, outF, fnB, cIsi, CS.knOf, tyB, isKn, isTy, M.guard, cTru, dTru, liftF, cCall, cCons, cFor, forL, cEnum, dEnum, cTg, cLc, lcL, wipeC, cWalk, dWalk, cNever, cSetTp, putAll, bLen, cFld, CS.fld, cProp, noExc, CS.clsOf, cCallS, dItems, cLenP, cIxP, CS.see, cApp, CS.pl, CS.wr, Pl.xs, dNeg, cSetIx, cStore, froz, cLst, cCutL, dCutL, cNoPart, cPart, dPart, CS.seqL, bList, M.opt, dIs, cZip, dZip, cIsiT, D.isNon, bStr] at hl ⊢; omega) (fun y hy => h y (by simp [M.bind, M.ret, R.bind, cSeq, cRet, cVar, cOp, cAnd, cOr, cNot, cIf, cAndT, cOrT, cNotT, asB, cB, cNext, cIfS, cSet, CS.put, cChain, dLe, dLt, dGt, dGe, dI2, startC, outF, fnB, cIsi, CS.knOf, tyB, isKn, isTy, M.guard, cTru, dTru, liftF, cCall, cCons, cFor, forL, cEnum, dEnum, cTg, cLc, lcL, wipeC, cWalk, dWalk, cNever, cSetTp, putAll, bLen, cFld, CS.fld, cProp, noExc, CS.clsOf, cCallS, dItems, cLenP, cIxP, CS.see, cApp, CS.pl, CS.wr, Pl.xs, dNeg, cSetIx, cStore, froz, cLst, cCutL, dCutL, cNoPart, cPart, dPart, CS.seqL, bList, M.opt, dIs, cZip, dZip, cIsiT, D.isNon, bStr, hy]))
    refine ⟨b', ?_⟩
    have hz : acc.length < sizeLine := Nat.lt_of_lt_of_le (by simp [M.bind, M.ret, R.bind, cSeq, cRet, cVar, cOp, cAnd, cOr, cNot, cIf, cAndT, cOrT, cNotT, asB, cB, cNext, cIfS, cSet, CS.put, cChain, dLe, dLt, dGt, dGe, dI2, startC, outF, fnB, cIsi, CS.knOf, tyB, isKn, isTy, M.guard, cTru, dTru, liftF, cCall, cCons, cFor, forL, cEnum, dEnum, cTg, cLc, lcL, wipeC, cWalk, dWalk, cNever, cSetTp, putAll, bLen, cFld, CS.fld, cProp, noExc, CS.clsOf, cCallS, dItems, cLenP, cIxP, CS.see, cApp, CS.pl, CS.wr, Pl.xs, dNeg, cSetIx, cStore, froz, cLst, cCutL, dCutL, cNoPart, cPart, dPart, CS.seqL, bList, M.opt, dIs, cZip, dZip, cIsiT, D.isNon, bStr] at hl; omega : acc.length < 1001) (by decide)
    have hg := wd_log (h x (by simp [M.bind, M.ret, R.bind, cSeq, cRet, cVar, cOp, cAnd, cOr, cNot, cIf, cAndT, cOrT, cNotT, asB, cB, cNext, cIfS, cSet, CS.put, cChain, dLe, dLt, dGt, dGe, dI2, startC, outF, fnB, cIsi, CS.knOf, tyB, isKn, isTy, M.guard, cTru, dTru, liftF, cCall, cCons, cFor, forL, cEnum, dEnum, cTg, cLc, lcL, wipeC, cWalk, dWalk, cNever, cSetTp, putAll, bLen, cFld, CS.fld, cProp, noExc, CS.clsOf, cCallS, dItems, cLenP, cIxP, CS.see, cApp, CS.pl, CS.wr, Pl.xs, dNeg, cSetIx, cStore, froz, cLst, cCutL, dCutL, cNoPart, cPart, dPart, CS.seqL, bList, M.opt, dIs, cZip, dZip, cIsiT, D.isNon, bStr])).1 (h x (by simp [M.bind, M.ret, R.bind, cSeq, cRet, cVar, cOp, cAnd, cOr, cNot, cIf, cAndT, cOrT, cNotT, asB, cB, cNext, cIfS, cSet, CS.put, cChain, dLe, dLt, dGt, dGe, dI2, startC, outF, fnB, cIsi, CS.knOf, tyB, isKn, isTy, M.guard, cTru, dTru, liftF, cCall, cCons, cFor, forL, cEnum, dEnum, cTg, cLc, lcL, wipeC, cWalk, dWalk, cNever, cSetTp, putAll, bLen, cFld, CS.fld, cProp, noExc, CS.clsOf, cCallS, dItems, cLenP, cIxP, CS.see, cApp, CS.pl, CS.wr, Pl.xs, dNeg, cSetIx, cStore, froz, cLst, cCutL, dCutL, cNoPart, cPart, dPart, CS.seqL, bList, M.opt, dIs, cZip, dZip, cIsiT, D.isNon, bStr])).2
    simp [M.bind, M.ret, R.bind, cSeq, cRet, cVar, cOp, cAnd, cOr, cNot, cIf, cAndT, cOrT, cNotT, asB, cB, cNext, cIfS, cSet, CS.put, cChain, dLe, dLt, dGt, dGe, dI2, startC, outF, fnB, cIsi, CS.knOf, tyB, isKn, isTy, M.guard, cTru, dTru, liftF, cCall, cCons, cFor, forL, cEnum, dEnum, cTg, cLc, lcL, wipeC, cWalk, dWalk, cNever, cSetTp, putAll, bLen, cFld, CS.fld, cProp, noExc, CS.clsOf, cCallS, dItems, cLenP, cIxP, CS.see, cApp, CS.pl, CS.wr, Pl.xs, dNeg, cSetIx, cStore, froz, cLst, cCutL, dCutL, cNoPart, cPart, dPart, CS.seqL, bList, M.opt, dIs, cZip, dZip, cIsiT, D.isNon, bStr, hz, hg] at e ⊢
    exact e
theorem cJoin_ok {a : Str} {L : M (List D)} {c c' : CS} {ys : List D} {r : R D} (e : L c = .ok ys c') (j : dJoin a (.lst ys) c' = r) : cJoin (M.ret (.str a)) (froz L) c = r := by
  show ((L c).bind fun xs c => R.ok (D.lst xs) c).bind (fun d c => dJoin a d c) = r
  rw [e]
  exact j
theorem blk_len : blk.length = 1 := by decide
theorem s_dJoinB (r : List Int) (h : RowOk r) (c : CS) : dJoin blk (.lst ((r.map wd).map .str)) c = .ok (.str (Txt.join blk (r.map wd))) c := by
  have e := asStrs_map (r.map wd)
  have hs := sum_wd h.2
  have hl := h.1
  have hd : decide (((r.map wd).map (·.length)).sum + (r.map wd).length * blk.length ≤ 16777216) = true := decide_eq_true (by rw [blk_len]; simp [M.bind, M.ret, R.bind, cSeq, cRet, cVar, cOp, cAnd, cOr, cNot, cIf, cAndT, cOrT, cNotT, asB, cB, cNext, cIfS, cSet, CS.put, cChain, dLe, dLt, dGt, dGe, dI2, startC, outF, fnB, cIsi, CS.knOf, tyB, isKn, isTy, M.guard, cTru, dTru, liftF, cCall, cCons, cFor, forL, cEnum, dEnum, cTg, cLc, lcL, wipeC, cWalk, dWalk, cNever, cSetTp, putAll, bLen, cFld, CS.fld, cProp, noExc, CS.clsOf, cCallS, dItems, cLenP, cIxP, CS.see, cApp, CS.pl, CS.wr, Pl.xs, dNeg, cSetIx, cStore, froz, cLst, cCutL, dCutL, cNoPart, cPart, dPart, CS.seqL, bList, M.opt, dIs, cZip, dZip, cIsiT, D.isNon, bStr] at hs ⊢; omega)
  show (match (some ((r.map wd).map D.str)).bind asStrs with
    | some ys => M.guard (decide ((ys.map Str.length).sum + ys.length * blk.length ≤ 16777216)) (M.ret (D.str (Txt.join blk ys))) c
    | none => .stuck) = _
  rw [Option.bind_some, e]
  dsimp only
  rw [hd]
  rfl
theorem s_rowText (r : List Int) (S : List O) (h : RowOk r) : fn_row_text [rowD r] S = .ok (.str (rowT r)) S := by
  have hl := h.1
  have zl : szOk r.length = true := szOk_small (by omega)
  cases r with
  | nil => simp [M.bind, M.ret, R.bind, cSeq, cRet, cVar, cOp, cAnd, cOr, cNot, cIf, cAndT, cOrT, cNotT, asB, cB, cNext, cIfS, cSet, CS.put, cChain, dLe, dLt, dGt, dGe, dI2, startC, outF, fnB, cIsi, CS.knOf, tyB, isKn, isTy, M.guard, cTru, dTru, liftF, cCall, cCons, cFor, forL, cEnum, dEnum, cTg, cLc, lcL, wipeC, cWalk, dWalk, cNever, cSetTp, putAll, bLen, cFld, CS.fld, cProp, noExc, CS.clsOf, cCallS, dItems, cLenP, cIxP, CS.see, cApp, CS.pl, CS.wr, Pl.xs, dNeg, cSetIx, cStore, froz, cLst, cCutL, dCutL, cNoPart, cPart, dPart, CS.seqL, bList, M.opt, dIs, cZip, dZip, cIsiT, D.isNon, bStr, fn_row_text, cl_row_text, rowD, zl, dE_int, rowT, szOk_small]
  | cons x r =>
    obtain ⟨b', e⟩ := s_tx2 (x :: r) [] (.val (rowD (x :: r))) .no S (by simp [M.bind, M.ret, R.bind, cSeq, cRet, cVar, cOp, cAnd, cOr, cNot, cIf, cAndT, cOrT, cNotT, asB, cB, cNext, cIfS, cSet, CS.put, cChain, dLe, dLt, dGt, dGe, dI2, startC, outF, fnB, cIsi, CS.knOf, tyB, isKn, isTy, M.guard, cTru, dTru, liftF, cCall, cCons, cFor, forL, cEnum, dEnum, cTg, cLc, lcL, wipeC, cWalk, dWalk, cNever, cSetTp, putAll, bLen, cFld, CS.fld, cProp, noExc, CS.clsOf, cCallS, dItems, cLenP, cIxP, CS.see, cApp, CS.pl, CS.wr, Pl.xs, dNeg, cSetIx, cStore, froz, cLst, cCutL, dCutL, cNoPart, cPart, dPart, CS.seqL, bList, M.opt, dIs, cZip, dZip, cIsiT, D.isNon, bStr] at hl ⊢; omega) h.2
    have j := s_dJoinB (x :: r) h ⟨[.val (rowD (x :: r)), b'], S⟩
    have ne : ¬ ((r.length : Int) + 1 = 0) := by omega
    have hI : cIfS (asB (cOp dEq ((cCons (cVar 0) (M.ret [])).bind bLen) (M.ret (.int 0)))) (cSeq (cRet (M.ret (.str (PySem.Str.ofString "-")))) cNext) cNext ⟨[.val (rowD (x :: r)), .no], S⟩ = .ok .next ⟨[.val (rowD (x :: r)), .no], S⟩ := by
      simp [M.bind, M.ret, R.bind, cSeq, cRet, cVar, cOp, cAnd, cOr, cNot, cIf, cAndT, cOrT, cNotT, asB, cB, cNext, cIfS, cSet, CS.put, cChain, dLe, dLt, dGt, dGe, dI2, startC, outF, fnB, cIsi, CS.knOf, tyB, isKn, isTy, M.guard, cTru, dTru, liftF, cCall, cCons, cFor, forL, cEnum, dEnum, cTg, cLc, lcL, wipeC, cWalk, dWalk, cNever, cSetTp, putAll, bLen, cFld, CS.fld, cProp, noExc, CS.clsOf, cCallS, dItems, cLenP, cIxP, CS.see, cApp, CS.pl, CS.wr, Pl.xs, dNeg, cSetIx, cStore, froz, cLst, cCutL, dCutL, cNoPart, cPart, dPart, CS.seqL, bList, M.opt, dIs, cZip, dZip, cIsiT, D.isNon, bStr, rowD, dE_int, ne] at zl ⊢
      try simp [M.bind, M.ret, R.bind, cSeq, cRet, cVar, cOp, cAnd, cOr, cNot, cIf, cAndT, cOrT, cNotT, asB, cB, cNext, cIfS, cSet, CS.put, cChain, dLe, dLt, dGt, dGe, dI2, startC, outF, fnB, cIsi, CS.knOf, tyB, isKn, isTy, M.guard, cTru, dTru, liftF, cCall, cCons, cFor, forL, cEnum, dEnum, cTg, cLc, lcL, wipeC, cWalk, dWalk, cNever, cSetTp, putAll, bLen, cFld, CS.fld, cProp, noExc, CS.clsOf, cCallS, dItems, cLenP, cIxP, CS.see, cApp, CS.pl, CS.wr, Pl.xs, dNeg, cSetIx, cStore, froz, cLst, cCutL, dCutL, cNoPart, cPart, dPart, CS.seqL, bList, M.opt, dIs, cZip, dZip, cIsiT, D.isNon, bStr, zl, dE_int, ne]
    have eL : cLc (cWalk (cVar 0)) (.nm 1) (M.ret true) ((cCons (cVar 1) (M.ret [])).bind bStr) [1] ⟨[.val (rowD (x :: r)), .no], S⟩ = .ok (([] : List D) ++ (x :: r).map fun x => .str (wd x)) ⟨[.val (rowD (x :: r)), b'], S⟩ := e
    rw [List.nil_append] at eL
    have em : ((x :: r).map fun x => D.str (wd x)) = ((x :: r).map wd).map .str := by simp [M.bind, M.ret, R.bind, cSeq, cRet, cVar, cOp, cAnd, cOr, cNot, cIf, cAndT, cOrT, cNotT, asB, cB, cNext, cIfS, cSet, CS.put, cChain, dLe, dLt, dGt, dGe, dI2, startC, outF, fnB, cIsi, CS.knOf, tyB, isKn, isTy, M.guard, cTru, dTru, liftF, cCall, cCons, cFor, forL, cEnum, dEnum, cTg, cLc, lcL, wipeC, cWalk, dWalk, cNever, cSetTp, putAll, bLen, cFld, CS.fld, cProp, noExc, CS.clsOf, cCallS, dItems, cLenP, cIxP, CS.see, cApp, CS.pl, CS.wr, Pl.xs, dNeg, cSetIx, cStore, froz, cLst, cCutL, dCutL, cNoPart, cPart, dPart, CS.seqL, bList, M.opt, dIs, cZip, dZip, cIsiT, D.isNon, bStr]
    rw [em] at eL
    have hR : cRet (cJoin (M.ret (.str blk)) (froz (cLc (cWalk (cVar 0)) (.nm 1) (M.ret true) ((cCons (cVar 1) (M.ret [])).bind bStr) [1]))) ⟨[.val (rowD (x :: r)), .no], S⟩ = .ok (.ret (.str (rowT (x :: r)))) ⟨[.val (rowD (x :: r)), b'], S⟩ := by
      unfold cRet
      rw [cJoin_ok eL j]
      rfl
    show outF (cSeq _ (cSeq (cRet (cJoin (M.ret (.str blk)) (froz (cLc (cWalk (cVar 0)) (.nm 1) (M.ret true) ((cCons (cVar 1) (M.ret [])).bind bStr) [1])))) cNext) ⟨[.val (rowD (x :: r)), .no], S⟩) = _
    rw [cSeq_next hI, cSeq_ret hR]
    rfl
end K02
namespace K02
open CL PySem
theorem joinL_len (S : List Nat) : ∀ ps : List (List Nat), (TL.joinL S ps).length ≤ (ps.map List.length).sum + ps.length * S.length
  | [] => by simp [M.bind, M.ret, R.bind, cSeq, cRet, cVar, cOp, cAnd, cOr, cNot, cIf, cAndT, cOrT, cNotT, asB, cB, cNext, cIfS, cSet, CS.put, cChain, dLe, dLt, dGt, dGe, dI2, startC, outF, fnB, cIsi, CS.knOf, tyB, isKn, isTy, M.guard, cTru, dTru, liftF, cCall, cCons, cFor, forL, cEnum, dEnum, cTg, cLc, lcL, wipeC, cWalk, dWalk, cNever, cSetTp, putAll, bLen, cFld, CS.fld, cProp, noExc, CS.clsOf, cCallS, dItems, cLenP, cIxP, CS.see, cApp, CS.pl, CS.wr, Pl.xs, dNeg, cSetIx, cStore, froz, cLst, cCutL, dCutL, cNoPart, cPart, dPart, CS.seqL, bList, M.opt, dIs, cZip, dZip, cIsiT, D.isNon, bStr, TL.joinL]
  | [p] => by simp [M.bind, M.ret, R.bind, cSeq, cRet, cVar, cOp, cAnd, cOr, cNot, cIf, cAndT, cOrT, cNotT, asB, cB, cNext, cIfS, cSet, CS.put, cChain, dLe, dLt, dGt, dGe, dI2, startC, outF, fnB, cIsi, CS.knOf, tyB, isKn, isTy, M.guard, cTru, dTru, liftF, cCall, cCons, cFor, forL, cEnum, dEnum, cTg, cLc, lcL, wipeC, cWalk, dWalk, cNever, cSetTp, putAll, bLen, cFld, CS.fld, cProp, noExc, CS.clsOf, cCallS, dItems, cLenP, cIxP, CS.see, cApp, CS.pl, CS.wr, Pl.xs, dNeg, cSetIx, cStore, froz, cLst, cCutL, dCutL, cNoPart, cPart, dPart, CS.seqL, bList, M.opt, dIs, cZip, dZip, cIsiT, D.isNon, bStr, TL.joinL]
  | p :: q :: r => by
    have ih := joinL_len S (q :: r)
    show (p ++ (S ++ TL.joinL S (q :: r))).length ≤ _
    simp [M.bind, M.ret, R.bind, cSeq, cRet, cVar, cOp, cAnd, cOr, cNot, cIf, cAndT, cOrT, cNotT, asB, cB, cNext, cIfS, cSet, CS.put, cChain, dLe, dLt, dGt, dGe, dI2, startC, outF, fnB, cIsi, CS.knOf, tyB, isKn, isTy, M.guard, cTru, dTru, liftF, cCall, cCons, cFor, forL, cEnum, dEnum, cTg, cLc, lcL, wipeC, cWalk, dWalk, cNever, cSetTp, putAll, bLen, cFld, CS.fld, cProp, noExc, CS.clsOf, cCallS, dItems, cLenP, cIxP, CS.see, cApp, CS.pl, CS.wr, Pl.xs, dNeg, cSetIx, cStore, froz, cLst, cCutL, dCutL, cNoPart, cPart, dPart, CS.seqL, bList, M.opt, dIs, cZip, dZip, cIsiT, D.isNon, bStr, Nat.add_mul] at ih ⊢
    omega
theorem str_len (x : Str) : x.length = (TL.tl x).length := by
  show x.cps.size = x.cps.toList.length
  simp [M.bind, M.ret, R.bind, cSeq, cRet, cVar, cOp, cAnd, cOr, cNot, cIf, cAndT, cOrT, cNotT, asB, cB, cNext, cIfS, cSet, CS.put, cChain, dLe, dLt, dGt, dGe, dI2, startC, outF, fnB, cIsi, CS.knOf, tyB, isKn, isTy, M.guard, cTru, dTru, liftF, cCall, cCons, cFor, forL, cEnum, dEnum, cTg, cLc, lcL, wipeC, cWalk, dWalk, cNever, cSetTp, putAll, bLen, cFld, CS.fld, cProp, noExc, CS.clsOf, cCallS, dItems, cLenP, cIxP, CS.see, cApp, CS.pl, CS.wr, Pl.xs, dNeg, cSetIx, cStore, froz, cLst, cCutL, dCutL, cNoPart, cPart, dPart, CS.seqL, bList, M.opt, dIs, cZip, dZip, cIsiT, D.isNon, bStr]
theorem join_len (y : Str) (ps : List Str) : (Txt.join y ps).length ≤ (ps.map Str.length).sum + ps.length * y.length := by
  rw [str_len, TL.join_eq, TL.tl_join]
  refine Nat.le_trans (joinL_len _ _) ?_
  rw [List.map_map, List.length_map, ← str_len]
  have e : (List.length ∘ TL.tl : Str → Nat) = Str.length := by
    funext x
    exact (str_len x).symm
  rw [e]
  exact Nat.le_refl _
theorem rowT_len {r : List Int} (h : RowOk r) : (rowT r).length ≤ 60 := by
  have hl := h.1
  have hs : ((r.map wd).map Str.length).sum ≤ 2 * r.length := sum_wd h.2
  cases r with
  | nil => decide
  | cons x r =>
    have j := join_len blk ((x :: r).map wd)
    rw [blk_len, List.length_map] at j
    show (Txt.join blk ((x :: r).map wd)).length ≤ 60
    omega
theorem sum_le {ps : List Str} {n : Nat} (h : ∀ p ∈ ps, p.length ≤ n) : (ps.map Str.length).sum ≤ n * ps.length := by
  induction ps with
  | nil => simp [M.bind, M.ret, R.bind, cSeq, cRet, cVar, cOp, cAnd, cOr, cNot, cIf, cAndT, cOrT, cNotT, asB, cB, cNext, cIfS, cSet, CS.put, cChain, dLe, dLt, dGt, dGe, dI2, startC, outF, fnB, cIsi, CS.knOf, tyB, isKn, isTy, M.guard, cTru, dTru, liftF, cCall, cCons, cFor, forL, cEnum, dEnum, cTg, cLc, lcL, wipeC, cWalk, dWalk, cNever, cSetTp, putAll, bLen, cFld, CS.fld, cProp, noExc, CS.clsOf, cCallS, dItems, cLenP, cIxP, CS.see, cApp, CS.pl, CS.wr, Pl.xs, dNeg, cSetIx, cStore, froz, cLst, cCutL, dCutL, cNoPart, cPart, dPart, CS.seqL, bList, M.opt, dIs, cZip, dZip, cIsiT, D.isNon, bStr]
  | cons p ps ih =>
    have h1 := h p (by simp [M.bind, M.ret, R.bind, cSeq, cRet, cVar, cOp, cAnd, cOr, cNot, cIf, cAndT, cOrT, cNotT, asB, cB, cNext, cIfS, cSet, CS.put, cChain, dLe, dLt, dGt, dGe, dI2, startC, outF, fnB, cIsi, CS.knOf, tyB, isKn, isTy, M.guard, cTru, dTru, liftF, cCall, cCons, cFor, forL, cEnum, dEnum, cTg, cLc, lcL, wipeC, cWalk, dWalk, cNever, cSetTp, putAll, bLen, cFld, CS.fld, cProp, noExc, CS.clsOf, cCallS, dItems, cLenP, cIxP, CS.see, cApp, CS.pl, CS.wr, Pl.xs, dNeg, cSetIx, cStore, froz, cLst, cCutL, dCutL, cNoPart, cPart, dPart, CS.seqL, bList, M.opt, dIs, cZip, dZip, cIsiT, D.isNon, bStr])
    have h2 := ih fun q hq => h q (by simp [M.bind, M.ret, R.bind, cSeq, cRet, cVar, cOp, cAnd, cOr, cNot, cIf, cAndT, cOrT, cNotT, asB, cB, cNext, cIfS, cSet, CS.put, cChain, dLe, dLt, dGt, dGe, dI2, startC, outF, fnB, cIsi, CS.knOf, tyB, isKn, isTy, M.guard, cTru, dTru, liftF, cCall, cCons, cFor, forL, cEnum, dEnum, cTg, cLc, lcL, wipeC, cWalk, dWalk, cNever, cSetTp, putAll, bLen, cFld, CS.fld, cProp, noExc, CS.clsOf, cCallS, dItems, cLenP, cIxP, CS.see, cApp, CS.pl, CS.wr, Pl.xs, dNeg, cSetIx, cStore, froz, cLst, cCutL, dCutL, cNoPart, cPart, dPart, CS.seqL, bList, M.opt, dIs, cZip, dZip, cIsiT, D.isNon, bStr, hq])
    simp [M.bind, M.ret, R.bind, cSeq, cRet, cVar, cOp, cAnd, cOr, cNot, cIf, cAndT, cOrT, cNotT, asB, cB, cNext, cIfS, cSet, CS.put, cChain, dLe, dLt, dGt, dGe, dI2, startC, outF, fnB, cIsi, CS.knOf, tyB, isKn, isTy, M.guard, cTru, dTru, liftF, cCall, cCons, cFor, forL, cEnum, dEnum, cTg, cLc, lcL, wipeC, cWalk, dWalk, cNever, cSetTp, putAll, bLen, cFld, CS.fld, cProp, noExc, CS.clsOf, cCallS, dItems, cLenP, cIxP, CS.see, cApp, CS.pl, CS.wr, Pl.xs, dNeg, cSetIx, cStore, froz, cLst, cCutL, dCutL, cNoPart, cPart, dPart, CS.seqL, bList, M.opt, dIs, cZip, dZip, cIsiT, D.isNon, bStr, Nat.mul_add]
    omega
theorem bar_len : barS.length = 3 := by decide
theorem chT_sum {rs : List (List Int)} (h : ChOk rs) : ((rs.map rowT).map Str.length).sum ≤ 240 := by
  have h1 := sum_le (ps := rs.map rowT) (n := 60) fun p hp => by
    obtain ⟨r, hr, rfl⟩ := List.mem_map.mp hp
    exact rowT_len (h.2.2 r hr)
  have h4 := h.2.1
  simp [M.bind, M.ret, R.bind, cSeq, cRet, cVar, cOp, cAnd, cOr, cNot, cIf, cAndT, cOrT, cNotT, asB, cB, cNext, cIfS, cSet, CS.put, cChain, dLe, dLt, dGt, dGe, dI2, startC, outF, fnB, cIsi, CS.knOf, tyB, isKn, isTy, M.guard, cTru, dTru, liftF, cCall, cCons, cFor, forL, cEnum, dEnum, cTg, cLc, lcL, wipeC, cWalk, dWalk, cNever, cSetTp, putAll, bLen, cFld, CS.fld, cProp, noExc, CS.clsOf, cCallS, dItems, cLenP, cIxP, CS.see, cApp, CS.pl, CS.wr, Pl.xs, dNeg, cSetIx, cStore, froz, cLst, cCutL, dCutL, cNoPart, cPart, dPart, CS.seqL, bList, M.opt, dIs, cZip, dZip, cIsiT, D.isNon, bStr] at h1 ⊢
  omega
theorem chT_len {rs : List (List Int)} (h : ChOk rs) : (chT rs).length ≤ 252 := by
  have h1 := chT_sum h
  have h4 := h.2.1
  have j := join_len barS (rs.map rowT)
  rw [bar_len, List.length_map] at j
  show (Txt.join barS (rs.map rowT)).length ≤ 252
  omega
theorem s_dJoinS {rs : List (List Int)} (h : ChOk rs) (c : CS) : dJoin barS (.lst ((rs.map rowT).map .str)) c = .ok (.str (chT rs)) c := by
  have e := asStrs_map (rs.map rowT)
  have hs := chT_sum h
  have h4 := h.2.1
  have hd : decide (((rs.map rowT).map Str.length).sum + (rs.map rowT).length * barS.length ≤ 16777216) = true := decide_eq_true (by rw [bar_len, List.length_map]; omega)
  show (match (some ((rs.map rowT).map D.str)).bind asStrs with
    | some ys => M.guard (decide ((ys.map Str.length).sum + ys.length * barS.length ≤ 16777216)) (M.ret (D.str (Txt.join barS ys))) c
    | none => .stuck) = _
  rw [Option.bind_some, e]
  dsimp only
  rw [hd]
  rfl
/-! __str__ -/
theorem s_stL (rs : List (List Int)) : ∀ (acc : List D) (a b : Sl) (S : List O), acc.length + rs.length ≤ 1000 → (∀ r ∈ rs, RowOk r) →
    ∃ b', lcL (.nm 1) (M.ret true) (cCall fn_row_text (cCons (cVar 1) (M.ret []))) [1] (rs.map rowD) acc ⟨[a, b], S⟩ = .ok (acc ++ (rs.map rowT).map .str) ⟨[a, b'], S⟩ := by
  induction rs with
  | nil => intro acc a b S _ _; exact ⟨b, by simp [M.bind, M.ret, R.bind, cSeq, cRet, cVar, cOp, cAnd, cOr, cNot, cIf, cAndT, cOrT, cNotT, asB, cB, cNext, cIfS, cSet, CS.put, cChain, dLe, dLt, dGt, dGe, dI2, startC, outF, fnB, cIsi, CS.knOf, tyB, isKn, isTy, M.guard, cTru, dTru, liftF, cCall, cCons, cFor, forL, cEnum, dEnum, cTg, cLc, lcL, wipeC, cWalk, dWalk, cNever, cSetTp, putAll, bLen, cFld, CS.fld, cProp, noExc, CS.clsOf, cCallS, dItems, cLenP, cIxP, CS.see, cApp, CS.pl, CS.wr, Pl.xs, dNeg, cSetIx, cStore, froz, cLst, cCutL, dCutL, cNoPart, cPart, dPart, CS.seqL, bList, M.opt, dIs, cZip, dZip, cIsiT, D.isNon, bStr]⟩
  | cons r rs ih =>
    intro acc a b S hl h
    obtain ⟨b', e⟩ := ih (acc ++ [.str (rowT r)]) a .no S (by simp [M.bind, M.ret, R.bind, cSeq, cRet, cVar, cOp, cAnd, cOr, cNot, cIf, cAndT, cOrT, cNotT, asB, cB, cNext, cIfS, cSet, CS.put, cChain, dLe, dLt, dGt, dGe, dI2, startC, outF, fnB, cIsi, CS.knOf, tyB, isKn, isTy, M.guard, cTru, dTru, liftF, cCall, cCons, cFor, forL, cEnum, dEnum, cTg, cLc, lcL, wipeC, cWalk, dWalk, cNever, cSetTp, putAll, bLen, cFld, CS.fld, cProp, noExc, CS.clsOf, cCallS, dItems, cLenP, cIxP, CS.see, cApp, CS.pl, CS.wr, Pl.xs, dNeg, cSetIx, cStore, froz, cLst, cCutL, dCutL, cNoPart, cPart, dPart, CS.seqL, bList, M.opt, dIs, cZip, dZip, cIsiT, D.isNon, bStr] at hl ⊢; omega) (fun y hy => h y (by simp [M.bind, M.ret, R.bind, cSeq, cRet, cVar, cOp, cAnd, cOr, cNot, cIf, cAndT, cOrT, cNotT, asB, cB, cNext, cIfS, cSet, CS.put, cChain, dLe, dLt, dGt, dGe, dI2, startC, outF, fnB, cIsi, CS.knOf, tyB, isKn, isTy, M.guard, cTru, dTru, liftF, cCall, cCons, cFor, forL, cEnum, dEnum, cTg, cLc, lcL, wipeC, cWalk, dWalk, cNever, cSetTp, putAll, bLen, cFld, CS.fld, cProp, noExc, CS.clsOf, cCallS, dItems, cLenP, cIxP, CS.see, cApp, CS.pl, CS.wr, Pl.xs, dNeg, cSetIx, cStore, froz, cLst, cCutL, dCutL, cNoPart, cPart, dPart, CS.seqL, bList, M.opt, dIs, cZip, dZip, cIsiT, D.isNon, bStr, hy]))
    refine ⟨b', ?_⟩
    have hz : acc.length < sizeLine := Nat.lt_of_lt_of_le (by simp [M.bind, M.ret, R.bind, cSeq, cRet, cVar, cOp, cAnd, cOr, cNot, cIf, cAndT, cOrT, cNotT, asB, cB, cNext, cIfS, cSet, CS.put, cChain, dLe, dLt, dGt, dGe, dI2, startC, outF, fnB, cIsi, CS.knOf, tyB, isKn, isTy, M.guard, cTru, dTru, liftF, cCall, cCons, cFor, forL, cEnum, dEnum, cTg, cLc, lcL, wipeC, cWalk, dWalk, cNever, cSetTp, putAll, bLen, cFld, CS.fld, cProp, noExc, CS.clsOf, cCallS, dItems, cLenP, cIxP, CS.see, cApp, CS.pl, CS.wr, Pl.xs, dNeg, cSetIx, cStore, froz, cLst, cCutL, dCutL, cNoPart, cPart, dPart, CS.seqL, bList, M.opt, dIs, cZip, dZip, cIsiT, D.isNon, bStr] at hl; omega : acc.length < 1001) (by decide)
    have z := s_rowText r S (h r (by simp [M.bind, M.ret, R.bind, cSeq, cRet, cVar, cOp, cAnd, cOr, cNot, cIf, cAndT, cOrT, cNotT, asB, cB, cNext, cIfS, cSet, CS.put, cChain, dLe, dLt, dGt, dGe, dI2, startC, outF, fnB, cIsi, CS.knOf, tyB, isKn, isTy, M.guard, cTru, dTru, liftF, cCall, cCons, cFor, forL, cEnum, dEnum, cTg, cLc, lcL, wipeC, cWalk, dWalk, cNever, cSetTp, putAll, bLen, cFld, CS.fld, cProp, noExc, CS.clsOf, cCallS, dItems, cLenP, cIxP, CS.see, cApp, CS.pl, CS.wr, Pl.xs, dNeg, cSetIx, cStore, froz, cLst, cCutL, dCutL, cNoPart, cPart, dPart, CS.seqL, bList, M.opt, dIs, cZip, dZip, cIsiT, D.isNon, bStr]))
    simp [M.bind, M.ret, R.bind, cSeq, cRet, cVar, cOp, cAnd, cOr, cNot, cIf, cAndT, cOrT, cNotT, asB, cB, cNext, cIfS, cSet, CS.put, cChain, dLe, dLt, dGt, dGe, dI2, startC, outF, fnB, cIsi, CS.knOf, tyB, isKn, isTy, M.guard, cTru, dTru, liftF, cCall, cCons, cFor, forL, cEnum, dEnum, cTg, cLc, lcL, wipeC, cWalk, dWalk, cNever, cSetTp, putAll, bLen, cFld, CS.fld, cProp, noExc, CS.clsOf, cCallS, dItems, cLenP, cIxP, CS.see, cApp, CS.pl, CS.wr, Pl.xs, dNeg, cSetIx, cStore, froz, cLst, cCutL, dCutL, cNoPart, cPart, dPart, CS.seqL, bList, M.opt, dIs, cZip, dZip, cIsiT, D.isNon, bStr, hz, z] at e ⊢
    exact e
theorem s_str (rs : List (List Int)) (S : List O) (h : ChOk rs) : fn_Chain__str [chD rs] S = .ok (.str (chT rs)) S := by
  have h4 := h.2.1
  obtain ⟨b', e⟩ := s_stL rs [] (.val (chD rs)) .no S (by simp [M.bind, M.ret, R.bind, cSeq, cRet, cVar, cOp, cAnd, cOr, cNot, cIf, cAndT, cOrT, cNotT, asB, cB, cNext, cIfS, cSet, CS.put, cChain, dLe, dLt, dGt, dGe, dI2, startC, outF, fnB, cIsi, CS.knOf, tyB, isKn, isTy, M.guard, cTru, dTru, liftF, cCall, cCons, cFor, forL, cEnum, dEnum, cTg, cLc, lcL, wipeC, cWalk, dWalk, cNever, cSetTp, putAll, bLen, cFld, CS.fld, cProp, noExc, CS.clsOf, cCallS, dItems, cLenP, cIxP, CS.see, cApp, CS.pl, CS.wr, Pl.xs, dNeg, cSetIx, cStore, froz, cLst, cCutL, dCutL, cNoPart, cPart, dPart, CS.seqL, bList, M.opt, dIs, cZip, dZip, cIsiT, D.isNon, bStr]; omega) h.2.2
  have eL : cLc (cWalk (cFld 0 0 "_rows" (cVar 0))) (.nm 1) (M.ret true) (cCall fn_row_text (cCons (cVar 1) (M.ret []))) [1] ⟨[.val (chD rs), .no], S⟩ = .ok (([] : List D) ++ (rs.map rowT).map .str) ⟨[.val (chD rs), b'], S⟩ := e
  rw [List.nil_append] at eL
  have hR : cRet (cJoin (M.ret (.str barS)) (froz (cLc (cWalk (cFld 0 0 "_rows" (cVar 0))) (.nm 1) (M.ret true) (cCall fn_row_text (cCons (cVar 1) (M.ret []))) [1]))) ⟨[.val (chD rs), .no], S⟩ = .ok (.ret (.str (chT rs))) ⟨[.val (chD rs), b'], S⟩ := by
    unfold cRet
    rw [cJoin_ok eL (s_dJoinS h _)]
    rfl
  show outF (cSeq (cRet (cJoin (M.ret (.str barS)) (froz (cLc (cWalk (cFld 0 0 "_rows" (cVar 0))) (.nm 1) (M.ret true) (cCall fn_row_text (cCons (cVar 1) (M.ret []))) [1])))) cNext ⟨[.val (chD rs), .no], S⟩) = _
  rw [cSeq_ret hR]
  rfl
def chR (rs : List (List Int)) : Str := Str.empty ++ PySem.Str.ofString "Chain(" ++ chT rs ++ PySem.Str.ofString ")"
theorem app_len (x y : Str) : (x ++ y).length = x.length + y.length := by
  rw [str_len, TL.tl_append, List.length_append, ← str_len, ← str_len]
theorem s_repr (rs : List (List Int)) (S : List O) (h : ChOk rs) : fn_Chain__repr [chD rs] S = .ok (.str (chR rs)) S := by
  have l := chT_len h
  have l0 : Str.empty.length = 0 := by decide
  have l1 : (PySem.Str.ofString "Chain(").length = 6 := by decide
  have l2 : (PySem.Str.ofString ")").length = 1 := by decide
  have z1 : szOk (Str.empty ++ PySem.Str.ofString "Chain(").length = true := szOk_small (by rw [app_len]; omega)
  have z2 : szOk (Str.empty ++ PySem.Str.ofString "Chain(" ++ chT rs).length = true := szOk_small (by rw [app_len, app_len]; omega)
  have z3 : szOk (Str.empty ++ PySem.Str.ofString "Chain(" ++ chT rs ++ PySem.Str.ofString ")").length = true := szOk_small (by rw [app_len, app_len, app_len]; omega)
  have e := s_str rs S h
  simp [M.bind, M.ret, R.bind, cSeq, cRet, cVar, cOp, cAnd, cOr, cNot, cIf, cAndT, cOrT, cNotT, asB, cB, cNext, cIfS, cSet, CS.put, cChain, dLe, dLt, dGt, dGe, dI2, startC, outF, fnB, cIsi, CS.knOf, tyB, isKn, isTy, M.guard, cTru, dTru, liftF, cCall, cCons, cFor, forL, cEnum, dEnum, cTg, cLc, lcL, wipeC, cWalk, dWalk, cNever, cSetTp, putAll, bLen, cFld, CS.fld, cProp, noExc, CS.clsOf, cCallS, dItems, cLenP, cIxP, CS.see, cApp, CS.pl, CS.wr, Pl.xs, dNeg, cSetIx, cStore, froz, cLst, cCutL, dCutL, cNoPart, cPart, dPart, CS.seqL, bList, M.opt, dIs, cZip, dZip, cIsiT, D.isNon, bStr, fn_Chain__repr, cl_Chain__repr, cJoined, cParts, z1, z2, z3, dFmtO, has_ch, e, strOnly, chR]
end K02
namespace K02
open CL PySem
theorem cIf_t {α : Type} {t : M Bool} {a b : M α} {c c' : CS} (h : t c = .ok true c') : cIf t a b c = a c' := by
  show (t c).bind _ = _
  rw [h]
  rfl
def txB : M D := cIf (asB (cOp dGt ((cCons (cVar 2) (M.ret [])).bind bLen) (M.ret (.int 0)))) (cJoin (M.ret (.str blk)) (froz (cLc (cWalk (cVar 2)) (.nm 1) (M.ret true) ((cCons (cVar 1) (M.ret [])).bind bStr) [1]))) (M.ret (.str (PySem.Str.ofString "-")))
theorem s_txB (r : List Int) (h : RowOk r) (a b : Sl) (S : List O) : ∃ b', txB ⟨[a, b, .val (rowD r)], S⟩ = .ok (.str (rowT r)) ⟨[a, b', .val (rowD r)], S⟩ := by
  have hl := h.1
  have zl : szOk r.length = true := szOk_small (by omega)
  cases r with
  | nil => exact ⟨b, by simp [M.bind, M.ret, R.bind, cSeq, cRet, cVar, cOp, cAnd, cOr, cNot, cAndT, cOrT, cNotT, asB, cB, cNext, cIfS, cSet, CS.put, cChain, dLe, dLt, dGt, dGe, dI2, startC, outF, fnB, cIsi, CS.knOf, tyB, isKn, isTy, M.guard, cTru, dTru, liftF, cCall, cCons, cFor, forL, cEnum, dEnum, cTg, cLc, lcL, wipeC, cWalk, dWalk, cNever, cSetTp, putAll, bLen, cFld, CS.fld, cProp, noExc, CS.clsOf, cCallS, dItems, cLenP, cIxP, CS.see, cApp, CS.pl, CS.wr, Pl.xs, dNeg, cSetIx, cStore, froz, cLst, cCutL, dCutL, cNoPart, cPart, dPart, CS.seqL, bList, M.opt, dIs, cZip, dZip, cIsiT, D.isNon, bStr, txB, rowD, zl, rowT, cIf, szOk_small]⟩
  | cons x r =>
    obtain ⟨b', e⟩ := s_tx3 (x :: r) [] a .no (.val (rowD (x :: r))) S (by simp [M.bind, M.ret, R.bind, cSeq, cRet, cVar, cOp, cAnd, cOr, cNot, cIf, cAndT, cOrT, cNotT, asB, cB, cNext, cIfS, cSet, CS.put, cChain, dLe, dLt, dGt, dGe, dI2, startC, outF, fnB, cIsi, CS.knOf, tyB, isKn, isTy, M.guard, cTru, dTru, liftF, cCall, cCons, cFor, forL, cEnum, dEnum, cTg, cLc, lcL, wipeC, cWalk, dWalk, cNever, cSetTp, putAll, bLen, cFld, CS.fld, cProp, noExc, CS.clsOf, cCallS, dItems, cLenP, cIxP, CS.see, cApp, CS.pl, CS.wr, Pl.xs, dNeg, cSetIx, cStore, froz, cLst, cCutL, dCutL, cNoPart, cPart, dPart, CS.seqL, bList, M.opt, dIs, cZip, dZip, cIsiT, D.isNon, bStr] at hl ⊢; omega) h.2
    have j := s_dJoinB (x :: r) h ⟨[a, b', .val (rowD (x :: r))], S⟩
    have ne : (0 : Int) < (r.length : Int) + 1 := by omega
    have hI : asB (cOp dGt ((cCons (cVar 2) (M.ret [])).bind bLen) (M.ret (.int 0))) ⟨[a, b, .val (rowD (x :: r))], S⟩ = .ok true ⟨[a, b, .val (rowD (x :: r))], S⟩ := by
      simp [M.bind, M.ret, R.bind, cSeq, cRet, cVar, cOp, cAnd, cOr, cNot, cIf, cAndT, cOrT, cNotT, asB, cB, cNext, cIfS, cSet, CS.put, cChain, dLe, dLt, dGt, dGe, dI2, startC, outF, fnB, cIsi, CS.knOf, tyB, isKn, isTy, M.guard, cTru, dTru, liftF, cCall, cCons, cFor, forL, cEnum, dEnum, cTg, cLc, lcL, wipeC, cWalk, dWalk, cNever, cSetTp, putAll, bLen, cFld, CS.fld, cProp, noExc, CS.clsOf, cCallS, dItems, cLenP, cIxP, CS.see, cApp, CS.pl, CS.wr, Pl.xs, dNeg, cSetIx, cStore, froz, cLst, cCutL, dCutL, cNoPart, cPart, dPart, CS.seqL, bList, M.opt, dIs, cZip, dZip, cIsiT, D.isNon, bStr, rowD, ne] at zl ⊢
      try simp [M.bind, M.ret, R.bind, cSeq, cRet, cVar, cOp, cAnd, cOr, cNot, cIf, cAndT, cOrT, cNotT, asB, cB, cNext, cIfS, cSet, CS.put, cChain, dLe, dLt, dGt, dGe, dI2, startC, outF, fnB, cIsi, CS.knOf, tyB, isKn, isTy, M.guard, cTru, dTru, liftF, cCall, cCons, cFor, forL, cEnum, dEnum, cTg, cLc, lcL, wipeC, cWalk, dWalk, cNever, cSetTp, putAll, bLen, cFld, CS.fld, cProp, noExc, CS.clsOf, cCallS, dItems, cLenP, cIxP, CS.see, cApp, CS.pl, CS.wr, Pl.xs, dNeg, cSetIx, cStore, froz, cLst, cCutL, dCutL, cNoPart, cPart, dPart, CS.seqL, bList, M.opt, dIs, cZip, dZip, cIsiT, D.isNon, bStr, zl, ne]
    have eL : cLc (cWalk (cVar 2)) (.nm 1) (M.ret true) ((cCons (cVar 1) (M.ret [])).bind bStr) [1] ⟨[a, b, .val (rowD (x :: r))], S⟩ = .ok (([] : List D) ++ (x :: r).map fun x => .str (wd x)) ⟨[a, b', .val (rowD (x :: r))], S⟩ := e
    rw [List.nil_append] at eL
    have em : ((x :: r).map fun x => D.str (wd x)) = ((x :: r).map wd).map .str := by simp [M.bind, M.ret, R.bind, cSeq, cRet, cVar, cOp, cAnd, cOr, cNot, cIf, cAndT, cOrT, cNotT, asB, cB, cNext, cIfS, cSet, CS.put, cChain, dLe, dLt, dGt, dGe, dI2, startC, outF, fnB, cIsi, CS.knOf, tyB, isKn, isTy, M.guard, cTru, dTru, liftF, cCall, cCons, cFor, forL, cEnum, dEnum, cTg, cLc, lcL, wipeC, cWalk, dWalk, cNever, cSetTp, putAll, bLen, cFld, CS.fld, cProp, noExc, CS.clsOf, cCallS, dItems, cLenP, cIxP, CS.see, cApp, CS.pl, CS.wr, Pl.xs, dNeg, cSetIx, cStore, froz, cLst, cCutL, dCutL, cNoPart, cPart, dPart, CS.seqL, bList, M.opt, dIs, cZip, dZip, cIsiT, D.isNon, bStr]
    rw [em] at eL
    refine ⟨b', ?_⟩
    have hR : cJoin (M.ret (.str blk)) (froz (cLc (cWalk (cVar 2)) (.nm 1) (M.ret true) ((cCons (cVar 1) (M.ret [])).bind bStr) [1])) ⟨[a, b, .val (rowD (x :: r))], S⟩ = .ok (.str (rowT (x :: r))) ⟨[a, b', .val (rowD (x :: r))], S⟩ := cJoin_ok eL j
    exact (cIf_t hI).trans hR
theorem s_ltL (rs : List (List Int)) : ∀ (acc : List D) (a b d : Sl) (S : List O), acc.length + rs.length ≤ 1000 → (∀ r ∈ rs, RowOk r) →
    ∃ b' d', lcL (.nm 2) (M.ret true) txB [2] (rs.map rowD) acc ⟨[a, b, d], S⟩ = .ok (acc ++ (rs.map rowT).map .str) ⟨[a, b', d'], S⟩ := by
  induction rs with
  | nil => intro acc a b d S _ _; exact ⟨b, d, by simp [M.bind, M.ret, R.bind, cSeq, cRet, cVar, cOp, cAnd, cOr, cNot, cIf, cAndT, cOrT, cNotT, asB, cB, cNext, cIfS, cSet, CS.put, cChain, dLe, dLt, dGt, dGe, dI2, startC, outF, fnB, cIsi, CS.knOf, tyB, isKn, isTy, M.guard, cTru, dTru, liftF, cCall, cCons, cFor, forL, cEnum, dEnum, cTg, cLc, lcL, wipeC, cWalk, dWalk, cNever, cSetTp, putAll, bLen, cFld, CS.fld, cProp, noExc, CS.clsOf, cCallS, dItems, cLenP, cIxP, CS.see, cApp, CS.pl, CS.wr, Pl.xs, dNeg, cSetIx, cStore, froz, cLst, cCutL, dCutL, cNoPart, cPart, dPart, CS.seqL, bList, M.opt, dIs, cZip, dZip, cIsiT, D.isNon, bStr]⟩
  | cons r rs ih =>
    intro acc a b d S hl h
    obtain ⟨b1, z⟩ := s_txB r (h r (by simp [M.bind, M.ret, R.bind, cSeq, cRet, cVar, cOp, cAnd, cOr, cNot, cIf, cAndT, cOrT, cNotT, asB, cB, cNext, cIfS, cSet, CS.put, cChain, dLe, dLt, dGt, dGe, dI2, startC, outF, fnB, cIsi, CS.knOf, tyB, isKn, isTy, M.guard, cTru, dTru, liftF, cCall, cCons, cFor, forL, cEnum, dEnum, cTg, cLc, lcL, wipeC, cWalk, dWalk, cNever, cSetTp, putAll, bLen, cFld, CS.fld, cProp, noExc, CS.clsOf, cCallS, dItems, cLenP, cIxP, CS.see, cApp, CS.pl, CS.wr, Pl.xs, dNeg, cSetIx, cStore, froz, cLst, cCutL, dCutL, cNoPart, cPart, dPart, CS.seqL, bList, M.opt, dIs, cZip, dZip, cIsiT, D.isNon, bStr])) a b S
    obtain ⟨b', d', e⟩ := ih (acc ++ [.str (rowT r)]) a b1 .no S (by simp [M.bind, M.ret, R.bind, cSeq, cRet, cVar, cOp, cAnd, cOr, cNot, cIf, cAndT, cOrT, cNotT, asB, cB, cNext, cIfS, cSet, CS.put, cChain, dLe, dLt, dGt, dGe, dI2, startC, outF, fnB, cIsi, CS.knOf, tyB, isKn, isTy, M.guard, cTru, dTru, liftF, cCall, cCons, cFor, forL, cEnum, dEnum, cTg, cLc, lcL, wipeC, cWalk, dWalk, cNever, cSetTp, putAll, bLen, cFld, CS.fld, cProp, noExc, CS.clsOf, cCallS, dItems, cLenP, cIxP, CS.see, cApp, CS.pl, CS.wr, Pl.xs, dNeg, cSetIx, cStore, froz, cLst, cCutL, dCutL, cNoPart, cPart, dPart, CS.seqL, bList, M.opt, dIs, cZip, dZip, cIsiT, D.isNon, bStr] at hl ⊢; omega) (fun y hy => h y (by simp [M.bind, M.ret, R.bind, cSeq, cRet, cVar, cOp, cAnd, cOr, cNot, cIf, cAndT, cOrT, cNotT, asB, cB, cNext, cIfS, cSet, CS.put, cChain, dLe, dLt, dGt, dGe, dI2, startC, outF, fnB, cIsi, CS.knOf, tyB, isKn, isTy, M.guard, cTru, dTru, liftF, cCall, cCons, cFor, forL, cEnum, dEnum, cTg, cLc, lcL, wipeC, cWalk, dWalk, cNever, cSetTp, putAll, bLen, cFld, CS.fld, cProp, noExc, CS.clsOf, cCallS, dItems, cLenP, cIxP, CS.see, cApp, CS.pl, CS.wr, Pl.xs, dNeg, cSetIx, cStore, froz, cLst, cCutL, dCutL, cNoPart, cPart, dPart, CS.seqL, bList, M.opt, dIs, cZip, dZip, cIsiT, D.isNon, bStr, hy]))
    refine ⟨b', d', ?_⟩
    have hz : acc.length < sizeLine := Nat.lt_of_lt_of_le (by simp [M.bind, M.ret, R.bind, cSeq, cRet, cVar, cOp, cAnd, cOr, cNot, cIf, cAndT, cOrT, cNotT, asB, cB, cNext, cIfS, cSet, CS.put, cChain, dLe, dLt, dGt, dGe, dI2, startC, outF, fnB, cIsi, CS.knOf, tyB, isKn, isTy, M.guard, cTru, dTru, liftF, cCall, cCons, cFor, forL, cEnum, dEnum, cTg, cLc, lcL, wipeC, cWalk, dWalk, cNever, cSetTp, putAll, bLen, cFld, CS.fld, cProp, noExc, CS.clsOf, cCallS, dItems, cLenP, cIxP, CS.see, cApp, CS.pl, CS.wr, Pl.xs, dNeg, cSetIx, cStore, froz, cLst, cCutL, dCutL, cNoPart, cPart, dPart, CS.seqL, bList, M.opt, dIs, cZip, dZip, cIsiT, D.isNon, bStr] at hl; omega : acc.length < 1001) (by decide)
    simp [M.bind, M.ret, R.bind, cSeq, cRet, cVar, cOp, cAnd, cOr, cNot, cIf, cAndT, cOrT, cNotT, asB, cB, cNext, cIfS, cSet, CS.put, cChain, dLe, dLt, dGt, dGe, dI2, startC, outF, fnB, cIsi, CS.knOf, tyB, isKn, isTy, M.guard, cTru, dTru, liftF, cCall, cCons, cFor, forL, cEnum, dEnum, cTg, cLc, lcL, wipeC, cWalk, dWalk, cNever, cSetTp, putAll, bLen, cFld, CS.fld, cProp, noExc, CS.clsOf, cCallS, dItems, cLenP, cIxP, CS.see, cApp, CS.pl, CS.wr, Pl.xs, dNeg, cSetIx, cStore, froz, cLst, cCutL, dCutL, cNoPart, cPart, dPart, CS.seqL, bList, M.opt, dIs, cZip, dZip, cIsiT, D.isNon, bStr, hz, z] at e ⊢
    exact e
theorem s_ltext (rs : List (List Int)) (S : List O) (h : ChOk rs) : fn_law_text [.lst (rs.map rowD)] S = .ok (.str (chT rs)) S := by
  have h4 := h.2.1
  obtain ⟨b', d', e⟩ := s_ltL rs [] (.val (.lst (rs.map rowD))) .no .no S (by simp [M.bind, M.ret, R.bind, cSeq, cRet, cVar, cOp, cAnd, cOr, cNot, cIf, cAndT, cOrT, cNotT, asB, cB, cNext, cIfS, cSet, CS.put, cChain, dLe, dLt, dGt, dGe, dI2, startC, outF, fnB, cIsi, CS.knOf, tyB, isKn, isTy, M.guard, cTru, dTru, liftF, cCall, cCons, cFor, forL, cEnum, dEnum, cTg, cLc, lcL, wipeC, cWalk, dWalk, cNever, cSetTp, putAll, bLen, cFld, CS.fld, cProp, noExc, CS.clsOf, cCallS, dItems, cLenP, cIxP, CS.see, cApp, CS.pl, CS.wr, Pl.xs, dNeg, cSetIx, cStore, froz, cLst, cCutL, dCutL, cNoPart, cPart, dPart, CS.seqL, bList, M.opt, dIs, cZip, dZip, cIsiT, D.isNon, bStr]; omega) h.2.2
  have eL : cLc (cWalk (cVar 0)) (.nm 2) (M.ret true) txB [2] ⟨[.val (.lst (rs.map rowD)), .no, .no], S⟩ = .ok (([] : List D) ++ (rs.map rowT).map .str) ⟨[.val (.lst (rs.map rowD)), b', d'], S⟩ := e
  rw [List.nil_append] at eL
  have hR : cRet (cJoin (M.ret (.str barS)) (froz (cLc (cWalk (cVar 0)) (.nm 2) (M.ret true) txB [2]))) ⟨[.val (.lst (rs.map rowD)), .no, .no], S⟩ = .ok (.ret (.str (chT rs))) ⟨[.val (.lst (rs.map rowD)), b', d'], S⟩ := by
    unfold cRet
    rw [cJoin_ok eL (s_dJoinS h _)]
    rfl
  show outF (cSeq (cRet (cJoin (M.ret (.str barS)) (froz (cLc (cWalk (cVar 0)) (.nm 2) (M.ret true) txB [2])))) cNext ⟨[.val (.lst (rs.map rowD)), .no, .no], S⟩) = _
  rw [cSeq_ret hR]
  rfl
end K02
namespace K02
open CL PySem
/-! reading -/
theorem wd_inj (a b : Fin 12) : wd ((a.val : Int) + 1) = wd ((b.val : Int) + 1) → a = b := by
  revert a b; decide
theorem wd_inj' {i j : Int} (h1 : 1 ≤ i) (h2 : i ≤ 12) (k1 : 1 ≤ j) (k2 : j ≤ 12) (e : wd i = wd j) : i = j := by
  have ei : i = (((i - 1).toNat : Nat) : Int) + 1 := by omega
  have ej : j = (((j - 1).toNat : Nat) : Int) + 1 := by omega
  rw [ei, ej] at e
  have := wd_inj ⟨(i - 1).toNat, by omega⟩ ⟨(j - 1).toNat, by omega⟩ e
  simp [M.bind, M.ret, R.bind, cSeq, cRet, cVar, cOp, cAnd, cOr, cNot, cIf, cAndT, cOrT, cNotT, asB, cB, cNext, cIfS, cSet, CS.put, cChain, dLe, dLt, dGt, dGe, dI2, startC, outF, fnB, cIsi, CS.knOf, tyB, isKn, isTy, M.guard, cTru, dTru, liftF, cCall, cCons, cFor, forL, cEnum, dEnum, cTg, cLc, lcL, wipeC, cWalk, dWalk, cNever, cSetTp, putAll, bLen, cFld, CS.fld, cProp, noExc, CS.clsOf, cCallS, dItems, cLenP, cIxP, CS.see, cApp, CS.pl, CS.wr, Pl.xs, dNeg, cSetIx, cStore, froz, cLst, cCutL, dCutL, cNoPart, cPart, dPart, CS.seqL, bList, M.opt, dIs, cZip, dZip, cIsiT, D.isNon, bStr] at this
  omega
/-- plain letters only -/
def Asc (x : Str) : Prop := ∀ c ∈ TL.tl x, c < 128
theorem shp_asc {x : Str} (h : Asc x) : SeqAt.shaped (.str x) = true := by
  have e : PyData.strOk x = true := by
    show x.cps.all _ = true
    rw [← Array.all_toList]
    refine List.all_eq_true.mpr fun c hc => decide_eq_true (Nat.lt_of_lt_of_le (h c hc) (by decide))
  simp [M.bind, M.ret, R.bind, cSeq, cRet, cVar, cOp, cAnd, cOr, cNot, cIf, cAndT, cOrT, cNotT, asB, cB, cNext, cIfS, cSet, CS.put, cChain, dLe, dLt, dGt, dGe, dI2, startC, outF, fnB, cIsi, CS.knOf, tyB, isKn, isTy, M.guard, cTru, dTru, liftF, cCall, cCons, cFor, forL, cEnum, dEnum, cTg, cLc, lcL, wipeC, cWalk, dWalk, cNever, cSetTp, putAll, bLen, cFld, CS.fld, cProp, noExc, CS.clsOf, cCallS, dItems, cLenP, cIxP, CS.see, cApp, CS.pl, CS.wr, Pl.xs, dNeg, cSetIx, cStore, froz, cLst, cCutL, dCutL, cNoPart, cPart, dPart, CS.seqL, bList, M.opt, dIs, cZip, dZip, cIsiT, D.isNon, bStr, SeqAt.shaped, PyData.canLay0, PyData.depth, e]
theorem joinL_mem {S : List Nat} {c : Nat} : ∀ {ps : List (List Nat)}, c ∈ TL.joinL S ps → c ∈ S ∨ ∃ p ∈ ps, c ∈ p
  | [], h => by simp [M.bind, M.ret, R.bind, cSeq, cRet, cVar, cOp, cAnd, cOr, cNot, cIf, cAndT, cOrT, cNotT, asB, cB, cNext, cIfS, cSet, CS.put, cChain, dLe, dLt, dGt, dGe, dI2, startC, outF, fnB, cIsi, CS.knOf, tyB, isKn, isTy, M.guard, cTru, dTru, liftF, cCall, cCons, cFor, forL, cEnum, dEnum, cTg, cLc, lcL, wipeC, cWalk, dWalk, cNever, cSetTp, putAll, bLen, cFld, CS.fld, cProp, noExc, CS.clsOf, cCallS, dItems, cLenP, cIxP, CS.see, cApp, CS.pl, CS.wr, Pl.xs, dNeg, cSetIx, cStore, froz, cLst, cCutL, dCutL, cNoPart, cPart, dPart, CS.seqL, bList, M.opt, dIs, cZip, dZip, cIsiT, D.isNon, bStr, TL.joinL] at h
  | [p], h => .inr ⟨p, by simp [M.bind, M.ret, R.bind, cSeq, cRet, cVar, cOp, cAnd, cOr, cNot, cIf, cAndT, cOrT, cNotT, asB, cB, cNext, cIfS, cSet, CS.put, cChain, dLe, dLt, dGt, dGe, dI2, startC, outF, fnB, cIsi, CS.knOf, tyB, isKn, isTy, M.guard, cTru, dTru, liftF, cCall, cCons, cFor, forL, cEnum, dEnum, cTg, cLc, lcL, wipeC, cWalk, dWalk, cNever, cSetTp, putAll, bLen, cFld, CS.fld, cProp, noExc, CS.clsOf, cCallS, dItems, cLenP, cIxP, CS.see, cApp, CS.pl, CS.wr, Pl.xs, dNeg, cSetIx, cStore, froz, cLst, cCutL, dCutL, cNoPart, cPart, dPart, CS.seqL, bList, M.opt, dIs, cZip, dZip, cIsiT, D.isNon, bStr], h⟩
  | p :: q :: r, h => by
    have h : c ∈ p ++ (S ++ TL.joinL S (q :: r)) := h
    simp only [List.mem_append] at h
    rcases h with h | h | h
    · exact .inr ⟨p, by simp [M.bind, M.ret, R.bind, cSeq, cRet, cVar, cOp, cAnd, cOr, cNot, cIf, cAndT, cOrT, cNotT, asB, cB, cNext, cIfS, cSet, CS.put, cChain, dLe, dLt, dGt, dGe, dI2, startC, outF, fnB, cIsi, CS.knOf, tyB, isKn, isTy, M.guard, cTru, dTru, liftF, cCall, cCons, cFor, forL, cEnum, dEnum, cTg, cLc, lcL, wipeC, cWalk, dWalk, cNever, cSetTp, putAll, bLen, cFld, CS.fld, cProp, noExc, CS.clsOf, cCallS, dItems, cLenP, cIxP, CS.see, cApp, CS.pl, CS.wr, Pl.xs, dNeg, cSetIx, cStore, froz, cLst, cCutL, dCutL, cNoPart, cPart, dPart, CS.seqL, bList, M.opt, dIs, cZip, dZip, cIsiT, D.isNon, bStr], h⟩
    · exact .inl h
    · rcases joinL_mem h with h | ⟨z, hz, h⟩
      · exact .inl h
      · exact .inr ⟨z, List.mem_cons_of_mem _ hz, h⟩
theorem join_mem {y : Str} {ps : List Str} {c : Nat} (h : c ∈ TL.tl (Txt.join y ps)) : c ∈ TL.tl y ∨ ∃ p ∈ ps, c ∈ TL.tl p := by
  rw [TL.join_eq, TL.tl_join] at h
  rcases joinL_mem h with h | ⟨z, hz, h⟩
  · exact .inl h
  · obtain ⟨p, hp, rfl⟩ := List.mem_map.mp hz
    exact .inr ⟨p, hp, h⟩
theorem asc_join {y : Str} {ps : List Str} (hy : Asc y) (hp : ∀ p ∈ ps, Asc p) : Asc (Txt.join y ps) := fun c h => by
  rcases join_mem h with h | ⟨p, q, h⟩
  · exact hy c h
  · exact hp p q c h
theorem asc_app {x y : Str} (hx : Asc x) (hy : Asc y) : Asc (x ++ y) := fun c h => by
  rw [TL.tl_append, List.mem_append] at h
  rcases h with h | h
  · exact hx c h
  · exact hy c h
/-- digits and blanks only -/
theorem wd_dig {c : Int} (h1 : 1 ≤ c) (h2 : c ≤ 12) : ∀ a ∈ TL.tl (wd c), a < 128 ∧ a ≠ 45 ∧ a ≠ 124 ∧ a ≠ 32 := caps (P := fun c => ∀ a ∈ TL.tl (wd c), a < 128 ∧ a ≠ 45 ∧ a ≠ 124 ∧ a ≠ 32) (by decide) h1 h2
theorem tl_blk : TL.tl blk = [32] := by decide
def dash : Str := PySem.Str.ofString "-"
theorem tl_dash : TL.tl dash = [45] := by decide
theorem rowT_cons {x : Int} {r : List Int} (h : RowOk (x :: r)) : ∀ a ∈ TL.tl (rowT (x :: r)), a < 128 ∧ a ≠ 45 ∧ a ≠ 124 := fun a ha => by
  rcases join_mem ha with h1 | ⟨p, hp, h1⟩
  · rw [tl_blk] at h1
    simp [M.bind, M.ret, R.bind, cSeq, cRet, cVar, cOp, cAnd, cOr, cNot, cIf, cAndT, cOrT, cNotT, asB, cB, cNext, cIfS, cSet, CS.put, cChain, dLe, dLt, dGt, dGe, dI2, startC, outF, fnB, cIsi, CS.knOf, tyB, isKn, isTy, M.guard, cTru, dTru, liftF, cCall, cCons, cFor, forL, cEnum, dEnum, cTg, cLc, lcL, wipeC, cWalk, dWalk, cNever, cSetTp, putAll, bLen, cFld, CS.fld, cProp, noExc, CS.clsOf, cCallS, dItems, cLenP, cIxP, CS.see, cApp, CS.pl, CS.wr, Pl.xs, dNeg, cSetIx, cStore, froz, cLst, cCutL, dCutL, cNoPart, cPart, dPart, CS.seqL, bList, M.opt, dIs, cZip, dZip, cIsiT, D.isNon, bStr] at h1
    omega
  · obtain ⟨c, hc, rfl⟩ := List.mem_map.mp hp
    have z := wd_dig (h.2 c hc).1 (h.2 c hc).2 a h1
    exact ⟨z.1, z.2.1, z.2.2.1⟩
theorem rowT_ne {x : Int} {r : List Int} (h : RowOk (x :: r)) : ¬ rowT (x :: r) = dash := fun e => by
  have z := rowT_cons h 45 (by rw [e, tl_dash]; simp [M.bind, M.ret, R.bind, cSeq, cRet, cVar, cOp, cAnd, cOr, cNot, cIf, cAndT, cOrT, cNotT, asB, cB, cNext, cIfS, cSet, CS.put, cChain, dLe, dLt, dGt, dGe, dI2, startC, outF, fnB, cIsi, CS.knOf, tyB, isKn, isTy, M.guard, cTru, dTru, liftF, cCall, cCons, cFor, forL, cEnum, dEnum, cTg, cLc, lcL, wipeC, cWalk, dWalk, cNever, cSetTp, putAll, bLen, cFld, CS.fld, cProp, noExc, CS.clsOf, cCallS, dItems, cLenP, cIxP, CS.see, cApp, CS.pl, CS.wr, Pl.xs, dNeg, cSetIx, cStore, froz, cLst, cCutL, dCutL, cNoPart, cPart, dPart, CS.seqL, bList, M.opt, dIs, cZip, dZip, cIsiT, D.isNon, bStr])
  exact z.2.1 rfl
theorem rowT_asc {r : List Int} (h : RowOk r) : ∀ a ∈ TL.tl (rowT r), a < 128 ∧ a ≠ 124 := by
  cases r with
  | nil =>
    intro a ha
    have ha : a ∈ TL.tl dash := ha
    rw [tl_dash] at ha
    simp [M.bind, M.ret, R.bind, cSeq, cRet, cVar, cOp, cAnd, cOr, cNot, cIf, cAndT, cOrT, cNotT, asB, cB, cNext, cIfS, cSet, CS.put, cChain, dLe, dLt, dGt, dGe, dI2, startC, outF, fnB, cIsi, CS.knOf, tyB, isKn, isTy, M.guard, cTru, dTru, liftF, cCall, cCons, cFor, forL, cEnum, dEnum, cTg, cLc, lcL, wipeC, cWalk, dWalk, cNever, cSetTp, putAll, bLen, cFld, CS.fld, cProp, noExc, CS.clsOf, cCallS, dItems, cLenP, cIxP, CS.see, cApp, CS.pl, CS.wr, Pl.xs, dNeg, cSetIx, cStore, froz, cLst, cCutL, dCutL, cNoPart, cPart, dPart, CS.seqL, bList, M.opt, dIs, cZip, dZip, cIsiT, D.isNon, bStr] at ha
    omega
  | cons x r => exact fun a ha => ⟨(rowT_cons h a ha).1, (rowT_cons h a ha).2.2⟩
theorem asc_bar : Asc barS := fun c h => by
  rw [tl_bar] at h
  simp [M.bind, M.ret, R.bind, cSeq, cRet, cVar, cOp, cAnd, cOr, cNot, cIf, cAndT, cOrT, cNotT, asB, cB, cNext, cIfS, cSet, CS.put, cChain, dLe, dLt, dGt, dGe, dI2, startC, outF, fnB, cIsi, CS.knOf, tyB, isKn, isTy, M.guard, cTru, dTru, liftF, cCall, cCons, cFor, forL, cEnum, dEnum, cTg, cLc, lcL, wipeC, cWalk, dWalk, cNever, cSetTp, putAll, bLen, cFld, CS.fld, cProp, noExc, CS.clsOf, cCallS, dItems, cLenP, cIxP, CS.see, cApp, CS.pl, CS.wr, Pl.xs, dNeg, cSetIx, cStore, froz, cLst, cCutL, dCutL, cNoPart, cPart, dPart, CS.seqL, bList, M.opt, dIs, cZip, dZip, cIsiT, D.isNon, bStr] at h
  omega
theorem chT_asc {rs : List (List Int)} (h : ChOk rs) : Asc (chT rs) := asc_join asc_bar fun p hp => by
  obtain ⟨r, hr, rfl⟩ := List.mem_map.mp hp
  exact fun c hc => (rowT_asc (h.2.2 r hr) c hc).1
theorem chR_asc {rs : List (List Int)} (h : ChOk rs) : Asc (chR rs) := asc_app (asc_app (asc_app (by unfold Asc; decide) (by unfold Asc; decide)) (chT_asc h)) (by unfold Asc; decide)
theorem eqv_str (x y : Str) : PyData.eqv (.str x) (.str y) = decide (x = y) := by
  have e : PyData.eqv (.str x) (.str y) = (x == y) := by simp [M.bind, M.ret, R.bind, cSeq, cRet, cVar, cOp, cAnd, cOr, cNot, cIf, cAndT, cOrT, cNotT, asB, cB, cNext, cIfS, cSet, CS.put, cChain, dLe, dLt, dGt, dGe, dI2, startC, outF, fnB, cIsi, CS.knOf, tyB, isKn, isTy, M.guard, cTru, dTru, liftF, cCall, cCons, cFor, forL, cEnum, dEnum, cTg, cLc, lcL, wipeC, cWalk, dWalk, cNever, cSetTp, putAll, bLen, cFld, CS.fld, cProp, noExc, CS.clsOf, cCallS, dItems, cLenP, cIxP, CS.see, cApp, CS.pl, CS.wr, Pl.xs, dNeg, cSetIx, cStore, froz, cLst, cCutL, dCutL, cNoPart, cPart, dPart, CS.seqL, bList, M.opt, dIs, cZip, dZip, cIsiT, D.isNon, bStr, PyData.eqv]
  rw [e]
  by_cases h : x = y <;> simp [M.bind, M.ret, R.bind, cSeq, cRet, cVar, cOp, cAnd, cOr, cNot, cIf, cAndT, cOrT, cNotT, asB, cB, cNext, cIfS, cSet, CS.put, cChain, dLe, dLt, dGt, dGe, dI2, startC, outF, fnB, cIsi, CS.knOf, tyB, isKn, isTy, M.guard, cTru, dTru, liftF, cCall, cCons, cFor, forL, cEnum, dEnum, cTg, cLc, lcL, wipeC, cWalk, dWalk, cNever, cSetTp, putAll, bLen, cFld, CS.fld, cProp, noExc, CS.clsOf, cCallS, dItems, cLenP, cIxP, CS.see, cApp, CS.pl, CS.wr, Pl.xs, dNeg, cSetIx, cStore, froz, cLst, cCutL, dCutL, cNoPart, cPart, dPart, CS.seqL, bList, M.opt, dIs, cZip, dZip, cIsiT, D.isNon, bStr, h]
theorem dE_str (x y : Str) (c : CS) (hx : SeqAt.shaped (.str x) = true) (hy : SeqAt.shaped (.str y) = true) : dP2 (fun p q => .bl (PyData.eqv p q)) (.str x) (.str y) c = .ok (.bl (decide (x = y))) c := by
  show (match toP (.str x), toP (.str y) with
    | some p, some q => M.guard (SeqAt.shaped p && SeqAt.shaped q) (M.ret (D.bl (PyData.eqv p q)))
    | _, _ => fun _ => .stuck : M D) c = _
  have t : ∀ x, toP (.str x) = some (.str x) := fun x => by simp [M.bind, M.ret, R.bind, cSeq, cRet, cVar, cOp, cAnd, cOr, cNot, cIf, cAndT, cOrT, cNotT, asB, cB, cNext, cIfS, cSet, CS.put, cChain, dLe, dLt, dGt, dGe, dI2, startC, outF, fnB, cIsi, CS.knOf, tyB, isKn, isTy, M.guard, cTru, dTru, liftF, cCall, cCons, cFor, forL, cEnum, dEnum, cTg, cLc, lcL, wipeC, cWalk, dWalk, cNever, cSetTp, putAll, bLen, cFld, CS.fld, cProp, noExc, CS.clsOf, cCallS, dItems, cLenP, cIxP, CS.see, cApp, CS.pl, CS.wr, Pl.xs, dNeg, cSetIx, cStore, froz, cLst, cCutL, dCutL, cNoPart, cPart, dPart, CS.seqL, bList, M.opt, dIs, cZip, dZip, cIsiT, D.isNon, bStr, toP]
  rw [t, t]
  dsimp only
  rw [hx, hy, eqv_str]
  rfl
theorem dN_str (x y : Str) (c : CS) (hx : SeqAt.shaped (.str x) = true) (hy : SeqAt.shaped (.str y) = true) : dP2 (fun p q => .bl (!PyData.eqv p q)) (.str x) (.str y) c = .ok (.bl (!decide (x = y))) c := by
  show (match toP (.str x), toP (.str y) with
    | some p, some q => M.guard (SeqAt.shaped p && SeqAt.shaped q) (M.ret (D.bl (!PyData.eqv p q)))
    | _, _ => fun _ => .stuck : M D) c = _
  have t : ∀ x, toP (.str x) = some (.str x) := fun x => by simp [M.bind, M.ret, R.bind, cSeq, cRet, cVar, cOp, cAnd, cOr, cNot, cIf, cAndT, cOrT, cNotT, asB, cB, cNext, cIfS, cSet, CS.put, cChain, dLe, dLt, dGt, dGe, dI2, startC, outF, fnB, cIsi, CS.knOf, tyB, isKn, isTy, M.guard, cTru, dTru, liftF, cCall, cCons, cFor, forL, cEnum, dEnum, cTg, cLc, lcL, wipeC, cWalk, dWalk, cNever, cSetTp, putAll, bLen, cFld, CS.fld, cProp, noExc, CS.clsOf, cCallS, dItems, cLenP, cIxP, CS.see, cApp, CS.pl, CS.wr, Pl.xs, dNeg, cSetIx, cStore, froz, cLst, cCutL, dCutL, cNoPart, cPart, dPart, CS.seqL, bList, M.opt, dIs, cZip, dZip, cIsiT, D.isNon, bStr, toP]
  rw [t, t]
  dsimp only
  rw [hx, hy, eqv_str]
  rfl
theorem rangeD_cons (lo : Int) (n : Nat) : rangeD lo (n + 1) = .int lo :: rangeD (lo + 1) n := by
  unfold rangeD
  rw [List.range_succ_eq_map, List.map_cons, List.map_map]
  simp [M.bind, M.ret, R.bind, cSeq, cRet, cVar, cOp, cAnd, cOr, cNot, cIf, cAndT, cOrT, cNotT, asB, cB, cNext, cIfS, cSet, CS.put, cChain, dLe, dLt, dGt, dGe, dI2, startC, outF, fnB, cIsi, CS.knOf, tyB, isKn, isTy, M.guard, cTru, dTru, liftF, cCall, cCons, cFor, forL, cEnum, dEnum, cTg, cLc, lcL, wipeC, cWalk, dWalk, cNever, cSetTp, putAll, bLen, cFld, CS.fld, cProp, noExc, CS.clsOf, cCallS, dItems, cLenP, cIxP, CS.see, cApp, CS.pl, CS.wr, Pl.xs, dNeg, cSetIx, cStore, froz, cLst, cCutL, dCutL, cNoPart, cPart, dPart, CS.seqL, bList, M.opt, dIs, cZip, dZip, cIsiT, D.isNon, bStr]
  intro a _
  omega
def rcB : M Fl := (cSeq (cIfS (asB (cOp dEq (cVar 0) ((cCons (cVar 1) (M.ret [])).bind bStr))) (cSeq (cRet (cVar 1))
  cNext) cNext)
  cNext)
theorem s_rcL {c : Int} (h1 : 1 ≤ c) (h2 : c ≤ 12) : ∀ (n : Nat) (lo : Int) (b : Sl) (S : List O), 1 ≤ lo → lo ≤ c → c < lo + n → lo + n ≤ 13 → ∃ b', forL (fun d => cSeq (cTg (.nm 1) d) rcB) (rangeD lo n) ⟨[.val (.str (wd c)), b], S⟩ = .ok (.ret (.int c)) ⟨[.val (.str (wd c)), b'], S⟩ := by
  intro n
  induction n with
  | zero => intro lo b S g1 g2 g3 g4; omega
  | succ n ih =>
    intro lo b S g1 g2 g3 g4
    rw [rangeD_cons]
    have hg := wd_log (c := lo) (by omega) (by omega)
    have e := fun c' => dE_str (wd c) (wd lo) c' (wd_shp h1 h2) (wd_shp (by omega) (by omega))
    have ew : PySem.Str.ofString lo.repr = wd lo := rfl
    by_cases h : lo = c
    · subst h
      refine ⟨.val (.int lo), ?_⟩
      simp [M.bind, M.ret, R.bind, cSeq, cRet, cVar, cOp, cAnd, cOr, cNot, cIf, cAndT, cOrT, cNotT, asB, cB, cNext, cIfS, cSet, CS.put, cChain, dLe, dLt, dGt, dGe, dI2, startC, outF, fnB, cIsi, CS.knOf, tyB, isKn, isTy, M.guard, cTru, dTru, liftF, cCall, cCons, cFor, forL, cEnum, dEnum, cTg, cLc, lcL, wipeC, cWalk, dWalk, cNever, cSetTp, putAll, bLen, cFld, CS.fld, cProp, noExc, CS.clsOf, cCallS, dItems, cLenP, cIxP, CS.see, cApp, CS.pl, CS.wr, Pl.xs, dNeg, cSetIx, cStore, froz, cLst, cCutL, dCutL, cNoPart, cPart, dPart, CS.seqL, bList, M.opt, dIs, cZip, dZip, cIsiT, D.isNon, bStr] at e
      simp [M.bind, M.ret, R.bind, cSeq, cRet, cVar, cOp, cAnd, cOr, cNot, cIf, cAndT, cOrT, cNotT, asB, cB, cNext, cIfS, cSet, CS.put, cChain, dLe, dLt, dGt, dGe, dI2, startC, outF, fnB, cIsi, CS.knOf, tyB, isKn, isTy, M.guard, cTru, dTru, liftF, cCall, cCons, cFor, forL, cEnum, dEnum, cTg, cLc, lcL, wipeC, cWalk, dWalk, cNever, cSetTp, putAll, bLen, cFld, CS.fld, cProp, noExc, CS.clsOf, cCallS, dItems, cLenP, cIxP, CS.see, cApp, CS.pl, CS.wr, Pl.xs, dNeg, cSetIx, cStore, froz, cLst, cCutL, dCutL, cNoPart, cPart, dPart, CS.seqL, bList, M.opt, dIs, cZip, dZip, cIsiT, D.isNon, bStr, rcB, hg, ew, e]
    · obtain ⟨b', z⟩ := ih (lo + 1) (.val (.int lo)) S (by omega) (by omega) (by omega) (by omega)
      refine ⟨b', ?_⟩
      have hne : ¬ wd c = wd lo := fun z => h (wd_inj' h1 h2 (by omega) (by omega) z).symm
      simp [M.bind, M.ret, R.bind, cSeq, cRet, cVar, cOp, cAnd, cOr, cNot, cIf, cAndT, cOrT, cNotT, asB, cB, cNext, cIfS, cSet, CS.put, cChain, dLe, dLt, dGt, dGe, dI2, startC, outF, fnB, cIsi, CS.knOf, tyB, isKn, isTy, M.guard, cTru, dTru, liftF, cCall, cCons, cFor, forL, cEnum, dEnum, cTg, cLc, lcL, wipeC, cWalk, dWalk, cNever, cSetTp, putAll, bLen, cFld, CS.fld, cProp, noExc, CS.clsOf, cCallS, dItems, cLenP, cIxP, CS.see, cApp, CS.pl, CS.wr, Pl.xs, dNeg, cSetIx, cStore, froz, cLst, cCutL, dCutL, cNoPart, cPart, dPart, CS.seqL, bList, M.opt, dIs, cZip, dZip, cIsiT, D.isNon, bStr, hne] at e
      simp [M.bind, M.ret, R.bind, cSeq, cRet, cVar, cOp, cAnd, cOr, cNot, cIf, cAndT, cOrT, cNotT, asB, cB, cNext, cIfS, cSet, CS.put, cChain, dLe, dLt, dGt, dGe, dI2, startC, outF, fnB, cIsi, CS.knOf, tyB, isKn, isTy, M.guard, cTru, dTru, liftF, cCall, cCons, cFor, forL, cEnum, dEnum, cTg, cLc, lcL, wipeC, cWalk, dWalk, cNever, cSetTp, putAll, bLen, cFld, CS.fld, cProp, noExc, CS.clsOf, cCallS, dItems, cLenP, cIxP, CS.see, cApp, CS.pl, CS.wr, Pl.xs, dNeg, cSetIx, cStore, froz, cLst, cCutL, dCutL, cNoPart, cPart, dPart, CS.seqL, bList, M.opt, dIs, cZip, dZip, cIsiT, D.isNon, bStr, rcB, hg, ew, e] at z ⊢
      exact z
theorem s_rc {c : Int} (h1 : 1 ≤ c) (h2 : c ≤ 12) (S : List O) : fn_read_capacity [.str (wd c)] S = .ok (.int c) S := by
  obtain ⟨b', e⟩ := s_rcL h1 h2 12 1 .no S (by omega) h1 (by omega) (by omega)
  have g : cFor (cRange2 (M.ret (.int 1)) (cOp dAdd (M.ret (.int 12)) (M.ret (.int 1)))) (.nm 1) rcB ⟨[.val (.str (wd c)), .no], S⟩ = .ok (.ret (.int c)) ⟨[.val (.str (wd c)), b'], S⟩ := e
  show outF (cSeq (cFor (cRange2 (M.ret (.int 1)) (cOp dAdd (M.ret (.int 12)) (M.ret (.int 1)))) (.nm 1) rcB) _ ⟨[.val (.str (wd c)), .no], S⟩) = _
  rw [cSeq_ret g]
  rfl
end K02
namespace K02
open CL PySem
theorem s_split {x y : Str} {ps : List Str} {i : Nat} {c : CS} (hx : cVar i c = .ok (.str x) c) (hl : x.length ≤ 1000) (hy : (y.length == 0) = false) (e : Txt.split x y = ps) : cWalk (froz (cSplit (cVar i) (M.ret (.str y)))) c = .ok (ps.map .str) c := by
  have hz : decide (x.length + 2 ≤ sizeLine) = true := decide_eq_true (Nat.le_trans (by omega : x.length + 2 ≤ 1002) (by decide))
  have g : cSplit (cVar i) (M.ret (.str y)) c = .ok (ps.map .str) c := by
    show (R.bind (cVar i c) _) = _
    rw [hx]
    show (M.guard (!(y.length == 0) && decide (x.length + 2 ≤ sizeLine)) (M.ret ((Txt.split x y).map D.str))) c = _
    rw [hy, hz, e]
    rfl
  show R.bind (R.bind (cSplit (cVar i) (M.ret (.str y)) c) _) _ = _
  rw [g]
  rfl
theorem cTupL {L : M (List D)} {c c' : CS} {ys : List D} (e : L c = .ok ys c') : ((cCons (froz L) (M.ret [])).bind bTuple) c = .ok (.tup ys) c' := by
  show R.bind (R.bind (R.bind (L c) _) _) _ = _
  rw [e]
  rfl
theorem s_rrL (r : List Int) : ∀ (acc : List D) (a b d : Sl) (S : List O), acc.length + r.length ≤ 1000 → (∀ x ∈ r, 1 ≤ x ∧ x ≤ 12) →
    ∃ d', lcL (.nm 2) (M.ret true) (cCall fn_read_capacity (cCons (cVar 2) (M.ret []))) [2] ((r.map wd).map .str) acc ⟨[a, b, d], S⟩ = .ok (acc ++ r.map .int) ⟨[a, b, d'], S⟩ := by
  induction r with
  | nil => intro acc a b d S _ _; exact ⟨d, by simp [M.bind, M.ret, R.bind, cSeq, cRet, cVar, cOp, cAnd, cOr, cNot, cIf, cAndT, cOrT, cNotT, asB, cB, cNext, cIfS, cSet, CS.put, cChain, dLe, dLt, dGt, dGe, dI2, startC, outF, fnB, cIsi, CS.knOf, tyB, isKn, isTy, M.guard, cTru, dTru, liftF, cCall, cCons, cFor, forL, cEnum, dEnum, cTg, cLc, lcL, wipeC, cWalk, dWalk, cNever, cSetTp, putAll, bLen, cFld, CS.fld, cProp, noExc, CS.clsOf, cCallS, dItems, cLenP, cIxP, CS.see, cApp, CS.pl, CS.wr, Pl.xs, dNeg, cSetIx, cStore, froz, cLst, cCutL, dCutL, cNoPart, cPart, dPart, CS.seqL, bList, M.opt, dIs, cZip, dZip, cIsiT, D.isNon, bStr]⟩
  | cons x r ih =>
    intro acc a b d S hl h
    obtain ⟨d', e⟩ := ih (acc ++ [.int x]) a b .no S (by simp [M.bind, M.ret, R.bind, cSeq, cRet, cVar, cOp, cAnd, cOr, cNot, cIf, cAndT, cOrT, cNotT, asB, cB, cNext, cIfS, cSet, CS.put, cChain, dLe, dLt, dGt, dGe, dI2, startC, outF, fnB, cIsi, CS.knOf, tyB, isKn, isTy, M.guard, cTru, dTru, liftF, cCall, cCons, cFor, forL, cEnum, dEnum, cTg, cLc, lcL, wipeC, cWalk, dWalk, cNever, cSetTp, putAll, bLen, cFld, CS.fld, cProp, noExc, CS.clsOf, cCallS, dItems, cLenP, cIxP, CS.see, cApp, CS.pl, CS.wr, Pl.xs, dNeg, cSetIx, cStore, froz, cLst, cCutL, dCutL, cNoPart, cPart, dPart, CS.seqL, bList, M.opt, dIs, cZip, dZip, cIsiT, D.isNon, bStr] at hl ⊢; omega) (fun y hy => h y (by simp [M.bind, M.ret, R.bind, cSeq, cRet, cVar, cOp, cAnd, cOr, cNot, cIf, cAndT, cOrT, cNotT, asB, cB, cNext, cIfS, cSet, CS.put, cChain, dLe, dLt, dGt, dGe, dI2, startC, outF, fnB, cIsi, CS.knOf, tyB, isKn, isTy, M.guard, cTru, dTru, liftF, cCall, cCons, cFor, forL, cEnum, dEnum, cTg, cLc, lcL, wipeC, cWalk, dWalk, cNever, cSetTp, putAll, bLen, cFld, CS.fld, cProp, noExc, CS.clsOf, cCallS, dItems, cLenP, cIxP, CS.see, cApp, CS.pl, CS.wr, Pl.xs, dNeg, cSetIx, cStore, froz, cLst, cCutL, dCutL, cNoPart, cPart, dPart, CS.seqL, bList, M.opt, dIs, cZip, dZip, cIsiT, D.isNon, bStr, hy]))
    refine ⟨d', ?_⟩
    have hz : acc.length < sizeLine := Nat.lt_of_lt_of_le (by simp [M.bind, M.ret, R.bind, cSeq, cRet, cVar, cOp, cAnd, cOr, cNot, cIf, cAndT, cOrT, cNotT, asB, cB, cNext, cIfS, cSet, CS.put, cChain, dLe, dLt, dGt, dGe, dI2, startC, outF, fnB, cIsi, CS.knOf, tyB, isKn, isTy, M.guard, cTru, dTru, liftF, cCall, cCons, cFor, forL, cEnum, dEnum, cTg, cLc, lcL, wipeC, cWalk, dWalk, cNever, cSetTp, putAll, bLen, cFld, CS.fld, cProp, noExc, CS.clsOf, cCallS, dItems, cLenP, cIxP, CS.see, cApp, CS.pl, CS.wr, Pl.xs, dNeg, cSetIx, cStore, froz, cLst, cCutL, dCutL, cNoPart, cPart, dPart, CS.seqL, bList, M.opt, dIs, cZip, dZip, cIsiT, D.isNon, bStr] at hl; omega : acc.length < 1001) (by decide)
    have z := s_rc (h x (by simp [M.bind, M.ret, R.bind, cSeq, cRet, cVar, cOp, cAnd, cOr, cNot, cIf, cAndT, cOrT, cNotT, asB, cB, cNext, cIfS, cSet, CS.put, cChain, dLe, dLt, dGt, dGe, dI2, startC, outF, fnB, cIsi, CS.knOf, tyB, isKn, isTy, M.guard, cTru, dTru, liftF, cCall, cCons, cFor, forL, cEnum, dEnum, cTg, cLc, lcL, wipeC, cWalk, dWalk, cNever, cSetTp, putAll, bLen, cFld, CS.fld, cProp, noExc, CS.clsOf, cCallS, dItems, cLenP, cIxP, CS.see, cApp, CS.pl, CS.wr, Pl.xs, dNeg, cSetIx, cStore, froz, cLst, cCutL, dCutL, cNoPart, cPart, dPart, CS.seqL, bList, M.opt, dIs, cZip, dZip, cIsiT, D.isNon, bStr])).1 (h x (by simp [M.bind, M.ret, R.bind, cSeq, cRet, cVar, cOp, cAnd, cOr, cNot, cIf, cAndT, cOrT, cNotT, asB, cB, cNext, cIfS, cSet, CS.put, cChain, dLe, dLt, dGt, dGe, dI2, startC, outF, fnB, cIsi, CS.knOf, tyB, isKn, isTy, M.guard, cTru, dTru, liftF, cCall, cCons, cFor, forL, cEnum, dEnum, cTg, cLc, lcL, wipeC, cWalk, dWalk, cNever, cSetTp, putAll, bLen, cFld, CS.fld, cProp, noExc, CS.clsOf, cCallS, dItems, cLenP, cIxP, CS.see, cApp, CS.pl, CS.wr, Pl.xs, dNeg, cSetIx, cStore, froz, cLst, cCutL, dCutL, cNoPart, cPart, dPart, CS.seqL, bList, M.opt, dIs, cZip, dZip, cIsiT, D.isNon, bStr])).2 S
    simp [M.bind, M.ret, R.bind, cSeq, cRet, cVar, cOp, cAnd, cOr, cNot, cIf, cAndT, cOrT, cNotT, asB, cB, cNext, cIfS, cSet, CS.put, cChain, dLe, dLt, dGt, dGe, dI2, startC, outF, fnB, cIsi, CS.knOf, tyB, isKn, isTy, M.guard, cTru, dTru, liftF, cCall, cCons, cFor, forL, cEnum, dEnum, cTg, cLc, lcL, wipeC, cWalk, dWalk, cNever, cSetTp, putAll, bLen, cFld, CS.fld, cProp, noExc, CS.clsOf, cCallS, dItems, cLenP, cIxP, CS.see, cApp, CS.pl, CS.wr, Pl.xs, dNeg, cSetIx, cStore, froz, cLst, cCutL, dCutL, cNoPart, cPart, dPart, CS.seqL, bList, M.opt, dIs, cZip, dZip, cIsiT, D.isNon, bStr, hz, z] at e ⊢
    exact e
theorem blk_ok : blk.cps.all (· < 256) = true := by decide +kernel
theorem dash_shp : SeqAt.shaped (.str dash) = true := shp_asc (by unfold Asc; decide)
theorem s_readRow (r : List Int) (S : List O) (h : RowOk r) : fn_read_row [.str (rowT r)] S = .ok (rowD r) S := by
  have ht : SeqAt.shaped (.str (rowT r)) = true := shp_asc fun a ha => (rowT_asc h a ha).1
  have e := fun c => dE_str (rowT r) dash c ht dash_shp
  cases r with
  | nil =>
    have e' : rowT [] = dash := rfl
    have eD : PySem.Str.ofString "-" = dash := rfl
    simp [M.bind, M.ret, R.bind, cSeq, cRet, cVar, cOp, cAnd, cOr, cNot, cIf, cAndT, cOrT, cNotT, asB, cB, cNext, cIfS, cSet, CS.put, cChain, dLe, dLt, dGt, dGe, dI2, startC, outF, fnB, cIsi, CS.knOf, tyB, isKn, isTy, M.guard, cTru, dTru, liftF, cCall, cCons, cFor, forL, cEnum, dEnum, cTg, cLc, lcL, wipeC, cWalk, dWalk, cNever, cSetTp, putAll, bLen, cFld, CS.fld, cProp, noExc, CS.clsOf, cCallS, dItems, cLenP, cIxP, CS.see, cApp, CS.pl, CS.wr, Pl.xs, dNeg, cSetIx, cStore, froz, cLst, cCutL, dCutL, cNoPart, cPart, dPart, CS.seqL, bList, M.opt, dIs, cZip, dZip, cIsiT, D.isNon, bStr, e'] at e
    simp [M.bind, M.ret, R.bind, cSeq, cRet, cVar, cOp, cAnd, cOr, cNot, cIf, cAndT, cOrT, cNotT, asB, cB, cNext, cIfS, cSet, CS.put, cChain, dLe, dLt, dGt, dGe, dI2, startC, outF, fnB, cIsi, CS.knOf, tyB, isKn, isTy, M.guard, cTru, dTru, liftF, cCall, cCons, cFor, forL, cEnum, dEnum, cTg, cLc, lcL, wipeC, cWalk, dWalk, cNever, cSetTp, putAll, bLen, cFld, CS.fld, cProp, noExc, CS.clsOf, cCallS, dItems, cLenP, cIxP, CS.see, cApp, CS.pl, CS.wr, Pl.xs, dNeg, cSetIx, cStore, froz, cLst, cCutL, dCutL, cNoPart, cPart, dPart, CS.seqL, bList, M.opt, dIs, cZip, dZip, cIsiT, D.isNon, bStr, fn_read_row, cl_read_row, e', eD, e, rowD, cTup, szOk_small]
  | cons x r =>
    have hl := h.1
    have zl : szOk (x :: r).length = true := szOk_small (by omega)
    have hlen := rowT_len h
    have sp : Txt.split (rowT (x :: r)) blk = (x :: r).map wd := TL.split_join tl_blk blk_ok (by simp [M.bind, M.ret, R.bind, cSeq, cRet, cVar, cOp, cAnd, cOr, cNot, cIf, cAndT, cOrT, cNotT, asB, cB, cNext, cIfS, cSet, CS.put, cChain, dLe, dLt, dGt, dGe, dI2, startC, outF, fnB, cIsi, CS.knOf, tyB, isKn, isTy, M.guard, cTru, dTru, liftF, cCall, cCons, cFor, forL, cEnum, dEnum, cTg, cLc, lcL, wipeC, cWalk, dWalk, cNever, cSetTp, putAll, bLen, cFld, CS.fld, cProp, noExc, CS.clsOf, cCallS, dItems, cLenP, cIxP, CS.see, cApp, CS.pl, CS.wr, Pl.xs, dNeg, cSetIx, cStore, froz, cLst, cCutL, dCutL, cNoPart, cPart, dPart, CS.seqL, bList, M.opt, dIs, cZip, dZip, cIsiT, D.isNon, bStr]) fun p hp => by
      obtain ⟨c, hc, rfl⟩ := List.mem_map.mp hp
      exact (wd_sgn (h.2 c hc).1 (h.2 c hc).2).1
    obtain ⟨d', eL⟩ := s_rrL (x :: r) [] (.val (.str (rowT (x :: r)))) .no .no S (by simp [M.bind, M.ret, R.bind, cSeq, cRet, cVar, cOp, cAnd, cOr, cNot, cIf, cAndT, cOrT, cNotT, asB, cB, cNext, cIfS, cSet, CS.put, cChain, dLe, dLt, dGt, dGe, dI2, startC, outF, fnB, cIsi, CS.knOf, tyB, isKn, isTy, M.guard, cTru, dTru, liftF, cCall, cCons, cFor, forL, cEnum, dEnum, cTg, cLc, lcL, wipeC, cWalk, dWalk, cNever, cSetTp, putAll, bLen, cFld, CS.fld, cProp, noExc, CS.clsOf, cCallS, dItems, cLenP, cIxP, CS.see, cApp, CS.pl, CS.wr, Pl.xs, dNeg, cSetIx, cStore, froz, cLst, cCutL, dCutL, cNoPart, cPart, dPart, CS.seqL, bList, M.opt, dIs, cZip, dZip, cIsiT, D.isNon, bStr] at hl ⊢; omega) h.2
    rw [List.nil_append] at eL
    have hne := rowT_ne h
    simp only [hne, decide_false] at e
    have g0 : cIfS (asB (cOp dEq (cVar 0) (M.ret (.str dash)))) (cSeq (cRet (cTup (M.ret []))) cNext) cNext ⟨[.val (.str (rowT (x :: r))), .no, .no], S⟩ = .ok .next ⟨[.val (.str (rowT (x :: r))), .no, .no], S⟩ := by
      simp [M.bind, M.ret, R.bind, cSeq, cRet, cVar, cOp, cAnd, cOr, cNot, cIf, cAndT, cOrT, cNotT, asB, cB, cNext, cIfS, cSet, CS.put, cChain, dLe, dLt, dGt, dGe, dI2, startC, outF, fnB, cIsi, CS.knOf, tyB, isKn, isTy, M.guard, cTru, dTru, liftF, cCall, cCons, cFor, forL, cEnum, dEnum, cTg, cLc, lcL, wipeC, cWalk, dWalk, cNever, cSetTp, putAll, bLen, cFld, CS.fld, cProp, noExc, CS.clsOf, cCallS, dItems, cLenP, cIxP, CS.see, cApp, CS.pl, CS.wr, Pl.xs, dNeg, cSetIx, cStore, froz, cLst, cCutL, dCutL, cNoPart, cPart, dPart, CS.seqL, bList, M.opt, dIs, cZip, dZip, cIsiT, D.isNon, bStr, e]
    have w := s_split (i := 0) (c := ⟨[.val (.str (rowT (x :: r))), .no, .no], S⟩) (y := blk) rfl (by omega) (by rw [blk_len]; rfl) sp
    have eC : cLc (cWalk (froz (cSplit (cVar 0) (M.ret (.str blk))))) (.nm 2) (M.ret true) (cCall fn_read_capacity (cCons (cVar 2) (M.ret []))) [2] ⟨[.val (.str (rowT (x :: r))), .no, .no], S⟩ = .ok ((x :: r).map .int) ⟨[.val (.str (rowT (x :: r))), .no, d'], S⟩ := by
      unfold cLc
      rw [w]
      exact eL
    have g1 : cSet 1 ((cCons (froz (cLc (cWalk (froz (cSplit (cVar 0) (M.ret (.str blk))))) (.nm 2) (M.ret true) (cCall fn_read_capacity (cCons (cVar 2) (M.ret []))) [2])) (M.ret [])).bind bTuple) ⟨[.val (.str (rowT (x :: r))), .no, .no], S⟩ = .ok .next ⟨[.val (.str (rowT (x :: r))), .val (rowD (x :: r)), d'], S⟩ := by
      unfold cSet
      rw [cTupL eC]
      rfl
    have hgt : ¬ (12 : Int) < (r.length : Int) + 1 := by simp [M.bind, M.ret, R.bind, cSeq, cRet, cVar, cOp, cAnd, cOr, cNot, cIf, cAndT, cOrT, cNotT, asB, cB, cNext, cIfS, cSet, CS.put, cChain, dLe, dLt, dGt, dGe, dI2, startC, outF, fnB, cIsi, CS.knOf, tyB, isKn, isTy, M.guard, cTru, dTru, liftF, cCall, cCons, cFor, forL, cEnum, dEnum, cTg, cLc, lcL, wipeC, cWalk, dWalk, cNever, cSetTp, putAll, bLen, cFld, CS.fld, cProp, noExc, CS.clsOf, cCallS, dItems, cLenP, cIxP, CS.see, cApp, CS.pl, CS.wr, Pl.xs, dNeg, cSetIx, cStore, froz, cLst, cCutL, dCutL, cNoPart, cPart, dPart, CS.seqL, bList, M.opt, dIs, cZip, dZip, cIsiT, D.isNon, bStr] at hl; omega
    have g2 : cIfS (asB (cOp dGt ((cCons (cVar 1) (M.ret [])).bind bLen) (M.ret (.int 12)))) (cSeq cNever cNext) cNext ⟨[.val (.str (rowT (x :: r))), .val (rowD (x :: r)), d'], S⟩ = .ok .next ⟨[.val (.str (rowT (x :: r))), .val (rowD (x :: r)), d'], S⟩ := by
      simp [M.bind, M.ret, R.bind, cSeq, cRet, cVar, cOp, cAnd, cOr, cNot, cIf, cAndT, cOrT, cNotT, asB, cB, cNext, cIfS, cSet, CS.put, cChain, dLe, dLt, dGt, dGe, dI2, startC, outF, fnB, cIsi, CS.knOf, tyB, isKn, isTy, M.guard, cTru, dTru, liftF, cCall, cCons, cFor, forL, cEnum, dEnum, cTg, cLc, lcL, wipeC, cWalk, dWalk, cNever, cSetTp, putAll, bLen, cFld, CS.fld, cProp, noExc, CS.clsOf, cCallS, dItems, cLenP, cIxP, CS.see, cApp, CS.pl, CS.wr, Pl.xs, dNeg, cSetIx, cStore, froz, cLst, cCutL, dCutL, cNoPart, cPart, dPart, CS.seqL, bList, M.opt, dIs, cZip, dZip, cIsiT, D.isNon, bStr, rowD, hgt] at zl ⊢
      try simp [M.bind, M.ret, R.bind, cSeq, cRet, cVar, cOp, cAnd, cOr, cNot, cIf, cAndT, cOrT, cNotT, asB, cB, cNext, cIfS, cSet, CS.put, cChain, dLe, dLt, dGt, dGe, dI2, startC, outF, fnB, cIsi, CS.knOf, tyB, isKn, isTy, M.guard, cTru, dTru, liftF, cCall, cCons, cFor, forL, cEnum, dEnum, cTg, cLc, lcL, wipeC, cWalk, dWalk, cNever, cSetTp, putAll, bLen, cFld, CS.fld, cProp, noExc, CS.clsOf, cCallS, dItems, cLenP, cIxP, CS.see, cApp, CS.pl, CS.wr, Pl.xs, dNeg, cSetIx, cStore, froz, cLst, cCutL, dCutL, cNoPart, cPart, dPart, CS.seqL, bList, M.opt, dIs, cZip, dZip, cIsiT, D.isNon, bStr, zl, hgt]
    show outF (cSeq (cIfS (asB (cOp dEq (cVar 0) (M.ret (.str dash)))) (cSeq (cRet (cTup (M.ret []))) cNext) cNext) (cSeq (cSet 1 ((cCons (froz (cLc (cWalk (froz (cSplit (cVar 0) (M.ret (.str blk))))) (.nm 2) (M.ret true) (cCall fn_read_capacity (cCons (cVar 2) (M.ret []))) [2])) (M.ret [])).bind bTuple)) (cSeq _ (cSeq (cRet (cVar 1)) cNext))) ⟨[.val (.str (rowT (x :: r))), .no, .no], S⟩) = _
    rw [cSeq_next g0, cSeq_next g1, cSeq_next g2]
    rfl
end K02
namespace K02
open CL PySem
theorem s_rdL (rs : List (List Int)) : ∀ (acc : List D) (a b d e0 : Sl) (S : List O), acc.length + rs.length ≤ 1000 → (∀ r ∈ rs, RowOk r) →
    ∃ d', lcL (.nm 3) (M.ret true) (cCall fn_read_row (cCons (cVar 3) (M.ret []))) [3] ((rs.map rowT).map .str) acc ⟨[a, b, d, e0], S⟩ = .ok (acc ++ rs.map rowD) ⟨[a, b, d, d'], S⟩ := by
  induction rs with
  | nil => intro acc a b d e0 S _ _; exact ⟨e0, by simp [M.bind, M.ret, R.bind, cSeq, cRet, cVar, cOp, cAnd, cOr, cNot, cIf, cAndT, cOrT, cNotT, asB, cB, cNext, cIfS, cSet, CS.put, cChain, dLe, dLt, dGt, dGe, dI2, startC, outF, fnB, cIsi, CS.knOf, tyB, isKn, isTy, M.guard, cTru, dTru, liftF, cCall, cCons, cFor, forL, cEnum, dEnum, cTg, cLc, lcL, wipeC, cWalk, dWalk, cNever, cSetTp, putAll, bLen, cFld, CS.fld, cProp, noExc, CS.clsOf, cCallS, dItems, cLenP, cIxP, CS.see, cApp, CS.pl, CS.wr, Pl.xs, dNeg, cSetIx, cStore, froz, cLst, cCutL, dCutL, cNoPart, cPart, dPart, CS.seqL, bList, M.opt, dIs, cZip, dZip, cIsiT, D.isNon, bStr]⟩
  | cons x r ih =>
    intro acc a b d e0 S hl h
    obtain ⟨d', e⟩ := ih (acc ++ [rowD x]) a b d .no S (by simp [M.bind, M.ret, R.bind, cSeq, cRet, cVar, cOp, cAnd, cOr, cNot, cIf, cAndT, cOrT, cNotT, asB, cB, cNext, cIfS, cSet, CS.put, cChain, dLe, dLt, dGt, dGe, dI2, startC, outF, fnB, cIsi, CS.knOf, tyB, isKn, isTy, M.guard, cTru, dTru, liftF, cCall, cCons, cFor, forL, cEnum, dEnum, cTg, cLc, lcL, wipeC, cWalk, dWalk, cNever, cSetTp, putAll, bLen, cFld, CS.fld, cProp, noExc, CS.clsOf, cCallS, dItems, cLenP, cIxP, CS.see, cApp, CS.pl, CS.wr, Pl.xs, dNeg, cSetIx, cStore, froz, cLst, cCutL, dCutL, cNoPart, cPart, dPart, CS.seqL, bList, M.opt, dIs, cZip, dZip, cIsiT, D.isNon, bStr] at hl ⊢; omega) (fun y hy => h y (by simp [M.bind, M.ret, R.bind, cSeq, cRet, cVar, cOp, cAnd, cOr, cNot, cIf, cAndT, cOrT, cNotT, asB, cB, cNext, cIfS, cSet, CS.put, cChain, dLe, dLt, dGt, dGe, dI2, startC, outF, fnB, cIsi, CS.knOf, tyB, isKn, isTy, M.guard, cTru, dTru, liftF, cCall, cCons, cFor, forL, cEnum, dEnum, cTg, cLc, lcL, wipeC, cWalk, dWalk, cNever, cSetTp, putAll, bLen, cFld, CS.fld, cProp, noExc, CS.clsOf, cCallS, dItems, cLenP, cIxP, CS.see, cApp, CS.pl, CS.wr, Pl.xs, dNeg, cSetIx, cStore, froz, cLst, cCutL, dCutL, cNoPart, cPart, dPart, CS.seqL, bList, M.opt, dIs, cZip, dZip, cIsiT, D.isNon, bStr, hy]))
    refine ⟨d', ?_⟩
    have hz : acc.length < sizeLine := Nat.lt_of_lt_of_le (by simp [M.bind, M.ret, R.bind, cSeq, cRet, cVar, cOp, cAnd, cOr, cNot, cIf, cAndT, cOrT, cNotT, asB, cB, cNext, cIfS, cSet, CS.put, cChain, dLe, dLt, dGt, dGe, dI2, startC, outF, fnB, cIsi, CS.knOf, tyB, isKn, isTy, M.guard, cTru, dTru, liftF, cCall, cCons, cFor, forL, cEnum, dEnum, cTg, cLc, lcL, wipeC, cWalk, dWalk, cNever, cSetTp, putAll, bLen, cFld, CS.fld, cProp, noExc, CS.clsOf, cCallS, dItems, cLenP, cIxP, CS.see, cApp, CS.pl, CS.wr, Pl.xs, dNeg, cSetIx, cStore, froz, cLst, cCutL, dCutL, cNoPart, cPart, dPart, CS.seqL, bList, M.opt, dIs, cZip, dZip, cIsiT, D.isNon, bStr] at hl; omega : acc.length < 1001) (by decide)
    have z := s_readRow x S (h x (by simp [M.bind, M.ret, R.bind, cSeq, cRet, cVar, cOp, cAnd, cOr, cNot, cIf, cAndT, cOrT, cNotT, asB, cB, cNext, cIfS, cSet, CS.put, cChain, dLe, dLt, dGt, dGe, dI2, startC, outF, fnB, cIsi, CS.knOf, tyB, isKn, isTy, M.guard, cTru, dTru, liftF, cCall, cCons, cFor, forL, cEnum, dEnum, cTg, cLc, lcL, wipeC, cWalk, dWalk, cNever, cSetTp, putAll, bLen, cFld, CS.fld, cProp, noExc, CS.clsOf, cCallS, dItems, cLenP, cIxP, CS.see, cApp, CS.pl, CS.wr, Pl.xs, dNeg, cSetIx, cStore, froz, cLst, cCutL, dCutL, cNoPart, cPart, dPart, CS.seqL, bList, M.opt, dIs, cZip, dZip, cIsiT, D.isNon, bStr]))
    simp [M.bind, M.ret, R.bind, cSeq, cRet, cVar, cOp, cAnd, cOr, cNot, cIf, cAndT, cOrT, cNotT, asB, cB, cNext, cIfS, cSet, CS.put, cChain, dLe, dLt, dGt, dGe, dI2, startC, outF, fnB, cIsi, CS.knOf, tyB, isKn, isTy, M.guard, cTru, dTru, liftF, cCall, cCons, cFor, forL, cEnum, dEnum, cTg, cLc, lcL, wipeC, cWalk, dWalk, cNever, cSetTp, putAll, bLen, cFld, CS.fld, cProp, noExc, CS.clsOf, cCallS, dItems, cLenP, cIxP, CS.see, cApp, CS.pl, CS.wr, Pl.xs, dNeg, cSetIx, cStore, froz, cLst, cCutL, dCutL, cNoPart, cPart, dPart, CS.seqL, bList, M.opt, dIs, cZip, dZip, cIsiT, D.isNon, bStr, hz, z] at e ⊢
    exact e
theorem s_read (rs : List (List Int)) (S : List O) (h : ChOk rs) : fn_Chain_read [.str (chT rs)] S = .ok (chD rs) S := by
  have h4 := h.2.1
  have h1 := h.1
  have hlen := chT_len h
  have zl : szOk rs.length = true := szOk_small (by omega)
  have sp : Txt.split (chT rs) barS = rs.map rowT := split_bar (fun e => by rw [List.map_eq_nil_iff.mp e] at h1; simp [M.bind, M.ret, R.bind, cSeq, cRet, cVar, cOp, cAnd, cOr, cNot, cIf, cAndT, cOrT, cNotT, asB, cB, cNext, cIfS, cSet, CS.put, cChain, dLe, dLt, dGt, dGe, dI2, startC, outF, fnB, cIsi, CS.knOf, tyB, isKn, isTy, M.guard, cTru, dTru, liftF, cCall, cCons, cFor, forL, cEnum, dEnum, cTg, cLc, lcL, wipeC, cWalk, dWalk, cNever, cSetTp, putAll, bLen, cFld, CS.fld, cProp, noExc, CS.clsOf, cCallS, dItems, cLenP, cIxP, CS.see, cApp, CS.pl, CS.wr, Pl.xs, dNeg, cSetIx, cStore, froz, cLst, cCutL, dCutL, cNoPart, cPart, dPart, CS.seqL, bList, M.opt, dIs, cZip, dZip, cIsiT, D.isNon, bStr] at h1) fun p hp => by
    obtain ⟨r, hr, rfl⟩ := List.mem_map.mp hp
    exact fun z => (rowT_asc (h.2.2 r hr) 124 z).2 rfl
  obtain ⟨d', eL⟩ := s_rdL rs [] .no (.val (.str (chT rs))) .no .no S (by simp [M.bind, M.ret, R.bind, cSeq, cRet, cVar, cOp, cAnd, cOr, cNot, cIf, cAndT, cOrT, cNotT, asB, cB, cNext, cIfS, cSet, CS.put, cChain, dLe, dLt, dGt, dGe, dI2, startC, outF, fnB, cIsi, CS.knOf, tyB, isKn, isTy, M.guard, cTru, dTru, liftF, cCall, cCons, cFor, forL, cEnum, dEnum, cTg, cLc, lcL, wipeC, cWalk, dWalk, cNever, cSetTp, putAll, bLen, cFld, CS.fld, cProp, noExc, CS.clsOf, cCallS, dItems, cLenP, cIxP, CS.see, cApp, CS.pl, CS.wr, Pl.xs, dNeg, cSetIx, cStore, froz, cLst, cCutL, dCutL, cNoPart, cPart, dPart, CS.seqL, bList, M.opt, dIs, cZip, dZip, cIsiT, D.isNon, bStr]; omega) h.2.2
  rw [List.nil_append] at eL
  have w := s_split (i := 1) (c := ⟨[.no, .val (.str (chT rs)), .no, .no], S⟩) (y := barS) rfl (by omega) (by rw [bar_len]; rfl) sp
  have eC : cLc (cWalk (froz (cSplit (cVar 1) (M.ret (.str barS))))) (.nm 3) (M.ret true) (cCall fn_read_row (cCons (cVar 3) (M.ret []))) [3] ⟨[.no, .val (.str (chT rs)), .no, .no], S⟩ = .ok (rs.map rowD) ⟨[.no, .val (.str (chT rs)), .no, d'], S⟩ := by
    unfold cLc
    rw [w]
    exact eL
  have g1 : cSet 2 (froz (cLc (cWalk (froz (cSplit (cVar 1) (M.ret (.str barS))))) (.nm 3) (M.ret true) (cCall fn_read_row (cCons (cVar 3) (M.ret []))) [3])) ⟨[.no, .val (.str (chT rs)), .no, .no], S⟩ = .ok .next ⟨[.no, .val (.str (chT rs)), .val (.lst (rs.map rowD)), d'], S⟩ := by
    show R.bind (R.bind (cLc _ _ _ _ _ _) _) _ = _
    rw [eC]
    rfl
  have hgt : ¬ (4 : Int) < (rs.length : Int) := by omega
  have g2 : cIfS (asB (cOp dGt ((cCons (cVar 2) (M.ret [])).bind bLen) (M.ret (.int 4)))) (cSeq cNever cNext) cNext ⟨[.no, .val (.str (chT rs)), .val (.lst (rs.map rowD)), d'], S⟩ = .ok .next ⟨[.no, .val (.str (chT rs)), .val (.lst (rs.map rowD)), d'], S⟩ := by
    simp [M.bind, M.ret, R.bind, cSeq, cRet, cVar, cOp, cAnd, cOr, cNot, cIf, cAndT, cOrT, cNotT, asB, cB, cNext, cIfS, cSet, CS.put, cChain, dLe, dLt, dGt, dGe, dI2, startC, outF, fnB, cIsi, CS.knOf, tyB, isKn, isTy, M.guard, cTru, dTru, liftF, cCall, cCons, cFor, forL, cEnum, dEnum, cTg, cLc, lcL, wipeC, cWalk, dWalk, cNever, cSetTp, putAll, bLen, cFld, CS.fld, cProp, noExc, CS.clsOf, cCallS, dItems, cLenP, cIxP, CS.see, cApp, CS.pl, CS.wr, Pl.xs, dNeg, cSetIx, cStore, froz, cLst, cCutL, dCutL, cNoPart, cPart, dPart, CS.seqL, bList, M.opt, dIs, cZip, dZip, cIsiT, D.isNon, bStr, hgt] at zl ⊢
    try simp [M.bind, M.ret, R.bind, cSeq, cRet, cVar, cOp, cAnd, cOr, cNot, cIf, cAndT, cOrT, cNotT, asB, cB, cNext, cIfS, cSet, CS.put, cChain, dLe, dLt, dGt, dGe, dI2, startC, outF, fnB, cIsi, CS.knOf, tyB, isKn, isTy, M.guard, cTru, dTru, liftF, cCall, cCons, cFor, forL, cEnum, dEnum, cTg, cLc, lcL, wipeC, cWalk, dWalk, cNever, cSetTp, putAll, bLen, cFld, CS.fld, cProp, noExc, CS.clsOf, cCallS, dItems, cLenP, cIxP, CS.see, cApp, CS.pl, CS.wr, Pl.xs, dNeg, cSetIx, cStore, froz, cLst, cCutL, dCutL, cNoPart, cPart, dPart, CS.seqL, bList, M.opt, dIs, cZip, dZip, cIsiT, D.isNon, bStr, zl, hgt]
  have e := s_make rs S h
  have g3 : cRet (cCallS fn_Chain__init (cVar 2)) ⟨[.no, .val (.str (chT rs)), .val (.lst (rs.map rowD)), d'], S⟩ = .ok (.ret (chD rs)) ⟨[.no, .val (.str (chT rs)), .val (.lst (rs.map rowD)), d'], S⟩ := by
    simp [M.bind, M.ret, R.bind, cSeq, cRet, cVar, cOp, cAnd, cOr, cNot, cIf, cAndT, cOrT, cNotT, asB, cB, cNext, cIfS, cSet, CS.put, cChain, dLe, dLt, dGt, dGe, dI2, startC, outF, fnB, cIsi, CS.knOf, tyB, isKn, isTy, M.guard, cTru, dTru, liftF, cCall, cCons, cFor, forL, cEnum, dEnum, cTg, cLc, lcL, wipeC, cWalk, dWalk, cNever, cSetTp, putAll, bLen, cFld, CS.fld, cProp, noExc, CS.clsOf, cCallS, dItems, cLenP, cIxP, CS.see, cApp, CS.pl, CS.wr, Pl.xs, dNeg, cSetIx, cStore, froz, cLst, cCutL, dCutL, cNoPart, cPart, dPart, CS.seqL, bList, M.opt, dIs, cZip, dZip, cIsiT, D.isNon, bStr, e]
  show outF (cSeq (cSet 2 (froz (cLc (cWalk (froz (cSplit (cVar 1) (M.ret (.str barS))))) (.nm 3) (M.ret true) (cCall fn_read_row (cCons (cVar 3) (M.ret []))) [3]))) (cSeq (cIfS (asB (cOp dGt ((cCons (cVar 2) (M.ret [])).bind bLen) (M.ret (.int 4)))) (cSeq cNever cNext) cNext) (cSeq (cRet (cCallS fn_Chain__init (cVar 2))) cNext)) ⟨[.no, .val (.str (chT rs)), .no, .no], S⟩) = _
  rw [cSeq_next g1, cSeq_next g2, cSeq_ret g3]
  rfl
end K02
namespace K02
open CL PySem
def pR : Str := PySem.Str.ofString "Chain("
def qR : Str := PySem.Str.ofString ")"
theorem chR_eq (rs : List (List Int)) : chR rs = pR ++ chT rs ++ qR := by
  have e : Str.empty ++ pR = pR := by decide
  show Str.empty ++ pR ++ chT rs ++ qR = _
  rw [e]
theorem typed_ch (rs : List (List Int)) (c : CS) : c.typed (chD rs) = true := rfl
theorem neD (a b : List (List Int)) (c : CS) : dNeO 0 fn_Chain__eq dNe (chD a) (chD b) c = .ok (.bl (!decide (a = b))) c := by
  simp [M.bind, M.ret, R.bind, cSeq, cRet, cVar, cOp, cAnd, cOr, cNot, cIf, cAndT, cOrT, cNotT, asB, cB, cNext, cIfS, cSet, CS.put, cChain, dLe, dLt, dGt, dGe, dI2, startC, outF, fnB, cIsi, CS.knOf, tyB, isKn, isTy, M.guard, cTru, dTru, liftF, cCall, cCons, cFor, forL, cEnum, dEnum, cTg, cLc, lcL, wipeC, cWalk, dWalk, cNever, cSetTp, putAll, bLen, cFld, CS.fld, cProp, noExc, CS.clsOf, cCallS, dItems, cLenP, cIxP, CS.see, cApp, CS.pl, CS.wr, Pl.xs, dNeg, cSetIx, cStore, froz, cLst, cCutL, dCutL, cNoPart, cPart, dPart, CS.seqL, bList, M.opt, dIs, cZip, dZip, cIsiT, D.isNon, bStr, dNeO, has_ch, typed_ch, s_eq, negB]
theorem strD (rs : List (List Int)) (h : ChOk rs) (c : CS) : dStrO 0 fn_Chain__str (chD rs) c = .ok (.str (chT rs)) c := by
  simp [M.bind, M.ret, R.bind, cSeq, cRet, cVar, cOp, cAnd, cOr, cNot, cIf, cAndT, cOrT, cNotT, asB, cB, cNext, cIfS, cSet, CS.put, cChain, dLe, dLt, dGt, dGe, dI2, startC, outF, fnB, cIsi, CS.knOf, tyB, isKn, isTy, M.guard, cTru, dTru, liftF, cCall, cCons, cFor, forL, cEnum, dEnum, cTg, cLc, lcL, wipeC, cWalk, dWalk, cNever, cSetTp, putAll, bLen, cFld, CS.fld, cProp, noExc, CS.clsOf, cCallS, dItems, cLenP, cIxP, CS.see, cApp, CS.pl, CS.wr, Pl.xs, dNeg, cSetIx, cStore, froz, cLst, cCutL, dCutL, cNoPart, cPart, dPart, CS.seqL, bList, M.opt, dIs, cZip, dZip, cIsiT, D.isNon, bStr, dStrO, has_ch, s_str rs _ h, strOnly]
theorem reprD (rs : List (List Int)) (h : ChOk rs) (c : CS) : dReprO 0 fn_Chain__repr (chD rs) c = .ok (.str (pR ++ chT rs ++ qR)) c := by
  simp [M.bind, M.ret, R.bind, cSeq, cRet, cVar, cOp, cAnd, cOr, cNot, cIf, cAndT, cOrT, cNotT, asB, cB, cNext, cIfS, cSet, CS.put, cChain, dLe, dLt, dGt, dGe, dI2, startC, outF, fnB, cIsi, CS.knOf, tyB, isKn, isTy, M.guard, cTru, dTru, liftF, cCall, cCons, cFor, forL, cEnum, dEnum, cTg, cLc, lcL, wipeC, cWalk, dWalk, cNever, cSetTp, putAll, bLen, cFld, CS.fld, cProp, noExc, CS.clsOf, cCallS, dItems, cLenP, cIxP, CS.see, cApp, CS.pl, CS.wr, Pl.xs, dNeg, cSetIx, cStore, froz, cLst, cCutL, dCutL, cNoPart, cPart, dPart, CS.seqL, bList, M.opt, dIs, cZip, dZip, cIsiT, D.isNon, bStr, dReprO, has_ch, s_repr rs _ h, strOnly, chR_eq]
theorem neS (x : Str) (h : SeqAt.shaped (.str x) = true) (c : CS) : dNeO 0 fn_Chain__eq dNe (.str x) (.str x) c = .ok (.bl false) c := by
  have e := dN_str x x c h h
  simp [M.bind, M.ret, R.bind, cSeq, cRet, cVar, cOp, cAnd, cOr, cNot, cIf, cAndT, cOrT, cNotT, asB, cB, cNext, cIfS, cSet, CS.put, cChain, dLe, dLt, dGt, dGe, dI2, startC, outF, fnB, cIsi, CS.knOf, tyB, isKn, isTy, M.guard, cTru, dTru, liftF, cCall, cCons, cFor, forL, cEnum, dEnum, cTg, cLc, lcL, wipeC, cWalk, dWalk, cNever, cSetTp, putAll, bLen, cFld, CS.fld, cProp, noExc, CS.clsOf, cCallS, dItems, cLenP, cIxP, CS.see, cApp, CS.pl, CS.wr, Pl.xs, dNeg, cSetIx, cStore, froz, cLst, cCutL, dCutL, cNoPart, cPart, dPart, CS.seqL, bList, M.opt, dIs, cZip, dZip, cIsiT, D.isNon, bStr] at e
  have hs : c.has 0 "__eq__" (.str x) = false := rfl
  simp [M.bind, M.ret, R.bind, cSeq, cRet, cVar, cOp, cAnd, cOr, cNot, cIf, cAndT, cOrT, cNotT, asB, cB, cNext, cIfS, cSet, CS.put, cChain, dLe, dLt, dGt, dGe, dI2, startC, outF, fnB, cIsi, CS.knOf, tyB, isKn, isTy, M.guard, cTru, dTru, liftF, cCall, cCons, cFor, forL, cEnum, dEnum, cTg, cLc, lcL, wipeC, cWalk, dWalk, cNever, cSetTp, putAll, bLen, cFld, CS.fld, cProp, noExc, CS.clsOf, cCallS, dItems, cLenP, cIxP, CS.see, cApp, CS.pl, CS.wr, Pl.xs, dNeg, cSetIx, cStore, froz, cLst, cCutL, dCutL, cNoPart, cPart, dPart, CS.seqL, bList, M.opt, dIs, cZip, dZip, cIsiT, D.isNon, bStr, dNeO, hs, e]
def K1 : M Bool := (cNotT (cTru (cCall (fn_law_same 4) (cCons (froz (cLst (cCons ((cVar 4).bind (dStrO 0 fn_Chain__str)) (cCons ((cVar 4).bind (dReprO 0 fn_Chain__repr)) (M.ret []))))) (cCons (froz (cLst (cCons (cVar 5) (cCons (cOp dAdd (cOp dAdd (M.ret (.str pR)) (cVar 5)) (M.ret (.str qR))) (M.ret []))))) (M.ret []))))))
def K2 : M Bool := (cOrT (asB (cOp (dNeO 0 fn_Chain__eq dNe) (cVar 7) (cVar 4))) (cOrT (cNotT (cTru (cCall (fn_law_same 4) (cCons (cProp 0 "segments" fn_Chain_segments (cVar 7)) (cCons ((cCons (cVar 3) (M.ret [])).bind bTuple) (M.ret [])))))) (asB (cOp (dNeO 0 fn_Chain__eq dNe) ((cVar 7).bind (dStrO 0 fn_Chain__str)) (cVar 5)))))
section
variable (a0 a1 a2 a6 a7 : Sl) (S : List O) (rs : List (List Int)) (h : ChOk rs)
include h
theorem s_K1 (d : D) : K1 ⟨[a0, a1, a2, .val (.lst (rs.map rowD)), .val (chD rs), .val (.str (chT rs)), a6, a7], S⟩ = .ok false ⟨[a0, a1, a2, .val (.lst (rs.map rowD)), .val (chD rs), .val (.str (chT rs)), a6, a7], S⟩ := by
  have st := fun c => strD rs h c
  have rp := fun c => reprD rs h c
  have l := chT_len h
  have l1 : pR.length = 6 := by decide
  have l2 : qR.length = 1 := by decide
  have z1 : szOk (pR.length + (chT rs).length) = true := szOk_small (by omega)
  have z2 : szOk ((pR ++ chT rs).length + qR.length) = true := szOk_small (by rw [app_len]; omega)
  have zz : szOk 2 = true := szOk_small (by omega)
  have asc : Asc (pR ++ chT rs ++ qR) := asc_app (asc_app (by unfold Asc; decide) (chT_asc h)) (by unfold Asc; decide)
  have e := s_same 3 (.lst [.str (chT rs), .str (pR ++ chT rs ++ qR)]) S ⟨by simp [M.bind, M.ret, R.bind, cSeq, cRet, cVar, cOp, cAnd, cOr, cNot, cIf, cAndT, cOrT, cNotT, asB, cB, cNext, cIfS, cSet, CS.put, cChain, dLe, dLt, dGt, dGe, dI2, startC, outF, fnB, cIsi, CS.knOf, tyB, isKn, isTy, M.guard, cTru, dTru, liftF, cCall, cCons, cFor, forL, cEnum, dEnum, cTg, cLc, lcL, wipeC, cWalk, dWalk, cNever, cSetTp, putAll, bLen, cFld, CS.fld, cProp, noExc, CS.clsOf, cCallS, dItems, cLenP, cIxP, CS.see, cApp, CS.pl, CS.wr, Pl.xs, dNeg, cSetIx, cStore, froz, cLst, cCutL, dCutL, cNoPart, cPart, dPart, CS.seqL, bList, M.opt, dIs, cZip, dZip, cIsiT, D.isNon, bStr], fun x hx => by
    simp [M.bind, M.ret, R.bind, cSeq, cRet, cVar, cOp, cAnd, cOr, cNot, cIf, cAndT, cOrT, cNotT, asB, cB, cNext, cIfS, cSet, CS.put, cChain, dLe, dLt, dGt, dGe, dI2, startC, outF, fnB, cIsi, CS.knOf, tyB, isKn, isTy, M.guard, cTru, dTru, liftF, cCall, cCons, cFor, forL, cEnum, dEnum, cTg, cLc, lcL, wipeC, cWalk, dWalk, cNever, cSetTp, putAll, bLen, cFld, CS.fld, cProp, noExc, CS.clsOf, cCallS, dItems, cLenP, cIxP, CS.see, cApp, CS.pl, CS.wr, Pl.xs, dNeg, cSetIx, cStore, froz, cLst, cCutL, dCutL, cNoPart, cPart, dPart, CS.seqL, bList, M.opt, dIs, cZip, dZip, cIsiT, D.isNon, bStr] at hx
    rcases hx with hx | hx
    · subst hx; exact shp_asc (chT_asc h)
    · subst hx; exact shp_asc asc⟩
  simp [M.bind, M.ret, R.bind, cSeq, cRet, cVar, cOp, cAnd, cOr, cNot, cIf, cAndT, cOrT, cNotT, asB, cB, cNext, cIfS, cSet, CS.put, cChain, dLe, dLt, dGt, dGe, dI2, startC, outF, fnB, cIsi, CS.knOf, tyB, isKn, isTy, M.guard, cTru, dTru, liftF, cCall, cCons, cFor, forL, cEnum, dEnum, cTg, cLc, lcL, wipeC, cWalk, dWalk, cNever, cSetTp, putAll, bLen, cFld, CS.fld, cProp, noExc, CS.clsOf, cCallS, dItems, cLenP, cIxP, CS.see, cApp, CS.pl, CS.wr, Pl.xs, dNeg, cSetIx, cStore, froz, cLst, cCutL, dCutL, cNoPart, cPart, dPart, CS.seqL, bList, M.opt, dIs, cZip, dZip, cIsiT, D.isNon, bStr, K1, st, rp, dAdd, z1, z2, zz, e]
theorem s_K2 (d : D) : K2 ⟨[a0, a1, a2, .val (.lst (rs.map rowD)), .val (chD rs), .val (.str (chT rs)), a6, .val (chD rs)], S⟩ = .ok false ⟨[a0, a1, a2, .val (.lst (rs.map rowD)), .val (chD rs), .val (.str (chT rs)), a6, .val (chD rs)], S⟩ := by
  have st := fun c => strD rs h c
  have ne := fun c => neD rs rs c
  have ns := fun c => neS (chT rs) (shp_asc (chT_asc h)) c
  have h4 := h.2.1
  have e := s_same 3 (.tup (rs.map rowD)) S ⟨by simp [M.bind, M.ret, R.bind, cSeq, cRet, cVar, cOp, cAnd, cOr, cNot, cIf, cAndT, cOrT, cNotT, asB, cB, cNext, cIfS, cSet, CS.put, cChain, dLe, dLt, dGt, dGe, dI2, startC, outF, fnB, cIsi, CS.knOf, tyB, isKn, isTy, M.guard, cTru, dTru, liftF, cCall, cCons, cFor, forL, cEnum, dEnum, cTg, cLc, lcL, wipeC, cWalk, dWalk, cNever, cSetTp, putAll, bLen, cFld, CS.fld, cProp, noExc, CS.clsOf, cCallS, dItems, cLenP, cIxP, CS.see, cApp, CS.pl, CS.wr, Pl.xs, dNeg, cSetIx, cStore, froz, cLst, cCutL, dCutL, cNoPart, cPart, dPart, CS.seqL, bList, M.opt, dIs, cZip, dZip, cIsiT, D.isNon, bStr]; omega, fun x hx => by
    obtain ⟨r, hr, rfl⟩ := List.mem_map.mp hx
    have hl := (h.2.2 r hr).1
    refine ⟨by simp [M.bind, M.ret, R.bind, cSeq, cRet, cVar, cOp, cAnd, cOr, cNot, cIf, cAndT, cOrT, cNotT, asB, cB, cNext, cIfS, cSet, CS.put, cChain, dLe, dLt, dGt, dGe, dI2, startC, outF, fnB, cIsi, CS.knOf, tyB, isKn, isTy, M.guard, cTru, dTru, liftF, cCall, cCons, cFor, forL, cEnum, dEnum, cTg, cLc, lcL, wipeC, cWalk, dWalk, cNever, cSetTp, putAll, bLen, cFld, CS.fld, cProp, noExc, CS.clsOf, cCallS, dItems, cLenP, cIxP, CS.see, cApp, CS.pl, CS.wr, Pl.xs, dNeg, cSetIx, cStore, froz, cLst, cCutL, dCutL, cNoPart, cPart, dPart, CS.seqL, bList, M.opt, dIs, cZip, dZip, cIsiT, D.isNon, bStr]; omega, fun y hy => ?_⟩
    obtain ⟨i, _, rfl⟩ := List.mem_map.mp hy
    exact trivial⟩
  simp [M.bind, M.ret, R.bind, cSeq, cRet, cVar, cOp, cAnd, cOr, cNot, cIf, cAndT, cOrT, cNotT, asB, cB, cNext, cIfS, cSet, CS.put, cChain, dLe, dLt, dGt, dGe, dI2, startC, outF, fnB, cIsi, CS.knOf, tyB, isKn, isTy, M.guard, cTru, dTru, liftF, cCall, cCons, cFor, forL, cEnum, dEnum, cTg, cLc, lcL, wipeC, cWalk, dWalk, cNever, cSetTp, putAll, bLen, cFld, CS.fld, cProp, noExc, CS.clsOf, cCallS, dItems, cLenP, cIxP, CS.see, cApp, CS.pl, CS.wr, Pl.xs, dNeg, cSetIx, cStore, froz, cLst, cCutL, dCutL, cNoPart, cPart, dPart, CS.seqL, bList, M.opt, dIs, cZip, dZip, cIsiT, D.isNon, bStr] at ne
  have bt : ∀ c, bTuple [.lst (rs.map rowD)] c = .ok (.tup (rs.map rowD)) c := fun c => rfl
  simp [M.bind, M.ret, R.bind, cSeq, cRet, cVar, cOp, cAnd, cOr, cNot, cIf, cAndT, cOrT, cNotT, asB, cB, cNext, cIfS, cSet, CS.put, cChain, dLe, dLt, dGt, dGe, dI2, startC, outF, fnB, cIsi, CS.knOf, tyB, isKn, isTy, M.guard, cTru, dTru, liftF, cCall, cCons, cFor, forL, cEnum, dEnum, cTg, cLc, lcL, wipeC, cWalk, dWalk, cNever, cSetTp, putAll, bLen, cFld, CS.fld, cProp, noExc, CS.clsOf, cCallS, dItems, cLenP, cIxP, CS.see, cApp, CS.pl, CS.wr, Pl.xs, dNeg, cSetIx, cStore, froz, cLst, cCutL, dCutL, cNoPart, cPart, dPart, CS.seqL, bList, M.opt, dIs, cZip, dZip, cIsiT, D.isNon, bStr, K2, st, ne, ns, e, has_ch, s_seg, bt]
end
end K02
namespace K02
open CL PySem
def RF : M Fl := cSeq (cRet (M.ret (.bl false))) cNext
def B1 : M Fl := cSet 3 (cCall fn_law_rows (cCons (cVar 1) (cCons (M.ret (.int 4)) (cCons (M.ret (.int 12)) (cCons (M.ret (.int 12)) (M.ret []))))))
def B2 : M Fl := cPar 4 5 (cCons (cCall fn_law_made (cCons (cVar 3) (M.ret []))) (cCons (cCall fn_law_text (cCons (cVar 3) (M.ret []))) (M.ret [])))
def B3i : M Fl := cSeq (cIfS K1 RF cNext) cNext
def B3 : M Fl := cFor (cRange1 (M.ret (.int 2))) (.nm 6) B3i
def B4 : M Fl := cSet 7 (cCall fn_Chain_read (cCons (cVar 5) (M.ret [])))
def BB : M Fl := cSeq B1 (cSeq B2 (cSeq B3 (cSeq B4 (cSeq (cIfS K2 RF cNext) cNext))))
theorem iff_ {t : M Bool} {f : M Fl} {c : CS} (z : t c = .ok false c) : cIfS t f cNext c = .ok .next c := by
  unfold cIfS
  rw [z]
  rfl
theorem s_again (a0 a1 a2 a7 : Sl) (S : List O) (rs : List (List Int)) (h : ChOk rs) (ds : List D) : ∀ a6 : Sl, ∃ b6, forL (fun d => cSeq (cTg (.nm 6) d) B3i) ds ⟨[a0, a1, a2, .val (.lst (rs.map rowD)), .val (chD rs), .val (.str (chT rs)), a6, a7], S⟩ = .ok .next ⟨[a0, a1, a2, .val (.lst (rs.map rowD)), .val (chD rs), .val (.str (chT rs)), b6, a7], S⟩ := by
  induction ds with
  | nil => exact fun a6 => ⟨a6, rfl⟩
  | cons d ds ih =>
    intro a6
    obtain ⟨b6, e⟩ := ih (.val d)
    refine ⟨b6, ?_⟩
    have tg : cTg (.nm 6) d ⟨[a0, a1, a2, .val (.lst (rs.map rowD)), .val (chD rs), .val (.str (chT rs)), a6, a7], S⟩ = .ok .next ⟨[a0, a1, a2, .val (.lst (rs.map rowD)), .val (chD rs), .val (.str (chT rs)), .val d, a7], S⟩ := rfl
    have st : cSeq (cTg (.nm 6) d) B3i ⟨[a0, a1, a2, .val (.lst (rs.map rowD)), .val (chD rs), .val (.str (chT rs)), a6, a7], S⟩ = .ok .next ⟨[a0, a1, a2, .val (.lst (rs.map rowD)), .val (chD rs), .val (.str (chT rs)), .val d, a7], S⟩ := by
      rw [cSeq_next tg]
      unfold B3i
      rw [cSeq_next (iff_ (s_K1 a0 a1 a2 (.val d) a7 S rs h .non))]
      rfl
    unfold forL
    rw [st]
    exact e
theorem s_turn (a0 : Sl) (d : D) (x2 x3 x4 x5 x6 x7 : Sl) (S : List O) (hS : TapeOk S) :
    ∃ (y2 y3 y4 y5 y6 y7 : Sl) (S' : List O), cSeq (cTg (.nm 2) d) BB ⟨[a0, .val (.ref 0), x2, x3, x4, x5, x6, x7], S⟩ = .ok .next ⟨[a0, .val (.ref 0), y2, y3, y4, y5, y6, y7], S'⟩ ∧ TapeOk S' := by
  obtain ⟨rs, S1, e1, hS1, h⟩ := s_rows 4 12 12 S (by omega) (by omega) (by omega) (by omega) (by omega) (by omega) hS
  have tg : cTg (.nm 2) d ⟨[a0, .val (.ref 0), x2, x3, x4, x5, x6, x7], S⟩ = .ok .next ⟨[a0, .val (.ref 0), .val d, x3, x4, x5, x6, x7], S⟩ := rfl
  have g1 : B1 ⟨[a0, .val (.ref 0), .val d, x3, x4, x5, x6, x7], S⟩ = .ok .next ⟨[a0, .val (.ref 0), .val d, .val (.lst (rs.map rowD)), x4, x5, x6, x7], S1⟩ := by
    simp [M.bind, M.ret, R.bind, cSeq, cRet, cVar, cOp, cAnd, cOr, cNot, cIf, cAndT, cOrT, cNotT, asB, cB, cNext, cIfS, cSet, CS.put, cChain, dLe, dLt, dGt, dGe, dI2, startC, outF, fnB, cIsi, CS.knOf, tyB, isKn, isTy, M.guard, cTru, dTru, liftF, cCall, cCons, cFor, forL, cEnum, dEnum, cTg, cLc, lcL, wipeC, cWalk, dWalk, cNever, cSetTp, putAll, bLen, cFld, CS.fld, cProp, noExc, CS.clsOf, cCallS, dItems, cLenP, cIxP, CS.see, cApp, CS.pl, CS.wr, Pl.xs, dNeg, cSetIx, cStore, froz, cLst, cCutL, dCutL, cNoPart, cPart, dPart, CS.seqL, bList, M.opt, dIs, cZip, dZip, cIsiT, D.isNon, bStr, B1, e1]
  have em := s_madeX rs S1 h
  have et := s_ltext rs S1 h
  have g2 : B2 ⟨[a0, .val (.ref 0), .val d, .val (.lst (rs.map rowD)), x4, x5, x6, x7], S1⟩ = .ok .next ⟨[a0, .val (.ref 0), .val d, .val (.lst (rs.map rowD)), .val (chD rs), .val (.str (chT rs)), x6, x7], S1⟩ := by
    simp [M.bind, M.ret, R.bind, cSeq, cRet, cVar, cOp, cAnd, cOr, cNot, cIf, cAndT, cOrT, cNotT, asB, cB, cNext, cIfS, cSet, CS.put, cChain, dLe, dLt, dGt, dGe, dI2, startC, outF, fnB, cIsi, CS.knOf, tyB, isKn, isTy, M.guard, cTru, dTru, liftF, cCall, cCons, cFor, forL, cEnum, dEnum, cTg, cLc, lcL, wipeC, cWalk, dWalk, cNever, cSetTp, putAll, bLen, cFld, CS.fld, cProp, noExc, CS.clsOf, cCallS, dItems, cLenP, cIxP, CS.see, cApp, CS.pl, CS.wr, Pl.xs, dNeg, cSetIx, cStore, froz, cLst, cCutL, dCutL, cNoPart, cPart, dPart, CS.seqL, bList, M.opt, dIs, cZip, dZip, cIsiT, D.isNon, bStr, B2, cPar, em, et]
  obtain ⟨y6, e3⟩ := s_again a0 (.val (.ref 0)) (.val d) x7 S1 rs h (rangeD 0 2) x6
  have g3 : B3 ⟨[a0, .val (.ref 0), .val d, .val (.lst (rs.map rowD)), .val (chD rs), .val (.str (chT rs)), x6, x7], S1⟩ = .ok .next ⟨[a0, .val (.ref 0), .val d, .val (.lst (rs.map rowD)), .val (chD rs), .val (.str (chT rs)), y6, x7], S1⟩ := e3
  have er := s_read rs S1 h
  have g4 : B4 ⟨[a0, .val (.ref 0), .val d, .val (.lst (rs.map rowD)), .val (chD rs), .val (.str (chT rs)), y6, x7], S1⟩ = .ok .next ⟨[a0, .val (.ref 0), .val d, .val (.lst (rs.map rowD)), .val (chD rs), .val (.str (chT rs)), y6, .val (chD rs)], S1⟩ := by
    simp [M.bind, M.ret, R.bind, cSeq, cRet, cVar, cOp, cAnd, cOr, cNot, cIf, cAndT, cOrT, cNotT, asB, cB, cNext, cIfS, cSet, CS.put, cChain, dLe, dLt, dGt, dGe, dI2, startC, outF, fnB, cIsi, CS.knOf, tyB, isKn, isTy, M.guard, cTru, dTru, liftF, cCall, cCons, cFor, forL, cEnum, dEnum, cTg, cLc, lcL, wipeC, cWalk, dWalk, cNever, cSetTp, putAll, bLen, cFld, CS.fld, cProp, noExc, CS.clsOf, cCallS, dItems, cLenP, cIxP, CS.see, cApp, CS.pl, CS.wr, Pl.xs, dNeg, cSetIx, cStore, froz, cLst, cCutL, dCutL, cNoPart, cPart, dPart, CS.seqL, bList, M.opt, dIs, cZip, dZip, cIsiT, D.isNon, bStr, B4, er]
  refine ⟨.val d, .val (.lst (rs.map rowD)), .val (chD rs), .val (.str (chT rs)), y6, .val (chD rs), S1, ?_, hS1⟩
  rw [cSeq_next tg]
  unfold BB
  rw [cSeq_next g1, cSeq_next g2, cSeq_next g3, cSeq_next g4, cSeq_next (iff_ (s_K2 a0 (.val (.ref 0)) (.val d) y6 S1 rs h .non))]
  rfl
theorem s_turns (a0 : Sl) (ds : List D) : ∀ (x2 x3 x4 x5 x6 x7 : Sl) (S : List O), TapeOk S → ∃ c', forL (fun d => cSeq (cTg (.nm 2) d) BB) ds ⟨[a0, .val (.ref 0), x2, x3, x4, x5, x6, x7], S⟩ = .ok .next c' := by
  induction ds with
  | nil => intro x2 x3 x4 x5 x6 x7 S _; exact ⟨_, rfl⟩
  | cons d ds ih =>
    intro x2 x3 x4 x5 x6 x7 S hS
    obtain ⟨y2, y3, y4, y5, y6, y7, S', e, hS'⟩ := s_turn a0 d x2 x3 x4 x5 x6 x7 S hS
    obtain ⟨c', e2⟩ := ih y2 y3 y4 y5 y6 y7 S' hS'
    refine ⟨c', ?_⟩
    unfold forL
    rw [e]
    exact e2
def two : Str := PySem.Str.ofString "- | 12 1"
theorem chOk_e : ChOk [[]] := ⟨by simp [M.bind, M.ret, R.bind, cSeq, cRet, cVar, cOp, cAnd, cOr, cNot, cIf, cAndT, cOrT, cNotT, asB, cB, cNext, cIfS, cSet, CS.put, cChain, dLe, dLt, dGt, dGe, dI2, startC, outF, fnB, cIsi, CS.knOf, tyB, isKn, isTy, M.guard, cTru, dTru, liftF, cCall, cCons, cFor, forL, cEnum, dEnum, cTg, cLc, lcL, wipeC, cWalk, dWalk, cNever, cSetTp, putAll, bLen, cFld, CS.fld, cProp, noExc, CS.clsOf, cCallS, dItems, cLenP, cIxP, CS.see, cApp, CS.pl, CS.wr, Pl.xs, dNeg, cSetIx, cStore, froz, cLst, cCutL, dCutL, cNoPart, cPart, dPart, CS.seqL, bList, M.opt, dIs, cZip, dZip, cIsiT, D.isNon, bStr], by simp [M.bind, M.ret, R.bind, cSeq, cRet, cVar, cOp, cAnd, cOr, cNot, cIf, cAndT, cOrT, cNotT, asB, cB, cNext, cIfS, cSet, CS.put, cChain, dLe, dLt, dGt, dGe, dI2, startC, outF, fnB, cIsi, CS.knOf, tyB, isKn, isTy, M.guard, cTru, dTru, liftF, cCall, cCons, cFor, forL, cEnum, dEnum, cTg, cLc, lcL, wipeC, cWalk, dWalk, cNever, cSetTp, putAll, bLen, cFld, CS.fld, cProp, noExc, CS.clsOf, cCallS, dItems, cLenP, cIxP, CS.see, cApp, CS.pl, CS.wr, Pl.xs, dNeg, cSetIx, cStore, froz, cLst, cCutL, dCutL, cNoPart, cPart, dPart, CS.seqL, bList, M.opt, dIs, cZip, dZip, cIsiT, D.isNon, bStr], fun r hr => by
  simp [M.bind, M.ret, R.bind, cSeq, cRet, cVar, cOp, cAnd, cOr, cNot, cIf, cAndT, cOrT, cNotT, asB, cB, cNext, cIfS, cSet, CS.put, cChain, dLe, dLt, dGt, dGe, dI2, startC, outF, fnB, cIsi, CS.knOf, tyB, isKn, isTy, M.guard, cTru, dTru, liftF, cCall, cCons, cFor, forL, cEnum, dEnum, cTg, cLc, lcL, wipeC, cWalk, dWalk, cNever, cSetTp, putAll, bLen, cFld, CS.fld, cProp, noExc, CS.clsOf, cCallS, dItems, cLenP, cIxP, CS.see, cApp, CS.pl, CS.wr, Pl.xs, dNeg, cSetIx, cStore, froz, cLst, cCutL, dCutL, cNoPart, cPart, dPart, CS.seqL, bList, M.opt, dIs, cZip, dZip, cIsiT, D.isNon, bStr] at hr
  subst hr
  exact ⟨by simp [M.bind, M.ret, R.bind, cSeq, cRet, cVar, cOp, cAnd, cOr, cNot, cIf, cAndT, cOrT, cNotT, asB, cB, cNext, cIfS, cSet, CS.put, cChain, dLe, dLt, dGt, dGe, dI2, startC, outF, fnB, cIsi, CS.knOf, tyB, isKn, isTy, M.guard, cTru, dTru, liftF, cCall, cCons, cFor, forL, cEnum, dEnum, cTg, cLc, lcL, wipeC, cWalk, dWalk, cNever, cSetTp, putAll, bLen, cFld, CS.fld, cProp, noExc, CS.clsOf, cCallS, dItems, cLenP, cIxP, CS.see, cApp, CS.pl, CS.wr, Pl.xs, dNeg, cSetIx, cStore, froz, cLst, cCutL, dCutL, cNoPart, cPart, dPart, CS.seqL, bList, M.opt, dIs, cZip, dZip, cIsiT, D.isNon, bStr], fun x hx => by simp [M.bind, M.ret, R.bind, cSeq, cRet, cVar, cOp, cAnd, cOr, cNot, cIf, cAndT, cOrT, cNotT, asB, cB, cNext, cIfS, cSet, CS.put, cChain, dLe, dLt, dGt, dGe, dI2, startC, outF, fnB, cIsi, CS.knOf, tyB, isKn, isTy, M.guard, cTru, dTru, liftF, cCall, cCons, cFor, forL, cEnum, dEnum, cTg, cLc, lcL, wipeC, cWalk, dWalk, cNever, cSetTp, putAll, bLen, cFld, CS.fld, cProp, noExc, CS.clsOf, cCallS, dItems, cLenP, cIxP, CS.see, cApp, CS.pl, CS.wr, Pl.xs, dNeg, cSetIx, cStore, froz, cLst, cCutL, dCutL, cNoPart, cPart, dPart, CS.seqL, bList, M.opt, dIs, cZip, dZip, cIsiT, D.isNon, bStr] at hx⟩⟩
theorem chOk_t : ChOk [[], [12, 1]] := ⟨by simp [M.bind, M.ret, R.bind, cSeq, cRet, cVar, cOp, cAnd, cOr, cNot, cIf, cAndT, cOrT, cNotT, asB, cB, cNext, cIfS, cSet, CS.put, cChain, dLe, dLt, dGt, dGe, dI2, startC, outF, fnB, cIsi, CS.knOf, tyB, isKn, isTy, M.guard, cTru, dTru, liftF, cCall, cCons, cFor, forL, cEnum, dEnum, cTg, cLc, lcL, wipeC, cWalk, dWalk, cNever, cSetTp, putAll, bLen, cFld, CS.fld, cProp, noExc, CS.clsOf, cCallS, dItems, cLenP, cIxP, CS.see, cApp, CS.pl, CS.wr, Pl.xs, dNeg, cSetIx, cStore, froz, cLst, cCutL, dCutL, cNoPart, cPart, dPart, CS.seqL, bList, M.opt, dIs, cZip, dZip, cIsiT, D.isNon, bStr], by simp [M.bind, M.ret, R.bind, cSeq, cRet, cVar, cOp, cAnd, cOr, cNot, cIf, cAndT, cOrT, cNotT, asB, cB, cNext, cIfS, cSet, CS.put, cChain, dLe, dLt, dGt, dGe, dI2, startC, outF, fnB, cIsi, CS.knOf, tyB, isKn, isTy, M.guard, cTru, dTru, liftF, cCall, cCons, cFor, forL, cEnum, dEnum, cTg, cLc, lcL, wipeC, cWalk, dWalk, cNever, cSetTp, putAll, bLen, cFld, CS.fld, cProp, noExc, CS.clsOf, cCallS, dItems, cLenP, cIxP, CS.see, cApp, CS.pl, CS.wr, Pl.xs, dNeg, cSetIx, cStore, froz, cLst, cCutL, dCutL, cNoPart, cPart, dPart, CS.seqL, bList, M.opt, dIs, cZip, dZip, cIsiT, D.isNon, bStr], fun r hr => by
  simp [M.bind, M.ret, R.bind, cSeq, cRet, cVar, cOp, cAnd, cOr, cNot, cIf, cAndT, cOrT, cNotT, asB, cB, cNext, cIfS, cSet, CS.put, cChain, dLe, dLt, dGt, dGe, dI2, startC, outF, fnB, cIsi, CS.knOf, tyB, isKn, isTy, M.guard, cTru, dTru, liftF, cCall, cCons, cFor, forL, cEnum, dEnum, cTg, cLc, lcL, wipeC, cWalk, dWalk, cNever, cSetTp, putAll, bLen, cFld, CS.fld, cProp, noExc, CS.clsOf, cCallS, dItems, cLenP, cIxP, CS.see, cApp, CS.pl, CS.wr, Pl.xs, dNeg, cSetIx, cStore, froz, cLst, cCutL, dCutL, cNoPart, cPart, dPart, CS.seqL, bList, M.opt, dIs, cZip, dZip, cIsiT, D.isNon, bStr] at hr
  rcases hr with hr | hr
  · subst hr; exact ⟨by simp [M.bind, M.ret, R.bind, cSeq, cRet, cVar, cOp, cAnd, cOr, cNot, cIf, cAndT, cOrT, cNotT, asB, cB, cNext, cIfS, cSet, CS.put, cChain, dLe, dLt, dGt, dGe, dI2, startC, outF, fnB, cIsi, CS.knOf, tyB, isKn, isTy, M.guard, cTru, dTru, liftF, cCall, cCons, cFor, forL, cEnum, dEnum, cTg, cLc, lcL, wipeC, cWalk, dWalk, cNever, cSetTp, putAll, bLen, cFld, CS.fld, cProp, noExc, CS.clsOf, cCallS, dItems, cLenP, cIxP, CS.see, cApp, CS.pl, CS.wr, Pl.xs, dNeg, cSetIx, cStore, froz, cLst, cCutL, dCutL, cNoPart, cPart, dPart, CS.seqL, bList, M.opt, dIs, cZip, dZip, cIsiT, D.isNon, bStr], fun x hx => by simp [M.bind, M.ret, R.bind, cSeq, cRet, cVar, cOp, cAnd, cOr, cNot, cIf, cAndT, cOrT, cNotT, asB, cB, cNext, cIfS, cSet, CS.put, cChain, dLe, dLt, dGt, dGe, dI2, startC, outF, fnB, cIsi, CS.knOf, tyB, isKn, isTy, M.guard, cTru, dTru, liftF, cCall, cCons, cFor, forL, cEnum, dEnum, cTg, cLc, lcL, wipeC, cWalk, dWalk, cNever, cSetTp, putAll, bLen, cFld, CS.fld, cProp, noExc, CS.clsOf, cCallS, dItems, cLenP, cIxP, CS.see, cApp, CS.pl, CS.wr, Pl.xs, dNeg, cSetIx, cStore, froz, cLst, cCutL, dCutL, cNoPart, cPart, dPart, CS.seqL, bList, M.opt, dIs, cZip, dZip, cIsiT, D.isNon, bStr] at hx⟩
  · subst hr; exact ⟨by simp [M.bind, M.ret, R.bind, cSeq, cRet, cVar, cOp, cAnd, cOr, cNot, cIf, cAndT, cOrT, cNotT, asB, cB, cNext, cIfS, cSet, CS.put, cChain, dLe, dLt, dGt, dGe, dI2, startC, outF, fnB, cIsi, CS.knOf, tyB, isKn, isTy, M.guard, cTru, dTru, liftF, cCall, cCons, cFor, forL, cEnum, dEnum, cTg, cLc, lcL, wipeC, cWalk, dWalk, cNever, cSetTp, putAll, bLen, cFld, CS.fld, cProp, noExc, CS.clsOf, cCallS, dItems, cLenP, cIxP, CS.see, cApp, CS.pl, CS.wr, Pl.xs, dNeg, cSetIx, cStore, froz, cLst, cCutL, dCutL, cNoPart, cPart, dPart, CS.seqL, bList, M.opt, dIs, cZip, dZip, cIsiT, D.isNon, bStr], fun x hx => by simp [M.bind, M.ret, R.bind, cSeq, cRet, cVar, cOp, cAnd, cOr, cNot, cIf, cAndT, cOrT, cNotT, asB, cB, cNext, cIfS, cSet, CS.put, cChain, dLe, dLt, dGt, dGe, dI2, startC, outF, fnB, cIsi, CS.knOf, tyB, isKn, isTy, M.guard, cTru, dTru, liftF, cCall, cCons, cFor, forL, cEnum, dEnum, cTg, cLc, lcL, wipeC, cWalk, dWalk, cNever, cSetTp, putAll, bLen, cFld, CS.fld, cProp, noExc, CS.clsOf, cCallS, dItems, cLenP, cIxP, CS.see, cApp, CS.pl, CS.wr, Pl.xs, dNeg, cSetIx, cStore, froz, cLst, cCutL, dCutL, cNoPart, cPart, dPart, CS.seqL, bList, M.opt, dIs, cZip, dZip, cIsiT, D.isNon, bStr] at hx; omega⟩⟩
theorem chT_e : chT [[]] = dash := by decide
theorem chT_t : chT [[], [12, 1]] = two := by decide
def LE : M Fl := cRet (cAnd (cOp dEq ((cCall fn_Chain__init (cCons (cTup (M.ret [])) (M.ret []))).bind (dStrO 0 fn_Chain__str)) (M.ret (.str dash))) (cOp dEq ((cCall fn_Chain_read (cCons (M.ret (.str two)) (M.ret []))).bind (dStrO 0 fn_Chain__str)) (M.ret (.str two))))
theorem s_end (c : CS) : LE c = .ok (.ret (.bl true)) c := by
  have m : ∀ S, fn_Chain__init [.tup []] S = .ok (chD [[]]) S := fun S => s_make [[]] S chOk_e
  have r := fun S => s_read [[], [12, 1]] S chOk_t
  have s1 := fun c => strD [[]] chOk_e c
  have s2 := fun c => strD [[], [12, 1]] chOk_t c
  have e1 := fun c => dE_str dash dash c dash_shp dash_shp
  have ht : SeqAt.shaped (.str two) = true := by rw [← chT_t]; exact shp_asc (chT_asc chOk_t)
  have e2 := fun c => dE_str two two c ht ht
  rw [chT_e] at s1
  rw [chT_t] at s2
  simp [M.bind, M.ret, R.bind, cSeq, cRet, cVar, cOp, cAnd, cOr, cNot, cIf, cAndT, cOrT, cNotT, asB, cB, cNext, cIfS, cSet, CS.put, cChain, dLe, dLt, dGt, dGe, dI2, startC, outF, fnB, cIsi, CS.knOf, tyB, isKn, isTy, M.guard, cTru, dTru, liftF, cCall, cCons, cFor, forL, cEnum, dEnum, cTg, cLc, lcL, wipeC, cWalk, dWalk, cNever, cSetTp, putAll, bLen, cFld, CS.fld, cProp, noExc, CS.clsOf, cCallS, dItems, cLenP, cIxP, CS.see, cApp, CS.pl, CS.wr, Pl.xs, dNeg, cSetIx, cStore, froz, cLst, cCutL, dCutL, cNoPart, cPart, dPart, CS.seqL, bList, M.opt, dIs, cZip, dZip, cIsiT, D.isNon, bStr, chT_t] at r e1 e2
  simp [M.bind, M.ret, R.bind, cSeq, cRet, cVar, cOp, cOr, cNot, cIf, cAndT, cOrT, cNotT, asB, cB, cNext, cIfS, cSet, CS.put, cChain, dLe, dLt, dGt, dGe, dI2, startC, outF, fnB, cIsi, CS.knOf, tyB, isKn, isTy, M.guard, cTru, dTru, liftF, cCall, cCons, cFor, forL, cEnum, dEnum, cTg, cLc, lcL, wipeC, cWalk, dWalk, cNever, cSetTp, putAll, bLen, cFld, CS.fld, cProp, noExc, CS.clsOf, cCallS, dItems, cLenP, cIxP, CS.see, cApp, CS.pl, CS.wr, Pl.xs, dNeg, cSetIx, cStore, froz, cLst, cCutL, dCutL, cNoPart, cPart, dPart, CS.seqL, bList, M.opt, dIs, cZip, dZip, cIsiT, D.isNon, bStr, LE, cTup, szOk_small, m, r, s1, s2, e1, e2, cAnd]
theorem maths (ns : List Int) (h : ns.length ≤ 63) : ∃ S, fn_law [.scr ns] [] = .ok (.bl true) S := by
  have hS : TapeOk (tpS ns 0 0 3815) := ⟨ns, 0, 0, 3815, rfl, h, by omega, by omega, by omega⟩
  have g1 : cSet 1 (cCall fn_law_tape (cCons (cVar 0) (M.ret []))) ⟨[.val (.scr ns), .no, .no, .no, .no, .no, .no, .no], []⟩ = .ok .next ⟨[.val (.scr ns), .val (.ref 0), .no, .no, .no, .no, .no, .no], tpS ns 0 0 3815⟩ := by
    simp [M.bind, M.ret, R.bind, cSeq, cRet, cVar, cOp, cAnd, cOr, cNot, cIf, cAndT, cOrT, cNotT, asB, cB, cNext, cIfS, cSet, CS.put, cChain, dLe, dLt, dGt, dGe, dI2, startC, outF, fnB, cIsi, CS.knOf, tyB, isKn, isTy, M.guard, cTru, dTru, liftF, cCall, cCons, cFor, forL, cEnum, dEnum, cTg, cLc, lcL, wipeC, cWalk, dWalk, cNever, cSetTp, putAll, bLen, cFld, CS.fld, cProp, noExc, CS.clsOf, cCallS, dItems, cLenP, cIxP, CS.see, cApp, CS.pl, CS.wr, Pl.xs, dNeg, cSetIx, cStore, froz, cLst, cCutL, dCutL, cNoPart, cPart, dPart, CS.seqL, bList, M.opt, dIs, cZip, dZip, cIsiT, D.isNon, bStr, s_tape ns h]
  obtain ⟨c', e⟩ := s_turns (.val (.scr ns)) (rangeD 0 6) .no .no .no .no .no .no (tpS ns 0 0 3815) hS
  have g2 : cFor (cRange1 (M.ret (.int 6))) (.nm 2) BB ⟨[.val (.scr ns), .val (.ref 0), .no, .no, .no, .no, .no, .no], tpS ns 0 0 3815⟩ = .ok .next c' := e
  refine ⟨c'.S, ?_⟩
  show outF (cSeq (cSet 1 (cCall fn_law_tape (cCons (cVar 0) (M.ret [])))) (cSeq (cFor (cRange1 (M.ret (.int 6))) (.nm 2) BB) (cSeq LE cNext)) ⟨[.val (.scr ns), .no, .no, .no, .no, .no, .no, .no], []⟩) = _
  rw [cSeq_next g1, cSeq_next g2, cSeq_ret (s_end c')]
  rfl
end K02
namespace K02
open PySem PySem.Spec PyProof.Rows L2 CL
theorem all_mk {w : World} {K : PySem.W.Frag} {h : Heap} {mg : Str → Option Value} {fa : Addr} {C : Addr} {f_is_between : Addr} {od_is_between : Option Addr} {an_is_between : Option Addr} {sl_is_between : Array (Option Value)} {oc_is_between : Value} {kV_is_between : Value} {dc_is_between : Value} {pm_is_between : Value} {cd_is_between : Value} {ct_is_between : Value} {f_check_rows : Addr} {od_check_rows : Option Addr} {an_check_rows : Option Addr} {sl_check_rows : Array (Option Value)} {oc_check_rows : Value} {kV_check_rows : Value} {dc_check_rows : Value} {pm_check_rows : Value} {cd_check_rows : Value} {ct_check_rows : Value} {f_row_text : Addr} {od_row_text : Option Addr} {an_row_text : Option Addr} {sl_row_text : Array (Option Value)} {oc_row_text : Value} {kV_row_text : Value} {dc_row_text : Value} {pm_row_text : Value} {cd_row_text : Value} {ct_row_text : Value} {f_read_capacity : Addr} {od_read_capacity : Option Addr} {an_read_capacity : Option Addr} {sl_read_capacity : Array (Option Value)} {oc_read_capacity : Value} {kV_read_capacity : Value} {dc_read_capacity : Value} {pm_read_capacity : Value} {cd_read_capacity : Value} {ct_read_capacity : Value} {f_read_row : Addr} {od_read_row : Option Addr} {an_read_row : Option Addr} {sl_read_row : Array (Option Value)} {oc_read_row : Value} {kV_read_row : Value} {dc_read_row : Value} {pm_read_row : Value} {cd_read_row : Value} {ct_read_row : Value} {f_Chain__init : Addr} {od_Chain__init : Option Addr} {an_Chain__init : Option Addr} {sl_Chain__init : Array (Option Value)} {oc_Chain__init : Value} {kV_Chain__init : Value} {dc_Chain__init : Value} {pm_Chain__init : Value} {cd_Chain__init : Value} {ct_Chain__init : Value} {f_Chain_read : Addr} {p_Chain_read : Addr} {r_Chain_read : List Value} {od_Chain_read : Option Addr} {an_Chain_read : Option Addr} {sl_Chain_read : Array (Option Value)} {oc_Chain_read : Value} {kV_Chain_read : Value} {dc_Chain_read : Value} {pm_Chain_read : Value} {cd_Chain_read : Value} {ct_Chain_read : Value} {f_Chain_segments : Addr} {p_Chain_segments : Addr} {r_Chain_segments : List Value} {od_Chain_segments : Option Addr} {an_Chain_segments : Option Addr} {sl_Chain_segments : Array (Option Value)} {oc_Chain_segments : Value} {kV_Chain_segments : Value} {dc_Chain_segments : Value} {pm_Chain_segments : Value} {cd_Chain_segments : Value} {ct_Chain_segments : Value} {f_Chain__eq : Addr} {od_Chain__eq : Option Addr} {an_Chain__eq : Option Addr} {sl_Chain__eq : Array (Option Value)} {oc_Chain__eq : Value} {kV_Chain__eq : Value} {dc_Chain__eq : Value} {pm_Chain__eq : Value} {cd_Chain__eq : Value} {ct_Chain__eq : Value} {f_Chain__str : Addr} {od_Chain__str : Option Addr} {an_Chain__str : Option Addr} {sl_Chain__str : Array (Option Value)} {oc_Chain__str : Value} {kV_Chain__str : Value} {dc_Chain__str : Value} {pm_Chain__str : Value} {cd_Chain__str : Value} {ct_Chain__str : Value} {f_Chain__repr : Addr} {od_Chain__repr : Option Addr} {an_Chain__repr : Option Addr} {sl_Chain__repr : Array (Option Value)} {oc_Chain__repr : Value} {kV_Chain__repr : Value} {dc_Chain__repr : Value} {pm_Chain__repr : Value} {cd_Chain__repr : Value} {ct_Chain__repr : Value} {f_law_tape : Addr} {od_law_tape : Option Addr} {an_law_tape : Option Addr} {sl_law_tape : Array (Option Value)} {oc_law_tape : Value} {kV_law_tape : Value} {dc_law_tape : Value} {pm_law_tape : Value} {cd_law_tape : Value} {ct_law_tape : Value} {f_law_pick : Addr} {od_law_pick : Option Addr} {an_law_pick : Option Addr} {sl_law_pick : Array (Option Value)} {oc_law_pick : Value} {kV_law_pick : Value} {dc_law_pick : Value} {pm_law_pick : Value} {cd_law_pick : Value} {ct_law_pick : Value} {f_law_same : Addr} {od_law_same : Option Addr} {an_law_same : Option Addr} {sl_law_same : Array (Option Value)} {oc_law_same : Value} {kV_law_same : Value} {dc_law_same : Value} {pm_law_same : Value} {cd_law_same : Value} {ct_law_same : Value} {f_law_made : Addr} {od_law_made : Option Addr} {an_law_made : Option Addr} {sl_law_made : Array (Option Value)} {oc_law_made : Value} {kV_law_made : Value} {dc_law_made : Value} {pm_law_made : Value} {cd_law_made : Value} {ct_law_made : Value} {f_law_row : Addr} {od_law_row : Option Addr} {an_law_row : Option Addr} {sl_law_row : Array (Option Value)} {oc_law_row : Value} {kV_law_row : Value} {dc_law_row : Value} {pm_law_row : Value} {cd_law_row : Value} {ct_law_row : Value} {f_law_rows : Addr} {od_law_rows : Option Addr} {an_law_rows : Option Addr} {sl_law_rows : Array (Option Value)} {oc_law_rows : Value} {kV_law_rows : Value} {dc_law_rows : Value} {pm_law_rows : Value} {cd_law_rows : Value} {ct_law_rows : Value} {f_law_text : Addr} {od_law_text : Option Addr} {an_law_text : Option Addr} {sl_law_text : Array (Option Value)} {oc_law_text : Value} {kV_law_text : Value} {dc_law_text : Value} {pm_law_text : Value} {cd_law_text : Value} {ct_law_text : Value} {f_law : Addr} {od_law : Option Addr} {an_law : Option Addr} {sl_law : Array (Option Value)} {oc_law : Value} {kV_law : Value} {dc_law : Value} {pm_law : Value} {cd_law : Value} {ct_law : Value} {u_MAX_CAPACITY : Tok} {u_MAX_LEVELS : Tok} {u_MAX_SEGMENTS : Tok} (X : K.In h) (G : h.Ns mainGlobals mg) (hfa : mg "law" = some (.ref fa))
    (aC : PySem.W.nsIn K mainGlobals "Chain" = some (some (.ref C)))
    (a_is_between : PySem.W.nsIn K mainGlobals "is_between" = some (some (.ref f_is_between)))
    (l_is_between : K.lookup f_is_between = some ⟨oc_is_between, od_is_between, .func (PySem.W.fnOf "is_between" "is_between" (defArgs (topS 7)) (defBody (topS 7)) (defScope (topS 7)) .none kV_is_between dc_is_between pm_is_between an_is_between cd_is_between ct_is_between), sl_is_between⟩)
    (c_is_between : PySem.W.codeIn K cd_is_between "is_between" = true)
    (k_is_between : PySem.W.keepIn K (.ref f_is_between) = true)
    (a_check_rows : PySem.W.nsIn K mainGlobals "_check_rows" = some (some (.ref f_check_rows)))
    (l_check_rows : K.lookup f_check_rows = some ⟨oc_check_rows, od_check_rows, .func (PySem.W.fnOf "_check_rows" "_check_rows" (defArgs (topS 10)) (defBody (topS 10)) (defScope (topS 10)) .none kV_check_rows dc_check_rows pm_check_rows an_check_rows cd_check_rows ct_check_rows), sl_check_rows⟩)
    (c_check_rows : PySem.W.codeIn K cd_check_rows "_check_rows" = true)
    (k_check_rows : PySem.W.keepIn K (.ref f_check_rows) = true)
    (a_row_text : PySem.W.nsIn K mainGlobals "_row_text" = some (some (.ref f_row_text)))
    (l_row_text : K.lookup f_row_text = some ⟨oc_row_text, od_row_text, .func (PySem.W.fnOf "_row_text" "_row_text" (defArgs (topS 11)) (defBody (topS 11)) (defScope (topS 11)) .none kV_row_text dc_row_text pm_row_text an_row_text cd_row_text ct_row_text), sl_row_text⟩)
    (c_row_text : PySem.W.codeIn K cd_row_text "_row_text" = true)
    (k_row_text : PySem.W.keepIn K (.ref f_row_text) = true)
    (a_read_capacity : PySem.W.nsIn K mainGlobals "_read_capacity" = some (some (.ref f_read_capacity)))
    (l_read_capacity : K.lookup f_read_capacity = some ⟨oc_read_capacity, od_read_capacity, .func (PySem.W.fnOf "_read_capacity" "_read_capacity" (defArgs (topS 13)) (defBody (topS 13)) (defScope (topS 13)) .none kV_read_capacity dc_read_capacity pm_read_capacity an_read_capacity cd_read_capacity ct_read_capacity), sl_read_capacity⟩)
    (c_read_capacity : PySem.W.codeIn K cd_read_capacity "_read_capacity" = true)
    (k_read_capacity : PySem.W.keepIn K (.ref f_read_capacity) = true)
    (a_read_row : PySem.W.nsIn K mainGlobals "_read_row" = some (some (.ref f_read_row)))
    (l_read_row : K.lookup f_read_row = some ⟨oc_read_row, od_read_row, .func (PySem.W.fnOf "_read_row" "_read_row" (defArgs (topS 12)) (defBody (topS 12)) (defScope (topS 12)) .none kV_read_row dc_read_row pm_read_row an_read_row cd_read_row ct_read_row), sl_read_row⟩)
    (c_read_row : PySem.W.codeIn K cd_read_row "_read_row" = true)
    (k_read_row : PySem.W.keepIn K (.ref f_read_row) = true)
    (a_Chain__init : PySem.W.findIn K (.ref C) "__init__" = some (some (.ref f_Chain__init)))
    (i_Chain__init : PySem.W.isFn K (.ref f_Chain__init) = true)
    (l_Chain__init : K.lookup f_Chain__init = some ⟨oc_Chain__init, od_Chain__init, .func (PySem.W.fnOf "__init__" "Chain.__init__" (defArgs (inS 9 3)) (defBody (inS 9 3)) (defScope (inS 9 3)) .none kV_Chain__init dc_Chain__init pm_Chain__init an_Chain__init cd_Chain__init ct_Chain__init), sl_Chain__init⟩)
    (c_Chain__init : PySem.W.codeIn K cd_Chain__init "Chain.__init__" = true)
    (k_Chain__init : PySem.W.keepIn K (.ref f_Chain__init) = true)
    (mk : PySem.W.makesIn K C = true)
    (kC : PySem.W.keepIn K (.ref C) = true)
    (a_Chain_read : PySem.W.findCls K (.ref C) (.type "type") "read" = some (.get (.builtin "classmethod.__get__") (.ref p_Chain_read) .none (.ref C)))
    (r0_Chain_read : PySem.W.recIn K p_Chain_read "classmethod" = some (.ref f_Chain_read :: r_Chain_read))
    (fi_Chain_read : PySem.W.fnIn K f_Chain_read = true)
    (l_Chain_read : K.lookup f_Chain_read = some ⟨oc_Chain_read, od_Chain_read, .func (PySem.W.fnOf "read" "Chain.read" (defArgs (inS 9 4)) (defBody (inS 9 4)) (defScope (inS 9 4)) .none kV_Chain_read dc_Chain_read pm_Chain_read an_Chain_read cd_Chain_read ct_Chain_read), sl_Chain_read⟩)
    (c_Chain_read : PySem.W.codeIn K cd_Chain_read "Chain.read" = true)
    (k_Chain_read : PySem.W.keepIn K (.ref f_Chain_read) = true)
    (a_Chain_segments : PySem.W.findIn K (.ref C) "segments" = some (some (.ref p_Chain_segments)))
    (g_Chain_segments : PySem.W.specialIn K (.ref p_Chain_segments) "__get__" = some (some (.builtin "property.__get__")))
    (t_Chain_segments : PySem.W.takesIn K (.ref p_Chain_segments) = some true)
    (r0_Chain_segments : PySem.W.recIn K p_Chain_segments "property" = some (.ref f_Chain_segments :: r_Chain_segments))
    (l_Chain_segments : K.lookup f_Chain_segments = some ⟨oc_Chain_segments, od_Chain_segments, .func (PySem.W.fnOf "segments" "Chain.segments" (defArgs (inS 9 6)) (defBody (inS 9 6)) (defScope (inS 9 6)) .none kV_Chain_segments dc_Chain_segments pm_Chain_segments an_Chain_segments cd_Chain_segments ct_Chain_segments), sl_Chain_segments⟩)
    (c_Chain_segments : PySem.W.codeIn K cd_Chain_segments "Chain.segments" = true)
    (k_Chain_segments : PySem.W.keepIn K (.ref f_Chain_segments) = true)
    (a_Chain__eq : PySem.W.findIn K (.ref C) "__eq__" = some (some (.ref f_Chain__eq)))
    (i_Chain__eq : PySem.W.isFn K (.ref f_Chain__eq) = true)
    (l_Chain__eq : K.lookup f_Chain__eq = some ⟨oc_Chain__eq, od_Chain__eq, .func (PySem.W.fnOf "__eq__" "Chain.__eq__" (defArgs (inS 9 9)) (defBody (inS 9 9)) (defScope (inS 9 9)) .none kV_Chain__eq dc_Chain__eq pm_Chain__eq an_Chain__eq cd_Chain__eq ct_Chain__eq), sl_Chain__eq⟩)
    (c_Chain__eq : PySem.W.codeIn K cd_Chain__eq "Chain.__eq__" = true)
    (k_Chain__eq : PySem.W.keepIn K (.ref f_Chain__eq) = true)
    (a_Chain__str : PySem.W.findIn K (.ref C) "__str__" = some (some (.ref f_Chain__str)))
    (i_Chain__str : PySem.W.isFn K (.ref f_Chain__str) = true)
    (l_Chain__str : K.lookup f_Chain__str = some ⟨oc_Chain__str, od_Chain__str, .func (PySem.W.fnOf "__str__" "Chain.__str__" (defArgs (inS 9 10)) (defBody (inS 9 10)) (defScope (inS 9 10)) .none kV_Chain__str dc_Chain__str pm_Chain__str an_Chain__str cd_Chain__str ct_Chain__str), sl_Chain__str⟩)
    (c_Chain__str : PySem.W.codeIn K cd_Chain__str "Chain.__str__" = true)
    (k_Chain__str : PySem.W.keepIn K (.ref f_Chain__str) = true)
    (a_Chain__repr : PySem.W.findIn K (.ref C) "__repr__" = some (some (.ref f_Chain__repr)))
    (i_Chain__repr : PySem.W.isFn K (.ref f_Chain__repr) = true)
    (l_Chain__repr : K.lookup f_Chain__repr = some ⟨oc_Chain__repr, od_Chain__repr, .func (PySem.W.fnOf "__repr__" "Chain.__repr__" (defArgs (inS 9 11)) (defBody (inS 9 11)) (defScope (inS 9 11)) .none kV_Chain__repr dc_Chain__repr pm_Chain__repr an_Chain__repr cd_Chain__repr ct_Chain__repr), sl_Chain__repr⟩)
    (c_Chain__repr : PySem.W.codeIn K cd_Chain__repr "Chain.__repr__" = true)
    (k_Chain__repr : PySem.W.keepIn K (.ref f_Chain__repr) = true)
    (a_law_tape : PySem.W.nsIn K mainGlobals "_law_tape" = some (some (.ref f_law_tape)))
    (l_law_tape : K.lookup f_law_tape = some ⟨oc_law_tape, od_law_tape, .func (PySem.W.fnOf "_law_tape" "_law_tape" (defArgs (topS 15)) (defBody (topS 15)) (defScope (topS 15)) .none kV_law_tape dc_law_tape pm_law_tape an_law_tape cd_law_tape ct_law_tape), sl_law_tape⟩)
    (c_law_tape : PySem.W.codeIn K cd_law_tape "_law_tape" = true)
    (k_law_tape : PySem.W.keepIn K (.ref f_law_tape) = true)
    (a_law_pick : PySem.W.nsIn K mainGlobals "_law_pick" = some (some (.ref f_law_pick)))
    (l_law_pick : K.lookup f_law_pick = some ⟨oc_law_pick, od_law_pick, .func (PySem.W.fnOf "_law_pick" "_law_pick" (defArgs (topS 16)) (defBody (topS 16)) (defScope (topS 16)) .none kV_law_pick dc_law_pick pm_law_pick an_law_pick cd_law_pick ct_law_pick), sl_law_pick⟩)
    (c_law_pick : PySem.W.codeIn K cd_law_pick "_law_pick" = true)
    (k_law_pick : PySem.W.keepIn K (.ref f_law_pick) = true)
    (a_law_same : PySem.W.nsIn K mainGlobals "_law_same" = some (some (.ref f_law_same)))
    (l_law_same : K.lookup f_law_same = some ⟨oc_law_same, od_law_same, .func (PySem.W.fnOf "_law_same" "_law_same" (defArgs (topS 17)) (defBody (topS 17)) (defScope (topS 17)) .none kV_law_same dc_law_same pm_law_same an_law_same cd_law_same ct_law_same), sl_law_same⟩)
    (c_law_same : PySem.W.codeIn K cd_law_same "_law_same" = true)
    (k_law_same : PySem.W.keepIn K (.ref f_law_same) = true)
    (a_law_made : PySem.W.nsIn K mainGlobals "_law_made" = some (some (.ref f_law_made)))
    (l_law_made : K.lookup f_law_made = some ⟨oc_law_made, od_law_made, .func (PySem.W.fnOf "_law_made" "_law_made" (defArgs (topS 18)) (defBody (topS 18)) (defScope (topS 18)) .none kV_law_made dc_law_made pm_law_made an_law_made cd_law_made ct_law_made), sl_law_made⟩)
    (c_law_made : PySem.W.codeIn K cd_law_made "_law_made" = true)
    (k_law_made : PySem.W.keepIn K (.ref f_law_made) = true)
    (a_law_row : PySem.W.nsIn K mainGlobals "_law_row" = some (some (.ref f_law_row)))
    (l_law_row : K.lookup f_law_row = some ⟨oc_law_row, od_law_row, .func (PySem.W.fnOf "_law_row" "_law_row" (defArgs (topS 19)) (defBody (topS 19)) (defScope (topS 19)) .none kV_law_row dc_law_row pm_law_row an_law_row cd_law_row ct_law_row), sl_law_row⟩)
    (c_law_row : PySem.W.codeIn K cd_law_row "_law_row" = true)
    (k_law_row : PySem.W.keepIn K (.ref f_law_row) = true)
    (a_law_rows : PySem.W.nsIn K mainGlobals "_law_rows" = some (some (.ref f_law_rows)))
    (l_law_rows : K.lookup f_law_rows = some ⟨oc_law_rows, od_law_rows, .func (PySem.W.fnOf "_law_rows" "_law_rows" (defArgs (topS 20)) (defBody (topS 20)) (defScope (topS 20)) .none kV_law_rows dc_law_rows pm_law_rows an_law_rows cd_law_rows ct_law_rows), sl_law_rows⟩)
    (c_law_rows : PySem.W.codeIn K cd_law_rows "_law_rows" = true)
    (k_law_rows : PySem.W.keepIn K (.ref f_law_rows) = true)
    (a_law_text : PySem.W.nsIn K mainGlobals "_law_text" = some (some (.ref f_law_text)))
    (l_law_text : K.lookup f_law_text = some ⟨oc_law_text, od_law_text, .func (PySem.W.fnOf "_law_text" "_law_text" (defArgs (topS 21)) (defBody (topS 21)) (defScope (topS 21)) .none kV_law_text dc_law_text pm_law_text an_law_text cd_law_text ct_law_text), sl_law_text⟩)
    (c_law_text : PySem.W.codeIn K cd_law_text "_law_text" = true)
    (k_law_text : PySem.W.keepIn K (.ref f_law_text) = true)
    (a_law : PySem.W.nsIn K mainGlobals "law" = some (some (.ref f_law)))
    (l_law : K.lookup f_law = some ⟨oc_law, od_law, .func (PySem.W.fnOf "law" "law" (defArgs (topS 22)) (defBody (topS 22)) (defScope (topS 22)) .none kV_law dc_law pm_law an_law cd_law ct_law), sl_law⟩)
    (c_law : PySem.W.codeIn K cd_law "law" = true)
    (k_law : PySem.W.keepIn K (.ref f_law) = true)
    (pg : PySem.W.plainGet K C Str.empty = true)
    (hd : PySem.W.hasDictIn K C = true)
    (po : PySem.W.plainOver K C = true)
    (sa : PySem.W.findIn K (.ref C) "__setattr__" = some (some (.builtin "object.__setattr__")))
    (na_rows : PySem.W.findIn K (.ref C) "_rows" = some none)
    (o_ha : PySem.W.findIn K (.ref C) "__class__" = some (some (.builtin "object.__class__")))
    (o_hn : PySem.W.specialIn K (.builtin "object.__class__") "__get__" = some (some (.builtin "getset_descriptor.__get__")))
    (o_ht : PySem.W.takesIn K (.builtin "object.__class__") = some true)
    (o_hm : PySem.W.mroIn K C (.type "object") = some true)
    (o_i1 : PySem.W.subIn K (.ref C) (.type "bool") = some false)
    (o_i2 : PySem.W.subIn K (.ref C) (.type "int") = some false)
    (o_i3 : PySem.W.subIn K (.ref C) (.type "str") = some false)
    (o_i4 : PySem.W.subIn K (.ref C) (.type "tuple") = some false)
    (o_i5 : PySem.W.subIn K (.ref C) (.type "list") = some false)
    (o_kc : PySem.W.isClsIn K C = true)
    (o_kt : PySem.W.typeIn K (.ref C) = some (.type "type"))
    (o_j0 : PySem.W.subIn K (.type "NoneType") (.ref C) = some false)
    (o_j1 : PySem.W.subIn K (.type "bool") (.ref C) = some false)
    (o_j2 : PySem.W.subIn K (.type "int") (.ref C) = some false)
    (o_j3 : PySem.W.subIn K (.type "str") (.ref C) = some false)
    (o_j4 : PySem.W.subIn K (.type "tuple") (.ref C) = some false)
    (o_j5 : PySem.W.subIn K (.type "list") (.ref C) = some false)
    (n_bool : PySem.W.nsIn K mainGlobals "bool" = some none)
    (n_int : PySem.W.nsIn K mainGlobals "int" = some none)
    (n_isinstance : PySem.W.nsIn K mainGlobals "isinstance" = some none)
    (rd : PySem.W.readsIn K C (.type "type") = true)
    (ga : PySem.W.specialIn K (.ref C) "__getattribute__" = some (some (.builtin "type.__getattribute__")))
    (v_MAX_CAPACITY : PySem.W.findCls K (.ref C) (.type "type") "MAX_CAPACITY" = some (.val (.int 12 u_MAX_CAPACITY)))
    (v_MAX_LEVELS : PySem.W.findCls K (.ref C) (.type "type") "MAX_LEVELS" = some (.val (.int 12 u_MAX_LEVELS)))
    (v_MAX_SEGMENTS : PySem.W.findCls K (.ref C) (.type "type") "MAX_SEGMENTS" = some (.val (.int 4 u_MAX_SEGMENTS)))
    (n_all : PySem.W.nsIn K mainGlobals "all" = some none)
    (n_enumerate : PySem.W.nsIn K mainGlobals "enumerate" = some none)
    (n_len : PySem.W.nsIn K mainGlobals "len" = some none)
    (n_str : PySem.W.nsIn K mainGlobals "str" = some none)
    (n_range : PySem.W.nsIn K mainGlobals "range" = some none)
    (n_tuple : PySem.W.nsIn K mainGlobals "tuple" = some none)
    (fm : PySem.W.findIn K (.ref C) "__format__" = some (some (.builtin "object.__format__")))
    (n_list : PySem.W.nsIn K mainGlobals "list" = some none)
    (n_zip : PySem.W.nsIn K mainGlobals "zip" = some none)
    (n_sorted : PySem.W.nsIn K mainGlobals "sorted" = some none)
    (n_repr : PySem.W.nsIn K mainGlobals "repr" = some none)
    (ne : PySem.W.findIn K (.ref C) "__ne__" = some (some (.builtin "object.__ne__")))
    (neo : PySem.W.subIn K (.ref C) (.type "object") = some true)
    (hm : ∀ ns : List Int, ns.length ≤ 63 → ∃ S, fn_law [.scr ns] [] = .ok (.bl true) S) :
    ∃ fd : FuncData, (∀ (s : Shared) (v : Value), BindsTo s fd ⟨[v], []⟩ [("_law_script", v)]) ∧ ∀ base : Heap, K.In base → base.Ns mainGlobals mg → FnOk PySem.Challenge.pw_shelfdoors_k02_texts_of_chains w K mg base (L2.CX PySem.Challenge.pw_shelfdoors_k02_texts_of_chains w) 6 fa fd ["_law_script"] (spLaw K) := by
  have e := hfa.symm.trans (PySem.W.mg_of X G a_law)
  cases e
  refine ⟨PySem.W.fnOf "law" "law" (defArgs (topS 22)) (defBody (topS 22)) (defScope (topS 22)) .none kV_law dc_law pm_law an_law cd_law ct_law, fun s v => .of_eq rfl, fun base _ _ => ?_⟩
  have T : Tx { prog := PySem.Challenge.pw_shelfdoors_k02_texts_of_chains, w := w, K := K, mg := mg, base := base, cls := clsOne C (["_rows"] : List Str), exc := fun _ => none : CL.G } { C_Chain := C, mc_Chain := (.type "type"), a_is_between := f_is_between, a_check_rows := f_check_rows, a_row_text := f_row_text, a_read_capacity := f_read_capacity, a_read_row := f_read_row, a_Chain__init := f_Chain__init, a_Chain_read := f_Chain_read, p_Chain_read := p_Chain_read, a_Chain_segments := f_Chain_segments, p_Chain_segments := p_Chain_segments, a_Chain__eq := f_Chain__eq, a_Chain__str := f_Chain__str, a_Chain__repr := f_Chain__repr, a_law_tape := f_law_tape, a_law_pick := f_law_pick, a_law_same := f_law_same, a_law_made := f_law_made, a_law_row := f_law_row, a_law_rows := f_law_rows, a_law_text := f_law_text, a_law := fa, u_Chain_MAX_CAPACITY := (.int 12 u_MAX_CAPACITY), u_Chain_MAX_LEVELS := (.int 12 u_MAX_LEVELS), u_Chain_MAX_SEGMENTS := (.int 4 u_MAX_SEGMENTS) : Ad } := {
    f_is_between := ⟨_, fun_mk l_is_between c_is_between k_is_between, (fun_mk l_is_between c_is_between k_is_between).binds fun _ _ _ _ _ _ us hl => match us, hl with | [_, _, _], _ => rfl⟩,
    m_is_between := PySem.W.mg_of X G a_is_between,
    kp_is_between := k_is_between,
    n_bool := PySem.W.mg_none_of X G n_bool,
    n_int := PySem.W.mg_none_of X G n_int,
    n_isinstance := PySem.W.mg_none_of X G n_isinstance,
    f_check_rows := ⟨_, fun_mk l_check_rows c_check_rows k_check_rows, (fun_mk l_check_rows c_check_rows k_check_rows).binds fun _ _ _ _ _ _ us hl => match us, hl with | [_], _ => rfl⟩,
    m_check_rows := PySem.W.mg_of X G a_check_rows,
    kp_check_rows := k_check_rows,
    cr_Chain := ⟨rd, ga⟩,
    cv_Chain_MAX_CAPACITY := ⟨v_MAX_CAPACITY, _, rfl⟩,
    cv_Chain_MAX_LEVELS := ⟨v_MAX_LEVELS, _, rfl⟩,
    cv_Chain_MAX_SEGMENTS := ⟨v_MAX_SEGMENTS, _, rfl⟩,
    n_all := PySem.W.mg_none_of X G n_all,
    n_enumerate := PySem.W.mg_none_of X G n_enumerate,
    n_len := PySem.W.mg_none_of X G n_len,
    f_row_text := ⟨_, fun_mk l_row_text c_row_text k_row_text, (fun_mk l_row_text c_row_text k_row_text).binds fun _ _ _ _ _ _ us hl => match us, hl with | [_], _ => rfl⟩,
    m_row_text := PySem.W.mg_of X G a_row_text,
    kp_row_text := k_row_text,
    n_str := PySem.W.mg_none_of X G n_str,
    f_read_capacity := ⟨_, fun_mk l_read_capacity c_read_capacity k_read_capacity, (fun_mk l_read_capacity c_read_capacity k_read_capacity).binds fun _ _ _ _ _ _ us hl => match us, hl with | [_], _ => rfl⟩,
    m_read_capacity := PySem.W.mg_of X G a_read_capacity,
    kp_read_capacity := k_read_capacity,
    n_range := PySem.W.mg_none_of X G n_range,
    f_read_row := ⟨_, fun_mk l_read_row c_read_row k_read_row, (fun_mk l_read_row c_read_row k_read_row).binds fun _ _ _ _ _ _ us hl => match us, hl with | [_], _ => rfl⟩,
    m_read_row := PySem.W.mg_of X G a_read_row,
    kp_read_row := k_read_row,
    n_tuple := PySem.W.mg_none_of X G n_tuple,
    f_Chain__init := ⟨_, fun_mk l_Chain__init c_Chain__init k_Chain__init⟩,
    mk_Chain := ⟨mk, a_Chain__init, i_Chain__init, kC⟩,
    na_Chain_rows := na_rows,
    f_Chain_read := ⟨_, fun_mk l_Chain_read c_Chain_read k_Chain_read, (fun_mk l_Chain_read c_Chain_read k_Chain_read).binds fun _ _ _ _ _ _ us hl => match us, hl with | [_, _], _ => rfl⟩,
    cm_Chain_read := ⟨a_Chain_read, ⟨_, r0_Chain_read⟩, fi_Chain_read⟩,
    f_Chain_segments := ⟨_, fun_mk l_Chain_segments c_Chain_segments k_Chain_segments, (fun_mk l_Chain_segments c_Chain_segments k_Chain_segments).binds fun _ _ _ _ _ _ us hl => match us, hl with | [_], _ => rfl⟩,
    pr_Chain_segments := ⟨a_Chain_segments, g_Chain_segments, t_Chain_segments, _, r0_Chain_segments⟩,
    f_Chain__eq := ⟨_, fun_mk l_Chain__eq c_Chain__eq k_Chain__eq, (fun_mk l_Chain__eq c_Chain__eq k_Chain__eq).binds fun _ _ _ _ _ _ us hl => match us, hl with | [_, _], _ => rfl⟩,
    sp_Chain__eq := ⟨a_Chain__eq, i_Chain__eq⟩,
    f_Chain__str := ⟨_, fun_mk l_Chain__str c_Chain__str k_Chain__str, (fun_mk l_Chain__str c_Chain__str k_Chain__str).binds fun _ _ _ _ _ _ us hl => match us, hl with | [_], _ => rfl⟩,
    sp_Chain__str := ⟨a_Chain__str, i_Chain__str⟩,
    f_Chain__repr := ⟨_, fun_mk l_Chain__repr c_Chain__repr k_Chain__repr, (fun_mk l_Chain__repr c_Chain__repr k_Chain__repr).binds fun _ _ _ _ _ _ us hl => match us, hl with | [_], _ => rfl⟩,
    sp_Chain__repr := ⟨a_Chain__repr, i_Chain__repr⟩,
    fm_Chain := ⟨fm, o_hm⟩,
    f_law_tape := ⟨_, fun_mk l_law_tape c_law_tape k_law_tape, (fun_mk l_law_tape c_law_tape k_law_tape).binds fun _ _ _ _ _ _ us hl => match us, hl with | [_], _ => rfl⟩,
    m_law_tape := PySem.W.mg_of X G a_law_tape,
    kp_law_tape := k_law_tape,
    n_list := PySem.W.mg_none_of X G n_list,
    f_law_pick := ⟨_, fun_mk l_law_pick c_law_pick k_law_pick, (fun_mk l_law_pick c_law_pick k_law_pick).binds fun _ _ _ _ _ _ us hl => match us, hl with | [_, _], _ => rfl⟩,
    m_law_pick := PySem.W.mg_of X G a_law_pick,
    kp_law_pick := k_law_pick,
    f_law_same := ⟨_, fun_mk l_law_same c_law_same k_law_same, (fun_mk l_law_same c_law_same k_law_same).binds fun _ _ _ _ _ _ us hl => match us, hl with | [_, _], _ => rfl⟩,
    m_law_same := PySem.W.mg_of X G a_law_same,
    kp_law_same := k_law_same,
    n_zip := PySem.W.mg_none_of X G n_zip,
    f_law_made := ⟨_, fun_mk l_law_made c_law_made k_law_made, (fun_mk l_law_made c_law_made k_law_made).binds fun _ _ _ _ _ _ us hl => match us, hl with | [_], _ => rfl⟩,
    m_law_made := PySem.W.mg_of X G a_law_made,
    kp_law_made := k_law_made,
    f_law_row := ⟨_, fun_mk l_law_row c_law_row k_law_row, (fun_mk l_law_row c_law_row k_law_row).binds fun _ _ _ _ _ _ us hl => match us, hl with | [_, _, _], _ => rfl⟩,
    m_law_row := PySem.W.mg_of X G a_law_row,
    kp_law_row := k_law_row,
    n_sorted := PySem.W.mg_none_of X G n_sorted,
    f_law_rows := ⟨_, fun_mk l_law_rows c_law_rows k_law_rows, (fun_mk l_law_rows c_law_rows k_law_rows).binds fun _ _ _ _ _ _ us hl => match us, hl with | [_, _, _, _], _ => rfl⟩,
    m_law_rows := PySem.W.mg_of X G a_law_rows,
    kp_law_rows := k_law_rows,
    f_law_text := ⟨_, fun_mk l_law_text c_law_text k_law_text, (fun_mk l_law_text c_law_text k_law_text).binds fun _ _ _ _ _ _ us hl => match us, hl with | [_], _ => rfl⟩,
    m_law_text := PySem.W.mg_of X G a_law_text,
    kp_law_text := k_law_text,
    f_law := ⟨_, fun_mk l_law c_law k_law, (fun_mk l_law c_law k_law).binds fun _ _ _ _ _ _ us hl => match us, hl with | [_], _ => rfl⟩,
    m_law := PySem.W.mg_of X G a_law,
    kp_law := k_law,
    n_repr := PySem.W.mg_none_of X G n_repr,
    ne_Chain := ⟨ne, neo⟩,
    c_Chain := rfl,
    mC_Chain := PySem.W.mg_of X G aC,
    kl_Chain := ⟨pg, hd, po, sa⟩,
    tab := tab_one rfl ⟨pg, hd, po, sa⟩ (fun f hf => by
      simp only [List.mem_cons, List.not_mem_nil, or_false] at hf
      rcases hf with rfl
      · exact na_rows) ⟨o_ha, o_hn, o_ht, o_hm, o_i1, o_i2, o_i3, o_i4, o_i5, o_kc, o_kt, o_j0, o_j1, o_j2, o_j3, o_j4, o_j5⟩ }
  exact (ok_law T (fun_mk l_law c_law k_law)).imp fun vs H Q E hs => law_end (g := { prog := PySem.Challenge.pw_shelfdoors_k02_texts_of_chains, w := w, K := K, mg := mg, base := base, cls := clsOne C (["_rows"] : List Str), exc := fun _ => none : CL.G }) hm vs H Q E hs
end K02
open PySem PySem.W PyProof.Rows
set_option maxHeartbeats 0 in
theorem PySem.Challenge.cw_shelfdoors_k02_texts_of_chains_holds : PySem.Challenge.rw_shelfdoors_k02_texts_of_chains.Holds := by
  w_on; o_law; k_head; (case hw => w_witness2)
  k_fill
  refine L2.walk_of (l := PySem.Challenge.rw_shelfdoors_k02_texts_of_chains) (n := 63) (k := 6) (x := "_law_script") (CX := fun w => L2.CX PySem.Challenge.pw_shelfdoors_k02_texts_of_chains w) (sp := fun w => CL.spLaw _) rfl (by decide) rfl ⟨rfl, by decide, by decide⟩ (fun w h Y => PySem.W.kIn_of Y) ?F (fun _ _ a ns hl _ hS => ⟨a, ns, rfl, hS, hl, fun _ => rfl⟩) (fun w H s e s' z => CL.cx_none H s e s' z)
  case F =>
    intro w mg fa h KX G hmg
    refine' K02.all_mk KX G hmg ?aC ?a_is_between ?l_is_between ?c_is_between ?k_is_between ?a_check_rows ?l_check_rows ?c_check_rows ?k_check_rows ?a_row_text ?l_row_text ?c_row_text ?k_row_text ?a_read_capacity ?l_read_capacity ?c_read_capacity ?k_read_capacity ?a_read_row ?l_read_row ?c_read_row ?k_read_row ?a_Chain__init ?i_Chain__init ?l_Chain__init ?c_Chain__init ?k_Chain__init ?mk ?kC ?a_Chain_read ?r0_Chain_read ?fi_Chain_read ?l_Chain_read ?c_Chain_read ?k_Chain_read ?a_Chain_segments ?g_Chain_segments ?t_Chain_segments ?r0_Chain_segments ?l_Chain_segments ?c_Chain_segments ?k_Chain_segments ?a_Chain__eq ?i_Chain__eq ?l_Chain__eq ?c_Chain__eq ?k_Chain__eq ?a_Chain__str ?i_Chain__str ?l_Chain__str ?c_Chain__str ?k_Chain__str ?a_Chain__repr ?i_Chain__repr ?l_Chain__repr ?c_Chain__repr ?k_Chain__repr ?a_law_tape ?l_law_tape ?c_law_tape ?k_law_tape ?a_law_pick ?l_law_pick ?c_law_pick ?k_law_pick ?a_law_same ?l_law_same ?c_law_same ?k_law_same ?a_law_made ?l_law_made ?c_law_made ?k_law_made ?a_law_row ?l_law_row ?c_law_row ?k_law_row ?a_law_rows ?l_law_rows ?c_law_rows ?k_law_rows ?a_law_text ?l_law_text ?c_law_text ?k_law_text ?a_law ?l_law ?c_law ?k_law ?pg ?hd ?po ?sa ?na_rows ?o_ha ?o_hn ?o_ht ?o_hm ?o_i1 ?o_i2 ?o_i3 ?o_i4 ?o_i5 ?o_kc ?o_kt ?o_j0 ?o_j1 ?o_j2 ?o_j3 ?o_j4 ?o_j5 ?n_bool ?n_int ?n_isinstance ?rd ?ga ?v_MAX_CAPACITY ?v_MAX_LEVELS ?v_MAX_SEGMENTS ?n_all ?n_enumerate ?n_len ?n_str ?n_range ?n_tuple ?fm ?n_list ?n_zip ?n_sorted ?n_repr ?ne ?neo K02.maths
    (case aC => k_is); (case a_is_between => k_is); (case l_is_between => k_is); (case c_is_between => k_is); (case k_is_between => k_is); (case a_check_rows => k_is); (case l_check_rows => k_is); (case c_check_rows => k_is); (case k_check_rows => k_is); (case a_row_text => k_is); (case l_row_text => k_is); (case c_row_text => k_is); (case k_row_text => k_is); (case a_read_capacity => k_is); (case l_read_capacity => k_is); (case c_read_capacity => k_is); (case k_read_capacity => k_is); (case a_read_row => k_is); (case l_read_row => k_is); (case c_read_row => k_is); (case k_read_row => k_is); (case a_Chain__init => k_is); (case i_Chain__init => k_is); (case l_Chain__init => k_is); (case c_Chain__init => k_is); (case k_Chain__init => k_is); (case mk => k_is); (case kC => k_is); (case a_Chain_read => k_is); (case r0_Chain_read => k_is); (case fi_Chain_read => k_is); (case l_Chain_read => k_is); (case c_Chain_read => k_is); (case k_Chain_read => k_is); (case a_Chain_segments => k_is); (case g_Chain_segments => k_is); (case t_Chain_segments => k_is); (case r0_Chain_segments => k_is); (case l_Chain_segments => k_is); (case c_Chain_segments => k_is); (case k_Chain_segments => k_is); (case a_Chain__eq => k_is); (case i_Chain__eq => k_is); (case l_Chain__eq => k_is); (case c_Chain__eq => k_is); (case k_Chain__eq => k_is); (case a_Chain__str => k_is); (case i_Chain__str => k_is); (case l_Chain__str => k_is); (case c_Chain__str => k_is); (case k_Chain__str => k_is); (case a_Chain__repr => k_is); (case i_Chain__repr => k_is); (case l_Chain__repr => k_is); (case c_Chain__repr => k_is); (case k_Chain__repr => k_is); (case a_law_tape => k_is); (case l_law_tape => k_is); (case c_law_tape => k_is); (case k_law_tape => k_is); (case a_law_pick => k_is); (case l_law_pick => k_is); (case c_law_pick => k_is); (case k_law_pick => k_is); (case a_law_same => k_is); (case l_law_same => k_is); (case c_law_same => k_is); (case k_law_same => k_is); (case a_law_made => k_is); (case l_law_made => k_is); (case c_law_made => k_is); (case k_law_made => k_is); (case a_law_row => k_is); (case l_law_row => k_is); (case c_law_row => k_is); (case k_law_row => k_is); (case a_law_rows => k_is); (case l_law_rows => k_is); (case c_law_rows => k_is); (case k_law_rows => k_is); (case a_law_text => k_is); (case l_law_text => k_is); (case c_law_text => k_is); (case k_law_text => k_is); (case a_law => k_is); (case l_law => k_is); (case c_law => k_is); (case k_law => k_is); (case pg => k_is); (case hd => k_is); (case po => k_is); (case sa => k_is); (case na_rows => k_is); (case o_ha => k_is); (case o_hn => k_is); (case o_ht => k_is); (case o_hm => k_is); (case o_i1 => k_is); (case o_i2 => k_is); (case o_i3 => k_is); (case o_i4 => k_is); (case o_i5 => k_is); (case o_kc => k_is); (case o_kt => k_is); (case o_j0 => k_is); (case o_j1 => k_is); (case o_j2 => k_is); (case o_j3 => k_is); (case o_j4 => k_is); (case o_j5 => k_is); (case n_bool => k_is); (case n_int => k_is); (case n_isinstance => k_is); (case rd => k_is); (case ga => k_is); (case v_MAX_CAPACITY => k_is); (case v_MAX_LEVELS => k_is); (case v_MAX_SEGMENTS => k_is); (case n_all => k_is); (case n_enumerate => k_is); (case n_len => k_is); (case n_str => k_is); (case n_range => k_is); (case n_tuple => k_is); (case fm => k_is); (case n_list => k_is); (case n_zip => k_is); (case n_sorted => k_is); (case n_repr => k_is); (case ne => k_is); (case neo => k_is)
