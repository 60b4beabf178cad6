import PyProof.Rows.All
import Wide.All
import OpenK.AllK
import Wide.FinOn
import HandS.ForMost
import HandS.ForExc
import HandS.CallSlots
import HandS.Star
import HandS.Property
import HandS.ClsMeth
import HandS.CallLocal
import HandS.GenList
import HandS.TupAny
import HandS.SortOrd
import HandS.SortInts
import HandS.Deep
import HandS.TupMul
import HandS.IsInst
import HandS.FStr
import HandS.Conv
import HandS.Zip
import HandS.TryMany
import HandS.ExcField
import HandS.Flow
import HandS.Lambda
import KE.GoesMore
import KE.KFmtOwn
import HandS.RaiseMore
import KE.KCallOwn
import HandS.ExcInit
import HandS.HotCalls
import HandS.EndOwn
import KE.KNestM
import HandS.TupLe
import HandS.Style
import PySem.Challenge.RW_shelfdoors_k35_whole_entries_that_are_no
set_option Elab.async false
set_option linter.all false
set_option maxRecDepth 100000
set_option maxHeartbeats 4000000
set_option autoImplicit false
namespace CL
open PySem PySem.Spec PyProof.Rows L2

/-! ## the clean values, the store, the state -/
inductive D where
  | non | bl (b : Bool) | int (i : Int) | str (x : Str)
  | tup (xs : List D) | lst (xs : List D) | obj (c : Nat) (vs : List D) | ref (n : Nat)
  | scr (ns : List Int)
  | exn (c : Nat) (vs : List D)

inductive O where
  | lst (xs : List D)
  | ins (c : Nat) (fs : List (Str × D))

inductive Sl where
  | no | val (d : D) | own (o : O)

structure CS where
  sl : List Sl
  S : List O

inductive R (α : Type) where
  | ok (a : α) (c : CS)
  | exc (cn : Nat) (vs : List D) (c : CS)
  | stuck

abbrev M (α : Type) := CS → R α
def R.bind {α β : Type} (r : R α) (k : α → CS → R β) : R β := match r with
  | .ok a c => k a c
  | .exc cn vs c => .exc cn vs c
  | .stuck => .stuck
theorem R.bind_ok {α β : Type} (a : α) (c : CS) (k : α → CS → R β) : (R.ok a c).bind k = k a c := rfl
theorem R.bind_exc {α β : Type} (n : Nat) (vs : List D) (c : CS) (k : α → CS → R β) : (R.exc n vs c).bind k = .exc n vs c := rfl
theorem R.bind_stuck {α β : Type} (k : α → CS → R β) : R.stuck.bind k = .stuck := rfl
def M.bind {α β : Type} (f : M α) (k : α → M β) : M β := fun c => (f c).bind k
def M.ret {α : Type} (a : α) : M α := fun c => .ok a c
/-- an option's value, or no way on -/
def M.opt {α : Type} : Option α → M α
  | some a => fun c => .ok a c
  | none => fun _ => .stuck

/-! ## what they stand for -/
structure G where
  prog : Program
  w : World
  K : PySem.W.Frag
  mg : Str → Option Value
  base : Heap
  cls : Nat → Option (Addr × List Str)
  exc : Nat → Option (Addr × List Str)
  T : List (Addr × Str) := []

structure Mp where
  rho : List Addr
  F : Hp
  B : Hp
  lam : Nat → Addr
  ini : Addr

structure Ext (m m' : Mp) : Prop where
  r : ∀ (n : Nat) (a : Addr), m.rho[n]? = some a → m'.rho[n]? = some a
  f : ∀ (a : Addr) (o : HO), m.F a = some o → m'.F a = some o
  b : m'.B = m.B
  i : m'.ini = m.ini
theorem Ext.rfl' {m : Mp} : Ext m m := ⟨fun _ _ h => h, fun _ _ h => h, rfl, rfl⟩
theorem Ext.trans {m m1 m2 : Mp} (a : Ext m m1) (b : Ext m1 m2) : Ext m m2 := ⟨fun n x h => b.r n x (a.r n x h), fun x o h => b.f x o (a.f x o h), b.b.trans a.b, b.i.trans a.i⟩

/-- an exception that was caught, of the class at C, its dict at d -/
def exq (a C d : Addr) : HO := .ext fun h => ∃ (o : Obj) (vs : Array Value), h.get? a = some o ∧ o.cls = .ref C ∧ o.dict = some d ∧ o.data = .fields vs
/-- the tables of code objects; nothing frozen is a table -/
def NoT (F : Hp) : Prop := ∀ a ps, F a ≠ some (.tbl ps)
theorem NoT.put {F : Hp} {p : Addr} {u : HO} (h : NoT F) (nt : ∀ ps, u ≠ .tbl ps) : NoT (upd F p u) := fun a ps z => by
  by_cases e : a = p
  · rw [e, upd_same] at z
    exact nt ps (Option.some.inj z)
  · rw [upd_ne e] at z
    exact h a ps z
def TbAt (F H : Hp) (p : Addr × Str) : Prop := ∃ ps : Array Value, H p.1 = some (.tbl ps) ∧ TriplesOk ps.toList ∧ ∀ (pos : Pos) (cv : Value), codeAmong pos ps.toList = some cv → ∃ c, cv = .ref c ∧ F c = some (LamX.CodeO c p.2)
def Tb (T : List (Addr × Str)) (F H : Hp) : Prop := NoT F ∧ ∀ p ∈ T, TbAt F H p
theorem TbAt.ext {F F' H H' : Hp} {p : Addr × Str} (h : TbAt F H p) (eF : ∀ a o, F a = some o → F' a = some o) (eH : ∀ ps, H p.1 = some (.tbl ps) → H' p.1 = some (.tbl ps)) : TbAt F' H' p := by
  obtain ⟨ps, h1, h2, h3⟩ := h
  refine ⟨ps, eH _ h1, h2, fun pos cv hc => ?_⟩
  obtain ⟨c, e1, e2⟩ := h3 pos cv hc
  exact ⟨c, e1, eF _ _ e2⟩
theorem Tb.ext {T : List (Addr × Str)} {F F' H H' : Hp} (h : Tb T F H) (eF : ∀ a o, F a = some o → F' a = some o) (nF : NoT F') (eH : ∀ a ps, H a = some (.tbl ps) → H' a = some (.tbl ps)) : Tb T F' H' := ⟨nF, fun p hp => (h.2 p hp).ext eF (eH p.1)⟩
theorem Tb.wr {T : List (Addr × Str)} {F F' H : Hp} {a : Addr} {u : HO} (h : Tb T F H) (eF : ∀ a o, F a = some o → F' a = some o) (nF : NoT F') (ha : ∀ ps, H a ≠ some (.tbl ps)) : Tb T F' (upd H a u) := h.ext eF nF fun b ps z => by
  have ne : b ≠ a := fun e => ha ps (by rw [← e]; exact z)
  rw [upd_ne ne]
  exact z
theorem Tb.new {T : List (Addr × Str)} {F F' H : Hp} {a : Addr} {u : HO} (h : Tb T F H) (eF : ∀ a o, F a = some o → F' a = some o) (nF : NoT F') (ha : H a = none) : Tb T F' (upd H a u) := h.wr eF nF fun ps z => by rw [ha] at z; cases z
theorem Tb.mut {T : List (Addr × Str)} {F H : Hp} {a : Addr} {u u' : HO} (h : Tb T F H) (ha : H a = some u) (nt : ∀ ps, u ≠ .tbl ps) : Tb T F (upd H a u') := h.wr (fun _ _ z => z) h.1 fun ps z => by
  rw [ha] at z
  exact nt ps (Option.some.inj z)
mutual
inductive Sv (g : G) (m : Mp) : D → V → Prop
  | non : Sv g m .non .non
  | bl (b : Bool) : Sv g m (.bl b) (.bl b)
  | int (i : Int) : Sv g m (.int i) (.int i)
  | str (x : Str) : Sv g m (.str x) (.str x)
  | tup {a : Addr} {ds : List D} {xs : List V} : SqT g.K m.F a xs → Svs g m ds xs → Sv g m (.tup ds) (.ref a)
  | lst {a : Addr} {ds : List D} {xs : List V} : m.F a = some (.lst xs) → Svs g m ds xs → Sv g m (.lst ds) (.ref a)
  | obj {c : Nat} {ds : List D} {a C dx : Addr} {ns : List Str} {ws : List V} : g.cls c = some (C, ns) → m.F a = some (.ins C dx (ns.zip ws)) → Svs g m ds ws → ds.length = ns.length → Sv g m (.obj c ds) (.ref a)
  | ref {n : Nat} {a : Addr} : m.rho[n]? = some a → Sv g m (.ref n) (.ref a)
  | scr {ns : List Int} {a : Addr} : SqL g.K m.F a (ns.map V.int) → Sv g m (.scr ns) (.ref a)
  | exn {c : Nat} {ds : List D} {a C dd : Addr} {ns : List Str} {ws : List V} : g.exc c = some (C, ns) → m.F a = some (exq a C dd) → m.F dd = some (.xd (ns.zip ws)) → Svs g m ds ws → ds.length = ns.length → Sv g m (.exn c ds) (.ref a)
inductive Svs (g : G) (m : Mp) : List D → List V → Prop
  | nil : Svs g m [] []
  | cons {d : D} {v : V} {ds : List D} {vs : List V} : Sv g m d v → Svs g m ds vs → Svs g m (d :: ds) (v :: vs)
end

theorem sqT_mono {K : PySem.W.Frag} {H H' : Hp} {a : Addr} {xs : List V} (e : ∀ a o, H a = some o → H' a = some o) (h : SqT K H a xs) : SqT K H' a xs := by
  rcases h with h | h
  · refine Or.inl ?_
    rcases h with h | ⟨o, h⟩
    · exact Or.inl (e _ _ h)
    · exact Or.inr ⟨o, e _ _ h⟩
  · exact Or.inr h
theorem sqL_mono {K : PySem.W.Frag} {H H' : Hp} {a : Addr} {xs : List V} (e : ∀ a o, H a = some o → H' a = some o) (h : SqL K H a xs) : SqL K H' a xs := by
  rcases h with h | h
  · refine Or.inl ?_
    rcases h with h | ⟨o, h⟩
    · exact Or.inl (e _ _ h)
    · exact Or.inr ⟨o, e _ _ h⟩
  · exact Or.inr h

mutual
theorem Sv.mono {g : G} {m m' : Mp} (e : Ext m m') : ∀ {d : D} {v : V}, Sv g m d v → Sv g m' d v
  | _, _, .non => .non
  | _, _, .bl b => .bl b
  | _, _, .int i => .int i
  | _, _, .str x => .str x
  | _, _, .tup h r => .tup (sqT_mono e.f h) (Svs.mono e r)
  | _, _, .lst h r => .lst (e.f _ _ h) (Svs.mono e r)
  | _, _, .scr h => .scr (sqL_mono e.f h)
  | _, _, .obj c h r l => .obj c (e.f _ _ h) (Svs.mono e r) l
  | _, _, .exn c h h2 r l => .exn c (e.f _ _ h) (e.f _ _ h2) (Svs.mono e r) l
  | _, _, .ref h => .ref (e.r _ _ h)
theorem Svs.mono {g : G} {m m' : Mp} (e : Ext m m') : ∀ {ds : List D} {vs : List V}, Svs g m ds vs → Svs g m' ds vs
  | _, _, .nil => .nil
  | _, _, .cons a b => .cons (Sv.mono e a) (Svs.mono e b)
end
section
variable {g : G} {m : Mp}
theorem Svs.length {ds : List D} {vs : List V} (h : Svs g m ds vs) : ds.length = vs.length := by
  induction ds generalizing vs with
  | nil => cases h; rfl
  | cons d ds ih =>
    cases h with
    | cons a b => rw [List.length_cons, List.length_cons, ih b]
theorem Svs.get {ds : List D} {vs : List V} (h : Svs g m ds vs) {i : Nat} {d : D} (e : ds[i]? = some d) : ∃ v, vs[i]? = some v ∧ Sv g m d v := by
  induction ds generalizing vs i with
  | nil => simp at e
  | cons x ds ih =>
    cases h with
    | cons a b =>
      cases i with
      | zero =>
        simp at e
        subst e
        exact ⟨_, rfl, a⟩
      | succ i =>
        obtain ⟨v, e1, e2⟩ := ih b (i := i) (by simpa using e)
        exact ⟨v, by simpa using e1, e2⟩
theorem Svs.getV {ds : List D} {vs : List V} (h : Svs g m ds vs) {i : Nat} {v : V} (e : vs[i]? = some v) : ∃ d, ds[i]? = some d ∧ Sv g m d v := by
  have hl := h.length
  have hi : i < vs.length := (List.getElem?_eq_some_iff.mp e).1
  have hd : ds[i]? = some ds[i] := List.getElem?_eq_getElem (by omega)
  obtain ⟨v', e1, e2⟩ := h.get hd
  rw [e] at e1
  cases e1
  exact ⟨_, hd, e2⟩
theorem Svs.append {ds es : List D} {vs ws : List V} (h : Svs g m ds vs) (k : Svs g m es ws) : Svs g m (ds ++ es) (vs ++ ws) := by
  induction ds generalizing vs with
  | nil => cases h; exact k
  | cons d ds ih =>
    cases h with
    | cons a b => exact .cons a (ih b)
theorem Svs.take {ds : List D} {vs : List V} (n : Nat) (h : Svs g m ds vs) : Svs g m (ds.take n) (vs.take n) := by
  induction ds generalizing vs n with
  | nil => cases h; simp; exact .nil
  | cons d ds ih =>
    cases h with
    | cons a b =>
      cases n with
      | zero => simp; exact .nil
      | succ n => exact .cons a (ih n b)
theorem Svs.drop {ds : List D} {vs : List V} (n : Nat) (h : Svs g m ds vs) : Svs g m (ds.drop n) (vs.drop n) := by
  induction ds generalizing vs n with
  | nil => cases h; simp; exact .nil
  | cons d ds ih =>
    cases h with
    | cons a b =>
      cases n with
      | zero => exact .cons a b
      | succ n => exact ih n b
theorem Svs.set {ds : List D} {vs : List V} (i : Nat) {d : D} {v : V} (h : Svs g m ds vs) (k : Sv g m d v) : Svs g m (ds.set i d) (vs.set i v) := by
  induction ds generalizing vs i with
  | nil => cases h; simp; exact .nil
  | cons x ds ih =>
    cases h with
    | cons a b =>
      cases i with
      | zero => exact .cons k b
      | succ i => exact .cons a (ih i b)
theorem Svs.eraseIdx {ds : List D} {vs : List V} (i : Nat) (h : Svs g m ds vs) : Svs g m (ds.eraseIdx i) (vs.eraseIdx i) := by
  induction ds generalizing vs i with
  | nil => cases h; simp; exact .nil
  | cons x ds ih =>
    cases h with
    | cons a b =>
      cases i with
      | zero => exact b
      | succ i => exact .cons a (ih i b)
end

/-- fields, by name -/
inductive Sfs (g : G) (m : Mp) : List (Str × D) → List (Str × V) → Prop
  | nil : Sfs g m [] []
  | cons {f : Str} {d : D} {v : V} {fs : List (Str × D)} {ws : List (Str × V)} : Sv g m d v → Sfs g m fs ws → Sfs g m ((f, d) :: fs) ((f, v) :: ws)
theorem Sfs.mono {g : G} {m m' : Mp} (e : Ext m m') {fs : List (Str × D)} {ws : List (Str × V)} (h : Sfs g m fs ws) : Sfs g m' fs ws := by
  induction h with
  | nil => exact .nil
  | cons a _ ih => exact .cons (a.mono e) ih
theorem Sfs.lookup {g : G} {m : Mp} {fs : List (Str × D)} {ws : List (Str × V)} (h : Sfs g m fs ws) {f : Str} {d : D} (e : fs.lookup f = some d) : ∃ v, ws.lookup f = some v ∧ Sv g m d v := by
  induction h with
  | nil => simp at e
  | @cons x d' v fs ws a _ ih =>
    rw [List.lookup_cons] at e ⊢
    by_cases q : f = x
    · subst q
      simp at e ⊢
      subst e
      exact a
    · have qb : (f == x) = false := beq_eq_false_iff_ne.mpr q
      rw [qb] at e ⊢
      exact ih e
theorem Sfs.lookup_none {g : G} {m : Mp} {fs : List (Str × D)} {ws : List (Str × V)} (h : Sfs g m fs ws) {f : Str} (e : fs.lookup f = none) : ws.lookup f = none := by
  induction h with
  | nil => rfl
  | @cons x d' v fs ws a _ ih =>
    rw [List.lookup_cons] at e ⊢
    by_cases q : f = x
    · subst q
      simp at e
    · have qb : (f == x) = false := beq_eq_false_iff_ne.mpr q
      rw [qb] at e ⊢
      exact ih e
/-- a field stored, on the clean side -/
def putD (f : Str) (d : D) : List (Str × D) → List (Str × D)
  | [] => [(f, d)]
  | (x, y) :: r => if x = f then (x, d) :: r else (x, y) :: putD f d r
theorem Sfs.put {g : G} {m : Mp} {fs : List (Str × D)} {ws : List (Str × V)} (h : Sfs g m fs ws) {f : Str} {d : D} {v : V} (k : Sv g m d v) : Sfs g m (putD f d fs) (putF f v ws) := by
  induction h with
  | nil => exact .cons k .nil
  | @cons x d' v' fs ws a b ih =>
    unfold putD putF
    by_cases q : x = f
    · rw [if_pos q, if_pos q]
      exact .cons k b
    · rw [if_neg q, if_neg q]
      exact .cons a ih
theorem Sfs.length {g : G} {m : Mp} {fs : List (Str × D)} {ws : List (Str × V)} (h : Sfs g m fs ws) : fs.length = ws.length := by
  induction h with
  | nil => rfl
  | cons _ _ ih => rw [List.length_cons, List.length_cons, ih]

def So (g : G) (m : Mp) (H : Hp) (a : Addr) : O → Prop
  | .lst xs => ∃ vs, H a = some (.lst vs) ∧ Svs g m xs vs
  | .ins c fs => ∃ C ns dx ws, g.cls c = some (C, ns) ∧ H a = some (.ins C dx ws) ∧ Sfs g m fs ws
theorem So.mono {g : G} {m m' : Mp} {H H' : Hp} {a : Addr} {o : O} (e : Ext m m') (k : H' a = H a) (h : So g m H a o) : So g m' H' a o := by
  cases o with
  | lst xs =>
    obtain ⟨vs, h1, h2⟩ := h
    exact ⟨vs, k.trans h1, h2.mono e⟩
  | ins c fs =>
    obtain ⟨C, ns, dx, ws, h1, h2, h3⟩ := h
    exact ⟨C, ns, dx, ws, h1, k.trans h2, h3.mono e⟩
theorem So.here {g : G} {m : Mp} {H : Hp} {a : Addr} {o : O} (h : So g m H a o) : ∃ u, H a = Option.some u ∧ Mut (Option.some u) := by
  cases o with
  | lst xs =>
    obtain ⟨vs, h1, _⟩ := h
    exact ⟨_, h1, trivial⟩
  | ins c fs =>
    obtain ⟨C, ns, dx, ws, _, h2, _⟩ := h
    exact ⟨_, h2, trivial⟩

/-- a slot's object stands apart -/
structure Own (m : Mp) (sl : List Sl) (i : Nat) : Prop where
  fr : m.F (m.lam i) = none
  bk : m.B (m.lam i) = none
  rh : m.lam i ∉ m.rho
  ap : ∀ (j : Nat) (o : O), sl[j]? = some (.own o) → m.lam j = m.lam i → j = i
def SlOk (g : G) (m : Mp) (sl : List Sl) (σ : L2.St) (H : Hp) (i : Nat) : Sl → Prop
  | .no => True
  | .val d => ∃ v, σ[i]? = some (some v) ∧ Sv g m d v
  | .own o => σ[i]? = some (some (.ref (m.lam i))) ∧ So g m H (m.lam i) o ∧ Own m sl i

/-- a new instance stands at the first slot -/
def IniOk (m : Mp) (sl : List Sl) : Prop := ∀ (c : Nat) (fs : List (Str × D)), sl[(0 : Nat)]? = some (.own (.ins c fs)) → m.lam 0 = m.ini
theorem IniOk.set {m : Mp} {sl : List Sl} {i : Nat} {s : Sl} (h : IniOk m sl) (hs : ∀ c fs, s ≠ .own (.ins c fs)) : IniOk m (sl.set i s) := fun c fs e => by
  by_cases q : i = 0
  · subst q
    by_cases hl : 0 < sl.length
    · rw [List.getElem?_set_self hl] at e
      exact absurd (Option.some.inj e) (hs c fs)
    · rw [List.getElem?_eq_none (by rw [List.length_set]; omega)] at e
      cases e
  · rw [List.getElem?_set_ne q] at e
    exact h c fs e
theorem iniOk_nil {m : Mp} : IniOk m [] := fun c fs e => by simp at e
structure Sim (g : G) (m : Mp) (c : CS) (σ : L2.St) (H : Hp) : Prop where
  fr : ∀ (a : Addr) (o : HO), m.F a = some o → H a = some o
  nd : m.rho.Nodup
  tb : Tb g.T m.F H
  len : m.rho.length = c.S.length
  ini : IniOk m c.sl
  ln : c.sl.length = σ.length
  st : ∀ (n : Nat) (a : Addr) (o : O), m.rho[n]? = some a → c.S[n]? = some o → m.F a = none ∧ So g m H a o
  bk : ∀ (a : Addr) (o : HO), m.B a = some o → H a = some o ∧ m.F a = none ∧ a ∉ m.rho ∧ ∀ ps, o ≠ .tbl ps
  sl : ∀ (i : Nat) (s : Sl), c.sl[i]? = some s → SlOk g m c.sl σ H i s

/-- a new thing that is frozen at once -/
theorem Sim.frozen {g : G} {m : Mp} {c : CS} {σ : L2.St} {H : Hp} (h : Sim g m c σ H) {p : Addr} {u : HO} (hp : H p = none) (nt : ∀ ps, u ≠ .tbl ps := by intro ps z; cases z) : Sim g { m with F := upd m.F p u } c σ (upd H p u) ∧ Ext m { m with F := upd m.F p u } := by
  have hF : m.F p = none := by
    cases e : m.F p with
    | none => rfl
    | some o => rw [h.fr p o e] at hp; cases hp
  have ex : Ext m { m with F := upd m.F p u } := ⟨fun _ _ z => z, fun a o z => by
    show upd m.F p u a = some o
    rw [upd_ne (ne_of_none z hF)]
    exact z, rfl, rfl⟩
  have keep : ∀ {a : Addr} {o : O}, So g m H a o → a ≠ p := fun {a o} z => by
    obtain ⟨w, e, _⟩ := z.here
    exact ne_of_none e hp
  refine ⟨⟨fun a o z => ?_, h.nd, h.tb.new ex.f (h.tb.1.put nt) hp, h.len, h.ini, h.ln, fun n a o h1 h2 => ?_, fun a o z => ?_, fun i s hs => ?_⟩, ex⟩
  · by_cases e : a = p
    · subst e
      have z' : upd m.F a u a = some o := z
      rw [upd_same] at z'
      rw [upd_same]
      exact z'
    · have z' : upd m.F p u a = some o := z
      rw [upd_ne e] at z' ⊢
      exact h.fr a o z'
  · obtain ⟨k1, k2⟩ := h.st n a o h1 h2
    have ne := keep k2
    refine ⟨?_, k2.mono ex (upd_ne ne)⟩
    show upd m.F p u a = none
    rw [upd_ne ne]
    exact k1
  · obtain ⟨z1, z2, z3, z4⟩ := h.bk a o z
    have ne : a ≠ p := ne_of_none z1 hp
    refine ⟨?_, ?_, z3, z4⟩
    · rw [upd_ne ne]
      exact z1
    · show upd m.F p u a = none
      rw [upd_ne ne]
      exact z2
  · have q := h.sl i s hs
    cases s with
    | no => trivial
    | val d =>
      obtain ⟨v, e1, e2⟩ := q
      exact ⟨v, e1, e2.mono ex⟩
    | own o =>
      obtain ⟨e1, e2, e3⟩ := q
      have ne := keep e2
      refine ⟨e1, e2.mono ex (upd_ne ne), ⟨?_, e3.bk, e3.rh, e3.ap⟩⟩
      show upd m.F p u (m.lam i) = none
      rw [upd_ne ne]
      exact e3.fr
/-- a slot's list is read as a value: from now on it doesn't change -/
theorem Sim.freeze {g : G} {m : Mp} {c : CS} {σ : L2.St} {H : Hp} (h : Sim g m c σ H) {i : Nat} {xs : List D} (hi : c.sl[i]? = some (.own (.lst xs))) :
    ∃ m' v, Ext m m' ∧ Sim g m' { c with sl := c.sl.set i (.val (.lst xs)) } σ H ∧ σ[i]? = some (some v) ∧ Sv g m' (.lst xs) v := by
  obtain ⟨e1, ⟨vs, e2, e3⟩, e4⟩ := h.sl i _ hi
  have ex : Ext m { m with F := upd m.F (m.lam i) (.lst vs) } := ⟨fun _ _ z => z, fun a o z => by
    show upd m.F _ _ a = some o
    rw [upd_ne (ne_of_none z e4.fr)]
    exact z, rfl, rfl⟩
  have val : Sv g { m with F := upd m.F (m.lam i) (.lst vs) } (.lst xs) (.ref (m.lam i)) := .lst upd_same (e3.mono ex)
  have hlt : i < c.sl.length := (List.getElem?_eq_some_iff.mp hi).1
  refine ⟨{ m with F := upd m.F (m.lam i) (.lst vs) }, .ref (m.lam i), ex, ⟨fun a o z => ?_, h.nd, h.tb.ext ex.f (h.tb.1.put fun _ z => nomatch z) (fun _ _ z => z), h.len, h.ini.set (fun _ _ z => nomatch z), by rw [← h.ln]; exact List.length_set, fun n a o h1 h2 => ?_, fun a o z => ?_, fun j s hs => ?_⟩, e1, val⟩
  · have z' : upd m.F (m.lam i) (.lst vs) a = some o := z
    by_cases e : a = m.lam i
    · subst e
      rw [upd_same] at z'
      cases z'
      exact e2
    · rw [upd_ne e] at z'
      exact h.fr a o z'
  · obtain ⟨k1, k2⟩ := h.st n a o h1 h2
    refine ⟨?_, k2.mono ex rfl⟩
    show upd m.F _ _ a = none
    rw [upd_ne (fun e => e4.rh (by rw [← e]; exact List.mem_of_getElem? h1))]
    exact k1
  · obtain ⟨z1, z2, z3, z4⟩ := h.bk a o z
    refine ⟨z1, ?_, z3, z4⟩
    show upd m.F _ _ a = none
    rw [upd_ne (fun e => by
      have z : m.B a = some o := z
      rw [e, e4.bk] at z
      cases z)]
    exact z2
  · have hs : (c.sl.set i (.val (.lst xs)))[j]? = some s := hs
    by_cases e : i = j
    · subst e
      rw [List.getElem?_set_self hlt] at hs
      cases hs
      exact ⟨_, e1, val⟩
    · rw [List.getElem?_set_ne e] at hs
      have q := h.sl j s hs
      cases s with
      | no => trivial
      | val d =>
        obtain ⟨v, q1, q2⟩ := q
        exact ⟨v, q1, q2.mono ex⟩
      | own o =>
        obtain ⟨q1, q2, q3⟩ := q
        have ne : m.lam j ≠ m.lam i := fun z => e (e4.ap j o hs z).symm
        refine ⟨q1, q2.mono ex rfl, ⟨?_, q3.bk, q3.rh, fun k o' hk z => ?_⟩⟩
        · show upd m.F _ _ (m.lam j) = none
          rw [upd_ne ne]
          exact q3.fr
        · have hk : (c.sl.set i (.val (.lst xs)))[k]? = some (.own o') := hk
          by_cases ek : i = k
          · subst ek
            rw [List.getElem?_set_self hlt] at hk
            cases hk
          · rw [List.getElem?_set_ne ek] at hk
            exact q3.ap k o' hk z
end CL
namespace CL
open PySem PySem.Spec PyProof.Rows L2

/-! ## what is wanted of a result -/
/-- an exception of the class cn, its fields vs -/
def Exr (g : G) (m : Mp) (cn : Nat) (vs : List D) (C : Value) (d : Option Addr) : Prop :=
  ∃ Ca ns dd ws, g.exc cn = some (Ca, ns) ∧ C = .ref Ca ∧ d = some dd ∧ m.F dd = some (.xd (ns.zip ws)) ∧ Svs g m vs ws ∧ vs.length = ns.length
abbrev Rl (α β : Type) := Mp → CS → Hp → α → β → Prop
def Out {α β : Type} (rel : Rl α β) (g : G) (W : WX) (σ : L2.St) (m : Mp) (r : R α) (Q : β → Hp → Prop) : Prop := match r with
  | .ok a c => ∀ m' b H', Ext m m' → Sim g m' c σ H' → rel m' c H' a b → Q b H'
  | .exc cn vs c => ∀ m' H' C d, Ext m m' → Sim g m' c σ H' → Exr g m' cn vs C d → W C d σ H'
  | .stuck => False
def rE (g : G) : Rl D V := fun m _ _ d v => Sv g m d v
def rB : Rl Bool Bool := fun _ _ _ a b => a = b
def rA (g : G) : Rl (List D) (List V) := fun m _ _ ds vs => Svs g m ds vs
def rO : Rl (Option Int) (Option Int) := fun _ _ _ a b => a = b
/-- free of all that is known -/
structure Fre (m : Mp) (c : CS) (p : Addr) : Prop where
  f : m.F p = none
  b : m.B p = none
  r : p ∉ m.rho
  o : ∀ (j : Nat) (o : O), c.sl[j]? = some (.own o) → m.lam j ≠ p
/-- a new list that nothing else refers to -/
def rL (g : G) : Rl (List D) V := fun m c H xs v => ∃ p vs, v = .ref p ∧ H p = some (.lst vs) ∧ Svs g m xs vs ∧ Fre m c p
def tX {α β : Type} (rel : Rl α β) (g : G) (W : WX) (f : M α) : L2.St → Hp → (β → Hp → Prop) → Prop := fun σ H Q => ∃ m c, Sim g m c σ H ∧ Out rel g W σ m (f c) Q
abbrev tE (g : G) (W : WX) (f : M D) : TE := tX (rE g) g W f
abbrev tT (g : G) (W : WX) (f : M Bool) : TT := tX rB g W f
abbrev tA (g : G) (W : WX) (f : M (List D)) : TA := tX (rA g) g W f
abbrev tP (g : G) (W : WX) (f : M (Option Int)) : TO := tX rO g W f
abbrev tL (g : G) (W : WX) (f : M (List D)) : TE := tX (rL g) g W f

section
variable {α β γ δ : Type} {rel : Rl α β} {rel2 : Rl γ δ} {g : G} {W : WX} {σ : L2.St} {m m' : Mp} {H : Hp} {c : CS}
theorem Out.mono {r : R α} {Q : β → Hp → Prop} (e : Ext m m') (h : Out rel g W σ m r Q) : Out rel g W σ m' r Q := by
  cases r with
  | ok a c => exact fun m2 b H' x s k => h m2 b H' (e.trans x) s k
  | exc cn vs c => exact fun m2 H' C d x s k => h m2 H' C d (e.trans x) s k
  | stuck => exact h
theorem Out.imp {r : R α} {Q Q' : β → Hp → Prop} (h : Out rel g W σ m r Q) (i : ∀ b H, Q b H → Q' b H) : Out rel g W σ m r Q' := by
  cases r with
  | ok a c => exact fun m2 b H' x s k => i b H' (h m2 b H' x s k)
  | exc cn vs c => exact h
  | stuck => exact h
/-- a value here and now -/
theorem Out.here {a : α} {b : β} {Q : β → Hp → Prop} (s : Sim g m c σ H) (h : Out rel g W σ m (.ok a c) Q) (k : rel m c H a b) : Q b H := h m b H Ext.rfl' s k
/-- the first part of two -/
theorem Out.bind {r : R α} {k : α → CS → R γ} {Q : δ → Hp → Prop} (h : Out rel2 g W σ m (r.bind k) Q) :
    Out rel g W σ m r (fun b H' => ∃ m' a c', Ext m m' ∧ Sim g m' c' σ H' ∧ rel m' c' H' a b ∧ Out rel2 g W σ m' (k a c') Q) := by
  cases r with
  | ok a c => exact fun m2 b H' x s k' => ⟨m2, a, c, x, s, k', Out.mono x h⟩
  | exc cn vs c => exact h
  | stuck => exact h
end

/-- on, if the test holds -/
def M.guard {α : Type} (b : Bool) (f : M α) : M α := fun c => match b with
  | true => f c
  | false => .stuck
theorem Out.guard {α β : Type} {rel : Rl α β} {g : G} {W : WX} {σ : L2.St} {m : Mp} {b : Bool} {f : M α} {c : CS} {Q : β → Hp → Prop} (h : Out rel g W σ m (M.guard b f c) Q) : b = true ∧ Out rel g W σ m (f c) Q := by
  cases b with
  | true => exact ⟨rfl, h⟩
  | false => exact h.elim
theorem M.guard_true {α : Type} (f : M α) (c : CS) : M.guard true f c = f c := rfl
theorem Out.opt {α β γ : Type} {rel : Rl α β} {g : G} {W : WX} {σ : L2.St} {m : Mp} {a : Option α} {c : CS} {Q : β → Hp → Prop} (h : Out rel g W σ m (M.opt a c) Q) : ∃ x, a = some x ∧ Out rel g W σ m (.ok x c) Q := by
  cases a with
  | none => exact h.elim
  | some x => exact ⟨x, rfl, h⟩

theorem pe_imp {X : Cx} {e : Expr} {t t' : TE} (h : PE X e t) (i : ∀ σ H Q, t' σ H Q → t σ H Q) : PE X e t' := ⟨fun pins s σ H Q I q => h.run pins s σ H Q I (i σ H Q q)⟩
theorem pt_imp {X : Cx} {e : Expr} {t t' : TT} (h : PT X e t) (i : ∀ σ H Q, t' σ H Q → t σ H Q) : PT X e t' := ⟨fun pins s σ H Q I q => h.run pins s σ H Q I (i σ H Q q)⟩
theorem pw_imp {X : Cx} {e : Expr} {t t' : TT} (h : PW X e t) (i : ∀ σ H Q, t' σ H Q → t σ H Q) : PW X e t' := ⟨fun wh pins s σ H Q I q => h.run wh pins s σ H Q I (i σ H Q q)⟩
theorem pa_imp {X : Cx} {es : List Expr} {t t' : TA} (h : PA X es t) (i : ∀ σ H Q, t' σ H Q → t σ H Q) : PA X es t' := ⟨fun p pins s σ H Q I q => h.run p pins s σ H Q I (i σ H Q q)⟩
theorem po_imp {X : Cx} {e : Option Expr} {t t' : TO} (h : PO X e t) (i : ∀ σ H Q, t' σ H Q → t σ H Q) : PO X e t' := ⟨fun pins s σ H Q I q => h.run pins s σ H Q I (i σ H Q q)⟩

/-! ## names, constants -/
def cVar (i : Nat) : M D := fun c => match c.sl[i]? with
  | some (.val d) => .ok d c
  | some (.own (.lst xs)) => .ok (.lst xs) { c with sl := c.sl.set i (.val (.lst xs)) }
  | _ => .stuck
section
variable {X : Cx} {g : G} {W : WX} {pos : Pos}
theorem se_var {i : Nat} {x : Str} (hN : X.N[i]? = some x) (hv : Vis X.env.scope x) (hd : (x == ("__debug__" : Str)) = false) (hcd : (x == ("__classdict__" : Str)) = false) : PE X (.Name x pos) (tE g W (cVar i)) := by
  refine pe_imp (pe_var hN hv hd hcd) fun σ H Q ⟨m, c, s, h⟩ => ?_
  unfold cVar at h
  cases e : c.sl[i]? with
  | none => rw [e] at h; exact h.elim
  | some t =>
    rw [e] at h
    cases t with
    | no => exact h.elim
    | val d =>
      obtain ⟨v, e1, e2⟩ := s.sl i _ e
      exact ⟨v, e1, h.here s e2⟩
    | own o =>
      cases o with
      | ins _ _ => exact h.elim
      | lst xs =>
        obtain ⟨m', v, x1, s1, e1, e2⟩ := s.freeze e
        exact ⟨v, e1, (h.mono x1).here s1 e2⟩
theorem se_int {i : Int} {j : Nat} : PE X (.Constant (.int i) j pos) (tE g W (M.ret (.int i))) := pe_imp pe_int fun σ H Q ⟨m, c, s, h⟩ => h.here s (.int i)
theorem se_bl {b : Bool} {j : Nat} : PE X (.Constant (.bool b) j pos) (tE g W (M.ret (.bl b))) := pe_imp pe_bl fun σ H Q ⟨m, c, s, h⟩ => h.here s (.bl b)
theorem se_non {j : Nat} : PE X (.Constant .none j pos) (tE g W (M.ret .non)) := pe_imp pe_non fun σ H Q ⟨m, c, s, h⟩ => h.here s .non
theorem se_str {x : Str} {j : Nat} : PE X (.Constant (.str x) j pos) (tE g W (M.ret (.str x))) := pe_imp pe_str fun σ H Q ⟨m, c, s, h⟩ => h.here s (.str x)
end

/-! ## operators by values -/
/-- a two-place operation by values, f its clean side -/
def S2 (g : G) (r : R2) (f : D → D → M D) : Prop := ∀ (W : WX) (m : Mp) (c : CS) (σ : L2.St) (H : Hp) (a b : D) (x y : V) (Q : VK), Sim g m c σ H → Sv g m a x → Sv g m b y → Out (rE g) g W σ m (f a b c) Q → r x y H Q
def cOp (f : D → D → M D) (a b : M D) : M D := a.bind fun x => b.bind fun y => f x y
section
variable {X : Cx} {g : G} {W : WX} {pos : Pos}
/-- the two operands -/
theorem two {r : R2} {f : D → D → M D} (h : S2 g r f) {fa fb : M D} (σ : L2.St) (H : Hp) (Q : VK) (q : tE g W (cOp f fa fb) σ H Q) : tOp r (tE g W fa) (tE g W fb) σ H Q := by
  obtain ⟨m, c, s, o⟩ := q
  refine ⟨m, c, s, o.bind.imp fun x H1 ⟨m1, a, c1, x1, s1, k1, o1⟩ => ⟨m1, c1, s1, o1.bind.imp fun y H2 ⟨m2, b, c2, x2, s2, k2, o2⟩ => ?_⟩⟩
  exact h W m2 c2 σ H2 a b x y Q s2 (k1.mono x2) k2 o2
theorem se_op {op : Operator} {r : R2} {f : D → D → M D} (ho : OpR X (binaryOp op) r) (h : S2 g r f) {a b : Expr} {fa fb : M D} (ha : PE X a (tE g W fa)) (hb : PE X b (tE g W fb)) : PE X (.BinOp a op b pos) (tE g W (cOp f fa fb)) := pe_imp (pe_op ho ha hb) (two h)
theorem se_cmp {op : CmpOp} {r : R2} {f : D → D → M D} (ho : OpR X (compareOp op) r) (h : S2 g r f) {a b : Expr} {fa fb : M D} (ha : PE X a (tE g W fa)) (hb : PE X b (tE g W fb)) (hm : behindInMarks op b = false) : PE X (.Compare a [op] [b] pos) (tE g W (cOp f fa fb)) := pe_imp (pe_cmpR ho ha hb hm) (two h)
theorem se_ix {r : R2} {f : D → D → M D} (ho : IxR X r) (h : S2 g r f) {a b : Expr} {fa fb : M D} (ha : PE X a (tE g W fa)) (hb : PE X b (tE g W fb)) (hs : PlainIx b) : PE X (.Subscript a b pos) (tE g W (cOp f fa fb)) := pe_imp (pe_ix ho ha hb hs) (two h)
/-- a bool's value as a test -/
def cB (d : D) : M Bool := fun c => match d with | .bl b => .ok b c | _ => .stuck
def asB (f : M D) : M Bool := f.bind cB
theorem st_cmp {op : CmpOp} {r : R2} {f : D → D → M D} (ho : OpR X (compareOp op) r) (h : S2 g r f) {a b : Expr} {fa fb : M D} (ha : PE X a (tE g W fa)) (hb : PE X b (tE g W fb)) (hm : behindInMarks op b = false) : PT X (.Compare a [op] [b] pos) (tT g W (asB (cOp f fa fb))) := by
  refine pt_imp (pt_cmpR ho ha hb hm) fun σ H Q ⟨m, c, s, o⟩ => ?_
  refine two (W := W) h σ H _ ⟨m, c, s, o.bind.imp fun x H1 ⟨m1, d, c1, x1, s1, k1, o1⟩ => ?_⟩
  cases k1 with
  | bl b => exact ⟨b, rfl, o1.here s1 rfl⟩
  | _ => exact o1.elim
end
end CL
namespace CL
open PySem PySem.Spec PyProof.Rows L2

/-! ## new objects -/
theorem Sim.new {g : G} {m : Mp} {c : CS} {σ : L2.St} {H : Hp} (h : Sim g m c σ H) {p : Addr} {u : HO} (hp : H p = none) : Sim g m c σ (upd H p u) ∧ Fre m c p := by
  have hF : m.F p = none := by
    cases e : m.F p with
    | none => rfl
    | some o => rw [h.fr p o e] at hp; cases hp
  have hB : m.B p = none := by
    cases e : m.B p with
    | none => rfl
    | some o => rw [(h.bk p o e).1] at hp; cases hp
  have keep : ∀ {a : Addr} {o : O}, So g m H a o → a ≠ p := fun {a o} z => by
    obtain ⟨w, e, _⟩ := z.here
    exact ne_of_none e hp
  refine ⟨⟨fun a o z => ?_, h.nd, h.tb.new (fun _ _ z => z) h.tb.1 hp, h.len, h.ini, h.ln, fun n a o h1 h2 => ?_, fun a o z => ?_, fun i s hs => ?_⟩, ⟨hF, hB, fun hm => ?_, fun j o hj z => ?_⟩⟩
  · rw [upd_ne (ne_of_none z hF)]
    exact h.fr a o z
  · obtain ⟨k1, k2⟩ := h.st n a o h1 h2
    exact ⟨k1, k2.mono Ext.rfl' (upd_ne (keep k2))⟩
  · obtain ⟨z1, z2⟩ := h.bk a o z
    rw [upd_ne (ne_of_none z1 hp)]
    exact ⟨z1, z2⟩
  · have q := h.sl i s hs
    cases s with
    | no => trivial
    | val d => exact q
    | own o =>
      obtain ⟨e1, e2, e3⟩ := q
      exact ⟨e1, e2.mono Ext.rfl' (upd_ne (keep e2)), e3⟩
  · obtain ⟨n, hn⟩ := List.getElem?_of_mem hm
    have hlt : n < c.S.length := by
      rw [← h.len]
      exact (List.getElem?_eq_some_iff.mp hn).1
    obtain ⟨_, k2⟩ := h.st n p _ hn (List.getElem?_eq_getElem hlt)
    exact keep k2 rfl
  · obtain ⟨_, e2, _⟩ := h.sl j _ hj
    exact keep e2 z
section
variable {g : G} {W : WX} {m : Mp} {c : CS} {σ : L2.St} {H : Hp} {ds : List D} {vs : List V} {Q : VK} {p : Addr}
theorem out_newL (s : Sim g m c σ H) (hv : Svs g m ds vs) (o : Out (rE g) g W σ m (.ok (.lst ds) c) Q) (hp : H p = none) : Q (.ref p) (upd H p (.lst vs)) := by
  obtain ⟨s1, x1⟩ := s.frozen (u := .lst vs) hp
  exact (o.mono x1).here s1 (.lst upd_same (hv.mono x1))
theorem out_newT (s : Sim g m c σ H) (hv : Svs g m ds vs) (o : Out (rE g) g W σ m (.ok (.tup ds) c) Q) (hp : H p = none) : Q (.ref p) (upd H p (.tup vs)) := by
  obtain ⟨s1, x1⟩ := s.frozen (u := .tup vs) hp
  exact (o.mono x1).here s1 (.tup (SqT.of upd_same) (hv.mono x1))
theorem out_freshL (s : Sim g m c σ H) (hv : Svs g m ds vs) (o : Out (rL g) g W σ m (.ok ds c) Q) (hp : H p = none) : Q (.ref p) (upd H p (.lst vs)) := by
  obtain ⟨s1, f⟩ := s.new (u := .lst vs) hp
  exact o.here s1 ⟨p, vs, rfl, upd_same, hv, f⟩
end
/-- a fresh list may be frozen -/
def froz (f : M (List D)) : M D := f.bind fun xs => M.ret (.lst xs)
theorem Sim.freezeL {g : G} {m : Mp} {c : CS} {σ : L2.St} {H : Hp} {xs : List D} {v : V} (h : Sim g m c σ H) (k : rL g m c H xs v) : ∃ m', Ext m m' ∧ Sim g m' c σ H ∧ Sv g m' (.lst xs) v := by
  obtain ⟨p, vs, rfl, hp, hv, f⟩ := k
  have ex : Ext m { m with F := upd m.F p (.lst vs) } := ⟨fun _ _ z => z, fun a o z => by
    show upd m.F _ _ a = some o
    rw [upd_ne (ne_of_none z f.f)]
    exact z, rfl, rfl⟩
  refine ⟨{ m with F := upd m.F p (.lst vs) }, ex, ⟨fun a o z => ?_, h.nd, h.tb.ext ex.f (h.tb.1.put fun _ z => nomatch z) (fun _ _ z => z), h.len, h.ini, h.ln, fun n a o h1 h2 => ?_, fun a o z => ?_, fun i s hs => ?_⟩, .lst upd_same (hv.mono ex)⟩
  · have z' : upd m.F p (.lst vs) a = some o := z
    by_cases e : a = p
    · subst e
      rw [upd_same] at z'
      cases z'
      exact hp
    · rw [upd_ne e] at z'
      exact h.fr a o z'
  · obtain ⟨k1, k2⟩ := h.st n a o h1 h2
    refine ⟨?_, k2.mono ex rfl⟩
    show upd m.F _ _ a = none
    rw [upd_ne (fun e => f.r (by rw [← e]; exact List.mem_of_getElem? h1))]
    exact k1
  · obtain ⟨z1, z2, z3, z4⟩ := h.bk a o z
    refine ⟨z1, ?_, z3, z4⟩
    show upd m.F _ _ a = none
    rw [upd_ne (fun e => by
      have z : m.B a = some o := z
      rw [e, f.b] at z
      cases z)]
    exact z2
  · have q := h.sl i s hs
    cases s with
    | no => trivial
    | val d =>
      obtain ⟨v, q1, q2⟩ := q
      exact ⟨v, q1, q2.mono ex⟩
    | own o =>
      obtain ⟨q1, q2, q3⟩ := q
      refine ⟨q1, q2.mono ex rfl, ⟨?_, q3.bk, q3.rh, q3.ap⟩⟩
      show upd m.F _ _ (m.lam i) = none
      rw [upd_ne (f.o i o hs)]
      exact q3.fr
theorem se_froz {X : Cx} {g : G} {W : WX} {e : Expr} {f : M (List D)} (h : PE X e (tL g W f)) : PE X e (tE g W (froz f)) := by
  refine pe_imp h fun σ H Q ⟨m, c, s, o⟩ => ⟨m, c, s, o.bind.imp fun v H1 ⟨m1, xs, c1, x1, s1, k1, o1⟩ => ?_⟩
  obtain ⟨m2, x2, s2, k2⟩ := s1.freezeL k1
  exact (o1.mono x2).here s2 k2

/-! ## what is a list, a tuple -/
def CS.seqL (c : CS) : D → Option (List D)
  | .lst xs => some xs
  | .ref n => match c.S[n]? with
    | some (.lst xs) => some xs
    | _ => none
  | _ => none
theorem Sim.seqL {g : G} {m : Mp} {c : CS} {σ : L2.St} {H : Hp} (s : Sim g m c σ H) {d : D} {xs : List D} (e : c.seqL d = some xs) {v : V} (h : Sv g m d v) : ∃ p vs, v = .ref p ∧ H p = some (.lst vs) ∧ Svs g m xs vs := by
  cases h with
  | lst h1 h2 =>
    cases e
    exact ⟨_, _, rfl, s.fr _ _ h1, h2⟩
  | @ref n a h1 =>
    have e : (match c.S[n]? with
      | some (.lst xs) => some xs
      | _ => none) = some xs := e
    cases q : c.S[n]? with
    | none => rw [q] at e; cases e
    | some o =>
      rw [q] at e
      cases o with
      | ins _ _ => cases e
      | lst ys =>
        cases e
        obtain ⟨_, vs, k1, k2⟩ := s.st n a _ h1 q
        exact ⟨a, vs, rfl, k1, k2⟩
  | _ => cases e
theorem Sim.sqT {g : G} {m : Mp} {c : CS} {σ : L2.St} {H : Hp} (s : Sim g m c σ H) {a : Addr} {xs : List V} (h : SqT g.K m.F a xs) : SqT g.K H a xs := sqT_mono s.fr h
theorem Sim.sqL {g : G} {m : Mp} {c : CS} {σ : L2.St} {H : Hp} (s : Sim g m c σ H) {a : Addr} {xs : List V} (h : SqL g.K m.F a xs) : SqL g.K H a xs := sqL_mono s.fr h

/-! ## the operators -/
def szOk (n : Nat) : Bool := decide (n ≤ sizeLine)
def dAdd : D → D → M D
  | .int i, .int j => M.ret (.int (i + j))
  | .str x, .str y => M.guard (szOk (x.length + y.length)) (M.ret (.str (x ++ y)))
  | .tup xs, .tup ys => M.guard (szOk (xs.length + ys.length)) (M.ret (.tup (xs ++ ys)))
  | _, _ => fun _ => .stuck
def rAdd3 (K : PySem.W.Frag) : R2 := fun x y H Q => (∃ i j, x = .int i ∧ y = .int j ∧ Q (.int (i + j)) H) ∨ (∃ i j, x = .str i ∧ y = .str j ∧ i.length + j.length ≤ sizeLine ∧ Q (.str (i ++ j)) H) ∨ rCatA K x y H Q
theorem op_add3 {X : Cx} : OpR X (binaryOp .Add) (rAdd3 X.K) := OpR.or op_add (OpR.or op_add_str op_catA)
theorem s2_add {g : G} : S2 g (rAdd3 g.K) dAdd := by
  intro W m c σ H a b x y Q s ha hb o
  cases ha with
  | int i =>
    cases hb with
    | int j => exact .inl ⟨i, j, rfl, rfl, o.here s (.int _)⟩
    | _ => exact o.elim
  | str i =>
    cases hb with
    | str j =>
      obtain ⟨hz, o⟩ := Out.guard o
      exact .inr (.inl ⟨i, j, rfl, rfl, of_decide_eq_true hz, o.here s (.str _)⟩)
    | _ => exact o.elim
  | @tup a xs vs h1 h2 =>
    cases hb with
    | @tup b ys ws k1 k2 =>
      obtain ⟨hz, o⟩ := Out.guard o
      have hz : xs.length + ys.length ≤ sizeLine := of_decide_eq_true hz
      have e1 := h2.length
      have e2 := k2.length
      · refine .inr (.inr ⟨a, b, vs, ws, rfl, rfl, s.sqT h1, s.sqT k1, by omega, fun e => ?_, fun _ e => ?_, fun _ _ p hp => ?_⟩)
        · subst e
          cases h2
          exact o.here s (.tup k1 k2)
        · subst e
          cases k2
          have o' : Out (rE g) g W σ m (.ok (.tup (xs ++ [])) c) Q := o
          rw [List.append_nil] at o'
          exact o'.here s (.tup h1 h2)
        · exact out_newT s (h2.append k2) o hp
    | _ => exact o.elim
  | _ => exact o.elim
/-- list + list, a fresh list -/
def dCat (a b : D) : M (List D) := fun c => match c.seqL a, c.seqL b with
  | some xs, some ys => M.guard (szOk (xs.length + ys.length)) (M.ret (xs ++ ys)) c
  | _, _ => .stuck
def S2L (g : G) (r : R2) (f : D → D → M (List D)) : Prop := ∀ (W : WX) (m : Mp) (c : CS) (σ : L2.St) (H : Hp) (a b : D) (x y : V) (Q : VK), Sim g m c σ H → Sv g m a x → Sv g m b y → Out (rL g) g W σ m (f a b c) Q → r x y H Q
theorem s2_cat {g : G} : S2L g rCat dCat := by
  intro W m c σ H a b x y Q s ha hb o
  unfold dCat at o
  cases e1 : c.seqL a with
  | none => rw [e1] at o; exact o.elim
  | some xs =>
    cases e2 : c.seqL b with
    | none => rw [e1, e2] at o; exact o.elim
    | some ys =>
      rw [e1, e2] at o
      obtain ⟨p, vs, rfl, hp, hv⟩ := s.seqL e1 ha
      obtain ⟨q, ws, rfl, hq, hw⟩ := s.seqL e2 hb
      obtain ⟨hz, o⟩ := Out.guard o
      have hz : xs.length + ys.length ≤ sizeLine := of_decide_eq_true hz
      · have l1 := hv.length
        have l2 := hw.length
        exact ⟨p, q, vs, ws, rfl, rfl, hp, hq, by omega, fun r hr => out_freshL s (hv.append hw) o hr⟩
/-- list * int -/
def dRep (a b : D) : M (List D) := fun c => match c.seqL a, b with
  | some xs, .int k => M.guard (decide (-(2 ^ 63) ≤ k ∧ k < 2 ^ 63) && szOk (xs.length * k.toNat)) (M.ret (List.replicate k.toNat xs).flatten) c
  | _, _ => .stuck
theorem Svs.rep {g : G} {m : Mp} {ds : List D} {vs : List V} (h : Svs g m ds vs) (k : Nat) : Svs g m (List.replicate k ds).flatten (List.replicate k vs).flatten := by
  induction k with
  | zero => exact .nil
  | succ k ih =>
    rw [List.replicate_succ, List.replicate_succ, List.flatten_cons, List.flatten_cons]
    exact h.append ih
theorem s2_rep {g : G} : S2L g rRep dRep := by
  intro W m c σ H a b x y Q s ha hb o
  unfold dRep at o
  cases e1 : c.seqL a with
  | none => rw [e1] at o; exact o.elim
  | some xs =>
    rw [e1] at o
    obtain ⟨p, vs, rfl, hp, hv⟩ := s.seqL e1 ha
    cases hb with
    | int k =>
      obtain ⟨hz, o⟩ := Out.guard o
      rw [Bool.and_eq_true] at hz
      · have hk := of_decide_eq_true hz.1
        have hz : xs.length * k.toNat ≤ sizeLine := of_decide_eq_true hz.2
        exact ⟨p, k, vs, rfl, rfl, hp, hk.1, hk.2, by rw [← hv.length]; exact hz, fun r hr => out_freshL s (hv.rep _) o hr⟩
    | _ => exact o.elim
def cOpL (f : D → D → M (List D)) (a b : M D) : M (List D) := a.bind fun x => b.bind fun y => f x y
section
variable {X : Cx} {g : G} {W : WX} {pos : Pos}
theorem twoL {r : R2} {f : D → D → M (List D)} (h : S2L g r f) {fa fb : M D} (σ : L2.St) (H : Hp) (Q : VK) (q : tL g W (cOpL f fa fb) σ H Q) : tOp r (tE g W fa) (tE g W fb) σ H Q := by
  obtain ⟨m, c, s, o⟩ := q
  refine ⟨m, c, s, o.bind.imp fun x H1 ⟨m1, a, c1, x1, s1, k1, o1⟩ => ⟨m1, c1, s1, o1.bind.imp fun y H2 ⟨m2, b, c2, x2, s2, k2, o2⟩ => ?_⟩⟩
  exact h W m2 c2 σ H2 a b x y Q s2 (k1.mono x2) k2 o2
theorem sl_op {op : Operator} {r : R2} {f : D → D → M (List D)} (ho : OpR X (binaryOp op) r) (h : S2L g r f) {a b : Expr} {fa fb : M D} (ha : PE X a (tE g W fa)) (hb : PE X b (tE g W fb)) : PE X (.BinOp a op b pos) (tL g W (cOpL f fa fb)) := pe_imp (pe_op ho ha hb) (twoL h)
end
/-- ints alone -/
def dI2 (C : Int → Int → Bool) (f : Int → Int → D) : D → D → M D
  | .int i, .int j => M.guard (C i j) (M.ret (f i j))
  | _, _ => fun _ => .stuck
theorem s2_int {g : G} {C : Int → Int → Bool} {C' : Int → Int → Prop} {f : Int → Int → D} {f' : Int → Int → V} (hC : ∀ i j, C i j = true → C' i j) (hf : ∀ m i j, Sv g m (f i j) (f' i j)) : S2 g (rI C' f') (dI2 C f) := by
  intro W m c σ H a b x y Q s ha hb o
  cases ha with
  | int i =>
    cases hb with
    | int j =>
      obtain ⟨hz, o⟩ := Out.guard o
      exact ⟨i, j, rfl, rfl, hC i j hz, o.here s (hf m i j)⟩
    | _ => exact o.elim
  | _ => exact o.elim
theorem s2_int0 {g : G} {f : Int → Int → D} {f' : Int → Int → V} (hf : ∀ m i j, Sv g m (f i j) (f' i j)) : S2 g (rI0 f') (dI2 (fun _ _ => true) f) := by
  intro W m c σ H a b x y Q s ha hb o
  cases ha with
  | int i =>
    cases hb with
    | int j => exact ⟨i, j, rfl, rfl, o.here s (hf m i j)⟩
    | _ => exact o.elim
  | _ => exact o.elim
def cMul (i j : Int) : Bool := decide ((-(2 ^ 64) < i ∧ i < 2 ^ 64) ∨ (-(2 ^ 64) < j ∧ j < 2 ^ 64))
def cDiv (i j : Int) : Bool := decide (0 < j ∧ j < 1073741824)
def cPow (i j : Int) : Bool := decide (0 ≤ j ∧ j ≤ 1000000 ∧ i.natAbs < 2 ^ 64)
abbrev dSub : D → D → M D := dI2 (fun _ _ => true) fun i j => .int (i - j)
abbrev dMul : D → D → M D := dI2 cMul fun i j => .int (i * j)
abbrev dDiv : D → D → M D := dI2 cDiv fun i j => .int (i / j)
abbrev dMod : D → D → M D := dI2 (fun _ j => decide (0 < j)) fun i j => .int (i % j)
abbrev dPow : D → D → M D := dI2 cPow fun i j => .int (i ^ j.toNat)
abbrev dLt : D → D → M D := dI2 (fun _ _ => true) fun i j => .bl (decide (i < j))
abbrev dLe : D → D → M D := dI2 (fun _ _ => true) fun i j => .bl (decide (i ≤ j))
abbrev dGt : D → D → M D := dI2 (fun _ _ => true) fun i j => .bl (decide (j < i))
abbrev dGe : D → D → M D := dI2 (fun _ _ => true) fun i j => .bl (decide (j ≤ i))
section
variable {g : G}
theorem s2_sub : S2 g (rI0 fun i j => .int (i - j)) dSub := s2_int0 fun _ _ _ => .int _
theorem s2_mul : S2 g (rI CMul fun i j => .int (i * j)) dMul := s2_int (C := cMul) (fun i j h => (of_decide_eq_true h : (-(2 ^ 64) < i ∧ i < 2 ^ 64) ∨ (-(2 ^ 64) < j ∧ j < 2 ^ 64))) fun _ _ _ => .int _
theorem s2_div : S2 g (rI CDiv fun i j => .int (i / j)) dDiv := s2_int (C := cDiv) (fun i j h => (of_decide_eq_true h : 0 < j ∧ j < 1073741824)) fun _ _ _ => .int _
theorem s2_mod : S2 g (rI (fun _ j => 0 < j) fun i j => .int (i % j)) dMod := s2_int (fun _ _ h => of_decide_eq_true h) fun _ _ _ => .int _
theorem s2_pow : S2 g (rI CPow fun i j => .int (i ^ j.toNat)) dPow := s2_int (C := cPow) (fun i j h => (of_decide_eq_true h : 0 ≤ j ∧ j ≤ 1000000 ∧ i.natAbs < 2 ^ 64)) fun _ _ _ => .int _
theorem s2_lt : S2 g (rI0 fun i j => .bl (decide (i < j))) dLt := s2_int0 fun _ _ _ => .bl _
theorem s2_le : S2 g (rI0 fun i j => .bl (decide (i ≤ j))) dLe := s2_int0 fun _ _ _ => .bl _
theorem s2_gt : S2 g (rI0 fun i j => .bl (decide (j < i))) dGt := s2_int0 fun _ _ _ => .bl _
theorem s2_ge : S2 g (rI0 fun i j => .bl (decide (j ≤ i))) dGe := s2_int0 fun _ _ _ => .bl _
end

/-! ## equality of data -/
mutual
def toP : D → Option PyData
  | .non => some .none
  | .bl b => some (.bool b)
  | .int i => some (.int i)
  | .str x => some (.str x)
  | .tup xs => (toPs xs).map .tuple
  | .lst xs => (toPs xs).map .list
  | .obj _ _ => none
  | .ref _ => none
  | .scr _ => none
  | .exn _ _ => none
def toPs : List D → Option (List PyData)
  | [] => some []
  | d :: ds => match toP d, toPs ds with
    | some p, some ps => some (p :: ps)
    | _, _ => none
end
mutual
theorem Sim.dp {g : G} {m : Mp} {c : CS} {σ : L2.St} {H : Hp} (s : Sim g m c σ H) : ∀ {d : D} {v : V} {p : PyData}, Sv g m d v → toP d = some p → Dp g.K H v p
  | _, _, _, .non, e => by
    simp only [toP, Option.some.injEq] at e
    subst e
    exact .non
  | _, _, _, .bl b, e => by
    simp only [toP, Option.some.injEq] at e
    subst e
    exact .bl b
  | _, _, _, .int i, e => by
    simp only [toP, Option.some.injEq] at e
    subst e
    exact .int i
  | _, _, _, .str x, e => by
    simp only [toP, Option.some.injEq] at e
    subst e
    exact .str x
  | .tup xs, _, _, .tup h1 h2, e => by
    simp only [toP, Option.map_eq_some_iff] at e
    obtain ⟨ps, e1, e2⟩ := e
    subst e2
    exact .tup (s.sqT h1) (Sim.dps s h2 e1)
  | .lst xs, _, _, .lst h1 h2, e => by
    simp only [toP, Option.map_eq_some_iff] at e
    obtain ⟨ps, e1, e2⟩ := e
    subst e2
    exact .lst (SqL.of (s.fr _ _ h1)) (Sim.dps s h2 e1)
  | _, _, _, .obj _ _ _ _, e => by simp [toP] at e
  | _, _, _, .ref _, e => by simp [toP] at e
  | _, _, _, .scr _, e => by simp [toP] at e
  | _, _, _, .exn _ _ _ _ _, e => by simp [toP] at e
theorem Sim.dps {g : G} {m : Mp} {c : CS} {σ : L2.St} {H : Hp} (s : Sim g m c σ H) : ∀ {ds : List D} {vs : List V} {ps : List PyData}, Svs g m ds vs → toPs ds = some ps → DpAll g.K H vs ps
  | _, _, _, .nil, e => by
    simp only [toPs, Option.some.injEq] at e
    subst e
    exact .nil
  | d :: ds, _, _, .cons h1 h2, e => by
    rw [toPs] at e
    cases e1 : toP d with
    | none => rw [e1] at e; cases e
    | some p =>
      cases e2 : toPs ds with
      | none => rw [e1, e2] at e; cases e
      | some ps =>
        rw [e1, e2] at e
        cases e
        exact .cons (Sim.dp s h1 e1) (Sim.dps s h2 e2)
end
/-- two data, and what is asked of them -/
def dP2 (f : PyData → PyData → D) (a b : D) : M D := match toP a, toP b with
  | some p, some q => M.guard (SeqAt.shaped p && SeqAt.shaped q) (M.ret (f p q))
  | _, _ => fun _ => .stuck
abbrev dEq : D → D → M D := dP2 fun p q => .bl (PyData.eqv p q)
abbrev dNe : D → D → M D := dP2 fun p q => .bl (!PyData.eqv p q)
theorem s2_dp {g : G} {f : PyData → PyData → Bool} : S2 g (fun x y H Q => ∃ d e, Dp g.K H x d ∧ Dp g.K H y e ∧ SeqAt.shaped d = true ∧ SeqAt.shaped e = true ∧ Q (.bl (f d e)) H) (dP2 fun p q => .bl (f p q)) := by
  intro W m c σ H a b x y Q s ha hb o
  unfold dP2 at o
  cases e1 : toP a with
  | none => rw [e1] at o; exact o.elim
  | some p =>
    cases e2 : toP b with
    | none => rw [e1, e2] at o; exact o.elim
    | some q =>
      rw [e1, e2] at o
      obtain ⟨hz, o⟩ := Out.guard o
      rw [Bool.and_eq_true] at hz
      · exact ⟨p, q, s.dp ha e1, s.dp hb e2, hz.1, hz.2, o.here s (.bl _)⟩
theorem s2_eq {g : G} : S2 g (rEqD g.K) dEq := s2_dp
theorem s2_ne {g : G} : S2 g (rNeD g.K) dNe := s2_dp
/-- is None, is not None -/
def D.isNon : D → Bool
  | .non => true
  | _ => false
def dIs : D → D → M D := fun a b => match b with
  | .non => M.ret (.bl a.isNon)
  | _ => fun _ => .stuck
def dIsNot : D → D → M D := fun a b => match b with
  | .non => M.ret (.bl (!a.isNon))
  | _ => fun _ => .stuck
theorem Sv.isNon {g : G} {m : Mp} {d : D} {v : V} (h : Sv g m d v) : decide (v = .non) = d.isNon := by
  cases h <;> first | rfl | exact decide_eq_false (fun z => nomatch z)
theorem s2_is {g : G} : S2 g (fun x y H Q => y = .non ∧ Q (.bl (decide (x = .non))) H) dIs := by
  intro W m c σ H a b x y Q s ha hb o
  cases hb with
  | non => exact ⟨rfl, by rw [ha.isNon]; exact o.here s (.bl _)⟩
  | _ => exact o.elim
theorem s2_isnot {g : G} : S2 g (fun x y H Q => y = .non ∧ Q (.bl (!decide (x = .non))) H) dIsNot := by
  intro W m c σ H a b x y Q s ha hb o
  cases hb with
  | non => exact ⟨rfl, by rw [ha.isNon]; exact o.here s (.bl _)⟩
  | _ => exact o.elim

/-! ## places -/
def dIx (a b : D) : M D := fun c => match b with
  | .int i => match a with
    | .tup xs => M.opt (atI xs i) c
    | .str x => M.guard (szOk x.length) (M.opt ((atI x.cps.toList i).map fun k => .str ⟨#[k]⟩)) c
    | _ => match c.seqL a with
      | some xs => M.opt (atI xs i) c
      | none => .stuck
  | _ => .stuck
theorem Svs.atI {g : G} {m : Mp} {ds : List D} {vs : List V} (h : Svs g m ds vs) {i : Int} {d : D} (e : L2.atI ds i = some d) : ∃ v, L2.atI vs i = some v ∧ Sv g m d v := by
  unfold L2.atI at e ⊢
  rw [← h.length]
  cases q : ixN ds.length i with
  | none => rw [q] at e; cases e
  | some j =>
    rw [q] at e
    exact h.get (i := j) e
theorem s2_ix {g : G} : S2 g (rIx g.K) dIx := by
  intro W m c σ H a b x y Q s ha hb o
  have hb0 := hb
  cases hb with
  | int i =>
    have go : ∀ {xs : List D} {vs : List V}, Svs g m xs vs → Out (rE g) g W σ m (M.opt (atI xs i) c) Q → ∃ v, atI vs i = some v ∧ Q v H := fun {xs vs} hv o => by
      cases e : atI xs i with
      | none => rw [e] at o; exact o.elim
      | some d =>
        rw [e] at o
        obtain ⟨v, e1, e2⟩ := hv.atI e
        exact ⟨v, e1, o.here s e2⟩
    have lst : ∀ {xs : List D}, c.seqL a = some xs → Out (rE g) g W σ m (M.opt (atI xs i) c) Q → rIx g.K x (.int i) H Q := fun {xs} e o => by
      obtain ⟨p, vs, rfl, hp, hv⟩ := s.seqL e ha
      obtain ⟨v, e1, q⟩ := go hv o
      exact .inl ⟨p, vs, i, v, rfl, rfl, SqL.of hp, e1, q⟩
    unfold dIx at o
    dsimp only at o
    cases ha with
    | @tup p xs vs h1 h2 =>
      obtain ⟨v, e1, q⟩ := go h2 o
      exact .inr (.inl ⟨p, vs, i, v, rfl, rfl, s.sqT h1, e1, q⟩)
    | str z =>
      obtain ⟨hz, o⟩ := Out.guard o
      · cases e : atI z.cps.toList i with
        | none => rw [e] at o; exact o.elim
        | some k =>
          rw [e] at o
          exact .inr (.inr ⟨z, i, k, rfl, rfl, of_decide_eq_true hz, e, o.here s (.str _)⟩)
    | @lst p xs vs h1 h2 => exact lst rfl o
    | @ref n p h1 =>
      dsimp only at o
      cases e : c.seqL (.ref n) with
      | none => rw [e] at o; exact o.elim
      | some xs =>
        rw [e] at o
        exact lst e o
    | _ => exact o.elim
  | _ => exact o.elim
/-! ## in -/
def flatP : PyData → Bool
  | .list _ => false
  | .tuple _ => false
  | .dict _ => false
  | _ => true
theorem flat_of {K : PySem.W.Frag} {H : Hp} {v : V} {p : PyData} (h : Dp K H v p) (f : flatP p = true) : flatV v = true := by
  cases h <;> first | rfl | cases f
theorem eqV_of {K : PySem.W.Frag} {H : Hp} {x y : V} {p q : PyData} (h : Dp K H x p) (k : Dp K H y q) (f : flatP p = true) (f' : flatP q = true) : eqV x y = PyData.eqv p q := by
  cases h <;> first | (cases f; done) | (cases k <;> first | (cases f'; done) | rfl | (simp [eqV, PyData.eqv]; done) | (rename_i a b; cases a <;> rfl) | (rename_i a b; cases b <;> rfl))
theorem flats_of {K : PySem.W.Frag} {H : Hp} : ∀ {vs : List V} {ps : List PyData}, DpAll K H vs ps → ps.all flatP = true → vs.all flatV = true
  | _, _, .nil, _ => rfl
  | _, _, .cons h r, f => by
    rw [List.all_cons, Bool.and_eq_true] at f
    rw [List.all_cons, Bool.and_eq_true]
    exact ⟨flat_of h f.1, flats_of r f.2⟩
theorem inV_of {K : PySem.W.Frag} {H : Hp} {x : V} {p : PyData} (h : Dp K H x p) (f : flatP p = true) : ∀ {vs : List V} {ps : List PyData}, DpAll K H vs ps → ps.all flatP = true → inV x vs = ps.any fun z => PyData.eqv z p
  | _, _, .nil, _ => rfl
  | _, _, .cons k r, f' => by
    rw [List.all_cons, Bool.and_eq_true] at f'
    have ih := inV_of h f r f'.2
    unfold inV at ih ⊢
    rw [List.any_cons, List.any_cons, ih, eqV_of k h f'.1 f]
def ynot (neg b : Bool) : Bool := if neg then !b else b
def dIn (neg : Bool) (a b : D) : M D := fun c => match b with
  | .tup xs => match toP a, toPs xs with
    | some p, some ps => M.guard (flatP p && ps.all flatP) (M.ret (.bl (ynot neg (ps.any fun z => PyData.eqv z p)))) c
    | _, _ => .stuck
  | .lst xs => match toP a, toPs xs with
    | some p, some ps => M.guard (SeqAt.shaped p && SeqAt.shaped (.list ps)) (M.ret (.bl (ynot neg (ps.any fun z => PyData.eqv z p)))) c
    | _, _ => .stuck
  | _ => .stuck
def rInA (K : PySem.W.Frag) (neg : Bool) : R2 := fun x y H Q => rIn K neg x y H Q ∨ ∃ d ds, Dp K H x d ∧ Dp K H y (.list ds) ∧ SeqAt.shaped d = true ∧ SeqAt.shaped (.list ds) = true ∧ Q (.bl (ynot neg (ds.any fun z => PyData.eqv z d))) H
theorem op_inA {X : Cx} (hu : X.A.units + 65 < cLine) : OpR X (compareOp .In) (rInA X.K false) := OpR.or op_in_seq (op_inD hu)
theorem op_notInA {X : Cx} (hu : X.A.units + 65 < cLine) : OpR X (compareOp .NotIn) (rInA X.K true) := OpR.or op_notIn_seq (op_notInD hu)
theorem s2_in {g : G} {neg : Bool} : S2 g (rInA g.K neg) (dIn neg) := by
  intro W m c σ H a b x y Q s ha hb o
  cases hb with
  | @tup t xs vs h1 h2 =>
    have o : Out (rE g) g W σ m (match toP a, toPs xs with
      | some p, some ps => M.guard (flatP p && ps.all flatP) (M.ret (.bl (ynot neg (ps.any fun z => PyData.eqv z p)))) c
      | _, _ => .stuck) Q := o
    cases e1 : toP a with
    | none => rw [e1] at o; exact o.elim
    | some p =>
      cases e2 : toPs xs with
      | none => rw [e1, e2] at o; exact o.elim
      | some ps =>
        rw [e1, e2] at o
        obtain ⟨hz, o⟩ := Out.guard o
        rw [Bool.and_eq_true] at hz
        have d1 := s.dp ha e1
        have d2 := s.dps h2 e2
        refine .inl ⟨t, vs, rfl, .inr (s.sqT h1), flat_of d1 hz.1, flats_of d2 hz.2, ?_⟩
        rw [inV_of d1 hz.1 d2 hz.2]
        exact o.here s (.bl _)
  | @lst t xs vs h1 h2 =>
    have o : Out (rE g) g W σ m (match toP a, toPs xs with
      | some p, some ps => M.guard (SeqAt.shaped p && SeqAt.shaped (.list ps)) (M.ret (.bl (ynot neg (ps.any fun z => PyData.eqv z p)))) c
      | _, _ => .stuck) Q := o
    cases e1 : toP a with
    | none => rw [e1] at o; exact o.elim
    | some p =>
      cases e2 : toPs xs with
      | none => rw [e1, e2] at o; exact o.elim
      | some ps =>
        rw [e1, e2] at o
        obtain ⟨hz, o⟩ := Out.guard o
        rw [Bool.and_eq_true] at hz
        exact .inr ⟨p, ps, s.dp ha e1, .lst (SqL.of (s.fr _ _ h1)) (s.dps h2 e2), hz.1, hz.2, o.here s (.bl _)⟩
  | _ => exact o.elim
/-! ## slices -/
def dCutT (a : D) (lo hi : Option Int) : M D := match a with
  | .tup xs => M.ret (.tup ((xs.drop (HT.sIx xs.length 0 lo)).take (HT.sIx xs.length xs.length hi - HT.sIx xs.length 0 lo)))
  | .str x => M.guard (szOk x.length) (M.ret (.str (cutS x lo hi)))
  | _ => fun _ => .stuck
def dCutL (a : D) (lo hi : Option Int) : M (List D) := fun c => match a with
  | .scr ns => .ok (((ns.drop (HT.sIx ns.length 0 lo)).take (HT.sIx ns.length ns.length hi - HT.sIx ns.length 0 lo)).map D.int) c
  | _ => match c.seqL a with
    | some xs => .ok ((xs.drop (HT.sIx xs.length 0 lo)).take (HT.sIx xs.length xs.length hi - HT.sIx xs.length 0 lo)) c
    | none => .stuck
theorem svs_ints {g : G} {m : Mp} : ∀ ns : List Int, Svs g m (ns.map D.int) (ns.map V.int)
  | [] => .nil
  | n :: ns => .cons (.int n) (svs_ints ns)
theorem cut_all {α : Type} {xs : List α} {lo hi : Option Int} (h : HT.sIx xs.length 0 lo = 0 ∧ HT.sIx xs.length xs.length hi = xs.length) : (xs.drop (HT.sIx xs.length 0 lo)).take (HT.sIx xs.length xs.length hi - HT.sIx xs.length 0 lo) = xs := by
  rw [h.1, h.2]
  simp
def rCutT (K : PySem.W.Frag) : V → Option Int → Option Int → Hp → VK → Prop := fun x lo hi H Q => rSlA K x lo hi H Q ∨ rSlS x lo hi H Q
def cCutT (a : M D) (lo hi : M (Option Int)) : M D := a.bind fun x => lo.bind fun l => hi.bind fun u => dCutT x l u
def cCutL (a : M D) (lo hi : M (Option Int)) : M (List D) := a.bind fun x => lo.bind fun l => hi.bind fun u => dCutL x l u
section
variable {X : Cx} {g : G} {W : WX} {pos p2 : Pos} {e : Expr} {lo hi : Option Expr} {fa : M D} {fl fh : M (Option Int)}
theorem se_cutT (hK : X.K = g.K) (he : PE X e (tE g W fa)) (hl : PO X lo (tP g W fl)) (hu : PO X hi (tP g W fh)) : PE X (.Subscript e (.Slice lo hi none p2) pos) (tE g W (cCutT fa fl fh)) := by
  refine pe_imp (pe_slice (r := rCutT X.K) (SlR.or sl_tupA sl_str) he hl hu) fun σ H Q ⟨m, c, s, o⟩ => ⟨m, c, s, o.bind.imp fun x H1 ⟨m1, a, c1, x1, s1, k1, o1⟩ => ⟨m1, c1, s1, o1.bind.imp fun l H2 ⟨m2, l', c2, x2, s2, k2, o2⟩ => ⟨m2, c2, s2, o2.bind.imp fun u H3 ⟨m3, u', c3, x3, s3, k3, o3⟩ => ?_⟩⟩⟩
  have k2 : l' = l := k2
  have k3 : u' = u := k3
  subst k2 k3
  have k1 := (k1.mono x2).mono x3
  rw [hK]
  cases k1 with
  | @tup a xs vs h1 h2 =>
    refine .inl ⟨a, vs, rfl, s3.sqT h1, fun hw => ?_, fun _ p hp => ?_⟩
    · rw [← h2.length] at hw
      have o3 : Out (rE g) g W σ m3 (.ok (.tup ((xs.drop (HT.sIx xs.length 0 l')).take (HT.sIx xs.length xs.length u' - HT.sIx xs.length 0 l'))) c3) Q := o3
      rw [cut_all hw] at o3
      exact o3.here s3 (.tup h1 h2)
    · unfold cutV
      rw [← h2.length]
      exact out_newT s3 ((h2.drop _).take _) o3 hp
  | str z =>
    obtain ⟨hz, o3⟩ := Out.guard o3
    exact .inr ⟨z, rfl, of_decide_eq_true hz, o3.here s3 (.str _)⟩
  | _ => exact o3.elim
theorem sl_cut (hK : X.K = g.K) (he : PE X e (tE g W fa)) (hl : PO X lo (tP g W fl)) (hu : PO X hi (tP g W fh)) : PE X (.Subscript e (.Slice lo hi none p2) pos) (tL g W (cCutL fa fl fh)) := by
  refine pe_imp (pe_slice sl_list he hl hu) fun σ H Q ⟨m, c, s, o⟩ => ⟨m, c, s, o.bind.imp fun x H1 ⟨m1, a, c1, x1, s1, k1, o1⟩ => ⟨m1, c1, s1, o1.bind.imp fun l H2 ⟨m2, l', c2, x2, s2, k2, o2⟩ => ⟨m2, c2, s2, o2.bind.imp fun u H3 ⟨m3, u', c3, x3, s3, k3, o3⟩ => ?_⟩⟩⟩
  have k2 : l' = l := k2
  have k3 : u' = u := k3
  subst k2 k3
  have k1 := (k1.mono x2).mono x3
  rw [hK]
  have go : ∀ {xs : List D}, c3.seqL a = some xs → Out (rL g) g W σ m3 (.ok ((xs.drop (HT.sIx xs.length 0 l')).take (HT.sIx xs.length xs.length u' - HT.sIx xs.length 0 l')) c3) Q → rSlL g.K x l' u' H3 Q := fun {xs} eq o => by
    obtain ⟨p, vs, rfl, hp, hv⟩ := s3.seqL eq k1
    refine ⟨p, vs, rfl, SqL.of hp, fun q hq => ?_⟩
    unfold cutV
    rw [← hv.length]
    exact out_freshL s3 ((hv.drop _).take _) o hq
  cases a with
  | scr ns =>
    cases k1 with
    | scr h1 =>
      refine ⟨_, _, rfl, s3.sqL h1, fun q hq => ?_⟩
      unfold cutV
      rw [List.length_map, ← List.map_drop, ← List.map_take]
      exact out_freshL s3 (svs_ints _) o3 hq
  | lst xs => exact go rfl o3
  | ref n =>
    cases eq : c3.seqL (.ref n) with
    | none =>
      have o3 : Out (rL g) g W σ m3 (match c3.seqL (.ref n) with
        | some xs => .ok ((xs.drop (HT.sIx xs.length 0 l')).take (HT.sIx xs.length xs.length u' - HT.sIx xs.length 0 l')) c3
        | none => .stuck) Q := o3
      rw [eq] at o3
      exact o3.elim
    | some xs =>
      have o3 : Out (rL g) g W σ m3 (match c3.seqL (.ref n) with
        | some xs => .ok ((xs.drop (HT.sIx xs.length 0 l')).take (HT.sIx xs.length xs.length u' - HT.sIx xs.length 0 l')) c3
        | none => .stuck) Q := o3
      rw [eq] at o3
      exact go eq o3
  | _ => exact o3.elim
def cNoPart : M (Option Int) := M.ret none
def dPart (d : D) : M (Option Int) := match d with
  | .int i => M.ret (some i)
  | _ => fun _ => .stuck
def cPart (f : M D) : M (Option Int) := f.bind dPart
theorem so_none : PO X none (tP g W cNoPart) := po_imp po_none fun σ H Q ⟨m, c, s, o⟩ => o.here s rfl
theorem so_some {e : Expr} {f : M D} (h : PE X e (tE g W f)) : PO X (some e) (tP g W (cPart f)) := by
  refine po_imp (po_some h) fun σ H Q ⟨m, c, s, o⟩ => ⟨m, c, s, o.bind.imp fun x H1 ⟨m1, d, c1, x1, s1, k1, o1⟩ => ?_⟩
  cases k1 with
  | int i => exact ⟨i, rfl, o1.here s1 rfl⟩
  | _ => exact o1.elim
end
end CL
namespace CL
open PySem PySem.Spec PyProof.Rows L2

/-! ## the text's forms -/
def isStar : Expr → Bool
  | .Starred _ _ => true
  | _ => false
theorem star_plain {e : Expr} {es : List Expr} {env : Env} (h : isStar e = false) : starEach (e :: es) env = (false, eval e env) :: starEach es env := by
  cases e <;> first | rfl | cases h
def plainArgs (es : List Expr) : Bool := es.all fun e => !isStar e
theorem plain_any {pos : Pos} {env : Env} : ∀ {es : List Expr}, plainArgs es = true → (backTo pos (starEach es env)).any (·.1) = false
  | [], _ => rfl
  | e :: es, h => by
    unfold plainArgs at h
    rw [List.all_cons, Bool.and_eq_true] at h
    have h1 : isStar e = false := by simpa using h.1
    rw [star_plain h1]
    show (false || (backTo pos (starEach es env)).any (·.1)) = false
    rw [plain_any (es := es) h.2]
    rfl
theorem plain_all {pos : Pos} {env : Env} : ∀ {es : List Expr}, plainArgs es = true → (backTo pos (starEach es env)).all (!·.1) = true
  | [], _ => rfl
  | e :: es, h => by
    unfold plainArgs at h
    rw [List.all_cons, Bool.and_eq_true] at h
    have h1 : isStar e = false := by simpa using h.1
    rw [star_plain h1]
    show (true && (backTo pos (starEach es env)).all (!·.1)) = true
    rw [plain_all (es := es) h.2]
    rfl
/-- no super() -/
def okBase : Expr → Bool
  | .Call (.Name _ _) [] [] _ => false
  | _ => true
theorem base_ok {o : Expr} {f : Str} {env : Env} {t : Sem Value} (h : okBase o = true) : attributeBase o f env t = t := by
  unfold attributeBase
  split
  · cases h
  · rfl
theorem meth_form {o : Expr} {m : Str} {apos pos : Pos} {args : List Expr} {env : Env} (h1 : okBase o = true) (h2 : plainArgs args = true) (h3 : (apos.endLine == pos.line) = true) (h4 : decide (args.length < 30) = true) :
    eval (.Call (.Attribute o m apos) args [] pos) env = (do
      let ov ← eval o env
      standAt apos.atName
      let (f, first) ← holding [ov] (getMethod ov m (do return (← importBound o env).getD true))
      callWith pos f first (backTo pos (starEach args env)) (backToKw pos (keywordEach [] env))) := by
  rw [arm_eval_Call, base_ok h1]
  have e : methodCallForm (args.length + ([] : List Keyword).length) (backTo pos (starEach args env)) (backToKw pos (keywordEach [] env)) = true := by
    unfold methodCallForm
    rw [plain_all h2]
    have h5 := of_decide_eq_true h4
    show (true && true && decide (args.length + 0 + 0 < 30)) = true
    rw [decide_eq_true (show args.length + 0 + 0 < 30 by omega)]
    rfl
  have e2 : methodCallPos true o env apos pos = pure pos := by
    unfold methodCallPos
    rw [if_pos (by rw [h3]; rfl)]
  unfold methodCall
  rw [e, e2]
  rfl
def notSet : Expr → Bool
  | .Set _ _ _ => false
  | _ => true
theorem marks_ok {op : CmpOp} {b : Expr} (h : notSet b = true) : behindInMarks op b = false := by
  cases b <;> first | rfl | cases h
theorem folded_ok {e : Expr} {env : Env} (h : notSet e = true) (x : Value) : foldedSetIterable e env x = pure x := by
  cases e <;> first | rfl | cases h
def notSlice : Expr → Bool
  | .Slice _ _ _ _ => false
  | _ => true
theorem plainIx_ok {b : Expr} (h : notSlice b = true) : PlainIx b := by
  intro o i
  cases b <;> first | rfl | cases h
/-- its test is its value's truth -/
def plainTest : Expr → Bool
  | .UnaryOp .Not _ _ => false
  | .BoolOp _ _ _ => false
  | .IfExp _ _ _ _ => false
  | .Compare _ _ _ _ => false
  | _ => true
theorem test_ok {e : Expr} {env : Env} (h : plainTest e = true) (whole : Sem Value) : isTrue e env whole = (do let v ← whole; standAt e.pos; holding [v] (truthy v)) := by
  cases e <;> first | rfl | (cases h; done) | skip
  case UnaryOp op x p => cases op <;> first | rfl | cases h

/-! ## and, or, not, if -/
def cAnd (a b : M D) : M D := a.bind fun x => match x with
  | .bl true => b
  | .bl false => M.ret (.bl false)
  | _ => fun _ => .stuck
def cOr (a b : M D) : M D := a.bind fun x => match x with
  | .bl true => M.ret (.bl true)
  | .bl false => b
  | _ => fun _ => .stuck
def cNot (a : M D) : M D := a.bind fun x => match x with
  | .bl b => M.ret (.bl (!b))
  | _ => fun _ => .stuck
def cAndT (a b : M Bool) : M Bool := a.bind fun x => match x with
  | true => b
  | false => M.ret false
def cOrT (a b : M Bool) : M Bool := a.bind fun x => match x with
  | true => M.ret true
  | false => b
def cNotT (a : M Bool) : M Bool := a.bind fun x => M.ret (!x)
def cIf {α : Type} (t : M Bool) (a b : M α) : M α := t.bind fun x => match x with
  | true => a
  | false => b
def dTru (d : D) : M Bool := fun c => match d with
  | .non => .ok false c
  | .bl b => .ok b c
  | .int i => .ok (i != 0) c
  | .str x => M.guard (szOk x.length) (M.ret ((x.length : Int) != 0)) c
  | .tup xs => .ok (!xs.isEmpty) c
  | .scr _ => .stuck
  | .obj _ _ => .stuck
  | .exn _ _ => .stuck
  | _ => match c.seqL d with
    | some xs => .ok (!xs.isEmpty) c
    | none => .stuck
def cTru (f : M D) : M Bool := f.bind dTru
section
variable {X : Cx} {g : G} {W : WX} {pos : Pos} {a b e : Expr} {rest : List Expr} {fa fb : M D} {ta tb : M Bool}
theorem se_one {op : PySem.BoolOp} (h : PE X a (tE g W fa)) : PE X (.BoolOp op [a] pos) (tE g W fa) := pe_one h
theorem se_and (ha : PE X a (tE g W fa)) (hb : PE X (.BoolOp .And (b :: rest) pos) (tE g W fb)) : PE X (.BoolOp .And (a :: b :: rest) pos) (tE g W (cAnd fa fb)) := by
  refine pe_imp (pe_and ha hb) fun σ H Q ⟨m, c, s, o⟩ => ⟨m, c, s, o.bind.imp fun x H1 ⟨m1, d, c1, x1, s1, k1, o1⟩ => ?_⟩
  cases k1 with
  | bl b =>
    refine ⟨b, rfl, ?_⟩
    cases b with
    | true => exact ⟨m1, c1, s1, o1⟩
    | false => exact o1.here s1 (.bl _)
  | _ => exact o1.elim
theorem se_or (ha : PE X a (tE g W fa)) (hb : PE X (.BoolOp .Or (b :: rest) pos) (tE g W fb)) : PE X (.BoolOp .Or (a :: b :: rest) pos) (tE g W (cOr fa fb)) := by
  refine pe_imp (pe_or ha hb) fun σ H Q ⟨m, c, s, o⟩ => ⟨m, c, s, o.bind.imp fun x H1 ⟨m1, d, c1, x1, s1, k1, o1⟩ => ?_⟩
  cases k1 with
  | bl b =>
    refine ⟨b, rfl, ?_⟩
    cases b with
    | true => exact o1.here s1 (.bl _)
    | false => exact ⟨m1, c1, s1, o1⟩
  | _ => exact o1.elim
theorem se_not (ha : PE X a (tE g W fa)) : PE X (.UnaryOp .Not a pos) (tE g W (cNot fa)) := by
  refine pe_imp (pe_not ha) fun σ H Q ⟨m, c, s, o⟩ => ⟨m, c, s, o.bind.imp fun x H1 ⟨m1, d, c1, x1, s1, k1, o1⟩ => ?_⟩
  cases k1 with
  | bl b => exact ⟨b, rfl, o1.here s1 (.bl _)⟩
  | _ => exact o1.elim
/-- not of what is no bool -/
def cNotV (t : M Bool) : M D := t.bind fun x => M.ret (.bl (!x))
theorem se_if {t : Expr} (ht : PT X t (tT g W ta)) (ha : PE X a (tE g W fa)) (hb : PE X b (tE g W fb)) : PE X (.IfExp t a b pos) (tE g W (cIf ta fa fb)) := by
  refine pe_imp (pe_ifExp ht ha hb) fun σ H Q ⟨m, c, s, o⟩ => ⟨m, c, s, o.bind.imp fun x H1 ⟨m1, d, c1, x1, s1, k1, o1⟩ => ?_⟩
  have k1 : d = x := k1
  subst k1
  cases d with
  | true => exact ⟨m1, c1, s1, o1⟩
  | false => exact ⟨m1, c1, s1, o1⟩
theorem sw_and1 (ha : PT X a (tT g W ta)) : PW X (.BoolOp .And [a] pos) (tT g W ta) := pw_and1 ha
theorem sw_or1 (ha : PT X a (tT g W ta)) : PW X (.BoolOp .Or [a] pos) (tT g W ta) := pw_or1 ha
theorem sw_and (ha : PT X a (tT g W ta)) (hb : PW X (.BoolOp .And (b :: rest) pos) (tT g W tb)) : PW X (.BoolOp .And (a :: b :: rest) pos) (tT g W (cAndT ta tb)) := by
  refine pw_imp (pw_and ha hb) fun σ H Q ⟨m, c, s, o⟩ => ⟨m, c, s, o.bind.imp fun x H1 ⟨m1, d, c1, x1, s1, k1, o1⟩ => ?_⟩
  have k1 : d = x := k1
  subst k1
  cases d with
  | true => exact ⟨m1, c1, s1, o1⟩
  | false => exact o1.here s1 rfl
theorem sw_or (ha : PT X a (tT g W ta)) (hb : PW X (.BoolOp .Or (b :: rest) pos) (tT g W tb)) : PW X (.BoolOp .Or (a :: b :: rest) pos) (tT g W (cOrT ta tb)) := by
  refine pw_imp (pw_or ha hb) fun σ H Q ⟨m, c, s, o⟩ => ⟨m, c, s, o.bind.imp fun x H1 ⟨m1, d, c1, x1, s1, k1, o1⟩ => ?_⟩
  have k1 : d = x := k1
  subst k1
  cases d with
  | true => exact o1.here s1 rfl
  | false => exact ⟨m1, c1, s1, o1⟩
theorem st_not (ha : PT X a (tT g W ta)) : PT X (.UnaryOp .Not a pos) (tT g W (cNotT ta)) := by
  refine pt_imp (pt_not ha) fun σ H Q ⟨m, c, s, o⟩ => ⟨m, c, s, o.bind.imp fun x H1 ⟨m1, d, c1, x1, s1, k1, o1⟩ => ?_⟩
  have k1 : d = x := k1
  subst k1
  exact o1.here s1 rfl
/-- a value's truth -/
theorem st_tru (hK : X.K = g.K) (h : PE X e (tE g W fa)) (hp : plainTest e = true) : PT X e (tT g W (cTru fa)) := by
  refine pt_imp (pt_truth h fun whole => test_ok hp whole) fun σ H Q ⟨m, c, s, o⟩ => ⟨m, c, s, o.bind.imp fun x H1 ⟨m1, d, c1, x1, s1, k1, o1⟩ => ?_⟩
  rw [hK]
  have lst : ∀ {xs : List D}, c1.seqL d = some xs → Out rB g W σ m1 (.ok (!xs.isEmpty) c1) Q → ∃ k, TruV g.K x H1 k ∧ Q k H1 := fun {xs} e o => by
    obtain ⟨p, vs, rfl, hp, hv⟩ := s1.seqL e k1
    refine ⟨!xs.isEmpty, .inl ⟨vs, SqL.of hp, ?_⟩, o.here s1 rfl⟩
    cases hv <;> rfl
  cases k1 with
  | non => exact ⟨false, rfl, o1.here s1 rfl⟩
  | bl b => exact ⟨b, rfl, o1.here s1 rfl⟩
  | int i => exact ⟨_, rfl, o1.here s1 rfl⟩
  | str z =>
    obtain ⟨hz, o1⟩ := Out.guard o1
    exact ⟨_, ⟨of_decide_eq_true hz, rfl⟩, o1.here s1 rfl⟩
  | @tup p xs vs h1 h2 =>
    refine ⟨!xs.isEmpty, .inr (.inl ⟨vs, s1.sqT h1, ?_⟩), o1.here s1 rfl⟩
    cases h2 <;> rfl
  | @lst p xs vs h1 h2 => exact lst rfl o1
  | @ref n p h1 =>
    have o2 : Out rB g W σ m1 (match c1.seqL (.ref n) with
      | some xs => .ok (!xs.isEmpty) c1
      | none => .stuck) Q := o1
    cases e : c1.seqL (.ref n) with
    | none => rw [e] at o2; exact o2.elim
    | some xs =>
      rw [e] at o2
      exact lst e o2
  | _ => exact o1.elim
end

/-! ## displays and arguments -/
def cCons (a : M D) (r : M (List D)) : M (List D) := a.bind fun x => r.bind fun xs => M.ret (x :: xs)
def cTup (r : M (List D)) : M D := r.bind fun xs => M.guard (szOk xs.length) (M.ret (.tup xs))
def cLst (r : M (List D)) : M (List D) := r.bind fun xs => M.guard (szOk xs.length) (M.ret xs)
/-- *e -/
def dItems (d : D) : M (List D) := fun c => match d with
  | .tup xs => .ok xs c
  | _ => match c.seqL d with
    | some xs => .ok xs c
    | none => .stuck
def cStar (a : M D) (r : M (List D)) : M (List D) := a.bind fun x => (dItems x).bind fun xs => r.bind fun ys => M.ret (xs ++ ys)
theorem Sim.items {g : G} {W : WX} {m : Mp} {c : CS} {σ : L2.St} {H : Hp} (s : Sim g m c σ H) {d : D} {v : V} (k : Sv g m d v) {β γ : Type} {rel : Rl γ β} {r : List D → CS → R γ} {Q : β → Hp → Prop} (o : Out rel g W σ m ((dItems d c).bind r) Q) :
    ∃ p xs vs, v = .ref p ∧ (SqT g.K H p vs ∨ SqL g.K H p vs) ∧ Svs g m xs vs ∧ Out rel g W σ m (r xs c) Q := by
  have lst : ∀ {xs : List D}, c.seqL d = some xs → Out rel g W σ m (r xs c) Q → ∃ p xs vs, v = .ref p ∧ (SqT g.K H p vs ∨ SqL g.K H p vs) ∧ Svs g m xs vs ∧ Out rel g W σ m (r xs c) Q := fun {xs} e o => by
    obtain ⟨p, vs, rfl, hp, hv⟩ := s.seqL e k
    exact ⟨p, xs, vs, rfl, .inr (SqL.of hp), hv, o⟩
  cases k with
  | @tup p xs vs h1 h2 => exact ⟨p, xs, vs, rfl, .inl (s.sqT h1), h2, o⟩
  | @lst p xs vs h1 h2 => exact lst rfl o
  | @ref n p h1 =>
    have o : Out rel g W σ m (R.bind (match c.seqL (.ref n) with
      | some xs => .ok xs c
      | none => .stuck) r) Q := o
    cases e : c.seqL (.ref n) with
    | none => rw [e] at o; exact o.elim
    | some xs =>
      rw [e] at o
      exact lst e o
  | _ => exact o.elim
section
variable {X : Cx} {g : G} {W : WX} {pos : Pos} {e : Expr} {es : List Expr} {fa : M D} {fr : M (List D)}
theorem sa_nil : PA X [] (tA g W (M.ret [])) := pa_imp pa_nil fun σ H Q ⟨m, c, s, o⟩ => o.here s .nil
theorem sa_cons (ha : PE X e (tE g W fa)) (hr : PA X es (tA g W fr)) (hs : isStar e = false) : PA X (e :: es) (tA g W (cCons fa fr)) := by
  refine pa_imp (pa_cons ha hr (star_plain hs)) fun σ H Q ⟨m, c, s, o⟩ => ⟨m, c, s, o.bind.imp fun x H1 ⟨m1, d, c1, x1, s1, k1, o1⟩ => ⟨m1, c1, s1, o1.bind.imp fun xs H2 ⟨m2, ds, c2, x2, s2, k2, o2⟩ => ?_⟩⟩
  exact o2.here s2 (.cons (k1.mono x2) k2)
theorem sa_star {p : Pos} (hK : X.K = g.K) (ha : PE X e (tE g W fa)) (hr : PA X es (tA g W fr)) : PA X (.Starred e p :: es) (tA g W (cStar fa fr)) := by
  refine pa_imp (StX.pa_star ha hr) fun σ H Q ⟨m, c, s, o⟩ => ⟨m, c, s, o.bind.imp fun x H1 ⟨m1, d, c1, x1, s1, k1, o1⟩ => ?_⟩
  obtain ⟨q, xs, vs, rfl, h1, h2, o2⟩ := s1.items k1 o1
  refine ⟨q, vs, rfl, by rw [hK]; exact h1, ?_⟩
  exact ⟨m1, c1, s1, o2.bind.imp fun ys H2 ⟨m2, ds, c2, x2, s2, k2, o3⟩ => o3.here s2 ((h2.mono x2).append k2)⟩
theorem se_tup {k : Nat} (h : PA X es (tA g W fr)) : PE X (.Tuple es k pos) (tE g W (cTup fr)) := by
  refine pe_imp (pe_tup h) fun σ H Q ⟨m, c, s, o⟩ => ⟨m, c, s, o.bind.imp fun xs H1 ⟨m1, ds, c1, x1, s1, k1, o1⟩ => ?_⟩
  have k1 : Svs g m1 ds xs := k1
  obtain ⟨hz, o1⟩ := Out.guard o1
  exact ⟨by rw [← k1.length]; exact of_decide_eq_true hz, fun p hp => out_newT s1 k1 o1 hp⟩
theorem sl_lst (h : PA X es (tA g W fr)) : PE X (.List es pos) (tL g W (cLst fr)) := by
  refine pe_imp (pe_lst h) fun σ H Q ⟨m, c, s, o⟩ => ⟨m, c, s, o.bind.imp fun xs H1 ⟨m1, ds, c1, x1, s1, k1, o1⟩ => ?_⟩
  have k1 : Svs g m1 ds xs := k1
  obtain ⟨hz, o1⟩ := Out.guard o1
  exact ⟨by rw [← k1.length]; exact of_decide_eq_true hz, fun p hp => out_freshL s1 k1 o1 hp⟩
end

/-! ## what a def promises, and its call -/
inductive FR where
  | ok (d : D) (S : List O)
  | exc (cn : Nat) (vs : List D) (S : List O)
  | stuck
abbrev Fn := List D → List O → FR
def OutF (g : G) (m : Mp) (r : FR) (Q : VK) (E : XK) : Prop := match r with
  | .ok d S => ∀ m' v H', Ext m m' → Sim g m' ⟨[], S⟩ [] H' → Sv g m' d v → Q v H'
  | .exc cn vs S => ∀ m' H' C dd, Ext m m' → Sim g m' ⟨[], S⟩ [] H' → Exr g m' cn vs C dd → E C dd H'
  | .stuck => False
def spOf (g : G) (f : Fn) : Sp := fun vs H Q E => ∃ m S ds, Sim g m ⟨[], S⟩ [] H ∧ Svs g m ds vs ∧ OutF g m (f ds S) Q E
/-- .. of a given number of arguments -/
def spN (g : G) (n : Nat) (f : Fn) : Sp := fun vs H Q E => vs.length = n ∧ spOf g f vs H Q E
def liftF (r : FR) (c : CS) : R D := match r with
  | .ok d S => .ok d { c with S := S }
  | .exc cn vs S => .exc cn vs { c with S := S }
  | .stuck => .stuck

/-! values by the frozen part and the addresses alone -/
mutual
theorem Sv.like {g : G} {m m' : Mp} (er : ∀ (n : Nat) (a : Addr), m.rho[n]? = some a → m'.rho[n]? = some a) (ef : ∀ (a : Addr) (o : HO), m.F a = some o → m'.F a = some o) : ∀ {d : D} {v : V}, Sv g m d v → Sv g m' d v
  | _, _, .non => .non
  | _, _, .bl b => .bl b
  | _, _, .int i => .int i
  | _, _, .str x => .str x
  | _, _, .tup h r => .tup (sqT_mono ef h) (Svs.like er ef r)
  | _, _, .lst h r => .lst (ef _ _ h) (Svs.like er ef r)
  | _, _, .scr h => .scr (sqL_mono ef h)
  | _, _, .obj c h r l => .obj c (ef _ _ h) (Svs.like er ef r) l
  | _, _, .exn c h h2 r l => .exn c (ef _ _ h) (ef _ _ h2) (Svs.like er ef r) l
  | _, _, .ref h => .ref (er _ _ h)
theorem Svs.like {g : G} {m m' : Mp} (er : ∀ (n : Nat) (a : Addr), m.rho[n]? = some a → m'.rho[n]? = some a) (ef : ∀ (a : Addr) (o : HO), m.F a = some o → m'.F a = some o) : ∀ {ds : List D} {vs : List V}, Svs g m ds vs → Svs g m' ds vs
  | _, _, .nil => .nil
  | _, _, .cons a b => .cons (Sv.like er ef a) (Svs.like er ef b)
end
theorem So.like {g : G} {m m' : Mp} {H H' : Hp} {a : Addr} {o : O} (er : ∀ (n : Nat) (a : Addr), m.rho[n]? = some a → m'.rho[n]? = some a) (ef : ∀ (a : Addr) (o : HO), m.F a = some o → m'.F a = some o) (k : H' a = H a) (h : So g m H a o) : So g m' H' a o := by
  cases o with
  | lst xs =>
    obtain ⟨vs, h1, h2⟩ := h
    exact ⟨vs, k.trans h1, h2.like er ef⟩
  | ins c fs =>
    obtain ⟨C, ns, dx, ws, h1, h2, h3⟩ := h
    refine ⟨C, ns, dx, ws, h1, k.trans h2, ?_⟩
    clear h2
    induction h3 with
    | nil => exact .nil
    | cons a _ ih => exact .cons (a.like er ef) ih

/-- the map that a callee is given: all that it doesn't know is in the background, but for ex -/
def Mp.call (m : Mp) (H : Hp) (ex : List Addr) (ni : Addr) : Mp := { m with ini := ni, B := fun a => if a ∈ m.rho ∨ a ∈ ex then none else match m.F a with
  | some _ => none
  | none => match H a with
    | some (.tbl _) => none
    | o => o }
theorem call_bg {m : Mp} {H : Hp} {ex : List Addr} {ni : Addr} {a : Addr} {o : HO} (h1 : a ∉ m.rho) (hx : a ∉ ex) (h2 : m.F a = none) (h3 : H a = some o) (h4 : ∀ ps, o ≠ .tbl ps) : (m.call H ex ni).B a = some o := by
  show (if a ∈ m.rho ∨ a ∈ ex then none else _) = some o
  rw [if_neg (fun z => z.elim h1 hx), h2, h3]
  cases o <;> first | rfl | (exact absurd rfl (h4 _))
theorem of_call_bg {m : Mp} {H : Hp} {ex : List Addr} {ni : Addr} {a : Addr} {o : HO} (h : (m.call H ex ni).B a = some o) : H a = some o ∧ m.F a = none ∧ a ∉ m.rho ∧ (∀ ps, o ≠ .tbl ps) ∧ a ∉ ex := by
  have h : (if a ∈ m.rho ∨ a ∈ ex then none else match m.F a with
    | some _ => none
    | none => match H a with
      | some (.tbl _) => none
      | o => o) = some o := h
  by_cases h1 : a ∈ m.rho ∨ a ∈ ex
  · rw [if_pos h1] at h; cases h
  · rw [if_neg h1] at h
    have n1 : a ∉ m.rho := fun z => h1 (.inl z)
    have n2 : a ∉ ex := fun z => h1 (.inr z)
    cases h2 : m.F a with
    | some u => rw [h2] at h; cases h
    | none =>
      rw [h2] at h
      cases h3 : H a with
      | none => rw [h3] at h; cases h
      | some u =>
        rw [h3] at h
        cases u <;> first | (cases h; done) | (cases h; exact ⟨rfl, rfl, n1, (fun ps z => nomatch z), n2⟩)
theorem Sim.call {g : G} {m : Mp} {c : CS} {σ : L2.St} {H : Hp} (s : Sim g m c σ H) (ex : List Addr) (ni : Addr) : Sim g (m.call H ex ni) ⟨[], c.S⟩ [] H :=
  ⟨s.fr, s.nd, s.tb, s.len, iniOk_nil, rfl, fun n a o h1 h2 => ⟨(s.st n a o h1 h2).1, So.like (m := m) (m' := m.call H ex ni) (fun _ _ z => z) (fun _ _ z => z) rfl (s.st n a o h1 h2).2⟩, fun a o h => let ⟨z1, z2, z3, z4, _⟩ := of_call_bg h; ⟨z1, z2, z3, z4⟩, fun i t h => by
    have h : ([] : List Sl)[i]? = some t := h
    simp at h⟩
/-- behind the call: our own slots stand as they stood -/
theorem Sim.back {g : G} {m m' : Mp} {c : CS} {σ : L2.St} {H H' : Hp} {S' : List O} {ex : List Addr} {ni : Addr} (s : Sim g m c σ H) (fx : ∀ a ∈ ex, Fre m c a) (x : Ext (m.call H ex ni) m') (s' : Sim g m' ⟨[], S'⟩ [] H') :
    Ext m ⟨m'.rho, m'.F, m.B, m.lam, m.ini⟩ ∧ Sim g ⟨m'.rho, m'.F, m.B, m.lam, m.ini⟩ { c with S := S' } σ H' := by
  have e1 : Ext m ⟨m'.rho, m'.F, m.B, m.lam, m.ini⟩ := ⟨x.r, x.f, rfl, rfl⟩
  have bg : ∀ {a : Addr} {o : HO}, a ∉ m.rho → a ∉ ex → m.F a = none → H a = some o → (∀ ps, o ≠ .tbl ps) → H' a = some o ∧ m'.F a = none ∧ a ∉ m'.rho := fun {a o} h1 hx h2 h3 h4 => by
    have z := call_bg (ni := ni) h1 hx h2 h3 h4
    rw [← x.b] at z
    obtain ⟨z1, z2, z3, _⟩ := s'.bk a o z
    exact ⟨z1, z2, z3⟩
  refine ⟨e1, ⟨s'.fr, s'.nd, s'.tb, s'.len, s.ini, s.ln, fun n a o h1 h2 => ?_, fun a o z => ?_, fun i t h => ?_⟩⟩
  · obtain ⟨k1, k2⟩ := s'.st n a o h1 h2
    exact ⟨k1, So.like (m := m') (m' := ⟨m'.rho, m'.F, m.B, m.lam, m.ini⟩) (fun _ _ z => z) (fun _ _ z => z) rfl k2⟩
  · obtain ⟨z1, z2, z3, z4⟩ := s.bk a o z
    obtain ⟨y1, y2, y3⟩ := bg z3 (fun hx => by
      have q := (fx a hx).b
      have z : m.B a = some o := z
      rw [q] at z
      cases z) z2 z1 z4
    exact ⟨y1, y2, y3, z4⟩
  · have q := s.sl i t h
    cases t with
    | no => trivial
    | val d =>
      obtain ⟨v, q1, q2⟩ := q
      exact ⟨v, q1, Sv.like (m := m) (m' := ⟨m'.rho, m'.F, m.B, m.lam, m.ini⟩) x.r x.f q2⟩
    | own o =>
      obtain ⟨q1, q2, q3⟩ := q
      obtain ⟨u, e, mu⟩ := q2.here
      have nt : ∀ ps, u ≠ .tbl ps := fun ps z => by
        subst z
        exact mu
      obtain ⟨y1, y2, y3⟩ := bg q3.rh (fun hx => (fx _ hx).o i o h rfl) q3.fr e nt
      exact ⟨q1, So.like (m := m) (m' := ⟨m'.rho, m'.F, m.B, m.lam, m.ini⟩) x.r x.f (by rw [y1]; exact e.symm) q2, ⟨y2, q3.bk, y3, q3.ap⟩⟩
theorem exr_like {g : G} {m m' : Mp} {cn : Nat} {vs : List D} {C : Value} {d : Option Addr} (er : ∀ (n : Nat) (a : Addr), m.rho[n]? = some a → m'.rho[n]? = some a) (ef : ∀ (a : Addr) (o : HO), m.F a = some o → m'.F a = some o) (h : Exr g m cn vs C d) : Exr g m' cn vs C d := by
  obtain ⟨Ca, ns, d2, us, k1, k2, k3, k4, k5, k6⟩ := h
  exact ⟨Ca, ns, d2, us, k1, k2, k3, ef _ _ k4, k5.like er ef, k6⟩
/-- what a caller shows of the promise -/
theorem call_sp {g : G} {W : WX} {m : Mp} {c : CS} {σ : L2.St} {H : Hp} {f : Fn} {ds : List D} {vs : List V} {Q : VK} (s : Sim g m c σ H) (hv : Svs g m ds vs) (o : Out (rE g) g W σ m (liftF (f ds c.S) c) Q) : spOf g f vs H Q (fun C d H' => W C d σ H') := by
  refine ⟨m.call H [] m.ini, c.S, ds, s.call [] m.ini, Svs.like (m := m) (m' := m.call H [] m.ini) (fun _ _ z => z) (fun _ _ z => z) hv, ?_⟩
  cases e : f ds c.S with
  | ok d S' =>
    rw [e] at o
    intro m' v H' x s' k
    obtain ⟨x2, s2⟩ := s.back (ex := []) (fun a z => absurd z List.not_mem_nil) x s'
    exact o _ v H' x2 s2 (Sv.like (m := m') (m' := ⟨m'.rho, m'.F, m.B, m.lam, m.ini⟩) (fun _ _ z => z) (fun _ _ z => z) k)
  | exc cn ws S' =>
    rw [e] at o
    intro m' H' C dd x s' k
    obtain ⟨x2, s2⟩ := s.back (ex := []) (fun a z => absurd z List.not_mem_nil) x s'
    exact o _ H' C dd x2 s2 (exr_like (m := m') (m' := ⟨m'.rho, m'.F, m.B, m.lam, m.ini⟩) (fun _ _ z => z) (fun _ _ z => z) k)
  | stuck => rw [e] at o; exact o.elim
/-- a callee at f keeps the promise of fn -/
abbrev FnC (g : G) (k : Nat) (f : Addr) (fn : Fn) : Prop := FnR g.prog g.w g.K g.mg g.base (L2.CX g.prog g.w) k f (spOf g fn)
section
variable {X : Cx} {g : G} {W : WX} {pins : List (Addr × Obj)} {m : Mp} {c : CS} {σ : L2.St} {H : Hp} {s : Shared} {k : Nat} {f : Addr} {fn : Fn}
theorem run_cA {A : Around} (F : FnR X.prog X.w X.K X.mg X.base (L2.CX X.prog X.w) k f (spOf g fn)) (hr : Room k A) (e0 : Env0 X.prog X.w X.K X.mg X.base A X.stack s H) (tk : Takes X W) (I : Inv X pins σ H s) {ds : List D} {vs : List V} {us : List Value} {Q : VK} (r : Vals vs us) (sm : Sim g m c σ H) (hv : Svs g m ds vs) (o : Out (rE g) g W σ m (liftF (fn ds c.S) c) Q) :
    codeAny (model X.prog X.w) A (.call (.ref f) ⟨us, []⟩) (fun r s' => match r with | .ok (.ret v) => EP X pins σ Q v s' | .ok _ => False | .error e => X.xe e s') s := by
  refine codeAny_mono (F A X.stack s H us vs Q _ hr e0 r (call_sp (W := W) sm hv o)) fun r s' hq => ?_
  match r, hq with
  | .error e, hq => exact passAt tk σ pins H s e s' I hq
  | .ok (.ret u), hq => exact I.after hq
theorem run_c (F : FnR X.prog X.w X.K X.mg X.base (L2.CX X.prog X.w) k f (spOf g fn)) (hr : Room k X.A) (tk : Takes X W) (I : Inv X pins σ H s) {ds : List D} {vs : List V} {us : List Value} {Q : VK} (r : Vals vs us) (sm : Sim g m c σ H) (hv : Svs g m ds vs) (o : Out (rE g) g W σ m (liftF (fn ds c.S) c) Q) :
    codeAny (model X.prog X.w) X.A (.call (.ref f) ⟨us, []⟩) (fun r s' => match r with | .ok (.ret v) => EP X pins σ Q v s' | .ok _ => False | .error e => X.xe e s') s :=
  run_cA F hr I.env0 tk I r sm hv o
end
end CL
namespace CL
open PySem PySem.Spec PyProof.Rows L2

/-! ## statements -/
inductive Fl where
  | next | ret (d : D) | brk | cont
def OutS (g : G) (W : WX) (m : Mp) (r : R Fl) (Dn : Ends) : Prop := match r with
  | .ok .next c => ∀ m' σ' H', Ext m m' → Sim g m' c σ' H' → Dn.nx σ' H'
  | .ok (.ret d) c => ∀ m' σ' v H', Ext m m' → Sim g m' c σ' H' → Sv g m' d v → Dn.rt v H'
  | .ok .brk c => ∀ m' σ' H', Ext m m' → Sim g m' c σ' H' → Dn.bk σ' H'
  | .ok .cont c => ∀ m' σ' H', Ext m m' → Sim g m' c σ' H' → Dn.ct σ' H'
  | .exc cn vs c => ∀ m' σ' H' C d, Ext m m' → Sim g m' c σ' H' → Exr g m' cn vs C d → W C d σ' H'
  | .stuck => False
def tS (g : G) (W : WX) (f : M Fl) : TS := fun Dn σ H => ∃ m c, Sim g m c σ H ∧ OutS g W m (f c) Dn
theorem ps_imp {X : Cx} {st : Stmt} {t t' : TS} (h : PS X st t) (i : ∀ Dn σ H, t' Dn σ H → t Dn σ H) : PS X st t' := ⟨fun pins s σ H Dn I q => h.run pins s σ H Dn I (i Dn σ H q)⟩
theorem pss_imp {X : Cx} {st : List Stmt} {t t' : TS} (h : PSs X st t) (i : ∀ Dn σ H, t' Dn σ H → t Dn σ H) : PSs X st t' := ⟨fun pins s σ H Dn I q => h.run pins s σ H Dn I (i Dn σ H q)⟩
section
variable {g : G} {W : WX} {m m' : Mp} {Dn Dn' : Ends} {α β : Type} {rel : Rl α β} {σ : L2.St}
theorem OutS.mono {r : R Fl} (e : Ext m m') (h : OutS g W m r Dn) : OutS g W m' r Dn := by
  cases r with
  | ok a c =>
    cases a with
    | next => exact fun m2 σ' H' x s => h m2 σ' H' (e.trans x) s
    | ret d => exact fun m2 σ' v H' x s k => h m2 σ' v H' (e.trans x) s k
    | brk => exact fun m2 σ' H' x s => h m2 σ' H' (e.trans x) s
    | cont => exact fun m2 σ' H' x s => h m2 σ' H' (e.trans x) s
  | exc cn vs c => exact fun m2 σ' H' C d x s k => h m2 σ' H' C d (e.trans x) s k
  | stuck => exact h
/-- an expression, then something -/
theorem OutS.bind {r : R α} {k : α → CS → R Fl} (h : OutS g W m (r.bind k) Dn) :
    Out rel g W σ m r (fun b H' => ∃ m' a c', Ext m m' ∧ Sim g m' c' σ H' ∧ rel m' c' H' a b ∧ OutS g W m' (k a c') Dn) := by
  cases r with
  | ok a c => exact fun m2 b H' x s k' => ⟨m2, a, c, x, s, k', OutS.mono x h⟩
  | exc cn vs c => exact fun m2 H' C d x s k => h m2 σ H' C d x s k
  | stuck => exact h
theorem OutS.nx {c : CS} {σ' : L2.St} {H : Hp} (s : Sim g m c σ' H) (h : OutS g W m (.ok .next c) Dn) : Dn.nx σ' H := h m σ' H Ext.rfl' s
end
def cSeq (f h : M Fl) : M Fl := fun c => match f c with
  | .ok .next c' => h c'
  | r => r
def cNext : M Fl := fun c => .ok .next c
section
variable {X : Cx} {g : G} {W : WX} {pos : Pos} {st : Stmt} {rest : List Stmt} {e : Expr} {f h : M Fl} {fe : M D} {fl : M (List D)} {ft : M Bool}
theorem ss_nil : PSs X [] (tS g W cNext) := pss_imp pss_nil fun Dn σ H ⟨m, c, s, o⟩ => o.nx s
theorem ss_cons (h1 : PS X st (tS g W f)) (h2 : PSs X rest (tS g W h)) : PSs X (st :: rest) (tS g W (cSeq f h)) := by
  refine pss_imp (pss_cons h1 h2) fun Dn σ H ⟨m, c, s, o⟩ => ⟨m, c, s, ?_⟩
  unfold cSeq at o
  cases q : f c with
  | ok a c' =>
    rw [q] at o
    cases a with
    | next => exact fun m' σ' H' x s' => ⟨m', c', s', OutS.mono x o⟩
    | ret d => exact o
    | brk => exact o
    | cont => exact o
  | exc cn vs c' => rw [q] at o; exact o
  | stuck => rw [q] at o; exact o
theorem ss_pass : PS X (.Pass pos) (tS g W cNext) := ps_imp ps_pass fun Dn σ H ⟨m, c, s, o⟩ => o.nx s
def cBrk : M Fl := fun c => .ok .brk c
def cCont : M Fl := fun c => .ok .cont c
theorem ss_brk : PS X (.Break pos) (tS g W cBrk) := ps_imp ps_break fun Dn σ H ⟨m, c, s, o⟩ => o m σ H Ext.rfl' s
theorem ss_cont : PS X (.Continue pos) (tS g W cCont) := ps_imp ps_continue fun Dn σ H ⟨m, c, s, o⟩ => o m σ H Ext.rfl' s
def cRet (fe : M D) : M Fl := fun c => (fe c).bind fun d c' => .ok (.ret d) c'
theorem ss_ret (he : PE X e (tE g W fe)) : PS X (.Return (some e) pos) (tS g W (cRet fe)) := by
  refine ps_imp (ps_ret he) fun Dn σ H ⟨m, c, s, o⟩ => ⟨m, c, s, o.bind.imp fun v H1 ⟨m1, d, c1, x1, s1, k1, o1⟩ => ?_⟩
  exact o1 m1 σ v H1 Ext.rfl' s1 k1
def cRetN : M Fl := fun c => .ok (.ret .non) c
theorem ss_retN : PS X (.Return none pos) (tS g W cRetN) := ps_imp ps_retN fun Dn σ H ⟨m, c, s, o⟩ => o m σ .non H Ext.rfl' s .non
def cDrop (fe : M D) : M Fl := fun c => (fe c).bind fun _ c' => .ok .next c'
theorem ss_drop (he : PE X e (tE g W fe)) (hs : swapsWith e none pos.line X.env = pure false) : PS X (.Expr e pos) (tS g W (cDrop fe)) := by
  refine ps_imp (ps_expr he hs) fun Dn σ H ⟨m, c, s, o⟩ => ⟨m, c, s, o.bind.imp fun v H1 ⟨m1, d, c1, x1, s1, k1, o1⟩ => ?_⟩
  exact o1.nx s1
def cIfS (ft : M Bool) (f h : M Fl) : M Fl := fun c => (ft c).bind fun b c' => match b with
  | true => f c'
  | false => h c'
theorem ss_if {t : Expr} {a b : List Stmt} (ht : PT X t (tT g W ft)) (ha : PSs X a (tS g W f)) (hb : PSs X b (tS g W h)) : PS X (.If t a b pos) (tS g W (cIfS ft f h)) := by
  refine ps_imp (ps_if ht ha hb) fun Dn σ H ⟨m, c, s, o⟩ => ⟨m, c, s, o.bind.imp fun x H1 ⟨m1, d, c1, x1, s1, k1, o1⟩ => ?_⟩
  have k1 : d = x := k1
  subst k1
  cases d with
  | true => exact ⟨m1, c1, s1, o1⟩
  | false => exact ⟨m1, c1, s1, o1⟩
end

/-! ## slots are stored -/
def CS.put (c : CS) (i : Nat) (s : Sl) : CS := { c with sl := c.sl.set i s }
theorem Sim.val {g : G} {m : Mp} {c : CS} {σ : L2.St} {H : Hp} (h : Sim g m c σ H) {i : Nat} {d : D} {v : V} (k : Sv g m d v) : Sim g m (c.put i (.val d)) (σ.set i (some v)) H := by
  refine ⟨h.fr, h.nd, h.tb, h.len, h.ini.set (fun _ _ z => nomatch z), by show (c.sl.set i _).length = (σ.set i _).length; rw [List.length_set, List.length_set]; exact h.ln, h.st, h.bk, fun j s hs => ?_⟩
  have hs : (c.sl.set i (.val d))[j]? = some s := hs
  by_cases e : i = j
  · subst e
    by_cases hi : i < c.sl.length
    · rw [List.getElem?_set_self hi] at hs
      cases hs
      exact ⟨v, List.getElem?_set_self (by rw [← h.ln]; exact hi), k⟩
    · rw [List.getElem?_eq_none (by rw [List.length_set]; omega)] at hs
      cases hs
  · rw [List.getElem?_set_ne e] at hs
    have q := h.sl j s hs
    cases s with
    | no => trivial
    | val d' =>
      obtain ⟨w, q1, q2⟩ := q
      exact ⟨w, by rw [List.getElem?_set_ne e]; exact q1, q2⟩
    | own o =>
      obtain ⟨q1, q2, q3⟩ := q
      refine ⟨by rw [List.getElem?_set_ne e]; exact q1, q2, ⟨q3.fr, q3.bk, q3.rh, fun k o' hk z => ?_⟩⟩
      have hk : (c.sl.set i (.val d))[k]? = some (.own o') := hk
      by_cases ek : i = k
      · subst ek
        by_cases hi : i < c.sl.length
        · rw [List.getElem?_set_self hi] at hk
          cases hk
        · rw [List.getElem?_eq_none (by rw [List.length_set]; omega)] at hk
          cases hk
      · rw [List.getElem?_set_ne ek] at hk
        exact q3.ap k o' hk z
/-- a fresh list becomes a slot's own -/
theorem Sim.own {g : G} {m : Mp} {c : CS} {σ : L2.St} {H : Hp} (h : Sim g m c σ H) {i : Nat} {xs : List D} {v : V} (k : rL g m c H xs v) : ∃ m', Ext m m' ∧ Sim g m' (c.put i (.own (.lst xs))) (σ.set i (some v)) H := by
  obtain ⟨p, vs, rfl, hp, hv, f⟩ := k
  have ex : Ext m { m with lam := fun j => if j = i then p else m.lam j } := ⟨fun _ _ z => z, fun _ _ z => z, rfl, rfl⟩
  have l1 : ∀ {j : Nat}, j = i → (fun j => if j = i then p else m.lam j) j = p := fun {j} e => if_pos e
  have l2 : ∀ {j : Nat}, j ≠ i → (fun j => if j = i then p else m.lam j) j = m.lam j := fun {j} e => if_neg e
  have iniL : IniOk { m with lam := fun j => if j = i then p else m.lam j } (c.sl.set i (.own (.lst xs))) := fun k fs e => by
    have e2 := (h.ini.set (i := i) (s := .own (.lst xs)) (fun _ _ z => nomatch z)) k fs e
    by_cases q : (0 : Nat) = i
    · subst q
      by_cases hl : 0 < c.sl.length
      · rw [List.getElem?_set_self hl] at e
        cases e
      · rw [List.getElem?_eq_none (by rw [List.length_set]; omega)] at e
        cases e
    · show (if (0 : Nat) = i then p else m.lam 0) = m.ini
      rw [if_neg q]
      exact e2
  refine ⟨{ m with lam := fun j => if j = i then p else m.lam j }, ex, h.fr, h.nd, h.tb, h.len, iniL, by show (c.sl.set i _).length = (σ.set i _).length; rw [List.length_set, List.length_set]; exact h.ln, fun n a o h1 h2 => ?_, h.bk, fun j s hs => ?_⟩
  · obtain ⟨k1, k2⟩ := h.st n a o h1 h2
    exact ⟨k1, k2.mono ex rfl⟩
  · have hs : (c.sl.set i (.own (.lst xs)))[j]? = some s := hs
    by_cases e : i = j
    · subst e
      by_cases hi : i < c.sl.length
      · rw [List.getElem?_set_self hi] at hs
        cases hs
        refine ⟨?_, ⟨vs, ?_, hv.mono ex⟩, ⟨?_, ?_, ?_, fun k o' hk z => ?_⟩⟩
        · show (σ.set i _)[i]? = some (some (.ref ((fun j => if j = i then p else m.lam j) i)))
          rw [l1 rfl]
          exact List.getElem?_set_self (by rw [← h.ln]; exact hi)
        · show H ((fun j => if j = i then p else m.lam j) i) = _
          rw [l1 rfl]
          exact hp
        · show m.F ((fun j => if j = i then p else m.lam j) i) = _
          rw [l1 rfl]
          exact f.f
        · show m.B ((fun j => if j = i then p else m.lam j) i) = _
          rw [l1 rfl]
          exact f.b
        · show (fun j => if j = i then p else m.lam j) i ∉ m.rho
          rw [l1 rfl]
          exact f.r
        · have hk : (c.sl.set i (.own (.lst xs)))[k]? = some (.own o') := hk
          have z : (fun j => if j = i then p else m.lam j) k = (fun j => if j = i then p else m.lam j) i := z
          rw [l1 (j := i) rfl] at z
          by_cases ek : i = k
          · exact ek.symm
          · rw [List.getElem?_set_ne ek] at hk
            rw [l2 (fun e => ek e.symm)] at z
            exact absurd z (f.o k o' hk)
      · rw [List.getElem?_eq_none (by rw [List.length_set]; omega)] at hs
        cases hs
    · rw [List.getElem?_set_ne e] at hs
      have q := h.sl j s hs
      cases s with
      | no => trivial
      | val d' =>
        obtain ⟨w, q1, q2⟩ := q
        exact ⟨w, by rw [List.getElem?_set_ne e]; exact q1, q2.mono ex⟩
      | own o =>
        obtain ⟨q1, q2, q3⟩ := q
        have ej : (fun j => if j = i then p else m.lam j) j = m.lam j := l2 (fun z => e z.symm)
        refine ⟨?_, ?_, ⟨?_, ?_, ?_, fun k o' hk z => ?_⟩⟩
        · show (σ.set i _)[j]? = some (some (.ref ((fun j => if j = i then p else m.lam j) j)))
          rw [ej, List.getElem?_set_ne e]
          exact q1
        · show So g _ H ((fun j => if j = i then p else m.lam j) j) o
          rw [ej]
          exact q2.mono ex rfl
        · show m.F ((fun j => if j = i then p else m.lam j) j) = _
          rw [ej]
          exact q3.fr
        · show m.B ((fun j => if j = i then p else m.lam j) j) = _
          rw [ej]
          exact q3.bk
        · show (fun j => if j = i then p else m.lam j) j ∉ m.rho
          rw [ej]
          exact q3.rh
        · have hk : (c.sl.set i (.own (.lst xs)))[k]? = some (.own o') := hk
          have z : (fun j => if j = i then p else m.lam j) k = (fun j => if j = i then p else m.lam j) j := z
          rw [ej] at z
          by_cases ek : i = k
          · subst ek
            rw [l1 rfl] at z
            exact absurd z.symm (f.o j o hs)
          · rw [List.getElem?_set_ne ek] at hk
            rw [l2 (fun e => ek e.symm)] at z
            exact q3.ap k o' hk z
/-- nothing is known of a slot -/
theorem Sim.no {g : G} {m : Mp} {c : CS} {σ : L2.St} {H : Hp} (h : Sim g m c σ H) {i : Nat} (o : Option V) : Sim g m (c.put i .no) (σ.set i o) H := by
  refine ⟨h.fr, h.nd, h.tb, h.len, h.ini.set (fun _ _ z => nomatch z), by show (c.sl.set i _).length = (σ.set i _).length; rw [List.length_set, List.length_set]; exact h.ln, h.st, h.bk, fun j s hs => ?_⟩
  have hs : (c.sl.set i .no)[j]? = some s := hs
  by_cases e : i = j
  · subst e
    by_cases hi : i < c.sl.length
    · rw [List.getElem?_set_self hi] at hs
      cases hs
      trivial
    · rw [List.getElem?_eq_none (by rw [List.length_set]; omega)] at hs
      cases hs
  · rw [List.getElem?_set_ne e] at hs
    have q := h.sl j s hs
    cases s with
    | no => trivial
    | val d' =>
      obtain ⟨w, q1, q2⟩ := q
      exact ⟨w, by rw [List.getElem?_set_ne e]; exact q1, q2⟩
    | own o =>
      obtain ⟨q1, q2, q3⟩ := q
      refine ⟨by rw [List.getElem?_set_ne e]; exact q1, q2, ⟨q3.fr, q3.bk, q3.rh, fun k o' hk z => ?_⟩⟩
      have hk : (c.sl.set i .no)[k]? = some (.own o') := hk
      by_cases ek : i = k
      · subst ek
        by_cases hi : i < c.sl.length
        · rw [List.getElem?_set_self hi] at hk
          cases hk
        · rw [List.getElem?_eq_none (by rw [List.length_set]; omega)] at hk
          cases hk
      · rw [List.getElem?_set_ne ek] at hk
        exact q3.ap k o' hk z

/-! ## a slot's own object, a store's object, written -/
theorem nodup_at {l : List Addr} (h : l.Nodup) {i j : Nat} {a : Addr} (hi : l[i]? = some a) (hj : l[j]? = some a) : i = j := by
  obtain ⟨h1, e1⟩ := List.getElem?_eq_some_iff.mp hi
  obtain ⟨h2, e2⟩ := List.getElem?_eq_some_iff.mp hj
  rcases Nat.lt_trichotomy i j with q | q | q
  · exact absurd (e1.trans e2.symm) (List.pairwise_iff_getElem.mp h i j h1 h2 q)
  · exact q
  · exact absurd (e2.trans e1.symm) (List.pairwise_iff_getElem.mp h j i h2 h1 q)
theorem Sim.wrOwn {g : G} {m : Mp} {c : CS} {σ : L2.St} {H : Hp} (h : Sim g m c σ H) {i : Nat} {o o' : O} (hi : c.sl[i]? = some (.own o)) {u : HO} (k : ∀ H', H' (m.lam i) = some u → So g m H' (m.lam i) o') (hk : ∀ c fs, o' = .ins c fs → ∃ c fs, o = .ins c fs) : Sim g m (c.put i (.own o')) σ (upd H (m.lam i) u) := by
  obtain ⟨e1, e2, e3⟩ := h.sl i _ hi
  have hlt : i < c.sl.length := (List.getElem?_eq_some_iff.mp hi).1
  have iniL : IniOk m (c.sl.set i (.own o')) := fun k fs e => by
    by_cases q : i = 0
    · subst q
      rw [List.getElem?_set_self hlt] at e
      cases e
      obtain ⟨c2, fs2, e2⟩ := hk _ _ rfl
      subst e2
      exact h.ini _ _ hi
    · rw [List.getElem?_set_ne q] at e
      exact h.ini k fs e
  refine ⟨fun a w z => ?_, h.nd, (let ⟨_, y1, y2⟩ := e2.here; h.tb.mut y1 fun ps z => by subst z; exact y2), h.len, iniL, by show (c.sl.set i _).length = _; rw [List.length_set]; exact h.ln, fun n a w h1 h2 => ?_, fun a w z => ?_, fun j s hs => ?_⟩
  · rw [upd_ne (fun e => by rw [e, e3.fr] at z; cases z)]
    exact h.fr a w z
  · obtain ⟨k1, k2⟩ := h.st n a w h1 h2
    exact ⟨k1, k2.mono Ext.rfl' (upd_ne fun e => e3.rh (by rw [← e]; exact List.mem_of_getElem? h1))⟩
  · rw [upd_ne (fun e => by rw [e, e3.bk] at z; cases z)]
    exact h.bk a w z
  · have hs : (c.sl.set i (.own o'))[j]? = some s := hs
    by_cases e : i = j
    · subst e
      rw [List.getElem?_set_self hlt] at hs
      cases hs
      refine ⟨e1, k _ upd_same, ⟨e3.fr, e3.bk, e3.rh, fun k o'' hk z => ?_⟩⟩
      have hk : (c.sl.set i (.own o'))[k]? = some (.own o'') := hk
      by_cases ek : i = k
      · exact ek.symm
      · rw [List.getElem?_set_ne ek] at hk
        exact e3.ap k o'' hk z
    · rw [List.getElem?_set_ne e] at hs
      have q := h.sl j s hs
      cases s with
      | no => trivial
      | val d' => exact q
      | own w =>
        obtain ⟨q1, q2, q3⟩ := q
        have ne : m.lam j ≠ m.lam i := fun z => e (e3.ap j w hs z).symm
        refine ⟨q1, q2.mono Ext.rfl' (upd_ne ne), ⟨q3.fr, q3.bk, q3.rh, fun k o'' hk z => ?_⟩⟩
        have hk : (c.sl.set i (.own o'))[k]? = some (.own o'') := hk
        by_cases ek : i = k
        · subst ek
          exact absurd z.symm ne
        · rw [List.getElem?_set_ne ek] at hk
          exact q3.ap k o'' hk z
theorem Sim.wrSt {g : G} {m : Mp} {c : CS} {σ : L2.St} {H : Hp} (h : Sim g m c σ H) {n : Nat} {a : Addr} {o o' : O} (ha : m.rho[n]? = some a) (ho : c.S[n]? = some o) {u : HO} (k : ∀ H', H' a = some u → So g m H' a o') : Sim g m { c with S := c.S.set n o' } σ (upd H a u) := by
  have hlt : n < c.S.length := (List.getElem?_eq_some_iff.mp ho).1
  obtain ⟨f1, f2⟩ := h.st n a o ha ho
  refine ⟨fun b w z => ?_, h.nd, (let ⟨_, y1, y2⟩ := f2.here; h.tb.mut y1 fun ps z => by subst z; exact y2), by show _ = (c.S.set n o').length; rw [List.length_set]; exact h.len, h.ini, h.ln, fun n' b w h1 h2 => ?_, fun b w z => ?_, fun j s hs => ?_⟩
  · rw [upd_ne (fun e => by rw [e, f1] at z; cases z)]
    exact h.fr b w z
  · have h2 : (c.S.set n o')[n']? = some w := h2
    by_cases e : n = n'
    · subst e
      rw [ha] at h1
      cases h1
      rw [List.getElem?_set_self hlt] at h2
      cases h2
      exact ⟨f1, k _ upd_same⟩
    · rw [List.getElem?_set_ne e] at h2
      obtain ⟨k1, k2⟩ := h.st n' b w h1 h2
      have ne : b ≠ a := fun z => by
        subst z
        exact e (nodup_at h.nd ha h1)
      exact ⟨k1, k2.mono Ext.rfl' (upd_ne ne)⟩
  · have z := h.bk b w z
    rw [upd_ne (fun e => z.2.2.1 (by rw [e]; exact List.mem_of_getElem? ha))]
    exact z
  · have q := h.sl j s hs
    cases s with
    | no => trivial
    | val d' => exact q
    | own w =>
      obtain ⟨q1, q2, q3⟩ := q
      exact ⟨q1, q2.mono Ext.rfl' (upd_ne fun e => q3.rh (by rw [e]; exact List.mem_of_getElem? ha)), q3⟩
end CL
namespace CL
open PySem PySem.Spec PyProof.Rows L2

/-! ## where one stands -/
def isLoc (o : Option NameKind) : Bool := match o with
  | some .local => true
  | some .cell => true
  | _ => false
def isVis (o : Option NameKind) : Bool := match o with
  | some .local => true
  | some .cell => true
  | some .free => true
  | _ => false
theorem vis_of {sc : Scope} {x : Str} (h : isVis (sc.names.lookup x) = true) : Vis sc x := by
  unfold Vis
  cases e : sc.names.lookup x with
  | none => rw [e] at h; cases h
  | some k => rw [e] at h; cases k <;> first | (cases h; done) | simp
structure Good (g : G) (k : Nat) (N : List Str) (X : Cx) (sc ws : Scope) (W : WX) : Prop where
  hN : X.N = N
  nd : N.Nodup
  hsc : X.env.scope = sc
  calm : X.calm = true
  room : Room k X.A
  hK : X.K = g.K
  hP : X.prog = g.prog
  hw : X.w = g.w
  hmg : X.mg = g.mg
  hbs : X.base = g.base
  tk : Takes X W
  own : PassesOwn (model X.prog X.w) X.A X.env X.xe
  sto : ∀ x, isLoc (ws.names.lookup x) = true → Loc X.env.scope x ∧ (X.fn x = true ∨ X.env.scope.names.lookup x = some .local)
section
variable {g : G} {k : Nat} {N : List Str} {X : Cx} {sc ws : Scope} {W : WX}
theorem Good.vis (q : Good g k N X sc ws W) {x : Str} (h : isVis (sc.names.lookup x) = true) : Vis X.env.scope x := by
  rw [q.hsc]
  exact vis_of h
/-- a global name -/
def isGl (sc : Scope) (x : Str) : Bool := match sc.names.lookup x with
  | some .globalImplicit => !(x == ("__debug__" : Str)) && !(x == ("__name__" : Str))
  | _ => false
theorem Good.gl (q : Good g k N X sc ws W) {x : Str} (h : isGl sc x = true) : Gl X x ∧ (x == ("__debug__" : Str)) = false ∧ x ≠ "__name__" := by
  unfold isGl at h
  split at h
  · rename_i e
    rw [Bool.and_eq_true] at h
    refine ⟨?_, by simpa using h.1, fun z => ?_⟩
    · show X.env.scope.names.lookup x = _
      rw [q.hsc]
      exact e
    · have h2 := h.2
      rw [z] at h2
      revert h2
      decide
  · cases h
theorem Good.fn (q : Good g k N X sc ws W) {j : Nat} {f : Addr} {fn : Fn} (F : FnC g j f fn) : FnR X.prog X.w X.K X.mg X.base (L2.CX X.prog X.w) j f (spOf g fn) := by
  rw [q.hP, q.hw, q.hK, q.hmg, q.hbs]
  exact F
theorem Good.ndX (q : Good g k N X sc ws W) : X.N.Nodup := by rw [q.hN]; exact q.nd
theorem Good.at_ (q : Good g k N X sc ws W) {i : Nat} {x : Str} (h : N[i]? = some x) : X.N[i]? = some x := by rw [q.hN]; exact h
end
def noDbg (x : Str) : Bool := !(x == ("__debug__" : Str)) && !(x == ("__classdict__" : Str))
theorem noDbg_1 {x : Str} (h : noDbg x = true) : (x == ("__debug__" : Str)) = false := by
  unfold noDbg at h
  rw [Bool.and_eq_true] at h
  simpa using h.1
theorem noDbg_2 {x : Str} (h : noDbg x = true) : (x == ("__classdict__" : Str)) = false := by
  unfold noDbg at h
  rw [Bool.and_eq_true] at h
  simpa using h.2

/-! ## name = .. -/
def notComp : Expr → Bool
  | .ListComp _ _ _ _ => false
  | .SetComp _ _ _ _ => false
  | .DictComp _ _ _ _ _ => false
  | _ => true
theorem swaps_no {e : Expr} {t : Option Expr} {l : Nat} {env : Env} (h : notComp e = true) : swapsWith e t l env = pure false := by
  cases e <;> first | rfl | cases h
def cSet (i : Nat) (fe : M D) : M Fl := fun c => (fe c).bind fun d c' => .ok .next (c'.put i (.val d))
def cSetL (i : Nat) (fl : M (List D)) : M Fl := fun c => (fl c).bind fun xs c' => .ok .next (c'.put i (.own (.lst xs)))
section
variable {X : Cx} {g : G} {k : Nat} {N : List Str} {sc ws : Scope} {W : WX} {pos pos' : Pos} {e : Expr} {fe : M D} {fl : M (List D)} {i : Nat} {x : Str}
theorem set_imp {te : TE} (f : M Fl) (h : PS X (.Assign [.Name x pos'] e pos) (tAsg te (gName i))) (j : ∀ Dn σ H, tS g W f Dn σ H → te σ H fun v H1 => Dn.nx (σ.set i (some v)) H1) : PS X (.Assign [.Name x pos'] e pos) (tS g W f) := ps_imp h j
theorem cSet_ok (Dn : Ends) (σ : L2.St) (H : Hp) (q : tS g W (cSet i fe) Dn σ H) : tE g W fe σ H fun v H1 => Dn.nx (σ.set i (some v)) H1 := by
  obtain ⟨m, c, s, o⟩ := q
  exact ⟨m, c, s, o.bind.imp fun v H1 ⟨m1, d, c1, x1, s1, k1, o1⟩ => o1.nx (s1.val k1)⟩
theorem cSetL_ok (Dn : Ends) (σ : L2.St) (H : Hp) (q : tS g W (cSetL i fl) Dn σ H) : tL g W fl σ H fun v H1 => Dn.nx (σ.set i (some v)) H1 := by
  obtain ⟨m, c, s, o⟩ := q
  refine ⟨m, c, s, o.bind.imp fun v H1 ⟨m1, d, c1, x1, s1, k1, o1⟩ => ?_⟩
  obtain ⟨m2, x2, s2⟩ := s1.own (i := i) k1
  exact (o1.mono x2).nx s2
theorem ss_set (q : Good g k N X sc ws W) (hi : N[i]? = some x) (hl : isLoc (ws.names.lookup x) = true) (he : PE X e (tE g W fe)) (hs : swapsWith e (some (.Name x pos')) pos.line X.env = pure false) : PS X (.Assign [.Name x pos'] e pos) (tS g W (cSet i fe)) :=
  ps_imp (ps_set q.ndX (q.at_ hi) (q.sto x hl).1 he hs (q.sto x hl).2) cSet_ok
theorem ss_setL (q : Good g k N X sc ws W) (hi : N[i]? = some x) (hl : isLoc (ws.names.lookup x) = true) (he : PE X e (tL g W fl)) (hs : swapsWith e (some (.Name x pos')) pos.line X.env = pure false) : PS X (.Assign [.Name x pos'] e pos) (tS g W (cSetL i fl)) :=
  ps_imp (ps_set q.ndX (q.at_ hi) (q.sto x hl).1 he hs (q.sto x hl).2) cSetL_ok
end

/-! ## a list at a name, or in the store, is written -/
/-- the list that slot i holds or tells of -/
inductive Pl where
  | own (xs : List D)
  | st (n : Nat) (xs : List D)
def CS.pl (c : CS) (i : Nat) : Option Pl := match c.sl[i]? with
  | some (.own (.lst xs)) => some (.own xs)
  | some (.val (.ref n)) => match c.S[n]? with
    | some (.lst xs) => some (.st n xs)
    | _ => none
  | _ => none
def Pl.xs : Pl → List D
  | .own xs => xs
  | .st _ xs => xs
def CS.wr (c : CS) (i : Nat) (p : Pl) (ys : List D) : CS := match p with
  | .own _ => c.put i (.own (.lst ys))
  | .st n _ => { c with S := c.S.set n (.lst ys) }
theorem Sim.pl {g : G} {m : Mp} {c : CS} {σ : L2.St} {H : Hp} (s : Sim g m c σ H) {i : Nat} {p : Pl} (e : c.pl i = some p) :
    ∃ a vs, σ[i]? = some (some (.ref a)) ∧ H a = some (.lst vs) ∧ Svs g m p.xs vs ∧ ∀ ys ws, Svs g m ys ws → Sim g m (c.wr i p ys) σ (upd H a (.lst ws)) := by
  unfold CS.pl at e
  cases q : c.sl[i]? with
  | none => rw [q] at e; cases e
  | some t =>
    rw [q] at e
    cases t with
    | no => cases e
    | own o =>
      cases o with
      | ins _ _ => cases e
      | lst xs =>
        cases e
        obtain ⟨h1, ⟨vs, h2, h3⟩, h4⟩ := s.sl i _ q
        exact ⟨m.lam i, vs, h1, h2, h3, fun ys ws k => s.wrOwn q (fun H' z => ⟨ws, z, k⟩) (fun _ _ z => nomatch z)⟩
    | val d =>
      cases d with
      | ref n =>
        have e : (match c.S[n]? with
          | some (.lst xs) => some (Pl.st n xs)
          | _ => none) = some p := e
        cases r : c.S[n]? with
        | none => rw [r] at e; cases e
        | some o =>
          rw [r] at e
          cases o with
          | ins _ _ => cases e
          | lst xs =>
            cases e
            obtain ⟨v, h1, h2⟩ := s.sl i _ q
            cases h2 with
            | @ref _ a ha =>
              obtain ⟨_, vs, k1, k2⟩ := s.st n a _ ha r
              exact ⟨a, vs, h1, k1, k2, fun ys ws k => s.wrSt ha r fun H' z => ⟨ws, z, k⟩⟩
      | _ => cases e
theorem asgSub_ok {o i : Expr} {pos : Pos} {env : Env} (h : notSlice i = true) (v : Value) : assign (.Subscript o i pos) env v = (do
      let ov ← holding [v] (eval o env)
      let iv ← holding [v, ov] (eval i env)
      standAt pos
      holding [v, ov, iv] (setItem ov iv v)
      release [v, ov, iv] []) := by
  cases i <;> first | rfl | cases h
theorem swaps_sub {e o i : Expr} {p : Pos} {l : Nat} {env : Env} : swapsWithSole [.Subscript o i p] e l env = pure false := by
  cases e <;> rfl
theorem swst_sub {e o i : Expr} {p : Pos} {env : Env} : swappedStores [.Subscript o i p] e env = pure none := by
  cases e <;> rfl
/-- x[i] = e -/
def cSetIx (i : Nat) (fi fe : M D) : M Fl := fun c => (fe c).bind fun d c1 => match c1.pl i with
  | none => .stuck
  | some _ => (fi c1).bind fun j c2 => match j, c2.pl i with
    | .int j, some p => match ixN p.xs.length j with
      | some n => .ok .next (c2.wr i p (p.xs.set n d))
      | none => .stuck
    | _, _ => .stuck
section
variable {X : Cx} {g : G} {k : Nat} {N : List Str} {sc ws : Scope} {W : WX} {pos pos' px : Pos} {e ie : Expr} {fe fi : M D} {i : Nat} {x : Str}
theorem ss_setIx (q : Good g k N X sc ws W) (hi : N[i]? = some x) (hv : isVis (sc.names.lookup x) = true) (hd : noDbg x = true) (he : PE X e (tE g W fe)) (hie : PE X ie (tE g W fi)) (hs : notSlice ie = true) : PS X (.Assign [.Subscript (.Name x px) ie pos'] e pos) (tS g W (cSetIx i fi fe)) := by
  refine ps_imp (ps_asg he (pg_sub (pe_var (q.at_ hi) (q.vis hv) (noDbg_1 hd) (noDbg_2 hd)) hie set_list (asgSub_ok hs)) swaps_sub swst_sub rfl) fun Dn σ H ⟨m, c, s, o⟩ => ?_
  refine ⟨m, c, s, o.bind.imp fun v H1 ⟨m1, d, c1, x1, s1, k1, o1⟩ => ?_⟩
  cases e1 : c1.pl i with
  | none => rw [e1] at o1; exact o1.elim
  | some p =>
    rw [e1] at o1
    obtain ⟨a, vs, h1, h2, h3, h4⟩ := s1.pl e1
    refine ⟨.ref a, h1, m1, c1, s1, o1.bind.imp fun y H2 ⟨m2, j, c2, x2, s2, k2, o2⟩ => ?_⟩
    cases k2 with
    | int j =>
      cases e2 : c2.pl i with
      | none => rw [e2] at o2; exact o2.elim
      | some p2 =>
        obtain ⟨a2, vs2, g1, g2, g3, g4⟩ := s2.pl e2
        rw [h1] at g1
        cases g1
        have o2 : OutS g W m2 (match c2.pl i with
          | some p => match ixN p.xs.length j with
            | some n => .ok .next (c2.wr i p (p.xs.set n d))
            | none => .stuck
          | none => .stuck) Dn := by
          cases e3 : c2.pl i with
          | none => rw [e3] at e2; cases e2
          | some p3 => rw [e3] at o2; exact o2
        rw [e2] at o2
        dsimp only at o2
        cases e3 : ixN p2.xs.length j with
        | none => rw [e3] at o2; exact o2.elim
        | some n =>
          rw [e3] at o2
          refine ⟨a, vs2, j, n, rfl, rfl, g2, by rw [← g3.length]; exact e3, ?_⟩
          exact o2.nx (g4 _ _ (g3.set n (k1.mono x2)))
    | _ => exact o2.elim
end

/-! ## what is walked -/
/-- J yields ds, one after the other; the heap may grow by it -/
def Yld (g : G) (m : Mp) (J : It) (ds : List D) : Prop := ∀ (m1 : Mp) (c : CS) (σ : L2.St) (H : Hp), (∀ (n : Nat) (a : Addr), m.rho[n]? = some a → m1.rho[n]? = some a) → (∀ (a : Addr) (o : HO), m.F a = some o → m1.F a = some o) → Sim g m1 c σ H → ∀ i : Nat,
  (i = ds.length → J.stop i H) ∧ ∀ d, ds[i]? = some d → J.go i H ∧ ∀ x H', J.yld i H x H' → ∃ m2, Ext m1 m2 ∧ Sim g m2 c σ H' ∧ Sv g m2 d x
def rI (g : G) : Rl (List D) It := fun m _ _ ds J => Yld g m J ds
abbrev tI (g : G) (W : WX) (f : M (List D)) : TI := tX (rI g) g W f
theorem pi_imp {X : Cx} {tg e : Expr} {t t' : TI} (h : PI X tg e t) (i : ∀ σ H R, t' σ H R → t σ H R) : PI X tg e t' := ⟨fun pins s σ H R I q => h.run pins s σ H R I (i σ H R q)⟩
theorem yld_list {g : G} {m : Mp} {a : Addr} {ds : List D} {vs : List V} (h : m.F a = some (.lst vs)) (k : Svs g m ds vs) : Yld g m (Itl g.K a) ds := fun m1 c σ H xr xf s i => by
  have hq : SqL g.K H a vs := SqL.of (s.fr _ _ (xf _ _ h))
  have kl := k.length
  refine ⟨fun hi => ⟨vs, hq, by omega⟩, fun d hd => ?_⟩
  obtain ⟨v, h1, h2⟩ := k.get hd
  refine ⟨⟨vs, v, hq, h1⟩, fun y H' ⟨e1, e2⟩ => ?_⟩
  have e3 := e2 vs hq
  rw [h1] at e3
  cases e3
  subst e1
  exact ⟨m1, Ext.rfl', s, Sv.like xr xf h2⟩
theorem yld_tup {g : G} {m : Mp} {a : Addr} {ds : List D} {vs : List V} (h : SqT g.K m.F a vs) (k : Svs g m ds vs) : Yld g m (Itt g.K a) ds := fun m1 c σ H xr xf s i => by
  have hq : SqT g.K H a vs := s.sqT (sqT_mono xf h)
  have kl := k.length
  refine ⟨fun hi => ⟨vs, hq, by omega⟩, fun d hd => ?_⟩
  obtain ⟨v, h1, h2⟩ := k.get hd
  refine ⟨⟨vs, v, hq, h1⟩, fun y H' ⟨e1, e2⟩ => ?_⟩
  have e3 := e2 vs hq
  rw [h1] at e3
  cases e3
  subst e1
  exact ⟨m1, Ext.rfl', s, Sv.like xr xf h2⟩
/-- the ints lo, lo + 1, .. -/
def rangeD (lo : Int) (n : Nat) : List D := (List.range n).map fun (i : Nat) => D.int (lo + i)
theorem yld_range {g : G} {m : Mp} {lo : Int} {n : Nat} : Yld g m (Itr lo n) (rangeD lo n) := fun m1 c σ H xr xf s i => by
  have hl : (rangeD lo n).length = n := by unfold rangeD; simp
  refine ⟨fun hi => by rw [hl] at hi; exact Nat.le_of_eq hi.symm, fun d hd => ?_⟩
  have hi : i < n := by
    rw [← hl]
    exact (List.getElem?_eq_some_iff.mp hd).1
  unfold rangeD at hd
  rw [List.getElem?_map, List.getElem?_range hi] at hd
  cases hd
  refine ⟨hi, fun y H' ⟨e1, e2⟩ => ?_⟩
  subst e1
  subst e2
  exact ⟨m1, Ext.rfl', s, .int _⟩
def fitsR (i : Int) : Bool := decide (-(2 ^ 62) ≤ i ∧ i < 2 ^ 62)
/-- a list, a tuple as it stands -/
def dWalk (d : D) : M (List D) := fun c => match d with
  | .lst xs => .ok xs c
  | .tup xs => .ok xs c
  | _ => .stuck
def cWalk (f : M D) : M (List D) := f.bind dWalk
/-- range(n), range(a, b) -/
def cRange1 (f : M D) : M (List D) := f.bind fun x => match x with
  | .int n => M.guard (fitsR n) (M.ret (rangeD 0 n.toNat))
  | _ => fun _ => .stuck
def cRange2 (f h : M D) : M (List D) := f.bind fun x => h.bind fun y => match x, y with
  | .int i, .int j => M.guard (fitsR i && fitsR j) (M.ret (rangeD i (j - i).toNat))
  | _, _ => fun _ => .stuck
section
variable {X : Cx} {g : G} {W : WX} {tg e e2 : Expr} {fe fe2 : M D} {p pos : Pos}
theorem pi_seq (hK : X.K = g.K) (he : PE X e (tE g W fe)) : PI X tg e (tI g W (cWalk fe)) := by
  refine ⟨fun pins s σ H R I ⟨m, c, sm, o⟩ => ?_⟩
  refine thn (he.run pins s σ H _ I ⟨m, c, sm, o.bind⟩) fun u s1 ⟨v, H1, I1, r1, m1, d, c1, x1, s2, k1, o1⟩ => ?_
  cases k1 with
  | @lst a ds vs h1 h2 =>
    cases r1
    obtain ⟨its, _, pl, _⟩ := I1.list (SqL.of (s2.fr _ _ h1))
    refine wpAny_pyIter_list pl.isList ⟨s1.heap.objs.size, [s1.heap.objs.size], _, _, H1, rfl, I1.kept (t' := s1.toks) fun b ob q => Heap.get?_push_of_some _ q, turn_list a _, ⟨_, Heap.get?_push_size _ rfl, rfl, rfl⟩, fun b hb => ?_, ?_⟩
    · cases List.mem_singleton.mp hb
      exact I1.fpOk (Nat.le_refl _) (I1.hok.fresh (Nat.le_refl _))
    · rw [hK]
      exact o1.here s2 (yld_list h1 h2)
  | @tup a ds vs h1 h2 =>
    cases r1
    have hq : SqT X.K H1 a vs := by
      rw [hK]
      exact s2.sqT h1
    obtain ⟨its, _, pl, _⟩ := I1.tuple hq
    refine wpAny_pyIter_tuple (show s1.heap.IsTuple a its.toArray from pl) ⟨s1.heap.objs.size, [s1.heap.objs.size], _, _, H1, rfl, I1.kept (t' := s1.toks) fun b ob q => Heap.get?_push_of_some _ q, turn_tuple a _, ⟨_, Heap.get?_push_size _ rfl, rfl, rfl⟩, fun b hb => ?_, ?_⟩
    · cases List.mem_singleton.mp hb
      exact I1.fpOk (Nat.le_refl _) (I1.hok.fresh (Nat.le_refl _))
    · rw [hK]
      exact o1.here s2 (yld_tup h1 h2)
  | _ => exact o1.elim
theorem si_range1 (hg : Gl X "range") (hm : X.mg "range" = none) (he : PE X e (tE g W fe)) (hs : isStar e = false) : PI X tg (.Call (.Name "range" p) [e] [] pos) (tI g W (cRange1 fe)) := by
  refine pi_imp (pi_range1 hg hm (pa_cons he pa_nil (star_plain hs)) (star_plain hs)) fun σ H R ⟨m, c, s, o⟩ => ⟨m, c, s, o.bind.imp fun v H1 ⟨m1, d, c1, x1, s1, k1, o1⟩ => ?_⟩
  cases k1 with
  | int n =>
    obtain ⟨hz, o1⟩ := Out.guard o1
    have hz := of_decide_eq_true hz
    exact ⟨n, rfl, hz.1, hz.2, o1.here s1 yld_range⟩
  | _ => exact o1.elim
theorem si_range2 (hg : Gl X "range") (hm : X.mg "range" = none) (he : PE X e (tE g W fe)) (he2 : PE X e2 (tE g W fe2)) (hs : isStar e = false) (hs2 : isStar e2 = false) : PI X tg (.Call (.Name "range" p) [e, e2] [] pos) (tI g W (cRange2 fe fe2)) := by
  refine pi_imp (pi_range2 hg hm (pa_cons he (pa_cons he2 pa_nil (star_plain hs2)) (star_plain hs)) (by rw [star_plain hs, star_plain hs2]; rfl) (star_plain hs2)) fun σ H R ⟨m, c, s, o⟩ => ⟨m, c, s, o.bind.imp fun v H1 ⟨m1, d, c1, x1, s1, k1, o1⟩ => ⟨m1, c1, s1, o1.bind.imp fun v2 H2 ⟨m2, d2, c2, x2, s2, k2, o2⟩ => ?_⟩⟩
  cases k1 with
  | int i =>
    cases k2 with
    | int j =>
      obtain ⟨hz, o2⟩ := Out.guard o2
      rw [Bool.and_eq_true] at hz
      have h1 := of_decide_eq_true hz.1
      have h2 := of_decide_eq_true hz.2
      exact ⟨i, j, rfl, ⟨h1.1, h1.2, h2.1, h2.2⟩, o2.here s2 yld_range⟩
    | _ => exact o2.elim
  | _ => cases k2 <;> exact o2.elim
end

/-! ## targets -/
/-- what is assigned where -/
inductive Tg where
  | nm (i : Nat)
  | tp (is : List Nat)
def putAll : List Nat → List D → CS → CS
  | i :: is, d :: ds, c => putAll is ds (c.put i (.val d))
  | _, _, c => c
def cTg : Tg → D → M Fl
  | .nm i, d => fun c => .ok .next (c.put i (.val d))
  | .tp is, .tup ds => fun c => match decide (ds.length = is.length) with
    | true => .ok .next (putAll is ds c)
    | false => .stuck
  | .tp _, _ => fun _ => .stuck
/-- σ behind the stores -/
def setAll : List Nat → List V → L2.St → L2.St
  | i :: is, v :: vs, σ => setAll is vs (σ.set i (some v))
  | _, _, σ => σ
theorem Sim.putAll {g : G} {m : Mp} {H : Hp} : ∀ (is : List Nat) {ds : List D} {vs : List V} {c : CS} {σ : L2.St}, Sim g m c σ H → Svs g m ds vs → Sim g m (CL.putAll is ds c) (setAll is vs σ) H
  | [], _, _, _, _, s, _ => by
    unfold CL.putAll setAll
    exact s
  | i :: is, _, _, _, _, s, .nil => s
  | i :: is, _, _, _, _, s, .cons k r => Sim.putAll is (s.val k) r
/-- a target by its slots -/
def gT (g : G) (t : Tg) : TG := fun v σ H Q => match t with
  | .nm i => Q (σ.set i (some v)) H
  | .tp is => ∃ a xs, v = .ref a ∧ SqT g.K H a xs ∧ xs.length = is.length ∧ Q (setAll is xs σ) H
structure PTg (g : G) (X : Cx) (tg : Expr) (t : Tg) : Prop where
  run : PG X tg (gT g t)
def Tg.slots : Tg → List Nat
  | .nm i => [i]
  | .tp is => is
theorem wipe_get (σ : L2.St) (j : Nat) : ∀ vs : List Nat, (wipe σ vs)[j]? = if j ∈ vs then σ[j]?.map (fun _ => none) else σ[j]?
  | [] => by simp [wipe]
  | v :: vs => by
    have ih := wipe_get σ j vs
    unfold wipe
    by_cases e : v = j
    · subst e
      rw [if_pos (List.mem_cons_self)]
      by_cases h : v < σ.length
      · rw [List.getElem?_set_self (by rw [wipe_length]; exact h), List.getElem?_eq_getElem h]
        rfl
      · rw [List.getElem?_eq_none (by rw [List.length_set, wipe_length]; omega), List.getElem?_eq_none (by omega)]
        rfl
    · rw [List.getElem?_set_ne e, ih]
      by_cases h : j ∈ vs
      · rw [if_pos h, if_pos (List.mem_cons_of_mem _ h)]
      · rw [if_neg h, if_neg (fun z => (List.mem_cons.mp z).elim (fun z => e z.symm) h)]
theorem wipe_set {σ : L2.St} {i : Nat} {o : Option V} {vs : List Nat} (h : i ∈ vs) : wipe (σ.set i o) vs = wipe σ vs := by
  refine List.ext_getElem? fun j => ?_
  rw [wipe_get, wipe_get]
  by_cases e : i = j
  · subst e
    rw [if_pos h, if_pos h, List.getElem?_set]
    by_cases h : i < σ.length
    · simp [h]
    · simp [h]
  · rw [List.getElem?_set_ne e]
theorem wipe_wipe (σ : L2.St) (vs : List Nat) : wipe (wipe σ vs) vs = wipe σ vs := by
  refine List.ext_getElem? fun j => ?_
  rw [wipe_get, wipe_get]
  by_cases h : j ∈ vs
  · rw [if_pos h, if_pos h]
    cases σ[j]? <;> rfl
  · rw [if_neg h, if_neg h]
theorem wipe_setAll {vs : List Nat} : ∀ (is : List Nat) (xs : List V) (σ : L2.St), (∀ i ∈ is, i ∈ vs) → wipe (setAll is xs σ) vs = wipe σ vs
  | [], _, _, _ => by unfold setAll; rfl
  | i :: is, [], _, _ => rfl
  | i :: is, x :: xs, σ, h => by
    show wipe (setAll is xs (σ.set i (some x))) vs = _
    rw [wipe_setAll is xs _ fun j hj => h j (List.mem_cons_of_mem _ hj), wipe_set (h i List.mem_cons_self)]
theorem PTg.go {g : G} {t : Tg} {m : Mp} {c c' : CS} {σ : L2.St} {H : Hp} {d : D} {v : V} {Q : L2.St → Hp → Prop} (s : Sim g m c σ H) (k : Sv g m d v) (e : cTg t d c = .ok .next c') (q : ∀ σ', Sim g m c' σ' H → (∀ vs : List Nat, (∀ i ∈ t.slots, i ∈ vs) → wipe σ' vs = wipe σ vs) → Q σ' H) : gT g t v σ H Q := by
  cases t with
  | nm i =>
    cases e
    exact q _ (s.val k) fun vs h => wipe_set (h i List.mem_cons_self)
  | tp is =>
    cases k with
    | @tup a ds vs h1 h2 =>
      have e : (match decide (ds.length = is.length) with
        | true => R.ok Fl.next (putAll is ds c)
        | false => .stuck) = .ok .next c' := e
      cases hd : decide (ds.length = is.length) with
      | false => rw [hd] at e; cases e
      | true =>
        rw [hd] at e
        cases e
        have hl := of_decide_eq_true hd
        exact ⟨a, vs, rfl, s.sqT h1, by rw [← h2.length]; exact hl, q _ (s.putAll is h2) fun us h => wipe_setAll is vs σ h⟩
    | _ => cases e
theorem cTg_next (t : Tg) (d : D) (c : CS) : (∃ c', cTg t d c = .ok .next c') ∨ cTg t d c = .stuck := by
  cases t with
  | nm i => exact .inl ⟨_, rfl⟩
  | tp is =>
    cases d with
    | tup ds =>
      show (∃ c', (match decide (ds.length = is.length) with
        | true => R.ok Fl.next (putAll is ds c)
        | false => .stuck) = .ok .next c') ∨ (match decide (ds.length = is.length) with
        | true => R.ok Fl.next (putAll is ds c)
        | false => .stuck) = .stuck
      cases decide (ds.length = is.length) with
      | true => exact .inl ⟨_, rfl⟩
      | false => exact .inr rfl
    | _ => exact .inr rfl
section
variable {g : G} {k : Nat} {N : List Str} {X : Cx} {sc ws : Scope} {W : WX} {pos : Pos} {x : Str} {i : Nat}
theorem tg_name (q : Good g k N X sc ws W) (hi : N[i]? = some x) (hl : isLoc (ws.names.lookup x) = true) : PTg g X (.Name x pos) (.nm i) := ⟨pg_name q.ndX (q.at_ hi) (q.sto x hl).1 (q.sto x hl).2⟩
/-- the names of a tuple of targets -/
def tgNames (N : List Str) (ws : Scope) : List Expr → List Nat → Bool
  | [], [] => true
  | .Name x _ :: es, i :: is => decide (N[i]? = some x) && isLoc (ws.names.lookup x) && tgNames N ws es is
  | _, _ => false
theorem pgs_all (q : Good g k N X sc ws W) : ∀ (es : List Expr) (is : List Nat), tgNames N ws es is = true → PGs X es (fun vs σ H Q => vs.length = is.length ∧ Q (setAll is vs σ) H) ∧ (assignEach es X.env).length = is.length ∧ (assignEach es X.env).findIdx? (·.1) = none
  | [], [], _ => ⟨⟨fun pins s σ H vs us Q I r h => by
      obtain ⟨h1, h2⟩ := h
      have e : vs = [] := by cases vs with
        | nil => rfl
        | cons _ _ => cases h1
      subst e
      exact pgs_nil.run pins s σ H [] us Q I r ⟨rfl, by unfold setAll at h2; exact h2⟩⟩, rfl, rfl⟩
  | [], _ :: _, h => by cases h
  | e :: es, is, h => by
    cases e with
    | Name x p =>
      cases is with
      | nil => cases h
      | cons i is =>
        have h : (decide (N[i]? = some x) && isLoc (ws.names.lookup x) && tgNames N ws es is) = true := h
        rw [Bool.and_eq_true, Bool.and_eq_true] at h
        obtain ⟨⟨h1, h2⟩, h3⟩ := h
        obtain ⟨r1, r2, r3⟩ := pgs_all q es is h3
        refine ⟨⟨fun pins s σ H vs us Q I r hq => ?_⟩, ?_, ?_⟩
        · refine (pgs_cons (pg_name (pos := p) q.ndX (q.at_ (of_decide_eq_true h1)) (q.sto x h2).1 (q.sto x h2).2) r1).run pins s σ H vs us Q I r ?_
          obtain ⟨hl, hq⟩ := hq
          cases vs with
          | nil => cases hl
          | cons v vs => exact ⟨v, vs, rfl, by simpa using hl, hq⟩
        · show (assignEach es X.env).length + 1 = is.length + 1
          rw [r2]
        · show List.findIdx? _ ((false, assign (.Name x p) X.env) :: assignEach es X.env) = none
          rw [List.findIdx?_cons, r3]
          rfl
    | _ => cases is <;> cases h
theorem tg_tup (q : Good g k N X sc ws W) {es : List Expr} {is : List Nat} {j : Nat} (h : tgNames N ws es is = true) : PTg g X (.Tuple es j pos) (.tp is) := by
  obtain ⟨r1, r2, r3⟩ := pgs_all q es is h
  refine ⟨⟨fun pins s σ H v u Q I r hq => ?_⟩⟩
  obtain ⟨a, xs, e, hs, hl, hq⟩ := hq
  exact (pg_tup (n := is.length) q.calm r1 r2 r3).run pins s σ H v u Q I r ⟨a, xs, e, by rw [q.hK]; exact hs, hl, hl, hq⟩
end

/-! ## for -/
def forL (body : D → M Fl) : List D → M Fl
  | [] => fun c => .ok .next c
  | d :: ds => fun c => match body d c with
    | .ok .next c' => forL body ds c'
    | .ok .cont c' => forL body ds c'
    | .ok .brk c' => .ok .next c'
    | .ok (.ret v) c' => .ok (.ret v) c'
    | .exc cn vs c' => .exc cn vs c'
    | .stuck => .stuck
def cFor (fi : M (List D)) (t : Tg) (body : M Fl) : M Fl := fun c => (fi c).bind fun ds c' => forL (fun d => cSeq (cTg t d) body) ds c'
section
variable {g : G} {k : Nat} {N : List Str} {X : Cx} {sc ws : Scope} {W : WX} {pos : Pos} {tg iter : Expr} {bd : List Stmt} {fi : M (List D)} {t : Tg} {fb : M Fl}
theorem ss_for (q : Good g k N X sc ws W) (hi : PI X tg iter (tI g W fi)) (ht : PTg g X tg t) (hb : PSs X bd (tS g W fb)) (hs : notSet iter = true) : PS X (.For tg iter bd [] pos) (tS g W (cFor fi t fb)) := by
  refine ps_imp (ps_for q.own q.calm hi ht.run hb (folded_ok hs)) fun Dn σ H ⟨m, c, s, o⟩ => ⟨m, c, s, o.bind.imp fun J H1 ⟨m1, ds, c1, x1, s1, y, o1⟩ => ?_⟩
  refine ⟨fun i mm σ H => mm = ds.length - i ∧ i ≤ ds.length ∧ ∃ m2 c2, Ext m1 m2 ∧ Sim g m2 c2 σ H ∧ OutS g W m2 (forL (fun d => cSeq (cTg t d) fb) (ds.drop i) c2) Dn, ⟨ds.length, by simp, Nat.zero_le _, m1, c1, Ext.rfl', s1, o1⟩, ?_⟩
  rintro i mm σ2 H2 ⟨rfl, hi, m2, c2, x2, s2, o2⟩
  obtain ⟨y1, y2⟩ := y m2 c2 σ2 H2 x2.r x2.f s2 i
  by_cases hlt : i < ds.length
  · obtain ⟨go, yl⟩ := y2 _ (List.getElem?_eq_getElem hlt)
    rw [List.drop_eq_getElem_cons hlt] at o2
    refine .inr ⟨go, fun σ3 H3 => ∃ m3 c3, Ext m1 m3 ∧ Sim g m3 c3 σ3 H3 ∧ OutS g W m3 (forL (fun d => cSeq (cTg t d) fb) (ds.drop (i + 1)) c3) Dn, fun σ3 H3 ⟨m3, c3, z1, z2, z3⟩ => ⟨ds.length - (i + 1), by omega, rfl, hlt, m3, c3, z1, z2, z3⟩, fun x H3 yx => ?_⟩
    obtain ⟨m3, x3, s3, k3⟩ := yl x H3 yx
    have o3 := OutS.mono x3 o2
    unfold forL at o3
    rcases cTg_next t ds[i] c2 with ⟨c4, e4⟩ | e4
    · refine PTg.go s3 k3 e4 fun σ4 s4 _ => ⟨m3, c4, s4, ?_⟩
      have e5 : cSeq (cTg t ds[i]) fb c2 = fb c4 := by
        unfold cSeq
        rw [e4]
      rw [e5] at o3
      cases q : fb c4 with
      | ok f c5 =>
        rw [q] at o3
        cases f with
        | next => exact fun m6 σ6 H6 x6 s6 => ⟨m6, c5, (x2.trans x3).trans x6, s6, OutS.mono x6 o3⟩
        | cont => exact fun m6 σ6 H6 x6 s6 => ⟨m6, c5, (x2.trans x3).trans x6, s6, OutS.mono x6 o3⟩
        | brk => exact o3
        | ret v => exact o3
      | exc cn vs c5 => rw [q] at o3; exact o3
      | stuck => rw [q] at o3; exact o3
    · have e5 : cSeq (cTg t ds[i]) fb c2 = .stuck := by
        unfold cSeq
        rw [e4]
      rw [e5] at o3
      exact o3.elim
  · have e : i = ds.length := by omega
    subst e
    rw [List.drop_length] at o2
    exact .inl ⟨y1 rfl, o2.nx s2⟩
end
end CL
namespace CL
open PySem PySem.Spec PyProof.Rows L2

/-! ## list comprehensions -/
abbrev WF : WX := fun _ _ _ _ => False
def wipeC (vs : List Nat) (c : CS) : CS := vs.foldr (fun v c => c.put v .no) c
theorem Sim.wipe {g : G} {m : Mp} {H : Hp} {c : CS} {σ : L2.St} (s : Sim g m c σ H) : ∀ vs : List Nat, Sim g m (wipeC vs c) (L2.wipe σ vs) H
  | [] => s
  | v :: vs => by
    show Sim g m ((wipeC vs c).put v .no) ((L2.wipe σ vs).set v none) H
    exact (s.wipe vs).no none
theorem Sim.unwipe {g : G} {m : Mp} {H : Hp} {c : CS} {σ : L2.St} {vs : List Nat} (s : Sim g m c (L2.wipe σ vs) H) : Sim g m c σ H :=
  ⟨s.fr, s.nd, s.tb, s.len, s.ini, by rw [s.ln, wipe_length], s.st, s.bk, fun i t h => by
    have q := s.sl i t h
    cases t with
    | no => trivial
    | val d =>
      obtain ⟨v, q1, q2⟩ := q
      exact ⟨v, (wipe_some q1).1, q2⟩
    | own o =>
      obtain ⟨q1, q2, q3⟩ := q
      exact ⟨(wipe_some q1).1, q2, q3⟩⟩
/-- a free object is put into the background -/
theorem Sim.hide {g : G} {m : Mp} {H : Hp} {c : CS} {σ : L2.St} (s : Sim g m c σ H) {p : Addr} {u : HO} (f : Fre m c p) (hp : H p = some u) (nt : ∀ ps, u ≠ .tbl ps) : Sim g { m with B := upd m.B p u } c σ H := by
  refine ⟨s.fr, s.nd, s.tb, s.len, s.ini, s.ln, fun n a o h1 h2 => ⟨(s.st n a o h1 h2).1, So.like (m := m) (m' := { m with B := upd m.B p u }) (fun _ _ z => z) (fun _ _ z => z) rfl (s.st n a o h1 h2).2⟩, fun a o z => ?_, fun i t h => ?_⟩
  · have z : upd m.B p u a = some o := z
    by_cases e : a = p
    · subst e
      rw [upd_same] at z
      cases z
      exact ⟨hp, f.f, f.r, nt⟩
    · rw [upd_ne e] at z
      exact s.bk a o z
  · have q := s.sl i t h
    cases t with
    | no => trivial
    | val d =>
      obtain ⟨v, q1, q2⟩ := q
      exact ⟨v, q1, Sv.like (m := m) (m' := { m with B := upd m.B p u }) (fun _ _ z => z) (fun _ _ z => z) q2⟩
    | own o =>
      obtain ⟨q1, q2, q3⟩ := q
      refine ⟨q1, So.like (m := m) (m' := { m with B := upd m.B p u }) (fun _ _ z => z) (fun _ _ z => z) rfl q2, ⟨q3.fr, ?_, q3.rh, q3.ap⟩⟩
      show upd m.B p u (m.lam i) = none
      rw [upd_ne (f.o i o h)]
      exact q3.bk
/-- it comes back, changed -/
theorem Sim.unhide {g : G} {m : Mp} {B : Hp} {H : Hp} {c : CS} {σ : L2.St} {p : Addr} {u u' : HO} (s : Sim g m c σ H) (hB : m.B = upd B p u) (hn : B p = none) : H p = some u ∧ Sim g { m with B := B } c σ (upd H p u') ∧ Fre { m with B := B } c p := by
  have hp : m.B p = some u := by rw [hB, upd_same]
  obtain ⟨z1, z2, z3, z4⟩ := s.bk p u hp
  have no : ∀ (i : Nat) (o : O), c.sl[i]? = some (.own o) → m.lam i ≠ p := fun i o h e => by
    obtain ⟨_, _, q3⟩ := s.sl i _ h
    have q := q3.bk
    rw [e, hp] at q
    cases q
  refine ⟨z1, ⟨fun a o z => ?_, s.nd, s.tb.mut z1 z4, s.len, s.ini, s.ln, fun n a o h1 h2 => ?_, fun a o z => ?_, fun i t h => ?_⟩, ⟨z2, hn, z3, no⟩⟩
  · rw [upd_ne (fun e => by
      have z : m.F a = some o := z
      rw [e, z2] at z
      cases z)]
    exact s.fr a o z
  · obtain ⟨k1, k2⟩ := s.st n a o h1 h2
    exact ⟨k1, So.like (m := m) (m' := { m with B := B }) (fun _ _ z => z) (fun _ _ z => z) (upd_ne fun e => z3 (by rw [← e]; exact List.mem_of_getElem? h1)) k2⟩
  · have z : B a = some o := z
    have ne : a ≠ p := fun e => by rw [e, hn] at z; cases z
    rw [upd_ne ne]
    exact s.bk a o (by rw [hB, upd_ne ne]; exact z)
  · have q := s.sl i t h
    cases t with
    | no => trivial
    | val d =>
      obtain ⟨v, q1, q2⟩ := q
      exact ⟨v, q1, Sv.like (m := m) (m' := { m with B := B }) (fun _ _ z => z) (fun _ _ z => z) q2⟩
    | own o =>
      obtain ⟨q1, q2, q3⟩ := q
      have ne := no i o h
      refine ⟨q1, So.like (m := m) (m' := { m with B := B }) (fun _ _ z => z) (fun _ _ z => z) (upd_ne ne) q2, ⟨q3.fr, ?_, q3.rh, q3.ap⟩⟩
      show B (m.lam i) = none
      have q := q3.bk
      rw [hB, upd_ne ne] at q
      exact q
theorem Fre.wipe {m : Mp} {p : Addr} : ∀ (vs : List Nat) {c : CS}, Fre m c p → Fre m (wipeC vs c) p
  | [], _, f => f
  | v :: vs, c, f => by
    have ih := Fre.wipe vs f
    refine ⟨ih.f, ih.b, ih.r, fun j o h => ?_⟩
    have h : ((wipeC vs c).sl.set v .no)[j]? = some (.own o) := h
    by_cases e : v = j
    · subst e
      by_cases hi : v < (wipeC vs c).sl.length
      · rw [List.getElem?_set_self hi] at h
        cases h
      · rw [List.getElem?_eq_none (by rw [List.length_set]; omega)] at h
        cases h
    · rw [List.getElem?_set_ne e] at h
      exact ih.o j o h

def lcL (t : Tg) (ft : M Bool) (fe : M D) (vs : List Nat) : List D → List D → M (List D)
  | [], acc => M.ret acc
  | d :: ds, acc => fun c => match cTg t d c with
    | .ok .next c1 => match ft c1 with
      | .ok true c2 => match fe c2 with
        | .ok y c3 => M.guard (decide (acc.length < sizeLine)) (lcL t ft fe vs ds (acc ++ [y])) (wipeC vs c3)
        | _ => .stuck
      | .ok false c2 => lcL t ft fe vs ds acc (wipeC vs c2)
      | _ => .stuck
    | _ => .stuck
def cLc (fi : M (List D)) (t : Tg) (ft : M Bool) (fe : M D) (vs : List Nat) : M (List D) := fun c => (fi c).bind fun ds c' => lcL t ft fe vs ds [] (wipeC vs c')

/-- the invariant of a comprehension -/
def LcI (g : G) (W : WX) (σ : L2.St) (vs : List Nat) (Q : VK) (t : Tg) (ft : M Bool) (fe : M D) (m1 : Mp) (Dl : Addr) (rest : List D) (H : Hp) : Prop :=
  ∃ m2 c2 acc av, Ext m1 m2 ∧ Sim g m2 c2 (L2.wipe σ vs) H ∧ H Dl = some (.lst av) ∧ Svs g m2 acc av ∧ Fre m2 c2 Dl ∧ Out (rL g) g W σ m2 (lcL t ft fe vs rest acc c2) Q
section
variable {g : G} {k : Nat} {N : List Str} {X : Cx} {sc ws : Scope} {W : WX} {pos : Pos} {tg iter elt : Expr} {ifs : List Expr} {fi : M (List D)} {t : Tg} {ft : M Bool} {fe : M D} {scope : Scope} {own : List (Str × Nat)}
/-- the reading of a comprehension -/
theorem lc_read (hv : ∀ i ∈ t.slots, i ∈ own.map (·.2)) (σ : L2.St) (H : Hp) (Q : VK) (q : tL g W (cLc fi t ft fe (own.map (·.2))) σ H Q) : tLc (tI g W fi) (gT g t) (tT g WF ft) (tE g WF fe) (own.map (·.2)) σ H Q := by
  obtain ⟨m, c, s, o⟩ := q
  refine ⟨m, c, s, o.bind.imp fun J H1 ⟨m1, ds, c1, x1, s1, y, o1⟩ => fun Dl hD => ?_⟩
  obtain ⟨s2, f2⟩ := (s1.wipe (own.map (·.2))).new (u := .lst []) hD
  refine ⟨fun i mm H => mm = ds.length - i ∧ i ≤ ds.length ∧ LcI g W σ (own.map (·.2)) Q t ft fe m1 Dl (ds.drop i) H, ⟨ds.length, by simp, Nat.zero_le _, m1, _, [], [], Ext.rfl', s2, upd_same, .nil, f2, o1⟩, ?_⟩
  rintro i mm H2 ⟨rfl, hi, m2, c2, acc, av, x2, s2, hp, ha, f2, o2⟩
  by_cases hlt : i < ds.length
  · have sB := s2.hide f2 hp (fun ps z => nomatch z)
    obtain ⟨_, y2⟩ := y { m2 with B := upd m2.B Dl (.lst av) } c2 _ H2 x2.r x2.f sB i
    obtain ⟨go, yl⟩ := y2 _ (List.getElem?_eq_getElem hlt)
    rw [List.drop_eq_getElem_cons hlt] at o2
    refine .inr ⟨go, LcI g W σ (own.map (·.2)) Q t ft fe m1 Dl (ds.drop (i + 1)), fun H3 z => ⟨ds.length - (i + 1), by omega, rfl, hlt, z⟩, fun x H3 yx => ?_⟩
    obtain ⟨m3, x3, s3, k3⟩ := yl x H3 yx
    unfold lcL at o2
    -- whatever stands behind the element
    have fin : ∀ {m6 : Mp} {c6 : CS} {σ4 : L2.St} {H4 : Hp} {acc' : List D} {av' : List V}, Ext { m2 with B := upd m2.B Dl (.lst av) } m6 → Sim g m6 c6 σ4 H4 → L2.wipe σ4 (own.map (·.2)) = L2.wipe σ (own.map (·.2)) → Svs g m6 acc' av' → Out (rL g) g W σ m2 (lcL t ft fe (own.map (·.2)) (ds.drop (i + 1)) acc' (wipeC (own.map (·.2)) c6)) Q →
        H4 Dl = some (.lst av) ∧ LcI g W σ (own.map (·.2)) Q t ft fe m1 Dl (ds.drop (i + 1)) (upd H4 Dl (.lst av')) := fun {m6 c6 σ4 H4 acc' av'} x6 s6 w6 k6 o6 => by
      obtain ⟨z1, z2, z3⟩ := s6.unhide (u' := .lst av') x6.b f2.b
      have ex : Ext m2 { m6 with B := m2.B } := ⟨x6.r, x6.f, rfl, x6.i⟩
      refine ⟨z1, { m6 with B := m2.B }, wipeC (own.map (·.2)) c6, acc', av', x2.trans ex, ?_, upd_same, Svs.like (m := m6) (m' := { m6 with B := m2.B }) (fun _ _ z => z) (fun _ _ z => z) k6, z3.wipe _, o6.mono ex⟩
      have z := z2.wipe (own.map (·.2))
      rw [w6] at z
      exact z
    have same : ∀ {H4 : Hp}, H4 Dl = some (.lst av) → upd H4 Dl (.lst av) = H4 := fun {H4} h => by
      funext b
      by_cases e : b = Dl
      · rw [e, upd_same, h]
      · rw [upd_ne e]
    rcases cTg_next t ds[i] c2 with ⟨c4, e4⟩ | e4
    · rw [e4] at o2
      dsimp only at o2
      refine PTg.go s3 k3 e4 fun σ4 s4 w4 => ⟨?_, m3, c4, s4, ?_⟩
      · rw [w4 _ hv, wipe_wipe]
      · have w4 := (w4 _ hv).trans (wipe_wipe σ _)
        cases q : ft c4 with
        | ok b c5 =>
          rw [q] at o2
          intro m5 b' H5 x5 s5 kb
          have kb : b = b' := kb
          subst kb
          cases b with
          | true =>
            dsimp only at o2
            show tE g WF fe σ4 H5 _
            refine ⟨m5, c5, s5, ?_⟩
            cases r : fe c5 with
            | ok yv c6 =>
              rw [r] at o2
              obtain ⟨hz, o2⟩ := Out.guard o2
              intro m6 v H6 x6 s6 k6
              have xx := (x3.trans x5).trans x6
              obtain ⟨z1, z2⟩ := fin xx s6 w4 ((Svs.like (m := m2) (m' := m6) xx.r xx.f ha).append (.cons k6 .nil)) o2
              exact ⟨av, z1, by rw [← ha.length]; exact of_decide_eq_true hz, z2⟩
            | exc cn us c6 => rw [r] at o2; exact o2.elim
            | stuck => rw [r] at o2; exact o2.elim
          | false =>
            dsimp only at o2
            have xx := x3.trans x5
            obtain ⟨z1, z2⟩ := fin xx s5 w4 (Svs.like (m := m2) (m' := m5) xx.r xx.f ha) o2
            rw [same z1] at z2
            exact z2
        | exc cn us c5 => rw [q] at o2; exact o2.elim
        | stuck => rw [q] at o2; exact o2.elim
    · rw [e4] at o2
      exact o2.elim
  · have e : i = ds.length := by omega
    subst e
    obtain ⟨y1, _⟩ := y m2 c2 _ H2 x2.r x2.f s2 ds.length
    rw [List.drop_length] at o2
    exact .inl ⟨y1 rfl, o2.here s2.unwipe ⟨Dl, av, rfl, hp, ha, f2⟩⟩
/-- the inner judgements of a comprehension -/
structure LcJ (g : G) (X : Cx) (scope : Scope) (tg : Expr) (t : Tg) (ifs : List Expr) (ft : M Bool) (elt : Expr) (fe : M D) : Prop where
  tg : ∀ (s : Shared) (H : Hp) (C : Addr) (cl : List (Str × Addr)) (fp : List Addr), PTg g (X.blk s H scope (compEnvC scope cl C X.env) fp) tg t
  ts : ∀ (s : Shared) (H : Hp) (C : Addr) (cl : List (Str × Addr)) (fp : List Addr), PTs (X.blk s H scope (compEnvC scope cl C X.env) fp) ifs (tT g WF ft)
  el : ∀ (s : Shared) (H : Hp) (C : Addr) (cl : List (Str × Addr)) (fp : List Addr), PE (X.blk s H scope (compEnvC scope cl C X.env) fp) elt (tE g WF fe)
theorem sl_lc (q : Good g k N X sc ws W) (hi : PI X tg iter (tI g W fi)) (ok : BlkOk X.N X.env.scope scope own) (J : LcJ g X scope tg t ifs ft elt fe) (hv : ∀ i ∈ t.slots, i ∈ own.map (·.2)) (hs : notSet iter = true) : PE X (.ListComp elt [⟨tg, iter, ifs, 0⟩] scope pos) (tL g W (cLc fi t ft fe (own.map (·.2)))) :=
  pe_imp (pe_lc q.calm q.ndX hi ok (fun s H C cl fp => (J.tg s H C cl fp).run) J.ts J.el (folded_ok hs)) (lc_read hv)
/-- x = [..] on one line -/
theorem ss_setLc {i : Nat} {y : Str} {py spos : Pos} (q : Good g k N X sc ws W) (hy : N[i]? = some y) (hyl : sc.names.lookup y = some .local) (hsw : swapsWith (.ListComp elt [⟨tg, iter, ifs, 0⟩] scope pos) (some (.Name y py)) spos.line X.env = pure true)
    (hi : PI X tg iter (tI g W fi)) (ok : BlkOk X.N X.env.scope scope own) (J : LcJ g X scope tg t ifs ft elt fe) (hv : ∀ i ∈ t.slots, i ∈ own.map (·.2)) (hs : notSet iter = true) :
    PS X (.Assign [.Name y py] (.ListComp elt [⟨tg, iter, ifs, 0⟩] scope pos) spos) (tS g W (cSetL i (cLc fi t ft fe (own.map (·.2))))) :=
  ps_imp (ps_setLc q.calm q.ndX (q.at_ hy) (by rw [q.hsc]; exact hyl) hsw hi ok (fun s H C cl fp => (J.tg s H C cl fp).run) J.ts J.el (folded_ok hs)) fun Dn σ H h => lc_read hv σ H _ (cSetL_ok Dn σ H h)
/-- .. frozen at once -/
theorem ss_setLcV {i : Nat} {y : Str} {py spos : Pos} (q : Good g k N X sc ws W) (hy : N[i]? = some y) (hyl : sc.names.lookup y = some .local) (hsw : swapsWith (.ListComp elt [⟨tg, iter, ifs, 0⟩] scope pos) (some (.Name y py)) spos.line X.env = pure true)
    (hi : PI X tg iter (tI g W fi)) (ok : BlkOk X.N X.env.scope scope own) (J : LcJ g X scope tg t ifs ft elt fe) (hv : ∀ i ∈ t.slots, i ∈ own.map (·.2)) (hs : notSet iter = true) :
    PS X (.Assign [.Name y py] (.ListComp elt [⟨tg, iter, ifs, 0⟩] scope pos) spos) (tS g W (cSet i (froz (cLc fi t ft fe (own.map (·.2)))))) :=
  ps_imp (ps_setLc q.calm q.ndX (q.at_ hy) (by rw [q.hsc]; exact hyl) hsw hi ok (fun s H C cl fp => (J.tg s H C cl fp).run) J.ts J.el (folded_ok hs)) fun Dn σ H h => lc_read hv σ H _ (by
    obtain ⟨m, c, s, o⟩ := cSet_ok Dn σ H h
    refine ⟨m, c, s, o.bind.imp fun v H1 ⟨m1, xs, c1, x1, s1, k1, o1⟩ => ?_⟩
    obtain ⟨m2, x2, s2, k2⟩ := s1.freezeL k1
    exact (o1.mono x2).here (Q := fun v H1 => Dn.nx (σ.set i (some v)) H1) s2 k2)
theorem sts_nil : PTs X [] (tT g WF (M.ret true)) := ⟨fun pins s σ H Q I ⟨m, c, sm, o⟩ => pts_nil.run pins s σ H Q I (o.here sm rfl)⟩
theorem sts_one {c : Expr} (h : PT X c (tT g WF ft)) : PTs X [c] (tT g WF ft) := pts_one h
end
end CL
namespace CL
open PySem PySem.Spec PyProof.Rows L2

/-! ## built-in functions -/
def SC {β γ : Type} (rel : G → Rl γ V) (g : G) (r : List V → Hp → VK → Prop) (f : List D → M γ) : Prop := ∀ (W : WX) (m : Mp) (c : CS) (σ : L2.St) (H : Hp) (ds : List D) (vs : List V) (Q : VK), Sim g m c σ H → Svs g m ds vs → Out (rel g) g W σ m (f ds c) Q → r vs H Q
abbrev SCE (g : G) (r : List V → Hp → VK → Prop) (f : List D → M D) : Prop := SC (β := Unit) (fun g => rE g) g r f
abbrev SCL (g : G) (r : List V → Hp → VK → Prop) (f : List D → M (List D)) : Prop := SC (β := Unit) (fun g => rL g) g r f
section
variable {X : Cx} {g : G} {W : WX} {x : Str} {p pos : Pos} {e : Expr} {es : List Expr} {id T : String} {r : List V → Hp → VK → Prop} {fa : M (List D)} {γ : Type} {rel : G → Rl γ V} {f : List D → M γ}
theorem sx_args (h : SC (β := Unit) rel g r f) (σ : L2.St) (H : Hp) (Q : VK) (q : tX (rel g) g W (fa.bind f) σ H Q) : tCB r (tA g W fa) σ H Q := by
  obtain ⟨m, c, s, o⟩ := q
  exact ⟨m, c, s, o.bind.imp fun vs H1 ⟨m1, ds, c1, x1, s1, k1, o1⟩ => h W m1 c1 σ H1 ds vs Q s1 k1 o1⟩
theorem sx_callB (hc : CallR X (.builtin id) r) (h : SC (β := Unit) rel g r f) (hg : Gl X x) (hm : X.mg x = none) (hv : bootBuiltins x = some (.builtin id)) (ha : PA X (e :: es) (tA g W fa)) (hn : x ≠ "__name__") (hd : (x == ("__debug__" : Str)) = false) (hp : plainArgs (e :: es) = true) : PE X (.Call (.Name x p) (e :: es) [] pos) (tX (rel g) g W (fa.bind f)) := by
  have hp' := hp
  unfold plainArgs at hp'
  rw [List.all_cons, Bool.and_eq_true] at hp'
  exact pe_imp (pe_callB hc hg hm hv ha hn hd (star_plain (by simpa using hp'.1)) (plain_any (es := es) hp'.2)) (sx_args h)
theorem sx_callTy (hc : CallR X (.type T) r) (h : SC (β := Unit) rel g r f) (hg : Gl X x) (hm : X.mg x = none) (hv : bootBuiltins x = some (.type T)) (ha : PA X (e :: es) (tA g W fa)) (hn : x ≠ "__name__") (hd : (x == ("__debug__" : Str)) = false) (hp : plainArgs (e :: es) = true) : PE X (.Call (.Name x p) (e :: es) [] pos) (tX (rel g) g W (fa.bind f)) := by
  have hp' := hp
  unfold plainArgs at hp'
  rw [List.all_cons, Bool.and_eq_true] at hp'
  exact pe_imp (pe_callTy hc hg hm hv ha hn hd (star_plain (by simpa using hp'.1)) (plain_any (es := es) hp'.2)) (sx_args h)
end
/-- len -/
def bLen : List D → M D
  | [.str x] => M.guard (szOk x.length) (M.ret (.int x.length))
  | [.tup xs] => M.ret (.int xs.length)
  | [.scr ns] => M.ret (.int ns.length)
  | [d] => fun c => match c.seqL d with
    | some xs => .ok (.int xs.length) c
    | none => .stuck
  | _ => fun _ => .stuck
theorem Svs.one {g : G} {m : Mp} {d : D} {vs : List V} (h : Svs g m [d] vs) : ∃ v, vs = [v] ∧ Sv g m d v := by
  cases h with
  | cons a b => cases b; exact ⟨_, rfl, a⟩
theorem sc_len {g : G} : SCE g (fun xs H Q => ∃ x n, xs = [x] ∧ LenV g.K x H n ∧ Q (.int n) H) bLen := by
  intro W m c σ H ds vs Q s hv o
  cases hv with
  | nil => exact o.elim
  | @cons d v ds vs k r =>
    cases r with
    | cons _ _ => cases k <;> exact o.elim
    | nil =>
      have lst : ∀ {xs : List D}, c.seqL d = some xs → Out (rE g) g W σ m (.ok (.int xs.length) c) Q → ∃ x n, [v] = [x] ∧ LenV g.K x H n ∧ Q (.int n) H := fun {xs} e o => by
        obtain ⟨p, ws, rfl, hp, hw⟩ := s.seqL e k
        exact ⟨_, xs.length, rfl, .inl ⟨ws, SqL.of hp, hw.length⟩, o.here s (.int _)⟩
      cases k with
      | str z =>
        obtain ⟨hz, o⟩ := Out.guard o
        exact ⟨_, _, rfl, ⟨of_decide_eq_true hz, rfl⟩, o.here s (.int _)⟩
      | @tup p xs ws h1 h2 => exact ⟨_, xs.length, rfl, .inr ⟨ws, s.sqT h1, h2.length⟩, o.here s (.int _)⟩
      | @scr ns p h1 => exact ⟨_, ns.length, rfl, .inl ⟨_, s.sqL h1, by rw [List.length_map]⟩, o.here s (.int _)⟩
      | @lst p xs ws h1 h2 => exact lst rfl o
      | @ref n p h1 =>
        have o : Out (rE g) g W σ m (match c.seqL (.ref n) with
          | some xs => .ok (.int xs.length) c
          | none => .stuck) Q := o
        cases e : c.seqL (.ref n) with
        | none => rw [e] at o; exact o.elim
        | some xs =>
          rw [e] at o
          exact lst e o
      | _ => exact o.elim
/-- list(x): a fresh list; tuple(x) -/
def bList : List D → M (List D)
  | [.tup xs] => M.ret xs
  | [.scr ns] => M.ret (ns.map .int)
  | [d] => fun c => match c.seqL d with
    | some xs => .ok xs c
    | none => .stuck
  | _ => fun _ => .stuck
def rListOf (K : PySem.W.Frag) : List V → Hp → VK → Prop := fun xs H Q => ∃ p ys, xs = [.ref p] ∧ (SqL K H p ys ∨ SqT K H p ys) ∧ ∀ l, H l = none → Q (.ref l) (upd H l (.lst ys))
theorem sc_list {g : G} : SCL g (rListOf g.K) bList := by
  intro W m c σ H ds vs Q s hv o
  cases hv with
  | nil => exact o.elim
  | @cons d v ds vs k r =>
    cases r with
    | cons _ _ => cases k <;> exact o.elim
    | nil =>
      have lst : ∀ {xs : List D}, c.seqL d = some xs → Out (rL g) g W σ m (.ok xs c) Q → rListOf g.K [v] H Q := fun {xs} e o => by
        obtain ⟨p, ws, rfl, hp, hw⟩ := s.seqL e k
        exact ⟨p, ws, rfl, .inl (SqL.of hp), fun l hl => out_freshL s hw o hl⟩
      cases k with
      | @tup p xs ws h1 h2 => exact ⟨p, ws, rfl, .inr (s.sqT h1), fun l hl => out_freshL s h2 o hl⟩
      | @scr ns p h1 => exact ⟨p, _, rfl, .inl (s.sqL h1), fun l hl => out_freshL s (svs_ints ns) o hl⟩
      | @lst p xs ws h1 h2 => exact lst rfl o
      | @ref n p h1 =>
        have o : Out (rL g) g W σ m (match c.seqL (.ref n) with
          | some xs => .ok xs c
          | none => .stuck) Q := o
        cases e : c.seqL (.ref n) with
        | none => rw [e] at o; exact o.elim
        | some xs =>
          rw [e] at o
          exact lst e o
      | _ => exact o.elim
def bTuple : List D → M D
  | [.tup xs] => M.ret (.tup xs)
  | [d] => fun c => match c.seqL d with
    | some xs => .ok (.tup xs) c
    | none => .stuck
  | _ => fun _ => .stuck
theorem sc_tuple {g : G} : SCE g (fun xs H Q => ∃ p ys, xs = [.ref p] ∧ ((SqL g.K H p ys ∧ ∀ l, H l = none → Q (.ref l) (upd H l (.tup ys))) ∨ (SqT g.K H p ys ∧ Q (.ref p) H))) bTuple := by
  intro W m c σ H ds vs Q s hv o
  cases hv with
  | nil => exact o.elim
  | @cons d v ds vs k r =>
    cases r with
    | cons _ _ => cases k <;> exact o.elim
    | nil =>
      have lst : ∀ {xs : List D}, c.seqL d = some xs → Out (rE g) g W σ m (.ok (.tup xs) c) Q → ∃ p ys, [v] = [.ref p] ∧ ((SqL g.K H p ys ∧ ∀ l, H l = none → Q (.ref l) (upd H l (.tup ys))) ∨ (SqT g.K H p ys ∧ Q (.ref p) H)) := fun {xs} e o => by
        obtain ⟨p, ws, rfl, hp, hw⟩ := s.seqL e k
        exact ⟨p, ws, rfl, .inl ⟨SqL.of hp, fun l hl => out_newT s hw o hl⟩⟩
      cases k with
      | @tup p xs ws h1 h2 => exact ⟨p, ws, rfl, .inr ⟨s.sqT h1, o.here s (.tup h1 h2)⟩⟩
      | @lst p xs ws h1 h2 => exact lst rfl o
      | @ref n p h1 =>
        have o : Out (rE g) g W σ m (match c.seqL (.ref n) with
          | some xs => .ok (.tup xs) c
          | none => .stuck) Q := o
        cases e : c.seqL (.ref n) with
        | none => rw [e] at o; exact o.elim
        | some xs =>
          rw [e] at o
          exact lst e o
      | _ => exact o.elim
/-- lists of ints, of bools, of texts -/
def asInts : List D → Option (List Int)
  | [] => some []
  | .int i :: r => (asInts r).map (i :: ·)
  | _ => none
theorem asInts_ok {g : G} {m : Mp} : ∀ {ds : List D} {vs : List V} {ns : List Int}, Svs g m ds vs → asInts ds = some ns → vs = ns.map V.int ∧ ds = ns.map D.int
  | [], _, ns, h, e => by
    cases h
    cases e
    exact ⟨rfl, rfl⟩
  | d :: ds, _, ns, h, e => by
    cases h with
    | cons a b =>
      cases a with
      | int i =>
        have e : (asInts ds).map (i :: ·) = some ns := e
        obtain ⟨ms, e1, e2⟩ := Option.map_eq_some_iff.mp e
        subst e2
        obtain ⟨h1, h2⟩ := asInts_ok b e1
        rw [h1, h2]
        exact ⟨rfl, rfl⟩
      | _ => cases e
def asBls : List D → Option (List Bool)
  | [] => some []
  | .bl i :: r => (asBls r).map (i :: ·)
  | _ => none
theorem asBls_ok {g : G} {m : Mp} : ∀ {ds : List D} {vs : List V} {ns : List Bool}, Svs g m ds vs → asBls ds = some ns → vs = ns.map V.bl
  | [], _, ns, h, e => by
    cases h
    cases e
    rfl
  | d :: ds, _, ns, h, e => by
    cases h with
    | cons a b =>
      cases a with
      | bl i =>
        have e : (asBls ds).map (i :: ·) = some ns := e
        obtain ⟨ms, e1, e2⟩ := Option.map_eq_some_iff.mp e
        subst e2
        rw [asBls_ok b e1]
        rfl
      | _ => cases e
def asStrs : List D → Option (List Str)
  | [] => some []
  | .str i :: r => (asStrs r).map (i :: ·)
  | _ => none
theorem asStrs_ok {g : G} {m : Mp} : ∀ {ds : List D} {vs : List V} {ns : List Str}, Svs g m ds vs → asStrs ds = some ns → vs = ns.map V.str
  | [], _, ns, h, e => by
    cases h
    cases e
    rfl
  | d :: ds, _, ns, h, e => by
    cases h with
    | cons a b =>
      cases a with
      | str i =>
        have e : (asStrs ds).map (i :: ·) = some ns := e
        obtain ⟨ms, e1, e2⟩ := Option.map_eq_some_iff.mp e
        subst e2
        rw [asStrs_ok b e1]
        rfl
      | _ => cases e
/-- one list, its items of one kind -/
def bOne {β γ : Type} (as : List D → Option β) (f : β → M γ) : List D → M γ
  | [d] => fun c => match (c.seqL d).bind as with
    | some x => f x c
    | none => .stuck
  | _ => fun _ => .stuck
theorem sc_one {β γ : Type} {rel : G → Rl γ V} {g : G} {r : List V → Hp → VK → Prop} {as : List D → Option β} {f : β → M γ}
    (h : ∀ (W : WX) (m : Mp) (c : CS) (σ : L2.St) (H : Hp) (p : Addr) (xs : List D) (vs : List V) (b : β) (Q : VK), Sim g m c σ H → H p = some (.lst vs) → Svs g m xs vs → as xs = some b → Out (rel g) g W σ m (f b c) Q → r [.ref p] H Q) : SC (β := Unit) rel g r (bOne as f) := by
  intro W m c σ H ds vs Q s hv o
  cases hv with
  | nil => exact o.elim
  | @cons d v ds vs k t =>
    cases t with
    | cons _ _ => exact o.elim
    | nil =>
      have o : Out (rel g) g W σ m (match (c.seqL d).bind as with
        | some x => f x c
        | none => .stuck) Q := o
      cases e : c.seqL d with
      | none => rw [e] at o; exact o.elim
      | some xs =>
        rw [e] at o
        have o : Out (rel g) g W σ m (match as xs with
          | some x => f x c
          | none => .stuck) Q := o
        cases e2 : as xs with
        | none => rw [e2] at o; exact o.elim
        | some b =>
          rw [e2] at o
          obtain ⟨p, ws, rfl, hp, hw⟩ := s.seqL e k
          exact h W m c σ H p xs ws b Q s hp hw e2 o
def bSum : List D → M D := bOne asInts fun ns => M.ret (.int ns.sum)
theorem sc_sum {g : G} : SCE g (rSum g.K) bSum := sc_one fun W m c σ H p xs vs ns Q s hp hv e o => by
  obtain ⟨rfl, _⟩ := asInts_ok hv e
  exact ⟨p, ns, rfl, SqL.of hp, o.here s (.int _)⟩
def bAny : List D → M D := bOne asBls fun bs => M.ret (.bl (bs.any id))
theorem sc_any {g : G} : SCE g (rAny g.K) bAny := sc_one fun W m c σ H p xs vs bs Q s hp hv e o => by
  have e := asBls_ok hv e
  subst e
  exact ⟨p, bs, rfl, SqL.of hp, o.here s (.bl _)⟩
def bAll : List D → M D := bOne asBls fun bs => M.ret (.bl (bs.all id))
theorem sc_all {g : G} : SCE g (rAll g.K) bAll := sc_one fun W m c σ H p xs vs bs Q s hp hv e o => by
  have e := asBls_ok hv e
  subst e
  exact ⟨p, bs, rfl, SqL.of hp, o.here s (.bl _)⟩
/-- ints in ascending order -/
def sortI (ns : List Int) : List Int := ns.mergeSort fun a b => decide (a ≤ b)
theorem sortI_perm (ns : List Int) : (sortI ns).Perm ns := List.mergeSort_perm ns _
theorem sortI_sorted (ns : List Int) : (sortI ns).Pairwise (· ≤ ·) := by
  have h := List.pairwise_mergeSort (le := fun a b : Int => decide (a ≤ b)) (fun a b c h1 h2 => by simp at h1 h2 ⊢; omega) (fun a b => by simp; omega) ns
  exact h.imp fun {a b} h => of_decide_eq_true h
def bSorted : List D → M (List D) := bOne asInts fun ns => M.ret ((sortI ns).map .int)
theorem sc_sorted {g : G} : SCL g (rSortedI g.K) bSorted := sc_one fun W m c σ H p xs vs ns Q s hp hv e o => by
  obtain ⟨rfl, _⟩ := asInts_ok hv e
  refine ⟨p, ns, rfl, SqL.of hp, fun ns' q h1 h2 hq => ?_⟩
  have e : ns' = sortI ns := (h1.trans (sortI_perm ns).symm).eq_of_pairwise (fun x y _ _ a b => Int.le_antisymm a b) h2 (sortI_sorted ns)
  rw [e]
  exact out_freshL s (svs_ints _) o hq
def maxI : List Int → Int
  | [] => 0
  | x :: r => r.foldl max x
def minI : List Int → Int
  | [] => 0
  | x :: r => r.foldl min x
theorem foldl_max (r : List Int) : ∀ x : Int, (r.foldl max x ∈ x :: r) ∧ ∀ y ∈ x :: r, y ≤ r.foldl max x := by
  induction r with
  | nil => intro x; simp
  | cons a r ih =>
    intro x
    obtain ⟨h1, h2⟩ := ih (max x a)
    refine ⟨?_, fun y hy => ?_⟩
    · show r.foldl max (max x a) ∈ _
      rcases List.mem_cons.mp h1 with e | e
      · rw [e]
        rcases Int.le_total x a with q | q
        · rw [Int.max_eq_right q]; simp
        · rw [Int.max_eq_left q]; simp
      · exact List.mem_cons_of_mem _ (List.mem_cons_of_mem _ e)
    · show y ≤ r.foldl max (max x a)
      have h3 := h2 (max x a) List.mem_cons_self
      rcases List.mem_cons.mp hy with e | e
      · subst e
        omega
      · rcases List.mem_cons.mp e with e | e
        · subst e
          omega
        · exact h2 y (List.mem_cons_of_mem _ e)
theorem foldl_min (r : List Int) : ∀ x : Int, (r.foldl min x ∈ x :: r) ∧ ∀ y ∈ x :: r, r.foldl min x ≤ y := by
  induction r with
  | nil => intro x; simp
  | cons a r ih =>
    intro x
    obtain ⟨h1, h2⟩ := ih (min x a)
    refine ⟨?_, fun y hy => ?_⟩
    · show r.foldl min (min x a) ∈ _
      rcases List.mem_cons.mp h1 with e | e
      · rw [e]
        rcases Int.le_total x a with q | q
        · rw [Int.min_eq_left q]; simp
        · rw [Int.min_eq_right q]; simp
      · exact List.mem_cons_of_mem _ (List.mem_cons_of_mem _ e)
    · show r.foldl min (min x a) ≤ y
      have h3 := h2 (min x a) List.mem_cons_self
      rcases List.mem_cons.mp hy with e | e
      · subst e
        omega
      · rcases List.mem_cons.mp e with e | e
        · subst e
          omega
        · exact h2 y (List.mem_cons_of_mem _ e)
def bMax : List D → M D := bOne asInts fun ns => M.guard (decide (0 < ns.length)) (M.ret (.int (maxI ns)))
def bMin : List D → M D := bOne asInts fun ns => M.guard (decide (0 < ns.length)) (M.ret (.int (minI ns)))
theorem sc_max {g : G} : SCE g (rMax g.K) bMax := sc_one fun W m c σ H p xs vs ns Q s hp hv e o => by
  obtain ⟨rfl, _⟩ := asInts_ok hv e
  obtain ⟨hz, o⟩ := Out.guard o
  refine ⟨p, ns, rfl, SqL.of hp, of_decide_eq_true hz, fun z h1 h2 => ?_⟩
  have e : z = maxI ns := by
    cases ns with
    | nil => cases h1
    | cons x r =>
      obtain ⟨g1, g2⟩ := foldl_max r x
      exact Int.le_antisymm (g2 z h1) (h2 _ g1)
  rw [e]
  exact o.here s (.int _)
theorem sc_min {g : G} : SCE g (rMin g.K) bMin := sc_one fun W m c σ H p xs vs ns Q s hp hv e o => by
  obtain ⟨rfl, _⟩ := asInts_ok hv e
  obtain ⟨hz, o⟩ := Out.guard o
  refine ⟨p, ns, rfl, SqL.of hp, of_decide_eq_true hz, fun z h1 h2 => ?_⟩
  have e : z = minI ns := by
    cases ns with
    | nil => cases h1
    | cons x r =>
      obtain ⟨g1, g2⟩ := foldl_min r x
      exact Int.le_antisymm (h2 _ g1) (g2 z h1)
  rw [e]
  exact o.here s (.int _)
/-- str of an int, of a text -/
def bStr : List D → M D
  | [.int i] => M.guard (decide (i.natAbs.log2 < 1920)) (M.ret (.str (toString i)))
  | _ => fun _ => .stuck
theorem sc_str {g : G} : SCE g (fun xs H Q => ∃ i, xs = [.int i] ∧ i.natAbs.log2 < 1920 ∧ Q (.str (toString i)) H) bStr := by
  intro W m c σ H ds vs Q s hv o
  cases hv with
  | nil => exact o.elim
  | cons k t =>
    cases t with
    | cons _ _ => cases k <;> exact o.elim
    | nil =>
      cases k with
      | int i =>
        obtain ⟨hz, o⟩ := Out.guard o
        exact ⟨i, rfl, of_decide_eq_true hz, o.here s (.str _)⟩
      | _ => exact o.elim

/-! ## isinstance -/
inductive Ty where
  | non | bl | int | str | tup | lst
  deriving DecidableEq
def Ty.nm : Ty → String
  | .non => "NoneType"
  | .bl => "bool"
  | .int => "int"
  | .str => "str"
  | .tup => "tuple"
  | .lst => "list"
def isTy (a b : Ty) : Bool := decide (a = b) || (decide (a = .bl) && decide (b = .int))
theorem isTy_ok (a b : Ty) (h : b ≠ .non) : kitB a.nm b.nm = some (isTy a b) := by
  cases b <;> first | (exact absurd rfl h) | (cases a <;> decide +kernel)
/-- what is asked of the table of classes -/
structure KlsOk (g : G) (ci : Nat) (C : Addr) (ns : List Str) : Prop where
  cls : Cls g.K C
  na : ∀ f ∈ ns, NoAttr g.K C f
  ha : PySem.W.findIn g.K (.ref C) "__class__" = some (some (.builtin "object.__class__"))
  hn : PySem.W.specialIn g.K (.builtin "object.__class__") "__get__" = some (some (.builtin "getset_descriptor.__get__"))
  ht : PySem.W.takesIn g.K (.builtin "object.__class__") = some true
  hm : PySem.W.mroIn g.K C (.type "object") = some true
  ic : ∀ t : Ty, t ≠ .non → PySem.W.kitOne g.K (.ref C) (.type t.nm) = some false
  ci : ∀ t : Ty, PySem.W.kitOne g.K (.type t.nm) (.ref C) = some false
structure TabK (g : G) : Prop where
  kls : ∀ (ci : Nat) (C : Addr) (ns : List Str), g.cls ci = some (C, ns) → KlsOk g ci C ns
  two : ∀ (i j : Nat) (C C' : Addr) (ns ns' : List Str), g.cls i = some (C, ns) → g.cls j = some (C', ns') → PySem.W.kitOne g.K (.ref C) (.ref C') = some (i == j)
/-- a value's type as a class -/
def tyB : D → Option Ty
  | .non => some .non
  | .bl _ => some .bl
  | .int _ => some .int
  | .str _ => some .str
  | .tup _ => some .tup
  | .lst _ => some .lst
  | .scr _ => some .lst
  | _ => none
/-- a class that is asked for: a built-in type, an own class -/
inductive Kn where
  | ty (n : Ty)
  | cl (c : Nat)
def CS.clsOf (c : CS) : D → Option Nat
  | .obj k _ => some k
  | .ref n => match c.S[n]? with
    | some (.ins k _) => some k
    | _ => none
  | _ => none
/-- the type of a value, as the table tells it: a built-in type or an own class -/
def CS.knOf (c : CS) (d : D) : Option Kn := match tyB d with
  | some t => some (.ty t)
  | none => match c.clsOf d with
    | some k => some (.cl k)
    | none => match c.seqL d with
      | some _ => some (.ty .lst)
      | none => none
def isKn : Kn → Kn → Bool
  | .ty a, .ty b => isTy a b
  | .cl a, .cl b => a == b
  | _, _ => false
def knV (g : G) : Kn → Option Value
  | .ty n => some (.type n.nm)
  | .cl k => (g.cls k).map fun p => .ref p.1
theorem Sim.tyX {g : G} {m : Mp} {c : CS} {σ : L2.St} {H : Hp} (T : TabK g) (s : Sim g m c σ H) {d : D} {v : V} (k : Sv g m d v) {kn : Kn} (e : c.knOf d = some kn) : ∃ t, knV g kn = some t ∧ TyX g.K H v t := by
  unfold CS.knOf at e
  cases k with
  | non => cases e; exact ⟨_, rfl, .base .non⟩
  | bl b => cases e; exact ⟨_, rfl, .base (.bl b)⟩
  | int i => cases e; exact ⟨_, rfl, .base (.int i)⟩
  | str x => cases e; exact ⟨_, rfl, .base (.str x)⟩
  | @tup a xs vs h1 h2 =>
    cases e
    refine ⟨_, rfl, ?_⟩
    rcases s.sqT h1 with h | ⟨o, its, n, q1, q2, _⟩
    · rcases h with h | ⟨o, h⟩
      · exact .base (.tup h)
      · exact .fTuple h
    · exact .kTuple q1 q2
  | @lst a xs vs h1 h2 =>
    cases e
    exact ⟨_, rfl, .base (.lst (s.fr _ _ h1))⟩
  | @scr ns a h1 =>
    cases e
    refine ⟨_, rfl, ?_⟩
    rcases s.sqL h1 with h | ⟨o, its, n, q1, q2, _⟩
    · rcases h with h | ⟨o, h⟩
      · exact .base (.lst h)
      · exact .base (.frz h)
    · exact .kList q1 q2
  | @obj ci ds a C dx ns ws h1 h2 h3 h4 =>
    cases e
    have K := T.kls ci C ns h1
    exact ⟨_, by show (g.cls ci).map _ = _; rw [h1]; rfl, .base (.ins (s.fr _ _ h2) K.cls K.ha K.hn K.ht K.hm)⟩
  | exn _ _ _ _ _ => cases e
  | @ref n a h1 =>
    have e : (match (match c.S[n]? with
      | some (.ins k _) => some k
      | _ => none) with
      | some k => some (Kn.cl k)
      | none => match c.seqL (.ref n) with
        | some _ => some (.ty .lst)
        | none => none) = some kn := e
    cases q : c.S[n]? with
    | none =>
      rw [q] at e
      have z : c.seqL (.ref n) = none := by
        show (match c.S[n]? with
          | some (.lst xs) => some xs
          | _ => none) = none
        rw [q]
      rw [z] at e
      cases e
    | some o =>
      rw [q] at e
      obtain ⟨_, k2⟩ := s.st n a o h1 q
      cases o with
      | ins ci fs =>
        cases e
        obtain ⟨C, ns, dx, ws, j1, j2, j3⟩ := k2
        have K := T.kls ci C ns j1
        exact ⟨_, by show (g.cls ci).map _ = _; rw [j1]; rfl, .base (.ins j2 K.cls K.ha K.hn K.ht K.hm)⟩
      | lst xs =>
        have z : c.seqL (.ref n) = some xs := by
          show (match c.S[n]? with
            | some (.lst xs) => some xs
            | _ => none) = _
          rw [q]
        rw [z] at e
        cases e
        obtain ⟨vs, j1, _⟩ := k2
        exact ⟨_, rfl, .base (.lst j1)⟩
end CL
namespace CL
open PySem PySem.Spec PyProof.Rows L2

/-! ## isinstance -/
/-- an expression that is a class -/
def PCl (g : G) (X : Cx) (e : Expr) (kn : Kn) : Prop := ∃ c u, PE X e (tC c) ∧ ClsV c u ∧ knV g kn = some u ∧ kn ≠ .ty .non
section
variable {X : Cx} {g : G} {k : Nat} {N : List Str} {sc ws : Scope} {W : WX}
theorem pcl_ty (q : Good g k N X sc ws W) {x : Str} {pos : Pos} {t : Ty} (hg : isGl sc x = true) (hm : g.mg x = none) (hv : bootBuiltins x = some (.type t.nm)) (ht : t ≠ .non) : PCl g X (.Name x pos) (.ty t) :=
  ⟨.ty t.nm, .type t.nm, pe_bltn (q.gl hg).1 (by rw [q.hmg]; exact hm) hv rfl (q.gl hg).2.2 (q.gl hg).2.1, .ty _, rfl, fun z => by cases z; exact ht rfl⟩
theorem pcl_cl (q : Good g k N X sc ws W) {x : Str} {pos : Pos} {ci : Nat} {C : Addr} {ns : List Str} (hc : g.cls ci = some (C, ns)) (hg : isGl sc x = true) (hm : g.mg x = some (.ref C)) : PCl g X (.Name x pos) (.cl ci) :=
  ⟨.ref C, .ref C, pe_glob (q.gl hg).1 (by rw [q.hmg]; exact hm) rfl (q.gl hg).2.1, .own C, by show (g.cls ci).map _ = _; rw [hc]; rfl, fun z => nomatch z⟩
end
theorem kit_kn {g : G} (T : TabK g) {a b : Kn} {t u : Value} (ha : knV g a = some t) (hb : knV g b = some u) (hn : b ≠ .ty .non) : PySem.W.kitOne g.K t u = some (isKn a b) := by
  cases a with
  | ty x =>
    cases ha
    cases b with
    | ty y =>
      cases hb
      exact kit_ty (isTy_ok x y fun z => hn (by rw [z]))
    | cl j =>
      have hb : (g.cls j).map (fun p => Value.ref p.1) = some u := hb
      obtain ⟨⟨C, ns⟩, e1, e2⟩ := Option.map_eq_some_iff.mp hb
      subst e2
      exact (T.kls j C ns e1).ci x
  | cl i =>
    have ha : (g.cls i).map (fun p => Value.ref p.1) = some t := ha
    obtain ⟨⟨C, ns⟩, e1, e2⟩ := Option.map_eq_some_iff.mp ha
    subst e2
    cases b with
    | ty y =>
      cases hb
      exact (T.kls i C ns e1).ic y fun z => hn (by rw [z])
    | cl j =>
      have hb : (g.cls j).map (fun p => Value.ref p.1) = some u := hb
      obtain ⟨⟨C', ns'⟩, e3, e4⟩ := Option.map_eq_some_iff.mp hb
      subst e4
      exact T.two i j C C' ns ns' e1 e3
def cIsi (k : Kn) (fe : M D) : M D := fe.bind fun d c => match c.knOf d with
  | some t => .ok (.bl (isKn t k)) c
  | none => .stuck
def cIsiT (ks : List Kn) (fe : M D) : M D := fe.bind fun d c => match c.knOf d with
  | some t => .ok (.bl (ks.any (isKn t))) c
  | none => .stuck
section
variable {X : Cx} {g : G} {k : Nat} {N : List Str} {sc ws : Scope} {W : WX} {p pos tpos : Pos} {e ce : Expr} {ces : List Expr} {fe : M D} {kn : Kn} {kns : List Kn} {j : Nat}
theorem sx_isi (T : TabK g) (q : Good g k N X sc ws W) (hg : isGl sc "isinstance" = true) (hm : g.mg "isinstance" = none) (he : PE X e (tE g W fe)) (hc : PCl g X ce kn) (hs : isStar e = false) (hs2 : isStar ce = false) : PE X (.Call (.Name "isinstance" p) [e, ce] [] pos) (tE g W (cIsi kn fe)) := by
  obtain ⟨c, u, h1, h2, h3, h4⟩ := hc
  obtain ⟨hg, hd, _⟩ := q.gl hg
  rw [← q.hmg] at hm
  refine pe_imp (pe_callB call_isi hg hm (by rfl) (pa_cons he (pa_cons h1 pa_nil (star_plain hs2)) (star_plain hs)) (by decide) (by decide) (star_plain hs) (plain_any (es := [ce]) (by unfold plainArgs; simp [hs2]))) fun σ H Q ⟨m, c, s, o⟩ => ⟨m, c, s, o.bind.imp fun v H1 ⟨m1, d, c1, x1, s1, k1, o1⟩ => ?_⟩
  cases e2 : c1.knOf d with
  | none => rw [e2] at o1; exact o1.elim
  | some t =>
    rw [e2] at o1
    obtain ⟨tv, g1, g2⟩ := s1.tyX T k1 e2
    exact ⟨v, _, tv, u, isKn t kn, rfl, h2, by rw [q.hK]; exact g2, by rw [q.hK]; exact kit_kn T g1 h3 h4, o1.here s1 (.bl _)⟩
/-- classes, one after the other -/
def PCls (g : G) (X : Cx) : List Expr → List Kn → Prop
  | [], [] => True
  | e :: es, k :: ks => PCl g X e k ∧ isStar e = false ∧ PCls g X es ks
  | _, _ => False
def tCs (cs : List V) : TA := fun _ H Q => Q cs H
theorem pcls_pa {X : Cx} {g : G} : ∀ {es : List Expr} {ks : List Kn}, PCls g X es ks → ∃ cs us, PA X es (tCs cs) ∧ Paired ClsV cs us ∧ us.length = ks.length ∧ ∀ i (h : i < us.length) (h2 : i < ks.length), knV g ks[i] = some us[i] ∧ ks[i] ≠ .ty .non
  | [], [], _ => ⟨[], [], pa_imp pa_nil fun _ _ _ h => h, .nil, rfl, fun i h => absurd h (Nat.not_lt_zero _)⟩
  | [], _ :: _, h => h.elim
  | _ :: _, [], h => h.elim
  | e :: es, k :: ks, h => by
    obtain ⟨⟨c, u, h1, h2, h3, h4⟩, hs, hr⟩ := h
    obtain ⟨cs, us, r1, r2, r3, r4⟩ := pcls_pa hr
    refine ⟨c :: cs, u :: us, pa_imp (pa_cons h1 r1 (star_plain hs)) fun σ H Q h => h, .cons h2 r2, by rw [List.length_cons, List.length_cons, r3], fun i g1 g2 => ?_⟩
    cases i with
    | zero => exact ⟨h3, h4⟩
    | succ i => exact r4 i (by simpa using g1) (by simpa using g2)
theorem kit_any {g : G} (T : TabK g) {a : Kn} {t : Value} (ha : knV g a = some t) : ∀ {us : List Value} {ks : List Kn}, us.length = ks.length → (∀ i (h : i < us.length) (h2 : i < ks.length), knV g ks[i] = some us[i] ∧ ks[i] ≠ .ty .non) → PySem.W.kitAny g.K t us = some (ks.any (isKn a))
  | [], [], _, _ => rfl
  | [], _ :: _, h, _ => by cases h
  | _ :: _, [], h, _ => by cases h
  | u :: us, k :: ks, h, hk => by
    have h0 := hk 0 (by simp) (by simp)
    have e := kit_kn T ha h0.1 h0.2
    have ih := kit_any T ha (us := us) (ks := ks) (by simpa using h) fun i g1 g2 => by
      have := hk (i + 1) (by simpa using g1) (by simpa using g2)
      simpa using this
    unfold PySem.W.kitAny
    have e' : PySem.W.kitOne g.K t u = some (isKn a k) := e
    rw [e', List.any_cons]
    cases isKn a k with
    | true => rfl
    | false => rw [Bool.false_or]; exact ih
theorem sx_isiT (T : TabK g) (q : Good g k N X sc ws W) (hg : isGl sc "isinstance" = true) (hm : g.mg "isinstance" = none) (he : PE X e (tE g W fe)) (hc : PCls g X ces kns) (hz : szOk ces.length = true) (hs : isStar e = false) : PE X (.Call (.Name "isinstance" p) [e, .Tuple ces j tpos] [] pos) (tE g W (cIsiT kns fe)) := by
  obtain ⟨cs, us, h1, h2, h3, h4⟩ := pcls_pa hc
  have hl : cs.length = ces.length := by
    have a1 : cs.length = us.length := by clear h1 h4 h3; induction h2 <;> simp_all
    have a2 : ces.length = kns.length := by
      clear h1 h2 h3 h4 hz a1 cs us
      induction ces generalizing kns with
      | nil => cases kns <;> first | rfl | exact hc.elim
      | cons e es ih => cases kns with
        | nil => exact hc.elim
        | cons k ks => rw [List.length_cons, List.length_cons, ih hc.2.2]
    omega
  obtain ⟨hg, hd, _⟩ := q.gl hg
  rw [← q.hmg] at hm
  refine pe_imp (pe_callB call_isiT hg hm (by rfl) (pa_cons he (pa_cons (pe_tup h1) pa_nil (by rfl)) (star_plain hs)) (by decide) (by decide) (star_plain hs) (by rfl)) fun σ H Q ⟨m, c, s, o⟩ => ⟨m, c, s, o.bind.imp fun v H1 ⟨m1, d, c1, x1, s1, k1, o1⟩ => ?_⟩
  cases e2 : c1.knOf d with
  | none => rw [e2] at o1; exact o1.elim
  | some t =>
    rw [e2] at o1
    refine ⟨by rw [hl]; exact of_decide_eq_true hz, fun tp ht => ?_⟩
    obtain ⟨s2, x2⟩ := s1.frozen (u := .tup cs) ht
    obtain ⟨tv, g1, g2⟩ := s2.tyX T (k1.mono x2) e2
    exact ⟨v, tp, cs, tv, us, _, rfl, upd_same, h2, by rw [q.hK]; exact g2, by rw [q.hK]; exact kit_any T g1 h3 h4, (o1.mono x2).here s2 (.bl _)⟩
end

/-! ## calls -/
def cCall (fn : Fn) (fa : M (List D)) : M D := fa.bind fun ds c => liftF (fn ds c.S) c
section
variable {X : Cx} {g : G} {k j : Nat} {N : List Str} {sc ws : Scope} {W : WX} {p pos apos sp : Pos} {x : Str} {e o : Expr} {es : List Expr} {fa : M (List D)} {fe fo : M D} {f C : Addr} {fn : Fn}
theorem plain_tail {e : Expr} {es : List Expr} (hp : plainArgs (e :: es) = true) : isStar e = false ∧ plainArgs es = true := by
  unfold plainArgs at hp ⊢
  rw [List.all_cons, Bool.and_eq_true] at hp
  exact ⟨by simpa using hp.1, hp.2⟩
theorem sx_call (q : Good g k N X sc ws W) (F : FnC g j f fn) (hj : j ≤ k) (hg : isGl sc x = true) (hm : g.mg x = some (.ref f)) (hk : PySem.W.keepIn g.K (.ref f) = true) (ha : PA X (e :: es) (tA g W fa)) (hp : plainArgs (e :: es) = true) :
    PE X (.Call (.Name x p) (e :: es) [] pos) (tE g W (cCall fn fa)) := by
  obtain ⟨p1, p2⟩ := plain_tail hp
  refine ⟨fun pins s σ H Q I ⟨m, c, sm, o⟩ => ?_⟩
  obtain ⟨hg, hd, _⟩ := q.gl hg
  rw [← q.hmg] at hm
  rw [← q.hK] at hk
  refine wpAny_Call_Name_kw (ld_glob I hg hm ?_ hd)
  refine PySem.W.callWith_K (h₀ := X.base) I.ok.mod.kin hk (thn (ha.run pos pins s σ H _ I ⟨m, c, sm, o.bind⟩) fun us s1 ⟨vs, H1, I1, r, m1, ds, c1, x1, s2, k1, o1⟩ => ⟨I1.kIn, ?_⟩) (star_plain p1) (plain_any p2)
  exact wpAny_call (run_c (q.fn F) (q.room.mono hj) q.tk I1 r s2 k1 o1)
theorem sx_call0 (q : Good g k N X sc ws W) (F : FnC g j f fn) (hj : j ≤ k) (hg : isGl sc x = true) (hm : g.mg x = some (.ref f)) (hk : PySem.W.keepIn g.K (.ref f) = true) :
    PE X (.Call (.Name x p) [] [] pos) (tE g W (cCall fn (M.ret []))) := by
  refine ⟨fun pins s σ H Q I ⟨m, c, sm, o⟩ => ?_⟩
  obtain ⟨hg, hd, _⟩ := q.gl hg
  rw [← q.hmg] at hm
  rw [← q.hK] at hk
  refine wpAny_Call_Name_kw (ld_glob I hg hm ?_ hd)
  exact PySem.W.callWith_K0 I.kIn hk (wpAny_call (run_c (q.fn F) (q.room.mono hj) q.tk I (us := []) .nil sm .nil o))
/-! ### methods -/
theorem zip_none {ns : List Str} {ws : List V} {m : Str} (h : m ∉ ns) : (ns.zip ws).lookup m = none := by
  induction ns generalizing ws with
  | nil => rfl
  | cons n ns ih =>
    cases ws with
    | nil => rfl
    | cons w ws =>
      rw [List.zip_cons_cons, List.lookup_cons]
      have ne : (m == n) = false := beq_eq_false_iff_ne.mpr fun z => h (by rw [z]; exact List.mem_cons_self)
      rw [ne]
      exact ih fun z => h (List.mem_cons_of_mem _ z)
theorem zip_at {ns : List Str} (hn : ns.Nodup) {ws : List V} {i : Nat} {m : Str} (h : ns[i]? = some m) : (ns.zip ws).lookup m = ws[i]? := by
  induction ns generalizing ws i with
  | nil => simp at h
  | cons n ns ih =>
    cases ws with
    | nil => simp
    | cons w ws =>
      rw [List.zip_cons_cons, List.lookup_cons]
      rw [List.nodup_cons] at hn
      cases i with
      | zero =>
        simp at h
        subst h
        simp
      | succ i =>
        have h : ns[i]? = some m := by simpa using h
        have ne : (m == n) = false := beq_eq_false_iff_ne.mpr fun z => hn.1 (by rw [← z]; exact List.mem_of_getElem? h)
        rw [ne, List.getElem?_cons_succ]
        exact ih hn.2 h
/-- an object of class ci that has no field m -/
def CS.has (c : CS) (ci : Nat) (mn : Str) (d : D) : Bool := match d with
  | .obj k _ => k == ci
  | .ref n => match c.S[n]? with
    | some (.ins k fs) => k == ci && (fs.lookup mn).isNone
    | _ => false
  | _ => false
theorem Sim.has {m : Mp} {c : CS} {σ : L2.St} {H : Hp} (s : Sim g m c σ H) {d : D} {v : V} (k : Sv g m d v) {ci : Nat} {mn : Str} {ns : List Str} (h : c.has ci mn d = true) (hc : g.cls ci = some (C, ns)) (hn : ns.contains mn = false) :
    ∃ a dx fs, v = .ref a ∧ H a = some (.ins C dx fs) ∧ fs.lookup mn = none := by
  have hn : mn ∉ ns := fun z => by
    rw [List.contains_iff_mem.mpr z] at hn
    cases hn
  cases k with
  | @obj i ds a C' dx ns' us h1 h2 h3 h4 =>
    have h : (i == ci) = true := h
    have e := beq_iff_eq.mp h
    subst e
    rw [hc] at h1
    cases h1
    exact ⟨a, dx, _, rfl, s.fr _ _ h2, zip_none hn⟩
  | @ref n a h1 =>
    have h : (match c.S[n]? with
      | some (.ins k fs) => k == ci && (fs.lookup mn).isNone
      | _ => false) = true := h
    cases e : c.S[n]? with
    | none => rw [e] at h; cases h
    | some o =>
      rw [e] at h
      cases o with
      | lst _ => cases h
      | ins i fs =>
        have h : (i == ci && (fs.lookup mn).isNone) = true := h
        rw [Bool.and_eq_true] at h
        have e2 := beq_iff_eq.mp h.1
        subst e2
        obtain ⟨_, C', ns', dx, us, j1, j2, j3⟩ := s.st n a _ h1 e
        rw [hc] at j1
        cases j1
        exact ⟨a, dx, us, rfl, j2, j3.lookup_none (by simpa using h.2)⟩
  | _ => cases h
def cMeth (ci : Nat) (mn : Str) (fn : Fn) (fo : M D) (fa : M (List D)) : M D := fo.bind fun o c => match c.has ci mn o with
  | true => (fa c).bind fun ds c' => liftF (fn (o :: ds) c'.S) c'
  | false => .stuck
theorem sx_meth {ci : Nat} {mn : Str} {ns : List Str} (q : Good g k N X sc ws W) (hc : g.cls ci = some (C, ns)) (hn : ns.contains mn = false) (kc : Cls g.K C) (me : Meth g.K C mn f) (F : FnC g j f fn) (hj : j ≤ k) (ho : PE X o (tE g W fo)) (ha : PA X (e :: es) (tA g W fa))
    (h1 : okBase o = true) (hp : plainArgs (e :: es) = true) (h3 : (apos.endLine == pos.line) = true) (h4 : decide ((e :: es).length < 30) = true) : PE X (.Call (.Attribute o mn apos) (e :: es) [] pos) (tE g W (cMeth ci mn fn fo fa)) := by
  rw [← q.hK] at kc me
  obtain ⟨p1, p2⟩ := plain_tail hp
  refine ⟨fun pins s σ H Q I ⟨m, c, sm, h⟩ => ?_⟩
  refine PySem.W.methodCall_KW (thn (ho.run pins s σ H _ I ⟨m, c, sm, h.bind⟩) fun u s1 ⟨x, H1, I1, rx, m1, d, c1, x1, s2, k1, o1⟩ => ?_) (meth_form h1 hp h3 h4)
  cases e1 : c1.has ci mn d with
  | false => rw [e1] at o1; exact o1.elim
  | true =>
    rw [e1] at o1
    obtain ⟨a, dx, fs, ex, ea, l⟩ := s2.has k1 e1 hc hn
    subst ex
    obtain rfl : u = Value.ref a := rx
    refine getmeth_ok I1 ea kc me l ?_
    refine PySem.W.callWith_K (first := [.ref a]) (h₀ := X.base) I1.ok.mod.kin me.kp (thn (ha.run pos pins s1 σ H1 _ I1 ⟨m1, c1, s2, o1.bind⟩) fun us s3 ⟨vs, H2, I2, r, m2, ds, c2, x2, s4, k2, o2⟩ => ⟨I2.kIn, ?_⟩) (star_plain p1) (plain_any p2)
    exact wpAny_call (run_c (q.fn F) (q.room.mono hj) q.tk I2 (us := .ref a :: us) (vs := .ref a :: vs) (.cons rfl r) s4 (.cons (k1.mono x2) k2) o2)
theorem sx_meth0 {ci : Nat} {mn : Str} {ns : List Str} (q : Good g k N X sc ws W) (hc : g.cls ci = some (C, ns)) (hn : ns.contains mn = false) (kc : Cls g.K C) (me : Meth g.K C mn f) (F : FnC g j f fn) (hj : j ≤ k) (ho : PE X o (tE g W fo))
    (h1 : okBase o = true) (h3 : (apos.endLine == pos.line) = true) : PE X (.Call (.Attribute o mn apos) [] [] pos) (tE g W (cMeth ci mn fn fo (M.ret []))) := by
  rw [← q.hK] at kc me
  refine ⟨fun pins s σ H Q I ⟨m, c, sm, h⟩ => ?_⟩
  refine PySem.W.methodCall_KW (thn (ho.run pins s σ H _ I ⟨m, c, sm, h.bind⟩) fun u s1 ⟨x, H1, I1, rx, m1, d, c1, x1, s2, k1, o1⟩ => ?_) (meth_form h1 (by rfl) h3 (by rfl))
  cases e1 : c1.has ci mn d with
  | false => rw [e1] at o1; exact o1.elim
  | true =>
    rw [e1] at o1
    obtain ⟨a, dx, fs, ex, ea, l⟩ := s2.has k1 e1 hc hn
    subst ex
    obtain rfl : u = Value.ref a := rx
    refine getmeth_ok I1 ea kc me l ?_
    exact PySem.W.callWith_K0 (first := [.ref a]) I1.kIn me.kp (wpAny_call (run_c (q.fn F) (q.room.mono hj) q.tk I1 (us := [.ref a]) (vs := [.ref a]) (.cons rfl .nil) s2 (.cons k1 .nil) o1))
/-! ### fields -/
def CS.fld (c : CS) (ci i : Nat) (f : Str) (d : D) : Option D := match d with
  | .obj k vs => if k = ci then vs[i]? else none
  | .ref n => match c.S[n]? with
    | some (.ins k fs) => if k = ci then fs.lookup f else none
    | _ => none
  | _ => none
theorem Sim.fld {m : Mp} {c : CS} {σ : L2.St} {H : Hp} (s : Sim g m c σ H) {d r : D} {v : V} (k : Sv g m d v) {ci i : Nat} {f : Str} {ns : List Str} (h : c.fld ci i f d = some r) (hc : g.cls ci = some (C, ns)) (hn : ns.Nodup) (hi : ns[i]? = some f) :
    ∃ a dx fs z, v = .ref a ∧ H a = some (.ins C dx fs) ∧ fs.lookup f = some z ∧ Sv g m r z := by
  cases k with
  | @obj j ds a C' dx ns' us h1 h2 h3 h4 =>
    have h : (if j = ci then ds[i]? else none) = some r := h
    by_cases e : j = ci
    · subst e
      rw [if_pos rfl] at h
      rw [hc] at h1
      cases h1
      obtain ⟨z, e1, e2⟩ := h3.get h
      exact ⟨a, dx, _, z, rfl, s.fr _ _ h2, by rw [zip_at hn hi]; exact e1, e2⟩
    · rw [if_neg e] at h; cases h
  | @ref n a h1 =>
    have h : (match c.S[n]? with
      | some (.ins k fs) => if k = ci then fs.lookup f else none
      | _ => none) = some r := h
    cases e : c.S[n]? with
    | none => rw [e] at h; cases h
    | some o =>
      rw [e] at h
      cases o with
      | lst _ => cases h
      | ins j fs =>
        have h : (if j = ci then fs.lookup f else none) = some r := h
        by_cases e2 : j = ci
        · subst e2
          rw [if_pos rfl] at h
          obtain ⟨_, C', ns', dx, us, j1, j2, j3⟩ := s.st n a _ h1 e
          rw [hc] at j1
          cases j1
          obtain ⟨z, q1, q2⟩ := j3.lookup h
          exact ⟨a, dx, us, z, rfl, j2, q1, q2⟩
        · rw [if_neg e2] at h; cases h
  | _ => cases h
def cFld (ci i : Nat) (f : Str) (fo : M D) : M D := fo.bind fun o c => match c.fld ci i f o with
  | some r => .ok r c
  | none => .stuck
theorem sx_fld {ci i : Nat} {f : Str} {ns : List Str} (q : Good g k N X sc ws W) (hc : g.cls ci = some (C, ns)) (hn : ns.Nodup) (hi : ns[i]? = some f) (kc : Cls g.K C) (na : NoAttr g.K C f) (ho : PE X o (tE g W fo)) (h1 : okBase o = true) : PE X (.Attribute o f pos) (tE g W (cFld ci i f fo)) := by
  rw [← q.hK] at kc na
  refine pe_imp (pe_fld ho (base_ok h1)) fun σ H Q ⟨m, c, s, h⟩ => ⟨m, c, s, h.bind.imp fun v H1 ⟨m1, d, c1, x1, s1, k1, o1⟩ => ?_⟩
  cases e : c1.fld ci i f d with
  | none => rw [e] at o1; exact o1.elim
  | some r =>
    rw [e] at o1
    obtain ⟨a, dx, fs, z, rfl, g2, g3, g4⟩ := s1.fld k1 e hc hn hi
    exact ⟨a, C, dx, fs, z, rfl, g2, kc, na, g3, o1.here s1 g4⟩
/-- a constant of a class -/
theorem sx_cval (q : Good g k N X sc ws W) {f : Str} {mc : Value} {v : V} {u : Value} {d : D} {xc : Str} (hg : isGl sc xc = true) (hm : g.mg xc = some (.ref C)) (cr : ClX.CRead g.K C mc) (cv : ClX.CVal g.K C mc f v u) (hv : ∀ m : Mp, Sv g m d v) : PE X (.Attribute (.Name xc p) f pos) (tE g W (M.ret d)) := by
  obtain ⟨hg, hd, _⟩ := q.gl hg
  rw [← q.hmg] at hm
  rw [← q.hK] at cr cv
  refine pe_imp (ClX.pe_cval (pe_glob (v := .ref C) hg hm rfl hd) (by rfl)) fun σ H Q ⟨m, c, s, h⟩ => ?_
  exact ⟨C, mc, v, u, rfl, cr, cv, h.here s (hv m)⟩
/-! ### properties -/
def noExc (r : R D) : R D := match r with
  | .ok d c => .ok d c
  | _ => .stuck
def cProp (ci : Nat) (f : Str) (fn : Fn) (fo : M D) : M D := fo.bind fun o c => match c.has ci f o with
  | true => noExc (liftF (fn [o] c.S) c)
  | false => .stuck
theorem sx_prop {ci : Nat} {mn : Str} {ns : List Str} {pa : Addr} (q : Good g k N X sc ws W) (hc : g.cls ci = some (C, ns)) (hn : ns.contains mn = false) (kc : Cls g.K C) (pr : PropOf g.K C mn pa f) (F : FnC g j f fn) (hj : j + 1 ≤ k) (ho : PE X o (tE g W fo)) (h1 : okBase o = true) : PE X (.Attribute o mn pos) (tE g W (cProp ci mn fn fo)) := by
  rw [← q.hK] at kc pr
  refine ⟨fun pins s σ H Q I ⟨m, c, sm, h⟩ => ?_⟩
  refine attr_of (base_ok h1) (thn (ho.run pins s σ H _ I ⟨m, c, sm, h.bind⟩) fun u s1 ⟨x, H1, I1, rx, m1, d, c1, x1, s2, k1, o1⟩ => ?_)
  cases e1 : c1.has ci mn d with
  | false => rw [e1] at o1; exact o1.elim
  | true =>
    rw [e1] at o1
    obtain ⟨a, dx, fs, ex, ea, l⟩ := s2.has k1 e1 hc hn
    subst ex
    obtain rfl : u = Value.ref a := rx
    obtain ⟨mA, O, _, _, _, _⟩ := ins_get I1.hok ea
    obtain ⟨od, J, _⟩ := O.look
    obtain ⟨rest, hrec⟩ := pr.rec_
    have I2 := I1.tok (s1.toks + 1)
    have hcl : (PySem.W.clsIn X.K C).isSome = true := by
      obtain ⟨cd, hc, _⟩ := PySem.W.any_some kc.hd
      rw [hc]
      rfl
    have o2 : Out (rE g) g WF σ m1 (liftF (fn [d] c1.S) c1) Q := by
      cases e3 : fn [d] c1.S with
      | ok d' S' => rw [e3] at o1; exact o1
      | exc cn ws S' => rw [e3] at o1; exact o1.elim
      | stuck => rw [e3] at o1; exact o1.elim
    refine PySem.W.get_bind I1.kIn J (PySem.W.plainGet_of (kc.get mn)).1 (PySem.W.findObj_data hcl pr.at_ pr.get pr.tak) (PySem.W.plainGet_of (kc.get mn)).2 (wpAny_call (PySem.W.prop_get (s := { s1 with toks := s1.toks + 1 }) I1.kIn hrec ?_))
    refine codeAny_mono ((q.fn F) X.A.in1 X.stack { s1 with toks := s1.toks + 1 } H1 [.ref a] [V.ref a] Q (fun C d H' => WF C d σ H') (q.room.mono hj).in1 I2.env0.in1 (.cons rfl .nil) (call_sp s2 (.cons k1 .nil) o2)) fun r s' hq => ?_
    cases r with
    | error er => exact (passAt (X := X.nox) (W := WF) (fun u s' ⟨_, _, _, _, _, _, _, _, _, _, _, _, _, _, _, _, w⟩ => w.elim) σ pins H1 { s1 with toks := s1.toks + 1 } er s' (I2.wish _) hq).elim
    | ok fl =>
      cases fl with
      | ret u =>
        obtain ⟨v, H', I3, rv, q3⟩ := I2.after hq
        show wpAny _ _ (handedOut u) _ _ _
        rw [PySem.W.handedOut_of (handed_of rv)]
        exact wpAny_pure ⟨v, H', I3, rv, q3⟩
      | next => exact False.elim hq
      | brk => exact False.elim hq
      | cont => exact False.elim hq
end
end CL
namespace CL
open PySem PySem.Spec PyProof.Rows L2

/-! ## inside a comprehension -/
theorem rel_keep {sc : Scope} {x : Str} {kd : NameKind} : ∀ {l : List (Str × NameKind)}, l.lookup x = some kd → kd ≠ .free →
    (l.map fun (n, k) => if (k == .free && sc.kind == .function && sc.names.lookup n == some .cell) then (n, NameKind.cell) else (n, k)).lookup x = some kd
  | [], h, _ => by simp at h
  | (n, k) :: r, h, hk => by
    rw [List.lookup_cons] at h
    rw [List.map_cons]
    have hn : ((fun (p : Str × NameKind) => if (p.2 == .free && sc.kind == .function && sc.names.lookup p.1 == some .cell) then (p.1, NameKind.cell) else (p.1, p.2)) (n, k)).1 = n := by
      dsimp only
      split <;> rfl
    show List.lookup x ((if (k == .free && sc.kind == .function && sc.names.lookup n == some .cell) then (n, NameKind.cell) else (n, k)) :: _) = _
    by_cases e : x = n
    · subst e
      simp at h
      subst h
      have kf : (k == NameKind.free) = false := by
        cases k <;> first | rfl | exact absurd rfl hk
      rw [kf]
      simp
    · have eb : (x == n) = false := beq_eq_false_iff_ne.mpr e
      rw [eb] at h
      have ih := rel_keep (sc := sc) (l := r) h hk
      split
      · rw [List.lookup_cons, eb]; exact ih
      · rw [List.lookup_cons, eb]; exact ih
section
variable {g : G} {k : Nat} {N : List Str} {X : Cx} {sc ws : Scope} {W : WX}
theorem Good.blk (q : Good g k N X sc ws W) {s : Shared} {H : Hp} {scope : Scope} {cl : List (Str × Addr)} {C : Addr} {fp : List Addr} : Good g k N (X.blk s H scope (compEnvC scope cl C X.env) fp) (relS scope sc) scope WF := by
  refine ⟨q.hN, q.nd, ?_, q.calm, q.room, q.hK, q.hP, q.hw, q.hmg, q.hbs, fun u s' ⟨_, _, _, _, _, _, _, _, _, _, _, _, _, _, _, _, w⟩ => w.elim, PassesOwn.never, fun x hx => ?_⟩
  · show relabel scope X.env = relS scope sc
    rw [← q.hsc]
    rfl
  · unfold isLoc at hx
    show Loc (relabel scope X.env) x ∧ ((scope.names.lookup x == some .cell) = true ∨ (relabel scope X.env).names.lookup x = some .local)
    split at hx
    · rename_i e
      have h := rel_keep (sc := X.env.scope) e (fun z => nomatch z)
      exact ⟨.inl h, .inr h⟩
    · rename_i e
      have h := rel_keep (sc := X.env.scope) e (fun z => nomatch z)
      exact ⟨.inr h, .inl (by rw [e]; rfl)⟩
    · cases hx
end

/-! ## built-in functions, from where one stands -/
section
variable {X : Cx} {g : G} {k : Nat} {N : List Str} {sc ws : Scope} {W : WX} {x : Str} {p pos : Pos} {e e2 tg : Expr} {es : List Expr} {id T : String} {r : List V → Hp → VK → Prop} {fa : M (List D)} {γ : Type} {rel : G → Rl γ V} {f : List D → M γ} {fe fe2 : M D}
theorem sq_B (q : Good g k N X sc ws W) (hc : CallR X (.builtin id) r) (h : SC (β := Unit) rel g r f) (hg : isGl sc x = true) (hm : g.mg x = none) (hv : bootBuiltins x = some (.builtin id)) (ha : PA X (e :: es) (tA g W fa)) (hp : plainArgs (e :: es) = true) : PE X (.Call (.Name x p) (e :: es) [] pos) (tX (rel g) g W (fa.bind f)) :=
  sx_callB hc h (q.gl hg).1 (by rw [q.hmg]; exact hm) hv ha (q.gl hg).2.2 (q.gl hg).2.1 hp
theorem sq_Ty (q : Good g k N X sc ws W) (hc : CallR X (.type T) r) (h : SC (β := Unit) rel g r f) (hg : isGl sc x = true) (hm : g.mg x = none) (hv : bootBuiltins x = some (.type T)) (ha : PA X (e :: es) (tA g W fa)) (hp : plainArgs (e :: es) = true) : PE X (.Call (.Name x p) (e :: es) [] pos) (tX (rel g) g W (fa.bind f)) :=
  sx_callTy hc h (q.gl hg).1 (by rw [q.hmg]; exact hm) hv ha (q.gl hg).2.2 (q.gl hg).2.1 hp
theorem sq_range1 (q : Good g k N X sc ws W) (hg : isGl sc "range" = true) (hm : g.mg "range" = none) (he : PE X e (tE g W fe)) (hs : isStar e = false) : PI X tg (.Call (.Name "range" p) [e] [] pos) (tI g W (cRange1 fe)) := si_range1 (q.gl hg).1 (by rw [q.hmg]; exact hm) he hs
theorem sq_range2 (q : Good g k N X sc ws W) (hg : isGl sc "range" = true) (hm : g.mg "range" = none) (he : PE X e (tE g W fe)) (he2 : PE X e2 (tE g W fe2)) (hs : isStar e = false) (hs2 : isStar e2 = false) : PI X tg (.Call (.Name "range" p) [e, e2] [] pos) (tI g W (cRange2 fe fe2)) := si_range2 (q.gl hg).1 (by rw [q.hmg]; exact hm) he he2 hs hs2
theorem sq_var {i : Nat} (q : Good g k N X sc ws W) (hN : N[i]? = some x) (hv : isVis (sc.names.lookup x) = true) (hd : noDbg x = true) : PE X (.Name x pos) (tE g W (cVar i)) := se_var (q.at_ hN) (q.vis hv) (noDbg_1 hd) (noDbg_2 hd)
theorem sq_seq (q : Good g k N X sc ws W) (he : PE X e (tE g W fe)) : PI X tg e (tI g W (cWalk fe)) := pi_seq q.hK he
theorem sq_star (q : Good g k N X sc ws W) (ha : PE X e (tE g W fe)) (hr : PA X es (tA g W fa)) : PA X (.Starred e p :: es) (tA g W (cStar fe fa)) := sa_star q.hK ha hr
theorem sq_tru (q : Good g k N X sc ws W) (h : PE X e (tE g W fe)) (hp : plainTest e = true) : PT X e (tT g W (cTru fe)) := st_tru q.hK h hp
end

/-! ## what is never reached -/
def cNever {α : Type} : M α := fun _ => .stuck
theorem ss_any {X : Cx} {g : G} {W : WX} {st : Stmt} : PS X st (tS g W cNever) := ⟨fun _ _ _ _ _ _ ⟨_, _, _, o⟩ => o.elim⟩
theorem sss_any {X : Cx} {g : G} {W : WX} {st : List Stmt} : PSs X st (tS g W cNever) := ⟨fun _ _ _ _ _ _ ⟨_, _, _, o⟩ => o.elim⟩
theorem se_any {X : Cx} {g : G} {W : WX} {e : Expr} : PE X e (tE g W cNever) := ⟨fun _ _ _ _ _ _ ⟨_, _, _, o⟩ => o.elim⟩

/-! ## a new list in the store -/
def cStore (f : M (List D)) : M D := f.bind fun xs c => .ok (.ref c.S.length) { c with S := c.S ++ [.lst xs] }
theorem Sim.store {g : G} {m : Mp} {c : CS} {σ : L2.St} {H : Hp} {xs : List D} {v : V} (h : Sim g m c σ H) (k : rL g m c H xs v) : ∃ m', Ext m m' ∧ Sim g m' { c with S := c.S ++ [.lst xs] } σ H ∧ Sv g m' (.ref c.S.length) v := by
  obtain ⟨p, vs, rfl, hp, hv, f⟩ := k
  have ex : Ext m { m with rho := m.rho ++ [p] } := ⟨fun n a z => by
    show (m.rho ++ [p])[n]? = some a
    rw [List.getElem?_append_left (List.getElem?_eq_some_iff.mp z).1]
    exact z, fun _ _ z => z, rfl, rfl⟩
  have last : (m.rho ++ [p])[c.S.length]? = some p := by
    rw [← h.len, List.getElem?_append_right (Nat.le_refl _), Nat.sub_self]
    rfl
  refine ⟨{ m with rho := m.rho ++ [p] }, ex, ⟨h.fr, ?_, h.tb, ?_, h.ini, h.ln, fun n a o h1 h2 => ?_, fun a o z => ?_, fun i s hs => ?_⟩, .ref last⟩
  · show (m.rho ++ [p]).Nodup
    rw [List.nodup_append]
    exact ⟨h.nd, by simp, fun a ha b hb => by
      cases List.mem_singleton.mp hb
      exact fun z => f.r (by rw [← z]; exact ha)⟩
  · show (m.rho ++ [p]).length = (c.S ++ [O.lst xs]).length
    rw [List.length_append, List.length_append, h.len]
    rfl
  · have h1 : (m.rho ++ [p])[n]? = some a := h1
    have h2 : (c.S ++ [O.lst xs])[n]? = some o := h2
    by_cases q : n < c.S.length
    · rw [List.getElem?_append_left (by rw [h.len]; exact q)] at h1
      rw [List.getElem?_append_left q] at h2
      obtain ⟨k1, k2⟩ := h.st n a o h1 h2
      exact ⟨k1, k2.mono ex rfl⟩
    · have hl : n < (c.S ++ [O.lst xs]).length := (List.getElem?_eq_some_iff.mp h2).1
      rw [List.length_append] at hl
      have e : n = c.S.length := by
        have : ([O.lst xs] : List O).length = 1 := rfl
        omega
      subst e
      rw [last] at h1
      cases h1
      rw [List.getElem?_append_right (Nat.le_refl _), Nat.sub_self] at h2
      cases h2
      exact ⟨f.f, vs, hp, hv.mono ex⟩
  · obtain ⟨z1, z2, z3, z4⟩ := h.bk a o z
    refine ⟨z1, z2, fun q => ?_, z4⟩
    have q : a ∈ m.rho ++ [p] := q
    rcases List.mem_append.mp q with q | q
    · exact z3 q
    · rw [List.mem_singleton.mp q] at z
      have z : m.B p = some o := z
      rw [f.b] at z
      cases z
  · have q := h.sl i s hs
    cases s with
    | no => trivial
    | val d =>
      obtain ⟨v, q1, q2⟩ := q
      exact ⟨v, q1, q2.mono ex⟩
    | own o =>
      obtain ⟨q1, q2, q3⟩ := q
      refine ⟨q1, q2.mono ex rfl, ⟨q3.fr, q3.bk, fun z => ?_, q3.ap⟩⟩
      have z : m.lam i ∈ m.rho ++ [p] := z
      rcases List.mem_append.mp z with z | z
      · exact q3.rh z
      · exact f.o i o hs (List.mem_singleton.mp z)
theorem se_store {X : Cx} {g : G} {W : WX} {e : Expr} {f : M (List D)} (h : PE X e (tL g W f)) : PE X e (tE g W (cStore f)) := by
  refine pe_imp h fun σ H Q ⟨m, c, s, o⟩ => ⟨m, c, s, o.bind.imp fun v H1 ⟨m1, xs, c1, x1, s1, k1, o1⟩ => ?_⟩
  obtain ⟨m2, x2, s2, k2⟩ := s1.store k1
  exact (o1.mono x2).here s2 k2

/-! ## a def by its body -/
def startC (n : Nat) (ds : List D) (S : List O) : CS := ⟨ds.map .val ++ List.replicate (n - ds.length) .no, S⟩
/-- what comes out of a body -/
def outF (r : R Fl) : FR := match r with
  | .ok .next c => .ok .non c.S
  | .ok (.ret d) c => .ok d c.S
  | .exc cn vs c => .exc cn vs c.S
  | _ => .stuck
def fnB (n np : Nat) (fb : M Fl) : Fn := fun ds S => match decide (ds.length = np) with
  | true => outF (fb (startC n ds S))
  | false => .stuck
theorem Sim.drop {g : G} {m : Mp} {c : CS} {σ : L2.St} {H : Hp} (h : Sim g m c σ H) : Sim g m ⟨[], c.S⟩ [] H :=
  ⟨h.fr, h.nd, h.tb, h.len, iniOk_nil, rfl, h.st, h.bk, fun i s hs => by
    have hs : ([] : List Sl)[i]? = some s := hs
    simp at hs⟩
theorem Sim.start {g : G} {m : Mp} {S : List O} {H : Hp} {N : List Str} {ds : List D} {vs : List V} (h : Sim g m ⟨[], S⟩ [] H) (hv : Svs g m ds vs) : Sim g m (startC N.length ds S) (L2.start N vs) H := by
  have iniS : IniOk m (ds.map Sl.val ++ List.replicate (N.length - ds.length) Sl.no) := fun k fs e => by
    rcases List.mem_append.mp (List.mem_of_getElem? e) with z | z
    · obtain ⟨d, _, z⟩ := List.mem_map.mp z
      cases z
    · cases (List.mem_replicate.mp z).2
  refine ⟨h.fr, h.nd, h.tb, h.len, iniS, ?_, h.st, h.bk, fun i s hs => ?_⟩
  · show (ds.map Sl.val ++ List.replicate (N.length - ds.length) Sl.no).length = (vs.map some ++ List.replicate (N.length - vs.length) none).length
    rw [List.length_append, List.length_append, List.length_map, List.length_map, List.length_replicate, List.length_replicate, hv.length]
  · have hs : (ds.map Sl.val ++ List.replicate (N.length - ds.length) Sl.no)[i]? = some s := hs
    by_cases q : i < ds.length
    · rw [List.getElem?_append_left (by rw [List.length_map]; exact q), List.getElem?_map, List.getElem?_eq_getElem q] at hs
      cases hs
      obtain ⟨v, e1, e2⟩ := hv.get (List.getElem?_eq_getElem q)
      refine ⟨v, ?_, e2⟩
      show (vs.map some ++ List.replicate (N.length - vs.length) none)[i]? = some (some v)
      rw [List.getElem?_append_left (by rw [List.length_map, ← hv.length]; exact q), List.getElem?_map, e1]
      rfl
    · rw [List.getElem?_append_right (by rw [List.length_map]; omega)] at hs
      have e := List.mem_of_getElem? hs
      have e := (List.mem_replicate.mp e).2
      subst e
      trivial
theorem outS_F {g : G} {W : WX} {m : Mp} {S : List O} {r : R Fl} {Q : VK} {E : XK} (hW : ∀ C d σ H, E C d H → W C d σ H) (o : OutF g m (outF r) Q E) : OutS g W m r { nx := fun _ H' => Q .non H', rt := Q } := by
  cases r with
  | ok a c =>
    cases a with
    | next => exact fun m' σ' H' x s => o m' .non H' x s.drop .non
    | ret d => exact fun m' σ' v H' x s k => o m' v H' x s.drop k
    | brk => exact o.elim
    | cont => exact o.elim
  | exc cn vs c => exact fun m' σ' H' C d x s k => hW C d σ' H' (o m' H' C d x s.drop k)
  | stuck => exact o.elim
/-- its scope is the body's scope -/
def StoOk (sc : Scope) : Prop := ∀ x, isLoc (sc.names.lookup x) = true → Loc sc x
theorem sto_ok {sc : Scope} : StoOk sc := fun x h => by
  unfold isLoc at h
  split at h
  · rename_i e; exact .inl e
  · rename_i e; exact .inr e
  · cases h
theorem good_of {g : G} {N ps : List Str} {qual : Str} {sc : Scope} {f : Addr} {cd : Value} {A : Around} {outer : List Env} {s : Shared} {H : Hp} {E : XK} {k : Nat} (S : FnScope N ps sc) (hr : Room k (A.deeper (envOfC qual sc s.heap.objs.size f cd))) :
    Good g k N (cxOf (L2.CX g.prog g.w) g.prog g.w g.K g.mg g.base N qual sc f cd A outer s H E) sc sc (fun C d _ H' => E C d H') :=
  ⟨rfl, S.nd, rfl, rfl, hr, rfl, rfl, rfl, rfl, rfl, takes_of rfl rfl rfl rfl, passes_of rfl, fun x hx => ⟨sto_ok x hx, .inl rfl⟩⟩
theorem fn_c {g : G} {x qual : Str} {st : Stmt} {f : Addr} {fd : FuncData} {N ps : List Str} {k : Nat} {fb : M Fl} (F : L2.Fun g.K x qual st f fd) (S : FnScope N ps (defScope st)) (hb : Binds g.K fd ps [])
    (h : ∀ (X : Cx) (W : WX), Good g k N X (defScope st) (defScope st) W → PSs X (defBody st) (tS g W fb)) : FnC g (k + 1) f (fnB N.length ps.length fb) := by
  have z : FnOk g.prog g.w g.K g.mg g.base (L2.CX g.prog g.w) (k + 1) f fd ps (spOf g (fnB N.length ps.length fb)) := by
    refine F.okX S (fun vs H Q E hs => ?_) (fun cdv A outer s H vs Q E hr hs => ?_)
    · obtain ⟨m, S', ds, sm, hv, o⟩ := hs
      unfold fnB at o
      cases e : decide (ds.length = ps.length) with
      | false => rw [e] at o; exact o.elim
      | true => rw [← hv.length]; exact of_decide_eq_true e
    · obtain ⟨m, S', ds, sm, hv, o⟩ := hs
      unfold fnB at o
      cases e : decide (ds.length = ps.length) with
      | false => rw [e] at o; exact o.elim
      | true =>
        rw [e] at o
        exact ⟨_, h _ _ (good_of S hr), m, _, sm.start hv, outS_F (S := S') (fun _ _ _ _ h => h) o⟩
  exact (z.raw hb (dvs := []) .nil).imp fun vs H Q E hs => by rw [List.append_nil]; exact hs
end CL
namespace CL
open PySem PySem.Spec PyProof.Rows L2

/-! ## enumerate over a tuple -/
abbrev tupIt (a : Addr) : Obj := { cls := .type "tuple_iterator", data := .fields #[.ref a, .int 0 0] }
abbrev enuOb (i : Addr) : Obj := { cls := .type "enumerate", data := .fields #[.none, .bool false, .ref i, rawInt 0, .none, .none] }
open AutoSeq1 in
theorem enuT_new (a : Addr) (its : Array Value) (n : Nat) (dc : Option Addr) (ss : Array (Option Value)) :
    Meets (Builtin.«enumerate.__new__» ⟨[.type "enumerate", .ref a], []⟩)
      (fun _ R s => s.heap.get? a = some ⟨.type "tuple", dc, .seq its n, ss⟩ ∧
        R (.ok (.ret (.ref (s.heap.push (tupIt a)).objs.size))) { s with heap := (s.heap.push (tupIt a)).push (enuOb s.heap.objs.size) }) :=
  .of_wp fun P w A R s h => by
    obtain ⟨hh, gs, dd, tt, os⟩ := s
    obtain ⟨hl, h⟩ := h
    have hs := sub_enumerate
    have ht : Heap.IsTuple (Shared.heap ⟨hh, gs, dd, tt, os⟩) a its := ⟨_, hl, rfl, n, rfl⟩
    wp_walk using wpAny_loadPart' hl
    refine wpAny_stack_any fun sk => wpAny_pure ?_
    split
    · rename_i k _ _ _ _ _
      cases (k == Value.type "enumerate") <;> wp_walk using wpAny_loadPart' hl, wpAny_pyIter_tuple ht
      all_goals exact ⟨_, rfl, h⟩
    · wp_walk using wpAny_loadPart' hl, wpAny_pyIter_tuple ht
      exact ⟨_, rfl, h⟩

theorem enuT_call {P : Program} {w : World} {A : Around} {E : Value → Shared → Prop} {s : Shared} {a : Addr} {its : Array Value} {Q : Value → Shared → Prop} (ht : s.heap.IsTuple a its)
    (h : ∀ h', IsEnum h' (s.heap.objs.size + 1) s.heap.objs.size 0 .none → h'.IsTupleIter s.heap.objs.size a 0 →
      (∀ b o, s.heap.get? b = some o → h'.get? b = some o) → Q (.ref (s.heap.objs.size + 1)) { s with heap := h' }) :
    wpAny (model P w) A (call (.type "enumerate") [.ref a]) Q E s := by
  obtain ⟨⟨oc, od, dt, ss⟩, e1, e2, n, e3⟩ := ht
  have e2 : oc = .type "tuple" := e2
  have e3 : dt = .seq its n := e3
  subst e2 e3
  have sz : (s.heap.push (tupIt a)).objs.size = s.heap.objs.size + 1 := Heap.size_push ..
  refine callType_new F.called_enumerate (by decide) (F.typeCall_enumerate_1 _) (F.newCall_enumerate_1 _) (fun ob => F.args_object_init_2 ob _) F.entry_enumerate_new (enuT_new a its n od ss) ⟨e1, ?_⟩
  show _ ∧ _
  rw [sz]
  have g1 : IsEnum ((s.heap.push (tupIt a)).push (enuOb s.heap.objs.size)) (s.heap.objs.size + 1) s.heap.objs.size 0 .none := by
    have q := Heap.get?_push_size (s.heap.push (tupIt a)) (o := enuOb s.heap.objs.size) rfl
    rw [sz] at q
    exact q
  exact ⟨⟨_, g1, rfl⟩, h _ g1 ⟨_, Heap.get?_push_of_some _ (Heap.get?_push_size _ rfl), rfl, rfl⟩ fun b o x => Heap.get?_push_of_some _ (Heap.get?_push_of_some _ x)⟩

def IteT (K : PySem.W.Frag) (a : Addr) : It where
  go := fun i H => ∃ (xs : List V) (x : V), SqT K H a xs ∧ xs[i]? = some x
  yld := fun i H v H' => ∃ T x, v = .ref T ∧ H T = none ∧ H' = upd H T (.tup [.int (i : Nat), x]) ∧ ∀ xs, SqT K H a xs → xs[i]? = some x
  stop := fun i H => ∃ xs : List V, SqT K H a xs ∧ i = xs.length
theorem turn_enumT {P : Program} {w : World} {K : PySem.W.Frag} {elts : List Expr} {kk : Nat} {tpos : Pos} (a e it : Addr) :
    Turn P w K (.Tuple elts kk tpos) (IteT K a) [e, it] e (fun i h => (∃ u, IsEnum h e it ((i : Nat) : Int) u) ∧ h.IsTupleIter it a i ∧ e ≠ it ∧ a ≠ it ∧ a ≠ e) where
  mem := List.mem_cons_self
  obj := by
    intro i h hx b hb
    obtain ⟨⟨u, he⟩, ⟨o, ho, _, hd⟩, _⟩ := hx
    rcases List.mem_cons.mp hb with z | z
    · rw [z]
      exact ⟨_, he, fun v q => nomatch q⟩
    · exact ⟨o, by rw [List.mem_singleton.mp z]; exact ho, fun v q => by rw [hd] at q; cases q⟩
  keep := by
    intro i h h' hx k
    obtain ⟨⟨u, he⟩, hi, ne⟩ := hx
    exact ⟨⟨u, k e List.mem_cons_self _ he⟩, hi.at fun o q => k it (List.mem_cons_of_mem _ List.mem_cons_self) o q, ne⟩
  item := by
    intro X e1 e2 e3 hc i pins s σ H E I fp ht hg
    obtain ⟨⟨u0, he⟩, hit, ne, n2, n3⟩ := ht
    obtain ⟨xs, x, hq, hx⟩ := hg
    subst e1 e2 e3
    obtain ⟨its, rv, pl, _⟩ := I.tuple hq
    obtain ⟨u, hu, ru⟩ := rv.get hx
    have le : e < s.heap.objs.size := Heap.lt_size he
    have li : it < s.heap.objs.size := let ⟨_, q, _⟩ := hit; Heap.lt_size q
    have la : a < s.heap.objs.size := let ⟨_, q, _⟩ := pl; Heap.lt_size q
    have D := PySem.Draws.tuple (prog := X.prog) (w := X.w) (A := X.A.in1) (I.ok.hd hc) it a n2 its.toArray
    have lt : i < its.toArray.size := by
      have := (List.getElem?_eq_some_iff.mp hu).1
      simpa using this
    have nf : e ∉ [it, a] := fun z => by
      rcases List.mem_cons.mp z with z | z
      · exact ne z
      · exact n3 (List.mem_singleton.mp z).symm
    refine wpAny_pyNext_enum_itemD D he ⟨hit, pl⟩ lt ne nf fun y h' tk hy ho st hT sz hk => ?_
    have ey : y = u := by
      rw [List.getElem?_toArray, hu] at hy
      exact (Option.some.inj hy).symm
    subst ey
    refine ⟨_, rfl, wpAny_letOwnedTupleGo_enum (s := { s with heap := h', toks := tk + 1 }) ho fun h2 he2 sb => ?_⟩
    have hT2 : h2.get? s.heap.objs.size = some { cls := .type "tuple", data := .seq #[.int i tk, y] } := (sb.2 _ (Nat.ne_of_gt le)).trans hT
    have nw : ObjOk X.prog X.w (upd H s.heap.objs.size (.tup [.int (i : Nat), x])) h2 s.heap.objs.size (.tup [.int (i : Nat), x]) :=
      ⟨by show 2 ≤ sizeLine; decide, [.int i tk, y], .cons ⟨_, rfl⟩ (.cons ru .nil), _, hT2, rfl, _, rfl⟩
    have kp : ∀ b o, b ∉ [e, it] → s.heap.get? b = some o → h2.get? b = some o := fun b o hb q => by
      have b1 : b ≠ e := fun z => hb (by rw [z]; exact List.mem_cons_self)
      have b2 : b ≠ it := fun z => hb (by rw [z]; exact List.mem_cons_of_mem _ List.mem_cons_self)
      exact (sb.2 b b1).trans (hk b o b1 b2 q)
    have J : Inv X pins σ (upd H s.heap.objs.size (.tup [.int (i : Nat), x])) { s with heap := h2, toks := tk + 1 } := I.turnedNew (ch := [e, it]) kp fp (Nat.le_refl _) nw
    refine ⟨.ref s.heap.objs.size, _, J, rfl, ⟨_, x, rfl, I.hok.fresh (Nat.le_refl _), rfl, fun ys hy => by rw [I.tuple_inj hy hq]; exact hx⟩, ⟨⟨y, ?_⟩, st.1.at fun o q => (sb.2 it (Ne.symm ne)).trans q, ne, n2, n3⟩, fun b hb => ?_⟩
    · rw [show ((i + 1 : Nat) : Int) = (i : Int) + 1 by omega]
      exact he2
    · have lb : b < s.heap.objs.size := by
        rcases List.mem_cons.mp hb with z | z
        · rw [z]; exact le
        · rw [List.mem_singleton.mp z]; exact li
      rw [upd_ne (Nat.ne_of_lt lb)]
      exact (fp b hb).1
  done := by
    intro X e1 e2 e3 hc i pins s σ H E I fp ht hg
    obtain ⟨⟨u0, he⟩, hit, ne, n2, n3⟩ := ht
    obtain ⟨xs, hq, hx⟩ := hg
    subst e1 e2 e3
    obtain ⟨its, rv, pl, _⟩ := I.tuple hq
    obtain ⟨f0, f1, f2, f3, f4, f5⟩ := fp it (List.mem_cons_of_mem _ List.mem_cons_self)
    have D := PySem.Draws.tuple (prog := X.prog) (w := X.w) (A := X.A.in1) (I.ok.hd hc) it a n2 its.toArray
    have hl := rv.length
    have q : i = its.toArray.size := by
      rw [List.size_toArray, ← hl]
      exact hx
    subst q
    exact wpAny_pyNext_enum_endD D he ⟨hit, pl⟩ fun h' eb => ⟨rfl, I.turned (t' := s.toks) (fun b o hb q => eb b o hb q) f0 f1 f3 f4 f5⟩
  self := by
    intro A i s Q E hx h
    obtain ⟨⟨_, he⟩, _⟩ := hx
    exact wpAny_pyIter_enum he h

/-- the pairs of enumerate -/
def enumD (xs : List D) : List D := xs.zipIdx.map fun p => .tup [.int (p.2 : Nat), p.1]
theorem enumD_at {xs : List D} {i : Nat} {d : D} (h : (enumD xs)[i]? = some d) : ∃ x, xs[i]? = some x ∧ d = .tup [.int (i : Nat), x] := by
  unfold enumD at h
  rw [List.getElem?_map, List.getElem?_zipIdx] at h
  cases e : xs[i]? with
  | none => rw [e] at h; cases h
  | some x =>
    rw [e] at h
    cases h
    exact ⟨x, rfl, by simp⟩
theorem enumD_length (xs : List D) : (enumD xs).length = xs.length := by unfold enumD; simp
theorem yld_pair {g : G} {m1 : Mp} {c : CS} {σ : L2.St} {H : Hp} {d : D} {v : V} {i : Int} {T : Addr} (s : Sim g m1 c σ H) (k : Sv g m1 d v) (hT : H T = none) : ∃ m2, Ext m1 m2 ∧ Sim g m2 c σ (upd H T (.tup [.int i, v])) ∧ Sv g m2 (.tup [.int i, d]) (.ref T) := by
  obtain ⟨s2, x2⟩ := s.frozen (u := .tup [.int i, v]) hT
  exact ⟨_, x2, s2, .tup (SqT.of upd_same) (.cons (.int i) (.cons (k.mono x2) .nil))⟩
theorem yld_enumT {g : G} {m : Mp} {a : Addr} {ds : List D} {vs : List V} (h : SqT g.K m.F a vs) (k : Svs g m ds vs) : Yld g m (IteT g.K a) (enumD ds) := fun m1 c σ H xr xf s i => by
  have hq : SqT g.K H a vs := s.sqT (sqT_mono xf h)
  have kl := k.length
  refine ⟨fun hi => ⟨vs, hq, by rw [hi, enumD_length]; exact kl⟩, fun d hd => ?_⟩
  obtain ⟨x, hx, rfl⟩ := enumD_at hd
  obtain ⟨v, h1, h2⟩ := k.get hx
  refine ⟨⟨vs, v, hq, h1⟩, fun y H' ⟨T, w, e1, e2, e3, e4⟩ => ?_⟩
  have e5 := e4 vs hq
  rw [h1] at e5
  cases e5
  subst e1 e3
  exact yld_pair s (Sv.like xr xf h2) e2
theorem yld_enumL {g : G} {m : Mp} {a : Addr} {ds : List D} {vs : List V} (h : m.F a = some (.lst vs)) (k : Svs g m ds vs) : Yld g m (Ite g.K a) (enumD ds) := fun m1 c σ H xr xf s i => by
  have hq : SqL g.K H a vs := SqL.of (s.fr _ _ (xf _ _ h))
  have kl := k.length
  refine ⟨fun hi => ⟨vs, hq, by rw [hi, enumD_length]; omega⟩, fun d hd => ?_⟩
  obtain ⟨x, hx, rfl⟩ := enumD_at hd
  obtain ⟨v, h1, h2⟩ := k.get hx
  refine ⟨⟨vs, v, hq, h1⟩, fun y H' ⟨T, w, e1, e2, e3, e4⟩ => ?_⟩
  have e5 := e4 vs hq
  rw [h1] at e5
  cases e5
  subst e1 e3
  exact yld_pair s (Sv.like xr xf h2) e2
def dEnum (d : D) : M (List D) := fun c => match d with
  | .lst xs => .ok (enumD xs) c
  | .tup xs => .ok (enumD xs) c
  | _ => .stuck
def cEnum (f : M D) : M (List D) := f.bind dEnum
/-- what one argument brings -/
def OneQ {β γ : Type} (rel : Rl γ β) (g : G) (W : WX) (σ : L2.St) (m : Mp) (f : D → M γ) (R : β → Hp → Prop) : List V → Hp → Prop := fun vs H1 => ∃ v m' d c', vs = [v] ∧ Ext m m' ∧ Sim g m' c' σ H1 ∧ Sv g m' d v ∧ Out rel g W σ m' (f d c') R
section
variable {g : G} {k : Nat} {N : List Str} {X : Cx} {sc ws : Scope} {W : WX} {p pos tpos : Pos} {e : Expr} {fe : M D} {es : List Expr} {kk : Nat}
theorem sq_enum (q : Good g k N X sc ws W) (hg : isGl sc "enumerate" = true) (hm : g.mg "enumerate" = none) (he : PE X e (tE g W fe)) (hs : isStar e = false) : PI X (.Tuple es kk tpos) (.Call (.Name "enumerate" p) [e] [] pos) (tI g W (cEnum fe)) := by
  refine ⟨fun pins s σ H R I ⟨m, c, sm, o⟩ => ?_⟩
  have hst : starEach [e] X.env = (false, eval e X.env) :: starEach [] X.env := star_plain hs
  have one : PA X [e] (fun σ H Q => tE g W fe σ H fun x H1 => Q [x] H1) := pa_cons he pa_nil hst
  have o2 : tE g W fe σ H fun x H1 => OneQ (rI g) g W σ m dEnum R [x] H1 := ⟨m, c, sm, o.bind.imp fun v H1 ⟨m1, d, c1, x1, s1, k1, o1⟩ => ⟨v, m1, d, c1, rfl, x1, s1, k1, o1⟩⟩
  refine Call_ (ld_blt I (q.gl hg).1 (by rw [q.hmg]; exact hm) boot_enumerate (PyProof.Rows.callWith_type1 (thn (one.run pos pins s σ H (OneQ (rI g) g W σ m dEnum R) I o2) fun us s1 ⟨vs, H1, I1, r1, z1⟩ => ?_) hst rfl))
  obtain ⟨v0, m1, d, c1, ev, x1, s2, k1, o1⟩ := z1
  subst ev
  cases r1 with
  | cons r rr =>
    cases rr
    cases k1 with
    | @lst a ds vs h1 h2 =>
      cases r
      have hq : SqL X.K H1 a vs := SqL.of (s2.fr _ _ h1)
      obtain ⟨its, rv, p', hz⟩ := I1.list hq
      refine call_enumerate_list p'.isList fun h' g1 g2 _ hk => wpAny_pyIter_enum g1 ?_
      have I2 : Inv X pins σ H1 { s1 with heap := h' } := I1.kept (t' := s1.toks) hk
      refine ⟨s1.heap.objs.size + 1, [s1.heap.objs.size + 1, s1.heap.objs.size], _, _, H1, rfl, I2, turn_enum a (s1.heap.objs.size + 1) s1.heap.objs.size, ⟨⟨.none, g1⟩, g2, Nat.succ_ne_self _⟩, fun b hb => ?_, ?_⟩
      · have lb : s1.heap.objs.size ≤ b := by
          rcases List.mem_cons.mp hb with z | z
          · rw [z]; exact Nat.le_succ _
          · rw [List.mem_singleton.mp z]; exact Nat.le_refl _
        exact I1.fpOk lb (I1.hok.fresh lb)
      · rw [q.hK]
        exact o1.here s2 (yld_enumL h1 h2)
    | @tup a ds vs h1 h2 =>
      cases r
      have hq : SqT X.K H1 a vs := by
        rw [q.hK]
        exact s2.sqT h1
      obtain ⟨its, rv, p', hz⟩ := I1.tuple hq
      have la : a < s1.heap.objs.size := let ⟨_, z, _⟩ := p'; Heap.lt_size z
      refine enuT_call (show s1.heap.IsTuple a its.toArray from p') fun h' g1 g2 hk => wpAny_pyIter_enum g1 ?_
      have I2 : Inv X pins σ H1 { s1 with heap := h' } := I1.kept (t' := s1.toks) hk
      refine ⟨s1.heap.objs.size + 1, [s1.heap.objs.size + 1, s1.heap.objs.size], _, _, H1, rfl, I2, turn_enumT a (s1.heap.objs.size + 1) s1.heap.objs.size, ⟨⟨.none, g1⟩, g2, Nat.succ_ne_self _, Nat.ne_of_lt la, Nat.ne_of_lt (Nat.lt_succ_of_lt la)⟩, fun b hb => ?_, ?_⟩
      · have lb : s1.heap.objs.size ≤ b := by
          rcases List.mem_cons.mp hb with z | z
          · rw [z]; exact Nat.le_succ _
          · rw [List.mem_singleton.mp z]; exact Nat.le_refl _
        exact I1.fpOk lb (I1.hok.fresh lb)
      · rw [q.hK]
        exact o1.here s2 (yld_enumT h1 h2)
    | _ => exact o1.elim
end
end CL
namespace CL
open PySem PySem.Spec PyProof.Rows L2

/-! ## making an instance -/
def OutMk (g : G) (m : Mp) (x : Addr) (r : FR) (Q : VK) (E : XK) : Prop := match r with
  | .ok d S => ∀ m' H', Ext m m' → Sim g m' ⟨[], S⟩ [] H' → Sv g m' d (.ref x) → Q .non H'
  | .exc cn vs S => ∀ m' H' C dd, Ext m m' → Sim g m' ⟨[], S⟩ [] H' → Exr g m' cn vs C dd → E C dd H'
  | .stuck => False
/-- what __init__ promises of a new instance of class ci; fn gives what it becomes -/
def spMk (g : G) (ci : Nat) (fn : Fn) : Sp := fun vs H Q E => ∃ x us m S ds C ns dx, vs = V.ref x :: us ∧ g.cls ci = some (C, ns) ∧ H x = some (.ins C dx []) ∧ Sim g m ⟨[], S⟩ [] H ∧ m.F x = none ∧ m.B x = none ∧ x ∉ m.rho ∧ m.ini = x ∧ Svs g m ds us ∧ OutMk g m x (fn ds S) Q E
abbrev FnMk (g : G) (k : Nat) (f : Addr) (ci : Nat) (fn : Fn) : Prop := FnR g.prog g.w g.K g.mg g.base (L2.CX g.prog g.w) k f (spMk g ci fn)
section
variable {X : Cx} {g : G} {k j : Nat} {N : List Str} {sc ws : Scope} {W : WX} {p pos : Pos} {x : Str} {e : Expr} {es : List Expr} {fa : M (List D)} {f C : Addr} {fn : Fn} {ci : Nat} {ns : List Str}
theorem run_mk (q : Good g k N X sc ws W) (hc : g.cls ci = some (C, ns)) (M : Mk g.K C f) (F : FnMk g j f ci fn) (hj : j + 1 ≤ k) {pins : List (Addr × Obj)} {m : Mp} {c : CS} {σ : L2.St} {H : Hp} {s : Shared} {ds : List D} {vs : List V} {us : List Value} {Q : VK}
    (I : Inv X pins σ H s) (r : Vals vs us) (sm : Sim g m c σ H) (hv : Svs g m ds vs) (o : Out (rE g) g W σ m (liftF (fn ds c.S) c) Q) : wpAny (model X.prog X.w) X.A (call (.ref C) us) (EP X pins σ Q) X.xe s := by
  rw [← q.hK] at M
  have F : FnR X.prog X.w X.K X.mg X.base (L2.CX X.prog X.w) j f (spMk g ci fn) := by
    rw [q.hP, q.hw, q.hK, q.hmg, q.hbs]
    exact F
  have hdx : H s.heap.objs.size = none := I.hok.fresh (Nat.le_refl _)
  have hx : H (s.heap.objs.size + 1) = none := I.hok.fresh (Nat.le_succ _)
  have ne : s.heap.objs.size + 1 ≠ s.heap.objs.size := Nat.ne_of_gt (Nat.lt_succ_self _)
  obtain ⟨s1, _⟩ := sm.new (u := .own (s.heap.objs.size + 1)) hdx
  obtain ⟨s2, f2⟩ := s1.new (p := s.heap.objs.size + 1) (u := .ins C s.heap.objs.size []) (by rw [upd_ne ne]; exact hx)
  have fx : ∀ a ∈ [s.heap.objs.size + 1], Fre m c a := fun a ha => by
    rw [List.mem_singleton.mp ha]
    exact f2
  have hq : spMk g ci fn (V.ref (s.heap.objs.size + 1) :: vs) (upd (upd H s.heap.objs.size (.own (s.heap.objs.size + 1))) (s.heap.objs.size + 1) (.ins C s.heap.objs.size [])) (fun v H2 => v = .non ∧ Q (.ref (s.heap.objs.size + 1)) H2) (WE W σ) := by
    refine ⟨_, vs, _, c.S, ds, C, ns, _, rfl, hc, upd_same, s2.call [s.heap.objs.size + 1] (s.heap.objs.size + 1), f2.f, ?_, f2.r, rfl, Svs.like (m := m) (m' := m.call _ [s.heap.objs.size + 1] (s.heap.objs.size + 1)) (fun _ _ z => z) (fun _ _ z => z) hv, ?_⟩
    · show (if _ then none else _) = none
      rw [if_pos (.inr List.mem_cons_self)]
    · cases e : fn ds c.S with
      | ok d S' =>
        rw [e] at o
        intro m' H' x' s' k'
        obtain ⟨x3, s3⟩ := s2.back fx x' s'
        exact ⟨rfl, o _ _ H' x3 s3 (Sv.like (m := m') (m' := ⟨m'.rho, m'.F, m.B, m.lam, m.ini⟩) (fun _ _ z => z) (fun _ _ z => z) k')⟩
      | exc cn ws S' =>
        rw [e] at o
        intro m' H' C' dd x' s' k'
        obtain ⟨x3, s3⟩ := s2.back fx x' s'
        exact o _ H' C' dd x3 s3 (exr_like (m := m') (m' := ⟨m'.rho, m'.F, m.B, m.lam, m.ini⟩) (fun _ _ z => z) (fun _ _ z => z) k')
      | stuck => rw [e] at o; exact o.elim
  have I2 := Inv.made (C := C) I
  have r2 : Vals (V.ref (s.heap.objs.size + 1) :: vs) (Value.ref (s.heap.objs.size + 1) :: us) := .cons rfl r
  refine wpAny_call (make_map (f := f) I.kIn M.makes M.init (beq_iff_eq.mp M.fn) (codeAny_mono (F _ X.stack _ _ _ _ _ _ ((q.room.mono hj).make C us []) (I2.env0.make C us []) r2 hq) fun r s' hr => ?_))
  match r, hr with
  | .error er, hr => exact passAt q.tk σ pins _ _ er s' I2 hr
  | .ok (.ret u), hr =>
    obtain ⟨v, H', I3, rv, ev, q3⟩ := I2.after hr
    subst ev
    exact ⟨rv, V.ref (s.heap.objs.size + 1), H', I3, rfl, q3⟩
theorem sx_make (q : Good g k N X sc ws W) (hc : g.cls ci = some (C, ns)) (M : Mk g.K C f) (F : FnMk g j f ci fn) (hj : j + 1 ≤ k) (hg : isGl sc x = true) (hm : g.mg x = some (.ref C)) (ha : PA X (e :: es) (tA g W fa)) (hp : plainArgs (e :: es) = true) :
    PE X (.Call (.Name x p) (e :: es) [] pos) (tE g W (cCall fn fa)) := by
  obtain ⟨p1, p2⟩ := plain_tail hp
  refine ⟨fun pins s σ H Q I ⟨m, c, sm, o⟩ => ?_⟩
  obtain ⟨hg, hd, _⟩ := q.gl hg
  rw [← q.hmg] at hm
  refine wpAny_Call_Name_kw (ld_glob I hg hm ?_ hd)
  refine PySem.W.callWith_K (K := X.K) (h₀ := X.base) I.ok.mod.kin (by rw [q.hK]; exact M.kp) (thn (ha.run pos pins s σ H _ I ⟨m, c, sm, o.bind⟩) fun us s1 ⟨vs, H1, I1, r, m1, ds, c1, x1, s2, k1, o1⟩ => ⟨I1.kIn, ?_⟩) (star_plain p1) (plain_any p2)
  exact run_mk q hc M F hj I1 r s2 k1 o1
/-- C( *e) -/
def cCallS (fn : Fn) (fe : M D) : M D := fe.bind fun d => (dItems d).bind fun ds c => liftF (fn ds c.S) c
theorem sx_makeS {sp : Pos} {fe : M D} (q : Good g k N X sc ws W) (hc : g.cls ci = some (C, ns)) (M : Mk g.K C f) (F : FnMk g j f ci fn) (hj : j + 1 ≤ k) (hg : isGl sc x = true) (hm : g.mg x = some (.ref C)) (he : PE X e (tE g W fe)) :
    PE X (.Call (.Name x p) [.Starred e sp] [] pos) (tE g W (cCallS fn fe)) := by
  refine ⟨fun pins s σ H Q I ⟨m, c, sm, o⟩ => ?_⟩
  obtain ⟨hg, hd, _⟩ := q.gl hg
  rw [← q.hmg] at hm
  refine wpAny_Call_Name_kw (ld_glob I hg hm ?_ hd)
  refine PySem.W.callWith_S (K := X.K) (h₀ := X.base) I.ok.mod.kin (by rw [q.hK]; exact M.kp) (thn (he.run pins s σ H _ I ⟨m, c, sm, o.bind⟩) fun v s1 ⟨y, H1, I1, ry, m1, d, c1, x1, s2, k1, o1⟩ => ?_) (by rfl)
  obtain ⟨a, xs, vs, rfl, h1, h2, o2⟩ := s2.items k1 o1
  obtain rfl : v = Value.ref a := ry
  rw [← q.hK] at h1
  exact StX.star_any I1 h1 fun us s3 I3 rv => ⟨I3.kIn, run_mk q hc M F hj I3 rv s2 h2 o2⟩
end

/-! ## a field of an own or of a store's instance is written -/
inductive Pi where
  | own (fs : List (Str × D))
  | st (n : Nat) (fs : List (Str × D))
def Pi.fs : Pi → List (Str × D)
  | .own fs => fs
  | .st _ fs => fs
def CS.pi (c : CS) (ci i : Nat) : Option Pi := match c.sl[i]? with
  | some (.own (.ins k fs)) => if k = ci then some (.own fs) else none
  | some (.val (.ref n)) => match c.S[n]? with
    | some (.ins k fs) => if k = ci then some (.st n fs) else none
    | _ => none
  | _ => none
def CS.wi (c : CS) (ci i : Nat) (p : Pi) (fs : List (Str × D)) : CS := match p with
  | .own _ => c.put i (.own (.ins ci fs))
  | .st n _ => { c with S := c.S.set n (.ins ci fs) }
theorem Sim.pi {g : G} {m : Mp} {c : CS} {σ : L2.St} {H : Hp} (s : Sim g m c σ H) {ci i : Nat} {p : Pi} {C : Addr} {ns : List Str} (hc : g.cls ci = some (C, ns)) (e : c.pi ci i = some p) :
    ∃ a dx us, σ[i]? = some (some (.ref a)) ∧ H a = some (.ins C dx us) ∧ Sfs g m p.fs us ∧ ∀ fs ws, Sfs g m fs ws → Sim g m (c.wi ci i p fs) σ (upd H a (.ins C dx ws)) := by
  unfold CS.pi at e
  cases q : c.sl[i]? with
  | none => rw [q] at e; cases e
  | some t =>
    rw [q] at e
    cases t with
    | no => cases e
    | own o =>
      cases o with
      | lst _ => cases e
      | ins k fs =>
        have e : (if k = ci then some (Pi.own fs) else none) = some p := e
        by_cases z : k = ci
        · subst z
          rw [if_pos rfl] at e
          cases e
          obtain ⟨h1, ⟨C', ns', dx, us, j1, j2, j3⟩, h3⟩ := s.sl i _ q
          rw [hc] at j1
          cases j1
          exact ⟨m.lam i, dx, us, h1, j2, j3, fun fs ws k => s.wrOwn q (fun H' z => ⟨C, ns, dx, ws, hc, z, k⟩) (fun _ _ _ => ⟨_, _, rfl⟩)⟩
        · rw [if_neg z] at e; cases e
    | val d =>
      cases d with
      | ref n =>
        have e : (match c.S[n]? with
          | some (.ins k fs) => if k = ci then some (Pi.st n fs) else none
          | _ => none) = some p := e
        cases r : c.S[n]? with
        | none => rw [r] at e; cases e
        | some o =>
          rw [r] at e
          cases o with
          | lst _ => cases e
          | ins k fs =>
            have e : (if k = ci then some (Pi.st n fs) else none) = some p := e
            by_cases z : k = ci
            · subst z
              rw [if_pos rfl] at e
              cases e
              obtain ⟨v, h1, h2⟩ := s.sl i _ q
              cases h2 with
              | @ref _ a ha =>
                obtain ⟨_, C', ns', dx, us, j1, j2, j3⟩ := s.st n a _ ha r
                rw [hc] at j1
                cases j1
                exact ⟨a, dx, us, h1, j2, j3, fun fs ws k => s.wrSt ha r fun H' z => ⟨C, ns, dx, ws, hc, z, k⟩⟩
            · rw [if_neg z] at e; cases e
      | _ => cases e
/-- x.f = e -/
def cSetF (ci i : Nat) (f : Str) (fe : M D) : M Fl := fun c => (fe c).bind fun d c1 => match c1.pi ci i with
  | some p => match decide (p.fs.length < 1000) with
    | true => .ok .next (c1.wi ci i p (putD f d p.fs))
    | false => .stuck
  | none => .stuck
section
variable {X : Cx} {g : G} {k : Nat} {N : List Str} {sc ws : Scope} {W : WX} {pos pos' px : Pos} {x f : Str} {e : Expr} {fe : M D} {C : Addr} {ci i : Nat} {ns : List Str}
theorem ss_setF (q : Good g k N X sc ws W) (hc : g.cls ci = some (C, ns)) (kc : Cls g.K C) (na : NoAttr g.K C f) (hi : N[i]? = some x) (hv : isVis (sc.names.lookup x) = true) (hd : noDbg x = true) (he : PE X e (tE g W fe)) (hs : swapsWith e (some (.Attribute (.Name x px) f pos')) pos.line X.env = pure false) :
    PS X (.Assign [.Attribute (.Name x px) f pos'] e pos) (tS g W (cSetF ci i f fe)) := by
  rw [← q.hK] at kc na
  refine ps_imp (ps_fld (pe_var (q.at_ hi) (q.vis hv) (noDbg_1 hd) (noDbg_2 hd)) he hs) fun Dn σ H ⟨m, c, s, o⟩ => ⟨m, c, s, o.bind.imp fun v H1 ⟨m1, d, c1, x1, s1, k1, o1⟩ => ?_⟩
  cases e1 : c1.pi ci i with
  | none => rw [e1] at o1; exact o1.elim
  | some p =>
    rw [e1] at o1
    have o1 : OutS g W m1 (match decide (p.fs.length < 1000) with
      | true => .ok .next (c1.wi ci i p (putD f d p.fs))
      | false => .stuck) Dn := o1
    obtain ⟨a, dx, us, h1, h2, h3, h4⟩ := s1.pi hc e1
    cases z : decide (p.fs.length < 1000) with
    | false => rw [z] at o1; exact o1.elim
    | true =>
      rw [z] at o1
      exact ⟨.ref a, h1, a, C, dx, us, rfl, h2, kc, na, by rw [← h3.length]; exact of_decide_eq_true z, o1.nx (h4 _ _ (h3.put k1))⟩
end

/-! ## __init__ by its body -/
/-- slot 0 holds the new instance -/
def startM (n ci : Nat) (ds : List D) (S : List O) : CS := ⟨.own (.ins ci []) :: (ds.map .val ++ List.replicate (n - 1 - ds.length) .no), S⟩
def outM (ci : Nat) (ns : List Str) (c : CS) : FR := match c.sl[(0 : Nat)]? with
  | some (.own (.ins k fs)) => match decide (k = ci ∧ fs.map (·.1) = ns) with
    | true => .ok (.obj ci (fs.map (·.2))) c.S
    | false => .stuck
  | _ => .stuck
def mkB (n np ci : Nat) (ns : List Str) (fb : M Fl) : Fn := fun ds S => match decide (ds.length = np) with
  | true => match fb (startM n ci ds S) with
    | .ok .next c => outM ci ns c
    | .ok (.ret .non) c => outM ci ns c
    | .exc cn vs c => .exc cn vs c.S
    | _ => .stuck
  | false => .stuck
theorem Sim.startM {g : G} {m : Mp} {S : List O} {H : Hp} {N : List Str} {ds : List D} {vs : List V} {ci : Nat} {C : Addr} {ns : List Str} {x dx : Addr} (h : Sim g m ⟨[], S⟩ [] H) (hv : Svs g m ds vs) (hc : g.cls ci = some (C, ns)) (hx : H x = some (.ins C dx [])) (hF : m.F x = none) (hB : m.B x = none) (hr : x ∉ m.rho) (hi : m.ini = x) :
    ∃ m', Ext m m' ∧ Sim g m' (CL.startM N.length ci ds S) (L2.start N (V.ref x :: vs)) H := by
  have ex : Ext m { m with lam := fun _ => x } := ⟨fun _ _ z => z, fun _ _ z => z, rfl, rfl⟩
  refine ⟨{ m with lam := fun _ => x }, ex, h.fr, h.nd, h.tb, h.len, fun _ _ _ => hi.symm, ?_, fun n a o h1 h2 => ⟨(h.st n a o h1 h2).1, (h.st n a o h1 h2).2.mono ex rfl⟩, h.bk, fun i s hs => ?_⟩
  · show (Sl.own (.ins ci []) :: (ds.map Sl.val ++ List.replicate (N.length - 1 - ds.length) Sl.no)).length = (((V.ref x :: vs).map some) ++ List.replicate (N.length - (V.ref x :: vs).length) none).length
    rw [List.length_cons, List.length_append, List.length_append, List.length_map, List.length_map, List.length_replicate, List.length_replicate, List.length_cons, hv.length]
    omega
  · have hs : (Sl.own (.ins ci []) :: (ds.map Sl.val ++ List.replicate (N.length - 1 - ds.length) Sl.no))[i]? = some s := hs
    cases i with
    | zero =>
      cases hs
      refine ⟨rfl, ⟨C, ns, dx, [], hc, hx, .nil⟩, ⟨hF, hB, hr, fun j o hj _ => ?_⟩⟩
      have hj : (Sl.own (.ins ci []) :: (ds.map Sl.val ++ List.replicate (N.length - 1 - ds.length) Sl.no))[j]? = some (.own o) := hj
      cases j with
      | zero => rfl
      | succ j =>
        rw [List.getElem?_cons_succ] at hj
        rcases List.mem_append.mp (List.mem_of_getElem? hj) with z | z
        · obtain ⟨d, _, z⟩ := List.mem_map.mp z
          cases z
        · cases (List.mem_replicate.mp z).2
    | succ i =>
      rw [List.getElem?_cons_succ] at hs
      by_cases q : i < ds.length
      · rw [List.getElem?_append_left (by rw [List.length_map]; exact q), List.getElem?_map, List.getElem?_eq_getElem q] at hs
        cases hs
        obtain ⟨v, e1, e2⟩ := hv.get (List.getElem?_eq_getElem q)
        refine ⟨v, ?_, e2.mono ex⟩
        show ((some (V.ref x) :: vs.map some) ++ List.replicate (N.length - (V.ref x :: vs).length) none)[i + 1]? = some (some v)
        rw [List.cons_append, List.getElem?_cons_succ, List.getElem?_append_left (by rw [List.length_map, ← hv.length]; exact q), List.getElem?_map, e1]
        rfl
      · rw [List.getElem?_append_right (by rw [List.length_map]; omega)] at hs
        cases (List.mem_replicate.mp (List.mem_of_getElem? hs)).2
        trivial
theorem Sfs.zip {g : G} {m : Mp} {fs : List (Str × D)} {us : List (Str × V)} (h : Sfs g m fs us) : us = (fs.map (·.1)).zip (us.map (·.2)) ∧ Svs g m (fs.map (·.2)) (us.map (·.2)) := by
  induction h with
  | nil => exact ⟨rfl, .nil⟩
  | cons a _ ih => exact ⟨by
      rw [List.map_cons, List.map_cons, List.zip_cons_cons, ← ih.1], .cons a ih.2⟩
/-- the instance is done: from now on a value -/
theorem outM_ok {g : G} {m m' : Mp} {c : CS} {σ : L2.St} {H : Hp} {ci : Nat} {C : Addr} {ns : List Str} {x : Addr} {Q : VK} {E : XK} (hc : g.cls ci = some (C, ns)) (xx : Ext m m') (s : Sim g m' c σ H) (hi : m.ini = x) (o : OutMk g m x (outM ci ns c) Q E) : Q .non H := by
  unfold outM at o
  cases e : c.sl[0]? with
  | none => rw [e] at o; exact o.elim
  | some t =>
    rw [e] at o
    cases t with
    | no => exact o.elim
    | val d => exact o.elim
    | own ob =>
      cases ob with
      | lst _ => exact o.elim
      | ins k fs =>
        have o : OutMk g m x (match decide (k = ci ∧ fs.map (·.1) = ns) with
          | true => FR.ok (.obj ci (fs.map (·.2))) c.S
          | false => .stuck) Q E := o
        cases z : decide (k = ci ∧ fs.map (·.1) = ns) with
        | false => rw [z] at o; exact o.elim
        | true =>
          rw [z] at o
          obtain ⟨rfl, hn⟩ := of_decide_eq_true z
          obtain ⟨h1, ⟨C', ns', dx, us, j1, j2, j3⟩, h3⟩ := s.sl 0 _ e
          rw [hc] at j1
          cases j1
          have ex : m'.lam 0 = x := (s.ini _ _ e).trans (xx.i.trans hi)
          obtain ⟨z1, z2⟩ := j3.zip
          rw [hn] at z1
          have xf : Ext m' { m' with F := upd m'.F x (.ins C dx us) } := ⟨fun _ _ z => z, fun a o z => by
            show upd m'.F _ _ a = some o
            rw [upd_ne (ne_of_none z (by rw [← ex]; exact h3.fr))]
            exact z, rfl, rfl⟩
          have sm : Sim g { m' with F := upd m'.F x (.ins C dx us) } ⟨[], c.S⟩ [] H := by
            refine ⟨fun a o z => ?_, s.nd, s.tb.ext xf.f (s.tb.1.put fun _ z => nomatch z) (fun _ _ z => z), s.len, iniOk_nil, rfl, fun n a o g1 g2 => ?_, fun a o z => ?_, fun i t h => by
              have h : ([] : List Sl)[i]? = some t := h
              simp at h⟩
            · have z' : upd m'.F x (.ins C dx us) a = some o := z
              by_cases q : a = x
              · rw [q, upd_same] at z'
                cases z'
                rw [q, ← ex]
                exact j2
              · rw [upd_ne q] at z'
                exact s.fr a o z'
            · obtain ⟨k1, k2⟩ := s.st n a o g1 g2
              refine ⟨?_, k2.mono xf rfl⟩
              show upd m'.F _ _ a = none
              rw [upd_ne (fun q => h3.rh (by rw [ex, ← q]; exact List.mem_of_getElem? g1))]
              exact k1
            · obtain ⟨z1, z2, z3, z4⟩ := s.bk a o z
              refine ⟨z1, ?_, z3, z4⟩
              show upd m'.F _ _ a = none
              rw [upd_ne (fun q => by
                have z : m'.B a = some o := z
                rw [q, ← ex, h3.bk] at z
                cases z)]
              exact z2
          refine o _ H (xx.trans xf) sm (.obj (dx := dx) hc ?_ (z2.mono xf) ?_)
          · show upd m'.F x _ x = _
            rw [upd_same, ← z1]
          · rw [← hn, List.length_map, List.length_map]
theorem outM_S {g : G} {W : WX} {m m1 : Mp} {ci np : Nat} {C : Addr} {ns : List Str} {x : Addr} {r : R Fl} {Q : VK} {E : XK} (hc : g.cls ci = some (C, ns)) (xx : Ext m m1) (hi : m.ini = x) (hW : ∀ C d σ H, E C d H → W C d σ H)
    (o : OutMk g m x (match r with
      | .ok .next c => outM ci ns c
      | .ok (.ret .non) c => outM ci ns c
      | .exc cn vs c => .exc cn vs c.S
      | _ => .stuck) Q E) : OutS g W m1 r { nx := fun _ H' => Q .non H', rt := Q } := by
  cases r with
  | ok a c =>
    cases a with
    | next => exact fun m' σ' H' x' s => outM_ok hc (xx.trans x') s hi o
    | ret d =>
      cases d <;> first | exact o.elim | skip
      intro m' σ' v H' x' s k
      cases k
      exact outM_ok hc (xx.trans x') s hi o
    | brk => exact o.elim
    | cont => exact o.elim
  | exc cn vs c => exact fun m' σ' H' C d x' s k => hW C d σ' H' (o m' H' C d (xx.trans x') s.drop k)
  | stuck => exact o.elim
/-- what is passed becomes one tuple -/
def fnStar (fn : Fn) : Fn := fun ds S => match szOk ds.length with
  | true => fn [.tup ds] S
  | false => .stuck
/-- def __init__(self, *rest): rest comes as a tuple -/
theorem fn_mkS {g : G} {x qual : Str} {st : Stmt} {f : Addr} {fd : FuncData} {N : List Str} {k ci : Nat} {C : Addr} {ns : List Str} {fb : M Fl} {ps pv : Str} (F : L2.Fun g.K x qual st f fd) (S : FnScope N ([ps] ++ [pv]) (defScope st)) (hc : g.cls ci = some (C, ns))
    (hb : ∀ (kV doc pm : Value) (an : Option Addr) (cdv ct : Value) (us rest : List Value), us.length = [ps].length → bindArgs (PySem.W.fnOf x qual (defArgs st) (defBody st) (defScope st) .none kV doc pm an cdv ct) ⟨us ++ rest, []⟩ = (newTuple rest >>= fun t => pure ([ps].zip us ++ [(pv, t)])))
    (h : ∀ (X : Cx) (W : WX), Good g k N X (defScope st) (defScope st) W → PSs X (defBody st) (tS g W fb)) :
    FnMk g (k + 1) f ci (fnStar (mkB N.length 1 ci ns fb)) := by
  obtain ⟨oc, od, kV, doc, pm, an, cdv, ct, osl, rfl, lk, hcd⟩ := F.ex
  refine (StX.fn_star (sp := spMk g ci (mkB N.length 1 ci ns fb)) lk hcd S StX.cxUp (hb kV doc pm an cdv ct) fun A outer s H vs Q E hr hsp => ?_).imp fun vs H Q E hs => ?_
  · obtain ⟨y, us, m, S', ds, C', ns', dx, rfl, hc', hx, sm, hF, hB, hrr, hi, hv, o⟩ := hsp
    unfold mkB at o
    cases e : decide (ds.length = 1) with
    | false => rw [e] at o; exact o.elim
    | true =>
      rw [e] at o
      obtain ⟨m1, x1, s1⟩ := sm.startM (N := N) hv hc' hx hF hB hrr hi
      exact ⟨_, h _ _ (good_of S hr), m1, _, s1, outM_S (np := 1) hc x1 hi (fun _ _ _ _ h => h) o⟩
  · obtain ⟨y, us, m, S', ds, C', ns', dx, rfl, hc', hx, sm, hF, hB, hrr, hi, hv, o⟩ := hs
    unfold fnStar at o
    cases e : szOk ds.length with
    | false => rw [e] at o; exact o.elim
    | true =>
      rw [e] at o
      refine ⟨[V.ref y], us, rfl, rfl, by rw [← hv.length]; exact of_decide_eq_true e, fun p hp => ?_⟩
      obtain ⟨s2, x2⟩ := sm.frozen (u := .tup us) hp
      have ny : y ≠ p := ne_of_none hx hp
      refine ⟨y, [V.ref p], _, S', [.tup ds], C', ns', dx, rfl, hc', by rw [upd_ne ny]; exact hx, s2, ?_, hB, hrr, hi, .cons (.tup (SqT.of upd_same) (hv.mono x2)) .nil, ?_⟩
      · show upd m.F p _ y = none
        rw [upd_ne ny]
        exact hF
      · cases r : mkB N.length 1 ci ns fb [.tup ds] S' with
        | ok d S2 =>
          rw [r] at o
          exact fun m' H' x' s' k' => o m' H' (x2.trans x') s' k'
        | exc cn ws S2 =>
          rw [r] at o
          exact fun m' H' C dd x' s' k' => o m' H' C dd (x2.trans x') s' k'
        | stuck => rw [r] at o; exact o.elim
end CL
namespace CL
open PySem PySem.Spec PyProof.Rows L2

/-! ## operators, own ones among them -/
def MOp (X : Cx) (g : G) (W : WX) (f : Value → Value → Sem Value) (h : D → D → M D) : Prop := ∀ (pins : List (Addr × Obj)) (s : Shared) (σ : L2.St) (H : Hp) (m : Mp) (c : CS) (a b : D) (x y : V) (v u : Value) (Q : VK),
  Inv X pins σ H s → Sim g m c σ H → Sv g m a x → Sv g m b y → RelV x v → RelV y u → Out (rE g) g W σ m (h a b c) Q → wpAny (model X.prog X.w) X.A (f v u) (EP X pins σ Q) X.xe s
theorem mop_of {X : Cx} {g : G} {W : WX} {f : Value → Value → Sem Value} {r : R2} {h : D → D → M D} (ho : OpR X f r) (hs : S2 g r h) : MOp X g W f h := fun pins s σ H m c a b x y v u Q I sm ka kb rx ry o => ho pins s σ H x y v u Q I rx ry (hs W m c σ H a b x y Q sm ka kb o)
/-- two values at hand -/
def TwoQ (g : G) (W : WX) (σ : L2.St) (h : D → D → M D) (Q : VK) : V → V → Hp → Prop := fun x y H => ∃ m c a b, Sim g m c σ H ∧ Sv g m a x ∧ Sv g m b y ∧ Out (rE g) g W σ m (h a b c) Q
section
variable {X : Cx} {g : G} {k j : Nat} {N : List Str} {sc ws : Scope} {W : WX} {p pos : Pos} {a b e : Expr} {fa fb : M D} {h h' : D → D → M D}
theorem two2 {σ : L2.St} {H : Hp} {Q : VK} (q : tE g W (cOp h fa fb) σ H Q) : tE g W fa σ H fun x H1 => tE g W fb σ H1 fun y H2 => TwoQ g W σ h Q x y H2 := by
  obtain ⟨m, c, s, o⟩ := q
  exact ⟨m, c, s, o.bind.imp fun x H1 ⟨m1, a, c1, x1, s1, k1, o1⟩ => ⟨m1, c1, s1, o1.bind.imp fun y H2 ⟨m2, b, c2, x2, s2, k2, o2⟩ => ⟨m2, c2, a, b, s2, k1.mono x2, k2, o2⟩⟩⟩
theorem sx_bin {op : Operator} (ho : MOp X g W (binaryOp op) h) (ha : PE X a (tE g W fa)) (hb : PE X b (tE g W fb)) : PE X (.BinOp a op b pos) (tE g W (cOp h fa fb)) := by
  refine ⟨fun pins s σ H Q I q => ?_⟩
  exact wpAny_BinOp (binT ha hb I (two2 q) fun v u s2 x y H2 I2 rx ry ⟨m, c, d1, d2, sm, k1, k2, o⟩ => ho pins s2 σ H2 m c d1 d2 x y v u Q I2 sm k1 k2 rx ry o)
theorem sx_cmp {op : CmpOp} (ho : MOp X g W (compareOp op) h) (ha : PE X a (tE g W fa)) (hb : PE X b (tE g W fb)) (hm : behindInMarks op b = false) : PE X (.Compare a [op] [b] pos) (tE g W (cOp h fa fb)) := by
  refine ⟨fun pins s σ H Q I q => ?_⟩
  exact wpAny_Compare1 (binT ha hb I (two2 q) fun v u s2 x y H2 I2 rx ry ⟨m, c, d1, d2, sm, k1, k2, o⟩ => ho pins s2 σ H2 m c d1 d2 x y v u Q I2 sm k1 k2 rx ry o) hm
theorem sx_cmpT {op : CmpOp} (ho : MOp X g W (compareOp op) h) (ha : PE X a (tE g W fa)) (hb : PE X b (tE g W fb)) (hm : behindInMarks op b = false) : PT X (.Compare a [op] [b] pos) (tT g W (asB (cOp h fa fb))) := by
  refine ⟨fun pins s σ H Q I ⟨m, c, sm, o⟩ => ?_⟩
  have q : tE g W (cOp h fa fb) σ H (fun z H3 => ∃ k, z = .bl k ∧ Q k H3) := ⟨m, c, sm, o.bind.imp fun x H1 ⟨m1, d, c1, x1, s1, k1, o1⟩ => by
    cases k1 with
    | bl b => exact ⟨b, rfl, o1.here s1 rfl⟩
    | _ => exact o1.elim⟩
  refine wpAny_isTrue_Compare1 (binT ha hb I (two2 q) fun v u s2 x y H2 I2 rx ry ⟨m, c, d1, d2, sm, k1, k2, o⟩ => thn (ho pins s2 σ H2 m c d1 d2 x y v u _ I2 sm k1 k2 rx ry o) fun w s3 ⟨z, H3, I3, r3, kk, ez, q3⟩ => ?_) hm
  subst ez
  cases r3
  exact wpAny_truthy_bool ⟨H3, I3, q3⟩
theorem sx_sub {r : R2} (ho : ∀ (vl sl : Expr), notSlice sl = true → MOp X g W (fun v u => subscriptTail vl sl v u) h) (ha : PE X a (tE g W fa)) (hb : PE X b (tE g W fb)) (hs : notSlice b = true) : PE X (.Subscript a b pos) (tE g W (cOp h fa fb)) := by
  refine ⟨fun pins s σ H Q I q => ?_⟩
  exact Subscript_ (binT ha hb I (two2 q) fun v u s2 x y H2 I2 rx ry ⟨m, c, d1, d2, sm, k1, k2, o⟩ => ho a b hs pins s2 σ H2 m c d1 d2 x y v u Q I2 sm k1 k2 rx ry o)
/-! a op b op c -/
def cChain (h h' : D → D → M D) (fa fb fc : M D) : M D := fa.bind fun x => fb.bind fun y => (h x y).bind fun z => match z with
  | .bl true => fc.bind fun w => h' y w
  | .bl false => M.ret (.bl false)
  | _ => fun _ => .stuck
theorem chain_read {r r' : R2} {fc : M D} (hs : S2 g r h) (hs' : S2 g r' h') {σ : L2.St} {H : Hp} {Q : VK} (q : tE g W (cChain h h' fa fb fc) σ H Q) : tChain r r' (tE g W fa) (tE g W fb) (tE g W fc) σ H Q := by
  obtain ⟨m, c, s, o⟩ := q
  refine ⟨m, c, s, o.bind.imp fun x H1 ⟨m1, a, c1, x1, s1, k1, o1⟩ => ⟨m1, c1, s1, o1.bind.imp fun y H2 ⟨m2, b, c2, x2, s2, k2, o2⟩ => ?_⟩⟩
  refine hs W m2 c2 σ H2 a b x y _ s2 (k1.mono x2) k2 (o2.bind.imp fun z H3 ⟨m3, d, c3, x3, s3, k3, o3⟩ => ?_)
  cases k3 with
  | bl bb =>
    refine ⟨bb, rfl, ?_⟩
    cases bb with
    | true =>
      rw [if_pos rfl]
      exact ⟨m3, c3, s3, o3.bind.imp fun w H4 ⟨m4, e, c4, x4, s4, k4, o4⟩ => hs' W m4 c4 σ H4 b e y w Q s4 ((k2.mono x3).mono x4) k4 o4⟩
    | false =>
      rw [if_neg (fun z => nomatch z)]
      exact o3.here s3 (.bl _)
  | _ => exact o3.elim
theorem sx_chain {op op' : CmpOp} {r r' : R2} {c : Expr} {fc : M D} (ho : OpR X (compareOp op) r) (ho' : OpR X (compareOp op') r') (hs : S2 g r h) (hs' : S2 g r' h') (ha : PE X a (tE g W fa)) (hb : PE X b (tE g W fb)) (hc : PE X c (tE g W fc)) (hm : lastMarks [op, op'] [b, c] = false) : PE X (.Compare a [op, op'] [b, c] pos) (tE g W (cChain h h' fa fb fc)) :=
  pe_imp (pe_chain ho ho' ha hb hc hm) fun σ H Q q => chain_read hs hs' q
theorem sx_chainT {op op' : CmpOp} {r r' : R2} {c : Expr} {fc : M D} (ho : OpR X (compareOp op) r) (ho' : OpR X (compareOp op') r') (hs : S2 g r h) (hs' : S2 g r' h') (ha : PE X a (tE g W fa)) (hb : PE X b (tE g W fb)) (hc : PE X c (tE g W fc)) (hm : lastMarks [op, op'] [b, c] = false) : PT X (.Compare a [op, op'] [b, c] pos) (tT g W (asB (cChain h h' fa fb fc))) := by
  refine pt_imp (pt_chain ho ho' ha hb hc hm) fun σ H Q ⟨m, c, s, o⟩ => chain_read (W := W) hs hs' ⟨m, c, s, o.bind.imp fun x H1 ⟨m1, d, c1, x1, s1, k1, o1⟩ => ?_⟩
  cases k1 with
  | bl b => exact ⟨b, rfl, o1.here s1 rfl⟩
  | _ => exact o1.elim
end

/-! ## the own operators of a class -/
theorem cmp_back {v : V} {u : Value} (r : RelV v u) {Q : Value → Shared → Prop} {s : Shared} (h : Q u s) : PySem.W.CmpBack Q u s := by
  cases v with
  | non => cases (show u = Value.none from r); exact h
  | bl b => cases (show u = Value.bool b from r); exact h
  | int i => obtain ⟨t, q⟩ := (show ∃ t, u = Value.int i t from r); cases q; exact h
  | str y => obtain ⟨t, q⟩ := (show ∃ t, u = Value.str y t from r); cases q; exact h
  | byt y => obtain ⟨t, q⟩ := (show ∃ t, u = Value.bytes y t from r); cases q; exact h
  | flt y => obtain ⟨t, q⟩ := (show ∃ t, u = Value.float y t from r); cases q; exact h
  | ref a => cases (show u = Value.ref a from r); exact h
  | ty n => cases (show u = Value.type n from r); exact h
/-- a special method of class C at f -/
structure Spc (K : PySem.W.Frag) (C : Addr) (mn : Str) (f : Addr) : Prop where
  at_ : PySem.W.findIn K (.ref C) mn = some (some (.ref f))
  fn : PySem.W.isFn K (.ref f) = true
section
variable {X : Cx} {g : G} {k j : Nat} {N : List Str} {sc ws : Scope} {W : WX} {f C : Addr} {fn : Fn} {ci : Nat} {ns : List Str} {mn : Str}
theorem run_own {A : Around} (q : Good g k N X sc ws W) (F : FnC g j f fn) (hr : Room j A) {pins : List (Addr × Obj)} {s : Shared} {σ : L2.St} {H : Hp} {m : Mp} {c : CS} {ds : List D} {vs : List V} {us : List Value} {Q : VK} (e0 : Env0 X.prog X.w X.K X.mg X.base A X.stack s H) (I : Inv X pins σ H s) (r : Vals vs us) (sm : Sim g m c σ H) (hv : Svs g m ds vs) (o : Out (rE g) g W σ m (liftF (fn ds c.S) c) Q) : wpAny (model X.prog X.w) A (call (.ref f) us) (EP X pins σ Q) X.xe s :=
  wpAny_call (run_cA (q.fn F) hr e0 q.tk I r sm hv o)
def dOwn (ci : Nat) (mn : Str) (fn : Fn) (h : D → D → M D) : D → D → M D := fun a b c => match c.has ci mn a with
  | true => liftF (fn [a, b] c.S) c
  | false => h a b c
def negB (r : R D) : R D := match r with
  | .ok (.bl b) c => .ok (.bl (!b)) c
  | .exc n vs c => .exc n vs c
  | _ => .stuck
def dOwnNe (ci : Nat) (mn : Str) (fn : Fn) (h : D → D → M D) : D → D → M D := fun a b c => match c.has ci mn a with
  | true => negB (liftF (fn [a, b] c.S) c)
  | false => h a b c
/-- the second operand's type -/
def CS.typed (c : CS) (d : D) : Bool := (c.knOf d).isSome
def dEqO (ci : Nat) (fn : Fn) (h : D → D → M D) : D → D → M D := fun a b c => match c.has ci "__eq__" a with
  | true => M.guard (c.typed b) (fun c => liftF (fn [a, b] c.S) c) c
  | false => h a b c
def dNeO (ci : Nat) (fn : Fn) (h : D → D → M D) : D → D → M D := fun a b c => match c.has ci "__eq__" a with
  | true => M.guard (c.typed b) (fun c => negB (liftF (fn [a, b] c.S) c)) c
  | false => h a b c
theorem notFirst_of {K : PySem.W.Frag} {t : Value} {r : Bool} (h : PySem.W.kitOne K t (.ref C) = some r) (hr : r = true → t = .ref C) : PySem.W.notFirst K C t = true := by
  unfold PySem.W.notFirst
  unfold PySem.W.kitOne at h
  by_cases e : (t == Value.ref C) = true
  · rw [e]; rfl
  · rw [if_neg e] at h
    cases r with
    | true => rw [hr rfl] at e; exact absurd (beq_self_eq_true _) e
    | false =>
      unfold PySem.W.kitCls at h
      dsimp only at h
      split at h
      · rw [h]
        simp
      · cases h
theorem second (T : TabK g) (q : Good g k N X sc ws W) (hc : g.cls ci = some (C, ns)) {pins : List (Addr × Obj)} {s : Shared} {σ : L2.St} {H : Hp} {m : Mp} {c : CS} {b : D} {y : V} {u : Value} (I : Inv X pins σ H s) (sm : Sim g m c σ H) (kb : Sv g m b y) (ry : RelV y u) (ht : c.typed b = true) : ∃ tb, PySem.W.Looks (model X.prog X.w) s.heap (typeOf u) tb ∧ PySem.W.notFirst X.K C tb = true := by
  unfold CS.typed at ht
  obtain ⟨kn, e⟩ := Option.isSome_iff_exists.mp ht
  obtain ⟨t, g1, g2⟩ := sm.tyX T kb e
  rw [← q.hK] at g2
  obtain ⟨P, Z, p, _⟩ := kit_of I ry g2
  refine ⟨t, Z.ty _ _ I.kIn p, ?_⟩
  rw [q.hK]
  have ck : knV g (.cl ci) = some (.ref C) := by
    show (g.cls ci).map _ = _
    rw [hc]
    rfl
  refine notFirst_of (kit_kn T g1 ck (fun z => nomatch z)) fun hr => ?_
  cases kn with
  | ty x => cases hr
  | cl i =>
    have e2 : i = ci := beq_iff_eq.mp hr
    subst e2
    rw [ck] at g1
    exact (Option.some.inj g1).symm
theorem mop_eq (T : TabK g) (q : Good g k N X sc ws W) (hc : g.cls ci = some (C, ns)) (hn : ns.contains "__eq__" = false) (sp : Spc g.K C "__eq__" f) (F : FnC g j f fn) (hj : j ≤ k) {h : D → D → M D} (ho : MOp X g W (compareOp .Eq) h) : MOp X g W (compareOp .Eq) (dEqO ci fn h) := by
  intro pins s σ H m c a b x y v u Q I sm ka kb rx ry o
  unfold dEqO at o
  cases e : c.has ci "__eq__" a with
  | false => rw [e] at o; exact ho pins s σ H m c a b x y v u Q I sm ka kb rx ry o
  | true =>
    rw [e] at o
    obtain ⟨hz, o⟩ := Out.guard o
    obtain ⟨p, dx, fs, ex, ea, _⟩ := sm.has ka e hc hn
    subst ex
    obtain rfl : v = Value.ref p := rx
    obtain ⟨mA, Ob, _⟩ := ins_get I.hok ea
    obtain ⟨od, J, _⟩ := Ob.look
    obtain ⟨mm, fr⟩ := I.fr
    obtain ⟨tb, l1, l2⟩ := second T q hc I sm kb ry hz
    have sp2 := sp
    rw [← q.hK] at sp2
    exact PySem.W.cmp_K (op := .Eq) q.room.units0 fr I.ok.mod.kin J l1 l2 sp2.at_ sp2.fn (thn (run_own q F (q.room.mono hj) I.env0 I (vs := [.ref p, y]) (us := [.ref p, u]) (.cons rfl (.cons ry .nil)) sm (.cons ka (.cons kb .nil)) o) fun w s' ⟨z, H', I', rz, qz⟩ => cmp_back rz ⟨z, H', I', rz, qz⟩)
/-- `!=` by `==`: object's own `__ne__` -/
structure NeK (K : PySem.W.Frag) (C : Addr) : Prop where
  at_ : PySem.W.findIn K (.ref C) "__ne__" = some (some (.builtin "object.__ne__"))
  ob : PySem.W.subIn K (.ref C) (.type "object") = some true
end
theorem bind_ne (self : Value) : bindSpecial (.builtin "object.__ne__") self = pure (.builtin "object.__ne__", [self]) := by kernel_rfl
section
open PySem.W
variable {P : Program} {w : World} {A : Around} {E : Value → Shared → Prop} {s : Shared} {K : Frag} {x C : Addr} {ox : Obj} {od : Option Obj}
/-- a bound special method, whatever it is -/
theorem ifB {nm : Str} {w0 w1 : Value} {xs : List Value} {Q : Option Value → Shared → Prop} (X : K.In s.heap) (I : InstAt s.heap x ox C od) (hs : findIn K (.ref C) nm = some (some w0)) (hb : Looks (model P w) s.heap (bindSpecial w0 (.ref x)) (w1, [.ref x]))
    (h : wpAny (model P w) A (call w1 (.ref x :: xs)) (fun v => Q (some v)) E s) : wpAny (model P w) A (callSpecialIfBound? (.ref x) nm xs) Q E s := by
  have last : wpAny (model P w) A (call w1 ([.ref x] ++ xs) >>= fun v => pure (some v)) Q E s := wpAny_bind (wpAny_mono h (fun _ _ z => wpAny_pure z) fun _ _ z => z)
  simp only [callSpecialIfBound?, bindSpecialIfBound?]
  refine wpAny_holding ?_
  refine wpAny_bind (wpAny_bind (wpAny_bind (I.type.here ?_)))
  refine (looks_findIn X hs).here ?_
  refine wpAny_bind (wpAny_askSetting ?_)
  refine wpAny_ite ?_
  split
  · refine wpAny_bind (hb.here ?_)
    exact wpAny_pure (by exact last)
  · refine wpAny_tryCatch (wpAny_bind (hb.here ?_))
    exact wpAny_pure (by exact last)
theorem ne_call {f : Addr} {b : Value} {Q : Value → Shared → Prop} (hu : A.in1.units < cLine) (X : K.In s.heap) (I : InstAt s.heap x ox C od) (ob : Looks (model P w) s.heap (isInstance (.ref x) (.type "object")) true) (hs : findIn K (.ref C) "__eq__" = some (some (.ref f))) (hf : isFn K (.ref f) = true)
    (h : wpAny (model P w) A.in1 (call (.ref f) [.ref x, b]) (fun r s' => ∃ bb, r = .bool bb ∧ Q (.bool (!bb)) s') E s) : wpAny (model P w) A (call (.builtin "object.__ne__") [.ref x, b]) Q E s := by
  have hp : plainId "object.__ne__" = true := by decide +kernel
  refine wpAny_call (codeAny_call_builtin hp PySem.F.cmpEntry_ne ?_)
  refine @check_slot (model P w) _ _ _ "object.__ne__" "object" "__ne__" (.ref x) [b] [] _ PySem.F.cmpKind_ne PySem.F.cmpSplit_ne ob (PySem.F.cmpArgs_ne _ _) ?_
  unfold Builtin.«object.__ne__»
  refine wpAny_bind (m := slotArgs _ _ _) (wpAny_pure ?_)
  refine wpAny_bind (wpAny_cRoomFor hu ?_)
  refine wpAny_bind (ifB X I hs (bind_fn X _ (beq_iff_eq.mp hf)) (wpAny_mono h (fun r s' hr => ?_) fun _ _ z => z))
  obtain ⟨bb, rfl, q⟩ := hr
  exact wpAny_bind (wpAny_truthy_bool (wpAny_pure q))
theorem ne_own {f : Addr} {b tb : Value} {Q : Value → Shared → Prop} (hu : A.in1.units < cLine) (hu0 : A.units < cLine) (X : K.In s.heap) (I : InstAt s.heap x ox C od) (hb : Looks (model P w) s.heap (typeOf b) tb) (hn : notFirst K C tb = true)
    (hs : findIn K (.ref C) "__eq__" = some (some (.ref f))) (hne : NeK K C) (hf : isFn K (.ref f) = true)
    (h : wpAny (model P w) A.in1 (call (.ref f) [.ref x, b]) (fun r s' => ∃ bb, r = .bool bb ∧ Q (.bool (!bb)) s') E s) : wpAny (model P w) A (compareOp .NotEq (.ref x) b) Q E s := by
  have ob : Looks (model P w) s.heap (isInstance (.ref x) (.type "object")) true := I.type.andThen (looks_subIn X hne.ob)
  have one : wpAny (model P w) A (tryCompare (.ref x) "__ne__" b) (fun r s' => ∃ v, r = some v ∧ Q v s') E s := by
    unfold tryCompare
    refine wpAny_bind (ifB X I hne.at_ (Looks.of_pure (bind_ne _)) (ne_call hu X I ob hs hf (wpAny_mono h (fun r s' hr => ?_) fun _ _ z => z)))
    obtain ⟨bb, e, q⟩ := hr
    exact ⟨bb, e, wpAny_pure ⟨_, rfl, q⟩⟩
  have fin : ∀ s', s' = s → wpAny (model P w) A (tryCompare (.ref x) "__ne__" b) (fun r s' => ∃ v, r = some v ∧ Q v s') E s' := fun s' e => by rw [e]; exact one
  show wpAny _ A (richCompare .NotEq (.ref x) b) Q E s
  unfold richCompare
  simp only [oneThing_ref]
  refine wpAny_holding (wpAny_bind (wpAny_cRoomFor hu0 ?_))
  refine wpAny_bind (I.type.here ?_)
  refine wpAny_bind (hb.here ?_)
  split
  · rename_i q
    have e : subIn K tb (.ref C) = some false := by
      unfold notFirst at hn
      rw [Bool.or_eq_true] at hn
      rcases hn with e | e
      · rw [beq_iff_eq.mp e] at q
        simp at q
      · exact beq_iff_eq.mp e
    refine wpAny_bind ((looks_subIn X e).here ?_)
    rw [if_neg (by simp)]
    refine wpAny_bind (wpAny_mono (fin s rfl) (fun r s' z => ?_) fun _ _ z => z)
    obtain ⟨v, rfl, hq⟩ := z
    exact wpAny_pure hq
  · refine wpAny_bind (wpAny_pure ?_)
    rw [if_neg (by simp)]
    refine wpAny_bind (wpAny_mono (fin s rfl) (fun r s' z => ?_) fun _ _ z => z)
    obtain ⟨v, rfl, hq⟩ := z
    exact wpAny_pure hq
end
section
variable {X : Cx} {g : G} {k j : Nat} {N : List Str} {sc ws : Scope} {W : WX} {f C : Addr} {fn : Fn} {ci : Nat} {ns : List Str} {mn : Str}
theorem mop_ne (T : TabK g) (q : Good g k N X sc ws W) (hc : g.cls ci = some (C, ns)) (hn : ns.contains "__eq__" = false) (sp : Spc g.K C "__eq__" f) (nk : NeK g.K C) (F : FnC g j f fn) (hj : j + 1 ≤ k) {h : D → D → M D} (ho : MOp X g W (compareOp .NotEq) h) : MOp X g W (compareOp .NotEq) (dNeO ci fn h) := by
  intro pins s σ H m c a b x y v u Q I sm ka kb rx ry o
  unfold dNeO at o
  cases e : c.has ci "__eq__" a with
  | false => rw [e] at o; exact ho pins s σ H m c a b x y v u Q I sm ka kb rx ry o
  | true =>
    rw [e] at o
    obtain ⟨hz, o⟩ := Out.guard o
    obtain ⟨p, dx, fs, ex, ea, _⟩ := sm.has ka e hc hn
    subst ex
    obtain rfl : v = Value.ref p := rx
    obtain ⟨mA, Ob, _⟩ := ins_get I.hok ea
    obtain ⟨od, J, _⟩ := Ob.look
    obtain ⟨tb, l1, l2⟩ := second T q hc I sm kb ry hz
    have sp2 := sp
    rw [← q.hK] at sp2 nk
    have r1 := (q.room.mono hj).in1
    have o2 : Out (rE g) g W σ m (liftF (fn [a, b] c.S) c) (fun z H' => ∃ bb, z = .bl bb ∧ Q (.bl (!bb)) H') := by
      cases e2 : fn [a, b] c.S with
      | ok d S' =>
        rw [e2] at o
        cases d <;> first | exact o.elim | skip
        rename_i bb
        intro m' z H' x' s' k'
        cases k'
        exact ⟨bb, rfl, o m' _ H' x' s' (.bl _)⟩
      | exc cn vs S' => rw [e2] at o; exact o
      | stuck => rw [e2] at o; exact o
    refine ne_own r1.units0 (q.room.mono hj).units0 I.kIn J l1 l2 sp2.at_ nk sp2.fn (thn (run_own q F r1 I.env0.in1 I (vs := [.ref p, y]) (us := [.ref p, u]) (.cons rfl (.cons ry .nil)) sm (.cons ka (.cons kb .nil)) o2) fun w s' ⟨z, H', I', rz, bb, ez, qz⟩ => ?_)
    subst ez
    cases rz
    exact ⟨bb, rfl, V.bl (!bb), H', I', rfl, qz⟩
/-- a + b, a * b of two instances -/
def dBinO (ci : Nat) (mn : Str) (fn : Fn) (h : D → D → M D) : D → D → M D := fun a b c => match c.has ci mn a with
  | true => M.guard (c.has ci mn b) (fun c => liftF (fn [a, b] c.S) c) c
  | false => h a b c
theorem mop_bin {op : Operator} (q : Good g k N X sc ws W) (hc : g.cls ci = some (C, ns)) (hmn : mn = PySem.dunder op.info.2) (hn : ns.contains mn = false) (sf : PySem.W.selfFirst g.K C = true) (sp : Spc g.K C mn f) (F : FnC g j f fn) (hj : j ≤ k) {h : D → D → M D} (ho : MOp X g W (binaryOp op) h) : MOp X g W (binaryOp op) (dBinO ci mn fn h) := by
  intro pins s σ H m c a b x y v u Q I sm ka kb rx ry o
  unfold dBinO at o
  cases e : c.has ci mn a with
  | false => rw [e] at o; exact ho pins s σ H m c a b x y v u Q I sm ka kb rx ry o
  | true =>
    rw [e] at o
    obtain ⟨hz, o⟩ := Out.guard o
    obtain ⟨p, dx, fs, ex, ea, _⟩ := sm.has ka e hc hn
    obtain ⟨p2, dx2, fs2, ex2, ea2, _⟩ := sm.has kb hz hc hn
    subst ex ex2
    obtain rfl : v = Value.ref p := rx
    obtain rfl : u = Value.ref p2 := ry
    obtain ⟨mA, Ob, _⟩ := ins_get I.hok ea
    obtain ⟨od, J, _⟩ := Ob.look
    obtain ⟨mB, Ob2, _⟩ := ins_get I.hok ea2
    obtain ⟨od2, J2, _⟩ := Ob2.look
    obtain ⟨mm, fr⟩ := I.fr
    rw [← q.hK] at sp sf
    have at2 := sp.at_
    rw [hmn] at at2
    exact PySem.W.binop_K fr I.ok.mod.kin J J2.type sf at2 sp.fn (thn (run_own q F (q.room.mono hj) I.env0 I (vs := [.ref p, .ref p2]) (us := [.ref p, .ref p2]) (.cons rfl (.cons rfl .nil)) sm (.cons ka (.cons kb .nil)) o) fun w s' ⟨z, H', I', rz, qz⟩ => cmp_back rz ⟨z, H', I', rz, qz⟩)
/-- b in a, a an instance -/
def boolOnly (r : R D) : R D := match r with
  | .ok (.bl b) c => .ok (.bl b) c
  | .exc n vs c => .exc n vs c
  | _ => .stuck
def dInO (ci : Nat) (fn : Fn) (h : D → D → M D) : D → D → M D := fun b a c => match c.has ci "__contains__" a with
  | true => boolOnly (liftF (fn [a, b] c.S) c)
  | false => h b a c
def dNotInO (ci : Nat) (fn : Fn) (h : D → D → M D) : D → D → M D := fun b a c => match c.has ci "__contains__" a with
  | true => negB (liftF (fn [a, b] c.S) c)
  | false => h b a c
theorem mop_in (q : Good g k N X sc ws W) (hc : g.cls ci = some (C, ns)) (hn : ns.contains "__contains__" = false) (sp : Spc g.K C "__contains__" f) (F : FnC g j f fn) (hj : j ≤ k) {h : D → D → M D} (ho : MOp X g W (compareOp .In) h) : MOp X g W (compareOp .In) (dInO ci fn h) := by
  intro pins s σ H m c b a y x u v Q I sm kb ka ry rx o
  unfold dInO at o
  cases e : c.has ci "__contains__" a with
  | false => rw [e] at o; exact ho pins s σ H m c b a y x u v Q I sm kb ka ry rx o
  | true =>
    rw [e] at o
    obtain ⟨p, dx, fs, ex, ea, _⟩ := sm.has ka e hc hn
    subst ex
    obtain rfl : v = Value.ref p := rx
    obtain ⟨mA, Ob, _⟩ := ins_get I.hok ea
    obtain ⟨od, J, _⟩ := Ob.look
    obtain ⟨mm, fr⟩ := I.fr
    rw [← q.hK] at sp
    have o2 : Out (rE g) g W σ m (liftF (fn [a, b] c.S) c) (fun z H' => ∃ bb, z = .bl bb ∧ Q (.bl bb) H') := by
      cases e2 : fn [a, b] c.S with
      | ok d S' =>
        rw [e2] at o
        cases d <;> first | exact o.elim | skip
        rename_i bb
        intro m' z H' x' s' k'
        cases k'
        exact ⟨bb, rfl, o m' _ H' x' s' (.bl _)⟩
      | exc cn vs S' => rw [e2] at o; exact o
      | stuck => rw [e2] at o; exact o
    refine PySem.W.in_K fr I.ok.mod.kin J sp.at_ sp.fn (thn (run_own q F (q.room.mono hj) I.env0 I (vs := [.ref p, y]) (us := [.ref p, u]) (.cons rfl (.cons ry .nil)) sm (.cons ka (.cons kb .nil)) o2) fun w s' ⟨z, H', I', rz, bb, ez, qz⟩ => ?_)
    subst ez
    cases rz
    exact wpAny_truthy_bool ⟨V.bl bb, H', I', rfl, qz⟩
theorem mop_notin (q : Good g k N X sc ws W) (hc : g.cls ci = some (C, ns)) (hn : ns.contains "__contains__" = false) (sp : Spc g.K C "__contains__" f) (F : FnC g j f fn) (hj : j ≤ k) {h : D → D → M D} (ho : MOp X g W (compareOp .NotIn) h) : MOp X g W (compareOp .NotIn) (dNotInO ci fn h) := by
  intro pins s σ H m c b a y x u v Q I sm kb ka ry rx o
  unfold dNotInO at o
  cases e : c.has ci "__contains__" a with
  | false => rw [e] at o; exact ho pins s σ H m c b a y x u v Q I sm kb ka ry rx o
  | true =>
    rw [e] at o
    obtain ⟨p, dx, fs, ex, ea, _⟩ := sm.has ka e hc hn
    subst ex
    obtain rfl : v = Value.ref p := rx
    obtain ⟨mA, Ob, _⟩ := ins_get I.hok ea
    obtain ⟨od, J, _⟩ := Ob.look
    obtain ⟨mm, fr⟩ := I.fr
    rw [← q.hK] at sp
    have o2 : Out (rE g) g W σ m (liftF (fn [a, b] c.S) c) (fun z H' => ∃ bb, z = .bl bb ∧ Q (.bl (!bb)) H') := by
      cases e2 : fn [a, b] c.S with
      | ok d S' =>
        rw [e2] at o
        cases d <;> first | exact o.elim | skip
        rename_i bb
        intro m' z H' x' s' k'
        cases k'
        exact ⟨bb, rfl, o m' _ H' x' s' (.bl _)⟩
      | exc cn vs S' => rw [e2] at o; exact o
      | stuck => rw [e2] at o; exact o
    refine PySem.W.notIn_K fr I.ok.mod.kin J sp.at_ sp.fn (thn (run_own q F (q.room.mono hj) I.env0 I (vs := [.ref p, y]) (us := [.ref p, u]) (.cons rfl (.cons ry .nil)) sm (.cons ka (.cons kb .nil)) o2) fun w s' ⟨z, H', I', rz, bb, ez, qz⟩ => ?_)
    subst ez
    cases rz
    exact wpAny_truthy_bool ⟨V.bl (!bb), H', I', rfl, qz⟩
/-- a[i], a an instance -/
theorem mop_sub (q : Good g k N X sc ws W) (hc : g.cls ci = some (C, ns)) (hn : ns.contains "__getitem__" = false) (sp : Spc g.K C "__getitem__" f) (fi : PySem.W.fnIn g.K f = true) (F : FnC g j f fn) (hj : j + 1 ≤ k) {h : D → D → M D} (vl sl : Expr) (hs : notSlice sl = true) (ho : MOp X g W (fun v u => subscriptTail vl sl v u) h) : MOp X g W (fun v u => subscriptTail vl sl v u) (dOwn ci "__getitem__" fn h) := by
  intro pins s σ H m c a b x y v u Q I sm ka kb rx ry o
  unfold dOwn at o
  cases e : c.has ci "__getitem__" a with
  | false => rw [e] at o; exact ho pins s σ H m c a b x y v u Q I sm ka kb rx ry o
  | true =>
    rw [e] at o
    obtain ⟨p, dx, fs, ex, ea, _⟩ := sm.has ka e hc hn
    subst ex
    obtain rfl : v = Value.ref p := rx
    obtain ⟨mA, Ob, _⟩ := ins_get I.hok ea
    obtain ⟨od, J, _⟩ := Ob.look
    obtain ⟨mm, fr⟩ := I.fr
    rw [← q.hK] at sp fi
    have r1 := (q.room.mono hj).in1
    exact PySem.W.sub_K fr I.ok.mod.kin J sp.at_ fi sp.fn (run_own q F r1 I.env0.in1 I (vs := [.ref p, y]) (us := [.ref p, u]) (.cons rfl (.cons ry .nil)) sm (.cons ka (.cons kb .nil)) o) (by cases sl <;> first | rfl | cases hs)
theorem mop_ix {r : R2} {h : D → D → M D} (ho : IxR X r) (hs2 : S2 g r h) (vl sl : Expr) (hs : notSlice sl = true) : MOp X g W (fun v u => subscriptTail vl sl v u) h := fun pins s σ H m c a b x y v u Q I sm ka kb rx ry o => ho vl sl pins s σ H x y v u Q I rx ry (hs2 W m c σ H a b x y Q sm ka kb o) (plainIx_ok hs _ _)
end
end CL
namespace CL
open PySem PySem.Spec PyProof.Rows L2

/-! ## xs.append(e), del xs[i] -/
def cApp (i : Nat) (fe : M D) : M Fl := fun c => match c.pl i with
  | none => .stuck
  | some _ => (fe c).bind fun d c2 => match c2.pl i with
    | none => .stuck
    | some p => match decide (p.xs.length < sizeLine) with
      | true => .ok .next (c2.wr i p (p.xs ++ [d]))
      | false => .stuck
def cDel (i : Nat) (fi : M D) : M Fl := fun c => match c.pl i with
  | none => .stuck
  | some _ => (fi c).bind fun j c2 => match j, c2.pl i with
    | .int j, some p => match decide (-(2 ^ 63) ≤ j ∧ j < 2 ^ 63), seqIndex? j p.xs.length with
      | true, some n => .ok .next (c2.wr i p (p.xs.eraseIdx n))
      | _, _ => .stuck
    | _, _ => .stuck
section
variable {X : Cx} {g : G} {k : Nat} {N : List Str} {sc ws : Scope} {W : WX} {pos px apos cpos tpos : Pos} {e : Expr} {fe : M D} {i : Nat} {x : Str}
theorem ss_append (q : Good g k N X sc ws W) (hi : N[i]? = some x) (hv : isVis (sc.names.lookup x) = true) (hd : noDbg x = true) (he : PE X e (tE g W fe)) (hs : isStar e = false) (hline : (apos.endLine == cpos.line) = true) :
    PS X (.Expr (.Call (.Attribute (.Name x px) "append" apos) [e] [] cpos) pos) (tS g W (cApp i fe)) := by
  refine ps_imp (ps_expr (pe_bm PySem.F.plainAttrs_list PySem.F.slot_list_append PySem.F.type_list_append mt_append (pe_var (q.at_ hi) (q.vis hv) (noDbg_1 hd) (noDbg_2 hd)) (pa_cons he pa_nil (star_plain hs)) (by rfl)
    (by rw [star_plain hs]; rfl) hline (star_plain hs) (by rfl)) (by rfl)) fun Dn σ H ⟨m, c, s, o⟩ => ?_
  unfold cApp at o
  cases e1 : c.pl i with
  | none => rw [e1] at o; exact o.elim
  | some p =>
    rw [e1] at o
    obtain ⟨a, vs, h1, h2, h3, h4⟩ := s.pl e1
    refine ⟨.ref a, h1, .inl ⟨rfl, _, SqL.of h2⟩, m, c, s, o.bind.imp fun y H2 ⟨m2, d, c2, x2, s2, k2, o2⟩ => ?_⟩
    cases e2 : c2.pl i with
    | none => rw [e2] at o2; exact o2.elim
    | some p2 =>
      rw [e2] at o2
      have o2 : OutS g W m2 (match decide (p2.xs.length < sizeLine) with
        | true => .ok .next (c2.wr i p2 (p2.xs ++ [d]))
        | false => .stuck) Dn := o2
      obtain ⟨a2, vs2, g1, g2, g3, g4⟩ := s2.pl e2
      rw [h1] at g1
      cases g1
      cases z : decide (p2.xs.length < sizeLine) with
      | false => rw [z] at o2; exact o2.elim
      | true =>
        rw [z] at o2
        exact ⟨a, vs2, y, rfl, rfl, g2, by rw [← g3.length]; exact of_decide_eq_true z, o2.nx (g4 _ _ (g3.append (.cons k2 .nil)))⟩
theorem ss_del (q : Good g k N X sc ws W) (hi : N[i]? = some x) (hv : isVis (sc.names.lookup x) = true) (hd : noDbg x = true) (he : PE X e (tE g W fe)) : PS X (.Delete [.Subscript (.Name x px) e tpos] pos) (tS g W (cDel i fe)) := by
  refine ps_imp (ps_delL (pe_var (q.at_ hi) (q.vis hv) (noDbg_1 hd) (noDbg_2 hd)) he) fun Dn σ H ⟨m, c, s, o⟩ => ?_
  unfold cDel at o
  cases e1 : c.pl i with
  | none => rw [e1] at o; exact o.elim
  | some p =>
    rw [e1] at o
    obtain ⟨a, vs, h1, h2, h3, h4⟩ := s.pl e1
    refine ⟨.ref a, h1, m, c, s, o.bind.imp fun y H2 ⟨m2, d, c2, x2, s2, k2, o2⟩ => ?_⟩
    cases k2 with
    | int j =>
      cases e2 : c2.pl i with
      | none =>
        have o3 : OutS g W m2 .stuck Dn := by
          have o2 : OutS g W m2 (match c2.pl i with
            | some p => match decide (-(2 ^ 63) ≤ j ∧ j < 2 ^ 63), seqIndex? j p.xs.length with
              | true, some n => .ok .next (c2.wr i p (p.xs.eraseIdx n))
              | _, _ => .stuck
            | none => .stuck) Dn := by
              cases e3 : c2.pl i with
              | none => rw [e3] at o2; exact o2
              | some p3 => rw [e3] at o2; exact o2
          rw [e2] at o2
          exact o2
        exact o3.elim
      | some p2 =>
        have o2 : OutS g W m2 (match decide (-(2 ^ 63) ≤ j ∧ j < 2 ^ 63), seqIndex? j p2.xs.length with
              | true, some n => .ok .next (c2.wr i p2 (p2.xs.eraseIdx n))
              | _, _ => .stuck) Dn := by
          rw [e2] at o2
          exact o2
        obtain ⟨a2, vs2, g1, g2, g3, g4⟩ := s2.pl e2
        rw [h1] at g1
        cases g1
        cases z : decide (-(2 ^ 63) ≤ j ∧ j < 2 ^ 63) with
        | false => rw [z] at o2; exact o2.elim
        | true =>
          rw [z] at o2
          cases z2 : seqIndex? j p2.xs.length with
          | none => rw [z2] at o2; exact o2.elim
          | some n =>
            rw [z2] at o2
            have z := of_decide_eq_true z
            exact ⟨a, vs2, j, n, rfl, rfl, g2, z.1, z.2, by rw [← g3.length]; exact z2, o2.nx (g4 _ _ (g3.eraseIdx n))⟩
    | _ => exact o2.elim

/-! ## a, b = e -/
def cSetTp (is : List Nat) (fe : M D) : M Fl := fun c => (fe c).bind fun d c1 => match d with
  | .tup ds => match decide (ds.length = is.length) with
    | true => .ok .next (putAll is ds c1)
    | false => .stuck
  | .lst ds => match decide (ds.length = is.length) with
    | true => .ok .next (putAll is ds c1)
    | false => .stuck
  | _ => .stuck
/-- a list's items, or a tuple's -/
def gTA (g : G) (is : List Nat) : TG := fun v σ H Q => ∃ a xs, v = V.ref a ∧ (SqT g.K H a xs ∨ SqL g.K H a xs) ∧ xs.length = is.length ∧ Q (setAll is xs σ) H
theorem pg_tupA (q : Good g k N X sc ws W) {es : List Expr} {is : List Nat} {j : Nat} (h : tgNames N ws es is = true) : PG X (.Tuple es j pos) (gTA g is) := by
  obtain ⟨r1, r2, r3⟩ := pgs_all q es is h
  refine ⟨fun pins s σ H v u Q I r hq => ?_⟩
  obtain ⟨a, xs, e, hs, hl, hq⟩ := hq
  rw [← q.hK] at hs
  rcases hs with hs | hs
  · exact (pg_tup (n := is.length) q.calm r1 r2 r3).run pins s σ H v u Q I r ⟨a, xs, e, hs, hl, hl, hq⟩
  · exact (pg_lst (n := is.length) q.calm r1 r2 r3).run pins s σ H v u Q I r ⟨a, xs, e, hs, hl, hl, hq⟩
theorem ss_setTp (q : Good g k N X sc ws W) {es : List Expr} {is : List Nat} {j : Nat} (h : tgNames N ws es is = true) (he : PE X e (tE g W fe)) (h1 : swapsWithSole [.Tuple es j tpos] e pos.line X.env = pure false) (h2 : swappedStores [.Tuple es j tpos] e X.env = pure none) :
    PS X (.Assign [.Tuple es j tpos] e pos) (tS g W (cSetTp is fe)) := by
  refine ps_imp (ps_asg he (pg_tupA q h) h1 h2 (by rfl)) fun Dn σ H ⟨m, c, s, o⟩ => ⟨m, c, s, o.bind.imp fun v H1 ⟨m1, d, c1, x1, s1, k1, o1⟩ => ?_⟩
  cases k1 with
  | @tup a ds vs h1 h2 =>
    have o1 : OutS g W m1 (match decide (ds.length = is.length) with
      | true => .ok .next (putAll is ds c1)
      | false => .stuck) Dn := o1
    cases hd : decide (ds.length = is.length) with
    | false => rw [hd] at o1; exact o1.elim
    | true =>
      rw [hd] at o1
      exact ⟨a, vs, rfl, .inl (s1.sqT h1), by rw [← h2.length]; exact of_decide_eq_true hd, o1.nx (s1.putAll is h2)⟩
  | @lst a ds vs h1 h2 =>
    have o1 : OutS g W m1 (match decide (ds.length = is.length) with
      | true => .ok .next (putAll is ds c1)
      | false => .stuck) Dn := o1
    cases hd : decide (ds.length = is.length) with
    | false => rw [hd] at o1; exact o1.elim
    | true =>
      rw [hd] at o1
      exact ⟨a, vs, rfl, .inr (SqL.of (s1.fr _ _ h1)), by rw [← h2.length]; exact of_decide_eq_true hd, o1.nx (s1.putAll is h2)⟩
  | _ => exact o1.elim
end
end CL
namespace CL
open PySem PySem.Spec PyProof.Rows L2
section
variable {X : Cx} {g : G} {k : Nat} {N : List Str} {sc ws : Scope} {W : WX} {pos p2 : Pos} {e : Expr} {fe : M D} {lo hi : Option Expr} {fl fh : M (Option Int)} {op : Operator}
theorem mq {f : Value → Value → Sem Value} {r : PySem.W.Frag → R2} {h : D → D → M D} (q : Good g k N X sc ws W) (ho : OpR X f (r X.K)) (hs : S2 g (r g.K) h) : MOp X g W f h := by
  rw [q.hK] at ho
  exact mop_of ho hs
theorem mq_add (q : Good g k N X sc ws W) : MOp X g W (binaryOp .Add) dAdd := mq (r := rAdd3) q op_add3 s2_add
theorem mq_sub (q : Good g k N X sc ws W) : MOp X g W (binaryOp .Sub) dSub := mq (r := fun _ => _) q op_sub s2_sub
theorem mq_eq (q : Good g k N X sc ws W) : MOp X g W (compareOp .Eq) dEq := mq (r := rEqD) q (op_eqD (by have := q.room.un; omega)) s2_eq
theorem mq_ne (q : Good g k N X sc ws W) : MOp X g W (compareOp .NotEq) dNe := mq (r := rNeD) q (op_neD (by have := q.room.un; omega)) s2_ne
theorem mq_in (q : Good g k N X sc ws W) : MOp X g W (compareOp .In) (dIn false) := mq (r := fun K => rInA K false) q (op_inA (by have := q.room.un; omega)) s2_in
theorem mq_notin (q : Good g k N X sc ws W) : MOp X g W (compareOp .NotIn) (dIn true) := mq (r := fun K => rInA K true) q (op_notInA (by have := q.room.un; omega)) s2_in
theorem mq_ix (q : Good g k N X sc ws W) (vl sl : Expr) (hs : notSlice sl = true) : MOp X g W (fun v u => subscriptTail vl sl v u) dIx := by
  have h := ix_seq (X := X)
  rw [q.hK] at h
  exact mop_ix h s2_ix vl sl hs
/-- -e -/
def dNeg (d : D) : M D := fun c => match d with
  | .int i => .ok (.int (-i)) c
  | _ => .stuck
theorem sx_neg (he : PE X e (tE g W fe)) : PE X (.UnaryOp .USub e pos) (tE g W (fe.bind dNeg)) := by
  refine pe_imp (pe_un un_neg he) fun σ H Q ⟨m, c, s, o⟩ => ⟨m, c, s, o.bind.imp fun v H1 ⟨m1, d, c1, x1, s1, k1, o1⟩ => ?_⟩
  cases k1 with
  | int i => exact ⟨i, rfl, o1.here s1 (.int _)⟩
  | _ => exact o1.elim
theorem sq_cutT (q : Good g k N X sc ws W) (he : PE X e (tE g W fe)) (hl : PO X lo (tP g W fl)) (hu : PO X hi (tP g W fh)) : PE X (.Subscript e (.Slice lo hi none p2) pos) (tE g W (cCutT fe fl fh)) := se_cutT q.hK he hl hu
theorem sq_cutL (q : Good g k N X sc ws W) (he : PE X e (tE g W fe)) (hl : PO X lo (tP g W fl)) (hu : PO X hi (tP g W fh)) : PE X (.Subscript e (.Slice lo hi none p2) pos) (tL g W (cCutL fe fl fh)) := sl_cut q.hK he hl hu
end
end CL
namespace CL
open PySem PySem.Spec PyProof.Rows L2

/-! ## a slot's list is looked at, not handed on -/
def CS.see (c : CS) (i : Nat) : Option (List D) := match c.sl[i]? with
  | some (.own (.lst xs)) => some xs
  | some (.val d) => c.seqL d
  | _ => none
theorem Sim.see {g : G} {m : Mp} {c : CS} {σ : L2.St} {H : Hp} (s : Sim g m c σ H) {i : Nat} {xs : List D} (e : c.see i = some xs) : ∃ a vs, σ[i]? = some (some (.ref a)) ∧ H a = some (.lst vs) ∧ Svs g m xs vs := by
  unfold CS.see at e
  cases q : c.sl[i]? with
  | none => rw [q] at e; cases e
  | some t =>
    rw [q] at e
    cases t with
    | no => cases e
    | own o =>
      cases o with
      | ins _ _ => cases e
      | lst ys =>
        cases e
        obtain ⟨h1, ⟨vs, h2, h3⟩, _⟩ := s.sl i _ q
        exact ⟨_, vs, h1, h2, h3⟩
    | val d =>
      obtain ⟨v, h1, h2⟩ := s.sl i _ q
      obtain ⟨p, vs, rfl, hp, hv⟩ := s.seqL e h2
      exact ⟨p, vs, h1, hp, hv⟩
def cLenP (i : Nat) : M D := fun c => match c.see i with
  | some xs => .ok (.int xs.length) c
  | none => .stuck
def cIxP (i : Nat) (fe : M D) : M D := fun c => match c.see i with
  | some _ => (fe c).bind fun j c2 => match j, c2.see i with
    | .int j, some xs => match atI xs j with
      | some d => .ok d c2
      | none => .stuck
    | _, _ => .stuck
  | none => .stuck
def cEqP (ne : Bool) (i : Nat) (fe : M D) : M D := fun c => match c.see i with
  | some _ => (fe c).bind fun y c2 => match c2.see i with
    | some xs => match toPs xs, toP y with
      | some ps, some q => M.guard (SeqAt.shaped (.list ps) && SeqAt.shaped q) (M.ret (.bl (if ne then !PyData.eqv (.list ps) q else PyData.eqv (.list ps) q))) c2
      | _, _ => .stuck
    | none => .stuck
  | none => .stuck
section
variable {X : Cx} {g : G} {k : Nat} {N : List Str} {sc ws : Scope} {W : WX} {p px pos : Pos} {x : Str} {e : Expr} {fe : M D} {i : Nat}
theorem sx_lenP (q : Good g k N X sc ws W) (hg : isGl sc "len" = true) (hm : g.mg "len" = none) (hi : N[i]? = some x) (hv : isVis (sc.names.lookup x) = true) (hd : noDbg x = true) : PE X (.Call (.Name "len" p) [.Name x px] [] pos) (tE g W (cLenP i)) := by
  refine pe_imp (pe_callB call_len_seq (q.gl hg).1 (by rw [q.hmg]; exact hm) (by rfl) (pa_cons (pe_var (q.at_ hi) (q.vis hv) (noDbg_1 hd) (noDbg_2 hd)) pa_nil (by rfl)) (q.gl hg).2.2 (q.gl hg).2.1 (by rfl) (by rfl)) fun σ H Q ⟨m, c, s, o⟩ => ?_
  unfold cLenP at o
  cases e1 : c.see i with
  | none => rw [e1] at o; exact o.elim
  | some xs =>
    rw [e1] at o
    obtain ⟨a, vs, h1, h2, h3⟩ := s.see e1
    refine ⟨.ref a, h1, a, vs, rfl, .inl (SqL.of h2), ?_⟩
    rw [← h3.length]
    exact o.here s (.int _)
theorem sx_ixP (q : Good g k N X sc ws W) (hi : N[i]? = some x) (hv : isVis (sc.names.lookup x) = true) (hd : noDbg x = true) (he : PE X e (tE g W fe)) (hs : notSlice e = true) : PE X (.Subscript (.Name x px) e pos) (tE g W (cIxP i fe)) := by
  refine pe_imp (pe_ix ix_list (pe_var (q.at_ hi) (q.vis hv) (noDbg_1 hd) (noDbg_2 hd)) he (plainIx_ok hs)) fun σ H Q ⟨m, c, s, o⟩ => ?_
  unfold cIxP at o
  cases e1 : c.see i with
  | none => rw [e1] at o; exact o.elim
  | some xs =>
    rw [e1] at o
    obtain ⟨a, vs, h1, h2, h3⟩ := s.see e1
    refine ⟨.ref a, h1, m, c, s, o.bind.imp fun y H2 ⟨m2, j, c2, x2, s2, k2, o2⟩ => ?_⟩
    cases k2 with
    | int j =>
      cases e2 : c2.see i with
      | none =>
        have o3 : Out (rE g) g W σ m2 (.stuck : R D) Q := by
          have o2 : Out (rE g) g W σ m2 (match c2.see i with
            | some xs => match atI xs j with
              | some d => .ok d c2
              | none => .stuck
            | none => .stuck) Q := by
              cases e3 : c2.see i with
              | none => rw [e3] at o2; exact o2
              | some p3 => rw [e3] at o2; exact o2
          rw [e2] at o2
          exact o2
        exact o3.elim
      | some ys =>
        have o2 : Out (rE g) g W σ m2 (match atI ys j with
          | some d => .ok d c2
          | none => .stuck) Q := by
            rw [e2] at o2
            exact o2
        obtain ⟨a2, vs2, g1, g2, g3⟩ := s2.see e2
        rw [h1] at g1
        cases g1
        cases e3 : atI ys j with
        | none => rw [e3] at o2; exact o2.elim
        | some d =>
          rw [e3] at o2
          obtain ⟨v, z1, z2⟩ := g3.atI e3
          exact ⟨a, vs2, j, v, rfl, rfl, SqL.of g2, z1, o2.here s2 z2⟩
    | _ => exact o2.elim
theorem eqP_read (q : Good g k N X sc ws W) {ne : Bool} (f : PyData → PyData → Bool) (hf : ∀ p q, f p q = if ne then !PyData.eqv p q else PyData.eqv p q) {a0 : TE} (ha : ∀ σ H Q, (∃ v, σ[i]? = some (some v) ∧ Q v H) → a0 σ H Q) {σ : L2.St} {H : Hp} {Q : VK} (z : tE g W (cEqP ne i fe) σ H Q) :
    tOp (fun x y H Q => ∃ d e, Dp X.K H x d ∧ Dp X.K H y e ∧ SeqAt.shaped d = true ∧ SeqAt.shaped e = true ∧ Q (.bl (f d e)) H) a0 (tE g W fe) σ H Q := by
  obtain ⟨m, c, s, o⟩ := z
  unfold cEqP at o
  cases e1 : c.see i with
  | none => rw [e1] at o; exact o.elim
  | some xs =>
    rw [e1] at o
    obtain ⟨a, vs, h1, h2, h3⟩ := s.see e1
    refine ha _ _ _ ⟨.ref a, h1, m, c, s, o.bind.imp fun y H2 ⟨m2, d, c2, x2, s2, k2, o2⟩ => ?_⟩
    cases e2 : c2.see i with
    | none => rw [e2] at o2; exact o2.elim
    | some ys =>
      rw [e2] at o2
      obtain ⟨a2, vs2, g1, g2, g3⟩ := s2.see e2
      rw [h1] at g1
      cases g1
      have o2 : Out (rE g) g W σ m2 (match toPs ys, toP d with
        | some ps, some q => M.guard (SeqAt.shaped (.list ps) && SeqAt.shaped q) (M.ret (.bl (if ne then !PyData.eqv (.list ps) q else PyData.eqv (.list ps) q))) c2
        | _, _ => .stuck) Q := o2
      cases e3 : toPs ys with
      | none => rw [e3] at o2; exact o2.elim
      | some ps =>
        cases e4 : toP d with
        | none => rw [e3, e4] at o2; exact o2.elim
        | some pq =>
          rw [e3, e4] at o2
          obtain ⟨hz, o2⟩ := Out.guard o2
          rw [Bool.and_eq_true] at hz
          rw [q.hK]
          exact ⟨.list ps, pq, .lst (SqL.of g2) (s2.dps g3 e3), s2.dp k2 e4, hz.1, hz.2, by rw [hf]; exact o2.here s2 (.bl _)⟩
theorem sx_eqP (q : Good g k N X sc ws W) (hi : N[i]? = some x) (hv : isVis (sc.names.lookup x) = true) (hd : noDbg x = true) (he : PE X e (tE g W fe)) (hs : notSet e = true) : PE X (.Compare (.Name x px) [.Eq] [e] pos) (tE g W (cEqP false i fe)) :=
  pe_imp (pe_cmpR (op_eqD (by have := q.room.un; omega)) (pe_var (q.at_ hi) (q.vis hv) (noDbg_1 hd) (noDbg_2 hd)) he (marks_ok hs)) fun σ H Q z => eqP_read q _ (fun _ _ => rfl) (fun _ _ _ h => h) z
theorem sx_neP (q : Good g k N X sc ws W) (hi : N[i]? = some x) (hv : isVis (sc.names.lookup x) = true) (hd : noDbg x = true) (he : PE X e (tE g W fe)) (hs : notSet e = true) : PE X (.Compare (.Name x px) [.NotEq] [e] pos) (tE g W (cEqP true i fe)) :=
  pe_imp (pe_cmpR (op_neD (by have := q.room.un; omega)) (pe_var (q.at_ hi) (q.vis hv) (noDbg_1 hd) (noDbg_2 hd)) he (marks_ok hs)) fun σ H Q z => eqP_read q _ (fun _ _ => rfl) (fun _ _ _ h => h) z
/-- a bool as a test -/
theorem sx_boolT (h : PE X e (tE g W fe)) (hp : plainTest e = true) (q : Good g k N X sc ws W) : PT X e (tT g W (cTru fe)) := st_tru q.hK h hp
/-- a comparison as a test, from its value -/
theorem sx_eqPT (q : Good g k N X sc ws W) (hi : N[i]? = some x) (hv : isVis (sc.names.lookup x) = true) (hd : noDbg x = true) (he : PE X e (tE g W fe)) (hs : notSet e = true) : PT X (.Compare (.Name x px) [.Eq] [e] pos) (tT g W (asB (cEqP false i fe))) := by
  refine pt_imp (pt_cmpR (op_eqD (by have := q.room.un; omega)) (pe_var (q.at_ hi) (q.vis hv) (noDbg_1 hd) (noDbg_2 hd)) he (marks_ok hs)) fun σ H Q ⟨m, c, s, o⟩ => eqP_read (W := W) q _ (fun _ _ => rfl) (fun _ _ _ h => h) ⟨m, c, s, o.bind.imp fun x H1 ⟨m1, d, c1, x1, s1, k1, o1⟩ => ?_⟩
  cases k1 with
  | bl b => exact ⟨b, rfl, o1.here s1 rfl⟩
  | _ => exact o1.elim
theorem sx_nePT (q : Good g k N X sc ws W) (hi : N[i]? = some x) (hv : isVis (sc.names.lookup x) = true) (hd : noDbg x = true) (he : PE X e (tE g W fe)) (hs : notSet e = true) : PT X (.Compare (.Name x px) [.NotEq] [e] pos) (tT g W (asB (cEqP true i fe))) := by
  refine pt_imp (pt_cmpR (op_neD (by have := q.room.un; omega)) (pe_var (q.at_ hi) (q.vis hv) (noDbg_1 hd) (noDbg_2 hd)) he (marks_ok hs)) fun σ H Q ⟨m, c, s, o⟩ => eqP_read (W := W) q _ (fun _ _ => rfl) (fun _ _ _ h => h) ⟨m, c, s, o.bind.imp fun x H1 ⟨m1, d, c1, x1, s1, k1, o1⟩ => ?_⟩
  cases k1 with
  | bl b => exact ⟨b, rfl, o1.here s1 rfl⟩
  | _ => exact o1.elim
/-! ## a comprehension's scope -/
def blkB (N : List Str) (sc scope : Scope) (own : List (Str × Nat)) : Bool :=
  decide (scope.kind = .function) && scope.names.all (fun y => decide (scope.names.lookup y.1 = some y.2)) && own.all (fun p => decide (N[p.2]? = some p.1)) &&
    scope.names.all (fun y => !decide (y.2 = .free) || (decide (sc.names.lookup y.1 = some .cell) || decide (sc.names.lookup y.1 = some .free))) &&
    scope.names.all (fun y => !(decide (y.2 = .local) || decide (y.2 = .cell)) || (decide (y.1 ∈ own.map (·.1)) || decide (y.1 ∉ N)))
theorem blk_of (q : Good g k N X sc ws W) {scope : Scope} {own : List (Str × Nat)} (h : blkB N sc scope own = true) : BlkOk X.N X.env.scope scope own := by
  unfold blkB at h
  simp only [Bool.and_eq_true, List.all_eq_true, Bool.or_eq_true, decide_eq_true_eq, Bool.not_eq_true', decide_eq_false_iff_not] at h
  obtain ⟨⟨⟨⟨h1, h2⟩, h3⟩, h4⟩, h5⟩ := h
  rw [q.hN, q.hsc]
  refine ⟨h1, h2, h3, fun y hy e => ?_, fun y hy e => ?_⟩
  · rcases h4 y hy with z | z
    · exact absurd e z
    · exact z
  · rcases h5 y hy with z | z
    · rcases e with e | e
      · rw [e] at z; simp at z
      · rw [e] at z; simp at z
    · exact z
end
end CL
namespace CL
open PySem PySem.Spec PyProof.Rows L2
def swB (sc scope : Scope) (y : Str) (l l' : Nat) : Bool := decide (sc.kind = .function) && decide (sc.names.lookup y = some .local) && decide (l = l') && !(scope.names.any fun (n, k) => n == y && (k == .local || k == .cell))
theorem swaps_lc {g : G} {k : Nat} {N : List Str} {X : Cx} {sc ws : Scope} {W : WX} (q : Good g k N X sc ws W) {elt : Expr} {gens : List Comprehension} {scope : Scope} {y : Str} {pos p : Pos} {l : Nat} (h : swB sc scope y p.line pos.line = true) : swapsWith (.ListComp elt gens scope pos) (some (.Name y p)) l X.env = pure true := by
  unfold swB at h
  simp only [Bool.and_eq_true, decide_eq_true_eq] at h
  obtain ⟨⟨⟨h1, h2⟩, h3⟩, h4⟩ := h
  have e1 : (X.env.blockKind == .function) = true := by
    unfold Env.blockKind
    rw [q.hsc, h1]
    rfl
  have e2 : (X.env.kindOf y == some .local) = true := by
    show (X.env.scope.names.lookup y == some .local) = true
    rw [q.hsc, h2]
    rfl
  have e3 : (p.line == (Expr.ListComp elt gens scope pos).pos.line) = true := beq_iff_eq.mpr h3
  show (pure (X.env.blockKind == .function && X.env.kindOf y == some .local && p.line == (Expr.ListComp elt gens scope pos).pos.line && !(scope.names.any fun (n, k) => n == y && (k == .local || k == .cell))) : Sem Bool) = pure true
  rw [e1, e2, e3, h4]
  rfl
end CL
namespace CL
open PySem PySem.Spec PyProof.Rows L2
section
variable {X : Cx} {g : G} {k : Nat} {N : List Str} {sc ws : Scope} {W : WX} {p pos : Pos} {e : Expr} {es : List Expr} {fa : M (List D)}
theorem sq_len (q : Good g k N X sc ws W) (hg : isGl sc "len" = true) (hm : g.mg "len" = none) (ha : PA X (e :: es) (tA g W fa)) (hp : plainArgs (e :: es) = true) : PE X (.Call (.Name "len" p) (e :: es) [] pos) (tE g W (fa.bind bLen)) := by
  have h := call_len (X := X)
  rw [q.hK] at h
  exact sq_B q h sc_len hg hm (by rfl) ha hp
theorem sq_list (q : Good g k N X sc ws W) (hg : isGl sc "list" = true) (hm : g.mg "list" = none) (ha : PA X (e :: es) (tA g W fa)) (hp : plainArgs (e :: es) = true) : PE X (.Call (.Name "list" p) (e :: es) [] pos) (tL g W (fa.bind bList)) := by
  have h := call_list_of (X := X)
  rw [q.hK] at h
  exact sq_Ty q h sc_list hg hm (by rfl) ha hp
theorem sq_tuple (q : Good g k N X sc ws W) (hg : isGl sc "tuple" = true) (hm : g.mg "tuple" = none) (ha : PA X (e :: es) (tA g W fa)) (hp : plainArgs (e :: es) = true) : PE X (.Call (.Name "tuple" p) (e :: es) [] pos) (tE g W (fa.bind bTuple)) := by
  have h := call_tuple_of (X := X)
  rw [q.hK] at h
  exact sq_Ty q h sc_tuple hg hm (by rfl) ha hp
theorem sq_sorted (q : Good g k N X sc ws W) (hg : isGl sc "sorted" = true) (hm : g.mg "sorted" = none) (ha : PA X (e :: es) (tA g W fa)) (hp : plainArgs (e :: es) = true) : PE X (.Call (.Name "sorted" p) (e :: es) [] pos) (tL g W (fa.bind bSorted)) := by
  have h := cr_sortedI (X := X)
  rw [q.hK] at h
  exact sq_B q h sc_sorted hg hm (by rfl) ha hp
theorem sq_any (q : Good g k N X sc ws W) (hg : isGl sc "any" = true) (hm : g.mg "any" = none) (ha : PA X (e :: es) (tA g W fa)) (hp : plainArgs (e :: es) = true) : PE X (.Call (.Name "any" p) (e :: es) [] pos) (tE g W (fa.bind bAny)) := by
  have h := cr_any (X := X) q.calm
  rw [q.hK] at h
  exact sq_B q h sc_any hg hm (by rfl) ha hp
theorem sq_all (q : Good g k N X sc ws W) (hg : isGl sc "all" = true) (hm : g.mg "all" = none) (ha : PA X (e :: es) (tA g W fa)) (hp : plainArgs (e :: es) = true) : PE X (.Call (.Name "all" p) (e :: es) [] pos) (tE g W (fa.bind bAll)) := by
  have h := cr_all (X := X) q.calm
  rw [q.hK] at h
  exact sq_B q h sc_all hg hm (by rfl) ha hp
theorem sq_str (q : Good g k N X sc ws W) (hg : isGl sc "str" = true) (hm : g.mg "str" = none) (ha : PA X (e :: es) (tA g W fa)) (hp : plainArgs (e :: es) = true) : PE X (.Call (.Name "str" p) (e :: es) [] pos) (tE g W (fa.bind bStr)) := sq_Ty q call_str_int sc_str hg hm (by rfl) ha hp
end
end CL
namespace CL
open PySem PySem.Spec PyProof.Rows L2
theorem fn_cOk {g : G} {x qual : Str} {st : Stmt} {f : Addr} {fd : FuncData} {N ps : List Str} {k : Nat} {fb : M Fl} (F : L2.Fun g.K x qual st f fd) (S : FnScope N ps (defScope st))
    (h : ∀ (X : Cx) (W : WX), Good g k N X (defScope st) (defScope st) W → PSs X (defBody st) (tS g W fb)) : FnOk g.prog g.w g.K g.mg g.base (L2.CX g.prog g.w) (k + 1) f fd ps (spOf g (fnB N.length ps.length fb)) := by
  refine F.okX S (fun vs H Q E hs => ?_) (fun cdv A outer s H vs Q E hr hs => ?_)
  · obtain ⟨m, S', ds, sm, hv, o⟩ := hs
    unfold fnB at o
    cases e : decide (ds.length = ps.length) with
    | false => rw [e] at o; exact o.elim
    | true => rw [← hv.length]; exact of_decide_eq_true e
  · obtain ⟨m, S', ds, sm, hv, o⟩ := hs
    unfold fnB at o
    cases e : decide (ds.length = ps.length) with
    | false => rw [e] at o; exact o.elim
    | true =>
      rw [e] at o
      exact ⟨_, h _ _ (good_of S hr), m, _, sm.start hv, outS_F (S := S') (fun _ _ _ _ h => h) o⟩
/-- what a law promises; T: the tables of its code objects -/
def spLawT (K : PySem.W.Frag) (T : List (Addr × Str)) : Sp := fun vs H Q _ => ∃ (a : Addr) (ns : List Int), vs = [V.ref a] ∧ SqL K H a (ns.map V.int) ∧ ns.length ≤ 63 ∧ (∀ p ∈ T, H p.1 = some (.tbl #[])) ∧ ∀ H', Q (.bl true) H'
abbrev spLaw (K : PySem.W.Frag) : Sp := spLawT K []
/-- all but the tables -/
def unT (H : Hp) : Hp := fun b => match H b with
  | some (.tbl _) => none
  | o => o
theorem unT_le {H : Hp} {a : Addr} {o : HO} (h : unT H a = some o) : H a = some o := by
  unfold unT at h
  cases e : H a with
  | none => rw [e] at h; cases h
  | some u =>
    rw [e] at h
    cases u <;> first | exact h | cases h
theorem unT_noT {H : Hp} : NoT (unT H) := fun a ps h => by
  unfold unT at h
  cases e : H a with
  | none => rw [e] at h; cases h
  | some u =>
    rw [e] at h
    cases u <;> cases h
theorem unT_of {H : Hp} {a : Addr} {o : HO} (h : H a = some o) (n : ∀ ps, o ≠ .tbl ps) : unT H a = some o := by
  unfold unT
  rw [h]
  cases o <;> first | rfl | exact absurd rfl (n _)
theorem sqL_unT {K : PySem.W.Frag} {H : Hp} {a : Addr} {xs : List V} (h : SqL K H a xs) : SqL K (unT H) a xs := by
  rcases h with h | h
  · refine Or.inl ?_
    rcases h with h | ⟨o, h⟩
    · exact Or.inl (unT_of h fun ps z => nomatch z)
    · exact Or.inr ⟨o, unT_of h fun ps z => nomatch z⟩
  · exact Or.inr h
theorem law_end {g : G} {fn : Fn} (hm : ∀ ns : List Int, ns.length ≤ 63 → ∃ S, fn [.scr ns] [] = .ok (.bl true) S) (vs : List V) (H : Hp) (Q : VK) (E : XK) (h : spLawT g.K g.T vs H Q E) : spOf g fn vs H Q E := by
  obtain ⟨a, ns, rfl, hS, hl, hT, q⟩ := h
  obtain ⟨S, e⟩ := hm ns hl
  refine ⟨⟨[], unT H, fun _ => none, fun _ => 0, 0⟩, [], [.scr ns], ⟨fun _ _ h => unT_le h, List.nodup_nil, ⟨unT_noT, fun p hp => ⟨#[], hT p hp, True.intro, fun pos cv hc => ?_⟩⟩, rfl, iniOk_nil, rfl, fun n a o h1 h2 => ?_, fun a o h => ?_, fun i s h => ?_⟩, .cons (.scr (sqL_unT hS)) .nil, ?_⟩
  · have z : codeAmong pos [] = some cv := hc
    simp [codeAmong] at z
  · have h1 : ([] : List Addr)[n]? = some a := h1
    simp at h1
  · cases h
  · have h : ([] : List Sl)[i]? = some s := h
    simp at h
  · rw [e]
    intro m' v H' _ _ k
    cases k
    exact q H'
/-- one class, no own exceptions -/
def clsOne (C : Addr) (ns : List Str) : Nat → Option (Addr × List Str)
  | 0 => some (C, ns)
  | _ => none
theorem kit_ct {K : PySem.W.Frag} {C : Addr} {T : String} (hm : PySem.W.kitMeta T = true) (h : PySem.W.subIn K (.ref C) (.type T) = some false) : PySem.W.kitOne K (.ref C) (.type T) = some false := by
  unfold PySem.W.kitOne
  rw [if_neg (by simp)]
  unfold PySem.W.kitCls
  dsimp only
  rw [if_pos hm]
  exact h
theorem kit_tc {K : PySem.W.Frag} {C : Addr} {T : String} (h1 : PySem.W.isClsIn K C = true) (h2 : PySem.W.typeIn K (.ref C) = some (.type "type")) (h : PySem.W.subIn K (.type T) (.ref C) = some false) : PySem.W.kitOne K (.type T) (.ref C) = some false := by
  unfold PySem.W.kitOne
  rw [if_neg (by simp)]
  unfold PySem.W.kitCls
  dsimp only
  have e : (PySem.W.clsIn K C).isSome = true := h1
  rw [e, h2]
  rw [if_pos (by decide)]
  exact h
theorem kit_same {K : PySem.W.Frag} {C : Addr} : PySem.W.kitOne K (.ref C) (.ref C) = some true := by
  unfold PySem.W.kitOne
  rw [if_pos (by simp)]
structure OneK (K : PySem.W.Frag) (C : Addr) : Prop where
  ha : PySem.W.findIn K (.ref C) "__class__" = some (some (.builtin "object.__class__"))
  hn : PySem.W.specialIn K (.builtin "object.__class__") "__get__" = some (some (.builtin "getset_descriptor.__get__"))
  ht : PySem.W.takesIn K (.builtin "object.__class__") = some true
  hm : PySem.W.mroIn K C (.type "object") = some true
  i1 : PySem.W.subIn K (.ref C) (.type "bool") = some false
  i2 : PySem.W.subIn K (.ref C) (.type "int") = some false
  i3 : PySem.W.subIn K (.ref C) (.type "str") = some false
  i4 : PySem.W.subIn K (.ref C) (.type "tuple") = some false
  i5 : PySem.W.subIn K (.ref C) (.type "list") = some false
  kc : PySem.W.isClsIn K C = true
  kt : PySem.W.typeIn K (.ref C) = some (.type "type")
  j0 : PySem.W.subIn K (.type "NoneType") (.ref C) = some false
  j1 : PySem.W.subIn K (.type "bool") (.ref C) = some false
  j2 : PySem.W.subIn K (.type "int") (.ref C) = some false
  j3 : PySem.W.subIn K (.type "str") (.ref C) = some false
  j4 : PySem.W.subIn K (.type "tuple") (.ref C) = some false
  j5 : PySem.W.subIn K (.type "list") (.ref C) = some false
theorem tab_one {g : G} {C : Addr} {ns : List Str} (hg : g.cls = clsOne C ns) (kc : Cls g.K C) (na : ∀ f ∈ ns, NoAttr g.K C f) (o : OneK g.K C) : TabK g := by
  refine ⟨fun ci C' ns' h => ?_, fun i j C1 C2 n1 n2 h1 h2 => ?_⟩
  · rw [hg] at h
    cases ci with
    | succ _ => cases h
    | zero =>
      cases h
      refine ⟨kc, na, o.ha, o.hn, o.ht, o.hm, fun t h => ?_, fun t => ?_⟩
      · cases t with
        | non => exact absurd rfl h
        | bl => exact kit_ct (by decide +kernel) o.i1
        | int => exact kit_ct (by decide +kernel) o.i2
        | str => exact kit_ct (by decide +kernel) o.i3
        | tup => exact kit_ct (by decide +kernel) o.i4
        | lst => exact kit_ct (by decide +kernel) o.i5
      · cases t with
        | non => exact kit_tc o.kc o.kt o.j0
        | bl => exact kit_tc o.kc o.kt o.j1
        | int => exact kit_tc o.kc o.kt o.j2
        | str => exact kit_tc o.kc o.kt o.j3
        | tup => exact kit_tc o.kc o.kt o.j4
        | lst => exact kit_tc o.kc o.kt o.j5
  · rw [hg] at h1 h2
    cases i with
    | succ _ => cases h1
    | zero =>
      cases j with
      | succ _ => cases h2
      | zero =>
        cases h1
        cases h2
        exact kit_same
theorem cx_none {P : Program} {w : World} (H : Hp) (s : Shared) (e : Value) (s' : Shared) (h : L2.CX P w [] H s (fun _ _ _ => False) e s') : False := by
  obtain ⟨_, _, _, _, _, _, _, _, _, _, _, _, z⟩ := h
  exact z
end CL
namespace CL
open PySem PySem.Spec PyProof.Rows L2

/-! ## zip -/
def zipD (xs ys : List D) : List D := (xs.zip ys).map fun p => .tup [p.1, p.2]
theorem zipD_at {xs ys : List D} {i : Nat} {d : D} (h : (zipD xs ys)[i]? = some d) : ∃ x y, xs[i]? = some x ∧ ys[i]? = some y ∧ d = .tup [x, y] := by
  unfold zipD at h
  rw [List.getElem?_map, Option.map_eq_some_iff] at h
  obtain ⟨⟨x, y⟩, h1, h2⟩ := h
  rw [List.getElem?_zip_eq_some] at h1
  exact ⟨x, y, h1.1, h1.2, h2.symm⟩
theorem zipD_length (xs ys : List D) : (zipD xs ys).length = min xs.length ys.length := by
  unfold zipD
  simp
theorem yld_pair2 {g : G} {m1 : Mp} {c : CS} {σ : L2.St} {H : Hp} {d e : D} {v w : V} {T : Addr} (s : Sim g m1 c σ H) (k : Sv g m1 d v) (l : Sv g m1 e w) (hT : H T = none) : ∃ m2, Ext m1 m2 ∧ Sim g m2 c σ (upd H T (.tup [v, w])) ∧ Sv g m2 (.tup [d, e]) (.ref T) := by
  obtain ⟨s2, x2⟩ := s.frozen (u := .tup [v, w]) hT
  exact ⟨_, x2, s2, .tup (SqT.of upd_same) (.cons (k.mono x2) (.cons (l.mono x2) .nil))⟩
theorem yld_zipL {g : G} {m : Mp} {a b : Addr} {ds es : List D} {vs ws : List V} (h : m.F a = some (.lst vs)) (k : Svs g m ds vs) (h' : m.F b = some (.lst ws)) (k' : Svs g m es ws) : Yld g m (Itz g.K a b) (zipD ds es) := fun m1 c σ H xr xf s i => by
  have hq : SqL g.K H a vs := SqL.of (s.fr _ _ (xf _ _ h))
  have hq' : SqL g.K H b ws := SqL.of (s.fr _ _ (xf _ _ h'))
  have kl := k.length
  have kl' := k'.length
  refine ⟨fun hi => ⟨vs, ws, hq, hq', by rw [zipD_length] at hi; omega⟩, fun d hd => ?_⟩
  obtain ⟨x, y, hx, hy, rfl⟩ := zipD_at hd
  obtain ⟨v, h1, h2⟩ := k.get hx
  obtain ⟨w, g1, g2⟩ := k'.get hy
  refine ⟨⟨vs, ws, v, w, hq, hq', h1, g1⟩, fun z H' ⟨T, v', w', e1, e2, e3, e4, e5⟩ => ?_⟩
  have f4 := e4 vs hq
  have f5 := e5 ws hq'
  rw [h1] at f4
  rw [g1] at f5
  cases f4
  cases f5
  subst e1 e3
  exact yld_pair2 s (Sv.like xr xf h2) (Sv.like xr xf g2) e2
theorem yld_zipT {g : G} {m : Mp} {a b : Addr} {ds es : List D} {vs ws : List V} (h : SqT g.K m.F a vs) (k : Svs g m ds vs) (h' : SqT g.K m.F b ws) (k' : Svs g m es ws) : Yld g m (RZ.ItzT g.K a b) (zipD ds es) := fun m1 c σ H xr xf s i => by
  have hq : SqT g.K H a vs := s.sqT (sqT_mono xf h)
  have hq' : SqT g.K H b ws := s.sqT (sqT_mono xf h')
  have kl := k.length
  have kl' := k'.length
  refine ⟨fun hi => ⟨vs, ws, hq, hq', by rw [zipD_length] at hi; omega⟩, fun d hd => ?_⟩
  obtain ⟨x, y, hx, hy, rfl⟩ := zipD_at hd
  obtain ⟨v, h1, h2⟩ := k.get hx
  obtain ⟨w, g1, g2⟩ := k'.get hy
  refine ⟨⟨vs, ws, v, w, hq, hq', h1, g1⟩, fun z H' ⟨T, v', w', e1, e2, e3, e4, e5⟩ => ?_⟩
  have f4 := e4 vs hq
  have f5 := e5 ws hq'
  rw [h1] at f4
  rw [g1] at f5
  cases f4
  cases f5
  subst e1 e3
  exact yld_pair2 s (Sv.like xr xf h2) (Sv.like xr xf g2) e2
def dZip (x y : D) : M (List D) := fun c => match x, y with
  | .lst xs, .lst ys => .ok (zipD xs ys) c
  | .tup xs, .tup ys => .ok (zipD xs ys) c
  | _, _ => .stuck
def cZip (f h : M D) : M (List D) := f.bind fun x => h.bind fun y => dZip x y
section
variable {g : G} {k : Nat} {N : List Str} {X : Cx} {sc ws : Scope} {W : WX} {p pos tpos : Pos} {e e2 : Expr} {fe fe2 : M D} {es : List Expr} {kk : Nat}
theorem sq_zip (q : Good g k N X sc ws W) (hg : isGl sc "zip" = true) (hm : g.mg "zip" = none) (he : PE X e (tE g W fe)) (he2 : PE X e2 (tE g W fe2)) (hs : isStar e = false) (hs2 : isStar e2 = false) : PI X (.Tuple es kk tpos) (.Call (.Name "zip" p) [e, e2] [] pos) (tI g W (cZip fe fe2)) := by
  refine pi_imp (RZ.pi_zipA (q.gl hg).1 (by rw [q.hmg]; exact hm) (pa_cons he (pa_cons he2 pa_nil (star_plain hs2)) (star_plain hs)) (star_plain hs) (plain_any (es := [e2]) (by unfold plainArgs; simp [hs2]))) fun σ H R ⟨m, c, s, o⟩ => ⟨m, c, s, o.bind.imp fun v H1 ⟨m1, d, c1, x1, s1, k1, o1⟩ => ⟨m1, c1, s1, o1.bind.imp fun w H2 ⟨m2, d2, c2, x2, s2, k2, o2⟩ => ?_⟩⟩
  have k1 := k1.mono x2
  rw [q.hK]
  cases k1 with
  | @lst a xs vs h1 h2 =>
    cases k2 with
    | @lst b ys us g1 g2 => exact ⟨a, b, vs, us, rfl, .inl ⟨SqL.of (s2.fr _ _ h1), SqL.of (s2.fr _ _ g1), o2.here s2 (yld_zipL h1 h2 g1 g2)⟩⟩
    | _ => exact o2.elim
  | @tup a xs vs h1 h2 =>
    cases k2 with
    | @tup b ys us g1 g2 => exact ⟨a, b, vs, us, rfl, .inr ⟨s2.sqT h1, s2.sqT g1, o2.here s2 (yld_zipT h1 h2 g1 g2)⟩⟩
    | _ => exact o2.elim
  | _ => cases k2 <;> exact o2.elim
end
end CL
namespace CL
open PySem PySem.Spec PyProof.Rows L2

/-! ## texts: join, split -/
def dJoin (a : Str) (d : D) : M D := fun c => match (c.seqL d).bind asStrs with
  | some ys => M.guard (decide ((ys.map (·.length)).sum + ys.length * a.length ≤ 16777216)) (M.ret (.str (Txt.join a ys))) c
  | none => .stuck
def cJoin (fo fe : M D) : M D := fo.bind fun o => match o with
  | .str a => fe.bind (dJoin a)
  | _ => fun _ => .stuck
def dSplit (a : Str) (d : D) : M (List D) := match d with
  | .str b => M.guard (!(b.length == 0) && decide (a.length + 2 ≤ sizeLine)) (M.ret ((Txt.split a b).map .str))
  | _ => fun _ => .stuck
def cSplit (fo fe : M D) : M (List D) := fo.bind fun o => match o with
  | .str a => fe.bind (dSplit a)
  | _ => fun _ => .stuck
theorem svs_strs {g : G} {m : Mp} : ∀ ys : List Str, Svs g m (ys.map D.str) (ys.map V.str)
  | [] => .nil
  | n :: ys => .cons (.str n) (svs_strs ys)
section
variable {X : Cx} {g : G} {k j : Nat} {N : List Str} {sc ws : Scope} {W : WX} {p pos apos : Pos} {o e : Expr} {fo fe : M D}
theorem sx_join (q : Good g k N X sc ws W) (ho : PE X o (tE g W fo)) (he : PE X e (tE g W fe)) (hb : okBase o = true) (hs : isStar e = false) (hl : (apos.endLine == pos.line) = true) : PE X (.Call (.Attribute o "join" apos) [e] [] pos) (tE g W (cJoin fo fe)) := by
  refine pe_imp (pe_m1 F.slot_str_join F.type_str_join mt_join ho he (star_plain hs) (base_ok hb) hl) fun σ H Q ⟨m, c, s, o1⟩ => ⟨m, c, s, o1.bind.imp fun x H1 ⟨m1, d, c1, x1, s1, k1, o2⟩ => ?_⟩
  cases k1 with
  | str a =>
    refine ⟨⟨a, rfl⟩, m1, c1, s1, o2.bind.imp fun y H2 ⟨m2, d2, c2, x2, s2, k2, o3⟩ => ?_⟩
    unfold dJoin at o3
    cases e1 : c2.seqL d2 with
    | none => rw [e1] at o3; exact o3.elim
    | some xs =>
      rw [e1] at o3
      have o3 : Out (rE g) g W σ m2 (match asStrs xs with
        | some ys => M.guard (decide ((ys.map (·.length)).sum + ys.length * a.length ≤ 16777216)) (M.ret (.str (Txt.join a ys))) c2
        | none => .stuck) Q := o3
      cases e2 : asStrs xs with
      | none => rw [e2] at o3; exact o3.elim
      | some ys =>
        rw [e2] at o3
        obtain ⟨hz, o3⟩ := Out.guard o3
        obtain ⟨pp, vs, rfl, hp, hv⟩ := s2.seqL e1 k2
        have ev := asStrs_ok hv e2
        subst ev
        exact ⟨a, pp, ys, rfl, rfl, .inl (SqL.of hp), of_decide_eq_true hz, o3.here s2 (.str _)⟩
  | _ => exact o2.elim
theorem sl_split (q : Good g k N X sc ws W) (ho : PE X o (tE g W fo)) (he : PE X e (tE g W fe)) (hb : okBase o = true) (hs : isStar e = false) (hl : (apos.endLine == pos.line) = true) : PE X (.Call (.Attribute o "split" apos) [e] [] pos) (tL g W (cSplit fo fe)) := by
  refine pe_imp (pe_m1 F.slot_str_split F.type_str_split mt_split ho he (star_plain hs) (base_ok hb) hl) fun σ H Q ⟨m, c, s, o1⟩ => ⟨m, c, s, o1.bind.imp fun x H1 ⟨m1, d, c1, x1, s1, k1, o2⟩ => ?_⟩
  cases k1 with
  | str a =>
    refine ⟨⟨a, rfl⟩, m1, c1, s1, o2.bind.imp fun y H2 ⟨m2, d2, c2, x2, s2, k2, o3⟩ => ?_⟩
    cases k2 with
    | str b =>
      obtain ⟨hz, o3⟩ := Out.guard o3
      rw [Bool.and_eq_true] at hz
      exact ⟨a, b, rfl, rfl, by simpa using hz.1, of_decide_eq_true hz.2, fun l hl => out_freshL s2 (svs_strs _) o3 hl⟩
    | _ => exact o3.elim
  | _ => exact o2.elim
end

/-! ## str, repr, len of own objects; texts with parts -/
def strOnly (r : R D) : R D := match r with
  | .ok (.str x) c => .ok (.str x) c
  | .exc n vs c => .exc n vs c
  | _ => .stuck
theorem str_back {v : V} {u : Value} {Q : Value → Shared → Prop} {s : Shared} {x : Str} (r : RelV v u) (e : v = .str x) (h : Q u s) : PySem.W.StrBack Q u s := by
  subst e
  obtain ⟨t, rfl⟩ := (show ∃ t, u = Value.str x t from r)
  exact h
section
variable {X : Cx} {g : G} {k j : Nat} {N : List Str} {sc ws : Scope} {W : WX} {p pos : Pos} {e : Expr} {fe : M D} {f C : Addr} {fn : Fn} {ci : Nat} {ns : List Str}
theorem strOnly_out {σ : L2.St} {m : Mp} {c : CS} {ds : List D} {Q : VK} (o : Out (rE g) g W σ m (strOnly (liftF (fn ds c.S) c)) Q) : Out (rE g) g W σ m (liftF (fn ds c.S) c) (fun z H' => ∃ x, z = .str x ∧ Q (.str x) H') := by
  cases e2 : fn ds c.S with
  | ok d S' =>
    rw [e2] at o
    cases d <;> first | exact o.elim | skip
    rename_i x
    intro m' z H' x' s' k'
    cases k'
    exact ⟨x, rfl, o m' _ H' x' s' (.str _)⟩
  | exc cn vs S' => rw [e2] at o; exact o
  | stuck => rw [e2] at o; exact o
/-- str(x) of a text, an int, an own object -/
def dStrO (ci : Nat) (fn : Fn) (d : D) : M D := fun c => match c.has ci "__str__" d with
  | true => strOnly (liftF (fn [d] c.S) c)
  | false => match d with
    | .int i => M.guard (decide (i.natAbs.log2 < 1920)) (M.ret (.str (toString i))) c
    | .str x => .ok (.str x) c
    | _ => .stuck
theorem sx_str (q : Good g k N X sc ws W) (hc : g.cls ci = some (C, ns)) (hn : ns.contains "__str__" = false) (sp : Spc g.K C "__str__" f) (F : FnC g j f fn) (hj : j + 2 ≤ k) (hg : isGl sc "str" = true) (hm : g.mg "str" = none) (he : PE X e (tE g W fe)) (hs : isStar e = false) : PE X (.Call (.Name "str" p) [e] [] pos) (tE g W (fe.bind (dStrO ci fn))) := by
  refine ⟨fun pins s σ H Q I ⟨m, c, sm, o⟩ => ?_⟩
  have hst : starEach [e] X.env = (false, eval e X.env) :: starEach [] X.env := star_plain hs
  have one : PA X [e] (fun σ H Q => tE g W fe σ H fun x H1 => Q [x] H1) := pa_cons he pa_nil hst
  have o2 : tE g W fe σ H fun x H1 => OneQ (rE g) g W σ m (dStrO ci fn) Q [x] H1 := ⟨m, c, sm, o.bind.imp fun v H1 ⟨m1, d, c1, x1, s1, k1, o1⟩ => ⟨v, m1, d, c1, rfl, x1, s1, k1, o1⟩⟩
  refine wpAny_Call_Name_kw (ld_blt I (q.gl hg).1 (by rw [q.hmg]; exact hm) (by rfl) (PyProof.Rows.callWith_type1 (T := "str") (thn (one.run pos pins s σ H (OneQ (rE g) g W σ m (dStrO ci fn) Q) I o2) fun us s1 ⟨vs, H1, I1, r1, z1⟩ => ?_) hst (by rfl)) (q.gl hg).2.2 (q.gl hg).2.1)
  obtain ⟨v0, m1, d, c1, ev, x1, s2, k1, o1⟩ := z1
  subst ev
  unfold dStrO at o1
  cases e1 : c1.has ci "__str__" d with
  | true =>
    rw [e1] at o1
    obtain ⟨a, dx, fs, ex, ea, _⟩ := s2.has k1 e1 hc hn
    subst ex
    cases r1 with
    | cons r rr =>
      cases rr
      cases r
      obtain ⟨mA, Ob, _⟩ := ins_get I1.hok ea
      obtain ⟨od, J, _⟩ := Ob.look
      have sp2 := sp
      rw [← q.hK] at sp2
      have r2 := (q.room.mono hj).in1.in1
      exact PySem.W.kso_call r2.units0 I1.kIn J sp2.at_ sp2.fn (thn (run_own q F r2 I1.env0.in1.in1 I1 (vs := [.ref a]) (us := [.ref a]) (.cons rfl .nil) s2 (.cons k1 .nil) (strOnly_out o1)) fun w s' ⟨z, H', I', rz, y, ez, qz⟩ => str_back rz ez ⟨z, H', I', rz, by rw [ez]; exact qz⟩)
  | false =>
    rw [e1] at o1
    cases k1 with
    | int i =>
      obtain ⟨hz, o1⟩ := Out.guard o1
      exact call_str_int pins s1 σ H1 _ us Q I1 r1 ⟨i, rfl, of_decide_eq_true hz, o1.here s2 (.str _)⟩
    | str x => exact SkE.call_str_str pins s1 σ H1 _ us Q I1 r1 ⟨x, rfl, o1.here s2 (.str _)⟩
    | _ => exact o1.elim
/-- repr(x) of an own object -/
def dReprO (ci : Nat) (fn : Fn) (d : D) : M D := fun c => match c.has ci "__repr__" d with
  | true => strOnly (liftF (fn [d] c.S) c)
  | false => .stuck
theorem sx_repr (q : Good g k N X sc ws W) (hc : g.cls ci = some (C, ns)) (hn : ns.contains "__repr__" = false) (sp : Spc g.K C "__repr__" f) (F : FnC g j f fn) (hj : j + 1 ≤ k) (hg : isGl sc "repr" = true) (hm : g.mg "repr" = none) (he : PE X e (tE g W fe)) (hs : isStar e = false) : PE X (.Call (.Name "repr" p) [e] [] pos) (tE g W (fe.bind (dReprO ci fn))) := by
  refine ⟨fun pins s σ H Q I ⟨m, c, sm, o⟩ => ?_⟩
  have hst : starEach [e] X.env = (false, eval e X.env) :: starEach [] X.env := star_plain hs
  have one : PA X [e] (fun σ H Q => tE g W fe σ H fun x H1 => Q [x] H1) := pa_cons he pa_nil hst
  have o2 : tE g W fe σ H fun x H1 => OneQ (rE g) g W σ m (dReprO ci fn) Q [x] H1 := ⟨m, c, sm, o.bind.imp fun v H1 ⟨m1, d, c1, x1, s1, k1, o1⟩ => ⟨v, m1, d, c1, rfl, x1, s1, k1, o1⟩⟩
  refine wpAny_Call_Name_kw (ld_blt I (q.gl hg).1 (by rw [q.hmg]; exact hm) (by rfl) (PyProof.Rows.callWith_builtin1 (thn (one.run pos pins s σ H (OneQ (rE g) g W σ m (dReprO ci fn) Q) I o2) fun us s1 ⟨vs, H1, I1, r1, z1⟩ => ?_) hst (by rfl)) (q.gl hg).2.2 (q.gl hg).2.1)
  obtain ⟨v0, m1, d, c1, ev, x1, s2, k1, o1⟩ := z1
  subst ev
  unfold dReprO at o1
  cases e1 : c1.has ci "__repr__" d with
  | true =>
    rw [e1] at o1
    obtain ⟨a, dx, fs, ex, ea, _⟩ := s2.has k1 e1 hc hn
    subst ex
    cases r1 with
    | cons r rr =>
      cases rr
      cases r
      obtain ⟨mA, Ob, _⟩ := ins_get I1.hok ea
      obtain ⟨od, J, _⟩ := Ob.look
      obtain ⟨mm, fr⟩ := I1.fr
      have sp2 := sp
      rw [← q.hK] at sp2
      have r2 := (q.room.mono hj).in1
      exact PySem.W.repr_K r2.units0 fr I1.ok.mod.kin J sp2.at_ sp2.fn (thn (run_own q F r2 I1.env0.in1 I1 (vs := [.ref a]) (us := [.ref a]) (.cons rfl .nil) s2 (.cons k1 .nil) (strOnly_out o1)) fun w s' ⟨z, H', I', rz, y, ez, qz⟩ => str_back rz ez ⟨z, H', I', rz, by rw [ez]; exact qz⟩)
  | false => rw [e1] at o1; exact o1.elim
/-- len(x) of a sequence or of an own object -/
def intOnly (r : R D) : R D := match r with
  | .ok (.int i) c => M.guard (decide (0 ≤ i ∧ i < 2 ^ 63)) (M.ret (.int i)) c
  | .exc n vs c => .exc n vs c
  | _ => .stuck
def dLenO (ci : Nat) (fn : Fn) (d : D) : M D := fun c => match c.has ci "__len__" d with
  | true => intOnly (liftF (fn [d] c.S) c)
  | false => bLen [d] c
theorem sx_len (q : Good g k N X sc ws W) (hc : g.cls ci = some (C, ns)) (hn : ns.contains "__len__" = false) (sp : Spc g.K C "__len__" f) (F : FnC g j f fn) (hj : j + 1 ≤ k) (hg : isGl sc "len" = true) (hm : g.mg "len" = none) (he : PE X e (tE g W fe)) (hs : isStar e = false) : PE X (.Call (.Name "len" p) [e] [] pos) (tE g W (fe.bind (dLenO ci fn))) := by
  refine ⟨fun pins s σ H Q I ⟨m, c, sm, o⟩ => ?_⟩
  have hst : starEach [e] X.env = (false, eval e X.env) :: starEach [] X.env := star_plain hs
  have one : PA X [e] (fun σ H Q => tE g W fe σ H fun x H1 => Q [x] H1) := pa_cons he pa_nil hst
  have o2 : tE g W fe σ H fun x H1 => OneQ (rE g) g W σ m (dLenO ci fn) Q [x] H1 := ⟨m, c, sm, o.bind.imp fun v H1 ⟨m1, d, c1, x1, s1, k1, o1⟩ => ⟨v, m1, d, c1, rfl, x1, s1, k1, o1⟩⟩
  refine wpAny_Call_Name_kw (ld_blt I (q.gl hg).1 (by rw [q.hmg]; exact hm) (by rfl) (PyProof.Rows.callWith_builtin1 (thn (one.run pos pins s σ H (OneQ (rE g) g W σ m (dLenO ci fn) Q) I o2) fun us s1 ⟨vs, H1, I1, r1, z1⟩ => ?_) hst (by rfl)) (q.gl hg).2.2 (q.gl hg).2.1)
  obtain ⟨v0, m1, d, c1, ev, x1, s2, k1, o1⟩ := z1
  subst ev
  unfold dLenO at o1
  cases e1 : c1.has ci "__len__" d with
  | true =>
    rw [e1] at o1
    obtain ⟨a, dx, fs, ex, ea, _⟩ := s2.has k1 e1 hc hn
    subst ex
    cases r1 with
    | cons r rr =>
      cases rr
      cases r
      obtain ⟨mA, Ob, _⟩ := ins_get I1.hok ea
      obtain ⟨od, J, _⟩ := Ob.look
      obtain ⟨mm, fr⟩ := I1.fr
      have sp2 := sp
      rw [← q.hK] at sp2
      have r2 := (q.room.mono hj).in1
      have o3 : Out (rE g) g W σ m1 (liftF (fn [d] c1.S) c1) (fun z H' => ∃ i : Int, z = .int i ∧ (0 ≤ i ∧ i < 2 ^ 63) ∧ Q (.int i) H') := by
        cases e2 : fn [d] c1.S with
        | ok d' S' =>
          rw [e2] at o1
          cases d' <;> first | exact o1.elim | skip
          rename_i i
          obtain ⟨hz, o1⟩ := Out.guard (f := M.ret (D.int i)) o1
          intro m' z H' x' s' k'
          cases k'
          exact ⟨i, rfl, of_decide_eq_true hz, o1 m' _ H' x' s' (.int _)⟩
        | exc cn vs S' => rw [e2] at o1; exact o1
        | stuck => rw [e2] at o1; exact o1
      refine PySem.W.len_K fr I1.ok.mod.kin J sp2.at_ sp2.fn (thn (run_own q F r2 I1.env0.in1 I1 (vs := [.ref a]) (us := [.ref a]) (.cons rfl .nil) s2 (.cons k1 .nil) o3) fun w s' ⟨z, H', I', rz, i, ez, hi, qz⟩ => ?_)
      subst ez
      obtain ⟨t, rfl⟩ := (show ∃ t, w = Value.int i t from rz)
      exact ⟨hi, V.int i, H', I'.tok _, ⟨_, rfl⟩, qz⟩
  | false =>
    rw [e1] at o1
    have h := call_len (X := X)
    rw [q.hK] at h
    exact h pins s1 σ H1 _ us Q I1 r1 (sc_len W m1 c1 σ H1 [d] [v0] Q s2 (.cons k1 .nil) o1)
/-- {x} in a text, x a text or an own object -/
def dFmtO (ci : Nat) (fn : Fn) (d : D) : M D := fun c => match c.has ci "__str__" d with
  | true => strOnly (liftF (fn [d] c.S) c)
  | false => match d with
    | .int i => M.guard (decide (i.natAbs.log2 < 1920)) (M.ret (.str (toString i))) c
    | .str x => M.guard (szOk x.length) (M.ret (.str x)) c
    | _ => .stuck
structure FmtK (K : PySem.W.Frag) (C : Addr) : Prop where
  fm : PySem.W.findIn K (.ref C) "__format__" = some (some (.builtin "object.__format__"))
  ob : PySem.W.mroIn K C (.type "object") = some true
theorem sx_fmt (q : Good g k N X sc ws W) (hc : g.cls ci = some (C, ns)) (hn : ns.contains "__str__" = false) (fk : FmtK g.K C) (sp : Spc g.K C "__str__" f) (F : FnC g j f fn) (hj : j + 1 ≤ k) (he : PE X e (tE g W fe)) : PE X (.FormattedValue e (-1) none pos) (tE g W (fe.bind (dFmtO ci fn))) := by
  refine ⟨fun pins s σ H Q I ⟨m, c, sm, o⟩ => ?_⟩
  refine wpAny_FormattedValue_plain (thn (he.run pins s σ H _ I ⟨m, c, sm, o.bind⟩) fun v s1 ⟨x, H1, I1, r1, m1, d, c1, x1, s2, k1, o1⟩ => ?_)
  unfold dFmtO at o1
  cases e1 : c1.has ci "__str__" d with
  | true =>
    rw [e1] at o1
    obtain ⟨a, dx, fs, ex, ea, _⟩ := s2.has k1 e1 hc hn
    subst ex
    obtain rfl : v = Value.ref a := r1
    obtain ⟨mA, Ob, _⟩ := ins_get I1.hok ea
    obtain ⟨od, J, _⟩ := Ob.look
    have sp2 := sp
    have fk2 := fk
    rw [← q.hK] at sp2 fk2
    have r2 := (q.room.mono hj).in1
    have I2 := I1.tok (s1.toks + 1)
    exact PySem.W.kfo_fieldS r2.units0 I1.kIn J fk2.fm fk2.ob sp2.at_ sp2.fn (thn (run_own q F r2 I2.env0.in1 I2 (vs := [.ref a]) (us := [.ref a]) (.cons rfl .nil) s2 (.cons k1 .nil) (strOnly_out o1)) fun w s' ⟨z, H', I', rz, y, ez, qz⟩ => str_back rz ez ⟨z, H', I', rz, by rw [ez]; exact qz⟩)
  | false =>
    rw [e1] at o1
    cases k1 with
    | int i =>
      obtain ⟨hz, o1⟩ := Out.guard o1
      obtain ⟨t, rfl⟩ := (show ∃ t, v = Value.int i t from r1)
      exact wpAny_formatField_int (of_decide_eq_true hz) ⟨.str (toString i), H1, I1.tok _, ⟨_, rfl⟩, o1.here s2 (.str _)⟩
    | str y =>
      obtain ⟨hz, o1⟩ := Out.guard o1
      obtain ⟨t, rfl⟩ := (show ∃ t, v = Value.str y t from r1)
      exact wpAny_formatField_str ⟨.str y, H1, I1, ⟨t, rfl⟩, o1.here s2 (.str _)⟩ ⟨.str y, H1, I1.tok _, ⟨_, rfl⟩, o1.here s2 (.str _)⟩ (of_decide_eq_true hz)
    | _ => exact o1.elim
end

/-! ## a text of parts -/
def cParts : List (M D) → Str → M Str
  | [], acc => M.ret acc
  | f :: fs, acc => f.bind fun d => match d with
    | .str y => M.guard (szOk (acc ++ y).length) (cParts fs (acc ++ y))
    | _ => fun _ => .stuck
def cJoined (fs : List (M D)) : M D := (cParts fs Str.empty).bind fun x => M.ret (.str x)
/-- the parts' readings -/
def PParts (g : G) (W : WX) (X : Cx) : List Expr → List (M D) → Prop
  | [], [] => True
  | e :: es, f :: fs => PE X e (tE g W f) ∧ PParts g W X es fs
  | _, _ => False
theorem pparts_pj {g : G} {W : WX} {X : Cx} : ∀ {es : List Expr} {fs : List (M D)}, PParts g W X es fs → PJ X es (fs.map fun f => tE g W f)
  | [], [], _ => .nil
  | [], _ :: _, h => h.elim
  | _ :: _, [], h => h.elim
  | e :: es, f :: fs, h => .cons h.1 (pparts_pj h.2)
theorem parts_read {g : G} {W : WX} {σ : L2.St} {Q : VK} : ∀ (fs : List (M D)) (acc : Str) (m : Mp) (c : CS) (H : Hp), Sim g m c σ H → Out (rE g) g W σ m (((cParts fs acc).bind fun x => M.ret (.str x)) c) Q → tJs (fs.map fun f => tE g W f) acc σ H (fun out H1 => Q (.str out) H1)
  | [], acc, m, c, H, s, o => by
    have o : Out (rE g) g W σ m (.ok (.str acc) c) Q := o
    exact o.here s (.str _)
  | f :: fs, acc, m, c, H, s, o => by
    have e : ((cParts (f :: fs) acc).bind fun x => M.ret (.str x)) c = (f c).bind fun d c1 => (match d with
      | .str y => (M.guard (szOk (acc ++ y).length) ((cParts fs (acc ++ y)).bind fun x => M.ret (.str x)) c1)
      | _ => .stuck : R D) := by
      show (((f c).bind fun d => _).bind _ : R D) = _
      cases q : f c with
      | ok d c1 =>
        cases d <;> first | rfl | skip
        rename_i y
        show (M.guard (szOk (acc ++ y).length) (cParts fs (acc ++ y)) c1).bind _ = M.guard _ _ c1
        cases szOk (acc ++ y).length <;> rfl
      | exc cn vs c1 => rfl
      | stuck => rfl
    rw [e] at o
    refine ⟨m, c, s, o.bind.imp fun x H1 ⟨m1, d, c1, x1, s1, k1, o1⟩ => ?_⟩
    cases k1 with
    | str y =>
      obtain ⟨hz, o1⟩ := Out.guard o1
      exact ⟨y, rfl, of_decide_eq_true hz, parts_read fs (acc ++ y) m1 c1 H1 s1 o1⟩
    | _ => exact o1.elim
theorem sx_joined {X : Cx} {g : G} {W : WX} {e1 e2 : Expr} {es : List Expr} {fs : List (M D)} {pos : Pos} (h : PParts g W X (e1 :: e2 :: es) fs) : PE X (.JoinedStr (e1 :: e2 :: es) pos) (tE g W (cJoined fs)) := by
  refine pe_imp (pe_joined (pparts_pj h)) fun σ H Q ⟨m, c, s, o⟩ => parts_read fs Str.empty m c H s o

/-! ## class methods -/
/-- the class comes first; nothing is known of it -/
def spCm (g : G) (C : Addr) (fn : Fn) : Sp := fun vs H Q E => ∃ us, vs = V.ref C :: us ∧ spOf g fn us H Q E
abbrev FnCm (g : G) (k : Nat) (f C : Addr) (fn : Fn) : Prop := FnR g.prog g.w g.K g.mg g.base (L2.CX g.prog g.w) k f (spCm g C fn)
def startK (n : Nat) (ds : List D) (S : List O) : CS := ⟨.no :: (ds.map .val ++ List.replicate (n - 1 - ds.length) .no), S⟩
def cmB (n np : Nat) (fb : M Fl) : Fn := fun ds S => match decide (ds.length + 1 = np) with
  | true => outF (fb (startK n ds S))
  | false => .stuck
theorem Sim.startK {g : G} {m : Mp} {S : List O} {H : Hp} {N : List Str} {ds : List D} {vs : List V} {x : V} (h : Sim g m ⟨[], S⟩ [] H) (hv : Svs g m ds vs) : Sim g m (CL.startK N.length ds S) (L2.start N (x :: vs)) H := by
  refine ⟨h.fr, h.nd, h.tb, h.len, fun k fs e => ?_, ?_, h.st, h.bk, fun i s hs => ?_⟩
  · have e : (some Sl.no) = some (Sl.own (.ins k fs)) := e
    cases e
  · show (Sl.no :: (ds.map Sl.val ++ List.replicate (N.length - 1 - ds.length) Sl.no)).length = ((x :: vs).map some ++ List.replicate (N.length - (x :: vs).length) none).length
    rw [List.length_cons, List.length_append, List.length_append, List.length_map, List.length_map, List.length_replicate, List.length_replicate, List.length_cons, hv.length]
    omega
  · have hs : (Sl.no :: (ds.map Sl.val ++ List.replicate (N.length - 1 - ds.length) Sl.no))[i]? = some s := hs
    cases i with
    | zero => cases hs; trivial
    | succ i =>
      rw [List.getElem?_cons_succ] at hs
      by_cases q : i < ds.length
      · rw [List.getElem?_append_left (by rw [List.length_map]; exact q), List.getElem?_map, List.getElem?_eq_getElem q] at hs
        cases hs
        obtain ⟨v, e1, e2⟩ := hv.get (List.getElem?_eq_getElem q)
        refine ⟨v, ?_, e2⟩
        show ((some x :: vs.map some) ++ List.replicate (N.length - (x :: vs).length) none)[i + 1]? = some (some v)
        rw [List.cons_append, List.getElem?_cons_succ, List.getElem?_append_left (by rw [List.length_map, ← hv.length]; exact q), List.getElem?_map, e1]
        rfl
      · rw [List.getElem?_append_right (by rw [List.length_map]; omega)] at hs
        cases (List.mem_replicate.mp (List.mem_of_getElem? hs)).2
        trivial
theorem fn_cm {g : G} {x qual : Str} {st : Stmt} {f C : Addr} {fd : FuncData} {N ps : List Str} {k : Nat} {fb : M Fl} (F : L2.Fun g.K x qual st f fd) (S : FnScope N ps (defScope st)) (hb : Binds g.K fd ps [])
    (h : ∀ (X : Cx) (W : WX), Good g k N X (defScope st) (defScope st) W → PSs X (defBody st) (tS g W fb)) : FnCm g (k + 1) f C (cmB N.length ps.length fb) := by
  have z : FnOk g.prog g.w g.K g.mg g.base (L2.CX g.prog g.w) (k + 1) f fd ps (spCm g C (cmB N.length ps.length fb)) := by
    refine F.okX S (fun vs H Q E hs => ?_) (fun cdv A outer s H vs Q E hr hs => ?_)
    · obtain ⟨us, rfl, m, S', ds, sm, hv, o⟩ := hs
      unfold cmB at o
      cases e : decide (ds.length + 1 = ps.length) with
      | false => rw [e] at o; exact o.elim
      | true =>
        rw [List.length_cons, ← hv.length]
        exact of_decide_eq_true e
    · obtain ⟨us, rfl, m, S', ds, sm, hv, o⟩ := hs
      unfold cmB at o
      cases e : decide (ds.length + 1 = ps.length) with
      | false => rw [e] at o; exact o.elim
      | true =>
        rw [e] at o
        exact ⟨_, h _ _ (good_of S hr), m, _, sm.startK hv, outS_F (S := S') (fun _ _ _ _ h => h) o⟩
  exact (z.raw hb (dvs := []) .nil).imp fun vs H Q E hs => by rw [List.append_nil]; exact hs
section
variable {X : Cx} {g : G} {k j : Nat} {N : List Str} {sc ws : Scope} {W : WX} {p pos apos : Pos} {e : Expr} {es : List Expr} {fa : M (List D)} {f C pa : Addr} {fn : Fn} {mc : Value} {mn xc : Str}
/-- C.m(e, ..), m a classmethod -/
theorem sx_cmeth (q : Good g k N X sc ws W) (hg : isGl sc xc = true) (hm : g.mg xc = some (.ref C)) (cr : ClX.CRead g.K C mc) (cm : ClX.CMet g.K C mc mn pa f) (F : FnCm g j f C fn) (hj : j ≤ k) (ha : PA X (e :: es) (tA g W fa)) (hp : plainArgs (e :: es) = true) (h3 : (apos.endLine == pos.line) = true) (h4 : decide ((e :: es).length < 30) = true) :
    PE X (.Call (.Attribute (.Name xc p) mn apos) (e :: es) [] pos) (tE g W (cCall fn fa)) := by
  obtain ⟨p1, p2⟩ := plain_tail hp
  obtain ⟨hg, hd, _⟩ := q.gl hg
  rw [← q.hmg] at hm
  rw [← q.hK] at cr cm
  have F : FnR X.prog X.w X.K X.mg X.base (L2.CX X.prog X.w) j f (spCm g C fn) := by
    rw [q.hP, q.hw, q.hK, q.hmg, q.hbs]
    exact F
  refine ⟨fun pins s σ H Q I ⟨m, c, sm, o⟩ => ?_⟩
  refine PySem.W.methodCall_KW (ld_glob I hg hm ?_ hd) (meth_form (by rfl) hp h3 h4)
  refine ClX.getmethcm_ok I cr cm fun s' I' => ?_
  refine ClX.callwith_cm I' (ClX.base_none I (Nat.le_refl _)) cm.fi (thn (ha.run pos _ s' σ H _ I' ⟨m, c, sm, o.bind⟩) fun us s1 ⟨vs, H1, I1, r, m1, ds, c1, x1, s2, k1, o1⟩ => ⟨⟨ClX.pin_at I1, I1.kIn⟩, ?_⟩) (star_plain p1) (plain_any p2)
  have hsp : spCm g C fn (V.ref C :: vs) H1 Q (WE W σ) := ⟨vs, rfl, call_sp (W := W) s2 k1 o1⟩
  have z := codeAny_mono (F X.A X.stack s1 H1 (.ref C :: us) (V.ref C :: vs) Q _ (q.room.mono hj) I1.env0 (.cons rfl r) hsp) (R' := fun r s' => match r with | .ok (.ret v) => EP X ((s.heap.objs.size, PySem.W.methodObj (.ref f) (.ref C)) :: pins) σ Q v s' | .ok _ => False | .error e => X.xe e s') fun r s' hq => by
    match r, hq with
    | .error e, hq => exact passAt q.tk σ _ H1 s1 e s' I1 hq
    | .ok (.ret u), hq => exact I1.after hq
  exact thn (wpAny_call (PySem.W.method_call (ClX.pin_at I1) z)) fun _ _ y => ClX.unpinE y
end
end CL
namespace CL
open PySem PySem.Spec PyProof.Rows L2

/-! ## a, b = x, y -/
def dumE (sc : Scope) : Env := envOfC Str.empty sc 0 0 .none
theorem sw_env {ts : List Expr} {v : Expr} {e1 e2 : Env} (h : e1.scope = e2.scope) : swappedStores ts v e1 = swappedStores ts v e2 := by
  unfold swappedStores Env.blockKind Env.kindOf
  rw [h]
theorem sw_of {g : G} {k : Nat} {N : List Str} {X : Cx} {sc ws : Scope} {W : WX} (q : Good g k N X sc ws W) {ts : List Expr} {v : Expr} {r : Option (List Str)} (h : swappedStores ts v (dumE sc) = pure r) : swappedStores ts v X.env = pure r := by
  rw [← h]
  exact sw_env q.hsc
def cPar (i j : Nat) (fr : M (List D)) : M Fl := fun c => (fr c).bind fun ds c1 => match ds with
  | [x, y] => .ok .next ((c1.put i (.val x)).put j (.val y))
  | _ => .stuck
theorem ss_par {g : G} {k : Nat} {N : List Str} {X : Cx} {sc ws : Scope} {W : WX} {i j : Nat} {x y : Str} {a b : Expr} {fr : M (List D)} {px py pt pos : Pos} {kt k2 : Nat} {pt2 : Pos} (q : Good g k N X sc ws W) (hi : N[i]? = some x) (hj : N[j]? = some y) (hij : i ≠ j) (hx : sc.names.lookup x = some .local) (hy : sc.names.lookup y = some .local) (ha : PA X [a, b] (tA g W fr))
    (hw : swappedStores [.Tuple [.Name x px, .Name y py] kt pt] (.Tuple [a, b] k2 pt2) X.env = pure (some [x, y])) : PS X (.Assign [.Tuple [.Name x px, .Name y py] kt pt] (.Tuple [a, b] k2 pt2) pos) (tS g W (cPar i j fr)) := by
  refine ps_imp (ps_par q.calm q.ndX (q.at_ hi) (q.at_ hj) hij (by rw [q.hsc]; exact hx) (by rw [q.hsc]; exact hy) ha hw (by rfl)) fun Dn σ H ⟨m, c, s, o⟩ => ⟨m, c, s, o.bind.imp fun vs H1 ⟨m1, ds, c1, x1, s1, k1, o1⟩ => ?_⟩
  have k1 : Svs g m1 ds vs := k1
  cases k1 with
  | nil => exact o1.elim
  | cons ka kr =>
    cases kr with
    | nil => exact o1.elim
    | cons kb kr =>
      cases kr with
      | nil => exact ⟨_, _, rfl, o1.nx ((s1.val ka).val kb)⟩
      | cons _ _ => exact o1.elim
end CL
namespace CL
open PySem PySem.Spec PyProof.Rows L2

/-! ## fields of a caught exception -/
/-- E: the fields of each class of exceptions -/
structure XcK (g : G) (E : Nat → List Str) : Prop where
  k : ∀ (cn : Nat) (C : Addr) (ns : List Str), g.exc cn = some (C, ns) → L2.XfC g.K C ∧ ns = E cn ∧ ∀ f ∈ ns, PySem.W.findIn g.K (.ref C) f = some none
theorem zip_look {g : G} {m : Mp} {f : Str} : ∀ {ns : List Str} {ds : List D} {ws : List V} {d : D}, Svs g m ds ws → (ns.zip ds).lookup f = some d → f ∈ ns ∧ ∃ v, (ns.zip ws).lookup f = some v ∧ Sv g m d v
  | [], _, _, _, _, h => by simp at h
  | _ :: _, [], _, _, _, h => by simp at h
  | n :: ns, d0 :: ds, _, d, .cons (v := v0) (vs := vs0) a b, h => by
    rw [List.zip_cons_cons, List.lookup_cons] at h ⊢
    cases e : f == n with
    | true =>
      rw [e] at h
      have h : some d0 = some d := h
      cases h
      have e2 : f = n := by simpa using e
      exact ⟨by rw [e2]; exact List.mem_cons_self, v0, rfl, a⟩
    | false =>
      rw [e] at h
      obtain ⟨h1, v, h2, h3⟩ := zip_look b h
      exact ⟨List.mem_cons_of_mem _ h1, v, h2, h3⟩
def dXf (E : Nat → List Str) (f : Str) (o : D) : M D := fun c => match o with
  | .exn cn vs => match ((E cn).zip vs).lookup f with
    | some d => .ok d c
    | none => .stuck
  | _ => .stuck
theorem exq_at {P : Program} {w : World} {H : Hp} {h : Heap} {a C d : Addr} (hok : HOk P w H h) (e : H a = some (exq a C d)) : ∃ (o : Obj) (vs : Array Value), h.get? a = some o ∧ o.cls = .ref C ∧ o.dict = some d ∧ o.data = .fields vs := by
  have z : ObjOk P w H h a (.ext fun h => ∃ (o : Obj) (vs : Array Value), h.get? a = some o ∧ o.cls = .ref C ∧ o.dict = some d ∧ o.data = .fields vs) := hok a _ e
  exact z.1
theorem exq_ok {P : Program} {w : World} {H : Hp} {h : Heap} {a C d : Addr} {vs : Array Value} {o : Obj} (e : h.get? a = some o) (e1 : o.cls = .ref C) (e2 : o.dict = some d) (e3 : o.data = .fields vs) : ObjOk P w H h a (exq a C d) :=
  ⟨⟨o, vs, e, e1, e2, e3⟩, ⟨_, e⟩, fun h1 h2 ⟨u, us, z, y1, y2, y3⟩ k => ⟨u, us, k _ z, y1, y2, y3⟩⟩
section
variable {X : Cx} {g : G} {W : WX} {pos : Pos} {o : Expr} {fo : M D} {f : Str} {E : Nat → List Str}
theorem sx_xf (hK : X.K = g.K) (T : XcK g E) (ho : PE X o (tE g W fo)) (h1 : okBase o = true) : PE X (.Attribute o f pos) (tE g W (fo.bind (dXf E f))) := by
  refine ⟨fun pins s σ H Q I ⟨m, c, sm, h⟩ => ?_⟩
  refine attr_of (base_ok h1) (thn (ho.run pins s σ H _ I ⟨m, c, sm, h.bind⟩) fun u s1 ⟨x, H1, I1, rx, m1, d, c1, x1, s2, k1, o1⟩ => ?_)
  cases k1 with
  | @exn cn ds a C dd ns ws g1 g2 g3 g4 g5 =>
    have o1 : Out (rE g) g W σ m1 (match ((E cn).zip ds).lookup f with
      | some d => .ok d c1
      | none => .stuck) Q := o1
    obtain ⟨t1, rfl, t3⟩ := T.k cn C ns g1
    cases e : ((E cn).zip ds).lookup f with
    | none => rw [e] at o1; exact o1.elim
    | some d =>
      rw [e] at o1
      obtain ⟨fm, v, lk, kv⟩ := zip_look g4 e
      obtain rfl : u = Value.ref a := rx
      obtain ⟨oe, vs, ha, y1, y2, y3⟩ := exq_at I1.hok (s2.fr _ _ g2)
      have hx : ObjOk X.prog X.w H1 s1.heap dd (.xd ((E cn).zip ws)) := I1.hok dd _ (s2.fr _ _ g3)
      obtain ⟨mA, hns, hr⟩ := hx
      obtain ⟨od, hod, hl⟩ := lookIn_ns hns
      obtain ⟨u, hu, ru⟩ := RelO.some_of (v := v) (o := mA f) (by rw [← lk]; exact hr f)
      have J : PySem.W.InstAt s1.heap a oe C (some od) := ⟨ha, y1, by unfold PySem.W.notCls; rw [y3] <;> rfl, by rw [y2]; exact hod⟩
      have KI := I1.kIn
      rw [hK] at KI
      exact HandSPX.exc_get KI J t1.ga t1.gg t1.exC (PySem.W.findObj_own t1.hdC (t3 f fm) rfl (by rw [hl, hu])) (handed_of ru) ⟨v, H1, I1.tok _, ru, o1.here s2 kv⟩
  | _ => exact o1.elim
end

/-! ## raise -/
theorem vis_p {N ps : List Str} {sc : Scope} (S : FnScope N ps sc) {x : Str} (h : x ∈ ps) : Vis sc x := (S.par x h).elim .inl fun k => .inr (.inl k)
abbrev cdS : Str := "code"
/-- def __init__(self, p): self.f = p; self.code = t -/
def spX1 (K : PySem.W.Frag) (f t : Str) : Sp := fun vs H Q _ => ∃ (a C : Addr) (v : V), vs = [.ref a, v] ∧ OexC K C ∧ H a = some (exo a C none) ∧ PySem.W.findIn K (.ref C) f = some none ∧ PySem.W.findIn K (.ref C) cdS = some none ∧
  ∀ dx, H dx = none → dx ≠ a → Q .non (upd (upd (upd H dx (exd dx [(f, v)])) a (exo a C (some dx))) dx (exd dx [(cdS, .str t), (f, v)]))
def spX0 (K : PySem.W.Frag) (t : Str) : Sp := fun vs H Q _ => ∃ (a C : Addr), vs = [.ref a] ∧ OexC K C ∧ H a = some (exo a C none) ∧ PySem.W.findIn K (.ref C) cdS = some none ∧
  ∀ dx, H dx = none → dx ≠ a → Q .non (upd (upd H dx (exd dx [(cdS, .str t)])) a (exo a C (some dx)))
section
variable {g : G} {x qual : Str} {st : Stmt} {fa : Addr} {fd : FuncData} {f t sf p : Str} {p1 p2 p3 p4 p5 p6 p7 p8 : Pos} {j : Nat}
theorem fn_x1 (F : L2.Fun g.K x qual st fa fd) (S : FnScope [sf, p] [sf, p] (defScope st)) (hb : defBody st = [.Assign [.Attribute (.Name sf p1) f p2] (.Name p p3) p4, .Assign [.Attribute (.Name sf p5) cdS p6] (.Constant (.str t) j p7) p8])
    (n1 : noDbg sf = true) (n2 : noDbg p = true) : FnOk g.prog g.w g.K g.mg g.base (L2.CX g.prog g.w) 1 fa fd [sf, p] (spX1 g.K f t) := by
  refine F.okX (k := 0) S (fun vs H Q E ⟨_, _, _, e, _⟩ => by rw [e]; rfl) fun cdv A outer s H vs Q E hr ⟨a, C, v, e, T, ea, nf, nc, q⟩ => ?_
  subst e
  rw [hb]
  have va := vis_p S (x := sf) List.mem_cons_self
  have vb := vis_p S (x := p) (List.mem_cons_of_mem _ List.mem_cons_self)
  refine ⟨_, pss_cons (ps_ost (pe_var (i := 0) rfl va (noDbg_1 n1) (noDbg_2 n1)) (pe_var (i := 1) rfl vb (noDbg_1 n2) (noDbg_2 n2)) (by rfl)) (pss_cons (ps_ost (pe_var (i := 0) rfl va (noDbg_1 n1) (noDbg_2 n1)) pe_str (by rfl)) pss_nil), ?_⟩
  refine ⟨v, rfl, .ref a, rfl, a, C, rfl, T, nf, .inl ⟨ea, fun dx h1 h2 => ?_⟩⟩
  refine ⟨.ref a, rfl, a, C, rfl, T, nc, .inr ⟨dx, [(f, v)], upd_same, ?_, Nat.le_of_ble_eq_true rfl, q dx h1 h2⟩⟩
  rw [upd_ne h2, upd_same]
theorem fn_x0 (F : L2.Fun g.K x qual st fa fd) (S : FnScope [sf] [sf] (defScope st)) (hb : defBody st = [.Assign [.Attribute (.Name sf p5) cdS p6] (.Constant (.str t) j p7) p8])
    (n1 : noDbg sf = true) : FnOk g.prog g.w g.K g.mg g.base (L2.CX g.prog g.w) 1 fa fd [sf] (spX0 g.K t) := by
  refine F.okX (k := 0) S (fun vs H Q E ⟨_, _, e, _⟩ => by rw [e]; rfl) fun cdv A outer s H vs Q E hr ⟨a, C, e, T, ea, nc, q⟩ => ?_
  subst e
  rw [hb]
  have va := vis_p S (x := sf) List.mem_cons_self
  refine ⟨_, pss_one (ps_ost (pe_var (i := 0) rfl va (noDbg_1 n1) (noDbg_2 n1)) pe_str (by rfl)), ?_⟩
  exact ⟨.ref a, rfl, a, C, rfl, T, nc, .inl ⟨ea, fun dx h1 h2 => q dx h1 h2⟩⟩
end
/-- what the written part says of an own class of exceptions whose __init__ takes a field's value -/
structure Xc1 (g : G) (x : Str) (C fI : Addr) (f t : Str) : Prop where
  T : OexC g.K C
  iC : PySem.W.findIn g.K (.ref C) "__init__" = some (some (.ref fI))
  tI : PySem.W.typeIn g.K (.ref fI) = some (.type "function")
  m : g.mg x = some (.ref C)
  nf : PySem.W.findIn g.K (.ref C) f = some none
  nc : PySem.W.findIn g.K (.ref C) cdS = some none
  fn : ∃ fd ps, FnOk g.prog g.w g.K g.mg g.base (L2.CX g.prog g.w) 1 fI fd ps (spX1 g.K f t) ∧ Binds g.K fd ps []
structure Xc0 (g : G) (x : Str) (C fI : Addr) (t : Str) : Prop where
  T : OexC g.K C
  iC : PySem.W.findIn g.K (.ref C) "__init__" = some (some (.ref fI))
  tI : PySem.W.typeIn g.K (.ref fI) = some (.type "function")
  m : g.mg x = some (.ref C)
  nc : PySem.W.findIn g.K (.ref C) cdS = some none
  fn : ∃ fd ps, FnOk g.prog g.w g.K g.mg g.base (L2.CX g.prog g.w) 1 fI fd ps (spX0 g.K t) ∧ Binds g.K fd ps []
def cRaise1 (cn : Nat) (t : Str) (fe : M D) : M Fl := fun c => (fe c).bind fun d c' => .exc cn [.str t, d] c'
def cRaise0 (cn : Nat) (t : Str) : M Fl := fun c => .exc cn [.str t] c
section
variable {X : Cx} {g : G} {k : Nat} {N : List Str} {sc ws : Scope} {W : WX} {x f t : Str} {C fI : Addr} {cn : Nat} {e : Expr} {fe : M D} {p p' pos : Pos}
theorem noPass {X : Cx} : Passes (L2.CX X.prog X.w) X (fun _ _ _ => False) := passes_call takes_none5 fun _ _ _ _ h => h
theorem ss_raise1 (q : Good g k N X sc ws W) (K : Xc1 g x C fI f t) (hx : g.exc cn = some (C, [cdS, f])) (hg : isGl sc x = true) (hk : 2 ≤ k) (he : PE X e (tE g W fe)) (hs : isStar e = false) : PS X (.Raise (some (.Call (.Name x p) [e] [] p')) none pos) (tS g W (cRaise1 cn t fe)) := by
  obtain ⟨T, iC, tI, hm, nf, nc, fd, ps, F1, hb⟩ := K
  obtain ⟨hg, hd, _⟩ := q.gl hg
  rw [← q.hmg] at hm
  rw [← q.hK] at T iC tI nf nc F1 hb
  rw [← q.hP, ← q.hw, ← q.hmg, ← q.hbs] at F1
  refine ps_imp (ps_raise q.calm q.tk (pmk_oex T iC tI F1 (q.room.mono hk) hb (dvs := []) .nil noPass hg hm (pa_cons he pa_nil (star_plain hs)) hd (star_plain hs) (by rfl))) fun Dn σ H ⟨m, c, s, o⟩ => ?_
  refine ⟨m, c, s, o.bind.imp fun v H1 ⟨m1, d, c1, x1, s1, k1, o1⟩ => ⟨Nat.le_of_ble_eq_true rfl, fun a na => ⟨a, C, v, rfl, T, upd_same, nf, nc, fun dx h1 h2 => ⟨rfl, dx, [(cdS, .str t), (f, v)], ?_, upd_same, ?_, ?_⟩⟩⟩⟩
  · rw [upd_ne (Ne.symm h2), upd_same]
  · rw [upd_ne h2] at h1
    exact h1
  · rw [upd_ne h2] at h1
    have eq : upd (del (upd (upd (upd (upd H1 a (exo a C none)) dx (exd dx [(f, v)])) a (exo a C (some dx))) dx (exd dx [(cdS, .str t), (f, v)])) a) dx (.xd [(cdS, .str t), (f, v)]) = upd H1 dx (.xd [(cdS, .str t), (f, v)]) := by
      funext b
      by_cases hb : b = dx
      · rw [hb, upd_same, upd_same]
      · rw [upd_ne hb, upd_ne hb]
        by_cases ha : b = a
        · rw [ha, del_same, na]
        · rw [del_ne ha, upd_ne hb, upd_ne ha, upd_ne hb, upd_ne ha]
    rw [eq]
    obtain ⟨s2, x2⟩ := s1.frozen (u := .xd [(cdS, .str t), (f, v)]) h1
    exact o1 _ _ _ _ _ x2 s2 ⟨C, _, dx, [.str t, v], hx, rfl, rfl, upd_same, .cons (.str t) (.cons (k1.mono x2) .nil), rfl⟩
/-- C(), C's __init__ taking self alone -/
theorem pmk_0 {fd : FuncData} {ps : List Str} {sp : Sp} (T : OexC X.K C) (iC : PySem.W.findIn X.K (.ref C) "__init__" = some (some (.ref fI))) (tI : PySem.W.typeIn X.K (.ref fI) = some (.type "function"))
    (F1 : FnOk X.prog X.w X.K X.mg X.base (L2.CX X.prog X.w) 1 fI fd ps sp) (hr : Room 2 X.A) (hb : Binds X.K fd ps []) (hg : Gl X x) (hm : X.mg x = some (.ref C)) (hd : (x == ("__debug__" : Str)) = false) :
    PMk X (.Call (.Name x p) [] [] p') (tMkO C sp [] tNil) := by
  intro pins s σ H Q I h
  obtain ⟨nm, qn, N', bs, bm, sn, sub, ab, col, dd, k0, k1, k2, k3, k5, hC, hbm⟩ := T.cls
  have call0 : ∀ s1 : Shared, Inv X pins σ H s1 → wpAny (model X.prog X.w) X.A (call (.ref C) []) (MkP X pins σ Q) X.xe s1 := fun s1 I1 => by
    obtain ⟨_, q1⟩ := h
    obtain ⟨hp, gs, dr, tk, os⟩ := s1
    have hsz : hp.objs.size ≤ hp.objs.size + 1 := Nat.le_succ _
    have hq := q1 (hp.objs.size + 1) (I1.hok.fresh hsz)
    have kk : ∀ b o, hp.get? b = some o → ((hp.push (PySem.W.kdv_tup [])).push (HandSPX.excO C hp.objs.size)).get? b = some o := fun b o z => Heap.get?_push_of_some _ (Heap.get?_push_of_some _ z)
    have hget : ((hp.push (PySem.W.kdv_tup [])).push (HandSPX.excO C hp.objs.size)).get? (hp.objs.size + 1) = some (HandSPX.excO C hp.objs.size) := by heap_get
    have I2 := I1.laid (t' := tk) (o := exo (hp.objs.size + 1) C none) (h' := (hp.push (PySem.W.kdv_tup [])).push (HandSPX.excO C hp.objs.size)) kk hsz (exo_ok hget)
    have hl : ([Value.ref (hp.objs.size + 1)] : List Value).length = ps.length := by rw [← F1.len _ _ _ _ hq]; rfl
    refine wpAny_call (HandSPX.call_own F.excBase_ValueError (fun Y => HandSPX.refsVE_contains Y bm hbm) (I1.kIn _ _ hC) (PySem.W.looks_findIn I1.kIn iC) (fun self => PySem.W.bind_fn I1.kIn self tI) (Nat.zero_le _) ?_)
    have b0 := hb ⟨_, gs, dr, tk, os⟩ [Value.ref (hp.objs.size + 1)] I2.kIn (by rw [List.append_nil]; exact hl)
    rw [List.append_nil] at b0
    refine codeAny_mono (F1.run _ X.stack _ _ ⟨[Value.ref (hp.objs.size + 1)], []⟩ _ [V.ref (hp.objs.size + 1)] _ (fun _ _ _ => False) (hr.make C [] []) (I2.env0.make C [] []) b0 (.cons rfl .nil) hq) fun r s' hq' => ?_
    match r, hq' with
    | .error er, hq' => exact noPass pins σ _ _ er s' I2 hq'
    | .ok (.ret u), hq' =>
      obtain ⟨v, H2, os2, bare2, un2, hok2, rv, ev, d, fs, ea, ed, hd1, q2⟩ := hq'
      subst ev
      obtain ⟨h2, g2, d2, t2, os'⟩ := s'
      exact ⟨rv, mk_end (raises_own T.exC T.tyC) I1 hsz kk un2 hok2 os2 bare2 ea ed hd1 q2⟩
  refine wpAny_Call_Name_kw (ld_glob I hg hm ?_ hd)
  exact PySem.W.callWith_K0 I.kIn T.kC (call0 s I)
theorem ss_raise0 (q : Good g k N X sc ws W) (K : Xc0 g x C fI t) (hx : g.exc cn = some (C, [cdS])) (hg : isGl sc x = true) (hk : 2 ≤ k) : PS X (.Raise (some (.Call (.Name x p) [] [] p')) none pos) (tS g W (cRaise0 cn t)) := by
  obtain ⟨T, iC, tI, hm, nc, fd, ps, F1, hb⟩ := K
  obtain ⟨hg, hd, _⟩ := q.gl hg
  rw [← q.hmg] at hm
  rw [← q.hK] at T iC tI nc F1 hb
  rw [← q.hP, ← q.hw, ← q.hmg, ← q.hbs] at F1
  refine ps_imp (ps_raise q.calm q.tk (pmk_0 T iC tI F1 (q.room.mono hk) hb hg hm hd)) fun Dn σ H1 ⟨m, c, s1, o1⟩ => ?_
  refine ⟨by decide, fun a na => ⟨a, C, rfl, T, upd_same, nc, fun dx h1 h2 => ⟨rfl, dx, [(cdS, .str t)], upd_same, ?_, ?_, ?_⟩⟩⟩
  · rw [upd_ne h2, upd_same]
  · rw [upd_ne h2] at h1
    exact h1
  · rw [upd_ne h2] at h1
    have eq : upd (del (upd (upd (upd H1 a (exo a C none)) dx (exd dx [(cdS, .str t)])) a (exo a C (some dx))) a) dx (.xd [(cdS, .str t)]) = upd H1 dx (.xd [(cdS, .str t)]) := by
      funext b
      by_cases hb : b = dx
      · rw [hb, upd_same, upd_same]
      · rw [upd_ne hb, upd_ne hb]
        by_cases ha : b = a
        · rw [ha, del_same, na]
        · rw [del_ne ha, upd_ne ha, upd_ne hb, upd_ne ha]
    rw [eq]
    obtain ⟨s2, x2⟩ := s1.frozen (u := .xd [(cdS, .str t)]) h1
    exact o1 _ _ _ _ _ x2 s2 ⟨C, _, dx, [.str t], hx, rfl, rfl, upd_same, .cons (.str t) .nil, rfl⟩
end
end CL
namespace CL
open PySem PySem.Spec PyProof.Rows L2

/-! ## within an except suite -/
structure GoodH (g : G) (k : Nat) (N : List Str) (X : Cx) (sc : Scope) : Prop where
  hN : X.N = N
  nd : N.Nodup
  hsc : X.env.scope = sc
  room : L2H.RoomH k X.A
  hK : X.K = g.K
  hP : X.prog = g.prog
  hw : X.w = g.w
  hmg : X.mg = g.mg
  hbs : X.base = g.base
section
variable {g : G} {k : Nat} {N : List Str} {X : Cx} {sc : Scope} {pos : Pos}
theorem hq_var {x : Str} {i : Nat} (q : GoodH g k N X sc) (hN : N[i]? = some x) (hv : isVis (sc.names.lookup x) = true) (hd : noDbg x = true) : PE X (.Name x pos) (tE g WF (cVar i)) :=
  se_var (by rw [q.hN]; exact hN) (by rw [q.hsc]; exact vis_of hv) (noDbg_1 hd) (noDbg_2 hd)
theorem hq_mop {f : Value → Value → Sem Value} {r : PySem.W.Frag → R2} {h : D → D → M D} (q : GoodH g k N X sc) (ho : OpR X f (r X.K)) (hs : S2 g (r g.K) h) : MOp X g WF f h := by
  rw [q.hK] at ho
  exact mop_of ho hs
theorem hq_eq (q : GoodH g k N X sc) : MOp X g WF (compareOp .Eq) dEq := hq_mop (r := rEqD) q (op_eqD (by have := q.room.un; omega)) s2_eq
theorem hq_in (q : GoodH g k N X sc) : MOp X g WF (compareOp .In) (dIn false) := hq_mop (r := fun K => rInA K false) q (op_inA (by have := q.room.un; omega)) s2_in
theorem GoodH.gl (q : GoodH g k N X sc) {x : Str} (h : isGl sc x = true) : Gl X x ∧ (x == ("__debug__" : Str)) = false ∧ x ≠ "__name__" := by
  unfold isGl at h
  split at h
  · rename_i e
    rw [Bool.and_eq_true] at h
    refine ⟨?_, by simpa using h.1, fun z => ?_⟩
    · show X.env.scope.names.lookup x = _
      rw [q.hsc]
      exact e
    · have h2 := h.2
      rw [z] at h2
      revert h2
      decide
  · cases h
end
/-- a def that is called there -/
def FnCH (g : G) (k : Nat) (f : Addr) (fn : Fn) : Prop := ∀ (A : Around) (outer : List Env) (s : Shared) (H : Hp) (us : List Value) (vs : List V) (Q : VK) (E : XK), L2H.RoomH k A → Env0 g.prog g.w g.K g.mg g.base A outer s H → Vals vs us → spOf g fn vs H Q E →
  codeAny (model g.prog g.w) A (.call (.ref f) ⟨us, []⟩) (CR (L2.CX g.prog g.w) outer g.prog g.w H s Q E) s
theorem outS_W {g : G} {W W' : WX} {m : Mp} {r : R Fl} {Dn : Ends} (hne : ∀ cn vs c, r ≠ .exc cn vs c) (o : OutS g W m r Dn) : OutS g W' m r Dn := by
  cases r with
  | ok a c => cases a <;> exact o
  | exc cn vs c => exact absurd rfl (hne cn vs c)
  | stuck => exact o.elim
/-- nothing is raised -/
def noX (r : R Fl) : R Fl := match r with
  | .exc _ _ _ => .stuck
  | r => r
theorem fn_cH {g : G} {x qual : Str} {st : Stmt} {f : Addr} {fd : FuncData} {N ps : List Str} {k : Nat} {fb : M Fl} (F : L2.Fun g.K x qual st f fd) (S : FnScope N ps (defScope st)) (hb : Binds g.K fd ps [])
    (h : ∀ X : Cx, GoodH g k N X (defScope st) → PSs X (defBody st) (tS g WF fb)) : FnCH g (k + 1) f (fnB N.length ps.length fun c => noX (fb c)) := by
  intro A outer s H us vs Q E hr e0 rv hs
  obtain ⟨oc, od, kV, doc, pm, an, cdv, ct, osl, rfl, lk, hcd⟩ := F.ex
  obtain ⟨m, S', ds, sm, hv, o⟩ := hs
  unfold fnB at o
  cases e : decide (ds.length = ps.length) with
  | false => rw [e] at o; exact o.elim
  | true =>
    rw [e] at o
    have hl : vs.length = ps.length := by rw [← hv.length]; exact of_decide_eq_true e
    have hu : us.length = ps.length := by rw [← rv.length]; exact hl
    have KX : g.K.In s.heap := e0.mod.kin.keeps fun b ob z => (e0.bs b ob z).1
    have lim : s.heap.NoLimit := e0.mod.nolimit.keeps fun b ob z => (e0.bs b ob z).1
    have b0 := hb s us KX (by rw [List.append_nil]; exact hu)
    rw [List.append_nil] at b0
    have hkind : ∀ y ∈ ps.zip us, (defScope st).names.lookup y.1 = some .local ∨ ((defScope st).names.lookup y.1 = some .cell ∧ ((cellsFrom (s.heap.objs.size + 1) (defScope st).names []).lookup y.1).isSome = true) := fun ⟨n, _⟩ hy =>
      (S.par n (List.of_mem_zip hy).1).elim .inl fun z => .inr ⟨z, PySem.W.cellsFrom_some _ _ _ (.inl z)⟩
    refine codeAny_call_function hr.depth (KX _ _ lk) rfl S.co S.gen rfl (PySem.W.codeRec_of KX hcd) (b0 _ _ _ _ ?_)
    refine wpAny_newFunctionEnv_cells S.kind hkind fun env he s1 x => ?_
    subst he
    refine ⟨lim.keeps x.toInCall.keep, codeAny_func ?_⟩
    have e1 : Env0 g.prog g.w g.K g.mg g.base ({ A with handled := none } : Around) outer s H := ⟨e0.frames, e0.mod, e0.bs, e0.bsz, e0.funs, e0.frf, e0.hok, e0.bare⟩
    have I0 := inv_start (CX := L2.CX g.prog g.w) (qual := qual) (f := f) (cd := cdv) (E := E) S rfl e1 hl rv x
    let Z : Cx := { cxOf (L2.CX g.prog g.w) g.prog g.w g.K g.mg g.base N qual (defScope st) f cdv A outer s H E with calm := false }
    have okZ : Z.Ok := ⟨I0.ok.mod, I0.ok.kind, I0.ok.glob, I0.ok.blt, I0.ok.above, I0.ok.inj, I0.ok.has, I0.ok.cab, (fun z => nomatch (show false = true from z)), Around.frames_deeper e0.frames, I0.ok.stk, I0.ok.exf, I0.ok.bs, I0.ok.bsz, I0.ok.noex, I0.ok.exfs, I0.ok.funs, I0.ok.frf⟩
    have I : Inv Z [] (L2.start N vs) H s1 := ⟨okZ, I0.os, I0.bare, I0.base, I0.loc, I0.cell, I0.free, I0.freeC, I0.pin, I0.hok, I0.len⟩
    have GH : GoodH g k N Z (defScope st) := ⟨rfl, S.nd, rfl, hr.deeper _, rfl, rfl, rfl, rfl, rfl⟩
    have o2 : OutS g WF m (fb (startC N.length ds S')) { nx := fun _ H' => Q .non H', rt := Q } := by
      cases q : fb (startC N.length ds S') with
      | ok a c =>
        have o : OutF g m (outF (noX (fb (startC N.length ds S')))) Q E := o
        rw [q] at o
        exact outS_W (W := fun C d _ H' => E C d H') (fun _ _ _ z => nomatch z) (outS_F (S := S') (fun _ _ _ _ h => h) o)
      | exc cn ws c =>
        have o : OutF g m (outF (noX (fb (startC N.length ds S')))) Q E := o
        rw [q] at o
        exact o.elim
      | stuck =>
        have o : OutF g m (outF (noX (fb (startC N.length ds S')))) Q E := o
        rw [q] at o
        exact o.elim
    refine wpAny_mono ((h Z GH).run [] s1 (L2.start N vs) H _ I ⟨m, _, sm.start hv, o2⟩) (fun fl s' hs => ?_) fun er s' hs => hs
    have fin : ∀ {σ' : L2.St} {H' : Hp} {v : V} {u : Value}, Inv Z [] σ' H' s' → L2.RelV v u → Q v H' → CE outer g.prog g.w H s Q u s' :=
      fun {σ' H' v u} J r q => ⟨v, H', J.os, J.bare, J.base, J.hok, r, q⟩
    match fl, hs with
    | .ret u, ⟨v, σ', H', J, r, q⟩ => exact fin J r q
    | .next, ⟨σ', H', J, q⟩ => exact fin (v := V.non) (u := Value.none) J rfl q
    | .brk, ⟨_, _, _, q⟩ => exact False.elim q
    | .cont, ⟨_, _, _, q⟩ => exact False.elim q
theorem hx_call {g : G} {k j : Nat} {N : List Str} {X : Cx} {sc : Scope} {x : Str} {f : Addr} {fn : Fn} {e : Expr} {es : List Expr} {fa : M (List D)} {p pos : Pos} (q : GoodH g k N X sc) (F : FnCH g j f fn) (hj : j ≤ k) (hg : isGl sc x = true) (hm : g.mg x = some (.ref f)) (hk : PySem.W.keepIn g.K (.ref f) = true)
    (ha : PA X (e :: es) (tA g WF fa)) (hp : plainArgs (e :: es) = true) : PE X (.Call (.Name x p) (e :: es) [] pos) (tE g WF (cCall fn fa)) := by
  obtain ⟨p1, p2⟩ := plain_tail hp
  refine ⟨fun pins s σ H Q I ⟨m, c, sm, o⟩ => ?_⟩
  obtain ⟨hg, hd, _⟩ := q.gl hg
  rw [← q.hmg] at hm
  rw [← q.hK] at hk
  refine wpAny_Call_Name_kw (ld_glob I hg hm ?_ hd)
  refine PySem.W.callWith_K (h₀ := X.base) I.ok.mod.kin hk (thn (ha.run pos pins s σ H _ I ⟨m, c, sm, o.bind⟩) fun us s1 ⟨vs, H1, I1, r, m1, ds, c1, x1, s2, k1, o1⟩ => ⟨I1.kIn, ?_⟩) (star_plain p1) (plain_any p2)
  have e0 := I1.env0
  rw [q.hP, q.hw, q.hK, q.hmg, q.hbs] at e0
  have rc := F X.A X.stack s1 H1 us vs Q _ (q.room.mono hj) e0 r (call_sp (W := WF) s2 k1 o1)
  rw [← q.hP, ← q.hw] at rc
  refine wpAny_call (codeAny_mono rc fun r2 s' hq => ?_)
  match r2, hq with
  | .error er, hq => exact (noPass (X := X) pins σ H1 s1 er s' I1 (by
      obtain ⟨_, _, _, _, _, _, _, _, _, _, _, _, w⟩ := (show L2.CX X.prog X.w X.stack H1 s1 _ er s' from hq)
      exact w.elim))
  | .ok (.ret u), hq => exact I1.after hq

/-! ## the exception that is caught becomes a value -/
theorem fly_keep {B h h' : Heap} {l : List Env} {e : Addr} {Z : Obj → Prop} (R : HandSPX.FlyingZ B l e Z h) (k : ∀ b o, h.get? b = some o → h'.get? b = some o) : HandSPX.FlyingZ B l e Z h' := by
  obtain ⟨f1, f2, f3, oe, vs, T, oT, ts, he, hz, hd, h1, hn, hne, hT, hdT, h3⟩ := R
  exact ⟨fun b o q => k b o (f1 b o q), f2, f3.of_keeps fun b o q _ => ⟨o, k b o q, rfl⟩, oe, vs, T, oT, ts, k _ _ he, hz, hd, h1, hn, hne, k _ _ hT, hdT, h3⟩
theorem Inv.caught {X : Cx} {pins : List (Addr × Obj)} {σ : L2.St} {H : Hp} {s : Shared} (I : Inv X pins σ H s) {a C d : Addr} {vs : Array Value} {oe : Obj} (ha : s.heap.get? a = some oe) (hc : oe.cls = .ref C) (hd : oe.dict = some d) (hdt : oe.data = .fields vs) (na : H a = none) (nL : a ≠ X.env.locals)
    (n0 : X.s_0.heap.get? a = none) (np : ∀ p ∈ X.pn ++ pins, p.1 ≠ a) : Inv (X.suite a (X.pn ++ pins)) [] σ (upd H a (exq a C d)) s := by
  have ne : ∀ {b : Addr} {o : HO}, H b = some o → b ≠ a := fun e => ne_of_none e na
  refine ⟨I.ok.suite _ _, I.os, I.bare, ⟨I.base.keep, I.base.slot, fun b o e n hx => ?_, I.base.there, fun b xs e => ?_, fun b o u e => ?_, fun b ps e => ?_⟩, I.loc, I.cell, ?_, fun y c e => ?_, fun p hp => ?_, fun b o z => ?_, I.len⟩
  · have nb : b ≠ a := fun z => by rw [z] at e; exact absurd (e.symm.trans n0) (fun w => nomatch w)
    rw [upd_ne nb]
    exact I.base.free b o e n hx
  · have z := I.base.tups b xs e
    rw [upd_ne (ne z)]
    exact z
  · have z := I.base.frzs b o u e
    rw [upd_ne (ne z)]
    exact z
  · obtain ⟨more, z⟩ := I.base.tbls b ps e
    exact ⟨more, by rw [upd_ne (ne z)]; exact z⟩
  · rw [upd_ne (Ne.symm nL)]
    exact I.free
  · have nc : c ≠ a := fun z => by
      obtain ⟨v, o, ho, hd⟩ := I.cell y c e
      rw [z, ha] at ho
      cases ho
      rw [hdt] at hd
      cases hd
    rw [upd_ne nc]
    exact I.freeC y c e
  · have hp : p ∈ X.pn ++ pins := by rw [List.append_nil] at hp; exact hp
    obtain ⟨z1, z2, z3⟩ := I.pin p hp
    exact ⟨z1, by rw [upd_ne (np p hp)]; exact z2, z3⟩
  · by_cases hb : b = a
    · rw [hb, upd_same] at z
      cases z
      rw [hb]
      exact exq_ok ha hc hd hdt
    · rw [upd_ne hb] at z
      exact (I.hok b o z).stay (fun _ _ _ q => q) (fun c hc => by rw [upd_ne (ne hc)]; exact hc) fun c xs hc => by rw [upd_ne (ne hc)]; exact hc
theorem Inv.uncaught {X : Cx} {pins pn' : List (Addr × Obj)} {σ : L2.St} {H : Hp} {s : Shared} {a : Addr} (I : Inv (X.suite a (X.pn ++ pins)) pn' σ H s) (ok : X.Ok) : Inv X pins σ H s :=
  ⟨ok, I.os, I.bare, I.base, I.loc, I.cell, I.free, I.freeC, fun p hp => I.pin p (List.mem_append_left _ hp), I.hok, I.len⟩
/-- except (x1, x2) as n: what is wished of an exception of the body; i: n's slot, l: how many slots -/
def wTry (K : PySem.W.Frag) (c1 c2 : Value) (i l : Nat) (ts : TS) (Dn : Ends) : WX := fun cls d σ H => PySem.W.exmAny K cls [c1, c2] = some true ∧ ∃ C dd, cls = .ref C ∧ d = some dd ∧ ∀ a, H a = none → σ.length = l →
  ts { nx := fun σ' H' => Dn.nx (σ'.set i none) H', rt := Dn.rt, bk := fun σ' H' => Dn.bk (σ'.set i none) H', ct := fun σ' H' => Dn.ct (σ'.set i none) H' } (σ.set i (some (.ref a))) (upd H a (exq a C dd))
section
variable {X : Cx} {x1 x2 n : Str} {c1 c2 : Value} {i kk : Nat} {body suite : List Stmt} {b0 : Stmt} {q1 q2 tp pos pos' : Pos} {tb : WX → TS} {ts : TS}
theorem ps_try2 (hst : X.stack = X.env :: X.outer) (hf : X.env.frame = some X.env.locals) (hex : X.ex = []) (hN : X.N.Nodup) (hi : X.N[i]? = some n) (hln : X.env.kindOf n = some .local) (hc1 : Gl X x1 ∧ (x1 == ("__debug__" : Str)) = false ∧ X.mg x1 = some c1) (hc2 : Gl X x2 ∧ (x2 == ("__debug__" : Str)) = false ∧ X.mg x2 = some c2)
    (hb : ∀ (W : WX) (pn : List (Addr × Obj)) (xe : Value → Shared → Prop), Takes (X.tr pn xe) W → PassesOwn (model X.prog X.w) X.A X.env xe → PSs (X.tr pn xe) body (tb W))
    (hsu : ∀ (a : Addr) (pn : List (Addr × Obj)), PSs (X.suite a pn) (b0 :: suite) ts) :
    PS X (.Try body [.ExceptHandler (some (.Tuple [.Name x1 q1, .Name x2 q2] kk tp)) (some n) (b0 :: suite) pos'] [] [] pos) (fun Dn σ H => tb (wTry X.K c1 c2 i X.N.length ts Dn) Dn σ H) := by
  refine ⟨fun pins s σ H Dn I h => ?_⟩
  have ok := I.ok
  have hfr : X.A.frames = some (X.env :: X.outer) := by rw [ok.frames, hst]
  refine wpAny_Try_except (wpAny_mono ((hb (wTry X.K c1 c2 i X.N.length ts Dn) (X.pn ++ pins) (fun e s₁ => wpAny (model X.prog X.w) X.A (noteFrame e X.env) (fun _ s₂ => wpAny (model X.prog X.w) X.A (setFlight e none) (fun _ s₃ => wpAny (model X.prog X.w) X.A (handleBy e X.env [.ExceptHandler (some (.Tuple [.Name x1 q1, .Name x2 q2] kk tp)) (some n) (b0 :: suite) pos']) (SP X pins Dn) X.xe s₃) X.xe s₂) X.xe s₁) (fun u s' xx => ?_) PassesOwn.looking).run [] s σ H Dn (I.toTry _) h) (fun f s1 hsp => ?_) (fun e s1 he => he))
  · obtain ⟨a, B, sI, pins', σ', H', cls, d, rfl, J', nb, up, sky, na, os, ag, hx, C, dd, rfl, rfl, go⟩ := xx
    have J : Inv X pins σ' H' sI := J'.ofTry ok
    have go := go a na J.len
    have sky' : Sky B (X.env :: X.outer) a (Zc (.ref C) (some dd)) X.env.locals s'.heap := by rw [← hst]; exact sky
    show wpAny (model X.prog X.w) X.A (noteFrame (.ref a) X.env) _ _ _
    refine Sky.land Zc.steady hfr hf sky' fun h3 fl3 up3 => ?_
    have J3 : Inv X pins σ' H' { s' with heap := h3 } := J.landed nb fl3.1 (up.trans up3) os ag
    have frOf : ∀ {h : Heap} {o : Obj} {vs : Array Value}, h.FunFrames B (X.env :: X.outer) → h.get? a = some o → o.data = .fields vs → a ∉ frs (X.env :: X.outer) := fun ff e dt hm => by
      obtain ⟨_, o', e', hnf⟩ := ff.mem hm
      cases e.symm.trans e'
      exact hnf _ dt
    obtain ⟨oe3, vs3, he3, hz3, hd3⟩ := fl3.there
    have nfr := frOf fl3.2.2.1 he3 hd3
    have nL : a ≠ X.env.locals := fun z => nfr (List.mem_filterMap.mpr ⟨X.env, List.mem_cons_self, by rw [hf, z]⟩)
    have nF : a ∉ X.fs := fun hm => nfr (by
      obtain ⟨v, hv, q⟩ := List.mem_filterMap.mp hm
      exact List.mem_filterMap.mpr ⟨v, List.mem_cons_of_mem _ hv, q⟩)
    have S3 := J3.suite he3 hd3 na nL nF
    -- what stood at the entry, what is pinned, is not the exception
    have nI : ∀ o, sI.heap.get? a ≠ some o := fun o z => by
      have w := nb a o z (by rw [hst]; exact nfr)
      rw [fl3.2.1] at w
      cases w
    have n0 : X.s_0.heap.get? a = none := by
      cases q : X.s_0.heap.get? a with
      | none => rfl
      | some o =>
        obtain ⟨o', z⟩ := J.base.there a o q (by rw [hex]; exact List.not_mem_nil)
        exact absurd z (nI o')
    have np : ∀ p ∈ X.pn ++ pins, p.1 ≠ a := fun p hp z => nI p.2 (by rw [← z]; exact (J.pin p hp).1)
    refine wpAny_handleBy_cons (codeAny_handlers_test ?_) (by intro q; cases q)
    refine wpAny_Tuple (wpAny_items_cons (ld_glob (X := X.suite a ((a, oe3) :: (X.pn ++ pins))) S3 hc1.1 hc1.2.2 ?_ hc1.2.1))
    refine wpAny_items_cons (ld_glob (X := X.suite a ((a, oe3) :: (X.pn ++ pins))) S3 hc2.1 hc2.2.2 ?_ hc2.2.1)
    refine wpAny_items_nil ⟨by size_fits, ?_⟩
    have kp : ∀ q o, h3.get? q = some o → (h3.push { cls := .type "tuple", data := .seq [c1, c2].toArray }).get? q = some o := fun _ _ z => Heap.get?_push_of_some _ z
    have LT : PySem.W.Looks (model X.prog X.w) h3 (typeOf (.ref a)) (.ref C) := fun A Q E t k q => wpAny_typeOf_ref (k _ _ he3) (by rw [hz3.1]; exact q)
    refine (PySem.W.exm_tup2 (J3.kIn.keeps kp) (LT.keeps kp) (Heap.get?_push_size h3 rfl) hx).here ?_
    have fl4 := fly_keep fl3 kp
    have up4 : s'.heap.UpToSlots (h3.push { cls := .type "tuple", data := .seq [c1, c2].toArray }) := up3.trans (Heap.UpToSlots.of_keeps kp)
    refine codeAny_handlers_suite_as ?_
    refine HandSPX.lands_againZ fl4 fun h5 fl5 up5 => ?_
    have J5 : Inv X pins σ' H' { s' with heap := h5 } := J.landed nb fl5.1 ((up.trans up4).trans up5) os ag
    obtain ⟨oe5, vs5, he5, hz5, hd5⟩ := fl5.there
    have S5 := Inv.caught J5 he5 hz5.1 hz5.2 hd5 na nL n0 np
    refine store_ok (X := X.suite a (X.pn ++ pins)) (v := .ref a) S5 hN hi (.inl hln) rfl (fun s6 S6 => ?_) (.inr hln)
    refine wpAny_mono ((hsu a (X.pn ++ pins)).run [] s6 _ _ _ S6 go) (fun f s7 hsp => ?_) (fun _ _ z => False.elim z)
    have end_ : ∀ {σ6 : L2.St} {H6 : Hp} {Q : Shared → Prop}, Inv (X.suite a (X.pn ++ pins)) [] σ6 H6 s7 → (∀ s8, Inv X pins (σ6.set i none) H6 s8 → Q s8) → wpAny (model X.prog X.w) X.A (do bindName X.env n .none; unbindBehindTheSuite X.env n pos') (fun _ s8 => Q s8) X.xe s7 := fun S7 hq => gone_ok (Inv.uncaught S7 ok) hN hi hln hq
    match f, hsp with
    | .next, ⟨σ6, H6, S7, q6⟩ => exact end_ S7 fun s8 J8 => ⟨_, _, J8, q6⟩
    | .brk, ⟨σ6, H6, S7, q6⟩ => exact end_ S7 fun s8 J8 => ⟨_, _, J8, q6⟩
    | .cont, ⟨σ6, H6, S7, q6⟩ => exact end_ S7 fun s8 J8 => ⟨_, _, J8, q6⟩
    | .ret u, ⟨v6, σ6, H6, S7, r6, q6⟩ => exact end_ S7 fun s8 J8 => ⟨_, _, _, J8, r6, q6⟩
  · match f, hsp with
    | .next, ⟨σ', H', J', q⟩ => exact wpAny_execs_nil ⟨σ', H', J'.ofTry ok, q⟩
    | .brk, ⟨σ', H', J', q⟩ => exact ⟨σ', H', J'.ofTry ok, q⟩
    | .cont, ⟨σ', H', J', q⟩ => exact ⟨σ', H', J'.ofTry ok, q⟩
    | .ret u, ⟨v, σ', H', J', r, q⟩ => exact ⟨v, σ', H', J'.ofTry ok, r, q⟩
end
end CL
namespace CL
open PySem PySem.Spec PyProof.Rows L2

/-! ## a lambda is made -/
/-- a lambda's object; dv: its defaults -/
abbrev lamD (q : Str) (params : Arguments) (body : Expr) (scope : Scope) (cl : List (Str × Addr)) (dv pm cdv ctv : Value) : FuncData :=
  { PySem.W.kla_fn "<lambda>" q params body scope cl pm cdv ctv with defaults := dv }
abbrev lamO (q : Str) (params : Arguments) (body : Expr) (scope : Scope) (cl : List (Str × Addr)) (dv pm cdv ctv : Value) : Obj := { cls := .type "function", data := .func (lamD q params body scope cl dv pm cdv ctv) }
section
variable {M : Model} {A : Around} {E : Value → Shared → Prop} {s : Shared} {q : Str} {params : Arguments} {body : Expr} {scope : Scope} {env : Env} {c P : Addr} {ps : Array Value} {pos : Pos} {fl : Nat} {mg : Str → Option Value} {clos : List (Str × Addr)} {dv : Value} {Q : Value → Shared → Prop}
theorem tail_new (hcl : closureFor scope env = pure clos) (g0 : env.globals = mainGlobals) (hg : s.heap.Ns mainGlobals mg) (hcode : env.code = .ref c) (C : PySem.W.CodeHd s.heap c P) (hP : s.heap.get? P = some { cls := .none, data := .fields ps }) (ht : TriplesOk ps.toList)
    (hnf : codeAmong pos ps.toList = none) (gP : mainGlobals ≠ P) (hb : s.heap.BuiltinsAt mg P)
    (h : ∀ c' ctv h' tk, Heap.ExtBut P s.heap h' → s.heap.objs.size ≤ c' → c' < h'.objs.size → h'.CodeRec (.ref c') q → h'.get? P = some { cls := .none, data := .fields (ps ++ #[rawInt pos.line, rawInt pos.col, .ref c']) } →
      Q (.ref h'.objs.size) { s with heap := h'.push (lamO q params body scope clos dv ((mg "__name__").getD .none) (.ref c') ctv), toks := tk }) :
    wpAny M A (makeTail "<lambda>" q params (.expr body) scope env dv .none none pos fl) Q E s := by
  obtain ⟨bm, ob, hbm, ne0, _, neP, hbo, hcls, hdict, hdata⟩ := hb
  have go : ∀ (ctv : Value) (h0 : Heap), (∀ b o, s.heap.get? b = some o → h0.get? b = some o) → s.heap.objs.size ≤ h0.objs.size → h0.Ns mainGlobals mg →
      wpAny M A (functionCode env pos fl "<lambda>" q params scope (.expr body)) (fun cv s1 => wpAny M A (builtinsFor mainGlobals env.builtins) (fun b s2 => wpAny M A (nsGet mainGlobals "__name__") (fun nm s3 => wpAny M A (newObj (.type "function") (.func (lamD q params body scope clos dv (nm.getD .none) cv ctv |> fun (fd : FuncData) => { fd with builtins := b }))) Q E s3) E s2) E s1) E { s with heap := h0 } := fun ctv h0 k0 z0 hg0 => by
    refine wpAny_functionCodeX hcode ((C.keeps k0).code (k0 _ _ hP) ht) ((C.keeps k0).tab (k0 _ _ hP)) hnf fun c' h' tk hx hge hlt _ hrec htb _ => ?_
    have hg' := hg0.extBut hx gP
    refine wpAny_builtinsFor hg' hbm ne0 (hx _ _ neP (k0 _ _ hbo)) hcls hdict hdata (wpAny_nsGet hg' ?_)
    exact wpAny_newObj_type (h c' ctv h' tk (fun b o hb' e => hx b o hb' (k0 b o e)) (Nat.le_trans z0 hge) hlt hrec htb.2) (by size_fits)
  unfold makeTail
  rw [hcl, g0]
  refine wpAny_bind (wpAny_pure ?_)
  cases clos with
  | nil =>
    simp only [List.isEmpty_nil, if_true]
    refine wpAny_bind (wpAny_pure (wpAny_bind (wpAny_mono (go .none s.heap (fun _ _ e => e) (Nat.le_refl _) hg) (fun cv s1 h1 => wpAny_bind (wpAny_mono h1 (fun b s2 h2 => wpAny_bind (wpAny_mono h2 (fun nm s3 h3 => wpAny_bind (wpAny_pure h3)) fun _ _ z => z)) fun _ _ z => z)) fun _ _ z => z)))
  | cons y r =>
    simp only [List.isEmpty_cons, Bool.false_eq_true, if_false]
    refine wpAny_bind (wpAny_newTextTuple (wpAny_bind (wpAny_mono (go (.ref s.heap.objs.size) _ (fun b o e => Heap.get?_push_of_some _ e) (by rw [Heap.size_push]; omega) (hg.push _)) (fun cv s1 h1 => wpAny_bind (wpAny_mono h1 (fun b s2 h2 => wpAny_bind (wpAny_mono h2 (fun nm s3 h3 => wpAny_bind (wpAny_pure h3)) fun _ _ z => z)) fun _ _ z => z)) fun _ _ z => z)))
theorem tail_hit {cv : Value} (hcl : closureFor scope env = pure clos) (g0 : env.globals = mainGlobals) (hg : s.heap.Ns mainGlobals mg) (hcode : env.code = .ref c) (C : PySem.W.CodeHd s.heap c P) (hP : s.heap.get? P = some { cls := .none, data := .fields ps }) (ht : TriplesOk ps.toList)
    (hf : codeAmong pos ps.toList = some cv) (hb : s.heap.BuiltinsAt mg P)
    (h : ∀ (ctv : Value) (h' : Heap) (tk : Tok), (∀ b o, s.heap.get? b = some o → h'.get? b = some o) → s.heap.objs.size ≤ h'.objs.size →
      Q (.ref h'.objs.size) { s with heap := h'.push (lamO q params body scope clos dv ((mg "__name__").getD .none) cv ctv), toks := tk }) :
    wpAny M A (makeTail "<lambda>" q params (.expr body) scope env dv .none none pos fl) Q E s := by
  obtain ⟨bm, ob, hbm, ne0, _, neP, hbo, hcls, hdict, hdata⟩ := hb
  have go : ∀ (ctv : Value) (h0 : Heap), (∀ b o, s.heap.get? b = some o → h0.get? b = some o) → s.heap.objs.size ≤ h0.objs.size → h0.Ns mainGlobals mg →
      wpAny M A (functionCode env pos fl "<lambda>" q params scope (.expr body)) (fun cv s1 => wpAny M A (builtinsFor mainGlobals env.builtins) (fun b s2 => wpAny M A (nsGet mainGlobals "__name__") (fun nm s3 => wpAny M A (newObj (.type "function") (.func (lamD q params body scope clos dv (nm.getD .none) cv ctv |> fun (fd : FuncData) => { fd with builtins := b }))) Q E s3) E s2) E s1) E { s with heap := h0 } := fun ctv h0 k0 z0 hg0 => by
    refine wpAny_functionCode_hit hcode ((C.keeps k0).code (k0 _ _ hP) ht) hf ?_
    refine wpAny_builtinsFor hg0 hbm ne0 (k0 _ _ hbo) hcls hdict hdata (wpAny_nsGet hg0 ?_)
    exact wpAny_newObj_type (h ctv h0 s.toks k0 z0) (by size_fits)
  unfold makeTail
  rw [hcl, g0]
  refine wpAny_bind (wpAny_pure ?_)
  cases clos with
  | nil =>
    simp only [List.isEmpty_nil, if_true]
    refine wpAny_bind (wpAny_pure (wpAny_bind (wpAny_mono (go .none s.heap (fun _ _ e => e) (Nat.le_refl _) hg) (fun cv s1 h1 => wpAny_bind (wpAny_mono h1 (fun b s2 h2 => wpAny_bind (wpAny_mono h2 (fun nm s3 h3 => wpAny_bind (wpAny_pure h3)) fun _ _ z => z)) fun _ _ z => z)) fun _ _ z => z)))
  | cons y r =>
    simp only [List.isEmpty_cons, Bool.false_eq_true, if_false]
    refine wpAny_bind (wpAny_newTextTuple (wpAny_bind (wpAny_mono (go (.ref s.heap.objs.size) _ (fun b o e => Heap.get?_push_of_some _ e) (by rw [Heap.size_push]; omega) (hg.push _)) (fun cv s1 h1 => wpAny_bind (wpAny_mono h1 (fun b s2 h2 => wpAny_bind (wpAny_mono h2 (fun nm s3 h3 => wpAny_bind (wpAny_pure h3)) fun _ _ z => z)) fun _ _ z => z)) fun _ _ z => z)))
end
/-- a code object is made: the clean state follows -/
theorem Sim.lam {g : G} {m : Mp} {c : CS} {σ : L2.St} {H : Hp} (s : Sim g m c σ H) {P c' : Addr} {q : Str} {ps : Array Value} {pos : Pos} (hP : H P = some (.tbl ps)) (hc : H c' = none) (ht : TriplesOk ps.toList) (hT : ∀ p ∈ g.T, p.1 = P → p.2 = q) :
    Sim g { m with F := upd m.F c' (LamX.CodeO c' q) } c σ (upd (upd H P (.tbl (ps ++ #[rawInt pos.line, rawInt pos.col, .ref c']))) c' (LamX.CodeO c' q)) ∧ Ext m { m with F := upd m.F c' (LamX.CodeO c' q) } := by
  have hF : m.F c' = none := by
    cases e : m.F c' with
    | none => rfl
    | some o => rw [s.fr _ o e] at hc; cases hc
  have ex : Ext m { m with F := upd m.F c' (LamX.CodeO c' q) } := ⟨fun _ _ z => z, fun a o z => by
    show upd m.F _ _ a = some o
    rw [upd_ne (ne_of_none z hF)]
    exact z, rfl, rfl⟩
  have nP : ∀ {a : Addr} {o : HO}, H a = some o → (∀ ps, o ≠ .tbl ps) → a ≠ P := fun {a o} e n z => by
    rw [z, hP] at e
    exact n ps (Option.some.inj e).symm
  have nPc : P ≠ c' := ne_of_none hP hc
  have at_ : ∀ {a : Addr} {o : HO}, H a = some o → (∀ ps, o ≠ .tbl ps) → upd (upd H P (.tbl (ps ++ #[rawInt pos.line, rawInt pos.col, .ref c']))) c' (LamX.CodeO c' q) a = H a := fun e n => by rw [upd_ne (ne_of_none e hc), upd_ne (nP e n)]
  have nt : ∀ {u : HO}, Mut (some u) → ∀ ps, u ≠ .tbl ps := fun y ps z => by subst z; exact y
  refine ⟨⟨fun a o z => ?_, s.nd, ⟨s.tb.1.put LamX.codeO_ne, fun p hp => ?_⟩, s.len, s.ini, s.ln, fun n a o h1 h2 => ?_, fun a o z => ?_, fun i t h => ?_⟩, ex⟩
  · have z : upd m.F c' (LamX.CodeO c' q) a = some o := z
    by_cases e : a = c'
    · rw [e, upd_same] at z ⊢
      exact z
    · rw [upd_ne e] at z
      have z2 := s.fr a o z
      rw [at_ z2 fun ps w => s.tb.1 a ps (by rw [← w]; exact z)]
      exact z2
  · obtain ⟨ps', a1, a2, a3⟩ := s.tb.2 p hp
    by_cases hb : p.1 = P
    · rw [hb, hP] at a1
      cases a1
      refine ⟨_, by rw [hb, upd_ne nPc, upd_same], by rw [show (ps ++ #[rawInt pos.line, rawInt pos.col, .ref c']).toList = ps.toList ++ [rawInt pos.line, rawInt pos.col, .ref c'] by simp]; exact PySem.TriplesOk_snoc _ _ _ _ ht, fun p' cv hcv => ?_⟩
      rw [show (ps ++ #[rawInt pos.line, rawInt pos.col, .ref c']).toList = ps.toList ++ [rawInt pos.line, rawInt pos.col, .ref c'] by simp] at hcv
      rcases LamX.among_app _ ht hcv with z | z
      · obtain ⟨c0, e1, e2⟩ := a3 p' cv z
        exact ⟨c0, e1, ex.f _ _ e2⟩
      · exact ⟨c', z, by rw [hT p hp hb]; exact upd_same⟩
    · refine ⟨ps', by rw [upd_ne (ne_of_none a1 hc), upd_ne hb]; exact a1, a2, fun p' cv hcv => ?_⟩
      obtain ⟨c0, e1, e2⟩ := a3 p' cv hcv
      exact ⟨c0, e1, ex.f _ _ e2⟩
  · obtain ⟨k1, k2⟩ := s.st n a o h1 h2
    obtain ⟨u, y1, y2⟩ := k2.here
    refine ⟨?_, k2.mono ex (at_ y1 (nt y2))⟩
    show upd m.F _ _ a = none
    rw [upd_ne (ne_of_none y1 hc)]
    exact k1
  · obtain ⟨z1, z2, z3, z4⟩ := s.bk a o z
    refine ⟨by rw [at_ z1 z4]; exact z1, ?_, z3, z4⟩
    show upd m.F _ _ a = none
    rw [upd_ne (ne_of_none z1 hc)]
    exact z2
  · have w := s.sl i t h
    cases t with
    | no => trivial
    | val d =>
      obtain ⟨v, e1, e2⟩ := w
      exact ⟨v, e1, e2.mono ex⟩
    | own o =>
      obtain ⟨e1, e2, e3⟩ := w
      obtain ⟨u, y1, y2⟩ := e2.here
      refine ⟨e1, e2.mono ex (at_ y1 (nt y2)), ⟨?_, e3.bk, e3.rh, e3.ap⟩⟩
      show upd m.F _ _ (m.lam i) = none
      rw [upd_ne (ne_of_none y1 hc)]
      exact e3.fr
section
variable {X : Cx} {g : G} {pins : List (Addr × Obj)} {m : Mp} {c : CS} {σ : L2.St} {H : Hp} {s : Shared} {W : WX}
/-- a lambda stands -/
structure LamAt (X : Cx) (g : G) (m : Mp) (c : CS) (σ : L2.St) (H : Hp) (s0 : Shared) (q : Str) (params : Arguments) (body : Expr) (scope : Scope) (dv : Value) (f c' : Addr) (s : Shared) : Prop where
  sim : Sim g m c σ H
  ob : ∃ pm ctv, s.heap.get? f = some (lamO q params body scope (cloFrom X.env.cells scope.names []) dv pm (.ref c') ctv)
  fn : H f = none
  fr : f ∉ frs X.stack
  co : m.F c' = some (LamX.CodeO c' q)
  dk : ∀ t o, dv = .ref t → s0.heap.get? t = some o → (∀ vs, o.data ≠ .fields vs) → s.heap.get? t = some o ∧ H t = none ∧ t ∉ frs X.stack
theorem lam_tail {cc P : Addr} {params : Arguments} {body : Expr} {scope : Scope} {pos : Pos} {fl : Nat} {dv : Value} {E : Value → Shared → Prop} {Q : Value → Shared → Prop} (I : Inv X pins σ H s) (sm : Sim g m c σ H) (TB : LamX.TabB X.base X.mg cc P) (hcode : X.env.code = .ref cc)
    (hm : (P, X.env.qual ++ "<lambda>") ∈ g.T) (hT : ∀ p ∈ g.T, p.1 = P → p.2 = X.env.qual ++ "<lambda>") (hfree : ∀ y ∈ scope.names, y.2 = .free → ∃ c, X.env.cells.lookup y.1 = some c) (hdv : ∀ t, dv = .ref t → H t = none ∧ t ∉ frs X.stack)
    (h : ∀ f c' m1 H1 s', Inv X pins σ H1 s' → Ext m m1 → LamAt X g m1 c σ H1 s (X.env.qual ++ "<lambda>") params body scope dv f c' s' → Q (.ref f) s') :
    wpAny (model X.prog X.w) X.A (makeTail "<lambda>" (X.env.qual ++ "<lambda>") params (.expr body) scope X.env dv .none none pos fl) Q E s := by
  obtain ⟨ps, hP, ht, ha⟩ := sm.tb.2 _ hm
  have bP : s.heap.BuiltinsAt X.mg P := TB.bm.keeps I.bk
  have hP' : s.heap.get? P = some { cls := .none, data := .fields ps } := I.hok P _ hP
  have nofr : ∀ f, s.heap.objs.size ≤ f → f ∉ frs X.stack := fun f hf z => by
    rcases List.mem_cons.mp (I.stkSub _ z) with e | e
    · have h1 := I.lt
      rw [← e] at h1
      exact absurd (Nat.lt_of_lt_of_le h1 hf) (Nat.lt_irrefl _)
    · exact I.nofs hf e
  cases hcq : codeAmong pos ps.toList with
  | none =>
    refine tail_new (closure_ok hfree) I.ok.glob (I.mod.glob.keeps I.bk) hcode (TB.code.keeps I.bk) hP' ht hcq TB.gP bP fun c' ctv h' tk hx hge hlt hrec htb => ?_
    obtain ⟨_, oc, vs, t, e2, hoc, hd, hv⟩ := hrec
    cases e2
    have nC : H c' = none := I.hok.fresh hge
    have hsz : s.heap.objs.size ≤ h'.objs.size := Nat.le_trans hge (Nat.le_of_lt hlt)
    have I1 := LamX.inv_table (t' := tk) (more := #[rawInt pos.line, rawInt pos.col, .ref c']) (q := X.env.qual ++ "<lambda>") (h' := h'.push (lamO (X.env.qual ++ "<lambda>") params body scope (cloFrom X.env.cells scope.names []) dv ((X.mg "__name__").getD .none) (.ref c') ctv)) I hP
      (fun b o hb e => Heap.get?_push_of_some _ (hx b o hb e)) (Heap.get?_push_of_some _ htb) hge ⟨oc, vs, t, Heap.get?_push_of_some _ hoc, hd, hv⟩
    obtain ⟨s1, x1⟩ := sm.lam (pos := pos) hP nC ht hT
    refine h h'.objs.size c' _ _ _ I1 x1 ⟨s1, ⟨_, _, Heap.get?_push_size _ rfl⟩, ?_, nofr _ hsz, upd_same, fun t o ed eo nf => ?_⟩
    · have n2 : h'.objs.size ≠ P := Nat.ne_of_gt (Nat.lt_of_lt_of_le (Heap.lt_size hP') hsz)
      rw [upd_ne (Nat.ne_of_gt hlt), upd_ne n2]
      exact I.hok.fresh hsz
    · have n1 : t ≠ P := fun z => by
        rw [z, hP'] at eo
        cases eo
        exact nf _ rfl
      have n3 : t ≠ c' := Nat.ne_of_lt (Nat.lt_of_lt_of_le (Heap.lt_size eo) hge)
      exact ⟨Heap.get?_push_of_some _ (hx t o n1 eo), by rw [upd_ne n3, upd_ne n1]; exact (hdv t ed).1, (hdv t ed).2⟩
  | some cv =>
    obtain ⟨c', e, hco⟩ := ha pos cv hcq
    subst e
    refine tail_hit (closure_ok hfree) I.ok.glob (I.mod.glob.keeps I.bk) hcode (TB.code.keeps I.bk) hP' ht hcq bP fun ctv h' tk hx hsz => ?_
    have I1 : Inv X pins σ H { s with heap := h'.push (lamO (X.env.qual ++ "<lambda>") params body scope (cloFrom X.env.cells scope.names []) dv ((X.mg "__name__").getD .none) (.ref c') ctv), toks := tk } := I.kept fun b o e => Heap.get?_push_of_some _ (hx b o e)
    exact h h'.objs.size c' m H _ I1 Ext.rfl' ⟨sm, ⟨_, _, Heap.get?_push_size _ rfl⟩, I.hok.fresh hsz, nofr _ hsz, hco, fun t o ed eo nf => ⟨Heap.get?_push_of_some _ (hx t o eo), hdv t ed⟩⟩
/-- its parameters: none, or one that has a whole number as default -/
inductive LamP : Arguments → List Str → Prop
  | none : LamP ⟨[], [], Option.none, [], [], Option.none, []⟩ []
  | one (y : Str) (an : Option Expr) (p1 p2 : Pos) (i : Int) (j : Nat) : LamP ⟨[], [⟨y, an, p1⟩], Option.none, [], [], Option.none, [.Constant (.int i) j p2]⟩ [y]
/-- the lambda's defaults as they stand -/
def DvOk (dv : Value) (ys : List Str) (s : Shared) : Prop := (ys = [] ∧ dv = .none) ∨ ∃ y t u, ys = [y] ∧ dv = .ref t ∧ s.heap.get? t = some { cls := .type "tuple", data := .seq [u].toArray }
theorem lam_eval {cc P : Addr} {params : Arguments} {ys : List Str} {body : Expr} {scope : Scope} {pos : Pos} {Q : Value → Shared → Prop} (hp : LamP params ys) (I : Inv X pins σ H s) (sm : Sim g m c σ H) (TB : LamX.TabB X.base X.mg cc P) (hcode : X.env.code = .ref cc)
    (hm : (P, X.env.qual ++ "<lambda>") ∈ g.T) (hT : ∀ p ∈ g.T, p.1 = P → p.2 = X.env.qual ++ "<lambda>") (hfree : ∀ y ∈ scope.names, y.2 = .free → ∃ c, X.env.cells.lookup y.1 = some c)
    (h : ∀ f c' m1 H1 dv s0 s', Inv X pins σ H1 s' → Ext m m1 → LamAt X g m1 c σ H1 s0 (X.env.qual ++ "<lambda>") params body scope dv f c' s' → DvOk dv ys s0 → Q (.ref f) s') :
    wpAny (model X.prog X.w) X.A (eval (.Lambda params body scope pos) X.env) Q X.xe s := by
  rw [arm_eval_Lambda]
  cases hp with
  | none =>
    show wpAny _ _ (do let dv ← evalAll []; let kdv ← holding dv (evalAllOpt []); makeFunction "<lambda>" (X.env.qual ++ "<lambda>") _ (.expr body) scope X.env dv kdv [] pos pos.line) Q _ s
    refine wpAny_bind (wpAny_pure (wpAny_bind (wpAny_holding (wpAny_pure ?_))))
    rw [makeFunction_eq]
    simp only [List.zip_nil_right, List.filterMap_nil, List.isEmpty_nil, if_true, pure_bind]
    exact lam_tail I sm TB hcode hm hT hfree (fun t z => nomatch z) fun f c' m1 H1 s' I1 x1 L => h f c' m1 H1 .none s s' I1 x1 L (.inl ⟨rfl, rfl⟩)
  | one y an p1 p2 i j =>
    show wpAny _ _ (do let dv ← evalAll [eval (.Constant (.int i) j p2) X.env]; let kdv ← holding dv (evalAllOpt []); makeFunction "<lambda>" (X.env.qual ++ "<lambda>") _ (.expr body) scope X.env dv kdv [] pos pos.line) Q _ s
    refine wpAny_bind ?_
    show wpAny _ _ (do let v ← eval (.Constant (.int i) j p2) X.env; return v :: (← holding [v] (evalAll []))) _ _ s
    refine wpAny_bind (thn ((pe_int (X := X)).run pins s σ H (fun v H1 => H1 = H) I rfl) fun u s1 ⟨v, H1, I1, r1, e1⟩ => ?_)
    rw [e1] at I1
    refine wpAny_bind (wpAny_holding (wpAny_pure (wpAny_pure (wpAny_bind (wpAny_holding (wpAny_pure ?_))))))
    rw [makeFunction_eq]
    simp only [List.zip_nil_right, List.filterMap_nil, List.isEmpty_nil, if_true, pure_bind, List.isEmpty_cons, Bool.false_eq_true, if_false]
    refine wpAny_bind (wpAny_newTextTuple ?_)
    have I2 : Inv X pins σ H { s1 with heap := s1.heap.push { cls := .type "tuple", data := .seq [u].toArray } } := I1.kept fun b o e => Heap.get?_push_of_some _ e
    refine lam_tail I2 sm TB hcode hm hT hfree (fun t z => by
      cases z
      refine ⟨I1.hok.fresh (Nat.le_refl _), fun w => ?_⟩
      rcases List.mem_cons.mp (I1.stkSub _ w) with e | e
      · have h1 := I1.lt
        rw [← e] at h1
        exact absurd h1 (Nat.lt_irrefl _)
      · exact I1.nofs (Nat.le_refl _) e) fun f c' m1 H1 s' I3 x1 L => ?_
    exact h f c' m1 H1 _ _ s' I3 x1 L (.inr ⟨y, _, u, rfl, rfl, Heap.get?_push_size _ rfl⟩)
end
end CL
namespace CL
open PySem PySem.Spec PyProof.Rows L2

/-! ## a lambda is called -/
structure LamS (N : List Str) (sc scope : Scope) (ys : List Str) : Prop where
  kind : scope.kind = .function
  co : scope.isCoroutine = false
  gen : scope.isGenerator = false
  nocell : ∀ y ∈ scope.names, y.2 ≠ .cell
  own : ∀ y ∈ N, scope.names.lookup y ≠ some .local
  free : ∀ y ∈ scope.names, y.2 = .free → sc.names.lookup y.1 = some .cell ∨ sc.names.lookup y.1 = some .free
  par : ∀ y ∈ ys, scope.names.lookup y = some .local
def lamOk (N : List Str) (sc scope : Scope) (ys : List Str) : Bool :=
  decide (scope.kind = .function) && (!scope.isCoroutine && (!scope.isGenerator && ((scope.names.all fun y => !decide (y.2 = .cell)) && ((N.all fun y => !decide (scope.names.lookup y = some .local)) &&
    ((scope.names.all fun y => !decide (y.2 = .free) || (decide (sc.names.lookup y.1 = some .cell) || decide (sc.names.lookup y.1 = some .free))) && ys.all fun y => decide (scope.names.lookup y = some .local))))))
theorem lamS_of {N : List Str} {sc scope : Scope} {ys : List Str} (h : lamOk N sc scope ys = true) : LamS N sc scope ys := by
  unfold lamOk at h
  simp only [Bool.and_eq_true, Bool.or_eq_true, Bool.not_eq_true', decide_eq_true_eq, decide_eq_false_iff_not, List.all_eq_true] at h
  obtain ⟨h1, h2, h3, h4, h5, h6, h7⟩ := h
  exact ⟨h1, h2, h3, h4, h5, fun y hy e => (h6 y hy).resolve_left fun z => z e, h7⟩
theorem LamS.has {X : Cx} {scope : Scope} {ys : List Str} (L : LamS X.N X.env.scope scope ys) (ok : X.Ok) : ∀ y ∈ scope.names, y.2 = .free → ∃ c, X.env.cells.lookup y.1 = some c := fun y hy e => ok.has _ (L.free y hy e)
theorem lam_bind {q : Str} {params : Arguments} {body : Expr} {scope : Scope} {cl : List (Str × Addr)} {dv pm cdv ctv : Value} {ys : List Str} {s : Shared} (hp : LamP params ys) (h : DvOk dv ys s) : ∃ bs : List (Str × Value), bs.map (·.1) = ys ∧ BindsTo s (lamD q params body scope cl dv pm cdv ctv) ⟨[], []⟩ bs := by
  cases hp with
  | none =>
    rcases h with ⟨_, rfl⟩ | ⟨_, _, _, z, _⟩
    · exact ⟨[], rfl, .of_eq rfl⟩
    · cases z
  | one y an p1 p2 i j =>
    rcases h with ⟨z, _⟩ | ⟨y', t, u, z, rfl, ht⟩
    · cases z
    · cases z
      refine ⟨[(y, u)], rfl, fun M A E Q hq => ?_⟩
      show wpAny _ _ (seqItems? (.ref t) >>= _) _ _ _
      refine wpAny_bind (wpAny_seqItems ht rfl (wpAny_pure ?_))
      have e : (List.filterMap (fun n => Option.map (fun x => (n, x)) (List.lookup n [(y, u)])) [y]) = [(y, u)] := by simp [List.lookup]
      rw [← e] at hq
      exact hq
section
variable {X : Cx} {g : G} {pins : List (Addr × Obj)} {m : Mp} {c : CS} {σ : L2.St} {H HZ : Hp} {s s1 s0 : Shared} {W : WX}
theorem lam_start3 {A : Around} {outer : List Env} {E : XK} {scope : Scope} {ys : List Str} {f c' : Addr} {h1 : Heap} {tk : Nat} {mm : Str → Option Value} (I : Inv X pins σ H s) (L : LamS X.N X.env.scope scope ys) (e0 : Env0 X.prog X.w X.K X.mg X.base A outer s1 HZ) (hd : A.handled = none)
    (un : Un (frs X.stack) [] H HZ s.heap s1.heap) (hns : h1.Ns s1.heap.objs.size mm) (kp : ∀ b o, s1.heap.get? b = some o → h1.get? b = some o) :
    Inv (LamX.lamCx X A outer s1 HZ E scope f c') [] σ HZ { s1 with heap := h1, toks := tk } := by
  have hfree := L.has I.ok
  have cm : ∀ {y c}, (cloFrom X.env.cells scope.names []).lookup y = some c → X.env.cells.lookup y = some c := fun {y c} e => by
    rcases cloFrom_mem (PySem.mem_of_lookup e) with hm | ⟨z1, z2⟩
    · cases hm
    · obtain ⟨c1, hc⟩ := hfree _ z1 rfl
      have hc : X.env.cells.lookup y = some c1 := hc
      rw [z2, hc] <;> rfl
  have look : ∀ {y}, scope.names.lookup y = some .free → ∃ c, (cloFrom X.env.cells scope.names []).lookup y = some c := fun {y} hl => mem_lookup (cloFrom_has (cells := X.env.cells) (acc := []) (show (y, NameKind.free) ∈ scope.names from PySem.mem_of_lookup hl))
  have cellK : ∀ {c : Addr} {v : Option Value}, H c = none → s.heap.IsCell c v → h1.IsCell c v := fun {c v} n ⟨o, ho, hdt⟩ => by
    obtain ⟨sl, q⟩ := un.any ho n List.not_mem_nil
    exact ⟨_, kp _ _ q, hdt⟩
  have noA : ∀ b : Addr, b ∉ (LamX.lamCx X A outer s1 HZ E scope f c').ex := fun b z => absurd (show b ∈ ([] : List Addr) from z) List.not_mem_nil
  have freeOf : ∀ {y}, Vis scope y → y ∈ X.N → scope.names.lookup y = some .free := fun {y} k hy => by
    rcases k with k | k | k
    · exact absurd k (L.own y hy)
    · exact absurd rfl (L.nocell _ (PySem.mem_of_lookup k))
    · exact k
  refine ⟨⟨e0.mod, L.kind, rfl, rfl, Nat.le_refl _, fun y z c e1 e2 => I.ok.inj y z c (cm e1) (cm e2), fun y hy => ?_, (fun y c z _ => nomatch (show false = true from z)), fun _ => hd, Around.frames_deeper e0.frames, .inr ⟨rfl, rfl⟩, fun b z => absurd z (noA b), e0.bs, e0.bsz, fun b _ _ => noA b, fun b z => absurd z (noA b), e0.funs, e0.frf⟩,
    rfl, e0.bare, Un.kept kp, ⟨_, hns, fun i y v e1 e2 e3 => ?_⟩, fun y c e => ?_, e0.hok.fresh (Nat.le_refl _), fun y c e => ?_, fun q hq => absurd (show q ∈ ([] : List (Addr × Obj)) ++ [] from hq) List.not_mem_nil, e0.hok.kept kp, I.len⟩
  · have hy : scope.names.lookup y = some .cell ∨ scope.names.lookup y = some .free := hy
    rcases hy with hy | hy
    · exact absurd rfl (L.nocell _ (PySem.mem_of_lookup hy))
    · exact look hy
  · have e1 : X.N[i]? = some y := e1
    have k := freeOf (show Vis scope y from e3) (List.mem_of_getElem? e1)
    obtain ⟨mX, hn, hl⟩ := I.loc
    have hv : Vis X.env.scope y := (L.free _ (PySem.mem_of_lookup k) rfl).elim (fun k => .inr (.inl k)) fun k => .inr (.inr k)
    obtain ⟨w', r, z⟩ := hl i y v e1 e2 hv
    obtain ⟨c2, h2⟩ := look k
    have c1 := cm h2
    refine ⟨w', r, .inr ⟨.inr k, c2, h2, ?_⟩⟩
    rcases z with ⟨k', _⟩ | ⟨_, c3, e', z⟩
    · have k' : X.env.scope.names.lookup y = some .local := k'
      rcases L.free _ (PySem.mem_of_lookup k) rfl with k2 | k2 <;> cases k'.symm.trans k2
    · rw [c1] at e'
      cases e'
      exact cellK (I.freeC y _ c1) z
  · obtain ⟨w', z⟩ := I.cell y c (cm e)
    exact ⟨w', cellK (I.freeC y c (cm e)) z⟩
  · obtain ⟨v, o, ho, hdt⟩ := I.cell y c (cm e)
    exact un.free c o ho (I.freeC y c (cm e)) List.not_mem_nil
/-- x(), in the def that got the lambda -/
theorem pe_act3 {CXg : CXT} {Eg : XK} {Ng : List Str} {qg : Str} {sg : Scope} {ga f c' : Addr} {cdg dv : Value} {params : Arguments} {ys : List Str} {body : Expr} {scope : Scope} {k i : Nat} {a : Str} {pn : List (Addr × Obj)} {xe : Value → Shared → Prop} {E : XK} {tb : TE} {p1 p2 : Pos}
    (I : Inv X pins σ H s) (L : LamS X.N X.env.scope scope ys) (hp : LamP params ys) (LA : LamAt X g m c σ H s0 (X.env.qual ++ "<lambda>") params body scope dv f c' s) (hdv : DvOk dv ys s0)
    (tk : Takes ((cxOf CXg X.prog X.w X.K X.mg X.base Ng qg sg ga cdg X.A X.stack s H Eg).tr pn xe) W) (hW : ∀ cls d σ' H', E cls d H' → W cls d σ' H') (hr : Room (k + 1) (X.A.deeper (envOfC qg sg s.heap.objs.size ga cdg)))
    (hbody : ∀ (A : Around) (outer : List Env) (s : Shared) (H : Hp), Room k (A.deeper (LamX.lamEnv X scope s.heap.objs.size f c')) → PE (LamX.lamCx X A outer s H E scope f c') body tb)
    (hN : Ng[i]? = some a) (hv : Vis sg a) (hn : noDbg a = true) :
    PE ((cxOf CXg X.prog X.w X.K X.mg X.base Ng qg sg ga cdg X.A X.stack s H Eg).tr pn xe) (.Call (.Name a p1) [] [] p2) (fun σZ HZ Q => σZ[i]? = some (some (.ref f)) ∧ HZ c' = some (LamX.CodeO c' (X.env.qual ++ "<lambda>")) ∧ tb σ HZ Q) := by
  refine ⟨fun pinsZ sZ σZ HZ Q IZ ⟨hs, hc, ht⟩ => ?_⟩
  refine wpAny_Call_Name_kw (thn ((pe_var (pos := p1) (i := i) hN hv (noDbg_1 hn) (noDbg_2 hn)).run pinsZ sZ σZ HZ (fun v H1 => v = .ref f ∧ H1 = HZ) IZ ⟨.ref f, hs, rfl, rfl⟩) fun u s1 ⟨v, H1, I1, r1, ev, eH⟩ => ?_)
  subst ev
  subst eH
  obtain rfl : u = Value.ref f := r1
  obtain ⟨pm, ctv, hf⟩ := LA.ob
  have of1 := I1.base.keep f _ hf LA.fn LA.fr (fun z => nomatch (show f ∈ ([] : List Addr) from z))
  have dv1 : DvOk dv ys s1 := by
    rcases hdv with h | ⟨y, t, u, e1, e2, e3⟩
    · exact .inl h
    · obtain ⟨z1, z2, z3⟩ := LA.dk t _ e2 e3 fun vs z => nomatch z
      exact .inr ⟨y, t, u, e1, e2, I1.base.keep t _ z1 z2 z3 fun z => nomatch (show t ∈ ([] : List Addr) from z)⟩
  refine PySem.W.callWith_F0 ⟨_, _, _, _, of1⟩ ?_
  have un : Un (frs X.stack) [] H H1 s.heap s1.heap := I1.base
  obtain ⟨⟨oc, vs, t, hoc, hdc, hvc⟩, _, _⟩ := I1.hok c' _ hc
  obtain ⟨bs, hbs, bnd⟩ := lam_bind (q := X.env.qual ++ "<lambda>") (body := body) (scope := scope) (cl := cloFrom X.env.cells scope.names []) (pm := pm) (cdv := .ref c') (ctv := ctv) hp dv1
  have rc : codeAny (model X.prog X.w) (X.A.deeper (envOfC qg sg s.heap.objs.size ga cdg)) (.call (.ref f) ⟨[], []⟩) (CR (L2.CX X.prog X.w) (envOfC qg sg s.heap.objs.size ga cdg :: X.stack) X.prog X.w H1 s1 Q E) s1 := by
    refine PySem.W.kla_callFunE hr.depth of1 rfl L.co L.gen rfl ⟨c', oc, vs, t, rfl, hoc, hdc, hvc⟩ (bnd _ _ _ _ ?_)
    refine wpAny_newFunctionEnv L.nocell (fun y hy => L.par y.1 (by rw [← hbs]; exact List.mem_map_of_mem hy)) (fun h2 hns hsb => ⟨I1.nolimit.fresh _ hsb, ?_⟩) L.kind
    show codeAny _ _ (.expr body (LamX.lamEnv X scope s1.heap.objs.size f c')) _ _
    have kp : ∀ b o, s1.heap.get? b = some o → h2.get? b = some o := fun b o e => hsb.extBut b o (Nat.ne_of_lt (Heap.lt_size e)) (Heap.get?_push_of_some _ e)
    have J := lam_start3 (A := X.A.deeper (envOfC qg sg s.heap.objs.size ga cdg)) (outer := envOfC qg sg s.heap.objs.size ga cdg :: X.stack) (E := E) (f := f) (c' := c') (tk := s1.toks + bs.length) I L I1.env0 hr.hd un hns kp
    refine PySem.W.kla_codeExpr (wpAny_mono ((hbody _ _ s1 H1 (hr.deeper _)).run [] _ _ H1 Q J ht) (fun v s' ⟨w', H', J', rv, q⟩ => ?_) fun e s' hq => hq)
    exact ⟨w', H', J'.os, J'.bare, J'.base, J'.hok, rv, q⟩
  have hx : Passes (L2.CX X.prog X.w) ((cxOf CXg X.prog X.w X.K X.mg X.base Ng qg sg ga cdg X.A X.stack s H Eg).tr pn xe) E := passes_call tk hW
  refine wpAny_call (codeAny_mono rc fun r s' hq => ?_)
  match r, hq with
  | .error e, hq => exact hx pinsZ σZ H1 s1 e s' I1 hq
  | .ok (.ret u), hq => exact I1.after hq
end

/-! ## _law_try(lambda: ..) -/
/-- the def that makes a lambda: its code object, its table -/
structure Lm (g : G) (X : Cx) (cc P : Addr) (ql : Str) : Prop where
  code : X.env.code = .ref cc
  qual : X.env.qual ++ "<lambda>" = ql
  tb : LamX.TabB g.base g.mg cc P
  hm : (P, ql) ∈ g.T
  hT : ∀ p ∈ g.T, p.1 = P → p.2 = ql
theorem Sim.two {g : G} {m : Mp} {S : List O} {σ : L2.St} {H : Hp} {d : D} {v : V} (h : Sim g m ⟨[], S⟩ [] H) (hl : σ.length = 2) (h1 : σ[1]? = some (some v)) (k : Sv g m d v) : Sim g m ⟨[.no, .val d], S⟩ σ H := by
  refine ⟨h.fr, h.nd, h.tb, h.len, fun c fs e => by simp at e, hl.symm, h.st, h.bk, fun i s hs => ?_⟩
  match i, hs with
  | 0, hs => cases hs; trivial
  | 1, hs => cases hs; exact ⟨v, h1, k⟩
  | n + 2, hs => simp at hs
def cTry (fsu : M Fl) (fb : M D) : M D := fun c => match fb c with
  | .ok d c' => .ok (.tup [.str Str.empty, d]) c'
  | .exc cn vs c' => match fsu ⟨[.no, .val (.exn cn vs)], c'.S⟩ with
    | .ok (.ret d) c2 => .ok d { c' with S := c2.S }
    | _ => .stuck
  | .stuck => .stuck
section
variable {X : Cx} {g : G} {k j : Nat} {N : List Str} {sc ws : Scope} {W : WX} {x a n x1 x2 : Str} {ga CE NF cc P : Addr} {ql : Str} {st : Stmt} {b0 : Stmt} {suite : List Stmt} {fsu : M Fl} {fb : M D} {params : Arguments} {ys : List Str} {body : Expr} {scope : Scope} {j0 kk k2 : Nat} {p1 p2 p3 p4 tp q1 q2 tp2 pos' pos2 p lpos pos : Pos}
theorem sx_try (q : Good g k N X sc ws W) (ql' : Lm g X cc P ql) (F : ∃ fd, L2.Fun g.K x x st ga fd ∧ Binds g.K fd [a] []) (S : FnScope [a, n] [a] (defScope st)) (hk : j + 2 ≤ k) (hg : isGl sc x = true) (hm : g.mg x = some (.ref ga)) (kp : PySem.W.keepIn g.K (.ref ga) = true)
    (hb : defBody st = [.Try [.Return (some (.Tuple [.Constant (.str Str.empty) j0 p4, .Call (.Name a p1) [] [] p2] kk tp)) p3] [.ExceptHandler (some (.Tuple [.Name x1 q1, .Name x2 q2] k2 tp2)) (some n) (b0 :: suite) pos'] [] [] pos2])
    (hna : noDbg a = true) (hln : (defScope st).names.lookup n = some .local) (h1 : isGl (defScope st) x1 = true) (h2 : isGl (defScope st) x2 = true) (m1 : g.mg x1 = some (.ref CE)) (m2 : g.mg x2 = some (.ref NF))
    (hx : ∀ cn C ns, g.exc cn = some (C, ns) → PySem.W.exmAny g.K (.ref C) [.ref CE, .ref NF] = some true)
    (hsu : ∀ Z : Cx, GoodH g j [a, n] Z (defScope st) → PSs Z (b0 :: suite) (tS g WF fsu))
    (hp : LamP params ys) (L : LamS N sc scope ys)
    (hfb : ∀ (Z : Cx) (W' : WX), Good g j N Z scope scope W' → PE Z body (tE g W' fb)) :
    PE X (.Call (.Name x p) [.Lambda params body scope lpos] [] pos) (tE g W (cTry fsu fb)) := by
  obtain ⟨fd, F, hbd⟩ := F
  obtain ⟨oc, od, kV, doc, pm, an, cdv, ct, osl, rfl, lk, hcd⟩ := F.ex
  obtain ⟨hgx, hdx, _⟩ := q.gl hg
  rw [← q.hmg] at hm
  rw [← q.hK] at kp lk hcd hbd
  have L : LamS X.N X.env.scope scope ys := by rw [q.hN, q.hsc]; exact L
  have TB := ql'.tb
  rw [← q.hmg, ← q.hbs] at TB
  refine ⟨fun pins s σ H Q I ⟨m, c, sm, o⟩ => ?_⟩
  refine wpAny_Call_Name_kw (ld_glob I hgx hm ?_ hdx)
  refine PySem.W.callWith_K (h₀ := X.base) I.ok.mod.kin kp ?_ (by rfl) (by rfl)
  show wpAny _ _ (spliced ((false, eval (.Lambda params body scope lpos) X.env) :: backTo pos (starEach [] X.env))) _ _ s
  refine Calls.spliced_cons (lam_eval hp I sm TB ql'.code (by rw [ql'.qual]; exact ql'.hm) (by rw [ql'.qual]; exact ql'.hT) (L.has I.ok) fun f c' m1' H1 dv s0 s' I1 x1' LA hdv => ?_)
  refine Calls.spliced_nil ⟨I1.kIn, ?_⟩
  have hlen : ([a] : List Str).length = 1 := rfl
  have b0' := hbd s' [.ref f] I1.kIn rfl
  have rc : codeAny (model X.prog X.w) X.A (.call (.ref ga) ⟨[.ref f], []⟩) (CR (L2.CX X.prog X.w) X.stack X.prog X.w H1 s' Q (fun _ _ _ => False)) s' := by
    refine LamX.run_ofS (CX := L2.CX X.prog X.w) (k := j + 1) (N := [a, n]) (ps := [a]) (us := [.ref f]) (vs := [.ref f]) lk hcd S (q.room.mono hk) I1.env0 b0' (.cons rfl .nil) rfl fun hr' => ?_
    let Z : Cx := cxOf (L2.CX X.prog X.w) X.prog X.w X.K X.mg X.base [a, n] x (defScope st) ga cdv X.A X.stack s' H1 (fun _ _ _ => False)
    have va : Vis (defScope st) a := vis_p S List.mem_cons_self
    have glo : ∀ {y : Str} {C : Addr}, isGl (defScope st) y = true → g.mg y = some (.ref C) → Gl Z y ∧ (y == ("__debug__" : Str)) = false ∧ Z.mg y = some (.ref C) := fun {y C} hy hc => by
      have z := hy
      unfold isGl at z
      split at z
      · rename_i e
        rw [Bool.and_eq_true] at z
        exact ⟨e, by simpa using z.1, by show X.mg y = _; rw [q.hmg]; exact hc⟩
      · cases z
    -- what is wished of an exception of the lambda
    let Ec : XK := fun cls d H' => PySem.W.exmAny X.K cls [.ref CE, .ref NF] = some true ∧ ∃ C dd, cls = .ref C ∧ d = some dd ∧ ∀ (a' : Addr) (σ' : L2.St), H' a' = none → σ'.length = 2 → ∃ m2 c2 d2 c3, Sim g m2 c2 (σ'.set 1 (some (.ref a'))) (upd H' a' (exq a' C dd)) ∧ fsu c2 = .ok (.ret d2) c3 ∧ ∀ m3 σ3 v H3, Ext m2 m3 → Sim g m3 c3 σ3 H3 → Sv g m3 d2 v → Q v H3
    have act : ∀ (W2 : WX) (pn : List (Addr × Obj)) (xe : Value → Shared → Prop), Takes (Z.tr pn xe) W2 → (∀ cls d σ' H', Ec cls d H' → W2 cls d σ' H') → PE (Z.tr pn xe) (.Call (.Name a p1) [] [] p2) (fun σZ HZ Q' => σZ[0]? = some (some (.ref f)) ∧ HZ c' = some (LamX.CodeO c' (X.env.qual ++ "<lambda>")) ∧ tE g (fun C d _ H' => Ec C d H') fb σ HZ Q') := fun W2 pn xe tk2 hW2 =>
      pe_act3 (i := 0) (k := j) (E := Ec) I1 L hp LA hdv tk2 hW2 hr' (fun A outer s H hr2 => hfb _ _ ⟨q.hN, q.nd, rfl, rfl, hr2, q.hK, q.hP, q.hw, q.hmg, q.hbs, takes_of rfl rfl rfl rfl, passes_of rfl, fun y hy => by
        unfold isLoc at hy
        split at hy
        · rename_i e
          exact ⟨.inl e, .inr e⟩
        · rename_i e
          exact absurd rfl (L.nocell _ (PySem.mem_of_lookup e))
        · cases hy⟩) rfl va hna
    have su : ∀ (a' : Addr) (pn : List (Addr × Obj)), PSs (Z.suite a' pn) (b0 :: suite) (tS g WF fsu) := fun a' pn => hsu _ ⟨rfl, S.nd, rfl, ⟨by have := hr'.dp; show (X.A.deeper (envOfC x (defScope st) s'.heap.objs.size ga cdv)).depth + 3 * j + 5 < _; omega, by have := hr'.un; show (X.A.deeper (envOfC x (defScope st) s'.heap.objs.size ga cdv)).units + 16 * j + 200 < _; omega⟩, q.hK, q.hP, q.hw, q.hmg, q.hbs⟩
    let tb : WX → TS := fun W2 Dn σZ HZ => (∀ cls d σ' H', Ec cls d H' → W2 cls d σ' H') ∧ σZ[0]? = some (some (.ref f)) ∧ HZ c' = some (LamX.CodeO c' (X.env.qual ++ "<lambda>")) ∧ tE g (fun C d _ H' => Ec C d H') fb σ HZ fun v H' => ∀ p, H' p = none → Dn.rt (.ref p) (upd H' p (.tup [.str Str.empty, v]))
    have tbh : ∀ (W2 : WX) (pn : List (Addr × Obj)) (xe : Value → Shared → Prop), Takes (Z.tr pn xe) W2 → PassesOwn (model Z.prog Z.w) Z.A Z.env xe → PSs (Z.tr pn xe) [.Return (some (.Tuple [.Constant (.str Str.empty) j0 p4, .Call (.Name a p1) [] [] p2] kk tp)) p3] (tb W2) := fun W2 pn xe tk2 own2 => by
      refine ⟨fun pins2 s2 σ2 H2 Dn I2 ⟨w1, w2, w3, w4⟩ => ?_⟩
      refine (pss_one (ps_ret (pos := p3) (pe_tup (pos := tp) (x1 := kk) (pa_cons (pe_str (j := j0) (pos := p4)) (pa_cons (act W2 pn xe tk2 w1) pa_nil (by rfl)) (by rfl))))).run pins2 s2 σ2 H2 Dn I2 ?_
      refine ⟨w2, w3, ?_⟩
      obtain ⟨mm, cm, sm2, o2⟩ := w4
      exact ⟨mm, cm, sm2, o2.imp fun v H' hq => ⟨Nat.le_of_ble_eq_true rfl, hq⟩⟩
    have key := pss_one (ps_try2 (X := Z) (i := 1) (tb := tb) (q1 := q1) (q2 := q2) (tp := tp2) (kk := k2) (pos := pos2) (pos' := pos') rfl rfl rfl S.nd rfl hln (glo h1 m1) (glo h2 m2) tbh su)
    refine ⟨_, by rw [hb]; exact key, ?_⟩
    refine ⟨fun cls d σ' H' ⟨e1, C, dd, e2, e3, e4⟩ => ⟨e1, C, dd, e2, e3, fun a' na hl => ?_⟩, rfl, LA.sim.fr _ _ LA.co, ?_⟩
    · obtain ⟨mm, cm, d2, c3, sm2, e5, o2⟩ := e4 a' σ' na hl
      refine ⟨mm, cm, sm2, ?_⟩
      rw [e5]
      exact o2
    · refine ⟨m1', c, LA.sim, ?_⟩
      have o := o.mono x1'
      unfold cTry at o
      cases r : fb c with
      | ok d c2 =>
        rw [r] at o
        exact fun m' v H' x' s2 k' p hp => out_newT s2 (.cons (.str _) (.cons k' .nil)) (o.mono x') hp
      | exc cn vs c2 =>
        rw [r] at o
        intro m' H' C d x' s2 ex
        obtain ⟨Ca, ns, dd, us, y1, y2, y3, y4, y5, y6⟩ := ex
        refine ⟨by rw [q.hK, y2]; exact hx cn Ca ns y1, Ca, dd, y2, y3, fun a' σ' na hl => ?_⟩
        obtain ⟨s3, x3⟩ := s2.frozen (u := exq a' Ca dd) na (fun ps z => by
          unfold exq at z
          cases z)
        have o : Out (rE g) g W σ m1' (match fsu ⟨[.no, .val (.exn cn vs)], c2.S⟩ with
          | .ok (.ret d) c3 => .ok d { c2 with S := c3.S }
          | _ => .stuck) Q := o
        have kx : Sv g (Mp.call { m' with F := upd m'.F a' (exq a' Ca dd) } (upd H' a' (exq a' Ca dd)) [] m'.ini) (.exn cn vs) (.ref a') := .exn (dd := dd) y1 upd_same (x3.f _ _ y4) (Svs.like (m := m') (m' := Mp.call { m' with F := upd m'.F a' (exq a' Ca dd) } (upd H' a' (exq a' Ca dd)) [] m'.ini) (fun _ _ z => z) x3.f y5) y6
        have s4 := (s3.call [] m'.ini).two (σ := σ'.set 1 (some (.ref a'))) (by rw [List.length_set]; exact hl) (List.getElem?_set_self (by rw [hl]; decide)) kx
        cases r2 : fsu ⟨[.no, .val (.exn cn vs)], c2.S⟩ with
        | exc _ _ _ => rw [r2] at o; exact o.elim
        | stuck => rw [r2] at o; exact o.elim
        | ok fl c3 =>
          rw [r2] at o
          cases fl with
          | next => exact o.elim
          | brk => exact o.elim
          | cont => exact o.elim
          | ret d2 =>
            refine ⟨_, _, d2, c3, s4, r2, fun m3 σ3 v H3 x5 s5 k5 => ?_⟩
            obtain ⟨x6, s6⟩ := s3.back (ex := []) (fun a z => absurd z List.not_mem_nil) x5 s5.drop
            exact o _ v H3 (x'.trans (x3.trans x6)) s6 (Sv.like (m := m3) (m' := ⟨m3.rho, m3.F, m'.B, m'.lam, m'.ini⟩) (fun _ _ z => z) (fun _ _ z => z) k5)
      | stuck => rw [r] at o; exact o.elim
  refine wpAny_call (codeAny_mono rc fun r s2 hq => ?_)
  match r, hq with
  | .error e, hq => exact (noPass (X := X) pins σ H1 s' e s2 I1 hq)
  | .ok (.ret u), hq => exact I1.after hq
end
end CL
namespace CL
open PySem PySem.Spec PyProof.Rows L2
/-- a def that makes lambdas, by its body -/
theorem fn_cOkL {g : G} {x qual ql : Str} {st : Stmt} {f cc P : Addr} {fd : FuncData} {N ps : List Str} {k : Nat} {fb : M Fl} (F : L2.Fun g.K x qual st f fd) (S : FnScope N ps (defScope st)) (hc : fd.code = .ref cc) (hq : (qual ++ ".<locals>.") ++ "<lambda>" = ql) (tb : LamX.TabB g.base g.mg cc P) (hm : (P, ql) ∈ g.T) (hT : ∀ p ∈ g.T, p.1 = P → p.2 = ql)
    (h : ∀ (X : Cx) (W : WX), Good g k N X (defScope st) (defScope st) W → Lm g X cc P ql → PSs X (defBody st) (tS g W fb)) : FnOk g.prog g.w g.K g.mg g.base (L2.CX g.prog g.w) (k + 1) f fd ps (spOf g (fnB N.length ps.length fb)) := by
  obtain ⟨oc, od, kV, doc, pm, an, cdv, ct, osl, rfl, lk, hcd⟩ := F.ex
  have hc : cdv = .ref cc := hc
  refine fn_of lk hcd S (fun vs H Q E hs => ?_) fun A outer s H vs Q E hr hs => ?_
  · obtain ⟨m, S', ds, sm, hv, o⟩ := hs
    unfold fnB at o
    cases e : decide (ds.length = ps.length) with
    | false => rw [e] at o; exact o.elim
    | true => rw [← hv.length]; exact of_decide_eq_true e
  · obtain ⟨m, S', ds, sm, hv, o⟩ := hs
    unfold fnB at o
    cases e : decide (ds.length = ps.length) with
    | false => rw [e] at o; exact o.elim
    | true =>
      rw [e] at o
      exact ⟨_, h _ _ (good_of S hr) ⟨hc, hq, tb, hm, hT⟩, m, _, sm.start hv, outS_F (S := S') (fun _ _ _ _ h => h) o⟩
/-- a class of exceptions that except (CE, NF) takes -/
theorem exm_two {K : PySem.W.Frag} {C CE NF : Addr} {b : Bool} (e1 : PySem.W.subIn K (.ref CE) (.type "BaseException") = some true) (e2 : PySem.W.subIn K (.ref NF) (.type "BaseException") = some true) (hC : PySem.W.isClsIn K C = true) (i1 : PySem.W.isClsIn K CE = true) (i2 : PySem.W.isClsIn K NF = true)
    (t1 : PySem.W.typeIn K (.ref CE) = some (.type "type")) (t2 : PySem.W.typeIn K (.ref NF) = some (.type "type")) (s1 : PySem.W.subIn K (.ref C) (.ref CE) = some b) (s2 : PySem.W.subIn K (.ref C) (.ref NF) = some (!b)) : PySem.W.exmAny K (.ref C) [.ref CE, .ref NF] = some true := by
  have one : ∀ {D : Addr} {c : Bool}, PySem.W.subIn K (.ref D) (.type "BaseException") = some true → PySem.W.isClsIn K D = true → PySem.W.typeIn K (.ref D) = some (.type "type") → PySem.W.subIn K (.ref C) (.ref D) = some c → PySem.W.exmOne K (.ref C) (.ref D) = some c := fun {D c} h1 h2 h3 h4 => by
    have e1 : (PySem.W.subIn K (.ref D) (.type "BaseException") == some true) = true := by rw [h1] <;> rfl
    have e2 : ((PySem.W.clsIn K D).isSome && PySem.W.typeIn K (.ref D) == some (.type "type")) = true := by
      have z : (PySem.W.clsIn K D).isSome = true := h2
      rw [z, h3] <;> rfl
    unfold PySem.W.exmOne PySem.W.kitCls
    rw [if_pos e1]
    dsimp only
    rw [if_pos e2]
    exact h4
  unfold PySem.W.exmAny PySem.W.exmAny PySem.W.exmAny
  rw [one e1 i1 t1 s1, one e2 i2 t2 s2]
  cases b <;> rfl
end CL
namespace CL
open PySem
/-! ## steps of the clean side, one at a time -/
section
variable {α : Type} {f h : M Fl} {c c1 c2 : CS} {d x y : D} {b : Bool} {fa fb fe : M D} {t u : M Bool} {k : D → D → M D} {r : R D} {a1 a2 : M α}
theorem op_of (ea : fa c = .ok x c1) (eb : fb c1 = .ok y c2) (e : k x y c2 = r) : cOp k fa fb c = r := by
  show (fa c).bind (fun x c' => (fb c').bind fun y c'' => k x y c'') = r
  rw [ea]
  show (fb c1).bind (fun y c'' => k x y c'') = r
  rw [eb]
  exact e
theorem asB_of (e : fe c = .ok (.bl b) c1) : asB fe c = .ok b c1 := by
  show (fe c).bind cB = _
  rw [e]
  rfl
theorem ifS_t (e : t c = .ok true c1) : cIfS t f h c = f c1 := by
  show (t c).bind _ = _
  rw [e]
  rfl
theorem ifS_f (e : t c = .ok false c1) : cIfS t f h c = h c1 := by
  show (t c).bind _ = _
  rw [e]
  rfl
theorem ifS_n (e : t c = .ok false c1) : cIfS t f cNext c = .ok .next c1 := ifS_f e
theorem if_t (e : t c = .ok true c1) : cIf t a1 a2 c = a1 c1 := by
  show (t c).bind _ = _
  rw [e]
  rfl
theorem if_f (e : t c = .ok false c1) : cIf t a1 a2 c = a2 c1 := by
  show (t c).bind _ = _
  rw [e]
  rfl
theorem andT_f (e : t c = .ok false c1) : cAndT t u c = .ok false c1 := by
  show (t c).bind _ = _
  rw [e]
  rfl
theorem andT_t (e : t c = .ok true c1) : cAndT t u c = u c1 := by
  show (t c).bind _ = _
  rw [e]
  rfl
theorem orT_t (e : t c = .ok true c1) : cOrT t u c = .ok true c1 := by
  show (t c).bind _ = _
  rw [e]
  rfl
theorem orT_f (e : t c = .ok false c1) : cOrT t u c = u c1 := by
  show (t c).bind _ = _
  rw [e]
  rfl
theorem notT_of (e : t c = .ok b c1) : cNotT t c = .ok (!b) c1 := by
  show (t c).bind _ = _
  rw [e]
  rfl
theorem tru_bl (e : fe c = .ok (.bl b) c1) : cTru fe c = .ok b c1 := by
  show (fe c).bind _ = _
  rw [e]
  rfl
theorem set_of {i : Nat} (e : fe c = .ok d c1) : cSet i fe c = .ok .next (c1.put i (.val d)) := by
  show (fe c).bind _ = _
  rw [e]
  rfl
theorem ret_of (e : fe c = .ok d c1) : cRet fe c = .ok (.ret d) c1 := by
  show (fe c).bind _ = _
  rw [e]
  rfl
theorem and_t (e : fa c = .ok (.bl true) c1) : cAnd fa fb c = fb c1 := by
  show (fa c).bind _ = _
  rw [e]
  rfl
theorem and_f (e : fa c = .ok (.bl false) c1) : cAnd fa fb c = .ok (.bl false) c1 := by
  show (fa c).bind _ = _
  rw [e]
  rfl
theorem or_t (e : fa c = .ok (.bl true) c1) : cOr fa fb c = .ok (.bl true) c1 := by
  show (fa c).bind _ = _
  rw [e]
  rfl
theorem or_f (e : fa c = .ok (.bl false) c1) : cOr fa fb c = fb c1 := by
  show (fa c).bind _ = _
  rw [e]
  rfl
theorem not_of (e : fe c = .ok (.bl b) c1) : cNot fe c = .ok (.bl (!b)) c1 := by
  show (fe c).bind _ = _
  rw [e]
  rfl
theorem nil_of (h0 : szOk 0 = true) : froz (cLst (M.ret [])) c = .ok (.lst []) c := by
  unfold froz cLst
  simp [M.bind, M.ret, R.bind, h0, M.guard]
theorem cons_of {fr : M (List D)} {xs : List D} (ea : fa c = .ok x c1) (er : fr c1 = .ok xs c2) : cCons fa fr c = .ok (x :: xs) c2 := by
  show (fa c).bind (fun x c' => (fr c').bind fun xs => M.ret (x :: xs)) = _
  rw [ea]
  show (fr c1).bind _ = _
  rw [er]
  rfl
theorem call_of {fn : Fn} {fr : M (List D)} {xs : List D} (er : fr c = .ok xs c1) : cCall fn fr c = liftF (fn xs c1.S) c1 := by
  show (fr c).bind _ = _
  rw [er]
  rfl
theorem nilA : (M.ret ([] : List D)) c = .ok [] c := rfl
theorem call1_of {fn : Fn} (ea : fa c = .ok x c1) : cCall fn (cCons fa (M.ret [])) c = liftF (fn [x] c1.S) c1 := call_of (cons_of ea nilA)
theorem call2_of {fn : Fn} (ea : fa c = .ok x c1) (eb : fb c1 = .ok y c2) : cCall fn (cCons fa (cCons fb (M.ret []))) c = liftF (fn [x, y] c2.S) c2 := call_of (cons_of ea (cons_of eb nilA))
theorem opL_of {kl : D → D → M (List D)} {r : R (List D)} (ea : fa c = .ok x c1) (eb : fb c1 = .ok y c2) (e : kl x y c2 = r) : cOpL kl fa fb c = r := by
  show (fa c).bind (fun x c' => (fb c').bind fun y c'' => kl x y c'') = r
  rw [ea]
  show (fb c1).bind (fun y c'' => kl x y c'') = r
  rw [eb]
  exact e
theorem cat_of {xs ys : List D} (ea : fa c = .ok (.lst xs) c1) (eb : fb c1 = .ok (.lst ys) c2) (h : szOk (xs.length + ys.length) = true) : cOpL dCat fa fb c = .ok (xs ++ ys) c2 := opL_of ea eb (by
  show M.guard (szOk (xs.length + ys.length)) (M.ret (xs ++ ys)) c2 = _
  rw [h]
  rfl)
theorem froz_of {fl : M (List D)} {xs : List D} (e : fl c = .ok xs c1) : froz fl c = .ok (.lst xs) c1 := by
  show (fl c).bind _ = _
  rw [e]
  rfl
theorem lc_of {fi : M (List D)} {tg : Tg} {ft : M Bool} {vs : List Nat} {ds ys : List D} (ei : fi c = .ok ds c1) (e : lcL tg ft fe vs ds [] (wipeC vs c1) = .ok ys c2) : cLc fi tg ft fe vs c = .ok ys c2 := by
  show (fi c).bind _ = _
  rw [ei]
  exact e
theorem range1_of {n : Int} (e : fe c = .ok (.int n) c1) (h : fitsR n = true) : cRange1 fe c = .ok (rangeD 0 n.toNat) c1 := by
  show (fe c).bind _ = _
  rw [e]
  show M.guard (fitsR n) _ c1 = _
  rw [h]
  rfl
theorem range2_of {i j : Int} (ea : fa c = .ok (.int i) c1) (eb : fb c1 = .ok (.int j) c2) (h : (fitsR i && fitsR j) = true) : cRange2 fa fb c = .ok (rangeD i (j - i).toNat) c2 := by
  show (fa c).bind _ = _
  rw [ea]
  show (fb c1).bind _ = _
  rw [eb]
  show M.guard (fitsR i && fitsR j) _ c2 = _
  rw [h]
  rfl
theorem for_of {fi : M (List D)} {tg : Tg} {ds : List D} {r : R Fl} (ei : fi c = .ok ds c1) (e : forL (fun d => cSeq (cTg tg d) f) ds c1 = r) : cFor fi tg f c = r := by
  show (fi c).bind _ = _
  rw [ei]
  exact e
theorem walk_of {xs : List D} (e : fe c = .ok (.lst xs) c1 ∨ fe c = .ok (.tup xs) c1) : cWalk fe c = .ok xs c1 := by
  show (fe c).bind _ = _
  rcases e with e | e <;> rw [e] <;> rfl
theorem par_of {i j : Nat} {fr : M (List D)} (e : fr c = .ok [x, y] c1) : cPar i j fr c = .ok .next ((c1.put i (.val x)).put j (.val y)) := by
  show (fr c).bind _ = _
  rw [e]
  rfl
theorem tup_of {fr : M (List D)} {xs : List D} (e : fr c = .ok xs c1) (h : szOk xs.length = true) : cTup fr c = .ok (.tup xs) c1 := by
  show (fr c).bind _ = _
  rw [e]
  show M.guard (szOk xs.length) _ c1 = _
  rw [h]
  rfl
theorem lst_of {fr : M (List D)} {xs : List D} (e : fr c = .ok xs c1) (h : szOk xs.length = true) : cLst fr c = .ok xs c1 := by
  show (fr c).bind _ = _
  rw [e]
  show M.guard (szOk xs.length) _ c1 = _
  rw [h]
  rfl
end
end CL
namespace CL
open PySem PySem.Spec PyProof.Rows L2

/-! ## xs.insert(i, e); a slice of a slot's own list -/
def cIns (i : Nat) (fr : M (List D)) : M Fl := fun c => match c.pl i with
  | none => .stuck
  | some _ => (fr c).bind fun ds c2 => match ds, c2.pl i with
    | [.int j, d], some p => match decide (p.xs.length < sizeLine ∧ 0 ≤ j ∧ j < 2 ^ 63) with
      | true => .ok .next (c2.wr i p (p.xs.take j.toNat ++ [d] ++ p.xs.drop j.toNat))
      | false => .stuck
    | _, _ => .stuck
def cCutP (i : Nat) (lo hi : M (Option Int)) : M (List D) := fun c => match c.see i with
  | none => .stuck
  | some _ => (lo c).bind fun l c1 => (hi c1).bind fun u c2 => match c2.see i with
    | some xs => .ok ((xs.drop (HT.sIx xs.length 0 l)).take (HT.sIx xs.length xs.length u - HT.sIx xs.length 0 l)) c2
    | none => .stuck
section
variable {X : Cx} {g : G} {k : Nat} {N : List Str} {sc ws : Scope} {W : WX} {pos px apos cpos p2 : Pos} {e1 e2 : Expr} {fr : M (List D)} {i : Nat} {x : Str} {lo hi : Option Expr} {fl fh : M (Option Int)}
theorem ss_insert (q : Good g k N X sc ws W) (hN : N[i]? = some x) (hv : isVis (sc.names.lookup x) = true) (hd : noDbg x = true) (he : PA X [e1, e2] (tA g W fr)) (hp : plainArgs [e1, e2] = true) (hline : (apos.endLine == cpos.line) = true) :
    PS X (.Expr (.Call (.Attribute (.Name x px) "insert" apos) [e1, e2] [] cpos) pos) (tS g W (cIns i fr)) := by
  obtain ⟨q1, q2⟩ := plain_tail hp
  refine ps_imp (ps_expr (pe_bm PySem.F.plainAttrs_list PySem.F.slot_list_insert PySem.F.type_list_insert mt_insert (pe_var (q.at_ hN) (q.vis hv) (noDbg_1 hd) (noDbg_2 hd)) he (by rfl) (by rw [plain_all hp]; rfl) hline (star_plain q1) (plain_any q2)) (by rfl)) fun Dn σ H ⟨m, c, s, o⟩ => ?_
  unfold cIns at o
  cases z1 : c.pl i with
  | none => rw [z1] at o; exact o.elim
  | some p =>
    rw [z1] at o
    obtain ⟨a, vs, h1, h2, h3, h4⟩ := s.pl z1
    refine ⟨.ref a, h1, .inl ⟨rfl, _, SqL.of h2⟩, m, c, s, o.bind.imp fun ys H2 ⟨m2, ds, c2, x2, s2, k2, o2⟩ => ?_⟩
    have k2 : Svs g m2 ds ys := k2
    cases k2 with
    | nil => exact o2.elim
    | cons ka kr =>
      cases kr with
      | nil => cases ka <;> exact o2.elim
      | @cons d v ds3 vs3 kb kr =>
        cases kr with
        | cons _ _ => cases ka <;> exact o2.elim
        | nil =>
          cases ka with
          | int j =>
            cases z2 : c2.pl i with
            | none => rw [z2] at o2; exact o2.elim
            | some p2 =>
              rw [z2] at o2
              have o2 : OutS g W m2 (match decide (p2.xs.length < sizeLine ∧ 0 ≤ j ∧ j < 2 ^ 63) with
                | true => .ok .next (c2.wr i p2 (p2.xs.take j.toNat ++ [d] ++ p2.xs.drop j.toNat))
                | false => .stuck) Dn := o2
              obtain ⟨a2, vs2, g1, g2, g3, g4⟩ := s2.pl z2
              rw [h1] at g1
              cases g1
              cases z : decide (p2.xs.length < sizeLine ∧ 0 ≤ j ∧ j < 2 ^ 63) with
              | false => rw [z] at o2; exact o2.elim
              | true =>
                rw [z] at o2
                obtain ⟨y1, y2, y3⟩ := of_decide_eq_true z
                exact ⟨a, vs2, j, v, rfl, rfl, g2, by rw [← g3.length]; exact y1, y2, y3, o2.nx (g4 _ _ (((g3.take _).append (.cons kb .nil)).append (g3.drop _)))⟩
          | _ => exact o2.elim
theorem sl_cutP (q : Good g k N X sc ws W) (hN : N[i]? = some x) (hv : isVis (sc.names.lookup x) = true) (hd : noDbg x = true) (hl : PO X lo (tP g W fl)) (hu : PO X hi (tP g W fh)) : PE X (.Subscript (.Name x px) (.Slice lo hi none p2) pos) (tL g W (cCutP i fl fh)) := by
  refine pe_imp (pe_slice sl_list (pe_var (q.at_ hN) (q.vis hv) (noDbg_1 hd) (noDbg_2 hd)) hl hu) fun σ H Q ⟨m, c, s, o⟩ => ?_
  unfold cCutP at o
  cases z1 : c.see i with
  | none => rw [z1] at o; exact o.elim
  | some xs =>
    rw [z1] at o
    obtain ⟨a, vs, h1, h2, h3⟩ := s.see z1
    refine ⟨.ref a, h1, m, c, s, o.bind.imp fun l H2 ⟨m2, l', c2, x2, s2, k2, o2⟩ => ⟨m2, c2, s2, o2.bind.imp fun u H3 ⟨m3, u', c3, x3, s3, k3, o3⟩ => ?_⟩⟩
    have k2 : l' = l := k2
    have k3 : u' = u := k3
    subst k2 k3
    cases z2 : c3.see i with
    | none => rw [z2] at o3; exact o3.elim
    | some ys =>
      rw [z2] at o3
      obtain ⟨a2, vs2, g1, g2, g3⟩ := s3.see z2
      rw [h1] at g1
      cases g1
      refine ⟨a, vs2, rfl, SqL.of g2, fun p hp => ?_⟩
      unfold cutV
      rw [← g3.length]
      exact out_freshL s3 ((g3.drop _).take _) o3 hp
end
def dIsB : D → D → M D
  | .bl a, .bl b => M.ret (.bl (decide (a = b)))
  | _, _ => fun _ => .stuck
def dIsNotB : D → D → M D
  | .bl a, .bl b => M.ret (.bl (!decide (a = b)))
  | _, _ => fun _ => .stuck
theorem s2_isB {g : G} : S2 g (fun x y H Q => ∃ a b, x = .bl a ∧ y = .bl b ∧ Q (.bl (decide (a = b))) H) dIsB := by
  intro W m c σ H a b x y Q s ha hb o
  cases ha with
  | bl i =>
    cases hb with
    | bl j => exact ⟨i, j, rfl, rfl, o.here s (.bl _)⟩
    | _ => exact o.elim
  | _ => exact o.elim
theorem s2_isnotB {g : G} : S2 g (fun x y H Q => ∃ a b, x = .bl a ∧ y = .bl b ∧ Q (.bl (!decide (a = b))) H) dIsNotB := by
  intro W m c σ H a b x y Q s ha hb o
  cases ha with
  | bl i =>
    cases hb with
    | bl j => exact ⟨i, j, rfl, rfl, o.here s (.bl _)⟩
    | _ => exact o.elim
  | _ => exact o.elim
section
variable {X : Cx} {g : G} {k : Nat} {N : List Str} {sc ws : Scope} {W : WX} {p pos : Pos} {e : Expr} {es : List Expr} {fa : M (List D)}
theorem sq_max (q : Good g k N X sc ws W) (hg : isGl sc "max" = true) (hm : g.mg "max" = none) (ha : PA X (e :: es) (tA g W fa)) (hp : plainArgs (e :: es) = true) : PE X (.Call (.Name "max" p) (e :: es) [] pos) (tE g W (fa.bind bMax)) := by
  have h := cr_max (X := X) q.calm
  rw [q.hK] at h
  exact sq_B q h sc_max hg hm (by rfl) ha hp
theorem sq_min (q : Good g k N X sc ws W) (hg : isGl sc "min" = true) (hm : g.mg "min" = none) (ha : PA X (e :: es) (tA g W fa)) (hp : plainArgs (e :: es) = true) : PE X (.Call (.Name "min" p) (e :: es) [] pos) (tE g W (fa.bind bMin)) := by
  have h := cr_min (X := X) q.calm
  rw [q.hK] at h
  exact sq_B q h sc_min hg hm (by rfl) ha hp
theorem sq_sum (q : Good g k N X sc ws W) (hg : isGl sc "sum" = true) (hm : g.mg "sum" = none) (ha : PA X (e :: es) (tA g W fa)) (hp : plainArgs (e :: es) = true) : PE X (.Call (.Name "sum" p) (e :: es) [] pos) (tE g W (fa.bind bSum)) := by
  have h := cr_sum (X := X) q.calm
  rw [q.hK] at h
  exact sq_B q h sc_sum hg hm (by rfl) ha hp
end
end CL
namespace CL
open PySem PySem.Spec PyProof.Rows L2

/-! ## a comprehension with two clauses -/
theorem wipe_sub {σ : L2.St} {vs vs1 : List Nat} (h : ∀ i ∈ vs1, i ∈ vs) : wipe (wipe σ vs1) vs = wipe σ vs := by
  refine List.ext_getElem? fun j => ?_
  rw [wipe_get, wipe_get, wipe_get]
  by_cases h1 : j ∈ vs
  · rw [if_pos h1, if_pos h1]
    by_cases h2 : j ∈ vs1
    · rw [if_pos h2]
      cases σ[j]? <;> rfl
    · rw [if_neg h2]
  · rw [if_neg h1, if_neg h1, if_neg fun z => h1 (h j z)]
def lcL2 (t : Tg) (ft : M Bool) (fi1 : M (List D)) (t1 : Tg) (ft1 : M Bool) (fe : M D) (vs1 vs : List Nat) : List D → List D → M (List D)
  | [], acc => M.ret acc
  | d :: ds, acc => fun c => match cTg t d c with
    | .ok .next c1 => match ft c1 with
      | .ok true c2 => match fi1 c2 with
        | .ok ds1 c3 => (lcL t1 ft1 fe vs1 ds1 acc (wipeC vs1 c3)).bind fun acc' c4 => lcL2 t ft fi1 t1 ft1 fe vs1 vs ds acc' (wipeC vs c4)
        | _ => .stuck
      | .ok false c2 => lcL2 t ft fi1 t1 ft1 fe vs1 vs ds acc (wipeC vs c2)
      | _ => .stuck
    | _ => .stuck
def cLc2 (fi : M (List D)) (t : Tg) (ft : M Bool) (fi1 : M (List D)) (t1 : Tg) (ft1 : M Bool) (fe : M D) (vs1 vs : List Nat) : M (List D) := fun c => (fi c).bind fun ds c' => lcL2 t ft fi1 t1 ft1 fe vs1 vs ds [] (wipeC vs c')
def LcI2 (g : G) (W : WX) (σ : L2.St) (vs1 vs : List Nat) (Q : VK) (t : Tg) (ft : M Bool) (fi1 : M (List D)) (t1 : Tg) (ft1 : M Bool) (fe : M D) (m1 : Mp) (Dl : Addr) (rest : List D) (H : Hp) : Prop :=
  ∃ m2 c2 acc av, Ext m1 m2 ∧ Sim g m2 c2 (L2.wipe σ vs) H ∧ H Dl = some (.lst av) ∧ Svs g m2 acc av ∧ Fre m2 c2 Dl ∧ Out (rL g) g W σ m2 (lcL2 t ft fi1 t1 ft1 fe vs1 vs rest acc c2) Q
/-- the inner invariant -/
def LcI1 (g : G) (W : WX) (σ σ2 : L2.St) (vs1 vs : List Nat) (Q : VK) (t : Tg) (ft : M Bool) (fi1 : M (List D)) (t1 : Tg) (ft1 : M Bool) (fe : M D) (m1 mi : Mp) (Dl : Addr) (rest rest1 : List D) (H : Hp) : Prop :=
  ∃ m2 c2 acc av, Ext m1 m2 ∧ (∀ (n : Nat) (a : Addr), mi.rho[n]? = some a → m2.rho[n]? = some a) ∧ (∀ (a : Addr) (o : HO), mi.F a = some o → m2.F a = some o) ∧ Sim g m2 c2 (L2.wipe σ2 vs1) H ∧ H Dl = some (.lst av) ∧ Svs g m2 acc av ∧ Fre m2 c2 Dl ∧ Out (rL g) g W σ m2 ((lcL t1 ft1 fe vs1 rest1 acc c2).bind fun acc' c4 => lcL2 t ft fi1 t1 ft1 fe vs1 vs rest acc' (wipeC vs c4)) Q
section
variable {g : G} {k : Nat} {N : List Str} {X : Cx} {sc ws : Scope} {W : WX} {pos : Pos} {tg iter tg1 iter1 elt : Expr} {ifs ifs1 : List Expr} {fi fi1 : M (List D)} {t t1 : Tg} {ft ft1 : M Bool} {fe : M D} {scope : Scope} {own : List (Str × Nat)} {vs1 : List Nat}
theorem lc2_read (hv : ∀ i ∈ t.slots, i ∈ own.map (·.2)) (hv1 : ∀ i ∈ t1.slots, i ∈ vs1) (hs : ∀ i ∈ vs1, i ∈ own.map (·.2)) (σ : L2.St) (H : Hp) (Q : VK) (q : tL g W (cLc2 fi t ft fi1 t1 ft1 fe vs1 (own.map (·.2))) σ H Q) : tLc2 (tI g W fi) (gT g t) (tT g WF ft) (tI g WF fi1) (gT g t1) (tT g WF ft1) (tE g WF fe) (own.map (·.2)) vs1 σ H Q := by
  obtain ⟨m, c, s, o⟩ := q
  refine ⟨m, c, s, o.bind.imp fun J H1 ⟨m1, ds, c1, x1, s1, y, o1⟩ => fun Dl hD => ?_⟩
  obtain ⟨s2, f2⟩ := (s1.wipe (own.map (·.2))).new (u := .lst []) hD
  refine ⟨fun i mm H => mm = ds.length - i ∧ i ≤ ds.length ∧ LcI2 g W σ vs1 (own.map (·.2)) Q t ft fi1 t1 ft1 fe m1 Dl (ds.drop i) H, ⟨ds.length, by simp, Nat.zero_le _, m1, _, [], [], Ext.rfl', s2, upd_same, .nil, f2, o1⟩, ?_⟩
  have same : ∀ {H4 : Hp} {av : List V}, H4 Dl = some (.lst av) → upd H4 Dl (.lst av) = H4 := fun {H4 av} h => by
    funext b
    by_cases e : b = Dl
    · rw [e, upd_same, h]
    · rw [upd_ne e]
  rintro i mm H2 ⟨rfl, hi, m2, c2, acc, av, x2, s2, hp, ha, f2, o2⟩
  by_cases hlt : i < ds.length
  · have sB := s2.hide f2 hp (fun ps z => nomatch z)
    obtain ⟨_, y2⟩ := y { m2 with B := upd m2.B Dl (.lst av) } c2 _ H2 x2.r x2.f sB i
    obtain ⟨go, yl⟩ := y2 _ (List.getElem?_eq_getElem hlt)
    rw [List.drop_eq_getElem_cons hlt] at o2
    refine .inr ⟨go, LcI2 g W σ vs1 (own.map (·.2)) Q t ft fi1 t1 ft1 fe m1 Dl (ds.drop (i + 1)), fun H3 z => ⟨ds.length - (i + 1), by omega, rfl, hlt, z⟩, fun x H3 yx => ?_⟩
    obtain ⟨m3, x3, s3, k3⟩ := yl x H3 yx
    unfold lcL2 at o2
    rcases cTg_next t ds[i] c2 with ⟨c4, e4⟩ | e4
    · rw [e4] at o2
      dsimp only at o2
      refine PTg.go s3 k3 e4 fun σ4 s4 w4 => ⟨?_, m3, c4, s4, ?_⟩
      · rw [w4 _ hv, wipe_wipe]
      · have w4 := (w4 _ hv).trans (wipe_wipe σ _)
        cases q : ft c4 with
        | ok b c5 =>
          rw [q] at o2
          intro m5 b' H5 x5 s5 kb
          have kb : b = b' := kb
          subst kb
          cases b with
          | true =>
            dsimp only at o2
            show tI g WF fi1 σ4 H5 _
            refine ⟨m5, c5, s5, ?_⟩
            cases r : fi1 c5 with
            | ok ds1 c6 =>
              rw [r] at o2
              dsimp only at o2
              intro m6 J1 H6 x6 s6 y6
              have xx := (x3.trans x5).trans x6
              obtain ⟨z1, z2, z3⟩ := (s6.wipe vs1).unhide (u' := .lst av) xx.b f2.b
              have ex : Ext m2 { m6 with B := m2.B } := ⟨xx.r, xx.f, rfl, xx.i⟩
              rw [same z1] at z2
              refine ⟨fun j kk H => kk = ds1.length - j ∧ j ≤ ds1.length ∧ LcI1 g W σ σ4 vs1 (own.map (·.2)) Q t ft fi1 t1 ft1 fe m1 m6 Dl (ds.drop (i + 1)) (ds1.drop j) H, ⟨ds1.length, by simp, Nat.zero_le _, { m6 with B := m2.B }, wipeC vs1 c6, acc, av, x2.trans ex, fun _ _ z => z, fun _ _ z => z, z2, z1, Svs.like (m := m2) (m' := { m6 with B := m2.B }) xx.r xx.f ha, z3, o2.mono ex⟩, ?_⟩
              rintro j kk H7 ⟨rfl, hj, m7, c7, acc7, av7, x7, r7, f7, s7, hp7, ha7, g7, o7⟩
              by_cases hlt1 : j < ds1.length
              · have sB7 := s7.hide g7 hp7 (fun ps z => nomatch z)
                obtain ⟨_, y7⟩ := y6 { m7 with B := upd m7.B Dl (.lst av7) } c7 _ H7 r7 f7 sB7 j
                obtain ⟨go7, yl7⟩ := y7 _ (List.getElem?_eq_getElem hlt1)
                rw [List.drop_eq_getElem_cons hlt1] at o7
                refine .inr ⟨go7, LcI1 g W σ σ4 vs1 (own.map (·.2)) Q t ft fi1 t1 ft1 fe m1 m6 Dl (ds.drop (i + 1)) (ds1.drop (j + 1)), fun H8 z => ⟨ds1.length - (j + 1), by omega, rfl, hlt1, z⟩, fun x8 H8 yx8 => ?_⟩
                obtain ⟨m8, x8, s8, k8⟩ := yl7 x8 H8 yx8
                unfold lcL at o7
                have fin : ∀ {m9 : Mp} {c9 : CS} {σ9 : L2.St} {H9 : Hp} {acc' : List D} {av' : List V}, Ext { m7 with B := upd m7.B Dl (.lst av7) } m9 → Sim g m9 c9 σ9 H9 → L2.wipe σ9 vs1 = L2.wipe σ4 vs1 → Svs g m9 acc' av' → Out (rL g) g W σ m7 ((lcL t1 ft1 fe vs1 (ds1.drop (j + 1)) acc' (wipeC vs1 c9)).bind fun acc' c4 => lcL2 t ft fi1 t1 ft1 fe vs1 (own.map (·.2)) (ds.drop (i + 1)) acc' (wipeC (own.map (·.2)) c4)) Q →
                    H9 Dl = some (.lst av7) ∧ LcI1 g W σ σ4 vs1 (own.map (·.2)) Q t ft fi1 t1 ft1 fe m1 m6 Dl (ds.drop (i + 1)) (ds1.drop (j + 1)) (upd H9 Dl (.lst av')) := fun {m9 c9 σ9 H9 acc' av'} x9 s9 w9 k9 o9 => by
                  obtain ⟨z1, z2, z3⟩ := s9.unhide (u' := .lst av') x9.b g7.b
                  have ex : Ext m7 { m9 with B := m7.B } := ⟨x9.r, x9.f, rfl, x9.i⟩
                  refine ⟨z1, { m9 with B := m7.B }, wipeC vs1 c9, acc', av', x7.trans ex, fun n a z => x9.r n a (r7 n a z), fun a o z => x9.f a o (f7 a o z), ?_, upd_same, Svs.like (m := m9) (m' := { m9 with B := m7.B }) (fun _ _ z => z) (fun _ _ z => z) k9, z3.wipe _, o9.mono ex⟩
                  have z := z2.wipe vs1
                  rw [w9] at z
                  exact z
                rcases cTg_next t1 ds1[j] c7 with ⟨c10, e10⟩ | e10
                · rw [e10] at o7
                  dsimp only at o7
                  refine PTg.go s8 k8 e10 fun σ10 s10 w10 => ⟨?_, m8, c10, s10, ?_⟩
                  · rw [w10 _ hv1, wipe_wipe]
                  · have w10 := (w10 _ hv1).trans (wipe_wipe σ4 _)
                    cases q1 : ft1 c10 with
                    | ok b c11 =>
                      rw [q1] at o7
                      intro m11 b' H11 x11 s11 kb
                      have kb : b = b' := kb
                      subst kb
                      cases b with
                      | true =>
                        dsimp only at o7
                        show tE g WF fe σ10 H11 _
                        refine ⟨m11, c11, s11, ?_⟩
                        cases r1 : fe c11 with
                        | ok yv c12 =>
                          rw [r1] at o7
                          cases hz : decide (acc7.length < sizeLine) with
                          | false =>
                            rw [hz] at o7
                            exact o7.elim
                          | true =>
                            rw [hz] at o7
                            intro m12 v H12 x12 s12 k12
                            have xx := (x8.trans x11).trans x12
                            obtain ⟨z1, z2⟩ := fin xx s12 w10 ((Svs.like (m := m7) (m' := m12) xx.r xx.f ha7).append (.cons k12 .nil)) o7
                            exact ⟨av7, z1, by rw [← ha7.length]; exact of_decide_eq_true hz, z2⟩
                        | exc cn us c6 => rw [r1] at o7; exact o7.elim
                        | stuck => rw [r1] at o7; exact o7.elim
                      | false =>
                        dsimp only at o7
                        have xx := x8.trans x11
                        obtain ⟨z1, z2⟩ := fin xx s11 w10 (Svs.like (m := m7) (m' := m11) xx.r xx.f ha7) o7
                        rw [same z1] at z2
                        exact z2
                    | exc cn us c5 => rw [q1] at o7; exact o7.elim
                    | stuck => rw [q1] at o7; exact o7.elim
                · rw [e10] at o7
                  exact o7.elim
              · have e : j = ds1.length := by omega
                subst e
                obtain ⟨y7, _⟩ := y6 m7 c7 _ H7 r7 f7 s7 ds1.length
                rw [List.drop_length, show lcL t1 ft1 fe vs1 [] acc7 c7 = .ok acc7 c7 from by rw [lcL]; rfl] at o7
                have o7 : Out (rL g) g W σ m7 (lcL2 t ft fi1 t1 ft1 fe vs1 (own.map (·.2)) (ds.drop (i + 1)) acc7 (wipeC (own.map (·.2)) c7)) Q := o7
                refine .inl ⟨y7 rfl, m7, wipeC (own.map (·.2)) c7, acc7, av7, x7, ?_, hp7, ha7, g7.wipe _, o7⟩
                have z := s7.wipe (own.map (·.2))
                rw [wipe_sub hs, w4] at z
                exact z
            | exc cn us c6 => rw [r] at o2; exact o2.elim
            | stuck => rw [r] at o2; exact o2.elim
          | false =>
            dsimp only at o2
            have xx := x3.trans x5
            obtain ⟨z1, z2, z3⟩ := s5.unhide (u' := .lst av) xx.b f2.b
            have ex : Ext m2 { m5 with B := m2.B } := ⟨xx.r, xx.f, rfl, xx.i⟩
            have z := z2.wipe (own.map (·.2))
            rw [w4, same z1] at z
            exact ⟨{ m5 with B := m2.B }, wipeC (own.map (·.2)) c5, acc, av, x2.trans ex, z, z1, Svs.like (m := m2) (m' := { m5 with B := m2.B }) xx.r xx.f ha, z3.wipe _, o2.mono ex⟩
        | exc cn us c5 => rw [q] at o2; exact o2.elim
        | stuck => rw [q] at o2; exact o2.elim
    · rw [e4] at o2
      exact o2.elim
  · have e : i = ds.length := by omega
    subst e
    obtain ⟨y1, _⟩ := y m2 c2 _ H2 x2.r x2.f s2 ds.length
    rw [List.drop_length] at o2
    exact .inl ⟨y1 rfl, o2.here s2.unwipe ⟨Dl, av, rfl, hp, ha, f2⟩⟩
structure LcJ2 (g : G) (X : Cx) (scope : Scope) (tg : Expr) (t : Tg) (ifs : List Expr) (ft : M Bool) (tg1 : Expr) (t1 : Tg) (iter1 : Expr) (fi1 : M (List D)) (ifs1 : List Expr) (ft1 : M Bool) (elt : Expr) (fe : M D) : Prop where
  tg : ∀ (s : Shared) (H : Hp) (C : Addr) (cl : List (Str × Addr)) (fp : List Addr), PTg g (X.blk s H scope (compEnvC scope cl C X.env) fp) tg t
  ts : ∀ (s : Shared) (H : Hp) (C : Addr) (cl : List (Str × Addr)) (fp : List Addr), PTs (X.blk s H scope (compEnvC scope cl C X.env) fp) ifs (tT g WF ft)
  it1 : ∀ (s : Shared) (H : Hp) (C : Addr) (cl : List (Str × Addr)) (fp : List Addr), PI (X.blk s H scope (compEnvC scope cl C X.env) fp) tg1 iter1 (tI g WF fi1)
  tg1 : ∀ (s : Shared) (H : Hp) (C : Addr) (cl : List (Str × Addr)) (fp : List Addr), PTg g (X.blk s H scope (compEnvC scope cl C X.env) fp) tg1 t1
  ts1 : ∀ (s : Shared) (H : Hp) (C : Addr) (cl : List (Str × Addr)) (fp : List Addr), PTs (X.blk s H scope (compEnvC scope cl C X.env) fp) ifs1 (tT g WF ft1)
  el : ∀ (s : Shared) (H : Hp) (C : Addr) (cl : List (Str × Addr)) (fp : List Addr), PE (X.blk s H scope (compEnvC scope cl C X.env) fp) elt (tE g WF fe)
theorem sl_lc2 (q : Good g k N X sc ws W) (hi : PI X tg iter (tI g W fi)) (ok : BlkOk X.N X.env.scope scope own) (J : LcJ2 g X scope tg t ifs ft tg1 t1 iter1 fi1 ifs1 ft1 elt fe) (hv : ∀ i ∈ t.slots, i ∈ own.map (·.2)) (hv1 : ∀ i ∈ t1.slots, i ∈ vs1) (hs : ∀ i ∈ vs1, i ∈ own.map (·.2)) (h1 : notSet iter = true) (h2 : notSet iter1 = true) : PE X (.ListComp elt [⟨tg, iter, ifs, 0⟩, ⟨tg1, iter1, ifs1, 0⟩] scope pos) (tL g W (cLc2 fi t ft fi1 t1 ft1 fe vs1 (own.map (·.2)))) :=
  pe_imp (pe_lc2 q.calm q.ndX hi ok hs (fun s H C cl fp => (J.tg s H C cl fp).run) J.ts J.it1 (fun s H C cl fp => (J.tg1 s H C cl fp).run) J.ts1 J.el (folded_ok h1) (fun env => folded_ok h2)) (lc2_read hv hv1 hs)
end
end CL
namespace CL
open PySem PySem.Spec PyProof.Rows L2

/-! ## walks over lists of the store: they go on while the list stays -/
def YldG (g : G) (m : Mp) (J : It) (ds : List D) (P : CS → Bool) : Prop := ∀ (m1 : Mp) (c : CS) (σ : L2.St) (H : Hp), (∀ (n : Nat) (a : Addr), m.rho[n]? = some a → m1.rho[n]? = some a) → (∀ (a : Addr) (o : HO), m.F a = some o → m1.F a = some o) → Sim g m1 c σ H → P c = true → ∀ i : Nat,
  (i = ds.length → J.stop i H) ∧ ∀ d, ds[i]? = some d → J.go i H ∧ ∀ x H', J.yld i H x H' → ∃ m2, Ext m1 m2 ∧ Sim g m2 c σ H' ∧ Sv g m2 d x
def rIG (g : G) : Rl (List D × (CS → Bool)) It := fun m _ _ p J => YldG g m J p.1 p.2
abbrev tIG (g : G) (W : WX) (f : M (List D × (CS → Bool))) : TI := tX (rIG g) g W f
/-- list l is at d -/
noncomputable def isAt (d : D) (l : List D) : CS → Bool := fun c => @decide (c.seqL d = some l) (Classical.propDecidable _)
theorem isAt_iff {d : D} {l : List D} {c : CS} : isAt d l c = true ↔ c.seqL d = some l := by
  unfold isAt
  exact @decide_eq_true_iff _ (Classical.propDecidable _)
noncomputable def dWalkG (d : D) : M (List D × (CS → Bool)) := fun c => match c.seqL d with
  | some l => .ok (l, isAt d l) c
  | none => .stuck
noncomputable def cWalkG (f : M D) : M (List D × (CS → Bool)) := f.bind dWalkG
def dZipT (x y : D) : M (List D × (CS → Bool)) := fun c => match x, y with
  | .tup xs, .tup ys => .ok (zipD xs ys, fun _ => true) c
  | _, _ => .stuck
noncomputable def dZipG (x y : D) : M (List D × (CS → Bool)) := fun c => match c.seqL x, c.seqL y with
  | some xs, some ys => .ok (zipD xs ys, fun c => isAt x xs c && isAt y ys c) c
  | _, _ => dZipT x y c
noncomputable def cZipG (f h : M D) : M (List D × (CS → Bool)) := f.bind fun x => h.bind fun y => dZipG x y
theorem Sim.at {g : G} {m m1 : Mp} {c : CS} {σ : L2.St} {H : Hp} {d : D} {l : List D} {a : Addr} (s : Sim g m1 c σ H) (xr : ∀ (n : Nat) (a : Addr), m.rho[n]? = some a → m1.rho[n]? = some a) (xf : ∀ (a : Addr) (o : HO), m.F a = some o → m1.F a = some o) (k : Sv g m d (.ref a)) (e : isAt d l c = true) : ∃ vs, H a = some (.lst vs) ∧ Svs g m1 l vs := by
  obtain ⟨p, vs, e1, h1, h2⟩ := s.seqL (isAt_iff.mp e) (Sv.like xr xf k)
  cases e1
  exact ⟨vs, h1, h2⟩
theorem yldG_list {g : G} {m : Mp} {a : Addr} {d : D} {ds : List D} (k : Sv g m d (.ref a)) : YldG g m (Itl g.K a) ds (isAt d ds) := fun m1 c σ H xr xf s p i => by
  obtain ⟨vs, h, k⟩ := s.at xr xf k p
  have hq : SqL g.K H a vs := SqL.of h
  have kl := k.length
  refine ⟨fun hi => ⟨vs, hq, by omega⟩, fun d hd => ?_⟩
  obtain ⟨v, h1, h2⟩ := k.get hd
  refine ⟨⟨vs, v, hq, h1⟩, fun y H' ⟨e1, e2⟩ => ?_⟩
  have e3 := e2 vs hq
  rw [h1] at e3
  cases e3
  subst e1
  exact ⟨m1, Ext.rfl', s, h2⟩
theorem yldG_zip {g : G} {m : Mp} {a b : Addr} {x y : D} {ds es : List D} (k : Sv g m x (.ref a)) (l : Sv g m y (.ref b)) : YldG g m (Itz g.K a b) (zipD ds es) (fun c => isAt x ds c && isAt y es c) := fun m1 c σ H xr xf s p i => by
  rw [Bool.and_eq_true] at p
  obtain ⟨vs, h, k⟩ := s.at xr xf k p.1
  obtain ⟨ws, h', k'⟩ := s.at xr xf l p.2
  have hq : SqL g.K H a vs := SqL.of h
  have hq' : SqL g.K H b ws := SqL.of h'
  have kl := k.length
  have kl' := k'.length
  refine ⟨fun hi => ⟨vs, ws, hq, hq', by rw [zipD_length] at hi; omega⟩, fun d hd => ?_⟩
  obtain ⟨x, y, hx, hy, rfl⟩ := zipD_at hd
  obtain ⟨v, h1, h2⟩ := k.get hx
  obtain ⟨w, g1, g2⟩ := k'.get hy
  refine ⟨⟨vs, ws, v, w, hq, hq', h1, g1⟩, fun z H' ⟨T, v', w', e1, e2, e3, e4, e5⟩ => ?_⟩
  have f4 := e4 vs hq
  have f5 := e5 ws hq'
  rw [h1] at f4
  rw [g1] at f5
  cases f4
  cases f5
  subst e1 e3
  exact yld_pair2 s h2 g2 e2
theorem yldG_of {g : G} {m : Mp} {J : It} {ds : List D} {P : CS → Bool} (y : Yld g m J ds) : YldG g m J ds P := fun m1 c σ H xr xf s _ i => y m1 c σ H xr xf s i
section
variable {g : G} {k : Nat} {N : List Str} {X : Cx} {sc ws : Scope} {W : WX} {p pos tpos : Pos} {e e2 tg : Expr} {fe fe2 : M D} {es : List Expr} {kk : Nat}
theorem sq_seqG (q : Good g k N X sc ws W) (he : PE X e (tE g W fe)) : PI X tg e (tIG g W (cWalkG fe)) := by
  refine ⟨fun pins s σ H R I ⟨m, c, sm, o⟩ => ?_⟩
  refine thn (he.run pins s σ H _ I ⟨m, c, sm, o.bind⟩) fun u s1 ⟨v, H1, I1, r1, m1, d, c1, x1, s2, k1, o1⟩ => ?_
  unfold dWalkG at o1
  cases ed : c1.seqL d with
  | none => rw [ed] at o1; exact o1.elim
  | some ds =>
    rw [ed] at o1
    obtain ⟨a, vs, rfl, h1, h2⟩ := s2.seqL ed k1
    cases r1
    obtain ⟨its, _, pl, _⟩ := I1.list (SqL.of h1)
    refine wpAny_pyIter_list pl.isList ⟨s1.heap.objs.size, [s1.heap.objs.size], _, _, H1, rfl, I1.kept (t' := s1.toks) fun b ob q => Heap.get?_push_of_some _ q, turn_list a _, ⟨_, Heap.get?_push_size _ rfl, rfl, rfl⟩, fun b hb => ?_, ?_⟩
    · cases List.mem_singleton.mp hb
      exact I1.fpOk (Nat.le_refl _) (I1.hok.fresh (Nat.le_refl _))
    · rw [q.hK]
      exact o1.here s2 (yldG_list k1)
theorem sq_zipG (q : Good g k N X sc ws W) (hg : isGl sc "zip" = true) (hm : g.mg "zip" = none) (he : PE X e (tE g W fe)) (he2 : PE X e2 (tE g W fe2)) (hs : isStar e = false) (hs2 : isStar e2 = false) : PI X (.Tuple es kk tpos) (.Call (.Name "zip" p) [e, e2] [] pos) (tIG g W (cZipG fe fe2)) := by
  refine pi_imp (RZ.pi_zipA (q.gl hg).1 (by rw [q.hmg]; exact hm) (pa_cons he (pa_cons he2 pa_nil (star_plain hs2)) (star_plain hs)) (star_plain hs) (plain_any (es := [e2]) (by unfold plainArgs; simp [hs2]))) fun σ H R ⟨m, c, s, o⟩ => ⟨m, c, s, o.bind.imp fun v H1 ⟨m1, d, c1, x1, s1, k1, o1⟩ => ⟨m1, c1, s1, o1.bind.imp fun w H2 ⟨m2, d2, c2, x2, s2, k2, o2⟩ => ?_⟩⟩
  have k1 := k1.mono x2
  rw [q.hK]
  unfold dZipG at o2
  show ∃ a b xs ys, [v, w] = [V.ref a, V.ref b] ∧ (SqL g.K H2 a xs ∧ SqL g.K H2 b ys ∧ R (Itz g.K a b) H2 ∨ SqT g.K H2 a xs ∧ SqT g.K H2 b ys ∧ R (RZ.ItzT g.K a b) H2)
  have tups : Out (rIG g) g W σ m2 (dZipT d d2 c2) R → ∃ a b xs ys, [v, w] = [V.ref a, V.ref b] ∧ (SqL g.K H2 a xs ∧ SqL g.K H2 b ys ∧ R (Itz g.K a b) H2 ∨ SqT g.K H2 a xs ∧ SqT g.K H2 b ys ∧ R (RZ.ItzT g.K a b) H2) := fun o2 => by
    cases k1 with
    | @tup a xs vs h1 h2 =>
      cases k2 with
      | @tup b ys us g1 g2 => exact ⟨a, b, vs, us, rfl, .inr ⟨s2.sqT h1, s2.sqT g1, o2.here s2 (yldG_of (yld_zipT h1 h2 g1 g2))⟩⟩
      | _ => exact o2.elim
    | _ => cases k2 <;> exact o2.elim
  cases e1 : c2.seqL d with
  | none => rw [e1] at o2; exact tups o2
  | some xs =>
    cases e2 : c2.seqL d2 with
    | none => rw [e1, e2] at o2; exact tups o2
    | some ys =>
      rw [e1, e2] at o2
      obtain ⟨a, vs, rfl, h1, h2⟩ := s2.seqL e1 k1
      obtain ⟨b, us, rfl, g1, g2⟩ := s2.seqL e2 k2
      exact ⟨a, b, vs, us, rfl, .inl ⟨SqL.of h1, SqL.of g1, o2.here s2 (yldG_zip k1 k2)⟩⟩
end
def lcLG (pc : CS → Bool) (t : Tg) (ft : M Bool) (fe : M D) (vs : List Nat) : List D → List D → M (List D)
  | [], acc => fun c => match pc c with
    | true => .ok acc c
    | false => .stuck
  | d :: ds, acc => fun c => match pc c with
    | false => .stuck
    | true => match cTg t d c with
      | .ok .next c1 => match ft c1 with
        | .ok true c2 => match fe c2 with
          | .ok y c3 => M.guard (decide (acc.length < sizeLine)) (lcLG pc t ft fe vs ds (acc ++ [y])) (wipeC vs c3)
          | _ => .stuck
        | .ok false c2 => lcLG pc t ft fe vs ds acc (wipeC vs c2)
        | _ => .stuck
      | _ => .stuck
def cLcG (fi : M (List D × (CS → Bool))) (t : Tg) (ft : M Bool) (fe : M D) (vs : List Nat) : M (List D) := fun c => (fi c).bind fun p c' => lcLG p.2 t ft fe vs p.1 [] (wipeC vs c')
/-- the invariant of a comprehension -/
def LcIG (g : G) (W : WX) (σ : L2.St) (vs : List Nat) (Q : VK) (pc : CS → Bool) (t : Tg) (ft : M Bool) (fe : M D) (m1 : Mp) (Dl : Addr) (rest : List D) (H : Hp) : Prop :=
  ∃ m2 c2 acc av, Ext m1 m2 ∧ Sim g m2 c2 (L2.wipe σ vs) H ∧ H Dl = some (.lst av) ∧ Svs g m2 acc av ∧ Fre m2 c2 Dl ∧ Out (rL g) g W σ m2 (lcLG pc t ft fe vs rest acc c2) Q
section
variable {g : G} {k : Nat} {N : List Str} {X : Cx} {sc ws : Scope} {W : WX} {pos : Pos} {tg iter elt : Expr} {ifs : List Expr} {fi : M (List D × (CS → Bool))} {t : Tg} {ft : M Bool} {fe : M D} {scope : Scope} {own : List (Str × Nat)}
/-- the reading of a comprehension -/
theorem lcG_read (hv : ∀ i ∈ t.slots, i ∈ own.map (·.2)) (σ : L2.St) (H : Hp) (Q : VK) (q : tL g W (cLcG fi t ft fe (own.map (·.2))) σ H Q) : tLc (tIG g W fi) (gT g t) (tT g WF ft) (tE g WF fe) (own.map (·.2)) σ H Q := by
  obtain ⟨m, c, s, o⟩ := q
  refine ⟨m, c, s, o.bind.imp fun J H1 ⟨m1, ⟨ds, pc⟩, c1, x1, s1, y, o1⟩ => fun Dl hD => ?_⟩
  obtain ⟨s2, f2⟩ := (s1.wipe (own.map (·.2))).new (u := .lst []) hD
  refine ⟨fun i mm H => mm = ds.length - i ∧ i ≤ ds.length ∧ LcIG g W σ (own.map (·.2)) Q pc t ft fe m1 Dl (ds.drop i) H, ⟨ds.length, by simp, Nat.zero_le _, m1, _, [], [], Ext.rfl', s2, upd_same, .nil, f2, o1⟩, ?_⟩
  rintro i mm H2 ⟨rfl, hi, m2, c2, acc, av, x2, s2, hp, ha, f2, o2⟩
  have pcOk : pc c2 = true := by
    cases hpc : pc c2 with
    | true => rfl
    | false =>
      exfalso
      cases hd : ds.drop i with
      | nil =>
        rw [hd, lcLG] at o2
        dsimp only at o2
        rw [hpc] at o2
        exact o2.elim
      | cons d r =>
        rw [hd, lcLG] at o2
        dsimp only at o2
        rw [hpc] at o2
        exact o2.elim
  by_cases hlt : i < ds.length
  · have sB := s2.hide f2 hp (fun ps z => nomatch z)
    obtain ⟨_, y2⟩ := y { m2 with B := upd m2.B Dl (.lst av) } c2 _ H2 x2.r x2.f sB pcOk i
    obtain ⟨go, yl⟩ := y2 _ (List.getElem?_eq_getElem hlt)
    rw [List.drop_eq_getElem_cons hlt] at o2
    refine .inr ⟨go, LcIG g W σ (own.map (·.2)) Q pc t ft fe m1 Dl (ds.drop (i + 1)), fun H3 z => ⟨ds.length - (i + 1), by omega, rfl, hlt, z⟩, fun x H3 yx => ?_⟩
    obtain ⟨m3, x3, s3, k3⟩ := yl x H3 yx
    unfold lcLG at o2
    rw [pcOk] at o2
    dsimp only at o2
    -- whatever stands behind the element
    have fin : ∀ {m6 : Mp} {c6 : CS} {σ4 : L2.St} {H4 : Hp} {acc' : List D} {av' : List V}, Ext { m2 with B := upd m2.B Dl (.lst av) } m6 → Sim g m6 c6 σ4 H4 → L2.wipe σ4 (own.map (·.2)) = L2.wipe σ (own.map (·.2)) → Svs g m6 acc' av' → Out (rL g) g W σ m2 (lcLG pc t ft fe (own.map (·.2)) (ds.drop (i + 1)) acc' (wipeC (own.map (·.2)) c6)) Q →
        H4 Dl = some (.lst av) ∧ LcIG g W σ (own.map (·.2)) Q pc t ft fe m1 Dl (ds.drop (i + 1)) (upd H4 Dl (.lst av')) := fun {m6 c6 σ4 H4 acc' av'} x6 s6 w6 k6 o6 => by
      obtain ⟨z1, z2, z3⟩ := s6.unhide (u' := .lst av') x6.b f2.b
      have ex : Ext m2 { m6 with B := m2.B } := ⟨x6.r, x6.f, rfl, x6.i⟩
      refine ⟨z1, { m6 with B := m2.B }, wipeC (own.map (·.2)) c6, acc', av', x2.trans ex, ?_, upd_same, Svs.like (m := m6) (m' := { m6 with B := m2.B }) (fun _ _ z => z) (fun _ _ z => z) k6, z3.wipe _, o6.mono ex⟩
      have z := z2.wipe (own.map (·.2))
      rw [w6] at z
      exact z
    have same : ∀ {H4 : Hp}, H4 Dl = some (.lst av) → upd H4 Dl (.lst av) = H4 := fun {H4} h => by
      funext b
      by_cases e : b = Dl
      · rw [e, upd_same, h]
      · rw [upd_ne e]
    rcases cTg_next t ds[i] c2 with ⟨c4, e4⟩ | e4
    · rw [e4] at o2
      dsimp only at o2
      refine PTg.go s3 k3 e4 fun σ4 s4 w4 => ⟨?_, m3, c4, s4, ?_⟩
      · rw [w4 _ hv, wipe_wipe]
      · have w4 := (w4 _ hv).trans (wipe_wipe σ _)
        cases q : ft c4 with
        | ok b c5 =>
          rw [q] at o2
          intro m5 b' H5 x5 s5 kb
          have kb : b = b' := kb
          subst kb
          cases b with
          | true =>
            dsimp only at o2
            show tE g WF fe σ4 H5 _
            refine ⟨m5, c5, s5, ?_⟩
            cases r : fe c5 with
            | ok yv c6 =>
              rw [r] at o2
              obtain ⟨hz, o2⟩ := Out.guard o2
              intro m6 v H6 x6 s6 k6
              have xx := (x3.trans x5).trans x6
              obtain ⟨z1, z2⟩ := fin xx s6 w4 ((Svs.like (m := m2) (m' := m6) xx.r xx.f ha).append (.cons k6 .nil)) o2
              exact ⟨av, z1, by rw [← ha.length]; exact of_decide_eq_true hz, z2⟩
            | exc cn us c6 => rw [r] at o2; exact o2.elim
            | stuck => rw [r] at o2; exact o2.elim
          | false =>
            dsimp only at o2
            have xx := x3.trans x5
            obtain ⟨z1, z2⟩ := fin xx s5 w4 (Svs.like (m := m2) (m' := m5) xx.r xx.f ha) o2
            rw [same z1] at z2
            exact z2
        | exc cn us c5 => rw [q] at o2; exact o2.elim
        | stuck => rw [q] at o2; exact o2.elim
    · rw [e4] at o2
      exact o2.elim
  · have e : i = ds.length := by omega
    subst e
    obtain ⟨y1, _⟩ := y m2 c2 _ H2 x2.r x2.f s2 pcOk ds.length
    rw [List.drop_length, lcLG] at o2
    dsimp only at o2
    rw [pcOk] at o2
    exact .inl ⟨y1 rfl, o2.here s2.unwipe ⟨Dl, av, rfl, hp, ha, f2⟩⟩
theorem sl_lcG (q : Good g k N X sc ws W) (hi : PI X tg iter (tIG g W fi)) (ok : BlkOk X.N X.env.scope scope own) (J : LcJ g X scope tg t ifs ft elt fe) (hv : ∀ i ∈ t.slots, i ∈ own.map (·.2)) (hs : notSet iter = true) : PE X (.ListComp elt [⟨tg, iter, ifs, 0⟩] scope pos) (tL g W (cLcG fi t ft fe (own.map (·.2)))) :=
  pe_imp (pe_lc q.calm q.ndX hi ok (fun s H C cl fp => (J.tg s H C cl fp).run) J.ts J.el (folded_ok hs)) (lcG_read hv)
end
end CL
namespace CL
open PySem PySem.Spec PyProof.Rows L2

/-! ## for, over a list of the store -/
def forLG (pc : CS → Bool) (body : D → M Fl) : List D → M Fl
  | [] => fun c => match pc c with
    | true => .ok .next c
    | false => .stuck
  | d :: ds => fun c => match pc c with
    | false => .stuck
    | true => match body d c with
      | .ok .next c' => forLG pc body ds c'
      | .ok .cont c' => forLG pc body ds c'
      | .ok .brk c' => .ok .next c'
      | .ok (.ret v) c' => .ok (.ret v) c'
      | .exc cn vs c' => .exc cn vs c'
      | .stuck => .stuck
def cForG (fi : M (List D × (CS → Bool))) (t : Tg) (body : M Fl) : M Fl := fun c => (fi c).bind fun p c' => forLG p.2 (fun d => cSeq (cTg t d) body) p.1 c'
theorem forLG_next {pc : CS → Bool} {body : D → M Fl} {d : D} {ds : List D} {c c1 : CS} (p : pc c = true) (e : body d c = .ok .next c1) : forLG pc body (d :: ds) c = forLG pc body ds c1 := by
  rw [forLG]
  dsimp only
  rw [p]
  dsimp only
  rw [e]
section
variable {g : G} {k : Nat} {N : List Str} {X : Cx} {sc ws : Scope} {W : WX} {pos : Pos} {tg iter : Expr} {bd : List Stmt} {fi : M (List D × (CS → Bool))} {t : Tg} {fb : M Fl}
theorem ss_forG (q : Good g k N X sc ws W) (hi : PI X tg iter (tIG g W fi)) (ht : PTg g X tg t) (hb : PSs X bd (tS g W fb)) (hs : notSet iter = true) : PS X (.For tg iter bd [] pos) (tS g W (cForG fi t fb)) := by
  refine ps_imp (ps_for q.own q.calm hi ht.run hb (folded_ok hs)) fun Dn σ H ⟨m, c, s, o⟩ => ⟨m, c, s, o.bind.imp fun J H1 ⟨m1, ⟨ds, pc⟩, c1, x1, s1, y, o1⟩ => ?_⟩
  refine ⟨fun i mm σ H => mm = ds.length - i ∧ i ≤ ds.length ∧ ∃ m2 c2, Ext m1 m2 ∧ Sim g m2 c2 σ H ∧ OutS g W m2 (forLG pc (fun d => cSeq (cTg t d) fb) (ds.drop i) c2) Dn, ⟨ds.length, by simp, Nat.zero_le _, m1, c1, Ext.rfl', s1, o1⟩, ?_⟩
  rintro i mm σ2 H2 ⟨rfl, hi, m2, c2, x2, s2, o2⟩
  have pcOk : pc c2 = true := by
    cases hpc : pc c2 with
    | true => rfl
    | false =>
      exfalso
      cases hd : ds.drop i with
      | nil =>
        rw [hd, forLG] at o2
        dsimp only at o2
        rw [hpc] at o2
        exact o2.elim
      | cons d r =>
        rw [hd, forLG] at o2
        dsimp only at o2
        rw [hpc] at o2
        exact o2.elim
  obtain ⟨y1, y2⟩ := y m2 c2 σ2 H2 x2.r x2.f s2 pcOk i
  by_cases hlt : i < ds.length
  · obtain ⟨go, yl⟩ := y2 _ (List.getElem?_eq_getElem hlt)
    rw [List.drop_eq_getElem_cons hlt] at o2
    refine .inr ⟨go, fun σ3 H3 => ∃ m3 c3, Ext m1 m3 ∧ Sim g m3 c3 σ3 H3 ∧ OutS g W m3 (forLG pc (fun d => cSeq (cTg t d) fb) (ds.drop (i + 1)) c3) Dn, fun σ3 H3 ⟨m3, c3, z1, z2, z3⟩ => ⟨ds.length - (i + 1), by omega, rfl, hlt, m3, c3, z1, z2, z3⟩, fun x H3 yx => ?_⟩
    obtain ⟨m3, x3, s3, k3⟩ := yl x H3 yx
    have o3 := OutS.mono x3 o2
    unfold forLG at o3
    rw [pcOk] at o3
    dsimp only at o3
    rcases cTg_next t ds[i] c2 with ⟨c4, e4⟩ | e4
    · refine PTg.go s3 k3 e4 fun σ4 s4 _ => ⟨m3, c4, s4, ?_⟩
      have e5 : cSeq (cTg t ds[i]) fb c2 = fb c4 := by
        unfold cSeq
        rw [e4]
      rw [e5] at o3
      cases q : fb c4 with
      | ok f c5 =>
        rw [q] at o3
        cases f with
        | next => exact fun m6 σ6 H6 x6 s6 => ⟨m6, c5, (x2.trans x3).trans x6, s6, OutS.mono x6 o3⟩
        | cont => exact fun m6 σ6 H6 x6 s6 => ⟨m6, c5, (x2.trans x3).trans x6, s6, OutS.mono x6 o3⟩
        | brk => exact o3
        | ret v => exact o3
      | exc cn vs c5 => rw [q] at o3; exact o3
      | stuck => rw [q] at o3; exact o3
    · have e5 : cSeq (cTg t ds[i]) fb c2 = .stuck := by
        unfold cSeq
        rw [e4]
      rw [e5] at o3
      exact o3.elim
  · have e : i = ds.length := by omega
    subst e
    rw [List.drop_length, forLG] at o2
    dsimp only at o2
    rw [pcOk] at o2
    have o2 : OutS g W m2 (.ok .next c2) Dn := o2
    exact .inl ⟨y1 rfl, o2.nx s2⟩
end
end CL
namespace CL
open PySem PySem.Spec PyProof.Rows L2

/-! ## own exceptions over LookupError -/
def leEnd : List Value := [.type "LookupError", .type "Exception", .type "BaseException", .type "object"]
inductive LeMro : List Value → Prop
  | fin : LeMro leEnd
  | own {a : Addr} {l : List Value} : LeMro l → LeMro (.ref a :: l)
theorem LeMro.has {l : List Value} (h : LeMro l) (T : String) : l.contains (.type T) = leEnd.contains (.type T) := by
  induction h with
  | fin => rfl
  | own _ ih => rw [List.contains_cons, ih]; rfl
theorem LeMro.pass {l : List Value} (h : LeMro l) (z : Value) : refuseLoop z "__setattr__" l = pure () := by
  induction h with
  | fin => kernel_rfl
  | own _ ih => rw [refuseLoop_ref]; exact ih
theorem LeMro.some {l : List Value} (h : LeMro l) : l.isEmpty = false := by cases h <;> rfl
section
open Builtin Builtin.ObjectAttr
variable {P : Program} {w : World} {A : Around} {E : Value → Shared → Prop} {R : Result → Shared → Prop} {hp : Heap} {g : Array GenState} {d : Drawn} {t : Nat} {os : OsState} {K : PySem.W.Frag} {nm : Str} {tk : Tok} {v : Value} {x C dx : Addr} {cd : ClassData} {ox : Obj} {od : Option Obj}
theorem leSet (kin : K.In hp) (I : PySem.W.InstAt hp x ox C od) (e1 : PySem.W.clsIn K C = some cd) (e2 : LeMro cd.mro) (e3 : PySem.W.findIn K (.ref C) nm = some none)
    (hq : wpAny (model P w) A.in1 (storeInOwnDict (.ref x) (.ref C) (.str nm tk) nm v false) (fun f s => match f with | .done r => R (.ok r) s | .again c => c.quiet = true ∧ codeAny (model P w) A c R s) (fun e s => R (.error e) s) ⟨hp, g, d, t, os⟩) :
    codeAny (model P w) A (.call (.builtin "object.__setattr__") ⟨[.ref x, .str nm tk, v], []⟩) R ⟨hp, g, d, t, os⟩ := by
  have top : cd.mro.contains (.type "object") = true := (e2.has "object").trans (by decide +kernel)
  have isO : PySem.W.Looks (model P w) hp (isInstance (.ref x) (.type "object")) true := I.type.andThen (PySem.W.looks_mroIn kin (by unfold PySem.W.mroIn; rw [e1, Option.bind_some, if_neg (by rw [e2.some]; decide), top]))
  have SF := F.store_object
  refine codeAny_call_builtin SF.slot.plain SF.entry (@PySem.W.check_slot (model P w) _ _ ⟨hp, g, d, t, os⟩ "object.__setattr__" "object" "__setattr__" (.ref x) [.str nm tk, v] [] _ SF.kind SF.split isO (SF.args (.ref x) (.str nm tk) v) ?_)
  have m0 : PySem.W.Looks (model P w) hp (mroOf (.ref C)) cd.mro := (PySem.W.looks_clsIn kin e1).andThen .now
  have m1 : PySem.W.Looks (model P w) hp (storeTaker? none) none := .now
  rw [PySem.W.osa_eq, refuse_eq]
  refine wpAny_bind (wpAny_bind (I.type.at (wpAny_bind (m0.at ?_))))
  rw [e2.pass]
  refine wpAny_pure (wpAny_bind (I.type.at (wpAny_bind ((PySem.W.looks_findIn kin e3).at (wpAny_bind (m1.at ?_))))))
  exact hq
/-- the first field of a new exception -/
theorem leNew {fv : Array Value} (kin : K.In hp) (hx : hp.get? x = some { cls := .ref C, data := .fields fv }) (e1 : PySem.W.clsIn K C = some cd) (e2 : LeMro cd.mro) (e0 : cd.hasDict = true) (e3 : PySem.W.findIn K (.ref C) nm = some none)
    (hq : ∀ h2 t2 dx, (∀ b o, b ≠ x → hp.get? b = some o → h2.get? b = some o) → hp.objs.size ≤ dx → dx ≠ x → h2.get? x = some { cls := .ref C, dict := some dx, data := .fields fv } → h2.Ns1 dx (fun y => if y = nm then some v else none) → R (.ok (.ret .none)) ⟨h2, g, d, t2, os⟩) :
    codeAny (model P w) A (.call (.builtin "object.__setattr__") ⟨[.ref x, .str nm tk, v], []⟩) R ⟨hp, g, d, t, os⟩ := by
  have xs : hp.objs.size ≠ x := Ne.symm (Nat.ne_of_lt (Heap.lt_size hx))
  have lk : PySem.W.Looks (model P w) hp (classData C) cd := PySem.W.looks_clsIn kin e1
  refine leSet kin (od := none) ⟨hx, rfl, rfl, trivial⟩ e1 e2 e3 ?_
  obtain ⟨nm1, bs, mr, ns, qn, hd, sn, sb, ab, col, del⟩ := cd
  dsimp only at e0
  subst e0
  unfold storeInOwnDict ownDictForStores
  repeat (first | with_reducible refine HandSPX.store_in_new ?_ ?_ | with_reducible refine wpAny_loadPart_at hx ?_ | with_reducible refine lk.at ?_ | wp_step)
  · exact ⟨_, #[], _, (Heap.get?_update_ne _ _ _ _ xs).trans (Heap.get?_push_at rfl rfl), rfl, fun e he => absurd he (by simp), fun _ => rfl⟩
  · intro h2 t2 n2 sb2
    have hx1 : (hp.push { cls := .type "dict", data := .dict #[] }).get? x = some { cls := .ref C, data := .fields fv } := Heap.get?_push_of_some _ hx
    exact hq h2 t2 hp.objs.size (fun b o nb z => (sb2.2 b (Nat.ne_of_lt (Heap.lt_size z))).trans ((Heap.get?_update_ne _ _ _ _ nb).trans (Heap.get?_push_of_some _ z))) (Nat.le_refl _) xs ((sb2.2 x (Ne.symm xs)).trans (Heap.get?_update_self _ hx1 rfl)) n2
/-- a further field -/
theorem leOld {fv : Array Value} {m0 : Str → Option Value} {nl : List Str} (kin : K.In hp) (hx : hp.get? x = some { cls := .ref C, dict := some dx, data := .fields fv }) (hn : hp.Ns1 dx m0) (hw : Within m0 nl) (hz : nl.length ≤ 1000) (e1 : PySem.W.clsIn K C = some cd) (e2 : LeMro cd.mro) (e0 : cd.hasDict = true) (e3 : PySem.W.findIn K (.ref C) nm = some none)
    (hq : ∀ h2 t2, (∀ b o, b ≠ dx → hp.get? b = some o → h2.get? b = some o) → h2.Ns1 dx (fun y => if y = nm then some v else m0 y) → R (.ok (.ret .none)) ⟨h2, g, d, t2, os⟩) :
    codeAny (model P w) A (.call (.builtin "object.__setattr__") ⟨[.ref x, .str nm tk, v], []⟩) R ⟨hp, g, d, t, os⟩ := by
  obtain ⟨oD, _, _, hoD, _, _⟩ := hn.count hw
  have lk : PySem.W.Looks (model P w) hp (classData C) cd := PySem.W.looks_clsIn kin e1
  refine leSet kin (od := some oD) ⟨hx, rfl, rfl, hoD⟩ e1 e2 e3 ?_
  obtain ⟨nm1, bs, mr, ns, qn, hd, sn, sb, ab, col, del⟩ := cd
  dsimp only at e0
  subst e0
  unfold storeInOwnDict ownDictForStores
  repeat (first | with_reducible refine OEX.store_in_old hn hw hz ?_ | with_reducible refine wpAny_loadPart_at hx ?_ | with_reducible refine lk.at ?_ | wp_step)
  intro h2 t2 n2 sb2
  exact hq h2 t2 (fun b o nb z => (sb2.2 b nb).trans z) n2
end
/-- what the written part says of such a class -/
structure OexL (K : PySem.W.Frag) (C : Addr) : Prop where
  cls : ∃ n1 n2 N bs bm sn sub ab col dd k0 k1 k2 k3 k5, K.lookup C = some (excClassObj n1 n2 C N bs bm true sn sub ab col dd k0 k1 k2 k3 k5 "LookupError.__new__") ∧ LeMro bm
  sa : PySem.W.findIn K (.ref C) "__setattr__" = some (some (.builtin "object.__setattr__"))
  exC : PySem.W.subIn K (.ref C) (.type "BaseException") = some true
  tyC : PySem.W.typeIn K (.ref C) = some (.type "type")
  kC : PySem.W.keepIn K (.ref C) = true
section
variable {X : Cx} {pins : List (Addr × Obj)} {σ : L2.St} {H : Hp} {s : Shared} {a C dx : Addr} {f : Str} {y : V} {u : Value} {fs : List (Str × V)} {Q : Unit → Shared → Prop} {E : Value → Shared → Prop} {A : Around}
theorem OexL.data {K : PySem.W.Frag} (T : OexL K C) : ∃ cd, PySem.W.clsIn K C = some cd ∧ LeMro cd.mro ∧ cd.hasDict = true := by
  obtain ⟨n1, n2, N, bs, bm, sn, sub, ab, col, dd, k0, k1, k2, k3, k5, e, hm⟩ := T.cls
  exact ⟨{ name := n1, bases := bs, mro := .ref C :: bm, ns := N, qualname := n2, hasDict := true, slotNames := sn, subclasses := sub, abstract := ab, collection := col, hasDel := false }, by unfold PySem.W.clsIn; rw [e] <;> rfl, .own hm, rfl⟩
theorem osl_new (T : OexL X.K C) (I : Inv X pins σ H s) (ea : H a = some (exo a C none)) (nf : PySem.W.findIn X.K (.ref C) f = some none) (ry : RelV y u)
    (go : ∀ dx s2, H dx = none → dx ≠ a → Inv X pins σ (upd (upd H dx (exd dx [(f, y)])) a (exo a C (some dx))) s2 → Q () s2) : wpAny (model X.prog X.w) A (setAttr (.ref a) f u) Q E s := by
  obtain ⟨cd, e1, e2, e0⟩ := T.data
  obtain ⟨t1, ho⟩ := exo_at I.hok ea
  obtain ⟨hp, g, d, t, os⟩ := s
  refine PySem.W.set_plain I.kIn (ox := { cls := .ref C, dict := none, data := .fields #[.ref t1, .none, .none, .none, .bool false, .none] }) (od := none) ⟨ho, rfl, rfl, trivial⟩ T.sa ?_
  refine leNew I.kIn ho e1 e2 e0 nf fun h2 t2 dx kp big ne hx hn => ?_
  have hnd : H dx = none := I.hok.fresh big
  have lt : ∀ {b : Addr} {o : Obj}, hp.get? b = some o → b ≠ dx := fun {b o} q => Nat.ne_of_lt (Nat.lt_of_lt_of_le (Heap.lt_size q) big)
  have na : ∀ {b : Addr}, H b = none → b ≠ a := fun {b} n z => by
    subst z
    exact absurd (n.symm.trans ea) (fun w => nomatch w)
  have U : Un X.fs [] H (upd (upd H dx (exd dx [(f, y)])) a (exo a C (some dx))) hp h2 := by
    refine ⟨fun b o q n _ _ => kp b o (na n) q, fun b o q n _ _ => ⟨o.slots, kp b o (na n) q⟩, fun b o q n _ => ?_, fun b o q _ => ?_, fun b xs q => ?_, fun b o v q => ?_, fun b ps q => ⟨#[], ?_⟩⟩
    · rw [upd_ne (na n), upd_ne (lt q)]
      exact n
    · by_cases z : b = a
      · subst z
        exact ⟨_, hx⟩
      · exact ⟨o, kp b o z q⟩
    · rw [upd_ne (at_ne ea q exo_tup), upd_ne (ne_of_none q hnd)]
      exact q
    · rw [upd_ne (at_ne ea q exo_frz), upd_ne (ne_of_none q hnd)]
      exact q
    · rw [upd_ne (at_ne ea q exo_tbl), upd_ne (ne_of_none q hnd), q]
      simp
  refine go dx _ hnd ne (I.un (t' := t2) U fun b o q => ?_)
  by_cases hb : b = a
  · subst hb
    rw [upd_same] at q
    cases q
    exact exo_ok hx
  rw [upd_ne hb] at q
  by_cases hd : b = dx
  · subst hd
    rw [upd_same] at q
    cases q
    exact exd_ok hn (relO_put (fs := []) ry fun _ => True.intro)
  rw [upd_ne hd] at q
  refine (I.hok b o q).stay (fun c v hc z => kp c v ?_ z) (fun c hc => ?_) fun c xs hc => ?_
  · rcases hc with hc | hc
    · exact fun w => hb (hc ▸ w)
    · exact at_ne ea hc exo_own
  · rw [upd_ne (at_ne ea hc exo_own), upd_ne (ne_of_none hc hnd)]
    exact hc
  · rw [upd_ne (at_ne ea hc exo_tup), upd_ne (ne_of_none hc hnd)]
    exact hc
theorem osl_old (T : OexL X.K C) (I : Inv X pins σ H s) (ea : H a = some (exo a C (some dx))) (ed : H dx = some (exd dx fs)) (hl : fs.length ≤ 900) (nf : PySem.W.findIn X.K (.ref C) f = some none) (ry : RelV y u)
    (go : ∀ s2, Inv X pins σ (upd H dx (exd dx ((f, y) :: fs))) s2 → Q () s2) : wpAny (model X.prog X.w) A (setAttr (.ref a) f u) Q E s := by
  obtain ⟨cd, e1, e2, e0⟩ := T.data
  obtain ⟨t1, ho⟩ := exo_at I.hok ea
  obtain ⟨mA, hns, rel⟩ := exd_at I.hok ed
  have hw := within_of rel
  obtain ⟨hp, g, d, t, os⟩ := s
  obtain ⟨oD, _, _, hoD, _, _⟩ := hns.count hw
  refine PySem.W.set_plain I.kIn (ox := { cls := .ref C, dict := some dx, data := .fields #[.ref t1, .none, .none, .none, .bool false, .none] }) (od := some oD) ⟨ho, rfl, rfl, hoD⟩ T.sa ?_
  refine leOld I.kIn ho hns hw (by rw [List.length_map]; omega) e1 e2 e0 nf fun h2 t2 kp hn => ?_
  obtain ⟨o2, p1, p2, q2, p3⟩ := id hn
  exact go _ (I.write (t' := t2) (x := dx) (e := dx) (o := exd dx ((f, y) :: fs)) (by rw [ed]; exact True.intro) (.inl rfl) kp ⟨o2, q2⟩ (exd_ok hn (relO_put ry rel)))
end
/-- self.f = e, self such an exception that is being made -/
def tOsL (K : PySem.W.Frag) (f : Str) (to te : TE) : TS := fun Dn σ H => te σ H fun y H1 => to σ H1 fun x H2 => ∃ a C : Addr, x = .ref a ∧ OexL K C ∧ PySem.W.findIn K (.ref C) f = some none ∧
  ((H2 a = some (exo a C none) ∧ ∀ dx, H2 dx = none → dx ≠ a → Dn.nx σ (upd (upd H2 dx (exd dx [(f, y)])) a (exo a C (some dx)))) ∨
    ∃ (dx : Addr) (fs : List (Str × V)), H2 a = some (exo a C (some dx)) ∧ H2 dx = some (exd dx fs) ∧ fs.length ≤ 900 ∧ Dn.nx σ (upd H2 dx (exd dx ((f, y) :: fs))))
section
variable {X : Cx} {o e : Expr} {to te : TE} {f : Str} {p' pos : Pos}
theorem ps_osl (ho : PE X o to) (he : PE X e te) (hs : swapsWith e (some (.Attribute o f p')) pos.line X.env = pure false) : PS X (.Assign [.Attribute o f p'] e pos) (tOsL X.K f to te) := by
  refine ⟨fun pins s σ H Dn I h => ?_⟩
  refine plainObj_wpAny_Assign_Attribute (thn (he.run pins s σ H _ I h) fun v s1 ⟨y, H1, I1, ry, q1⟩ => thn (ho.run pins s1 σ H1 _ I1 q1) fun u s2 ⟨x, H2, I2, rx, a, C, ex, T, nf, q⟩ => ?_) hs
  subst ex
  obtain rfl : u = Value.ref a := rx
  rcases q with ⟨ea, q⟩ | ⟨dx, fs, ea, ed, hl, q⟩
  · exact osl_new T I2 ea nf ry fun dx s3 n ne J => ⟨σ, _, J, q dx n ne⟩
  · exact osl_old T I2 ea ed hl nf ry fun s3 J => ⟨σ, _, J, q⟩
end
/-! ## a def that gives a tuple back as it is -/
theorem TyX.put {K : PySem.W.Frag} {H : Hp} {v : V} {t : Value} {a : Addr} {o : HO} (h : TyX K H v t) (n : H a = none) : TyX K (upd H a o) v t := by
  have nn : ∀ {b : Addr} {u : HO}, H b = some u → upd H a o b = some u := fun {b u} e => by rw [upd_ne (ne_of_none e n)]; exact e
  cases h with
  | base b =>
    refine .base ?_
    cases b with
    | non => exact .non
    | bl x => exact .bl x
    | int i => exact .int i
    | str x => exact .str x
    | flt x => exact .flt x
    | lst e => exact .lst (nn e)
    | frz e => exact .frz (nn e)
    | tup e => exact .tup (nn e)
    | dK e => exact .dK (nn e)
    | dT e => exact .dT (nn e)
    | ins e c1 c2 c3 c4 c5 => exact .ins (nn e) c1 c2 c3 c4 c5
  | byt b => exact .byt b
  | set e => exact .set (nn e)
  | kList e c => exact .kList e c
  | kTuple e c => exact .kTuple e c
  | kDict e c => exact .kDict e c
  | fTuple e => exact .fTuple (nn e)
  | fDict e => exact .fDict (nn e)
def spPair (K : PySem.W.Frag) : Sp := fun vs H Q _ => ∃ v, vs = [v] ∧ TyX K H v (.type "tuple") ∧ Q v H
theorem pe_no {X : Cx} {e : Expr} : PE X e (fun _ _ _ => False) := ⟨fun _ _ _ _ _ _ h => h.elim⟩
section
variable {g : G} {st : Stmt} {fa fb : Addr} {fd fd2 : FuncData} {x f t sf pr : Str} {p1 p2 p3 p4 p5 p6 p7 p8 p9 : Pos} {j : Nat} {e : Expr}
theorem fn_pairV (T : TabK g) (F : L2.Fun g.K "_pair" "_pair" st fa fd) (S : FnScope (["level"] : List Str) (["level"] : List Str) (defScope st)) (hb : defBody st = [.Return (some (.IfExp (.Call (.Name "isinstance" p1) [.Name "level" p2, .Name "list" p3] [] p4) e (.Name "level" p5) p6)) p7])
    (g1 : isGl (defScope st) "isinstance" = true) (g2 : isGl (defScope st) "list" = true) (m1 : g.mg "isinstance" = none) (m2 : g.mg "list" = none) : FnOk g.prog g.w g.K g.mg g.base (L2.CX g.prog g.w) 1 fa fd (["level"] : List Str) (spPair g.K) := by
  refine F.okX (k := 0) S (fun vs H Q E ⟨v, ev, _⟩ => by rw [ev]; rfl) fun cdv A outer s H vs Q E hr ⟨v, ev, ty, q⟩ => ?_
  subst ev
  rw [hb]
  have G0 := good_of (g := g) (H := H) (E := E) (s := s) (outer := outer) (cd := cdv) S hr
  have v0 := vis_p S (x := "level") List.mem_cons_self
  have a0 := fun p => pe_var (X := cxOf (L2.CX g.prog g.w) g.prog g.w g.K g.mg g.base (["level"] : List Str) "_pair" (defScope st) fa cdv A outer s H E) (i := 0) (pos := p) rfl v0
  refine ⟨_, pss_one (ps_ret (pe_ifExp (pt_val (pe_callB call_isi (G0.gl g1).1 m1 (by rfl) (pa_cons (a0 p2) (pa_cons (pe_bltn (v := .ty "list") (u := .type "list") (G0.gl g2).1 m2 (by rfl) rfl) pa_nil)))) pe_no (a0 p5))), ?_⟩
  refine ⟨v, rfl, ?_⟩
  refine ⟨v, .ty "list", .type "tuple", .type "list", false, rfl, .ty "list", ty, ?_, ?_⟩
  · exact kit_kn (g := g) T (a := .ty .tup) (b := .ty .lst) rfl rfl (fun z => nomatch z)
  · exact ⟨false, rfl, v, rfl, q⟩
end
/-- def __init__(self, p): self.f = pr(p); self.code = t -/
def spXL (K : PySem.W.Frag) (f t : Str) : Sp := fun vs H Q _ => ∃ (a C : Addr) (v : V), vs = [.ref a, v] ∧ OexL K C ∧ H a = some (exo a C none) ∧ PySem.W.findIn K (.ref C) f = some none ∧ PySem.W.findIn K (.ref C) cdS = some none ∧ TyX K H v (.type "tuple") ∧
  ∀ dx, H dx = none → dx ≠ a → Q .non (upd (upd (upd H dx (exd dx [(f, v)])) a (exo a C (some dx))) dx (exd dx [(cdS, .str t), (f, v)]))
section
variable {g : G} {st : Stmt} {fa fb : Addr} {fd fd2 : FuncData} {x qual f t sf p pr : Str} {p1 p2 p3 p4 p5 p6 p7 p8 p9 p10 : Pos} {j : Nat} {e : Expr}
theorem fn_xL (F : L2.Fun g.K x qual st fa fd) (S : FnScope [sf, p] [sf, p] (defScope st)) (hb : defBody st = [.Assign [.Attribute (.Name sf p1) f p2] (.Call (.Name pr p3) [.Name p p4] [] p5) p6, .Assign [.Attribute (.Name sf p7) cdS p8] (.Constant (.str t) j p9) p10])
    (n1 : noDbg sf = true) (n2 : noDbg p = true) (gp : isGl (defScope st) pr = true) (FP : FnOk g.prog g.w g.K g.mg g.base (L2.CX g.prog g.w) 1 fb fd2 (["level"] : List Str) (spPair g.K)) (BP : Binds g.K fd2 (["level"] : List Str) []) (mp : g.mg pr = some (.ref fb)) (kp : PySem.W.keepIn g.K (.ref fb) = true) :
    FnOk g.prog g.w g.K g.mg g.base (L2.CX g.prog g.w) 2 fa fd [sf, p] (spXL g.K f t) := by
  refine F.okX (k := 1) S (fun vs H Q E ⟨_, _, _, ev, _⟩ => by rw [ev]; rfl) fun cdv A outer s H vs Q E hr ⟨a, C, v, ev, T, ea, nf, nc, ty, q⟩ => ?_
  subst ev
  rw [hb]
  have G0 := good_of (g := g) (H := H) (E := E) (s := s) (outer := outer) (cd := cdv) S hr
  obtain ⟨gg, gd, _⟩ := G0.gl gp
  have va := vis_p S (x := sf) List.mem_cons_self
  have vb := vis_p S (x := p) (List.mem_cons_of_mem _ List.mem_cons_self)
  have ca := pe_call (X := cxOf (L2.CX g.prog g.w) g.prog g.w g.K g.mg g.base [sf, p] qual (defScope st) fa cdv A outer s H E) (p := p3) (pos := p5) FP hr gg mp kp BP (dvs := []) .nil noPass (pa_cons (pe_var (i := 1) (pos := p4) rfl vb (noDbg_1 n2) (noDbg_2 n2)) pa_nil) gd
  refine ⟨_, pss_cons (ps_osl (pe_var (i := 0) rfl va (noDbg_1 n1) (noDbg_2 n1)) ca (by rfl)) (pss_cons (ps_osl (pe_var (i := 0) rfl va (noDbg_1 n1) (noDbg_2 n1)) pe_str (by rfl)) pss_nil), ?_⟩
  refine ⟨v, rfl, v, rfl, ty, .ref a, rfl, a, C, rfl, T, nf, .inl ⟨ea, fun dx h1 h2 => ?_⟩⟩
  refine ⟨.ref a, rfl, a, C, rfl, T, nc, .inr ⟨dx, [(f, v)], upd_same, ?_, Nat.le_of_ble_eq_true rfl, q dx h1 h2⟩⟩
  rw [upd_ne h2, upd_same]
end
/-- what the written part says of such a class with its __init__ -/
structure XcL (g : G) (x : Str) (C fI : Addr) (f t : Str) : Prop where
  T : OexL g.K C
  iC : PySem.W.findIn g.K (.ref C) "__init__" = some (some (.ref fI))
  tI : PySem.W.typeIn g.K (.ref fI) = some (.type "function")
  m : g.mg x = some (.ref C)
  nf : PySem.W.findIn g.K (.ref C) f = some none
  nc : PySem.W.findIn g.K (.ref C) cdS = some none
  fn : ∃ fd ps, FnOk g.prog g.w g.K g.mg g.base (L2.CX g.prog g.w) 2 fI fd ps (spXL g.K f t) ∧ Binds g.K fd ps []
def cRaiseP (cn : Nat) (t : Str) (fe : M D) : M Fl := fun c => (fe c).bind fun d c' => match c'.knOf d with
  | some (.ty .tup) => .exc cn [.str t, d] c'
  | _ => .stuck
section
variable {X : Cx} {g : G} {k : Nat} {N : List Str} {sc ws : Scope} {W : WX} {x f t : Str} {C fI : Addr} {cn : Nat} {e : Expr} {es : List Expr} {ta : TA} {fe : M D} {p p' pos : Pos}
theorem pmk_le {n : Nat} {fd : FuncData} {ps : List Str} {sp : Sp} (T : OexL X.K C) (iC : PySem.W.findIn X.K (.ref C) "__init__" = some (some (.ref fI))) (tI : PySem.W.typeIn X.K (.ref fI) = some (.type "function"))
    (F1 : FnOk X.prog X.w X.K X.mg X.base (L2.CX X.prog X.w) n fI fd ps sp) (hr : Room (n + 1) X.A) (hb : Binds X.K fd ps []) (hg : Gl X x) (hm : X.mg x = some (.ref C)) (ha : PA X (e :: es) ta) (hd : (x == ("__debug__" : Str)) = false)
    (h1 : starEach (e :: es) X.env = (false, eval e X.env) :: starEach es X.env) (h2 : (backTo pos (starEach es X.env)).any (·.1) = false) : PMk X (.Call (.Name x p) (e :: es) [] pos) (tMkO C sp [] ta) := by
  intro pins s σ H Q I h
  obtain ⟨n1, n2, N', bs, bm, sn, sub, ab, col, dd, k0, k1, k2, k3, k5, hC, hbm⟩ := T.cls
  refine wpAny_Call_Name_kw (ld_glob I hg hm ?_ hd)
  refine PySem.W.callWith_K (h₀ := X.base) I.ok.mod.kin T.kC (thn (ha.run pos pins s σ H _ I h) fun us s1 ⟨vs, H1, I1, r1, hz, q1⟩ => ⟨I1.kIn, ?_⟩) h1 h2
  show wpAny _ _ (call (.ref C) us) _ _ _
  obtain ⟨hp, gs, dr, tk, os⟩ := s1
  have hsz : hp.objs.size ≤ hp.objs.size + 1 := Nat.le_succ _
  have hq := q1 (hp.objs.size + 1) (I1.hok.fresh hsz)
  rw [List.append_nil] at hq
  have kk : ∀ b o, hp.get? b = some o → ((hp.push (PySem.W.kdv_tup us)).push (HandSPX.excO C hp.objs.size)).get? b = some o := fun b o z => Heap.get?_push_of_some _ (Heap.get?_push_of_some _ z)
  have hget : ((hp.push (PySem.W.kdv_tup us)).push (HandSPX.excO C hp.objs.size)).get? (hp.objs.size + 1) = some (HandSPX.excO C hp.objs.size) := by heap_get
  have I2 := I1.laid (t' := tk) (o := exo (hp.objs.size + 1) C none) (h' := (hp.push (PySem.W.kdv_tup us)).push (HandSPX.excO C hp.objs.size)) kk hsz (exo_ok hget)
  have r2 : Vals (V.ref (hp.objs.size + 1) :: vs) (Value.ref (hp.objs.size + 1) :: us) := .cons rfl r1
  have hl : (Value.ref (hp.objs.size + 1) :: us).length = ps.length := by rw [← r2.length]; exact F1.len _ _ _ _ hq
  have hus : us.length ≤ sizeLine := by
    rw [← Paired.length r1, sizeLine_eq]
    omega
  refine wpAny_call (HandSPX.call_own F.excBase_LookupError (fun Y => LeMro.has hbm Y) (I1.kIn _ _ hC) (PySem.W.looks_findIn I1.kIn iC) (fun self => PySem.W.bind_fn I1.kIn self tI) hus ?_)
  have b0 := hb ⟨_, gs, dr, tk, os⟩ (Value.ref (hp.objs.size + 1) :: us) I2.kIn (by rw [List.append_nil]; exact hl)
  rw [List.append_nil] at b0
  refine codeAny_mono (F1.run _ X.stack _ _ ⟨Value.ref (hp.objs.size + 1) :: us, []⟩ _ _ _ (fun _ _ _ => False) (hr.make C us []) (I2.env0.make C us []) b0 r2 hq) fun r s' hq' => ?_
  match r, hq' with
  | .error er, hq' => exact noPass pins σ _ _ er s' I2 hq'
  | .ok (.ret u), hq' =>
    obtain ⟨v, H2, os2, bare2, un2, hok2, rv, ev, d, fs, ea, ed, hd1, q2⟩ := hq'
    subst ev
    obtain ⟨hp2, g2, d2, t2, os'⟩ := s'
    exact ⟨rv, mk_end (raises_own T.exC T.tyC) I1 hsz kk un2 hok2 os2 bare2 ea ed hd1 q2⟩
theorem ss_raiseL (TT : TabK g) (q : Good g k N X sc ws W) (K : XcL g x C fI f t) (hx : g.exc cn = some (C, [cdS, f])) (hg : isGl sc x = true) (hk : 3 ≤ k) (he : PE X e (tE g W fe)) (hs : isStar e = false) : PS X (.Raise (some (.Call (.Name x p) [e] [] p')) none pos) (tS g W (cRaiseP cn t fe)) := by
  obtain ⟨T, iC, tI, hm, nf, nc, fd, ps, F1, hb⟩ := K
  obtain ⟨hg, hd, _⟩ := q.gl hg
  rw [← q.hmg] at hm
  rw [← q.hK] at T iC tI nf nc F1 hb
  rw [← q.hP, ← q.hw, ← q.hmg, ← q.hbs] at F1
  refine ps_imp (ps_raise q.calm q.tk (pmk_le T iC tI F1 (q.room.mono hk) hb hg hm (pa_cons he pa_nil (star_plain hs)) hd (star_plain hs) (by rfl))) fun Dn σ H ⟨m, c, s, o⟩ => ?_
  refine ⟨m, c, s, o.bind.imp fun v H1 ⟨m1, d, c1, x1, s1, k1, o1⟩ => ?_⟩
  cases ek : c1.knOf d with
  | none => rw [ek] at o1; exact o1.elim
  | some kn =>
    rw [ek] at o1
    match kn, ek, o1 with
    | .ty .tup, ek, o1 =>
      obtain ⟨tv, g1, g2⟩ := s1.tyX TT k1 ek
      cases g1
      rw [← q.hK] at g2
      refine ⟨Nat.le_of_ble_eq_true rfl, fun a na => ⟨a, C, v, rfl, T, upd_same, nf, nc, TyX.put g2 na, fun dx h1 h2 => ⟨rfl, dx, [(cdS, .str t), (f, v)], ?_, upd_same, ?_, ?_⟩⟩⟩
      · rw [upd_ne (Ne.symm h2), upd_same]
      · rw [upd_ne h2] at h1
        exact h1
      · rw [upd_ne h2] at h1
        have eq : upd (del (upd (upd (upd (upd H1 a (exo a C none)) dx (exd dx [(f, v)])) a (exo a C (some dx))) dx (exd dx [(cdS, .str t), (f, v)])) a) dx (.xd [(cdS, .str t), (f, v)]) = upd H1 dx (.xd [(cdS, .str t), (f, v)]) := by
          funext b
          by_cases hb : b = dx
          · rw [hb, upd_same, upd_same]
          · rw [upd_ne hb, upd_ne hb]
            by_cases ha : b = a
            · rw [ha, del_same, na]
            · rw [del_ne ha, upd_ne hb, upd_ne ha, upd_ne hb, upd_ne ha]
        rw [eq]
        obtain ⟨s2, x2⟩ := s1.frozen (u := .xd [(cdS, .str t), (f, v)]) h1
        exact o1 _ _ _ _ _ x2 s2 ⟨C, _, dx, [.str t, v], hx, rfl, rfl, upd_same, .cons (.str t) (.cons (k1.mono x2) .nil), rfl⟩
end
/-! ## list(range(a, b)) -/
section
variable {X : Cx} {g : G} {k : Nat} {N : List Str} {sc ws : Scope} {W : WX} {p p2 pos pos2 : Pos} {e e2 : Expr} {fe fe2 : M D}
theorem fits_rg {i j : Int} (h : (fitsR i && fitsR j) = true) (hz : (j - i).toNat ≤ 2 ^ 24) : RgOk i j := by
  unfold fitsR at h
  simp at h
  exact ⟨by omega, by omega, by omega, by omega, hz⟩
theorem svs_rg {g : G} {m : Mp} (i j : Int) : Svs g m (rangeD i (j - i).toNat) (rgV i j) := by
  unfold rangeD rgV
  have z : ∀ l : List Nat, Svs g m (l.map fun n => D.int (i + (n : Nat))) (l.map fun n => V.int (i + (n : Nat))) := fun l => by
    induction l with
    | nil => exact .nil
    | cons n l ih => exact .cons (.int _) ih
  exact z _
def cListR2 (fe fe2 : M D) : M (List D) := fe.bind fun x => fe2.bind fun y => match x, y with
  | .int i, .int j => M.guard (fitsR i && fitsR j && decide ((j - i).toNat ≤ 2 ^ 24)) (M.ret (rangeD i (j - i).toNat))
  | _, _ => fun _ => .stuck
theorem sl_listRg2 (q : Good g k N X sc ws W) (hl : isGl sc "list" = true) (ml : g.mg "list" = none) (hr : isGl sc "range" = true) (mr : g.mg "range" = none) (he : PE X e (tE g W fe)) (he2 : PE X e2 (tE g W fe2)) (hs : isStar e = false) (hs2 : isStar e2 = false) :
    PE X (.Call (.Name "list" p) [.Call (.Name "range" p2) [e, e2] [] pos2] [] pos) (tL g W (cListR2 fe fe2)) := by
  have R := prg_2 (pos := pos2) (p := p2) (q.gl hr).1 (by rw [q.hmg]; exact mr) he he2 (star_plain hs) (star_plain hs2) (plain_any (es := [e2]) (by unfold plainArgs; simp [hs2]))
  refine pe_imp (pe_listRg q.calm (q.gl hl).1 (by rw [q.hmg]; exact ml) R (star_plain rfl)) fun σ H Q ⟨m, c, s, o⟩ => ⟨m, c, s, o.bind.imp fun x H1 ⟨m1, d, c1, x1, s1, k1, o1⟩ => ⟨m1, c1, s1, o1.bind.imp fun y H2 ⟨m2, d2, c2, x2, s2, k2, o2⟩ => ?_⟩⟩
  cases k1 with
  | int i =>
    cases k2 with
    | int j =>
      obtain ⟨hz, o3⟩ := Out.guard o2
      rw [Bool.and_eq_true] at hz
      exact ⟨i, j, rfl, rfl, fits_rg hz.1 (of_decide_eq_true hz.2), fun p hp => out_freshL s2 (svs_rg i j) o3 hp⟩
    | _ => exact o2.elim
  | _ => exact o2.elim
theorem listR_of {c c1 c2 : CS} {i j : Int} (ea : fe c = .ok (.int i) c1) (eb : fe2 c1 = .ok (.int j) c2) (h : (fitsR i && fitsR j && decide ((j - i).toNat ≤ 2 ^ 24)) = true) : cListR2 fe fe2 c = .ok (rangeD i (j - i).toNat) c2 := by
  show (fe c).bind _ = _
  rw [ea]
  show (fe2 c1).bind _ = _
  rw [eb]
  show M.guard _ _ c2 = _
  rw [h]
  rfl
end
end CL
namespace CL
open PySem PySem.Spec PyProof.Rows L2 GenW

/-! ## if and for in the body of a generator -/
section
variable {X : Cx} {test tg iter : Expr} {body orelse : List Stmt} {pos : Pos}
def tGIf (c : TT) (t u : TGn) : TGn := fun Dn ys σ H => c σ H fun b H1 => if b = true then t Dn ys σ H1 else u Dn ys σ H1
theorem gs_if {tc : TT} {tb te : TGn} (hc : PT X test tc) (hb : GSs X body tb) (he : GSs X orelse te) : GS X (.If test body orelse pos) (tGIf tc tb te) := by
  refine ⟨fun A S ip R n ys s₀ c fs K J gd lv s σ H Dn g hn k hI ht => ?_⟩
  obtain ⟨acc, cc, r, I⟩ := hI
  show Seg _ _ _ _ n s₀ c (.at pos fun _ => ((isTrue test X.env (eval test X.env)) >>= fun b => if b = true then execs body X.env else execs orelse X.env).wrap K J gd lv) fs s
  refine seg_at (seg_bind_wrap ?_)
  rw [g.over]
  refine wpAny_mono (hc.run _ s σ H _ I ht) (fun b s1 ⟨H1, I1, q1⟩ => ?_) fun x s1 hx => k.exc n s₀ x s1 hx
  cases b with
  | true =>
    rw [if_pos rfl] at q1 ⊢
    exact hb.run A S ip R n ys s₀ c fs K J gd lv s1 σ H1 Dn g hn k ⟨acc, cc, r, I1⟩ q1
  | false =>
    rw [if_neg Bool.false_ne_true] at q1 ⊢
    exact he.run A S ip R n ys s₀ c fs K J gd lv s1 σ H1 Dn g hn k ⟨acc, cc, r, I1⟩ q1
end
section
variable {prog : Program} {w : World} {A : Around} {R : GenEnd} {Y : Protocol} {n : Nat} {s₀ s : Shared} {fs : List Frame} {env : Env} {tg : Expr} {it : Value} {body : List Stmt}
/-- what a loop's code does with an exception -/
def outOf (env : Env) (e : Value) : Sem PySem.Fin := (do noteFrame e env; theTreesLotGoes e : Sem Unit).bind fun _ => .raise e
theorem seg_forTurn (h : wpAny (model prog w) (A.over (.forLoop tg it body [] env) fs) (pyNext it) (fun r s1 => match r with
      | none => Seg (model prog w) A R Y n s₀ (.forLoop tg it body [] env) (.pure (.again (.block [] env))) fs s1
      | some v => wpAny (model prog w) (A.over (.forLoop tg it body [] env) fs) (letOwnedTupleGo tg it v) (fun _ s2 => wpAny (model prog w) (A.over (.forLoop tg it body [] env) fs) (assign tg env v) (fun _ s3 =>
          Seg (model prog w) A R Y n s₀ (.forLoop tg it body [] env) ((execs body env).wrap (fun f => match f with
            | .next | .cont => .pure (.again (.forLoop tg it body [] env))
            | .brk => .pure (.done .next)
            | .ret v => .pure (.done (.ret v))) (outOf env) id id) fs s3)
          (fun x s3 => Seg (model prog w) A R Y n s₀ (.forLoop tg it body [] env) (outOf env x) fs s3) s2)
        (fun x s2 => Seg (model prog w) A R Y n s₀ (.forLoop tg it body [] env) (outOf env x) fs s2) s1)
      (fun x s1 => Seg (model prog w) A R Y n s₀ (.forLoop tg it body [] env) (outOf env x) fs s1) s) :
    Seg (model prog w) A R Y n s₀ (.forLoop tg it body [] env) ((model prog w).den (.forLoop tg it body [] env)) fs s := by
  show Seg _ A R Y n s₀ _ ((forTurn tg it body [] env).onRaise (fun x => do noteFrame x env; theTreesLotGoes x)) fs s
  unfold forTurn
  rw [Sem.onRaise_eq_wrap]
  refine seg_at (seg_bind_wrap (wpAny_pure ?_))
  refine seg_bind_wrap (wpAny_onRaise (wpAny_mono h (fun r s1 h1 => ?_) fun x s1 hx => wpAny_standAt hx))
  cases r with
  | none => exact h1
  | some v =>
    refine seg_bind_wrap (wpAny_mono h1 (fun _ s2 h2 => ?_) fun x s2 hx => hx)
    refine seg_bind_wrap (wpAny_mono h2 (fun _ s3 h3 => ?_) fun x s3 hx => hx)
    rw [Sem.bind_eq_wrap', Sem.wrap_wrap]
    exact Eq.mp (congrArg (fun t => Seg (model prog w) A R Y n s₀ (.forLoop tg it body [] env) t fs s3) (Sem.wrap_congr (execs body env) id id (fun f => by cases f <;> rfl) (fun e => rfl))) h3
end
section
variable {X : Cx} {tg iter : Expr} {body : List Stmt} {pos : Pos}
/-- the turns: by an invariant W of the turn's number, a measure, what is out -/
def tGFor (wi : TI) (g : TG) (tb : TGn) : TGn := fun Dn ys σ H => wi σ H fun J H1 => ∃ W : Nat → Nat → List V → L2.St → Hp → Prop, (∃ m, W 0 m ys σ H1) ∧ ∀ i m ys σ H, W i m ys σ H →
  (J.stop i H ∧ Dn.nx ys σ H) ∨ (J.go i H ∧ ∃ N : List V → L2.St → Hp → Prop, (∀ ys' σ' H', N ys' σ' H' → ∃ m', m' < m ∧ W (i + 1) m' ys' σ' H') ∧ ∀ x H', J.yld i H x H' → g x σ H' fun σ2 H2 => tb { Dn with nx := N, ct := N, bk := Dn.nx } ys σ2 H2)
theorem gi_pinned {S : Addr} {ip : List (Addr × Obj)} {ys : List V} {σ : L2.St} {H : Hp} {s : Shared} {fp : List Addr} {acc : Array Value} {cc : Nat} (r : Vals ys acc.toList) (I : Inv X ((S, lstObj acc cc) :: ip) σ H s) (hf : ∀ b ∈ fp, FpOk X ((S, lstObj acc cc) :: ip) H b) (ho : ∀ b ∈ fp, ∃ o, s.heap.get? b = some o ∧ ∀ v, o.data ≠ .cell v) :
    GI X S (ip ++ pinsAt fp s.heap) ys σ H s := ⟨acc, cc, r, I.pinned hf ho⟩
theorem gi_unpinned {S : Addr} {ip pl : List (Addr × Obj)} {ys : List V} {σ : L2.St} {H : Hp} {s : Shared} (h : GI X S (ip ++ pl) ys σ H s) : GI X S ip ys σ H s := by
  obtain ⟨acc, cc, r, I⟩ := h
  exact ⟨acc, cc, r, Inv.unpinned (pins := (S, lstObj acc cc) :: ip) (pl := pl) I⟩
theorem gs_for {wi : TI} {g : TG} {tb : TGn} (hp : PassesOwn (model X.prog X.w) X.A X.env X.xe) (hc : X.calm = true) (hi : PI X tg iter wi) (hg : PG X tg g) (hb : GSs X body tb)
    (hs : ∀ x, foldedSetIterable iter X.env x = pure x) : GS X (.For tg iter body [] pos) (tGFor wi g tb) := by
  refine ⟨fun A S ip R n ys s₀ c fs K J gd lv s σ H Dn gc hn k hI ht => ?_⟩
  obtain ⟨acc, cc, r, I⟩ := hI
  rw [exec_For]
  refine seg_at (seg_bind_wrap (wpAny_pure ?_))
  refine seg_bind_wrap ?_
  rw [gc.over]
  refine wpAny_mono (hi.run _ s σ H _ I ht) (fun v s1 h1 => ?_) fun x s1 hx => k.exc n s₀ x s1 hx
  refine seg_bind_wrap (wpAny_of_eq (hs v) ?_)
  refine seg_at (seg_bind_wrap (wpAny_pure ?_))
  refine seg_bind_wrap (wpAny_holding ?_)
  rw [gc.over]
  refine wpAny_mono h1 (fun itv s2 h2 => ?_) fun x s2 hx => k.exc n s₀ x s2 hx
  obtain ⟨it, fp, tn, JJ, H2, e, I2, T, st2, f2, W, ⟨m0, w0⟩, turn⟩ := h2
  subst e
  refine seg_call fun p => ?_
  have gl := fun (kk : Result → Sem PySem.Fin) => gc_loop (k := kk) (c' := .forLoop tg (.ref it) body [] X.env) (l := lv []) (kp := []) (p := p) gc rfl rfl
  have stat : ∀ {H' : Hp} {acc' : Array Value} {cc' : Nat}, (∀ b ∈ fp, H' b = none) → ∀ b ∈ fp, FpOk X ((S, lstObj acc' cc') :: ip) H' b := fun {H' acc' cc'} hn b hb => by
    obtain ⟨_, h2, h3, h4, h5, h6⟩ := f2 b hb
    refine ⟨hn b hb, h2, h3, h4, h5, fun q hq => ?_⟩
    rcases List.mem_append.mp hq with z | z
    · exact h6 q (List.mem_append_left _ z)
    · rcases List.mem_cons.mp z with z | z
      · rw [z]
        exact h6 (S, lstObj acc cc) (List.mem_append_right _ List.mem_cons_self)
      · exact h6 q (List.mem_append_right _ (List.mem_cons_of_mem _ z))
  have nS : ∀ b ∈ fp, b ≠ S := fun b hb z => by
    obtain ⟨_, _, _, _, _, h6⟩ := f2 b hb
    exact h6 (S, lstObj acc cc) (List.mem_append_right _ List.mem_cons_self) z.symm
  have ee : ∀ (n : Nat) (s₀ : Shared) (x : Value) (s' : Shared), X.xe x s' → Seg (model X.prog X.w) A R (GY X S) n s₀ (.forLoop tg (.ref it) body [] X.env) (outOf X.env x)
      (.ret (fun r => ((match r with | .ok f => (.pure f : Sem Flow) | .error e => .raise e).onRaise (cameBack X.env)).wrap K J gd lv) none (gd false) (lv []) c p [] :: fs) s' := fun n s₀ x s' hx => by
    unfold outOf
    rw [Sem.bind_eq_wrap]
    refine seg_wrap ?_
    rw [(gl _).over]
    refine wpAny_bind (wpAny_mono (hp x s' hx) (fun _ s'' hcb => wpAny_theTreesLotGoes ?_) fun y s'' hcb => ?_)
    · exact seg_leaf (.error x) (seg_cameBack gc k hcb)
    · exact seg_leaf (.error y) (seg_cameBack gc k hcb)
  have loop : ∀ (m i n : Nat) (ys : List V) (s₀ s : Shared) (σ : L2.St) (H : Hp), n + ys.length = sizeLine → W i m ys σ H → GI X S ip ys σ H s → tn i s.heap → (∀ b ∈ fp, H b = none) →
      Seg (model X.prog X.w) A R (GY X S) n s₀ (.forLoop tg (.ref it) body [] X.env) ((model X.prog X.w).den (.forLoop tg (.ref it) body [] X.env))
        (.ret (fun r => ((match r with | .ok f => (.pure f : Sem Flow) | .error e => .raise e).onRaise (cameBack X.env)).wrap K J gd lv) none (gd false) (lv []) c p [] :: fs) s := by
    intro m
    induction m using Nat.strongRecOn with
    | ind m ih =>
      intro i n ys s₀ s σ H hn w hI st fr
      obtain ⟨acc, cc, r, I⟩ := hI
      refine seg_forTurn ?_
      rw [(gl _).over]
      rcases turn i m ys σ H w with ⟨stop, qn⟩ | ⟨go, N, hN, step⟩
      · refine wpAny_mono (T.done X rfl rfl rfl hc i _ s σ H X.xe I (stat fr) st stop) (fun z s4 ⟨hr, I4⟩ => ?_) fun x s' hx => ee n s₀ x s' hx
        subst hr
        refine seg_again rfl ?_
        show Seg _ _ _ _ n s₀ _ (.pure (.done .next)) _ _
        exact seg_leaf (.ok .next) (k.ok n ys s₀ s4 .next hn ⟨σ, H, ⟨acc, cc, r, I4⟩, qn⟩)
      · refine wpAny_mono (T.item X rfl rfl rfl hc i _ s σ H X.xe I (stat fr) st go) (fun z s4 ⟨u, hr, h4⟩ => ?_) fun x s' hx => ee n s₀ x s' hx
        subst hr
        refine wpAny_mono h4 (fun _ s5 ⟨x, H5, I5, r5, y5, st5, fr5⟩ => ?_) fun x s' hx => ee n s₀ x s' hx
        have I5' := I5.pinned (stat fr5) (T.obj _ _ st5)
        refine wpAny_mono (hg.run _ s5 σ H5 x u _ I5' r5 (step x H5 y5)) (fun _ s6 ⟨σ6, H6, I6, q6⟩ => ?_) fun x s' hx => ee n s₀ x s' hx
        have GL := gl (fun r => ((match r with | .ok f => (.pure f : Sem Flow) | .error e => .raise e).onRaise (cameBack X.env)).wrap K J gd lv)
        have GC' : GC X S (ip ++ pinsAt fp s5.heap) A (.forLoop tg (.ref it) body [] X.env) (.ret (fun r => ((match r with | .ok f => (.pure f : Sem Flow) | .error e => .raise e).onRaise (cameBack X.env)).wrap K J gd lv) none (gd false) (lv []) c p [] :: fs) id :=
          ⟨GL.pn, fun q hq => by
            rcases List.mem_append.mp hq with z | z
            · exact GL.ip q z
            · exact nS _ (of_pinsAt z).1, GL.apart, GL.over, GL.split, GL.guard, rfl⟩
        have again : ∀ {σ7 : L2.St} {H7 : Hp} {n' : Nat} {ys' : List V} {s₀' s7 : Shared}, n' + ys'.length = sizeLine → GI X S (ip ++ pinsAt fp s5.heap) ys' σ7 H7 s7 → N ys' σ7 H7 → Seg (model X.prog X.w) A R (GY X S) n' s₀' (.forLoop tg (.ref it) body [] X.env) (.pure (.again (.forLoop tg (.ref it) body [] X.env)))
            (.ret (fun r => ((match r with | .ok f => (.pure f : Sem Flow) | .error e => .raise e).onRaise (cameBack X.env)).wrap K J gd lv) none (gd false) (lv []) c p [] :: fs) s7 := fun {σ7 H7 n' ys' s₀' s7} hn' I7 n7 => by
          obtain ⟨m', hm, w7⟩ := hN ys' σ7 H7 n7
          have pf : ∀ {b : Addr} {o : Obj}, b ∈ fp → s5.heap.get? b = some o → s7.heap.get? b = some o ∧ H7 b = none := fun {b o} hb e => by
            obtain ⟨acc7, cc7, _, J7⟩ := I7
            obtain ⟨z1, z2, _⟩ := J7.pin (b, o) (List.mem_append_right _ (List.mem_cons_of_mem _ (List.mem_append_right _ (mem_pinsAt hb e))))
            exact ⟨z1, z2⟩
          refine seg_again rfl (ih m' hm (i + 1) n' ys' s₀' s7 σ7 H7 hn' w7 (gi_unpinned I7) (T.keep _ _ _ st5 fun b hb o e => (pf hb e).1) fun b hb => ?_)
          obtain ⟨o, e, _⟩ := T.obj _ _ st5 b hb
          exact (pf hb e).2
        refine hb.run A S (ip ++ pinsAt fp s5.heap) R n ys s₀ _ _ _ _ id id s6 σ6 H6 { Dn with nx := N, ct := N, bk := Dn.nx } GC' hn ⟨fun n' ys' s₀' s7 f hn' q7 => ?_, fun n' s₀' x s7 hx => ee n' s₀' x s7 hx⟩ ⟨acc, cc, r, I6⟩ q6
        cases f with
        | next => obtain ⟨σ7, H7, I7, n7⟩ := q7; exact again hn' I7 n7
        | cont => obtain ⟨σ7, H7, I7, n7⟩ := q7; exact again hn' I7 n7
        | brk => obtain ⟨σ7, H7, I7, n7⟩ := q7; exact seg_leaf (.ok .next) (k.ok n' ys' s₀' s7 .next hn' ⟨σ7, H7, gi_unpinned I7, n7⟩)
        | ret v => obtain ⟨x7, σ7, H7, I7, r7, n7⟩ := q7; exact seg_leaf (.ok (.ret v)) (k.ok n' ys' s₀' s7 (.ret v) hn' ⟨x7, σ7, H7, gi_unpinned I7, r7, n7⟩)
  exact loop m0 0 n ys s₀ s2 σ H2 hn w0 ⟨acc, cc, r, I2⟩ st2 fun b hb => (f2 b hb).1
end
/-! ## the clean side of a generator: what is out so far, the state -/
abbrev GM := List D → CS → R (Fl × List D)
def OutGS (g : G) (W : WX) (m : Mp) (r : R (Fl × List D)) (Dn : GEnds) : Prop := match r with
  | .ok (.next, zs) c => ∀ m' ys' σ' H', Ext m m' → Sim g m' c σ' H' → Svs g m' zs ys' → Dn.nx ys' σ' H'
  | .ok (.brk, zs) c => ∀ m' ys' σ' H', Ext m m' → Sim g m' c σ' H' → Svs g m' zs ys' → Dn.bk ys' σ' H'
  | .ok (.cont, zs) c => ∀ m' ys' σ' H', Ext m m' → Sim g m' c σ' H' → Svs g m' zs ys' → Dn.ct ys' σ' H'
  | .ok (.ret _, _) _ => False
  | .exc cn vs c => ∀ m' σ' H' C d, Ext m m' → Sim g m' c σ' H' → Exr g m' cn vs C d → W C d σ' H'
  | .stuck => False
def tGS (g : G) (W : WX) (f : GM) : TGn := fun Dn ys σ H => ∃ m c zs, Sim g m c σ H ∧ Svs g m zs ys ∧ OutGS g W m (f zs c) Dn
theorem gs_imp {X : Cx} {st : Stmt} {t t' : TGn} (h : GS X st t) (i : ∀ Dn ys σ H, t' Dn ys σ H → t Dn ys σ H) : GS X st t' := ⟨fun A S ip R n ys s₀ c fs K J gd lv s σ H Dn a b d e q => h.run A S ip R n ys s₀ c fs K J gd lv s σ H Dn a b d e (i Dn ys σ H q)⟩
theorem gss_imp {X : Cx} {st : List Stmt} {t t' : TGn} (h : GSs X st t) (i : ∀ Dn ys σ H, t' Dn ys σ H → t Dn ys σ H) : GSs X st t' := ⟨fun A S ip R n ys s₀ c fs K J gd lv s σ H Dn a b d e q => h.run A S ip R n ys s₀ c fs K J gd lv s σ H Dn a b d e (i Dn ys σ H q)⟩
theorem OutGS.mono {g : G} {W : WX} {m m' : Mp} {r : R (Fl × List D)} {Dn : GEnds} (e : Ext m m') (h : OutGS g W m r Dn) : OutGS g W m' r Dn := by
  cases r with
  | ok a c =>
    obtain ⟨fl, zs⟩ := a
    cases fl with
    | next => exact fun m2 ys σ H x => h m2 ys σ H (e.trans x)
    | brk => exact fun m2 ys σ H x => h m2 ys σ H (e.trans x)
    | cont => exact fun m2 ys σ H x => h m2 ys σ H (e.trans x)
    | ret d => exact h
  | exc cn vs c => exact fun m2 σ H C d x => h m2 σ H C d (e.trans x)
  | stuck => exact h
def gNext : GM := fun zs c => .ok (.next, zs) c
def gPlain (f : M Fl) : GM := fun zs c => (f c).bind fun fl c' => match fl with
  | .ret _ => .stuck
  | fl => .ok (fl, zs) c'
def gYield (fe : M D) : GM := fun zs c => match decide (zs.length < sizeLine) with
  | true => (fe c).bind fun d c' => .ok (.next, zs ++ [d]) c'
  | false => .stuck
def gSeq (f h : GM) : GM := fun zs c => match f zs c with
  | .ok (.next, zs') c' => h zs' c'
  | r => r
def gIf (t : M Bool) (f h : GM) : GM := fun zs c => (t c).bind fun b c' => match b with
  | true => f zs c'
  | false => h zs c'
def forGL (body : D → GM) : List D → GM
  | [] => fun zs c => .ok (.next, zs) c
  | d :: ds => fun zs c => match body d zs c with
    | .ok (.next, zs') c' => forGL body ds zs' c'
    | .ok (.cont, zs') c' => forGL body ds zs' c'
    | .ok (.brk, zs') c' => .ok (.next, zs') c'
    | .ok (.ret v, zs') c' => .ok (.ret v, zs') c'
    | .exc cn vs c' => .exc cn vs c'
    | .stuck => .stuck
def gFor (fi : M (List D)) (t : Tg) (body : GM) : GM := fun zs c => (fi c).bind fun ds c' => forGL (fun d => gSeq (gPlain (cTg t d)) body) ds zs c'
section
variable {g : G} {k : Nat} {N : List Str} {X : Cx} {sc ws : Scope} {W : WX} {pos yp : Pos} {tg iter e test : Expr} {st : Stmt} {rest bd a b : List Stmt} {fi : M (List D)} {t : Tg} {fb f h : GM} {fe : M D} {ft : M Bool} {fp : M Fl}
theorem gg_nil : GSs X [] (tGS g W gNext) := gss_imp gss_nil fun Dn ys σ H ⟨m, c, zs, s, k, o⟩ => o m ys σ H Ext.rfl' s k
theorem gg_cons (h1 : GS X st (tGS g W f)) (h2 : GSs X rest (tGS g W h)) : GSs X (st :: rest) (tGS g W (gSeq f h)) := by
  refine gss_imp (gss_cons h1 h2) fun Dn ys σ H ⟨m, c, zs, s, k, o⟩ => ⟨m, c, zs, s, k, ?_⟩
  unfold gSeq at o
  cases q : f zs c with
  | ok a c' =>
    rw [q] at o
    obtain ⟨fl, zs'⟩ := a
    cases fl with
    | next => exact fun m' ys' σ' H' x s' k' => ⟨m', c', zs', s', k', OutGS.mono x o⟩
    | ret d => exact o
    | brk => exact o
    | cont => exact o
  | exc cn vs c' => rw [q] at o; exact o
  | stuck => rw [q] at o; exact o
theorem gg_plain (h : PS X st (tS g W fp)) : GS X st (tGS g W (gPlain fp)) := by
  refine gs_imp (gs_ps h) fun Dn ys σ H ⟨m, c, zs, s, k, o⟩ => ⟨m, c, s, ?_⟩
  unfold gPlain at o
  cases q : fp c with
  | ok a c' =>
    rw [q] at o
    cases a with
    | next => exact fun m' σ' H' x s' => o m' ys σ' H' x s' (k.mono x)
    | ret d => exact o.elim
    | brk => exact fun m' σ' H' x s' => o m' ys σ' H' x s' (k.mono x)
    | cont => exact fun m' σ' H' x s' => o m' ys σ' H' x s' (k.mono x)
  | exc cn vs c' => rw [q] at o; exact o
  | stuck => rw [q] at o; exact o
theorem gg_yield (q : Good g k N X sc ws W) (he : PE X e (tE g W fe)) (hco : X.env.scope.isCoroutine = false) (hi : interactive X.env = false) : GS X (.Expr (.Yield (some e) yp) pos) (tGS g W (gYield fe)) := by
  refine gs_imp (gs_yield he hco hi) fun Dn ys σ H ⟨m, c, zs, s, k, o⟩ => ?_
  unfold gYield at o
  cases hz : decide (zs.length < sizeLine) with
  | false => rw [hz] at o; exact o.elim
  | true =>
    rw [hz] at o
    refine ⟨by rw [← k.length]; exact of_decide_eq_true hz, m, c, s, ?_⟩
    have o : OutGS g W m ((fe c).bind fun d c' => .ok (.next, zs ++ [d]) c') Dn := o
    cases q : fe c with
    | ok d c' =>
      rw [q] at o
      exact fun m' v' H' x s' k' => o m' _ σ H' x s' ((k.mono x).append (.cons k' .nil))
    | exc cn vs c' => rw [q] at o; exact fun m' H' C dd x s' => o m' σ H' C dd x s'
    | stuck => rw [q] at o; exact o
theorem gg_if (ht : PT X test (tT g W ft)) (ha : GSs X a (tGS g W f)) (hb : GSs X b (tGS g W h)) : GS X (.If test a b pos) (tGS g W (gIf ft f h)) := by
  refine gs_imp (gs_if ht ha hb) fun Dn ys σ H ⟨m, c, zs, s, k, o⟩ => ⟨m, c, s, ?_⟩
  unfold gIf at o
  cases q : ft c with
  | ok d c' =>
    rw [q] at o
    intro m' v' H' x s' k'
    have k' : d = v' := k'
    subst k'
    cases d with
    | true => exact ⟨m', c', zs, s', k.mono x, OutGS.mono x o⟩
    | false => exact ⟨m', c', zs, s', k.mono x, OutGS.mono x o⟩
  | exc cn vs c' => rw [q] at o; exact fun m' H' C dd x s' => o m' σ H' C dd x s'
  | stuck => rw [q] at o; exact o
end
section
variable {g : G} {k : Nat} {N : List Str} {X : Cx} {sc ws : Scope} {W : WX} {pos : Pos} {tg iter : Expr} {bd : List Stmt} {fi : M (List D)} {t : Tg} {fb : GM}
theorem gg_for (q : Good g k N X sc ws W) (hi : PI X tg iter (tI g W fi)) (ht : PTg g X tg t) (hb : GSs X bd (tGS g W fb)) (hs : notSet iter = true) : GS X (.For tg iter bd [] pos) (tGS g W (gFor fi t fb)) := by
  refine gs_imp (gs_for q.own q.calm hi ht.run hb (folded_ok hs)) fun Dn ys σ H ⟨m, c, zs, s, kz, o⟩ => ⟨m, c, s, ?_⟩
  unfold gFor at o
  cases e0 : fi c with
  | stuck => rw [e0] at o; exact o
  | exc cn vs c' => rw [e0] at o; exact fun m' H' C dd x s' => o m' σ H' C dd x s'
  | ok ds c0 =>
    rw [e0] at o
    intro m1 J H1 x1 s1 y
    have o1 : OutGS g W m1 (forGL (fun d => gSeq (gPlain (cTg t d)) fb) ds zs c0) Dn := OutGS.mono x1 o
    refine ⟨fun i mm ys σ H => mm = ds.length - i ∧ i ≤ ds.length ∧ ∃ m2 c2 zs2, Ext m1 m2 ∧ Sim g m2 c2 σ H ∧ Svs g m2 zs2 ys ∧ OutGS g W m2 (forGL (fun d => gSeq (gPlain (cTg t d)) fb) (ds.drop i) zs2 c2) Dn, ⟨ds.length, by simp, Nat.zero_le _, m1, c0, zs, Ext.rfl', s1, kz.mono x1, o1⟩, ?_⟩
    rintro i mm ys2 σ2 H2 ⟨rfl, hi, m2, c2, zs2, x2, s2, k2, o2⟩
    obtain ⟨y1, y2⟩ := y m2 c2 σ2 H2 x2.r x2.f s2 i
    by_cases hlt : i < ds.length
    · obtain ⟨go, yl⟩ := y2 _ (List.getElem?_eq_getElem hlt)
      rw [List.drop_eq_getElem_cons hlt] at o2
      refine .inr ⟨go, fun ys3 σ3 H3 => ∃ m3 c3 zs3, Ext m1 m3 ∧ Sim g m3 c3 σ3 H3 ∧ Svs g m3 zs3 ys3 ∧ OutGS g W m3 (forGL (fun d => gSeq (gPlain (cTg t d)) fb) (ds.drop (i + 1)) zs3 c3) Dn, fun ys3 σ3 H3 ⟨m3, c3, zs3, z1, z2, z3, z4⟩ => ⟨ds.length - (i + 1), by omega, rfl, hlt, m3, c3, zs3, z1, z2, z3, z4⟩, fun x H3 yx => ?_⟩
      obtain ⟨m3, x3, s3, k3⟩ := yl x H3 yx
      have o3 := OutGS.mono x3 o2
      unfold forGL at o3
      rcases cTg_next t ds[i] c2 with ⟨c4, e4⟩ | e4
      · refine PTg.go s3 k3 e4 fun σ4 s4 _ => ⟨m3, c4, zs2, s4, k2.mono x3, ?_⟩
        have e5 : gSeq (gPlain (cTg t ds[i])) fb zs2 c2 = fb zs2 c4 := by
          unfold gSeq gPlain
          rw [e4]
          rfl
        rw [e5] at o3
        cases q : fb zs2 c4 with
        | ok a c5 =>
          rw [q] at o3
          obtain ⟨fl, zs5⟩ := a
          cases fl with
          | next => exact fun m6 ys6 σ6 H6 x6 s6 k6 => ⟨m6, c5, zs5, (x2.trans x3).trans x6, s6, k6, OutGS.mono x6 o3⟩
          | cont => exact fun m6 ys6 σ6 H6 x6 s6 k6 => ⟨m6, c5, zs5, (x2.trans x3).trans x6, s6, k6, OutGS.mono x6 o3⟩
          | brk => exact o3
          | ret v => exact o3
        | exc cn vs c5 => rw [q] at o3; exact o3
        | stuck => rw [q] at o3; exact o3
      · have e5 : gSeq (gPlain (cTg t ds[i])) fb zs2 c2 = .stuck := by
          unfold gSeq gPlain
          rw [e4]
          rfl
        rw [e5] at o3
        exact o3.elim
    · have e : i = ds.length := by omega
      rw [e, List.drop_length] at o2
      exact .inl ⟨y1 e, o2 m2 ys2 σ2 H2 Ext.rfl' s2 k2⟩
end
/-! ## a generator def, list(f(e, ..)) -/
inductive GR where
  | ok (ys : List D) (S : List O)
  | stuck
abbrev FnG := List D → List O → GR
def OutGF (g : G) (m : Mp) (r : GR) (Q : List V → Hp → Prop) : Prop := match r with
  | .ok zs S => ∀ m' ys H', Ext m m' → Sim g m' ⟨[], S⟩ [] H' → Svs g m' zs ys → Q ys H'
  | .stuck => False
def spG (g : G) (f : FnG) : SpG := fun vs H Q _ => ∃ m S ds, Sim g m ⟨[], S⟩ [] H ∧ Svs g m ds vs ∧ OutGF g m (f ds S) Q
def fnGB (n p : Nat) (fb : GM) : FnG := fun ds S => match decide (ds.length = p) with
  | true => match fb [] (startC n ds S) with
    | .ok (.next, zs) c => .ok zs c.S
    | _ => .stuck
  | false => .stuck
structure FnGC (g : G) (k : Nat) (f : Addr) (fn : FnG) : Prop where
  fn : ∃ fd ps, GFn g.prog g.w g.K g.mg g.base k f fd ps (spG g fn) ∧ Binds g.K fd ps []
theorem good_gen {g : G} {N ps : List Str} {qual : Str} {sc : Scope} {f : Addr} {cd : Value} {A : Around} {outer : List Env} {s : Shared} {H : Hp} {E : XK} {k : Nat} {pn : List (Addr × Obj)} (S : GScope N ps sc) (hr : Room k (A.deeper (envOfC qual sc s.heap.objs.size f cd))) :
    Good g k N (gcxOf g.prog g.w g.K g.mg g.base N qual sc f cd A outer s H E pn) sc sc (fun C d _ H' => E C d H') :=
  ⟨rfl, S.nd, rfl, rfl, hr, rfl, rfl, rfl, rfl, rfl, takes_gcx, owns_gcx, fun x hx => ⟨sto_ok x hx, .inl rfl⟩⟩
theorem fn_g {g : G} {x qual : Str} {st : Stmt} {f : Addr} {fd : FuncData} {N ps : List Str} {k : Nat} {fb : GM} (F : L2.Fun g.K x qual st f fd) (S : GScope N ps (defScope st)) (hb : Binds g.K fd ps [])
    (h : ∀ (X : Cx) (W : WX), Good g k N X (defScope st) (defScope st) W → X.env.scope.isCoroutine = false → interactive X.env = false → GSs X (defBody st) (tGS g W fb)) : FnGC g (k + 1) f (fnGB N.length ps.length fb) := by
  refine ⟨fd, ps, ?_, hb⟩
  obtain ⟨oc, od, kV, doc, pm, an, cdv, ct, osl, rfl, lk, hcd⟩ := F.ex
  refine gfn_of lk hcd S (fun vs H Q E ⟨m, S', ds, sm, hv, o⟩ => ?_) fun A outer s H vs Q E pn hr ⟨m, S', ds, sm, hv, o⟩ => ?_
  · unfold fnGB at o
    cases e : decide (ds.length = ps.length) with
    | false => rw [e] at o; exact o.elim
    | true => rw [← hv.length]; exact of_decide_eq_true e
  · unfold fnGB at o
    cases e : decide (ds.length = ps.length) with
    | false => rw [e] at o; exact o.elim
    | true =>
      rw [e] at o
      refine ⟨_, h _ _ (good_gen S hr) S.co (by unfold interactive; rw [show (gcxOf g.prog g.w g.K g.mg g.base N qual (defScope st) f cdv A outer s H E pn).env.scope.kind = .function from S.kind]; rfl), m, _, [], sm.start hv, .nil, ?_⟩
      cases q : fb [] (startC N.length ds S') with
      | ok a c =>
        obtain ⟨fl, zs⟩ := a
        have o : OutGF g m (match fb [] (startC N.length ds S') with
          | .ok (.next, zs) c => .ok zs c.S
          | _ => .stuck) Q := o
        rw [q] at o
        cases fl with
        | next => exact fun m' ys' σ' H' x s' k' => o m' ys' H' x s'.drop k'
        | brk => exact o.elim
        | cont => exact o.elim
        | ret d => exact o.elim
      | exc cn vs c =>
        have o : OutGF g m (match fb [] (startC N.length ds S') with
          | .ok (.next, zs) c => .ok zs c.S
          | _ => .stuck) Q := o
        rw [q] at o
        exact o.elim
      | stuck =>
        have o : OutGF g m (match fb [] (startC N.length ds S') with
          | .ok (.next, zs) c => .ok zs c.S
          | _ => .stuck) Q := o
        rw [q] at o
        exact o.elim
def cListG (fn : FnG) (fa : M (List D)) : M (List D) := fun c => (fa c).bind fun ds c' => match fn ds c'.S with
  | .ok ys S' => .ok ys { c' with S := S' }
  | .stuck => .stuck
section
variable {g : G} {j k : Nat} {N : List Str} {X : Cx} {sc ws : Scope} {W : WX} {p p2 pos pos2 : Pos} {x : Str} {f : Addr} {fn : FnG} {e : Expr} {es : List Expr} {fa : M (List D)}
theorem genS_sp {m : Mp} {c : CS} {σ : L2.St} {H : Hp} {ds : List D} {vs : List V} {Q : List V → Hp → Prop} {E : XK} (s : Sim g m c σ H) (hv : Svs g m ds vs) (o : match fn ds c.S with
    | .ok zs S' => ∀ m' ys H', Ext m m' → Sim g m' { c with S := S' } σ H' → Svs g m' zs ys → Q ys H'
    | .stuck => False) : spG g fn vs H Q E := by
  refine ⟨m.call H [] m.ini, c.S, ds, s.call [] m.ini, Svs.like (m := m) (m' := m.call H [] m.ini) (fun _ _ z => z) (fun _ _ z => z) hv, ?_⟩
  cases e : fn ds c.S with
  | ok zs S' =>
    rw [e] at o
    intro m' ys H' x s' k
    obtain ⟨x2, s2⟩ := s.back (ex := []) (fun a z => absurd z List.not_mem_nil) x s'
    exact o _ ys H' x2 s2 (Svs.like (m := m') (m' := ⟨m'.rho, m'.F, m.B, m.lam, m.ini⟩) (fun _ _ z => z) (fun _ _ z => z) k)
  | stuck => rw [e] at o; exact o.elim
theorem sl_listG (q : Good g k N X sc ws W) (F : FnGC g j f fn) (hj : j + 3 ≤ k) (hg : isGl sc x = true) (hm : g.mg x = some (.ref f)) (hk : PySem.W.keepIn g.K (.ref f) = true) (hl : isGl sc "list" = true) (ml : g.mg "list" = none) (ha : PA X (e :: es) (tA g W fa)) (hp : plainArgs (e :: es) = true) :
    PE X (.Call (.Name "list" p) [.Call (.Name x p2) (e :: es) [] pos2] [] pos) (tL g W (cListG fn fa)) := by
  obtain ⟨p1, p3⟩ := plain_tail hp
  obtain ⟨fd, ps, F1, hb⟩ := F.fn
  obtain ⟨hg, hd, _⟩ := q.gl hg
  rw [← q.hmg] at hm ml
  rw [← q.hK] at hk hb F1
  rw [← q.hP, ← q.hw, ← q.hmg, ← q.hbs] at F1
  have PG := pgen_call (p := p2) (pos' := pos2) (E := fun _ _ _ => False) F1 (q.room.mono (by omega)) hg hm hk hb (dvs := []) .nil ha hd (star_plain p1) (plain_any p3)
  refine pe_imp (pe_listG (p := p) (pos := pos) PG noPass (fun _ _ _ z => z.elim) (q.room.mono hj) (q.gl hl).1 ml (by rfl) (by decide) (by decide) (star_plain rfl)) fun σ H Q ⟨m, c, s, o⟩ => ⟨m, c, s, ?_⟩
  unfold cListG at o
  cases e0 : fa c with
  | stuck => rw [e0] at o; exact o
  | exc cn vs c' => rw [e0] at o; exact fun m' H' C dd x s' => o m' H' C dd x s'
  | ok ds c0 =>
    rw [e0] at o
    intro m1 vs H1 x1 s1 k1
    have k1 : Svs g m1 ds vs := k1
    show spG g fn (vs ++ []) H1 _ _
    rw [List.append_nil]
    refine genS_sp s1 k1 ?_
    have o : Out (rL g) g W σ m (match fn ds c0.S with
      | .ok ys S' => .ok ys { c0 with S := S' }
      | .stuck => .stuck) Q := o
    cases e1 : fn ds c0.S with
    | stuck => rw [e1] at o; exact o.elim
    | ok zs S' =>
      rw [e1] at o
      intro m2 ys H2 x2 s2 k2 pp hpp
      exact out_freshL s2 k2 (Out.mono (x1.trans x2) o) hpp
end
end CL
namespace CL
open PySem PySem.Spec PyProof.Rows L2
/-! ## xs[::-1] of a list -/
def cRevL (fa : M D) : M (List D) := fa.bind fun d => fun c => match c.seqL d with
  | some xs => .ok xs.reverse c
  | none => .stuck
theorem Svs.rev {g : G} {m : Mp} : ∀ {ds : List D} {vs : List V}, Svs g m ds vs → Svs g m ds.reverse vs.reverse
  | _, _, .nil => .nil
  | _, _, .cons k r => by
    rw [List.reverse_cons, List.reverse_cons]
    exact r.rev.append (.cons k .nil)
section
variable {X : Cx} {g : G} {W : WX} {e : Expr} {fa : M D} {k : Nat} {p1 p2 p3 pos : Pos}
theorem sl_rev (hK : X.K = g.K) (he : PE X e (tE g W fa)) : PE X (.Subscript e (.Slice none none (some (.UnaryOp .USub (.Constant (.int 1) k p1) p2)) p3) pos) (tL g W (cRevL fa)) := by
  refine pe_imp (pe_revL he) fun σ H Q ⟨m, c, s, o⟩ => ⟨m, c, s, o.bind.imp fun x H1 ⟨m1, a, c1, x1, s1, k1, o1⟩ => ?_⟩
  have o1 : Out (rL g) g W σ m1 (match c1.seqL a with
    | some xs => .ok xs.reverse c1
    | none => .stuck) Q := o1
  cases e1 : c1.seqL a with
  | none => rw [e1] at o1; exact o1.elim
  | some xs =>
    rw [e1] at o1
    obtain ⟨p, vs, rfl, hp, hv⟩ := s1.seqL e1 k1
    refine ⟨p, vs, rfl, by rw [hK]; exact SqL.of hp, fun q hq => out_freshL s1 hv.rev o1 hq⟩
theorem rev_of {c c1 : CS} {xs : List D} (ea : fa c = .ok (.lst xs) c1) : cRevL fa c = .ok xs.reverse c1 := by
  show (fa c).bind _ = _
  rw [ea]
  rfl
end
/-! ## while -/
def whileL : Nat → M Bool → M Fl → M Fl
  | 0, _, _ => fun _ => .stuck
  | n + 1, t, body => fun c => (t c).bind fun b c1 => match b with
    | false => .ok .next c1
    | true => match body c1 with
      | .ok .next c2 => whileL n t body c2
      | .ok .cont c2 => whileL n t body c2
      | .ok .brk c2 => .ok .next c2
      | .ok (.ret v) c2 => .ok (.ret v) c2
      | .exc cn vs c2 => .exc cn vs c2
      | .stuck => .stuck
section
variable {g : G} {k : Nat} {N : List Str} {X : Cx} {sc ws : Scope} {W : WX} {pos : Pos} {t : Expr} {bd : List Stmt} {ft : M Bool} {fb : M Fl}
theorem ss_while (n : Nat) (q : Good g k N X sc ws W) (ht : PT X t (tT g W ft)) (hb : PSs X bd (tS g W fb)) : PS X (.While t bd [] pos) (tS g W (whileL n ft fb)) := by
  refine ps_imp (ps_while q.own ht hb) fun Dn σ H ⟨m, c, s, o⟩ => ?_
  refine ⟨fun n σ H => ∃ m c, Sim g m c σ H ∧ OutS g W m (whileL n ft fb c) Dn, ⟨n, m, c, s, o⟩, ?_⟩
  rintro n σ H ⟨m, c, s, o⟩
  cases n with
  | zero => exact o.elim
  | succ n =>
    refine ⟨m, c, s, ?_⟩
    have o : OutS g W m ((ft c).bind fun b c1 => match b with
      | false => .ok .next c1
      | true => match fb c1 with
        | .ok .next c2 => whileL n ft fb c2
        | .ok .cont c2 => whileL n ft fb c2
        | .ok .brk c2 => .ok .next c2
        | .ok (.ret v) c2 => .ok (.ret v) c2
        | .exc cn vs c2 => .exc cn vs c2
        | .stuck => .stuck) Dn := o
    cases e1 : ft c with
    | stuck => rw [e1] at o; exact o
    | exc cn vs c1 => rw [e1] at o; exact fun m' H' C dd x s' => o m' σ H' C dd x s'
    | ok b c1 =>
      rw [e1] at o
      intro m1 b' H1 x1 s1 kb
      have kb : b = b' := kb
      subst kb
      have o := OutS.mono x1 o
      cases b with
      | false => exact o m1 σ H1 Ext.rfl' s1
      | true =>
        refine ⟨fun σ' H' => ∃ m c, Sim g m c σ' H' ∧ OutS g W m (whileL n ft fb c) Dn, fun σ' H' z => ⟨n, Nat.lt_succ_self n, z⟩, m1, c1, s1, ?_⟩
        have o : OutS g W m1 (match fb c1 with
          | .ok .next c2 => whileL n ft fb c2
          | .ok .cont c2 => whileL n ft fb c2
          | .ok .brk c2 => .ok .next c2
          | .ok (.ret v) c2 => .ok (.ret v) c2
          | .exc cn vs c2 => .exc cn vs c2
          | .stuck => .stuck) Dn := o
        cases e2 : fb c1 with
        | stuck => rw [e2] at o; exact o
        | exc cn vs c2 => rw [e2] at o; exact o
        | ok f c2 =>
          rw [e2] at o
          cases f with
          | next => exact fun m2 σ2 H2 x2 s2 => ⟨m2, c2, s2, OutS.mono x2 o⟩
          | cont => exact fun m2 σ2 H2 x2 s2 => ⟨m2, c2, s2, OutS.mono x2 o⟩
          | brk => exact o
          | ret v => exact o
end
/-! ## a, b = x, [..] -/
def cParL (i j : Nat) (fa : M D) (fl : M (List D)) : M Fl := fun c => (fa c).bind fun d c1 => (fl c1).bind fun xs c2 => .ok .next ((c2.put j (.own (.lst xs))).put i (.val d))
section
variable {g : G} {k : Nat} {N : List Str} {X : Cx} {sc ws : Scope} {W : WX} {i j : Nat} {x y : Str} {a b : Expr} {fa : M D} {fl : M (List D)} {px py pt pos : Pos} {kt k2 : Nat} {pt2 : Pos}
theorem ss_parL (q : Good g k N X sc ws W) (hi : N[i]? = some x) (hj : N[j]? = some y) (hij : i ≠ j) (hx : sc.names.lookup x = some .local) (hy : sc.names.lookup y = some .local) (ha : PE X a (tE g W fa)) (hb : PE X b (tL g W fl)) (hp : plainArgs [a, b] = true)
    (hw : swappedStores [.Tuple [.Name x px, .Name y py] kt pt] (.Tuple [a, b] k2 pt2) X.env = pure (some [x, y])) : PS X (.Assign [.Tuple [.Name x px, .Name y py] kt pt] (.Tuple [a, b] k2 pt2) pos) (tS g W (cParL i j fa fl)) := by
  obtain ⟨p1, p2⟩ := plain_tail hp
  obtain ⟨p3, p4⟩ := plain_tail p2
  refine ps_imp (ps_par q.calm q.ndX (q.at_ hi) (q.at_ hj) hij (by rw [q.hsc]; exact hx) (by rw [q.hsc]; exact hy) (pa_cons ha (pa_cons hb pa_nil (star_plain p3)) (star_plain p1)) hw (by rfl)) fun Dn σ H ⟨m, c, s, o⟩ => ⟨m, c, s, o.bind.imp fun v H1 ⟨m1, d, c1, x1, s1, k1, o1⟩ => ⟨m1, c1, s1, o1.bind.imp fun u H2 ⟨m2, xs, c2, x2, s2, k2, o2⟩ => ⟨v, u, rfl, ?_⟩⟩⟩
  obtain ⟨m3, x3, s3⟩ := s2.own (i := j) k2
  have s4 := s3.val (i := i) ((k1.mono x2).mono x3)
  rw [List.set_comm _ _ (Ne.symm hij)] at s4
  exact (o2.mono x3).nx s4
theorem parL_of {c c1 c2 : CS} {d : D} {xs : List D} (ea : fa c = .ok d c1) (eb : fl c1 = .ok xs c2) : cParL i j fa fl c = .ok .next ((c2.put j (.own (.lst xs))).put i (.val d)) := by
  unfold cParL
  rw [ea]
  show (fl c1).bind _ = _
  rw [eb]
  rfl
end
end CL
namespace CL
open PySem PySem.Spec PyProof.Rows L2
/-! ## ==, != where a list of the store may stand -/
def CS.toPS (c : CS) (d : D) : Option PyData := match c.seqL d with
  | some xs => (toPs xs).map .list
  | none => toP d
theorem Sim.dpS {g : G} {m : Mp} {c : CS} {σ : L2.St} {H : Hp} (s : Sim g m c σ H) {d : D} {v : V} {p : PyData} (k : Sv g m d v) (e : c.toPS d = some p) : Dp g.K H v p := by
  unfold CS.toPS at e
  cases e1 : c.seqL d with
  | none => rw [e1] at e; exact s.dp k e
  | some xs =>
    rw [e1] at e
    obtain ⟨a, vs, rfl, h1, h2⟩ := s.seqL e1 k
    obtain ⟨ps, e2, e3⟩ := Option.map_eq_some_iff.mp e
    subst e3
    exact .lst (SqL.of h1) (s.dps h2 e2)
def dP2S (f : PyData → PyData → D) (a b : D) : M D := fun c => match c.toPS a, c.toPS b with
  | some p, some q => M.guard (SeqAt.shaped p && SeqAt.shaped q) (M.ret (f p q)) c
  | _, _ => .stuck
abbrev dEqS : D → D → M D := dP2S fun p q => .bl (PyData.eqv p q)
abbrev dNeS : D → D → M D := dP2S fun p q => .bl (!PyData.eqv p q)
theorem s2_dpS {g : G} {f : PyData → PyData → Bool} : S2 g (fun x y H Q => ∃ d e, Dp g.K H x d ∧ Dp g.K H y e ∧ SeqAt.shaped d = true ∧ SeqAt.shaped e = true ∧ Q (.bl (f d e)) H) (dP2S fun p q => .bl (f p q)) := by
  intro W m c σ H a b x y Q s ha hb o
  unfold dP2S at o
  cases e1 : c.toPS a with
  | none => rw [e1] at o; exact o.elim
  | some p =>
    cases e2 : c.toPS b with
    | none => rw [e1, e2] at o; exact o.elim
    | some q =>
      rw [e1, e2] at o
      obtain ⟨hz, o⟩ := Out.guard o
      rw [Bool.and_eq_true] at hz
      · exact ⟨p, q, s.dpS ha e1, s.dpS hb e2, hz.1, hz.2, o.here s (.bl _)⟩
section
variable {X : Cx} {g : G} {k : Nat} {N : List Str} {sc ws : Scope} {W : WX}
theorem mq_eqS (q : Good g k N X sc ws W) : MOp X g W (compareOp .Eq) dEqS := mq (r := rEqD) q (op_eqD (by have := q.room.un; omega)) s2_dpS
theorem mq_neS (q : Good g k N X sc ws W) : MOp X g W (compareOp .NotEq) dNeS := mq (r := rNeD) q (op_neD (by have := q.room.un; omega)) s2_dpS
end
end CL
namespace CL
open PySem PySem.Spec PyProof.Rows L2
/-! ## instances that stay in the store -/
def outR (ci : Nat) (c : CS) : FR := match c.sl[(0 : Nat)]? with
  | some (.own (.ins k fs)) => match decide (k = ci) with
    | true => .ok (.ref c.S.length) (c.S ++ [.ins ci fs])
    | false => .stuck
  | _ => .stuck
def mkR (n np ci : Nat) (fb : M Fl) : Fn := fun ds S => match decide (ds.length = np) with
  | true => match fb (startM n ci ds S) with
    | .ok .next c => outR ci c
    | .ok (.ret .non) c => outR ci c
    | .exc cn vs c => .exc cn vs c.S
    | _ => .stuck
  | false => .stuck
theorem outR_ok {g : G} {m m' : Mp} {c : CS} {σ : L2.St} {H : Hp} {ci : Nat} {C : Addr} {ns : List Str} {x : Addr} {Q : VK} {E : XK} (hc : g.cls ci = some (C, ns)) (xx : Ext m m') (s : Sim g m' c σ H) (hi : m.ini = x) (o : OutMk g m x (outR ci c) Q E) : Q .non H := by
  unfold outR at o
  cases e : c.sl[0]? with
  | none => rw [e] at o; exact o.elim
  | some t =>
    rw [e] at o
    cases t with
    | no => exact o.elim
    | val d => exact o.elim
    | own ob =>
      cases ob with
      | lst _ => exact o.elim
      | ins k fs =>
        have o : OutMk g m x (match decide (k = ci) with
          | true => FR.ok (.ref c.S.length) (c.S ++ [.ins ci fs])
          | false => .stuck) Q E := o
        cases z : decide (k = ci) with
        | false => rw [z] at o; exact o.elim
        | true =>
          rw [z] at o
          have hk : k = ci := of_decide_eq_true z
          subst hk
          obtain ⟨h1, h2, h3⟩ := s.sl 0 _ e
          have ex : m'.lam 0 = x := (s.ini _ _ e).trans (xx.i.trans hi)
          rw [ex] at h2
          have xf : Ext m' { m' with rho := m'.rho ++ [x] } := ⟨fun n a z => by
            show (m'.rho ++ [x])[n]? = some a
            rw [List.getElem?_append_left (List.getElem?_eq_some_iff.mp z).1]
            exact z, fun _ _ z => z, rfl, rfl⟩
          have nr : x ∉ m'.rho := by rw [← ex]; exact h3.rh
          have last : (m'.rho ++ [x])[c.S.length]? = some x := by
            rw [← s.len, List.getElem?_append_right (Nat.le_refl _), Nat.sub_self]
            rfl
          have sm : Sim g { m' with rho := m'.rho ++ [x] } ⟨[], c.S ++ [.ins k fs]⟩ [] H := by
            refine ⟨s.fr, ?_, s.tb, ?_, iniOk_nil, rfl, fun n a o g1 g2 => ?_, fun a o z => ?_, fun i t h => by
              have h : ([] : List Sl)[i]? = some t := h
              simp at h⟩
            · show (m'.rho ++ [x]).Nodup
              rw [List.nodup_append]
              exact ⟨s.nd, by simp, fun a ha b hb => by
                cases List.mem_singleton.mp hb
                exact fun z => nr (by rw [← z]; exact ha)⟩
            · show (m'.rho ++ [x]).length = (c.S ++ [O.ins k fs]).length
              rw [List.length_append, List.length_append, s.len]
              rfl
            · have g1 : (m'.rho ++ [x])[n]? = some a := g1
              have g2 : (c.S ++ [O.ins k fs])[n]? = some o := g2
              by_cases q : n < c.S.length
              · rw [List.getElem?_append_left (by rw [s.len]; exact q)] at g1
                rw [List.getElem?_append_left q] at g2
                obtain ⟨k1, k2⟩ := s.st n a o g1 g2
                exact ⟨k1, k2.mono xf rfl⟩
              · have hl : n < (c.S ++ [O.ins k fs]).length := (List.getElem?_eq_some_iff.mp g2).1
                rw [List.length_append] at hl
                have e : n = c.S.length := by
                  have : ([O.ins k fs] : List O).length = 1 := rfl
                  omega
                subst e
                rw [last] at g1
                cases g1
                rw [List.getElem?_append_right (Nat.le_refl _), Nat.sub_self] at g2
                cases g2
                exact ⟨by rw [← ex]; exact h3.fr, h2.mono xf rfl⟩
            · obtain ⟨z1, z2, z3, z4⟩ := s.bk a o z
              refine ⟨z1, z2, fun q => ?_, z4⟩
              have q : a ∈ m'.rho ++ [x] := q
              rcases List.mem_append.mp q with q | q
              · exact z3 q
              · have z : m'.B a = some o := z
                rw [List.mem_singleton.mp q, ← ex, h3.bk] at z
                cases z
          exact o _ H (xx.trans xf) sm (.ref last)
theorem outR_S {g : G} {W : WX} {m m1 : Mp} {ci : Nat} {C : Addr} {ns : List Str} {x : Addr} {r : R Fl} {Q : VK} {E : XK} (hc : g.cls ci = some (C, ns)) (xx : Ext m m1) (hi : m.ini = x) (hW : ∀ C d σ H, E C d H → W C d σ H)
    (o : OutMk g m x (match r with
      | .ok .next c => outR ci c
      | .ok (.ret .non) c => outR ci c
      | .exc cn vs c => .exc cn vs c.S
      | _ => .stuck) Q E) : OutS g W m1 r { nx := fun _ H' => Q .non H', rt := Q } := by
  cases r with
  | ok a c =>
    cases a with
    | next => exact fun m' σ' H' x' s => outR_ok hc (xx.trans x') s hi o
    | ret d =>
      cases d <;> first | exact o.elim | skip
      intro m' σ' v H' x' s k
      cases k
      exact outR_ok hc (xx.trans x') s hi o
    | brk => exact o.elim
    | cont => exact o.elim
  | exc cn vs c => exact fun m' σ' H' C d x' s k => hW C d σ' H' (o m' H' C d (xx.trans x') s.drop k)
  | stuck => exact o.elim
/-- def __init__(self, a, ..): the instance stays in the store -/
theorem fn_mkP {g : G} {x qual : Str} {st : Stmt} {f : Addr} {fd : FuncData} {N ps : List Str} {np k ci : Nat} {C : Addr} {ns : List Str} {fb : M Fl} (F : L2.Fun g.K x qual st f fd) (S : FnScope N ps (defScope st)) (hb : Binds g.K fd ps []) (hp : ps.length = np + 1) (hc : g.cls ci = some (C, ns))
    (h : ∀ (X : Cx) (W : WX), Good g k N X (defScope st) (defScope st) W → PSs X (defBody st) (tS g W fb)) : FnMk g (k + 1) f ci (mkR N.length np ci fb) := by
  have z : FnOk g.prog g.w g.K g.mg g.base (L2.CX g.prog g.w) (k + 1) f fd ps (spMk g ci (mkR N.length np ci fb)) := by
    refine F.okX S (fun vs H Q E hs => ?_) (fun cdv A outer s H vs Q E hr hs => ?_)
    · obtain ⟨y, us, m, S', ds, C', ns', dx, rfl, hc', hx, sm, hF, hB, hrr, hi, hv, o⟩ := hs
      unfold mkR at o
      cases e : decide (ds.length = np) with
      | false => rw [e] at o; exact o.elim
      | true => rw [List.length_cons, ← hv.length, of_decide_eq_true e, hp]
    · obtain ⟨y, us, m, S', ds, C', ns', dx, rfl, hc', hx, sm, hF, hB, hrr, hi, hv, o⟩ := hs
      unfold mkR at o
      cases e : decide (ds.length = np) with
      | false => rw [e] at o; exact o.elim
      | true =>
        rw [e] at o
        obtain ⟨m1, x1, s1⟩ := sm.startM (N := N) hv hc' hx hF hB hrr hi
        exact ⟨_, h _ _ (good_of S hr), m1, _, s1, outR_S hc x1 hi (fun _ _ _ _ h => h) o⟩
  exact (z.raw hb (dvs := []) .nil).imp fun vs H Q E hs => by rw [List.append_nil]; exact hs

/-! ## e.append(x), e.extend(t) where e is a list of the store -/
def CS.lstAt (c : CS) : D → Option (Nat × List D)
  | .ref n => match c.S[n]? with
    | some (.lst xs) => some (n, xs)
    | _ => none
  | _ => none
theorem Sim.lstAt {g : G} {m : Mp} {c : CS} {σ : L2.St} {H : Hp} (s : Sim g m c σ H) {d : D} {v : V} {n : Nat} {xs : List D} (k : Sv g m d v) (e : c.lstAt d = some (n, xs)) :
    ∃ a vs, v = .ref a ∧ H a = some (.lst vs) ∧ Svs g m xs vs ∧ ∀ ys ws, Svs g m ys ws → Sim g m { c with S := c.S.set n (.lst ys) } σ (upd H a (.lst ws)) := by
  cases k with
  | @ref n' a ha =>
    have e : (match c.S[n']? with
      | some (.lst xs) => some (n', xs)
      | _ => none) = some (n, xs) := e
    cases r : c.S[n']? with
    | none => rw [r] at e; cases e
    | some o =>
      rw [r] at e
      cases o with
      | ins _ _ => cases e
      | lst ys =>
        cases e
        obtain ⟨_, vs, h1, h2⟩ := s.st _ a _ ha r
        exact ⟨a, vs, rfl, h1, h2, fun ys ws k => s.wrSt ha r fun H' z => ⟨ws, z, k⟩⟩
  | _ => cases e
def cAppE (fo fe : M D) : M Fl := fo.bind fun o c1 => match c1.lstAt o with
  | none => .stuck
  | some _ => (fe c1).bind fun d c => match c.lstAt o with
    | some (n, xs) => match decide (xs.length < sizeLine) with
      | true => .ok .next { c with S := c.S.set n (.lst (xs ++ [d])) }
      | false => .stuck
    | none => .stuck
def cExtE (fo fe : M D) : M Fl := fo.bind fun o c1 => match c1.lstAt o with
  | none => .stuck
  | some _ => (fe c1).bind fun d c => match c.lstAt o, d with
    | some (n, xs), .tup ds => match decide (xs.length + ds.length ≤ sizeLine) with
      | true => .ok .next { c with S := c.S.set n (.lst (xs ++ ds)) }
      | false => .stuck
    | _, _ => .stuck
def rExtendT (K : PySem.W.Frag) : V → List V → Hp → VK → Prop := fun x vs H Q => ∃ l b xs zs, x = .ref l ∧ vs = [.ref b] ∧ H l = some (.lst xs) ∧ SqT K H b zs ∧ xs.length + zs.length ≤ sizeLine ∧ Q .non (upd H l (.lst (xs ++ zs)))
theorem ext_tup (l : Addr) (items : Array Value) (n : Nat) (b : Addr) (d : Option Addr) (sl : Array (Option Value)) (items2 : Array Value) (n2 : Nat) (hs0 : ¬(!items.isEmpty && Builtin.List.listTooLong (items.size + items2.size)) = true) (hs1 : items.size ≤ sizeLine) (hs2 : items.size + items2.size ≤ sizeLine + 1) :
    Meets (Builtin.«list.extend» ⟨[.ref l, .ref b], []⟩) (fun _ R s => s.heap.get? l = some { cls := .type "list", dict := none, data := .seq items n, slots := #[] } ∧ s.heap.get? b = some { cls := .type "tuple", dict := d, data := .seq items2 n2, slots := sl } ∧ R (.ok (.ret Value.none)) { s with heap := s.heap.update l (Obj.mapSeq fun x => x ++ items2), toks := s.toks }) :=
  .of_wp fun prog w A R s h => by
    obtain ⟨hp, g, dr, tk, os⟩ := s; obtain ⟨hl, hb, h⟩ := h; have f1 := AutoSeq1.idx_int; have f2 := AutoSeq1.sub_tuple_tuple; have f3 := AutoSeq1.sub_list_list; have f4 := AutoSeq1.sub_tuple_list; have f5 := AutoSeq1.sub_list_tuple
    have hz' : (items ++ items2).size ≤ sizeLine + 1 := by rw [Array.size_append]; exact hs2
    wp_walk using (wpAny_updateSeq hl rfl (hz := hs1) (_hz' := hz')), AutoSeq1.wpAny_loadPart' hl, AutoSeq1.wpAny_loadPart' hb; exact ⟨_, rfl, h⟩
theorem mt_extendT {X : Cx} : MtM X "list.extend" (rExtendT X.K) := by
  intro pins s σ H x vs v us Q I rx rv h
  obtain ⟨l, b, xs, zs, rfl, rfl, hH, hB, hz, q⟩ := h
  cases rx
  obtain ⟨u, rfl, ru⟩ := rv.one
  cases ru
  obtain ⟨z, its, n, r, hl, e⟩ := I.lstM hH
  obtain ⟨its2, r2, ⟨⟨cl, dd, dat, sl⟩, e2, hcl, n2, hdat⟩, hl2⟩ := I.tuple hB
  have hcl : cl = .type "tuple" := hcl
  have hdat : dat = .seq its2.toArray n2 := hdat
  subst hcl hdat
  have hl2' := r2.length
  have hsz : its.toArray.size + its2.toArray.size ≤ sizeLine := by rw [List.size_toArray, List.size_toArray]; omega
  have hlong : ¬ (!its.toArray.isEmpty && Builtin.List.listTooLong (its.toArray.size + its2.toArray.size)) = true := by
    rw [notLongL hsz, Bool.and_false]
    exact Bool.false_ne_true
  refine call_meets PySem.F.slot_list_extend ⟨_, e, rfl⟩ PySem.F.entry_list_extend (PySem.F.args_list_extend_2 _ _)
    (ext_tup l its.toArray n b dd sl its2.toArray n2 hlong (by rw [List.size_toArray]; omega) (by omega)) ⟨e, e2, ?_⟩
  refine ⟨.non, _, I.lset (its' := its ++ its2) hH e (by simp) (r.append r2) ?_, rfl, q⟩
  rw [List.length_append]
  omega
section
variable {X : Cx} {g : G} {k : Nat} {N : List Str} {sc ws : Scope} {W : WX} {pos apos cpos : Pos} {e o : Expr} {fo fe : M D}
theorem ss_appE (q : Good g k N X sc ws W) (ho : PE X o (tE g W fo)) (he : PE X e (tE g W fe)) (hs : isStar e = false) (hline : (apos.endLine == cpos.line) = true) (h1 : okBase o = true) :
    PS X (.Expr (.Call (.Attribute o "append" apos) [e] [] cpos) pos) (tS g W (cAppE fo fe)) := by
  refine ps_imp (ps_expr (pe_bm PySem.F.plainAttrs_list PySem.F.slot_list_append PySem.F.type_list_append mt_append ho (pa_cons he pa_nil (star_plain hs)) (base_ok h1)
    (by rw [star_plain hs]; rfl) hline (star_plain hs) (by rfl)) (by rfl)) fun Dn σ H ⟨m, c, s, z⟩ => ?_
  refine ⟨m, c, s, z.bind.imp fun y H1 ⟨m1, d1, c1, x1, s1, k1, z1⟩ => ?_⟩
  cases e0 : c1.lstAt d1 with
  | none => rw [e0] at z1; exact z1.elim
  | some p0 =>
  rw [e0] at z1
  obtain ⟨a0, vs0, rfl, f1, f2, f3⟩ := s1.lstAt k1 e0
  refine ⟨.inl ⟨rfl, _, SqL.of f1⟩, m1, c1, s1, ?_⟩
  refine z1.bind.imp fun v H2 ⟨m2, d, c2, x2, s2, k2, z2⟩ => ?_
  cases e1 : c2.lstAt d1 with
  | none => rw [e1] at z2; exact z2.elim
  | some p =>
    obtain ⟨n, xs⟩ := p
    rw [e1] at z2
    have z2 : OutS g W m2 (match decide (xs.length < sizeLine) with
      | true => .ok .next { c2 with S := c2.S.set n (.lst (xs ++ [d])) }
      | false => .stuck) Dn := z2
    obtain ⟨a, vs, ea, h1, h2, h3⟩ := s2.lstAt (k1.mono x2) e1
    cases ea
    cases hz : decide (xs.length < sizeLine) with
    | false => rw [hz] at z2; exact z2.elim
    | true =>
      rw [hz] at z2
      exact ⟨a0, vs, v, rfl, rfl, h1, by rw [← h2.length]; exact of_decide_eq_true hz, z2.nx (h3 _ _ (h2.append (.cons k2 .nil)))⟩
theorem ss_extE (q : Good g k N X sc ws W) (ho : PE X o (tE g W fo)) (he : PE X e (tE g W fe)) (hs : isStar e = false) (hline : (apos.endLine == cpos.line) = true) (h1 : okBase o = true) :
    PS X (.Expr (.Call (.Attribute o "extend" apos) [e] [] cpos) pos) (tS g W (cExtE fo fe)) := by
  refine ps_imp (ps_expr (pe_bm PySem.F.plainAttrs_list PySem.F.slot_list_extend PySem.F.type_list_extend mt_extendT ho (pa_cons he pa_nil (star_plain hs)) (base_ok h1)
    (by rw [star_plain hs]; rfl) hline (star_plain hs) (by rfl)) (by rfl)) fun Dn σ H ⟨m, c, s, z⟩ => ?_
  refine ⟨m, c, s, z.bind.imp fun y H1 ⟨m1, d1, c1, x1, s1, k1, z1⟩ => ?_⟩
  cases e0 : c1.lstAt d1 with
  | none => rw [e0] at z1; exact z1.elim
  | some p0 =>
  rw [e0] at z1
  obtain ⟨a0, vs0, rfl, f1, f2, f3⟩ := s1.lstAt k1 e0
  refine ⟨.inl ⟨rfl, _, SqL.of f1⟩, m1, c1, s1, ?_⟩
  refine z1.bind.imp fun v H2 ⟨m2, d, c2, x2, s2, k2, z2⟩ => ?_
  cases e1 : c2.lstAt d1 with
  | none => rw [e1] at z2; exact z2.elim
  | some p =>
    obtain ⟨n, xs⟩ := p
    rw [e1] at z2
    cases k2 with
    | @tup b ds vs2 g1 g2 =>
      have z2 : OutS g W m2 (match decide (xs.length + ds.length ≤ sizeLine) with
        | true => .ok .next { c2 with S := c2.S.set n (.lst (xs ++ ds)) }
        | false => .stuck) Dn := z2
      obtain ⟨a, vs, ea, h1, h2, h3⟩ := s2.lstAt (k1.mono x2) e1
      cases ea
      cases hz : decide (xs.length + ds.length ≤ sizeLine) with
      | false => rw [hz] at z2; exact z2.elim
      | true =>
        rw [hz] at z2
        exact ⟨a0, b, vs, vs2, rfl, rfl, h1, by rw [q.hK]; exact s2.sqT g1, by rw [← h2.length, ← g2.length]; exact of_decide_eq_true hz, z2.nx (h3 _ _ (h2.append g2))⟩
    | _ => exact z2.elim
end
end CL
namespace CL
open PySem PySem.Spec PyProof.Rows L2
/-! ## a number at module level -/
section
variable {X : Cx} {g : G} {k : Nat} {N : List Str} {sc ws : Scope} {W : WX} {pos : Pos} {x : Str} {n : Int} {u : Value}
theorem sq_gint (q : Good g k N X sc ws W) (hg : isGl sc x = true) (hm : g.mg x = some u) (r : RelV (.int n) u) : PE X (.Name x pos) (tE g W (M.ret (.int n))) := by
  obtain ⟨h1, h2, _⟩ := q.gl hg
  rw [← q.hmg] at hm
  exact pe_imp (pe_glob h1 hm r h2) fun σ H Q ⟨m, c, s, o⟩ => o.here s (.int n)
end
/-! ## two classes -/
def clsTwo (C : Addr) (ns : List Str) (C1 : Addr) (ns1 : List Str) : Nat → Option (Addr × List Str)
  | 0 => some (C, ns)
  | 1 => some (C1, ns1)
  | _ => none
theorem kit_cc {K : PySem.W.Frag} {C C' : Addr} (h0 : (Value.ref C == Value.ref C') = false) (h1 : PySem.W.isClsIn K C' = true) (h2 : PySem.W.typeIn K (.ref C') = some (.type "type")) (h : PySem.W.subIn K (.ref C) (.ref C') = some false) : PySem.W.kitOne K (.ref C) (.ref C') = some false := by
  unfold PySem.W.kitOne
  rw [if_neg (by rw [h0]; exact Bool.false_ne_true)]
  unfold PySem.W.kitCls
  dsimp only
  have e : (PySem.W.clsIn K C').isSome = true := h1
  rw [e, h2]
  rw [if_pos (by decide)]
  exact h
theorem kls_one {g : G} {ci : Nat} {C : Addr} {ns : List Str} (kc : Cls g.K C) (na : ∀ f ∈ ns, NoAttr g.K C f) (o : OneK g.K C) : KlsOk g ci C ns := by
  refine ⟨kc, na, o.ha, o.hn, o.ht, o.hm, fun t h => ?_, fun t => ?_⟩
  · cases t with
    | non => exact absurd rfl h
    | bl => exact kit_ct (by decide +kernel) o.i1
    | int => exact kit_ct (by decide +kernel) o.i2
    | str => exact kit_ct (by decide +kernel) o.i3
    | tup => exact kit_ct (by decide +kernel) o.i4
    | lst => exact kit_ct (by decide +kernel) o.i5
  · cases t with
    | non => exact kit_tc o.kc o.kt o.j0
    | bl => exact kit_tc o.kc o.kt o.j1
    | int => exact kit_tc o.kc o.kt o.j2
    | str => exact kit_tc o.kc o.kt o.j3
    | tup => exact kit_tc o.kc o.kt o.j4
    | lst => exact kit_tc o.kc o.kt o.j5
theorem tab_two {g : G} {C C1 : Addr} {ns ns1 : List Str} (hg : g.cls = clsTwo C ns C1 ns1) (kc : Cls g.K C) (na : ∀ f ∈ ns, NoAttr g.K C f) (o : OneK g.K C) (kc1 : Cls g.K C1) (na1 : ∀ f ∈ ns1, NoAttr g.K C1 f) (o1 : OneK g.K C1)
    (d1 : (Value.ref C == Value.ref C1) = false) (s1 : PySem.W.subIn g.K (.ref C) (.ref C1) = some false) (d2 : (Value.ref C1 == Value.ref C) = false) (s2 : PySem.W.subIn g.K (.ref C1) (.ref C) = some false) : TabK g := by
  refine ⟨fun ci C' ns' h => ?_, fun i j C2 C3 n2 n3 h2 h3 => ?_⟩
  · rw [hg] at h
    match ci, h with
    | 0, h => cases h; exact kls_one kc na o
    | 1, h => cases h; exact kls_one kc1 na1 o1
    | _ + 2, h => cases h
  · rw [hg] at h2 h3
    match i, j, h2, h3 with
    | 0, 0, h2, h3 => cases h2; cases h3; exact kit_same
    | 0, 1, h2, h3 => cases h2; cases h3; exact kit_cc d1 o1.kc o1.kt s1
    | 1, 0, h2, h3 => cases h2; cases h3; exact kit_cc d2 o.kc o.kt s2
    | 1, 1, h2, h3 => cases h2; cases h3; exact kit_same
    | _ + 2, _, h2, _ => cases h2
    | _, _ + 2, _, h3 => cases h3
end CL
namespace CL
open PySem
/-! ## more steps of the clean side -/
section
variable {c c1 c2 : CS} {d x y : D} {fa fb fe fo fi : M D} {fl : M (List D)}
theorem setL_of {i : Nat} {xs : List D} (e : fl c = .ok xs c1) : cSetL i fl c = .ok .next (c1.put i (.own (.lst xs))) := by
  show (fl c).bind _ = _
  rw [e]
  rfl
theorem drop_of (e : fe c = .ok d c1) : cDrop fe c = .ok .next c1 := by
  show (fe c).bind _ = _
  rw [e]
  rfl
theorem setTp_of {is : List Nat} {ds : List D} (e : fe c = .ok (.tup ds) c1) (h : ds.length = is.length) : cSetTp is fe c = .ok .next (putAll is ds c1) := by
  show (fe c).bind _ = _
  rw [e]
  show (match decide (ds.length = is.length) with
    | true => R.ok Fl.next (putAll is ds c1)
    | false => .stuck) = _
  rw [decide_eq_true h]
theorem setIx_of {i : Nat} {p1 p : Pl} {j : Int} {n : Nat} (e : fe c = .ok d c1) (h1 : c1.pl i = some p1) (ei : fi c1 = .ok (.int j) c2) (h2 : c2.pl i = some p) (hn : L2.ixN p.xs.length j = some n) : cSetIx i fi fe c = .ok .next (c2.wr i p (p.xs.set n d)) := by
  unfold cSetIx
  rw [e]
  show (match c1.pl i with
    | none => R.stuck
    | some _ => (fi c1).bind fun j c2 => match j, c2.pl i with
      | .int j, some p => match L2.ixN p.xs.length j with
        | some n => R.ok Fl.next (c2.wr i p (p.xs.set n d))
        | none => .stuck
      | _, _ => .stuck) = _
  rw [h1]
  dsimp only
  rw [ei]
  show (match D.int j, c2.pl i with
      | .int j, some p => (match L2.ixN p.xs.length j with
        | some n => R.ok Fl.next (c2.wr i p (p.xs.set n d))
        | none => .stuck)
      | _, _ => .stuck) = _
  rw [h2]
  dsimp only
  rw [hn]
theorem enum_of {xs : List D} (e : fe c = .ok (.tup xs) c1 ∨ fe c = .ok (.lst xs) c1) : cEnum fe c = .ok (xs.zipIdx.map fun p => D.tup [.int (p.2 : Nat), p.1]) c1 := by
  show (fe c).bind _ = _
  rcases e with e | e <;> rw [e] <;> rfl
theorem fld_of {ci i : Nat} {f : Str} {r : D} (e : fo c = .ok d c1) (h : c1.fld ci i f d = some r) : cFld ci i f fo c = .ok r c1 := by
  show (fo c).bind _ = _
  rw [e]
  show (match c1.fld ci i f d with
    | some r => R.ok r c1
    | none => .stuck) = _
  rw [h]
theorem prop_of {ci : Nat} {f : Str} {fn : Fn} (e : fo c = .ok d c1) (h : c1.has ci f d = true) : cProp ci f fn fo c = noExc (liftF (fn [d] c1.S) c1) := by
  show (fo c).bind _ = _
  rw [e]
  show (match c1.has ci f d with
    | true => noExc (liftF (fn [d] c1.S) c1)
    | false => .stuck) = _
  rw [h]
theorem methS_of {ci : Nat} {mn : Str} {fn : Fn} {ds : List D} (e : fo c = .ok d c1) (h : c1.has ci mn d = true) (ea : fl c1 = .ok ds c2) : cMeth ci mn fn fo fl c = liftF (fn (d :: ds) c2.S) c2 := by
  show (fo c).bind _ = _
  rw [e]
  show (match c1.has ci mn d with
    | true => (fl c1).bind fun ds c' => liftF (fn (d :: ds) c'.S) c'
    | false => .stuck) = _
  rw [h]
  dsimp only
  rw [ea]
  rfl
theorem lstAt_of {n : Nat} {xs : List D} (h : c.S[n]? = some (.lst xs)) : c.lstAt (.ref n) = some (n, xs) := by
  show (match c.S[n]? with
    | some (.lst xs) => some (n, xs)
    | _ => none) = _
  rw [h]
theorem appE_of {n : Nat} {xs xs1 : List D} (e : fo c = .ok (.ref n) c1) (h1 : c1.S[n]? = some (.lst xs1)) (ee : fe c1 = .ok d c2) (h : c2.S[n]? = some (.lst xs)) (hl : xs.length < sizeLine) : cAppE fo fe c = .ok .next { c2 with S := c2.S.set n (.lst (xs ++ [d])) } := by
  show (fo c).bind _ = _
  rw [e]
  show (match c1.lstAt (.ref n) with
    | none => R.stuck
    | some _ => (fe c1).bind fun d c => match c.lstAt (.ref n) with
      | some (n, xs) => match decide (xs.length < sizeLine) with
        | true => R.ok Fl.next { c with S := c.S.set n (.lst (xs ++ [d])) }
        | false => .stuck
      | none => .stuck) = _
  rw [lstAt_of h1]
  dsimp only
  rw [ee]
  show (match c2.lstAt (.ref n) with
      | some (n, xs) => match decide (xs.length < sizeLine) with
        | true => R.ok Fl.next { c2 with S := c2.S.set n (.lst (xs ++ [d])) }
        | false => .stuck
      | none => .stuck) = _
  rw [lstAt_of h]
  dsimp only
  rw [decide_eq_true hl]
theorem extE_of {n : Nat} {xs xs1 ds : List D} (e : fo c = .ok (.ref n) c1) (h1 : c1.S[n]? = some (.lst xs1)) (ee : fe c1 = .ok (.tup ds) c2) (h : c2.S[n]? = some (.lst xs)) (hl : xs.length + ds.length ≤ sizeLine) : cExtE fo fe c = .ok .next { c2 with S := c2.S.set n (.lst (xs ++ ds)) } := by
  show (fo c).bind _ = _
  rw [e]
  show (match c1.lstAt (.ref n) with
    | none => R.stuck
    | some _ => (fe c1).bind fun d c => match c.lstAt (.ref n), d with
      | some (n, xs), .tup ds => match decide (xs.length + ds.length ≤ sizeLine) with
        | true => R.ok Fl.next { c with S := c.S.set n (.lst (xs ++ ds)) }
        | false => .stuck
      | _, _ => .stuck) = _
  rw [lstAt_of h1]
  dsimp only
  rw [ee]
  show (match c2.lstAt (.ref n), D.tup ds with
      | some (n, xs), .tup ds => match decide (xs.length + ds.length ≤ sizeLine) with
        | true => R.ok Fl.next { c2 with S := c2.S.set n (.lst (xs ++ ds)) }
        | false => .stuck
      | _, _ => .stuck) = _
  rw [lstAt_of h]
  dsimp only
  rw [decide_eq_true hl]
theorem setF_of {ci i : Nat} {f : Str} {p : Pi} (e : fe c = .ok d c1) (h : c1.pi ci i = some p) (hl : p.fs.length < 1000) : cSetF ci i f fe c = .ok .next (c1.wi ci i p (putD f d p.fs)) := by
  show (fe c).bind _ = _
  rw [e]
  show (match c1.pi ci i with
    | some p => match decide (p.fs.length < 1000) with
      | true => R.ok Fl.next (c1.wi ci i p (putD f d p.fs))
      | false => .stuck
    | none => .stuck) = _
  rw [h]
  dsimp only
  rw [decide_eq_true hl]
end
end CL
namespace CL
open PySem
/-! ## comprehensions whose steps leave the state as it is -/
section
variable {t : Tg} {ft : M Bool} {fe : M D} {vs : List Nat}
theorem size_small {n : Nat} (h : n ≤ 1000) : n < sizeLine := Nat.lt_of_lt_of_le (by omega : n < 1001) (by decide)
theorem lcL_fm (p : D → Bool) (f : D → D) (c : CS) (ds : List D) : (∀ d ∈ ds, ∃ c0 c1, cTg t d c = .ok .next c0 ∧ ft c0 = .ok (p d) c1 ∧ (p d = true → ∃ c2, fe c1 = .ok (f d) c2 ∧ wipeC vs c2 = c) ∧ (p d = false → wipeC vs c1 = c)) →
    ∀ acc : List D, acc.length + ds.length ≤ 1000 → lcL t ft fe vs ds acc c = .ok (acc ++ (ds.filter p).map f) c := by
  induction ds with
  | nil => intro _ acc _; rw [lcL]; simp; rfl
  | cons d ds ih =>
    intro h acc hl
    obtain ⟨c0, c1, e0, e1, e2, e3⟩ := h d List.mem_cons_self
    rw [List.length_cons] at hl
    rw [lcL]
    dsimp only
    rw [e0]
    dsimp only
    rw [e1]
    cases q : p d with
    | true =>
      obtain ⟨c2, e4, e5⟩ := e2 q
      dsimp only
      rw [e4]
      dsimp only
      rw [decide_eq_true (size_small (by omega : acc.length ≤ 1000))]
      show lcL t ft fe vs ds (acc ++ [f d]) (wipeC vs c2) = _
      rw [e5, ih (fun d hd => h d (List.mem_cons_of_mem _ hd)) (acc ++ [f d]) (by rw [List.length_append]; simp; omega), List.filter_cons_of_pos q, List.map_cons, List.append_assoc]
      rfl
    | false =>
      dsimp only
      rw [e3 q, ih (fun d hd => h d (List.mem_cons_of_mem _ hd)) acc (by omega), List.filter_cons_of_neg (by rw [q]; exact Bool.false_ne_true)]
theorem lcL_map (f : D → D) (c : CS) (ds : List D) (h : ∀ d ∈ ds, ∃ c0 c1, cTg t d c = .ok .next c0 ∧ fe c0 = .ok (f d) c1 ∧ wipeC vs c1 = c) (acc : List D) (hl : acc.length + ds.length ≤ 1000) : lcL t (M.ret true) fe vs ds acc c = .ok (acc ++ ds.map f) c := by
  refine (lcL_fm (ft := M.ret true) (fun _ => true) f c ds (fun d hd => ?_) acc hl).trans ?_
  · obtain ⟨c0, c1, e0, e1, e2⟩ := h d hd
    exact ⟨c0, c0, e0, rfl, fun _ => ⟨c1, e1, e2⟩, fun z => nomatch z⟩
  · rw [List.filter_eq_self.mpr fun _ _ => rfl]
theorem lcLG_fm {pc : CS → Bool} (p : D → Bool) (f : D → D) (c : CS) (hpc : pc c = true) (ds : List D) : (∀ d ∈ ds, ∃ c0 c1, cTg t d c = .ok .next c0 ∧ ft c0 = .ok (p d) c1 ∧ (p d = true → ∃ c2, fe c1 = .ok (f d) c2 ∧ wipeC vs c2 = c) ∧ (p d = false → wipeC vs c1 = c)) →
    ∀ acc : List D, acc.length + ds.length ≤ 1000 → lcLG pc t ft fe vs ds acc c = .ok (acc ++ (ds.filter p).map f) c := by
  induction ds with
  | nil =>
    intro _ acc _
    unfold lcLG
    rw [hpc]
    simp
  | cons d ds ih =>
    intro h acc hl
    obtain ⟨c0, c1, e0, e1, e2, e3⟩ := h d List.mem_cons_self
    rw [List.length_cons] at hl
    rw [lcLG]
    dsimp only
    rw [hpc]
    dsimp only
    rw [e0]
    dsimp only
    rw [e1]
    cases q : p d with
    | true =>
      obtain ⟨c2, e4, e5⟩ := e2 q
      dsimp only
      rw [e4]
      dsimp only
      rw [decide_eq_true (size_small (by omega : acc.length ≤ 1000))]
      show lcLG pc t ft fe vs ds (acc ++ [f d]) (wipeC vs c2) = _
      rw [e5, ih (fun d hd => h d (List.mem_cons_of_mem _ hd)) (acc ++ [f d]) (by rw [List.length_append]; simp; omega), List.filter_cons_of_pos q, List.map_cons, List.append_assoc]
      rfl
    | false =>
      dsimp only
      rw [e3 q, ih (fun d hd => h d (List.mem_cons_of_mem _ hd)) acc (by omega), List.filter_cons_of_neg (by rw [q]; exact Bool.false_ne_true)]
end
theorem walkG_of {fe : M D} {c c1 : CS} {n : Nat} {l : List D} (e : fe c = .ok (.ref n) c1) (h : c1.S[n]? = some (.lst l)) : cWalkG fe c = .ok (l, isAt (.ref n) l) c1 := by
  unfold cWalkG M.bind
  rw [e]
  show dWalkG (.ref n) c1 = _
  unfold dWalkG
  have s : c1.seqL (.ref n) = some l := by
    show (match c1.S[n]? with
      | some (.lst xs) => some xs
      | _ => none) = _
    rw [h]
  rw [s]
theorem isAt_S {n : Nat} {l : List D} {c : CS} (h : c.S[n]? = some (.lst l)) : isAt (.ref n) l c = true := isAt_iff.mpr (by
  show (match c.S[n]? with
    | some (.lst xs) => some xs
    | _ => none) = _
  rw [h])
theorem lcG_of {fi : M (List D × (CS → Bool))} {tg : Tg} {ft : M Bool} {fe : M D} {vs : List Nat} {ds ys : List D} {pc : CS → Bool} {c c1 c2 : CS} (ei : fi c = .ok (ds, pc) c1) (e : lcLG pc tg ft fe vs ds [] (wipeC vs c1) = .ok ys c2) : cLcG fi tg ft fe vs c = .ok ys c2 := by
  unfold cLcG
  rw [ei]
  exact e
end CL
namespace CL
open PySem
/-! ## plain data equals itself -/
def pdOk : Nat → D → Prop
  | _, .non => True
  | _, .bl _ => True
  | _, .int _ => True
  | n + 1, .tup xs => ∀ x ∈ xs, pdOk n x
  | n + 1, .lst xs => ∀ x ∈ xs, pdOk n x
  | _, _ => False
abbrev PdG (n : Nat) (d : D) : Prop := ∃ p, toP d = some p ∧ p.canLay0 = true ∧ p.depth ≤ n + 1 ∧ PyData.eqv p p = true
theorem pd_list (n : Nat) (xs : List D) (h : ∀ x ∈ xs, PdG n x) : ∃ ps, toPs xs = some ps ∧ PyData.canLayAll0 ps = true ∧ PyData.depthAll ps ≤ n + 1 ∧ PyData.eqvAll ps ps = true := by
  induction xs with
  | nil => exact ⟨[], by rw [toPs], by simp [PyData.canLayAll0], by simp [PyData.depthAll], by simp [PyData.eqvAll]⟩
  | cons x xs ih =>
    obtain ⟨ps, e1, e2, e3, e4⟩ := ih fun y hy => h y (List.mem_cons_of_mem _ hy)
    obtain ⟨p, f1, f2, f3, f4⟩ := h x List.mem_cons_self
    refine ⟨p :: ps, ?_, ?_, ?_, ?_⟩
    · rw [toPs, f1, e1]
    · simp [PyData.canLayAll0, f2, e2]
    · simp [PyData.depthAll]; omega
    · simp [PyData.eqvAll, f4, e4]
theorem pd_of (n : Nat) : ∀ d : D, pdOk n d → PdG n d := by
  have base : ∀ n : Nat, PdG n .non ∧ (∀ b, PdG n (.bl b)) ∧ ∀ i, PdG n (.int i) := fun n =>
    ⟨⟨.none, rfl, by simp [PyData.canLay0], by simp [PyData.depth], by simp [PyData.eqv]⟩, fun b => ⟨.bool b, rfl, by simp [PyData.canLay0], by simp [PyData.depth], by simp [PyData.eqv]⟩, fun i => ⟨.int i, rfl, by simp [PyData.canLay0], by simp [PyData.depth], by simp [PyData.eqv]⟩⟩
  induction n with
  | zero =>
    intro d h
    cases d with
    | non => exact (base 0).1
    | bl b => exact (base 0).2.1 b
    | int i => exact (base 0).2.2 i
    | _ => exact h.elim
  | succ n ih =>
    intro d h
    cases d with
    | non => exact (base _).1
    | bl b => exact (base _).2.1 b
    | int i => exact (base _).2.2 i
    | tup xs =>
      obtain ⟨ps, e1, e2, e3, e4⟩ := pd_list n xs fun x hx => ih x (h x hx)
      exact ⟨.tuple ps, by rw [toP, e1]; rfl, by simp [PyData.canLay0, e2], by simp [PyData.depth]; omega, by simp [PyData.eqv, e4]⟩
    | lst xs =>
      obtain ⟨ps, e1, e2, e3, e4⟩ := pd_list n xs fun x hx => ih x (h x hx)
      exact ⟨.list ps, by rw [toP, e1]; rfl, by simp [PyData.canLay0, e2], by simp [PyData.depth]; omega, by simp [PyData.eqv, e4]⟩
    | _ => exact h.elim
theorem dEq_self {n : Nat} {d : D} (hn : n ≤ 60) (h : pdOk n d) (c : CS) : dEq d d c = .ok (.bl true) c := by
  obtain ⟨p, e1, e2, e3, e4⟩ := pd_of n d h
  have s : SeqAt.shaped p = true := by
    unfold SeqAt.shaped
    rw [e2, decide_eq_true (by omega)]
    rfl
  show (match toP d, toP d with
    | some p, some q => M.guard (SeqAt.shaped p && SeqAt.shaped q) (M.ret (D.bl (PyData.eqv p q)))
    | _, _ => fun _ => .stuck : M D) c = _
  rw [e1]
  dsimp only
  rw [s, e4]
  rfl
theorem dNe_self {n : Nat} {d : D} (hn : n ≤ 60) (h : pdOk n d) (c : CS) : dNe d d c = .ok (.bl false) c := by
  obtain ⟨p, e1, e2, e3, e4⟩ := pd_of n d h
  have s : SeqAt.shaped p = true := by
    unfold SeqAt.shaped
    rw [e2, decide_eq_true (by omega)]
    rfl
  show (match toP d, toP d with
    | some p, some q => M.guard (SeqAt.shaped p && SeqAt.shaped q) (M.ret (D.bl (!PyData.eqv p q)))
    | _, _ => fun _ => .stuck : M D) c = _
  rw [e1]
  dsimp only
  rw [s, e4]
  rfl
end CL
namespace CL
open PySem PySem.Spec PyProof.Rows L2
/-! ## int(a number or a truth) -/
def bInt : List D → M D
  | [.int i] => M.ret (.int i)
  | [.bl b] => M.ret (.int (if b then 1 else 0))
  | _ => fun _ => .stuck
theorem sc_int {g : G} : SCE g (fun xs H Q => (∃ i, xs = [.int i] ∧ Q (.int i) H) ∨ ∃ k, xs = [.bl k] ∧ Q (.int (if k then 1 else 0)) H) bInt := by
  intro W m c σ H ds vs Q s hv o
  cases hv with
  | nil => exact o.elim
  | @cons d v ds vs k r =>
    cases r with
    | cons _ _ => cases k <;> exact o.elim
    | nil =>
      cases k with
      | int i => exact .inl ⟨i, rfl, o.here s (.int i)⟩
      | bl b => exact .inr ⟨b, rfl, o.here s (.int _)⟩
      | _ => exact o.elim
section
variable {X : Cx} {g : G} {k : Nat} {N : List Str} {sc ws : Scope} {W : WX} {p pos : Pos} {e : Expr} {es : List Expr} {fa : M (List D)}
theorem sq_int (q : Good g k N X sc ws W) (hg : isGl sc "int" = true) (hm : g.mg "int" = none) (ha : PA X (e :: es) (tA g W fa)) (hp : plainArgs (e :: es) = true) : PE X (.Call (.Name "int" p) (e :: es) [] pos) (tE g W (fa.bind bInt)) :=
  sx_callTy call_int1 sc_int (q.gl hg).1 (by rw [q.hmg]; exact hm) (by rfl) ha (q.gl hg).2.2 (q.gl hg).2.1 hp
end
end CL
namespace K35
open PySem PySem.Spec PyProof.Rows L2 CL
def topS (i : Nat) : Stmt := PySem.Challenge.pw_shelfdoors_k35_whole_entries_that_are_no.main.body.getD i (.Pass ⟨0, 0, 0, 0⟩)
def clsB : Stmt → List Stmt
  | .ClassDef (body := b) .. => b
  | _ => []
def inS (i j : Nat) : Stmt := (clsB (topS i)).getD j (.Pass ⟨0, 0, 0, 0⟩)
structure Ad where
  a_is_between : Addr
  a_is_item_or_anonymous : Addr
  gt_ANONYMOUS : Tok
  gt_MAX_ITEM : Tok
  a_check_rows : Addr
  mc_Chain : Value
  u_Chain_MAX_CAPACITY : Value
  u_Chain_MAX_LEVELS : Value
  u_Chain_MAX_SEGMENTS : Value
  a_Chain__init : Addr
  a_Chain_segments : Addr
  p_Chain_segments : Addr
  a_Chain_entries : Addr
  p_Chain_entries : Addr
  a_Chain__getitem : Addr
  a_Chain_without_entry : Addr
  a_empty_contents : Addr
  a_check_request : Addr
  a_inserted : Addr
  a_after_request : Addr
  a_Run__init : Addr
  a_Run_contents : Addr
  p_Run_contents : Addr
  a_Run_rows_of : Addr
  a_Run_make_step : Addr
  a_Run_request_all : Addr
  a_law_tape : Addr
  a_law_pick : Addr
  a_law_of : Addr
  a_law_same : Addr
  a_law_made : Addr
  a_law_row : Addr
  a_law_rows : Addr
  a_law_asks : Addr
  a_law : Addr
  C_Chain : Addr
  C_Run : Addr
structure Tx (g : G) (A : Ad) : Prop where
  f_is_between : ∃ fd, L2.Fun g.K "is_between" "is_between" (topS 10) A.a_is_between fd ∧ Binds g.K fd (["value", "low", "high"] : List Str) []
  m_is_between : g.mg "is_between" = some (.ref A.a_is_between)
  kp_is_between : PySem.W.keepIn g.K (.ref A.a_is_between) = true
  n_bool : g.mg "bool" = none
  n_int : g.mg "int" = none
  n_isinstance : g.mg "isinstance" = none
  f_is_item_or_anonymous : ∃ fd, L2.Fun g.K "is_item_or_anonymous" "is_item_or_anonymous" (topS 11) A.a_is_item_or_anonymous fd ∧ Binds g.K fd (["value"] : List Str) []
  m_is_item_or_anonymous : g.mg "is_item_or_anonymous" = some (.ref A.a_is_item_or_anonymous)
  kp_is_item_or_anonymous : PySem.W.keepIn g.K (.ref A.a_is_item_or_anonymous) = true
  gm_ANONYMOUS : g.mg "ANONYMOUS" = some (.int (-1) A.gt_ANONYMOUS)
  gm_MAX_ITEM : g.mg "MAX_ITEM" = some (.int (9999) A.gt_MAX_ITEM)
  f_check_rows : ∃ fd, L2.Fun g.K "_check_rows" "_check_rows" (topS 14) A.a_check_rows fd ∧ Binds g.K fd (["rows"] : List Str) []
  m_check_rows : g.mg "_check_rows" = some (.ref A.a_check_rows)
  kp_check_rows : PySem.W.keepIn g.K (.ref A.a_check_rows) = true
  cr_Chain : ClX.CRead g.K A.C_Chain A.mc_Chain
  cv_Chain_MAX_CAPACITY : ClX.CVal g.K A.C_Chain A.mc_Chain "MAX_CAPACITY" (.int 12) A.u_Chain_MAX_CAPACITY
  cv_Chain_MAX_LEVELS : ClX.CVal g.K A.C_Chain A.mc_Chain "MAX_LEVELS" (.int 12) A.u_Chain_MAX_LEVELS
  cv_Chain_MAX_SEGMENTS : ClX.CVal g.K A.C_Chain A.mc_Chain "MAX_SEGMENTS" (.int 4) A.u_Chain_MAX_SEGMENTS
  n_all : g.mg "all" = none
  n_enumerate : g.mg "enumerate" = none
  n_len : g.mg "len" = none
  f_Chain__init : ∃ fd, L2.Fun g.K "__init__" "Chain.__init__" (inS 13 3) A.a_Chain__init fd
  mk_Chain : Mk g.K A.C_Chain A.a_Chain__init
  n_tuple : g.mg "tuple" = none
  na_Chain_rows : NoAttr g.K A.C_Chain "_rows"
  f_Chain_segments : ∃ fd, L2.Fun g.K "segments" "Chain.segments" (inS 13 6) A.a_Chain_segments fd ∧ Binds g.K fd (["self"] : List Str) []
  pr_Chain_segments : PropOf g.K A.C_Chain "segments" A.p_Chain_segments A.a_Chain_segments
  f_Chain_entries : ∃ fd, L2.Fun g.K "entries" "Chain.entries" (inS 13 7) A.a_Chain_entries fd ∧ Binds g.K fd (["self"] : List Str) []
  pr_Chain_entries : PropOf g.K A.C_Chain "entries" A.p_Chain_entries A.a_Chain_entries
  f_Chain__getitem : ∃ fd, L2.Fun g.K "__getitem__" "Chain.__getitem__" (inS 13 12) A.a_Chain__getitem fd ∧ Binds g.K fd (["self", "at"] : List Str) []
  sp_Chain__getitem : Spc g.K A.C_Chain "__getitem__" A.a_Chain__getitem
  f_Chain_without_entry : ∃ fd, L2.Fun g.K "without_entry" "Chain.without_entry" (inS 13 19) A.a_Chain_without_entry fd ∧ Binds g.K fd (["self", "entry"] : List Str) []
  me_Chain_without_entry : Meth g.K A.C_Chain "without_entry" A.a_Chain_without_entry
  f_empty_contents : ∃ fd, L2.Fun g.K "empty_contents" "empty_contents" (topS 19) A.a_empty_contents fd ∧ Binds g.K fd (["chain"] : List Str) []
  m_empty_contents : g.mg "empty_contents" = some (.ref A.a_empty_contents)
  kp_empty_contents : PySem.W.keepIn g.K (.ref A.a_empty_contents) = true
  f_check_request : ∃ fd, L2.Fun g.K "check_request" "check_request" (topS 20) A.a_check_request fd ∧ Binds g.K fd (["chain", "entry", "item"] : List Str) []
  m_check_request : g.mg "check_request" = some (.ref A.a_check_request)
  kp_check_request : PySem.W.keepIn g.K (.ref A.a_check_request) = true
  f_inserted : ∃ fd, L2.Fun g.K "_inserted" "_inserted" (topS 22) A.a_inserted fd ∧ Binds g.K fd (["held", "item", "capacity"] : List Str) []
  m_inserted : g.mg "_inserted" = some (.ref A.a_inserted)
  kp_inserted : PySem.W.keepIn g.K (.ref A.a_inserted) = true
  f_after_request : ∃ fd, L2.Fun g.K "after_request" "after_request" (topS 21) A.a_after_request fd ∧ Binds g.K fd (["chain", "contents", "entry", "item"] : List Str) []
  m_after_request : g.mg "after_request" = some (.ref A.a_after_request)
  kp_after_request : PySem.W.keepIn g.K (.ref A.a_after_request) = true
  fi_Chain__getitem : PySem.W.fnIn g.K A.a_Chain__getitem = true
  n_list : g.mg "list" = none
  n_range : g.mg "range" = none
  f_Run__init : ∃ fd, L2.Fun g.K "__init__" "Run.__init__" (inS 24 0) A.a_Run__init fd ∧ Binds g.K fd (["self", "chain"] : List Str) []
  mk_Run : Mk g.K A.C_Run A.a_Run__init
  na_Run_chain : NoAttr g.K A.C_Run "_chain"
  na_Run_contents : NoAttr g.K A.C_Run "_contents"
  na_Run_done : NoAttr g.K A.C_Run "_done"
  na_Run_log : NoAttr g.K A.C_Run "_log"
  na_Run_undone : NoAttr g.K A.C_Run "_undone"
  f_Run_contents : ∃ fd, L2.Fun g.K "contents" "Run.contents" (inS 24 3) A.a_Run_contents fd ∧ Binds g.K fd (["self"] : List Str) []
  pr_Run_contents : PropOf g.K A.C_Run "contents" A.p_Run_contents A.a_Run_contents
  f_Run_rows_of : ∃ fd, L2.Fun g.K "_rows_of" "Run._rows_of" (inS 24 20) A.a_Run_rows_of fd ∧ Binds g.K fd (["self", "requests"] : List Str) []
  me_Run_rows_of : Meth g.K A.C_Run "_rows_of" A.a_Run_rows_of
  f_Run_make_step : ∃ fd, L2.Fun g.K "_make_step" "Run._make_step" (inS 24 21) A.a_Run_make_step fd ∧ Binds g.K fd (["self", "chain", "contents", "rows"] : List Str) []
  me_Run_make_step : Meth g.K A.C_Run "_make_step" A.a_Run_make_step
  f_Run_request_all : ∃ fd, L2.Fun g.K "request_all" "Run.request_all" (inS 24 10) A.a_Run_request_all fd ∧ Binds g.K fd (["self", "requests"] : List Str) []
  me_Run_request_all : Meth g.K A.C_Run "request_all" A.a_Run_request_all
  f_law_tape : ∃ fd, L2.Fun g.K "_law_tape" "_law_tape" (topS 26) A.a_law_tape fd ∧ Binds g.K fd (["_law_script"] : List Str) []
  m_law_tape : g.mg "_law_tape" = some (.ref A.a_law_tape)
  kp_law_tape : PySem.W.keepIn g.K (.ref A.a_law_tape) = true
  f_law_pick : ∃ fd, L2.Fun g.K "_law_pick" "_law_pick" (topS 27) A.a_law_pick fd ∧ Binds g.K fd (["_law_tape_here", "_law_many"] : List Str) []
  m_law_pick : g.mg "_law_pick" = some (.ref A.a_law_pick)
  kp_law_pick : PySem.W.keepIn g.K (.ref A.a_law_pick) = true
  f_law_of : ∃ fd, L2.Fun g.K "_law_of" "_law_of" (topS 28) A.a_law_of fd ∧ Binds g.K fd (["_law_tape_here", "_law_some"] : List Str) []
  m_law_of : g.mg "_law_of" = some (.ref A.a_law_of)
  kp_law_of : PySem.W.keepIn g.K (.ref A.a_law_of) = true
  f_law_same : ∃ fd, L2.Fun g.K "_law_same" "_law_same" (topS 29) A.a_law_same fd ∧ Binds g.K fd (["_law_found", "_law_due"] : List Str) []
  m_law_same : g.mg "_law_same" = some (.ref A.a_law_same)
  kp_law_same : PySem.W.keepIn g.K (.ref A.a_law_same) = true
  n_str : g.mg "str" = none
  n_zip : g.mg "zip" = none
  f_law_made : ∃ fd, L2.Fun g.K "_law_made" "_law_made" (topS 30) A.a_law_made fd ∧ Binds g.K fd (["_law_rows_here"] : List Str) []
  m_law_made : g.mg "_law_made" = some (.ref A.a_law_made)
  kp_law_made : PySem.W.keepIn g.K (.ref A.a_law_made) = true
  f_law_row : ∃ fd, L2.Fun g.K "_law_row" "_law_row" (topS 31) A.a_law_row fd ∧ Binds g.K fd (["_law_tape_here", "_law_levels", "_law_top"] : List Str) []
  m_law_row : g.mg "_law_row" = some (.ref A.a_law_row)
  kp_law_row : PySem.W.keepIn g.K (.ref A.a_law_row) = true
  n_sorted : g.mg "sorted" = none
  f_law_rows : ∃ fd, L2.Fun g.K "_law_rows" "_law_rows" (topS 32) A.a_law_rows fd ∧ Binds g.K fd (["_law_tape_here", "_law_segments", "_law_levels", "_law_top"] : List Str) []
  m_law_rows : g.mg "_law_rows" = some (.ref A.a_law_rows)
  kp_law_rows : PySem.W.keepIn g.K (.ref A.a_law_rows) = true
  f_law_asks : ∃ fd, L2.Fun g.K "_law_asks" "_law_asks" (topS 33) A.a_law_asks fd ∧ Binds g.K fd (["_law_tape_here", "_law_entries", "_law_count", "_law_top"] : List Str) []
  m_law_asks : g.mg "_law_asks" = some (.ref A.a_law_asks)
  kp_law_asks : PySem.W.keepIn g.K (.ref A.a_law_asks) = true
  f_law : ∃ fd, L2.Fun g.K "law" "law" (topS 34) A.a_law fd ∧ Binds g.K fd (["_law_script"] : List Str) []
  m_law : g.mg "law" = some (.ref A.a_law)
  kp_law : PySem.W.keepIn g.K (.ref A.a_law) = true
  c_Chain : g.cls 0 = some (A.C_Chain, (["_rows"] : List Str))
  mC_Chain : g.mg "Chain" = some (.ref A.C_Chain)
  kl_Chain : Cls g.K A.C_Chain
  c_Run : g.cls 1 = some (A.C_Run, (["_chain", "_contents", "_log", "_done", "_undone"] : List Str))
  mC_Run : g.mg "Run" = some (.ref A.C_Run)
  kl_Run : Cls g.K A.C_Run
  tab : TabK g
noncomputable section
/-! ### is_between -/
theorem sc_is_between : FnScope (["value", "low", "high"] : List Str) (["value", "low", "high"] : List Str) (defScope (topS 10)) := ⟨rfl, rfl, rfl, by decide +kernel, rfl, by decide +kernel, by decide +kernel⟩
def cl_is_between : M Fl := (cSeq (cRet (cAnd (cIsi (.ty .int) (cVar 0)) (cAnd (cNot (cIsi (.ty .bl) (cVar 0))) (cChain dLe dLe (cVar 1) (cVar 0) (cVar 2)))))
  cNext)
def fn_is_between : Fn := fnB 3 3 cl_is_between
theorem ok_is_between {g : G} {A : Ad} (T : Tx g A) : FnC g 1 A.a_is_between fn_is_between := by
  obtain ⟨fd, F, B⟩ := T.f_is_between
  exact fn_c F sc_is_between B fun X W q => (ss_cons (ss_ret (se_and (sx_isi T.tab q rfl T.n_isinstance (sq_var q (i := 0) rfl rfl rfl) (pcl_ty q rfl T.n_int rfl (by decide)) rfl rfl) (se_and (se_not (sx_isi T.tab q rfl T.n_isinstance (sq_var q (i := 0) rfl rfl rfl) (pcl_ty q rfl T.n_bool rfl (by decide)) rfl rfl)) (se_one (sx_chain op_le op_le s2_le s2_le (sq_var q (i := 1) rfl rfl rfl) (sq_var q (i := 0) rfl rfl rfl) (sq_var q (i := 2) rfl rfl rfl) rfl)))))
  ss_nil)
/-! ### is_item_or_anonymous -/
theorem sc_is_item_or_anonymous : FnScope (["value"] : List Str) (["value"] : List Str) (defScope (topS 11)) := ⟨rfl, rfl, rfl, by decide +kernel, rfl, by decide +kernel, by decide +kernel⟩
def cl_is_item_or_anonymous : M Fl := (cSeq (cRet (cCall fn_is_between (cCons (cVar 0) (cCons (M.ret (.int (-1))) (cCons (M.ret (.int (9999))) (M.ret []))))))
  cNext)
def fn_is_item_or_anonymous : Fn := fnB 1 1 cl_is_item_or_anonymous
theorem ok_is_item_or_anonymous {g : G} {A : Ad} (T : Tx g A) : FnC g 2 A.a_is_item_or_anonymous fn_is_item_or_anonymous := by
  obtain ⟨fd, F, B⟩ := T.f_is_item_or_anonymous
  exact fn_c F sc_is_item_or_anonymous B fun X W q => (ss_cons (ss_ret (sx_call q (ok_is_between T) (by omega) rfl T.m_is_between T.kp_is_between (sa_cons (sq_var q (i := 0) rfl rfl rfl) (sa_cons (sq_gint q rfl T.gm_ANONYMOUS ⟨_, rfl⟩) (sa_cons (sq_gint q rfl T.gm_MAX_ITEM ⟨_, rfl⟩) sa_nil rfl) rfl) rfl) rfl))
  ss_nil)
/-! ### _check_rows -/
theorem sc_check_rows : FnScope (["rows", "segment", "row", "capacity"] : List Str) (["rows"] : List Str) (defScope (topS 14)) := ⟨rfl, rfl, rfl, by decide +kernel, rfl, by decide +kernel, by decide +kernel⟩
def cl_check_rows : M Fl := (cSeq (cIfS (cNotT (asB (cChain dLe dLe (M.ret (.int 1)) ((cCons (cVar 0) (M.ret [])).bind bLen) (M.ret (.int 4))))) (cSeq cNever
  cNext) cNext)
  (cSeq (cFor (cEnum (cVar 0)) (.tp [1, 2]) (cSeq (cIfS (asB (cOp dGt ((cCons (cVar 2) (M.ret [])).bind bLen) (M.ret (.int 12)))) (cSeq cNever
  cNext) cNext)
  (cSeq (cIfS (cNotT (cTru ((cCons (froz (cLc (cWalk (cVar 2)) (.nm 3) (M.ret true) (cCall fn_is_between (cCons (cVar 3) (cCons (M.ret (.int 1)) (cCons (M.ret (.int 12)) (M.ret []))))) [3])) (M.ret [])).bind bAll))) (cSeq cNever
  cNext) cNext)
  cNext)))
  cNext))
def fn_check_rows : Fn := fnB 4 1 cl_check_rows
theorem ok_check_rows {g : G} {A : Ad} (T : Tx g A) : FnC g 2 A.a_check_rows fn_check_rows := by
  obtain ⟨fd, F, B⟩ := T.f_check_rows
  exact fn_c F sc_check_rows B fun X W q => (ss_cons (ss_if (st_not (sx_chainT op_le op_le s2_le s2_le se_int (sq_len q rfl T.n_len (sa_cons (sq_var q (i := 0) rfl rfl rfl) sa_nil rfl) rfl) (sx_cval q rfl T.mC_Chain T.cr_Chain T.cv_Chain_MAX_SEGMENTS (fun _ => .int _)) rfl)) (ss_cons ss_any
  ss_nil) ss_nil)
  (ss_cons (ss_for q (sq_enum q rfl T.n_enumerate (sq_var q (i := 0) rfl rfl rfl) rfl) (tg_tup q (is := [1, 2]) rfl) (ss_cons (ss_if (sx_cmpT (mop_of op_gt s2_gt) (sq_len q rfl T.n_len (sa_cons (sq_var q (i := 2) rfl rfl rfl) sa_nil rfl) rfl) (sx_cval q rfl T.mC_Chain T.cr_Chain T.cv_Chain_MAX_LEVELS (fun _ => .int _)) (marks_ok rfl)) (ss_cons ss_any
  ss_nil) ss_nil)
  (ss_cons (ss_if (st_not (sq_tru q (sq_all q rfl T.n_all (sa_cons (se_froz (sl_lc q (sq_seq q (sq_var q (i := 2) rfl rfl rfl)) (blk_of q (own := ([("capacity", 3)] : List (Str × Nat))) rfl) ⟨fun _ _ _ _ _ => (tg_name (q.blk) (i := 3) rfl rfl), fun _ _ _ _ _ => sts_nil, fun _ _ _ _ _ => (sx_call (q.blk) (ok_is_between T) (by omega) rfl T.m_is_between T.kp_is_between (sa_cons (sq_var (q.blk) (i := 3) rfl rfl rfl) (sa_cons se_int (sa_cons (sx_cval (q.blk) rfl T.mC_Chain T.cr_Chain T.cv_Chain_MAX_CAPACITY (fun _ => .int _)) sa_nil rfl) rfl) rfl) rfl)⟩ (by decide) rfl)) sa_nil rfl) rfl) rfl)) (ss_cons ss_any
  ss_nil) ss_nil)
  ss_nil)) rfl)
  ss_nil))
/-! ### Chain.__init__ -/
theorem sc_Chain__init : FnScope (["self", "segments", "rows", "row"] : List Str) ((["self"] : List Str) ++ (["segments"] : List Str)) (defScope (inS 13 3)) := ⟨rfl, rfl, rfl, by decide +kernel, rfl, by decide +kernel, by decide +kernel⟩
def cl_Chain__init : M Fl := (cSeq (cSet 2 ((cCons (froz (cLc (cWalk (cVar 1)) (.nm 3) (M.ret true) ((cCons (cVar 3) (M.ret [])).bind bTuple) [3])) (M.ret [])).bind bTuple))
  (cSeq (cDrop (cCall fn_check_rows (cCons (cVar 2) (M.ret []))))
  (cSeq (cSetF 0 0 "_rows" (cVar 2))
  cNext)))
def fn_Chain__init : Fn := fnStar (mkB 4 1 0 (["_rows"] : List Str) cl_Chain__init)
theorem ok_Chain__init {g : G} {A : Ad} (T : Tx g A) : FnMk g 3 A.a_Chain__init 0 fn_Chain__init := by
  obtain ⟨fd, F⟩ := T.f_Chain__init
  exact fn_mkS F sc_Chain__init T.c_Chain (fun kV doc pm an cdv ct us rest hl => match us, rest, hl with | [_], [], _ => rfl | [_], _ :: _, _ => rfl) fun X W q => (ss_cons (ss_set q (i := 2) rfl rfl (sq_tuple q rfl T.n_tuple (sa_cons (se_froz (sl_lc q (sq_seq q (sq_var q (i := 1) rfl rfl rfl)) (blk_of q (own := ([("row", 3)] : List (Str × Nat))) rfl) ⟨fun _ _ _ _ _ => (tg_name (q.blk) (i := 3) rfl rfl), fun _ _ _ _ _ => sts_nil, fun _ _ _ _ _ => (sq_tuple (q.blk) rfl T.n_tuple (sa_cons (sq_var (q.blk) (i := 3) rfl rfl rfl) sa_nil rfl) rfl)⟩ (by decide) rfl)) sa_nil rfl) rfl) (swaps_no rfl))
  (ss_cons (ss_drop (sx_call q (ok_check_rows T) (by omega) rfl T.m_check_rows T.kp_check_rows (sa_cons (sq_var q (i := 2) rfl rfl rfl) sa_nil rfl) rfl) (swaps_no rfl))
  (ss_cons (ss_setF q T.c_Chain T.kl_Chain T.na_Chain_rows (i := 0) rfl rfl rfl (sq_var q (i := 2) rfl rfl rfl) (swaps_no rfl))
  ss_nil)))
/-! ### Chain.segments -/
theorem sc_Chain_segments : FnScope (["self"] : List Str) (["self"] : List Str) (defScope (inS 13 6)) := ⟨rfl, rfl, rfl, by decide +kernel, rfl, by decide +kernel, by decide +kernel⟩
def cl_Chain_segments : M Fl := (cSeq (cRet (cFld 0 0 "_rows" (cVar 0)))
  cNext)
def fn_Chain_segments : Fn := fnB 1 1 cl_Chain_segments
theorem ok_Chain_segments {g : G} {A : Ad} (T : Tx g A) : FnC g 1 A.a_Chain_segments fn_Chain_segments := by
  obtain ⟨fd, F, B⟩ := T.f_Chain_segments
  exact fn_c F sc_Chain_segments B fun X W q => (ss_cons (ss_ret (sx_fld q (i := 0) T.c_Chain (by decide) rfl T.kl_Chain T.na_Chain_rows (sq_var q (i := 0) rfl rfl rfl) rfl))
  ss_nil)
/-! ### Chain.entries -/
theorem sc_Chain_entries : FnScope (["self"] : List Str) (["self"] : List Str) (defScope (inS 13 7)) := ⟨rfl, rfl, rfl, by decide +kernel, rfl, by decide +kernel, by decide +kernel⟩
def cl_Chain_entries : M Fl := (cSeq (cRet ((cCons (cFld 0 0 "_rows" (cVar 0)) (M.ret [])).bind bLen))
  cNext)
def fn_Chain_entries : Fn := fnB 1 1 cl_Chain_entries
theorem ok_Chain_entries {g : G} {A : Ad} (T : Tx g A) : FnC g 1 A.a_Chain_entries fn_Chain_entries := by
  obtain ⟨fd, F, B⟩ := T.f_Chain_entries
  exact fn_c F sc_Chain_entries B fun X W q => (ss_cons (ss_ret (sq_len q rfl T.n_len (sa_cons (sx_fld q (i := 0) T.c_Chain (by decide) rfl T.kl_Chain T.na_Chain_rows (sq_var q (i := 0) rfl rfl rfl) rfl) sa_nil rfl) rfl))
  ss_nil)
/-! ### Chain.__getitem__ -/
theorem sc_Chain__getitem : FnScope (["self", "at"] : List Str) (["self", "at"] : List Str) (defScope (inS 13 12)) := ⟨rfl, rfl, rfl, by decide +kernel, rfl, by decide +kernel, by decide +kernel⟩
def cl_Chain__getitem : M Fl := (cSeq (cIfS (cNotT (cTru (cCall fn_is_between (cCons (cVar 1) (cCons (M.ret (.int 0)) (cCons (cOp dSub ((cCons (cFld 0 0 "_rows" (cVar 0)) (M.ret [])).bind bLen) (M.ret (.int 1))) (M.ret []))))))) (cSeq cNever
  cNext) cNext)
  (cSeq (cRet (cOp dIx (cFld 0 0 "_rows" (cVar 0)) (cVar 1)))
  cNext))
def fn_Chain__getitem : Fn := fnB 2 2 cl_Chain__getitem
theorem ok_Chain__getitem {g : G} {A : Ad} (T : Tx g A) : FnC g 2 A.a_Chain__getitem fn_Chain__getitem := by
  obtain ⟨fd, F, B⟩ := T.f_Chain__getitem
  exact fn_c F sc_Chain__getitem B fun X W q => (ss_cons (ss_if (st_not (sq_tru q (sx_call q (ok_is_between T) (by omega) rfl T.m_is_between T.kp_is_between (sa_cons (sq_var q (i := 1) rfl rfl rfl) (sa_cons se_int (sa_cons (sx_bin (mq_sub q) (sq_len q rfl T.n_len (sa_cons (sx_fld q (i := 0) T.c_Chain (by decide) rfl T.kl_Chain T.na_Chain_rows (sq_var q (i := 0) rfl rfl rfl) rfl) sa_nil rfl) rfl) se_int) sa_nil rfl) rfl) rfl) rfl) rfl)) (ss_cons ss_any
  ss_nil) ss_nil)
  (ss_cons (ss_ret (sx_sub (r := fun _ _ _ _ => True) (mq_ix q) (sx_fld q (i := 0) T.c_Chain (by decide) rfl T.kl_Chain T.na_Chain_rows (sq_var q (i := 0) rfl rfl rfl) rfl) (sq_var q (i := 1) rfl rfl rfl) rfl))
  ss_nil))
/-! ### Chain.without_entry -/
theorem sc_Chain_without_entry : FnScope (["self", "entry", "joined", "rows"] : List Str) (["self", "entry"] : List Str) (defScope (inS 13 19)) := ⟨rfl, rfl, rfl, by decide +kernel, rfl, by decide +kernel, by decide +kernel⟩
def cl_Chain_without_entry : M Fl := (cSeq (cIfS (cNotT (cTru (cCall fn_is_between (cCons (cVar 1) (cCons (M.ret (.int 1)) (cCons (cOp dSub ((cCons (cFld 0 0 "_rows" (cVar 0)) (M.ret [])).bind bLen) (M.ret (.int 1))) (M.ret []))))))) (cSeq cNever
  cNext) cNext)
  (cSeq (cSet 2 (cOp dAdd (cOp dIx (cFld 0 0 "_rows" (cVar 0)) (cOp dSub (cVar 1) (M.ret (.int 1)))) (cOp dIx (cFld 0 0 "_rows" (cVar 0)) (cVar 1))))
  (cSeq (cSet 3 (cOp dAdd (cOp dAdd (cCutT (cFld 0 0 "_rows" (cVar 0)) cNoPart (cPart (cOp dSub (cVar 1) (M.ret (.int 1))))) (cTup (cCons (cVar 2) (M.ret [])))) (cCutT (cFld 0 0 "_rows" (cVar 0)) (cPart (cOp dAdd (cVar 1) (M.ret (.int 1)))) cNoPart)))
  (cSeq (cRet (cCallS fn_Chain__init (cVar 3)))
  cNext))))
def fn_Chain_without_entry : Fn := fnB 4 2 cl_Chain_without_entry
theorem ok_Chain_without_entry {g : G} {A : Ad} (T : Tx g A) : FnC g 5 A.a_Chain_without_entry fn_Chain_without_entry := by
  obtain ⟨fd, F, B⟩ := T.f_Chain_without_entry
  exact fn_c F sc_Chain_without_entry B fun X W q => (ss_cons (ss_if (st_not (sq_tru q (sx_call q (ok_is_between T) (by omega) rfl T.m_is_between T.kp_is_between (sa_cons (sq_var q (i := 1) rfl rfl rfl) (sa_cons se_int (sa_cons (sx_bin (mq_sub q) (sq_len q rfl T.n_len (sa_cons (sx_fld q (i := 0) T.c_Chain (by decide) rfl T.kl_Chain T.na_Chain_rows (sq_var q (i := 0) rfl rfl rfl) rfl) sa_nil rfl) rfl) se_int) sa_nil rfl) rfl) rfl) rfl) rfl)) (ss_cons ss_any
  ss_nil) ss_nil)
  (ss_cons (ss_set q (i := 2) rfl rfl (sx_bin (mq_add q) (sx_sub (r := fun _ _ _ _ => True) (mq_ix q) (sx_fld q (i := 0) T.c_Chain (by decide) rfl T.kl_Chain T.na_Chain_rows (sq_var q (i := 0) rfl rfl rfl) rfl) (sx_bin (mq_sub q) (sq_var q (i := 1) rfl rfl rfl) se_int) rfl) (sx_sub (r := fun _ _ _ _ => True) (mq_ix q) (sx_fld q (i := 0) T.c_Chain (by decide) rfl T.kl_Chain T.na_Chain_rows (sq_var q (i := 0) rfl rfl rfl) rfl) (sq_var q (i := 1) rfl rfl rfl) rfl)) (swaps_no rfl))
  (ss_cons (ss_set q (i := 3) rfl rfl (sx_bin (mq_add q) (sx_bin (mq_add q) (sq_cutT q (sx_fld q (i := 0) T.c_Chain (by decide) rfl T.kl_Chain T.na_Chain_rows (sq_var q (i := 0) rfl rfl rfl) rfl) so_none (so_some (sx_bin (mq_sub q) (sq_var q (i := 1) rfl rfl rfl) se_int))) (se_tup (sa_cons (sq_var q (i := 2) rfl rfl rfl) sa_nil rfl))) (sq_cutT q (sx_fld q (i := 0) T.c_Chain (by decide) rfl T.kl_Chain T.na_Chain_rows (sq_var q (i := 0) rfl rfl rfl) rfl) (so_some (sx_bin (mq_add q) (sq_var q (i := 1) rfl rfl rfl) se_int)) so_none)) (swaps_no rfl))
  (ss_cons (ss_ret (sx_makeS q T.c_Chain T.mk_Chain (ok_Chain__init T) (by omega) rfl T.mC_Chain (sq_var q (i := 3) rfl rfl rfl)))
  ss_nil))))
/-! ### empty_contents -/
theorem sc_empty_contents : FnScope (["chain", "_", "row"] : List Str) (["chain"] : List Str) (defScope (topS 19)) := ⟨rfl, rfl, rfl, by decide +kernel, rfl, by decide +kernel, by decide +kernel⟩
def cl_empty_contents : M Fl := (cSeq (cRet ((cCons (froz (cLc (cWalk (cProp 0 "segments" fn_Chain_segments (cVar 0))) (.nm 2) (M.ret true) ((cCons (froz (cLc (cWalk (cVar 2)) (.nm 1) (M.ret true) (cTup (M.ret [])) [1])) (M.ret [])).bind bTuple) [2])) (M.ret [])).bind bTuple))
  cNext)
def fn_empty_contents : Fn := fnB 3 1 cl_empty_contents
theorem ok_empty_contents {g : G} {A : Ad} (T : Tx g A) : FnC g 3 A.a_empty_contents fn_empty_contents := by
  obtain ⟨fd, F, B⟩ := T.f_empty_contents
  exact fn_c F sc_empty_contents B fun X W q => (ss_cons (ss_ret (sq_tuple q rfl T.n_tuple (sa_cons (se_froz (sl_lc q (sq_seq q (sx_prop q T.c_Chain rfl T.kl_Chain T.pr_Chain_segments (ok_Chain_segments T) (by omega) (sq_var q (i := 0) rfl rfl rfl) rfl)) (blk_of q (own := ([("row", 2)] : List (Str × Nat))) rfl) ⟨fun _ _ _ _ _ => (tg_name (q.blk) (i := 2) rfl rfl), fun _ _ _ _ _ => sts_nil, fun _ _ _ _ _ => (sq_tuple (q.blk) rfl T.n_tuple (sa_cons (se_froz (sl_lc (q.blk) (sq_seq (q.blk) (sq_var (q.blk) (i := 2) rfl rfl rfl)) (blk_of (q.blk) (own := ([("_", 1)] : List (Str × Nat))) rfl) ⟨fun _ _ _ _ _ => (tg_name ((q.blk).blk) (i := 1) rfl rfl), fun _ _ _ _ _ => sts_nil, fun _ _ _ _ _ => (se_tup sa_nil)⟩ (by decide) rfl)) sa_nil rfl) rfl)⟩ (by decide) rfl)) sa_nil rfl) rfl))
  ss_nil)
/-! ### check_request -/
theorem sc_check_request : FnScope (["chain", "entry", "item"] : List Str) (["chain", "entry", "item"] : List Str) (defScope (topS 20)) := ⟨rfl, rfl, rfl, by decide +kernel, rfl, by decide +kernel, by decide +kernel⟩
def cl_check_request : M Fl := (cSeq (cIfS (cNotT (cTru (cCall fn_is_between (cCons (cVar 1) (cCons (M.ret (.int 0)) (cCons (cOp dSub (cProp 0 "entries" fn_Chain_entries (cVar 0)) (M.ret (.int 1))) (M.ret []))))))) (cSeq cNever
  cNext) cNext)
  (cSeq (cIfS (cNotT (cTru (cCall fn_is_item_or_anonymous (cCons (cVar 2) (M.ret []))))) (cSeq cNever
  cNext) cNext)
  cNext))
def fn_check_request : Fn := fnB 3 3 cl_check_request
theorem ok_check_request {g : G} {A : Ad} (T : Tx g A) : FnC g 3 A.a_check_request fn_check_request := by
  obtain ⟨fd, F, B⟩ := T.f_check_request
  exact fn_c F sc_check_request B fun X W q => (ss_cons (ss_if (st_not (sq_tru q (sx_call q (ok_is_between T) (by omega) rfl T.m_is_between T.kp_is_between (sa_cons (sq_var q (i := 1) rfl rfl rfl) (sa_cons se_int (sa_cons (sx_bin (mq_sub q) (sx_prop q T.c_Chain rfl T.kl_Chain T.pr_Chain_entries (ok_Chain_entries T) (by omega) (sq_var q (i := 0) rfl rfl rfl) rfl) se_int) sa_nil rfl) rfl) rfl) rfl) rfl)) (ss_cons ss_any
  ss_nil) ss_nil)
  (ss_cons (ss_if (st_not (sq_tru q (sx_call q (ok_is_item_or_anonymous T) (by omega) rfl T.m_is_item_or_anonymous T.kp_is_item_or_anonymous (sa_cons (sq_var q (i := 2) rfl rfl rfl) sa_nil rfl) rfl) rfl)) (ss_cons ss_any
  ss_nil) ss_nil)
  ss_nil))
/-! ### _inserted -/
theorem sc_inserted : FnScope (["held", "item", "capacity"] : List Str) (["held", "item", "capacity"] : List Str) (defScope (topS 22)) := ⟨rfl, rfl, rfl, by decide +kernel, rfl, by decide +kernel, by decide +kernel⟩
def cl_inserted : M Fl := (cSeq (cIfS (asB (cOp dLt ((cCons (cVar 0) (M.ret [])).bind bLen) (cVar 2))) (cSeq (cRet (cOp dAdd (cVar 0) (cTup (cCons (cVar 1) (M.ret [])))))
  cNext) cNext)
  (cSeq (cRet (cOp dAdd (cCutT (cVar 0) (cPart (M.ret (.int 1))) cNoPart) (cTup (cCons (cVar 1) (M.ret [])))))
  cNext))
def fn_inserted : Fn := fnB 3 3 cl_inserted
theorem ok_inserted {g : G} {A : Ad} (T : Tx g A) : FnC g 1 A.a_inserted fn_inserted := by
  obtain ⟨fd, F, B⟩ := T.f_inserted
  exact fn_c F sc_inserted B fun X W q => (ss_cons (ss_if (sx_cmpT (mop_of op_lt s2_lt) (sq_len q rfl T.n_len (sa_cons (sq_var q (i := 0) rfl rfl rfl) sa_nil rfl) rfl) (sq_var q (i := 2) rfl rfl rfl) (marks_ok rfl)) (ss_cons (ss_ret (sx_bin (mq_add q) (sq_var q (i := 0) rfl rfl rfl) (se_tup (sa_cons (sq_var q (i := 1) rfl rfl rfl) sa_nil rfl))))
  ss_nil) ss_nil)
  (ss_cons (ss_ret (sx_bin (mq_add q) (sq_cutT q (sq_var q (i := 0) rfl rfl rfl) (so_some se_int) so_none) (se_tup (sa_cons (sq_var q (i := 1) rfl rfl rfl) sa_nil rfl))))
  ss_nil))
/-! ### after_request -/
theorem sc_after_request : FnScope (["chain", "contents", "entry", "item", "rows", "segment", "levels", "at", "held"] : List Str) (["chain", "contents", "entry", "item"] : List Str) (defScope (topS 21)) := ⟨rfl, rfl, rfl, by decide +kernel, rfl, by decide +kernel, by decide +kernel⟩
def cl_after_request : M Fl := (cSeq (cSetL 4 ((cCons (cVar 1) (M.ret [])).bind bList))
  (cSeq (cFor (cRange2 (cVar 2) (cProp 0 "entries" fn_Chain_entries (cVar 0))) (.nm 5) (cSeq (cSetL 6 ((cCons (cOp dIx (cVar 1) (cVar 5)) (M.ret [])).bind bList))
  (cSeq (cFor (cEnum (cOp dIx (cVar 1) (cVar 5))) (.tp [7, 8]) (cSeq (cIfS (cAndT (asB (cOp dNe (cVar 3) (M.ret (.int (-1))))) (asB (cOp (dIn false) (cVar 3) (cVar 8)))) (cSeq (cSetIx 4 (cVar 5) ((cCons (cVar 6) (M.ret [])).bind bTuple))
  (cSeq (cRet (cTup (cCons ((cCons (cVar 4) (M.ret [])).bind bTuple) (cCons (cTup (cCons (cVar 5) (cCons (cVar 7) (M.ret [])))) (M.ret [])))))
  cNext)) cNext)
  (cSeq (cSetIx 6 (cVar 7) (cCall fn_inserted (cCons (cVar 8) (cCons (cVar 3) (cCons (cOp dIx (cOp (dOwn 0 "__getitem__" fn_Chain__getitem dIx) (cVar 0) (cVar 5)) (cVar 7)) (M.ret []))))))
  cNext)))
  (cSeq (cSetIx 4 (cVar 5) ((cCons (cVar 6) (M.ret [])).bind bTuple))
  cNext))))
  (cSeq (cRet (cTup (cCons ((cCons (cVar 4) (M.ret [])).bind bTuple) (cCons (M.ret .non) (M.ret [])))))
  cNext)))
def fn_after_request : Fn := fnB 9 4 cl_after_request
theorem ok_after_request {g : G} {A : Ad} (T : Tx g A) : FnC g 4 A.a_after_request fn_after_request := by
  obtain ⟨fd, F, B⟩ := T.f_after_request
  exact fn_c F sc_after_request B fun X W q => (ss_cons (ss_setL q (i := 4) rfl rfl (sq_list q rfl T.n_list (sa_cons (sq_var q (i := 1) rfl rfl rfl) sa_nil rfl) rfl) (swaps_no rfl))
  (ss_cons (ss_for q (sq_range2 q rfl T.n_range (sq_var q (i := 2) rfl rfl rfl) (sx_prop q T.c_Chain rfl T.kl_Chain T.pr_Chain_entries (ok_Chain_entries T) (by omega) (sq_var q (i := 0) rfl rfl rfl) rfl) rfl rfl) (tg_name q (i := 5) rfl rfl) (ss_cons (ss_setL q (i := 6) rfl rfl (sq_list q rfl T.n_list (sa_cons (sx_sub (r := fun _ _ _ _ => True) (mq_ix q) (sq_var q (i := 1) rfl rfl rfl) (sq_var q (i := 5) rfl rfl rfl) rfl) sa_nil rfl) rfl) (swaps_no rfl))
  (ss_cons (ss_for q (sq_enum q rfl T.n_enumerate (sx_sub (r := fun _ _ _ _ => True) (mq_ix q) (sq_var q (i := 1) rfl rfl rfl) (sq_var q (i := 5) rfl rfl rfl) rfl) rfl) (tg_tup q (is := [7, 8]) rfl) (ss_cons (ss_if (PW.pt (sw_and (sx_cmpT (mq_ne q) (sq_var q (i := 3) rfl rfl rfl) (sq_gint q rfl T.gm_ANONYMOUS ⟨_, rfl⟩) (marks_ok rfl)) (sw_and1 (sx_cmpT (mq_in q) (sq_var q (i := 3) rfl rfl rfl) (sq_var q (i := 8) rfl rfl rfl) (marks_ok rfl))))) (ss_cons (ss_setIx q (i := 4) rfl rfl rfl (sq_tuple q rfl T.n_tuple (sa_cons (sq_var q (i := 6) rfl rfl rfl) sa_nil rfl) rfl) (sq_var q (i := 5) rfl rfl rfl) rfl)
  (ss_cons (ss_ret (se_tup (sa_cons (sq_tuple q rfl T.n_tuple (sa_cons (sq_var q (i := 4) rfl rfl rfl) sa_nil rfl) rfl) (sa_cons (se_tup (sa_cons (sq_var q (i := 5) rfl rfl rfl) (sa_cons (sq_var q (i := 7) rfl rfl rfl) sa_nil rfl) rfl)) sa_nil rfl) rfl)))
  ss_nil)) ss_nil)
  (ss_cons (ss_setIx q (i := 6) rfl rfl rfl (sx_call q (ok_inserted T) (by omega) rfl T.m_inserted T.kp_inserted (sa_cons (sq_var q (i := 8) rfl rfl rfl) (sa_cons (sq_var q (i := 3) rfl rfl rfl) (sa_cons (sx_sub (r := fun _ _ _ _ => True) (mq_ix q) (sx_sub (r := fun _ _ _ _ => True) (fun vl sl hs => mop_sub q T.c_Chain rfl T.sp_Chain__getitem T.fi_Chain__getitem (ok_Chain__getitem T) (by omega) vl sl hs ((mq_ix q) vl sl hs)) (sq_var q (i := 0) rfl rfl rfl) (sq_var q (i := 5) rfl rfl rfl) rfl) (sq_var q (i := 7) rfl rfl rfl) rfl) sa_nil rfl) rfl) rfl) rfl) (sq_var q (i := 7) rfl rfl rfl) rfl)
  ss_nil)) rfl)
  (ss_cons (ss_setIx q (i := 4) rfl rfl rfl (sq_tuple q rfl T.n_tuple (sa_cons (sq_var q (i := 6) rfl rfl rfl) sa_nil rfl) rfl) (sq_var q (i := 5) rfl rfl rfl) rfl)
  ss_nil))) rfl)
  (ss_cons (ss_ret (se_tup (sa_cons (sq_tuple q rfl T.n_tuple (sa_cons (sq_var q (i := 4) rfl rfl rfl) sa_nil rfl) rfl) (sa_cons se_non sa_nil rfl) rfl)))
  ss_nil)))
/-! ### Run.__init__ -/
theorem sc_Run__init : FnScope (["self", "chain"] : List Str) (["self", "chain"] : List Str) (defScope (inS 24 0)) := ⟨rfl, rfl, rfl, by decide +kernel, rfl, by decide +kernel, by decide +kernel⟩
def cl_Run__init : M Fl := (cSeq (cSetF 1 0 "_chain" (cVar 1))
  (cSeq (cSetF 1 0 "_contents" (cCall fn_empty_contents (cCons (cVar 1) (M.ret []))))
  (cSeq (cSetF 1 0 "_log" (cStore (cLst (M.ret []))))
  (cSeq (cSetF 1 0 "_done" (cStore (cLst (M.ret []))))
  (cSeq (cSetF 1 0 "_undone" (cStore (cLst (M.ret []))))
  cNext)))))
def fn_Run__init : Fn := mkR 2 1 1 cl_Run__init
theorem ok_Run__init {g : G} {A : Ad} (T : Tx g A) : FnMk g 4 A.a_Run__init 1 fn_Run__init := by
  obtain ⟨fd, F, B⟩ := T.f_Run__init
  exact fn_mkP F sc_Run__init B rfl T.c_Run fun X W q => (ss_cons (ss_setF q T.c_Run T.kl_Run T.na_Run_chain (i := 0) rfl rfl rfl (sq_var q (i := 1) rfl rfl rfl) (swaps_no rfl))
  (ss_cons (ss_setF q T.c_Run T.kl_Run T.na_Run_contents (i := 0) rfl rfl rfl (sx_call q (ok_empty_contents T) (by omega) rfl T.m_empty_contents T.kp_empty_contents (sa_cons (sq_var q (i := 1) rfl rfl rfl) sa_nil rfl) rfl) (swaps_no rfl))
  (ss_cons (ss_setF q T.c_Run T.kl_Run T.na_Run_log (i := 0) rfl rfl rfl (se_store (sl_lst sa_nil)) (swaps_no rfl))
  (ss_cons (ss_setF q T.c_Run T.kl_Run T.na_Run_done (i := 0) rfl rfl rfl (se_store (sl_lst sa_nil)) (swaps_no rfl))
  (ss_cons (ss_setF q T.c_Run T.kl_Run T.na_Run_undone (i := 0) rfl rfl rfl (se_store (sl_lst sa_nil)) (swaps_no rfl))
  ss_nil)))))
/-! ### Run.contents -/
theorem sc_Run_contents : FnScope (["self"] : List Str) (["self"] : List Str) (defScope (inS 24 3)) := ⟨rfl, rfl, rfl, by decide +kernel, rfl, by decide +kernel, by decide +kernel⟩
def cl_Run_contents : M Fl := (cSeq (cRet (cFld 1 1 "_contents" (cVar 0)))
  cNext)
def fn_Run_contents : Fn := fnB 1 1 cl_Run_contents
theorem ok_Run_contents {g : G} {A : Ad} (T : Tx g A) : FnC g 1 A.a_Run_contents fn_Run_contents := by
  obtain ⟨fd, F, B⟩ := T.f_Run_contents
  exact fn_c F sc_Run_contents B fun X W q => (ss_cons (ss_ret (sx_fld q (i := 1) T.c_Run (by decide) rfl T.kl_Run T.na_Run_contents (sq_var q (i := 0) rfl rfl rfl) rfl))
  ss_nil)
/-! ### Run._rows_of -/
theorem sc_Run_rows_of : FnScope (["self", "requests", "contents", "rows", "entry", "item", "result"] : List Str) (["self", "requests"] : List Str) (defScope (inS 24 20)) := ⟨rfl, rfl, rfl, by decide +kernel, rfl, by decide +kernel, by decide +kernel⟩
def cl_Run_rows_of : M Fl := (cSeq (cSet 2 (cFld 1 1 "_contents" (cVar 0)))
  (cSeq (cSetL 3 (cLst (M.ret [])))
  (cSeq (cFor (cWalk (cVar 1)) (.tp [4, 5]) (cSeq (cDrop (cCall fn_check_request (cCons (cFld 1 0 "_chain" (cVar 0)) (cCons (cVar 4) (cCons (cVar 5) (M.ret []))))))
  (cSeq (cSetTp [2, 6] (cCall fn_after_request (cCons (cFld 1 0 "_chain" (cVar 0)) (cCons (cVar 2) (cCons (cVar 4) (cCons (cVar 5) (M.ret [])))))))
  (cSeq (cApp 3 (cTup (cCons (cVar 4) (cCons (cVar 5) (cCons (cVar 6) (M.ret []))))))
  cNext))))
  (cSeq (cRet (cTup (cCons (cVar 2) (cCons ((cCons (cVar 3) (M.ret [])).bind bTuple) (M.ret [])))))
  cNext))))
def fn_Run_rows_of : Fn := fnB 7 2 cl_Run_rows_of
theorem ok_Run_rows_of {g : G} {A : Ad} (T : Tx g A) : FnC g 5 A.a_Run_rows_of fn_Run_rows_of := by
  obtain ⟨fd, F, B⟩ := T.f_Run_rows_of
  exact fn_c F sc_Run_rows_of B fun X W q => (ss_cons (ss_set q (i := 2) rfl rfl (sx_fld q (i := 1) T.c_Run (by decide) rfl T.kl_Run T.na_Run_contents (sq_var q (i := 0) rfl rfl rfl) rfl) (swaps_no rfl))
  (ss_cons (ss_setL q (i := 3) rfl rfl (sl_lst sa_nil) (swaps_no rfl))
  (ss_cons (ss_for q (sq_seq q (sq_var q (i := 1) rfl rfl rfl)) (tg_tup q (is := [4, 5]) rfl) (ss_cons (ss_drop (sx_call q (ok_check_request T) (by omega) rfl T.m_check_request T.kp_check_request (sa_cons (sx_fld q (i := 0) T.c_Run (by decide) rfl T.kl_Run T.na_Run_chain (sq_var q (i := 0) rfl rfl rfl) rfl) (sa_cons (sq_var q (i := 4) rfl rfl rfl) (sa_cons (sq_var q (i := 5) rfl rfl rfl) sa_nil rfl) rfl) rfl) rfl) (swaps_no rfl))
  (ss_cons (ss_setTp q (is := [2, 6]) rfl (sx_call q (ok_after_request T) (by omega) rfl T.m_after_request T.kp_after_request (sa_cons (sx_fld q (i := 0) T.c_Run (by decide) rfl T.kl_Run T.na_Run_chain (sq_var q (i := 0) rfl rfl rfl) rfl) (sa_cons (sq_var q (i := 2) rfl rfl rfl) (sa_cons (sq_var q (i := 4) rfl rfl rfl) (sa_cons (sq_var q (i := 5) rfl rfl rfl) sa_nil rfl) rfl) rfl) rfl) rfl) rfl (sw_of q rfl))
  (ss_cons (ss_append q (i := 3) rfl rfl rfl (se_tup (sa_cons (sq_var q (i := 4) rfl rfl rfl) (sa_cons (sq_var q (i := 5) rfl rfl rfl) (sa_cons (sq_var q (i := 6) rfl rfl rfl) sa_nil rfl) rfl) rfl)) rfl rfl)
  ss_nil))) rfl)
  (ss_cons (ss_ret (se_tup (sa_cons (sq_var q (i := 2) rfl rfl rfl) (sa_cons (sq_tuple q rfl T.n_tuple (sa_cons (sq_var q (i := 3) rfl rfl rfl) sa_nil rfl) rfl) sa_nil rfl) rfl)))
  ss_nil))))
/-! ### Run._make_step -/
theorem sc_Run_make_step : FnScope (["self", "chain", "contents", "rows"] : List Str) (["self", "chain", "contents", "rows"] : List Str) (defScope (inS 24 21)) := ⟨rfl, rfl, rfl, by decide +kernel, rfl, by decide +kernel, by decide +kernel⟩
def cl_Run_make_step : M Fl := (cSeq (cAppE (cFld 1 3 "_done" (cVar 0)) (cTup (cCons (cTup (cCons (cFld 1 0 "_chain" (cVar 0)) (cCons (cFld 1 1 "_contents" (cVar 0)) (M.ret [])))) (cCons (cVar 3) (cCons (cTup (cCons (cVar 1) (cCons (cVar 2) (M.ret [])))) (M.ret []))))))
  (cSeq (cSetF 1 0 "_undone" (cStore (cLst (M.ret []))))
  (cSeq (cSetF 1 0 "_chain" (cVar 1))
  (cSeq (cSetF 1 0 "_contents" (cVar 2))
  (cSeq (cExtE (cFld 1 2 "_log" (cVar 0)) (cVar 3))
  cNext)))))
def fn_Run_make_step : Fn := fnB 4 4 cl_Run_make_step
theorem ok_Run_make_step {g : G} {A : Ad} (T : Tx g A) : FnC g 1 A.a_Run_make_step fn_Run_make_step := by
  obtain ⟨fd, F, B⟩ := T.f_Run_make_step
  exact fn_c F sc_Run_make_step B fun X W q => (ss_cons (ss_appE q (sx_fld q (i := 3) T.c_Run (by decide) rfl T.kl_Run T.na_Run_done (sq_var q (i := 0) rfl rfl rfl) rfl) (se_tup (sa_cons (se_tup (sa_cons (sx_fld q (i := 0) T.c_Run (by decide) rfl T.kl_Run T.na_Run_chain (sq_var q (i := 0) rfl rfl rfl) rfl) (sa_cons (sx_fld q (i := 1) T.c_Run (by decide) rfl T.kl_Run T.na_Run_contents (sq_var q (i := 0) rfl rfl rfl) rfl) sa_nil rfl) rfl)) (sa_cons (sq_var q (i := 3) rfl rfl rfl) (sa_cons (se_tup (sa_cons (sq_var q (i := 1) rfl rfl rfl) (sa_cons (sq_var q (i := 2) rfl rfl rfl) sa_nil rfl) rfl)) sa_nil rfl) rfl) rfl)) rfl rfl rfl)
  (ss_cons (ss_setF q T.c_Run T.kl_Run T.na_Run_undone (i := 0) rfl rfl rfl (se_store (sl_lst sa_nil)) (swaps_no rfl))
  (ss_cons (ss_setF q T.c_Run T.kl_Run T.na_Run_chain (i := 0) rfl rfl rfl (sq_var q (i := 1) rfl rfl rfl) (swaps_no rfl))
  (ss_cons (ss_setF q T.c_Run T.kl_Run T.na_Run_contents (i := 0) rfl rfl rfl (sq_var q (i := 2) rfl rfl rfl) (swaps_no rfl))
  (ss_cons (ss_extE q (sx_fld q (i := 2) T.c_Run (by decide) rfl T.kl_Run T.na_Run_log (sq_var q (i := 0) rfl rfl rfl) rfl) (sq_var q (i := 3) rfl rfl rfl) rfl rfl rfl)
  ss_nil)))))
/-! ### Run.request_all -/
theorem sc_Run_request_all : FnScope (["self", "requests", "contents", "rows", "row"] : List Str) (["self", "requests"] : List Str) (defScope (inS 24 10)) := ⟨rfl, rfl, rfl, by decide +kernel, rfl, by decide +kernel, by decide +kernel⟩
def cl_Run_request_all : M Fl := (cSeq (cSetTp [2, 3] (cMeth 1 "_rows_of" fn_Run_rows_of (cVar 0) (cCons (cVar 1) (M.ret []))))
  (cSeq (cIfS (asB (cOp dGt ((cCons (cVar 3) (M.ret [])).bind bLen) (M.ret (.int 0)))) (cSeq (cDrop (cMeth 1 "_make_step" fn_Run_make_step (cVar 0) (cCons (cFld 1 0 "_chain" (cVar 0)) (cCons (cVar 2) (cCons (cVar 3) (M.ret []))))))
  cNext) cNext)
  (cSeq (cRet (froz (cLc (cWalk (cVar 3)) (.nm 4) (M.ret true) (cOp dIx (cVar 4) (M.ret (.int 2))) [4])))
  cNext)))
def fn_Run_request_all : Fn := fnB 5 2 cl_Run_request_all
theorem ok_Run_request_all {g : G} {A : Ad} (T : Tx g A) : FnC g 6 A.a_Run_request_all fn_Run_request_all := by
  obtain ⟨fd, F, B⟩ := T.f_Run_request_all
  exact fn_c F sc_Run_request_all B fun X W q => (ss_cons (ss_setTp q (is := [2, 3]) rfl (sx_meth q T.c_Run rfl T.kl_Run T.me_Run_rows_of (ok_Run_rows_of T) (by omega) (sq_var q (i := 0) rfl rfl rfl) (sa_cons (sq_var q (i := 1) rfl rfl rfl) sa_nil rfl) rfl rfl rfl rfl) rfl (sw_of q rfl))
  (ss_cons (ss_if (sx_cmpT (mop_of op_gt s2_gt) (sq_len q rfl T.n_len (sa_cons (sq_var q (i := 3) rfl rfl rfl) sa_nil rfl) rfl) se_int (marks_ok rfl)) (ss_cons (ss_drop (sx_meth q T.c_Run rfl T.kl_Run T.me_Run_make_step (ok_Run_make_step T) (by omega) (sq_var q (i := 0) rfl rfl rfl) (sa_cons (sx_fld q (i := 0) T.c_Run (by decide) rfl T.kl_Run T.na_Run_chain (sq_var q (i := 0) rfl rfl rfl) rfl) (sa_cons (sq_var q (i := 2) rfl rfl rfl) (sa_cons (sq_var q (i := 3) rfl rfl rfl) sa_nil rfl) rfl) rfl) rfl rfl rfl rfl) (swaps_no rfl))
  ss_nil) ss_nil)
  (ss_cons (ss_ret (se_froz (sl_lc q (sq_seq q (sq_var q (i := 3) rfl rfl rfl)) (blk_of q (own := ([("row", 4)] : List (Str × Nat))) rfl) ⟨fun _ _ _ _ _ => (tg_name (q.blk) (i := 4) rfl rfl), fun _ _ _ _ _ => sts_nil, fun _ _ _ _ _ => (sx_sub (r := fun _ _ _ _ => True) (mq_ix (q.blk)) (sq_var (q.blk) (i := 4) rfl rfl rfl) se_int rfl)⟩ (by decide) rfl)))
  ss_nil)))
/-! ### _law_tape -/
theorem sc_law_tape : FnScope (["_law_script"] : List Str) (["_law_script"] : List Str) (defScope (topS 26)) := ⟨rfl, rfl, rfl, by decide +kernel, rfl, by decide +kernel, by decide +kernel⟩
def cl_law_tape : M Fl := (cSeq (cRet (cStore (cLst (cCons (froz ((cCons (froz (cCutL (cVar 0) cNoPart (cPart (M.ret (.int 63))))) (M.ret [])).bind bList)) (cCons (M.ret (.int 0)) (cCons (M.ret (.int 0)) (cCons (M.ret (.int 3815)) (M.ret []))))))))
  cNext)
def fn_law_tape : Fn := fnB 1 1 cl_law_tape
theorem ok_law_tape {g : G} {A : Ad} (T : Tx g A) : FnC g 1 A.a_law_tape fn_law_tape := by
  obtain ⟨fd, F, B⟩ := T.f_law_tape
  exact fn_c F sc_law_tape B fun X W q => (ss_cons (ss_ret (se_store (sl_lst (sa_cons (se_froz (sq_list q rfl T.n_list (sa_cons (se_froz (sq_cutL q (sq_var q (i := 0) rfl rfl rfl) so_none (so_some se_int))) sa_nil rfl) rfl)) (sa_cons se_int (sa_cons se_int (sa_cons se_int sa_nil rfl) rfl) rfl) rfl))))
  ss_nil)
/-! ### _law_pick -/
theorem sc_law_pick : FnScope (["_law_tape_here", "_law_many", "_law_cell", "_law_digit", "_law_square"] : List Str) (["_law_tape_here", "_law_many"] : List Str) (defScope (topS 27)) := ⟨rfl, rfl, rfl, by decide +kernel, rfl, by decide +kernel, by decide +kernel⟩
def cl_law_pick : M Fl := (cSeq (cIfS (cAndT (asB (cOp dEq (cOp dIx (cVar 0) (M.ret (.int 2))) (M.ret (.int 0)))) (asB (cOp dLt (cOp dIx (cVar 0) (M.ret (.int 1))) ((cCons (cOp dIx (cVar 0) (M.ret (.int 0))) (M.ret [])).bind bLen)))) (cSeq (cSet 2 (cOp dIx (cOp dIx (cVar 0) (M.ret (.int 0))) (cOp dIx (cVar 0) (M.ret (.int 1)))))
  (cSeq (cSetIx 0 (M.ret (.int 1)) (cOp dAdd (cOp dIx (cVar 0) (M.ret (.int 1))) (M.ret (.int 1))))
  (cSeq (cIfS (asB (cOp dGe (cVar 2) (cOp dPow (M.ret (.int 10)) (M.ret (.int 18))))) (cSeq (cSetIx 0 (M.ret (.int 2)) (cVar 2))
  cNext) (cSeq (cSetIx 0 (M.ret (.int 3)) (cOp dMod (cOp dAdd (cOp dAdd (cOp dMul (cOp dIx (cVar 0) (M.ret (.int 3))) (M.ret (.int 48611))) (cOp dMul (cOp dMod (cVar 2) (M.ret (.int 2147483549))) (M.ret (.int 389)))) (M.ret (.int 41))) (M.ret (.int 2147483587))))
  cNext))
  cNext))) cNext)
  (cSeq (cIfS (asB (cOp dGt (cOp dIx (cVar 0) (M.ret (.int 2))) (M.ret (.int 0)))) (cSeq (cSet 3 (cOp dMod (cOp dIx (cVar 0) (M.ret (.int 2))) (cVar 1)))
  (cSeq (cSetIx 0 (M.ret (.int 2)) (cOp dDiv (cOp dIx (cVar 0) (M.ret (.int 2))) (cVar 1)))
  (cSeq (cRet (cVar 3))
  cNext))) cNext)
  (cSeq (cSet 4 (cOp dMod (cOp dMul (cOp dIx (cVar 0) (M.ret (.int 3))) (cOp dIx (cVar 0) (M.ret (.int 3)))) (M.ret (.int 2147483587))))
  (cSeq (cSetIx 0 (M.ret (.int 3)) (cOp dMod (cOp dAdd (cOp dAdd (cOp dMul (cVar 4) (M.ret (.int 30011))) (cOp dMul (cOp dIx (cVar 0) (M.ret (.int 3))) (M.ret (.int 16807)))) (M.ret (.int 9973))) (M.ret (.int 2147483587))))
  (cSeq (cRet (cOp dMod (cOp dAdd (cOp dDiv (cOp dIx (cVar 0) (M.ret (.int 3))) (M.ret (.int 83))) (cOp dMul (cOp dMod (cOp dIx (cVar 0) (M.ret (.int 3))) (M.ret (.int 7919))) (M.ret (.int 53)))) (cVar 1)))
  cNext)))))
def fn_law_pick : Fn := fnB 5 2 cl_law_pick
theorem ok_law_pick {g : G} {A : Ad} (T : Tx g A) : FnC g 1 A.a_law_pick fn_law_pick := by
  obtain ⟨fd, F, B⟩ := T.f_law_pick
  exact fn_c F sc_law_pick B fun X W q => (ss_cons (ss_if (PW.pt (sw_and (sx_cmpT (mq_eq q) (sx_sub (r := fun _ _ _ _ => True) (mq_ix q) (sq_var q (i := 0) rfl rfl rfl) se_int rfl) se_int (marks_ok rfl)) (sw_and1 (sx_cmpT (mop_of op_lt s2_lt) (sx_sub (r := fun _ _ _ _ => True) (mq_ix q) (sq_var q (i := 0) rfl rfl rfl) se_int rfl) (sq_len q rfl T.n_len (sa_cons (sx_sub (r := fun _ _ _ _ => True) (mq_ix q) (sq_var q (i := 0) rfl rfl rfl) se_int rfl) sa_nil rfl) rfl) (marks_ok rfl))))) (ss_cons (ss_set q (i := 2) rfl rfl (sx_sub (r := fun _ _ _ _ => True) (mq_ix q) (sx_sub (r := fun _ _ _ _ => True) (mq_ix q) (sq_var q (i := 0) rfl rfl rfl) se_int rfl) (sx_sub (r := fun _ _ _ _ => True) (mq_ix q) (sq_var q (i := 0) rfl rfl rfl) se_int rfl) rfl) (swaps_no rfl))
  (ss_cons (ss_setIx q (i := 0) rfl rfl rfl (sx_bin (mq_add q) (sx_sub (r := fun _ _ _ _ => True) (mq_ix q) (sq_var q (i := 0) rfl rfl rfl) se_int rfl) se_int) se_int rfl)
  (ss_cons (ss_if (sx_cmpT (mop_of op_ge s2_ge) (sq_var q (i := 2) rfl rfl rfl) (sx_bin (mop_of op_pow s2_pow) se_int se_int) (marks_ok rfl)) (ss_cons (ss_setIx q (i := 0) rfl rfl rfl (sq_var q (i := 2) rfl rfl rfl) se_int rfl)
  ss_nil) (ss_cons (ss_setIx q (i := 0) rfl rfl rfl (sx_bin (mop_of op_mod s2_mod) (sx_bin (mq_add q) (sx_bin (mq_add q) (sx_bin (mop_of op_mul s2_mul) (sx_sub (r := fun _ _ _ _ => True) (mq_ix q) (sq_var q (i := 0) rfl rfl rfl) se_int rfl) se_int) (sx_bin (mop_of op_mul s2_mul) (sx_bin (mop_of op_mod s2_mod) (sq_var q (i := 2) rfl rfl rfl) se_int) se_int)) se_int) se_int) se_int rfl)
  ss_nil))
  ss_nil))) ss_nil)
  (ss_cons (ss_if (sx_cmpT (mop_of op_gt s2_gt) (sx_sub (r := fun _ _ _ _ => True) (mq_ix q) (sq_var q (i := 0) rfl rfl rfl) se_int rfl) se_int (marks_ok rfl)) (ss_cons (ss_set q (i := 3) rfl rfl (sx_bin (mop_of op_mod s2_mod) (sx_sub (r := fun _ _ _ _ => True) (mq_ix q) (sq_var q (i := 0) rfl rfl rfl) se_int rfl) (sq_var q (i := 1) rfl rfl rfl)) (swaps_no rfl))
  (ss_cons (ss_setIx q (i := 0) rfl rfl rfl (sx_bin (mop_of op_fdiv s2_div) (sx_sub (r := fun _ _ _ _ => True) (mq_ix q) (sq_var q (i := 0) rfl rfl rfl) se_int rfl) (sq_var q (i := 1) rfl rfl rfl)) se_int rfl)
  (ss_cons (ss_ret (sq_var q (i := 3) rfl rfl rfl))
  ss_nil))) ss_nil)
  (ss_cons (ss_set q (i := 4) rfl rfl (sx_bin (mop_of op_mod s2_mod) (sx_bin (mop_of op_mul s2_mul) (sx_sub (r := fun _ _ _ _ => True) (mq_ix q) (sq_var q (i := 0) rfl rfl rfl) se_int rfl) (sx_sub (r := fun _ _ _ _ => True) (mq_ix q) (sq_var q (i := 0) rfl rfl rfl) se_int rfl)) se_int) (swaps_no rfl))
  (ss_cons (ss_setIx q (i := 0) rfl rfl rfl (sx_bin (mop_of op_mod s2_mod) (sx_bin (mq_add q) (sx_bin (mq_add q) (sx_bin (mop_of op_mul s2_mul) (sq_var q (i := 4) rfl rfl rfl) se_int) (sx_bin (mop_of op_mul s2_mul) (sx_sub (r := fun _ _ _ _ => True) (mq_ix q) (sq_var q (i := 0) rfl rfl rfl) se_int rfl) se_int)) se_int) se_int) se_int rfl)
  (ss_cons (ss_ret (sx_bin (mop_of op_mod s2_mod) (sx_bin (mq_add q) (sx_bin (mop_of op_fdiv s2_div) (sx_sub (r := fun _ _ _ _ => True) (mq_ix q) (sq_var q (i := 0) rfl rfl rfl) se_int rfl) se_int) (sx_bin (mop_of op_mul s2_mul) (sx_bin (mop_of op_mod s2_mod) (sx_sub (r := fun _ _ _ _ => True) (mq_ix q) (sq_var q (i := 0) rfl rfl rfl) se_int rfl) se_int) se_int)) (sq_var q (i := 1) rfl rfl rfl)))
  ss_nil)))))
/-! ### _law_of -/
theorem sc_law_of : FnScope (["_law_tape_here", "_law_some"] : List Str) (["_law_tape_here", "_law_some"] : List Str) (defScope (topS 28)) := ⟨rfl, rfl, rfl, by decide +kernel, rfl, by decide +kernel, by decide +kernel⟩
def cl_law_of : M Fl := (cSeq (cRet (cOp dIx (cVar 1) (cCall fn_law_pick (cCons (cVar 0) (cCons ((cCons (cVar 1) (M.ret [])).bind bLen) (M.ret []))))))
  cNext)
def fn_law_of : Fn := fnB 2 2 cl_law_of
theorem ok_law_of {g : G} {A : Ad} (T : Tx g A) : FnC g 2 A.a_law_of fn_law_of := by
  obtain ⟨fd, F, B⟩ := T.f_law_of
  exact fn_c F sc_law_of B fun X W q => (ss_cons (ss_ret (sx_sub (r := fun _ _ _ _ => True) (mq_ix q) (sq_var q (i := 1) rfl rfl rfl) (sx_call q (ok_law_pick T) (by omega) rfl T.m_law_pick T.kp_law_pick (sa_cons (sq_var q (i := 0) rfl rfl rfl) (sa_cons (sq_len q rfl T.n_len (sa_cons (sq_var q (i := 1) rfl rfl rfl) sa_nil rfl) rfl) sa_nil rfl) rfl) rfl) rfl))
  ss_nil)
/-! ### _law_same -/
theorem sc_law_same : FnScope (["_law_found", "_law_due", "_law_one", "_law_other"] : List Str) (["_law_found", "_law_due"] : List Str) (defScope (topS 29)) := ⟨rfl, rfl, rfl, by decide +kernel, rfl, by decide +kernel, by decide +kernel⟩
def cl_law_same (fr : Fn) : M Fl := (cSeq (cIfS (cOrT (asB (cOp dIs (cVar 1) (M.ret .non))) (asB (cOp dIs (cVar 0) (M.ret .non)))) (cSeq (cRet (cAnd (cOp dIs (cVar 1) (M.ret .non)) (cOp dIs (cVar 0) (M.ret .non))))
  cNext) cNext)
  (cSeq (cIfS (cTru (cIsiT [.ty .lst, .ty .tup] (cVar 1))) (cSeq (cIfS (cOrT (asB (cOp dNe (cIsi (.ty .lst) (cVar 0)) (cIsi (.ty .lst) (cVar 1)))) (asB (cOp dNe (cIsi (.ty .tup) (cVar 0)) (cIsi (.ty .tup) (cVar 1))))) (cSeq (cRet (M.ret (.bl false)))
  cNext) cNext)
  (cSeq (cRet (cAnd (cOp dEq ((cCons (cVar 0) (M.ret [])).bind bLen) ((cCons (cVar 1) (M.ret [])).bind bLen)) ((cCons (froz (cLcG (cZipG (cVar 0) (cVar 1)) (.tp [2, 3]) (M.ret true) (cCall fr (cCons (cVar 2) (cCons (cVar 3) (M.ret [])))) [2, 3])) (M.ret [])).bind bAll)))
  cNext)) cNext)
  (cSeq (cIfS (cOrT (asB (cOp dNe (cIsi (.ty .bl) (cVar 1)) (cIsi (.ty .bl) (cVar 0)))) (asB (cOp dNe (cIsi (.ty .int) (cVar 1)) (cIsi (.ty .int) (cVar 0))))) (cSeq (cRet (M.ret (.bl false)))
  cNext) cNext)
  (cSeq (cRet (cAnd (cOp dEq (cIsi (.ty .str) (cVar 1)) (cIsi (.ty .str) (cVar 0))) (cOp dEq (cVar 0) (cVar 1))))
  cNext))))
def fn_law_same : Nat → Fn
  | 0 => fun _ _ => .stuck
  | n + 1 => fnB 4 2 (cl_law_same (fn_law_same n))
theorem ok_law_same {g : G} {A : Ad} (T : Tx g A) : ∀ n, FnC g (n + 1) A.a_law_same (fn_law_same n)
  | 0 => fun _ _ _ _ _ _ _ _ _ _ _ hs => by
    obtain ⟨_, _, _, _, _, o⟩ := hs
    exact o.elim
  | n + 1 => by
    obtain ⟨fd, F, B⟩ := T.f_law_same
    have ih := ok_law_same T n
    exact FnR.mono (fn_c (k := n + 1) (fb := cl_law_same (fn_law_same n)) F sc_law_same B fun X W q => (ss_cons (ss_if (PW.pt (sw_or (sx_cmpT (mop_of op_isN s2_is) (sq_var q (i := 1) rfl rfl rfl) se_non (marks_ok rfl)) (sw_or1 (sx_cmpT (mop_of op_isN s2_is) (sq_var q (i := 0) rfl rfl rfl) se_non (marks_ok rfl))))) (ss_cons (ss_ret (se_and (sx_cmp (mop_of op_isN s2_is) (sq_var q (i := 1) rfl rfl rfl) se_non (marks_ok rfl)) (se_one (sx_cmp (mop_of op_isN s2_is) (sq_var q (i := 0) rfl rfl rfl) se_non (marks_ok rfl)))))
  ss_nil) ss_nil)
  (ss_cons (ss_if (sq_tru q (sx_isiT T.tab q rfl T.n_isinstance (sq_var q (i := 1) rfl rfl rfl) ⟨(pcl_ty q rfl T.n_list rfl (by decide)), rfl, ⟨(pcl_ty q rfl T.n_tuple rfl (by decide)), rfl, trivial⟩⟩ rfl rfl) rfl) (ss_cons (ss_if (PW.pt (sw_or (sx_cmpT (mq_ne q) (sx_isi T.tab q rfl T.n_isinstance (sq_var q (i := 0) rfl rfl rfl) (pcl_ty q rfl T.n_list rfl (by decide)) rfl rfl) (sx_isi T.tab q rfl T.n_isinstance (sq_var q (i := 1) rfl rfl rfl) (pcl_ty q rfl T.n_list rfl (by decide)) rfl rfl) (marks_ok rfl)) (sw_or1 (sx_cmpT (mq_ne q) (sx_isi T.tab q rfl T.n_isinstance (sq_var q (i := 0) rfl rfl rfl) (pcl_ty q rfl T.n_tuple rfl (by decide)) rfl rfl) (sx_isi T.tab q rfl T.n_isinstance (sq_var q (i := 1) rfl rfl rfl) (pcl_ty q rfl T.n_tuple rfl (by decide)) rfl rfl) (marks_ok rfl))))) (ss_cons (ss_ret se_bl)
  ss_nil) ss_nil)
  (ss_cons (ss_ret (se_and (sx_cmp (mq_eq q) (sq_len q rfl T.n_len (sa_cons (sq_var q (i := 0) rfl rfl rfl) sa_nil rfl) rfl) (sq_len q rfl T.n_len (sa_cons (sq_var q (i := 1) rfl rfl rfl) sa_nil rfl) rfl) (marks_ok rfl)) (se_one (sq_all q rfl T.n_all (sa_cons (se_froz (sl_lcG q (sq_zipG q rfl T.n_zip (sq_var q (i := 0) rfl rfl rfl) (sq_var q (i := 1) rfl rfl rfl) rfl rfl) (blk_of q (own := ([("_law_one", 2), ("_law_other", 3)] : List (Str × Nat))) rfl) ⟨fun _ _ _ _ _ => (tg_tup (q.blk) (is := [2, 3]) rfl), fun _ _ _ _ _ => sts_nil, fun _ _ _ _ _ => (sx_call (q.blk) ih (by omega) rfl T.m_law_same T.kp_law_same (sa_cons (sq_var (q.blk) (i := 2) rfl rfl rfl) (sa_cons (sq_var (q.blk) (i := 3) rfl rfl rfl) sa_nil rfl) rfl) rfl)⟩ (by decide) rfl)) sa_nil rfl) rfl))))
  ss_nil)) ss_nil)
  (ss_cons (ss_if (PW.pt (sw_or (sx_cmpT (mq_ne q) (sx_isi T.tab q rfl T.n_isinstance (sq_var q (i := 1) rfl rfl rfl) (pcl_ty q rfl T.n_bool rfl (by decide)) rfl rfl) (sx_isi T.tab q rfl T.n_isinstance (sq_var q (i := 0) rfl rfl rfl) (pcl_ty q rfl T.n_bool rfl (by decide)) rfl rfl) (marks_ok rfl)) (sw_or1 (sx_cmpT (mq_ne q) (sx_isi T.tab q rfl T.n_isinstance (sq_var q (i := 1) rfl rfl rfl) (pcl_ty q rfl T.n_int rfl (by decide)) rfl rfl) (sx_isi T.tab q rfl T.n_isinstance (sq_var q (i := 0) rfl rfl rfl) (pcl_ty q rfl T.n_int rfl (by decide)) rfl rfl) (marks_ok rfl))))) (ss_cons (ss_ret se_bl)
  ss_nil) ss_nil)
  (ss_cons (ss_ret (se_and (sx_cmp (mq_eq q) (sx_isi T.tab q rfl T.n_isinstance (sq_var q (i := 1) rfl rfl rfl) (pcl_ty q rfl T.n_str rfl (by decide)) rfl rfl) (sx_isi T.tab q rfl T.n_isinstance (sq_var q (i := 0) rfl rfl rfl) (pcl_ty q rfl T.n_str rfl (by decide)) rfl rfl) (marks_ok rfl)) (se_one (sx_cmp (mq_eq q) (sq_var q (i := 0) rfl rfl rfl) (sq_var q (i := 1) rfl rfl rfl) (marks_ok rfl)))))
  ss_nil))))) (by omega)
/-! ### _law_made -/
theorem sc_law_made : FnScope (["_law_rows_here"] : List Str) (["_law_rows_here"] : List Str) (defScope (topS 30)) := ⟨rfl, rfl, rfl, by decide +kernel, rfl, by decide +kernel, by decide +kernel⟩
def cl_law_made : M Fl := (cSeq (cIfS (asB (cOp dEq ((cCons (cVar 0) (M.ret [])).bind bLen) (M.ret (.int 1)))) (cSeq (cRet (cCall fn_Chain__init (cCons (cOp dIx (cVar 0) (M.ret (.int 0))) (M.ret []))))
  cNext) cNext)
  (cSeq (cIfS (asB (cOp dEq ((cCons (cVar 0) (M.ret [])).bind bLen) (M.ret (.int 2)))) (cSeq (cRet (cCall fn_Chain__init (cCons (cOp dIx (cVar 0) (M.ret (.int 0))) (cCons (cOp dIx (cVar 0) (M.ret (.int 1))) (M.ret [])))))
  cNext) cNext)
  (cSeq (cIfS (asB (cOp dEq ((cCons (cVar 0) (M.ret [])).bind bLen) (M.ret (.int 3)))) (cSeq (cRet (cCall fn_Chain__init (cCons (cOp dIx (cVar 0) (M.ret (.int 0))) (cCons (cOp dIx (cVar 0) (M.ret (.int 1))) (cCons (cOp dIx (cVar 0) (M.ret (.int 2))) (M.ret []))))))
  cNext) cNext)
  (cSeq (cRet (cCall fn_Chain__init (cCons (cOp dIx (cVar 0) (M.ret (.int 0))) (cCons (cOp dIx (cVar 0) (M.ret (.int 1))) (cCons (cOp dIx (cVar 0) (M.ret (.int 2))) (cCons (cOp dIx (cVar 0) (M.ret (.int 3))) (M.ret [])))))))
  cNext))))
def fn_law_made : Fn := fnB 1 1 cl_law_made
theorem ok_law_made {g : G} {A : Ad} (T : Tx g A) : FnC g 5 A.a_law_made fn_law_made := by
  obtain ⟨fd, F, B⟩ := T.f_law_made
  exact fn_c F sc_law_made B fun X W q => (ss_cons (ss_if (sx_cmpT (mq_eq q) (sq_len q rfl T.n_len (sa_cons (sq_var q (i := 0) rfl rfl rfl) sa_nil rfl) rfl) se_int (marks_ok rfl)) (ss_cons (ss_ret (sx_make q T.c_Chain T.mk_Chain (ok_Chain__init T) (by omega) rfl T.mC_Chain (sa_cons (sx_sub (r := fun _ _ _ _ => True) (mq_ix q) (sq_var q (i := 0) rfl rfl rfl) se_int rfl) sa_nil rfl) rfl))
  ss_nil) ss_nil)
  (ss_cons (ss_if (sx_cmpT (mq_eq q) (sq_len q rfl T.n_len (sa_cons (sq_var q (i := 0) rfl rfl rfl) sa_nil rfl) rfl) se_int (marks_ok rfl)) (ss_cons (ss_ret (sx_make q T.c_Chain T.mk_Chain (ok_Chain__init T) (by omega) rfl T.mC_Chain (sa_cons (sx_sub (r := fun _ _ _ _ => True) (mq_ix q) (sq_var q (i := 0) rfl rfl rfl) se_int rfl) (sa_cons (sx_sub (r := fun _ _ _ _ => True) (mq_ix q) (sq_var q (i := 0) rfl rfl rfl) se_int rfl) sa_nil rfl) rfl) rfl))
  ss_nil) ss_nil)
  (ss_cons (ss_if (sx_cmpT (mq_eq q) (sq_len q rfl T.n_len (sa_cons (sq_var q (i := 0) rfl rfl rfl) sa_nil rfl) rfl) se_int (marks_ok rfl)) (ss_cons (ss_ret (sx_make q T.c_Chain T.mk_Chain (ok_Chain__init T) (by omega) rfl T.mC_Chain (sa_cons (sx_sub (r := fun _ _ _ _ => True) (mq_ix q) (sq_var q (i := 0) rfl rfl rfl) se_int rfl) (sa_cons (sx_sub (r := fun _ _ _ _ => True) (mq_ix q) (sq_var q (i := 0) rfl rfl rfl) se_int rfl) (sa_cons (sx_sub (r := fun _ _ _ _ => True) (mq_ix q) (sq_var q (i := 0) rfl rfl rfl) se_int rfl) sa_nil rfl) rfl) rfl) rfl))
  ss_nil) ss_nil)
  (ss_cons (ss_ret (sx_make q T.c_Chain T.mk_Chain (ok_Chain__init T) (by omega) rfl T.mC_Chain (sa_cons (sx_sub (r := fun _ _ _ _ => True) (mq_ix q) (sq_var q (i := 0) rfl rfl rfl) se_int rfl) (sa_cons (sx_sub (r := fun _ _ _ _ => True) (mq_ix q) (sq_var q (i := 0) rfl rfl rfl) se_int rfl) (sa_cons (sx_sub (r := fun _ _ _ _ => True) (mq_ix q) (sq_var q (i := 0) rfl rfl rfl) se_int rfl) (sa_cons (sx_sub (r := fun _ _ _ _ => True) (mq_ix q) (sq_var q (i := 0) rfl rfl rfl) se_int rfl) sa_nil rfl) rfl) rfl) rfl) rfl))
  ss_nil))))
/-! ### _law_row -/
theorem sc_law_row : FnScope (["_law_tape_here", "_law_levels", "_law_top", "_law_way", "_law_row_here", "_law_k"] : List Str) (["_law_tape_here", "_law_levels", "_law_top"] : List Str) (defScope (topS 31)) := ⟨rfl, rfl, rfl, by decide +kernel, rfl, by decide +kernel, by decide +kernel⟩
def cl_law_row : M Fl := (cSeq (cSet 3 (cCall fn_law_pick (cCons (cVar 0) (cCons (M.ret (.int 4)) (M.ret [])))))
  (cSeq (cSetL 4 (cLc (cRange1 (cCall fn_law_pick (cCons (cVar 0) (cCons (cOp dAdd (cVar 1) (M.ret (.int 1))) (M.ret []))))) (.nm 5) (M.ret true) (cOp dAdd (M.ret (.int 1)) (cCall fn_law_pick (cCons (cVar 0) (cCons (cVar 2) (M.ret []))))) [5]))
  (cSeq (cIfS (asB (cOp dEq (cVar 3) (M.ret (.int 0)))) (cSeq (cSetL 4 ((cCons (cVar 4) (M.ret [])).bind bSorted))
  cNext) cNext)
  (cSeq (cIfS (cAndT (asB (cOp dEq (cVar 3) (M.ret (.int 1)))) (asB (cEqP true 4 (froz (cLst (M.ret [])))))) (cSeq (cSetIx 4 (M.ret (.int 0)) (M.ret (.int 1)))
  cNext) cNext)
  (cSeq (cRet ((cCons (cVar 4) (M.ret [])).bind bTuple))
  cNext)))))
def fn_law_row : Fn := fnB 6 3 cl_law_row
theorem ok_law_row {g : G} {A : Ad} (T : Tx g A) : FnC g 2 A.a_law_row fn_law_row := by
  obtain ⟨fd, F, B⟩ := T.f_law_row
  exact fn_c F sc_law_row B fun X W q => (ss_cons (ss_set q (i := 3) rfl rfl (sx_call q (ok_law_pick T) (by omega) rfl T.m_law_pick T.kp_law_pick (sa_cons (sq_var q (i := 0) rfl rfl rfl) (sa_cons se_int sa_nil rfl) rfl) rfl) (swaps_no rfl))
  (ss_cons (ss_setLc q (i := 4) rfl rfl (swaps_lc q rfl) (sq_range1 q rfl T.n_range (sx_call q (ok_law_pick T) (by omega) rfl T.m_law_pick T.kp_law_pick (sa_cons (sq_var q (i := 0) rfl rfl rfl) (sa_cons (sx_bin (mq_add q) (sq_var q (i := 1) rfl rfl rfl) se_int) sa_nil rfl) rfl) rfl) rfl) (blk_of q (own := ([("_law_k", 5)] : List (Str × Nat))) rfl) ⟨fun _ _ _ _ _ => (tg_name (q.blk) (i := 5) rfl rfl), fun _ _ _ _ _ => sts_nil, fun _ _ _ _ _ => (sx_bin (mq_add (q.blk)) se_int (sx_call (q.blk) (ok_law_pick T) (by omega) rfl T.m_law_pick T.kp_law_pick (sa_cons (sq_var (q.blk) (i := 0) rfl rfl rfl) (sa_cons (sq_var (q.blk) (i := 2) rfl rfl rfl) sa_nil rfl) rfl) rfl))⟩ (by decide) rfl)
  (ss_cons (ss_if (sx_cmpT (mq_eq q) (sq_var q (i := 3) rfl rfl rfl) se_int (marks_ok rfl)) (ss_cons (ss_setL q (i := 4) rfl rfl (sq_sorted q rfl T.n_sorted (sa_cons (sq_var q (i := 4) rfl rfl rfl) sa_nil rfl) rfl) (swaps_no rfl))
  ss_nil) ss_nil)
  (ss_cons (ss_if (PW.pt (sw_and (sx_cmpT (mq_eq q) (sq_var q (i := 3) rfl rfl rfl) se_int (marks_ok rfl)) (sw_and1 (sx_nePT q (i := 4) rfl rfl rfl (se_froz (sl_lst sa_nil)) rfl)))) (ss_cons (ss_setIx q (i := 4) rfl rfl rfl se_int se_int rfl)
  ss_nil) ss_nil)
  (ss_cons (ss_ret (sq_tuple q rfl T.n_tuple (sa_cons (sq_var q (i := 4) rfl rfl rfl) sa_nil rfl) rfl))
  ss_nil)))))
/-! ### _law_rows -/
theorem sc_law_rows : FnScope (["_law_tape_here", "_law_segments", "_law_levels", "_law_top", "_law_k"] : List Str) (["_law_tape_here", "_law_segments", "_law_levels", "_law_top"] : List Str) (defScope (topS 32)) := ⟨rfl, rfl, rfl, by decide +kernel, rfl, by decide +kernel, by decide +kernel⟩
def cl_law_rows : M Fl := (cSeq (cRet (froz (cLc (cRange1 (cOp dAdd (M.ret (.int 1)) (cCall fn_law_pick (cCons (cVar 0) (cCons (cVar 1) (M.ret [])))))) (.nm 4) (M.ret true) (cCall fn_law_row (cCons (cVar 0) (cCons (cVar 2) (cCons (cVar 3) (M.ret []))))) [4])))
  cNext)
def fn_law_rows : Fn := fnB 5 4 cl_law_rows
theorem ok_law_rows {g : G} {A : Ad} (T : Tx g A) : FnC g 3 A.a_law_rows fn_law_rows := by
  obtain ⟨fd, F, B⟩ := T.f_law_rows
  exact fn_c F sc_law_rows B fun X W q => (ss_cons (ss_ret (se_froz (sl_lc q (sq_range1 q rfl T.n_range (sx_bin (mq_add q) se_int (sx_call q (ok_law_pick T) (by omega) rfl T.m_law_pick T.kp_law_pick (sa_cons (sq_var q (i := 0) rfl rfl rfl) (sa_cons (sq_var q (i := 1) rfl rfl rfl) sa_nil rfl) rfl) rfl)) rfl) (blk_of q (own := ([("_law_k", 4)] : List (Str × Nat))) rfl) ⟨fun _ _ _ _ _ => (tg_name (q.blk) (i := 4) rfl rfl), fun _ _ _ _ _ => sts_nil, fun _ _ _ _ _ => (sx_call (q.blk) (ok_law_row T) (by omega) rfl T.m_law_row T.kp_law_row (sa_cons (sq_var (q.blk) (i := 0) rfl rfl rfl) (sa_cons (sq_var (q.blk) (i := 2) rfl rfl rfl) (sa_cons (sq_var (q.blk) (i := 3) rfl rfl rfl) sa_nil rfl) rfl) rfl) rfl)⟩ (by decide) rfl)))
  ss_nil)
/-! ### _law_asks -/
theorem sc_law_asks : FnScope (["_law_tape_here", "_law_entries", "_law_count", "_law_top", "_law_found", "_law_k", "_law_way", "_law_item"] : List Str) (["_law_tape_here", "_law_entries", "_law_count", "_law_top"] : List Str) (defScope (topS 33)) := ⟨rfl, rfl, rfl, by decide +kernel, rfl, by decide +kernel, by decide +kernel⟩
def cl_law_asks : M Fl := (cSeq (cSetL 4 (cLst (M.ret [])))
  (cSeq (cFor (cRange1 (cVar 2)) (.nm 5) (cSeq (cSet 6 (cCall fn_law_pick (cCons (cVar 0) (cCons (M.ret (.int 10)) (M.ret [])))))
  (cSeq (cSet 7 (cCall fn_law_pick (cCons (cVar 0) (cCons (cVar 3) (M.ret [])))))
  (cSeq (cIfS (asB (cOp dEq (cVar 6) (M.ret (.int 0)))) (cSeq (cSet 7 ((M.ret (.int 1)).bind dNeg))
  cNext) cNext)
  (cSeq (cIfS (cAndT (asB (cOp dEq (cVar 6) (M.ret (.int 1)))) (asB (cEqP true 4 (froz (cLst (M.ret [])))))) (cSeq (cSet 7 (cOp dIx (cIxP 4 ((M.ret (.int 1)).bind dNeg)) (M.ret (.int 1))))
  cNext) cNext)
  (cSeq (cApp 4 (cTup (cCons (cCall fn_law_pick (cCons (cVar 0) (cCons (cVar 1) (M.ret [])))) (cCons (cVar 7) (M.ret [])))))
  cNext))))))
  (cSeq (cRet (cVar 4))
  cNext)))
def fn_law_asks : Fn := fnB 8 4 cl_law_asks
theorem ok_law_asks {g : G} {A : Ad} (T : Tx g A) : FnC g 2 A.a_law_asks fn_law_asks := by
  obtain ⟨fd, F, B⟩ := T.f_law_asks
  exact fn_c F sc_law_asks B fun X W q => (ss_cons (ss_setL q (i := 4) rfl rfl (sl_lst sa_nil) (swaps_no rfl))
  (ss_cons (ss_for q (sq_range1 q rfl T.n_range (sq_var q (i := 2) rfl rfl rfl) rfl) (tg_name q (i := 5) rfl rfl) (ss_cons (ss_set q (i := 6) rfl rfl (sx_call q (ok_law_pick T) (by omega) rfl T.m_law_pick T.kp_law_pick (sa_cons (sq_var q (i := 0) rfl rfl rfl) (sa_cons se_int sa_nil rfl) rfl) rfl) (swaps_no rfl))
  (ss_cons (ss_set q (i := 7) rfl rfl (sx_call q (ok_law_pick T) (by omega) rfl T.m_law_pick T.kp_law_pick (sa_cons (sq_var q (i := 0) rfl rfl rfl) (sa_cons (sq_var q (i := 3) rfl rfl rfl) sa_nil rfl) rfl) rfl) (swaps_no rfl))
  (ss_cons (ss_if (sx_cmpT (mq_eq q) (sq_var q (i := 6) rfl rfl rfl) se_int (marks_ok rfl)) (ss_cons (ss_set q (i := 7) rfl rfl (sx_neg se_int) (swaps_no rfl))
  ss_nil) ss_nil)
  (ss_cons (ss_if (PW.pt (sw_and (sx_cmpT (mq_eq q) (sq_var q (i := 6) rfl rfl rfl) se_int (marks_ok rfl)) (sw_and1 (sx_nePT q (i := 4) rfl rfl rfl (se_froz (sl_lst sa_nil)) rfl)))) (ss_cons (ss_set q (i := 7) rfl rfl (sx_sub (r := fun _ _ _ _ => True) (mq_ix q) (sx_ixP q (i := 4) rfl rfl rfl (sx_neg se_int) rfl) se_int rfl) (swaps_no rfl))
  ss_nil) ss_nil)
  (ss_cons (ss_append q (i := 4) rfl rfl rfl (se_tup (sa_cons (sx_call q (ok_law_pick T) (by omega) rfl T.m_law_pick T.kp_law_pick (sa_cons (sq_var q (i := 0) rfl rfl rfl) (sa_cons (sq_var q (i := 1) rfl rfl rfl) sa_nil rfl) rfl) rfl) (sa_cons (sq_var q (i := 7) rfl rfl rfl) sa_nil rfl) rfl)) rfl rfl)
  ss_nil))))) rfl)
  (ss_cons (ss_ret (sq_var q (i := 4) rfl rfl rfl))
  ss_nil)))
/-! ### law -/
theorem sc_law : FnScope (["_law_script", "_law_tape_here", "_law_rows_here", "_law_gone", "_law_chain", "_law_asks_here", "_law_run", "_law_less", "_law_found", "_law_entry", "_law_item", "_law_due", "_law_one", "_law_joined"] : List Str) (["_law_script"] : List Str) (defScope (topS 34)) := ⟨rfl, rfl, rfl, by decide +kernel, rfl, by decide +kernel, by decide +kernel⟩
def cl_law : M Fl := (cSeq (cSet 1 (cCall fn_law_tape (cCons (cVar 0) (M.ret []))))
  (cSeq (cSet 2 (froz (cOpL dCat (cCall fn_law_rows (cCons (cVar 1) (cCons (M.ret (.int 3)) (cCons (M.ret (.int 4)) (cCons (cCall fn_law_of (cCons (cVar 1) (cCons (froz (cLst (cCons (M.ret (.int 2)) (cCons (M.ret (.int 5)) (cCons (M.ret (.int 12)) (M.ret [])))))) (M.ret [])))) (M.ret [])))))) (froz (cLst (cCons (cCall fn_law_row (cCons (cVar 1) (cCons (M.ret (.int 4)) (cCons (M.ret (.int 6)) (M.ret []))))) (M.ret [])))))))
  (cSeq (cSet 3 (cOp dAdd (M.ret (.int 1)) (cCall fn_law_pick (cCons (cVar 1) (cCons (cOp dSub ((cCons (cVar 2) (M.ret [])).bind bLen) (M.ret (.int 1))) (M.ret []))))))
  (cSeq (cSet 4 (cCall fn_law_made (cCons (cVar 2) (M.ret []))))
  (cSeq (cSet 5 (cCall fn_law_asks (cCons (cVar 1) (cCons (cOp dSub ((cCons (cVar 2) (M.ret [])).bind bLen) (M.ret (.int 1))) (cCons (cOp dAdd (M.ret (.int 10)) (cCall fn_law_pick (cCons (cVar 1) (cCons (M.ret (.int 51)) (M.ret []))))) (cCons (cCall fn_law_of (cCons (cVar 1) (cCons (froz (cLst (cCons (M.ret (.int 4)) (cCons (M.ret (.int 8)) (cCons (M.ret (.int 14)) (M.ret [])))))) (M.ret [])))) (M.ret [])))))))
  (cSeq (cPar 6 7 (cCons (cCall fn_Run__init (cCons (cVar 4) (M.ret []))) (cCons (cCall fn_Run__init (cCons (cMeth 0 "without_entry" fn_Chain_without_entry (cVar 4) (cCons (cVar 3) (M.ret []))) (M.ret []))) (M.ret []))))
  (cSeq (cSet 8 (cMeth 1 "request_all" fn_Run_request_all (cVar 6) (cCons (froz (cLc (cWalk (cVar 5)) (.tp [9, 10]) (M.ret true) (cTup (cCons (cOp dAdd (cVar 9) ((cCons (cOp dGe (cVar 9) (cVar 3)) (M.ret [])).bind bInt)) (cCons (cVar 10) (M.ret [])))) [9, 10])) (M.ret []))))
  (cSeq (cSetL 11 (cLst (M.ret [])))
  (cSeq (cFor (cWalk (cVar 8)) (.nm 12) (cSeq (cIfS (cAndT (asB (cOp dIsNot (cVar 12) (M.ret .non))) (asB (cOp dGe (cOp dIx (cVar 12) (M.ret (.int 0))) (cVar 3)))) (cSeq (cSet 12 (cTup (cCons (cOp dSub (cOp dIx (cVar 12) (M.ret (.int 0))) (M.ret (.int 1))) (cCons (cOp dAdd (cOp dIx (cVar 12) (M.ret (.int 1))) (cOp dMul ((cCons (cOp dIx (cVar 2) (cOp dSub (cVar 3) (M.ret (.int 1)))) (M.ret [])).bind bLen) ((cCons (cOp dEq (cOp dIx (cVar 12) (M.ret (.int 0))) (cVar 3)) (M.ret [])).bind bInt))) (M.ret [])))))
  cNext) cNext)
  (cSeq (cApp 11 (cVar 12))
  cNext)))
  (cSeq (cIfS (cNotT (cTru (cCall (fn_law_same 4) (cCons (cMeth 1 "request_all" fn_Run_request_all (cVar 7) (cCons (cVar 5) (M.ret []))) (cCons (cVar 11) (M.ret [])))))) (cSeq (cRet (M.ret (.bl false)))
  cNext) cNext)
  (cSeq (cSet 13 (cOp dAdd (cOp dIx (cProp 1 "contents" fn_Run_contents (cVar 6)) (cOp dSub (cVar 3) (M.ret (.int 1)))) (cOp dIx (cProp 1 "contents" fn_Run_contents (cVar 6)) (cVar 3))))
  (cSeq (cRet (cOp dEq (cProp 1 "contents" fn_Run_contents (cVar 7)) (cOp dAdd (cOp dAdd (cCutT (cProp 1 "contents" fn_Run_contents (cVar 6)) cNoPart (cPart (cOp dSub (cVar 3) (M.ret (.int 1))))) (cTup (cCons (cVar 13) (M.ret [])))) (cCutT (cProp 1 "contents" fn_Run_contents (cVar 6)) (cPart (cOp dAdd (cVar 3) (M.ret (.int 1)))) cNoPart))))
  cNext))))))))))))
def fn_law : Fn := fnB 14 1 cl_law
theorem ok_law {g : G} {A : Ad} (T : Tx g A) {fd : FuncData} (F : L2.Fun g.K "law" "law" (topS 34) A.a_law fd) : FnOk g.prog g.w g.K g.mg g.base (L2.CX g.prog g.w) 7 A.a_law fd (["_law_script"] : List Str) (spOf g fn_law) :=
  fn_cOk F sc_law fun X W q => (ss_cons (ss_set q (i := 1) rfl rfl (sx_call q (ok_law_tape T) (by omega) rfl T.m_law_tape T.kp_law_tape (sa_cons (sq_var q (i := 0) rfl rfl rfl) sa_nil rfl) rfl) (swaps_no rfl))
  (ss_cons (ss_set q (i := 2) rfl rfl (se_froz (sl_op op_cat s2_cat (sx_call q (ok_law_rows T) (by omega) rfl T.m_law_rows T.kp_law_rows (sa_cons (sq_var q (i := 1) rfl rfl rfl) (sa_cons se_int (sa_cons se_int (sa_cons (sx_call q (ok_law_of T) (by omega) rfl T.m_law_of T.kp_law_of (sa_cons (sq_var q (i := 1) rfl rfl rfl) (sa_cons (se_froz (sl_lst (sa_cons se_int (sa_cons se_int (sa_cons se_int sa_nil rfl) rfl) rfl))) sa_nil rfl) rfl) rfl) sa_nil rfl) rfl) rfl) rfl) rfl) (se_froz (sl_lst (sa_cons (sx_call q (ok_law_row T) (by omega) rfl T.m_law_row T.kp_law_row (sa_cons (sq_var q (i := 1) rfl rfl rfl) (sa_cons se_int (sa_cons se_int sa_nil rfl) rfl) rfl) rfl) sa_nil rfl))))) (swaps_no rfl))
  (ss_cons (ss_set q (i := 3) rfl rfl (sx_bin (mq_add q) se_int (sx_call q (ok_law_pick T) (by omega) rfl T.m_law_pick T.kp_law_pick (sa_cons (sq_var q (i := 1) rfl rfl rfl) (sa_cons (sx_bin (mq_sub q) (sq_len q rfl T.n_len (sa_cons (sq_var q (i := 2) rfl rfl rfl) sa_nil rfl) rfl) se_int) sa_nil rfl) rfl) rfl)) (swaps_no rfl))
  (ss_cons (ss_set q (i := 4) rfl rfl (sx_call q (ok_law_made T) (by omega) rfl T.m_law_made T.kp_law_made (sa_cons (sq_var q (i := 2) rfl rfl rfl) sa_nil rfl) rfl) (swaps_no rfl))
  (ss_cons (ss_set q (i := 5) rfl rfl (sx_call q (ok_law_asks T) (by omega) rfl T.m_law_asks T.kp_law_asks (sa_cons (sq_var q (i := 1) rfl rfl rfl) (sa_cons (sx_bin (mq_sub q) (sq_len q rfl T.n_len (sa_cons (sq_var q (i := 2) rfl rfl rfl) sa_nil rfl) rfl) se_int) (sa_cons (sx_bin (mq_add q) se_int (sx_call q (ok_law_pick T) (by omega) rfl T.m_law_pick T.kp_law_pick (sa_cons (sq_var q (i := 1) rfl rfl rfl) (sa_cons se_int sa_nil rfl) rfl) rfl)) (sa_cons (sx_call q (ok_law_of T) (by omega) rfl T.m_law_of T.kp_law_of (sa_cons (sq_var q (i := 1) rfl rfl rfl) (sa_cons (se_froz (sl_lst (sa_cons se_int (sa_cons se_int (sa_cons se_int sa_nil rfl) rfl) rfl))) sa_nil rfl) rfl) rfl) sa_nil rfl) rfl) rfl) rfl) rfl) (swaps_no rfl))
  (ss_cons (ss_par q (i := 6) (j := 7) rfl rfl (by decide) rfl rfl (sa_cons (sx_make q T.c_Run T.mk_Run (ok_Run__init T) (by omega) rfl T.mC_Run (sa_cons (sq_var q (i := 4) rfl rfl rfl) sa_nil rfl) rfl) (sa_cons (sx_make q T.c_Run T.mk_Run (ok_Run__init T) (by omega) rfl T.mC_Run (sa_cons (sx_meth q T.c_Chain rfl T.kl_Chain T.me_Chain_without_entry (ok_Chain_without_entry T) (by omega) (sq_var q (i := 4) rfl rfl rfl) (sa_cons (sq_var q (i := 3) rfl rfl rfl) sa_nil rfl) rfl rfl rfl rfl) sa_nil rfl) rfl) sa_nil rfl) rfl) (sw_of q rfl))
  (ss_cons (ss_set q (i := 8) rfl rfl (sx_meth q T.c_Run rfl T.kl_Run T.me_Run_request_all (ok_Run_request_all T) (by omega) (sq_var q (i := 6) rfl rfl rfl) (sa_cons (se_froz (sl_lc q (sq_seq q (sq_var q (i := 5) rfl rfl rfl)) (blk_of q (own := ([("_law_entry", 9), ("_law_item", 10)] : List (Str × Nat))) rfl) ⟨fun _ _ _ _ _ => (tg_tup (q.blk) (is := [9, 10]) rfl), fun _ _ _ _ _ => sts_nil, fun _ _ _ _ _ => (se_tup (sa_cons (sx_bin (mq_add (q.blk)) (sq_var (q.blk) (i := 9) rfl rfl rfl) (sq_int (q.blk) rfl T.n_int (sa_cons (sx_cmp (mop_of op_ge s2_ge) (sq_var (q.blk) (i := 9) rfl rfl rfl) (sq_var (q.blk) (i := 3) rfl rfl rfl) (marks_ok rfl)) sa_nil rfl) rfl)) (sa_cons (sq_var (q.blk) (i := 10) rfl rfl rfl) sa_nil rfl) rfl))⟩ (by decide) rfl)) sa_nil rfl) rfl rfl rfl rfl) (swaps_no rfl))
  (ss_cons (ss_setL q (i := 11) rfl rfl (sl_lst sa_nil) (swaps_no rfl))
  (ss_cons (ss_for q (sq_seq q (sq_var q (i := 8) rfl rfl rfl)) (tg_name q (i := 12) rfl rfl) (ss_cons (ss_if (PW.pt (sw_and (sx_cmpT (mop_of op_notN s2_isnot) (sq_var q (i := 12) rfl rfl rfl) se_non (marks_ok rfl)) (sw_and1 (sx_cmpT (mop_of op_ge s2_ge) (sx_sub (r := fun _ _ _ _ => True) (mq_ix q) (sq_var q (i := 12) rfl rfl rfl) se_int rfl) (sq_var q (i := 3) rfl rfl rfl) (marks_ok rfl))))) (ss_cons (ss_set q (i := 12) rfl rfl (se_tup (sa_cons (sx_bin (mq_sub q) (sx_sub (r := fun _ _ _ _ => True) (mq_ix q) (sq_var q (i := 12) rfl rfl rfl) se_int rfl) se_int) (sa_cons (sx_bin (mq_add q) (sx_sub (r := fun _ _ _ _ => True) (mq_ix q) (sq_var q (i := 12) rfl rfl rfl) se_int rfl) (sx_bin (mop_of op_mul s2_mul) (sq_len q rfl T.n_len (sa_cons (sx_sub (r := fun _ _ _ _ => True) (mq_ix q) (sq_var q (i := 2) rfl rfl rfl) (sx_bin (mq_sub q) (sq_var q (i := 3) rfl rfl rfl) se_int) rfl) sa_nil rfl) rfl) (sq_int q rfl T.n_int (sa_cons (sx_cmp (mq_eq q) (sx_sub (r := fun _ _ _ _ => True) (mq_ix q) (sq_var q (i := 12) rfl rfl rfl) se_int rfl) (sq_var q (i := 3) rfl rfl rfl) (marks_ok rfl)) sa_nil rfl) rfl))) sa_nil rfl) rfl)) (swaps_no rfl))
  ss_nil) ss_nil)
  (ss_cons (ss_append q (i := 11) rfl rfl rfl (sq_var q (i := 12) rfl rfl rfl) rfl rfl)
  ss_nil)) rfl)
  (ss_cons (ss_if (st_not (sq_tru q (sx_call q (ok_law_same T 4) (by omega) rfl T.m_law_same T.kp_law_same (sa_cons (sx_meth q T.c_Run rfl T.kl_Run T.me_Run_request_all (ok_Run_request_all T) (by omega) (sq_var q (i := 7) rfl rfl rfl) (sa_cons (sq_var q (i := 5) rfl rfl rfl) sa_nil rfl) rfl rfl rfl rfl) (sa_cons (sq_var q (i := 11) rfl rfl rfl) sa_nil rfl) rfl) rfl) rfl)) (ss_cons (ss_ret se_bl)
  ss_nil) ss_nil)
  (ss_cons (ss_set q (i := 13) rfl rfl (sx_bin (mq_add q) (sx_sub (r := fun _ _ _ _ => True) (mq_ix q) (sx_prop q T.c_Run rfl T.kl_Run T.pr_Run_contents (ok_Run_contents T) (by omega) (sq_var q (i := 6) rfl rfl rfl) rfl) (sx_bin (mq_sub q) (sq_var q (i := 3) rfl rfl rfl) se_int) rfl) (sx_sub (r := fun _ _ _ _ => True) (mq_ix q) (sx_prop q T.c_Run rfl T.kl_Run T.pr_Run_contents (ok_Run_contents T) (by omega) (sq_var q (i := 6) rfl rfl rfl) rfl) (sq_var q (i := 3) rfl rfl rfl) rfl)) (swaps_no rfl))
  (ss_cons (ss_ret (sx_cmp (mq_eq q) (sx_prop q T.c_Run rfl T.kl_Run T.pr_Run_contents (ok_Run_contents T) (by omega) (sq_var q (i := 7) rfl rfl rfl) rfl) (sx_bin (mq_add q) (sx_bin (mq_add q) (sq_cutT q (sx_prop q T.c_Run rfl T.kl_Run T.pr_Run_contents (ok_Run_contents T) (by omega) (sq_var q (i := 6) rfl rfl rfl) rfl) so_none (so_some (sx_bin (mq_sub q) (sq_var q (i := 3) rfl rfl rfl) se_int))) (se_tup (sa_cons (sq_var q (i := 13) rfl rfl rfl) sa_nil rfl))) (sq_cutT q (sx_prop q T.c_Run rfl T.kl_Run T.pr_Run_contents (ok_Run_contents T) (by omega) (sq_var q (i := 6) rfl rfl rfl) rfl) (so_some (sx_bin (mq_add q) (sq_var q (i := 3) rfl rfl rfl) se_int)) so_none)) (marks_ok rfl)))
  ss_nil))))))))))))
end
end K35
namespace K35
open CL PySem

theorem s_isb (v lo hi : Int) (S : List O) : fn_is_between [.int v, .int lo, .int hi] S = .ok (.bl (decide (lo ≤ v) && decide (v ≤ hi))) S := by
  simp [M.bind, M.ret, R.bind, cSeq, cRet, cVar, cOp, cAnd, cOr, cNot, cIf, cAndT, cOrT, cNotT, asB, cB, cNext, cIfS, cSet, CS.put, cChain, dLe, dLt, dGt, dGe, dI2, startC, outF, fnB, cIsi, CS.knOf, tyB, isKn, isTy, M.guard, cTru, dTru, liftF, cCall, cCons, fn_is_between, cl_is_between]
  by_cases h : lo ≤ v
  · simp [M.bind, M.ret, R.bind, cSeq, cRet, cVar, cOp, cAnd, cOr, cNot, cIf, cAndT, cOrT, cNotT, asB, cB, cNext, cIfS, cSet, CS.put, cChain, dLe, dLt, dGt, dGe, dI2, startC, outF, fnB, cIsi, CS.knOf, tyB, isKn, isTy, M.guard, cTru, dTru, liftF, cCall, cCons, h]
  · simp [M.bind, M.ret, R.bind, cSeq, cRet, cVar, cOp, cAnd, cOr, cNot, cIf, cAndT, cOrT, cNotT, asB, cB, cNext, cIfS, cSet, CS.put, cChain, dLe, dLt, dGt, dGe, dI2, startC, outF, fnB, cIsi, CS.knOf, tyB, isKn, isTy, M.guard, cTru, dTru, liftF, cCall, cCons, h]
theorem cSeq_next {f h : M Fl} {c c' : CS} (e : f c = .ok .next c') : cSeq f h c = h c' := by
  unfold cSeq
  rw [e]
theorem cSeq_ret {f h : M Fl} {c c' : CS} {d : D} (e : f c = .ok (.ret d) c') : cSeq f h c = .ok (.ret d) c' := by
  unfold cSeq
  rw [e]
/-- a row of ints; a chain -/
def rowD (r : List Int) : D := .tup (r.map .int)
def chD (rs : List (List Int)) : D := .obj 0 [.tup (rs.map rowD)]
/-- the rows of a chain that may be made -/
def RowOk (r : List Int) : Prop := r.length ≤ 12 ∧ ∀ x ∈ r, 1 ≤ x ∧ x ≤ 12

theorem szOk_small {n : Nat} (h : n ≤ 1000) : szOk n = true := by
  unfold szOk
  exact decide_eq_true (Nat.le_trans h (by decide))
/-- all items between -/
theorem s_lcB (r : List Int) : ∀ (acc : List D) (c : CS), c.sl.length = 4 → acc.length + r.length ≤ 1000 →
    ∃ c', lcL (.nm 3) (M.ret true) (cCall fn_is_between (cCons (cVar 3) (cCons (M.ret (.int 1)) (cCons (M.ret (.int 12)) (M.ret []))))) [3] (r.map .int) acc c = .ok (acc ++ r.map fun x => .bl (decide (1 ≤ x) && decide (x ≤ 12))) c' ∧ c'.S = c.S ∧ c'.sl.length = 4 ∧ c'.sl.take 3 = c.sl.take 3 := by
  induction r with
  | nil => intro acc c h _; exact ⟨c, by simp [M.bind, M.ret, R.bind, cSeq, cRet, cVar, cOp, cAnd, cOr, cNot, cIf, cAndT, cOrT, cNotT, asB, cB, cNext, cIfS, cSet, CS.put, cChain, dLe, dLt, dGt, dGe, dI2, startC, outF, fnB, cIsi, CS.knOf, tyB, isKn, isTy, M.guard, cTru, dTru, liftF, cCall, cCons, cFor, forL, cEnum, dEnum, cTg, cLc, lcL, wipeC, cWalk, dWalk, cNever, cSetTp, putAll, bLen], rfl, h, rfl⟩
  | cons x r ih =>
    intro acc c h hl
    obtain ⟨sl, S⟩ := c
    match sl, h with
    | [a, b, d, e], _ =>
      obtain ⟨c', e1, e2, e3, e4⟩ := ih (acc ++ [.bl (decide (1 ≤ x) && decide (x ≤ 12))]) ⟨[a, b, d, .no], S⟩ rfl (by simp [M.bind, M.ret, R.bind, cSeq, cRet, cVar, cOp, cAnd, cOr, cNot, cIf, cAndT, cOrT, cNotT, asB, cB, cNext, cIfS, cSet, CS.put, cChain, dLe, dLt, dGt, dGe, dI2, startC, outF, fnB, cIsi, CS.knOf, tyB, isKn, isTy, M.guard, cTru, dTru, liftF, cCall, cCons, cFor, forL, cEnum, dEnum, cTg, cLc, lcL, wipeC, cWalk, dWalk, cNever, cSetTp, putAll, bLen] at hl ⊢; omega)
      refine ⟨c', ?_, e2, e3, e4⟩
      have hz : acc.length < sizeLine := Nat.lt_of_lt_of_le (by simp [M.bind, M.ret, R.bind, cSeq, cRet, cVar, cOp, cAnd, cOr, cNot, cIf, cAndT, cOrT, cNotT, asB, cB, cNext, cIfS, cSet, CS.put, cChain, dLe, dLt, dGt, dGe, dI2, startC, outF, fnB, cIsi, CS.knOf, tyB, isKn, isTy, M.guard, cTru, dTru, liftF, cCall, cCons, cFor, forL, cEnum, dEnum, cTg, cLc, lcL, wipeC, cWalk, dWalk, cNever, cSetTp, putAll, bLen] at hl; omega : acc.length < 1001) (by decide)
      simp [M.bind, M.ret, R.bind, cSeq, cRet, cVar, cOp, cAnd, cOr, cNot, cIf, cAndT, cOrT, cNotT, asB, cB, cNext, cIfS, cSet, CS.put, cChain, dLe, dLt, dGt, dGe, dI2, startC, outF, fnB, cIsi, CS.knOf, tyB, isKn, isTy, M.guard, cTru, dTru, liftF, cCall, cCons, cFor, forL, cEnum, dEnum, cTg, cLc, lcL, wipeC, cWalk, dWalk, cNever, cSetTp, putAll, bLen, s_isb, hz] at e1 ⊢
      exact e1

theorem s_row {r : List Int} (h : RowOk r) : (r.map fun x => D.bl (decide (1 ≤ x) && decide (x ≤ 12))) = (List.replicate r.length true).map D.bl := by
  rw [List.map_replicate]
  refine List.eq_replicate_iff.mpr ⟨by simp [M.bind, M.ret, R.bind, cSeq, cRet, cVar, cOp, cAnd, cOr, cNot, cIf, cAndT, cOrT, cNotT, asB, cB, cNext, cIfS, cSet, CS.put, cChain, dLe, dLt, dGt, dGe, dI2, startC, outF, fnB, cIsi, CS.knOf, tyB, isKn, isTy, M.guard, cTru, dTru, liftF, cCall, cCons, cFor, forL, cEnum, dEnum, cTg, cLc, lcL, wipeC, cWalk, dWalk, cNever, cSetTp, putAll, bLen], fun d hd => ?_⟩
  obtain ⟨x, hx, rfl⟩ := List.mem_map.mp hd
  obtain ⟨h1, h2⟩ := h.2 x hx
  simp [M.bind, M.ret, R.bind, cSeq, cRet, cVar, cOp, cAnd, cOr, cNot, cIf, cAndT, cOrT, cNotT, asB, cB, cNext, cIfS, cSet, CS.put, cChain, dLe, dLt, dGt, dGe, dI2, startC, outF, fnB, cIsi, CS.knOf, tyB, isKn, isTy, M.guard, cTru, dTru, liftF, cCall, cCons, cFor, forL, cEnum, dEnum, cTg, cLc, lcL, wipeC, cWalk, dWalk, cNever, cSetTp, putAll, bLen, h1, h2]
theorem asBls_map (bs : List Bool) : asBls (bs.map D.bl) = some bs := by
  induction bs with
  | nil => rfl
  | cons b bs ih => simp [M.bind, M.ret, R.bind, cSeq, cRet, cVar, cOp, cAnd, cOr, cNot, cIf, cAndT, cOrT, cNotT, asB, cB, cNext, cIfS, cSet, CS.put, cChain, dLe, dLt, dGt, dGe, dI2, startC, outF, fnB, cIsi, CS.knOf, tyB, isKn, isTy, M.guard, cTru, dTru, liftF, cCall, cCons, cFor, forL, cEnum, dEnum, cTg, cLc, lcL, wipeC, cWalk, dWalk, cNever, cSetTp, putAll, bLen, asBls, ih]
abbrev ckBody : M Fl := cSeq (cIfS (asB (cOp dGt ((cCons (cVar 2) (M.ret [])).bind bLen) (M.ret (.int 12)))) (cSeq cNever
  cNext) cNext)
  (cSeq (cIfS (cNotT (cTru ((cCons (froz (cLc (cWalk (cVar 2)) (.nm 3) (M.ret true) (cCall fn_is_between (cCons (cVar 3) (cCons (M.ret (.int 1)) (cCons (M.ret (.int 12)) (M.ret []))))) [3])) (M.ret [])).bind bAll))) (cSeq cNever
  cNext) cNext)
  cNext)
theorem s_ckRow (r : List Int) (h : RowOk r) (k : Nat) (c : CS) (hc : c.sl.length = 4) : ∃ c', cSeq (cTg (.tp [1, 2]) (.tup [.int k, rowD r])) ckBody c = .ok .next c' ∧ c'.S = c.S ∧ c'.sl.length = 4 := by
  obtain ⟨sl, S⟩ := c
  match sl, hc with
  | [a, b, d, e], _ =>
    obtain ⟨c', e1, e2, e3, e4⟩ := s_lcB r [] ⟨[a, .val (.int k), .val (rowD r), .no], S⟩ rfl (by have := h.1; simp [M.bind, M.ret, R.bind, cSeq, cRet, cVar, cOp, cAnd, cOr, cNot, cIf, cAndT, cOrT, cNotT, asB, cB, cNext, cIfS, cSet, CS.put, cChain, dLe, dLt, dGt, dGe, dI2, startC, outF, fnB, cIsi, CS.knOf, tyB, isKn, isTy, M.guard, cTru, dTru, liftF, cCall, cCons, cFor, forL, cEnum, dEnum, cTg, cLc, lcL, wipeC, cWalk, dWalk, cNever, cSetTp, putAll, bLen]; omega)
    rw [s_row h] at e1
    have hl : (r.map D.int).length ≤ 1000 := by have := h.1; simp [M.bind, M.ret, R.bind, cSeq, cRet, cVar, cOp, cAnd, cOr, cNot, cIf, cAndT, cOrT, cNotT, asB, cB, cNext, cIfS, cSet, CS.put, cChain, dLe, dLt, dGt, dGe, dI2, startC, outF, fnB, cIsi, CS.knOf, tyB, isKn, isTy, M.guard, cTru, dTru, liftF, cCall, cCons, cFor, forL, cEnum, dEnum, cTg, cLc, lcL, wipeC, cWalk, dWalk, cNever, cSetTp, putAll, bLen]; omega
    have hz : szOk (r.length) = true := szOk_small (by have := h.1; omega)
    have h12 : ¬ (12 : Int) < r.length := by have := h.1; omega
    refine ⟨c', ?_, e2, e3⟩
    simp only [List.nil_append] at e1
    simp [M.bind, M.ret, R.bind, cSeq, cRet, cVar, cOp, cAnd, cOr, cNot, cIf, cAndT, cOrT, cNotT, asB, cB, cNext, cIfS, cSet, CS.put, cChain, dLe, dLt, dGt, dGe, dI2, startC, outF, fnB, cIsi, CS.knOf, tyB, isKn, isTy, M.guard, cTru, dTru, liftF, cCall, cCons, cFor, forL, cEnum, dEnum, cTg, cLc, lcL, wipeC, cWalk, dWalk, cNever, cSetTp, putAll, bLen, rowD, froz, bAll, bOne, CS.seqL, hz, h12] at e1 ⊢
    rw [e1]
    have e5 := asBls_map (List.replicate r.length true)
    simp [M.bind, M.ret, R.bind, cSeq, cRet, cVar, cOp, cAnd, cOr, cNot, cIf, cAndT, cOrT, cNotT, asB, cB, cNext, cIfS, cSet, CS.put, cChain, dLe, dLt, dGt, dGe, dI2, startC, outF, fnB, cIsi, CS.knOf, tyB, isKn, isTy, M.guard, cTru, dTru, liftF, cCall, cCons, cFor, forL, cEnum, dEnum, cTg, cLc, lcL, wipeC, cWalk, dWalk, cNever, cSetTp, putAll, bLen] at e5
    simp [M.bind, M.ret, R.bind, cSeq, cRet, cVar, cOp, cAnd, cOr, cNot, cIf, cAndT, cOrT, cNotT, asB, cB, cNext, cIfS, cSet, CS.put, cChain, dLe, dLt, dGt, dGe, dI2, startC, outF, fnB, cIsi, CS.knOf, tyB, isKn, isTy, M.guard, cTru, dTru, liftF, cCall, cCons, cFor, forL, cEnum, dEnum, cTg, cLc, lcL, wipeC, cWalk, dWalk, cNever, cSetTp, putAll, bLen, e5]

theorem s_ckL (rs : List (List Int)) : ∀ (k : Nat) (c : CS), (∀ r ∈ rs, RowOk r) → c.sl.length = 4 → ∃ c', forL (fun d => cSeq (cTg (.tp [1, 2]) d) ckBody) (((rs.map rowD).zipIdx k).map fun p => .tup [.int (p.2 : Nat), p.1]) c = .ok .next c' ∧ c'.S = c.S := by
  induction rs with
  | nil => intro k c _ _; exact ⟨c, rfl, rfl⟩
  | cons r rs ih =>
    intro k c h hc
    obtain ⟨c1, e1, e2, e3⟩ := s_ckRow r (h r (by simp [M.bind, M.ret, R.bind, cSeq, cRet, cVar, cOp, cAnd, cOr, cNot, cIf, cAndT, cOrT, cNotT, asB, cB, cNext, cIfS, cSet, CS.put, cChain, dLe, dLt, dGt, dGe, dI2, startC, outF, fnB, cIsi, CS.knOf, tyB, isKn, isTy, M.guard, cTru, dTru, liftF, cCall, cCons, cFor, forL, cEnum, dEnum, cTg, cLc, lcL, wipeC, cWalk, dWalk, cNever, cSetTp, putAll, bLen])) k c hc
    obtain ⟨c2, g1, g2⟩ := ih (k + 1) c1 (fun x hx => h x (by simp [M.bind, M.ret, R.bind, cSeq, cRet, cVar, cOp, cAnd, cOr, cNot, cIf, cAndT, cOrT, cNotT, asB, cB, cNext, cIfS, cSet, CS.put, cChain, dLe, dLt, dGt, dGe, dI2, startC, outF, fnB, cIsi, CS.knOf, tyB, isKn, isTy, M.guard, cTru, dTru, liftF, cCall, cCons, cFor, forL, cEnum, dEnum, cTg, cLc, lcL, wipeC, cWalk, dWalk, cNever, cSetTp, putAll, bLen, hx])) e3
    refine ⟨c2, ?_, g2.trans e2⟩
    rw [List.map_cons, List.zipIdx_cons, List.map_cons]
    unfold forL
    rw [e1]
    exact g1
theorem s_check (rs : List (List Int)) (S : List O) (h1 : 1 ≤ rs.length) (h4 : rs.length ≤ 4) (h : ∀ r ∈ rs, RowOk r) : fn_check_rows [.tup (rs.map rowD)] S = .ok .non S := by
  obtain ⟨c', e1, e2⟩ := s_ckL rs 0 ⟨[.val (.tup (rs.map rowD)), .no, .no, .no], S⟩ h rfl
  have hz : szOk rs.length = true := szOk_small (by omega)
  have i1 : (1 : Int) ≤ rs.length := by omega
  have i2 : (rs.length : Int) ≤ 4 := by omega
  have hL : cFor (cEnum (cVar 0)) (.tp [1, 2]) ckBody ⟨[.val (.tup (rs.map rowD)), .no, .no, .no], S⟩ = .ok .next c' := e1
  have hI : cIfS (cNotT (asB (cChain dLe dLe (M.ret (.int 1)) ((cCons (cVar 0) (M.ret [])).bind bLen) (M.ret (.int 4))))) (cSeq cNever cNext) cNext ⟨[.val (.tup (rs.map rowD)), .no, .no, .no], S⟩ = .ok .next ⟨[.val (.tup (rs.map rowD)), .no, .no, .no], S⟩ := by
    simp [M.bind, M.ret, R.bind, cSeq, cRet, cVar, cOp, cAnd, cOr, cNot, cIf, cAndT, cOrT, cNotT, asB, cB, cNext, cIfS, cSet, CS.put, cChain, dLe, dLt, dGt, dGe, dI2, startC, outF, fnB, cIsi, CS.knOf, tyB, isKn, isTy, M.guard, cTru, dTru, liftF, cCall, cCons, cFor, forL, cEnum, dEnum, cTg, cLc, lcL, wipeC, cWalk, dWalk, cNever, cSetTp, putAll, bLen, hz, i1, i2]
  show outF (cSeq _ (cSeq (cFor (cEnum (cVar 0)) (.tp [1, 2]) ckBody) cNext) ⟨[.val (.tup (rs.map rowD)), .no, .no, .no], S⟩) = _
  rw [cSeq_next hI, cSeq_next hL]
  simp [M.bind, M.ret, R.bind, cSeq, cRet, cVar, cOp, cAnd, cOr, cNot, cIf, cAndT, cOrT, cNotT, asB, cB, cNext, cIfS, cSet, CS.put, cChain, dLe, dLt, dGt, dGe, dI2, startC, outF, fnB, cIsi, CS.knOf, tyB, isKn, isTy, M.guard, cTru, dTru, liftF, cCall, cCons, cFor, forL, cEnum, dEnum, cTg, cLc, lcL, wipeC, cWalk, dWalk, cNever, cSetTp, putAll, bLen, e2]
/-- rows that may be passed: tuples, lists -/
def RowIn (r : List Int) (d : D) : Prop := d = rowD r ∨ d = .lst (r.map .int)
inductive RowsIn : List (List Int) → List D → Prop
  | nil : RowsIn [] []
  | cons {r : List Int} {d : D} {rs : List (List Int)} {ds : List D} : RowIn r d → RowsIn rs ds → RowsIn (r :: rs) (d :: ds)
theorem RowsIn.length {rs : List (List Int)} {ds : List D} (h : RowsIn rs ds) : ds.length = rs.length := by
  induction h with
  | nil => rfl
  | cons _ _ ih => simp [M.bind, M.ret, R.bind, cSeq, cRet, cVar, cOp, cAnd, cOr, cNot, cIf, cAndT, cOrT, cNotT, asB, cB, cNext, cIfS, cSet, CS.put, cChain, dLe, dLt, dGt, dGe, dI2, startC, outF, fnB, cIsi, CS.knOf, tyB, isKn, isTy, M.guard, cTru, dTru, liftF, cCall, cCons, cFor, forL, cEnum, dEnum, cTg, cLc, lcL, wipeC, cWalk, dWalk, cNever, cSetTp, putAll, bLen, ih]
theorem putD_nil (f : Str) (d : D) : putD f d [] = [(f, d)] := rfl
theorem s_lcT (rs : List (List Int)) : ∀ (ds : List D) (acc : List D) (c : CS), c.sl.length = 4 → acc.length + rs.length ≤ 1000 → RowsIn rs ds →
    ∃ c', lcL (.nm 3) (M.ret true) ((cCons (cVar 3) (M.ret [])).bind bTuple) [3] ds acc c = .ok (acc ++ rs.map rowD) c' ∧ c'.S = c.S ∧ c'.sl.length = 4 ∧ c'.sl.take 3 = c.sl.take 3 := by
  induction rs with
  | nil => intro ds acc c h _ hf; cases hf; exact ⟨c, by simp [M.bind, M.ret, R.bind, cSeq, cRet, cVar, cOp, cAnd, cOr, cNot, cIf, cAndT, cOrT, cNotT, asB, cB, cNext, cIfS, cSet, CS.put, cChain, dLe, dLt, dGt, dGe, dI2, startC, outF, fnB, cIsi, CS.knOf, tyB, isKn, isTy, M.guard, cTru, dTru, liftF, cCall, cCons, cFor, forL, cEnum, dEnum, cTg, cLc, lcL, wipeC, cWalk, dWalk, cNever, cSetTp, putAll, bLen], rfl, h, rfl⟩
  | cons r rs ih =>
    intro ds acc c h hl hf
    cases hf with
    | @cons _ d _ ds hd hf =>
      obtain ⟨sl, S⟩ := c
      match sl, h with
      | [a, b, x, e], _ =>
        obtain ⟨c', e1, e2, e3, e4⟩ := ih ds (acc ++ [rowD r]) ⟨[a, b, x, .no], S⟩ rfl (by simp [M.bind, M.ret, R.bind, cSeq, cRet, cVar, cOp, cAnd, cOr, cNot, cIf, cAndT, cOrT, cNotT, asB, cB, cNext, cIfS, cSet, CS.put, cChain, dLe, dLt, dGt, dGe, dI2, startC, outF, fnB, cIsi, CS.knOf, tyB, isKn, isTy, M.guard, cTru, dTru, liftF, cCall, cCons, cFor, forL, cEnum, dEnum, cTg, cLc, lcL, wipeC, cWalk, dWalk, cNever, cSetTp, putAll, bLen] at hl ⊢; omega) hf
        refine ⟨c', ?_, e2, e3, e4⟩
        have hz : acc.length < sizeLine := Nat.lt_of_lt_of_le (by simp [M.bind, M.ret, R.bind, cSeq, cRet, cVar, cOp, cAnd, cOr, cNot, cIf, cAndT, cOrT, cNotT, asB, cB, cNext, cIfS, cSet, CS.put, cChain, dLe, dLt, dGt, dGe, dI2, startC, outF, fnB, cIsi, CS.knOf, tyB, isKn, isTy, M.guard, cTru, dTru, liftF, cCall, cCons, cFor, forL, cEnum, dEnum, cTg, cLc, lcL, wipeC, cWalk, dWalk, cNever, cSetTp, putAll, bLen] at hl; omega : acc.length < 1001) (by decide)
        rcases hd with rfl | rfl
        · simp [M.bind, M.ret, R.bind, cSeq, cRet, cVar, cOp, cAnd, cOr, cNot, cIf, cAndT, cOrT, cNotT, asB, cB, cNext, cIfS, cSet, CS.put, cChain, dLe, dLt, dGt, dGe, dI2, startC, outF, fnB, cIsi, CS.knOf, tyB, isKn, isTy, M.guard, cTru, dTru, liftF, cCall, cCons, cFor, forL, cEnum, dEnum, cTg, cLc, lcL, wipeC, cWalk, dWalk, cNever, cSetTp, putAll, bLen, rowD, bTuple, hz] at e1 ⊢
          exact e1
        · simp [M.bind, M.ret, R.bind, cSeq, cRet, cVar, cOp, cAnd, cOr, cNot, cIf, cAndT, cOrT, cNotT, asB, cB, cNext, cIfS, cSet, CS.put, cChain, dLe, dLt, dGt, dGe, dI2, startC, outF, fnB, cIsi, CS.knOf, tyB, isKn, isTy, M.guard, cTru, dTru, liftF, cCall, cCons, cFor, forL, cEnum, dEnum, cTg, cLc, lcL, wipeC, cWalk, dWalk, cNever, cSetTp, putAll, bLen, rowD, bTuple, hz, CS.seqL] at e1 ⊢
          exact e1
theorem s_init (rs : List (List Int)) (ds : List D) (S : List O) (h1 : 1 ≤ rs.length) (h4 : rs.length ≤ 4) (h : ∀ r ∈ rs, RowOk r) (hf : RowsIn rs ds) : fn_Chain__init ds S = .ok (chD rs) S := by
  have hl : ds.length = rs.length := hf.length
  have hz : szOk ds.length = true := szOk_small (by omega)
  obtain ⟨c', e1, e2, e3, e4⟩ := s_lcT rs ds [] ⟨[.own (.ins 0 []), .val (.tup ds), .no, .no], S⟩ rfl (by simp [M.bind, M.ret, R.bind, cSeq, cRet, cVar, cOp, cAnd, cOr, cNot, cIf, cAndT, cOrT, cNotT, asB, cB, cNext, cIfS, cSet, CS.put, cChain, dLe, dLt, dGt, dGe, dI2, startC, outF, fnB, cIsi, CS.knOf, tyB, isKn, isTy, M.guard, cTru, dTru, liftF, cCall, cCons, cFor, forL, cEnum, dEnum, cTg, cLc, lcL, wipeC, cWalk, dWalk, cNever, cSetTp, putAll, bLen]; omega) hf
  have ck := s_check rs S h1 h4 h
  obtain ⟨sl, S'⟩ := c'
  match sl, e3 with
  | [a, b, x, y], _ =>
    simp [M.bind, M.ret, R.bind, cSeq, cRet, cVar, cOp, cAnd, cOr, cNot, cIf, cAndT, cOrT, cNotT, asB, cB, cNext, cIfS, cSet, CS.put, cChain, dLe, dLt, dGt, dGe, dI2, startC, outF, fnB, cIsi, CS.knOf, tyB, isKn, isTy, M.guard, cTru, dTru, liftF, cCall, cCons, cFor, forL, cEnum, dEnum, cTg, cLc, lcL, wipeC, cWalk, dWalk, cNever, cSetTp, putAll, bLen] at e4 e2
    obtain ⟨rfl, rfl, rfl⟩ := e4
    subst e2
    unfold fn_Chain__init fnStar mkB cl_Chain__init
    simp [M.bind, M.ret, R.bind, cSeq, cRet, cVar, cOp, cAnd, cOr, cNot, cIf, cAndT, cOrT, cNotT, asB, cB, cNext, cIfS, cSet, CS.put, cChain, dLe, dLt, dGt, dGe, dI2, startC, outF, fnB, cIsi, CS.knOf, tyB, isKn, isTy, M.guard, cTru, dTru, liftF, cCall, cCons, cFor, forL, cEnum, dEnum, cTg, cLc, wipeC, cWalk, dWalk, cNever, cSetTp, putAll, bLen, hz, startM, froz, cDrop, cSetF, CS.pi, CS.wi, outM] at e1 ⊢
    rw [e1]
    simp [M.bind, M.ret, R.bind, cSeq, cRet, cVar, cOp, cAnd, cOr, cNot, cIf, cAndT, cOrT, cNotT, asB, cB, cNext, cIfS, cSet, CS.put, cChain, dLe, dLt, dGt, dGe, dI2, startC, outF, fnB, cIsi, CS.knOf, tyB, isKn, isTy, M.guard, cTru, dTru, liftF, cCall, cCons, cFor, forL, cEnum, dEnum, cTg, cLc, lcL, wipeC, cWalk, dWalk, cNever, cSetTp, putAll, bLen, bTuple, CS.seqL, ck, Pi.fs, chD, putD_nil]
end K35
namespace K35
open CL PySem
def pdR (r : List Int) : PyData := .tuple (r.map .int)
theorem toPs_int (r : List Int) : toPs (r.map D.int) = some (r.map PyData.int) := by
  induction r with
  | nil => simp [M.bind, M.ret, R.bind, cSeq, cRet, cVar, cOp, cAnd, cOr, cNot, cIf, cAndT, cOrT, cNotT, asB, cB, cNext, cIfS, cSet, CS.put, cChain, dLe, dLt, dGt, dGe, dI2, startC, outF, fnB, cIsi, CS.knOf, tyB, isKn, isTy, M.guard, cTru, dTru, liftF, cCall, cCons, cFor, forL, cEnum, dEnum, cTg, cLc, lcL, wipeC, cWalk, dWalk, cNever, cSetTp, putAll, bLen, toPs]
  | cons x r ih => simp [M.bind, M.ret, R.bind, cSeq, cRet, cVar, cOp, cAnd, cOr, cNot, cIf, cAndT, cOrT, cNotT, asB, cB, cNext, cIfS, cSet, CS.put, cChain, dLe, dLt, dGt, dGe, dI2, startC, outF, fnB, cIsi, CS.knOf, tyB, isKn, isTy, M.guard, cTru, dTru, liftF, cCall, cCons, cFor, forL, cEnum, dEnum, cTg, cLc, lcL, wipeC, cWalk, dWalk, cNever, cSetTp, putAll, bLen, toPs, toP, ih]
theorem toP_row (r : List Int) : toP (rowD r) = some (pdR r) := by
  unfold rowD pdR
  simp [M.bind, M.ret, R.bind, cSeq, cRet, cVar, cOp, cAnd, cOr, cNot, cIf, cAndT, cOrT, cNotT, asB, cB, cNext, cIfS, cSet, CS.put, cChain, dLe, dLt, dGt, dGe, dI2, startC, outF, fnB, cIsi, CS.knOf, tyB, isKn, isTy, M.guard, cTru, dTru, liftF, cCall, cCons, cFor, forL, cEnum, dEnum, cTg, cLc, lcL, wipeC, cWalk, dWalk, cNever, cSetTp, putAll, bLen, toP, toPs_int]
theorem toPs_rows (rs : List (List Int)) : toPs (rs.map rowD) = some (rs.map pdR) := by
  induction rs with
  | nil => simp [M.bind, M.ret, R.bind, cSeq, cRet, cVar, cOp, cAnd, cOr, cNot, cIf, cAndT, cOrT, cNotT, asB, cB, cNext, cIfS, cSet, CS.put, cChain, dLe, dLt, dGt, dGe, dI2, startC, outF, fnB, cIsi, CS.knOf, tyB, isKn, isTy, M.guard, cTru, dTru, liftF, cCall, cCons, cFor, forL, cEnum, dEnum, cTg, cLc, lcL, wipeC, cWalk, dWalk, cNever, cSetTp, putAll, bLen, toPs]
  | cons x r ih => simp [M.bind, M.ret, R.bind, cSeq, cRet, cVar, cOp, cAnd, cOr, cNot, cIf, cAndT, cOrT, cNotT, asB, cB, cNext, cIfS, cSet, CS.put, cChain, dLe, dLt, dGt, dGe, dI2, startC, outF, fnB, cIsi, CS.knOf, tyB, isKn, isTy, M.guard, cTru, dTru, liftF, cCall, cCons, cFor, forL, cEnum, dEnum, cTg, cLc, lcL, wipeC, cWalk, dWalk, cNever, cSetTp, putAll, bLen, toPs, toP_row, ih]
theorem eqv_ints (a b : List Int) : PyData.eqvAll (a.map PyData.int) (b.map PyData.int) = decide (a = b) := by
  induction a generalizing b with
  | nil => cases b <;> simp [M.bind, M.ret, R.bind, cSeq, cRet, cVar, cOp, cAnd, cOr, cNot, cIf, cAndT, cOrT, cNotT, asB, cB, cNext, cIfS, cSet, CS.put, cChain, dLe, dLt, dGt, dGe, dI2, startC, outF, fnB, cIsi, CS.knOf, tyB, isKn, isTy, M.guard, cTru, dTru, liftF, cCall, cCons, cFor, forL, cEnum, dEnum, cTg, cLc, lcL, wipeC, cWalk, dWalk, cNever, cSetTp, putAll, bLen, PyData.eqvAll]
  | cons x a ih =>
    cases b with
    | nil => simp [M.bind, M.ret, R.bind, cSeq, cRet, cVar, cOp, cAnd, cOr, cNot, cIf, cAndT, cOrT, cNotT, asB, cB, cNext, cIfS, cSet, CS.put, cChain, dLe, dLt, dGt, dGe, dI2, startC, outF, fnB, cIsi, CS.knOf, tyB, isKn, isTy, M.guard, cTru, dTru, liftF, cCall, cCons, cFor, forL, cEnum, dEnum, cTg, cLc, lcL, wipeC, cWalk, dWalk, cNever, cSetTp, putAll, bLen, PyData.eqvAll]
    | cons y b => 
      simp [M.bind, M.ret, R.bind, cSeq, cRet, cVar, cOp, cAnd, cOr, cNot, cIf, cAndT, cOrT, cNotT, asB, cB, cNext, cIfS, cSet, CS.put, cChain, dLe, dLt, dGt, dGe, dI2, startC, outF, fnB, cIsi, CS.knOf, tyB, isKn, isTy, M.guard, cTru, dTru, liftF, cCall, cCons, cFor, forL, cEnum, dEnum, cTg, cLc, lcL, wipeC, cWalk, dWalk, cNever, cSetTp, putAll, bLen, PyData.eqvAll, PyData.eqv, ih, Bool.decide_and]
      by_cases h : x = y <;> simp [M.bind, M.ret, R.bind, cSeq, cRet, cVar, cOp, cAnd, cOr, cNot, cIf, cAndT, cOrT, cNotT, asB, cB, cNext, cIfS, cSet, CS.put, cChain, dLe, dLt, dGt, dGe, dI2, startC, outF, fnB, cIsi, CS.knOf, tyB, isKn, isTy, M.guard, cTru, dTru, liftF, cCall, cCons, cFor, forL, cEnum, dEnum, cTg, cLc, lcL, wipeC, cWalk, dWalk, cNever, cSetTp, putAll, bLen, h]
theorem eqv_rows (a b : List (List Int)) : PyData.eqvAll (a.map pdR) (b.map pdR) = decide (a = b) := by
  induction a generalizing b with
  | nil => cases b <;> simp [M.bind, M.ret, R.bind, cSeq, cRet, cVar, cOp, cAnd, cOr, cNot, cIf, cAndT, cOrT, cNotT, asB, cB, cNext, cIfS, cSet, CS.put, cChain, dLe, dLt, dGt, dGe, dI2, startC, outF, fnB, cIsi, CS.knOf, tyB, isKn, isTy, M.guard, cTru, dTru, liftF, cCall, cCons, cFor, forL, cEnum, dEnum, cTg, cLc, lcL, wipeC, cWalk, dWalk, cNever, cSetTp, putAll, bLen, PyData.eqvAll]
  | cons x a ih =>
    cases b with
    | nil => simp [M.bind, M.ret, R.bind, cSeq, cRet, cVar, cOp, cAnd, cOr, cNot, cIf, cAndT, cOrT, cNotT, asB, cB, cNext, cIfS, cSet, CS.put, cChain, dLe, dLt, dGt, dGe, dI2, startC, outF, fnB, cIsi, CS.knOf, tyB, isKn, isTy, M.guard, cTru, dTru, liftF, cCall, cCons, cFor, forL, cEnum, dEnum, cTg, cLc, lcL, wipeC, cWalk, dWalk, cNever, cSetTp, putAll, bLen, PyData.eqvAll]
    | cons y b => simp [M.bind, M.ret, R.bind, cSeq, cRet, cVar, cOp, cAnd, cOr, cNot, cIf, cAndT, cOrT, cNotT, asB, cB, cNext, cIfS, cSet, CS.put, cChain, dLe, dLt, dGt, dGe, dI2, startC, outF, fnB, cIsi, CS.knOf, tyB, isKn, isTy, M.guard, cTru, dTru, liftF, cCall, cCons, cFor, forL, cEnum, dEnum, cTg, cLc, lcL, wipeC, cWalk, dWalk, cNever, cSetTp, putAll, bLen, PyData.eqvAll, PyData.eqv, pdR, eqv_ints, Bool.decide_and] at ih ⊢; simp [M.bind, M.ret, R.bind, cSeq, cRet, cVar, cOp, cAnd, cOr, cNot, cIf, cAndT, cOrT, cNotT, asB, cB, cNext, cIfS, cSet, CS.put, cChain, dLe, dLt, dGt, dGe, dI2, startC, outF, fnB, cIsi, CS.knOf, tyB, isKn, isTy, M.guard, cTru, dTru, liftF, cCall, cCons, cFor, forL, cEnum, dEnum, cTg, cLc, lcL, wipeC, cWalk, dWalk, cNever, cSetTp, putAll, bLen, ih]
theorem lay_ints (a : List Int) : PyData.canLayAll0 (a.map PyData.int) = true := by
  induction a with
  | nil => simp [M.bind, M.ret, R.bind, cSeq, cRet, cVar, cOp, cAnd, cOr, cNot, cIf, cAndT, cOrT, cNotT, asB, cB, cNext, cIfS, cSet, CS.put, cChain, dLe, dLt, dGt, dGe, dI2, startC, outF, fnB, cIsi, CS.knOf, tyB, isKn, isTy, M.guard, cTru, dTru, liftF, cCall, cCons, cFor, forL, cEnum, dEnum, cTg, cLc, lcL, wipeC, cWalk, dWalk, cNever, cSetTp, putAll, bLen, PyData.canLayAll0]
  | cons x a ih => simp [M.bind, M.ret, R.bind, cSeq, cRet, cVar, cOp, cAnd, cOr, cNot, cIf, cAndT, cOrT, cNotT, asB, cB, cNext, cIfS, cSet, CS.put, cChain, dLe, dLt, dGt, dGe, dI2, startC, outF, fnB, cIsi, CS.knOf, tyB, isKn, isTy, M.guard, cTru, dTru, liftF, cCall, cCons, cFor, forL, cEnum, dEnum, cTg, cLc, lcL, wipeC, cWalk, dWalk, cNever, cSetTp, putAll, bLen, PyData.canLayAll0, PyData.canLay0, ih]
theorem lay_rows (a : List (List Int)) : PyData.canLayAll0 (a.map pdR) = true := by
  induction a with
  | nil => simp [M.bind, M.ret, R.bind, cSeq, cRet, cVar, cOp, cAnd, cOr, cNot, cIf, cAndT, cOrT, cNotT, asB, cB, cNext, cIfS, cSet, CS.put, cChain, dLe, dLt, dGt, dGe, dI2, startC, outF, fnB, cIsi, CS.knOf, tyB, isKn, isTy, M.guard, cTru, dTru, liftF, cCall, cCons, cFor, forL, cEnum, dEnum, cTg, cLc, lcL, wipeC, cWalk, dWalk, cNever, cSetTp, putAll, bLen, PyData.canLayAll0]
  | cons x a ih => simp [M.bind, M.ret, R.bind, cSeq, cRet, cVar, cOp, cAnd, cOr, cNot, cIf, cAndT, cOrT, cNotT, asB, cB, cNext, cIfS, cSet, CS.put, cChain, dLe, dLt, dGt, dGe, dI2, startC, outF, fnB, cIsi, CS.knOf, tyB, isKn, isTy, M.guard, cTru, dTru, liftF, cCall, cCons, cFor, forL, cEnum, dEnum, cTg, cLc, lcL, wipeC, cWalk, dWalk, cNever, cSetTp, putAll, bLen, PyData.canLayAll0, PyData.canLay0, pdR, lay_ints] at ih ⊢; simp [M.bind, M.ret, R.bind, cSeq, cRet, cVar, cOp, cAnd, cOr, cNot, cIf, cAndT, cOrT, cNotT, asB, cB, cNext, cIfS, cSet, CS.put, cChain, dLe, dLt, dGt, dGe, dI2, startC, outF, fnB, cIsi, CS.knOf, tyB, isKn, isTy, M.guard, cTru, dTru, liftF, cCall, cCons, cFor, forL, cEnum, dEnum, cTg, cLc, lcL, wipeC, cWalk, dWalk, cNever, cSetTp, putAll, bLen, ih]
theorem dep_ints (a : List Int) : PyData.depthAll (a.map PyData.int) ≤ 1 := by
  induction a with
  | nil => simp [M.bind, M.ret, R.bind, cSeq, cRet, cVar, cOp, cAnd, cOr, cNot, cIf, cAndT, cOrT, cNotT, asB, cB, cNext, cIfS, cSet, CS.put, cChain, dLe, dLt, dGt, dGe, dI2, startC, outF, fnB, cIsi, CS.knOf, tyB, isKn, isTy, M.guard, cTru, dTru, liftF, cCall, cCons, cFor, forL, cEnum, dEnum, cTg, cLc, lcL, wipeC, cWalk, dWalk, cNever, cSetTp, putAll, bLen, PyData.depthAll]
  | cons x a ih => simp [M.bind, M.ret, R.bind, cSeq, cRet, cVar, cOp, cAnd, cOr, cNot, cIf, cAndT, cOrT, cNotT, asB, cB, cNext, cIfS, cSet, CS.put, cChain, dLe, dLt, dGt, dGe, dI2, startC, outF, fnB, cIsi, CS.knOf, tyB, isKn, isTy, M.guard, cTru, dTru, liftF, cCall, cCons, cFor, forL, cEnum, dEnum, cTg, cLc, lcL, wipeC, cWalk, dWalk, cNever, cSetTp, putAll, bLen, PyData.depthAll, PyData.depth]; omega
theorem dep_rows (a : List (List Int)) : PyData.depthAll (a.map pdR) ≤ 2 := by
  induction a with
  | nil => simp [M.bind, M.ret, R.bind, cSeq, cRet, cVar, cOp, cAnd, cOr, cNot, cIf, cAndT, cOrT, cNotT, asB, cB, cNext, cIfS, cSet, CS.put, cChain, dLe, dLt, dGt, dGe, dI2, startC, outF, fnB, cIsi, CS.knOf, tyB, isKn, isTy, M.guard, cTru, dTru, liftF, cCall, cCons, cFor, forL, cEnum, dEnum, cTg, cLc, lcL, wipeC, cWalk, dWalk, cNever, cSetTp, putAll, bLen, PyData.depthAll]
  | cons x a ih =>
    have := dep_ints x
    simp [M.bind, M.ret, R.bind, cSeq, cRet, cVar, cOp, cAnd, cOr, cNot, cIf, cAndT, cOrT, cNotT, asB, cB, cNext, cIfS, cSet, CS.put, cChain, dLe, dLt, dGt, dGe, dI2, startC, outF, fnB, cIsi, CS.knOf, tyB, isKn, isTy, M.guard, cTru, dTru, liftF, cCall, cCons, cFor, forL, cEnum, dEnum, cTg, cLc, lcL, wipeC, cWalk, dWalk, cNever, cSetTp, putAll, bLen, PyData.depthAll, PyData.depth, pdR] at ih ⊢
    omega
theorem shp_rows (a : List (List Int)) : SeqAt.shaped (.tuple (a.map pdR)) = true := by
  have h := dep_rows a
  unfold SeqAt.shaped
  simp [M.bind, M.ret, R.bind, cSeq, cRet, cVar, cOp, cAnd, cOr, cNot, cIf, cAndT, cOrT, cNotT, asB, cB, cNext, cIfS, cSet, CS.put, cChain, dLe, dLt, dGt, dGe, dI2, startC, outF, fnB, cIsi, CS.knOf, tyB, isKn, isTy, M.guard, cTru, dTru, liftF, cCall, cCons, cFor, forL, cEnum, dEnum, cTg, cLc, lcL, wipeC, cWalk, dWalk, cNever, cSetTp, putAll, bLen, PyData.canLay0, lay_rows, PyData.depth]
  omega
theorem s_dEq (a b : List (List Int)) (c : CS) : dEq (.tup (a.map rowD)) (.tup (b.map rowD)) c = .ok (.bl (decide (a = b))) c := by
  simp [M.bind, M.ret, R.bind, cSeq, cRet, cVar, cOp, cAnd, cOr, cNot, cIf, cAndT, cOrT, cNotT, asB, cB, cNext, cIfS, cSet, CS.put, cChain, dLe, dLt, dGt, dGe, dI2, startC, outF, fnB, cIsi, CS.knOf, tyB, isKn, isTy, M.guard, cTru, dTru, liftF, cCall, cCons, cFor, forL, cEnum, dEnum, cTg, cLc, lcL, wipeC, cWalk, dWalk, cNever, cSetTp, putAll, bLen, dEq, dP2, toP, toPs_rows, shp_rows, PyData.eqv, eqv_rows]

theorem fld_ch (rs : List (List Int)) (c : CS) : c.fld 0 0 "_rows" (chD rs) = some (.tup (rs.map rowD)) := rfl
theorem has_ch (rs : List (List Int)) (c : CS) (mn : Str) : c.has 0 mn (chD rs) = true := rfl
theorem kn_ch (rs : List (List Int)) (c : CS) : c.knOf (chD rs) = some (.cl 0) := rfl
/-- a chain that may be made -/
def ChOk (rs : List (List Int)) : Prop := 1 ≤ rs.length ∧ rs.length ≤ 4 ∧ ∀ r ∈ rs, RowOk r
theorem rowsIn_rows (rs : List (List Int)) : RowsIn rs (rs.map rowD) := by
  induction rs with
  | nil => exact .nil
  | cons r rs ih => exact .cons (.inl rfl) ih
theorem s_make (rs : List (List Int)) (S : List O) (h : ChOk rs) : fn_Chain__init (rs.map rowD) S = .ok (chD rs) S := s_init rs _ S h.1 h.2.1 h.2.2 (rowsIn_rows rs)


theorem shp_int (i : Int) : SeqAt.shaped (.int i) = true := by
  unfold SeqAt.shaped
  simp [M.bind, M.ret, R.bind, cSeq, cRet, cVar, cOp, cAnd, cOr, cNot, cIf, cAndT, cOrT, cNotT, asB, cB, cNext, cIfS, cSet, CS.put, cChain, dLe, dLt, dGt, dGe, dI2, startC, outF, fnB, cIsi, CS.knOf, tyB, isKn, isTy, M.guard, cTru, dTru, liftF, cCall, cCons, cFor, forL, cEnum, dEnum, cTg, cLc, lcL, wipeC, cWalk, dWalk, cNever, cSetTp, putAll, bLen, cFld, CS.fld, cProp, noExc, CS.clsOf, cCallS, dItems, cLenP, cIxP, CS.see, cApp, CS.pl, CS.wr, Pl.xs, dNeg, PyData.canLay0, PyData.depth]
theorem dEq_int (i j : Int) (c : CS) : dEq (.int i) (.int j) c = .ok (.bl (decide (i = j))) c := by
  simp [M.bind, M.ret, R.bind, cSeq, cRet, cVar, cOp, cAnd, cOr, cNot, cIf, cAndT, cOrT, cNotT, asB, cB, cNext, cIfS, cSet, CS.put, cChain, dLe, dLt, dGt, dGe, dI2, startC, outF, fnB, cIsi, CS.knOf, tyB, isKn, isTy, M.guard, cTru, dTru, liftF, cCall, cCons, cFor, forL, cEnum, dEnum, cTg, cLc, lcL, wipeC, cWalk, dWalk, cNever, cSetTp, putAll, bLen, cFld, CS.fld, cProp, noExc, CS.clsOf, cCallS, dItems, cLenP, cIxP, CS.see, cApp, CS.pl, CS.wr, Pl.xs, dNeg, dEq, dP2, toP, shp_int, PyData.eqv]
  by_cases h : i = j <;> simp [M.bind, M.ret, R.bind, cSeq, cRet, cVar, cOp, cAnd, cOr, cNot, cIf, cAndT, cOrT, cNotT, asB, cB, cNext, cIfS, cSet, CS.put, cChain, dLe, dLt, dGt, dGe, dI2, startC, outF, fnB, cIsi, CS.knOf, tyB, isKn, isTy, M.guard, cTru, dTru, liftF, cCall, cCons, cFor, forL, cEnum, dEnum, cTg, cLc, lcL, wipeC, cWalk, dWalk, cNever, cSetTp, putAll, bLen, cFld, CS.fld, cProp, noExc, CS.clsOf, cCallS, dItems, cLenP, cIxP, CS.see, cApp, CS.pl, CS.wr, Pl.xs, dNeg, h]
end K35
namespace K35
open CL PySem
/-- the tape -/
def tpS (T : List O) (xs : List Int) (a b c : Int) : List O := .lst [.lst (xs.map .int), .int a, .int b, .int c] :: T
def TapeOk (S : List O) : Prop := ∃ (T : List O) (xs : List Int) (a : Nat) (b c : Int), S = tpS T xs a b c ∧ xs.length ≤ 63 ∧ 0 ≤ b ∧ 0 ≤ c ∧ c < 2147483587

theorem s_tape (ns : List Int) (h : ns.length ≤ 63) : fn_law_tape [.scr ns] [] = .ok (.ref 0) (tpS [] ns 0 0 3815) := by
  have z4 : szOk 4 = true := szOk_small (by omega)
  have e : ∀ (zs : List D), zs.length = ns.length → ((zs.drop (HT.sIx ns.length 0 none)).take (HT.sIx ns.length ns.length (some 63) - HT.sIx ns.length 0 none)) = zs := by
    intro zs hz
    have e1 : HT.sIx ns.length 0 none = 0 := rfl
    have e2 : HT.sIx ns.length ns.length (some 63) = ns.length := by
      show (if (63 : Int) < 0 then ((63 : Int) + (ns.length : Int)).toNat else min (63 : Int).toNat ns.length) = _
      rw [if_neg (by omega)]
      exact Nat.min_eq_right (by simpa using h)
    rw [e1, e2]
    simp [M.bind, M.ret, R.bind, cSeq, cRet, cVar, cOp, cAnd, cOr, cNot, cIf, cAndT, cOrT, cNotT, asB, cB, cNext, cIfS, cSet, CS.put, cChain, dLe, dLt, dGt, dGe, dI2, startC, outF, fnB, cIsi, CS.knOf, tyB, isKn, isTy, M.guard, cTru, dTru, liftF, cCall, cCons, cFor, forL, cEnum, dEnum, cTg, cLc, lcL, wipeC, cWalk, dWalk, cNever, cSetTp, putAll, bLen, cFld, CS.fld, cProp, noExc, CS.clsOf, cCallS, dItems, cLenP, cIxP, CS.see, cApp, CS.pl, CS.wr, Pl.xs, dNeg, cSetIx, cStore, froz, cLst, cCutL, dCutL, cNoPart, cPart, dPart, CS.seqL, bList, M.opt, ← hz]
  simp [M.bind, M.ret, R.bind, cSeq, cRet, cVar, cOp, cAnd, cOr, cNot, cIf, cAndT, cOrT, cNotT, asB, cB, cNext, cIfS, cSet, CS.put, cChain, dLe, dLt, dGt, dGe, dI2, startC, outF, fnB, cIsi, CS.knOf, tyB, isKn, isTy, M.guard, cTru, dTru, liftF, cCall, cCons, cFor, forL, cEnum, dEnum, cTg, cLc, lcL, wipeC, cWalk, dWalk, cNever, cSetTp, putAll, bLen, cFld, CS.fld, cProp, noExc, CS.clsOf, cCallS, dItems, cLenP, cIxP, CS.see, cApp, CS.pl, CS.wr, Pl.xs, dNeg, cSetIx, cStore, froz, cLst, cCutL, dCutL, cNoPart, cPart, dPart, CS.seqL, bList, M.opt, fn_law_tape, cl_law_tape, z4, tpS] at e ⊢
  exact e _ (by simp [M.bind, M.ret, R.bind, cSeq, cRet, cVar, cOp, cAnd, cOr, cNot, cIf, cAndT, cOrT, cNotT, asB, cB, cNext, cIfS, cSet, CS.put, cChain, dLe, dLt, dGt, dGe, dI2, startC, outF, fnB, cIsi, CS.knOf, tyB, isKn, isTy, M.guard, cTru, dTru, liftF, cCall, cCons, cFor, forL, cEnum, dEnum, cTg, cLc, lcL, wipeC, cWalk, dWalk, cNever, cSetTp, putAll, bLen, cFld, CS.fld, cProp, noExc, CS.clsOf, cCallS, dItems, cLenP, cIxP, CS.see, cApp, CS.pl, CS.wr, Pl.xs, dNeg, cSetIx, cStore, froz, cLst, cCutL, dCutL, cNoPart, cPart, dPart, CS.seqL, bList, M.opt])
theorem ix0 (xs : List Int) (a b c : Int) : L2.atI [D.lst (xs.map .int), .int a, .int b, .int c] 0 = some (.lst (xs.map .int)) := rfl
theorem ix1 (xs : List Int) (a b c : Int) : L2.atI [D.lst (xs.map .int), .int a, .int b, .int c] 1 = some (.int a) := rfl
theorem ix2 (xs : List Int) (a b c : Int) : L2.atI [D.lst (xs.map .int), .int a, .int b, .int c] 2 = some (.int b) := rfl
theorem ix3 (xs : List Int) (a b c : Int) : L2.atI [D.lst (xs.map .int), .int a, .int b, .int c] 3 = some (.int c) := rfl
/-- the first part of a pick: a cell is read -/
abbrev pkA : M Fl := (cIfS (cAndT (asB (cOp dEq (cOp dIx (cVar 0) (M.ret (.int 2))) (M.ret (.int 0)))) (asB (cOp dLt (cOp dIx (cVar 0) (M.ret (.int 1))) ((cCons (cOp dIx (cVar 0) (M.ret (.int 0))) (M.ret [])).bind bLen)))) (cSeq (cSet 2 (cOp dIx (cOp dIx (cVar 0) (M.ret (.int 0))) (cOp dIx (cVar 0) (M.ret (.int 1)))))
  (cSeq (cSetIx 0 (M.ret (.int 1)) (cOp dAdd (cOp dIx (cVar 0) (M.ret (.int 1))) (M.ret (.int 1))))
  (cSeq (cIfS (asB (cOp dGe (cVar 2) (cOp dPow (M.ret (.int 10)) (M.ret (.int 18))))) (cSeq (cSetIx 0 (M.ret (.int 2)) (cVar 2))
  cNext) (cSeq (cSetIx 0 (M.ret (.int 3)) (cOp dMod (cOp dAdd (cOp dAdd (cOp dMul (cOp dIx (cVar 0) (M.ret (.int 3))) (M.ret (.int 48611))) (cOp dMul (cOp dMod (cVar 2) (M.ret (.int 2147483549))) (M.ret (.int 389)))) (M.ret (.int 41))) (M.ret (.int 2147483587))))
  cNext))
  cNext))) cNext)
theorem dP_int (i j : Int) (c : CS) : dP2 (fun p q => .bl (PyData.eqv p q)) (.int i) (.int j) c = .ok (.bl (decide (i = j))) c := dEq_int i j c
theorem ixN4 : L2.ixN 4 1 = some 1 ∧ L2.ixN 4 2 = some 2 ∧ L2.ixN 4 3 = some 3 := ⟨rfl, rfl, rfl⟩
theorem s_pkA (T : List O) (many : Int) (xs : List Int) (a : Nat) (b c : Int) (hl : xs.length ≤ 63) (hb : 0 ≤ b) (hc : 0 ≤ c) (hc2 : c < 2147483587) :
    ∃ y a' b' c', pkA ⟨[.val (.ref 0), .val (.int many), .no, .no, .no], tpS T xs a b c⟩ = .ok .next ⟨[.val (.ref 0), .val (.int many), y, .no, .no], tpS T xs (a' : Nat) b' c'⟩ ∧ 0 ≤ b' ∧ 0 ≤ c' ∧ c' < 2147483587 := by
  have zl : szOk xs.length = true := szOk_small (by omega)
  by_cases h2 : b = 0
  · subst h2
    by_cases h1 : (a : Int) < xs.length
    · have ha : a < xs.length := by omega
      have hx : L2.atI (xs.map D.int) (a : Int) = some (.int xs[a]) := by
        unfold L2.atI L2.ixN
        rw [if_pos (by omega), if_pos (by simp [M.bind, M.ret, R.bind, cSeq, cRet, cVar, cOp, cAnd, cOr, cNot, cIf, cAndT, cOrT, cNotT, asB, cB, cNext, cIfS, cSet, CS.put, cChain, dLe, dLt, dGt, dGe, dI2, startC, outF, fnB, cIsi, CS.knOf, tyB, isKn, isTy, M.guard, cTru, dTru, liftF, cCall, cCons, cFor, forL, cEnum, dEnum, cTg, cLc, lcL, wipeC, cWalk, dWalk, cNever, cSetTp, putAll, bLen, cFld, CS.fld, cProp, noExc, CS.clsOf, cCallS, dItems, cLenP, cIxP, CS.see, cApp, CS.pl, CS.wr, Pl.xs, dNeg, cSetIx, cStore, froz, cLst, cCutL, dCutL, cNoPart, cPart, dPart, CS.seqL, bList, M.opt]; omega)]
        simp [M.bind, M.ret, R.bind, cSeq, cRet, cVar, cOp, cAnd, cOr, cNot, cIf, cAndT, cOrT, cNotT, asB, cB, cNext, cIfS, cSet, CS.put, cChain, dLe, dLt, dGt, dGe, dI2, startC, outF, fnB, cIsi, CS.knOf, tyB, isKn, isTy, M.guard, cTru, dTru, liftF, cCall, cCons, cFor, forL, cEnum, dEnum, cTg, cLc, lcL, wipeC, cWalk, dWalk, cNever, cSetTp, putAll, bLen, cFld, CS.fld, cProp, noExc, CS.clsOf, cCallS, dItems, cLenP, cIxP, CS.see, cApp, CS.pl, CS.wr, Pl.xs, dNeg, cSetIx, cStore, froz, cLst, cCutL, dCutL, cNoPart, cPart, dPart, CS.seqL, bList, M.opt, ha]
      by_cases h3 : (1000000000000000000 : Int) ≤ xs[a]
      · refine ⟨.val (.int xs[a]), a + 1, xs[a], c, ?_, by omega, hc, hc2⟩
        simp [M.bind, M.ret, R.bind, cSeq, cRet, cVar, cOp, cAnd, cOr, cNot, cIf, cAndT, cOrT, cNotT, asB, cB, cNext, cIfS, cSet, CS.put, cChain, dLe, dLt, dGt, dGe, dI2, startC, outF, fnB, cIsi, CS.knOf, tyB, isKn, isTy, M.guard, cTru, dTru, liftF, cCall, cCons, cFor, forL, cEnum, dEnum, cTg, cLc, lcL, wipeC, cWalk, dWalk, cNever, cSetTp, putAll, bLen, cFld, CS.fld, cProp, noExc, CS.clsOf, cCallS, dItems, cLenP, cIxP, CS.see, cApp, CS.pl, CS.wr, Pl.xs, dNeg, cSetIx, cStore, froz, cLst, cCutL, dCutL, cNoPart, cPart, dPart, CS.seqL, bList, M.opt, dIx, tpS, ix0, ix1, ix2, ix3, dP_int, zl, h1, hx, dAdd, ixN4.1, ixN4.2.1, dPow, cPow, h3]
      · refine ⟨.val (.int xs[a]), a + 1, 0, (c * 48611 + xs[a] % 2147483549 * 389 + 41) % 2147483587, ?_, by omega, by omega, by omega⟩
        have m1 : cMul c 48611 = true := by unfold cMul; simp [M.bind, M.ret, R.bind, cSeq, cRet, cVar, cOp, cAnd, cOr, cNot, cIf, cAndT, cOrT, cNotT, asB, cB, cNext, cIfS, cSet, CS.put, cChain, dLe, dLt, dGt, dGe, dI2, startC, outF, fnB, cIsi, CS.knOf, tyB, isKn, isTy, M.guard, cTru, dTru, liftF, cCall, cCons, cFor, forL, cEnum, dEnum, cTg, cLc, lcL, wipeC, cWalk, dWalk, cNever, cSetTp, putAll, bLen, cFld, CS.fld, cProp, noExc, CS.clsOf, cCallS, dItems, cLenP, cIxP, CS.see, cApp, CS.pl, CS.wr, Pl.xs, dNeg, cSetIx, cStore, froz, cLst, cCutL, dCutL, cNoPart, cPart, dPart, CS.seqL, bList, M.opt]
        have m2 : cMul (xs[a] % 2147483549) 389 = true := by unfold cMul; simp [M.bind, M.ret, R.bind, cSeq, cRet, cVar, cOp, cAnd, cOr, cNot, cIf, cAndT, cOrT, cNotT, asB, cB, cNext, cIfS, cSet, CS.put, cChain, dLe, dLt, dGt, dGe, dI2, startC, outF, fnB, cIsi, CS.knOf, tyB, isKn, isTy, M.guard, cTru, dTru, liftF, cCall, cCons, cFor, forL, cEnum, dEnum, cTg, cLc, lcL, wipeC, cWalk, dWalk, cNever, cSetTp, putAll, bLen, cFld, CS.fld, cProp, noExc, CS.clsOf, cCallS, dItems, cLenP, cIxP, CS.see, cApp, CS.pl, CS.wr, Pl.xs, dNeg, cSetIx, cStore, froz, cLst, cCutL, dCutL, cNoPart, cPart, dPart, CS.seqL, bList, M.opt]
        simp [M.bind, M.ret, R.bind, cSeq, cRet, cVar, cOp, cAnd, cOr, cNot, cIf, cAndT, cOrT, cNotT, asB, cB, cNext, cIfS, cSet, CS.put, cChain, dLe, dLt, dGt, dGe, dI2, startC, outF, fnB, cIsi, CS.knOf, tyB, isKn, isTy, M.guard, cTru, dTru, liftF, cCall, cCons, cFor, forL, cEnum, dEnum, cTg, cLc, lcL, wipeC, cWalk, dWalk, cNever, cSetTp, putAll, bLen, cFld, CS.fld, cProp, noExc, CS.clsOf, cCallS, dItems, cLenP, cIxP, CS.see, cApp, CS.pl, CS.wr, Pl.xs, dNeg, cSetIx, cStore, froz, cLst, cCutL, dCutL, cNoPart, cPart, dPart, CS.seqL, bList, M.opt, dIx, tpS, ix0, ix1, ix2, ix3, dP_int, zl, h1, hx, dAdd, ixN4.1, ixN4.2.1, ixN4.2.2, dPow, cPow, h3, dMul, dMod, m1, m2]
    · refine ⟨.no, a, 0, c, ?_, by omega, hc, hc2⟩
      simp [M.bind, M.ret, R.bind, cSeq, cRet, cVar, cOp, cAnd, cOr, cNot, cIf, cAndT, cOrT, cNotT, asB, cB, cNext, cIfS, cSet, CS.put, cChain, dLe, dLt, dGt, dGe, dI2, startC, outF, fnB, cIsi, CS.knOf, tyB, isKn, isTy, M.guard, cTru, dTru, liftF, cCall, cCons, cFor, forL, cEnum, dEnum, cTg, cLc, lcL, wipeC, cWalk, dWalk, cNever, cSetTp, putAll, bLen, cFld, CS.fld, cProp, noExc, CS.clsOf, cCallS, dItems, cLenP, cIxP, CS.see, cApp, CS.pl, CS.wr, Pl.xs, dNeg, cSetIx, cStore, froz, cLst, cCutL, dCutL, cNoPart, cPart, dPart, CS.seqL, bList, M.opt, dIx, tpS, ix0, ix1, ix2, dP_int, zl, h1]
  · refine ⟨.no, a, b, c, ?_, hb, hc, hc2⟩
    simp [M.bind, M.ret, R.bind, cSeq, cRet, cVar, cOp, cAnd, cOr, cNot, cIf, cAndT, cOrT, cNotT, asB, cB, cNext, cIfS, cSet, CS.put, cChain, dLe, dLt, dGt, dGe, dI2, startC, outF, fnB, cIsi, CS.knOf, tyB, isKn, isTy, M.guard, cTru, dTru, liftF, cCall, cCons, cFor, forL, cEnum, dEnum, cTg, cLc, lcL, wipeC, cWalk, dWalk, cNever, cSetTp, putAll, bLen, cFld, CS.fld, cProp, noExc, CS.clsOf, cCallS, dItems, cLenP, cIxP, CS.see, cApp, CS.pl, CS.wr, Pl.xs, dNeg, cSetIx, cStore, froz, cLst, cCutL, dCutL, cNoPart, cPart, dPart, CS.seqL, bList, M.opt, dIx, tpS, ix2, dP_int, h2]

abbrev pkB : M Fl := (cIfS (asB (cOp dGt (cOp dIx (cVar 0) (M.ret (.int 2))) (M.ret (.int 0)))) (cSeq (cSet 3 (cOp dMod (cOp dIx (cVar 0) (M.ret (.int 2))) (cVar 1)))
  (cSeq (cSetIx 0 (M.ret (.int 2)) (cOp dDiv (cOp dIx (cVar 0) (M.ret (.int 2))) (cVar 1)))
  (cSeq (cRet (cVar 3))
  cNext))) cNext)
abbrev pkC : M Fl := (cSeq (cSet 4 (cOp dMod (cOp dMul (cOp dIx (cVar 0) (M.ret (.int 3))) (cOp dIx (cVar 0) (M.ret (.int 3)))) (M.ret (.int 2147483587))))
  (cSeq (cSetIx 0 (M.ret (.int 3)) (cOp dMod (cOp dAdd (cOp dAdd (cOp dMul (cVar 4) (M.ret (.int 30011))) (cOp dMul (cOp dIx (cVar 0) (M.ret (.int 3))) (M.ret (.int 16807)))) (M.ret (.int 9973))) (M.ret (.int 2147483587))))
  (cSeq (cRet (cOp dMod (cOp dAdd (cOp dDiv (cOp dIx (cVar 0) (M.ret (.int 3))) (M.ret (.int 83))) (cOp dMul (cOp dMod (cOp dIx (cVar 0) (M.ret (.int 3))) (M.ret (.int 7919))) (M.ret (.int 53)))) (cVar 1)))
  cNext)))
theorem s_pick (many : Int) (S : List O) (hm : 0 < many) (hm2 : many < 1073741824) (hS : TapeOk S) : ∃ v S', fn_law_pick [.ref 0, .int many] S = .ok (.int v) S' ∧ TapeOk S' ∧ 0 ≤ v ∧ v < many := by
  obtain ⟨T, xs, a, b, c, rfl, hl, hb, hc, hc2⟩ := hS
  obtain ⟨y, a', b', c', e, hb', hc', hc2'⟩ := s_pkA T many xs a b c hl hb hc hc2
  have md : cDiv b' many = true := by unfold cDiv; simp [M.bind, M.ret, R.bind, cSeq, cRet, cVar, cOp, cAnd, cOr, cNot, cIf, cAndT, cOrT, cNotT, asB, cB, cNext, cIfS, cSet, CS.put, cChain, dLe, dLt, dGt, dGe, dI2, startC, outF, fnB, cIsi, CS.knOf, tyB, isKn, isTy, M.guard, cTru, dTru, liftF, cCall, cCons, cFor, forL, cEnum, dEnum, cTg, cLc, lcL, wipeC, cWalk, dWalk, cNever, cSetTp, putAll, bLen, cFld, CS.fld, cProp, noExc, CS.clsOf, cCallS, dItems, cLenP, cIxP, CS.see, cApp, CS.pl, CS.wr, Pl.xs, dNeg, cSetIx, cStore, froz, cLst, cCutL, dCutL, cNoPart, cPart, dPart, CS.seqL, bList, M.opt]; omega
  by_cases h : 0 < b'
  · refine ⟨b' % many, tpS T xs a' (b' / many) c', ?_, ⟨T, xs, a', b' / many, c', rfl, hl, Int.ediv_nonneg hb' (by omega), hc', hc2'⟩, Int.emod_nonneg _ (by omega), Int.emod_lt_of_pos _ hm⟩
    have e2 : pkB ⟨[.val (.ref 0), .val (.int many), y, .no, .no], tpS T xs a' b' c'⟩ = .ok (.ret (.int (b' % many))) ⟨[.val (.ref 0), .val (.int many), y, .val (.int (b' % many)), .no], tpS T xs a' (b' / many) c'⟩ := by
      simp [M.bind, M.ret, R.bind, cSeq, cRet, cVar, cOp, cAnd, cOr, cNot, cIf, cAndT, cOrT, cNotT, asB, cB, cNext, cIfS, cSet, CS.put, cChain, dLe, dLt, dGt, dGe, dI2, startC, outF, fnB, cIsi, CS.knOf, tyB, isKn, isTy, M.guard, cTru, dTru, liftF, cCall, cCons, cFor, forL, cEnum, dEnum, cTg, cLc, lcL, wipeC, cWalk, dWalk, cNever, cSetTp, putAll, bLen, cFld, CS.fld, cProp, noExc, CS.clsOf, cCallS, dItems, cLenP, cIxP, CS.see, cApp, CS.pl, CS.wr, Pl.xs, dNeg, cSetIx, cStore, froz, cLst, cCutL, dCutL, cNoPart, cPart, dPart, CS.seqL, bList, M.opt, dIx, tpS, ix2, h, dMod, dDiv, md, hm, ixN4.2.1]
    show outF (cSeq pkA (cSeq pkB pkC) ⟨[.val (.ref 0), .val (.int many), .no, .no, .no], tpS T xs a b c⟩) = _
    rw [cSeq_next e, cSeq_ret e2]
    rfl
  · have b0 : b' = 0 := by omega
    subst b0
    have hs : 0 ≤ c' * c' % 2147483587 ∧ c' * c' % 2147483587 < 2147483587 := ⟨by omega, by omega⟩
    have hn : 0 ≤ (c' * c' % 2147483587 * 30011 + c' * 16807 + 9973) % 2147483587 ∧ (c' * c' % 2147483587 * 30011 + c' * 16807 + 9973) % 2147483587 < 2147483587 := ⟨by omega, by omega⟩
    have e2 : pkB ⟨[.val (.ref 0), .val (.int many), y, .no, .no], tpS T xs a' 0 c'⟩ = .ok .next ⟨[.val (.ref 0), .val (.int many), y, .no, .no], tpS T xs a' 0 c'⟩ := by
      simp [M.bind, M.ret, R.bind, cSeq, cRet, cVar, cOp, cAnd, cOr, cNot, cIf, cAndT, cOrT, cNotT, asB, cB, cNext, cIfS, cSet, CS.put, cChain, dLe, dLt, dGt, dGe, dI2, startC, outF, fnB, cIsi, CS.knOf, tyB, isKn, isTy, M.guard, cTru, dTru, liftF, cCall, cCons, cFor, forL, cEnum, dEnum, cTg, cLc, lcL, wipeC, cWalk, dWalk, cNever, cSetTp, putAll, bLen, cFld, CS.fld, cProp, noExc, CS.clsOf, cCallS, dItems, cLenP, cIxP, CS.see, cApp, CS.pl, CS.wr, Pl.xs, dNeg, cSetIx, cStore, froz, cLst, cCutL, dCutL, cNoPart, cPart, dPart, CS.seqL, bList, M.opt, dIx, tpS, ix2]
    generalize hq : (c' * c' % 2147483587 * 30011 + c' * 16807 + 9973) % 2147483587 = w at hn
    refine ⟨(w / 83 + w % 7919 * 53) % many, tpS T xs a' 0 w, ?_, ⟨T, xs, a', 0, w, rfl, hl, by omega, hn.1, hn.2⟩, Int.emod_nonneg _ (by omega), Int.emod_lt_of_pos _ hm⟩
    have m1 : cMul c' c' = true := by unfold cMul; simp [M.bind, M.ret, R.bind, cSeq, cRet, cVar, cOp, cAnd, cOr, cNot, cIf, cAndT, cOrT, cNotT, asB, cB, cNext, cIfS, cSet, CS.put, cChain, dLe, dLt, dGt, dGe, dI2, startC, outF, fnB, cIsi, CS.knOf, tyB, isKn, isTy, M.guard, cTru, dTru, liftF, cCall, cCons, cFor, forL, cEnum, dEnum, cTg, cLc, lcL, wipeC, cWalk, dWalk, cNever, cSetTp, putAll, bLen, cFld, CS.fld, cProp, noExc, CS.clsOf, cCallS, dItems, cLenP, cIxP, CS.see, cApp, CS.pl, CS.wr, Pl.xs, dNeg, cSetIx, cStore, froz, cLst, cCutL, dCutL, cNoPart, cPart, dPart, CS.seqL, bList, M.opt]; omega
    have m2 : ∀ z : Int, cMul z 30011 = true := fun z => by unfold cMul; simp [M.bind, M.ret, R.bind, cSeq, cRet, cVar, cOp, cAnd, cOr, cNot, cIf, cAndT, cOrT, cNotT, asB, cB, cNext, cIfS, cSet, CS.put, cChain, dLe, dLt, dGt, dGe, dI2, startC, outF, fnB, cIsi, CS.knOf, tyB, isKn, isTy, M.guard, cTru, dTru, liftF, cCall, cCons, cFor, forL, cEnum, dEnum, cTg, cLc, lcL, wipeC, cWalk, dWalk, cNever, cSetTp, putAll, bLen, cFld, CS.fld, cProp, noExc, CS.clsOf, cCallS, dItems, cLenP, cIxP, CS.see, cApp, CS.pl, CS.wr, Pl.xs, dNeg, cSetIx, cStore, froz, cLst, cCutL, dCutL, cNoPart, cPart, dPart, CS.seqL, bList, M.opt]
    have m3 : ∀ z : Int, cMul z 16807 = true := fun z => by unfold cMul; simp [M.bind, M.ret, R.bind, cSeq, cRet, cVar, cOp, cAnd, cOr, cNot, cIf, cAndT, cOrT, cNotT, asB, cB, cNext, cIfS, cSet, CS.put, cChain, dLe, dLt, dGt, dGe, dI2, startC, outF, fnB, cIsi, CS.knOf, tyB, isKn, isTy, M.guard, cTru, dTru, liftF, cCall, cCons, cFor, forL, cEnum, dEnum, cTg, cLc, lcL, wipeC, cWalk, dWalk, cNever, cSetTp, putAll, bLen, cFld, CS.fld, cProp, noExc, CS.clsOf, cCallS, dItems, cLenP, cIxP, CS.see, cApp, CS.pl, CS.wr, Pl.xs, dNeg, cSetIx, cStore, froz, cLst, cCutL, dCutL, cNoPart, cPart, dPart, CS.seqL, bList, M.opt]
    have m4 : ∀ z : Int, cMul z 53 = true := fun z => by unfold cMul; simp [M.bind, M.ret, R.bind, cSeq, cRet, cVar, cOp, cAnd, cOr, cNot, cIf, cAndT, cOrT, cNotT, asB, cB, cNext, cIfS, cSet, CS.put, cChain, dLe, dLt, dGt, dGe, dI2, startC, outF, fnB, cIsi, CS.knOf, tyB, isKn, isTy, M.guard, cTru, dTru, liftF, cCall, cCons, cFor, forL, cEnum, dEnum, cTg, cLc, lcL, wipeC, cWalk, dWalk, cNever, cSetTp, putAll, bLen, cFld, CS.fld, cProp, noExc, CS.clsOf, cCallS, dItems, cLenP, cIxP, CS.see, cApp, CS.pl, CS.wr, Pl.xs, dNeg, cSetIx, cStore, froz, cLst, cCutL, dCutL, cNoPart, cPart, dPart, CS.seqL, bList, M.opt]
    have m5 : ∀ z : Int, cDiv z 83 = true := fun z => by unfold cDiv; simp [M.bind, M.ret, R.bind, cSeq, cRet, cVar, cOp, cAnd, cOr, cNot, cIf, cAndT, cOrT, cNotT, asB, cB, cNext, cIfS, cSet, CS.put, cChain, dLe, dLt, dGt, dGe, dI2, startC, outF, fnB, cIsi, CS.knOf, tyB, isKn, isTy, M.guard, cTru, dTru, liftF, cCall, cCons, cFor, forL, cEnum, dEnum, cTg, cLc, lcL, wipeC, cWalk, dWalk, cNever, cSetTp, putAll, bLen, cFld, CS.fld, cProp, noExc, CS.clsOf, cCallS, dItems, cLenP, cIxP, CS.see, cApp, CS.pl, CS.wr, Pl.xs, dNeg, cSetIx, cStore, froz, cLst, cCutL, dCutL, cNoPart, cPart, dPart, CS.seqL, bList, M.opt]
    have e3 : pkC ⟨[.val (.ref 0), .val (.int many), y, .no, .no], tpS T xs a' 0 c'⟩ = .ok (.ret (.int ((w / 83 + w % 7919 * 53) % many))) ⟨[.val (.ref 0), .val (.int many), y, .no, .val (.int (c' * c' % 2147483587))], tpS T xs a' 0 w⟩ := by
      simp [M.bind, M.ret, R.bind, cSeq, cRet, cVar, cOp, cAnd, cOr, cNot, cIf, cAndT, cOrT, cNotT, asB, cB, cNext, cIfS, cSet, CS.put, cChain, dLe, dLt, dGt, dGe, dI2, startC, outF, fnB, cIsi, CS.knOf, tyB, isKn, isTy, M.guard, cTru, dTru, liftF, cCall, cCons, cFor, forL, cEnum, dEnum, cTg, cLc, lcL, wipeC, cWalk, dWalk, cNever, cSetTp, putAll, bLen, cFld, CS.fld, cProp, noExc, CS.clsOf, cCallS, dItems, cLenP, cIxP, CS.see, cApp, CS.pl, CS.wr, Pl.xs, dNeg, cSetIx, cStore, froz, cLst, cCutL, dCutL, cNoPart, cPart, dPart, CS.seqL, bList, M.opt, dIx, tpS, ix3, dMod, dDiv, dMul, dAdd, m1, m2, m3, m4, m5, hm, ixN4.2.2, hq]
    show outF (cSeq pkA (cSeq pkB pkC) ⟨[.val (.ref 0), .val (.int many), .no, .no, .no], tpS T xs a b c⟩) = _
    rw [cSeq_next e, cSeq_next e2, e3]
    rfl
end K35
namespace K35
open CL PySem
theorem s_rowL (lv top way : Int) (ht : 0 < top) (ht2 : top ≤ 12) (ds : List D) : ∀ (rs : List Int) (S : List O), rs.length + ds.length ≤ 1000 → (∀ r ∈ rs, 1 ≤ r ∧ r ≤ top) → TapeOk S →
    ∃ (rs' : List Int) (S' : List O), lcL (.nm 5) (M.ret true) (cOp dAdd (M.ret (.int 1)) (cCall fn_law_pick (cCons (cVar 0) (cCons (cVar 2) (M.ret []))))) [5] ds (rs.map .int) ⟨[.val (.ref 0), .val (.int lv), .val (.int top), .val (.int way), .no, .no], S⟩ = .ok (rs'.map .int) ⟨[.val (.ref 0), .val (.int lv), .val (.int top), .val (.int way), .no, .no], S'⟩ ∧ TapeOk S' ∧ rs'.length = rs.length + ds.length ∧ ∀ r ∈ rs', 1 ≤ r ∧ r ≤ top := by
  induction ds with
  | nil => intro rs S _ h hS; exact ⟨rs, S, by simp [M.bind, M.ret, R.bind, cSeq, cRet, cVar, cOp, cAnd, cOr, cNot, cIf, cAndT, cOrT, cNotT, asB, cB, cNext, cIfS, cSet, CS.put, cChain, dLe, dLt, dGt, dGe, dI2, startC, outF, fnB, cIsi, CS.knOf, tyB, isKn, isTy, M.guard, cTru, dTru, liftF, cCall, cCons, cFor, forL, cEnum, dEnum, cTg, cLc, lcL, wipeC, cWalk, dWalk, cNever, cSetTp, putAll, bLen, cFld, CS.fld, cProp, noExc, CS.clsOf, cCallS, dItems, cLenP, cIxP, CS.see, cApp, CS.pl, CS.wr, Pl.xs, dNeg, cSetIx, cStore, froz, cLst, cCutL, dCutL, cNoPart, cPart, dPart, CS.seqL, bList, M.opt], hS, by simp [M.bind, M.ret, R.bind, cSeq, cRet, cVar, cOp, cAnd, cOr, cNot, cIf, cAndT, cOrT, cNotT, asB, cB, cNext, cIfS, cSet, CS.put, cChain, dLe, dLt, dGt, dGe, dI2, startC, outF, fnB, cIsi, CS.knOf, tyB, isKn, isTy, M.guard, cTru, dTru, liftF, cCall, cCons, cFor, forL, cEnum, dEnum, cTg, cLc, lcL, wipeC, cWalk, dWalk, cNever, cSetTp, putAll, bLen, cFld, CS.fld, cProp, noExc, CS.clsOf, cCallS, dItems, cLenP, cIxP, CS.see, cApp, CS.pl, CS.wr, Pl.xs, dNeg, cSetIx, cStore, froz, cLst, cCutL, dCutL, cNoPart, cPart, dPart, CS.seqL, bList, M.opt], h⟩
  | cons d ds ih =>
    intro rs S hl h hS
    simp [M.bind, M.ret, R.bind, cSeq, cRet, cVar, cOp, cAnd, cOr, cNot, cIf, cAndT, cOrT, cNotT, asB, cB, cNext, cIfS, cSet, CS.put, cChain, dLe, dLt, dGt, dGe, dI2, startC, outF, fnB, cIsi, CS.knOf, tyB, isKn, isTy, M.guard, cTru, dTru, liftF, cCall, cCons, cFor, forL, cEnum, dEnum, cTg, cLc, lcL, wipeC, cWalk, dWalk, cNever, cSetTp, putAll, bLen, cFld, CS.fld, cProp, noExc, CS.clsOf, cCallS, dItems, cLenP, cIxP, CS.see, cApp, CS.pl, CS.wr, Pl.xs, dNeg, cSetIx, cStore, froz, cLst, cCutL, dCutL, cNoPart, cPart, dPart, CS.seqL, bList, M.opt] at hl
    obtain ⟨v, S', e, hS', v0, v1⟩ := s_pick top S ht (by omega) hS
    obtain ⟨rs', S2, e2, hS2, l2, h2⟩ := ih (rs ++ [1 + v]) S' (by simp [M.bind, M.ret, R.bind, cSeq, cRet, cVar, cOp, cAnd, cOr, cNot, cIf, cAndT, cOrT, cNotT, asB, cB, cNext, cIfS, cSet, CS.put, cChain, dLe, dLt, dGt, dGe, dI2, startC, outF, fnB, cIsi, CS.knOf, tyB, isKn, isTy, M.guard, cTru, dTru, liftF, cCall, cCons, cFor, forL, cEnum, dEnum, cTg, cLc, lcL, wipeC, cWalk, dWalk, cNever, cSetTp, putAll, bLen, cFld, CS.fld, cProp, noExc, CS.clsOf, cCallS, dItems, cLenP, cIxP, CS.see, cApp, CS.pl, CS.wr, Pl.xs, dNeg, cSetIx, cStore, froz, cLst, cCutL, dCutL, cNoPart, cPart, dPart, CS.seqL, bList, M.opt]; omega) (fun r hr => by
      simp [M.bind, M.ret, R.bind, cSeq, cRet, cVar, cOp, cAnd, cOr, cNot, cIf, cAndT, cOrT, cNotT, asB, cB, cNext, cIfS, cSet, CS.put, cChain, dLe, dLt, dGt, dGe, dI2, startC, outF, fnB, cIsi, CS.knOf, tyB, isKn, isTy, M.guard, cTru, dTru, liftF, cCall, cCons, cFor, forL, cEnum, dEnum, cTg, cLc, lcL, wipeC, cWalk, dWalk, cNever, cSetTp, putAll, bLen, cFld, CS.fld, cProp, noExc, CS.clsOf, cCallS, dItems, cLenP, cIxP, CS.see, cApp, CS.pl, CS.wr, Pl.xs, dNeg, cSetIx, cStore, froz, cLst, cCutL, dCutL, cNoPart, cPart, dPart, CS.seqL, bList, M.opt] at hr
      rcases hr with hr | hr
      · exact h r hr
      · omega) hS'
    refine ⟨rs', S2, ?_, hS2, by simp [M.bind, M.ret, R.bind, cSeq, cRet, cVar, cOp, cAnd, cOr, cNot, cIf, cAndT, cOrT, cNotT, asB, cB, cNext, cIfS, cSet, CS.put, cChain, dLe, dLt, dGt, dGe, dI2, startC, outF, fnB, cIsi, CS.knOf, tyB, isKn, isTy, M.guard, cTru, dTru, liftF, cCall, cCons, cFor, forL, cEnum, dEnum, cTg, cLc, lcL, wipeC, cWalk, dWalk, cNever, cSetTp, putAll, bLen, cFld, CS.fld, cProp, noExc, CS.clsOf, cCallS, dItems, cLenP, cIxP, CS.see, cApp, CS.pl, CS.wr, Pl.xs, dNeg, cSetIx, cStore, froz, cLst, cCutL, dCutL, cNoPart, cPart, dPart, CS.seqL, bList, M.opt] at l2 ⊢; omega, h2⟩
    have hz : rs.length < sizeLine := Nat.lt_of_lt_of_le (by omega : rs.length < 1001) (by decide)
    simp [M.bind, M.ret, R.bind, cSeq, cRet, cVar, cOp, cAnd, cOr, cNot, cIf, cAndT, cOrT, cNotT, asB, cB, cNext, cIfS, cSet, CS.put, cChain, dLe, dLt, dGt, dGe, dI2, startC, outF, fnB, cIsi, CS.knOf, tyB, isKn, isTy, M.guard, cTru, dTru, liftF, cCall, cCons, cFor, forL, cEnum, dEnum, cTg, cLc, lcL, wipeC, cWalk, dWalk, cNever, cSetTp, putAll, bLen, cFld, CS.fld, cProp, noExc, CS.clsOf, cCallS, dItems, cLenP, cIxP, CS.see, cApp, CS.pl, CS.wr, Pl.xs, dNeg, cSetIx, cStore, froz, cLst, cCutL, dCutL, cNoPart, cPart, dPart, CS.seqL, bList, M.opt, e, dAdd, hz] at e2 ⊢
    exact e2
theorem eqv_nil (xs : List Int) : PyData.eqv (.list (xs.map .int)) (.list []) = decide (xs = []) := by
  cases xs <;> simp [M.bind, M.ret, R.bind, cSeq, cRet, cVar, cOp, cAnd, cOr, cNot, cIf, cAndT, cOrT, cNotT, asB, cB, cNext, cIfS, cSet, CS.put, cChain, dLe, dLt, dGt, dGe, dI2, startC, outF, fnB, cIsi, CS.knOf, tyB, isKn, isTy, M.guard, cTru, dTru, liftF, cCall, cCons, cFor, forL, cEnum, dEnum, cTg, cLc, lcL, wipeC, cWalk, dWalk, cNever, cSetTp, putAll, bLen, cFld, CS.fld, cProp, noExc, CS.clsOf, cCallS, dItems, cLenP, cIxP, CS.see, cApp, CS.pl, CS.wr, Pl.xs, dNeg, cSetIx, cStore, froz, cLst, cCutL, dCutL, cNoPart, cPart, dPart, CS.seqL, bList, M.opt, PyData.eqv, PyData.eqvAll]
theorem shp_ints (xs : List Int) : SeqAt.shaped (.list (xs.map .int)) = true := by
  have h := dep_ints xs
  unfold SeqAt.shaped
  simp [M.bind, M.ret, R.bind, cSeq, cRet, cVar, cOp, cAnd, cOr, cNot, cIf, cAndT, cOrT, cNotT, asB, cB, cNext, cIfS, cSet, CS.put, cChain, dLe, dLt, dGt, dGe, dI2, startC, outF, fnB, cIsi, CS.knOf, tyB, isKn, isTy, M.guard, cTru, dTru, liftF, cCall, cCons, cFor, forL, cEnum, dEnum, cTg, cLc, lcL, wipeC, cWalk, dWalk, cNever, cSetTp, putAll, bLen, cFld, CS.fld, cProp, noExc, CS.clsOf, cCallS, dItems, cLenP, cIxP, CS.see, cApp, CS.pl, CS.wr, Pl.xs, dNeg, cSetIx, cStore, froz, cLst, cCutL, dCutL, cNoPart, cPart, dPart, CS.seqL, bList, M.opt, PyData.canLay0, lay_ints, PyData.depth]
  omega
theorem s_neP (i : Nat) (xs : List Int) (c : CS) (h : c.see i = some (xs.map .int)) : cEqP true i (froz (cLst (M.ret []))) c = .ok (.bl (!decide (xs = []))) c := by
  have z0 : szOk 0 = true := szOk_small (by omega)
  have e : froz (cLst (M.ret [])) c = .ok (.lst []) c := by simp [M.bind, M.ret, R.bind, cSeq, cRet, cVar, cOp, cAnd, cOr, cNot, cIf, cAndT, cOrT, cNotT, asB, cB, cNext, cIfS, cSet, CS.put, cChain, dLe, dLt, dGt, dGe, dI2, startC, outF, fnB, cIsi, CS.knOf, tyB, isKn, isTy, M.guard, cTru, dTru, liftF, cCall, cCons, cFor, forL, cEnum, dEnum, cTg, cLc, lcL, wipeC, cWalk, dWalk, cNever, cSetTp, putAll, bLen, cFld, CS.fld, cProp, noExc, CS.clsOf, cCallS, dItems, cLenP, cIxP, CS.see, cApp, CS.pl, CS.wr, Pl.xs, dNeg, cSetIx, cStore, froz, cLst, cCutL, dCutL, cNoPart, cPart, dPart, CS.seqL, bList, M.opt, z0]
  have t : toP (.lst []) = some (.list []) := by simp [M.bind, M.ret, R.bind, cSeq, cRet, cVar, cOp, cAnd, cOr, cNot, cIf, cAndT, cOrT, cNotT, asB, cB, cNext, cIfS, cSet, CS.put, cChain, dLe, dLt, dGt, dGe, dI2, startC, outF, fnB, cIsi, CS.knOf, tyB, isKn, isTy, M.guard, cTru, dTru, liftF, cCall, cCons, cFor, forL, cEnum, dEnum, cTg, cLc, lcL, wipeC, cWalk, dWalk, cNever, cSetTp, putAll, bLen, cFld, CS.fld, cProp, noExc, CS.clsOf, cCallS, dItems, cLenP, cIxP, CS.see, cApp, CS.pl, CS.wr, Pl.xs, dNeg, cSetIx, cStore, froz, cLst, cCutL, dCutL, cNoPart, cPart, dPart, CS.seqL, bList, M.opt, toP, toPs]
  have sh0 : SeqAt.shaped (.list []) = true := shp_ints []
  unfold cEqP
  rw [h]
  dsimp only
  rw [e]
  show (match c.see i with
    | some ys => match toPs ys, toP (.lst []) with
      | some ps, some q => M.guard (SeqAt.shaped (.list ps) && SeqAt.shaped q) (M.ret (D.bl (if true then !PyData.eqv (.list ps) q else PyData.eqv (.list ps) q))) c
      | _, _ => .stuck
    | none => .stuck) = _
  rw [h]
  dsimp only
  rw [toPs_int, t]
  dsimp only
  rw [shp_ints, sh0, eqv_nil]
  rfl
theorem sortI_mem {ns : List Int} {x : Int} (h : x ∈ sortI ns) : x ∈ ns := (sortI_perm ns).mem_iff.mp h
theorem sortI_len (ns : List Int) : (sortI ns).length = ns.length := (sortI_perm ns).length_eq
theorem asInts_map (ns : List Int) : asInts (ns.map D.int) = some ns := by
  induction ns with
  | nil => rfl
  | cons b bs ih => simp [M.bind, M.ret, R.bind, cSeq, cRet, cVar, cOp, cAnd, cOr, cNot, cIf, cAndT, cOrT, cNotT, asB, cB, cNext, cIfS, cSet, CS.put, cChain, dLe, dLt, dGt, dGe, dI2, startC, outF, fnB, cIsi, CS.knOf, tyB, isKn, isTy, M.guard, cTru, dTru, liftF, cCall, cCons, cFor, forL, cEnum, dEnum, cTg, cLc, lcL, wipeC, cWalk, dWalk, cNever, cSetTp, putAll, bLen, cFld, CS.fld, cProp, noExc, CS.clsOf, cCallS, dItems, cLenP, cIxP, CS.see, cApp, CS.pl, CS.wr, Pl.xs, dNeg, cSetIx, cStore, froz, cLst, cCutL, dCutL, cNoPart, cPart, dPart, CS.seqL, bList, M.opt, asInts, ih]
theorem rangeD_len (lo : Int) (n : Nat) : (rangeD lo n).length = n := by unfold rangeD; simp [M.bind, M.ret, R.bind, cSeq, cRet, cVar, cOp, cAnd, cOr, cNot, cIf, cAndT, cOrT, cNotT, asB, cB, cNext, cIfS, cSet, CS.put, cChain, dLe, dLt, dGt, dGe, dI2, startC, outF, fnB, cIsi, CS.knOf, tyB, isKn, isTy, M.guard, cTru, dTru, liftF, cCall, cCons, cFor, forL, cEnum, dEnum, cTg, cLc, lcL, wipeC, cWalk, dWalk, cNever, cSetTp, putAll, bLen, cFld, CS.fld, cProp, noExc, CS.clsOf, cCallS, dItems, cLenP, cIxP, CS.see, cApp, CS.pl, CS.wr, Pl.xs, dNeg, cSetIx, cStore, froz, cLst, cCutL, dCutL, cNoPart, cPart, dPart, CS.seqL, bList, M.opt]
theorem s_lrow (lv top : Int) (S : List O) (hv : 0 ≤ lv) (hv2 : lv ≤ 12) (ht : 0 < top) (ht2 : top ≤ 12) (hS : TapeOk S) : ∃ (r : List Int) (S' : List O), fn_law_row [.ref 0, .int lv, .int top] S = .ok (rowD r) S' ∧ TapeOk S' ∧ (r.length : Int) ≤ lv ∧ ∀ x ∈ r, 1 ≤ x ∧ x ≤ top := by
  obtain ⟨way, S1, e1, hS1, w0, w1⟩ := s_pick 4 S (by omega) (by omega) hS
  obtain ⟨n, S2, e2, hS2, n0, n1⟩ := s_pick (lv + 1) S1 (by omega) (by omega) hS1
  obtain ⟨rs, S3, e3, hS3, l3, h3⟩ := s_rowL lv top way ht ht2 (rangeD 0 n.toNat) [] S2 (by rw [rangeD_len]; simp [M.bind, M.ret, R.bind, cSeq, cRet, cVar, cOp, cAnd, cOr, cNot, cIf, cAndT, cOrT, cNotT, asB, cB, cNext, cIfS, cSet, CS.put, cChain, dLe, dLt, dGt, dGe, dI2, startC, outF, fnB, cIsi, CS.knOf, tyB, isKn, isTy, M.guard, cTru, dTru, liftF, cCall, cCons, cFor, forL, cEnum, dEnum, cTg, cLc, lcL, wipeC, cWalk, dWalk, cNever, cSetTp, putAll, bLen, cFld, CS.fld, cProp, noExc, CS.clsOf, cCallS, dItems, cLenP, cIxP, CS.see, cApp, CS.pl, CS.wr, Pl.xs, dNeg, cSetIx, cStore, froz, cLst, cCutL, dCutL, cNoPart, cPart, dPart, CS.seqL, bList, M.opt]; omega) (fun r hr => by simp [M.bind, M.ret, R.bind, cSeq, cRet, cVar, cOp, cAnd, cOr, cNot, cIf, cAndT, cOrT, cNotT, asB, cB, cNext, cIfS, cSet, CS.put, cChain, dLe, dLt, dGt, dGe, dI2, startC, outF, fnB, cIsi, CS.knOf, tyB, isKn, isTy, M.guard, cTru, dTru, liftF, cCall, cCons, cFor, forL, cEnum, dEnum, cTg, cLc, lcL, wipeC, cWalk, dWalk, cNever, cSetTp, putAll, bLen, cFld, CS.fld, cProp, noExc, CS.clsOf, cCallS, dItems, cLenP, cIxP, CS.see, cApp, CS.pl, CS.wr, Pl.xs, dNeg, cSetIx, cStore, froz, cLst, cCutL, dCutL, cNoPart, cPart, dPart, CS.seqL, bList, M.opt] at hr) hS2
  rw [rangeD_len] at l3
  simp [M.bind, M.ret, R.bind, cSeq, cRet, cVar, cOp, cAnd, cOr, cNot, cIf, cAndT, cOrT, cNotT, asB, cB, cNext, cIfS, cSet, CS.put, cChain, dLe, dLt, dGt, dGe, dI2, startC, outF, fnB, cIsi, CS.knOf, tyB, isKn, isTy, M.guard, cTru, dTru, liftF, cCall, cCons, cFor, forL, cEnum, dEnum, cTg, cLc, lcL, wipeC, cWalk, dWalk, cNever, cSetTp, putAll, bLen, cFld, CS.fld, cProp, noExc, CS.clsOf, cCallS, dItems, cLenP, cIxP, CS.see, cApp, CS.pl, CS.wr, Pl.xs, dNeg, cSetIx, cStore, froz, cLst, cCutL, dCutL, cNoPart, cPart, dPart, CS.seqL, bList, M.opt] at l3
  have hf : fitsR n = true := by unfold fitsR; simp [M.bind, M.ret, R.bind, cSeq, cRet, cVar, cOp, cAnd, cOr, cNot, cIf, cAndT, cOrT, cNotT, asB, cB, cNext, cIfS, cSet, CS.put, cChain, dLe, dLt, dGt, dGe, dI2, startC, outF, fnB, cIsi, CS.knOf, tyB, isKn, isTy, M.guard, cTru, dTru, liftF, cCall, cCons, cFor, forL, cEnum, dEnum, cTg, cLc, lcL, wipeC, cWalk, dWalk, cNever, cSetTp, putAll, bLen, cFld, CS.fld, cProp, noExc, CS.clsOf, cCallS, dItems, cLenP, cIxP, CS.see, cApp, CS.pl, CS.wr, Pl.xs, dNeg, cSetIx, cStore, froz, cLst, cCutL, dCutL, cNoPart, cPart, dPart, CS.seqL, bList, M.opt]; omega
  have g1 : cSet 3 (cCall fn_law_pick (cCons (cVar 0) (cCons (M.ret (.int 4)) (M.ret [])))) ⟨[.val (.ref 0), .val (.int lv), .val (.int top), .no, .no, .no], S⟩ = .ok .next ⟨[.val (.ref 0), .val (.int lv), .val (.int top), .val (.int way), .no, .no], S1⟩ := by
    simp [M.bind, M.ret, R.bind, cSeq, cRet, cVar, cOp, cAnd, cOr, cNot, cIf, cAndT, cOrT, cNotT, asB, cB, cNext, cIfS, cSet, CS.put, cChain, dLe, dLt, dGt, dGe, dI2, startC, outF, fnB, cIsi, CS.knOf, tyB, isKn, isTy, M.guard, cTru, dTru, liftF, cCall, cCons, cFor, forL, cEnum, dEnum, cTg, cLc, lcL, wipeC, cWalk, dWalk, cNever, cSetTp, putAll, bLen, cFld, CS.fld, cProp, noExc, CS.clsOf, cCallS, dItems, cLenP, cIxP, CS.see, cApp, CS.pl, CS.wr, Pl.xs, dNeg, cSetIx, cStore, froz, cLst, cCutL, dCutL, cNoPart, cPart, dPart, CS.seqL, bList, M.opt, e1]
  have g2 : cSetL 4 (cLc (cRange1 (cCall fn_law_pick (cCons (cVar 0) (cCons (cOp dAdd (cVar 1) (M.ret (.int 1))) (M.ret []))))) (.nm 5) (M.ret true) (cOp dAdd (M.ret (.int 1)) (cCall fn_law_pick (cCons (cVar 0) (cCons (cVar 2) (M.ret []))))) [5]) ⟨[.val (.ref 0), .val (.int lv), .val (.int top), .val (.int way), .no, .no], S1⟩ = .ok .next ⟨[.val (.ref 0), .val (.int lv), .val (.int top), .val (.int way), .own (.lst (rs.map .int)), .no], S3⟩ := by
    simp [M.bind, M.ret, R.bind, cSeq, cRet, cVar, cOp, cAnd, cOr, cNot, cIf, cAndT, cOrT, cNotT, asB, cB, cNext, cIfS, cSet, CS.put, cChain, dLe, dLt, dGt, dGe, dI2, startC, outF, fnB, cIsi, CS.knOf, tyB, isKn, isTy, M.guard, cTru, dTru, liftF, cCall, cCons, cFor, forL, cEnum, dEnum, cTg, cLc, wipeC, cWalk, dWalk, cNever, cSetTp, putAll, bLen, cFld, CS.fld, cProp, noExc, CS.clsOf, cCallS, dItems, cLenP, cIxP, CS.see, cApp, CS.pl, CS.wr, Pl.xs, dNeg, cSetIx, cStore, froz, cLst, cCutL, dCutL, cNoPart, cPart, dPart, CS.seqL, bList, M.opt, cSetL, cRange1, dAdd, e2, hf] at e3 ⊢
    rw [e3]
    simp [M.bind, M.ret, R.bind, cSeq, cRet, cVar, cOp, cAnd, cOr, cNot, cIf, cAndT, cOrT, cNotT, asB, cB, cNext, cIfS, cSet, CS.put, cChain, dLe, dLt, dGt, dGe, dI2, startC, outF, fnB, cIsi, CS.knOf, tyB, isKn, isTy, M.guard, cTru, dTru, liftF, cCall, cCons, cFor, forL, cEnum, dEnum, cTg, cLc, lcL, wipeC, cWalk, dWalk, cNever, cSetTp, putAll, bLen, cFld, CS.fld, cProp, noExc, CS.clsOf, cCallS, dItems, cLenP, cIxP, CS.see, cApp, CS.pl, CS.wr, Pl.xs, dNeg, cSetIx, cStore, froz, cLst, cCutL, dCutL, cNoPart, cPart, dPart, CS.seqL, bList, M.opt]
  -- sorted where way is 0
  obtain ⟨rs2, g3, l4, h4⟩ : ∃ rs2 : List Int, cIfS (asB (cOp dEq (cVar 3) (M.ret (.int 0)))) (cSeq (cSetL 4 ((cCons (cVar 4) (M.ret [])).bind bSorted)) cNext) cNext ⟨[.val (.ref 0), .val (.int lv), .val (.int top), .val (.int way), .own (.lst (rs.map .int)), .no], S3⟩ = .ok .next ⟨[.val (.ref 0), .val (.int lv), .val (.int top), .val (.int way), .own (.lst (rs2.map .int)), .no], S3⟩ ∧ rs2.length = rs.length ∧ ∀ r ∈ rs2, 1 ≤ r ∧ r ≤ top := by
    by_cases hw : way = 0
    · refine ⟨sortI rs, ?_, sortI_len rs, fun r hr => h3 r (sortI_mem hr)⟩
      simp [M.bind, M.ret, R.bind, cSeq, cRet, cVar, cOp, cAnd, cOr, cNot, cIf, cAndT, cOrT, cNotT, asB, cB, cNext, cIfS, cSet, CS.put, cChain, dLe, dLt, dGt, dGe, dI2, startC, outF, fnB, cIsi, CS.knOf, tyB, isKn, isTy, M.guard, cTru, dTru, liftF, cCall, cCons, cFor, forL, cEnum, dEnum, cTg, cLc, lcL, wipeC, cWalk, dWalk, cNever, cSetTp, putAll, bLen, cFld, CS.fld, cProp, noExc, CS.clsOf, cCallS, dItems, cLenP, cIxP, CS.see, cApp, CS.pl, CS.wr, Pl.xs, dNeg, cSetIx, cStore, froz, cLst, cCutL, dCutL, cNoPart, cPart, dPart, CS.seqL, bList, M.opt, dP_int, hw, cSetL, bSorted, bOne, asInts_map]
    · exact ⟨rs, by simp [M.bind, M.ret, R.bind, cSeq, cRet, cVar, cOp, cAnd, cOr, cNot, cIf, cAndT, cOrT, cNotT, asB, cB, cNext, cIfS, cSet, CS.put, cChain, dLe, dLt, dGt, dGe, dI2, startC, outF, fnB, cIsi, CS.knOf, tyB, isKn, isTy, M.guard, cTru, dTru, liftF, cCall, cCons, cFor, forL, cEnum, dEnum, cTg, cLc, lcL, wipeC, cWalk, dWalk, cNever, cSetTp, putAll, bLen, cFld, CS.fld, cProp, noExc, CS.clsOf, cCallS, dItems, cLenP, cIxP, CS.see, cApp, CS.pl, CS.wr, Pl.xs, dNeg, cSetIx, cStore, froz, cLst, cCutL, dCutL, cNoPart, cPart, dPart, CS.seqL, bList, M.opt, dP_int, hw], rfl, h3⟩
  obtain ⟨rs3, g4, l5, h5⟩ : ∃ rs3 : List Int, cIfS (cAndT (asB (cOp dEq (cVar 3) (M.ret (.int 1)))) (asB (cEqP true 4 (froz (cLst (M.ret [])))))) (cSeq (cSetIx 4 (M.ret (.int 0)) (M.ret (.int 1))) cNext) cNext ⟨[.val (.ref 0), .val (.int lv), .val (.int top), .val (.int way), .own (.lst (rs2.map .int)), .no], S3⟩ = .ok .next ⟨[.val (.ref 0), .val (.int lv), .val (.int top), .val (.int way), .own (.lst (rs3.map .int)), .no], S3⟩ ∧ rs3.length = rs2.length ∧ ∀ r ∈ rs3, 1 ≤ r ∧ r ≤ top := by
    have ne := s_neP 4 rs2 ⟨[.val (.ref 0), .val (.int lv), .val (.int top), .val (.int way), .own (.lst (rs2.map .int)), .no], S3⟩ rfl
    by_cases hw : way = 1
    · subst hw
      cases rs2 with
      | nil => exact ⟨[], by simp [M.bind, M.ret, R.bind, cSeq, cRet, cVar, cOp, cAnd, cOr, cNot, cIf, cAndT, cOrT, cNotT, asB, cB, cNext, cIfS, cSet, CS.put, cChain, dLe, dLt, dGt, dGe, dI2, startC, outF, fnB, cIsi, CS.knOf, tyB, isKn, isTy, M.guard, cTru, dTru, liftF, cCall, cCons, cFor, forL, cEnum, dEnum, cTg, cLc, lcL, wipeC, cWalk, dWalk, cNever, cSetTp, putAll, bLen, cFld, CS.fld, cProp, noExc, CS.clsOf, cCallS, dItems, cLenP, cIxP, CS.see, cApp, CS.pl, CS.wr, Pl.xs, dNeg, cSetIx, cStore, cCutL, dCutL, cNoPart, cPart, dPart, CS.seqL, bList, M.opt, dP_int] at ne ⊢; rw [ne], rfl, fun r hr => by simp [M.bind, M.ret, R.bind, cSeq, cRet, cVar, cOp, cAnd, cOr, cNot, cIf, cAndT, cOrT, cNotT, asB, cB, cNext, cIfS, cSet, CS.put, cChain, dLe, dLt, dGt, dGe, dI2, startC, outF, fnB, cIsi, CS.knOf, tyB, isKn, isTy, M.guard, cTru, dTru, liftF, cCall, cCons, cFor, forL, cEnum, dEnum, cTg, cLc, lcL, wipeC, cWalk, dWalk, cNever, cSetTp, putAll, bLen, cFld, CS.fld, cProp, noExc, CS.clsOf, cCallS, dItems, cLenP, cIxP, CS.see, cApp, CS.pl, CS.wr, Pl.xs, dNeg, cSetIx, cStore, froz, cLst, cCutL, dCutL, cNoPart, cPart, dPart, CS.seqL, bList, M.opt] at hr⟩
      | cons x rs2 =>
        refine ⟨1 :: rs2, ?_, rfl, fun r hr => ?_⟩
        · simp [M.bind, M.ret, R.bind, cSeq, cRet, cVar, cOp, cAnd, cOr, cNot, cIf, cAndT, cOrT, cNotT, asB, cB, cNext, cIfS, cSet, CS.put, cChain, dLe, dLt, dGt, dGe, dI2, startC, outF, fnB, cIsi, CS.knOf, tyB, isKn, isTy, M.guard, cTru, dTru, liftF, cCall, cCons, cFor, forL, cEnum, dEnum, cTg, cLc, lcL, wipeC, cWalk, dWalk, cNever, cSetTp, putAll, bLen, cFld, CS.fld, cProp, noExc, CS.clsOf, cCallS, dItems, cLenP, cIxP, CS.see, cApp, CS.pl, CS.wr, Pl.xs, dNeg, cSetIx, cStore, cCutL, dCutL, cNoPart, cPart, dPart, CS.seqL, bList, M.opt, dP_int] at ne ⊢
          rw [ne]
          simp [M.bind, M.ret, R.bind, cSeq, cRet, cVar, cOp, cAnd, cOr, cNot, cIf, cAndT, cOrT, cNotT, asB, cB, cNext, cIfS, cSet, CS.put, cChain, dLe, dLt, dGt, dGe, dI2, startC, outF, fnB, cIsi, CS.knOf, tyB, isKn, isTy, M.guard, cTru, dTru, liftF, cCall, cCons, cFor, forL, cEnum, dEnum, cTg, cLc, lcL, wipeC, cWalk, dWalk, cNever, cSetTp, putAll, bLen, cFld, CS.fld, cProp, noExc, CS.clsOf, cCallS, dItems, cLenP, cIxP, CS.see, cApp, CS.pl, CS.wr, Pl.xs, dNeg, cSetIx, cStore, froz, cLst, cCutL, dCutL, cNoPart, cPart, dPart, CS.seqL, bList, M.opt, L2.ixN]
        · simp [M.bind, M.ret, R.bind, cSeq, cRet, cVar, cOp, cAnd, cOr, cNot, cIf, cAndT, cOrT, cNotT, asB, cB, cNext, cIfS, cSet, CS.put, cChain, dLe, dLt, dGt, dGe, dI2, startC, outF, fnB, cIsi, CS.knOf, tyB, isKn, isTy, M.guard, cTru, dTru, liftF, cCall, cCons, cFor, forL, cEnum, dEnum, cTg, cLc, lcL, wipeC, cWalk, dWalk, cNever, cSetTp, putAll, bLen, cFld, CS.fld, cProp, noExc, CS.clsOf, cCallS, dItems, cLenP, cIxP, CS.see, cApp, CS.pl, CS.wr, Pl.xs, dNeg, cSetIx, cStore, froz, cLst, cCutL, dCutL, cNoPart, cPart, dPart, CS.seqL, bList, M.opt] at hr
          rcases hr with hr | hr
          · omega
          · exact h4 r (by simp [M.bind, M.ret, R.bind, cSeq, cRet, cVar, cOp, cAnd, cOr, cNot, cIf, cAndT, cOrT, cNotT, asB, cB, cNext, cIfS, cSet, CS.put, cChain, dLe, dLt, dGt, dGe, dI2, startC, outF, fnB, cIsi, CS.knOf, tyB, isKn, isTy, M.guard, cTru, dTru, liftF, cCall, cCons, cFor, forL, cEnum, dEnum, cTg, cLc, lcL, wipeC, cWalk, dWalk, cNever, cSetTp, putAll, bLen, cFld, CS.fld, cProp, noExc, CS.clsOf, cCallS, dItems, cLenP, cIxP, CS.see, cApp, CS.pl, CS.wr, Pl.xs, dNeg, cSetIx, cStore, froz, cLst, cCutL, dCutL, cNoPart, cPart, dPart, CS.seqL, bList, M.opt, hr])
    · exact ⟨rs2, by simp [M.bind, M.ret, R.bind, cSeq, cRet, cVar, cOp, cAnd, cOr, cNot, cIf, cAndT, cOrT, cNotT, asB, cB, cNext, cIfS, cSet, CS.put, cChain, dLe, dLt, dGt, dGe, dI2, startC, outF, fnB, cIsi, CS.knOf, tyB, isKn, isTy, M.guard, cTru, dTru, liftF, cCall, cCons, cFor, forL, cEnum, dEnum, cTg, cLc, lcL, wipeC, cWalk, dWalk, cNever, cSetTp, putAll, bLen, cFld, CS.fld, cProp, noExc, CS.clsOf, cCallS, dItems, cLenP, cIxP, CS.see, cApp, CS.pl, CS.wr, Pl.xs, dNeg, cSetIx, cStore, froz, cLst, cCutL, dCutL, cNoPart, cPart, dPart, CS.seqL, bList, M.opt, dP_int, hw], rfl, h4⟩
  refine ⟨rs3, S3, ?_, hS3, by omega, h5⟩
  show outF (cSeq _ (cSeq _ (cSeq _ (cSeq _ (cSeq _ _)))) ⟨[.val (.ref 0), .val (.int lv), .val (.int top), .no, .no, .no], S⟩) = _
  rw [cSeq_next g1, cSeq_next g2, cSeq_next g3, cSeq_next g4]
  simp [M.bind, M.ret, R.bind, cSeq, cRet, cVar, cOp, cAnd, cOr, cNot, cIf, cAndT, cOrT, cNotT, asB, cB, cNext, cIfS, cSet, CS.put, cChain, dLe, dLt, dGt, dGe, dI2, startC, outF, fnB, cIsi, CS.knOf, tyB, isKn, isTy, M.guard, cTru, dTru, liftF, cCall, cCons, cFor, forL, cEnum, dEnum, cTg, cLc, lcL, wipeC, cWalk, dWalk, cNever, cSetTp, putAll, bLen, cFld, CS.fld, cProp, noExc, CS.clsOf, cCallS, dItems, cLenP, cIxP, CS.see, cApp, CS.pl, CS.wr, Pl.xs, dNeg, cSetIx, cStore, froz, cLst, cCutL, dCutL, cNoPart, cPart, dPart, CS.seqL, bList, M.opt, bTuple, rowD]
end K35
namespace K35
open CL PySem
/-- plain data, not too deep, not too long -/
def plD : Nat → D → Prop
  | _, .non => True
  | _, .bl _ => True
  | _, .int _ => True
  | _, .str x => SeqAt.shaped (.str x) = true
  | n + 1, .tup xs => xs.length ≤ 1000 ∧ ∀ x ∈ xs, plD n x
  | n + 1, .lst xs => xs.length ≤ 1000 ∧ ∀ x ∈ xs, plD n x
  | _, _ => False
theorem shp_bl (b : Bool) : SeqAt.shaped (.bool b) = true := by
  unfold SeqAt.shaped
  simp [M.bind, M.ret, R.bind, cSeq, cRet, cVar, cOp, cAnd, cOr, cNot, cIf, cAndT, cOrT, cNotT, asB, cB, cNext, cIfS, cSet, CS.put, cChain, dLe, dLt, dGt, dGe, dI2, startC, outF, fnB, cIsi, CS.knOf, tyB, isKn, isTy, M.guard, cTru, dTru, liftF, cCall, cCons, cFor, forL, cEnum, dEnum, cTg, cLc, lcL, wipeC, cWalk, dWalk, cNever, cSetTp, putAll, bLen, cFld, CS.fld, cProp, noExc, CS.clsOf, cCallS, dItems, cLenP, cIxP, CS.see, cApp, CS.pl, CS.wr, Pl.xs, dNeg, cSetIx, cStore, froz, cLst, cCutL, dCutL, cNoPart, cPart, dPart, CS.seqL, bList, M.opt, PyData.canLay0, PyData.depth]
theorem dP_bl (a b : Bool) (c : CS) : dP2 (fun p q => .bl (PyData.eqv p q)) (.bl a) (.bl b) c = .ok (.bl (a == b)) c := by
  have e : PyData.eqv (.bool a) (.bool b) = (a == b) := by simp [M.bind, M.ret, R.bind, cSeq, cRet, cVar, cOp, cAnd, cOr, cNot, cIf, cAndT, cOrT, cNotT, asB, cB, cNext, cIfS, cSet, CS.put, cChain, dLe, dLt, dGt, dGe, dI2, startC, outF, fnB, cIsi, CS.knOf, tyB, isKn, isTy, M.guard, cTru, dTru, liftF, cCall, cCons, cFor, forL, cEnum, dEnum, cTg, cLc, lcL, wipeC, cWalk, dWalk, cNever, cSetTp, putAll, bLen, cFld, CS.fld, cProp, noExc, CS.clsOf, cCallS, dItems, cLenP, cIxP, CS.see, cApp, CS.pl, CS.wr, Pl.xs, dNeg, cSetIx, cStore, froz, cLst, cCutL, dCutL, cNoPart, cPart, dPart, CS.seqL, bList, M.opt, PyData.eqv]
  show (match toP (.bl a), toP (.bl b) with
    | some p, some q => M.guard (SeqAt.shaped p && SeqAt.shaped q) (M.ret (D.bl (PyData.eqv p q)))
    | _, _ => fun _ => .stuck : M D) c = _
  have t : ∀ b, toP (.bl b) = some (.bool b) := fun b => by simp [M.bind, M.ret, R.bind, cSeq, cRet, cVar, cOp, cAnd, cOr, cNot, cIf, cAndT, cOrT, cNotT, asB, cB, cNext, cIfS, cSet, CS.put, cChain, dLe, dLt, dGt, dGe, dI2, startC, outF, fnB, cIsi, CS.knOf, tyB, isKn, isTy, M.guard, cTru, dTru, liftF, cCall, cCons, cFor, forL, cEnum, dEnum, cTg, cLc, lcL, wipeC, cWalk, dWalk, cNever, cSetTp, putAll, bLen, cFld, CS.fld, cProp, noExc, CS.clsOf, cCallS, dItems, cLenP, cIxP, CS.see, cApp, CS.pl, CS.wr, Pl.xs, dNeg, cSetIx, cStore, froz, cLst, cCutL, dCutL, cNoPart, cPart, dPart, CS.seqL, bList, M.opt, toP]
  rw [t, t]
  dsimp only
  rw [shp_bl, shp_bl, e]
  rfl
theorem dN_bl (a b : Bool) (c : CS) : dP2 (fun p q => .bl (!PyData.eqv p q)) (.bl a) (.bl b) c = .ok (.bl (a != b)) c := by
  have e : PyData.eqv (.bool a) (.bool b) = (a == b) := by simp [M.bind, M.ret, R.bind, cSeq, cRet, cVar, cOp, cAnd, cOr, cNot, cIf, cAndT, cOrT, cNotT, asB, cB, cNext, cIfS, cSet, CS.put, cChain, dLe, dLt, dGt, dGe, dI2, startC, outF, fnB, cIsi, CS.knOf, tyB, isKn, isTy, M.guard, cTru, dTru, liftF, cCall, cCons, cFor, forL, cEnum, dEnum, cTg, cLc, lcL, wipeC, cWalk, dWalk, cNever, cSetTp, putAll, bLen, cFld, CS.fld, cProp, noExc, CS.clsOf, cCallS, dItems, cLenP, cIxP, CS.see, cApp, CS.pl, CS.wr, Pl.xs, dNeg, cSetIx, cStore, froz, cLst, cCutL, dCutL, cNoPart, cPart, dPart, CS.seqL, bList, M.opt, PyData.eqv]
  show (match toP (.bl a), toP (.bl b) with
    | some p, some q => M.guard (SeqAt.shaped p && SeqAt.shaped q) (M.ret (D.bl (!PyData.eqv p q)))
    | _, _ => fun _ => .stuck : M D) c = _
  have t : ∀ b, toP (.bl b) = some (.bool b) := fun b => by simp [M.bind, M.ret, R.bind, cSeq, cRet, cVar, cOp, cAnd, cOr, cNot, cIf, cAndT, cOrT, cNotT, asB, cB, cNext, cIfS, cSet, CS.put, cChain, dLe, dLt, dGt, dGe, dI2, startC, outF, fnB, cIsi, CS.knOf, tyB, isKn, isTy, M.guard, cTru, dTru, liftF, cCall, cCons, cFor, forL, cEnum, dEnum, cTg, cLc, lcL, wipeC, cWalk, dWalk, cNever, cSetTp, putAll, bLen, cFld, CS.fld, cProp, noExc, CS.clsOf, cCallS, dItems, cLenP, cIxP, CS.see, cApp, CS.pl, CS.wr, Pl.xs, dNeg, cSetIx, cStore, froz, cLst, cCutL, dCutL, cNoPart, cPart, dPart, CS.seqL, bList, M.opt, toP]
  rw [t, t]
  dsimp only
  rw [shp_bl, shp_bl, e]
  rfl
theorem dP_str (x : Str) (h : SeqAt.shaped (.str x) = true) (c : CS) : dP2 (fun p q => .bl (PyData.eqv p q)) (.str x) (.str x) c = .ok (.bl true) c := by
  have e : PyData.eqv (.str x) (.str x) = true := by simp [M.bind, M.ret, R.bind, cSeq, cRet, cVar, cOp, cAnd, cOr, cNot, cIf, cAndT, cOrT, cNotT, asB, cB, cNext, cIfS, cSet, CS.put, cChain, dLe, dLt, dGt, dGe, dI2, startC, outF, fnB, cIsi, CS.knOf, tyB, isKn, isTy, M.guard, cTru, dTru, liftF, cCall, cCons, cFor, forL, cEnum, dEnum, cTg, cLc, lcL, wipeC, cWalk, dWalk, cNever, cSetTp, putAll, bLen, cFld, CS.fld, cProp, noExc, CS.clsOf, cCallS, dItems, cLenP, cIxP, CS.see, cApp, CS.pl, CS.wr, Pl.xs, dNeg, cSetIx, cStore, froz, cLst, cCutL, dCutL, cNoPart, cPart, dPart, CS.seqL, bList, M.opt, PyData.eqv]
  show (match toP (.str x), toP (.str x) with
    | some p, some q => M.guard (SeqAt.shaped p && SeqAt.shaped q) (M.ret (D.bl (PyData.eqv p q)))
    | _, _ => fun _ => .stuck : M D) c = _
  have t : toP (.str x) = some (.str x) := by simp [M.bind, M.ret, R.bind, cSeq, cRet, cVar, cOp, cAnd, cOr, cNot, cIf, cAndT, cOrT, cNotT, asB, cB, cNext, cIfS, cSet, CS.put, cChain, dLe, dLt, dGt, dGe, dI2, startC, outF, fnB, cIsi, CS.knOf, tyB, isKn, isTy, M.guard, cTru, dTru, liftF, cCall, cCons, cFor, forL, cEnum, dEnum, cTg, cLc, lcL, wipeC, cWalk, dWalk, cNever, cSetTp, putAll, bLen, cFld, CS.fld, cProp, noExc, CS.clsOf, cCallS, dItems, cLenP, cIxP, CS.see, cApp, CS.pl, CS.wr, Pl.xs, dNeg, cSetIx, cStore, froz, cLst, cCutL, dCutL, cNoPart, cPart, dPart, CS.seqL, bList, M.opt, toP]
  rw [t]
  dsimp only
  rw [h, e]
  rfl

theorem lcLG_t {pc : CS → Bool} {t : Tg} {ft : M Bool} {fe : M D} {vs : List Nat} {d y : D} {ds acc : List D} {c c1 c2 c3 : CS} (ep : pc c = true) (e1 : cTg t d c = .ok .next c1) (e2 : ft c1 = .ok true c2) (e3 : fe c2 = .ok y c3) (hz : acc.length < sizeLine) : lcLG pc t ft fe vs (d :: ds) acc c = lcLG pc t ft fe vs ds (acc ++ [y]) (wipeC vs c3) := by
  rw [lcLG]
  dsimp only
  rw [ep]
  dsimp only
  rw [e1]
  dsimp only
  rw [e2]
  dsimp only
  rw [e3]
  dsimp only
  rw [decide_eq_true hz]
  rfl
/-- whatever is told of the walk depends on the store alone -/
theorem s_sameL (n : Nat) (ih : ∀ (d : D) (S : List O), plD n d → fn_law_same (n + 1) [d, d] S = .ok (.bl true) S) (pc : CS → Bool) (a b : Sl) (S : List O) (hp : ∀ sl, pc ⟨sl, S⟩ = true) (xs : List D) : ∀ (acc : List D), acc.length + xs.length ≤ 1000 → (∀ x ∈ xs, plD n x) →
    lcLG pc (.tp [2, 3]) (M.ret true) (cCall (fn_law_same (n + 1)) (cCons (cVar 2) (cCons (cVar 3) (M.ret [])))) [2, 3] (zipD xs xs) acc ⟨[a, b, .no, .no], S⟩ = .ok (acc ++ List.replicate xs.length (.bl true)) ⟨[a, b, .no, .no], S⟩ := by
  induction xs with
  | nil =>
    intro acc _ _
    show lcLG pc _ _ _ _ [] acc _ = _
    rw [lcLG]
    dsimp only
    rw [hp]
    simp [M.bind, M.ret, R.bind, cSeq, cRet, cVar, cOp, cAnd, cOr, cNot, cIf, cAndT, cOrT, cNotT, asB, cB, cNext, cIfS, cSet, CS.put, cChain, dLe, dLt, dGt, dGe, dI2, startC, outF, fnB, cIsi, CS.knOf, tyB, isKn, isTy, M.guard, cTru, dTru, liftF, cCall, cCons, cFor, forL, cEnum, dEnum, cTg, cLc, lcL, wipeC, cWalk, dWalk, cNever, cSetTp, putAll, bLen, cFld, CS.fld, cProp, noExc, CS.clsOf, cCallS, dItems, cLenP, cIxP, CS.see, cApp, CS.pl, CS.wr, Pl.xs, dNeg, cSetIx, cStore, froz, cLst, cCutL, dCutL, cNoPart, cPart, dPart, CS.seqL, bList, M.opt, dIs, cIsiT, D.isNon]
  | cons x xs ihx =>
    intro acc hl hx
    rw [List.length_cons] at hl
    have e1 := ihx (acc ++ [.bl true]) (by rw [List.length_append]; simp [M.bind, M.ret, R.bind, cSeq, cRet, cVar, cOp, cAnd, cOr, cNot, cIf, cAndT, cOrT, cNotT, asB, cB, cNext, cIfS, cSet, CS.put, cChain, dLe, dLt, dGt, dGe, dI2, startC, outF, fnB, cIsi, CS.knOf, tyB, isKn, isTy, M.guard, cTru, dTru, liftF, cCall, cCons, cFor, forL, cEnum, dEnum, cTg, cLc, lcL, wipeC, cWalk, dWalk, cNever, cSetTp, putAll, bLen, cFld, CS.fld, cProp, noExc, CS.clsOf, cCallS, dItems, cLenP, cIxP, CS.see, cApp, CS.pl, CS.wr, Pl.xs, dNeg, cSetIx, cStore, froz, cLst, cCutL, dCutL, cNoPart, cPart, dPart, CS.seqL, bList, M.opt, dIs, cIsiT, D.isNon]; omega) (fun y hy => hx y (by simp [M.bind, M.ret, R.bind, cSeq, cRet, cVar, cOp, cAnd, cOr, cNot, cIf, cAndT, cOrT, cNotT, asB, cB, cNext, cIfS, cSet, CS.put, cChain, dLe, dLt, dGt, dGe, dI2, startC, outF, fnB, cIsi, CS.knOf, tyB, isKn, isTy, M.guard, cTru, dTru, liftF, cCall, cCons, cFor, forL, cEnum, dEnum, cTg, cLc, lcL, wipeC, cWalk, dWalk, cNever, cSetTp, putAll, bLen, cFld, CS.fld, cProp, noExc, CS.clsOf, cCallS, dItems, cLenP, cIxP, CS.see, cApp, CS.pl, CS.wr, Pl.xs, dNeg, cSetIx, cStore, froz, cLst, cCutL, dCutL, cNoPart, cPart, dPart, CS.seqL, bList, M.opt, dIs, cIsiT, D.isNon, hy]))
    have hz : acc.length < sizeLine := Nat.lt_of_lt_of_le (by omega : acc.length < 1001) (by decide)
    have z : cCall (fn_law_same (n + 1)) (cCons (cVar 2) (cCons (cVar 3) (M.ret []))) ⟨[a, b, .val x, .val x], S⟩ = .ok (.bl true) ⟨[a, b, .val x, .val x], S⟩ := by
      refine (call2_of (x := x) (y := x) (c1 := ⟨[a, b, .val x, .val x], S⟩) (c2 := ⟨[a, b, .val x, .val x], S⟩) rfl rfl).trans ?_
      show liftF (fn_law_same (n + 1) [x, x] S) _ = _
      rw [ih x S (hx x (by simp [M.bind, M.ret, R.bind, cSeq, cRet, cVar, cOp, cAnd, cOr, cNot, cIf, cAndT, cOrT, cNotT, asB, cB, cNext, cIfS, cSet, CS.put, cChain, dLe, dLt, dGt, dGe, dI2, startC, outF, fnB, cIsi, CS.knOf, tyB, isKn, isTy, M.guard, cTru, dTru, liftF, cCall, cCons, cFor, forL, cEnum, dEnum, cTg, cLc, lcL, wipeC, cWalk, dWalk, cNever, cSetTp, putAll, bLen, cFld, CS.fld, cProp, noExc, CS.clsOf, cCallS, dItems, cLenP, cIxP, CS.see, cApp, CS.pl, CS.wr, Pl.xs, dNeg, cSetIx, cStore, froz, cLst, cCutL, dCutL, cNoPart, cPart, dPart, CS.seqL, bList, M.opt, dIs, cIsiT, D.isNon]))]
      rfl
    have ez : zipD (x :: xs) (x :: xs) = .tup [x, x] :: zipD xs xs := rfl
    rw [ez]
    refine (lcLG_t (c1 := ⟨[a, b, .val x, .val x], S⟩) (hp _) rfl rfl z hz).trans ?_
    refine Eq.trans e1 ?_
    rw [List.append_assoc]
    rfl
theorem s_sameS (n : Nat) (d : D) (S : List O) (h : plD 0 d) : fn_law_same (n + 1) [d, d] S = .ok (.bl true) S := by
  cases d with
  | non => simp [M.bind, M.ret, R.bind, cSeq, cRet, cVar, cOp, cAnd, cOr, cNot, cIf, cAndT, cOrT, cNotT, asB, cB, cNext, cIfS, cSet, CS.put, cChain, dLe, dLt, dGt, dGe, dI2, startC, outF, fnB, cIsi, CS.knOf, tyB, isKn, isTy, M.guard, cTru, dTru, liftF, cCall, cCons, cFor, forL, cEnum, dEnum, cTg, cLc, lcL, wipeC, cWalk, dWalk, cNever, cSetTp, putAll, bLen, cFld, CS.fld, cProp, noExc, CS.clsOf, cCallS, dItems, cLenP, cIxP, CS.see, cApp, CS.pl, CS.wr, Pl.xs, dNeg, cSetIx, cStore, froz, cLst, cCutL, dCutL, cNoPart, cPart, dPart, CS.seqL, bList, M.opt, dIs, cIsiT, D.isNon, fn_law_same, cl_law_same]
  | bl b => simp [M.bind, M.ret, R.bind, cSeq, cRet, cVar, cOp, cAnd, cOr, cNot, cIf, cAndT, cOrT, cNotT, asB, cB, cNext, cIfS, cSet, CS.put, cChain, dLe, dLt, dGt, dGe, dI2, startC, outF, fnB, cIsi, CS.knOf, tyB, isKn, isTy, M.guard, cTru, dTru, liftF, cCall, cCons, cFor, forL, cEnum, dEnum, cTg, cLc, lcL, wipeC, cWalk, dWalk, cNever, cSetTp, putAll, bLen, cFld, CS.fld, cProp, noExc, CS.clsOf, cCallS, dItems, cLenP, cIxP, CS.see, cApp, CS.pl, CS.wr, Pl.xs, dNeg, cSetIx, cStore, froz, cLst, cCutL, dCutL, cNoPart, cPart, dPart, CS.seqL, bList, M.opt, dIs, cIsiT, D.isNon, fn_law_same, cl_law_same, dN_bl, dP_bl]
  | int i => simp [M.bind, M.ret, R.bind, cSeq, cRet, cVar, cOp, cAnd, cOr, cNot, cIf, cAndT, cOrT, cNotT, asB, cB, cNext, cIfS, cSet, CS.put, cChain, dLe, dLt, dGt, dGe, dI2, startC, outF, fnB, cIsi, CS.knOf, tyB, isKn, isTy, M.guard, cTru, dTru, liftF, cCall, cCons, cFor, forL, cEnum, dEnum, cTg, cLc, lcL, wipeC, cWalk, dWalk, cNever, cSetTp, putAll, bLen, cFld, CS.fld, cProp, noExc, CS.clsOf, cCallS, dItems, cLenP, cIxP, CS.see, cApp, CS.pl, CS.wr, Pl.xs, dNeg, cSetIx, cStore, froz, cLst, cCutL, dCutL, cNoPart, cPart, dPart, CS.seqL, bList, M.opt, dIs, cIsiT, D.isNon, fn_law_same, cl_law_same, dN_bl, dP_bl, dP_int]
  | str x =>
    have hx : SeqAt.shaped (.str x) = true := h
    simp [M.bind, M.ret, R.bind, cSeq, cRet, cVar, cOp, cAnd, cOr, cNot, cIf, cAndT, cOrT, cNotT, asB, cB, cNext, cIfS, cSet, CS.put, cChain, dLe, dLt, dGt, dGe, dI2, startC, outF, fnB, cIsi, CS.knOf, tyB, isKn, isTy, M.guard, cTru, dTru, liftF, cCall, cCons, cFor, forL, cEnum, dEnum, cTg, cLc, lcL, wipeC, cWalk, dWalk, cNever, cSetTp, putAll, bLen, cFld, CS.fld, cProp, noExc, CS.clsOf, cCallS, dItems, cLenP, cIxP, CS.see, cApp, CS.pl, CS.wr, Pl.xs, dNeg, cSetIx, cStore, froz, cLst, cCutL, dCutL, cNoPart, cPart, dPart, CS.seqL, bList, M.opt, dIs, cIsiT, D.isNon, fn_law_same, cl_law_same, dN_bl, dP_bl, dP_str x hx]
  | _ => exact h.elim
theorem isAt_lst (l : List D) (c : CS) : isAt (.lst l) l c = true := isAt_iff.mpr rfl
theorem lcG_of {fi : M (List D × (CS → Bool))} {tg : Tg} {ft : M Bool} {fe : M D} {vs : List Nat} {ds ys : List D} {pc : CS → Bool} {c c1 c2 : CS} (ei : fi c = .ok (ds, pc) c1) (e : lcLG pc tg ft fe vs ds [] (wipeC vs c1) = .ok ys c2) : cLcG fi tg ft fe vs c = .ok ys c2 := by
  show (fi c).bind _ = _
  rw [ei]
  exact e
theorem zipG_lst {fa fb : M D} {c c1 c2 : CS} {x y : D} {xs ys : List D} (ea : fa c = .ok x c1) (eb : fb c1 = .ok y c2) (ex : c2.seqL x = some xs) (ey : c2.seqL y = some ys) : cZipG fa fb c = .ok (zipD xs ys, fun c => isAt x xs c && isAt y ys c) c2 := by
  show (fa c).bind _ = _
  rw [ea]
  show (fb c1).bind _ = _
  rw [eb]
  show dZipG x y c2 = _
  unfold dZipG
  rw [ex, ey]
theorem zipG_tup {fa fb : M D} {c c1 c2 : CS} {xs ys : List D} (ea : fa c = .ok (.tup xs) c1) (eb : fb c1 = .ok (.tup ys) c2) : cZipG fa fb c = .ok (zipD xs ys, fun _ => true) c2 := by
  show (fa c).bind _ = _
  rw [ea]
  show (fb c1).bind _ = _
  rw [eb]
  rfl
/-- the same shape, the same items -/
theorem s_sameC (n : Nat) (ih : ∀ (d : D) (S : List O), plD n d → fn_law_same (n + 1) [d, d] S = .ok (.bl true) S) (u v : D) (xs : List D) (S : List O) (hl : xs.length ≤ 1000) (hx : ∀ x ∈ xs, plD n x)
    (h : (∃ l1 l2, u = .tup l1 ∧ v = .tup l2 ∧ l1 = xs ∧ l2 = xs) ∨ ∃ i : Nat, (u = .lst xs ∨ (u = .ref i ∧ S[i]? = some (.lst xs))) ∧ v = .lst xs) : fn_law_same (n + 2) [u, v] S = .ok (.bl true) S := by
  have zl : szOk xs.length = true := szOk_small hl
  have ab := asBls_map (List.replicate xs.length true)
  rw [List.map_replicate] at ab
  have al : bAll [D.lst (List.replicate xs.length (D.bl true))] ⟨[.val u, .val v, .no, .no], S⟩ = .ok (.bl true) ⟨[.val u, .val v, .no, .no], S⟩ := by
    unfold bAll bOne
    dsimp only
    have sq : CS.seqL ⟨[.val u, .val v, .no, .no], S⟩ (D.lst (List.replicate xs.length (D.bl true))) = some (List.replicate xs.length (D.bl true)) := rfl
    rw [sq, Option.bind_some, ab]
    show R.ok (D.bl ((List.replicate xs.length true).all id)) _ = _
    have : (List.replicate xs.length true).all id = true := by
      rw [List.all_eq_true]
      intro b hb
      exact (List.mem_replicate.mp hb).2
    rw [this]
  have body : ∀ pc, (∀ sl, pc ⟨sl, S⟩ = true) → cZipG (cVar 0) (cVar 1) ⟨[.val u, .val v, .no, .no], S⟩ = .ok (zipD xs xs, pc) ⟨[.val u, .val v, .no, .no], S⟩ → ((cCons (froz (cLcG (cZipG (cVar 0) (cVar 1)) (.tp [2, 3]) (M.ret true) (cCall (fn_law_same (n + 1)) (cCons (cVar 2) (cCons (cVar 3) (M.ret [])))) [2, 3])) (M.ret [])).bind bAll) ⟨[.val u, .val v, .no, .no], S⟩ = .ok (.bl true) ⟨[.val u, .val v, .no, .no], S⟩ := fun pc hp hz => by
    have e := s_sameL n ih pc (.val u) (.val v) S hp xs [] (by simpa using hl) hx
    rw [List.nil_append] at e
    show ((cCons _ _) _).bind bAll = _
    rw [cons_of (froz_of (lcG_of hz e)) nilA]
    exact al
  have key : ∀ (p q : Bool) pc, (∀ sl, pc ⟨sl, S⟩ = true) → cZipG (cVar 0) (cVar 1) ⟨[.val u, .val v, .no, .no], S⟩ = .ok (zipD xs xs, pc) ⟨[.val u, .val v, .no, .no], S⟩ →
      cOp dIs (cVar 1) (M.ret .non) ⟨[.val u, .val v, .no, .no], S⟩ = .ok (.bl false) ⟨[.val u, .val v, .no, .no], S⟩ → cOp dIs (cVar 0) (M.ret .non) ⟨[.val u, .val v, .no, .no], S⟩ = .ok (.bl false) ⟨[.val u, .val v, .no, .no], S⟩ →
      cIsiT [.ty .lst, .ty .tup] (cVar 1) ⟨[.val u, .val v, .no, .no], S⟩ = .ok (.bl true) ⟨[.val u, .val v, .no, .no], S⟩ →
      cIsi (.ty .lst) (cVar 0) ⟨[.val u, .val v, .no, .no], S⟩ = .ok (.bl p) ⟨[.val u, .val v, .no, .no], S⟩ → cIsi (.ty .lst) (cVar 1) ⟨[.val u, .val v, .no, .no], S⟩ = .ok (.bl p) ⟨[.val u, .val v, .no, .no], S⟩ →
      cIsi (.ty .tup) (cVar 0) ⟨[.val u, .val v, .no, .no], S⟩ = .ok (.bl q) ⟨[.val u, .val v, .no, .no], S⟩ → cIsi (.ty .tup) (cVar 1) ⟨[.val u, .val v, .no, .no], S⟩ = .ok (.bl q) ⟨[.val u, .val v, .no, .no], S⟩ →
      ((cCons (cVar 0) (M.ret [])).bind bLen) ⟨[.val u, .val v, .no, .no], S⟩ = .ok (.int xs.length) ⟨[.val u, .val v, .no, .no], S⟩ → ((cCons (cVar 1) (M.ret [])).bind bLen) ⟨[.val u, .val v, .no, .no], S⟩ = .ok (.int xs.length) ⟨[.val u, .val v, .no, .no], S⟩ →
      fn_law_same (n + 2) [u, v] S = .ok (.bl true) S := fun p q pc hp hz n1 n0 i1 l0 l1 t0 t1 z0 z1 => by
    have b := body pc hp hz
    have a1 := orT_f (u := asB (cOp dIs (cVar 0) (M.ret .non))) (asB_of n1)
    have a2 := a1.trans (asB_of n0)
    have xx : ∀ a : Bool, (a != a) = false := fun a => by cases a <;> rfl
    have d1 := (asB_of (op_of l0 l1 (dN_bl p p _)))
    have d2 := (asB_of (op_of t0 t1 (dN_bl q q _)))
    rw [xx] at d1 d2
    have d3 := (orT_f (u := asB (cOp dNe (cIsi (.ty .tup) (cVar 0)) (cIsi (.ty .tup) (cVar 1)))) d1).trans d2
    have le := op_of z0 z1 (dEq_int _ _ _)
    rw [decide_eq_true rfl] at le
    have fin := ret_of ((and_t le).trans b)
    have s0 : fn_law_same (n + 2) [u, v] S = outF (cl_law_same (fn_law_same (n + 1)) ⟨[.val u, .val v, .no, .no], S⟩) := rfl
    rw [s0]
    unfold cl_law_same
    rw [cSeq_next (ifS_n a2)]
    have w := (ifS_t (h := cNext) (tru_bl i1)).trans ((cSeq_next (ifS_n (f := cSeq (cRet (M.ret (.bl false))) cNext) d3)).trans (cSeq_ret (h := cNext) fin))
    rw [cSeq_ret w]
    rfl
  rcases h with ⟨l1, l2, hu, hv, h1, h2⟩ | ⟨i, hu, hv⟩
  · subst hu hv
    subst h1
    subst h2
    exact key false true (fun _ => true) (fun _ => rfl) (zipG_tup rfl rfl) rfl rfl rfl rfl rfl rfl rfl rfl rfl
  · subst hv
    rcases hu with hu | ⟨hu, hS⟩
    · subst hu
      exact key true false _ (fun sl => by rw [isAt_lst]; rfl) (zipG_lst rfl rfl rfl rfl) rfl rfl rfl rfl rfl rfl rfl rfl rfl
    · subst hu
      have sq : ∀ sl, CS.seqL ⟨sl, S⟩ (.ref i) = some xs := fun sl => by
        show (match S[i]? with
          | some (.lst xs) => some xs
          | _ => none) = _
        rw [hS]
      have kn : ∀ sl, CS.knOf ⟨sl, S⟩ (.ref i) = some (.ty .lst) := fun sl => by
        unfold CS.knOf
        have h1 : tyB (.ref i) = none := rfl
        have h2 : CS.clsOf ⟨sl, S⟩ (.ref i) = none := by
          unfold CS.clsOf
          simp [M.bind, M.ret, R.bind, cSeq, cRet, cVar, cOp, cAnd, cOr, cNot, cIf, cAndT, cOrT, cNotT, asB, cB, cNext, cIfS, cSet, CS.put, cChain, dLe, dLt, dGt, dGe, dI2, startC, outF, fnB, cIsi, CS.knOf, tyB, isKn, isTy, M.guard, cTru, dTru, liftF, cCall, cCons, cFor, forL, cEnum, dEnum, cTg, cLc, lcL, wipeC, cWalk, dWalk, cNever, cSetTp, putAll, bLen, cFld, CS.fld, cProp, noExc, CS.clsOf, cCallS, dItems, cLenP, cIxP, CS.see, cApp, CS.pl, CS.wr, Pl.xs, dNeg, cSetIx, cStore, froz, cLst, cCutL, dCutL, cNoPart, cPart, dPart, CS.seqL, bList, M.opt, dIs, cIsiT, D.isNon, hS]
        rw [h1, h2, sq]
      have is0 : ∀ k : Kn, cIsi k (cVar 0) ⟨[.val (.ref i), .val (.lst xs), .no, .no], S⟩ = .ok (.bl (isKn (.ty .lst) k)) ⟨[.val (.ref i), .val (.lst xs), .no, .no], S⟩ := fun k => by
        show (match CS.knOf ⟨[.val (.ref i), .val (.lst xs), .no, .no], S⟩ (.ref i) with
          | some t => R.ok (D.bl (isKn t k)) _
          | none => .stuck) = _
        rw [kn]
      have ln : ((cCons (cVar 0) (M.ret [])).bind bLen) ⟨[.val (.ref i), .val (.lst xs), .no, .no], S⟩ = .ok (.int xs.length) ⟨[.val (.ref i), .val (.lst xs), .no, .no], S⟩ := by
        show (match CS.seqL ⟨[.val (.ref i), .val (.lst xs), .no, .no], S⟩ (.ref i) with
          | some xs => R.ok (D.int xs.length) _
          | none => .stuck) = _
        rw [sq]
      exact key true false _ (fun sl => by rw [isAt_lst, isAt_iff.mpr (sq sl)]; rfl) (zipG_lst (c1 := ⟨[.val (.ref i), .val (.lst xs), .no, .no], S⟩) (c2 := ⟨[.val (.ref i), .val (.lst xs), .no, .no], S⟩) (x := .ref i) (y := .lst xs) rfl rfl (sq _) rfl) rfl rfl rfl (is0 _) rfl (is0 _) rfl ln rfl
theorem s_same : ∀ (n : Nat) (d : D) (S : List O), plD n d → fn_law_same (n + 1) [d, d] S = .ok (.bl true) S
  | 0, d, S, h => s_sameS 0 d S h
  | n + 1, d, S, h => by
    cases d with
    | tup xs => exact s_sameC n (s_same n) _ _ xs S h.1 h.2 (.inl ⟨xs, xs, rfl, rfl, rfl, rfl⟩)
    | lst xs => exact s_sameC n (s_same n) _ _ xs S h.1 h.2 (.inr ⟨0, .inl rfl, rfl⟩)
    | non => exact s_sameS (n + 1) _ S trivial
    | bl b => exact s_sameS (n + 1) _ S trivial
    | int i => exact s_sameS (n + 1) _ S trivial
    | str x => exact s_sameS (n + 1) _ S h
    | _ => exact h.elim
theorem s_sameR (n i : Nat) (xs : List D) (S : List O) (hS : S[i]? = some (.lst xs)) (h : plD (n + 1) (.lst xs)) : fn_law_same (n + 2) [.ref i, .lst xs] S = .ok (.bl true) S := s_sameC n (s_same n) _ _ xs S h.1 h.2 (.inr ⟨i, .inr ⟨rfl, hS⟩, rfl⟩)
end K35
namespace K35
open CL PySem
theorem s_rowsL (sg lv top : Int) (hv : 0 ≤ lv) (hv2 : lv ≤ 12) (ht : 0 < top) (ht2 : top ≤ 12) (ds : List D) : ∀ (rs : List (List Int)) (S : List O), rs.length + ds.length ≤ 1000 → (∀ r ∈ rs, RowOk r) → TapeOk S →
    ∃ (rs' : List (List Int)) (S' : List O), lcL (.nm 4) (M.ret true) (cCall fn_law_row (cCons (cVar 0) (cCons (cVar 2) (cCons (cVar 3) (M.ret []))))) [4] ds (rs.map rowD) ⟨[.val (.ref 0), .val (.int sg), .val (.int lv), .val (.int top), .no], S⟩ = .ok (rs'.map rowD) ⟨[.val (.ref 0), .val (.int sg), .val (.int lv), .val (.int top), .no], S'⟩ ∧ TapeOk S' ∧ rs'.length = rs.length + ds.length ∧ ∀ r ∈ rs', RowOk r := by
  induction ds with
  | nil => intro rs S _ h hS; exact ⟨rs, S, by simp [M.bind, M.ret, R.bind, cSeq, cRet, cVar, cOp, cAnd, cOr, cNot, cIf, cAndT, cOrT, cNotT, asB, cB, cNext, cIfS, cSet, CS.put, cChain, dLe, dLt, dGt, dGe, dI2, startC, outF, fnB, cIsi, CS.knOf, tyB, isKn, isTy, M.guard, cTru, dTru, liftF, cCall, cCons, cFor, forL, cEnum, dEnum, cTg, cLc, lcL, wipeC, cWalk, dWalk, cNever, cSetTp, putAll, bLen, cFld, CS.fld, cProp, noExc, CS.clsOf, cCallS, dItems, cLenP, cIxP, CS.see, cApp, CS.pl, CS.wr, Pl.xs, dNeg, cSetIx, cStore, froz, cLst, cCutL, dCutL, cNoPart, cPart, dPart, CS.seqL, bList, M.opt, dIs, cIsiT, D.isNon], hS, by simp [M.bind, M.ret, R.bind, cSeq, cRet, cVar, cOp, cAnd, cOr, cNot, cIf, cAndT, cOrT, cNotT, asB, cB, cNext, cIfS, cSet, CS.put, cChain, dLe, dLt, dGt, dGe, dI2, startC, outF, fnB, cIsi, CS.knOf, tyB, isKn, isTy, M.guard, cTru, dTru, liftF, cCall, cCons, cFor, forL, cEnum, dEnum, cTg, cLc, lcL, wipeC, cWalk, dWalk, cNever, cSetTp, putAll, bLen, cFld, CS.fld, cProp, noExc, CS.clsOf, cCallS, dItems, cLenP, cIxP, CS.see, cApp, CS.pl, CS.wr, Pl.xs, dNeg, cSetIx, cStore, froz, cLst, cCutL, dCutL, cNoPart, cPart, dPart, CS.seqL, bList, M.opt, dIs, cIsiT, D.isNon], h⟩
  | cons d ds ih =>
    intro rs S hl h hS
    simp [M.bind, M.ret, R.bind, cSeq, cRet, cVar, cOp, cAnd, cOr, cNot, cIf, cAndT, cOrT, cNotT, asB, cB, cNext, cIfS, cSet, CS.put, cChain, dLe, dLt, dGt, dGe, dI2, startC, outF, fnB, cIsi, CS.knOf, tyB, isKn, isTy, M.guard, cTru, dTru, liftF, cCall, cCons, cFor, forL, cEnum, dEnum, cTg, cLc, lcL, wipeC, cWalk, dWalk, cNever, cSetTp, putAll, bLen, cFld, CS.fld, cProp, noExc, CS.clsOf, cCallS, dItems, cLenP, cIxP, CS.see, cApp, CS.pl, CS.wr, Pl.xs, dNeg, cSetIx, cStore, froz, cLst, cCutL, dCutL, cNoPart, cPart, dPart, CS.seqL, bList, M.opt, dIs, cIsiT, D.isNon] at hl
    obtain ⟨r, S', e, hS', l1, h1⟩ := s_lrow lv top S hv hv2 ht ht2 hS
    have hr : RowOk r := ⟨by omega, fun x hx => ⟨(h1 x hx).1, by have := (h1 x hx).2; omega⟩⟩
    obtain ⟨rs', S2, e2, hS2, l2, h2⟩ := ih (rs ++ [r]) S' (by simp [M.bind, M.ret, R.bind, cSeq, cRet, cVar, cOp, cAnd, cOr, cNot, cIf, cAndT, cOrT, cNotT, asB, cB, cNext, cIfS, cSet, CS.put, cChain, dLe, dLt, dGt, dGe, dI2, startC, outF, fnB, cIsi, CS.knOf, tyB, isKn, isTy, M.guard, cTru, dTru, liftF, cCall, cCons, cFor, forL, cEnum, dEnum, cTg, cLc, lcL, wipeC, cWalk, dWalk, cNever, cSetTp, putAll, bLen, cFld, CS.fld, cProp, noExc, CS.clsOf, cCallS, dItems, cLenP, cIxP, CS.see, cApp, CS.pl, CS.wr, Pl.xs, dNeg, cSetIx, cStore, froz, cLst, cCutL, dCutL, cNoPart, cPart, dPart, CS.seqL, bList, M.opt, dIs, cIsiT, D.isNon]; omega) (fun x hx => by
      simp [M.bind, M.ret, R.bind, cSeq, cRet, cVar, cOp, cAnd, cOr, cNot, cIf, cAndT, cOrT, cNotT, asB, cB, cNext, cIfS, cSet, CS.put, cChain, dLe, dLt, dGt, dGe, dI2, startC, outF, fnB, cIsi, CS.knOf, tyB, isKn, isTy, M.guard, cTru, dTru, liftF, cCall, cCons, cFor, forL, cEnum, dEnum, cTg, cLc, lcL, wipeC, cWalk, dWalk, cNever, cSetTp, putAll, bLen, cFld, CS.fld, cProp, noExc, CS.clsOf, cCallS, dItems, cLenP, cIxP, CS.see, cApp, CS.pl, CS.wr, Pl.xs, dNeg, cSetIx, cStore, froz, cLst, cCutL, dCutL, cNoPart, cPart, dPart, CS.seqL, bList, M.opt, dIs, cIsiT, D.isNon] at hx
      rcases hx with hx | hx
      · exact h x hx
      · rw [hx]; exact hr) hS'
    refine ⟨rs', S2, ?_, hS2, by simp [M.bind, M.ret, R.bind, cSeq, cRet, cVar, cOp, cAnd, cOr, cNot, cIf, cAndT, cOrT, cNotT, asB, cB, cNext, cIfS, cSet, CS.put, cChain, dLe, dLt, dGt, dGe, dI2, startC, outF, fnB, cIsi, CS.knOf, tyB, isKn, isTy, M.guard, cTru, dTru, liftF, cCall, cCons, cFor, forL, cEnum, dEnum, cTg, cLc, lcL, wipeC, cWalk, dWalk, cNever, cSetTp, putAll, bLen, cFld, CS.fld, cProp, noExc, CS.clsOf, cCallS, dItems, cLenP, cIxP, CS.see, cApp, CS.pl, CS.wr, Pl.xs, dNeg, cSetIx, cStore, froz, cLst, cCutL, dCutL, cNoPart, cPart, dPart, CS.seqL, bList, M.opt, dIs, cIsiT, D.isNon] at l2 ⊢; omega, h2⟩
    have hz : rs.length < sizeLine := Nat.lt_of_lt_of_le (by omega : rs.length < 1001) (by decide)
    simp [M.bind, M.ret, R.bind, cSeq, cRet, cVar, cOp, cAnd, cOr, cNot, cIf, cAndT, cOrT, cNotT, asB, cB, cNext, cIfS, cSet, CS.put, cChain, dLe, dLt, dGt, dGe, dI2, startC, outF, fnB, cIsi, CS.knOf, tyB, isKn, isTy, M.guard, cTru, dTru, liftF, cCall, cCons, cFor, forL, cEnum, dEnum, cTg, cLc, lcL, wipeC, cWalk, dWalk, cNever, cSetTp, putAll, bLen, cFld, CS.fld, cProp, noExc, CS.clsOf, cCallS, dItems, cLenP, cIxP, CS.see, cApp, CS.pl, CS.wr, Pl.xs, dNeg, cSetIx, cStore, froz, cLst, cCutL, dCutL, cNoPart, cPart, dPart, CS.seqL, bList, M.opt, dIs, cIsiT, D.isNon, e, hz] at e2 ⊢
    exact e2
theorem s_rows (sg lv top : Int) (S : List O) (h0 : 0 < sg) (h4 : sg ≤ 4) (hv : 0 ≤ lv) (hv2 : lv ≤ 12) (ht : 0 < top) (ht2 : top ≤ 12) (hS : TapeOk S) : ∃ (rs : List (List Int)) (S' : List O), fn_law_rows [.ref 0, .int sg, .int lv, .int top] S = .ok (.lst (rs.map rowD)) S' ∧ TapeOk S' ∧ ChOk rs := by
  obtain ⟨n, S1, e1, hS1, n0, n1⟩ := s_pick sg S h0 (by omega) hS
  obtain ⟨rs, S2, e2, hS2, l2, h2⟩ := s_rowsL sg lv top hv hv2 ht ht2 (rangeD 0 (1 + n).toNat) [] S1 (by rw [rangeD_len]; simp [M.bind, M.ret, R.bind, cSeq, cRet, cVar, cOp, cAnd, cOr, cNot, cIf, cAndT, cOrT, cNotT, asB, cB, cNext, cIfS, cSet, CS.put, cChain, dLe, dLt, dGt, dGe, dI2, startC, outF, fnB, cIsi, CS.knOf, tyB, isKn, isTy, M.guard, cTru, dTru, liftF, cCall, cCons, cFor, forL, cEnum, dEnum, cTg, cLc, lcL, wipeC, cWalk, dWalk, cNever, cSetTp, putAll, bLen, cFld, CS.fld, cProp, noExc, CS.clsOf, cCallS, dItems, cLenP, cIxP, CS.see, cApp, CS.pl, CS.wr, Pl.xs, dNeg, cSetIx, cStore, froz, cLst, cCutL, dCutL, cNoPart, cPart, dPart, CS.seqL, bList, M.opt, dIs, cIsiT, D.isNon]; omega) (fun r hr => by simp [M.bind, M.ret, R.bind, cSeq, cRet, cVar, cOp, cAnd, cOr, cNot, cIf, cAndT, cOrT, cNotT, asB, cB, cNext, cIfS, cSet, CS.put, cChain, dLe, dLt, dGt, dGe, dI2, startC, outF, fnB, cIsi, CS.knOf, tyB, isKn, isTy, M.guard, cTru, dTru, liftF, cCall, cCons, cFor, forL, cEnum, dEnum, cTg, cLc, lcL, wipeC, cWalk, dWalk, cNever, cSetTp, putAll, bLen, cFld, CS.fld, cProp, noExc, CS.clsOf, cCallS, dItems, cLenP, cIxP, CS.see, cApp, CS.pl, CS.wr, Pl.xs, dNeg, cSetIx, cStore, froz, cLst, cCutL, dCutL, cNoPart, cPart, dPart, CS.seqL, bList, M.opt, dIs, cIsiT, D.isNon] at hr) hS1
  rw [rangeD_len] at l2
  simp [M.bind, M.ret, R.bind, cSeq, cRet, cVar, cOp, cAnd, cOr, cNot, cIf, cAndT, cOrT, cNotT, asB, cB, cNext, cIfS, cSet, CS.put, cChain, dLe, dLt, dGt, dGe, dI2, startC, outF, fnB, cIsi, CS.knOf, tyB, isKn, isTy, M.guard, cTru, dTru, liftF, cCall, cCons, cFor, forL, cEnum, dEnum, cTg, cLc, lcL, wipeC, cWalk, dWalk, cNever, cSetTp, putAll, bLen, cFld, CS.fld, cProp, noExc, CS.clsOf, cCallS, dItems, cLenP, cIxP, CS.see, cApp, CS.pl, CS.wr, Pl.xs, dNeg, cSetIx, cStore, froz, cLst, cCutL, dCutL, cNoPart, cPart, dPart, CS.seqL, bList, M.opt, dIs, cIsiT, D.isNon] at l2
  have hf : fitsR (1 + n) = true := by unfold fitsR; simp [M.bind, M.ret, R.bind, cSeq, cRet, cVar, cOp, cAnd, cOr, cNot, cIf, cAndT, cOrT, cNotT, asB, cB, cNext, cIfS, cSet, CS.put, cChain, dLe, dLt, dGt, dGe, dI2, startC, outF, fnB, cIsi, CS.knOf, tyB, isKn, isTy, M.guard, cTru, dTru, liftF, cCall, cCons, cFor, forL, cEnum, dEnum, cTg, cLc, lcL, wipeC, cWalk, dWalk, cNever, cSetTp, putAll, bLen, cFld, CS.fld, cProp, noExc, CS.clsOf, cCallS, dItems, cLenP, cIxP, CS.see, cApp, CS.pl, CS.wr, Pl.xs, dNeg, cSetIx, cStore, froz, cLst, cCutL, dCutL, cNoPart, cPart, dPart, CS.seqL, bList, M.opt, dIs, cIsiT, D.isNon]; omega
  refine ⟨rs, S2, ?_, hS2, by omega, by omega, h2⟩
  simp [M.bind, M.ret, R.bind, cSeq, cRet, cVar, cOp, cAnd, cOr, cNot, cIf, cAndT, cOrT, cNotT, asB, cB, cNext, cIfS, cSet, CS.put, cChain, dLe, dLt, dGt, dGe, dI2, startC, outF, fnB, cIsi, CS.knOf, tyB, isKn, isTy, M.guard, cTru, dTru, liftF, cCall, cCons, cFor, forL, cEnum, dEnum, cTg, cLc, wipeC, cWalk, dWalk, cNever, cSetTp, putAll, bLen, cFld, CS.fld, cProp, noExc, CS.clsOf, cCallS, dItems, cLenP, cIxP, CS.see, cApp, CS.pl, CS.wr, Pl.xs, dNeg, cSetIx, cStore, froz, cLst, cCutL, dCutL, cNoPart, cPart, dPart, CS.seqL, bList, M.opt, dIs, cIsiT, D.isNon, fn_law_rows, cl_law_rows, cRange1, dAdd, e1, hf] at e2 ⊢
  rw [e2]
theorem s_rowsL2 (sg lv top : Int) (hv : 0 ≤ lv) (hv2 : lv ≤ 12) (ht : 0 < top) (ht2 : top ≤ 12) (ds : List D) : ∀ (rs : List (List Int)) (S : List O), rs.length + ds.length ≤ 1000 → (∀ r ∈ rs, RowOk r ∧ (r.length : Int) ≤ lv) → TapeOk S →
    ∃ (rs' : List (List Int)) (S' : List O), lcL (.nm 4) (M.ret true) (cCall fn_law_row (cCons (cVar 0) (cCons (cVar 2) (cCons (cVar 3) (M.ret []))))) [4] ds (rs.map rowD) ⟨[.val (.ref 0), .val (.int sg), .val (.int lv), .val (.int top), .no], S⟩ = .ok (rs'.map rowD) ⟨[.val (.ref 0), .val (.int sg), .val (.int lv), .val (.int top), .no], S'⟩ ∧ TapeOk S' ∧ rs'.length = rs.length + ds.length ∧ ∀ r ∈ rs', RowOk r ∧ (r.length : Int) ≤ lv := by
  induction ds with
  | nil => intro rs S _ h hS; exact ⟨rs, S, by simp [M.bind, M.ret, R.bind, cSeq, cRet, cVar, cOp, cAnd, cOr, cNot, cIf, cAndT, cOrT, cNotT, asB, cB, cNext, cIfS, cSet, CS.put, cChain, dLe, dLt, dGt, dGe, dI2, startC, outF, fnB, cIsi, CS.knOf, tyB, isKn, isTy, M.guard, cTru, dTru, liftF, cCall, cCons, cFor, forL, cEnum, dEnum, cTg, cLc, lcL, wipeC, cWalk, dWalk, cNever, cSetTp, putAll, bLen, cFld, CS.fld, cProp, noExc, CS.clsOf, cCallS, dItems, cLenP, cIxP, CS.see, cApp, CS.pl, CS.wr, Pl.xs, dNeg, cSetIx, cStore, froz, cLst, cCutL, dCutL, cNoPart, cPart, dPart, CS.seqL, bList, M.opt, dIs, cIsiT, D.isNon], hS, by simp [M.bind, M.ret, R.bind, cSeq, cRet, cVar, cOp, cAnd, cOr, cNot, cIf, cAndT, cOrT, cNotT, asB, cB, cNext, cIfS, cSet, CS.put, cChain, dLe, dLt, dGt, dGe, dI2, startC, outF, fnB, cIsi, CS.knOf, tyB, isKn, isTy, M.guard, cTru, dTru, liftF, cCall, cCons, cFor, forL, cEnum, dEnum, cTg, cLc, lcL, wipeC, cWalk, dWalk, cNever, cSetTp, putAll, bLen, cFld, CS.fld, cProp, noExc, CS.clsOf, cCallS, dItems, cLenP, cIxP, CS.see, cApp, CS.pl, CS.wr, Pl.xs, dNeg, cSetIx, cStore, froz, cLst, cCutL, dCutL, cNoPart, cPart, dPart, CS.seqL, bList, M.opt, dIs, cIsiT, D.isNon], h⟩
  | cons d ds ih =>
    intro rs S hl h hS
    simp [M.bind, M.ret, R.bind, cSeq, cRet, cVar, cOp, cAnd, cOr, cNot, cIf, cAndT, cOrT, cNotT, asB, cB, cNext, cIfS, cSet, CS.put, cChain, dLe, dLt, dGt, dGe, dI2, startC, outF, fnB, cIsi, CS.knOf, tyB, isKn, isTy, M.guard, cTru, dTru, liftF, cCall, cCons, cFor, forL, cEnum, dEnum, cTg, cLc, lcL, wipeC, cWalk, dWalk, cNever, cSetTp, putAll, bLen, cFld, CS.fld, cProp, noExc, CS.clsOf, cCallS, dItems, cLenP, cIxP, CS.see, cApp, CS.pl, CS.wr, Pl.xs, dNeg, cSetIx, cStore, froz, cLst, cCutL, dCutL, cNoPart, cPart, dPart, CS.seqL, bList, M.opt, dIs, cIsiT, D.isNon] at hl
    obtain ⟨r, S', e, hS', l1, h1⟩ := s_lrow lv top S hv hv2 ht ht2 hS
    have hr : RowOk r := ⟨by omega, fun x hx => ⟨(h1 x hx).1, by have := (h1 x hx).2; omega⟩⟩
    obtain ⟨rs', S2, e2, hS2, l2, h2⟩ := ih (rs ++ [r]) S' (by simp [M.bind, M.ret, R.bind, cSeq, cRet, cVar, cOp, cAnd, cOr, cNot, cIf, cAndT, cOrT, cNotT, asB, cB, cNext, cIfS, cSet, CS.put, cChain, dLe, dLt, dGt, dGe, dI2, startC, outF, fnB, cIsi, CS.knOf, tyB, isKn, isTy, M.guard, cTru, dTru, liftF, cCall, cCons, cFor, forL, cEnum, dEnum, cTg, cLc, lcL, wipeC, cWalk, dWalk, cNever, cSetTp, putAll, bLen, cFld, CS.fld, cProp, noExc, CS.clsOf, cCallS, dItems, cLenP, cIxP, CS.see, cApp, CS.pl, CS.wr, Pl.xs, dNeg, cSetIx, cStore, froz, cLst, cCutL, dCutL, cNoPart, cPart, dPart, CS.seqL, bList, M.opt, dIs, cIsiT, D.isNon]; omega) (fun x hx => by
      simp [M.bind, M.ret, R.bind, cSeq, cRet, cVar, cOp, cAnd, cOr, cNot, cIf, cAndT, cOrT, cNotT, asB, cB, cNext, cIfS, cSet, CS.put, cChain, dLe, dLt, dGt, dGe, dI2, startC, outF, fnB, cIsi, CS.knOf, tyB, isKn, isTy, M.guard, cTru, dTru, liftF, cCall, cCons, cFor, forL, cEnum, dEnum, cTg, cLc, lcL, wipeC, cWalk, dWalk, cNever, cSetTp, putAll, bLen, cFld, CS.fld, cProp, noExc, CS.clsOf, cCallS, dItems, cLenP, cIxP, CS.see, cApp, CS.pl, CS.wr, Pl.xs, dNeg, cSetIx, cStore, froz, cLst, cCutL, dCutL, cNoPart, cPart, dPart, CS.seqL, bList, M.opt, dIs, cIsiT, D.isNon] at hx
      rcases hx with hx | hx
      · exact h x hx
      · rw [hx]; exact ⟨hr, l1⟩) hS'
    refine ⟨rs', S2, ?_, hS2, by simp [M.bind, M.ret, R.bind, cSeq, cRet, cVar, cOp, cAnd, cOr, cNot, cIf, cAndT, cOrT, cNotT, asB, cB, cNext, cIfS, cSet, CS.put, cChain, dLe, dLt, dGt, dGe, dI2, startC, outF, fnB, cIsi, CS.knOf, tyB, isKn, isTy, M.guard, cTru, dTru, liftF, cCall, cCons, cFor, forL, cEnum, dEnum, cTg, cLc, lcL, wipeC, cWalk, dWalk, cNever, cSetTp, putAll, bLen, cFld, CS.fld, cProp, noExc, CS.clsOf, cCallS, dItems, cLenP, cIxP, CS.see, cApp, CS.pl, CS.wr, Pl.xs, dNeg, cSetIx, cStore, froz, cLst, cCutL, dCutL, cNoPart, cPart, dPart, CS.seqL, bList, M.opt, dIs, cIsiT, D.isNon] at l2 ⊢; omega, h2⟩
    have hz : rs.length < sizeLine := Nat.lt_of_lt_of_le (by omega : rs.length < 1001) (by decide)
    simp [M.bind, M.ret, R.bind, cSeq, cRet, cVar, cOp, cAnd, cOr, cNot, cIf, cAndT, cOrT, cNotT, asB, cB, cNext, cIfS, cSet, CS.put, cChain, dLe, dLt, dGt, dGe, dI2, startC, outF, fnB, cIsi, CS.knOf, tyB, isKn, isTy, M.guard, cTru, dTru, liftF, cCall, cCons, cFor, forL, cEnum, dEnum, cTg, cLc, lcL, wipeC, cWalk, dWalk, cNever, cSetTp, putAll, bLen, cFld, CS.fld, cProp, noExc, CS.clsOf, cCallS, dItems, cLenP, cIxP, CS.see, cApp, CS.pl, CS.wr, Pl.xs, dNeg, cSetIx, cStore, froz, cLst, cCutL, dCutL, cNoPart, cPart, dPart, CS.seqL, bList, M.opt, dIs, cIsiT, D.isNon, e, hz] at e2 ⊢
    exact e2
theorem s_rows2 (sg lv top : Int) (S : List O) (h0 : 0 < sg) (h4 : sg ≤ 4) (hv : 0 ≤ lv) (hv2 : lv ≤ 12) (ht : 0 < top) (ht2 : top ≤ 12) (hS : TapeOk S) : ∃ (rs : List (List Int)) (S' : List O), fn_law_rows [.ref 0, .int sg, .int lv, .int top] S = .ok (.lst (rs.map rowD)) S' ∧ TapeOk S' ∧ ChOk rs ∧ (rs.length : Int) ≤ sg ∧ ∀ r ∈ rs, (r.length : Int) ≤ lv := by
  obtain ⟨n, S1, e1, hS1, n0, n1⟩ := s_pick sg S h0 (by omega) hS
  obtain ⟨rs, S2, e2, hS2, l2, h2⟩ := s_rowsL2 sg lv top hv hv2 ht ht2 (rangeD 0 (1 + n).toNat) [] S1 (by rw [rangeD_len]; simp [M.bind, M.ret, R.bind, cSeq, cRet, cVar, cOp, cAnd, cOr, cNot, cIf, cAndT, cOrT, cNotT, asB, cB, cNext, cIfS, cSet, CS.put, cChain, dLe, dLt, dGt, dGe, dI2, startC, outF, fnB, cIsi, CS.knOf, tyB, isKn, isTy, M.guard, cTru, dTru, liftF, cCall, cCons, cFor, forL, cEnum, dEnum, cTg, cLc, lcL, wipeC, cWalk, dWalk, cNever, cSetTp, putAll, bLen, cFld, CS.fld, cProp, noExc, CS.clsOf, cCallS, dItems, cLenP, cIxP, CS.see, cApp, CS.pl, CS.wr, Pl.xs, dNeg, cSetIx, cStore, froz, cLst, cCutL, dCutL, cNoPart, cPart, dPart, CS.seqL, bList, M.opt, dIs, cIsiT, D.isNon]; omega) (fun r hr => by simp [M.bind, M.ret, R.bind, cSeq, cRet, cVar, cOp, cAnd, cOr, cNot, cIf, cAndT, cOrT, cNotT, asB, cB, cNext, cIfS, cSet, CS.put, cChain, dLe, dLt, dGt, dGe, dI2, startC, outF, fnB, cIsi, CS.knOf, tyB, isKn, isTy, M.guard, cTru, dTru, liftF, cCall, cCons, cFor, forL, cEnum, dEnum, cTg, cLc, lcL, wipeC, cWalk, dWalk, cNever, cSetTp, putAll, bLen, cFld, CS.fld, cProp, noExc, CS.clsOf, cCallS, dItems, cLenP, cIxP, CS.see, cApp, CS.pl, CS.wr, Pl.xs, dNeg, cSetIx, cStore, froz, cLst, cCutL, dCutL, cNoPart, cPart, dPart, CS.seqL, bList, M.opt, dIs, cIsiT, D.isNon] at hr) hS1
  rw [rangeD_len] at l2
  simp [M.bind, M.ret, R.bind, cSeq, cRet, cVar, cOp, cAnd, cOr, cNot, cIf, cAndT, cOrT, cNotT, asB, cB, cNext, cIfS, cSet, CS.put, cChain, dLe, dLt, dGt, dGe, dI2, startC, outF, fnB, cIsi, CS.knOf, tyB, isKn, isTy, M.guard, cTru, dTru, liftF, cCall, cCons, cFor, forL, cEnum, dEnum, cTg, cLc, lcL, wipeC, cWalk, dWalk, cNever, cSetTp, putAll, bLen, cFld, CS.fld, cProp, noExc, CS.clsOf, cCallS, dItems, cLenP, cIxP, CS.see, cApp, CS.pl, CS.wr, Pl.xs, dNeg, cSetIx, cStore, froz, cLst, cCutL, dCutL, cNoPart, cPart, dPart, CS.seqL, bList, M.opt, dIs, cIsiT, D.isNon] at l2
  have hf : fitsR (1 + n) = true := by unfold fitsR; simp [M.bind, M.ret, R.bind, cSeq, cRet, cVar, cOp, cAnd, cOr, cNot, cIf, cAndT, cOrT, cNotT, asB, cB, cNext, cIfS, cSet, CS.put, cChain, dLe, dLt, dGt, dGe, dI2, startC, outF, fnB, cIsi, CS.knOf, tyB, isKn, isTy, M.guard, cTru, dTru, liftF, cCall, cCons, cFor, forL, cEnum, dEnum, cTg, cLc, lcL, wipeC, cWalk, dWalk, cNever, cSetTp, putAll, bLen, cFld, CS.fld, cProp, noExc, CS.clsOf, cCallS, dItems, cLenP, cIxP, CS.see, cApp, CS.pl, CS.wr, Pl.xs, dNeg, cSetIx, cStore, froz, cLst, cCutL, dCutL, cNoPart, cPart, dPart, CS.seqL, bList, M.opt, dIs, cIsiT, D.isNon]; omega
  refine ⟨rs, S2, ?_, hS2, ⟨by omega, by omega, fun r hr => (h2 r hr).1⟩, by omega, fun r hr => (h2 r hr).2⟩
  simp [M.bind, M.ret, R.bind, cSeq, cRet, cVar, cOp, cAnd, cOr, cNot, cIf, cAndT, cOrT, cNotT, asB, cB, cNext, cIfS, cSet, CS.put, cChain, dLe, dLt, dGt, dGe, dI2, startC, outF, fnB, cIsi, CS.knOf, tyB, isKn, isTy, M.guard, cTru, dTru, liftF, cCall, cCons, cFor, forL, cEnum, dEnum, cTg, cLc, wipeC, cWalk, dWalk, cNever, cSetTp, putAll, bLen, cFld, CS.fld, cProp, noExc, CS.clsOf, cCallS, dItems, cLenP, cIxP, CS.see, cApp, CS.pl, CS.wr, Pl.xs, dNeg, cSetIx, cStore, froz, cLst, cCutL, dCutL, cNoPart, cPart, dPart, CS.seqL, bList, M.opt, dIs, cIsiT, D.isNon, fn_law_rows, cl_law_rows, cRange1, dAdd, e1, hf] at e2 ⊢
  rw [e2]
theorem dE_int (i j : Int) (c : CS) : dP2 (fun p q => .bl (PyData.eqv p q)) (.int i) (.int j) c = .ok (.bl (decide (i = j))) c := dEq_int i j c
theorem s_madeX (rs : List (List Int)) (S : List O) (h : ChOk rs) : fn_law_made [.lst (rs.map rowD)] S = .ok (chD rs) S := by
  have e := s_make rs S h
  obtain ⟨h1, h4, hr⟩ := h
  match rs, h1, h4 with
  | [a], _, _ => 
    have z : szOk 1 = true := szOk_small (by omega)
    simp [M.bind, M.ret, R.bind, cSeq, cRet, cVar, cOp, cAnd, cOr, cNot, cIf, cAndT, cOrT, cNotT, asB, cB, cNext, cIfS, cSet, CS.put, cChain, dLe, dLt, dGt, dGe, dI2, startC, outF, fnB, cIsi, CS.knOf, tyB, isKn, isTy, M.guard, cTru, dTru, liftF, cCall, cCons, cFor, forL, cEnum, dEnum, cTg, cLc, lcL, wipeC, cWalk, dWalk, cNever, cSetTp, putAll, bLen, cFld, CS.fld, cProp, noExc, CS.clsOf, cCallS, dItems, cLenP, cIxP, CS.see, cApp, CS.pl, CS.wr, Pl.xs, dNeg, cSetIx, cStore, froz, cLst, cCutL, dCutL, cNoPart, cPart, dPart, CS.seqL, bList, M.opt, dIs, cIsiT, D.isNon, fn_law_made, cl_law_made, z, dE_int, dIx, L2.atI, L2.ixN] at e ⊢
    rw [e]
  | [a, b], _, _ =>
    have z : szOk 2 = true := szOk_small (by omega)
    simp [M.bind, M.ret, R.bind, cSeq, cRet, cVar, cOp, cAnd, cOr, cNot, cIf, cAndT, cOrT, cNotT, asB, cB, cNext, cIfS, cSet, CS.put, cChain, dLe, dLt, dGt, dGe, dI2, startC, outF, fnB, cIsi, CS.knOf, tyB, isKn, isTy, M.guard, cTru, dTru, liftF, cCall, cCons, cFor, forL, cEnum, dEnum, cTg, cLc, lcL, wipeC, cWalk, dWalk, cNever, cSetTp, putAll, bLen, cFld, CS.fld, cProp, noExc, CS.clsOf, cCallS, dItems, cLenP, cIxP, CS.see, cApp, CS.pl, CS.wr, Pl.xs, dNeg, cSetIx, cStore, froz, cLst, cCutL, dCutL, cNoPart, cPart, dPart, CS.seqL, bList, M.opt, dIs, cIsiT, D.isNon, fn_law_made, cl_law_made, z, dE_int, dIx, L2.atI, L2.ixN] at e ⊢
    rw [e]
  | [a, b, c], _, _ =>
    have z : szOk 3 = true := szOk_small (by omega)
    simp [M.bind, M.ret, R.bind, cSeq, cRet, cVar, cOp, cAnd, cOr, cNot, cIf, cAndT, cOrT, cNotT, asB, cB, cNext, cIfS, cSet, CS.put, cChain, dLe, dLt, dGt, dGe, dI2, startC, outF, fnB, cIsi, CS.knOf, tyB, isKn, isTy, M.guard, cTru, dTru, liftF, cCall, cCons, cFor, forL, cEnum, dEnum, cTg, cLc, lcL, wipeC, cWalk, dWalk, cNever, cSetTp, putAll, bLen, cFld, CS.fld, cProp, noExc, CS.clsOf, cCallS, dItems, cLenP, cIxP, CS.see, cApp, CS.pl, CS.wr, Pl.xs, dNeg, cSetIx, cStore, froz, cLst, cCutL, dCutL, cNoPart, cPart, dPart, CS.seqL, bList, M.opt, dIs, cIsiT, D.isNon, fn_law_made, cl_law_made, z, dE_int, dIx, L2.atI, L2.ixN] at e ⊢
    rw [e]
  | [a, b, c, d], _, _ =>
    have z : szOk 4 = true := szOk_small (by omega)
    simp [M.bind, M.ret, R.bind, cSeq, cRet, cVar, cOp, cAnd, cOr, cNot, cIf, cAndT, cOrT, cNotT, asB, cB, cNext, cIfS, cSet, CS.put, cChain, dLe, dLt, dGt, dGe, dI2, startC, outF, fnB, cIsi, CS.knOf, tyB, isKn, isTy, M.guard, cTru, dTru, liftF, cCall, cCons, cFor, forL, cEnum, dEnum, cTg, cLc, lcL, wipeC, cWalk, dWalk, cNever, cSetTp, putAll, bLen, cFld, CS.fld, cProp, noExc, CS.clsOf, cCallS, dItems, cLenP, cIxP, CS.see, cApp, CS.pl, CS.wr, Pl.xs, dNeg, cSetIx, cStore, froz, cLst, cCutL, dCutL, cNoPart, cPart, dPart, CS.seqL, bList, M.opt, dIs, cIsiT, D.isNon, fn_law_made, cl_law_made, z, dE_int, dIx, L2.atI, L2.ixN] at e ⊢
    rw [e]
  | a :: b :: c :: d :: x :: r, _, h4 => simp [M.bind, M.ret, R.bind, cSeq, cRet, cVar, cOp, cAnd, cOr, cNot, cIf, cAndT, cOrT, cNotT, asB, cB, cNext, cIfS, cSet, CS.put, cChain, dLe, dLt, dGt, dGe, dI2, startC, outF, fnB, cIsi, CS.knOf, tyB, isKn, isTy, M.guard, cTru, dTru, liftF, cCall, cCons, cFor, forL, cEnum, dEnum, cTg, cLc, lcL, wipeC, cWalk, dWalk, cNever, cSetTp, putAll, bLen, cFld, CS.fld, cProp, noExc, CS.clsOf, cCallS, dItems, cLenP, cIxP, CS.see, cApp, CS.pl, CS.wr, Pl.xs, dNeg, cSetIx, cStore, froz, cLst, cCutL, dCutL, cNoPart, cPart, dPart, CS.seqL, bList, M.opt, dIs, cIsiT, D.isNon] at h4
end K35
namespace K35
open CL PySem
theorem atI_nat {α : Type} (xs : List α) (k : Nat) (h : k < xs.length) : L2.atI xs (k : Int) = some xs[k] := by
  unfold L2.atI L2.ixN
  rw [if_pos (by omega), if_pos (by omega)]
  simp [M.bind, M.ret, R.bind, cSeq, cRet, cVar, cOp, cAnd, cOr, cNot, cIf, cAndT, cOrT, cNotT, asB, cB, cNext, cIfS, cSet, CS.put, cChain, dLe, dLt, dGt, dGe, dI2, startC, outF, fnB, cIsi, CS.knOf, tyB, isKn, isTy, M.guard, cTru, dTru, liftF, cCall, cCons, cFor, forL, cEnum, dEnum, cTg, cLc, lcL, wipeC, cWalk, dWalk, cNever, cSetTp, putAll, bLen, cFld, CS.fld, cProp, noExc, CS.clsOf, cCallS, dItems, cLenP, cIxP, CS.see, cApp, CS.pl, CS.wr, Pl.xs, dNeg, cSetIx, cStore, froz, cLst, cCutL, dCutL, cNoPart, cPart, dPart, CS.seqL, bList, M.opt, dIs, cIsiT, D.isNon, h]
theorem lcL_t {t : Tg} {ft : M Bool} {fe : M D} {vs : List Nat} {d y : D} {ds acc : List D} {c c1 c2 c3 : CS} (e1 : cTg t d c = .ok .next c1) (e2 : ft c1 = .ok true c2) (e3 : fe c2 = .ok y c3) (hz : acc.length < sizeLine) : lcL t ft fe vs (d :: ds) acc c = lcL t ft fe vs ds (acc ++ [y]) (wipeC vs c3) := by
  rw [lcL]
  dsimp only
  rw [e1]
  dsimp only
  rw [e2]
  dsimp only
  rw [e3]
  dsimp only
  rw [decide_eq_true hz]
  rfl
theorem lcL_f {t : Tg} {ft : M Bool} {fe : M D} {vs : List Nat} {d : D} {ds acc : List D} {c c1 c2 : CS} (e1 : cTg t d c = .ok .next c1) (e2 : ft c1 = .ok false c2) : lcL t ft fe vs (d :: ds) acc c = lcL t ft fe vs ds acc (wipeC vs c2) := by
  rw [lcL]
  dsimp only
  rw [e1]
  dsimp only
  rw [e2]
def natsD (k n : Nat) : List D := (List.range' k n).map fun i => D.int (i : Nat)
theorem rangeD_nats (n : Nat) : rangeD 0 n = natsD 0 n := by
  unfold rangeD natsD
  rw [List.range_eq_range']
  simp [M.bind, M.ret, R.bind, cSeq, cRet, cVar, cOp, cAnd, cOr, cNot, cIf, cAndT, cOrT, cNotT, asB, cB, cNext, cIfS, cSet, CS.put, cChain, dLe, dLt, dGt, dGe, dI2, startC, outF, fnB, cIsi, CS.knOf, tyB, isKn, isTy, M.guard, cTru, dTru, liftF, cCall, cCons, cFor, forL, cEnum, dEnum, cTg, cLc, lcL, wipeC, cWalk, dWalk, cNever, cSetTp, putAll, bLen, cFld, CS.fld, cProp, noExc, CS.clsOf, cCallS, dItems, cLenP, cIxP, CS.see, cApp, CS.pl, CS.wr, Pl.xs, dNeg, cSetIx, cStore, froz, cLst, cCutL, dCutL, cNoPart, cPart, dPart, CS.seqL, bList, M.opt, dIs, cIsiT, D.isNon]
theorem natsD_cons (k n : Nat) : natsD k (n + 1) = D.int (k : Nat) :: natsD (k + 1) n := by
  unfold natsD
  rw [List.range'_succ]
  rfl
theorem rangeD_natsK (k n : Nat) : rangeD k n = natsD k n := by
  unfold rangeD natsD
  rw [List.range'_eq_map_range, List.map_map]
  rfl
theorem len_tup {fe : M D} {c c1 : CS} {xs : List D} (e : fe c = .ok (.tup xs) c1) : ((cCons fe (M.ret [])).bind bLen) c = .ok (.int xs.length) c1 := by
  show ((cCons fe (M.ret [])) c).bind bLen = _
  rw [cons_of e nilA]
  rfl
theorem len_lst {fe : M D} {c c1 : CS} {xs : List D} (e : fe c = .ok (.lst xs) c1) : ((cCons fe (M.ret [])).bind bLen) c = .ok (.int xs.length) c1 := by
  show ((cCons fe (M.ret [])) c).bind bLen = _
  rw [cons_of e nilA]
  rfl
abbrev rw_ : M D := cFld 0 0 "_rows" (cVar 0)
theorem s_rw (rs : List (List Int)) (tl : List Sl) (S : List O) : rw_ ⟨.val (chD rs) :: tl, S⟩ = .ok (.tup (rs.map rowD)) ⟨.val (chD rs) :: tl, S⟩ := rfl
abbrev inR : M Bool := cNotT (cTru (cCall fn_is_between (cCons (cVar 1) (cCons (M.ret (.int 0)) (cCons (cOp dSub ((cCons rw_ (M.ret [])).bind bLen) (M.ret (.int 1))) (M.ret []))))))
theorem s_inR {rs : List (List Int)} {d : D} {tl : List Sl} {S : List O} {b : Bool} (h : fn_is_between [d, .int 0, .int ((rs.length : Int) - 1)] S = .ok (.bl b) S) : inR ⟨.val (chD rs) :: .val d :: tl, S⟩ = .ok (!b) ⟨.val (chD rs) :: .val d :: tl, S⟩ := by
  have l := len_tup (s_rw rs (.val d :: tl) S)
  rw [List.length_map] at l
  refine notT_of (tru_bl ?_)
  refine (call_of (cons_of (x := d) (c1 := ⟨.val (chD rs) :: .val d :: tl, S⟩) rfl (cons_of (x := .int 0) (c1 := ⟨.val (chD rs) :: .val d :: tl, S⟩) rfl (cons_of (op_of (fb := M.ret (.int 1)) (y := .int 1) (k := dSub) (r := .ok (.int ((rs.length : Int) - 1)) ⟨.val (chD rs) :: .val d :: tl, S⟩) l rfl rfl) nilA)))).trans ?_
  show liftF (fn_is_between [d, .int 0, .int ((rs.length : Int) - 1)] S) _ = _
  rw [h]
  rfl
theorem s_gi (rs : List (List Int)) (e : Nat) (S : List O) (he : e < rs.length) : fn_Chain__getitem [chD rs, .int e] S = .ok (rowD rs[e]) S := by
  have b := s_isb (e : Int) 0 ((rs.length : Int) - 1) S
  rw [decide_eq_true (by omega : (0 : Int) ≤ e), decide_eq_true (by omega : (e : Int) ≤ (rs.length : Int) - 1)] at b
  have t := s_inR (tl := []) b
  have i : cOp dIx rw_ (cVar 1) ⟨[.val (chD rs), .val (.int e)], S⟩ = .ok (rowD rs[e]) ⟨[.val (chD rs), .val (.int e)], S⟩ := op_of (s_rw _ _ _) rfl (by
    show M.opt (L2.atI (rs.map rowD) (e : Nat)) _ = _
    rw [atI_nat _ _ (by simpa using he)]
    simp [M.bind, M.ret, R.bind, cSeq, cRet, cVar, cOp, cAnd, cOr, cNot, cIf, cAndT, cOrT, cNotT, asB, cB, cNext, cIfS, cSet, CS.put, cChain, dLe, dLt, dGt, dGe, dI2, startC, outF, fnB, cIsi, CS.knOf, tyB, isKn, isTy, M.guard, cTru, dTru, liftF, cCall, cCons, cFor, forL, cEnum, dEnum, cTg, cLc, lcL, wipeC, cWalk, dWalk, cNever, cSetTp, putAll, bLen, cFld, CS.fld, cProp, noExc, CS.clsOf, cCallS, dItems, cLenP, cIxP, CS.see, cApp, CS.pl, CS.wr, Pl.xs, dNeg, cSetIx, cStore, froz, cLst, cCutL, dCutL, cNoPart, cPart, dPart, CS.seqL, bList, M.opt, dIs, cIsiT, D.isNon])
  have s0 : fn_Chain__getitem [chD rs, .int e] S = outF (cl_Chain__getitem ⟨[.val (chD rs), .val (.int e)], S⟩) := rfl
  rw [s0]
  unfold cl_Chain__getitem
  rw [cSeq_next (ifS_n t), cSeq_ret (ret_of i)]
  rfl
/-! ### slices -/
theorem cut_to {α : Type} (xs : List α) (n : Nat) (h : n ≤ xs.length) : (xs.drop (HT.sIx xs.length 0 none)).take (HT.sIx xs.length xs.length (some (n : Int)) - HT.sIx xs.length 0 none) = xs.take n := by
  have e1 : HT.sIx xs.length 0 none = 0 := rfl
  have e2 : HT.sIx xs.length xs.length (some (n : Int)) = n := by
    show (if (n : Int) < 0 then ((n : Int) + (xs.length : Int)).toNat else min (n : Int).toNat xs.length) = _
    rw [if_neg (by omega)]
    simp [M.bind, M.ret, R.bind, cSeq, cRet, cVar, cOp, cAnd, cOr, cNot, cIf, cAndT, cOrT, cNotT, asB, cB, cNext, cIfS, cSet, CS.put, cChain, dLe, dLt, dGt, dGe, dI2, startC, outF, fnB, cIsi, CS.knOf, tyB, isKn, isTy, M.guard, cTru, dTru, liftF, cCall, cCons, cFor, forL, cEnum, dEnum, cTg, cLc, lcL, wipeC, cWalk, dWalk, cNever, cSetTp, putAll, bLen, cFld, CS.fld, cProp, noExc, CS.clsOf, cCallS, dItems, cLenP, cIxP, CS.see, cApp, CS.pl, CS.wr, Pl.xs, dNeg, cSetIx, cStore, froz, cLst, cCutL, dCutL, cNoPart, cPart, dPart, CS.seqL, bList, M.opt, dIs, cIsiT, D.isNon]
    omega
  rw [e1, e2]
  simp [M.bind, M.ret, R.bind, cSeq, cRet, cVar, cOp, cAnd, cOr, cNot, cIf, cAndT, cOrT, cNotT, asB, cB, cNext, cIfS, cSet, CS.put, cChain, dLe, dLt, dGt, dGe, dI2, startC, outF, fnB, cIsi, CS.knOf, tyB, isKn, isTy, M.guard, cTru, dTru, liftF, cCall, cCons, cFor, forL, cEnum, dEnum, cTg, cLc, lcL, wipeC, cWalk, dWalk, cNever, cSetTp, putAll, bLen, cFld, CS.fld, cProp, noExc, CS.clsOf, cCallS, dItems, cLenP, cIxP, CS.see, cApp, CS.pl, CS.wr, Pl.xs, dNeg, cSetIx, cStore, froz, cLst, cCutL, dCutL, cNoPart, cPart, dPart, CS.seqL, bList, M.opt, dIs, cIsiT, D.isNon]
theorem cut_from {α : Type} (xs : List α) (n : Nat) (h : n ≤ xs.length) : (xs.drop (HT.sIx xs.length 0 (some (n : Int)))).take (HT.sIx xs.length xs.length none - HT.sIx xs.length 0 (some (n : Int))) = xs.drop n := by
  have e1 : HT.sIx xs.length xs.length none = xs.length := rfl
  have e2 : HT.sIx xs.length 0 (some (n : Int)) = n := by
    show (if (n : Int) < 0 then ((n : Int) + (xs.length : Int)).toNat else min (n : Int).toNat xs.length) = _
    rw [if_neg (by omega)]
    simp [M.bind, M.ret, R.bind, cSeq, cRet, cVar, cOp, cAnd, cOr, cNot, cIf, cAndT, cOrT, cNotT, asB, cB, cNext, cIfS, cSet, CS.put, cChain, dLe, dLt, dGt, dGe, dI2, startC, outF, fnB, cIsi, CS.knOf, tyB, isKn, isTy, M.guard, cTru, dTru, liftF, cCall, cCons, cFor, forL, cEnum, dEnum, cTg, cLc, lcL, wipeC, cWalk, dWalk, cNever, cSetTp, putAll, bLen, cFld, CS.fld, cProp, noExc, CS.clsOf, cCallS, dItems, cLenP, cIxP, CS.see, cApp, CS.pl, CS.wr, Pl.xs, dNeg, cSetIx, cStore, froz, cLst, cCutL, dCutL, cNoPart, cPart, dPart, CS.seqL, bList, M.opt, dIs, cIsiT, D.isNon]
    omega
  rw [e1, e2, ← List.length_drop, List.take_length]
section
variable {fa fb : M D} {c c1 c2 : CS} {xs ys : List D} {n : Nat}
theorem cutT_to (ea : fa c = .ok (.tup xs) c1) (eb : fb c1 = .ok (.int n) c2) (h : n ≤ xs.length) : cCutT fa cNoPart (cPart fb) c = .ok (.tup (xs.take n)) c2 := by
  show (fa c).bind _ = _
  rw [ea]
  show ((fb c1).bind dPart).bind (fun u => dCutT (.tup xs) none u) = _
  rw [eb]
  show R.ok (D.tup ((xs.drop (HT.sIx xs.length 0 none)).take (HT.sIx xs.length xs.length (some (n : Int)) - HT.sIx xs.length 0 none))) c2 = _
  rw [cut_to xs n h]
theorem cutT_from (ea : fa c = .ok (.tup xs) c1) (eb : fb c1 = .ok (.int n) c2) (h : n ≤ xs.length) : cCutT fa (cPart fb) cNoPart c = .ok (.tup (xs.drop n)) c2 := by
  show (fa c).bind _ = _
  rw [ea]
  show ((fb c1).bind dPart).bind (fun l => cNoPart.bind fun u => dCutT (.tup xs) l u) = _
  rw [eb]
  show R.ok (D.tup ((xs.drop (HT.sIx xs.length 0 (some (n : Int)))).take (HT.sIx xs.length xs.length none - HT.sIx xs.length 0 (some (n : Int))))) c2 = _
  rw [cut_from xs n h]
theorem cutL_to (ea : fa c = .ok (.lst xs) c1) (eb : fb c1 = .ok (.int n) c2) (h : n ≤ xs.length) : froz (cCutL fa cNoPart (cPart fb)) c = .ok (.lst (xs.take n)) c2 := froz_of (by
  show (fa c).bind _ = _
  rw [ea]
  show ((fb c1).bind dPart).bind (fun u => dCutL (.lst xs) none u) = _
  rw [eb]
  show R.ok ((xs.drop (HT.sIx xs.length 0 none)).take (HT.sIx xs.length xs.length (some (n : Int)) - HT.sIx xs.length 0 none)) c2 = _
  rw [cut_to xs n h])
theorem cutL_from (ea : fa c = .ok (.lst xs) c1) (eb : fb c1 = .ok (.int n) c2) (h : n ≤ xs.length) : froz (cCutL fa (cPart fb) cNoPart) c = .ok (.lst (xs.drop n)) c2 := froz_of (by
  show (fa c).bind _ = _
  rw [ea]
  show ((fb c1).bind dPart).bind (fun l => cNoPart.bind fun u => dCutL (.lst xs) l u) = _
  rw [eb]
  show R.ok ((xs.drop (HT.sIx xs.length 0 (some (n : Int)))).take (HT.sIx xs.length xs.length none - HT.sIx xs.length 0 (some (n : Int)))) c2 = _
  rw [cut_from xs n h])
theorem ixT_of (ea : fa c = .ok (.tup xs) c1) (eb : fb c1 = .ok (.int n) c2) (h : n < xs.length) : cOp dIx fa fb c = .ok xs[n] c2 := op_of ea eb (by
  show M.opt (L2.atI xs (n : Nat)) c2 = _
  rw [atI_nat xs n h]
  rfl)
theorem ixL_of (ea : fa c = .ok (.lst xs) c1) (eb : fb c1 = .ok (.int n) c2) (h : n < xs.length) : cOp dIx fa fb c = .ok xs[n] c2 := op_of ea eb (by
  show M.opt (L2.atI xs (n : Nat)) c2 = _
  rw [atI_nat xs n h]
  rfl)
theorem addT_of (ea : fa c = .ok (.tup xs) c1) (eb : fb c1 = .ok (.tup ys) c2) (h : xs.length + ys.length ≤ 1000) : cOp dAdd fa fb c = .ok (.tup (xs ++ ys)) c2 := op_of ea eb (by
  show M.guard (szOk (xs.length + ys.length)) (M.ret (D.tup (xs ++ ys))) c2 = _
  rw [szOk_small h]
  rfl)
theorem addI_of {i j : Int} (ea : fa c = .ok (.int i) c1) (eb : fb c1 = .ok (.int j) c2) : cOp dAdd fa fb c = .ok (.int (i + j)) c2 := op_of ea eb rfl
theorem subI_of {i j : Int} (ea : fa c = .ok (.int i) c1) (eb : fb c1 = .ok (.int j) c2) : cOp dSub fa fb c = .ok (.int (i - j)) c2 := op_of ea eb rfl
theorem oneT_of {x : D} (ea : fa c = .ok x c1) : cTup (cCons fa (M.ret [])) c = .ok (.tup [x]) c1 := tup_of (cons_of ea nilA) (szOk_small (by simp [M.bind, M.ret, R.bind, cSeq, cRet, cVar, cOp, cAnd, cOr, cNot, cIf, cAndT, cOrT, cNotT, asB, cB, cNext, cIfS, cSet, CS.put, cChain, dLe, dLt, dGt, dGe, dI2, startC, outF, fnB, cIsi, CS.knOf, tyB, isKn, isTy, M.guard, cTru, dTru, liftF, cCall, cCons, cFor, forL, cEnum, dEnum, cTg, cLc, lcL, wipeC, cWalk, dWalk, cNever, cSetTp, putAll, bLen, cFld, CS.fld, cProp, noExc, CS.clsOf, cCallS, dItems, cLenP, cIxP, CS.see, cApp, CS.pl, CS.wr, Pl.xs, dNeg, cSetIx, cStore, froz, cLst, cCutL, dCutL, cNoPart, cPart, dPart, CS.seqL, bList, M.opt, dIs, cIsiT, D.isNon]))
theorem oneL_of {x : D} (ea : fa c = .ok x c1) : froz (cLst (cCons fa (M.ret []))) c = .ok (.lst [x]) c1 := froz_of (lst_of (cons_of ea nilA) (szOk_small (by simp [M.bind, M.ret, R.bind, cSeq, cRet, cVar, cOp, cAnd, cOr, cNot, cIf, cAndT, cOrT, cNotT, asB, cB, cNext, cIfS, cSet, CS.put, cChain, dLe, dLt, dGt, dGe, dI2, startC, outF, fnB, cIsi, CS.knOf, tyB, isKn, isTy, M.guard, cTru, dTru, liftF, cCall, cCons, cFor, forL, cEnum, dEnum, cTg, cLc, lcL, wipeC, cWalk, dWalk, cNever, cSetTp, putAll, bLen, cFld, CS.fld, cProp, noExc, CS.clsOf, cCallS, dItems, cLenP, cIxP, CS.see, cApp, CS.pl, CS.wr, Pl.xs, dNeg, cSetIx, cStore, froz, cLst, cCutL, dCutL, cNoPart, cPart, dPart, CS.seqL, bList, M.opt, dIs, cIsiT, D.isNon])))
theorem catL_of (ea : fa c = .ok (.lst xs) c1) (eb : fb c1 = .ok (.lst ys) c2) (h : xs.length + ys.length ≤ 1000) : froz (cOpL dCat fa fb) c = .ok (.lst (xs ++ ys)) c2 := froz_of (cat_of ea eb (szOk_small h))
end

theorem own_of {fn : Fn} {mn : Str} {h : D → D → M D} {fa fb : M D} {c c1 c2 : CS} {rs : List (List Int)} {y : D} (ea : fa c = .ok (chD rs) c1) (eb : fb c1 = .ok y c2) : cOp (dOwn 0 mn fn h) fa fb c = liftF (fn [chD rs, y] c2.S) c2 := op_of ea eb rfl
theorem meth_of {fn : Fn} {mn : Str} {fa fb : M D} {c c1 c2 : CS} {rs : List (List Int)} {y : D} (ea : fa c = .ok (chD rs) c1) (eb : fb c1 = .ok y c2) : cMeth 0 mn fn fa (cCons fb (M.ret [])) c = liftF (fn [chD rs, y] c2.S) c2 := by
  show (fa c).bind _ = _
  rw [ea]
  show ((cCons fb (M.ret [])) c1).bind _ = _
  rw [cons_of eb nilA]
  rfl

end K35
namespace K35
open CL PySem
/-! ### what a request does -/
abbrev segD (s : List (List Int)) : D := .tup (s.map rowD)
abbrev conD (cs : List (List (List Int))) : D := .tup (cs.map segD)
def insP (c : Int) (h : List Int) (x : Int) : List Int := if (h.length : Int) < c then h ++ [x] else h.drop 1 ++ [x]
def levA : List Int → List (List Int) → Int → List (List Int) × Option Nat
  | c :: cs, h :: hs, x => if x ≠ -1 ∧ x ∈ h then (h :: hs, some 0) else (insP c h x :: (levA cs hs x).1, (levA cs hs x).2.map (· + 1))
  | _, hs, _ => (hs, none)
def segA : List (List Int) → List (List (List Int)) → Int → List (List (List Int)) × Option (Nat × Nat)
  | r :: rs, s :: ss, x => match levA r s x with
    | (s', some a) => (s' :: ss, some (0, a))
    | (s', none) => (s' :: (segA rs ss x).1, (segA rs ss x).2.map fun p => (p.1 + 1, p.2))
  | _, ss, _ => (ss, none)
def askA (rs : List (List Int)) (cs : List (List (List Int))) (e : Nat) (x : Int) : List (List (List Int)) × Option (Nat × Nat) :=
  (cs.take e ++ (segA (rs.drop e) (cs.drop e) x).1, (segA (rs.drop e) (cs.drop e) x).2.map fun p => (p.1 + e, p.2))
def resD : Option (Nat × Nat) → D
  | none => .non
  | some (k, a) => .tup [.int k, .int a]
/-- as many levels as there are capacities; what is held is short -/
def SegOk (r : List Int) (s : List (List Int)) : Prop := s.length = r.length ∧ ∀ h ∈ s, h.length ≤ 12
def ConOk : List (List Int) → List (List (List Int)) → Prop
  | [], [] => True
  | r :: rs, s :: ss => SegOk r s ∧ ConOk rs ss
  | _, _ => False
theorem insP_len {c : Int} {h : List Int} {x : Int} (hc : 1 ≤ c) (hc2 : c ≤ 12) (hl : h.length ≤ 12) : (insP c h x).length ≤ 12 := by
  unfold insP
  split
  · rw [List.length_append]; simp [M.bind, M.ret, R.bind, cSeq, cRet, cVar, cOp, cAnd, cOr, cNot, cIf, cAndT, cOrT, cNotT, asB, cB, cNext, cIfS, cSet, CS.put, cChain, dLe, dLt, dGt, dGe, dI2, startC, outF, fnB, cIsi, CS.knOf, tyB, isKn, isTy, M.guard, cTru, dTru, liftF, cCall, cCons, cFor, forL, cEnum, dEnum, cTg, cLc, lcL, wipeC, cWalk, dWalk, cNever, cSetTp, putAll, bLen, cFld, CS.fld, cProp, noExc, CS.clsOf, cCallS, dItems, cLenP, cIxP, CS.see, cApp, CS.pl, CS.wr, Pl.xs, dNeg, cSetIx, cStore, froz, cLst, cCutL, dCutL, cNoPart, cPart, dPart, CS.seqL, bList, M.opt, dIs, cIsiT, D.isNon]; omega
  · rw [List.length_append, List.length_drop]; simp [M.bind, M.ret, R.bind, cSeq, cRet, cVar, cOp, cAnd, cOr, cNot, cIf, cAndT, cOrT, cNotT, asB, cB, cNext, cIfS, cSet, CS.put, cChain, dLe, dLt, dGt, dGe, dI2, startC, outF, fnB, cIsi, CS.knOf, tyB, isKn, isTy, M.guard, cTru, dTru, liftF, cCall, cCons, cFor, forL, cEnum, dEnum, cTg, cLc, lcL, wipeC, cWalk, dWalk, cNever, cSetTp, putAll, bLen, cFld, CS.fld, cProp, noExc, CS.clsOf, cCallS, dItems, cLenP, cIxP, CS.see, cApp, CS.pl, CS.wr, Pl.xs, dNeg, cSetIx, cStore, froz, cLst, cCutL, dCutL, cNoPart, cPart, dPart, CS.seqL, bList, M.opt, dIs, cIsiT, D.isNon]; omega
theorem levA_ok {r : List Int} (hr : ∀ x ∈ r, 1 ≤ x ∧ x ≤ 12) {s : List (List Int)} (x : Int) (h : SegOk r s) : SegOk r (levA r s x).1 := by
  induction r generalizing s with
  | nil => exact h
  | cons c r ih =>
    cases s with
    | nil => exact h
    | cons hd s =>
      have h' : SegOk r s := ⟨by simpa using h.1, fun y hy => h.2 y (List.mem_cons_of_mem _ hy)⟩
      have i := ih (fun y hy => hr y (List.mem_cons_of_mem _ hy)) h'
      unfold levA
      split
      · exact h
      · refine ⟨by simpa using i.1, fun y hy => ?_⟩
        rcases List.mem_cons.mp hy with e | hy
        · rw [e]
          exact insP_len (hr c (by simp [M.bind, M.ret, R.bind, cSeq, cRet, cVar, cOp, cAnd, cOr, cNot, cIf, cAndT, cOrT, cNotT, asB, cB, cNext, cIfS, cSet, CS.put, cChain, dLe, dLt, dGt, dGe, dI2, startC, outF, fnB, cIsi, CS.knOf, tyB, isKn, isTy, M.guard, cTru, dTru, liftF, cCall, cCons, cFor, forL, cEnum, dEnum, cTg, cLc, lcL, wipeC, cWalk, dWalk, cNever, cSetTp, putAll, bLen, cFld, CS.fld, cProp, noExc, CS.clsOf, cCallS, dItems, cLenP, cIxP, CS.see, cApp, CS.pl, CS.wr, Pl.xs, dNeg, cSetIx, cStore, froz, cLst, cCutL, dCutL, cNoPart, cPart, dPart, CS.seqL, bList, M.opt, dIs, cIsiT, D.isNon])).1 (hr c (by simp [M.bind, M.ret, R.bind, cSeq, cRet, cVar, cOp, cAnd, cOr, cNot, cIf, cAndT, cOrT, cNotT, asB, cB, cNext, cIfS, cSet, CS.put, cChain, dLe, dLt, dGt, dGe, dI2, startC, outF, fnB, cIsi, CS.knOf, tyB, isKn, isTy, M.guard, cTru, dTru, liftF, cCall, cCons, cFor, forL, cEnum, dEnum, cTg, cLc, lcL, wipeC, cWalk, dWalk, cNever, cSetTp, putAll, bLen, cFld, CS.fld, cProp, noExc, CS.clsOf, cCallS, dItems, cLenP, cIxP, CS.see, cApp, CS.pl, CS.wr, Pl.xs, dNeg, cSetIx, cStore, froz, cLst, cCutL, dCutL, cNoPart, cPart, dPart, CS.seqL, bList, M.opt, dIs, cIsiT, D.isNon])).2 (h.2 hd (by simp [M.bind, M.ret, R.bind, cSeq, cRet, cVar, cOp, cAnd, cOr, cNot, cIf, cAndT, cOrT, cNotT, asB, cB, cNext, cIfS, cSet, CS.put, cChain, dLe, dLt, dGt, dGe, dI2, startC, outF, fnB, cIsi, CS.knOf, tyB, isKn, isTy, M.guard, cTru, dTru, liftF, cCall, cCons, cFor, forL, cEnum, dEnum, cTg, cLc, lcL, wipeC, cWalk, dWalk, cNever, cSetTp, putAll, bLen, cFld, CS.fld, cProp, noExc, CS.clsOf, cCallS, dItems, cLenP, cIxP, CS.see, cApp, CS.pl, CS.wr, Pl.xs, dNeg, cSetIx, cStore, froz, cLst, cCutL, dCutL, cNoPart, cPart, dPart, CS.seqL, bList, M.opt, dIs, cIsiT, D.isNon]))
        · exact i.2 y hy
theorem segA_ok {rs : List (List Int)} (hr : ∀ r ∈ rs, RowOk r) {ss : List (List (List Int))} (x : Int) (h : ConOk rs ss) : ConOk rs (segA rs ss x).1 := by
  induction rs generalizing ss with
  | nil => exact h
  | cons r rs ih =>
    cases ss with
    | nil => exact h
    | cons s ss =>
      have i := ih (fun y hy => hr y (List.mem_cons_of_mem _ hy)) h.2
      have j := levA_ok (hr r (by simp [M.bind, M.ret, R.bind, cSeq, cRet, cVar, cOp, cAnd, cOr, cNot, cIf, cAndT, cOrT, cNotT, asB, cB, cNext, cIfS, cSet, CS.put, cChain, dLe, dLt, dGt, dGe, dI2, startC, outF, fnB, cIsi, CS.knOf, tyB, isKn, isTy, M.guard, cTru, dTru, liftF, cCall, cCons, cFor, forL, cEnum, dEnum, cTg, cLc, lcL, wipeC, cWalk, dWalk, cNever, cSetTp, putAll, bLen, cFld, CS.fld, cProp, noExc, CS.clsOf, cCallS, dItems, cLenP, cIxP, CS.see, cApp, CS.pl, CS.wr, Pl.xs, dNeg, cSetIx, cStore, froz, cLst, cCutL, dCutL, cNoPart, cPart, dPart, CS.seqL, bList, M.opt, dIs, cIsiT, D.isNon])).2 x h.1
      unfold segA
      split
      · rename_i s' a e
        rw [e] at j
        exact ⟨j, h.2⟩
      · rename_i s' e
        rw [e] at j
        exact ⟨j, i⟩
theorem con_len {rs : List (List Int)} : ∀ {cs : List (List (List Int))}, ConOk rs cs → cs.length = rs.length := by
  induction rs with
  | nil => intro cs h; cases cs with
    | nil => rfl
    | cons _ _ => exact h.elim
  | cons r rs ih => intro cs h; cases cs with
    | nil => exact h.elim
    | cons s ss => rw [List.length_cons, List.length_cons, ih h.2]
theorem con_drop {rs : List (List Int)} (e : Nat) : ∀ {cs : List (List (List Int))}, ConOk rs cs → ConOk (rs.drop e) (cs.drop e) := by
  induction e generalizing rs with
  | zero => intro cs h; exact h
  | succ e ih =>
    intro cs h
    cases rs with
    | nil => cases cs with
      | nil => trivial
      | cons _ _ => exact h.elim
    | cons r rs => cases cs with
      | nil => exact h.elim
      | cons s ss => exact ih h.2
theorem con_app {a b : List (List Int)} : ∀ {c d : List (List (List Int))}, ConOk a c → ConOk b d → ConOk (a ++ b) (c ++ d) := by
  induction a with
  | nil => intro c d h1 h2; cases c with
    | nil => exact h2
    | cons _ _ => exact h1.elim
  | cons r a ih => intro c d h1 h2; cases c with
    | nil => exact h1.elim
    | cons s c => exact ⟨h1.1, ih h1.2 h2⟩
theorem con_take {rs : List (List Int)} (e : Nat) : ∀ {cs : List (List (List Int))}, ConOk rs cs → ConOk (rs.take e) (cs.take e) := by
  induction e generalizing rs with
  | zero => intro cs h; trivial
  | succ e ih =>
    intro cs h
    cases rs with
    | nil => cases cs with
      | nil => trivial
      | cons _ _ => exact h.elim
    | cons r rs => cases cs with
      | nil => exact h.elim
      | cons s ss => exact ⟨h.1, ih h.2⟩
theorem askA_ok {rs : List (List Int)} (hr : ∀ r ∈ rs, RowOk r) {cs : List (List (List Int))} (e : Nat) (x : Int) (h : ConOk rs cs) : ConOk rs (askA rs cs e x).1 := by
  have i := segA_ok (rs := rs.drop e) (fun r hm => hr r (List.mem_of_mem_drop hm)) x (con_drop e h)
  have j := con_app (con_take e h) i
  rw [List.take_append_drop] at j
  exact j
/-! ### the program's steps -/
theorem s_ins (h : List Int) (x c : Int) (S : List O) (hl : h.length ≤ 900) (hc : 1 ≤ c) : fn_inserted [rowD h, .int x, .int c] S = .ok (rowD (insP c h x)) S := by
  let c0 : CS := ⟨[.val (rowD h), .val (.int x), .val (.int c)], S⟩
  have sl : (h.map D.int).length = h.length := List.length_map _
  have t : asB (cOp dLt ((cCons (cVar 0) (M.ret [])).bind bLen) (cVar 2)) c0 = .ok (decide ((h.length : Int) < c)) c0 := by
    have ln := len_tup (fe := cVar 0) (xs := h.map D.int) (c := c0) (c1 := c0) rfl
    rw [sl] at ln
    exact asB_of (op_of ln (fb := cVar 2) (y := .int c) rfl rfl)
  have one : cTup (cCons (cVar 1) (M.ret [])) c0 = .ok (.tup [.int x]) c0 := oneT_of rfl
  show outF (cl_inserted c0) = _
  unfold cl_inserted insP
  by_cases q : (h.length : Int) < c
  · rw [decide_eq_true q] at t
    rw [if_pos q]
    have a := addT_of (fa := cVar 0) (xs := h.map D.int) (c := c0) (c1 := c0) rfl one (by simp [M.bind, M.ret, R.bind, cSeq, cRet, cVar, cOp, cAnd, cOr, cNot, cIf, cAndT, cOrT, cNotT, asB, cB, cNext, cIfS, cSet, CS.put, cChain, dLe, dLt, dGt, dGe, dI2, startC, outF, fnB, cIsi, CS.knOf, tyB, isKn, isTy, M.guard, cTru, dTru, liftF, cCall, cCons, cFor, forL, cEnum, dEnum, cTg, cLc, lcL, wipeC, cWalk, dWalk, cNever, cSetTp, putAll, bLen, cFld, CS.fld, cProp, noExc, CS.clsOf, cCallS, dItems, cLenP, cIxP, CS.see, cApp, CS.pl, CS.wr, Pl.xs, dNeg, cSetIx, cStore, froz, cLst, cCutL, dCutL, cNoPart, cPart, dPart, CS.seqL, bList, M.opt, dIs, cIsiT, D.isNon]; omega)
    have b : cIfS (asB (cOp dLt ((cCons (cVar 0) (M.ret [])).bind bLen) (cVar 2))) (cSeq (cRet (cOp dAdd (cVar 0) (cTup (cCons (cVar 1) (M.ret []))))) cNext) cNext c0 = .ok (.ret (.tup (h.map D.int ++ [.int x]))) c0 := (ifS_t t).trans (cSeq_ret (ret_of a))
    rw [cSeq_ret b]
    show FR.ok (.tup (h.map D.int ++ [.int x])) S = .ok (rowD (h ++ [x])) S
    unfold rowD
    rw [List.map_append]
    rfl
  · rw [decide_eq_false q] at t
    rw [if_neg q, cSeq_next (ifS_n t)]
    have cu := cutT_from (fa := cVar 0) (fb := M.ret (.int 1)) (xs := h.map D.int) (n := 1) (c := c0) (c1 := c0) (c2 := c0) rfl rfl (by rw [sl]; omega)
    have a := addT_of cu one (by rw [List.length_drop, sl]; simp [M.bind, M.ret, R.bind, cSeq, cRet, cVar, cOp, cAnd, cOr, cNot, cIf, cAndT, cOrT, cNotT, asB, cB, cNext, cIfS, cSet, CS.put, cChain, dLe, dLt, dGt, dGe, dI2, startC, outF, fnB, cIsi, CS.knOf, tyB, isKn, isTy, M.guard, cTru, dTru, liftF, cCall, cCons, cFor, forL, cEnum, dEnum, cTg, cLc, lcL, wipeC, cWalk, dWalk, cNever, cSetTp, putAll, bLen, cFld, CS.fld, cProp, noExc, CS.clsOf, cCallS, dItems, cLenP, cIxP, CS.see, cApp, CS.pl, CS.wr, Pl.xs, dNeg, cSetIx, cStore, froz, cLst, cCutL, dCutL, cNoPart, cPart, dPart, CS.seqL, bList, M.opt, dIs, cIsiT, D.isNon]; omega)
    rw [cSeq_ret (ret_of a)]
    show FR.ok (.tup ((h.map D.int).drop 1 ++ [.int x])) S = .ok (rowD (h.drop 1 ++ [x])) S
    unfold rowD
    rw [List.map_append, List.map_drop]
    rfl
end K35
namespace K35
open CL PySem
theorem dNe_int (i j : Int) (c : CS) : dNe (.int i) (.int j) c = .ok (.bl (!decide (i = j))) c := by
  simp [M.bind, M.ret, R.bind, cSeq, cRet, cVar, cOp, cAnd, cOr, cNot, cIf, cAndT, cOrT, cNotT, asB, cB, cNext, cIfS, cSet, CS.put, cChain, dLe, dLt, dGt, dGe, dI2, startC, outF, fnB, cIsi, CS.knOf, tyB, isKn, isTy, M.guard, cTru, dTru, liftF, cCall, cCons, cFor, forL, cEnum, dEnum, cTg, cLc, lcL, wipeC, cWalk, dWalk, cNever, cSetTp, putAll, bLen, cFld, CS.fld, cProp, noExc, CS.clsOf, cCallS, dItems, cLenP, cIxP, CS.see, cApp, CS.pl, CS.wr, Pl.xs, dNeg, cSetIx, cStore, froz, cLst, cCutL, dCutL, cNoPart, cPart, dPart, CS.seqL, bList, M.opt, dIs, cIsiT, D.isNon, dNe, dP2, toP, shp_int, PyData.eqv]
  by_cases h : i = j <;> simp [M.bind, M.ret, R.bind, cSeq, cRet, cVar, cOp, cAnd, cOr, cNot, cIf, cAndT, cOrT, cNotT, asB, cB, cNext, cIfS, cSet, CS.put, cChain, dLe, dLt, dGt, dGe, dI2, startC, outF, fnB, cIsi, CS.knOf, tyB, isKn, isTy, M.guard, cTru, dTru, liftF, cCall, cCons, cFor, forL, cEnum, dEnum, cTg, cLc, lcL, wipeC, cWalk, dWalk, cNever, cSetTp, putAll, bLen, cFld, CS.fld, cProp, noExc, CS.clsOf, cCallS, dItems, cLenP, cIxP, CS.see, cApp, CS.pl, CS.wr, Pl.xs, dNeg, cSetIx, cStore, froz, cLst, cCutL, dCutL, cNoPart, cPart, dPart, CS.seqL, bList, M.opt, dIs, cIsiT, D.isNon, h]
theorem any_int (h : List Int) (x : Int) : ((h.map PyData.int).any fun z => PyData.eqv z (.int x)) = decide (x ∈ h) := by
  induction h with
  | nil => rfl
  | cons y h ih =>
    rw [List.map_cons, List.any_cons, ih]
    have e : PyData.eqv (.int y) (.int x) = decide (x = y) := by
      simp only [PyData.eqv]
      by_cases q : x = y
      · subst q; simp [M.bind, M.ret, R.bind, cSeq, cRet, cVar, cOp, cAnd, cOr, cNot, cIf, cAndT, cOrT, cNotT, asB, cB, cNext, cIfS, cSet, CS.put, cChain, dLe, dLt, dGt, dGe, dI2, startC, outF, fnB, cIsi, CS.knOf, tyB, isKn, isTy, M.guard, cTru, dTru, liftF, cCall, cCons, cFor, forL, cEnum, dEnum, cTg, cLc, lcL, wipeC, cWalk, dWalk, cNever, cSetTp, putAll, bLen, cFld, CS.fld, cProp, noExc, CS.clsOf, cCallS, dItems, cLenP, cIxP, CS.see, cApp, CS.pl, CS.wr, Pl.xs, dNeg, cSetIx, cStore, froz, cLst, cCutL, dCutL, cNoPart, cPart, dPart, CS.seqL, bList, M.opt, dIs, cIsiT, D.isNon]
      · rw [decide_eq_false q]
        simp [M.bind, M.ret, R.bind, cSeq, cRet, cVar, cOp, cAnd, cOr, cNot, cIf, cAndT, cOrT, cNotT, asB, cB, cNext, cIfS, cSet, CS.put, cChain, dLe, dLt, dGt, dGe, dI2, startC, outF, fnB, cIsi, CS.knOf, tyB, isKn, isTy, M.guard, cTru, dTru, liftF, cCall, cCons, cFor, forL, cEnum, dEnum, cTg, cLc, lcL, wipeC, cWalk, dWalk, cNever, cSetTp, putAll, bLen, cFld, CS.fld, cProp, noExc, CS.clsOf, cCallS, dItems, cLenP, cIxP, CS.see, cApp, CS.pl, CS.wr, Pl.xs, dNeg, cSetIx, cStore, froz, cLst, cCutL, dCutL, cNoPart, cPart, dPart, CS.seqL, bList, M.opt, dIs, cIsiT, D.isNon]; omega
    rw [e]
    by_cases q : x = y <;> by_cases q2 : x ∈ h <;> simp [M.bind, M.ret, R.bind, cSeq, cRet, cVar, cOp, cAnd, cOr, cNot, cIf, cAndT, cOrT, cNotT, asB, cB, cNext, cIfS, cSet, CS.put, cChain, dLe, dLt, dGt, dGe, dI2, startC, outF, fnB, cIsi, CS.knOf, tyB, isKn, isTy, M.guard, cTru, dTru, liftF, cCall, cCons, cFor, forL, cEnum, dEnum, cTg, cLc, lcL, wipeC, cWalk, dWalk, cNever, cSetTp, putAll, bLen, cFld, CS.fld, cProp, noExc, CS.clsOf, cCallS, dItems, cLenP, cIxP, CS.see, cApp, CS.pl, CS.wr, Pl.xs, dNeg, cSetIx, cStore, froz, cLst, cCutL, dCutL, cNoPart, cPart, dPart, CS.seqL, bList, M.opt, dIs, cIsiT, D.isNon, q, q2]
theorem flat_ints (h : List Int) : (h.map PyData.int).all flatP = true := by
  rw [List.all_eq_true]
  intro p hp
  obtain ⟨i, _, rfl⟩ := List.mem_map.mp hp
  rfl
theorem dIn_row (x : Int) (h : List Int) (c : CS) : dIn false (.int x) (rowD h) c = .ok (.bl (decide (x ∈ h))) c := by
  show (match toP (.int x), toPs (h.map D.int) with
    | some p, some ps => M.guard (flatP p && ps.all flatP) (M.ret (D.bl (ynot false (ps.any fun z => PyData.eqv z p)))) c
    | _, _ => .stuck) = _
  rw [show toP (.int x) = some (.int x) from rfl, toPs_int]
  dsimp only
  rw [flat_ints, any_int]
  rfl
theorem ixN_nat {n i : Nat} (h : i < n) : L2.ixN n (i : Int) = some i := by
  unfold L2.ixN
  rw [if_pos (by omega), if_pos (by omega)]
  simp [M.bind, M.ret, R.bind, cSeq, cRet, cVar, cOp, cAnd, cOr, cNot, cIf, cAndT, cOrT, cNotT, asB, cB, cNext, cIfS, cSet, CS.put, cChain, dLe, dLt, dGt, dGe, dI2, startC, outF, fnB, cIsi, CS.knOf, tyB, isKn, isTy, M.guard, cTru, dTru, liftF, cCall, cCons, cFor, forL, cEnum, dEnum, cTg, cLc, lcL, wipeC, cWalk, dWalk, cNever, cSetTp, putAll, bLen, cFld, CS.fld, cProp, noExc, CS.clsOf, cCallS, dItems, cLenP, cIxP, CS.see, cApp, CS.pl, CS.wr, Pl.xs, dNeg, cSetIx, cStore, froz, cLst, cCutL, dCutL, cNoPart, cPart, dPart, CS.seqL, bList, M.opt, dIs, cIsiT, D.isNon]
abbrev hitT : M Bool := cAndT (asB (cOp dNe (cVar 3) (M.ret (.int (-1))))) (asB (cOp (dIn false) (cVar 3) (cVar 8)))
abbrev tup6 : M D := (cCons (cVar 6) (M.ret [])).bind bTuple
abbrev tup4 : M D := (cCons (cVar 4) (M.ret [])).bind bTuple
abbrev put4 : M Fl := cSetIx 4 (cVar 5) tup6
abbrev hitR : M D := cTup (cCons tup4 (cCons (cTup (cCons (cVar 5) (cCons (cVar 7) (M.ret [])))) (M.ret [])))
abbrev hitB : M Fl := cSeq put4 (cSeq (cRet hitR) cNext)
abbrev capE : M D := cOp dIx (cOp (dOwn 0 "__getitem__" fn_Chain__getitem dIx) (cVar 0) (cVar 5)) (cVar 7)
abbrev insE : M D := cCall fn_inserted (cCons (cVar 8) (cCons (cVar 3) (cCons capE (M.ret []))))
abbrev inB : M Fl := cSeq (cIfS hitT hitB cNext) (cSeq (cSetIx 6 (cVar 7) insE) cNext)
abbrev ac (rs : List (List Int)) (cs : List (List (List Int))) (e : Nat) (x : Int) (seg : Nat) (S : List O) (rows : List D) (lv : List (List Int)) (x7 x8 : Sl) : CS := ⟨[.val (chD rs), .val (conD cs), .val (.int e), .val (.int x), .own (.lst rows), .val (.int seg), .own (.lst (lv.map rowD)), x7, x8], S⟩
theorem hit_of (rs : List (List Int)) (cs : List (List (List Int))) (e : Nat) (x : Int) (seg : Nat) (S : List O) (rows : List D) (lv : List (List Int)) (x7 : Sl) (h : List Int) :
    hitT (ac rs cs e x seg S rows lv x7 (.val (rowD h))) = .ok (decide (x ≠ -1 ∧ x ∈ h)) (ac rs cs e x seg S rows lv x7 (.val (rowD h))) := by
  let c := ac rs cs e x seg S rows lv x7 (.val (rowD h))
  have a : asB (cOp dNe (cVar 3) (M.ret (.int (-1)))) c = .ok (!decide (x = -1)) c := asB_of (op_of (x := .int x) (y := .int (-1)) (c1 := c) rfl rfl (dNe_int x (-1) c))
  by_cases q : x = -1
  · rw [decide_eq_true q] at a
    rw [decide_eq_false (fun z => z.1 q)]
    exact andT_f a
  · rw [decide_eq_false q] at a
    refine (andT_t a).trans ((asB_of (op_of (x := .int x) (y := rowD h) (c1 := c) rfl rfl (dIn_row x h c))).trans ?_)
    by_cases q2 : x ∈ h
    · rw [decide_eq_true q2, decide_eq_true ⟨q, q2⟩]
    · rw [decide_eq_false q2, decide_eq_false fun z => q2 z.2]
theorem s_inL (rs : List (List Int)) (cs : List (List (List Int))) (e : Nat) (x : Int) (seg : Nat) (hseg : seg < rs.length) (S : List O) (rows : List D) (hrows : seg < rows.length) (post : List (List Int)) : ∀ (cpre cpost : List Int) (done : List (List Int)) (x7 x8 : Sl),
    rs[seg] = cpre ++ cpost → cpre.length = done.length → cpost.length = post.length → (∀ c ∈ cpost, 1 ≤ c ∧ c ≤ 12) → (∀ h ∈ post, h.length ≤ 12) →
    (∀ r, levA cpost post x = (r, none) → ∃ y7 y8, forL (fun d => cSeq (cTg (.tp [7, 8]) d) inB) (((post.map rowD).zipIdx done.length).map fun p => D.tup [.int (p.2 : Nat), p.1]) (ac rs cs e x seg S rows (done ++ post) x7 x8) = .ok .next (ac rs cs e x seg S rows (done ++ r) y7 y8)) ∧
    (∀ r a, levA cpost post x = (r, some a) → ∃ c', forL (fun d => cSeq (cTg (.tp [7, 8]) d) inB) (((post.map rowD).zipIdx done.length).map fun p => D.tup [.int (p.2 : Nat), p.1]) (ac rs cs e x seg S rows (done ++ post) x7 x8) = .ok (.ret (.tup [.tup (rows.set seg (segD (done ++ r))), .tup [.int seg, .int ((done.length + a : Nat) : Int)]])) c' ∧ c'.S = S) := by
  induction post with
  | nil =>
    intro cpre cpost done x7 x8 h1 h2 h3 h4 h5
    refine ⟨fun r hr => ?_, fun r a hr => ?_⟩
    · cases cpost with
      | nil => unfold levA at hr; cases hr; exact ⟨x7, x8, rfl⟩
      | cons _ _ => cases h3
    · cases cpost with
      | nil => unfold levA at hr; cases hr
      | cons _ _ => cases h3
  | cons h post ih =>
    intro cpre cpost done x7 x8 h1 h2 h3 h4 h5
    cases cpost with
    | nil => cases h3
    | cons cp cpost =>
      let c : CS := ac rs cs e x seg S rows (done ++ h :: post) (.val (.int (done.length : Nat))) (.val (rowD h))
      have ds : (((h :: post).map rowD).zipIdx done.length).map (fun p => D.tup [.int (p.2 : Nat), p.1]) = D.tup [.int (done.length : Nat), rowD h] :: (((post.map rowD).zipIdx (done.length + 1)).map fun p => D.tup [.int (p.2 : Nat), p.1]) := rfl
      have tg : cTg (.tp [7, 8]) (D.tup [.int (done.length : Nat), rowD h]) (ac rs cs e x seg S rows (done ++ h :: post) x7 x8) = .ok .next c := rfl
      have t := hit_of rs cs e x seg S rows (done ++ h :: post) (.val (.int (done.length : Nat))) h
      by_cases q : x ≠ -1 ∧ x ∈ h
      · rw [decide_eq_true q] at t
        have eL : levA (cp :: cpost) (h :: post) x = (h :: post, some 0) := by unfold levA; rw [if_pos q]
        refine ⟨fun r hr => (by rw [eL] at hr; cases hr), fun r a hr => ?_⟩
        rw [eL] at hr
        cases hr
        let c2 : CS := ⟨[.val (chD rs), .val (conD cs), .val (.int e), .val (.int x), .own (.lst (rows.set seg (segD (done ++ h :: post)))), .val (.int seg), .val (.lst ((done ++ h :: post).map rowD)), .val (.int (done.length : Nat)), .val (rowD h)], S⟩
        let c1 : CS := ⟨[.val (chD rs), .val (conD cs), .val (.int e), .val (.int x), .own (.lst rows), .val (.int seg), .val (.lst ((done ++ h :: post).map rowD)), .val (.int (done.length : Nat)), .val (rowD h)], S⟩
        have g1 : put4 c = .ok .next c2 := setIx_of (p1 := .own rows) (p := .own rows) (c1 := c1) (c2 := c1) (d := segD (done ++ h :: post)) rfl rfl rfl rfl (ixN_nat hrows)
        let c3 : CS := ⟨[.val (chD rs), .val (conD cs), .val (.int e), .val (.int x), .val (.lst (rows.set seg (segD (done ++ h :: post)))), .val (.int seg), .val (.lst ((done ++ h :: post).map rowD)), .val (.int (done.length : Nat)), .val (rowD h)], S⟩
        have t4 : tup4 c2 = .ok (.tup (rows.set seg (segD (done ++ h :: post)))) c3 := rfl
        have t5 : cTup (cCons (cVar 5) (cCons (cVar 7) (M.ret []))) c3 = .ok (.tup [.int seg, .int (done.length : Nat)]) c3 := tup_of (cons_of (x := .int seg) (c1 := c3) rfl (cons_of (x := .int (done.length : Nat)) (c1 := c3) rfl nilA)) (szOk_small (by simp [M.bind, M.ret, R.bind, cSeq, cRet, cVar, cOp, cAnd, cOr, cNot, cIf, cAndT, cOrT, cNotT, asB, cB, cNext, cIfS, cSet, CS.put, cChain, dLe, dLt, dGt, dGe, dI2, startC, outF, fnB, cIsi, CS.knOf, tyB, isKn, isTy, M.guard, cTru, dTru, liftF, cCall, cCons, cFor, forL, cEnum, dEnum, cTg, cLc, lcL, wipeC, cWalk, dWalk, cNever, cSetTp, putAll, bLen, cFld, CS.fld, cProp, noExc, CS.clsOf, cCallS, dItems, cLenP, cIxP, CS.see, cApp, CS.pl, CS.wr, Pl.xs, dNeg, cSetIx, cStore, froz, cLst, cCutL, dCutL, cNoPart, cPart, dPart, CS.seqL, bList, M.opt, dIs, cIsiT, D.isNon]))
        have g2 : cRet hitR c2 = .ok (.ret (.tup [.tup (rows.set seg (segD (done ++ h :: post))), .tup [.int seg, .int (done.length : Nat)]])) c3 := ret_of (tup_of (cons_of t4 (cons_of t5 nilA)) (szOk_small (by simp [M.bind, M.ret, R.bind, cSeq, cRet, cVar, cOp, cAnd, cOr, cNot, cIf, cAndT, cOrT, cNotT, asB, cB, cNext, cIfS, cSet, CS.put, cChain, dLe, dLt, dGt, dGe, dI2, startC, outF, fnB, cIsi, CS.knOf, tyB, isKn, isTy, M.guard, cTru, dTru, liftF, cCall, cCons, cFor, forL, cEnum, dEnum, cTg, cLc, lcL, wipeC, cWalk, dWalk, cNever, cSetTp, putAll, bLen, cFld, CS.fld, cProp, noExc, CS.clsOf, cCallS, dItems, cLenP, cIxP, CS.see, cApp, CS.pl, CS.wr, Pl.xs, dNeg, cSetIx, cStore, froz, cLst, cCutL, dCutL, cNoPart, cPart, dPart, CS.seqL, bList, M.opt, dIs, cIsiT, D.isNon])))
        refine ⟨c3, ?_, rfl⟩
        rw [ds, forL]
        dsimp only
        have bd : cSeq (cTg (.tp [7, 8]) (D.tup [.int (done.length : Nat), rowD h])) inB (ac rs cs e x seg S rows (done ++ h :: post) x7 x8) = .ok (.ret (.tup [.tup (rows.set seg (segD (done ++ h :: post))), .tup [.int seg, .int (done.length : Nat)]])) c3 := by
          rw [cSeq_next tg]
          unfold inB
          refine cSeq_ret ((ifS_t t).trans ?_)
          unfold hitB
          rw [cSeq_next g1]
          exact cSeq_ret g2
        rw [bd]
        rfl
      · rw [decide_eq_false q] at t
        have eL : levA (cp :: cpost) (h :: post) x = (insP cp h x :: (levA cpost post x).1, (levA cpost post x).2.map (· + 1)) := by
          conv => lhs; unfold levA
          rw [if_neg q]
        have hc := h4 cp (by simp [M.bind, M.ret, R.bind, cSeq, cRet, cVar, cOp, cAnd, cOr, cNot, cIf, cAndT, cOrT, cNotT, asB, cB, cNext, cIfS, cSet, CS.put, cChain, dLe, dLt, dGt, dGe, dI2, startC, outF, fnB, cIsi, CS.knOf, tyB, isKn, isTy, M.guard, cTru, dTru, liftF, cCall, cCons, cFor, forL, cEnum, dEnum, cTg, cLc, lcL, wipeC, cWalk, dWalk, cNever, cSetTp, putAll, bLen, cFld, CS.fld, cProp, noExc, CS.clsOf, cCallS, dItems, cLenP, cIxP, CS.see, cApp, CS.pl, CS.wr, Pl.xs, dNeg, cSetIx, cStore, froz, cLst, cCutL, dCutL, cNoPart, cPart, dPart, CS.seqL, bList, M.opt, dIs, cIsiT, D.isNon])
        have hl := h5 h (by simp [M.bind, M.ret, R.bind, cSeq, cRet, cVar, cOp, cAnd, cOr, cNot, cIf, cAndT, cOrT, cNotT, asB, cB, cNext, cIfS, cSet, CS.put, cChain, dLe, dLt, dGt, dGe, dI2, startC, outF, fnB, cIsi, CS.knOf, tyB, isKn, isTy, M.guard, cTru, dTru, liftF, cCall, cCons, cFor, forL, cEnum, dEnum, cTg, cLc, lcL, wipeC, cWalk, dWalk, cNever, cSetTp, putAll, bLen, cFld, CS.fld, cProp, noExc, CS.clsOf, cCallS, dItems, cLenP, cIxP, CS.see, cApp, CS.pl, CS.wr, Pl.xs, dNeg, cSetIx, cStore, froz, cLst, cCutL, dCutL, cNoPart, cPart, dPart, CS.seqL, bList, M.opt, dIs, cIsiT, D.isNon])
        have dl : done.length < rs[seg].length := by rw [h1, List.length_append, List.length_cons, h2]; omega
        have cE : capE c = .ok (.int cp) c := by
          have a : cOp (dOwn 0 "__getitem__" fn_Chain__getitem dIx) (cVar 0) (cVar 5) c = .ok (rowD rs[seg]) c := by
            refine (own_of (rs := rs) (y := .int seg) (c1 := c) (c2 := c) rfl rfl).trans ?_
            show liftF (fn_Chain__getitem [chD rs, .int seg] S) _ = _
            rw [s_gi rs seg S hseg]
            rfl
          have b := ixT_of (xs := rs[seg].map D.int) (n := done.length) a (fb := cVar 7) (c2 := c) rfl (by rw [List.length_map]; exact dl)
          refine b.trans ?_
          congr 1
          rw [List.getElem_map]
          congr 1
          simp only [h1, ← h2]
          simp [M.bind, M.ret, R.bind, cSeq, cRet, cVar, cOp, cAnd, cOr, cNot, cIf, cAndT, cOrT, cNotT, asB, cB, cNext, cIfS, cSet, CS.put, cChain, dLe, dLt, dGt, dGe, dI2, startC, outF, fnB, cIsi, CS.knOf, tyB, isKn, isTy, M.guard, cTru, dTru, liftF, cCall, cCons, cFor, forL, cEnum, dEnum, cTg, cLc, lcL, wipeC, cWalk, dWalk, cNever, cSetTp, putAll, bLen, cFld, CS.fld, cProp, noExc, CS.clsOf, cCallS, dItems, cLenP, cIxP, CS.see, cApp, CS.pl, CS.wr, Pl.xs, dNeg, cSetIx, cStore, froz, cLst, cCutL, dCutL, cNoPart, cPart, dPart, CS.seqL, bList, M.opt, dIs, cIsiT, D.isNon]
        have iE : insE c = .ok (rowD (insP cp h x)) c := by
          refine (call_of (cons_of (x := rowD h) (c1 := c) rfl (cons_of (x := .int x) (c1 := c) rfl (cons_of cE nilA)))).trans ?_
          show liftF (fn_inserted [rowD h, .int x, .int cp] S) _ = _
          rw [s_ins h x cp S (by omega) hc.1]
          rfl
        let c2 : CS := ac rs cs e x seg S rows ((done ++ [insP cp h x]) ++ post) (.val (.int (done.length : Nat))) (.val (rowD h))
        have g : cSetIx 6 (cVar 7) insE c = .ok .next c2 := by
          refine (setIx_of (i := 6) (fi := cVar 7) (p1 := .own ((done ++ h :: post).map rowD)) (p := .own ((done ++ h :: post).map rowD)) (c1 := c) (c2 := c) (n := done.length) (j := (done.length : Nat)) iE rfl rfl rfl (ixN_nat (by show done.length < ((done ++ h :: post).map rowD).length; rw [List.length_map, List.length_append, List.length_cons]; omega))).trans ?_
          show R.ok Fl.next (c.wr 6 (.own ((done ++ h :: post).map rowD)) (((done ++ h :: post).map rowD).set done.length (rowD (insP cp h x)))) = _
          have e1 : ((done ++ h :: post).map rowD).set done.length (rowD (insP cp h x)) = ((done ++ [insP cp h x]) ++ post).map rowD := by
            simp [M.bind, M.ret, R.bind, cSeq, cRet, cVar, cOp, cAnd, cOr, cNot, cIf, cAndT, cOrT, cNotT, asB, cB, cNext, cIfS, cSet, CS.put, cChain, dLe, dLt, dGt, dGe, dI2, startC, outF, fnB, cIsi, CS.knOf, tyB, isKn, isTy, M.guard, cTru, dTru, liftF, cCall, cCons, cFor, forL, cEnum, dEnum, cTg, cLc, lcL, wipeC, cWalk, dWalk, cNever, cSetTp, putAll, bLen, cFld, CS.fld, cProp, noExc, CS.clsOf, cCallS, dItems, cLenP, cIxP, CS.see, cApp, CS.pl, CS.wr, Pl.xs, dNeg, cSetIx, cStore, froz, cLst, cCutL, dCutL, cNoPart, cPart, dPart, CS.seqL, bList, M.opt, dIs, cIsiT, D.isNon, List.map_append, List.set_append]
          rw [e1]
          rfl
        have bd : cSeq (cTg (.tp [7, 8]) (D.tup [.int (done.length : Nat), rowD h])) inB (ac rs cs e x seg S rows (done ++ h :: post) x7 x8) = .ok .next c2 := by
          rw [cSeq_next tg]
          unfold inB
          rw [cSeq_next (ifS_n t), cSeq_next g]
          rfl
        obtain ⟨i1, i2⟩ := ih (cpre ++ [cp]) cpost (done ++ [insP cp h x]) (.val (.int (done.length : Nat))) (.val (rowD h)) (by rw [h1]; simp [M.bind, M.ret, R.bind, cSeq, cRet, cVar, cOp, cAnd, cOr, cNot, cIf, cAndT, cOrT, cNotT, asB, cB, cNext, cIfS, cSet, CS.put, cChain, dLe, dLt, dGt, dGe, dI2, startC, outF, fnB, cIsi, CS.knOf, tyB, isKn, isTy, M.guard, cTru, dTru, liftF, cCall, cCons, cFor, forL, cEnum, dEnum, cTg, cLc, lcL, wipeC, cWalk, dWalk, cNever, cSetTp, putAll, bLen, cFld, CS.fld, cProp, noExc, CS.clsOf, cCallS, dItems, cLenP, cIxP, CS.see, cApp, CS.pl, CS.wr, Pl.xs, dNeg, cSetIx, cStore, froz, cLst, cCutL, dCutL, cNoPart, cPart, dPart, CS.seqL, bList, M.opt, dIs, cIsiT, D.isNon]) (by simp [M.bind, M.ret, R.bind, cSeq, cRet, cVar, cOp, cAnd, cOr, cNot, cIf, cAndT, cOrT, cNotT, asB, cB, cNext, cIfS, cSet, CS.put, cChain, dLe, dLt, dGt, dGe, dI2, startC, outF, fnB, cIsi, CS.knOf, tyB, isKn, isTy, M.guard, cTru, dTru, liftF, cCall, cCons, cFor, forL, cEnum, dEnum, cTg, cLc, lcL, wipeC, cWalk, dWalk, cNever, cSetTp, putAll, bLen, cFld, CS.fld, cProp, noExc, CS.clsOf, cCallS, dItems, cLenP, cIxP, CS.see, cApp, CS.pl, CS.wr, Pl.xs, dNeg, cSetIx, cStore, froz, cLst, cCutL, dCutL, cNoPart, cPart, dPart, CS.seqL, bList, M.opt, dIs, cIsiT, D.isNon, h2]) (by simpa using h3) (fun c hc => h4 c (List.mem_cons_of_mem _ hc)) (fun y hy => h5 y (List.mem_cons_of_mem _ hy))
        have dn : (done ++ [insP cp h x]).length = done.length + 1 := by simp [M.bind, M.ret, R.bind, cSeq, cRet, cVar, cOp, cAnd, cOr, cNot, cIf, cAndT, cOrT, cNotT, asB, cB, cNext, cIfS, cSet, CS.put, cChain, dLe, dLt, dGt, dGe, dI2, startC, outF, fnB, cIsi, CS.knOf, tyB, isKn, isTy, M.guard, cTru, dTru, liftF, cCall, cCons, cFor, forL, cEnum, dEnum, cTg, cLc, lcL, wipeC, cWalk, dWalk, cNever, cSetTp, putAll, bLen, cFld, CS.fld, cProp, noExc, CS.clsOf, cCallS, dItems, cLenP, cIxP, CS.see, cApp, CS.pl, CS.wr, Pl.xs, dNeg, cSetIx, cStore, froz, cLst, cCutL, dCutL, cNoPart, cPart, dPart, CS.seqL, bList, M.opt, dIs, cIsiT, D.isNon]
        rw [dn] at i1 i2
        have st : forL (fun d => cSeq (cTg (.tp [7, 8]) d) inB) ((((h :: post).map rowD).zipIdx done.length).map fun p => D.tup [.int (p.2 : Nat), p.1]) (ac rs cs e x seg S rows (done ++ h :: post) x7 x8) = forL (fun d => cSeq (cTg (.tp [7, 8]) d) inB) (((post.map rowD).zipIdx (done.length + 1)).map fun p => D.tup [.int (p.2 : Nat), p.1]) c2 := by
          rw [ds, forL]
          dsimp only
          rw [bd]
        rw [st]
        refine ⟨fun r hr => ?_, fun r a hr => ?_⟩
        · rw [eL] at hr
          cases q2 : levA cpost post x with
          | mk r' o =>
            rw [q2] at hr
            cases o with
            | some a => cases hr
            | none =>
              cases hr
              obtain ⟨y7, y8, z⟩ := i1 r' q2
              exact ⟨y7, y8, by rw [z, List.append_assoc]; rfl⟩
        · rw [eL] at hr
          cases q2 : levA cpost post x with
          | mk r' o =>
            rw [q2] at hr
            cases o with
            | none => cases hr
            | some a' =>
              cases hr
              obtain ⟨c', z, zS⟩ := i2 r' a' q2
              refine ⟨c', ?_, zS⟩
              rw [z, List.append_assoc, show done.length + 1 + a' = done.length + (a' + 1) by omega]
              rfl
end K35
namespace K35
open CL PySem
theorem forL_next {body : D → M Fl} {d : D} {ds : List D} {c c1 : CS} (e : body d c = .ok .next c1) : forL body (d :: ds) c = forL body ds c1 := by
  rw [forL]
  dsimp only
  rw [e]
abbrev lvE : M (List D) := (cCons (cOp dIx (cVar 1) (cVar 5)) (M.ret [])).bind bList
abbrev outB : M Fl := cSeq (cSetL 6 lvE) (cSeq (cFor (cEnum (cOp dIx (cVar 1) (cVar 5))) (.tp [7, 8]) inB) (cSeq put4 cNext))
abbrev oc (rs : List (List Int)) (cs : List (List (List Int))) (e : Nat) (x : Int) (S : List O) (rows : List D) (x5 x6 x7 x8 : Sl) : CS := ⟨[.val (chD rs), .val (conD cs), .val (.int e), .val (.int x), .own (.lst rows), x5, x6, x7, x8], S⟩
theorem s_outL (rs : List (List Int)) (cs : List (List (List Int))) (e : Nat) (x : Int) (S : List O) (hr : ∀ r ∈ rs, RowOk r) (rpost : List (List Int)) : ∀ (cpost : List (List (List Int))) (rpre : List (List Int)) (cpre npre : List (List (List Int))) (x5 x6 x7 x8 : Sl),
    rs = rpre ++ rpost → cs = cpre ++ cpost → cpre.length = rpre.length → npre.length = rpre.length → ConOk rpost cpost →
    (∀ q, segA rpost cpost x = (q, none) → ∃ y5 y6 y7 y8, forL (fun d => cSeq (cTg (.nm 5) d) outB) (natsD rpre.length rpost.length) (oc rs cs e x S ((npre ++ cpost).map segD) x5 x6 x7 x8) = .ok .next (oc rs cs e x S ((npre ++ q).map segD) y5 y6 y7 y8)) ∧
    (∀ q k a, segA rpost cpost x = (q, some (k, a)) → ∃ c', forL (fun d => cSeq (cTg (.nm 5) d) outB) (natsD rpre.length rpost.length) (oc rs cs e x S ((npre ++ cpost).map segD) x5 x6 x7 x8) = .ok (.ret (.tup [conD (npre ++ q), .tup [.int ((rpre.length + k : Nat) : Int), .int (a : Nat)]])) c' ∧ c'.S = S) := by
  induction rpost with
  | nil =>
    intro cpost rpre cpre npre x5 x6 x7 x8 h1 h2 h3 h4 h5
    cases cpost with
    | cons _ _ => exact h5.elim
    | nil => exact ⟨fun q hq => by unfold segA at hq; cases hq; exact ⟨x5, x6, x7, x8, rfl⟩, fun q k a hq => by unfold segA at hq; cases hq⟩
  | cons r rpost ih =>
    intro cpost rpre cpre npre x5 x6 x7 x8 h1 h2 h3 h4 h5
    cases cpost with
    | nil => exact h5.elim
    | cons s cpost =>
      obtain ⟨⟨l1, l2⟩, h6⟩ := h5
      let n := rpre.length
      have hn : n < rs.length := by rw [h1, List.length_append, List.length_cons]; omega
      have hnc : n < cs.length := by rw [h2, List.length_append, List.length_cons, h3]; omega
      have er : rs[n] = r := by simp only [h1]; simp [M.bind, M.ret, R.bind, cSeq, cRet, cVar, cOp, cAnd, cOr, cNot, cIf, cAndT, cOrT, cNotT, asB, cB, cNext, cIfS, cSet, CS.put, cChain, dLe, dLt, dGt, dGe, dI2, startC, outF, fnB, cIsi, CS.knOf, tyB, isKn, isTy, M.guard, cTru, dTru, liftF, cCall, cCons, cFor, forL, cEnum, dEnum, cTg, cLc, lcL, wipeC, cWalk, dWalk, cNever, cSetTp, putAll, bLen, cFld, CS.fld, cProp, noExc, CS.clsOf, cCallS, dItems, cLenP, cIxP, CS.see, cApp, CS.pl, CS.wr, Pl.xs, dNeg, cSetIx, cStore, froz, cLst, cCutL, dCutL, cNoPart, cPart, dPart, CS.seqL, bList, M.opt, dIs, cIsiT, D.isNon, n]
      have es : cs[n] = s := by simp only [h2, n, ← h3]; simp [M.bind, M.ret, R.bind, cSeq, cRet, cVar, cOp, cAnd, cOr, cNot, cIf, cAndT, cOrT, cNotT, asB, cB, cNext, cIfS, cSet, CS.put, cChain, dLe, dLt, dGt, dGe, dI2, startC, outF, fnB, cIsi, CS.knOf, tyB, isKn, isTy, M.guard, cTru, dTru, liftF, cCall, cCons, cFor, forL, cEnum, dEnum, cTg, cLc, lcL, wipeC, cWalk, dWalk, cNever, cSetTp, putAll, bLen, cFld, CS.fld, cProp, noExc, CS.clsOf, cCallS, dItems, cLenP, cIxP, CS.see, cApp, CS.pl, CS.wr, Pl.xs, dNeg, cSetIx, cStore, froz, cLst, cCutL, dCutL, cNoPart, cPart, dPart, CS.seqL, bList, M.opt, dIs, cIsiT, D.isNon]
      have rk : RowOk r := hr r (by rw [h1]; simp [M.bind, M.ret, R.bind, cSeq, cRet, cVar, cOp, cAnd, cOr, cNot, cIf, cAndT, cOrT, cNotT, asB, cB, cNext, cIfS, cSet, CS.put, cChain, dLe, dLt, dGt, dGe, dI2, startC, outF, fnB, cIsi, CS.knOf, tyB, isKn, isTy, M.guard, cTru, dTru, liftF, cCall, cCons, cFor, forL, cEnum, dEnum, cTg, cLc, lcL, wipeC, cWalk, dWalk, cNever, cSetTp, putAll, bLen, cFld, CS.fld, cProp, noExc, CS.clsOf, cCallS, dItems, cLenP, cIxP, CS.see, cApp, CS.pl, CS.wr, Pl.xs, dNeg, cSetIx, cStore, froz, cLst, cCutL, dCutL, cNoPart, cPart, dPart, CS.seqL, bList, M.opt, dIs, cIsiT, D.isNon])
      have tg : cTg (.nm 5) (D.int (n : Nat)) (oc rs cs e x S ((npre ++ s :: cpost).map segD) x5 x6 x7 x8) = .ok .next (oc rs cs e x S ((npre ++ s :: cpost).map segD) (.val (.int (n : Nat))) x6 x7 x8) := rfl
      have sg : ∀ (y6 y7 y8 : Sl), cOp dIx (cVar 1) (cVar 5) (oc rs cs e x S ((npre ++ s :: cpost).map segD) (.val (.int (n : Nat))) y6 y7 y8) = .ok (segD s) (oc rs cs e x S ((npre ++ s :: cpost).map segD) (.val (.int (n : Nat))) y6 y7 y8) := fun y6 y7 y8 => by
        have z := ixT_of (fa := cVar 1) (fb := cVar 5) (xs := cs.map segD) (n := n) (c := oc rs cs e x S ((npre ++ s :: cpost).map segD) (.val (.int (n : Nat))) y6 y7 y8) (c1 := oc rs cs e x S ((npre ++ s :: cpost).map segD) (.val (.int (n : Nat))) y6 y7 y8) (c2 := oc rs cs e x S ((npre ++ s :: cpost).map segD) (.val (.int (n : Nat))) y6 y7 y8) rfl rfl (by rw [List.length_map]; exact hnc)
        rw [z, List.getElem_map, es]
      have ls : lvE (oc rs cs e x S ((npre ++ s :: cpost).map segD) (.val (.int (n : Nat))) x6 x7 x8) = .ok (s.map rowD) (oc rs cs e x S ((npre ++ s :: cpost).map segD) (.val (.int (n : Nat))) x6 x7 x8) := by
        unfold lvE M.bind
        rw [cons_of (sg x6 x7 x8) nilA]
        rfl
      have g1 : cSetL 6 lvE (oc rs cs e x S ((npre ++ s :: cpost).map segD) (.val (.int (n : Nat))) x6 x7 x8) = .ok .next (ac rs cs e x n S ((npre ++ s :: cpost).map segD) ([] ++ s) x7 x8) := setL_of ls
      have en := enum_of (fe := cOp dIx (cVar 1) (cVar 5)) (xs := s.map rowD) (.inl (sg (.own (.lst (([] ++ s).map rowD))) x7 x8))
      have hrows : n < ((npre ++ s :: cpost).map segD).length := by rw [List.length_map, List.length_append, List.length_cons, h4]; omega
      obtain ⟨i1, i2⟩ := s_inL rs cs e x n hn S ((npre ++ s :: cpost).map segD) hrows s [] r [] x7 x8 (by rw [er]; rfl) rfl l1.symm rk.2 l2
      have setE : ∀ s' : List (List Int), ((npre ++ s :: cpost).map segD).set n (segD s') = ((npre ++ s' :: cpost)).map segD := fun s' => by
        simp [M.bind, M.ret, R.bind, cSeq, cRet, cVar, cOp, cAnd, cOr, cNot, cIf, cAndT, cOrT, cNotT, asB, cB, cNext, cIfS, cSet, CS.put, cChain, dLe, dLt, dGt, dGe, dI2, startC, outF, fnB, cIsi, CS.knOf, tyB, isKn, isTy, M.guard, cTru, dTru, liftF, cCall, cCons, cFor, forL, cEnum, dEnum, cTg, cLc, lcL, wipeC, cWalk, dWalk, cNever, cSetTp, putAll, bLen, cFld, CS.fld, cProp, noExc, CS.clsOf, cCallS, dItems, cLenP, cIxP, CS.see, cApp, CS.pl, CS.wr, Pl.xs, dNeg, cSetIx, cStore, froz, cLst, cCutL, dCutL, cNoPart, cPart, dPart, CS.seqL, bList, M.opt, dIs, cIsiT, D.isNon, List.map_append, List.set_append, n, ← h4]
      cases eL : levA r s x with
      | mk s' o =>
        cases o with
        | some a0 =>
          have eS : segA (r :: rpost) (s :: cpost) x = (s' :: cpost, some (0, a0)) := by
            conv => lhs; unfold segA
            rw [eL]
          refine ⟨fun q hq => (by rw [eS] at hq; cases hq), fun q k a hq => ?_⟩
          rw [eS] at hq
          cases hq
          obtain ⟨c', z, zS⟩ := i2 s' a0 eL
          refine ⟨c', ?_, zS⟩
          show forL _ (natsD n (rpost.length + 1)) _ = _
          rw [natsD_cons, forL]
          dsimp only
          have f := for_of (f := inB) (tg := .tp [7, 8]) en z
          have bd : cSeq (cTg (.nm 5) (D.int (n : Nat))) outB (oc rs cs e x S ((npre ++ s :: cpost).map segD) x5 x6 x7 x8) = .ok (.ret (.tup [conD (npre ++ s' :: cpost), .tup [.int (n : Nat), .int (a0 : Nat)]])) c' := by
            rw [cSeq_next tg]
            unfold outB
            rw [cSeq_next g1, cSeq_ret f]
            show R.ok (Fl.ret (.tup [.tup (((npre ++ s :: cpost).map segD).set n (segD ([] ++ s'))), .tup [.int n, .int ((0 + a0 : Nat) : Int)]])) c' = _
            rw [List.nil_append, setE, Nat.zero_add]
          rw [bd]
          rfl
        | none =>
          obtain ⟨y7, y8, z⟩ := i1 s' eL
          have f := for_of (f := inB) (tg := .tp [7, 8]) en z
          have g3 : put4 (ac rs cs e x n S ((npre ++ s :: cpost).map segD) ([] ++ s') y7 y8) = .ok .next (oc rs cs e x S (((npre ++ [s']) ++ cpost).map segD) (.val (.int (n : Nat))) (.val (.lst (s'.map rowD))) y7 y8) := by
            let c1 : CS := ⟨[.val (chD rs), .val (conD cs), .val (.int e), .val (.int x), .own (.lst ((npre ++ s :: cpost).map segD)), .val (.int n), .val (.lst (([] ++ s').map rowD)), y7, y8], S⟩
            refine (setIx_of (i := 4) (fi := cVar 5) (p1 := .own ((npre ++ s :: cpost).map segD)) (p := .own ((npre ++ s :: cpost).map segD)) (c1 := c1) (c2 := c1) (d := segD s') rfl rfl rfl rfl (ixN_nat hrows)).trans ?_
            show R.ok Fl.next (c1.wr 4 (.own ((npre ++ s :: cpost).map segD)) (((npre ++ s :: cpost).map segD).set n (segD s'))) = _
            rw [setE, List.append_assoc]
            rfl
          have bd : cSeq (cTg (.nm 5) (D.int (n : Nat))) outB (oc rs cs e x S ((npre ++ s :: cpost).map segD) x5 x6 x7 x8) = .ok .next (oc rs cs e x S (((npre ++ [s']) ++ cpost).map segD) (.val (.int (n : Nat))) (.val (.lst (s'.map rowD))) y7 y8) := by
            rw [cSeq_next tg]
            unfold outB
            rw [cSeq_next g1, cSeq_next f, cSeq_next g3]
            rfl
          have st : forL (fun d => cSeq (cTg (.nm 5) d) outB) (natsD n (r :: rpost).length) (oc rs cs e x S ((npre ++ s :: cpost).map segD) x5 x6 x7 x8) = forL (fun d => cSeq (cTg (.nm 5) d) outB) (natsD (n + 1) rpost.length) (oc rs cs e x S (((npre ++ [s']) ++ cpost).map segD) (.val (.int (n : Nat))) (.val (.lst (s'.map rowD))) y7 y8) := by
            rw [List.length_cons, natsD_cons]
            exact forL_next (body := fun d => cSeq (cTg (.nm 5) d) outB) bd
          obtain ⟨j1, j2⟩ := ih cpost (rpre ++ [r]) (cpre ++ [s]) (npre ++ [s']) (.val (.int (n : Nat))) (.val (.lst (s'.map rowD))) y7 y8 (by rw [h1]; simp [M.bind, M.ret, R.bind, cSeq, cRet, cVar, cOp, cAnd, cOr, cNot, cIf, cAndT, cOrT, cNotT, asB, cB, cNext, cIfS, cSet, CS.put, cChain, dLe, dLt, dGt, dGe, dI2, startC, outF, fnB, cIsi, CS.knOf, tyB, isKn, isTy, M.guard, cTru, dTru, liftF, cCall, cCons, cFor, forL, cEnum, dEnum, cTg, cLc, lcL, wipeC, cWalk, dWalk, cNever, cSetTp, putAll, bLen, cFld, CS.fld, cProp, noExc, CS.clsOf, cCallS, dItems, cLenP, cIxP, CS.see, cApp, CS.pl, CS.wr, Pl.xs, dNeg, cSetIx, cStore, froz, cLst, cCutL, dCutL, cNoPart, cPart, dPart, CS.seqL, bList, M.opt, dIs, cIsiT, D.isNon]) (by rw [h2]; simp [M.bind, M.ret, R.bind, cSeq, cRet, cVar, cOp, cAnd, cOr, cNot, cIf, cAndT, cOrT, cNotT, asB, cB, cNext, cIfS, cSet, CS.put, cChain, dLe, dLt, dGt, dGe, dI2, startC, outF, fnB, cIsi, CS.knOf, tyB, isKn, isTy, M.guard, cTru, dTru, liftF, cCall, cCons, cFor, forL, cEnum, dEnum, cTg, cLc, lcL, wipeC, cWalk, dWalk, cNever, cSetTp, putAll, bLen, cFld, CS.fld, cProp, noExc, CS.clsOf, cCallS, dItems, cLenP, cIxP, CS.see, cApp, CS.pl, CS.wr, Pl.xs, dNeg, cSetIx, cStore, froz, cLst, cCutL, dCutL, cNoPart, cPart, dPart, CS.seqL, bList, M.opt, dIs, cIsiT, D.isNon]) (by simp [M.bind, M.ret, R.bind, cSeq, cRet, cVar, cOp, cAnd, cOr, cNot, cIf, cAndT, cOrT, cNotT, asB, cB, cNext, cIfS, cSet, CS.put, cChain, dLe, dLt, dGt, dGe, dI2, startC, outF, fnB, cIsi, CS.knOf, tyB, isKn, isTy, M.guard, cTru, dTru, liftF, cCall, cCons, cFor, forL, cEnum, dEnum, cTg, cLc, lcL, wipeC, cWalk, dWalk, cNever, cSetTp, putAll, bLen, cFld, CS.fld, cProp, noExc, CS.clsOf, cCallS, dItems, cLenP, cIxP, CS.see, cApp, CS.pl, CS.wr, Pl.xs, dNeg, cSetIx, cStore, froz, cLst, cCutL, dCutL, cNoPart, cPart, dPart, CS.seqL, bList, M.opt, dIs, cIsiT, D.isNon, h3]) (by simp [M.bind, M.ret, R.bind, cSeq, cRet, cVar, cOp, cAnd, cOr, cNot, cIf, cAndT, cOrT, cNotT, asB, cB, cNext, cIfS, cSet, CS.put, cChain, dLe, dLt, dGt, dGe, dI2, startC, outF, fnB, cIsi, CS.knOf, tyB, isKn, isTy, M.guard, cTru, dTru, liftF, cCall, cCons, cFor, forL, cEnum, dEnum, cTg, cLc, lcL, wipeC, cWalk, dWalk, cNever, cSetTp, putAll, bLen, cFld, CS.fld, cProp, noExc, CS.clsOf, cCallS, dItems, cLenP, cIxP, CS.see, cApp, CS.pl, CS.wr, Pl.xs, dNeg, cSetIx, cStore, froz, cLst, cCutL, dCutL, cNoPart, cPart, dPart, CS.seqL, bList, M.opt, dIs, cIsiT, D.isNon, h4]) h6
          have nn : (rpre ++ [r]).length = n + 1 := by simp [M.bind, M.ret, R.bind, cSeq, cRet, cVar, cOp, cAnd, cOr, cNot, cIf, cAndT, cOrT, cNotT, asB, cB, cNext, cIfS, cSet, CS.put, cChain, dLe, dLt, dGt, dGe, dI2, startC, outF, fnB, cIsi, CS.knOf, tyB, isKn, isTy, M.guard, cTru, dTru, liftF, cCall, cCons, cFor, forL, cEnum, dEnum, cTg, cLc, lcL, wipeC, cWalk, dWalk, cNever, cSetTp, putAll, bLen, cFld, CS.fld, cProp, noExc, CS.clsOf, cCallS, dItems, cLenP, cIxP, CS.see, cApp, CS.pl, CS.wr, Pl.xs, dNeg, cSetIx, cStore, froz, cLst, cCutL, dCutL, cNoPart, cPart, dPart, CS.seqL, bList, M.opt, dIs, cIsiT, D.isNon, n]
          rw [nn] at j1 j2
          have eS : segA (r :: rpost) (s :: cpost) x = (s' :: (segA rpost cpost x).1, (segA rpost cpost x).2.map fun p => (p.1 + 1, p.2)) := by
            conv => lhs; unfold segA
            rw [eL]
          refine ⟨fun q hq => ?_, fun q k a hq => ?_⟩
          · rw [eS] at hq
            cases q2 : segA rpost cpost x with
            | mk q' o' =>
              rw [q2] at hq
              cases o' with
              | some _ => cases hq
              | none =>
                cases hq
                obtain ⟨y5, y6, y7', y8', zz⟩ := j1 q' q2
                exact ⟨y5, y6, y7', y8', st.trans (by rw [zz, List.append_assoc]; rfl)⟩
          · rw [eS] at hq
            cases q2 : segA rpost cpost x with
            | mk q' o' =>
              rw [q2] at hq
              cases o' with
              | none => cases hq
              | some p =>
                obtain ⟨k', a'⟩ := p
                cases hq
                obtain ⟨c', zz, zS⟩ := j2 q' k' a' q2
                refine ⟨c', st.trans ?_, zS⟩
                rw [zz, List.append_assoc, show n + 1 + k' = rpre.length + (k' + 1) by show rpre.length + 1 + k' = _; omega]
                rfl
theorem s_entries (rs : List (List Int)) (S : List O) : fn_Chain_entries [chD rs] S = .ok (.int (rs.length : Nat)) S := by
  let c0 : CS := ⟨[.val (chD rs)], S⟩
  have f : cFld 0 0 "_rows" (cVar 0) c0 = .ok (.tup (rs.map rowD)) c0 := rfl
  have ln := len_tup f
  rw [List.length_map] at ln
  show outF (cl_Chain_entries c0) = _
  unfold cl_Chain_entries
  rw [cSeq_ret (ret_of ln)]
  rfl
theorem entE_of {i : Nat} {rs : List (List Int)} {c : CS} (e : cVar i c = .ok (chD rs) c) : cProp 0 "entries" fn_Chain_entries (cVar i) c = .ok (.int (rs.length : Nat)) c := by
  rw [prop_of e rfl, s_entries]
  rfl
theorem s_after (rs : List (List Int)) (cs : List (List (List Int))) (e : Nat) (x : Int) (S : List O) (h : ChOk rs) (hc : ConOk rs cs) (he : e ≤ rs.length) :
    fn_after_request [chD rs, conD cs, .int (e : Nat), .int x] S = .ok (.tup [conD (askA rs cs e x).1, resD (askA rs cs e x).2]) S := by
  have h4 := h.2.1
  let c0 : CS := ⟨[.val (chD rs), .val (conD cs), .val (.int (e : Nat)), .val (.int x), .no, .no, .no, .no, .no], S⟩
  have g1 : cSetL 4 ((cCons (cVar 1) (M.ret [])).bind bList) c0 = .ok .next (oc rs cs e x S (cs.map segD) .no .no .no .no) := rfl
  have el : cs.length = rs.length := con_len hc
  have rg : cRange2 (cVar 2) (cProp 0 "entries" fn_Chain_entries (cVar 0)) (oc rs cs e x S (cs.map segD) .no .no .no .no) = .ok (natsD e (rs.length - e)) (oc rs cs e x S (cs.map segD) .no .no .no .no) := by
    refine (range2_of (i := (e : Nat)) (j := (rs.length : Nat)) (c1 := oc rs cs e x S (cs.map segD) .no .no .no .no) rfl (entE_of rfl) ?_).trans ?_
    · have f : ∀ n : Nat, n ≤ 4 → fitsR (n : Int) = true := fun n hn => by
        have : n = 0 ∨ n = 1 ∨ n = 2 ∨ n = 3 ∨ n = 4 := by omega
        rcases this with z | z | z | z | z <;> subst z <;> decide
      rw [f e (by omega), f rs.length h4]
      rfl
    · rw [show ((rs.length : Int) - (e : Int)).toNat = rs.length - e by omega]
      show R.ok (rangeD (e : Int) (rs.length - e)) _ = _
      rw [rangeD_natsK]
  have tl : (rs.take e).length = e := by rw [List.length_take]; omega
  have tc : (cs.take e).length = e := by rw [List.length_take]; omega
  obtain ⟨i1, i2⟩ := s_outL rs cs e x S h.2.2 (rs.drop e) (cs.drop e) (rs.take e) (cs.take e) (cs.take e) .no .no .no .no (List.take_append_drop e rs).symm (List.take_append_drop e cs).symm (by rw [tl, tc]) (by rw [tl, tc]) (con_drop e hc)
  rw [tl, List.length_drop, List.take_append_drop] at i1 i2
  show outF (cl_after_request c0) = _
  unfold cl_after_request
  rw [cSeq_next g1]
  unfold askA
  cases q : segA (rs.drop e) (cs.drop e) x with
  | mk r o =>
    cases o with
    | none =>
      obtain ⟨y5, y6, y7, y8, z⟩ := i1 r q
      rw [cSeq_next (for_of rg z)]
      let c3 : CS := ⟨[.val (chD rs), .val (conD cs), .val (.int (e : Nat)), .val (.int x), .val (.lst ((cs.take e ++ r).map segD)), y5, y6, y7, y8], S⟩
      have t4 : tup4 (oc rs cs e x S ((cs.take e ++ r).map segD) y5 y6 y7 y8) = .ok (conD (cs.take e ++ r)) c3 := rfl
      have g3 := ret_of (tup_of (cons_of t4 (cons_of (fa := M.ret .non) (x := .non) (c1 := c3) rfl nilA)) (szOk_small (by simp [M.bind, M.ret, R.bind, cSeq, cRet, cVar, cOp, cAnd, cOr, cNot, cIf, cAndT, cOrT, cNotT, asB, cB, cNext, cIfS, cSet, CS.put, cChain, dLe, dLt, dGt, dGe, dI2, startC, outF, fnB, cIsi, CS.knOf, tyB, isKn, isTy, M.guard, cTru, dTru, liftF, cCall, cCons, cFor, forL, cEnum, dEnum, cTg, cLc, lcL, wipeC, cWalk, dWalk, cNever, cSetTp, putAll, bLen, cFld, CS.fld, cProp, noExc, CS.clsOf, cCallS, dItems, cLenP, cIxP, CS.see, cApp, CS.pl, CS.wr, Pl.xs, dNeg, cSetIx, cStore, froz, cLst, cCutL, dCutL, cNoPart, cPart, dPart, CS.seqL, bList, M.opt, dIs, cIsiT, D.isNon])))
      rw [cSeq_ret g3]
      rfl
    | some p =>
      obtain ⟨k, a⟩ := p
      obtain ⟨c', z, zS⟩ := i2 r k a q
      rw [cSeq_ret (for_of rg z)]
      show FR.ok _ c'.S = _
      rw [zS, show e + k = k + e by omega]
      rfl
end K35
namespace K35
open CL PySem
noncomputable section
/-! ### empty contents -/
def voidC (rs : List (List Int)) : List (List (List Int)) := rs.map fun r => r.map fun _ => []
theorem void_ok {rs : List (List Int)} : ConOk rs (voidC rs) := by
  unfold voidC
  induction rs with
  | nil => trivial
  | cons r rs ih =>
    refine ⟨⟨by simp [M.bind, M.ret, R.bind, cSeq, cRet, cVar, cOp, cAnd, cOr, cNot, cIf, cAndT, cOrT, cNotT, asB, cB, cNext, cIfS, cSet, CS.put, cChain, dLe, dLt, dGt, dGe, dI2, startC, outF, fnB, cIsi, CS.knOf, tyB, isKn, isTy, M.guard, cTru, dTru, liftF, cCall, cCons, cFor, forL, cEnum, dEnum, cTg, cLc, lcL, wipeC, cWalk, dWalk, cNever, cSetTp, putAll, bLen, cFld, CS.fld, cProp, noExc, CS.clsOf, cCallS, dItems, cLenP, cIxP, CS.see, cApp, CS.pl, CS.wr, Pl.xs, dNeg, cSetIx, cStore, froz, cLst, cCutL, dCutL, cNoPart, cPart, dPart, CS.seqL, bList, M.opt, dIs, cIsiT, D.isNon], fun h hh => ?_⟩, ih⟩
    obtain ⟨_, _, rfl⟩ := List.mem_map.mp hh
    simp [M.bind, M.ret, R.bind, cSeq, cRet, cVar, cOp, cAnd, cOr, cNot, cIf, cAndT, cOrT, cNotT, asB, cB, cNext, cIfS, cSet, CS.put, cChain, dLe, dLt, dGt, dGe, dI2, startC, outF, fnB, cIsi, CS.knOf, tyB, isKn, isTy, M.guard, cTru, dTru, liftF, cCall, cCons, cFor, forL, cEnum, dEnum, cTg, cLc, lcL, wipeC, cWalk, dWalk, cNever, cSetTp, putAll, bLen, cFld, CS.fld, cProp, noExc, CS.clsOf, cCallS, dItems, cLenP, cIxP, CS.see, cApp, CS.pl, CS.wr, Pl.xs, dNeg, cSetIx, cStore, froz, cLst, cCutL, dCutL, cNoPart, cPart, dPart, CS.seqL, bList, M.opt, dIs, cIsiT, D.isNon]
abbrev lvlE : M D := (cCons (froz (cLc (cWalk (cVar 2)) (.nm 1) (M.ret true) (cTup (M.ret [])) [1])) (M.ret [])).bind bTuple
theorem s_lvl (r : List Int) (x0 : Sl) (S : List O) (hr : RowOk r) : lvlE ⟨[x0, .no, .val (rowD r)], S⟩ = .ok (segD (r.map fun _ => [])) ⟨[x0, .no, .val (rowD r)], S⟩ := by
  let c : CS := ⟨[x0, .no, .val (rowD r)], S⟩
  have l := lcL_map (t := .nm 1) (fe := cTup (M.ret [])) (vs := [1]) (fun _ => D.tup []) c (r.map D.int) (fun d hd => ⟨⟨[x0, .val d, .val (rowD r)], S⟩, ⟨[x0, .val d, .val (rowD r)], S⟩, rfl, tup_of nilA (szOk_small (by simp [M.bind, M.ret, R.bind, cSeq, cRet, cVar, cOp, cAnd, cOr, cNot, cIf, cAndT, cOrT, cNotT, asB, cB, cNext, cIfS, cSet, CS.put, cChain, dLe, dLt, dGt, dGe, dI2, startC, outF, fnB, cIsi, CS.knOf, tyB, isKn, isTy, M.guard, cTru, dTru, liftF, cCall, cCons, cFor, forL, cEnum, dEnum, cTg, cLc, lcL, wipeC, cWalk, dWalk, cNever, cSetTp, putAll, bLen, cFld, CS.fld, cProp, noExc, CS.clsOf, cCallS, dItems, cLenP, cIxP, CS.see, cApp, CS.pl, CS.wr, Pl.xs, dNeg, cSetIx, cStore, froz, cLst, cCutL, dCutL, cNoPart, cPart, dPart, CS.seqL, bList, M.opt, dIs, cIsiT, D.isNon])), rfl⟩) [] (by simp [M.bind, M.ret, R.bind, cSeq, cRet, cVar, cOp, cAnd, cOr, cNot, cIf, cAndT, cOrT, cNotT, asB, cB, cNext, cIfS, cSet, CS.put, cChain, dLe, dLt, dGt, dGe, dI2, startC, outF, fnB, cIsi, CS.knOf, tyB, isKn, isTy, M.guard, cTru, dTru, liftF, cCall, cCons, cFor, forL, cEnum, dEnum, cTg, cLc, lcL, wipeC, cWalk, dWalk, cNever, cSetTp, putAll, bLen, cFld, CS.fld, cProp, noExc, CS.clsOf, cCallS, dItems, cLenP, cIxP, CS.see, cApp, CS.pl, CS.wr, Pl.xs, dNeg, cSetIx, cStore, froz, cLst, cCutL, dCutL, cNoPart, cPart, dPart, CS.seqL, bList, M.opt, dIs, cIsiT, D.isNon]; have := hr.1; omega)
  have f := froz_of (lc_of (fi := cWalk (cVar 2)) (tg := .nm 1) (c := c) (c1 := c) (walk_of (.inr rfl)) l)
  unfold lvlE M.bind
  rw [cons_of f nilA]
  show R.ok (D.tup ([] ++ (r.map D.int).map fun _ => D.tup [])) c = _
  rw [List.nil_append, List.map_map, show segD (r.map fun _ => []) = .tup ((r.map fun _ => ([] : List Int)).map rowD) from rfl, List.map_map]
  rfl
theorem s_empty (rs : List (List Int)) (S : List O) (h : ChOk rs) : fn_empty_contents [chD rs] S = .ok (conD (voidC rs)) S := by
  let c : CS := ⟨[.val (chD rs), .no, .no], S⟩
  have sg : cProp 0 "segments" fn_Chain_segments (cVar 0) c = .ok (.tup (rs.map rowD)) c := by
    refine (prop_of (fo := cVar 0) (d := chD rs) (c1 := c) rfl rfl).trans ?_
    rfl
  have l := lcL_map (t := .nm 2) (fe := lvlE) (vs := [2]) (fun d => match d with
    | .tup xs => D.tup (xs.map fun _ => D.tup [])
    | d => d) c (rs.map rowD) (fun d hd => by
      obtain ⟨r, hr, rfl⟩ := List.mem_map.mp hd
      refine ⟨⟨[.val (chD rs), .no, .val (rowD r)], S⟩, ⟨[.val (chD rs), .no, .val (rowD r)], S⟩, rfl, (s_lvl r _ S (h.2.2 r hr)).trans ?_, rfl⟩
      show R.ok (D.tup ((r.map fun _ => ([] : List Int)).map rowD)) _ = R.ok (D.tup ((r.map D.int).map fun _ => D.tup [])) _
      rw [List.map_map, List.map_map]
      rfl) [] (by simp [M.bind, M.ret, R.bind, cSeq, cRet, cVar, cOp, cAnd, cOr, cNot, cIf, cAndT, cOrT, cNotT, asB, cB, cNext, cIfS, cSet, CS.put, cChain, dLe, dLt, dGt, dGe, dI2, startC, outF, fnB, cIsi, CS.knOf, tyB, isKn, isTy, M.guard, cTru, dTru, liftF, cCall, cCons, cFor, forL, cEnum, dEnum, cTg, cLc, lcL, wipeC, cWalk, dWalk, cNever, cSetTp, putAll, bLen, cFld, CS.fld, cProp, noExc, CS.clsOf, cCallS, dItems, cLenP, cIxP, CS.see, cApp, CS.pl, CS.wr, Pl.xs, dNeg, cSetIx, cStore, froz, cLst, cCutL, dCutL, cNoPart, cPart, dPart, CS.seqL, bList, M.opt, dIs, cIsiT, D.isNon]; have := h.2.1; omega)
  have f := froz_of (lc_of (fi := cWalk (cProp 0 "segments" fn_Chain_segments (cVar 0))) (tg := .nm 2) (c := c) (c1 := c) (walk_of (.inr sg)) l)
  show outF (cl_empty_contents c) = _
  unfold cl_empty_contents
  have b : ((cCons (froz (cLc (cWalk (cProp 0 "segments" fn_Chain_segments (cVar 0))) (.nm 2) (M.ret true) lvlE [2])) (M.ret [])).bind bTuple) c = .ok (conD (voidC rs)) c := by
    unfold M.bind
    rw [cons_of f nilA]
    show R.ok (D.tup ([] ++ (rs.map rowD).map _)) c = _
    rw [List.nil_append, List.map_map]
    unfold conD voidC
    rw [List.map_map]
    congr 2
    refine List.map_congr_left fun r _ => ?_
    show D.tup ((r.map D.int).map fun _ => D.tup []) = .tup ((r.map fun _ => ([] : List Int)).map rowD)
    rw [List.map_map, List.map_map]
    rfl
  rw [cSeq_ret (ret_of b)]
  rfl
/-! ### requests are checked -/
theorem s_item (x : Int) (S : List O) : fn_is_item_or_anonymous [.int x] S = .ok (.bl (decide (-1 ≤ x) && decide (x ≤ 9999))) S := by
  let c0 : CS := ⟨[.val (.int x)], S⟩
  have k : cCall fn_is_between (cCons (cVar 0) (cCons (M.ret (.int (-1))) (cCons (M.ret (.int 9999)) (M.ret [])))) c0 = .ok (.bl (decide (-1 ≤ x) && decide (x ≤ 9999))) c0 := by
    refine (call_of (cons_of (x := .int x) (c1 := c0) rfl (cons_of (fa := M.ret (.int (-1))) (x := .int (-1)) (c1 := c0) rfl (cons_of (fa := M.ret (.int 9999)) (x := .int 9999) (c1 := c0) rfl nilA)))).trans ?_
    show liftF (fn_is_between [.int x, .int (-1), .int 9999] S) _ = _
    rw [s_isb]
    rfl
  show outF (cl_is_item_or_anonymous c0) = _
  unfold cl_is_item_or_anonymous
  rw [cSeq_ret (ret_of k)]
  rfl
theorem s_checkq (rs : List (List Int)) (e : Nat) (x : Int) (S : List O) (he : e < rs.length) (hx : -1 ≤ x ∧ x ≤ 9999) : fn_check_request [chD rs, .int (e : Nat), .int x] S = .ok .non S := by
  let c0 : CS := ⟨[.val (chD rs), .val (.int (e : Nat)), .val (.int x)], S⟩
  have k : cCall fn_is_between (cCons (cVar 1) (cCons (M.ret (.int 0)) (cCons (cOp dSub (cProp 0 "entries" fn_Chain_entries (cVar 0)) (M.ret (.int 1))) (M.ret [])))) c0 = .ok (.bl true) c0 := by
    have sb := subI_of (entE_of (i := 0) (rs := rs) (c := c0) rfl) (fb := M.ret (.int 1)) (j := 1) (c2 := c0) rfl
    refine (call_of (cons_of (x := .int (e : Nat)) (c1 := c0) rfl (cons_of (fa := M.ret (.int 0)) (x := .int 0) (c1 := c0) rfl (cons_of sb nilA)))).trans ?_
    show liftF (fn_is_between [.int (e : Nat), .int 0, .int ((rs.length : Int) - 1)] S) _ = _
    rw [s_isb, decide_eq_true (by omega : (0 : Int) ≤ (e : Nat)), decide_eq_true (by omega : ((e : Nat) : Int) ≤ (rs.length : Int) - 1)]
    rfl
  have k2 : cCall fn_is_item_or_anonymous (cCons (cVar 2) (M.ret [])) c0 = .ok (.bl true) c0 := by
    refine (call1_of (x := .int x) (c1 := c0) rfl).trans ?_
    show liftF (fn_is_item_or_anonymous [.int x] S) _ = _
    rw [s_item, decide_eq_true hx.1, decide_eq_true hx.2]
    rfl
  show outF (cl_check_request c0) = _
  unfold cl_check_request
  rw [cSeq_next (ifS_n (notT_of (tru_bl k))), cSeq_next (ifS_n (notT_of (tru_bl k2)))]
  rfl
/-! ### a run in the store: its log at b, what is done at b + 1, itself at b + 3 -/
def runO (rs : List (List Int)) (cs : List (List (List Int))) (b u : Nat) : O := .ins 1 [("_chain", chD rs), ("_contents", conD cs), ("_log", .ref b), ("_done", .ref (b + 1)), ("_undone", .ref u)]
def RunAt (S : List O) (b : Nat) (rs : List (List Int)) (cs : List (List (List Int))) (lg : List D) (k : Nat) : Prop := ∃ u dn, S[b + 3]? = some (runO rs cs b u) ∧ S[b]? = some (.lst lg) ∧ S[b + 1]? = some (.lst dn) ∧ dn.length ≤ k
theorem app_at {S T : List O} {n : Nat} (h : n < S.length) : (S ++ T)[n]? = S[n]? := List.getElem?_append_left h
theorem app_end (S : List O) (o : O) (T : List O) : (S ++ o :: T)[S.length]? = some o := by
  rw [List.getElem?_append_right (Nat.le_refl _), Nat.sub_self]
  rfl
theorem s_runinit (rs : List (List Int)) (S : List O) (h : ChOk rs) : ∃ S', fn_Run__init [chD rs] S = .ok (.ref (S.length + 3)) S' ∧ RunAt S' S.length rs (voidC rs) [] 0 ∧ S'.length = S.length + 4 ∧ ∀ i < S.length, S'[i]? = S[i]? := by
  let c0 : CS := ⟨[.own (.ins 1 []), .val (chD rs)], S⟩
  let c1 : CS := ⟨[.own (.ins 1 [("_chain", chD rs)]), .val (chD rs)], S⟩
  have g1 : cSetF 1 0 "_chain" (cVar 1) c0 = .ok .next c1 := (setF_of (p := .own []) (d := chD rs) (c1 := c0) rfl rfl (by simp [M.bind, M.ret, R.bind, cSeq, cRet, cVar, cOp, cAnd, cOr, cNot, cIf, cAndT, cOrT, cNotT, asB, cB, cNext, cIfS, cSet, CS.put, cChain, dLe, dLt, dGt, dGe, dI2, startC, outF, fnB, cIsi, CS.knOf, tyB, isKn, isTy, M.guard, cTru, dTru, liftF, cCall, cCons, cFor, forL, cEnum, dEnum, cTg, cLc, lcL, wipeC, cWalk, dWalk, cNever, cSetTp, putAll, bLen, cFld, CS.fld, cProp, noExc, CS.clsOf, cCallS, dItems, cLenP, cIxP, CS.see, cApp, CS.pl, CS.wr, Pl.xs, dNeg, cSetIx, cStore, froz, cLst, cCutL, dCutL, cNoPart, cPart, dPart, CS.seqL, bList, M.opt, dIs, cIsiT, D.isNon, Pi.fs])).trans rfl
  have em : cCall fn_empty_contents (cCons (cVar 1) (M.ret [])) c1 = .ok (conD (voidC rs)) c1 := by
    refine (call1_of (x := chD rs) (c1 := c1) rfl).trans ?_
    show liftF (fn_empty_contents [chD rs] S) _ = _
    rw [s_empty rs S h]
    rfl
  let c2 : CS := ⟨[.own (.ins 1 [("_chain", chD rs), ("_contents", conD (voidC rs))]), .val (chD rs)], S⟩
  have g2 : cSetF 1 0 "_contents" (cCall fn_empty_contents (cCons (cVar 1) (M.ret []))) c1 = .ok .next c2 := (setF_of (p := .own [("_chain", chD rs)]) em rfl (by simp [M.bind, M.ret, R.bind, cSeq, cRet, cVar, cOp, cAnd, cOr, cNot, cIf, cAndT, cOrT, cNotT, asB, cB, cNext, cIfS, cSet, CS.put, cChain, dLe, dLt, dGt, dGe, dI2, startC, outF, fnB, cIsi, CS.knOf, tyB, isKn, isTy, M.guard, cTru, dTru, liftF, cCall, cCons, cFor, forL, cEnum, dEnum, cTg, cLc, lcL, wipeC, cWalk, dWalk, cNever, cSetTp, putAll, bLen, cFld, CS.fld, cProp, noExc, CS.clsOf, cCallS, dItems, cLenP, cIxP, CS.see, cApp, CS.pl, CS.wr, Pl.xs, dNeg, cSetIx, cStore, froz, cLst, cCutL, dCutL, cNoPart, cPart, dPart, CS.seqL, bList, M.opt, dIs, cIsiT, D.isNon, Pi.fs])).trans rfl
  have store : ∀ c : CS, cStore (cLst (M.ret [])) c = .ok (.ref c.S.length) { c with S := c.S ++ [.lst []] } := fun c => by
    unfold cStore M.bind
    rw [lst_of nilA (szOk_small (by simp [M.bind, M.ret, R.bind, cSeq, cRet, cVar, cOp, cAnd, cOr, cNot, cIf, cAndT, cOrT, cNotT, asB, cB, cNext, cIfS, cSet, CS.put, cChain, dLe, dLt, dGt, dGe, dI2, startC, outF, fnB, cIsi, CS.knOf, tyB, isKn, isTy, M.guard, cTru, dTru, liftF, cCall, cCons, cFor, forL, cEnum, dEnum, cTg, cLc, lcL, wipeC, cWalk, dWalk, cNever, cSetTp, putAll, bLen, cFld, CS.fld, cProp, noExc, CS.clsOf, cCallS, dItems, cLenP, cIxP, CS.see, cApp, CS.pl, CS.wr, Pl.xs, dNeg, cSetIx, cStore, froz, cLst, cCutL, dCutL, cNoPart, cPart, dPart, CS.seqL, bList, M.opt, dIs, cIsiT, D.isNon]))]
    rfl
  let c3 : CS := ⟨[.own (.ins 1 [("_chain", chD rs), ("_contents", conD (voidC rs)), ("_log", .ref S.length)]), .val (chD rs)], S ++ [.lst []]⟩
  have g3 : cSetF 1 0 "_log" (cStore (cLst (M.ret []))) c2 = .ok .next c3 := (setF_of (p := .own [("_chain", chD rs), ("_contents", conD (voidC rs))]) (store c2) rfl (by simp [M.bind, M.ret, R.bind, cSeq, cRet, cVar, cOp, cAnd, cOr, cNot, cIf, cAndT, cOrT, cNotT, asB, cB, cNext, cIfS, cSet, CS.put, cChain, dLe, dLt, dGt, dGe, dI2, startC, outF, fnB, cIsi, CS.knOf, tyB, isKn, isTy, M.guard, cTru, dTru, liftF, cCall, cCons, cFor, forL, cEnum, dEnum, cTg, cLc, lcL, wipeC, cWalk, dWalk, cNever, cSetTp, putAll, bLen, cFld, CS.fld, cProp, noExc, CS.clsOf, cCallS, dItems, cLenP, cIxP, CS.see, cApp, CS.pl, CS.wr, Pl.xs, dNeg, cSetIx, cStore, froz, cLst, cCutL, dCutL, cNoPart, cPart, dPart, CS.seqL, bList, M.opt, dIs, cIsiT, D.isNon, Pi.fs])).trans rfl
  have l3 : (S ++ [O.lst []]).length = S.length + 1 := by simp [M.bind, M.ret, R.bind, cSeq, cRet, cVar, cOp, cAnd, cOr, cNot, cIf, cAndT, cOrT, cNotT, asB, cB, cNext, cIfS, cSet, CS.put, cChain, dLe, dLt, dGt, dGe, dI2, startC, outF, fnB, cIsi, CS.knOf, tyB, isKn, isTy, M.guard, cTru, dTru, liftF, cCall, cCons, cFor, forL, cEnum, dEnum, cTg, cLc, lcL, wipeC, cWalk, dWalk, cNever, cSetTp, putAll, bLen, cFld, CS.fld, cProp, noExc, CS.clsOf, cCallS, dItems, cLenP, cIxP, CS.see, cApp, CS.pl, CS.wr, Pl.xs, dNeg, cSetIx, cStore, froz, cLst, cCutL, dCutL, cNoPart, cPart, dPart, CS.seqL, bList, M.opt, dIs, cIsiT, D.isNon]
  let c4 : CS := ⟨[.own (.ins 1 [("_chain", chD rs), ("_contents", conD (voidC rs)), ("_log", .ref S.length), ("_done", .ref (S.length + 1))]), .val (chD rs)], S ++ [.lst []] ++ [.lst []]⟩
  have g4 : cSetF 1 0 "_done" (cStore (cLst (M.ret []))) c3 = .ok .next c4 := by
    refine (setF_of (p := .own [("_chain", chD rs), ("_contents", conD (voidC rs)), ("_log", .ref S.length)]) (store c3) rfl (by simp [M.bind, M.ret, R.bind, cSeq, cRet, cVar, cOp, cAnd, cOr, cNot, cIf, cAndT, cOrT, cNotT, asB, cB, cNext, cIfS, cSet, CS.put, cChain, dLe, dLt, dGt, dGe, dI2, startC, outF, fnB, cIsi, CS.knOf, tyB, isKn, isTy, M.guard, cTru, dTru, liftF, cCall, cCons, cFor, forL, cEnum, dEnum, cTg, cLc, lcL, wipeC, cWalk, dWalk, cNever, cSetTp, putAll, bLen, cFld, CS.fld, cProp, noExc, CS.clsOf, cCallS, dItems, cLenP, cIxP, CS.see, cApp, CS.pl, CS.wr, Pl.xs, dNeg, cSetIx, cStore, froz, cLst, cCutL, dCutL, cNoPart, cPart, dPart, CS.seqL, bList, M.opt, dIs, cIsiT, D.isNon, Pi.fs])).trans ?_
    show R.ok Fl.next (⟨[.own (.ins 1 [("_chain", chD rs), ("_contents", conD (voidC rs)), ("_log", .ref S.length), ("_done", .ref (S ++ [O.lst []]).length)]), .val (chD rs)], S ++ [.lst []] ++ [.lst []]⟩ : CS) = _
    rw [l3]
  have l4 : (S ++ [O.lst []] ++ [O.lst []]).length = S.length + 2 := by simp [M.bind, M.ret, R.bind, cSeq, cRet, cVar, cOp, cAnd, cOr, cNot, cIf, cAndT, cOrT, cNotT, asB, cB, cNext, cIfS, cSet, CS.put, cChain, dLe, dLt, dGt, dGe, dI2, startC, outF, fnB, cIsi, CS.knOf, tyB, isKn, isTy, M.guard, cTru, dTru, liftF, cCall, cCons, cFor, forL, cEnum, dEnum, cTg, cLc, lcL, wipeC, cWalk, dWalk, cNever, cSetTp, putAll, bLen, cFld, CS.fld, cProp, noExc, CS.clsOf, cCallS, dItems, cLenP, cIxP, CS.see, cApp, CS.pl, CS.wr, Pl.xs, dNeg, cSetIx, cStore, froz, cLst, cCutL, dCutL, cNoPart, cPart, dPart, CS.seqL, bList, M.opt, dIs, cIsiT, D.isNon]
  let c5 : CS := ⟨[.own (.ins 1 [("_chain", chD rs), ("_contents", conD (voidC rs)), ("_log", .ref S.length), ("_done", .ref (S.length + 1)), ("_undone", .ref (S.length + 2))]), .val (chD rs)], S ++ [.lst []] ++ [.lst []] ++ [.lst []]⟩
  have g5 : cSetF 1 0 "_undone" (cStore (cLst (M.ret []))) c4 = .ok .next c5 := by
    refine (setF_of (p := .own [("_chain", chD rs), ("_contents", conD (voidC rs)), ("_log", .ref S.length), ("_done", .ref (S.length + 1))]) (store c4) rfl (by simp [M.bind, M.ret, R.bind, cSeq, cRet, cVar, cOp, cAnd, cOr, cNot, cIf, cAndT, cOrT, cNotT, asB, cB, cNext, cIfS, cSet, CS.put, cChain, dLe, dLt, dGt, dGe, dI2, startC, outF, fnB, cIsi, CS.knOf, tyB, isKn, isTy, M.guard, cTru, dTru, liftF, cCall, cCons, cFor, forL, cEnum, dEnum, cTg, cLc, lcL, wipeC, cWalk, dWalk, cNever, cSetTp, putAll, bLen, cFld, CS.fld, cProp, noExc, CS.clsOf, cCallS, dItems, cLenP, cIxP, CS.see, cApp, CS.pl, CS.wr, Pl.xs, dNeg, cSetIx, cStore, froz, cLst, cCutL, dCutL, cNoPart, cPart, dPart, CS.seqL, bList, M.opt, dIs, cIsiT, D.isNon, Pi.fs])).trans ?_
    show R.ok Fl.next (⟨[.own (.ins 1 [("_chain", chD rs), ("_contents", conD (voidC rs)), ("_log", .ref S.length), ("_done", .ref (S.length + 1)), ("_undone", .ref (S ++ [O.lst []] ++ [O.lst []]).length)]), .val (chD rs)], S ++ [.lst []] ++ [.lst []] ++ [.lst []]⟩ : CS) = _
    rw [l4]
  have l5 : (S ++ [O.lst []] ++ [O.lst []] ++ [O.lst []]).length = S.length + 3 := by simp [M.bind, M.ret, R.bind, cSeq, cRet, cVar, cOp, cAnd, cOr, cNot, cIf, cAndT, cOrT, cNotT, asB, cB, cNext, cIfS, cSet, CS.put, cChain, dLe, dLt, dGt, dGe, dI2, startC, outF, fnB, cIsi, CS.knOf, tyB, isKn, isTy, M.guard, cTru, dTru, liftF, cCall, cCons, cFor, forL, cEnum, dEnum, cTg, cLc, lcL, wipeC, cWalk, dWalk, cNever, cSetTp, putAll, bLen, cFld, CS.fld, cProp, noExc, CS.clsOf, cCallS, dItems, cLenP, cIxP, CS.see, cApp, CS.pl, CS.wr, Pl.xs, dNeg, cSetIx, cStore, froz, cLst, cCutL, dCutL, cNoPart, cPart, dPart, CS.seqL, bList, M.opt, dIs, cIsiT, D.isNon]
  refine ⟨S ++ [.lst []] ++ [.lst []] ++ [.lst []] ++ [runO rs (voidC rs) S.length (S.length + 2)], ?_, ⟨S.length + 2, [], ?_, ?_, ?_, Nat.zero_le _⟩, by simp [M.bind, M.ret, R.bind, cSeq, cRet, cVar, cOp, cAnd, cOr, cNot, cIf, cAndT, cOrT, cNotT, asB, cB, cNext, cIfS, cSet, CS.put, cChain, dLe, dLt, dGt, dGe, dI2, startC, outF, fnB, cIsi, CS.knOf, tyB, isKn, isTy, M.guard, cTru, dTru, liftF, cCall, cCons, cFor, forL, cEnum, dEnum, cTg, cLc, lcL, wipeC, cWalk, dWalk, cNever, cSetTp, putAll, bLen, cFld, CS.fld, cProp, noExc, CS.clsOf, cCallS, dItems, cLenP, cIxP, CS.see, cApp, CS.pl, CS.wr, Pl.xs, dNeg, cSetIx, cStore, froz, cLst, cCutL, dCutL, cNoPart, cPart, dPart, CS.seqL, bList, M.opt, dIs, cIsiT, D.isNon], fun i hi => ?_⟩
  · have bd : cl_Run__init c0 = .ok .next c5 := by
      unfold cl_Run__init
      rw [cSeq_next g1, cSeq_next g2, cSeq_next g3, cSeq_next g4, cSeq_next g5]
      rfl
    show (match cl_Run__init c0 with
      | .ok .next c => outR 1 c
      | .ok (.ret .non) c => outR 1 c
      | .exc cn vs c => .exc cn vs c.S
      | _ => .stuck) = _
    rw [bd]
    show FR.ok (.ref (S ++ [O.lst []] ++ [O.lst []] ++ [O.lst []]).length) _ = _
    rw [l5]
    rfl
  · rw [← l5]
    exact app_end _ _ _
  · rw [app_at (by rw [l5]; omega), app_at (by rw [l4]; omega), app_at (by rw [l3]; omega)]
    exact app_end _ _ _
  · rw [app_at (by rw [l5]; omega), app_at (by rw [l4]; omega), ← l3]
    exact app_end _ _ _
  · rw [app_at (by rw [l5]; omega), app_at (by rw [l4]; omega), app_at (by rw [l3]; omega), app_at hi]
end
end K35
namespace K35
open CL PySem
noncomputable section
abbrev askD (q : Nat × Int) : D := .tup [.int (q.1 : Nat), .int q.2]
abbrev logD (p : (Nat × Int) × Option (Nat × Nat)) : D := .tup [.int (p.1.1 : Nat), .int p.1.2, resD p.2]
def AskOk (rs : List (List Int)) (q : Nat × Int) : Prop := q.1 < rs.length ∧ -1 ≤ q.2 ∧ q.2 ≤ 9999
/-- requests one after another -/
def runA (rs : List (List Int)) : List (List (List Int)) → List (Nat × Int) → List (List (List Int)) × List (Option (Nat × Nat))
  | cs, [] => (cs, [])
  | cs, q :: qs => ((runA rs (askA rs cs q.1 q.2).1 qs).1, (askA rs cs q.1 q.2).2 :: (runA rs (askA rs cs q.1 q.2).1 qs).2)
theorem runA_ok {rs : List (List Int)} (hr : ∀ r ∈ rs, RowOk r) (qs : List (Nat × Int)) : ∀ {cs : List (List (List Int))}, ConOk rs cs → ConOk rs (runA rs cs qs).1 := by
  induction qs with
  | nil => intro cs h; exact h
  | cons q qs ih => intro cs h; exact ih (askA_ok hr q.1 q.2 h)
theorem runA_len (rs : List (List Int)) (qs : List (Nat × Int)) : ∀ cs : List (List (List Int)), (runA rs cs qs).2.length = qs.length := by
  induction qs with
  | nil => intro cs; rfl
  | cons q qs ih =>
    intro cs
    show (_ :: _ : List _).length = _
    rw [List.length_cons, List.length_cons, ih]
/-- a run's fields -/
theorem fld_run {c : CS} {n : Nat} {rs : List (List Int)} {cs : List (List (List Int))} {b u : Nat} (h : c.S[n]? = some (runO rs cs b u)) :
    c.fld 1 0 "_chain" (.ref n) = some (chD rs) ∧ c.fld 1 1 "_contents" (.ref n) = some (conD cs) ∧ c.fld 1 2 "_log" (.ref n) = some (.ref b) ∧ c.fld 1 3 "_done" (.ref n) = some (.ref (b + 1)) := by
  have e : ∀ (i : Nat) (f : Str), c.fld 1 i f (.ref n) = ([(("_chain" : Str), chD rs), ("_contents", conD cs), ("_log", .ref b), ("_done", .ref (b + 1)), ("_undone", .ref u)] : List (Str × D)).lookup f := fun i f => by
    show (match c.S[n]? with
      | some (.ins k fs) => if k = 1 then fs.lookup f else none
      | _ => none) = _
    rw [h]
    rfl
  rw [e, e, e, e]
  exact ⟨rfl, rfl, rfl, rfl⟩
theorem has_run {c : CS} {n : Nat} {rs : List (List Int)} {cs : List (List (List Int))} {b u : Nat} (h : c.S[n]? = some (runO rs cs b u)) (mn : Str) (hm : (([(("_chain" : Str), chD rs), ("_contents", conD cs), ("_log", .ref b), ("_done", .ref (b + 1)), ("_undone", .ref u)] : List (Str × D)).lookup mn).isNone = true) : c.has 1 mn (.ref n) = true := by
  show (match c.S[n]? with
    | some (.ins k fs) => k == 1 && (fs.lookup mn).isNone
    | _ => false) = _
  rw [h]
  show ((1 : Nat) == 1 && _) = true
  rw [hm]
  rfl
theorem pi_run {c : CS} {n : Nat} {rs : List (List Int)} {cs : List (List (List Int))} {b u : Nat} (h0 : c.sl[(0 : Nat)]? = some (.val (.ref n))) (h : c.S[n]? = some (runO rs cs b u)) : c.pi 1 0 = some (.st n [("_chain", chD rs), ("_contents", conD cs), ("_log", .ref b), ("_done", .ref (b + 1)), ("_undone", .ref u)]) := by
  unfold CS.pi
  rw [h0]
  dsimp only
  rw [h]
  rfl
theorem set_at {S : List O} {n m : Nat} (o : O) (h : n ≠ m) : (S.set n o)[m]? = S[m]? := List.getElem?_set_ne h
theorem set_is {S : List O} {n : Nat} {o0 : O} (o : O) (h : S[n]? = some o0) : (S.set n o)[n]? = some o := List.getElem?_set_self (List.getElem?_eq_some_iff.mp h).1
theorem set_is2 {S : List O} {n : Nat} (o : O) (h : n < S.length) : (S.set n o)[n]? = some o := List.getElem?_set_self h
/-! ### a step is made -/
theorem s_step (rs rs' : List (List Int)) (cs cs' : List (List (List Int))) (b k : Nat) (lg rows : List D) (S : List O) (hR : RunAt S b rs cs lg k) (hk : k ≤ 1000) (hl : lg.length ≤ 100000) (hrw : rows.length ≤ 1000) :
    ∃ S', fn_Run_make_step [.ref (b + 3), chD rs', conD cs', .tup rows] S = .ok .non S' ∧ RunAt S' b rs' cs' (lg ++ rows) (k + 1) ∧ S'.length = S.length + 1 ∧ ∀ i < S.length, i ≠ b → i ≠ b + 1 → i ≠ b + 3 → S'[i]? = S[i]? := by
  obtain ⟨u, dn, h3, h0, h1, hd⟩ := hR
  let A : List Sl := [.val (.ref (b + 3)), .val (chD rs'), .val (conD cs'), .val (.tup rows)]
  have l3 : b + 3 < S.length := (List.getElem?_eq_some_iff.mp h3).1
  obtain ⟨f1, f2, f3, f4⟩ := fld_run (c := ⟨A, S⟩) h3
  let dd : D := .tup [.tup [chD rs, conD cs], .tup rows, .tup [chD rs', conD cs']]
  have ta : cTup (cCons (cFld 1 0 "_chain" (cVar 0)) (cCons (cFld 1 1 "_contents" (cVar 0)) (M.ret []))) ⟨A, S⟩ = .ok (.tup [chD rs, conD cs]) ⟨A, S⟩ :=
    tup_of (cons_of (fld_of (fo := cVar 0) (d := .ref (b + 3)) (c1 := ⟨A, S⟩) rfl f1) (cons_of (fld_of (fo := cVar 0) (d := .ref (b + 3)) (c1 := ⟨A, S⟩) rfl f2) nilA)) (szOk_small (by simp [M.bind, M.ret, R.bind, cSeq, cRet, cVar, cOp, cAnd, cOr, cNot, cIf, cAndT, cOrT, cNotT, asB, cB, cNext, cIfS, cSet, CS.put, cChain, dLe, dLt, dGt, dGe, dI2, startC, outF, fnB, cIsi, CS.knOf, tyB, isKn, isTy, M.guard, cTru, dTru, liftF, cCall, cCons, cFor, forL, cEnum, dEnum, cTg, cLc, lcL, wipeC, cWalk, dWalk, cNever, cSetTp, putAll, bLen, cFld, CS.fld, cProp, noExc, CS.clsOf, cCallS, dItems, cLenP, cIxP, CS.see, cApp, CS.pl, CS.wr, Pl.xs, dNeg, cSetIx, cStore, froz, cLst, cCutL, dCutL, cNoPart, cPart, dPart, CS.seqL, bList, M.opt, dIs, cIsiT, D.isNon]))
  have tb : cTup (cCons (cVar 1) (cCons (cVar 2) (M.ret []))) ⟨A, S⟩ = .ok (.tup [chD rs', conD cs']) ⟨A, S⟩ := tup_of (cons_of (x := chD rs') (c1 := ⟨A, S⟩) rfl (cons_of (x := conD cs') (c1 := ⟨A, S⟩) rfl nilA)) (szOk_small (by simp [M.bind, M.ret, R.bind, cSeq, cRet, cVar, cOp, cAnd, cOr, cNot, cIf, cAndT, cOrT, cNotT, asB, cB, cNext, cIfS, cSet, CS.put, cChain, dLe, dLt, dGt, dGe, dI2, startC, outF, fnB, cIsi, CS.knOf, tyB, isKn, isTy, M.guard, cTru, dTru, liftF, cCall, cCons, cFor, forL, cEnum, dEnum, cTg, cLc, lcL, wipeC, cWalk, dWalk, cNever, cSetTp, putAll, bLen, cFld, CS.fld, cProp, noExc, CS.clsOf, cCallS, dItems, cLenP, cIxP, CS.see, cApp, CS.pl, CS.wr, Pl.xs, dNeg, cSetIx, cStore, froz, cLst, cCutL, dCutL, cNoPart, cPart, dPart, CS.seqL, bList, M.opt, dIs, cIsiT, D.isNon]))
  have td : cTup (cCons (cTup (cCons (cFld 1 0 "_chain" (cVar 0)) (cCons (cFld 1 1 "_contents" (cVar 0)) (M.ret [])))) (cCons (cVar 3) (cCons (cTup (cCons (cVar 1) (cCons (cVar 2) (M.ret [])))) (M.ret [])))) ⟨A, S⟩ = .ok dd ⟨A, S⟩ :=
    tup_of (cons_of ta (cons_of (x := .tup rows) (c1 := ⟨A, S⟩) rfl (cons_of tb nilA))) (szOk_small (by simp [M.bind, M.ret, R.bind, cSeq, cRet, cVar, cOp, cAnd, cOr, cNot, cIf, cAndT, cOrT, cNotT, asB, cB, cNext, cIfS, cSet, CS.put, cChain, dLe, dLt, dGt, dGe, dI2, startC, outF, fnB, cIsi, CS.knOf, tyB, isKn, isTy, M.guard, cTru, dTru, liftF, cCall, cCons, cFor, forL, cEnum, dEnum, cTg, cLc, lcL, wipeC, cWalk, dWalk, cNever, cSetTp, putAll, bLen, cFld, CS.fld, cProp, noExc, CS.clsOf, cCallS, dItems, cLenP, cIxP, CS.see, cApp, CS.pl, CS.wr, Pl.xs, dNeg, cSetIx, cStore, froz, cLst, cCutL, dCutL, cNoPart, cPart, dPart, CS.seqL, bList, M.opt, dIs, cIsiT, D.isNon]))
  have big : ∀ n : Nat, n ≤ 200000 → n < sizeLine := fun n hn => Nat.lt_of_lt_of_le (by omega : n < 200001) (by decide)
  let S1 : List O := S.set (b + 1) (.lst (dn ++ [dd]))
  have g1 := appE_of (c := ⟨A, S⟩) (fo := cFld 1 3 "_done" (cVar 0)) (fld_of (fo := cVar 0) (d := .ref (b + 3)) (c1 := ⟨A, S⟩) rfl f4) h1 td h1 (big _ (by omega))
  have l1 : S1.length = S.length := List.length_set
  let S2 : List O := S1 ++ [.lst []]
  have e3 : S2[b + 3]? = some (runO rs cs b u) := by
    rw [app_at (by rw [l1]; exact l3), set_at _ (by omega)]
    exact h3
  have st : cStore (cLst (M.ret [])) ⟨A, S1⟩ = .ok (.ref S.length) ⟨A, S2⟩ := by
    unfold cStore M.bind
    rw [lst_of nilA (szOk_small (by simp [M.bind, M.ret, R.bind, cSeq, cRet, cVar, cOp, cAnd, cOr, cNot, cIf, cAndT, cOrT, cNotT, asB, cB, cNext, cIfS, cSet, CS.put, cChain, dLe, dLt, dGt, dGe, dI2, startC, outF, fnB, cIsi, CS.knOf, tyB, isKn, isTy, M.guard, cTru, dTru, liftF, cCall, cCons, cFor, forL, cEnum, dEnum, cTg, cLc, lcL, wipeC, cWalk, dWalk, cNever, cSetTp, putAll, bLen, cFld, CS.fld, cProp, noExc, CS.clsOf, cCallS, dItems, cLenP, cIxP, CS.see, cApp, CS.pl, CS.wr, Pl.xs, dNeg, cSetIx, cStore, froz, cLst, cCutL, dCutL, cNoPart, cPart, dPart, CS.seqL, bList, M.opt, dIs, cIsiT, D.isNon]))]
    show R.ok (D.ref S1.length) _ = _
    rw [l1]
  let S3 : List O := S2.set (b + 3) (runO rs cs b S.length)
  have g2 : cSetF 1 0 "_undone" (cStore (cLst (M.ret []))) ⟨A, S1⟩ = .ok .next ⟨A, S3⟩ := (setF_of st (pi_run (c := ⟨A, S2⟩) rfl e3) (by simp [M.bind, M.ret, R.bind, cSeq, cRet, cVar, cOp, cAnd, cOr, cNot, cIf, cAndT, cOrT, cNotT, asB, cB, cNext, cIfS, cSet, CS.put, cChain, dLe, dLt, dGt, dGe, dI2, startC, outF, fnB, cIsi, CS.knOf, tyB, isKn, isTy, M.guard, cTru, dTru, liftF, cCall, cCons, cFor, forL, cEnum, dEnum, cTg, cLc, lcL, wipeC, cWalk, dWalk, cNever, cSetTp, putAll, bLen, cFld, CS.fld, cProp, noExc, CS.clsOf, cCallS, dItems, cLenP, cIxP, CS.see, cApp, CS.pl, CS.wr, Pl.xs, dNeg, cSetIx, cStore, froz, cLst, cCutL, dCutL, cNoPart, cPart, dPart, CS.seqL, bList, M.opt, dIs, cIsiT, D.isNon, Pi.fs])).trans rfl
  have e4 : S3[b + 3]? = some (runO rs cs b S.length) := set_is _ e3
  let S4 : List O := S3.set (b + 3) (runO rs' cs b S.length)
  have g3 : cSetF 1 0 "_chain" (cVar 1) ⟨A, S3⟩ = .ok .next ⟨A, S4⟩ := (setF_of (d := chD rs') (c1 := ⟨A, S3⟩) rfl (pi_run (c := ⟨A, S3⟩) rfl e4) (by simp [M.bind, M.ret, R.bind, cSeq, cRet, cVar, cOp, cAnd, cOr, cNot, cIf, cAndT, cOrT, cNotT, asB, cB, cNext, cIfS, cSet, CS.put, cChain, dLe, dLt, dGt, dGe, dI2, startC, outF, fnB, cIsi, CS.knOf, tyB, isKn, isTy, M.guard, cTru, dTru, liftF, cCall, cCons, cFor, forL, cEnum, dEnum, cTg, cLc, lcL, wipeC, cWalk, dWalk, cNever, cSetTp, putAll, bLen, cFld, CS.fld, cProp, noExc, CS.clsOf, cCallS, dItems, cLenP, cIxP, CS.see, cApp, CS.pl, CS.wr, Pl.xs, dNeg, cSetIx, cStore, froz, cLst, cCutL, dCutL, cNoPart, cPart, dPart, CS.seqL, bList, M.opt, dIs, cIsiT, D.isNon, Pi.fs])).trans rfl
  have e5 : S4[b + 3]? = some (runO rs' cs b S.length) := set_is _ e4
  let S5 : List O := S4.set (b + 3) (runO rs' cs' b S.length)
  have g4 : cSetF 1 0 "_contents" (cVar 2) ⟨A, S4⟩ = .ok .next ⟨A, S5⟩ := (setF_of (d := conD cs') (c1 := ⟨A, S4⟩) rfl (pi_run (c := ⟨A, S4⟩) rfl e5) (by simp [M.bind, M.ret, R.bind, cSeq, cRet, cVar, cOp, cAnd, cOr, cNot, cIf, cAndT, cOrT, cNotT, asB, cB, cNext, cIfS, cSet, CS.put, cChain, dLe, dLt, dGt, dGe, dI2, startC, outF, fnB, cIsi, CS.knOf, tyB, isKn, isTy, M.guard, cTru, dTru, liftF, cCall, cCons, cFor, forL, cEnum, dEnum, cTg, cLc, lcL, wipeC, cWalk, dWalk, cNever, cSetTp, putAll, bLen, cFld, CS.fld, cProp, noExc, CS.clsOf, cCallS, dItems, cLenP, cIxP, CS.see, cApp, CS.pl, CS.wr, Pl.xs, dNeg, cSetIx, cStore, froz, cLst, cCutL, dCutL, cNoPart, cPart, dPart, CS.seqL, bList, M.opt, dIs, cIsiT, D.isNon, Pi.fs])).trans rfl
  have e6 : S5[b + 3]? = some (runO rs' cs' b S.length) := set_is _ e5
  have oth : ∀ i, i ≠ b + 3 → i ≠ b + 1 → i < S.length → S5[i]? = S[i]? := fun i n3 n1 hi => by
    rw [set_at _ (Ne.symm n3), set_at _ (Ne.symm n3), set_at _ (Ne.symm n3), app_at (by rw [l1]; exact hi), set_at _ (Ne.symm n1)]
  have e0 : S5[b]? = some (.lst lg) := (oth b (by omega) (by omega) (by omega)).trans h0
  obtain ⟨_, _, f3', _⟩ := fld_run (c := ⟨A, S5⟩) e6
  have g5 := extE_of (c := ⟨A, S5⟩) (fo := cFld 1 2 "_log" (cVar 0)) (fe := cVar 3) (ds := rows) (c2 := ⟨A, S5⟩) (fld_of (fo := cVar 0) (d := .ref (b + 3)) (c1 := ⟨A, S5⟩) rfl f3') e0 rfl e0 (Nat.le_of_lt (big _ (by omega)))
  refine ⟨S5.set b (.lst (lg ++ rows)), ?_, ⟨S.length, dn ++ [dd], ?_, set_is _ e0, ?_, by simp [M.bind, M.ret, R.bind, cSeq, cRet, cVar, cOp, cAnd, cOr, cNot, cIf, cAndT, cOrT, cNotT, asB, cB, cNext, cIfS, cSet, CS.put, cChain, dLe, dLt, dGt, dGe, dI2, startC, outF, fnB, cIsi, CS.knOf, tyB, isKn, isTy, M.guard, cTru, dTru, liftF, cCall, cCons, cFor, forL, cEnum, dEnum, cTg, cLc, lcL, wipeC, cWalk, dWalk, cNever, cSetTp, putAll, bLen, cFld, CS.fld, cProp, noExc, CS.clsOf, cCallS, dItems, cLenP, cIxP, CS.see, cApp, CS.pl, CS.wr, Pl.xs, dNeg, cSetIx, cStore, froz, cLst, cCutL, dCutL, cNoPart, cPart, dPart, CS.seqL, bList, M.opt, dIs, cIsiT, D.isNon]; omega⟩, ?_, fun i hi n0 n1 n3 => ?_⟩
  · show outF (cl_Run_make_step ⟨A, S⟩) = _
    unfold cl_Run_make_step
    rw [cSeq_next g1, cSeq_next g2, cSeq_next g3, cSeq_next g4, cSeq_next g5]
    rfl
  · rw [set_at _ (by omega)]
    exact e6
  · rw [set_at _ (by omega), set_at _ (by omega), set_at _ (by omega), set_at _ (by omega), app_at (by rw [l1]; omega)]
    exact set_is _ h1
  · show (S5.set b _).length = _
    simp [M.bind, M.ret, R.bind, cSeq, cRet, cVar, cOp, cAnd, cOr, cNot, cIf, cAndT, cOrT, cNotT, asB, cB, cNext, cIfS, cSet, CS.put, cChain, dLe, dLt, dGt, dGe, dI2, startC, outF, fnB, cIsi, CS.knOf, tyB, isKn, isTy, M.guard, cTru, dTru, liftF, cCall, cCons, cFor, forL, cEnum, dEnum, cTg, cLc, lcL, wipeC, cWalk, dWalk, cNever, cSetTp, putAll, bLen, cFld, CS.fld, cProp, noExc, CS.clsOf, cCallS, dItems, cLenP, cIxP, CS.see, cApp, CS.pl, CS.wr, Pl.xs, dNeg, cSetIx, cStore, froz, cLst, cCutL, dCutL, cNoPart, cPart, dPart, CS.seqL, bList, M.opt, dIs, cIsiT, D.isNon, S5, S4, S3, S2, S1]
  · rw [set_at _ (Ne.symm n0)]
    exact oth i n3 n1 hi
/-! ### rows of requests -/
abbrev ckE : M Fl := cDrop (cCall fn_check_request (cCons (cFld 1 0 "_chain" (cVar 0)) (cCons (cVar 4) (cCons (cVar 5) (M.ret [])))))
abbrev afE : M Fl := cSetTp [2, 6] (cCall fn_after_request (cCons (cFld 1 0 "_chain" (cVar 0)) (cCons (cVar 2) (cCons (cVar 4) (cCons (cVar 5) (M.ret []))))))
abbrev apE : M Fl := cApp 3 (cTup (cCons (cVar 4) (cCons (cVar 5) (cCons (cVar 6) (M.ret [])))))
abbrev rwB : M Fl := cSeq ckE (cSeq afE (cSeq apE cNext))
abbrev rc (n : Nat) (q : D) (S : List O) (cs : List (List (List Int))) (rows : List D) (x4 x5 x6 : Sl) : CS := ⟨[.val (.ref n), .val q, .val (conD cs), .own (.lst rows), x4, x5, x6], S⟩
theorem s_rwL (rs : List (List Int)) (h : ChOk rs) (cs0 : List (List (List Int))) (n b u : Nat) (q : D) (S : List O) (hS : S[n]? = some (runO rs cs0 b u)) (qs : List (Nat × Int)) : ∀ (cs : List (List (List Int))) (rows : List D) (x4 x5 x6 : Sl), ConOk rs cs → (∀ q ∈ qs, AskOk rs q) → rows.length + qs.length ≤ 1000 →
    ∃ y4 y5 y6, forL (fun d => cSeq (cTg (.tp [4, 5]) d) rwB) (qs.map askD) (rc n q S cs rows x4 x5 x6) = .ok .next (rc n q S (runA rs cs qs).1 (rows ++ (qs.zip (runA rs cs qs).2).map logD) y4 y5 y6) := by
  induction qs with
  | nil => intro cs rows x4 x5 x6 _ _ _; exact ⟨x4, x5, x6, by show R.ok Fl.next _ = R.ok Fl.next (rc n q S cs (rows ++ []) x4 x5 x6); rw [List.append_nil]⟩
  | cons a qs ih =>
    intro cs rows x4 x5 x6 hc hq hl
    obtain ⟨e, x⟩ := a
    obtain ⟨he, hx⟩ := hq (e, x) List.mem_cons_self
    have he : e < rs.length := he
    have hx : -1 ≤ x ∧ x ≤ 9999 := hx
    rw [List.length_cons] at hl
    let c : CS := rc n q S cs rows (.val (.int (e : Nat))) (.val (.int x)) x6
    have tg : cTg (.tp [4, 5]) (askD (e, x)) (rc n q S cs rows x4 x5 x6) = .ok .next c := rfl
    obtain ⟨f1, _⟩ := fld_run (c := c) hS
    have ch : cFld 1 0 "_chain" (cVar 0) c = .ok (chD rs) c := fld_of (fo := cVar 0) (d := .ref n) (c1 := c) rfl f1
    have g1 : ckE c = .ok .next c := by
      refine drop_of (d := .non) ?_
      refine (call_of (cons_of ch (cons_of (fa := cVar 4) (x := .int (e : Nat)) (c1 := c) rfl (cons_of (fa := cVar 5) (x := .int x) (c1 := c) rfl nilA)))).trans ?_
      show liftF (fn_check_request [chD rs, .int (e : Nat), .int x] S) _ = _
      rw [s_checkq rs e x S he hx]
      rfl
    let c2 : CS := rc n q S (askA rs cs e x).1 rows (.val (.int (e : Nat))) (.val (.int x)) (.val (resD (askA rs cs e x).2))
    have g2 : afE c = .ok .next c2 := by
      refine (setTp_of (ds := [conD (askA rs cs e x).1, resD (askA rs cs e x).2]) (c1 := c) ?_ rfl).trans rfl
      refine (call_of (cons_of ch (cons_of (fa := cVar 2) (x := conD cs) (c1 := c) rfl (cons_of (fa := cVar 4) (x := .int (e : Nat)) (c1 := c) rfl (cons_of (fa := cVar 5) (x := .int x) (c1 := c) rfl nilA))))).trans ?_
      show liftF (fn_after_request [chD rs, conD cs, .int (e : Nat), .int x] S) _ = _
      rw [s_after rs cs e x S h hc (Nat.le_of_lt he)]
      rfl
    let c3 : CS := rc n q S (askA rs cs e x).1 (rows ++ [logD ((e, x), (askA rs cs e x).2)]) (.val (.int (e : Nat))) (.val (.int x)) (.val (resD (askA rs cs e x).2))
    have g3 : apE c2 = .ok .next c3 := by
      have tp := tup_of (cons_of (fa := cVar 4) (x := .int (e : Nat)) (c := c2) (c1 := c2) rfl (cons_of (fa := cVar 5) (x := .int x) (c1 := c2) rfl (cons_of (fa := cVar 6) (x := resD (askA rs cs e x).2) (c1 := c2) rfl nilA))) (szOk_small (by simp [M.bind, M.ret, R.bind, cSeq, cRet, cVar, cOp, cAnd, cOr, cNot, cIf, cAndT, cOrT, cNotT, asB, cB, cNext, cIfS, cSet, CS.put, cChain, dLe, dLt, dGt, dGe, dI2, startC, outF, fnB, cIsi, CS.knOf, tyB, isKn, isTy, M.guard, cTru, dTru, liftF, cCall, cCons, cFor, forL, cEnum, dEnum, cTg, cLc, lcL, wipeC, cWalk, dWalk, cNever, cSetTp, putAll, bLen, cFld, CS.fld, cProp, noExc, CS.clsOf, cCallS, dItems, cLenP, cIxP, CS.see, cApp, CS.pl, CS.wr, Pl.xs, dNeg, cSetIx, cStore, froz, cLst, cCutL, dCutL, cNoPart, cPart, dPart, CS.seqL, bList, M.opt, dIs, cIsiT, D.isNon]))
      unfold apE cApp
      rw [show c2.pl 3 = some (.own rows) from rfl]
      dsimp only
      rw [tp]
      show (match c2.pl 3 with
        | none => R.stuck
        | some p => match decide (p.xs.length < sizeLine) with
          | true => R.ok Fl.next (c2.wr 3 p (p.xs ++ [logD ((e, x), (askA rs cs e x).2)]))
          | false => .stuck) = _
      rw [show c2.pl 3 = some (.own rows) from rfl]
      dsimp only
      rw [show decide ((Pl.own rows).xs.length < sizeLine) = true from decide_eq_true (size_small (by show rows.length ≤ 1000; omega))]
      rfl
    have bd : cSeq (cTg (.tp [4, 5]) (askD (e, x))) rwB (rc n q S cs rows x4 x5 x6) = .ok .next c3 := by
      rw [cSeq_next tg]
      unfold rwB
      rw [cSeq_next g1, cSeq_next g2, cSeq_next g3]
      rfl
    obtain ⟨y4, y5, y6, z⟩ := ih (askA rs cs e x).1 (rows ++ [logD ((e, x), (askA rs cs e x).2)]) (.val (.int (e : Nat))) (.val (.int x)) (.val (resD (askA rs cs e x).2)) (askA_ok h.2.2 e x hc) (fun q hm => hq q (List.mem_cons_of_mem _ hm)) (by rw [List.length_append]; simp [M.bind, M.ret, R.bind, cSeq, cRet, cVar, cOp, cAnd, cOr, cNot, cIf, cAndT, cOrT, cNotT, asB, cB, cNext, cIfS, cSet, CS.put, cChain, dLe, dLt, dGt, dGe, dI2, startC, outF, fnB, cIsi, CS.knOf, tyB, isKn, isTy, M.guard, cTru, dTru, liftF, cCall, cCons, cFor, forL, cEnum, dEnum, cTg, cLc, lcL, wipeC, cWalk, dWalk, cNever, cSetTp, putAll, bLen, cFld, CS.fld, cProp, noExc, CS.clsOf, cCallS, dItems, cLenP, cIxP, CS.see, cApp, CS.pl, CS.wr, Pl.xs, dNeg, cSetIx, cStore, froz, cLst, cCutL, dCutL, cNoPart, cPart, dPart, CS.seqL, bList, M.opt, dIs, cIsiT, D.isNon]; omega)
    refine ⟨y4, y5, y6, ?_⟩
    rw [List.map_cons, forL_next (body := fun d => cSeq (cTg (.tp [4, 5]) d) rwB) bd, z, List.append_assoc]
    rfl
theorem s_rowsof (rs : List (List Int)) (h : ChOk rs) (cs : List (List (List Int))) (n b u : Nat) (S : List O) (hS : S[n]? = some (runO rs cs b u)) (hc : ConOk rs cs) (qs : List (Nat × Int)) (hq : ∀ q ∈ qs, AskOk rs q) (hl : qs.length ≤ 1000) :
    fn_Run_rows_of [.ref n, .lst (qs.map askD)] S = .ok (.tup [conD (runA rs cs qs).1, .tup ((qs.zip (runA rs cs qs).2).map logD)]) S := by
  let c0 : CS := ⟨[.val (.ref n), .val (.lst (qs.map askD)), .no, .no, .no, .no, .no], S⟩
  obtain ⟨_, f2, _⟩ := fld_run (c := c0) hS
  have g1 : cSet 2 (cFld 1 1 "_contents" (cVar 0)) c0 = .ok .next ⟨[.val (.ref n), .val (.lst (qs.map askD)), .val (conD cs), .no, .no, .no, .no], S⟩ := set_of (fld_of (fo := cVar 0) (d := .ref n) (c1 := c0) rfl f2)
  have g2 : cSetL 3 (cLst (M.ret [])) ⟨[.val (.ref n), .val (.lst (qs.map askD)), .val (conD cs), .no, .no, .no, .no], S⟩ = .ok .next (rc n (.lst (qs.map askD)) S cs [] .no .no .no) := (setL_of (lst_of nilA (szOk_small (by simp [M.bind, M.ret, R.bind, cSeq, cRet, cVar, cOp, cAnd, cOr, cNot, cIf, cAndT, cOrT, cNotT, asB, cB, cNext, cIfS, cSet, CS.put, cChain, dLe, dLt, dGt, dGe, dI2, startC, outF, fnB, cIsi, CS.knOf, tyB, isKn, isTy, M.guard, cTru, dTru, liftF, cCall, cCons, cFor, forL, cEnum, dEnum, cTg, cLc, lcL, wipeC, cWalk, dWalk, cNever, cSetTp, putAll, bLen, cFld, CS.fld, cProp, noExc, CS.clsOf, cCallS, dItems, cLenP, cIxP, CS.see, cApp, CS.pl, CS.wr, Pl.xs, dNeg, cSetIx, cStore, froz, cLst, cCutL, dCutL, cNoPart, cPart, dPart, CS.seqL, bList, M.opt, dIs, cIsiT, D.isNon])))).trans rfl
  obtain ⟨y4, y5, y6, z⟩ := s_rwL rs h cs n b u (.lst (qs.map askD)) S hS qs cs [] .no .no .no hc hq (by simpa using hl)
  have f : cFor (cWalk (cVar 1)) (.tp [4, 5]) rwB (rc n (.lst (qs.map askD)) S cs [] .no .no .no) = _ := for_of (walk_of (c1 := rc n (.lst (qs.map askD)) S cs [] .no .no .no) (.inl rfl)) z
  let ro : List D := [] ++ (qs.zip (runA rs cs qs).2).map logD
  let c3 : CS := ⟨[.val (.ref n), .val (.lst (qs.map askD)), .val (conD (runA rs cs qs).1), .val (.lst ro), y4, y5, y6], S⟩
  have t : ((cCons (cVar 3) (M.ret [])).bind bTuple) (rc n (.lst (qs.map askD)) S (runA rs cs qs).1 ro y4 y5 y6) = .ok (.tup ro) c3 := rfl
  have g3 := ret_of (tup_of (cons_of (fa := cVar 2) (x := conD (runA rs cs qs).1) (c := rc n (.lst (qs.map askD)) S (runA rs cs qs).1 ro y4 y5 y6) (c1 := rc n (.lst (qs.map askD)) S (runA rs cs qs).1 ro y4 y5 y6) rfl (cons_of t nilA)) (szOk_small (by simp [M.bind, M.ret, R.bind, cSeq, cRet, cVar, cOp, cAnd, cOr, cNot, cIf, cAndT, cOrT, cNotT, asB, cB, cNext, cIfS, cSet, CS.put, cChain, dLe, dLt, dGt, dGe, dI2, startC, outF, fnB, cIsi, CS.knOf, tyB, isKn, isTy, M.guard, cTru, dTru, liftF, cCall, cCons, cFor, forL, cEnum, dEnum, cTg, cLc, lcL, wipeC, cWalk, dWalk, cNever, cSetTp, putAll, bLen, cFld, CS.fld, cProp, noExc, CS.clsOf, cCallS, dItems, cLenP, cIxP, CS.see, cApp, CS.pl, CS.wr, Pl.xs, dNeg, cSetIx, cStore, froz, cLst, cCutL, dCutL, cNoPart, cPart, dPart, CS.seqL, bList, M.opt, dIs, cIsiT, D.isNon])))
  show outF (cl_Run_rows_of c0) = _
  unfold cl_Run_rows_of
  rw [cSeq_next g1, cSeq_next g2, cSeq_next f, cSeq_ret g3]
  rfl
end
end K35
namespace K35
open CL PySem
noncomputable section
theorem RunAt.le {S : List O} {b : Nat} {rs : List (List Int)} {cs : List (List (List Int))} {lg : List D} {k k' : Nat} (h : RunAt S b rs cs lg k) (hk : k ≤ k') : RunAt S b rs cs lg k' := by
  obtain ⟨u, dn, h3, h0, h1, hd⟩ := h
  exact ⟨u, dn, h3, h0, h1, Nat.le_trans hd hk⟩
theorem RunAt.keep {S S' : List O} {b : Nat} {rs : List (List Int)} {cs : List (List (List Int))} {lg : List D} {k : Nat} (h : RunAt S b rs cs lg k) (e : ∀ i, b ≤ i → i ≤ b + 3 → S'[i]? = S[i]?) : RunAt S' b rs cs lg k := by
  obtain ⟨u, dn, h3, h0, h1, hd⟩ := h
  exact ⟨u, dn, (e _ (by omega) (by omega)).trans h3, (e _ (by omega) (by omega)).trans h0, (e _ (by omega) (by omega)).trans h1, hd⟩
theorem RunAt.lt {S : List O} {b : Nat} {rs : List (List Int)} {cs : List (List (List Int))} {lg : List D} {k : Nat} (h : RunAt S b rs cs lg k) : b + 3 < S.length := by
  obtain ⟨u, dn, h3, _⟩ := h
  exact (List.getElem?_eq_some_iff.mp h3).1
abbrev roE : M D := cMeth 1 "_rows_of" fn_Run_rows_of (cVar 0) (cCons (cVar 1) (M.ret []))
abbrev msE : M D := cMeth 1 "_make_step" fn_Run_make_step (cVar 0) (cCons (cFld 1 0 "_chain" (cVar 0)) (cCons (cVar 2) (cCons (cVar 3) (M.ret []))))
theorem s_reqall (rs : List (List Int)) (h : ChOk rs) (cs : List (List (List Int))) (b k : Nat) (lg : List D) (S : List O) (hR : RunAt S b rs cs lg k) (hc : ConOk rs cs) (qs : List (Nat × Int)) (hq : ∀ q ∈ qs, AskOk rs q) (hl : qs.length ≤ 1000) (hk : k ≤ 1000) (hg : lg.length ≤ 100000) :
    ∃ S', fn_Run_request_all [.ref (b + 3), .lst (qs.map askD)] S = .ok (.lst ((runA rs cs qs).2.map resD)) S' ∧ RunAt S' b rs (runA rs cs qs).1 (lg ++ (qs.zip (runA rs cs qs).2).map logD) (k + 1) ∧ S.length ≤ S'.length ∧ ∀ i < S.length, i ≠ b → i ≠ b + 1 → i ≠ b + 3 → S'[i]? = S[i]? := by
  let c0 : CS := ⟨[.val (.ref (b + 3)), .val (.lst (qs.map askD)), .no, .no, .no], S⟩
  obtain ⟨u, dn, h3, h0, h1, hd⟩ := id hR
  let ro : List D := (qs.zip (runA rs cs qs).2).map logD
  have ol : (runA rs cs qs).2.length = qs.length := runA_len rs qs cs
  have rl : ro.length = qs.length := by simp [M.bind, M.ret, R.bind, cSeq, cRet, cVar, cOp, cAnd, cOr, cNot, cIf, cAndT, cOrT, cNotT, asB, cB, cNext, cIfS, cSet, CS.put, cChain, dLe, dLt, dGt, dGe, dI2, startC, outF, fnB, cIsi, CS.knOf, tyB, isKn, isTy, M.guard, cTru, dTru, liftF, cCall, cCons, cFor, forL, cEnum, dEnum, cTg, cLc, lcL, wipeC, cWalk, dWalk, cNever, cSetTp, putAll, bLen, cFld, CS.fld, cProp, noExc, CS.clsOf, cCallS, dItems, cLenP, cIxP, CS.see, cApp, CS.pl, CS.wr, Pl.xs, dNeg, cSetIx, cStore, froz, cLst, cCutL, dCutL, cNoPart, cPart, dPart, CS.seqL, bList, M.opt, dIs, cIsiT, D.isNon, ro, ol]
  let c1 : CS := ⟨[.val (.ref (b + 3)), .val (.lst (qs.map askD)), .val (conD (runA rs cs qs).1), .val (.tup ro), .no], S⟩
  have g1 : cSetTp [2, 3] roE c0 = .ok .next c1 := by
    refine (setTp_of (ds := [conD (runA rs cs qs).1, .tup ro]) (c1 := c0) ?_ rfl).trans rfl
    refine (methS_of (d := .ref (b + 3)) (c1 := c0) (c2 := c0) (ds := [.lst (qs.map askD)]) rfl (has_run h3 _ rfl) (cons_of (x := .lst (qs.map askD)) (c1 := c0) rfl nilA)).trans ?_
    show liftF (fn_Run_rows_of [.ref (b + 3), .lst (qs.map askD)] S) _ = _
    rw [s_rowsof rs h cs (b + 3) b u S h3 hc qs hq hl]
    rfl
  have t : asB (cOp dGt ((cCons (cVar 3) (M.ret [])).bind bLen) (M.ret (.int 0))) c1 = .ok (decide (0 < qs.length)) c1 := by
    have ln := len_tup (fe := cVar 3) (xs := ro) (c := c1) (c1 := c1) rfl
    rw [rl] at ln
    refine (asB_of (op_of ln (fb := M.ret (.int 0)) (y := .int 0) rfl (show dGt (.int _) (.int 0) c1 = .ok (.bl (decide ((0 : Int) < (qs.length : Nat)))) c1 from rfl))).trans ?_
    congr 1
    by_cases q : 0 < qs.length
    · rw [decide_eq_true q, decide_eq_true (by omega)]
    · rw [decide_eq_false q, decide_eq_false (by omega)]
  have fin : ∀ S' : List O, cRet (froz (cLc (cWalk (cVar 3)) (.nm 4) (M.ret true) (cOp dIx (cVar 4) (M.ret (.int 2))) [4])) ⟨[.val (.ref (b + 3)), .val (.lst (qs.map askD)), .val (conD (runA rs cs qs).1), .val (.tup ro), .no], S'⟩ = .ok (.ret (.lst ((runA rs cs qs).2.map resD))) ⟨[.val (.ref (b + 3)), .val (.lst (qs.map askD)), .val (conD (runA rs cs qs).1), .val (.tup ro), .no], S'⟩ := fun S' => by
    let c : CS := ⟨[.val (.ref (b + 3)), .val (.lst (qs.map askD)), .val (conD (runA rs cs qs).1), .val (.tup ro), .no], S'⟩
    have l := lcL_map (t := .nm 4) (fe := cOp dIx (cVar 4) (M.ret (.int 2))) (vs := [4]) (fun d => match d with
      | .tup [_, _, r] => r
      | d => d) c ro (fun d hd => by
        obtain ⟨p, hp, rfl⟩ := List.mem_map.mp hd
        exact ⟨⟨[.val (.ref (b + 3)), .val (.lst (qs.map askD)), .val (conD (runA rs cs qs).1), .val (.tup ro), .val (logD p)], S'⟩, ⟨[.val (.ref (b + 3)), .val (.lst (qs.map askD)), .val (conD (runA rs cs qs).1), .val (.tup ro), .val (logD p)], S'⟩, rfl, rfl, rfl⟩) [] (by simp only [List.length_nil]; omega)
    have f := ret_of (froz_of (lc_of (fi := cWalk (cVar 3)) (tg := .nm 4) (c := c) (c1 := c) (walk_of (.inr rfl)) l))
    refine f.trans ?_
    congr 3
    show [] ++ ((qs.zip (runA rs cs qs).2).map logD).map _ = _
    rw [List.nil_append, List.map_map]
    have e : ((runA rs cs qs).2.map resD) = ((qs.zip (runA rs cs qs).2).map Prod.snd).map resD := by
      rw [List.map_snd_zip (by omega)]
    rw [e, List.map_map]
    rfl
  by_cases q : 0 < qs.length
  · rw [decide_eq_true q] at t
    obtain ⟨S', e1, e2, e3, e4⟩ := s_step rs rs cs (runA rs cs qs).1 b k lg ro S hR hk hg (by omega)
    obtain ⟨f1, _⟩ := fld_run (c := c1) h3
    have ms : msE c1 = .ok .non ⟨c1.sl, S'⟩ := by
      refine (methS_of (d := .ref (b + 3)) (c1 := c1) (c2 := c1) (ds := [chD rs, conD (runA rs cs qs).1, .tup ro]) rfl (has_run h3 _ rfl) (cons_of (fld_of (fo := cVar 0) (d := .ref (b + 3)) (c1 := c1) rfl f1) (cons_of (fa := cVar 2) (x := conD (runA rs cs qs).1) (c1 := c1) rfl (cons_of (fa := cVar 3) (x := .tup ro) (c1 := c1) rfl nilA)))).trans ?_
      show liftF (fn_Run_make_step [.ref (b + 3), chD rs, conD (runA rs cs qs).1, .tup ro] S) _ = _
      rw [e1]
      rfl
    refine ⟨S', ?_, e2, by omega, e4⟩
    show outF (cl_Run_request_all c0) = _
    unfold cl_Run_request_all
    have bd : cIfS (asB (cOp dGt ((cCons (cVar 3) (M.ret [])).bind bLen) (M.ret (.int 0)))) (cSeq (cDrop msE) cNext) cNext c1 = .ok .next ⟨c1.sl, S'⟩ := (ifS_t t).trans ((cSeq_next (drop_of ms)).trans rfl)
    rw [cSeq_next g1, cSeq_next bd, cSeq_ret (fin S')]
    rfl
  · rw [decide_eq_false q] at t
    have qn : qs = [] := List.length_eq_zero_iff.mp (by omega)
    refine ⟨S, ?_, ?_, Nat.le_refl _, fun _ _ _ _ _ => rfl⟩
    · show outF (cl_Run_request_all c0) = _
      unfold cl_Run_request_all
      rw [cSeq_next g1, cSeq_next (ifS_n t), cSeq_ret (fin S)]
      rfl
    · subst qn
      show RunAt S b rs cs (lg ++ []) (k + 1)
      rw [List.append_nil]
      exact hR.le (Nat.le_succ _)
/-! ### what is read off a run -/
theorem s_contents {S : List O} {b k : Nat} {rs : List (List Int)} {cs : List (List (List Int))} {lg : List D} (hR : RunAt S b rs cs lg k) : fn_Run_contents [.ref (b + 3)] S = .ok (conD cs) S := by
  obtain ⟨u, dn, h3, h0, h1, hd⟩ := hR
  let c0 : CS := ⟨[.val (.ref (b + 3))], S⟩
  obtain ⟨_, f2, _⟩ := fld_run (c := c0) h3
  show outF (cl_Run_contents c0) = _
  unfold cl_Run_contents
  rw [cSeq_ret (ret_of (fld_of (fo := cVar 0) (d := .ref (b + 3)) (c1 := c0) rfl f2))]
  rfl
theorem conE_of {c : CS} {i b k : Nat} {rs : List (List Int)} {cs : List (List (List Int))} {lg : List D} (e : cVar i c = .ok (.ref (b + 3)) c) (hR : RunAt c.S b rs cs lg k) : cProp 1 "contents" fn_Run_contents (cVar i) c = .ok (conD cs) c := by
  obtain ⟨u, dn, h3, _⟩ := id hR
  rw [prop_of e (has_run h3 _ rfl), s_contents hR]
  rfl
def outs (L : List ((Nat × Int) × Option (Nat × Nat))) : Nat := (L.filter fun p => p.2.isNone).length
end
end K35
namespace K35
open CL PySem
noncomputable section
theorem tp_keep {S S' : List O} (h : TapeOk S) (e : S'[0]? = S[0]?) : TapeOk S' := by
  obtain ⟨T, xs, a, b, c, rfl, h1, h2, h3, h4⟩ := h
  cases S' with
  | nil => cases e
  | cons o S' =>
    have e : some o = some (.lst [.lst (xs.map .int), .int a, .int b, .int c]) := e
    cases e
    exact ⟨S', xs, a, b, c, rfl, h1, h2, h3, h4⟩
theorem tp_len {S : List O} (h : TapeOk S) : 0 < S.length := by
  obtain ⟨T, xs, a, b, c, rfl, h1, h2, h3, h4⟩ := h
  exact Nat.succ_pos _
abbrev pairR (q : Nat × Int) : List Int := [(q.1 : Nat), q.2]
theorem ask_rows (qs : List (Nat × Int)) : qs.map askD = (qs.map pairR).map rowD := by
  rw [List.map_map]
  rfl
theorem shp_rowsL (a : List (List Int)) : SeqAt.shaped (.list (a.map pdR)) = true := by
  unfold SeqAt.shaped
  have := dep_rows a
  simp [M.bind, M.ret, R.bind, cSeq, cRet, cVar, cOp, cAnd, cOr, cNot, cIf, cAndT, cOrT, cNotT, asB, cB, cNext, cIfS, cSet, CS.put, cChain, dLe, dLt, dGt, dGe, dI2, startC, outF, fnB, cIsi, CS.knOf, tyB, isKn, isTy, M.guard, cTru, dTru, liftF, cCall, cCons, cFor, forL, cEnum, dEnum, cTg, cLc, lcL, wipeC, cWalk, dWalk, cNever, cSetTp, putAll, bLen, cFld, CS.fld, cProp, noExc, CS.clsOf, cCallS, dItems, cLenP, cIxP, CS.see, cApp, CS.pl, CS.wr, Pl.xs, dNeg, cSetIx, cStore, froz, cLst, cCutL, dCutL, cNoPart, cPart, dPart, CS.seqL, bList, M.opt, dIs, cIsiT, D.isNon, PyData.canLay0, lay_rows, PyData.depth]
  omega
theorem neP_nil (i : Nat) (qs : List (Nat × Int)) (c : CS) (h : c.see i = some (qs.map askD)) : cEqP true i (froz (cLst (M.ret []))) c = .ok (.bl (!decide (qs = []))) c := by
  have n := nil_of (c := c) (szOk_small (by omega))
  unfold cEqP
  rw [h]
  dsimp only
  rw [n]
  show (match c.see i with
    | some xs => match toPs xs, toP (.lst []) with
      | some ps, some q => M.guard (SeqAt.shaped (.list ps) && SeqAt.shaped q) (M.ret (D.bl (if true = true then !PyData.eqv (.list ps) q else PyData.eqv (.list ps) q))) c
      | _, _ => .stuck
    | none => .stuck) = _
  rw [h, ask_rows]
  dsimp only
  rw [toPs_rows, show toP (.lst []) = some (.list (([] : List (List Int)).map pdR)) from rfl]
  dsimp only
  rw [shp_rowsL, shp_rowsL]
  have e : PyData.eqv (.list ((qs.map pairR).map pdR)) (.list (([] : List (List Int)).map pdR)) = decide (qs.map pairR = []) := by simp only [PyData.eqv, eqv_rows]
  rw [e]
  have e2 : decide (qs.map pairR = []) = decide (qs = []) := by
    cases qs <;> rfl
  rw [e2]
  rfl
theorem last_app (xs : List D) (d : D) : L2.atI (xs ++ [d]) (-1) = some d := by
  unfold L2.atI L2.ixN
  rw [if_neg (by omega), if_pos (by rw [List.length_append]; simp [M.bind, M.ret, R.bind, cSeq, cRet, cVar, cOp, cAnd, cOr, cNot, cIf, cAndT, cOrT, cNotT, asB, cB, cNext, cIfS, cSet, CS.put, cChain, dLe, dLt, dGt, dGe, dI2, startC, outF, fnB, cIsi, CS.knOf, tyB, isKn, isTy, M.guard, cTru, dTru, liftF, cCall, cCons, cFor, forL, cEnum, dEnum, cTg, cLc, lcL, wipeC, cWalk, dWalk, cNever, cSetTp, putAll, bLen, cFld, CS.fld, cProp, noExc, CS.clsOf, cCallS, dItems, cLenP, cIxP, CS.see, cApp, CS.pl, CS.wr, Pl.xs, dNeg, cSetIx, cStore, froz, cLst, cCutL, dCutL, cNoPart, cPart, dPart, CS.seqL, bList, M.opt, dIs, cIsiT, D.isNon]; omega)]
  have e : (-1 + ((xs ++ [d]).length : Int)).toNat = xs.length := by rw [List.length_append]; simp [M.bind, M.ret, R.bind, cSeq, cRet, cVar, cOp, cAnd, cOr, cNot, cIf, cAndT, cOrT, cNotT, asB, cB, cNext, cIfS, cSet, CS.put, cChain, dLe, dLt, dGt, dGe, dI2, startC, outF, fnB, cIsi, CS.knOf, tyB, isKn, isTy, M.guard, cTru, dTru, liftF, cCall, cCons, cFor, forL, cEnum, dEnum, cTg, cLc, lcL, wipeC, cWalk, dWalk, cNever, cSetTp, putAll, bLen, cFld, CS.fld, cProp, noExc, CS.clsOf, cCallS, dItems, cLenP, cIxP, CS.see, cApp, CS.pl, CS.wr, Pl.xs, dNeg, cSetIx, cStore, froz, cLst, cCutL, dCutL, cNoPart, cPart, dPart, CS.seqL, bList, M.opt, dIs, cIsiT, D.isNon]; omega
  rw [e]
  simp [M.bind, M.ret, R.bind, cSeq, cRet, cVar, cOp, cAnd, cOr, cNot, cIf, cAndT, cOrT, cNotT, asB, cB, cNext, cIfS, cSet, CS.put, cChain, dLe, dLt, dGt, dGe, dI2, startC, outF, fnB, cIsi, CS.knOf, tyB, isKn, isTy, M.guard, cTru, dTru, liftF, cCall, cCons, cFor, forL, cEnum, dEnum, cTg, cLc, lcL, wipeC, cWalk, dWalk, cNever, cSetTp, putAll, bLen, cFld, CS.fld, cProp, noExc, CS.clsOf, cCallS, dItems, cLenP, cIxP, CS.see, cApp, CS.pl, CS.wr, Pl.xs, dNeg, cSetIx, cStore, froz, cLst, cCutL, dCutL, cNoPart, cPart, dPart, CS.seqL, bList, M.opt, dIs, cIsiT, D.isNon]
abbrev pkE (n : M D) : M D := cCall fn_law_pick (cCons (cVar 0) (cCons n (M.ret [])))
abbrev aI0 : M Fl := cIfS (asB (cOp dEq (cVar 6) (M.ret (.int 0)))) (cSeq (cSet 7 ((M.ret (.int 1)).bind dNeg)) cNext) cNext
abbrev laE : M D := cOp dIx (cIxP 4 ((M.ret (.int 1)).bind dNeg)) (M.ret (.int 1))
abbrev aI1 : M Fl := cIfS (cAndT (asB (cOp dEq (cVar 6) (M.ret (.int 1)))) (asB (cEqP true 4 (froz (cLst (M.ret [])))))) (cSeq (cSet 7 laE) cNext) cNext
abbrev aAp : M Fl := cApp 4 (cTup (cCons (pkE (cVar 1)) (cCons (cVar 7) (M.ret []))))
abbrev asB_ : M Fl := cSeq (cSet 6 (pkE (M.ret (.int 10)))) (cSeq (cSet 7 (pkE (cVar 3))) (cSeq aI0 (cSeq aI1 (cSeq aAp cNext))))
abbrev aw (en cnt top : Int) (qs : List (Nat × Int)) (x5 x6 x7 : Sl) (S : List O) : CS := ⟨[.val (.ref 0), .val (.int en), .val (.int cnt), .val (.int top), .own (.lst (qs.map askD)), x5, x6, x7], S⟩
def QOk (en top : Int) (q : Nat × Int) : Prop := (q.1 : Int) < en ∧ -1 ≤ q.2 ∧ q.2 < top
theorem s_asksT (en cnt top : Int) (hen : 0 < en) (hen2 : en ≤ 10) (ht : 0 < top) (ht2 : top ≤ 10000) (d : D) (qs : List (Nat × Int)) (hq : ∀ q ∈ qs, QOk en top q) (hl : qs.length ≤ 900) (x5 x6 x7 : Sl) (S : List O) (hS : TapeOk S) :
    ∃ q y5 y6 y7 S', cSeq (cTg (.nm 5) d) asB_ (aw en cnt top qs x5 x6 x7 S) = .ok .next (aw en cnt top (qs ++ [q]) y5 y6 y7 S') ∧ TapeOk S' ∧ QOk en top q := by
  have tg : cTg (.nm 5) d (aw en cnt top qs x5 x6 x7 S) = .ok .next (aw en cnt top qs (.val d) x6 x7 S) := rfl
  obtain ⟨wy, S1, e1, hS1, w0, w1⟩ := s_pick 10 S (by omega) (by omega) hS
  have g1 : cSet 6 (pkE (M.ret (.int 10))) (aw en cnt top qs (.val d) x6 x7 S) = .ok .next (aw en cnt top qs (.val d) (.val (.int wy)) x7 S1) := by
    refine (set_of (d := .int wy) (c1 := aw en cnt top qs (.val d) x6 x7 S1) ?_).trans rfl
    refine (call2_of (fa := cVar 0) (fb := M.ret (.int 10)) (x := .ref 0) (y := .int 10) (c1 := aw en cnt top qs (.val d) x6 x7 S) (c2 := aw en cnt top qs (.val d) x6 x7 S) rfl rfl).trans ?_
    show liftF (fn_law_pick [.ref 0, .int 10] S) _ = _
    rw [e1]
    rfl
  obtain ⟨it, S2, e2, hS2, i0, i1⟩ := s_pick top S1 ht (by omega) hS1
  have g2 : cSet 7 (pkE (cVar 3)) (aw en cnt top qs (.val d) (.val (.int wy)) x7 S1) = .ok .next (aw en cnt top qs (.val d) (.val (.int wy)) (.val (.int it)) S2) := by
    refine (set_of (d := .int it) (c1 := aw en cnt top qs (.val d) (.val (.int wy)) x7 S2) ?_).trans rfl
    refine (call2_of (fa := cVar 0) (fb := cVar 3) (x := .ref 0) (y := .int top) (c1 := aw en cnt top qs (.val d) (.val (.int wy)) x7 S1) (c2 := aw en cnt top qs (.val d) (.val (.int wy)) x7 S1) rfl rfl).trans ?_
    show liftF (fn_law_pick [.ref 0, .int top] S1) _ = _
    rw [e2]
    rfl
  have g3 : ∃ j : Int, (-1 ≤ j ∧ j < top) ∧ aI0 (aw en cnt top qs (.val d) (.val (.int wy)) (.val (.int it)) S2) = .ok .next (aw en cnt top qs (.val d) (.val (.int wy)) (.val (.int j)) S2) := by
    have t := asB_of (op_of (fa := cVar 6) (fb := M.ret (.int 0)) (x := .int wy) (y := .int 0) (c := aw en cnt top qs (.val d) (.val (.int wy)) (.val (.int it)) S2) (c1 := aw en cnt top qs (.val d) (.val (.int wy)) (.val (.int it)) S2) (c2 := aw en cnt top qs (.val d) (.val (.int wy)) (.val (.int it)) S2) rfl rfl (dEq_int wy 0 _))
    by_cases q : wy = 0
    · rw [decide_eq_true q] at t
      exact ⟨-1, ⟨by omega, by omega⟩, (ifS_t t).trans rfl⟩
    · rw [decide_eq_false q] at t
      exact ⟨it, ⟨by omega, i1⟩, ifS_n t⟩
  obtain ⟨j, hj, g3⟩ := g3
  have g4 : ∃ j' : Int, (-1 ≤ j' ∧ j' < top) ∧ aI1 (aw en cnt top qs (.val d) (.val (.int wy)) (.val (.int j)) S2) = .ok .next (aw en cnt top qs (.val d) (.val (.int wy)) (.val (.int j')) S2) := by
    let c : CS := aw en cnt top qs (.val d) (.val (.int wy)) (.val (.int j)) S2
    have t := asB_of (op_of (fa := cVar 6) (fb := M.ret (.int 1)) (x := .int wy) (y := .int 1) (c := c) (c1 := c) (c2 := c) rfl rfl (dEq_int wy 1 _))
    by_cases q : wy = 1
    · rw [decide_eq_true q] at t
      have t2 := (andT_t (u := asB (cEqP true 4 (froz (cLst (M.ret []))))) t).trans (asB_of (neP_nil 4 qs c rfl))
      by_cases q2 : qs = []
      · rw [decide_eq_true q2] at t2
        exact ⟨j, hj, ifS_n t2⟩
      · rw [decide_eq_false q2] at t2
        obtain ⟨qi, ql, rfl⟩ : ∃ a b, qs = a ++ [b] := ⟨qs.dropLast, qs.getLast q2, (List.dropLast_concat_getLast q2).symm⟩
        have hb := hq ql (by simp [M.bind, M.ret, R.bind, cSeq, cRet, cVar, cOp, cAnd, cOr, cNot, cIf, cAndT, cOrT, cNotT, asB, cB, cNext, cIfS, cSet, CS.put, cChain, dLe, dLt, dGt, dGe, dI2, startC, outF, fnB, cIsi, CS.knOf, tyB, isKn, isTy, M.guard, cTru, dTru, liftF, cCall, cCons, cFor, forL, cEnum, dEnum, cTg, cLc, lcL, wipeC, cWalk, dWalk, cNever, cSetTp, putAll, bLen, cFld, CS.fld, cProp, noExc, CS.clsOf, cCallS, dItems, cLenP, cIxP, CS.see, cApp, CS.pl, CS.wr, Pl.xs, dNeg, cSetIx, cStore, froz, cLst, cCutL, dCutL, cNoPart, cPart, dPart, CS.seqL, bList, M.opt, dIs, cIsiT, D.isNon])
        refine ⟨ql.2, ⟨hb.2.1, hb.2.2⟩, (ifS_t t2).trans ?_⟩
        have la : cIxP 4 ((M.ret (.int 1)).bind dNeg) c = .ok (askD ql) c := by
          have se : c.see 4 = some (qi.map askD ++ [askD ql]) := by
            show some ((qi ++ [ql]).map askD) = _
            rw [List.map_append]
            rfl
          unfold cIxP
          rw [se]
          show (match D.int (-1), c.see 4 with
            | .int j, some xs => (match L2.atI xs j with
              | some d => R.ok d c
              | none => .stuck)
            | _, _ => .stuck) = _
          rw [se]
          show (match L2.atI (qi.map askD ++ [askD ql]) (-1) with
            | some d => R.ok d c
            | none => .stuck) = _
          rw [last_app]
        have ix : laE c = .ok (.int ql.2) c := op_of la (fb := M.ret (.int 1)) (y := .int 1) (c2 := c) rfl rfl
        exact (cSeq_next (set_of ix)).trans rfl
    · rw [decide_eq_false q] at t
      exact ⟨j, hj, ifS_n (andT_f t)⟩
  obtain ⟨j', hj', g4⟩ := g4
  obtain ⟨e, S3, e3, hS3, k0, k1⟩ := s_pick en S2 hen (by omega) hS2
  obtain ⟨e, rfl⟩ : ∃ n : Nat, e = (n : Int) := ⟨e.toNat, by omega⟩
  have g5 : aAp (aw en cnt top qs (.val d) (.val (.int wy)) (.val (.int j')) S2) = .ok .next (aw en cnt top (qs ++ [(e, j')]) (.val d) (.val (.int wy)) (.val (.int j')) S3) := by
    let c : CS := aw en cnt top qs (.val d) (.val (.int wy)) (.val (.int j')) S2
    let c' : CS := aw en cnt top qs (.val d) (.val (.int wy)) (.val (.int j')) S3
    have pk : pkE (cVar 1) c = .ok (.int (e : Nat)) c' := by
      refine (call2_of (fa := cVar 0) (fb := cVar 1) (x := .ref 0) (y := .int en) (c1 := c) (c2 := c) rfl rfl).trans ?_
      show liftF (fn_law_pick [.ref 0, .int en] S2) _ = _
      rw [e3]
      rfl
    have tp := tup_of (cons_of pk (cons_of (fa := cVar 7) (x := .int j') (c1 := c') rfl nilA)) (szOk_small (by simp [M.bind, M.ret, R.bind, cSeq, cRet, cVar, cOp, cAnd, cOr, cNot, cIf, cAndT, cOrT, cNotT, asB, cB, cNext, cIfS, cSet, CS.put, cChain, dLe, dLt, dGt, dGe, dI2, startC, outF, fnB, cIsi, CS.knOf, tyB, isKn, isTy, M.guard, cTru, dTru, liftF, cCall, cCons, cFor, forL, cEnum, dEnum, cTg, cLc, lcL, wipeC, cWalk, dWalk, cNever, cSetTp, putAll, bLen, cFld, CS.fld, cProp, noExc, CS.clsOf, cCallS, dItems, cLenP, cIxP, CS.see, cApp, CS.pl, CS.wr, Pl.xs, dNeg, cSetIx, cStore, froz, cLst, cCutL, dCutL, cNoPart, cPart, dPart, CS.seqL, bList, M.opt, dIs, cIsiT, D.isNon]))
    unfold aAp cApp
    rw [show c.pl 4 = some (.own (qs.map askD)) from rfl]
    dsimp only
    rw [tp]
    show (match c'.pl 4 with
      | none => R.stuck
      | some p => match decide (p.xs.length < sizeLine) with
        | true => R.ok Fl.next (c'.wr 4 p (p.xs ++ [askD (e, j')]))
        | false => .stuck) = _
    rw [show c'.pl 4 = some (.own (qs.map askD)) from rfl]
    dsimp only
    rw [show decide ((Pl.own (qs.map askD)).xs.length < sizeLine) = true from decide_eq_true (size_small (by show (qs.map askD).length ≤ 1000; rw [List.length_map]; omega))]
    show R.ok Fl.next (c'.wr 4 (.own (qs.map askD)) (qs.map askD ++ [askD (e, j')])) = _
    rw [show qs.map askD ++ [askD (e, j')] = (qs ++ [(e, j')]).map askD by rw [List.map_append]; rfl]
    rfl
  refine ⟨(e, j'), .val d, .val (.int wy), .val (.int j'), S3, ?_, hS3, ⟨k1, hj'.1, hj'.2⟩⟩
  rw [cSeq_next tg]
  unfold asB_
  rw [cSeq_next g1, cSeq_next g2, cSeq_next g3, cSeq_next g4, cSeq_next g5]
  rfl
theorem s_asksL (en cnt top : Int) (hen : 0 < en) (hen2 : en ≤ 10) (ht : 0 < top) (ht2 : top ≤ 10000) (ds : List D) : ∀ (qs : List (Nat × Int)) (x5 x6 x7 : Sl) (S : List O), (∀ q ∈ qs, QOk en top q) → qs.length + ds.length ≤ 900 → TapeOk S →
    ∃ qs' y5 y6 y7 S', forL (fun d => cSeq (cTg (.nm 5) d) asB_) ds (aw en cnt top qs x5 x6 x7 S) = .ok .next (aw en cnt top qs' y5 y6 y7 S') ∧ TapeOk S' ∧ (∀ q ∈ qs', QOk en top q) ∧ qs'.length = qs.length + ds.length := by
  induction ds with
  | nil => intro qs x5 x6 x7 S h _ hS; exact ⟨qs, x5, x6, x7, S, rfl, hS, h, rfl⟩
  | cons d ds ih =>
    intro qs x5 x6 x7 S h hl hS
    rw [List.length_cons] at hl
    obtain ⟨q, y5, y6, y7, S1, e1, hS1, hq⟩ := s_asksT en cnt top hen hen2 ht ht2 d qs h (by omega) x5 x6 x7 S hS
    obtain ⟨qs', z5, z6, z7, S2, e2, hS2, h2, l2⟩ := ih (qs ++ [q]) y5 y6 y7 S1 (fun a ha => (List.mem_append.mp ha).elim (h a) fun z => by rw [List.mem_singleton.mp z]; exact hq) (by rw [List.length_append]; simp [M.bind, M.ret, R.bind, cSeq, cRet, cVar, cOp, cAnd, cOr, cNot, cIf, cAndT, cOrT, cNotT, asB, cB, cNext, cIfS, cSet, CS.put, cChain, dLe, dLt, dGt, dGe, dI2, startC, outF, fnB, cIsi, CS.knOf, tyB, isKn, isTy, M.guard, cTru, dTru, liftF, cCall, cCons, cFor, forL, cEnum, dEnum, cTg, cLc, lcL, wipeC, cWalk, dWalk, cNever, cSetTp, putAll, bLen, cFld, CS.fld, cProp, noExc, CS.clsOf, cCallS, dItems, cLenP, cIxP, CS.see, cApp, CS.pl, CS.wr, Pl.xs, dNeg, cSetIx, cStore, froz, cLst, cCutL, dCutL, cNoPart, cPart, dPart, CS.seqL, bList, M.opt, dIs, cIsiT, D.isNon]; omega) hS1
    exact ⟨qs', z5, z6, z7, S2, (forL_next (body := fun d => cSeq (cTg (.nm 5) d) asB_) e1).trans e2, hS2, h2, by rw [l2, List.length_append, List.length_cons]; simp [M.bind, M.ret, R.bind, cSeq, cRet, cVar, cOp, cAnd, cOr, cNot, cIf, cAndT, cOrT, cNotT, asB, cB, cNext, cIfS, cSet, CS.put, cChain, dLe, dLt, dGt, dGe, dI2, startC, outF, fnB, cIsi, CS.knOf, tyB, isKn, isTy, M.guard, cTru, dTru, liftF, cCall, cCons, cFor, forL, cEnum, dEnum, cTg, cLc, lcL, wipeC, cWalk, dWalk, cNever, cSetTp, putAll, bLen, cFld, CS.fld, cProp, noExc, CS.clsOf, cCallS, dItems, cLenP, cIxP, CS.see, cApp, CS.pl, CS.wr, Pl.xs, dNeg, cSetIx, cStore, froz, cLst, cCutL, dCutL, cNoPart, cPart, dPart, CS.seqL, bList, M.opt, dIs, cIsiT, D.isNon]; omega⟩
theorem s_asks (en cnt top : Int) (hen : 0 < en) (hen2 : en ≤ 10) (hc : 0 ≤ cnt) (hc2 : cnt ≤ 800) (ht : 0 < top) (ht2 : top ≤ 10000) (S : List O) (hS : TapeOk S) :
    ∃ (qs : List (Nat × Int)) (S' : List O), fn_law_asks [.ref 0, .int en, .int cnt, .int top] S = .ok (.lst (qs.map askD)) S' ∧ TapeOk S' ∧ (∀ q ∈ qs, QOk en top q) ∧ qs.length = cnt.toNat := by
  let c0 : CS := ⟨[.val (.ref 0), .val (.int en), .val (.int cnt), .val (.int top), .no, .no, .no, .no], S⟩
  have g1 : cSetL 4 (cLst (M.ret [])) c0 = .ok .next (aw en cnt top [] .no .no .no S) := (setL_of (lst_of nilA (szOk_small (by simp [M.bind, M.ret, R.bind, cSeq, cRet, cVar, cOp, cAnd, cOr, cNot, cIf, cAndT, cOrT, cNotT, asB, cB, cNext, cIfS, cSet, CS.put, cChain, dLe, dLt, dGt, dGe, dI2, startC, outF, fnB, cIsi, CS.knOf, tyB, isKn, isTy, M.guard, cTru, dTru, liftF, cCall, cCons, cFor, forL, cEnum, dEnum, cTg, cLc, lcL, wipeC, cWalk, dWalk, cNever, cSetTp, putAll, bLen, cFld, CS.fld, cProp, noExc, CS.clsOf, cCallS, dItems, cLenP, cIxP, CS.see, cApp, CS.pl, CS.wr, Pl.xs, dNeg, cSetIx, cStore, froz, cLst, cCutL, dCutL, cNoPart, cPart, dPart, CS.seqL, bList, M.opt, dIs, cIsiT, D.isNon])))).trans rfl
  have f : fitsR cnt = true := by
    obtain ⟨n, rfl⟩ : ∃ n : Nat, cnt = (n : Int) := ⟨cnt.toNat, by omega⟩
    unfold fitsR
    simp [M.bind, M.ret, R.bind, cSeq, cRet, cVar, cOp, cAnd, cOr, cNot, cIf, cAndT, cOrT, cNotT, asB, cB, cNext, cIfS, cSet, CS.put, cChain, dLe, dLt, dGt, dGe, dI2, startC, outF, fnB, cIsi, CS.knOf, tyB, isKn, isTy, M.guard, cTru, dTru, liftF, cCall, cCons, cFor, forL, cEnum, dEnum, cTg, cLc, lcL, wipeC, cWalk, dWalk, cNever, cSetTp, putAll, bLen, cFld, CS.fld, cProp, noExc, CS.clsOf, cCallS, dItems, cLenP, cIxP, CS.see, cApp, CS.pl, CS.wr, Pl.xs, dNeg, cSetIx, cStore, froz, cLst, cCutL, dCutL, cNoPart, cPart, dPart, CS.seqL, bList, M.opt, dIs, cIsiT, D.isNon]
    omega
  have rg : cRange1 (cVar 2) (aw en cnt top [] .no .no .no S) = .ok (rangeD 0 cnt.toNat) (aw en cnt top [] .no .no .no S) := range1_of (n := cnt) rfl f
  have rl : (rangeD 0 cnt.toNat).length = cnt.toNat := rangeD_len _ _
  obtain ⟨qs, y5, y6, y7, S', e, hS', hq, l⟩ := s_asksL en cnt top hen hen2 ht ht2 (rangeD 0 cnt.toNat) [] .no .no .no S (fun q hq => nomatch hq) (by rw [rl]; simp [M.bind, M.ret, R.bind, cSeq, cRet, cVar, cOp, cAnd, cOr, cNot, cIf, cAndT, cOrT, cNotT, asB, cB, cNext, cIfS, cSet, CS.put, cChain, dLe, dLt, dGt, dGe, dI2, startC, outF, fnB, cIsi, CS.knOf, tyB, isKn, isTy, M.guard, cTru, dTru, liftF, cCall, cCons, cFor, forL, cEnum, dEnum, cTg, cLc, lcL, wipeC, cWalk, dWalk, cNever, cSetTp, putAll, bLen, cFld, CS.fld, cProp, noExc, CS.clsOf, cCallS, dItems, cLenP, cIxP, CS.see, cApp, CS.pl, CS.wr, Pl.xs, dNeg, cSetIx, cStore, froz, cLst, cCutL, dCutL, cNoPart, cPart, dPart, CS.seqL, bList, M.opt, dIs, cIsiT, D.isNon]; omega) hS
  refine ⟨qs, S', ?_, hS', hq, by rw [l, rl]; simp [M.bind, M.ret, R.bind, cSeq, cRet, cVar, cOp, cAnd, cOr, cNot, cIf, cAndT, cOrT, cNotT, asB, cB, cNext, cIfS, cSet, CS.put, cChain, dLe, dLt, dGt, dGe, dI2, startC, outF, fnB, cIsi, CS.knOf, tyB, isKn, isTy, M.guard, cTru, dTru, liftF, cCall, cCons, cFor, forL, cEnum, dEnum, cTg, cLc, lcL, wipeC, cWalk, dWalk, cNever, cSetTp, putAll, bLen, cFld, CS.fld, cProp, noExc, CS.clsOf, cCallS, dItems, cLenP, cIxP, CS.see, cApp, CS.pl, CS.wr, Pl.xs, dNeg, cSetIx, cStore, froz, cLst, cCutL, dCutL, cNoPart, cPart, dPart, CS.seqL, bList, M.opt, dIs, cIsiT, D.isNon]⟩
  show outF (cl_law_asks c0) = _
  unfold cl_law_asks
  rw [cSeq_next g1, cSeq_next (for_of rg e)]
  rfl
end
end K35
namespace K35
open CL PySem
theorem s_of (xs : List D) (S : List O) (h0 : 0 < xs.length) (h1 : xs.length ≤ 1000) (hS : TapeOk S) : ∃ d S', fn_law_of [.ref 0, .lst xs] S = .ok d S' ∧ TapeOk S' ∧ d ∈ xs := by
  obtain ⟨v, S', e, hS', v0, v1⟩ := s_pick xs.length S (by omega) (by omega) hS
  have hv : v.toNat < xs.length := by omega
  have ve : v = (v.toNat : Int) := by omega
  refine ⟨xs[v.toNat], S', ?_, hS', List.getElem_mem hv⟩
  have p : cCall fn_law_pick (cCons (cVar 0) (cCons ((cCons (cVar 1) (M.ret [])).bind bLen) (M.ret []))) ⟨[.val (.ref 0), .val (.lst xs)], S⟩ = .ok (.int v) ⟨[.val (.ref 0), .val (.lst xs)], S'⟩ := by
    show liftF (fn_law_pick [.ref 0, .int xs.length] S) _ = _
    rw [e]
    rfl
  have i : cOp dIx (cVar 1) (cCall fn_law_pick (cCons (cVar 0) (cCons ((cCons (cVar 1) (M.ret [])).bind bLen) (M.ret [])))) ⟨[.val (.ref 0), .val (.lst xs)], S⟩ = .ok xs[v.toNat] ⟨[.val (.ref 0), .val (.lst xs)], S'⟩ := op_of (x := .lst xs) (c1 := ⟨[.val (.ref 0), .val (.lst xs)], S⟩) rfl p (by
    have z := atI_nat xs v.toNat hv
    rw [← ve] at z
    show M.opt (L2.atI xs v) _ = _
    rw [z]
    rfl)
  have s0 : fn_law_of [.ref 0, .lst xs] S = outF (cl_law_of ⟨[.val (.ref 0), .val (.lst xs)], S⟩) := rfl
  rw [s0]
  unfold cl_law_of
  rw [cSeq_ret (ret_of i)]
  rfl
end K35
namespace K35
open CL PySem
noncomputable section
theorem pd_res (o : Option (Nat × Nat)) : pdOk 1 (resD o) := by
  cases o with
  | none => trivial
  | some p =>
    obtain ⟨k, a⟩ := p
    intro x hx
    simp only [List.mem_cons, List.not_mem_nil, or_false] at hx
    rcases hx with z | z <;> subst z <;> trivial
theorem pd_con (cs : List (List (List Int))) : pdOk 3 (conD cs) := by
  intro s hs
  obtain ⟨s, _, rfl⟩ := List.mem_map.mp hs
  intro h hh
  obtain ⟨h, _, rfl⟩ := List.mem_map.mp hh
  intro x hx
  obtain ⟨x, _, rfl⟩ := List.mem_map.mp hx
  trivial
abbrev of3 (a b d : Int) : M D := cCall fn_law_of (cCons (cVar 1) (cCons (froz (cLst (cCons (M.ret (.int a)) (cCons (M.ret (.int b)) (cCons (M.ret (.int d)) (M.ret [])))))) (M.ret [])))
theorem of3_of (a b d : Int) (sl : List Sl) (S : List O) (h1 : sl[1]? = some (.val (.ref 0))) (hS : TapeOk S) : ∃ (t : Int) (S' : List O), of3 a b d ⟨sl, S⟩ = .ok (.int t) ⟨sl, S'⟩ ∧ TapeOk S' ∧ (t = a ∨ t = b ∨ t = d) := by
  obtain ⟨v, S1, e1, hS1, hd⟩ := s_of [.int a, .int b, .int d] S (by simp [M.bind, M.ret, R.bind, cSeq, cRet, cVar, cOp, cAnd, cOr, cNot, cIf, cAndT, cOrT, cNotT, asB, cB, cNext, cIfS, cSet, CS.put, cChain, dLe, dLt, dGt, dGe, dI2, startC, outF, fnB, cIsi, CS.knOf, tyB, isKn, isTy, M.guard, cTru, dTru, liftF, cCall, cCons, cFor, forL, cEnum, dEnum, cTg, cLc, lcL, wipeC, cWalk, dWalk, cNever, cSetTp, putAll, bLen, cFld, CS.fld, cProp, noExc, CS.clsOf, cCallS, dItems, cLenP, cIxP, CS.see, cApp, CS.pl, CS.wr, Pl.xs, dNeg, cSetIx, cStore, froz, cLst, cCutL, dCutL, cNoPart, cPart, dPart, CS.seqL, bList, M.opt, dIs, cIsiT, D.isNon]) (by simp [M.bind, M.ret, R.bind, cSeq, cRet, cVar, cOp, cAnd, cOr, cNot, cIf, cAndT, cOrT, cNotT, asB, cB, cNext, cIfS, cSet, CS.put, cChain, dLe, dLt, dGt, dGe, dI2, startC, outF, fnB, cIsi, CS.knOf, tyB, isKn, isTy, M.guard, cTru, dTru, liftF, cCall, cCons, cFor, forL, cEnum, dEnum, cTg, cLc, lcL, wipeC, cWalk, dWalk, cNever, cSetTp, putAll, bLen, cFld, CS.fld, cProp, noExc, CS.clsOf, cCallS, dItems, cLenP, cIxP, CS.see, cApp, CS.pl, CS.wr, Pl.xs, dNeg, cSetIx, cStore, froz, cLst, cCutL, dCutL, cNoPart, cPart, dPart, CS.seqL, bList, M.opt, dIs, cIsiT, D.isNon]) hS
  have v1 : cVar 1 ⟨sl, S⟩ = .ok (.ref 0) ⟨sl, S⟩ := by unfold cVar; dsimp only; rw [h1]
  have l := froz_of (lst_of (cons_of (fa := M.ret (.int a)) (x := .int a) (c := ⟨sl, S⟩) (c1 := ⟨sl, S⟩) rfl (cons_of (fa := M.ret (.int b)) (x := .int b) (c1 := ⟨sl, S⟩) rfl (cons_of (fa := M.ret (.int d)) (x := .int d) (c1 := ⟨sl, S⟩) rfl nilA))) (szOk_small (by simp [M.bind, M.ret, R.bind, cSeq, cRet, cVar, cOp, cAnd, cOr, cNot, cIf, cAndT, cOrT, cNotT, asB, cB, cNext, cIfS, cSet, CS.put, cChain, dLe, dLt, dGt, dGe, dI2, startC, outF, fnB, cIsi, CS.knOf, tyB, isKn, isTy, M.guard, cTru, dTru, liftF, cCall, cCons, cFor, forL, cEnum, dEnum, cTg, cLc, lcL, wipeC, cWalk, dWalk, cNever, cSetTp, putAll, bLen, cFld, CS.fld, cProp, noExc, CS.clsOf, cCallS, dItems, cLenP, cIxP, CS.see, cApp, CS.pl, CS.wr, Pl.xs, dNeg, cSetIx, cStore, froz, cLst, cCutL, dCutL, cNoPart, cPart, dPart, CS.seqL, bList, M.opt, dIs, cIsiT, D.isNon])))
  have r : of3 a b d ⟨sl, S⟩ = .ok v ⟨sl, S1⟩ := by
    refine (call2_of v1 l).trans ?_
    show liftF (fn_law_of [.ref 0, .lst [.int a, .int b, .int d]] S) _ = _
    rw [e1]
    rfl
  simp only [List.mem_cons, List.not_mem_nil, or_false] at hd
  rcases hd with h | h | h <;> subst h
  · exact ⟨a, S1, r, hS1, .inl rfl⟩
  · exact ⟨b, S1, r, hS1, .inr (.inl rfl)⟩
  · exact ⟨d, S1, r, hS1, .inr (.inr rfl)⟩
theorem pick_of {f : M D} {n : Int} {sl : List Sl} {S : List O} (h1 : sl[1]? = some (.val (.ref 0))) (e : f ⟨sl, S⟩ = .ok (.int n) ⟨sl, S⟩) (h0 : 0 < n) (h2 : n < 1073741824) (hS : TapeOk S) : ∃ (v : Int) (S' : List O), cCall fn_law_pick (cCons (cVar 1) (cCons f (M.ret []))) ⟨sl, S⟩ = .ok (.int v) ⟨sl, S'⟩ ∧ TapeOk S' ∧ 0 ≤ v ∧ v < n := by
  obtain ⟨v, S1, e1, hS1, v0, v1⟩ := s_pick n S h0 h2 hS
  have q1 : cVar 1 ⟨sl, S⟩ = .ok (.ref 0) ⟨sl, S⟩ := by unfold cVar; dsimp only; rw [h1]
  refine ⟨v, S1, ?_, hS1, v0, v1⟩
  refine (call2_of q1 e).trans ?_
  show liftF (fn_law_pick [.ref 0, .int n] S) _ = _
  rw [e1]
  rfl
abbrev RF : M Fl := cSeq (cRet (M.ret (.bl false))) cNext
theorem pd_ress (os : List (Option (Nat × Nat))) : pdOk 2 (.lst (os.map resD)) := fun d hd => by
  obtain ⟨o, _, rfl⟩ := List.mem_map.mp hd
  exact pd_res o
theorem same_of {fa fb : M D} {c c1 c2 : CS} {d : D} (ea : fa c = .ok d c1) (eb : fb c1 = .ok d c2) (h : plD 3 d) : cNotT (cTru (cCall (fn_law_same 4) (cCons fa (cCons fb (M.ret []))))) c = .ok false c2 := by
  refine notT_of (b := true) (tru_bl ?_)
  refine (call2_of ea eb).trans ?_
  rw [s_same 3 d c2.S h]
  rfl
end
end K35
namespace K35
open CL PySem
noncomputable section
/-! ### two segments joined -/
def jn {α : Type} : Nat → List (List α) → List (List α)
  | 0, s :: t :: r => (s ++ t) :: r
  | n + 1, s :: r => s :: jn n r
  | _, r => r
def jr (n la : Nat) (p : Nat × Nat) : Nat × Nat := if p.1 ≤ n then p else if p.1 = n + 1 then (n, p.2 + la) else (p.1 - 1, p.2)
def sh (n e : Nat) : Nat := if e ≤ n then e else e + 1
theorem jn_nil {α : Type} (n : Nat) : jn n ([] : List (List α)) = [] := by cases n <;> rfl
theorem jn_drop_le {α : Type} (e : Nat) : ∀ (n : Nat) (l : List (List α)), e ≤ n → (jn n l).drop e = jn (n - e) (l.drop e) := by
  induction e with
  | zero => intro n l _; rfl
  | succ e ih =>
    intro n l h
    cases n with
    | zero => omega
    | succ n =>
      cases l with
      | nil => simp [M.bind, M.ret, R.bind, cSeq, cRet, cVar, cOp, cAnd, cOr, cNot, cIf, cAndT, cOrT, cNotT, asB, cB, cNext, cIfS, cSet, CS.put, cChain, dLe, dLt, dGt, dGe, dI2, startC, outF, fnB, cIsi, CS.knOf, tyB, isKn, isTy, M.guard, cTru, dTru, liftF, cCall, cCons, cFor, forL, cEnum, dEnum, cTg, cLc, lcL, wipeC, cWalk, dWalk, cNever, cSetTp, putAll, bLen, cFld, CS.fld, cProp, noExc, CS.clsOf, cCallS, dItems, cLenP, cIxP, CS.see, cApp, CS.pl, CS.wr, Pl.xs, dNeg, cSetIx, cStore, froz, cLst, cCutL, dCutL, cNoPart, cPart, dPart, CS.seqL, bList, M.opt, dIs, cIsiT, D.isNon, jn_nil]
      | cons s r =>
        show (jn n r).drop e = jn (n + 1 - (e + 1)) (r.drop e)
        rw [ih n r (by omega), show n + 1 - (e + 1) = n - e by omega]
theorem jn_take_le {α : Type} (e : Nat) : ∀ (n : Nat) (l : List (List α)), e ≤ n → (jn n l).take e = l.take e := by
  induction e with
  | zero => intro n l _; rfl
  | succ e ih =>
    intro n l h
    cases n with
    | zero => omega
    | succ n =>
      cases l with
      | nil => rfl
      | cons s r =>
        show s :: (jn n r).take e = s :: r.take e
        rw [ih n r (by omega)]
theorem jn_drop_gt {α : Type} (n : Nat) : ∀ (e : Nat) (l : List (List α)), n < e → (jn n l).drop e = l.drop (e + 1) := by
  induction n with
  | zero =>
    intro e l h
    obtain ⟨e, rfl⟩ : ∃ k, e = k + 1 := ⟨e - 1, by omega⟩
    match l with
    | [] => simp [M.bind, M.ret, R.bind, cSeq, cRet, cVar, cOp, cAnd, cOr, cNot, cIf, cAndT, cOrT, cNotT, asB, cB, cNext, cIfS, cSet, CS.put, cChain, dLe, dLt, dGt, dGe, dI2, startC, outF, fnB, cIsi, CS.knOf, tyB, isKn, isTy, M.guard, cTru, dTru, liftF, cCall, cCons, cFor, forL, cEnum, dEnum, cTg, cLc, lcL, wipeC, cWalk, dWalk, cNever, cSetTp, putAll, bLen, cFld, CS.fld, cProp, noExc, CS.clsOf, cCallS, dItems, cLenP, cIxP, CS.see, cApp, CS.pl, CS.wr, Pl.xs, dNeg, cSetIx, cStore, froz, cLst, cCutL, dCutL, cNoPart, cPart, dPart, CS.seqL, bList, M.opt, dIs, cIsiT, D.isNon, jn]
    | [s] => simp [M.bind, M.ret, R.bind, cSeq, cRet, cVar, cOp, cAnd, cOr, cNot, cIf, cAndT, cOrT, cNotT, asB, cB, cNext, cIfS, cSet, CS.put, cChain, dLe, dLt, dGt, dGe, dI2, startC, outF, fnB, cIsi, CS.knOf, tyB, isKn, isTy, M.guard, cTru, dTru, liftF, cCall, cCons, cFor, forL, cEnum, dEnum, cTg, cLc, lcL, wipeC, cWalk, dWalk, cNever, cSetTp, putAll, bLen, cFld, CS.fld, cProp, noExc, CS.clsOf, cCallS, dItems, cLenP, cIxP, CS.see, cApp, CS.pl, CS.wr, Pl.xs, dNeg, cSetIx, cStore, froz, cLst, cCutL, dCutL, cNoPart, cPart, dPart, CS.seqL, bList, M.opt, dIs, cIsiT, D.isNon, jn]
    | s :: t :: r => rfl
  | succ n ih =>
    intro e l h
    obtain ⟨e, rfl⟩ : ∃ k, e = k + 1 := ⟨e - 1, by omega⟩
    cases l with
    | nil => rfl
    | cons s r => exact ih e r (by omega)
theorem jn_take_gt {α : Type} (n : Nat) : ∀ (e : Nat) (l : List (List α)), n < e → (jn n l).take e = jn n (l.take (e + 1)) := by
  induction n with
  | zero =>
    intro e l h
    obtain ⟨e, rfl⟩ : ∃ k, e = k + 1 := ⟨e - 1, by omega⟩
    match l with
    | [] => simp [M.bind, M.ret, R.bind, cSeq, cRet, cVar, cOp, cAnd, cOr, cNot, cIf, cAndT, cOrT, cNotT, asB, cB, cNext, cIfS, cSet, CS.put, cChain, dLe, dLt, dGt, dGe, dI2, startC, outF, fnB, cIsi, CS.knOf, tyB, isKn, isTy, M.guard, cTru, dTru, liftF, cCall, cCons, cFor, forL, cEnum, dEnum, cTg, cLc, lcL, wipeC, cWalk, dWalk, cNever, cSetTp, putAll, bLen, cFld, CS.fld, cProp, noExc, CS.clsOf, cCallS, dItems, cLenP, cIxP, CS.see, cApp, CS.pl, CS.wr, Pl.xs, dNeg, cSetIx, cStore, froz, cLst, cCutL, dCutL, cNoPart, cPart, dPart, CS.seqL, bList, M.opt, dIs, cIsiT, D.isNon, jn]
    | [s] => simp [M.bind, M.ret, R.bind, cSeq, cRet, cVar, cOp, cAnd, cOr, cNot, cIf, cAndT, cOrT, cNotT, asB, cB, cNext, cIfS, cSet, CS.put, cChain, dLe, dLt, dGt, dGe, dI2, startC, outF, fnB, cIsi, CS.knOf, tyB, isKn, isTy, M.guard, cTru, dTru, liftF, cCall, cCons, cFor, forL, cEnum, dEnum, cTg, cLc, lcL, wipeC, cWalk, dWalk, cNever, cSetTp, putAll, bLen, cFld, CS.fld, cProp, noExc, CS.clsOf, cCallS, dItems, cLenP, cIxP, CS.see, cApp, CS.pl, CS.wr, Pl.xs, dNeg, cSetIx, cStore, froz, cLst, cCutL, dCutL, cNoPart, cPart, dPart, CS.seqL, bList, M.opt, dIs, cIsiT, D.isNon, jn]
    | s :: t :: r => rfl
  | succ n ih =>
    intro e l h
    obtain ⟨e, rfl⟩ : ∃ k, e = k + 1 := ⟨e - 1, by omega⟩
    cases l with
    | nil => rfl
    | cons s r =>
      show s :: (jn n r).take e = s :: jn n (r.take (e + 1))
      rw [ih e r (by omega)]
theorem jn_app_le {α : Type} (P : List (List α)) : ∀ (n : Nat) (Y : List (List α)), P.length ≤ n → jn n (P ++ Y) = P ++ jn (n - P.length) Y := by
  induction P with
  | nil => intro n Y _; rfl
  | cons s P ih =>
    intro n Y h
    cases n with
    | zero => simp [M.bind, M.ret, R.bind, cSeq, cRet, cVar, cOp, cAnd, cOr, cNot, cIf, cAndT, cOrT, cNotT, asB, cB, cNext, cIfS, cSet, CS.put, cChain, dLe, dLt, dGt, dGe, dI2, startC, outF, fnB, cIsi, CS.knOf, tyB, isKn, isTy, M.guard, cTru, dTru, liftF, cCall, cCons, cFor, forL, cEnum, dEnum, cTg, cLc, lcL, wipeC, cWalk, dWalk, cNever, cSetTp, putAll, bLen, cFld, CS.fld, cProp, noExc, CS.clsOf, cCallS, dItems, cLenP, cIxP, CS.see, cApp, CS.pl, CS.wr, Pl.xs, dNeg, cSetIx, cStore, froz, cLst, cCutL, dCutL, cNoPart, cPart, dPart, CS.seqL, bList, M.opt, dIs, cIsiT, D.isNon] at h
    | succ n =>
      show s :: jn n (P ++ Y) = s :: (P ++ jn (n + 1 - (P.length + 1)) Y)
      rw [ih n Y (by simpa using h), show n + 1 - (P.length + 1) = n - P.length by omega]
theorem jn_app_gt {α : Type} (n : Nat) : ∀ (P Y : List (List α)), n + 1 < P.length → jn n (P ++ Y) = jn n P ++ Y := by
  induction n with
  | zero =>
    intro P Y h
    match P, h with
    | s :: t :: r, _ => rfl
  | succ n ih =>
    intro P Y h
    cases P with
    | nil => simp [M.bind, M.ret, R.bind, cSeq, cRet, cVar, cOp, cAnd, cOr, cNot, cIf, cAndT, cOrT, cNotT, asB, cB, cNext, cIfS, cSet, CS.put, cChain, dLe, dLt, dGt, dGe, dI2, startC, outF, fnB, cIsi, CS.knOf, tyB, isKn, isTy, M.guard, cTru, dTru, liftF, cCall, cCons, cFor, forL, cEnum, dEnum, cTg, cLc, lcL, wipeC, cWalk, dWalk, cNever, cSetTp, putAll, bLen, cFld, CS.fld, cProp, noExc, CS.clsOf, cCallS, dItems, cLenP, cIxP, CS.see, cApp, CS.pl, CS.wr, Pl.xs, dNeg, cSetIx, cStore, froz, cLst, cCutL, dCutL, cNoPart, cPart, dPart, CS.seqL, bList, M.opt, dIs, cIsiT, D.isNon] at h
    | cons s P =>
      show s :: jn n (P ++ Y) = s :: (jn n P ++ Y)
      rw [ih P Y (by simpa using h)]
theorem jn_cut {α : Type} (n : Nat) : ∀ (l : List (List α)), n + 1 < l.length → jn n l = l.take n ++ [l.getD n [] ++ l.getD (n + 1) []] ++ l.drop (n + 2) := by
  induction n with
  | zero =>
    intro l h
    match l, h with
    | s :: t :: r, _ => rfl
  | succ n ih =>
    intro l h
    cases l with
    | nil => simp [M.bind, M.ret, R.bind, cSeq, cRet, cVar, cOp, cAnd, cOr, cNot, cIf, cAndT, cOrT, cNotT, asB, cB, cNext, cIfS, cSet, CS.put, cChain, dLe, dLt, dGt, dGe, dI2, startC, outF, fnB, cIsi, CS.knOf, tyB, isKn, isTy, M.guard, cTru, dTru, liftF, cCall, cCons, cFor, forL, cEnum, dEnum, cTg, cLc, lcL, wipeC, cWalk, dWalk, cNever, cSetTp, putAll, bLen, cFld, CS.fld, cProp, noExc, CS.clsOf, cCallS, dItems, cLenP, cIxP, CS.see, cApp, CS.pl, CS.wr, Pl.xs, dNeg, cSetIx, cStore, froz, cLst, cCutL, dCutL, cNoPart, cPart, dPart, CS.seqL, bList, M.opt, dIs, cIsiT, D.isNon] at h
    | cons s r =>
      show s :: jn n r = _
      rw [ih r (by simpa using h)]
      rfl
theorem levA_app (x : Int) (a b : List Int) (cb : List (List Int)) : ∀ ca : List (List Int), ca.length = a.length → levA (a ++ b) (ca ++ cb) x = (match levA a ca x with
    | (c', some i) => (c' ++ cb, some i)
    | (c', none) => (c' ++ (levA b cb x).1, (levA b cb x).2.map (· + a.length))) := by
  induction a with
  | nil =>
    intro ca h
    cases ca with
    | cons _ _ => cases h
    | nil =>
      show levA b cb x = ([] ++ (levA b cb x).1, (levA b cb x).2.map (· + 0))
      cases levA b cb x with
      | mk r o => cases o <;> rfl
  | cons c a ih =>
    intro ca h
    cases ca with
    | nil => cases h
    | cons hd ca =>
      have i := ih ca (by simpa using h)
      by_cases q : x ≠ -1 ∧ x ∈ hd
      · have e1 : levA (c :: a) (hd :: ca) x = (hd :: ca, some 0) := by unfold levA; rw [if_pos q]
        have e2 : levA (c :: a ++ b) (hd :: ca ++ cb) x = (hd :: (ca ++ cb), some 0) := by
          show levA (c :: (a ++ b)) (hd :: (ca ++ cb)) x = _
          unfold levA; rw [if_pos q]
        rw [e1, e2]
        rfl
      · have e1 : levA (c :: a) (hd :: ca) x = (insP c hd x :: (levA a ca x).1, (levA a ca x).2.map (· + 1)) := by conv => lhs; unfold levA; rw [if_neg q]
        have e2 : levA (c :: a ++ b) (hd :: ca ++ cb) x = (insP c hd x :: (levA (a ++ b) (ca ++ cb) x).1, (levA (a ++ b) (ca ++ cb) x).2.map (· + 1)) := by
          show levA (c :: (a ++ b)) (hd :: (ca ++ cb)) x = _
          conv => lhs; unfold levA; rw [if_neg q]
        rw [e1, e2, i]
        cases levA a ca x with
        | mk c' o =>
          cases o with
          | some k => rfl
          | none =>
            show (insP c hd x :: (c' ++ (levA b cb x).1), ((levA b cb x).2.map (· + a.length)).map (· + 1)) = ((insP c hd x :: c') ++ (levA b cb x).1, (levA b cb x).2.map (· + (a.length + 1)))
            cases (levA b cb x).2 <;> rfl
theorem segA_jn (x : Int) (n : Nat) : ∀ (rs : List (List Int)) (cs : List (List (List Int))), ConOk rs cs → n + 1 < rs.length → segA (jn n rs) (jn n cs) x = (jn n (segA rs cs x).1, (segA rs cs x).2.map (jr n (rs.getD n []).length)) := by
  induction n with
  | zero =>
    intro rs cs h hl
    match rs, cs, h, hl with
    | a :: b :: Q, ca :: cb :: QC, h, _ =>
      have la := levA_app x a b cb ca h.1.1
      show segA ((a ++ b) :: Q) ((ca ++ cb) :: QC) x = (jn 0 (segA (a :: b :: Q) (ca :: cb :: QC) x).1, (segA (a :: b :: Q) (ca :: cb :: QC) x).2.map (jr 0 a.length))
      cases e1 : levA a ca x with
      | mk c' o =>
        rw [e1] at la
        cases o with
        | some i =>
          have s1 : segA (a :: b :: Q) (ca :: cb :: QC) x = (c' :: cb :: QC, some (0, i)) := by conv => lhs; unfold segA; rw [e1]
          have s2 : segA ((a ++ b) :: Q) ((ca ++ cb) :: QC) x = ((c' ++ cb) :: QC, some (0, i)) := by conv => lhs; unfold segA; rw [la]
          rw [s1, s2]
          rfl
        | none =>
          cases e2 : levA b cb x with
          | mk d' o2 =>
            rw [e2] at la
            have s1 : segA (a :: b :: Q) (ca :: cb :: QC) x = (c' :: (segA (b :: Q) (cb :: QC) x).1, (segA (b :: Q) (cb :: QC) x).2.map fun p => (p.1 + 1, p.2)) := by conv => lhs; unfold segA; rw [e1]
            cases o2 with
            | some i =>
              have la : levA (a ++ b) (ca ++ cb) x = (c' ++ d', some (i + a.length)) := la
              have s3 : segA (b :: Q) (cb :: QC) x = (d' :: QC, some (0, i)) := by conv => lhs; unfold segA; rw [e2]
              have s2 : segA ((a ++ b) :: Q) ((ca ++ cb) :: QC) x = ((c' ++ d') :: QC, some (0, i + a.length)) := by conv => lhs; unfold segA; rw [la]
              rw [s1, s3, s2]
              rfl
            | none =>
              have la : levA (a ++ b) (ca ++ cb) x = (c' ++ d', none) := la
              have s3 : segA (b :: Q) (cb :: QC) x = (d' :: (segA Q QC x).1, (segA Q QC x).2.map fun p => (p.1 + 1, p.2)) := by conv => lhs; unfold segA; rw [e2]
              have s2 : segA ((a ++ b) :: Q) ((ca ++ cb) :: QC) x = ((c' ++ d') :: (segA Q QC x).1, (segA Q QC x).2.map fun p => (p.1 + 1, p.2)) := by conv => lhs; unfold segA; rw [la]
              rw [s1, s3, s2]
              cases (segA Q QC x).2 with
              | none => rfl
              | some p =>
                obtain ⟨k, i⟩ := p
                show ((c' ++ d') :: (segA Q QC x).1, some (k + 1, i)) = ((c' ++ d') :: (segA Q QC x).1, some (jr 0 a.length (k + 1 + 1, i)))
                unfold jr
                rw [if_neg (by show ¬ (k + 1 + 1 ≤ 0); omega), if_neg (by show ¬ (k + 1 + 1 = 0 + 1); omega)]
                rfl
  | succ n ih =>
    intro rs cs h hl
    cases rs with
    | nil => simp [M.bind, M.ret, R.bind, cSeq, cRet, cVar, cOp, cAnd, cOr, cNot, cIf, cAndT, cOrT, cNotT, asB, cB, cNext, cIfS, cSet, CS.put, cChain, dLe, dLt, dGt, dGe, dI2, startC, outF, fnB, cIsi, CS.knOf, tyB, isKn, isTy, M.guard, cTru, dTru, liftF, cCall, cCons, cFor, forL, cEnum, dEnum, cTg, cLc, lcL, wipeC, cWalk, dWalk, cNever, cSetTp, putAll, bLen, cFld, CS.fld, cProp, noExc, CS.clsOf, cCallS, dItems, cLenP, cIxP, CS.see, cApp, CS.pl, CS.wr, Pl.xs, dNeg, cSetIx, cStore, froz, cLst, cCutL, dCutL, cNoPart, cPart, dPart, CS.seqL, bList, M.opt, dIs, cIsiT, D.isNon] at hl
    | cons r rs =>
      cases cs with
      | nil => exact h.elim
      | cons s cs =>
        have i := ih rs cs h.2 (by simpa using hl)
        show segA (r :: jn n rs) (s :: jn n cs) x = (jn (n + 1) (segA (r :: rs) (s :: cs) x).1, (segA (r :: rs) (s :: cs) x).2.map (jr (n + 1) (rs.getD n []).length))
        cases e1 : levA r s x with
        | mk s' o =>
          cases o with
          | some a =>
            have s1 : segA (r :: rs) (s :: cs) x = (s' :: cs, some (0, a)) := by conv => lhs; unfold segA; rw [e1]
            have s2 : segA (r :: jn n rs) (s :: jn n cs) x = (s' :: jn n cs, some (0, a)) := by conv => lhs; unfold segA; rw [e1]
            rw [s1, s2]
            show (_, some (0, a)) = (_, some (jr (n + 1) _ (0, a)))
            unfold jr
            rw [if_pos (Nat.zero_le _)]
            rfl
          | none =>
            have s1 : segA (r :: rs) (s :: cs) x = (s' :: (segA rs cs x).1, (segA rs cs x).2.map fun p => (p.1 + 1, p.2)) := by conv => lhs; unfold segA; rw [e1]
            have s2 : segA (r :: jn n rs) (s :: jn n cs) x = (s' :: (segA (jn n rs) (jn n cs) x).1, (segA (jn n rs) (jn n cs) x).2.map fun p => (p.1 + 1, p.2)) := by conv => lhs; unfold segA; rw [e1]
            rw [s1, s2, i]
            cases (segA rs cs x).2 with
            | none => rfl
            | some p =>
              obtain ⟨k, a⟩ := p
              show (s' :: jn n (segA rs cs x).1, some ((jr n (rs.getD n []).length (k, a)).1 + 1, (jr n (rs.getD n []).length (k, a)).2)) = (s' :: jn n (segA rs cs x).1, some (jr (n + 1) (rs.getD n []).length (k + 1, a)))
              congr 2
              unfold jr
              by_cases q1 : k ≤ n
              · rw [if_pos (show (k, a).1 ≤ n from q1), if_pos (show (k + 1, a).1 ≤ n + 1 by show k + 1 ≤ n + 1; omega)]
              · rw [if_neg (show ¬ (k, a).1 ≤ n from q1), if_neg (show ¬ (k + 1, a).1 ≤ n + 1 by show ¬ k + 1 ≤ n + 1; omega)]
                by_cases q2 : k = n + 1
                · rw [if_pos (show (k, a).1 = n + 1 from q2), if_pos (show (k + 1, a).1 = n + 1 + 1 by show k + 1 = n + 1 + 1; omega)]
                · rw [if_neg (show ¬ (k, a).1 = n + 1 from q2), if_neg (show ¬ (k + 1, a).1 = n + 1 + 1 by show ¬ k + 1 = n + 1 + 1; omega)]
                  show (k - 1 + 1, a) = (k + 1 - 1, a)
                  rw [show k - 1 + 1 = k + 1 - 1 by omega]
theorem askA_jn (x : Int) (n e : Nat) (rs : List (List Int)) (cs : List (List (List Int))) (h : ConOk rs cs) (hl : n + 1 < rs.length) (he : e + 1 < rs.length) :
    askA (jn n rs) (jn n cs) e x = (jn n (askA rs cs (sh n e) x).1, (askA rs cs (sh n e) x).2.map (jr n (rs.getD n []).length)) := by
  have cl := con_len h
  by_cases q : e ≤ n
  · have se : sh n e = e := if_pos q
    rw [se]
    have s := segA_jn x (n - e) (rs.drop e) (cs.drop e) (con_drop e h) (by rw [List.length_drop]; omega)
    have gd : (rs.drop e).getD (n - e) [] = rs.getD n [] := by
      rw [List.getD_eq_getElem?_getD, List.getD_eq_getElem?_getD, List.getElem?_drop, show e + (n - e) = n by omega]
    rw [gd] at s
    have tl : (cs.take e).length = e := by rw [List.length_take]; omega
    unfold askA
    rw [jn_drop_le e n rs q, jn_drop_le e n cs q, jn_take_le e n cs q, s]
    dsimp only
    rw [jn_app_le (cs.take e) n _ (by omega), tl]
    congr 1
    cases (segA (rs.drop e) (cs.drop e) x).2 with
    | none => rfl
    | some p =>
      obtain ⟨k, a⟩ := p
      show some ((jr (n - e) (rs.getD n []).length (k, a)).1 + e, (jr (n - e) (rs.getD n []).length (k, a)).2) = some (jr n (rs.getD n []).length (k + e, a))
      congr 1
      unfold jr
      by_cases q1 : k ≤ n - e
      · rw [if_pos (show (k, a).1 ≤ n - e from q1), if_pos (show (k + e, a).1 ≤ n by show k + e ≤ n; omega)]
      · rw [if_neg (show ¬ (k, a).1 ≤ n - e from q1), if_neg (show ¬ (k + e, a).1 ≤ n by show ¬ k + e ≤ n; omega)]
        by_cases q2 : k = n - e + 1
        · rw [if_pos (show (k, a).1 = n - e + 1 from q2), if_pos (show (k + e, a).1 = n + 1 by show k + e = n + 1; omega)]
          show (n - e + e, _) = (n, _)
          rw [show n - e + e = n by omega]
        · rw [if_neg (show ¬ (k, a).1 = n - e + 1 from q2), if_neg (show ¬ (k + e, a).1 = n + 1 by show ¬ k + e = n + 1; omega)]
          show (k - 1 + e, a) = (k + e - 1, a)
          rw [show k - 1 + e = k + e - 1 by omega]
  · have se : sh n e = e + 1 := if_neg q
    rw [se]
    unfold askA
    rw [jn_drop_gt n e rs (by omega), jn_drop_gt n e cs (by omega), jn_take_gt n e cs (by omega)]
    dsimp only
    have tl : (cs.take (e + 1)).length = e + 1 := by rw [List.length_take]; omega
    rw [jn_app_gt n (cs.take (e + 1)) _ (by omega)]
    congr 1
    cases (segA (rs.drop (e + 1)) (cs.drop (e + 1)) x).2 with
    | none => rfl
    | some p =>
      obtain ⟨k, a⟩ := p
      show some (k + e, a) = some (jr n (rs.getD n []).length (k + (e + 1), a))
      congr 1
      unfold jr
      rw [if_neg (show ¬ (k + (e + 1), a).1 ≤ n by show ¬ k + (e + 1) ≤ n; omega), if_neg (show ¬ (k + (e + 1), a).1 = n + 1 by show ¬ k + (e + 1) = n + 1; omega)]
      rfl
theorem runA_jn (n : Nat) (rs : List (List Int)) (hr : ∀ r ∈ rs, RowOk r) (hl : n + 1 < rs.length) (qs : List (Nat × Int)) : ∀ cs : List (List (List Int)), ConOk rs cs → (∀ q ∈ qs, q.1 + 1 < rs.length) →
    runA (jn n rs) (jn n cs) qs = (jn n (runA rs cs (qs.map fun q => (sh n q.1, q.2))).1, (runA rs cs (qs.map fun q => (sh n q.1, q.2))).2.map (Option.map (jr n (rs.getD n []).length))) := by
  induction qs with
  | nil => intro cs _ _; rfl
  | cons q qs ih =>
    intro cs hc hq
    have a := askA_jn q.2 n q.1 rs cs hc hl (hq q List.mem_cons_self)
    have i := ih (askA rs cs (sh n q.1) q.2).1 (askA_ok hr (sh n q.1) q.2 hc) fun p hp => hq p (List.mem_cons_of_mem _ hp)
    show ((runA (jn n rs) (askA (jn n rs) (jn n cs) q.1 q.2).1 qs).1, (askA (jn n rs) (jn n cs) q.1 q.2).2 :: (runA (jn n rs) (askA (jn n rs) (jn n cs) q.1 q.2).1 qs).2) = _
    rw [a]
    dsimp only
    rw [i]
    rfl
theorem void_jn (n : Nat) : ∀ rs : List (List Int), jn n (voidC rs) = voidC (jn n rs) := by
  induction n with
  | zero =>
    intro rs
    match rs with
    | [] => rfl
    | [a] => simp [M.bind, M.ret, R.bind, cSeq, cRet, cVar, cOp, cAnd, cOr, cNot, cIf, cAndT, cOrT, cNotT, asB, cB, cNext, cIfS, cSet, CS.put, cChain, dLe, dLt, dGt, dGe, dI2, startC, outF, fnB, cIsi, CS.knOf, tyB, isKn, isTy, M.guard, cTru, dTru, liftF, cCall, cCons, cFor, forL, cEnum, dEnum, cTg, cLc, lcL, wipeC, cWalk, dWalk, cNever, cSetTp, putAll, bLen, cFld, CS.fld, cProp, noExc, CS.clsOf, cCallS, dItems, cLenP, cIxP, CS.see, cApp, CS.pl, CS.wr, Pl.xs, dNeg, cSetIx, cStore, froz, cLst, cCutL, dCutL, cNoPart, cPart, dPart, CS.seqL, bList, M.opt, dIs, cIsiT, D.isNon, jn, voidC]
    | a :: b :: r =>
      show ((a.map fun _ => ([] : List Int)) ++ b.map fun _ => []) :: voidC r = ((a ++ b).map fun _ => []) :: voidC r
      rw [List.map_append]
  | succ n ih =>
    intro rs
    cases rs with
    | nil => rfl
    | cons a r =>
      show (a.map fun _ => ([] : List Int)) :: jn n (voidC r) = (a.map fun _ => []) :: voidC (jn n r)
      rw [ih r]
end
end K35
namespace K35
open CL PySem
noncomputable section
def joinR (rs : List (List Int)) (e : Nat) : List (List Int) := rs.take e ++ [rs.getD e [] ++ rs.getD (e + 1) []] ++ rs.drop (e + 2)
theorem getD_ok {rs : List (List Int)} (h : ChOk rs) (k : Nat) (hk : k < rs.length) : RowOk (rs.getD k []) := by
  rw [List.getD_eq_getElem?_getD, List.getElem?_eq_getElem hk]
  exact h.2.2 _ (List.getElem_mem hk)
theorem map_getD (rs : List (List Int)) (k : Nat) (hk : k < rs.length) : (rs.map rowD)[k]'(by rw [List.length_map]; exact hk) = rowD (rs.getD k []) := by
  rw [List.getElem_map, List.getD_eq_getElem?_getD, List.getElem?_eq_getElem hk]
  rfl
theorem join_map (rs : List (List Int)) (e : Nat) : (rs.map rowD).take e ++ [rowD (rs.getD e [] ++ rs.getD (e + 1) [])] ++ (rs.map rowD).drop (e + 2) = (joinR rs e).map rowD := by
  unfold joinR
  simp [M.bind, M.ret, R.bind, cSeq, cRet, cVar, cOp, cAnd, cOr, cNot, cIf, cAndT, cOrT, cNotT, asB, cB, cNext, cIfS, cSet, CS.put, cChain, dLe, dLt, dGt, dGe, dI2, startC, outF, fnB, cIsi, CS.knOf, tyB, isKn, isTy, M.guard, cTru, dTru, liftF, cCall, cCons, cFor, forL, cEnum, dEnum, cTg, cLc, lcL, wipeC, cWalk, dWalk, cNever, cSetTp, putAll, bLen, cFld, CS.fld, cProp, noExc, CS.clsOf, cCallS, dItems, cLenP, cIxP, CS.see, cApp, CS.pl, CS.wr, Pl.xs, dNeg, cSetIx, cStore, froz, cLst, cCutL, dCutL, cNoPart, cPart, dPart, CS.seqL, bList, M.opt, dIs, cIsiT, D.isNon, List.map_take, List.map_drop]
abbrev inE : M Bool := cNotT (cTru (cCall fn_is_between (cCons (cVar 1) (cCons (M.ret (.int 1)) (cCons (cOp dSub ((cCons rw_ (M.ret [])).bind bLen) (M.ret (.int 1))) (M.ret []))))))
theorem s_inE {rs : List (List Int)} {d : D} {tl : List Sl} {S : List O} {b : Bool} (h : fn_is_between [d, .int 1, .int ((rs.length : Int) - 1)] S = .ok (.bl b) S) : inE ⟨.val (chD rs) :: .val d :: tl, S⟩ = .ok (!b) ⟨.val (chD rs) :: .val d :: tl, S⟩ := by
  have l := len_tup (s_rw rs (.val d :: tl) S)
  rw [List.length_map] at l
  refine notT_of (tru_bl ?_)
  refine (call_of (cons_of (x := d) (c1 := ⟨.val (chD rs) :: .val d :: tl, S⟩) rfl (cons_of (x := .int 1) (c1 := ⟨.val (chD rs) :: .val d :: tl, S⟩) rfl (cons_of (op_of (fb := M.ret (.int 1)) (y := .int 1) (k := dSub) (r := .ok (.int ((rs.length : Int) - 1)) ⟨.val (chD rs) :: .val d :: tl, S⟩) l rfl rfl) nilA)))).trans ?_
  show liftF (fn_is_between [d, .int 1, .int ((rs.length : Int) - 1)] S) _ = _
  rw [h]
  rfl
theorem s_wo (rs : List (List Int)) (e : Nat) (S : List O) (h : ChOk rs) (he : e + 1 < rs.length) (hj : ChOk (joinR rs e)) : fn_Chain_without_entry [chD rs, .int ((e + 1 : Nat) : Int)] S = .ok (chD (joinR rs e)) S := by
  have h4 := h.2.1
  have ra := (getD_ok h e (by omega)).1
  have rb := (getD_ok h (e + 1) he).1
  have b := s_isb ((e + 1 : Nat) : Int) 1 ((rs.length : Int) - 1) S
  rw [decide_eq_true (by omega : (1 : Int) ≤ ((e + 1 : Nat) : Int)), decide_eq_true (by omega : ((e + 1 : Nat) : Int) ≤ (rs.length : Int) - 1)] at b
  have t := s_inE (tl := [.no, .no]) b
  have ml : (rs.map rowD).length = rs.length := List.length_map _
  let c0 : CS := ⟨[.val (chD rs), .val (.int ((e + 1 : Nat) : Int)), .no, .no], S⟩
  have sb : ∀ tl, cOp dSub (cVar 1) (M.ret (.int 1)) ⟨.val (chD rs) :: .val (.int ((e + 1 : Nat) : Int)) :: tl, S⟩ = .ok (.int (e : Nat)) ⟨.val (chD rs) :: .val (.int ((e + 1 : Nat) : Int)) :: tl, S⟩ := fun tl => (subI_of (i := ((e + 1 : Nat) : Int)) (j := 1) rfl rfl).trans (by rw [show (((e + 1 : Nat) : Int) - 1) = ((e : Nat) : Int) by omega])
  have i1 := ixT_of (n := e) (s_rw rs [.val (.int ((e + 1 : Nat) : Int)), .no, .no] S) (sb [.no, .no]) (by omega)
  have i2 := ixT_of (fb := cVar 1) (n := e + 1) (s_rw rs [.val (.int ((e + 1 : Nat) : Int)), .no, .no] S) rfl (by omega)
  rw [map_getD rs e (by omega)] at i1
  rw [map_getD rs (e + 1) he] at i2
  have j := addT_of (xs := (rs.getD e []).map D.int) (ys := (rs.getD (e + 1) []).map D.int) i1 i2 (by simp only [List.length_append, List.length_take, List.length_drop, List.length_map, List.length_cons, List.length_nil]; omega)
  rw [← List.map_append] at j
  let c2 : CS := ⟨[.val (chD rs), .val (.int ((e + 1 : Nat) : Int)), .val (rowD (rs.getD e [] ++ rs.getD (e + 1) [])), .no], S⟩
  have g2 : cSet 2 _ ⟨[.val (chD rs), .val (.int ((e + 1 : Nat) : Int)), .no, .no], S⟩ = .ok .next c2 := set_of (i := 2) j
  have a1 : cCutT rw_ cNoPart (cPart (cOp dSub (cVar 1) (M.ret (.int 1)))) c2 = .ok (.tup ((rs.map rowD).take e)) c2 := cutT_to (n := e) (s_rw rs _ S) (sb _) (by omega)
  have b3 : cTup (cCons (cVar 2) (M.ret [])) c2 = .ok (.tup [rowD (rs.getD e [] ++ rs.getD (e + 1) [])]) c2 := oneT_of rfl
  have a2 : cCutT rw_ (cPart (cOp dAdd (cVar 1) (M.ret (.int 1)))) cNoPart c2 = .ok (.tup ((rs.map rowD).drop (e + 2))) c2 := cutT_from (n := e + 2) (s_rw rs _ S) rfl (by omega)
  have a3 := addT_of (addT_of a1 b3 (by simp only [List.length_append, List.length_take, List.length_drop, List.length_map, List.length_cons, List.length_nil]; omega)) a2 (by simp only [List.length_append, List.length_take, List.length_drop, List.length_map, List.length_cons, List.length_nil]; omega)
  rw [join_map] at a3
  have g3 : cSet 3 _ c2 = .ok .next ⟨[.val (chD rs), .val (.int ((e + 1 : Nat) : Int)), .val (rowD (rs.getD e [] ++ rs.getD (e + 1) [])), .val (.tup ((joinR rs e).map rowD))], S⟩ := set_of (i := 3) a3
  let c3 : CS := ⟨[.val (chD rs), .val (.int ((e + 1 : Nat) : Int)), .val (rowD (rs.getD e [] ++ rs.getD (e + 1) [])), .val (.tup ((joinR rs e).map rowD))], S⟩
  have mk : cCallS fn_Chain__init (cVar 3) c3 = .ok (chD (joinR rs e)) c3 := by
    show liftF (fn_Chain__init ((joinR rs e).map rowD) S) _ = _
    rw [s_make (joinR rs e) S hj]
    rfl
  have s0 : fn_Chain_without_entry [chD rs, .int ((e + 1 : Nat) : Int)] S = outF (cl_Chain_without_entry ⟨[.val (chD rs), .val (.int ((e + 1 : Nat) : Int)), .no, .no], S⟩) := rfl
  rw [s0]
  unfold cl_Chain_without_entry
  rw [cSeq_next (ifS_n t), cSeq_next g2, cSeq_next g3, cSeq_ret (ret_of mk)]
  rfl

end
end K35
namespace K35
open CL PySem
noncomputable section
abbrev w (x0 x2 x3 x4 x5 x6 x7 x8 x9 x10 x11 x12 x13 : Sl) (S : List O) : CS := ⟨[x0, .val (.ref 0), x2, x3, x4, x5, x6, x7, x8, x9, x10, x11, x12, x13], S⟩
abbrev rwsE : M D := cCall fn_law_rows (cCons (cVar 1) (cCons (M.ret (.int 3)) (cCons (M.ret (.int 4)) (cCons (of3 2 5 12) (M.ret [])))))
abbrev rwlE : M D := froz (cLst (cCons (cCall fn_law_row (cCons (cVar 1) (cCons (M.ret (.int 4)) (cCons (M.ret (.int 6)) (M.ret []))))) (M.ret [])))
abbrev L2_ : M Fl := cSet 2 (froz (cOpL dCat rwsE rwlE))
abbrev lnE : M D := cOp dSub ((cCons (cVar 2) (M.ret [])).bind bLen) (M.ret (.int 1))
abbrev L3 : M Fl := cSet 3 (cOp dAdd (M.ret (.int 1)) (cCall fn_law_pick (cCons (cVar 1) (cCons lnE (M.ret [])))))
abbrev L4 : M Fl := cSet 4 (cCall fn_law_made (cCons (cVar 2) (M.ret [])))
abbrev pk51 : M D := cCall fn_law_pick (cCons (cVar 1) (cCons (M.ret (.int 51)) (M.ret [])))
abbrev L5 : M Fl := cSet 5 (cCall fn_law_asks (cCons (cVar 1) (cCons lnE (cCons (cOp dAdd (M.ret (.int 10)) pk51) (cCons (of3 4 8 14) (M.ret []))))))
abbrev weE : M D := cMeth 0 "without_entry" fn_Chain_without_entry (cVar 4) (cCons (cVar 3) (M.ret []))
abbrev L6 : M Fl := cPar 6 7 (cCons (cCall fn_Run__init (cCons (cVar 4) (M.ret []))) (cCons (cCall fn_Run__init (cCons weE (M.ret []))) (M.ret [])))
abbrev shE : M D := cTup (cCons (cOp dAdd (cVar 9) ((cCons (cOp dGe (cVar 9) (cVar 3)) (M.ret [])).bind bInt)) (cCons (cVar 10) (M.ret [])))
abbrev L8 : M Fl := cSet 8 (cMeth 1 "request_all" fn_Run_request_all (cVar 6) (cCons (froz (cLc (cWalk (cVar 5)) (.tp [9, 10]) (M.ret true) shE [9, 10])) (M.ret [])))
abbrev L11 : M Fl := cSetL 11 (cLst (M.ret []))
abbrev o0E : M D := cOp dIx (cVar 12) (M.ret (.int 0))
abbrev o1E : M D := cOp dIx (cVar 12) (M.ret (.int 1))
abbrev g1E : M D := cOp dSub (cVar 3) (M.ret (.int 1))
abbrev lenE : M D := (cCons (cOp dIx (cVar 2) g1E) (M.ret [])).bind bLen
abbrev tD : M Bool := cAndT (asB (cOp dIsNot (cVar 12) (M.ret .non))) (asB (cOp dGe o0E (cVar 3)))
abbrev nwE : M D := cTup (cCons (cOp dSub o0E (M.ret (.int 1))) (cCons (cOp dAdd o1E (cOp dMul lenE ((cCons (cOp dEq o0E (cVar 3)) (M.ret [])).bind bInt))) (M.ret [])))
abbrev DB : M Fl := cSeq (cIfS tD (cSeq (cSet 12 nwE) cNext) cNext) (cSeq (cApp 11 (cVar 12)) cNext)
abbrev Q1_ : M Bool := cNotT (cTru (cCall (fn_law_same 4) (cCons (cMeth 1 "request_all" fn_Run_request_all (cVar 7) (cCons (cVar 5) (M.ret []))) (cCons (cVar 11) (M.ret [])))))
abbrev c6E : M D := cProp 1 "contents" fn_Run_contents (cVar 6)
abbrev L13 : M Fl := cSet 13 (cOp dAdd (cOp dIx c6E g1E) (cOp dIx c6E (cVar 3)))
abbrev fiE : M D := cOp dEq (cProp 1 "contents" fn_Run_contents (cVar 7)) (cOp dAdd (cOp dAdd (cCutT c6E cNoPart (cPart g1E)) (cTup (cCons (cVar 13) (M.ret [])))) (cCutT c6E (cPart (cOp dAdd (cVar 3) (M.ret (.int 1)))) cNoPart))
theorem cl_law_eq : cl_law = cSeq (cSet 1 (cCall fn_law_tape (cCons (cVar 0) (M.ret [])))) (cSeq L2_ (cSeq L3 (cSeq L4 (cSeq L5 (cSeq L6 (cSeq L8 (cSeq L11 (cSeq (cFor (cWalk (cVar 8)) (.nm 12) DB) (cSeq (cIfS Q1_ RF cNext) (cSeq L13 (cSeq (cRet fiE) cNext))))))))))) := rfl
theorem mulI_of {fa fb : M D} {c c1 c2 : CS} {i j : Int} (ea : fa c = .ok (.int i) c1) (eb : fb c1 = .ok (.int j) c2) (h : cMul i j = true) : cOp dMul fa fb c = .ok (.int (i * j)) c2 := op_of ea eb (by
  show M.guard (cMul i j) (M.ret (D.int (i * j))) c2 = _
  rw [h]
  rfl)
theorem res_jr (n la k a : Nat) : resD (some (jr n la (k, a))) = (if n + 1 ≤ k then D.tup [.int ((k : Nat) - 1 : Int), .int ((a : Nat) + (la : Nat) * (if (k : Int) = ((n + 1 : Nat) : Int) then 1 else 0) : Int)] else resD (some (k, a))) := by
  unfold jr
  by_cases q : k ≤ n
  · rw [if_pos (show (k, a).1 ≤ n from q), if_neg (show ¬ n + 1 ≤ k by omega)]
  · rw [if_neg (show ¬ (k, a).1 ≤ n from q), if_pos (show n + 1 ≤ k by omega)]
    by_cases q2 : k = n + 1
    · rw [if_pos (show (k, a).1 = n + 1 from q2), if_pos (show (k : Int) = ((n + 1 : Nat) : Int) by rw [q2])]
      show D.tup [.int (n : Nat), .int ((a + la : Nat) : Int)] = _
      rw [q2, Int.mul_one, Int.natCast_add, show (((n + 1 : Nat) : Int) - 1) = (n : Nat) by omega]
    · rw [if_neg (show ¬ (k, a).1 = n + 1 from q2), if_neg (show ¬ (k : Int) = ((n + 1 : Nat) : Int) by omega)]
      show D.tup [.int ((k - 1 : Nat) : Int), .int (a : Nat)] = _
      rw [Int.mul_zero, Int.add_zero, show (((k - 1 : Nat) : Int)) = (k : Int) - 1 by omega]
theorem s_dueL (rs : List (List Int)) (n : Nat) (hn : n + 1 < rs.length) (hl : ∀ r ∈ rs, RowOk r) (x0 x4 x5 x6 x7 x8 x13 : Sl) (S : List O) (os : List (Option (Nat × Nat))) : ∀ (acc : List (Option (Nat × Nat))) (x12 : Sl), acc.length + os.length ≤ 900 →
    ∃ y12, forL (fun d => cSeq (cTg (.nm 12) d) DB) (os.map resD) (w x0 (.val (.lst (rs.map rowD))) (.val (.int ((n + 1 : Nat) : Int))) x4 x5 x6 x7 x8 .no .no (.own (.lst (acc.map resD))) x12 x13 S) = .ok .next (w x0 (.val (.lst (rs.map rowD))) (.val (.int ((n + 1 : Nat) : Int))) x4 x5 x6 x7 x8 .no .no (.own (.lst ((acc ++ os.map (Option.map (jr n (rs.getD n []).length))).map resD))) y12 x13 S) := by
  induction os with
  | nil => intro acc x12 _; exact ⟨x12, by show R.ok Fl.next _ = R.ok Fl.next (w x0 (.val (.lst (rs.map rowD))) (.val (.int ((n + 1 : Nat) : Int))) x4 x5 x6 x7 x8 .no .no (.own (.lst ((acc ++ []).map resD))) x12 x13 S); rw [List.append_nil]⟩
  | cons o os ih =>
    intro acc x12 hz
    rw [List.length_cons] at hz
    let W : Sl → CS := fun y => w x0 (.val (.lst (rs.map rowD))) (.val (.int ((n + 1 : Nat) : Int))) x4 x5 x6 x7 x8 .no .no (.own (.lst (acc.map resD))) y x13 S
    have st : cIfS tD (cSeq (cSet 12 nwE) cNext) cNext (W (.val (resD o))) = .ok .next (W (.val (resD (o.map (jr n (rs.getD n []).length))))) := by
      cases o with
      | none =>
        have t1 : asB (cOp dIsNot (cVar 12) (M.ret .non)) (W (.val (resD none))) = .ok false (W (.val (resD none))) := rfl
        exact ifS_n (andT_f t1)
      | some p =>
        obtain ⟨k, a⟩ := p
        let c : CS := W (.val (resD (some (k, a))))
        have t1 : asB (cOp dIsNot (cVar 12) (M.ret .non)) c = .ok true c := rfl
        have o0 : o0E c = .ok (.int (k : Nat)) c := rfl
        have o1 : o1E c = .ok (.int (a : Nat)) c := rfl
        have t2 : asB (cOp dGe o0E (cVar 3)) c = .ok (decide (((n + 1 : Nat) : Int) ≤ (k : Nat))) c := asB_of (op_of o0 (fb := cVar 3) (y := .int ((n + 1 : Nat) : Int)) (c2 := c) rfl rfl)
        have t : tD c = _ := (andT_t t1).trans t2
        have rj := res_jr n (rs.getD n []).length k a
        show cIfS tD _ cNext c = .ok .next (W (.val (resD (some (jr n (rs.getD n []).length (k, a))))))
        by_cases q : n + 1 ≤ k
        · rw [decide_eq_true (by omega)] at t
          rw [if_pos q] at rj
          have g1 : g1E c = .ok (.int (n : Nat)) c := (subI_of (fa := cVar 3) (i := ((n + 1 : Nat) : Int)) (c1 := c) rfl (fb := M.ret (.int 1)) (j := 1) (c2 := c) rfl).trans (by rw [show (((n + 1 : Nat) : Int) - 1) = (n : Nat) by omega])
          have ix := ixL_of (fa := cVar 2) (xs := rs.map rowD) (n := n) (c := c) (c1 := c) rfl g1 (by rw [List.length_map]; omega)
          rw [map_getD rs n (by omega)] at ix
          have la := len_tup ix
          rw [List.length_map] at la
          have hl12 : (rs.getD n []).length ≤ 12 := by
            have e : rs.getD n [] = rs[n]'(by omega) := by simp [M.bind, M.ret, R.bind, cSeq, cRet, cVar, cOp, cAnd, cOr, cNot, cIf, cAndT, cOrT, cNotT, asB, cB, cNext, cIfS, cSet, CS.put, cChain, dLe, dLt, dGt, dGe, dI2, startC, outF, fnB, cIsi, CS.knOf, tyB, isKn, isTy, M.guard, cTru, dTru, liftF, cCall, cCons, cFor, forL, cEnum, dEnum, cTg, cLc, lcL, wipeC, cWalk, dWalk, cNever, cSetTp, putAll, bLen, cFld, CS.fld, cProp, noExc, CS.clsOf, cCallS, dItems, cLenP, cIxP, CS.see, cApp, CS.pl, CS.wr, Pl.xs, dNeg, cSetIx, cStore, froz, cLst, cCutL, dCutL, cNoPart, cPart, dPart, CS.seqL, bList, M.opt, dIs, cIsiT, D.isNon, List.getD, show n < rs.length by omega]
            rw [e]
            exact (hl _ (List.getElem_mem _)).1
          have eq : cOp dEq o0E (cVar 3) c = .ok (.bl (decide (((k : Nat) : Int) = ((n + 1 : Nat) : Int)))) c := op_of o0 (fb := cVar 3) (y := .int ((n + 1 : Nat) : Int)) (c2 := c) rfl (dEq_int _ _ _)
          have bi : ((cCons (cOp dEq o0E (cVar 3)) (M.ret [])).bind bInt) c = .ok (.int (if ((k : Nat) : Int) = ((n + 1 : Nat) : Int) then 1 else 0)) c := by
            unfold M.bind
            rw [cons_of eq nilA]
            show R.ok (D.int (if decide (((k : Nat) : Int) = ((n + 1 : Nat) : Int)) = true then 1 else 0)) c = _
            simp only [decide_eq_true_eq]
          have mu := mulI_of la bi (decide_eq_true (.inl ⟨by omega, by omega⟩))
          have nw := tup_of (cons_of (subI_of o0 (fb := M.ret (.int 1)) (j := 1) (c2 := c) rfl) (cons_of (addI_of o1 mu) nilA)) (szOk_small (by simp [M.bind, M.ret, R.bind, cSeq, cRet, cVar, cOp, cAnd, cOr, cNot, cIf, cAndT, cOrT, cNotT, asB, cB, cNext, cIfS, cSet, CS.put, cChain, dLe, dLt, dGt, dGe, dI2, startC, outF, fnB, cIsi, CS.knOf, tyB, isKn, isTy, M.guard, cTru, dTru, liftF, cCall, cCons, cFor, forL, cEnum, dEnum, cTg, cLc, lcL, wipeC, cWalk, dWalk, cNever, cSetTp, putAll, bLen, cFld, CS.fld, cProp, noExc, CS.clsOf, cCallS, dItems, cLenP, cIxP, CS.see, cApp, CS.pl, CS.wr, Pl.xs, dNeg, cSetIx, cStore, froz, cLst, cCutL, dCutL, cNoPart, cPart, dPart, CS.seqL, bList, M.opt, dIs, cIsiT, D.isNon]))
          refine (ifS_t t).trans ?_
          rw [cSeq_next (set_of nw), rj]
          rfl
        · rw [decide_eq_false (by omega)] at t
          rw [if_neg q] at rj
          rw [rj]
          exact ifS_n t
    have tg : cTg (.nm 12) (resD o) (W x12) = .ok .next (W (.val (resD o))) := rfl
    let o' := o.map (jr n (rs.getD n []).length)
    let W2 : CS := w x0 (.val (.lst (rs.map rowD))) (.val (.int ((n + 1 : Nat) : Int))) x4 x5 x6 x7 x8 .no .no (.own (.lst ((acc ++ [o']).map resD))) (.val (resD o')) x13 S
    have ap : cApp 11 (cVar 12) (W (.val (resD o'))) = .ok .next W2 := by
      unfold cApp
      rw [show (W (.val (resD o'))).pl 11 = some (.own (acc.map resD)) from rfl]
      dsimp only
      rw [show cVar 12 (W (.val (resD o'))) = .ok (resD o') (W (.val (resD o'))) from rfl]
      show (match (W (.val (resD o'))).pl 11 with
        | none => R.stuck
        | some p => match decide (p.xs.length < sizeLine) with
          | true => R.ok Fl.next ((W (.val (resD o'))).wr 11 p (p.xs ++ [resD o']))
          | false => .stuck) = _
      rw [show (W (.val (resD o'))).pl 11 = some (.own (acc.map resD)) from rfl]
      dsimp only
      rw [show decide ((Pl.own (acc.map resD)).xs.length < sizeLine) = true from decide_eq_true (size_small (by show (acc.map resD).length ≤ 1000; rw [List.length_map]; omega))]
      show R.ok Fl.next ((W (.val (resD o'))).wr 11 (.own (acc.map resD)) (acc.map resD ++ [resD o'])) = _
      rw [show acc.map resD ++ [resD o'] = (acc ++ [o']).map resD by rw [List.map_append]; rfl]
      rfl
    have bd : cSeq (cTg (.nm 12) (resD o)) DB (W x12) = .ok .next W2 := by
      rw [cSeq_next tg]
      unfold DB
      rw [cSeq_next st, cSeq_next ap]
      rfl
    obtain ⟨y12, e⟩ := ih (acc ++ [o']) (.val (resD o')) (by rw [List.length_append]; simp [M.bind, M.ret, R.bind, cSeq, cRet, cVar, cOp, cAnd, cOr, cNot, cIf, cAndT, cOrT, cNotT, asB, cB, cNext, cIfS, cSet, CS.put, cChain, dLe, dLt, dGt, dGe, dI2, startC, outF, fnB, cIsi, CS.knOf, tyB, isKn, isTy, M.guard, cTru, dTru, liftF, cCall, cCons, cFor, forL, cEnum, dEnum, cTg, cLc, lcL, wipeC, cWalk, dWalk, cNever, cSetTp, putAll, bLen, cFld, CS.fld, cProp, noExc, CS.clsOf, cCallS, dItems, cLenP, cIxP, CS.see, cApp, CS.pl, CS.wr, Pl.xs, dNeg, cSetIx, cStore, froz, cLst, cCutL, dCutL, cNoPart, cPart, dPart, CS.seqL, bList, M.opt, dIs, cIsiT, D.isNon]; omega)
    refine ⟨y12, (forL_next (body := fun d => cSeq (cTg (.nm 12) d) DB) bd).trans (e.trans ?_)⟩
    rw [List.append_assoc]
    rfl
theorem pl_ress (os : List (Option (Nat × Nat))) (h : os.length ≤ 1000) : plD 3 (.lst (os.map resD)) := by
  refine ⟨by rw [List.length_map]; exact h, fun d hd => ?_⟩
  obtain ⟨o, _, rfl⟩ := List.mem_map.mp hd
  cases o with
  | none => trivial
  | some p =>
    obtain ⟨k, a⟩ := p
    refine ⟨by simp [M.bind, M.ret, R.bind, cSeq, cRet, cVar, cOp, cAnd, cOr, cNot, cIf, cAndT, cOrT, cNotT, asB, cB, cNext, cIfS, cSet, CS.put, cChain, dLe, dLt, dGt, dGe, dI2, startC, outF, fnB, cIsi, CS.knOf, tyB, isKn, isTy, M.guard, cTru, dTru, liftF, cCall, cCons, cFor, forL, cEnum, dEnum, cTg, cLc, lcL, wipeC, cWalk, dWalk, cNever, cSetTp, putAll, bLen, cFld, CS.fld, cProp, noExc, CS.clsOf, cCallS, dItems, cLenP, cIxP, CS.see, cApp, CS.pl, CS.wr, Pl.xs, dNeg, cSetIx, cStore, froz, cLst, cCutL, dCutL, cNoPart, cPart, dPart, CS.seqL, bList, M.opt, dIs, cIsiT, D.isNon], fun x hx => ?_⟩
    simp only [List.mem_cons, List.not_mem_nil, or_false] at hx
    rcases hx with z | z <;> subst z <;> trivial
theorem maths (ns : List Int) (h : ns.length ≤ 63) : ∃ S, fn_law [.scr ns] [] = .ok (.bl true) S := by
  have hS0 : TapeOk (tpS [] ns 0 0 3815) := ⟨[], ns, 0, 0, 3815, rfl, h, by omega, by omega, by omega⟩
  let x0 : Sl := .val (.scr ns)
  let z : List Sl := [x0, .no, .no, .no, .no, .no, .no, .no, .no, .no, .no, .no, .no, .no]
  let s1 : List Sl := [x0, .val (.ref 0), .no, .no, .no, .no, .no, .no, .no, .no, .no, .no, .no, .no]
  have g1 : cSet 1 (cCall fn_law_tape (cCons (cVar 0) (M.ret []))) ⟨z, []⟩ = .ok .next ⟨s1, tpS [] ns 0 0 3815⟩ := by
    refine (set_of (d := .ref 0) (c1 := ⟨z, tpS [] ns 0 0 3815⟩) ?_).trans rfl
    refine (call1_of (x := .scr ns) (c1 := ⟨z, []⟩) rfl).trans ?_
    show liftF (fn_law_tape [.scr ns] []) _ = _
    rw [s_tape ns h]
    rfl
  -- the rows
  obtain ⟨t, S1, e1, hS1, ht⟩ := of3_of 2 5 12 s1 (tpS [] ns 0 0 3815) rfl hS0
  obtain ⟨r0, S2, e2, hS2, hr0, hl0, hv0⟩ := s_rows2 3 4 t S1 (by omega) (by omega) (by omega) (by omega) (by omega) (by omega) hS1
  obtain ⟨r, S3, e3, hS3, hv, hrv⟩ := s_lrow 4 6 S2 (by omega) (by omega) (by omega) (by omega) hS2
  have rwsV : rwsE ⟨s1, tpS [] ns 0 0 3815⟩ = .ok (.lst (r0.map rowD)) ⟨s1, S2⟩ := by
    refine (call_of (cons_of (fa := cVar 1) (x := .ref 0) (c1 := ⟨s1, tpS [] ns 0 0 3815⟩) rfl (cons_of (fa := M.ret (.int 3)) (x := .int 3) (c1 := ⟨s1, tpS [] ns 0 0 3815⟩) rfl (cons_of (fa := M.ret (.int 4)) (x := .int 4) (c1 := ⟨s1, tpS [] ns 0 0 3815⟩) rfl (cons_of e1 nilA))))).trans ?_
    show liftF (fn_law_rows [.ref 0, .int 3, .int 4, .int t] S1) _ = _
    rw [e2]
    rfl
  have rwV : cCall fn_law_row (cCons (cVar 1) (cCons (M.ret (.int 4)) (cCons (M.ret (.int 6)) (M.ret [])))) ⟨s1, S2⟩ = .ok (rowD r) ⟨s1, S3⟩ := by
    refine (call_of (cons_of (fa := cVar 1) (x := .ref 0) (c1 := ⟨s1, S2⟩) rfl (cons_of (fa := M.ret (.int 4)) (x := .int 4) (c1 := ⟨s1, S2⟩) rfl (cons_of (fa := M.ret (.int 6)) (x := .int 6) (c1 := ⟨s1, S2⟩) rfl nilA)))).trans ?_
    show liftF (fn_law_row [.ref 0, .int 4, .int 6] S2) _ = _
    rw [e3]
    rfl
  have h41 := hr0.1
  let rs : List (List Int) := r0 ++ [r]
  have rl : rs.length = r0.length + 1 := by simp [M.bind, M.ret, R.bind, cSeq, cRet, cVar, cOp, cAnd, cOr, cNot, cIf, cAndT, cOrT, cNotT, asB, cB, cNext, cIfS, cSet, CS.put, cChain, dLe, dLt, dGt, dGe, dI2, startC, outF, fnB, cIsi, CS.knOf, tyB, isKn, isTy, M.guard, cTru, dTru, liftF, cCall, cCons, cFor, forL, cEnum, dEnum, cTg, cLc, lcL, wipeC, cWalk, dWalk, cNever, cSetTp, putAll, bLen, cFld, CS.fld, cProp, noExc, CS.clsOf, cCallS, dItems, cLenP, cIxP, CS.see, cApp, CS.pl, CS.wr, Pl.xs, dNeg, cSetIx, cStore, froz, cLst, cCutL, dCutL, cNoPart, cPart, dPart, CS.seqL, bList, M.opt, dIs, cIsiT, D.isNon, rs]
  have hlen : ∀ a ∈ rs, a.length ≤ 4 := fun a ha => by
    rcases List.mem_append.mp ha with q | q
    · have := hv0 a q; omega
    · rw [List.mem_singleton.mp q]; omega
  have hr : ChOk rs := ⟨by omega, by omega, fun a ha => by
    rcases List.mem_append.mp ha with q | q
    · exact hr0.2.2 a q
    · rw [List.mem_singleton.mp q]
      exact ⟨by omega, fun x hx => ⟨(hrv x hx).1, by have := (hrv x hx).2; omega⟩⟩⟩
  let x2 : Sl := .val (.lst (rs.map rowD))
  let s2 : List Sl := [x0, .val (.ref 0), x2, .no, .no, .no, .no, .no, .no, .no, .no, .no, .no, .no]
  have g2 : L2_ ⟨s1, tpS [] ns 0 0 3815⟩ = .ok .next ⟨s2, S3⟩ := by
    refine (set_of (catL_of rwsV (oneL_of rwV) (by simp [M.bind, M.ret, R.bind, cSeq, cRet, cVar, cOp, cAnd, cOr, cNot, cIf, cAndT, cOrT, cNotT, asB, cB, cNext, cIfS, cSet, CS.put, cChain, dLe, dLt, dGt, dGe, dI2, startC, outF, fnB, cIsi, CS.knOf, tyB, isKn, isTy, M.guard, cTru, dTru, liftF, cCall, cCons, cFor, forL, cEnum, dEnum, cTg, cLc, lcL, wipeC, cWalk, dWalk, cNever, cSetTp, putAll, bLen, cFld, CS.fld, cProp, noExc, CS.clsOf, cCallS, dItems, cLenP, cIxP, CS.see, cApp, CS.pl, CS.wr, Pl.xs, dNeg, cSetIx, cStore, froz, cLst, cCutL, dCutL, cNoPart, cPart, dPart, CS.seqL, bList, M.opt, dIs, cIsiT, D.isNon]; omega))).trans ?_
    rw [show r0.map rowD ++ [rowD r] = rs.map rowD by simp [M.bind, M.ret, R.bind, cSeq, cRet, cVar, cOp, cAnd, cOr, cNot, cIf, cAndT, cOrT, cNotT, asB, cB, cNext, cIfS, cSet, CS.put, cChain, dLe, dLt, dGt, dGe, dI2, startC, outF, fnB, cIsi, CS.knOf, tyB, isKn, isTy, M.guard, cTru, dTru, liftF, cCall, cCons, cFor, forL, cEnum, dEnum, cTg, cLc, lcL, wipeC, cWalk, dWalk, cNever, cSetTp, putAll, bLen, cFld, CS.fld, cProp, noExc, CS.clsOf, cCallS, dItems, cLenP, cIxP, CS.see, cApp, CS.pl, CS.wr, Pl.xs, dNeg, cSetIx, cStore, froz, cLst, cCutL, dCutL, cNoPart, cPart, dPart, CS.seqL, bList, M.opt, dIs, cIsiT, D.isNon, rs]]
    rfl
  -- the entry that goes
  have lnV : ∀ (sl : List Sl) (S : List O), sl[2]? = some x2 → lnE ⟨sl, S⟩ = .ok (.int ((rs.length : Int) - 1)) ⟨sl, S⟩ := fun sl S h2 => by
    have v2 : cVar 2 ⟨sl, S⟩ = .ok (.lst (rs.map rowD)) ⟨sl, S⟩ := by unfold cVar; dsimp only; rw [h2]
    have ln := len_lst v2
    rw [List.length_map] at ln
    exact subI_of ln (fb := M.ret (.int 1)) (j := 1) (c2 := ⟨sl, S⟩) rfl
  obtain ⟨v, S4, e4, hS4, v0, v1⟩ := pick_of (sl := s2) (S := S3) rfl (lnV s2 S3 rfl) (by omega) (by omega) hS3
  obtain ⟨n, rfl⟩ : ∃ n : Nat, v = (n : Int) := ⟨v.toNat, by omega⟩
  have hn : n + 1 < rs.length := by omega
  let x3 : Sl := .val (.int ((n + 1 : Nat) : Int))
  let s3 : List Sl := [x0, .val (.ref 0), x2, x3, .no, .no, .no, .no, .no, .no, .no, .no, .no, .no]
  have g3 : L3 ⟨s2, S3⟩ = .ok .next ⟨s3, S4⟩ := by
    refine (set_of (addI_of (fa := M.ret (.int 1)) (i := 1) (c1 := ⟨s2, S3⟩) rfl e4)).trans ?_
    rw [show (1 : Int) + (n : Int) = ((n + 1 : Nat) : Int) by omega]
    rfl
  let x4 : Sl := .val (chD rs)
  let s4 : List Sl := [x0, .val (.ref 0), x2, x3, x4, .no, .no, .no, .no, .no, .no, .no, .no, .no]
  have g4 : L4 ⟨s3, S4⟩ = .ok .next ⟨s4, S4⟩ := by
    refine (set_of (d := chD rs) (c1 := ⟨s3, S4⟩) ?_).trans rfl
    refine (call1_of (fa := cVar 2) (x := .lst (rs.map rowD)) (c1 := ⟨s3, S4⟩) rfl).trans ?_
    show liftF (fn_law_made [.lst (rs.map rowD)] S4) _ = _
    rw [s_madeX rs S4 hr]
    rfl
  -- the requests
  obtain ⟨v2, S5, e5, hS5, v20, v21⟩ := pick_of (f := M.ret (.int 51)) (n := 51) (sl := s4) (S := S4) rfl rfl (by omega) (by omega) hS4
  have ad := addI_of (fa := M.ret (.int 10)) (i := 10) (c1 := ⟨s4, S4⟩) rfl e5
  obtain ⟨tp, S6, e6, hS6, htp⟩ := of3_of 4 8 14 s4 S5 rfl hS5
  obtain ⟨qs, S7, e7, hS7, hq, hl⟩ := s_asks ((rs.length : Int) - 1) (10 + v2) tp (by omega) (by omega) (by omega) (by omega) (by omega) (by omega) S6 hS6
  have ql : qs.length ≤ 60 := by omega
  let x5 : Sl := .val (.lst (qs.map askD))
  let c5 : CS := w x0 x2 x3 x4 x5 .no .no .no .no .no .no .no .no S7
  have g5 : L5 ⟨s4, S4⟩ = .ok .next c5 := by
    refine (set_of (d := .lst (qs.map askD)) (c1 := ⟨s4, S7⟩) ?_).trans rfl
    refine (call_of (cons_of (fa := cVar 1) (x := .ref 0) (c1 := ⟨s4, S4⟩) rfl (cons_of (lnV s4 S4 rfl) (cons_of ad (cons_of e6 nilA))))).trans ?_
    show liftF (fn_law_asks [.ref 0, .int ((rs.length : Int) - 1), .int (10 + v2), .int tp] S6) _ = _
    rw [e7]
    rfl
  have hq1 : ∀ q ∈ qs, q.1 + 1 < rs.length := fun q hm => by have := (hq q hm).1; omega
  have hq2 : ∀ q ∈ qs, -1 ≤ q.2 ∧ q.2 ≤ 9999 := fun q hm => ⟨(hq q hm).2.1, by have := (hq q hm).2.2; omega⟩
  -- the runs
  have jc : jn n rs = joinR rs n := jn_cut n rs hn
  have jl : (jn n rs).length = rs.length - 1 := by
    rw [jn_cut n rs hn]
    simp only [List.length_append, List.length_take, List.length_drop, List.length_cons, List.length_nil]
    omega
  have gd : ∀ i, i < rs.length → rs.getD i [] ∈ rs := fun i hi => by
    have e : rs.getD i [] = rs[i] := by simp [M.bind, M.ret, R.bind, cSeq, cRet, cVar, cOp, cAnd, cOr, cNot, cIf, cAndT, cOrT, cNotT, asB, cB, cNext, cIfS, cSet, CS.put, cChain, dLe, dLt, dGt, dGe, dI2, startC, outF, fnB, cIsi, CS.knOf, tyB, isKn, isTy, M.guard, cTru, dTru, liftF, cCall, cCons, cFor, forL, cEnum, dEnum, cTg, cLc, lcL, wipeC, cWalk, dWalk, cNever, cSetTp, putAll, bLen, cFld, CS.fld, cProp, noExc, CS.clsOf, cCallS, dItems, cLenP, cIxP, CS.see, cApp, CS.pl, CS.wr, Pl.xs, dNeg, cSetIx, cStore, froz, cLst, cCutL, dCutL, cNoPart, cPart, dPart, CS.seqL, bList, M.opt, dIs, cIsiT, D.isNon, List.getD, hi]
    rw [e]
    exact List.getElem_mem hi
  have hj : ChOk (jn n rs) := ⟨by omega, by omega, fun a ha => by
    rw [jn_cut n rs hn] at ha
    rcases List.mem_append.mp ha with q | q
    · rcases List.mem_append.mp q with q | q
      · exact hr.2.2 a (List.mem_of_mem_take q)
      · rw [List.mem_singleton.mp q]
        have m1 := gd n (by omega)
        have m2 := gd (n + 1) hn
        refine ⟨?_, fun x hx => ?_⟩
        · have := hlen _ m1
          have := hlen _ m2
          rw [List.length_append]
          omega
        · rcases List.mem_append.mp hx with y | y
          · exact (hr.2.2 _ m1).2 x y
          · exact (hr.2.2 _ m2).2 x y
    · exact hr.2.2 a (List.mem_of_mem_drop q)⟩
  let b := S7.length
  have b0 : 0 < b := tp_len hS7
  obtain ⟨S8, r1, R1, l1, k1⟩ := s_runinit rs S7 hr
  let c6 : CS := w x0 x2 x3 x4 x5 .no .no .no .no .no .no .no .no S8
  have q1 : cCall fn_Run__init (cCons (cVar 4) (M.ret [])) c5 = .ok (.ref (b + 3)) c6 := by
    refine (call1_of (fa := cVar 4) (x := chD rs) (c1 := c5) rfl).trans ?_
    show liftF (fn_Run__init [chD rs] S7) _ = _
    rw [r1]
    rfl
  have we : weE c6 = .ok (chD (jn n rs)) c6 := by
    refine (meth_of (fa := cVar 4) (fb := cVar 3) (mn := "without_entry") (rs := rs) (y := .int ((n + 1 : Nat) : Int)) (c1 := c6) (c2 := c6) rfl rfl).trans ?_
    show liftF (fn_Chain_without_entry [chD rs, .int ((n + 1 : Nat) : Int)] S8) _ = _
    rw [s_wo rs n S8 hr hn (jc ▸ hj), ← jc]
    rfl
  obtain ⟨S9, r2, R2, l2, k2⟩ := s_runinit (jn n rs) S8 hj
  rw [l1] at r2 R2 l2 k2
  let c7 : CS := w x0 x2 x3 x4 x5 .no .no .no .no .no .no .no .no S9
  have q2 : cCall fn_Run__init (cCons weE (M.ret [])) c6 = .ok (.ref (b + 4 + 3)) c7 := by
    refine (call1_of we).trans ?_
    show liftF (fn_Run__init [chD (jn n rs)] S8) _ = _
    rw [r2]
    rfl
  let x6 : Sl := .val (.ref (b + 3))
  let x7 : Sl := .val (.ref (b + 4 + 3))
  let c8 : CS := w x0 x2 x3 x4 x5 x6 x7 .no .no .no .no .no .no S9
  have g6 : L6 c5 = .ok .next c8 := (par_of (cons_of q1 (cons_of q2 nilA))).trans rfl
  have R1' : RunAt S9 b rs (voidC rs) [] 0 := R1.keep fun i _ hi => k2 i (by show i < b + 4; omega)
  let A1 : List (Nat × Int) := qs.map fun q => (sh n q.1, q.2)
  have A1l : A1.length = qs.length := List.length_map _
  have A1ok : ∀ q ∈ A1, AskOk rs q := fun q hm => by
    obtain ⟨p, hp, rfl⟩ := List.mem_map.mp hm
    refine ⟨?_, hq2 p hp⟩
    have := hq1 p hp
    show sh n p.1 < rs.length
    unfold sh
    split <;> omega
  have A2ok : ∀ q ∈ qs, AskOk (jn n rs) q := fun q hm => ⟨by have := hq1 q hm; omega, hq2 q hm⟩
  have cmp : froz (cLc (cWalk (cVar 5)) (.tp [9, 10]) (M.ret true) shE [9, 10]) c8 = .ok (.lst (A1.map askD)) c8 := by
    have l := lcL_map (t := .tp [9, 10]) (fe := shE) (vs := [9, 10]) (fun d => match d with
      | .tup [.int e, x] => D.tup [.int ((sh n e.toNat : Nat) : Int), x]
      | d => d) c8 (qs.map askD) (fun d hd => by
        obtain ⟨q, _, rfl⟩ := List.mem_map.mp hd
        let c9 : CS := w x0 x2 x3 x4 x5 x6 x7 .no (.val (.int (q.1 : Nat))) (.val (.int q.2)) .no .no .no S9
        refine ⟨c9, c9, rfl, ?_, rfl⟩
        have ge : cOp dGe (cVar 9) (cVar 3) c9 = .ok (.bl (decide (((n + 1 : Nat) : Int) ≤ (q.1 : Nat)))) c9 := rfl
        have bi : ((cCons (cOp dGe (cVar 9) (cVar 3)) (M.ret [])).bind bInt) c9 = .ok (.int (if ((n + 1 : Nat) : Int) ≤ (q.1 : Nat) then 1 else 0)) c9 := by
          unfold M.bind
          rw [cons_of ge nilA]
          show R.ok (D.int (if decide (((n + 1 : Nat) : Int) ≤ (q.1 : Nat)) = true then 1 else 0)) c9 = _
          simp only [decide_eq_true_eq]
        have tp := tup_of (cons_of (addI_of (fa := cVar 9) (i := (q.1 : Nat)) (c := c9) (c1 := c9) rfl bi) (cons_of (fa := cVar 10) (x := .int q.2) (c1 := c9) rfl nilA)) (szOk_small (by simp [M.bind, M.ret, R.bind, cSeq, cRet, cVar, cOp, cAnd, cOr, cNot, cIf, cAndT, cOrT, cNotT, asB, cB, cNext, cIfS, cSet, CS.put, cChain, dLe, dLt, dGt, dGe, dI2, startC, outF, fnB, cIsi, CS.knOf, tyB, isKn, isTy, M.guard, cTru, dTru, liftF, cCall, cCons, cFor, forL, cEnum, dEnum, cTg, cLc, lcL, wipeC, cWalk, dWalk, cNever, cSetTp, putAll, bLen, cFld, CS.fld, cProp, noExc, CS.clsOf, cCallS, dItems, cLenP, cIxP, CS.see, cApp, CS.pl, CS.wr, Pl.xs, dNeg, cSetIx, cStore, froz, cLst, cCutL, dCutL, cNoPart, cPart, dPart, CS.seqL, bList, M.opt, dIs, cIsiT, D.isNon]))
        refine tp.trans ?_
        show _ = R.ok (D.tup [.int ((sh n ((q.1 : Nat) : Int).toNat : Nat) : Int), .int q.2]) c9
        have e : ((q.1 : Nat) : Int) + (if ((n + 1 : Nat) : Int) ≤ (q.1 : Nat) then 1 else 0) = ((sh n ((q.1 : Nat) : Int).toNat : Nat) : Int) := by
          rw [Int.toNat_natCast]
          unfold sh
          by_cases y : q.1 ≤ n
          · rw [if_pos y, if_neg (by omega)]; omega
          · rw [if_neg y, if_pos (by omega)]; omega
        rw [e]) [] (by simp only [List.length_nil, List.length_map]; omega)
    refine (froz_of (lc_of (fi := cWalk (cVar 5)) (tg := .tp [9, 10]) (c := c8) (c1 := c8) (walk_of (.inl rfl)) l)).trans ?_
    have e : [] ++ (qs.map askD).map (fun d => match d with
      | .tup [.int e, x] => D.tup [.int ((sh n e.toNat : Nat) : Int), x]
      | d => d) = A1.map askD := by
      rw [List.nil_append, List.map_map, List.map_map]
      refine List.map_congr_left fun q _ => ?_
      show D.tup [.int ((sh n ((q.1 : Nat) : Int).toNat : Nat) : Int), .int q.2] = D.tup [.int ((sh n q.1 : Nat) : Int), .int q.2]
      rw [Int.toNat_natCast]
    rw [e]
  obtain ⟨S10, p1, P1, y1, z1⟩ := s_reqall rs hr (voidC rs) b 0 [] S9 R1' void_ok A1 A1ok (by omega) (by omega) (by simp [M.bind, M.ret, R.bind, cSeq, cRet, cVar, cOp, cAnd, cOr, cNot, cIf, cAndT, cOrT, cNotT, asB, cB, cNext, cIfS, cSet, CS.put, cChain, dLe, dLt, dGt, dGe, dI2, startC, outF, fnB, cIsi, CS.knOf, tyB, isKn, isTy, M.guard, cTru, dTru, liftF, cCall, cCons, cFor, forL, cEnum, dEnum, cTg, cLc, lcL, wipeC, cWalk, dWalk, cNever, cSetTp, putAll, bLen, cFld, CS.fld, cProp, noExc, CS.clsOf, cCallS, dItems, cLenP, cIxP, CS.see, cApp, CS.pl, CS.wr, Pl.xs, dNeg, cSetIx, cStore, froz, cLst, cCutL, dCutL, cNoPart, cPart, dPart, CS.seqL, bList, M.opt, dIs, cIsiT, D.isNon])
  have R2' : RunAt S10 (b + 4) (jn n rs) (voidC (jn n rs)) [] 0 := R2.keep fun i h1 h2 => z1 i (by omega) (by omega) (by omega) (by omega)
  obtain ⟨S11, p2, P2, y2, z2⟩ := s_reqall (jn n rs) hj (voidC (jn n rs)) (b + 4) 0 [] S10 R2' void_ok qs A2ok (by omega) (by omega) (by simp [M.bind, M.ret, R.bind, cSeq, cRet, cVar, cOp, cAnd, cOr, cNot, cIf, cAndT, cOrT, cNotT, asB, cB, cNext, cIfS, cSet, CS.put, cChain, dLe, dLt, dGt, dGe, dI2, startC, outF, fnB, cIsi, CS.knOf, tyB, isKn, isTy, M.guard, cTru, dTru, liftF, cCall, cCons, cFor, forL, cEnum, dEnum, cTg, cLc, lcL, wipeC, cWalk, dWalk, cNever, cSetTp, putAll, bLen, cFld, CS.fld, cProp, noExc, CS.clsOf, cCallS, dItems, cLenP, cIxP, CS.see, cApp, CS.pl, CS.wr, Pl.xs, dNeg, cSetIx, cStore, froz, cLst, cCutL, dCutL, cNoPart, cPart, dPart, CS.seqL, bList, M.opt, dIs, cIsiT, D.isNon])
  have P1' := P1.keep (S' := S11) fun i h1 h2 => z2 i (by omega) (by omega) (by omega) (by omega)
  have sim := runA_jn n rs hr.2.2 hn qs (voidC rs) void_ok hq1
  rw [void_jn] at sim
  have sim1 : (runA (jn n rs) (voidC (jn n rs)) qs).1 = jn n (runA rs (voidC rs) A1).1 := by
    have z := congrArg Prod.fst sim
    exact z
  have sim2 : (runA (jn n rs) (voidC (jn n rs)) qs).2 = (runA rs (voidC rs) A1).2.map (Option.map (jr n (rs.getD n []).length)) := by
    have z := congrArg Prod.snd sim
    exact z
  rw [sim1] at P2
  rw [sim2] at p2
  obtain ⟨C1, hC1⟩ : ∃ C1, C1 = (runA rs (voidC rs) A1).1 := ⟨_, rfl⟩
  rw [← hC1] at P1' P2
  obtain ⟨O1, hO1⟩ : ∃ O1, O1 = (runA rs (voidC rs) A1).2 := ⟨_, rfl⟩
  rw [← hO1] at p1 p2
  have O1l : O1.length = qs.length := by rw [hO1, runA_len, A1l]
  have cok : ConOk rs C1 := by rw [hC1]; exact runA_ok hr.2.2 A1 void_ok
  have C1l : C1.length = rs.length := con_len cok
  obtain ⟨u, dn, h3, _⟩ := id R1'
  obtain ⟨u2, dn2, h32, _⟩ := id R2'
  let x8 : Sl := .val (.lst (O1.map resD))
  have g8 : L8 c8 = .ok .next (w x0 x2 x3 x4 x5 x6 x7 x8 .no .no .no .no .no S10) := by
    refine (set_of (d := .lst (O1.map resD)) (c1 := w x0 x2 x3 x4 x5 x6 x7 .no .no .no .no .no .no S10) ?_).trans rfl
    refine (methS_of (d := .ref (b + 3)) (c1 := c8) rfl (has_run h3 _ rfl) (cons_of cmp nilA)).trans ?_
    show liftF (fn_Run_request_all [.ref (b + 3), .lst (A1.map askD)] S9) _ = _
    rw [p1]
    rfl
  have g11 : L11 (w x0 x2 x3 x4 x5 x6 x7 x8 .no .no .no .no .no S10) = .ok .next (w x0 x2 x3 x4 x5 x6 x7 x8 .no .no (.own (.lst (([] : List (Option (Nat × Nat))).map resD))) .no .no S10) := (setL_of (lst_of nilA (szOk_small (by simp [M.bind, M.ret, R.bind, cSeq, cRet, cVar, cOp, cAnd, cOr, cNot, cIf, cAndT, cOrT, cNotT, asB, cB, cNext, cIfS, cSet, CS.put, cChain, dLe, dLt, dGt, dGe, dI2, startC, outF, fnB, cIsi, CS.knOf, tyB, isKn, isTy, M.guard, cTru, dTru, liftF, cCall, cCons, cFor, forL, cEnum, dEnum, cTg, cLc, lcL, wipeC, cWalk, dWalk, cNever, cSetTp, putAll, bLen, cFld, CS.fld, cProp, noExc, CS.clsOf, cCallS, dItems, cLenP, cIxP, CS.see, cApp, CS.pl, CS.wr, Pl.xs, dNeg, cSetIx, cStore, froz, cLst, cCutL, dCutL, cNoPart, cPart, dPart, CS.seqL, bList, M.opt, dIs, cIsiT, D.isNon])))).trans rfl
  obtain ⟨y12, eD⟩ := s_dueL rs n hn hr.2.2 x0 x4 x5 x6 x7 x8 .no S10 O1 [] .no (by simp [M.bind, M.ret, R.bind, cSeq, cRet, cVar, cOp, cAnd, cOr, cNot, cIf, cAndT, cOrT, cNotT, asB, cB, cNext, cIfS, cSet, CS.put, cChain, dLe, dLt, dGt, dGe, dI2, startC, outF, fnB, cIsi, CS.knOf, tyB, isKn, isTy, M.guard, cTru, dTru, liftF, cCall, cCons, cFor, forL, cEnum, dEnum, cTg, cLc, lcL, wipeC, cWalk, dWalk, cNever, cSetTp, putAll, bLen, cFld, CS.fld, cProp, noExc, CS.clsOf, cCallS, dItems, cLenP, cIxP, CS.see, cApp, CS.pl, CS.wr, Pl.xs, dNeg, cSetIx, cStore, froz, cLst, cCutL, dCutL, cNoPart, cPart, dPart, CS.seqL, bList, M.opt, dIs, cIsiT, D.isNon]; omega)
  rw [List.nil_append] at eD
  let O2 := O1.map (Option.map (jr n (rs.getD n []).length))
  have gD := for_of (f := DB) (tg := .nm 12) (fi := cWalk (cVar 8)) (walk_of (c := w x0 x2 x3 x4 x5 x6 x7 x8 .no .no (.own (.lst (([] : List (Option (Nat × Nat))).map resD))) .no .no S10) (c1 := w x0 x2 x3 x4 x5 x6 x7 x8 .no .no (.own (.lst (([] : List (Option (Nat × Nat))).map resD))) .no .no S10) (.inl rfl)) eD
  let cA : CS := w x0 x2 x3 x4 x5 x6 x7 x8 .no .no (.own (.lst (O2.map resD))) y12 .no S10
  let cB : CS := w x0 x2 x3 x4 x5 x6 x7 x8 .no .no (.val (.lst (O2.map resD))) y12 .no S11
  have t1 : Q1_ cA = .ok false cB := by
    have m2 : cMeth 1 "request_all" fn_Run_request_all (cVar 7) (cCons (cVar 5) (M.ret [])) cA = .ok (.lst (O2.map resD)) (w x0 x2 x3 x4 x5 x6 x7 x8 .no .no (.own (.lst (O2.map resD))) y12 .no S11) := by
      refine (methS_of (d := .ref (b + 4 + 3)) (c1 := cA) rfl (has_run h32 _ rfl) (cons_of (fa := cVar 5) (x := .lst (qs.map askD)) (c1 := cA) rfl nilA)).trans ?_
      show liftF (fn_Run_request_all [.ref (b + 4 + 3), .lst (qs.map askD)] S10) _ = _
      rw [p2]
      rfl
    exact same_of m2 rfl (pl_ress O2 (by simp [M.bind, M.ret, R.bind, cSeq, cRet, cVar, cOp, cAnd, cOr, cNot, cIf, cAndT, cOrT, cNotT, asB, cB, cNext, cIfS, cSet, CS.put, cChain, dLe, dLt, dGt, dGe, dI2, startC, outF, fnB, cIsi, CS.knOf, tyB, isKn, isTy, M.guard, cTru, dTru, liftF, cCall, cCons, cFor, forL, cEnum, dEnum, cTg, cLc, lcL, wipeC, cWalk, dWalk, cNever, cSetTp, putAll, bLen, cFld, CS.fld, cProp, noExc, CS.clsOf, cCallS, dItems, cLenP, cIxP, CS.see, cApp, CS.pl, CS.wr, Pl.xs, dNeg, cSetIx, cStore, froz, cLst, cCutL, dCutL, cNoPart, cPart, dPart, CS.seqL, bList, M.opt, dIs, cIsiT, D.isNon, O2]; omega))
  -- the contents
  have g1V : ∀ (y13 : Sl), g1E (w x0 x2 x3 x4 x5 x6 x7 x8 .no .no (.val (.lst (O2.map resD))) y12 y13 S11) = .ok (.int (n : Nat)) (w x0 x2 x3 x4 x5 x6 x7 x8 .no .no (.val (.lst (O2.map resD))) y12 y13 S11) := fun y13 => (subI_of (fa := cVar 3) (i := ((n + 1 : Nat) : Int)) (c1 := w x0 x2 x3 x4 x5 x6 x7 x8 .no .no (.val (.lst (O2.map resD))) y12 y13 S11) rfl (fb := M.ret (.int 1)) (j := 1) (c2 := w x0 x2 x3 x4 x5 x6 x7 x8 .no .no (.val (.lst (O2.map resD))) y12 y13 S11) rfl).trans (by rw [show (((n + 1 : Nat) : Int) - 1) = (n : Nat) by omega])
  have con1 : ∀ (y13 : Sl), c6E (w x0 x2 x3 x4 x5 x6 x7 x8 .no .no (.val (.lst (O2.map resD))) y12 y13 S11) = .ok (conD C1) (w x0 x2 x3 x4 x5 x6 x7 x8 .no .no (.val (.lst (O2.map resD))) y12 y13 S11) := fun y13 => conE_of (b := b) rfl P1'
  have clen : ∀ i, i < C1.length → (C1.getD i []).length ≤ 12 := fun i hi => by
    have e : C1.getD i [] = C1[i] := by simp [M.bind, M.ret, R.bind, cSeq, cRet, cVar, cOp, cAnd, cOr, cNot, cIf, cAndT, cOrT, cNotT, asB, cB, cNext, cIfS, cSet, CS.put, cChain, dLe, dLt, dGt, dGe, dI2, startC, outF, fnB, cIsi, CS.knOf, tyB, isKn, isTy, M.guard, cTru, dTru, liftF, cCall, cCons, cFor, forL, cEnum, dEnum, cTg, cLc, lcL, wipeC, cWalk, dWalk, cNever, cSetTp, putAll, bLen, cFld, CS.fld, cProp, noExc, CS.clsOf, cCallS, dItems, cLenP, cIxP, CS.see, cApp, CS.pl, CS.wr, Pl.xs, dNeg, cSetIx, cStore, froz, cLst, cCutL, dCutL, cNoPart, cPart, dPart, CS.seqL, bList, M.opt, dIs, cIsiT, D.isNon, List.getD, hi]
    rw [e]
    have : ∀ (rs : List (List Int)) (cs : List (List (List Int))), ConOk rs cs → (∀ r ∈ rs, RowOk r) → ∀ s ∈ cs, s.length ≤ 12 := by
      intro rs
      induction rs with
      | nil => intro cs h _ s hs; cases cs with
        | nil => cases hs
        | cons _ _ => exact h.elim
      | cons r rs ih => intro cs h hr s hs; cases cs with
        | nil => exact h.elim
        | cons c cs =>
          rcases List.mem_cons.mp hs with q | q
          · rw [q, h.1.1]; exact (hr r List.mem_cons_self).1
          · exact ih cs h.2 (fun a ha => hr a (List.mem_cons_of_mem _ ha)) s q
    exact this rs C1 cok hr.2.2 _ (List.getElem_mem hi)
  have mg : ∀ i (hi : i < (C1.map segD).length), (C1.map segD)[i] = segD (C1.getD i []) := fun i hi => by
    rw [List.getElem_map]
    have hi : i < C1.length := by simpa using hi
    simp [M.bind, M.ret, R.bind, cSeq, cRet, cVar, cOp, cAnd, cOr, cNot, cIf, cAndT, cOrT, cNotT, asB, cB, cNext, cIfS, cSet, CS.put, cChain, dLe, dLt, dGt, dGe, dI2, startC, outF, fnB, cIsi, CS.knOf, tyB, isKn, isTy, M.guard, cTru, dTru, liftF, cCall, cCons, cFor, forL, cEnum, dEnum, cTg, cLc, lcL, wipeC, cWalk, dWalk, cNever, cSetTp, putAll, bLen, cFld, CS.fld, cProp, noExc, CS.clsOf, cCallS, dItems, cLenP, cIxP, CS.see, cApp, CS.pl, CS.wr, Pl.xs, dNeg, cSetIx, cStore, froz, cLst, cCutL, dCutL, cNoPart, cPart, dPart, CS.seqL, bList, M.opt, dIs, cIsiT, D.isNon, List.getD, hi]
  let x13 : Sl := .val (segD (C1.getD n [] ++ C1.getD (n + 1) []))
  let cC : CS := w x0 x2 x3 x4 x5 x6 x7 x8 .no .no (.val (.lst (O2.map resD))) y12 x13 S11
  have g13 : L13 cB = .ok .next cC := by
    have i1 := ixT_of (n := n) (con1 .no) (g1V .no) (by rw [List.length_map]; omega)
    have i2 := ixT_of (fb := cVar 3) (n := n + 1) (c2 := cB) (con1 .no) rfl (by rw [List.length_map]; omega)
    rw [mg] at i1 i2
    have a := addT_of i1 i2 (by
      rw [List.length_map, List.length_map]
      have := clen n (by omega)
      have := clen (n + 1) (by omega)
      omega)
    rw [← List.map_append] at a
    exact (set_of a).trans rfl
  have tF : fiE cC = .ok (.bl true) cC := by
    have a1 := cutT_to (n := n) (con1 x13) (g1V x13) (by rw [List.length_map]; omega)
    have a2 : cTup (cCons (cVar 13) (M.ret [])) cC = .ok (.tup [segD (C1.getD n [] ++ C1.getD (n + 1) [])]) cC := oneT_of rfl
    have a3 := cutT_from (fb := cOp dAdd (cVar 3) (M.ret (.int 1))) (n := n + 2) (c2 := cC) (con1 x13) (addI_of (fa := cVar 3) (i := ((n + 1 : Nat) : Int)) (c1 := cC) rfl (fb := M.ret (.int 1)) (j := 1) (c2 := cC) rfl) (by rw [List.length_map]; omega)
    have a4 := addT_of (addT_of a1 a2 (by simp [M.bind, M.ret, R.bind, cSeq, cRet, cVar, cOp, cAnd, cOr, cNot, cIf, cAndT, cOrT, cNotT, asB, cB, cNext, cIfS, cSet, CS.put, cChain, dLe, dLt, dGt, dGe, dI2, startC, outF, fnB, cIsi, CS.knOf, tyB, isKn, isTy, M.guard, cTru, dTru, liftF, cCall, cCons, cFor, forL, cEnum, dEnum, cTg, cLc, lcL, wipeC, cWalk, dWalk, cNever, cSetTp, putAll, bLen, cFld, CS.fld, cProp, noExc, CS.clsOf, cCallS, dItems, cLenP, cIxP, CS.see, cApp, CS.pl, CS.wr, Pl.xs, dNeg, cSetIx, cStore, froz, cLst, cCutL, dCutL, cNoPart, cPart, dPart, CS.seqL, bList, M.opt, dIs, cIsiT, D.isNon]; omega)) a3 (by simp [M.bind, M.ret, R.bind, cSeq, cRet, cVar, cOp, cAnd, cOr, cNot, cIf, cAndT, cOrT, cNotT, asB, cB, cNext, cIfS, cSet, CS.put, cChain, dLe, dLt, dGt, dGe, dI2, startC, outF, fnB, cIsi, CS.knOf, tyB, isKn, isTy, M.guard, cTru, dTru, liftF, cCall, cCons, cFor, forL, cEnum, dEnum, cTg, cLc, lcL, wipeC, cWalk, dWalk, cNever, cSetTp, putAll, bLen, cFld, CS.fld, cProp, noExc, CS.clsOf, cCallS, dItems, cLenP, cIxP, CS.see, cApp, CS.pl, CS.wr, Pl.xs, dNeg, cSetIx, cStore, froz, cLst, cCutL, dCutL, cNoPart, cPart, dPart, CS.seqL, bList, M.opt, dIs, cIsiT, D.isNon]; omega)
    have e : (C1.map segD).take n ++ [segD (C1.getD n [] ++ C1.getD (n + 1) [])] ++ (C1.map segD).drop (n + 2) = (jn n C1).map segD := by
      rw [jn_cut n C1 (by omega)]
      simp [M.bind, M.ret, R.bind, cSeq, cRet, cVar, cOp, cAnd, cOr, cNot, cIf, cAndT, cOrT, cNotT, asB, cB, cNext, cIfS, cSet, CS.put, cChain, dLe, dLt, dGt, dGe, dI2, startC, outF, fnB, cIsi, CS.knOf, tyB, isKn, isTy, M.guard, cTru, dTru, liftF, cCall, cCons, cFor, forL, cEnum, dEnum, cTg, cLc, lcL, wipeC, cWalk, dWalk, cNever, cSetTp, putAll, bLen, cFld, CS.fld, cProp, noExc, CS.clsOf, cCallS, dItems, cLenP, cIxP, CS.see, cApp, CS.pl, CS.wr, Pl.xs, dNeg, cSetIx, cStore, froz, cLst, cCutL, dCutL, cNoPart, cPart, dPart, CS.seqL, bList, M.opt, dIs, cIsiT, D.isNon, List.map_take, List.map_drop]
    rw [e] at a4
    have con2 : cProp 1 "contents" fn_Run_contents (cVar 7) cC = .ok (conD (jn n C1)) cC := conE_of (b := b + 4) rfl P2
    exact op_of con2 a4 (dEq_self (n := 3) (by omega) (pd_con _) cC)
  refine ⟨S11, ?_⟩
  have sl0 : fn_law [.scr ns] [] = outF (cl_law ⟨z, []⟩) := rfl
  rw [sl0, cl_law_eq, cSeq_next g1, cSeq_next g2, cSeq_next g3, cSeq_next g4, cSeq_next g5, cSeq_next g6, cSeq_next g8, cSeq_next g11, cSeq_next gD, cSeq_next (ifS_n t1), cSeq_next g13, cSeq_ret (ret_of tF)]
  rfl
end
end K35

namespace K35
open PySem PySem.Spec PyProof.Rows L2 CL
theorem all_mk {w : World} {K : PySem.W.Frag} {h : Heap} {mg : Str → Option Value} {fa : Addr} {C : Addr} {C1 : Addr} {f_is_between : Addr} {od_is_between : Option Addr} {an_is_between : Option Addr} {sl_is_between : Array (Option Value)} {oc_is_between : Value} {kV_is_between : Value} {dc_is_between : Value} {pm_is_between : Value} {cd_is_between : Value} {ct_is_between : Value} {f_is_item_or_anonymous : Addr} {od_is_item_or_anonymous : Option Addr} {an_is_item_or_anonymous : Option Addr} {sl_is_item_or_anonymous : Array (Option Value)} {oc_is_item_or_anonymous : Value} {kV_is_item_or_anonymous : Value} {dc_is_item_or_anonymous : Value} {pm_is_item_or_anonymous : Value} {cd_is_item_or_anonymous : Value} {ct_is_item_or_anonymous : Value} {f_check_rows : Addr} {od_check_rows : Option Addr} {an_check_rows : Option Addr} {sl_check_rows : Array (Option Value)} {oc_check_rows : Value} {kV_check_rows : Value} {dc_check_rows : Value} {pm_check_rows : Value} {cd_check_rows : Value} {ct_check_rows : Value} {f_Chain__init : Addr} {od_Chain__init : Option Addr} {an_Chain__init : Option Addr} {sl_Chain__init : Array (Option Value)} {oc_Chain__init : Value} {kV_Chain__init : Value} {dc_Chain__init : Value} {pm_Chain__init : Value} {cd_Chain__init : Value} {ct_Chain__init : Value} {f_Chain_segments : Addr} {p_Chain_segments : Addr} {r_Chain_segments : List Value} {od_Chain_segments : Option Addr} {an_Chain_segments : Option Addr} {sl_Chain_segments : Array (Option Value)} {oc_Chain_segments : Value} {kV_Chain_segments : Value} {dc_Chain_segments : Value} {pm_Chain_segments : Value} {cd_Chain_segments : Value} {ct_Chain_segments : Value} {f_Chain_entries : Addr} {p_Chain_entries : Addr} {r_Chain_entries : List Value} {od_Chain_entries : Option Addr} {an_Chain_entries : Option Addr} {sl_Chain_entries : Array (Option Value)} {oc_Chain_entries : Value} {kV_Chain_entries : Value} {dc_Chain_entries : Value} {pm_Chain_entries : Value} {cd_Chain_entries : Value} {ct_Chain_entries : Value} {f_Chain__getitem : Addr} {od_Chain__getitem : Option Addr} {an_Chain__getitem : Option Addr} {sl_Chain__getitem : Array (Option Value)} {oc_Chain__getitem : Value} {kV_Chain__getitem : Value} {dc_Chain__getitem : Value} {pm_Chain__getitem : Value} {cd_Chain__getitem : Value} {ct_Chain__getitem : Value} {f_Chain_without_entry : Addr} {od_Chain_without_entry : Option Addr} {an_Chain_without_entry : Option Addr} {sl_Chain_without_entry : Array (Option Value)} {oc_Chain_without_entry : Value} {kV_Chain_without_entry : Value} {dc_Chain_without_entry : Value} {pm_Chain_without_entry : Value} {cd_Chain_without_entry : Value} {ct_Chain_without_entry : Value} {f_empty_contents : Addr} {od_empty_contents : Option Addr} {an_empty_contents : Option Addr} {sl_empty_contents : Array (Option Value)} {oc_empty_contents : Value} {kV_empty_contents : Value} {dc_empty_contents : Value} {pm_empty_contents : Value} {cd_empty_contents : Value} {ct_empty_contents : Value} {f_check_request : Addr} {od_check_request : Option Addr} {an_check_request : Option Addr} {sl_check_request : Array (Option Value)} {oc_check_request : Value} {kV_check_request : Value} {dc_check_request : Value} {pm_check_request : Value} {cd_check_request : Value} {ct_check_request : Value} {f_inserted : Addr} {od_inserted : Option Addr} {an_inserted : Option Addr} {sl_inserted : Array (Option Value)} {oc_inserted : Value} {kV_inserted : Value} {dc_inserted : Value} {pm_inserted : Value} {cd_inserted : Value} {ct_inserted : Value} {f_after_request : Addr} {od_after_request : Option Addr} {an_after_request : Option Addr} {sl_after_request : Array (Option Value)} {oc_after_request : Value} {kV_after_request : Value} {dc_after_request : Value} {pm_after_request : Value} {cd_after_request : Value} {ct_after_request : Value} {f_Run__init : Addr} {od_Run__init : Option Addr} {an_Run__init : Option Addr} {sl_Run__init : Array (Option Value)} {oc_Run__init : Value} {kV_Run__init : Value} {dc_Run__init : Value} {pm_Run__init : Value} {cd_Run__init : Value} {ct_Run__init : Value} {f_Run_contents : Addr} {p_Run_contents : Addr} {r_Run_contents : List Value} {od_Run_contents : Option Addr} {an_Run_contents : Option Addr} {sl_Run_contents : Array (Option Value)} {oc_Run_contents : Value} {kV_Run_contents : Value} {dc_Run_contents : Value} {pm_Run_contents : Value} {cd_Run_contents : Value} {ct_Run_contents : Value} {f_Run_rows_of : Addr} {od_Run_rows_of : Option Addr} {an_Run_rows_of : Option Addr} {sl_Run_rows_of : Array (Option Value)} {oc_Run_rows_of : Value} {kV_Run_rows_of : Value} {dc_Run_rows_of : Value} {pm_Run_rows_of : Value} {cd_Run_rows_of : Value} {ct_Run_rows_of : Value} {f_Run_make_step : Addr} {od_Run_make_step : Option Addr} {an_Run_make_step : Option Addr} {sl_Run_make_step : Array (Option Value)} {oc_Run_make_step : Value} {kV_Run_make_step : Value} {dc_Run_make_step : Value} {pm_Run_make_step : Value} {cd_Run_make_step : Value} {ct_Run_make_step : Value} {f_Run_request_all : Addr} {od_Run_request_all : Option Addr} {an_Run_request_all : Option Addr} {sl_Run_request_all : Array (Option Value)} {oc_Run_request_all : Value} {kV_Run_request_all : Value} {dc_Run_request_all : Value} {pm_Run_request_all : Value} {cd_Run_request_all : Value} {ct_Run_request_all : Value} {f_law_tape : Addr} {od_law_tape : Option Addr} {an_law_tape : Option Addr} {sl_law_tape : Array (Option Value)} {oc_law_tape : Value} {kV_law_tape : Value} {dc_law_tape : Value} {pm_law_tape : Value} {cd_law_tape : Value} {ct_law_tape : Value} {f_law_pick : Addr} {od_law_pick : Option Addr} {an_law_pick : Option Addr} {sl_law_pick : Array (Option Value)} {oc_law_pick : Value} {kV_law_pick : Value} {dc_law_pick : Value} {pm_law_pick : Value} {cd_law_pick : Value} {ct_law_pick : Value} {f_law_of : Addr} {od_law_of : Option Addr} {an_law_of : Option Addr} {sl_law_of : Array (Option Value)} {oc_law_of : Value} {kV_law_of : Value} {dc_law_of : Value} {pm_law_of : Value} {cd_law_of : Value} {ct_law_of : Value} {f_law_same : Addr} {od_law_same : Option Addr} {an_law_same : Option Addr} {sl_law_same : Array (Option Value)} {oc_law_same : Value} {kV_law_same : Value} {dc_law_same : Value} {pm_law_same : Value} {cd_law_same : Value} {ct_law_same : Value} {f_law_made : Addr} {od_law_made : Option Addr} {an_law_made : Option Addr} {sl_law_made : Array (Option Value)} {oc_law_made : Value} {kV_law_made : Value} {dc_law_made : Value} {pm_law_made : Value} {cd_law_made : Value} {ct_law_made : Value} {f_law_row : Addr} {od_law_row : Option Addr} {an_law_row : Option Addr} {sl_law_row : Array (Option Value)} {oc_law_row : Value} {kV_law_row : Value} {dc_law_row : Value} {pm_law_row : Value} {cd_law_row : Value} {ct_law_row : Value} {f_law_rows : Addr} {od_law_rows : Option Addr} {an_law_rows : Option Addr} {sl_law_rows : Array (Option Value)} {oc_law_rows : Value} {kV_law_rows : Value} {dc_law_rows : Value} {pm_law_rows : Value} {cd_law_rows : Value} {ct_law_rows : Value} {f_law_asks : Addr} {od_law_asks : Option Addr} {an_law_asks : Option Addr} {sl_law_asks : Array (Option Value)} {oc_law_asks : Value} {kV_law_asks : Value} {dc_law_asks : Value} {pm_law_asks : Value} {cd_law_asks : Value} {ct_law_asks : Value} {f_law : Addr} {od_law : Option Addr} {an_law : Option Addr} {sl_law : Array (Option Value)} {oc_law : Value} {kV_law : Value} {dc_law : Value} {pm_law : Value} {cd_law : Value} {ct_law : Value} {gt_ANONYMOUS : Tok} {gt_MAX_ITEM : Tok} {u_MAX_CAPACITY : Tok} {u_MAX_LEVELS : Tok} {u_MAX_SEGMENTS : Tok} (X : K.In h) (G : h.Ns mainGlobals mg) (hfa : mg "law" = some (.ref fa))
    (aC : PySem.W.nsIn K mainGlobals "Chain" = some (some (.ref C)))
    (aC_1 : PySem.W.nsIn K mainGlobals "Run" = some (some (.ref C1)))
    (a_is_between : PySem.W.nsIn K mainGlobals "is_between" = some (some (.ref f_is_between)))
    (l_is_between : K.lookup f_is_between = some ⟨oc_is_between, od_is_between, .func (PySem.W.fnOf "is_between" "is_between" (defArgs (topS 10)) (defBody (topS 10)) (defScope (topS 10)) .none kV_is_between dc_is_between pm_is_between an_is_between cd_is_between ct_is_between), sl_is_between⟩)
    (c_is_between : PySem.W.codeIn K cd_is_between "is_between" = true)
    (k_is_between : PySem.W.keepIn K (.ref f_is_between) = true)
    (a_is_item_or_anonymous : PySem.W.nsIn K mainGlobals "is_item_or_anonymous" = some (some (.ref f_is_item_or_anonymous)))
    (l_is_item_or_anonymous : K.lookup f_is_item_or_anonymous = some ⟨oc_is_item_or_anonymous, od_is_item_or_anonymous, .func (PySem.W.fnOf "is_item_or_anonymous" "is_item_or_anonymous" (defArgs (topS 11)) (defBody (topS 11)) (defScope (topS 11)) .none kV_is_item_or_anonymous dc_is_item_or_anonymous pm_is_item_or_anonymous an_is_item_or_anonymous cd_is_item_or_anonymous ct_is_item_or_anonymous), sl_is_item_or_anonymous⟩)
    (c_is_item_or_anonymous : PySem.W.codeIn K cd_is_item_or_anonymous "is_item_or_anonymous" = true)
    (k_is_item_or_anonymous : PySem.W.keepIn K (.ref f_is_item_or_anonymous) = true)
    (a_check_rows : PySem.W.nsIn K mainGlobals "_check_rows" = some (some (.ref f_check_rows)))
    (l_check_rows : K.lookup f_check_rows = some ⟨oc_check_rows, od_check_rows, .func (PySem.W.fnOf "_check_rows" "_check_rows" (defArgs (topS 14)) (defBody (topS 14)) (defScope (topS 14)) .none kV_check_rows dc_check_rows pm_check_rows an_check_rows cd_check_rows ct_check_rows), sl_check_rows⟩)
    (c_check_rows : PySem.W.codeIn K cd_check_rows "_check_rows" = true)
    (k_check_rows : PySem.W.keepIn K (.ref f_check_rows) = true)
    (a_Chain__init : PySem.W.findIn K (.ref C) "__init__" = some (some (.ref f_Chain__init)))
    (i_Chain__init : PySem.W.isFn K (.ref f_Chain__init) = true)
    (l_Chain__init : K.lookup f_Chain__init = some ⟨oc_Chain__init, od_Chain__init, .func (PySem.W.fnOf "__init__" "Chain.__init__" (defArgs (inS 13 3)) (defBody (inS 13 3)) (defScope (inS 13 3)) .none kV_Chain__init dc_Chain__init pm_Chain__init an_Chain__init cd_Chain__init ct_Chain__init), sl_Chain__init⟩)
    (c_Chain__init : PySem.W.codeIn K cd_Chain__init "Chain.__init__" = true)
    (k_Chain__init : PySem.W.keepIn K (.ref f_Chain__init) = true)
    (mk : PySem.W.makesIn K C = true)
    (kC : PySem.W.keepIn K (.ref C) = true)
    (a_Chain_segments : PySem.W.findIn K (.ref C) "segments" = some (some (.ref p_Chain_segments)))
    (g_Chain_segments : PySem.W.specialIn K (.ref p_Chain_segments) "__get__" = some (some (.builtin "property.__get__")))
    (t_Chain_segments : PySem.W.takesIn K (.ref p_Chain_segments) = some true)
    (r0_Chain_segments : PySem.W.recIn K p_Chain_segments "property" = some (.ref f_Chain_segments :: r_Chain_segments))
    (l_Chain_segments : K.lookup f_Chain_segments = some ⟨oc_Chain_segments, od_Chain_segments, .func (PySem.W.fnOf "segments" "Chain.segments" (defArgs (inS 13 6)) (defBody (inS 13 6)) (defScope (inS 13 6)) .none kV_Chain_segments dc_Chain_segments pm_Chain_segments an_Chain_segments cd_Chain_segments ct_Chain_segments), sl_Chain_segments⟩)
    (c_Chain_segments : PySem.W.codeIn K cd_Chain_segments "Chain.segments" = true)
    (k_Chain_segments : PySem.W.keepIn K (.ref f_Chain_segments) = true)
    (a_Chain_entries : PySem.W.findIn K (.ref C) "entries" = some (some (.ref p_Chain_entries)))
    (g_Chain_entries : PySem.W.specialIn K (.ref p_Chain_entries) "__get__" = some (some (.builtin "property.__get__")))
    (t_Chain_entries : PySem.W.takesIn K (.ref p_Chain_entries) = some true)
    (r0_Chain_entries : PySem.W.recIn K p_Chain_entries "property" = some (.ref f_Chain_entries :: r_Chain_entries))
    (l_Chain_entries : K.lookup f_Chain_entries = some ⟨oc_Chain_entries, od_Chain_entries, .func (PySem.W.fnOf "entries" "Chain.entries" (defArgs (inS 13 7)) (defBody (inS 13 7)) (defScope (inS 13 7)) .none kV_Chain_entries dc_Chain_entries pm_Chain_entries an_Chain_entries cd_Chain_entries ct_Chain_entries), sl_Chain_entries⟩)
    (c_Chain_entries : PySem.W.codeIn K cd_Chain_entries "Chain.entries" = true)
    (k_Chain_entries : PySem.W.keepIn K (.ref f_Chain_entries) = true)
    (a_Chain__getitem : PySem.W.findIn K (.ref C) "__getitem__" = some (some (.ref f_Chain__getitem)))
    (i_Chain__getitem : PySem.W.isFn K (.ref f_Chain__getitem) = true)
    (l_Chain__getitem : K.lookup f_Chain__getitem = some ⟨oc_Chain__getitem, od_Chain__getitem, .func (PySem.W.fnOf "__getitem__" "Chain.__getitem__" (defArgs (inS 13 12)) (defBody (inS 13 12)) (defScope (inS 13 12)) .none kV_Chain__getitem dc_Chain__getitem pm_Chain__getitem an_Chain__getitem cd_Chain__getitem ct_Chain__getitem), sl_Chain__getitem⟩)
    (c_Chain__getitem : PySem.W.codeIn K cd_Chain__getitem "Chain.__getitem__" = true)
    (k_Chain__getitem : PySem.W.keepIn K (.ref f_Chain__getitem) = true)
    (a_Chain_without_entry : PySem.W.findIn K (.ref C) "without_entry" = some (some (.ref f_Chain_without_entry)))
    (i_Chain_without_entry : PySem.W.isFn K (.ref f_Chain_without_entry) = true)
    (l_Chain_without_entry : K.lookup f_Chain_without_entry = some ⟨oc_Chain_without_entry, od_Chain_without_entry, .func (PySem.W.fnOf "without_entry" "Chain.without_entry" (defArgs (inS 13 19)) (defBody (inS 13 19)) (defScope (inS 13 19)) .none kV_Chain_without_entry dc_Chain_without_entry pm_Chain_without_entry an_Chain_without_entry cd_Chain_without_entry ct_Chain_without_entry), sl_Chain_without_entry⟩)
    (c_Chain_without_entry : PySem.W.codeIn K cd_Chain_without_entry "Chain.without_entry" = true)
    (k_Chain_without_entry : PySem.W.keepIn K (.ref f_Chain_without_entry) = true)
    (a_empty_contents : PySem.W.nsIn K mainGlobals "empty_contents" = some (some (.ref f_empty_contents)))
    (l_empty_contents : K.lookup f_empty_contents = some ⟨oc_empty_contents, od_empty_contents, .func (PySem.W.fnOf "empty_contents" "empty_contents" (defArgs (topS 19)) (defBody (topS 19)) (defScope (topS 19)) .none kV_empty_contents dc_empty_contents pm_empty_contents an_empty_contents cd_empty_contents ct_empty_contents), sl_empty_contents⟩)
    (c_empty_contents : PySem.W.codeIn K cd_empty_contents "empty_contents" = true)
    (k_empty_contents : PySem.W.keepIn K (.ref f_empty_contents) = true)
    (a_check_request : PySem.W.nsIn K mainGlobals "check_request" = some (some (.ref f_check_request)))
    (l_check_request : K.lookup f_check_request = some ⟨oc_check_request, od_check_request, .func (PySem.W.fnOf "check_request" "check_request" (defArgs (topS 20)) (defBody (topS 20)) (defScope (topS 20)) .none kV_check_request dc_check_request pm_check_request an_check_request cd_check_request ct_check_request), sl_check_request⟩)
    (c_check_request : PySem.W.codeIn K cd_check_request "check_request" = true)
    (k_check_request : PySem.W.keepIn K (.ref f_check_request) = true)
    (a_inserted : PySem.W.nsIn K mainGlobals "_inserted" = some (some (.ref f_inserted)))
    (l_inserted : K.lookup f_inserted = some ⟨oc_inserted, od_inserted, .func (PySem.W.fnOf "_inserted" "_inserted" (defArgs (topS 22)) (defBody (topS 22)) (defScope (topS 22)) .none kV_inserted dc_inserted pm_inserted an_inserted cd_inserted ct_inserted), sl_inserted⟩)
    (c_inserted : PySem.W.codeIn K cd_inserted "_inserted" = true)
    (k_inserted : PySem.W.keepIn K (.ref f_inserted) = true)
    (a_after_request : PySem.W.nsIn K mainGlobals "after_request" = some (some (.ref f_after_request)))
    (l_after_request : K.lookup f_after_request = some ⟨oc_after_request, od_after_request, .func (PySem.W.fnOf "after_request" "after_request" (defArgs (topS 21)) (defBody (topS 21)) (defScope (topS 21)) .none kV_after_request dc_after_request pm_after_request an_after_request cd_after_request ct_after_request), sl_after_request⟩)
    (c_after_request : PySem.W.codeIn K cd_after_request "after_request" = true)
    (k_after_request : PySem.W.keepIn K (.ref f_after_request) = true)
    (a_Run__init : PySem.W.findIn K (.ref C1) "__init__" = some (some (.ref f_Run__init)))
    (i_Run__init : PySem.W.isFn K (.ref f_Run__init) = true)
    (l_Run__init : K.lookup f_Run__init = some ⟨oc_Run__init, od_Run__init, .func (PySem.W.fnOf "__init__" "Run.__init__" (defArgs (inS 24 0)) (defBody (inS 24 0)) (defScope (inS 24 0)) .none kV_Run__init dc_Run__init pm_Run__init an_Run__init cd_Run__init ct_Run__init), sl_Run__init⟩)
    (c_Run__init : PySem.W.codeIn K cd_Run__init "Run.__init__" = true)
    (k_Run__init : PySem.W.keepIn K (.ref f_Run__init) = true)
    (mk_1 : PySem.W.makesIn K C1 = true)
    (kC_1 : PySem.W.keepIn K (.ref C1) = true)
    (a_Run_contents : PySem.W.findIn K (.ref C1) "contents" = some (some (.ref p_Run_contents)))
    (g_Run_contents : PySem.W.specialIn K (.ref p_Run_contents) "__get__" = some (some (.builtin "property.__get__")))
    (t_Run_contents : PySem.W.takesIn K (.ref p_Run_contents) = some true)
    (r0_Run_contents : PySem.W.recIn K p_Run_contents "property" = some (.ref f_Run_contents :: r_Run_contents))
    (l_Run_contents : K.lookup f_Run_contents = some ⟨oc_Run_contents, od_Run_contents, .func (PySem.W.fnOf "contents" "Run.contents" (defArgs (inS 24 3)) (defBody (inS 24 3)) (defScope (inS 24 3)) .none kV_Run_contents dc_Run_contents pm_Run_contents an_Run_contents cd_Run_contents ct_Run_contents), sl_Run_contents⟩)
    (c_Run_contents : PySem.W.codeIn K cd_Run_contents "Run.contents" = true)
    (k_Run_contents : PySem.W.keepIn K (.ref f_Run_contents) = true)
    (a_Run_rows_of : PySem.W.findIn K (.ref C1) "_rows_of" = some (some (.ref f_Run_rows_of)))
    (i_Run_rows_of : PySem.W.isFn K (.ref f_Run_rows_of) = true)
    (l_Run_rows_of : K.lookup f_Run_rows_of = some ⟨oc_Run_rows_of, od_Run_rows_of, .func (PySem.W.fnOf "_rows_of" "Run._rows_of" (defArgs (inS 24 20)) (defBody (inS 24 20)) (defScope (inS 24 20)) .none kV_Run_rows_of dc_Run_rows_of pm_Run_rows_of an_Run_rows_of cd_Run_rows_of ct_Run_rows_of), sl_Run_rows_of⟩)
    (c_Run_rows_of : PySem.W.codeIn K cd_Run_rows_of "Run._rows_of" = true)
    (k_Run_rows_of : PySem.W.keepIn K (.ref f_Run_rows_of) = true)
    (a_Run_make_step : PySem.W.findIn K (.ref C1) "_make_step" = some (some (.ref f_Run_make_step)))
    (i_Run_make_step : PySem.W.isFn K (.ref f_Run_make_step) = true)
    (l_Run_make_step : K.lookup f_Run_make_step = some ⟨oc_Run_make_step, od_Run_make_step, .func (PySem.W.fnOf "_make_step" "Run._make_step" (defArgs (inS 24 21)) (defBody (inS 24 21)) (defScope (inS 24 21)) .none kV_Run_make_step dc_Run_make_step pm_Run_make_step an_Run_make_step cd_Run_make_step ct_Run_make_step), sl_Run_make_step⟩)
    (c_Run_make_step : PySem.W.codeIn K cd_Run_make_step "Run._make_step" = true)
    (k_Run_make_step : PySem.W.keepIn K (.ref f_Run_make_step) = true)
    (a_Run_request_all : PySem.W.findIn K (.ref C1) "request_all" = some (some (.ref f_Run_request_all)))
    (i_Run_request_all : PySem.W.isFn K (.ref f_Run_request_all) = true)
    (l_Run_request_all : K.lookup f_Run_request_all = some ⟨oc_Run_request_all, od_Run_request_all, .func (PySem.W.fnOf "request_all" "Run.request_all" (defArgs (inS 24 10)) (defBody (inS 24 10)) (defScope (inS 24 10)) .none kV_Run_request_all dc_Run_request_all pm_Run_request_all an_Run_request_all cd_Run_request_all ct_Run_request_all), sl_Run_request_all⟩)
    (c_Run_request_all : PySem.W.codeIn K cd_Run_request_all "Run.request_all" = true)
    (k_Run_request_all : PySem.W.keepIn K (.ref f_Run_request_all) = true)
    (a_law_tape : PySem.W.nsIn K mainGlobals "_law_tape" = some (some (.ref f_law_tape)))
    (l_law_tape : K.lookup f_law_tape = some ⟨oc_law_tape, od_law_tape, .func (PySem.W.fnOf "_law_tape" "_law_tape" (defArgs (topS 26)) (defBody (topS 26)) (defScope (topS 26)) .none kV_law_tape dc_law_tape pm_law_tape an_law_tape cd_law_tape ct_law_tape), sl_law_tape⟩)
    (c_law_tape : PySem.W.codeIn K cd_law_tape "_law_tape" = true)
    (k_law_tape : PySem.W.keepIn K (.ref f_law_tape) = true)
    (a_law_pick : PySem.W.nsIn K mainGlobals "_law_pick" = some (some (.ref f_law_pick)))
    (l_law_pick : K.lookup f_law_pick = some ⟨oc_law_pick, od_law_pick, .func (PySem.W.fnOf "_law_pick" "_law_pick" (defArgs (topS 27)) (defBody (topS 27)) (defScope (topS 27)) .none kV_law_pick dc_law_pick pm_law_pick an_law_pick cd_law_pick ct_law_pick), sl_law_pick⟩)
    (c_law_pick : PySem.W.codeIn K cd_law_pick "_law_pick" = true)
    (k_law_pick : PySem.W.keepIn K (.ref f_law_pick) = true)
    (a_law_of : PySem.W.nsIn K mainGlobals "_law_of" = some (some (.ref f_law_of)))
    (l_law_of : K.lookup f_law_of = some ⟨oc_law_of, od_law_of, .func (PySem.W.fnOf "_law_of" "_law_of" (defArgs (topS 28)) (defBody (topS 28)) (defScope (topS 28)) .none kV_law_of dc_law_of pm_law_of an_law_of cd_law_of ct_law_of), sl_law_of⟩)
    (c_law_of : PySem.W.codeIn K cd_law_of "_law_of" = true)
    (k_law_of : PySem.W.keepIn K (.ref f_law_of) = true)
    (a_law_same : PySem.W.nsIn K mainGlobals "_law_same" = some (some (.ref f_law_same)))
    (l_law_same : K.lookup f_law_same = some ⟨oc_law_same, od_law_same, .func (PySem.W.fnOf "_law_same" "_law_same" (defArgs (topS 29)) (defBody (topS 29)) (defScope (topS 29)) .none kV_law_same dc_law_same pm_law_same an_law_same cd_law_same ct_law_same), sl_law_same⟩)
    (c_law_same : PySem.W.codeIn K cd_law_same "_law_same" = true)
    (k_law_same : PySem.W.keepIn K (.ref f_law_same) = true)
    (a_law_made : PySem.W.nsIn K mainGlobals "_law_made" = some (some (.ref f_law_made)))
    (l_law_made : K.lookup f_law_made = some ⟨oc_law_made, od_law_made, .func (PySem.W.fnOf "_law_made" "_law_made" (defArgs (topS 30)) (defBody (topS 30)) (defScope (topS 30)) .none kV_law_made dc_law_made pm_law_made an_law_made cd_law_made ct_law_made), sl_law_made⟩)
    (c_law_made : PySem.W.codeIn K cd_law_made "_law_made" = true)
    (k_law_made : PySem.W.keepIn K (.ref f_law_made) = true)
    (a_law_row : PySem.W.nsIn K mainGlobals "_law_row" = some (some (.ref f_law_row)))
    (l_law_row : K.lookup f_law_row = some ⟨oc_law_row, od_law_row, .func (PySem.W.fnOf "_law_row" "_law_row" (defArgs (topS 31)) (defBody (topS 31)) (defScope (topS 31)) .none kV_law_row dc_law_row pm_law_row an_law_row cd_law_row ct_law_row), sl_law_row⟩)
    (c_law_row : PySem.W.codeIn K cd_law_row "_law_row" = true)
    (k_law_row : PySem.W.keepIn K (.ref f_law_row) = true)
    (a_law_rows : PySem.W.nsIn K mainGlobals "_law_rows" = some (some (.ref f_law_rows)))
    (l_law_rows : K.lookup f_law_rows = some ⟨oc_law_rows, od_law_rows, .func (PySem.W.fnOf "_law_rows" "_law_rows" (defArgs (topS 32)) (defBody (topS 32)) (defScope (topS 32)) .none kV_law_rows dc_law_rows pm_law_rows an_law_rows cd_law_rows ct_law_rows), sl_law_rows⟩)
    (c_law_rows : PySem.W.codeIn K cd_law_rows "_law_rows" = true)
    (k_law_rows : PySem.W.keepIn K (.ref f_law_rows) = true)
    (a_law_asks : PySem.W.nsIn K mainGlobals "_law_asks" = some (some (.ref f_law_asks)))
    (l_law_asks : K.lookup f_law_asks = some ⟨oc_law_asks, od_law_asks, .func (PySem.W.fnOf "_law_asks" "_law_asks" (defArgs (topS 33)) (defBody (topS 33)) (defScope (topS 33)) .none kV_law_asks dc_law_asks pm_law_asks an_law_asks cd_law_asks ct_law_asks), sl_law_asks⟩)
    (c_law_asks : PySem.W.codeIn K cd_law_asks "_law_asks" = true)
    (k_law_asks : PySem.W.keepIn K (.ref f_law_asks) = true)
    (a_law : PySem.W.nsIn K mainGlobals "law" = some (some (.ref f_law)))
    (l_law : K.lookup f_law = some ⟨oc_law, od_law, .func (PySem.W.fnOf "law" "law" (defArgs (topS 34)) (defBody (topS 34)) (defScope (topS 34)) .none kV_law dc_law pm_law an_law cd_law ct_law), sl_law⟩)
    (c_law : PySem.W.codeIn K cd_law "law" = true)
    (k_law : PySem.W.keepIn K (.ref f_law) = true)
    (pg : PySem.W.plainGet K C Str.empty = true)
    (hd : PySem.W.hasDictIn K C = true)
    (po : PySem.W.plainOver K C = true)
    (sa : PySem.W.findIn K (.ref C) "__setattr__" = some (some (.builtin "object.__setattr__")))
    (na_rows : PySem.W.findIn K (.ref C) "_rows" = some none)
    (o_ha : PySem.W.findIn K (.ref C) "__class__" = some (some (.builtin "object.__class__")))
    (o_hn : PySem.W.specialIn K (.builtin "object.__class__") "__get__" = some (some (.builtin "getset_descriptor.__get__")))
    (o_ht : PySem.W.takesIn K (.builtin "object.__class__") = some true)
    (o_hm : PySem.W.mroIn K C (.type "object") = some true)
    (o_i1 : PySem.W.subIn K (.ref C) (.type "bool") = some false)
    (o_i2 : PySem.W.subIn K (.ref C) (.type "int") = some false)
    (o_i3 : PySem.W.subIn K (.ref C) (.type "str") = some false)
    (o_i4 : PySem.W.subIn K (.ref C) (.type "tuple") = some false)
    (o_i5 : PySem.W.subIn K (.ref C) (.type "list") = some false)
    (o_kc : PySem.W.isClsIn K C = true)
    (o_kt : PySem.W.typeIn K (.ref C) = some (.type "type"))
    (o_j0 : PySem.W.subIn K (.type "NoneType") (.ref C) = some false)
    (o_j1 : PySem.W.subIn K (.type "bool") (.ref C) = some false)
    (o_j2 : PySem.W.subIn K (.type "int") (.ref C) = some false)
    (o_j3 : PySem.W.subIn K (.type "str") (.ref C) = some false)
    (o_j4 : PySem.W.subIn K (.type "tuple") (.ref C) = some false)
    (o_j5 : PySem.W.subIn K (.type "list") (.ref C) = some false)
    (pg_1 : PySem.W.plainGet K C1 Str.empty = true)
    (hd_1 : PySem.W.hasDictIn K C1 = true)
    (po_1 : PySem.W.plainOver K C1 = true)
    (sa_1 : PySem.W.findIn K (.ref C1) "__setattr__" = some (some (.builtin "object.__setattr__")))
    (na_1_chain : PySem.W.findIn K (.ref C1) "_chain" = some none)
    (na_1_contents : PySem.W.findIn K (.ref C1) "_contents" = some none)
    (na_1_log : PySem.W.findIn K (.ref C1) "_log" = some none)
    (na_1_done : PySem.W.findIn K (.ref C1) "_done" = some none)
    (na_1_undone : PySem.W.findIn K (.ref C1) "_undone" = some none)
    (o_1_ha : PySem.W.findIn K (.ref C1) "__class__" = some (some (.builtin "object.__class__")))
    (o_1_hn : PySem.W.specialIn K (.builtin "object.__class__") "__get__" = some (some (.builtin "getset_descriptor.__get__")))
    (o_1_ht : PySem.W.takesIn K (.builtin "object.__class__") = some true)
    (o_1_hm : PySem.W.mroIn K C1 (.type "object") = some true)
    (o_1_i1 : PySem.W.subIn K (.ref C1) (.type "bool") = some false)
    (o_1_i2 : PySem.W.subIn K (.ref C1) (.type "int") = some false)
    (o_1_i3 : PySem.W.subIn K (.ref C1) (.type "str") = some false)
    (o_1_i4 : PySem.W.subIn K (.ref C1) (.type "tuple") = some false)
    (o_1_i5 : PySem.W.subIn K (.ref C1) (.type "list") = some false)
    (o_1_kc : PySem.W.isClsIn K C1 = true)
    (o_1_kt : PySem.W.typeIn K (.ref C1) = some (.type "type"))
    (o_1_j0 : PySem.W.subIn K (.type "NoneType") (.ref C1) = some false)
    (o_1_j1 : PySem.W.subIn K (.type "bool") (.ref C1) = some false)
    (o_1_j2 : PySem.W.subIn K (.type "int") (.ref C1) = some false)
    (o_1_j3 : PySem.W.subIn K (.type "str") (.ref C1) = some false)
    (o_1_j4 : PySem.W.subIn K (.type "tuple") (.ref C1) = some false)
    (o_1_j5 : PySem.W.subIn K (.type "list") (.ref C1) = some false)
    (dCC : (Value.ref C == Value.ref C1) = false)
    (sCC : PySem.W.subIn K (.ref C) (.ref C1) = some false)
    (dDD : (Value.ref C1 == Value.ref C) = false)
    (sDD : PySem.W.subIn K (.ref C1) (.ref C) = some false)
    (n_bool : PySem.W.nsIn K mainGlobals "bool" = some none)
    (n_int : PySem.W.nsIn K mainGlobals "int" = some none)
    (n_isinstance : PySem.W.nsIn K mainGlobals "isinstance" = some none)
    (gv_ANONYMOUS : PySem.W.nsIn K mainGlobals "ANONYMOUS" = some (some (.int (-1) gt_ANONYMOUS)))
    (gv_MAX_ITEM : PySem.W.nsIn K mainGlobals "MAX_ITEM" = some (some (.int (9999) gt_MAX_ITEM)))
    (rd : PySem.W.readsIn K C (.type "type") = true)
    (ga : PySem.W.specialIn K (.ref C) "__getattribute__" = some (some (.builtin "type.__getattribute__")))
    (v_MAX_CAPACITY : PySem.W.findCls K (.ref C) (.type "type") "MAX_CAPACITY" = some (.val (.int 12 u_MAX_CAPACITY)))
    (v_MAX_LEVELS : PySem.W.findCls K (.ref C) (.type "type") "MAX_LEVELS" = some (.val (.int 12 u_MAX_LEVELS)))
    (v_MAX_SEGMENTS : PySem.W.findCls K (.ref C) (.type "type") "MAX_SEGMENTS" = some (.val (.int 4 u_MAX_SEGMENTS)))
    (n_all : PySem.W.nsIn K mainGlobals "all" = some none)
    (n_enumerate : PySem.W.nsIn K mainGlobals "enumerate" = some none)
    (n_len : PySem.W.nsIn K mainGlobals "len" = some none)
    (n_tuple : PySem.W.nsIn K mainGlobals "tuple" = some none)
    (fi_Chain__getitem : PySem.W.fnIn K f_Chain__getitem = true)
    (n_list : PySem.W.nsIn K mainGlobals "list" = some none)
    (n_range : PySem.W.nsIn K mainGlobals "range" = some none)
    (n_str : PySem.W.nsIn K mainGlobals "str" = some none)
    (n_zip : PySem.W.nsIn K mainGlobals "zip" = some none)
    (n_sorted : PySem.W.nsIn K mainGlobals "sorted" = some none)
    (hm : ∀ ns : List Int, ns.length ≤ 63 → ∃ S, fn_law [.scr ns] [] = .ok (.bl true) S) :
    ∃ fd : FuncData, (∀ (s : Shared) (v : Value), BindsTo s fd ⟨[v], []⟩ [("_law_script", v)]) ∧ ∀ base : Heap, K.In base → base.Ns mainGlobals mg → FnOk PySem.Challenge.pw_shelfdoors_k35_whole_entries_that_are_no w K mg base (L2.CX PySem.Challenge.pw_shelfdoors_k35_whole_entries_that_are_no w) 7 fa fd ["_law_script"] (spLaw K) := by
  have e := hfa.symm.trans (PySem.W.mg_of X G a_law)
  cases e
  refine ⟨PySem.W.fnOf "law" "law" (defArgs (topS 34)) (defBody (topS 34)) (defScope (topS 34)) .none kV_law dc_law pm_law an_law cd_law ct_law, fun s v => .of_eq rfl, fun base _ _ => ?_⟩
  have T : Tx { prog := PySem.Challenge.pw_shelfdoors_k35_whole_entries_that_are_no, w := w, K := K, mg := mg, base := base, cls := clsTwo C (["_rows"] : List Str) C1 (["_chain", "_contents", "_log", "_done", "_undone"] : List Str), exc := fun _ => none : CL.G } { C_Chain := C, mc_Chain := (.type "type"), C_Run := C1, a_is_between := f_is_between, a_is_item_or_anonymous := f_is_item_or_anonymous, a_check_rows := f_check_rows, a_Chain__init := f_Chain__init, a_Chain_segments := f_Chain_segments, p_Chain_segments := p_Chain_segments, a_Chain_entries := f_Chain_entries, p_Chain_entries := p_Chain_entries, a_Chain__getitem := f_Chain__getitem, a_Chain_without_entry := f_Chain_without_entry, a_empty_contents := f_empty_contents, a_check_request := f_check_request, a_inserted := f_inserted, a_after_request := f_after_request, a_Run__init := f_Run__init, a_Run_contents := f_Run_contents, p_Run_contents := p_Run_contents, a_Run_rows_of := f_Run_rows_of, a_Run_make_step := f_Run_make_step, a_Run_request_all := f_Run_request_all, a_law_tape := f_law_tape, a_law_pick := f_law_pick, a_law_of := f_law_of, a_law_same := f_law_same, a_law_made := f_law_made, a_law_row := f_law_row, a_law_rows := f_law_rows, a_law_asks := f_law_asks, a_law := fa, gt_ANONYMOUS := gt_ANONYMOUS, gt_MAX_ITEM := gt_MAX_ITEM, u_Chain_MAX_CAPACITY := (.int 12 u_MAX_CAPACITY), u_Chain_MAX_LEVELS := (.int 12 u_MAX_LEVELS), u_Chain_MAX_SEGMENTS := (.int 4 u_MAX_SEGMENTS) : Ad } := {
    f_is_between := ⟨_, fun_mk l_is_between c_is_between k_is_between, (fun_mk l_is_between c_is_between k_is_between).binds fun _ _ _ _ _ _ us hl => match us, hl with | [_, _, _], _ => rfl⟩,
    m_is_between := PySem.W.mg_of X G a_is_between,
    kp_is_between := k_is_between,
    n_bool := PySem.W.mg_none_of X G n_bool,
    n_int := PySem.W.mg_none_of X G n_int,
    n_isinstance := PySem.W.mg_none_of X G n_isinstance,
    f_is_item_or_anonymous := ⟨_, fun_mk l_is_item_or_anonymous c_is_item_or_anonymous k_is_item_or_anonymous, (fun_mk l_is_item_or_anonymous c_is_item_or_anonymous k_is_item_or_anonymous).binds fun _ _ _ _ _ _ us hl => match us, hl with | [_], _ => rfl⟩,
    m_is_item_or_anonymous := PySem.W.mg_of X G a_is_item_or_anonymous,
    kp_is_item_or_anonymous := k_is_item_or_anonymous,
    gm_ANONYMOUS := PySem.W.mg_of X G gv_ANONYMOUS,
    gm_MAX_ITEM := PySem.W.mg_of X G gv_MAX_ITEM,
    f_check_rows := ⟨_, fun_mk l_check_rows c_check_rows k_check_rows, (fun_mk l_check_rows c_check_rows k_check_rows).binds fun _ _ _ _ _ _ us hl => match us, hl with | [_], _ => rfl⟩,
    m_check_rows := PySem.W.mg_of X G a_check_rows,
    kp_check_rows := k_check_rows,
    cr_Chain := ⟨rd, ga⟩,
    cv_Chain_MAX_CAPACITY := ⟨v_MAX_CAPACITY, _, rfl⟩,
    cv_Chain_MAX_LEVELS := ⟨v_MAX_LEVELS, _, rfl⟩,
    cv_Chain_MAX_SEGMENTS := ⟨v_MAX_SEGMENTS, _, rfl⟩,
    n_all := PySem.W.mg_none_of X G n_all,
    n_enumerate := PySem.W.mg_none_of X G n_enumerate,
    n_len := PySem.W.mg_none_of X G n_len,
    f_Chain__init := ⟨_, fun_mk l_Chain__init c_Chain__init k_Chain__init⟩,
    mk_Chain := ⟨mk, a_Chain__init, i_Chain__init, kC⟩,
    n_tuple := PySem.W.mg_none_of X G n_tuple,
    na_Chain_rows := na_rows,
    f_Chain_segments := ⟨_, fun_mk l_Chain_segments c_Chain_segments k_Chain_segments, (fun_mk l_Chain_segments c_Chain_segments k_Chain_segments).binds fun _ _ _ _ _ _ us hl => match us, hl with | [_], _ => rfl⟩,
    pr_Chain_segments := ⟨a_Chain_segments, g_Chain_segments, t_Chain_segments, _, r0_Chain_segments⟩,
    f_Chain_entries := ⟨_, fun_mk l_Chain_entries c_Chain_entries k_Chain_entries, (fun_mk l_Chain_entries c_Chain_entries k_Chain_entries).binds fun _ _ _ _ _ _ us hl => match us, hl with | [_], _ => rfl⟩,
    pr_Chain_entries := ⟨a_Chain_entries, g_Chain_entries, t_Chain_entries, _, r0_Chain_entries⟩,
    f_Chain__getitem := ⟨_, fun_mk l_Chain__getitem c_Chain__getitem k_Chain__getitem, (fun_mk l_Chain__getitem c_Chain__getitem k_Chain__getitem).binds fun _ _ _ _ _ _ us hl => match us, hl with | [_, _], _ => rfl⟩,
    sp_Chain__getitem := ⟨a_Chain__getitem, i_Chain__getitem⟩,
    f_Chain_without_entry := ⟨_, fun_mk l_Chain_without_entry c_Chain_without_entry k_Chain_without_entry, (fun_mk l_Chain_without_entry c_Chain_without_entry k_Chain_without_entry).binds fun _ _ _ _ _ _ us hl => match us, hl with | [_, _], _ => rfl⟩,
    me_Chain_without_entry := ⟨a_Chain_without_entry, i_Chain_without_entry, k_Chain_without_entry⟩,
    f_empty_contents := ⟨_, fun_mk l_empty_contents c_empty_contents k_empty_contents, (fun_mk l_empty_contents c_empty_contents k_empty_contents).binds fun _ _ _ _ _ _ us hl => match us, hl with | [_], _ => rfl⟩,
    m_empty_contents := PySem.W.mg_of X G a_empty_contents,
    kp_empty_contents := k_empty_contents,
    f_check_request := ⟨_, fun_mk l_check_request c_check_request k_check_request, (fun_mk l_check_request c_check_request k_check_request).binds fun _ _ _ _ _ _ us hl => match us, hl with | [_, _, _], _ => rfl⟩,
    m_check_request := PySem.W.mg_of X G a_check_request,
    kp_check_request := k_check_request,
    f_inserted := ⟨_, fun_mk l_inserted c_inserted k_inserted, (fun_mk l_inserted c_inserted k_inserted).binds fun _ _ _ _ _ _ us hl => match us, hl with | [_, _, _], _ => rfl⟩,
    m_inserted := PySem.W.mg_of X G a_inserted,
    kp_inserted := k_inserted,
    f_after_request := ⟨_, fun_mk l_after_request c_after_request k_after_request, (fun_mk l_after_request c_after_request k_after_request).binds fun _ _ _ _ _ _ us hl => match us, hl with | [_, _, _, _], _ => rfl⟩,
    m_after_request := PySem.W.mg_of X G a_after_request,
    kp_after_request := k_after_request,
    fi_Chain__getitem := fi_Chain__getitem,
    n_list := PySem.W.mg_none_of X G n_list,
    n_range := PySem.W.mg_none_of X G n_range,
    f_Run__init := ⟨_, fun_mk l_Run__init c_Run__init k_Run__init, (fun_mk l_Run__init c_Run__init k_Run__init).binds fun _ _ _ _ _ _ us hl => match us, hl with | [_, _], _ => rfl⟩,
    mk_Run := ⟨mk_1, a_Run__init, i_Run__init, kC_1⟩,
    na_Run_chain := na_1_chain,
    na_Run_contents := na_1_contents,
    na_Run_done := na_1_done,
    na_Run_log := na_1_log,
    na_Run_undone := na_1_undone,
    f_Run_contents := ⟨_, fun_mk l_Run_contents c_Run_contents k_Run_contents, (fun_mk l_Run_contents c_Run_contents k_Run_contents).binds fun _ _ _ _ _ _ us hl => match us, hl with | [_], _ => rfl⟩,
    pr_Run_contents := ⟨a_Run_contents, g_Run_contents, t_Run_contents, _, r0_Run_contents⟩,
    f_Run_rows_of := ⟨_, fun_mk l_Run_rows_of c_Run_rows_of k_Run_rows_of, (fun_mk l_Run_rows_of c_Run_rows_of k_Run_rows_of).binds fun _ _ _ _ _ _ us hl => match us, hl with | [_, _], _ => rfl⟩,
    me_Run_rows_of := ⟨a_Run_rows_of, i_Run_rows_of, k_Run_rows_of⟩,
    f_Run_make_step := ⟨_, fun_mk l_Run_make_step c_Run_make_step k_Run_make_step, (fun_mk l_Run_make_step c_Run_make_step k_Run_make_step).binds fun _ _ _ _ _ _ us hl => match us, hl with | [_, _, _, _], _ => rfl⟩,
    me_Run_make_step := ⟨a_Run_make_step, i_Run_make_step, k_Run_make_step⟩,
    f_Run_request_all := ⟨_, fun_mk l_Run_request_all c_Run_request_all k_Run_request_all, (fun_mk l_Run_request_all c_Run_request_all k_Run_request_all).binds fun _ _ _ _ _ _ us hl => match us, hl with | [_, _], _ => rfl⟩,
    me_Run_request_all := ⟨a_Run_request_all, i_Run_request_all, k_Run_request_all⟩,
    f_law_tape := ⟨_, fun_mk l_law_tape c_law_tape k_law_tape, (fun_mk l_law_tape c_law_tape k_law_tape).binds fun _ _ _ _ _ _ us hl => match us, hl with | [_], _ => rfl⟩,
    m_law_tape := PySem.W.mg_of X G a_law_tape,
    kp_law_tape := k_law_tape,
    f_law_pick := ⟨_, fun_mk l_law_pick c_law_pick k_law_pick, (fun_mk l_law_pick c_law_pick k_law_pick).binds fun _ _ _ _ _ _ us hl => match us, hl with | [_, _], _ => rfl⟩,
    m_law_pick := PySem.W.mg_of X G a_law_pick,
    kp_law_pick := k_law_pick,
    f_law_of := ⟨_, fun_mk l_law_of c_law_of k_law_of, (fun_mk l_law_of c_law_of k_law_of).binds fun _ _ _ _ _ _ us hl => match us, hl with | [_, _], _ => rfl⟩,
    m_law_of := PySem.W.mg_of X G a_law_of,
    kp_law_of := k_law_of,
    f_law_same := ⟨_, fun_mk l_law_same c_law_same k_law_same, (fun_mk l_law_same c_law_same k_law_same).binds fun _ _ _ _ _ _ us hl => match us, hl with | [_, _], _ => rfl⟩,
    m_law_same := PySem.W.mg_of X G a_law_same,
    kp_law_same := k_law_same,
    n_str := PySem.W.mg_none_of X G n_str,
    n_zip := PySem.W.mg_none_of X G n_zip,
    f_law_made := ⟨_, fun_mk l_law_made c_law_made k_law_made, (fun_mk l_law_made c_law_made k_law_made).binds fun _ _ _ _ _ _ us hl => match us, hl with | [_], _ => rfl⟩,
    m_law_made := PySem.W.mg_of X G a_law_made,
    kp_law_made := k_law_made,
    f_law_row := ⟨_, fun_mk l_law_row c_law_row k_law_row, (fun_mk l_law_row c_law_row k_law_row).binds fun _ _ _ _ _ _ us hl => match us, hl with | [_, _, _], _ => rfl⟩,
    m_law_row := PySem.W.mg_of X G a_law_row,
    kp_law_row := k_law_row,
    n_sorted := PySem.W.mg_none_of X G n_sorted,
    f_law_rows := ⟨_, fun_mk l_law_rows c_law_rows k_law_rows, (fun_mk l_law_rows c_law_rows k_law_rows).binds fun _ _ _ _ _ _ us hl => match us, hl with | [_, _, _, _], _ => rfl⟩,
    m_law_rows := PySem.W.mg_of X G a_law_rows,
    kp_law_rows := k_law_rows,
    f_law_asks := ⟨_, fun_mk l_law_asks c_law_asks k_law_asks, (fun_mk l_law_asks c_law_asks k_law_asks).binds fun _ _ _ _ _ _ us hl => match us, hl with | [_, _, _, _], _ => rfl⟩,
    m_law_asks := PySem.W.mg_of X G a_law_asks,
    kp_law_asks := k_law_asks,
    f_law := ⟨_, fun_mk l_law c_law k_law, (fun_mk l_law c_law k_law).binds fun _ _ _ _ _ _ us hl => match us, hl with | [_], _ => rfl⟩,
    m_law := PySem.W.mg_of X G a_law,
    kp_law := k_law,
    c_Chain := rfl,
    mC_Chain := PySem.W.mg_of X G aC,
    kl_Chain := ⟨pg, hd, po, sa⟩,
    c_Run := rfl,
    mC_Run := PySem.W.mg_of X G aC_1,
    kl_Run := ⟨pg_1, hd_1, po_1, sa_1⟩,
    tab := tab_two rfl ⟨pg, hd, po, sa⟩ (fun f hf => by
      simp only [List.mem_cons, List.not_mem_nil, or_false] at hf
      rcases hf with rfl
      · exact na_rows) ⟨o_ha, o_hn, o_ht, o_hm, o_i1, o_i2, o_i3, o_i4, o_i5, o_kc, o_kt, o_j0, o_j1, o_j2, o_j3, o_j4, o_j5⟩ ⟨pg_1, hd_1, po_1, sa_1⟩ (fun f hf => by
      simp only [List.mem_cons, List.not_mem_nil, or_false] at hf
      rcases hf with rfl | rfl | rfl | rfl | rfl
      · exact na_1_chain
      · exact na_1_contents
      · exact na_1_log
      · exact na_1_done
      · exact na_1_undone) ⟨o_1_ha, o_1_hn, o_1_ht, o_1_hm, o_1_i1, o_1_i2, o_1_i3, o_1_i4, o_1_i5, o_1_kc, o_1_kt, o_1_j0, o_1_j1, o_1_j2, o_1_j3, o_1_j4, o_1_j5⟩ dCC sCC dDD sDD }
  exact (ok_law T (fun_mk l_law c_law k_law)).imp fun vs H Q E hs => law_end (g := { prog := PySem.Challenge.pw_shelfdoors_k35_whole_entries_that_are_no, w := w, K := K, mg := mg, base := base, cls := clsTwo C (["_rows"] : List Str) C1 (["_chain", "_contents", "_log", "_done", "_undone"] : List Str), exc := fun _ => none : CL.G }) hm vs H Q E hs
end K35
open PySem PySem.W PyProof.Rows
set_option maxHeartbeats 0 in
theorem PySem.Challenge.cw_shelfdoors_k35_whole_entries_that_are_no_holds : PySem.Challenge.rw_shelfdoors_k35_whole_entries_that_are_no.Holds := by
  w_on; o_law; k_head; (case hw => w_witness2)
  k_fill
  refine L2.walk_of (l := PySem.Challenge.rw_shelfdoors_k35_whole_entries_that_are_no) (n := 63) (k := 7) (x := "_law_script") (CX := fun w => L2.CX PySem.Challenge.pw_shelfdoors_k35_whole_entries_that_are_no w) (sp := fun w => CL.spLaw _) rfl (by decide) rfl ⟨rfl, by decide, by decide⟩ (fun w h Y => PySem.W.kIn_of Y) ?F (fun _ _ a ns hl _ hS => ⟨a, ns, rfl, hS, hl, fun p hp => absurd hp List.not_mem_nil, fun _ => rfl⟩) (fun w H s e s' z => CL.cx_none H s e s' z)
  case F =>
    intro w mg fa h KX G hmg
    refine' K35.all_mk KX G hmg ?aC ?aC_1 ?a_is_between ?l_is_between ?c_is_between ?k_is_between ?a_is_item_or_anonymous ?l_is_item_or_anonymous ?c_is_item_or_anonymous ?k_is_item_or_anonymous ?a_check_rows ?l_check_rows ?c_check_rows ?k_check_rows ?a_Chain__init ?i_Chain__init ?l_Chain__init ?c_Chain__init ?k_Chain__init ?mk ?kC ?a_Chain_segments ?g_Chain_segments ?t_Chain_segments ?r0_Chain_segments ?l_Chain_segments ?c_Chain_segments ?k_Chain_segments ?a_Chain_entries ?g_Chain_entries ?t_Chain_entries ?r0_Chain_entries ?l_Chain_entries ?c_Chain_entries ?k_Chain_entries ?a_Chain__getitem ?i_Chain__getitem ?l_Chain__getitem ?c_Chain__getitem ?k_Chain__getitem ?a_Chain_without_entry ?i_Chain_without_entry ?l_Chain_without_entry ?c_Chain_without_entry ?k_Chain_without_entry ?a_empty_contents ?l_empty_contents ?c_empty_contents ?k_empty_contents ?a_check_request ?l_check_request ?c_check_request ?k_check_request ?a_inserted ?l_inserted ?c_inserted ?k_inserted ?a_after_request ?l_after_request ?c_after_request ?k_after_request ?a_Run__init ?i_Run__init ?l_Run__init ?c_Run__init ?k_Run__init ?mk_1 ?kC_1 ?a_Run_contents ?g_Run_contents ?t_Run_contents ?r0_Run_contents ?l_Run_contents ?c_Run_contents ?k_Run_contents ?a_Run_rows_of ?i_Run_rows_of ?l_Run_rows_of ?c_Run_rows_of ?k_Run_rows_of ?a_Run_make_step ?i_Run_make_step ?l_Run_make_step ?c_Run_make_step ?k_Run_make_step ?a_Run_request_all ?i_Run_request_all ?l_Run_request_all ?c_Run_request_all ?k_Run_request_all ?a_law_tape ?l_law_tape ?c_law_tape ?k_law_tape ?a_law_pick ?l_law_pick ?c_law_pick ?k_law_pick ?a_law_of ?l_law_of ?c_law_of ?k_law_of ?a_law_same ?l_law_same ?c_law_same ?k_law_same ?a_law_made ?l_law_made ?c_law_made ?k_law_made ?a_law_row ?l_law_row ?c_law_row ?k_law_row ?a_law_rows ?l_law_rows ?c_law_rows ?k_law_rows ?a_law_asks ?l_law_asks ?c_law_asks ?k_law_asks ?a_law ?l_law ?c_law ?k_law ?pg ?hd ?po ?sa ?na_rows ?o_ha ?o_hn ?o_ht ?o_hm ?o_i1 ?o_i2 ?o_i3 ?o_i4 ?o_i5 ?o_kc ?o_kt ?o_j0 ?o_j1 ?o_j2 ?o_j3 ?o_j4 ?o_j5 ?pg_1 ?hd_1 ?po_1 ?sa_1 ?na_1_chain ?na_1_contents ?na_1_log ?na_1_done ?na_1_undone ?o_1_ha ?o_1_hn ?o_1_ht ?o_1_hm ?o_1_i1 ?o_1_i2 ?o_1_i3 ?o_1_i4 ?o_1_i5 ?o_1_kc ?o_1_kt ?o_1_j0 ?o_1_j1 ?o_1_j2 ?o_1_j3 ?o_1_j4 ?o_1_j5 ?dCC ?sCC ?dDD ?sDD ?n_bool ?n_int ?n_isinstance ?gv_ANONYMOUS ?gv_MAX_ITEM ?rd ?ga ?v_MAX_CAPACITY ?v_MAX_LEVELS ?v_MAX_SEGMENTS ?n_all ?n_enumerate ?n_len ?n_tuple ?fi_Chain__getitem ?n_list ?n_range ?n_str ?n_zip ?n_sorted K35.maths
    (case aC => k_is); (case aC_1 => k_is); (case a_is_between => k_is); (case l_is_between => k_is); (case c_is_between => k_is); (case k_is_between => k_is); (case a_is_item_or_anonymous => k_is); (case l_is_item_or_anonymous => k_is); (case c_is_item_or_anonymous => k_is); (case k_is_item_or_anonymous => k_is); (case a_check_rows => k_is); (case l_check_rows => k_is); (case c_check_rows => k_is); (case k_check_rows => k_is); (case a_Chain__init => k_is); (case i_Chain__init => k_is); (case l_Chain__init => k_is); (case c_Chain__init => k_is); (case k_Chain__init => k_is); (case mk => k_is); (case kC => k_is); (case a_Chain_segments => k_is); (case g_Chain_segments => k_is); (case t_Chain_segments => k_is); (case r0_Chain_segments => k_is); (case l_Chain_segments => k_is); (case c_Chain_segments => k_is); (case k_Chain_segments => k_is); (case a_Chain_entries => k_is); (case g_Chain_entries => k_is); (case t_Chain_entries => k_is); (case r0_Chain_entries => k_is); (case l_Chain_entries => k_is); (case c_Chain_entries => k_is); (case k_Chain_entries => k_is); (case a_Chain__getitem => k_is); (case i_Chain__getitem => k_is); (case l_Chain__getitem => k_is); (case c_Chain__getitem => k_is); (case k_Chain__getitem => k_is); (case a_Chain_without_entry => k_is); (case i_Chain_without_entry => k_is); (case l_Chain_without_entry => k_is); (case c_Chain_without_entry => k_is); (case k_Chain_without_entry => k_is); (case a_empty_contents => k_is); (case l_empty_contents => k_is); (case c_empty_contents => k_is); (case k_empty_contents => k_is); (case a_check_request => k_is); (case l_check_request => k_is); (case c_check_request => k_is); (case k_check_request => k_is); (case a_inserted => k_is); (case l_inserted => k_is); (case c_inserted => k_is); (case k_inserted => k_is); (case a_after_request => k_is); (case l_after_request => k_is); (case c_after_request => k_is); (case k_after_request => k_is); (case a_Run__init => k_is); (case i_Run__init => k_is); (case l_Run__init => k_is); (case c_Run__init => k_is); (case k_Run__init => k_is); (case mk_1 => k_is); (case kC_1 => k_is); (case a_Run_contents => k_is); (case g_Run_contents => k_is); (case t_Run_contents => k_is); (case r0_Run_contents => k_is); (case l_Run_contents => k_is); (case c_Run_contents => k_is); (case k_Run_contents => k_is); (case a_Run_rows_of => k_is); (case i_Run_rows_of => k_is); (case l_Run_rows_of => k_is); (case c_Run_rows_of => k_is); (case k_Run_rows_of => k_is); (case a_Run_make_step => k_is); (case i_Run_make_step => k_is); (case l_Run_make_step => k_is); (case c_Run_make_step => k_is); (case k_Run_make_step => k_is); (case a_Run_request_all => k_is); (case i_Run_request_all => k_is); (case l_Run_request_all => k_is); (case c_Run_request_all => k_is); (case k_Run_request_all => k_is); (case a_law_tape => k_is); (case l_law_tape => k_is); (case c_law_tape => k_is); (case k_law_tape => k_is); (case a_law_pick => k_is); (case l_law_pick => k_is); (case c_law_pick => k_is); (case k_law_pick => k_is); (case a_law_of => k_is); (case l_law_of => k_is); (case c_law_of => k_is); (case k_law_of => k_is); (case a_law_same => k_is); (case l_law_same => k_is); (case c_law_same => k_is); (case k_law_same => k_is); (case a_law_made => k_is); (case l_law_made => k_is); (case c_law_made => k_is); (case k_law_made => k_is); (case a_law_row => k_is); (case l_law_row => k_is); (case c_law_row => k_is); (case k_law_row => k_is); (case a_law_rows => k_is); (case l_law_rows => k_is); (case c_law_rows => k_is); (case k_law_rows => k_is); (case a_law_asks => k_is); (case l_law_asks => k_is); (case c_law_asks => k_is); (case k_law_asks => k_is); (case a_law => k_is); (case l_law => k_is); (case c_law => k_is); (case k_law => k_is); (case pg => k_is); (case hd => k_is); (case po => k_is); (case sa => k_is); (case na_rows => k_is); (case o_ha => k_is); (case o_hn => k_is); (case o_ht => k_is); (case o_hm => k_is); (case o_i1 => k_is); (case o_i2 => k_is); (case o_i3 => k_is); (case o_i4 => k_is); (case o_i5 => k_is); (case o_kc => k_is); (case o_kt => k_is); (case o_j0 => k_is); (case o_j1 => k_is); (case o_j2 => k_is); (case o_j3 => k_is); (case o_j4 => k_is); (case o_j5 => k_is); (case pg_1 => k_is); (case hd_1 => k_is); (case po_1 => k_is); (case sa_1 => k_is); (case na_1_chain => k_is); (case na_1_contents => k_is); (case na_1_log => k_is); (case na_1_done => k_is); (case na_1_undone => k_is); (case o_1_ha => k_is); (case o_1_hn => k_is); (case o_1_ht => k_is); (case o_1_hm => k_is); (case o_1_i1 => k_is); (case o_1_i2 => k_is); (case o_1_i3 => k_is); (case o_1_i4 => k_is); (case o_1_i5 => k_is); (case o_1_kc => k_is); (case o_1_kt => k_is); (case o_1_j0 => k_is); (case o_1_j1 => k_is); (case o_1_j2 => k_is); (case o_1_j3 => k_is); (case o_1_j4 => k_is); (case o_1_j5 => k_is); (case dCC => first | rfl | decide | k_is); (case sCC => k_is); (case dDD => first | rfl | decide | k_is); (case sDD => k_is); (case n_bool => k_is); (case n_int => k_is); (case n_isinstance => k_is); (case gv_ANONYMOUS => k_is); (case gv_MAX_ITEM => k_is); (case rd => k_is); (case ga => k_is); (case v_MAX_CAPACITY => k_is); (case v_MAX_LEVELS => k_is); (case v_MAX_SEGMENTS => k_is); (case n_all => k_is); (case n_enumerate => k_is); (case n_len => k_is); (case n_tuple => k_is); (case fi_Chain__getitem => k_is); (case n_list => k_is); (case n_range => k_is); (case n_str => k_is); (case n_zip => k_is); (case n_sorted => k_is)
