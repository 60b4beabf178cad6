import PyProof.Rows.All
import Wide.All
import OpenK.AllK
import Wide.FinOn
import HandS.ForMost
import HandS.ForExc
import HandS.CallSlots
import HandS.Star
import HandS.Property
import HandS.ClsMeth
import HandS.CallLocal
import HandS.GenList
import HandS.TupAny
import HandS.SortOrd
import HandS.SortInts
import HandS.Deep
import HandS.TupMul
import HandS.IsInst
import HandS.FStr
import HandS.Conv
import HandS.Zip
import HandS.TryMany
import HandS.ExcField
import HandS.Flow
import HandS.Lambda
import KE.GoesMore
import KE.KFmtOwn
import HandS.RaiseMore
import KE.KCallOwn
import HandS.ExcInit
import HandS.HotCalls
import HandS.EndOwn
import KE.KNestM
import HandS.TupLe
import HandS.Style
import KE.DatumOrd
import HandS.Defaults
import HandS.SetFor
import HandS.Strs
import HandS.List
import KE.GoesRaise
import HandS.Text
import PyProof.StrBlock2
import PySem.Challenge.RW_shelfdoors_k03_texts_that_are_no_chains
set_option Elab.async false
set_option linter.all false
set_option maxRecDepth 100000
set_option maxHeartbeats 4000000
set_option autoImplicit false
namespace CL
open PySem PySem.Spec PyProof.Rows L2
inductive D where
  | non | bl (b : Bool) | int (i : Int) | str (x : Str)
  | tup (xs : List D) | lst (xs : List D) | obj (c : Nat) (vs : List D) | ref (n : Nat)
  | scr (ns : List Int)
  | exn (c : Nat) (vs : List D)

inductive O where
  | lst (xs : List D)
  | ins (c : Nat) (fs : List (Str × D))

inductive Sl where
  | no | val (d : D) | own (o : O)

structure CS where
  sl : List Sl
  S : List O

inductive R (α : Type) where
  | ok (a : α) (c : CS)
  | exc (cn : Nat) (vs : List D) (c : CS)
  | stuck

abbrev M (α : Type) := CS → R α
def R.bind {α β : Type} (r : R α) (k : α → CS → R β) : R β := match r with
  | .ok a c => k a c
  | .exc cn vs c => .exc cn vs c
  | .stuck => .stuck
def M.bind {α β : Type} (f : M α) (k : α → M β) : M β := fun c => (f c).bind k
def M.ret {α : Type} (a : α) : M α := fun c => .ok a c
def M.opt {α : Type} : Option α → M α
  | some a => fun c => .ok a c
  | none => fun _ => .stuck
structure G where
  prog : Program
  w : World
  K : PySem.W.Frag
  mg : Str → Option Value
  base : Heap
  cls : Nat → Option (Addr × List Str)
  exc : Nat → Option (Addr × List Str)
  T : List (Addr × Str) := []

structure Mp where
  rho : List Addr
  F : Hp
  B : Hp
  lam : Nat → Addr
  ini : Addr

structure Ext (m m' : Mp) : Prop where
  r : ∀ (n : Nat) (a : Addr), m.rho[n]? = some a → m'.rho[n]? = some a
  f : ∀ (a : Addr) (o : HO), m.F a = some o → m'.F a = some o
  b : m'.B = m.B
  i : m'.ini = m.ini
theorem Ext.rfl' {m : Mp} : Ext m m := ⟨fun _ _ h => h, fun _ _ h => h, rfl, rfl⟩
theorem Ext.trans {m m1 m2 : Mp} (a : Ext m m1) (b : Ext m1 m2) : Ext m m2 := ⟨fun n x h => b.r n x (a.r n x h), fun x o h => b.f x o (a.f x o h), b.b.trans a.b, b.i.trans a.i⟩
def exq (a C d : Addr) : HO := .ext fun h => ∃ (o : Obj) (vs : Array Value), h.get? a = some o ∧ o.cls = .ref C ∧ o.dict = some d ∧ o.data = .fields vs
def NoT (F : Hp) : Prop := ∀ a ps, F a ≠ some (.tbl ps)
theorem NoT.put {F : Hp} {p : Addr} {u : HO} (h : NoT F) (nt : ∀ ps, u ≠ .tbl ps) : NoT (upd F p u) := fun a ps z => by
  by_cases e : a = p
  · rw [e, upd_same] at z
    exact nt ps (Option.some.inj z)
  · rw [upd_ne e] at z
    exact h a ps z
def TbAt (F H : Hp) (p : Addr × Str) : Prop := ∃ ps : Array Value, H p.1 = some (.tbl ps) ∧ TriplesOk ps.toList ∧ ∀ (pos : Pos) (cv : Value), codeAmong pos ps.toList = some cv → ∃ c, cv = .ref c ∧ F c = some (LamX.CodeO c p.2)
def Tb (T : List (Addr × Str)) (F H : Hp) : Prop := NoT F ∧ ∀ p ∈ T, TbAt F H p
theorem TbAt.ext {F F' H H' : Hp} {p : Addr × Str} (h : TbAt F H p) (eF : ∀ a o, F a = some o → F' a = some o) (eH : ∀ ps, H p.1 = some (.tbl ps) → H' p.1 = some (.tbl ps)) : TbAt F' H' p := by
  obtain ⟨ps, h1, h2, h3⟩ := h
  refine ⟨ps, eH _ h1, h2, fun pos cv hc => ?_⟩
  obtain ⟨c, e1, e2⟩ := h3 pos cv hc
  exact ⟨c, e1, eF _ _ e2⟩
theorem Tb.ext {T : List (Addr × Str)} {F F' H H' : Hp} (h : Tb T F H) (eF : ∀ a o, F a = some o → F' a = some o) (nF : NoT F') (eH : ∀ a ps, H a = some (.tbl ps) → H' a = some (.tbl ps)) : Tb T F' H' := ⟨nF, fun p hp => (h.2 p hp).ext eF (eH p.1)⟩
theorem Tb.wr {T : List (Addr × Str)} {F F' H : Hp} {a : Addr} {u : HO} (h : Tb T F H) (eF : ∀ a o, F a = some o → F' a = some o) (nF : NoT F') (ha : ∀ ps, H a ≠ some (.tbl ps)) : Tb T F' (upd H a u) := h.ext eF nF fun b ps z => by
  have ne : b ≠ a := fun e => ha ps (by rw [← e]; exact z)
  rw [upd_ne ne]
  exact z
theorem Tb.new {T : List (Addr × Str)} {F F' H : Hp} {a : Addr} {u : HO} (h : Tb T F H) (eF : ∀ a o, F a = some o → F' a = some o) (nF : NoT F') (ha : H a = none) : Tb T F' (upd H a u) := h.wr eF nF fun ps z => by rw [ha] at z; cases z
theorem Tb.mut {T : List (Addr × Str)} {F H : Hp} {a : Addr} {u u' : HO} (h : Tb T F H) (ha : H a = some u) (nt : ∀ ps, u ≠ .tbl ps) : Tb T F (upd H a u') := h.wr (fun _ _ z => z) h.1 fun ps z => by
  rw [ha] at z
  exact nt ps (Option.some.inj z)
mutual
inductive Sv (g : G) (m : Mp) : D → V → Prop
  | non : Sv g m .non .non
  | bl (b : Bool) : Sv g m (.bl b) (.bl b)
  | int (i : Int) : Sv g m (.int i) (.int i)
  | str (x : Str) : Sv g m (.str x) (.str x)
  | tup {a : Addr} {ds : List D} {xs : List V} : SqT g.K m.F a xs → Svs g m ds xs → Sv g m (.tup ds) (.ref a)
  | lst {a : Addr} {ds : List D} {xs : List V} : m.F a = some (.lst xs) → Svs g m ds xs → Sv g m (.lst ds) (.ref a)
  | obj {c : Nat} {ds : List D} {a C dx : Addr} {ns : List Str} {ws : List V} : g.cls c = some (C, ns) → m.F a = some (.ins C dx (ns.zip ws)) → Svs g m ds ws → ds.length = ns.length → Sv g m (.obj c ds) (.ref a)
  | ref {n : Nat} {a : Addr} : m.rho[n]? = some a → Sv g m (.ref n) (.ref a)
  | scr {ns : List Int} {a : Addr} : SqL g.K m.F a (ns.map V.int) → Sv g m (.scr ns) (.ref a)
  | exn {c : Nat} {ds : List D} {a C dd : Addr} {ns : List Str} {ws : List V} : g.exc c = some (C, ns) → m.F a = some (exq a C dd) → m.F dd = some (.xd (ns.zip ws)) → Svs g m ds ws → ds.length = ns.length → Sv g m (.exn c ds) (.ref a)
inductive Svs (g : G) (m : Mp) : List D → List V → Prop
  | nil : Svs g m [] []
  | cons {d : D} {v : V} {ds : List D} {vs : List V} : Sv g m d v → Svs g m ds vs → Svs g m (d :: ds) (v :: vs)
end

theorem sqT_mono {K : PySem.W.Frag} {H H' : Hp} {a : Addr} {xs : List V} (e : ∀ a o, H a = some o → H' a = some o) (h : SqT K H a xs) : SqT K H' a xs := by
  rcases h with h | h
  · refine Or.inl ?_
    rcases h with h | ⟨o, h⟩
    · exact Or.inl (e _ _ h)
    · exact Or.inr ⟨o, e _ _ h⟩
  · exact Or.inr h
theorem sqL_mono {K : PySem.W.Frag} {H H' : Hp} {a : Addr} {xs : List V} (e : ∀ a o, H a = some o → H' a = some o) (h : SqL K H a xs) : SqL K H' a xs := by
  rcases h with h | h
  · refine Or.inl ?_
    rcases h with h | ⟨o, h⟩
    · exact Or.inl (e _ _ h)
    · exact Or.inr ⟨o, e _ _ h⟩
  · exact Or.inr h

mutual
theorem Sv.mono {g : G} {m m' : Mp} (e : Ext m m') : ∀ {d : D} {v : V}, Sv g m d v → Sv g m' d v
  | _, _, .non => .non
  | _, _, .bl b => .bl b
  | _, _, .int i => .int i
  | _, _, .str x => .str x
  | _, _, .tup h r => .tup (sqT_mono e.f h) (Svs.mono e r)
  | _, _, .lst h r => .lst (e.f _ _ h) (Svs.mono e r)
  | _, _, .scr h => .scr (sqL_mono e.f h)
  | _, _, .obj c h r l => .obj c (e.f _ _ h) (Svs.mono e r) l
  | _, _, .exn c h h2 r l => .exn c (e.f _ _ h) (e.f _ _ h2) (Svs.mono e r) l
  | _, _, .ref h => .ref (e.r _ _ h)
theorem Svs.mono {g : G} {m m' : Mp} (e : Ext m m') : ∀ {ds : List D} {vs : List V}, Svs g m ds vs → Svs g m' ds vs
  | _, _, .nil => .nil
  | _, _, .cons a b => .cons (Sv.mono e a) (Svs.mono e b)
end
section
variable {g : G} {m : Mp}
theorem Svs.length {ds : List D} {vs : List V} (h : Svs g m ds vs) : ds.length = vs.length := by
  induction ds generalizing vs with
  | nil => cases h; rfl
  | cons d ds ih =>
    cases h with
    | cons a b => rw [List.length_cons, List.length_cons, ih b]
theorem Svs.get {ds : List D} {vs : List V} (h : Svs g m ds vs) {i : Nat} {d : D} (e : ds[i]? = some d) : ∃ v, vs[i]? = some v ∧ Sv g m d v := by
  induction ds generalizing vs i with
  | nil => simp at e
  | cons x ds ih =>
    cases h with
    | cons a b =>
      cases i with
      | zero =>
        simp at e
        subst e
        exact ⟨_, rfl, a⟩
      | succ i =>
        obtain ⟨v, e1, e2⟩ := ih b (i := i) (by simpa using e)
        exact ⟨v, by simpa using e1, e2⟩
theorem Svs.append {ds es : List D} {vs ws : List V} (h : Svs g m ds vs) (k : Svs g m es ws) : Svs g m (ds ++ es) (vs ++ ws) := by
  induction ds generalizing vs with
  | nil => cases h; exact k
  | cons d ds ih =>
    cases h with
    | cons a b => exact .cons a (ih b)
theorem Svs.take {ds : List D} {vs : List V} (n : Nat) (h : Svs g m ds vs) : Svs g m (ds.take n) (vs.take n) := by
  induction ds generalizing vs n with
  | nil => cases h; simp; exact .nil
  | cons d ds ih =>
    cases h with
    | cons a b =>
      cases n with
      | zero => simp; exact .nil
      | succ n => exact .cons a (ih n b)
theorem Svs.drop {ds : List D} {vs : List V} (n : Nat) (h : Svs g m ds vs) : Svs g m (ds.drop n) (vs.drop n) := by
  induction ds generalizing vs n with
  | nil => cases h; simp; exact .nil
  | cons d ds ih =>
    cases h with
    | cons a b =>
      cases n with
      | zero => exact .cons a b
      | succ n => exact ih n b
theorem Svs.set {ds : List D} {vs : List V} (i : Nat) {d : D} {v : V} (h : Svs g m ds vs) (k : Sv g m d v) : Svs g m (ds.set i d) (vs.set i v) := by
  induction ds generalizing vs i with
  | nil => cases h; simp; exact .nil
  | cons x ds ih =>
    cases h with
    | cons a b =>
      cases i with
      | zero => exact .cons k b
      | succ i => exact .cons a (ih i b)
end
inductive Sfs (g : G) (m : Mp) : List (Str × D) → List (Str × V) → Prop
  | nil : Sfs g m [] []
  | cons {f : Str} {d : D} {v : V} {fs : List (Str × D)} {ws : List (Str × V)} : Sv g m d v → Sfs g m fs ws → Sfs g m ((f, d) :: fs) ((f, v) :: ws)
theorem Sfs.mono {g : G} {m m' : Mp} (e : Ext m m') {fs : List (Str × D)} {ws : List (Str × V)} (h : Sfs g m fs ws) : Sfs g m' fs ws := by
  induction h with
  | nil => exact .nil
  | cons a _ ih => exact .cons (a.mono e) ih
theorem Sfs.lookup {g : G} {m : Mp} {fs : List (Str × D)} {ws : List (Str × V)} (h : Sfs g m fs ws) {f : Str} {d : D} (e : fs.lookup f = some d) : ∃ v, ws.lookup f = some v ∧ Sv g m d v := by
  induction h with
  | nil => simp at e
  | @cons x d' v fs ws a _ ih =>
    rw [List.lookup_cons] at e ⊢
    by_cases q : f = x
    · subst q
      simp at e ⊢
      subst e
      exact a
    · have qb : (f == x) = false := beq_eq_false_iff_ne.mpr q
      rw [qb] at e ⊢
      exact ih e
theorem Sfs.lookup_none {g : G} {m : Mp} {fs : List (Str × D)} {ws : List (Str × V)} (h : Sfs g m fs ws) {f : Str} (e : fs.lookup f = none) : ws.lookup f = none := by
  induction h with
  | nil => rfl
  | @cons x d' v fs ws a _ ih =>
    rw [List.lookup_cons] at e ⊢
    by_cases q : f = x
    · subst q
      simp at e
    · have qb : (f == x) = false := beq_eq_false_iff_ne.mpr q
      rw [qb] at e ⊢
      exact ih e
def putD (f : Str) (d : D) : List (Str × D) → List (Str × D)
  | [] => [(f, d)]
  | (x, y) :: r => if x = f then (x, d) :: r else (x, y) :: putD f d r
theorem Sfs.put {g : G} {m : Mp} {fs : List (Str × D)} {ws : List (Str × V)} (h : Sfs g m fs ws) {f : Str} {d : D} {v : V} (k : Sv g m d v) : Sfs g m (putD f d fs) (putF f v ws) := by
  induction h with
  | nil => exact .cons k .nil
  | @cons x d' v' fs ws a b ih =>
    unfold putD putF
    by_cases q : x = f
    · rw [if_pos q, if_pos q]
      exact .cons k b
    · rw [if_neg q, if_neg q]
      exact .cons a ih
theorem Sfs.length {g : G} {m : Mp} {fs : List (Str × D)} {ws : List (Str × V)} (h : Sfs g m fs ws) : fs.length = ws.length := by
  induction h with
  | nil => rfl
  | cons _ _ ih => rw [List.length_cons, List.length_cons, ih]

def So (g : G) (m : Mp) (H : Hp) (a : Addr) : O → Prop
  | .lst xs => ∃ vs, H a = some (.lst vs) ∧ Svs g m xs vs
  | .ins c fs => ∃ C ns dx ws, g.cls c = some (C, ns) ∧ H a = some (.ins C dx ws) ∧ Sfs g m fs ws
theorem So.mono {g : G} {m m' : Mp} {H H' : Hp} {a : Addr} {o : O} (e : Ext m m') (k : H' a = H a) (h : So g m H a o) : So g m' H' a o := by
  cases o with
  | lst xs =>
    obtain ⟨vs, h1, h2⟩ := h
    exact ⟨vs, k.trans h1, h2.mono e⟩
  | ins c fs =>
    obtain ⟨C, ns, dx, ws, h1, h2, h3⟩ := h
    exact ⟨C, ns, dx, ws, h1, k.trans h2, h3.mono e⟩
theorem So.here {g : G} {m : Mp} {H : Hp} {a : Addr} {o : O} (h : So g m H a o) : ∃ u, H a = Option.some u ∧ Mut (Option.some u) := by
  cases o with
  | lst xs =>
    obtain ⟨vs, h1, _⟩ := h
    exact ⟨_, h1, trivial⟩
  | ins c fs =>
    obtain ⟨C, ns, dx, ws, _, h2, _⟩ := h
    exact ⟨_, h2, trivial⟩
structure Own (m : Mp) (sl : List Sl) (i : Nat) : Prop where
  fr : m.F (m.lam i) = none
  bk : m.B (m.lam i) = none
  rh : m.lam i ∉ m.rho
  ap : ∀ (j : Nat) (o : O), sl[j]? = some (.own o) → m.lam j = m.lam i → j = i
def SlOk (g : G) (m : Mp) (sl : List Sl) (σ : L2.St) (H : Hp) (i : Nat) : Sl → Prop
  | .no => True
  | .val d => ∃ v, σ[i]? = some (some v) ∧ Sv g m d v
  | .own o => σ[i]? = some (some (.ref (m.lam i))) ∧ So g m H (m.lam i) o ∧ Own m sl i
def IniOk (m : Mp) (sl : List Sl) : Prop := ∀ (c : Nat) (fs : List (Str × D)), sl[(0 : Nat)]? = some (.own (.ins c fs)) → m.lam 0 = m.ini
theorem IniOk.set {m : Mp} {sl : List Sl} {i : Nat} {s : Sl} (h : IniOk m sl) (hs : ∀ c fs, s ≠ .own (.ins c fs)) : IniOk m (sl.set i s) := fun c fs e => by
  by_cases q : i = 0
  · subst q
    by_cases hl : 0 < sl.length
    · rw [List.getElem?_set_self hl] at e
      exact absurd (Option.some.inj e) (hs c fs)
    · rw [List.getElem?_eq_none (by rw [List.length_set]; omega)] at e
      cases e
  · rw [List.getElem?_set_ne q] at e
    exact h c fs e
theorem iniOk_nil {m : Mp} : IniOk m [] := fun c fs e => by simp at e
structure Sim (g : G) (m : Mp) (c : CS) (σ : L2.St) (H : Hp) : Prop where
  fr : ∀ (a : Addr) (o : HO), m.F a = some o → H a = some o
  nd : m.rho.Nodup
  tb : Tb g.T m.F H
  len : m.rho.length = c.S.length
  ini : IniOk m c.sl
  ln : c.sl.length = σ.length
  st : ∀ (n : Nat) (a : Addr) (o : O), m.rho[n]? = some a → c.S[n]? = some o → m.F a = none ∧ So g m H a o
  bk : ∀ (a : Addr) (o : HO), m.B a = some o → H a = some o ∧ m.F a = none ∧ a ∉ m.rho ∧ ∀ ps, o ≠ .tbl ps
  sl : ∀ (i : Nat) (s : Sl), c.sl[i]? = some s → SlOk g m c.sl σ H i s
theorem Sim.frozen {g : G} {m : Mp} {c : CS} {σ : L2.St} {H : Hp} (h : Sim g m c σ H) {p : Addr} {u : HO} (hp : H p = none) (nt : ∀ ps, u ≠ .tbl ps := by intro ps z; cases z) : Sim g { m with F := upd m.F p u } c σ (upd H p u) ∧ Ext m { m with F := upd m.F p u } := by
  have hF : m.F p = none := by
    cases e : m.F p with
    | none => rfl
    | some o => rw [h.fr p o e] at hp; cases hp
  have ex : Ext m { m with F := upd m.F p u } := ⟨fun _ _ z => z, fun a o z => by
    show upd m.F p u a = some o
    rw [upd_ne (ne_of_none z hF)]
    exact z, rfl, rfl⟩
  have keep : ∀ {a : Addr} {o : O}, So g m H a o → a ≠ p := fun {a o} z => by
    obtain ⟨w, e, _⟩ := z.here
    exact ne_of_none e hp
  refine ⟨⟨fun a o z => ?_, h.nd, h.tb.new ex.f (h.tb.1.put nt) hp, h.len, h.ini, h.ln, fun n a o h1 h2 => ?_, fun a o z => ?_, fun i s hs => ?_⟩, ex⟩
  · by_cases e : a = p
    · subst e
      have z' : upd m.F a u a = some o := z
      rw [upd_same] at z'
      rw [upd_same]
      exact z'
    · have z' : upd m.F p u a = some o := z
      rw [upd_ne e] at z' ⊢
      exact h.fr a o z'
  · obtain ⟨k1, k2⟩ := h.st n a o h1 h2
    have ne := keep k2
    refine ⟨?_, k2.mono ex (upd_ne ne)⟩
    show upd m.F p u a = none
    rw [upd_ne ne]
    exact k1
  · obtain ⟨z1, z2, z3, z4⟩ := h.bk a o z
    have ne : a ≠ p := ne_of_none z1 hp
    refine ⟨?_, ?_, z3, z4⟩
    · rw [upd_ne ne]
      exact z1
    · show upd m.F p u a = none
      rw [upd_ne ne]
      exact z2
  · have q := h.sl i s hs
    cases s with
    | no => trivial
    | val d =>
      obtain ⟨v, e1, e2⟩ := q
      exact ⟨v, e1, e2.mono ex⟩
    | own o =>
      obtain ⟨e1, e2, e3⟩ := q
      have ne := keep e2
      refine ⟨e1, e2.mono ex (upd_ne ne), ⟨?_, e3.bk, e3.rh, e3.ap⟩⟩
      show upd m.F p u (m.lam i) = none
      rw [upd_ne ne]
      exact e3.fr
theorem Sim.freeze {g : G} {m : Mp} {c : CS} {σ : L2.St} {H : Hp} (h : Sim g m c σ H) {i : Nat} {xs : List D} (hi : c.sl[i]? = some (.own (.lst xs))) :
    ∃ m' v, Ext m m' ∧ Sim g m' { c with sl := c.sl.set i (.val (.lst xs)) } σ H ∧ σ[i]? = some (some v) ∧ Sv g m' (.lst xs) v := by
  obtain ⟨e1, ⟨vs, e2, e3⟩, e4⟩ := h.sl i _ hi
  have ex : Ext m { m with F := upd m.F (m.lam i) (.lst vs) } := ⟨fun _ _ z => z, fun a o z => by
    show upd m.F _ _ a = some o
    rw [upd_ne (ne_of_none z e4.fr)]
    exact z, rfl, rfl⟩
  have val : Sv g { m with F := upd m.F (m.lam i) (.lst vs) } (.lst xs) (.ref (m.lam i)) := .lst upd_same (e3.mono ex)
  have hlt : i < c.sl.length := (List.getElem?_eq_some_iff.mp hi).1
  refine ⟨{ m with F := upd m.F (m.lam i) (.lst vs) }, .ref (m.lam i), ex, ⟨fun a o z => ?_, h.nd, h.tb.ext ex.f (h.tb.1.put fun _ z => nomatch z) (fun _ _ z => z), h.len, h.ini.set (fun _ _ z => nomatch z), by rw [← h.ln]; exact List.length_set, fun n a o h1 h2 => ?_, fun a o z => ?_, fun j s hs => ?_⟩, e1, val⟩
  · have z' : upd m.F (m.lam i) (.lst vs) a = some o := z
    by_cases e : a = m.lam i
    · subst e
      rw [upd_same] at z'
      cases z'
      exact e2
    · rw [upd_ne e] at z'
      exact h.fr a o z'
  · obtain ⟨k1, k2⟩ := h.st n a o h1 h2
    refine ⟨?_, k2.mono ex rfl⟩
    show upd m.F _ _ a = none
    rw [upd_ne (fun e => e4.rh (by rw [← e]; exact List.mem_of_getElem? h1))]
    exact k1
  · obtain ⟨z1, z2, z3, z4⟩ := h.bk a o z
    refine ⟨z1, ?_, z3, z4⟩
    show upd m.F _ _ a = none
    rw [upd_ne (fun e => by
      have z : m.B a = some o := z
      rw [e, e4.bk] at z
      cases z)]
    exact z2
  · have hs : (c.sl.set i (.val (.lst xs)))[j]? = some s := hs
    by_cases e : i = j
    · subst e
      rw [List.getElem?_set_self hlt] at hs
      cases hs
      exact ⟨_, e1, val⟩
    · rw [List.getElem?_set_ne e] at hs
      have q := h.sl j s hs
      cases s with
      | no => trivial
      | val d =>
        obtain ⟨v, q1, q2⟩ := q
        exact ⟨v, q1, q2.mono ex⟩
      | own o =>
        obtain ⟨q1, q2, q3⟩ := q
        have ne : m.lam j ≠ m.lam i := fun z => e (e4.ap j o hs z).symm
        refine ⟨q1, q2.mono ex rfl, ⟨?_, q3.bk, q3.rh, fun k o' hk z => ?_⟩⟩
        · show upd m.F _ _ (m.lam j) = none
          rw [upd_ne ne]
          exact q3.fr
        · have hk : (c.sl.set i (.val (.lst xs)))[k]? = some (.own o') := hk
          by_cases ek : i = k
          · subst ek
            rw [List.getElem?_set_self hlt] at hk
            cases hk
          · rw [List.getElem?_set_ne ek] at hk
            exact q3.ap k o' hk z
end CL
namespace CL
open PySem PySem.Spec PyProof.Rows L2
def Exr (g : G) (m : Mp) (cn : Nat) (vs : List D) (C : Value) (d : Option Addr) : Prop :=
  ∃ Ca ns dd ws, g.exc cn = some (Ca, ns) ∧ C = .ref Ca ∧ d = some dd ∧ m.F dd = some (.xd (ns.zip ws)) ∧ Svs g m vs ws ∧ vs.length = ns.length
abbrev Rl (α β : Type) := Mp → CS → Hp → α → β → Prop
def Out {α β : Type} (rel : Rl α β) (g : G) (W : WX) (σ : L2.St) (m : Mp) (r : R α) (Q : β → Hp → Prop) : Prop := match r with
  | .ok a c => ∀ m' b H', Ext m m' → Sim g m' c σ H' → rel m' c H' a b → Q b H'
  | .exc cn vs c => ∀ m' H' C d, Ext m m' → Sim g m' c σ H' → Exr g m' cn vs C d → W C d σ H'
  | .stuck => False
def rE (g : G) : Rl D V := fun m _ _ d v => Sv g m d v
def rB : Rl Bool Bool := fun _ _ _ a b => a = b
def rA (g : G) : Rl (List D) (List V) := fun m _ _ ds vs => Svs g m ds vs
def rO : Rl (Option Int) (Option Int) := fun _ _ _ a b => a = b
structure Fre (m : Mp) (c : CS) (p : Addr) : Prop where
  f : m.F p = none
  b : m.B p = none
  r : p ∉ m.rho
  o : ∀ (j : Nat) (o : O), c.sl[j]? = some (.own o) → m.lam j ≠ p
def rL (g : G) : Rl (List D) V := fun m c H xs v => ∃ p vs, v = .ref p ∧ H p = some (.lst vs) ∧ Svs g m xs vs ∧ Fre m c p
def tX {α β : Type} (rel : Rl α β) (g : G) (W : WX) (f : M α) : L2.St → Hp → (β → Hp → Prop) → Prop := fun σ H Q => ∃ m c, Sim g m c σ H ∧ Out rel g W σ m (f c) Q
abbrev tE (g : G) (W : WX) (f : M D) : TE := tX (rE g) g W f
abbrev tT (g : G) (W : WX) (f : M Bool) : TT := tX rB g W f
abbrev tA (g : G) (W : WX) (f : M (List D)) : TA := tX (rA g) g W f
abbrev tP (g : G) (W : WX) (f : M (Option Int)) : TO := tX rO g W f
abbrev tL (g : G) (W : WX) (f : M (List D)) : TE := tX (rL g) g W f

section
variable {α β γ δ : Type} {rel : Rl α β} {rel2 : Rl γ δ} {g : G} {W : WX} {σ : L2.St} {m m' : Mp} {H : Hp} {c : CS}
theorem Out.mono {r : R α} {Q : β → Hp → Prop} (e : Ext m m') (h : Out rel g W σ m r Q) : Out rel g W σ m' r Q := by
  cases r with
  | ok a c => exact fun m2 b H' x s k => h m2 b H' (e.trans x) s k
  | exc cn vs c => exact fun m2 H' C d x s k => h m2 H' C d (e.trans x) s k
  | stuck => exact h
theorem Out.imp {r : R α} {Q Q' : β → Hp → Prop} (h : Out rel g W σ m r Q) (i : ∀ b H, Q b H → Q' b H) : Out rel g W σ m r Q' := by
  cases r with
  | ok a c => exact fun m2 b H' x s k => i b H' (h m2 b H' x s k)
  | exc cn vs c => exact h
  | stuck => exact h
theorem Out.here {a : α} {b : β} {Q : β → Hp → Prop} (s : Sim g m c σ H) (h : Out rel g W σ m (.ok a c) Q) (k : rel m c H a b) : Q b H := h m b H Ext.rfl' s k
theorem Out.bind {r : R α} {k : α → CS → R γ} {Q : δ → Hp → Prop} (h : Out rel2 g W σ m (r.bind k) Q) :
    Out rel g W σ m r (fun b H' => ∃ m' a c', Ext m m' ∧ Sim g m' c' σ H' ∧ rel m' c' H' a b ∧ Out rel2 g W σ m' (k a c') Q) := by
  cases r with
  | ok a c => exact fun m2 b H' x s k' => ⟨m2, a, c, x, s, k', Out.mono x h⟩
  | exc cn vs c => exact h
  | stuck => exact h
end
def M.guard {α : Type} (b : Bool) (f : M α) : M α := fun c => match b with
  | true => f c
  | false => .stuck
theorem Out.guard {α β : Type} {rel : Rl α β} {g : G} {W : WX} {σ : L2.St} {m : Mp} {b : Bool} {f : M α} {c : CS} {Q : β → Hp → Prop} (h : Out rel g W σ m (M.guard b f c) Q) : b = true ∧ Out rel g W σ m (f c) Q := by
  cases b with
  | true => exact ⟨rfl, h⟩
  | false => exact h.elim
theorem Out.opt {α β γ : Type} {rel : Rl α β} {g : G} {W : WX} {σ : L2.St} {m : Mp} {a : Option α} {c : CS} {Q : β → Hp → Prop} (h : Out rel g W σ m (M.opt a c) Q) : ∃ x, a = some x ∧ Out rel g W σ m (.ok x c) Q := by
  cases a with
  | none => exact h.elim
  | some x => exact ⟨x, rfl, h⟩

theorem pe_imp {X : Cx} {e : Expr} {t t' : TE} (h : PE X e t) (i : ∀ σ H Q, t' σ H Q → t σ H Q) : PE X e t' := ⟨fun pins s σ H Q I q => h.run pins s σ H Q I (i σ H Q q)⟩
theorem pt_imp {X : Cx} {e : Expr} {t t' : TT} (h : PT X e t) (i : ∀ σ H Q, t' σ H Q → t σ H Q) : PT X e t' := ⟨fun pins s σ H Q I q => h.run pins s σ H Q I (i σ H Q q)⟩
theorem pw_imp {X : Cx} {e : Expr} {t t' : TT} (h : PW X e t) (i : ∀ σ H Q, t' σ H Q → t σ H Q) : PW X e t' := ⟨fun wh pins s σ H Q I q => h.run wh pins s σ H Q I (i σ H Q q)⟩
theorem pa_imp {X : Cx} {es : List Expr} {t t' : TA} (h : PA X es t) (i : ∀ σ H Q, t' σ H Q → t σ H Q) : PA X es t' := ⟨fun p pins s σ H Q I q => h.run p pins s σ H Q I (i σ H Q q)⟩
theorem po_imp {X : Cx} {e : Option Expr} {t t' : TO} (h : PO X e t) (i : ∀ σ H Q, t' σ H Q → t σ H Q) : PO X e t' := ⟨fun pins s σ H Q I q => h.run pins s σ H Q I (i σ H Q q)⟩
def cVar (i : Nat) : M D := fun c => match c.sl[i]? with
  | some (.val d) => .ok d c
  | some (.own (.lst xs)) => .ok (.lst xs) { c with sl := c.sl.set i (.val (.lst xs)) }
  | _ => .stuck
section
variable {X : Cx} {g : G} {W : WX} {pos : Pos}
theorem se_var {i : Nat} {x : Str} (hN : X.N[i]? = some x) (hv : Vis X.env.scope x) (hd : (x == ("__debug__" : Str)) = false) (hcd : (x == ("__classdict__" : Str)) = false) : PE X (.Name x pos) (tE g W (cVar i)) := by
  refine pe_imp (pe_var hN hv hd hcd) fun σ H Q ⟨m, c, s, h⟩ => ?_
  unfold cVar at h
  cases e : c.sl[i]? with
  | none => rw [e] at h; exact h.elim
  | some t =>
    rw [e] at h
    cases t with
    | no => exact h.elim
    | val d =>
      obtain ⟨v, e1, e2⟩ := s.sl i _ e
      exact ⟨v, e1, h.here s e2⟩
    | own o =>
      cases o with
      | ins _ _ => exact h.elim
      | lst xs =>
        obtain ⟨m', v, x1, s1, e1, e2⟩ := s.freeze e
        exact ⟨v, e1, (h.mono x1).here s1 e2⟩
theorem se_int {i : Int} {j : Nat} : PE X (.Constant (.int i) j pos) (tE g W (M.ret (.int i))) := pe_imp pe_int fun σ H Q ⟨m, c, s, h⟩ => h.here s (.int i)
theorem se_bl {b : Bool} {j : Nat} : PE X (.Constant (.bool b) j pos) (tE g W (M.ret (.bl b))) := pe_imp pe_bl fun σ H Q ⟨m, c, s, h⟩ => h.here s (.bl b)
theorem se_non {j : Nat} : PE X (.Constant .none j pos) (tE g W (M.ret .non)) := pe_imp pe_non fun σ H Q ⟨m, c, s, h⟩ => h.here s .non
theorem se_str {x : Str} {j : Nat} : PE X (.Constant (.str x) j pos) (tE g W (M.ret (.str x))) := pe_imp pe_str fun σ H Q ⟨m, c, s, h⟩ => h.here s (.str x)
end
def S2 (g : G) (r : R2) (f : D → D → M D) : Prop := ∀ (W : WX) (m : Mp) (c : CS) (σ : L2.St) (H : Hp) (a b : D) (x y : V) (Q : VK), Sim g m c σ H → Sv g m a x → Sv g m b y → Out (rE g) g W σ m (f a b c) Q → r x y H Q
def cOp (f : D → D → M D) (a b : M D) : M D := a.bind fun x => b.bind fun y => f x y
section
variable {X : Cx} {g : G} {W : WX} {pos : Pos}
theorem two {r : R2} {f : D → D → M D} (h : S2 g r f) {fa fb : M D} (σ : L2.St) (H : Hp) (Q : VK) (q : tE g W (cOp f fa fb) σ H Q) : tOp r (tE g W fa) (tE g W fb) σ H Q := by
  obtain ⟨m, c, s, o⟩ := q
  refine ⟨m, c, s, o.bind.imp fun x H1 ⟨m1, a, c1, x1, s1, k1, o1⟩ => ⟨m1, c1, s1, o1.bind.imp fun y H2 ⟨m2, b, c2, x2, s2, k2, o2⟩ => ?_⟩⟩
  exact h W m2 c2 σ H2 a b x y Q s2 (k1.mono x2) k2 o2
def cB (d : D) : M Bool := fun c => match d with | .bl b => .ok b c | _ => .stuck
def asB (f : M D) : M Bool := f.bind cB
end
end CL
namespace CL
open PySem PySem.Spec PyProof.Rows L2
theorem Sim.new {g : G} {m : Mp} {c : CS} {σ : L2.St} {H : Hp} (h : Sim g m c σ H) {p : Addr} {u : HO} (hp : H p = none) : Sim g m c σ (upd H p u) ∧ Fre m c p := by
  have hF : m.F p = none := by
    cases e : m.F p with
    | none => rfl
    | some o => rw [h.fr p o e] at hp; cases hp
  have hB : m.B p = none := by
    cases e : m.B p with
    | none => rfl
    | some o => rw [(h.bk p o e).1] at hp; cases hp
  have keep : ∀ {a : Addr} {o : O}, So g m H a o → a ≠ p := fun {a o} z => by
    obtain ⟨w, e, _⟩ := z.here
    exact ne_of_none e hp
  refine ⟨⟨fun a o z => ?_, h.nd, h.tb.new (fun _ _ z => z) h.tb.1 hp, h.len, h.ini, h.ln, fun n a o h1 h2 => ?_, fun a o z => ?_, fun i s hs => ?_⟩, ⟨hF, hB, fun hm => ?_, fun j o hj z => ?_⟩⟩
  · rw [upd_ne (ne_of_none z hF)]
    exact h.fr a o z
  · obtain ⟨k1, k2⟩ := h.st n a o h1 h2
    exact ⟨k1, k2.mono Ext.rfl' (upd_ne (keep k2))⟩
  · obtain ⟨z1, z2⟩ := h.bk a o z
    rw [upd_ne (ne_of_none z1 hp)]
    exact ⟨z1, z2⟩
  · have q := h.sl i s hs
    cases s with
    | no => trivial
    | val d => exact q
    | own o =>
      obtain ⟨e1, e2, e3⟩ := q
      exact ⟨e1, e2.mono Ext.rfl' (upd_ne (keep e2)), e3⟩
  · obtain ⟨n, hn⟩ := List.getElem?_of_mem hm
    have hlt : n < c.S.length := by
      rw [← h.len]
      exact (List.getElem?_eq_some_iff.mp hn).1
    obtain ⟨_, k2⟩ := h.st n p _ hn (List.getElem?_eq_getElem hlt)
    exact keep k2 rfl
  · obtain ⟨_, e2, _⟩ := h.sl j _ hj
    exact keep e2 z
section
variable {g : G} {W : WX} {m : Mp} {c : CS} {σ : L2.St} {H : Hp} {ds : List D} {vs : List V} {Q : VK} {p : Addr}
theorem out_newT (s : Sim g m c σ H) (hv : Svs g m ds vs) (o : Out (rE g) g W σ m (.ok (.tup ds) c) Q) (hp : H p = none) : Q (.ref p) (upd H p (.tup vs)) := by
  obtain ⟨s1, x1⟩ := s.frozen (u := .tup vs) hp
  exact (o.mono x1).here s1 (.tup (SqT.of upd_same) (hv.mono x1))
theorem out_freshL (s : Sim g m c σ H) (hv : Svs g m ds vs) (o : Out (rL g) g W σ m (.ok ds c) Q) (hp : H p = none) : Q (.ref p) (upd H p (.lst vs)) := by
  obtain ⟨s1, f⟩ := s.new (u := .lst vs) hp
  exact o.here s1 ⟨p, vs, rfl, upd_same, hv, f⟩
end
def froz (f : M (List D)) : M D := f.bind fun xs => M.ret (.lst xs)
theorem Sim.freezeL {g : G} {m : Mp} {c : CS} {σ : L2.St} {H : Hp} {xs : List D} {v : V} (h : Sim g m c σ H) (k : rL g m c H xs v) : ∃ m', Ext m m' ∧ Sim g m' c σ H ∧ Sv g m' (.lst xs) v := by
  obtain ⟨p, vs, rfl, hp, hv, f⟩ := k
  have ex : Ext m { m with F := upd m.F p (.lst vs) } := ⟨fun _ _ z => z, fun a o z => by
    show upd m.F _ _ a = some o
    rw [upd_ne (ne_of_none z f.f)]
    exact z, rfl, rfl⟩
  refine ⟨{ m with F := upd m.F p (.lst vs) }, ex, ⟨fun a o z => ?_, h.nd, h.tb.ext ex.f (h.tb.1.put fun _ z => nomatch z) (fun _ _ z => z), h.len, h.ini, h.ln, fun n a o h1 h2 => ?_, fun a o z => ?_, fun i s hs => ?_⟩, .lst upd_same (hv.mono ex)⟩
  · have z' : upd m.F p (.lst vs) a = some o := z
    by_cases e : a = p
    · subst e
      rw [upd_same] at z'
      cases z'
      exact hp
    · rw [upd_ne e] at z'
      exact h.fr a o z'
  · obtain ⟨k1, k2⟩ := h.st n a o h1 h2
    refine ⟨?_, k2.mono ex rfl⟩
    show upd m.F _ _ a = none
    rw [upd_ne (fun e => f.r (by rw [← e]; exact List.mem_of_getElem? h1))]
    exact k1
  · obtain ⟨z1, z2, z3, z4⟩ := h.bk a o z
    refine ⟨z1, ?_, z3, z4⟩
    show upd m.F _ _ a = none
    rw [upd_ne (fun e => by
      have z : m.B a = some o := z
      rw [e, f.b] at z
      cases z)]
    exact z2
  · have q := h.sl i s hs
    cases s with
    | no => trivial
    | val d =>
      obtain ⟨v, q1, q2⟩ := q
      exact ⟨v, q1, q2.mono ex⟩
    | own o =>
      obtain ⟨q1, q2, q3⟩ := q
      refine ⟨q1, q2.mono ex rfl, ⟨?_, q3.bk, q3.rh, q3.ap⟩⟩
      show upd m.F _ _ (m.lam i) = none
      rw [upd_ne (f.o i o hs)]
      exact q3.fr
theorem se_froz {X : Cx} {g : G} {W : WX} {e : Expr} {f : M (List D)} (h : PE X e (tL g W f)) : PE X e (tE g W (froz f)) := by
  refine pe_imp h fun σ H Q ⟨m, c, s, o⟩ => ⟨m, c, s, o.bind.imp fun v H1 ⟨m1, xs, c1, x1, s1, k1, o1⟩ => ?_⟩
  obtain ⟨m2, x2, s2, k2⟩ := s1.freezeL k1
  exact (o1.mono x2).here s2 k2
def CS.seqL (c : CS) : D → Option (List D)
  | .lst xs => some xs
  | .ref n => match c.S[n]? with
    | some (.lst xs) => some xs
    | _ => none
  | _ => none
theorem Sim.seqL {g : G} {m : Mp} {c : CS} {σ : L2.St} {H : Hp} (s : Sim g m c σ H) {d : D} {xs : List D} (e : c.seqL d = some xs) {v : V} (h : Sv g m d v) : ∃ p vs, v = .ref p ∧ H p = some (.lst vs) ∧ Svs g m xs vs := by
  cases h with
  | lst h1 h2 =>
    cases e
    exact ⟨_, _, rfl, s.fr _ _ h1, h2⟩
  | @ref n a h1 =>
    have e : (match c.S[n]? with
      | some (.lst xs) => some xs
      | _ => none) = some xs := e
    cases q : c.S[n]? with
    | none => rw [q] at e; cases e
    | some o =>
      rw [q] at e
      cases o with
      | ins _ _ => cases e
      | lst ys =>
        cases e
        obtain ⟨_, vs, k1, k2⟩ := s.st n a _ h1 q
        exact ⟨a, vs, rfl, k1, k2⟩
  | _ => cases e
theorem Sim.sqT {g : G} {m : Mp} {c : CS} {σ : L2.St} {H : Hp} (s : Sim g m c σ H) {a : Addr} {xs : List V} (h : SqT g.K m.F a xs) : SqT g.K H a xs := sqT_mono s.fr h
theorem Sim.sqL {g : G} {m : Mp} {c : CS} {σ : L2.St} {H : Hp} (s : Sim g m c σ H) {a : Addr} {xs : List V} (h : SqL g.K m.F a xs) : SqL g.K H a xs := sqL_mono s.fr h
def szOk (n : Nat) : Bool := decide (n ≤ sizeLine)
def dAdd : D → D → M D
  | .int i, .int j => M.ret (.int (i + j))
  | .str x, .str y => M.guard (szOk (x.length + y.length)) (M.ret (.str (x ++ y)))
  | .tup xs, .tup ys => M.guard (szOk (xs.length + ys.length)) (M.ret (.tup (xs ++ ys)))
  | _, _ => fun _ => .stuck
def rAdd3 (K : PySem.W.Frag) : R2 := fun x y H Q => (∃ i j, x = .int i ∧ y = .int j ∧ Q (.int (i + j)) H) ∨ (∃ i j, x = .str i ∧ y = .str j ∧ i.length + j.length ≤ sizeLine ∧ Q (.str (i ++ j)) H) ∨ rCatA K x y H Q
theorem op_add3 {X : Cx} : OpR X (binaryOp .Add) (rAdd3 X.K) := OpR.or op_add (OpR.or op_add_str op_catA)
theorem s2_add {g : G} : S2 g (rAdd3 g.K) dAdd := by
  intro W m c σ H a b x y Q s ha hb o
  cases ha with
  | int i =>
    cases hb with
    | int j => exact .inl ⟨i, j, rfl, rfl, o.here s (.int _)⟩
    | _ => exact o.elim
  | str i =>
    cases hb with
    | str j =>
      obtain ⟨hz, o⟩ := Out.guard o
      exact .inr (.inl ⟨i, j, rfl, rfl, of_decide_eq_true hz, o.here s (.str _)⟩)
    | _ => exact o.elim
  | @tup a xs vs h1 h2 =>
    cases hb with
    | @tup b ys ws k1 k2 =>
      obtain ⟨hz, o⟩ := Out.guard o
      have hz : xs.length + ys.length ≤ sizeLine := of_decide_eq_true hz
      have e1 := h2.length
      have e2 := k2.length
      · refine .inr (.inr ⟨a, b, vs, ws, rfl, rfl, s.sqT h1, s.sqT k1, by omega, fun e => ?_, fun _ e => ?_, fun _ _ p hp => ?_⟩)
        · subst e
          cases h2
          exact o.here s (.tup k1 k2)
        · subst e
          cases k2
          have o' : Out (rE g) g W σ m (.ok (.tup (xs ++ [])) c) Q := o
          rw [List.append_nil] at o'
          exact o'.here s (.tup h1 h2)
        · exact out_newT s (h2.append k2) o hp
    | _ => exact o.elim
  | _ => exact o.elim
def dCat (a b : D) : M (List D) := fun c => match c.seqL a, c.seqL b with
  | some xs, some ys => M.guard (szOk (xs.length + ys.length)) (M.ret (xs ++ ys)) c
  | _, _ => .stuck
def S2L (g : G) (r : R2) (f : D → D → M (List D)) : Prop := ∀ (W : WX) (m : Mp) (c : CS) (σ : L2.St) (H : Hp) (a b : D) (x y : V) (Q : VK), Sim g m c σ H → Sv g m a x → Sv g m b y → Out (rL g) g W σ m (f a b c) Q → r x y H Q
theorem s2_cat {g : G} : S2L g rCat dCat := by
  intro W m c σ H a b x y Q s ha hb o
  unfold dCat at o
  cases e1 : c.seqL a with
  | none => rw [e1] at o; exact o.elim
  | some xs =>
    cases e2 : c.seqL b with
    | none => rw [e1, e2] at o; exact o.elim
    | some ys =>
      rw [e1, e2] at o
      obtain ⟨p, vs, rfl, hp, hv⟩ := s.seqL e1 ha
      obtain ⟨q, ws, rfl, hq, hw⟩ := s.seqL e2 hb
      obtain ⟨hz, o⟩ := Out.guard o
      have hz : xs.length + ys.length ≤ sizeLine := of_decide_eq_true hz
      · have l1 := hv.length
        have l2 := hw.length
        exact ⟨p, q, vs, ws, rfl, rfl, hp, hq, by omega, fun r hr => out_freshL s (hv.append hw) o hr⟩
def dRep (a b : D) : M (List D) := fun c => match c.seqL a, b with
  | some xs, .int k => M.guard (decide (-(2 ^ 63) ≤ k ∧ k < 2 ^ 63) && szOk (xs.length * k.toNat)) (M.ret (List.replicate k.toNat xs).flatten) c
  | _, _ => .stuck
theorem Svs.rep {g : G} {m : Mp} {ds : List D} {vs : List V} (h : Svs g m ds vs) (k : Nat) : Svs g m (List.replicate k ds).flatten (List.replicate k vs).flatten := by
  induction k with
  | zero => exact .nil
  | succ k ih =>
    rw [List.replicate_succ, List.replicate_succ, List.flatten_cons, List.flatten_cons]
    exact h.append ih
theorem s2_rep {g : G} : S2L g rRep dRep := by
  intro W m c σ H a b x y Q s ha hb o
  unfold dRep at o
  cases e1 : c.seqL a with
  | none => rw [e1] at o; exact o.elim
  | some xs =>
    rw [e1] at o
    obtain ⟨p, vs, rfl, hp, hv⟩ := s.seqL e1 ha
    cases hb with
    | int k =>
      obtain ⟨hz, o⟩ := Out.guard o
      rw [Bool.and_eq_true] at hz
      · have hk := of_decide_eq_true hz.1
        have hz : xs.length * k.toNat ≤ sizeLine := of_decide_eq_true hz.2
        exact ⟨p, k, vs, rfl, rfl, hp, hk.1, hk.2, by rw [← hv.length]; exact hz, fun r hr => out_freshL s (hv.rep _) o hr⟩
    | _ => exact o.elim
def cOpL (f : D → D → M (List D)) (a b : M D) : M (List D) := a.bind fun x => b.bind fun y => f x y
section
variable {X : Cx} {g : G} {W : WX} {pos : Pos}
theorem twoL {r : R2} {f : D → D → M (List D)} (h : S2L g r f) {fa fb : M D} (σ : L2.St) (H : Hp) (Q : VK) (q : tL g W (cOpL f fa fb) σ H Q) : tOp r (tE g W fa) (tE g W fb) σ H Q := by
  obtain ⟨m, c, s, o⟩ := q
  refine ⟨m, c, s, o.bind.imp fun x H1 ⟨m1, a, c1, x1, s1, k1, o1⟩ => ⟨m1, c1, s1, o1.bind.imp fun y H2 ⟨m2, b, c2, x2, s2, k2, o2⟩ => ?_⟩⟩
  exact h W m2 c2 σ H2 a b x y Q s2 (k1.mono x2) k2 o2
theorem sl_op {op : Operator} {r : R2} {f : D → D → M (List D)} (ho : OpR X (binaryOp op) r) (h : S2L g r f) {a b : Expr} {fa fb : M D} (ha : PE X a (tE g W fa)) (hb : PE X b (tE g W fb)) : PE X (.BinOp a op b pos) (tL g W (cOpL f fa fb)) := pe_imp (pe_op ho ha hb) (twoL h)
end
def dI2 (C : Int → Int → Bool) (f : Int → Int → D) : D → D → M D
  | .int i, .int j => M.guard (C i j) (M.ret (f i j))
  | _, _ => fun _ => .stuck
theorem s2_int {g : G} {C : Int → Int → Bool} {C' : Int → Int → Prop} {f : Int → Int → D} {f' : Int → Int → V} (hC : ∀ i j, C i j = true → C' i j) (hf : ∀ m i j, Sv g m (f i j) (f' i j)) : S2 g (rI C' f') (dI2 C f) := by
  intro W m c σ H a b x y Q s ha hb o
  cases ha with
  | int i =>
    cases hb with
    | int j =>
      obtain ⟨hz, o⟩ := Out.guard o
      exact ⟨i, j, rfl, rfl, hC i j hz, o.here s (hf m i j)⟩
    | _ => exact o.elim
  | _ => exact o.elim
theorem s2_int0 {g : G} {f : Int → Int → D} {f' : Int → Int → V} (hf : ∀ m i j, Sv g m (f i j) (f' i j)) : S2 g (rI0 f') (dI2 (fun _ _ => true) f) := by
  intro W m c σ H a b x y Q s ha hb o
  cases ha with
  | int i =>
    cases hb with
    | int j => exact ⟨i, j, rfl, rfl, o.here s (hf m i j)⟩
    | _ => exact o.elim
  | _ => exact o.elim
def cMul (i j : Int) : Bool := decide ((-(2 ^ 64) < i ∧ i < 2 ^ 64) ∨ (-(2 ^ 64) < j ∧ j < 2 ^ 64))
def cDiv (i j : Int) : Bool := decide (0 < j ∧ j < 1073741824)
def cPow (i j : Int) : Bool := decide (0 ≤ j ∧ j ≤ 1000000 ∧ i.natAbs < 2 ^ 64)
abbrev dSub : D → D → M D := dI2 (fun _ _ => true) fun i j => .int (i - j)
abbrev dMul : D → D → M D := dI2 cMul fun i j => .int (i * j)
abbrev dDiv : D → D → M D := dI2 cDiv fun i j => .int (i / j)
abbrev dMod : D → D → M D := dI2 (fun _ j => decide (0 < j)) fun i j => .int (i % j)
abbrev dPow : D → D → M D := dI2 cPow fun i j => .int (i ^ j.toNat)
abbrev dLt : D → D → M D := dI2 (fun _ _ => true) fun i j => .bl (decide (i < j))
abbrev dLe : D → D → M D := dI2 (fun _ _ => true) fun i j => .bl (decide (i ≤ j))
abbrev dGt : D → D → M D := dI2 (fun _ _ => true) fun i j => .bl (decide (j < i))
abbrev dGe : D → D → M D := dI2 (fun _ _ => true) fun i j => .bl (decide (j ≤ i))
section
variable {g : G}
theorem s2_mul : S2 g (rI CMul fun i j => .int (i * j)) dMul := s2_int (C := cMul) (fun i j h => (of_decide_eq_true h : (-(2 ^ 64) < i ∧ i < 2 ^ 64) ∨ (-(2 ^ 64) < j ∧ j < 2 ^ 64))) fun _ _ _ => .int _
theorem s2_div : S2 g (rI CDiv fun i j => .int (i / j)) dDiv := s2_int (C := cDiv) (fun i j h => (of_decide_eq_true h : 0 < j ∧ j < 1073741824)) fun _ _ _ => .int _
theorem s2_mod : S2 g (rI (fun _ j => 0 < j) fun i j => .int (i % j)) dMod := s2_int (fun _ _ h => of_decide_eq_true h) fun _ _ _ => .int _
theorem s2_pow : S2 g (rI CPow fun i j => .int (i ^ j.toNat)) dPow := s2_int (C := cPow) (fun i j h => (of_decide_eq_true h : 0 ≤ j ∧ j ≤ 1000000 ∧ i.natAbs < 2 ^ 64)) fun _ _ _ => .int _
theorem s2_lt : S2 g (rI0 fun i j => .bl (decide (i < j))) dLt := s2_int0 fun _ _ _ => .bl _
theorem s2_le : S2 g (rI0 fun i j => .bl (decide (i ≤ j))) dLe := s2_int0 fun _ _ _ => .bl _
theorem s2_gt : S2 g (rI0 fun i j => .bl (decide (j < i))) dGt := s2_int0 fun _ _ _ => .bl _
theorem s2_ge : S2 g (rI0 fun i j => .bl (decide (j ≤ i))) dGe := s2_int0 fun _ _ _ => .bl _
end
mutual
def toP : D → Option PyData
  | .non => some .none
  | .bl b => some (.bool b)
  | .int i => some (.int i)
  | .str x => some (.str x)
  | .tup xs => (toPs xs).map .tuple
  | .lst xs => (toPs xs).map .list
  | .obj _ _ => none
  | .ref _ => none
  | .scr _ => none
  | .exn _ _ => none
def toPs : List D → Option (List PyData)
  | [] => some []
  | d :: ds => match toP d, toPs ds with
    | some p, some ps => some (p :: ps)
    | _, _ => none
end
mutual
theorem Sim.dp {g : G} {m : Mp} {c : CS} {σ : L2.St} {H : Hp} (s : Sim g m c σ H) : ∀ {d : D} {v : V} {p : PyData}, Sv g m d v → toP d = some p → Dp g.K H v p
  | _, _, _, .non, e => by
    simp only [toP, Option.some.injEq] at e
    subst e
    exact .non
  | _, _, _, .bl b, e => by
    simp only [toP, Option.some.injEq] at e
    subst e
    exact .bl b
  | _, _, _, .int i, e => by
    simp only [toP, Option.some.injEq] at e
    subst e
    exact .int i
  | _, _, _, .str x, e => by
    simp only [toP, Option.some.injEq] at e
    subst e
    exact .str x
  | .tup xs, _, _, .tup h1 h2, e => by
    simp only [toP, Option.map_eq_some_iff] at e
    obtain ⟨ps, e1, e2⟩ := e
    subst e2
    exact .tup (s.sqT h1) (Sim.dps s h2 e1)
  | .lst xs, _, _, .lst h1 h2, e => by
    simp only [toP, Option.map_eq_some_iff] at e
    obtain ⟨ps, e1, e2⟩ := e
    subst e2
    exact .lst (SqL.of (s.fr _ _ h1)) (Sim.dps s h2 e1)
  | _, _, _, .obj _ _ _ _, e => by simp [toP] at e
  | _, _, _, .ref _, e => by simp [toP] at e
  | _, _, _, .scr _, e => by simp [toP] at e
  | _, _, _, .exn _ _ _ _ _, e => by simp [toP] at e
theorem Sim.dps {g : G} {m : Mp} {c : CS} {σ : L2.St} {H : Hp} (s : Sim g m c σ H) : ∀ {ds : List D} {vs : List V} {ps : List PyData}, Svs g m ds vs → toPs ds = some ps → DpAll g.K H vs ps
  | _, _, _, .nil, e => by
    simp only [toPs, Option.some.injEq] at e
    subst e
    exact .nil
  | d :: ds, _, _, .cons h1 h2, e => by
    rw [toPs] at e
    cases e1 : toP d with
    | none => rw [e1] at e; cases e
    | some p =>
      cases e2 : toPs ds with
      | none => rw [e1, e2] at e; cases e
      | some ps =>
        rw [e1, e2] at e
        cases e
        exact .cons (Sim.dp s h1 e1) (Sim.dps s h2 e2)
end
def dP2 (f : PyData → PyData → D) (a b : D) : M D := match toP a, toP b with
  | some p, some q => M.guard (SeqAt.shaped p && SeqAt.shaped q) (M.ret (f p q))
  | _, _ => fun _ => .stuck
abbrev dEq : D → D → M D := dP2 fun p q => .bl (PyData.eqv p q)
abbrev dNe : D → D → M D := dP2 fun p q => .bl (!PyData.eqv p q)
theorem s2_dp {g : G} {f : PyData → PyData → Bool} : S2 g (fun x y H Q => ∃ d e, Dp g.K H x d ∧ Dp g.K H y e ∧ SeqAt.shaped d = true ∧ SeqAt.shaped e = true ∧ Q (.bl (f d e)) H) (dP2 fun p q => .bl (f p q)) := by
  intro W m c σ H a b x y Q s ha hb o
  unfold dP2 at o
  cases e1 : toP a with
  | none => rw [e1] at o; exact o.elim
  | some p =>
    cases e2 : toP b with
    | none => rw [e1, e2] at o; exact o.elim
    | some q =>
      rw [e1, e2] at o
      obtain ⟨hz, o⟩ := Out.guard o
      rw [Bool.and_eq_true] at hz
      · exact ⟨p, q, s.dp ha e1, s.dp hb e2, hz.1, hz.2, o.here s (.bl _)⟩
theorem s2_eq {g : G} : S2 g (rEqD g.K) dEq := s2_dp
theorem s2_ne {g : G} : S2 g (rNeD g.K) dNe := s2_dp
def D.isNon : D → Bool
  | .non => true
  | _ => false
def dIs : D → D → M D := fun a b => match b with
  | .non => M.ret (.bl a.isNon)
  | _ => fun _ => .stuck
def dIsNot : D → D → M D := fun a b => match b with
  | .non => M.ret (.bl (!a.isNon))
  | _ => fun _ => .stuck
theorem Sv.isNon {g : G} {m : Mp} {d : D} {v : V} (h : Sv g m d v) : decide (v = .non) = d.isNon := by
  cases h <;> first | rfl | exact decide_eq_false (fun z => nomatch z)
theorem s2_is {g : G} : S2 g (fun x y H Q => y = .non ∧ Q (.bl (decide (x = .non))) H) dIs := by
  intro W m c σ H a b x y Q s ha hb o
  cases hb with
  | non => exact ⟨rfl, by rw [ha.isNon]; exact o.here s (.bl _)⟩
  | _ => exact o.elim
theorem s2_isnot {g : G} : S2 g (fun x y H Q => y = .non ∧ Q (.bl (!decide (x = .non))) H) dIsNot := by
  intro W m c σ H a b x y Q s ha hb o
  cases hb with
  | non => exact ⟨rfl, by rw [ha.isNon]; exact o.here s (.bl _)⟩
  | _ => exact o.elim
def dIx (a b : D) : M D := fun c => match b with
  | .int i => match a with
    | .tup xs => M.opt (atI xs i) c
    | .str x => M.guard (szOk x.length) (M.opt ((atI x.cps.toList i).map fun k => .str ⟨#[k]⟩)) c
    | _ => match c.seqL a with
      | some xs => M.opt (atI xs i) c
      | none => .stuck
  | _ => .stuck
theorem Svs.atI {g : G} {m : Mp} {ds : List D} {vs : List V} (h : Svs g m ds vs) {i : Int} {d : D} (e : L2.atI ds i = some d) : ∃ v, L2.atI vs i = some v ∧ Sv g m d v := by
  unfold L2.atI at e ⊢
  rw [← h.length]
  cases q : ixN ds.length i with
  | none => rw [q] at e; cases e
  | some j =>
    rw [q] at e
    exact h.get (i := j) e
theorem s2_ix {g : G} : S2 g (rIx g.K) dIx := by
  intro W m c σ H a b x y Q s ha hb o
  have hb0 := hb
  cases hb with
  | int i =>
    have go : ∀ {xs : List D} {vs : List V}, Svs g m xs vs → Out (rE g) g W σ m (M.opt (atI xs i) c) Q → ∃ v, atI vs i = some v ∧ Q v H := fun {xs vs} hv o => by
      cases e : atI xs i with
      | none => rw [e] at o; exact o.elim
      | some d =>
        rw [e] at o
        obtain ⟨v, e1, e2⟩ := hv.atI e
        exact ⟨v, e1, o.here s e2⟩
    have lst : ∀ {xs : List D}, c.seqL a = some xs → Out (rE g) g W σ m (M.opt (atI xs i) c) Q → rIx g.K x (.int i) H Q := fun {xs} e o => by
      obtain ⟨p, vs, rfl, hp, hv⟩ := s.seqL e ha
      obtain ⟨v, e1, q⟩ := go hv o
      exact .inl ⟨p, vs, i, v, rfl, rfl, SqL.of hp, e1, q⟩
    unfold dIx at o
    dsimp only at o
    cases ha with
    | @tup p xs vs h1 h2 =>
      obtain ⟨v, e1, q⟩ := go h2 o
      exact .inr (.inl ⟨p, vs, i, v, rfl, rfl, s.sqT h1, e1, q⟩)
    | str z =>
      obtain ⟨hz, o⟩ := Out.guard o
      · cases e : atI z.cps.toList i with
        | none => rw [e] at o; exact o.elim
        | some k =>
          rw [e] at o
          exact .inr (.inr ⟨z, i, k, rfl, rfl, of_decide_eq_true hz, e, o.here s (.str _)⟩)
    | @lst p xs vs h1 h2 => exact lst rfl o
    | @ref n p h1 =>
      dsimp only at o
      cases e : c.seqL (.ref n) with
      | none => rw [e] at o; exact o.elim
      | some xs =>
        rw [e] at o
        exact lst e o
    | _ => exact o.elim
  | _ => exact o.elim
def flatP : PyData → Bool
  | .list _ => false
  | .tuple _ => false
  | .dict _ => false
  | _ => true
theorem flat_of {K : PySem.W.Frag} {H : Hp} {v : V} {p : PyData} (h : Dp K H v p) (f : flatP p = true) : flatV v = true := by
  cases h <;> first | rfl | cases f
theorem eqV_of {K : PySem.W.Frag} {H : Hp} {x y : V} {p q : PyData} (h : Dp K H x p) (k : Dp K H y q) (f : flatP p = true) (f' : flatP q = true) : eqV x y = PyData.eqv p q := by
  cases h <;> first | (cases f; done) | (cases k <;> first | (cases f'; done) | rfl | (simp [eqV, PyData.eqv]; done) | (rename_i a b; cases a <;> rfl) | (rename_i a b; cases b <;> rfl))
theorem flats_of {K : PySem.W.Frag} {H : Hp} : ∀ {vs : List V} {ps : List PyData}, DpAll K H vs ps → ps.all flatP = true → vs.all flatV = true
  | _, _, .nil, _ => rfl
  | _, _, .cons h r, f => by
    rw [List.all_cons, Bool.and_eq_true] at f
    rw [List.all_cons, Bool.and_eq_true]
    exact ⟨flat_of h f.1, flats_of r f.2⟩
theorem inV_of {K : PySem.W.Frag} {H : Hp} {x : V} {p : PyData} (h : Dp K H x p) (f : flatP p = true) : ∀ {vs : List V} {ps : List PyData}, DpAll K H vs ps → ps.all flatP = true → inV x vs = ps.any fun z => PyData.eqv z p
  | _, _, .nil, _ => rfl
  | _, _, .cons k r, f' => by
    rw [List.all_cons, Bool.and_eq_true] at f'
    have ih := inV_of h f r f'.2
    unfold inV at ih ⊢
    rw [List.any_cons, List.any_cons, ih, eqV_of k h f'.1 f]
def ynot (neg b : Bool) : Bool := if neg then !b else b
def dIn (neg : Bool) (a b : D) : M D := fun c => match b with
  | .tup xs => match toP a, toPs xs with
    | some p, some ps => M.guard (flatP p && ps.all flatP) (M.ret (.bl (ynot neg (ps.any fun z => PyData.eqv z p)))) c
    | _, _ => .stuck
  | .lst xs => match toP a, toPs xs with
    | some p, some ps => M.guard (SeqAt.shaped p && SeqAt.shaped (.list ps)) (M.ret (.bl (ynot neg (ps.any fun z => PyData.eqv z p)))) c
    | _, _ => .stuck
  | _ => .stuck
def rInA (K : PySem.W.Frag) (neg : Bool) : R2 := fun x y H Q => rIn K neg x y H Q ∨ ∃ d ds, Dp K H x d ∧ Dp K H y (.list ds) ∧ SeqAt.shaped d = true ∧ SeqAt.shaped (.list ds) = true ∧ Q (.bl (ynot neg (ds.any fun z => PyData.eqv z d))) H
theorem op_inA {X : Cx} (hu : X.A.units + 65 < cLine) : OpR X (compareOp .In) (rInA X.K false) := OpR.or op_in_seq (op_inD hu)
theorem op_notInA {X : Cx} (hu : X.A.units + 65 < cLine) : OpR X (compareOp .NotIn) (rInA X.K true) := OpR.or op_notIn_seq (op_notInD hu)
theorem s2_in {g : G} {neg : Bool} : S2 g (rInA g.K neg) (dIn neg) := by
  intro W m c σ H a b x y Q s ha hb o
  cases hb with
  | @tup t xs vs h1 h2 =>
    have o : Out (rE g) g W σ m (match toP a, toPs xs with
      | some p, some ps => M.guard (flatP p && ps.all flatP) (M.ret (.bl (ynot neg (ps.any fun z => PyData.eqv z p)))) c
      | _, _ => .stuck) Q := o
    cases e1 : toP a with
    | none => rw [e1] at o; exact o.elim
    | some p =>
      cases e2 : toPs xs with
      | none => rw [e1, e2] at o; exact o.elim
      | some ps =>
        rw [e1, e2] at o
        obtain ⟨hz, o⟩ := Out.guard o
        rw [Bool.and_eq_true] at hz
        have d1 := s.dp ha e1
        have d2 := s.dps h2 e2
        refine .inl ⟨t, vs, rfl, .inr (s.sqT h1), flat_of d1 hz.1, flats_of d2 hz.2, ?_⟩
        rw [inV_of d1 hz.1 d2 hz.2]
        exact o.here s (.bl _)
  | @lst t xs vs h1 h2 =>
    have o : Out (rE g) g W σ m (match toP a, toPs xs with
      | some p, some ps => M.guard (SeqAt.shaped p && SeqAt.shaped (.list ps)) (M.ret (.bl (ynot neg (ps.any fun z => PyData.eqv z p)))) c
      | _, _ => .stuck) Q := o
    cases e1 : toP a with
    | none => rw [e1] at o; exact o.elim
    | some p =>
      cases e2 : toPs xs with
      | none => rw [e1, e2] at o; exact o.elim
      | some ps =>
        rw [e1, e2] at o
        obtain ⟨hz, o⟩ := Out.guard o
        rw [Bool.and_eq_true] at hz
        exact .inr ⟨p, ps, s.dp ha e1, .lst (SqL.of (s.fr _ _ h1)) (s.dps h2 e2), hz.1, hz.2, o.here s (.bl _)⟩
  | _ => exact o.elim
def dCutT (a : D) (lo hi : Option Int) : M D := match a with
  | .tup xs => M.ret (.tup ((xs.drop (HT.sIx xs.length 0 lo)).take (HT.sIx xs.length xs.length hi - HT.sIx xs.length 0 lo)))
  | .str x => M.guard (szOk x.length) (M.ret (.str (cutS x lo hi)))
  | _ => fun _ => .stuck
def dCutL (a : D) (lo hi : Option Int) : M (List D) := fun c => match a with
  | .scr ns => .ok (((ns.drop (HT.sIx ns.length 0 lo)).take (HT.sIx ns.length ns.length hi - HT.sIx ns.length 0 lo)).map D.int) c
  | _ => match c.seqL a with
    | some xs => .ok ((xs.drop (HT.sIx xs.length 0 lo)).take (HT.sIx xs.length xs.length hi - HT.sIx xs.length 0 lo)) c
    | none => .stuck
theorem svs_ints {g : G} {m : Mp} : ∀ ns : List Int, Svs g m (ns.map D.int) (ns.map V.int)
  | [] => .nil
  | n :: ns => .cons (.int n) (svs_ints ns)
theorem cut_all {α : Type} {xs : List α} {lo hi : Option Int} (h : HT.sIx xs.length 0 lo = 0 ∧ HT.sIx xs.length xs.length hi = xs.length) : (xs.drop (HT.sIx xs.length 0 lo)).take (HT.sIx xs.length xs.length hi - HT.sIx xs.length 0 lo) = xs := by
  rw [h.1, h.2]
  simp
def rCutT (K : PySem.W.Frag) : V → Option Int → Option Int → Hp → VK → Prop := fun x lo hi H Q => rSlA K x lo hi H Q ∨ rSlS x lo hi H Q
def cCutT (a : M D) (lo hi : M (Option Int)) : M D := a.bind fun x => lo.bind fun l => hi.bind fun u => dCutT x l u
def cCutL (a : M D) (lo hi : M (Option Int)) : M (List D) := a.bind fun x => lo.bind fun l => hi.bind fun u => dCutL x l u
section
variable {X : Cx} {g : G} {W : WX} {pos p2 : Pos} {e : Expr} {lo hi : Option Expr} {fa : M D} {fl fh : M (Option Int)}
theorem se_cutT (hK : X.K = g.K) (he : PE X e (tE g W fa)) (hl : PO X lo (tP g W fl)) (hu : PO X hi (tP g W fh)) : PE X (.Subscript e (.Slice lo hi none p2) pos) (tE g W (cCutT fa fl fh)) := by
  refine pe_imp (pe_slice (r := rCutT X.K) (SlR.or sl_tupA sl_str) he hl hu) fun σ H Q ⟨m, c, s, o⟩ => ⟨m, c, s, o.bind.imp fun x H1 ⟨m1, a, c1, x1, s1, k1, o1⟩ => ⟨m1, c1, s1, o1.bind.imp fun l H2 ⟨m2, l', c2, x2, s2, k2, o2⟩ => ⟨m2, c2, s2, o2.bind.imp fun u H3 ⟨m3, u', c3, x3, s3, k3, o3⟩ => ?_⟩⟩⟩
  have k2 : l' = l := k2
  have k3 : u' = u := k3
  subst k2 k3
  have k1 := (k1.mono x2).mono x3
  rw [hK]
  cases k1 with
  | @tup a xs vs h1 h2 =>
    refine .inl ⟨a, vs, rfl, s3.sqT h1, fun hw => ?_, fun _ p hp => ?_⟩
    · rw [← h2.length] at hw
      have o3 : Out (rE g) g W σ m3 (.ok (.tup ((xs.drop (HT.sIx xs.length 0 l')).take (HT.sIx xs.length xs.length u' - HT.sIx xs.length 0 l'))) c3) Q := o3
      rw [cut_all hw] at o3
      exact o3.here s3 (.tup h1 h2)
    · unfold cutV
      rw [← h2.length]
      exact out_newT s3 ((h2.drop _).take _) o3 hp
  | str z =>
    obtain ⟨hz, o3⟩ := Out.guard o3
    exact .inr ⟨z, rfl, of_decide_eq_true hz, o3.here s3 (.str _)⟩
  | _ => exact o3.elim
theorem sl_cut (hK : X.K = g.K) (he : PE X e (tE g W fa)) (hl : PO X lo (tP g W fl)) (hu : PO X hi (tP g W fh)) : PE X (.Subscript e (.Slice lo hi none p2) pos) (tL g W (cCutL fa fl fh)) := by
  refine pe_imp (pe_slice sl_list he hl hu) fun σ H Q ⟨m, c, s, o⟩ => ⟨m, c, s, o.bind.imp fun x H1 ⟨m1, a, c1, x1, s1, k1, o1⟩ => ⟨m1, c1, s1, o1.bind.imp fun l H2 ⟨m2, l', c2, x2, s2, k2, o2⟩ => ⟨m2, c2, s2, o2.bind.imp fun u H3 ⟨m3, u', c3, x3, s3, k3, o3⟩ => ?_⟩⟩⟩
  have k2 : l' = l := k2
  have k3 : u' = u := k3
  subst k2 k3
  have k1 := (k1.mono x2).mono x3
  rw [hK]
  have go : ∀ {xs : List D}, c3.seqL a = some xs → Out (rL g) g W σ m3 (.ok ((xs.drop (HT.sIx xs.length 0 l')).take (HT.sIx xs.length xs.length u' - HT.sIx xs.length 0 l')) c3) Q → rSlL g.K x l' u' H3 Q := fun {xs} eq o => by
    obtain ⟨p, vs, rfl, hp, hv⟩ := s3.seqL eq k1
    refine ⟨p, vs, rfl, SqL.of hp, fun q hq => ?_⟩
    unfold cutV
    rw [← hv.length]
    exact out_freshL s3 ((hv.drop _).take _) o hq
  cases a with
  | scr ns =>
    cases k1 with
    | scr h1 =>
      refine ⟨_, _, rfl, s3.sqL h1, fun q hq => ?_⟩
      unfold cutV
      rw [List.length_map, ← List.map_drop, ← List.map_take]
      exact out_freshL s3 (svs_ints _) o3 hq
  | lst xs => exact go rfl o3
  | ref n =>
    cases eq : c3.seqL (.ref n) with
    | none =>
      have o3 : Out (rL g) g W σ m3 (match c3.seqL (.ref n) with
        | some xs => .ok ((xs.drop (HT.sIx xs.length 0 l')).take (HT.sIx xs.length xs.length u' - HT.sIx xs.length 0 l')) c3
        | none => .stuck) Q := o3
      rw [eq] at o3
      exact o3.elim
    | some xs =>
      have o3 : Out (rL g) g W σ m3 (match c3.seqL (.ref n) with
        | some xs => .ok ((xs.drop (HT.sIx xs.length 0 l')).take (HT.sIx xs.length xs.length u' - HT.sIx xs.length 0 l')) c3
        | none => .stuck) Q := o3
      rw [eq] at o3
      exact go eq o3
  | _ => exact o3.elim
def cNoPart : M (Option Int) := M.ret none
def dPart (d : D) : M (Option Int) := match d with
  | .int i => M.ret (some i)
  | _ => fun _ => .stuck
def cPart (f : M D) : M (Option Int) := f.bind dPart
theorem so_none : PO X none (tP g W cNoPart) := po_imp po_none fun σ H Q ⟨m, c, s, o⟩ => o.here s rfl
theorem so_some {e : Expr} {f : M D} (h : PE X e (tE g W f)) : PO X (some e) (tP g W (cPart f)) := by
  refine po_imp (po_some h) fun σ H Q ⟨m, c, s, o⟩ => ⟨m, c, s, o.bind.imp fun x H1 ⟨m1, d, c1, x1, s1, k1, o1⟩ => ?_⟩
  cases k1 with
  | int i => exact ⟨i, rfl, o1.here s1 rfl⟩
  | _ => exact o1.elim
end
end CL
namespace CL
open PySem PySem.Spec PyProof.Rows L2
def isStar : Expr → Bool
  | .Starred _ _ => true
  | _ => false
theorem star_plain {e : Expr} {es : List Expr} {env : Env} (h : isStar e = false) : starEach (e :: es) env = (false, eval e env) :: starEach es env := by
  cases e <;> first | rfl | cases h
def plainArgs (es : List Expr) : Bool := es.all fun e => !isStar e
theorem plain_any {pos : Pos} {env : Env} : ∀ {es : List Expr}, plainArgs es = true → (backTo pos (starEach es env)).any (·.1) = false
  | [], _ => rfl
  | e :: es, h => by
    unfold plainArgs at h
    rw [List.all_cons, Bool.and_eq_true] at h
    have h1 : isStar e = false := by simpa using h.1
    rw [star_plain h1]
    show (false || (backTo pos (starEach es env)).any (·.1)) = false
    rw [plain_any (es := es) h.2]
    rfl
theorem plain_all {pos : Pos} {env : Env} : ∀ {es : List Expr}, plainArgs es = true → (backTo pos (starEach es env)).all (!·.1) = true
  | [], _ => rfl
  | e :: es, h => by
    unfold plainArgs at h
    rw [List.all_cons, Bool.and_eq_true] at h
    have h1 : isStar e = false := by simpa using h.1
    rw [star_plain h1]
    show (true && (backTo pos (starEach es env)).all (!·.1)) = true
    rw [plain_all (es := es) h.2]
    rfl
def okBase : Expr → Bool
  | .Call (.Name _ _) [] [] _ => false
  | _ => true
theorem base_ok {o : Expr} {f : Str} {env : Env} {t : Sem Value} (h : okBase o = true) : attributeBase o f env t = t := by
  unfold attributeBase
  split
  · cases h
  · rfl
theorem meth_form {o : Expr} {m : Str} {apos pos : Pos} {args : List Expr} {env : Env} (h1 : okBase o = true) (h2 : plainArgs args = true) (h3 : (apos.endLine == pos.line) = true) (h4 : decide (args.length < 30) = true) :
    eval (.Call (.Attribute o m apos) args [] pos) env = (do
      let ov ← eval o env
      standAt apos.atName
      let (f, first) ← holding [ov] (getMethod ov m (do return (← importBound o env).getD true))
      callWith pos f first (backTo pos (starEach args env)) (backToKw pos (keywordEach [] env))) := by
  rw [arm_eval_Call, base_ok h1]
  have e : methodCallForm (args.length + ([] : List Keyword).length) (backTo pos (starEach args env)) (backToKw pos (keywordEach [] env)) = true := by
    unfold methodCallForm
    rw [plain_all h2]
    have h5 := of_decide_eq_true h4
    show (true && true && decide (args.length + 0 + 0 < 30)) = true
    rw [decide_eq_true (show args.length + 0 + 0 < 30 by omega)]
    rfl
  have e2 : methodCallPos true o env apos pos = pure pos := by
    unfold methodCallPos
    rw [if_pos (by rw [h3]; rfl)]
  unfold methodCall
  rw [e, e2]
  rfl
def notSet : Expr → Bool
  | .Set _ _ _ => false
  | _ => true
theorem marks_ok {op : CmpOp} {b : Expr} (h : notSet b = true) : behindInMarks op b = false := by
  cases b <;> first | rfl | cases h
theorem folded_ok {e : Expr} {env : Env} (h : notSet e = true) (x : Value) : foldedSetIterable e env x = pure x := by
  cases e <;> first | rfl | cases h
def notSlice : Expr → Bool
  | .Slice _ _ _ _ => false
  | _ => true
theorem plainIx_ok {b : Expr} (h : notSlice b = true) : PlainIx b := by
  intro o i
  cases b <;> first | rfl | cases h
def plainTest : Expr → Bool
  | .UnaryOp .Not _ _ => false
  | .BoolOp _ _ _ => false
  | .IfExp _ _ _ _ => false
  | .Compare _ _ _ _ => false
  | _ => true
theorem test_ok {e : Expr} {env : Env} (h : plainTest e = true) (whole : Sem Value) : isTrue e env whole = (do let v ← whole; standAt e.pos; holding [v] (truthy v)) := by
  cases e <;> first | rfl | (cases h; done) | skip
  case UnaryOp op x p => cases op <;> first | rfl | cases h
def cAnd (a b : M D) : M D := a.bind fun x => match x with
  | .bl true => b
  | .bl false => M.ret (.bl false)
  | _ => fun _ => .stuck
def cOr (a b : M D) : M D := a.bind fun x => match x with
  | .bl true => M.ret (.bl true)
  | .bl false => b
  | _ => fun _ => .stuck
def cNot (a : M D) : M D := a.bind fun x => match x with
  | .bl b => M.ret (.bl (!b))
  | _ => fun _ => .stuck
def cAndT (a b : M Bool) : M Bool := a.bind fun x => match x with
  | true => b
  | false => M.ret false
def cOrT (a b : M Bool) : M Bool := a.bind fun x => match x with
  | true => M.ret true
  | false => b
def cNotT (a : M Bool) : M Bool := a.bind fun x => M.ret (!x)
def cIf {α : Type} (t : M Bool) (a b : M α) : M α := t.bind fun x => match x with
  | true => a
  | false => b
def dTru (d : D) : M Bool := fun c => match d with
  | .non => .ok false c
  | .bl b => .ok b c
  | .int i => .ok (i != 0) c
  | .str x => M.guard (szOk x.length) (M.ret ((x.length : Int) != 0)) c
  | .tup xs => .ok (!xs.isEmpty) c
  | .scr _ => .stuck
  | .obj _ _ => .stuck
  | .exn _ _ => .stuck
  | _ => match c.seqL d with
    | some xs => .ok (!xs.isEmpty) c
    | none => .stuck
def cTru (f : M D) : M Bool := f.bind dTru
section
variable {X : Cx} {g : G} {W : WX} {pos : Pos} {a b e : Expr} {rest : List Expr} {fa fb : M D} {ta tb : M Bool}
theorem se_one {op : PySem.BoolOp} (h : PE X a (tE g W fa)) : PE X (.BoolOp op [a] pos) (tE g W fa) := pe_one h
theorem se_and (ha : PE X a (tE g W fa)) (hb : PE X (.BoolOp .And (b :: rest) pos) (tE g W fb)) : PE X (.BoolOp .And (a :: b :: rest) pos) (tE g W (cAnd fa fb)) := by
  refine pe_imp (pe_and ha hb) fun σ H Q ⟨m, c, s, o⟩ => ⟨m, c, s, o.bind.imp fun x H1 ⟨m1, d, c1, x1, s1, k1, o1⟩ => ?_⟩
  cases k1 with
  | bl b =>
    refine ⟨b, rfl, ?_⟩
    cases b with
    | true => exact ⟨m1, c1, s1, o1⟩
    | false => exact o1.here s1 (.bl _)
  | _ => exact o1.elim
theorem se_not (ha : PE X a (tE g W fa)) : PE X (.UnaryOp .Not a pos) (tE g W (cNot fa)) := by
  refine pe_imp (pe_not ha) fun σ H Q ⟨m, c, s, o⟩ => ⟨m, c, s, o.bind.imp fun x H1 ⟨m1, d, c1, x1, s1, k1, o1⟩ => ?_⟩
  cases k1 with
  | bl b => exact ⟨b, rfl, o1.here s1 (.bl _)⟩
  | _ => exact o1.elim
theorem se_if {t : Expr} (ht : PT X t (tT g W ta)) (ha : PE X a (tE g W fa)) (hb : PE X b (tE g W fb)) : PE X (.IfExp t a b pos) (tE g W (cIf ta fa fb)) := by
  refine pe_imp (pe_ifExp ht ha hb) fun σ H Q ⟨m, c, s, o⟩ => ⟨m, c, s, o.bind.imp fun x H1 ⟨m1, d, c1, x1, s1, k1, o1⟩ => ?_⟩
  have k1 : d = x := k1
  subst k1
  cases d with
  | true => exact ⟨m1, c1, s1, o1⟩
  | false => exact ⟨m1, c1, s1, o1⟩
theorem sw_and1 (ha : PT X a (tT g W ta)) : PW X (.BoolOp .And [a] pos) (tT g W ta) := pw_and1 ha
theorem sw_or1 (ha : PT X a (tT g W ta)) : PW X (.BoolOp .Or [a] pos) (tT g W ta) := pw_or1 ha
theorem sw_and (ha : PT X a (tT g W ta)) (hb : PW X (.BoolOp .And (b :: rest) pos) (tT g W tb)) : PW X (.BoolOp .And (a :: b :: rest) pos) (tT g W (cAndT ta tb)) := by
  refine pw_imp (pw_and ha hb) fun σ H Q ⟨m, c, s, o⟩ => ⟨m, c, s, o.bind.imp fun x H1 ⟨m1, d, c1, x1, s1, k1, o1⟩ => ?_⟩
  have k1 : d = x := k1
  subst k1
  cases d with
  | true => exact ⟨m1, c1, s1, o1⟩
  | false => exact o1.here s1 rfl
theorem sw_or (ha : PT X a (tT g W ta)) (hb : PW X (.BoolOp .Or (b :: rest) pos) (tT g W tb)) : PW X (.BoolOp .Or (a :: b :: rest) pos) (tT g W (cOrT ta tb)) := by
  refine pw_imp (pw_or ha hb) fun σ H Q ⟨m, c, s, o⟩ => ⟨m, c, s, o.bind.imp fun x H1 ⟨m1, d, c1, x1, s1, k1, o1⟩ => ?_⟩
  have k1 : d = x := k1
  subst k1
  cases d with
  | true => exact o1.here s1 rfl
  | false => exact ⟨m1, c1, s1, o1⟩
theorem st_not (ha : PT X a (tT g W ta)) : PT X (.UnaryOp .Not a pos) (tT g W (cNotT ta)) := by
  refine pt_imp (pt_not ha) fun σ H Q ⟨m, c, s, o⟩ => ⟨m, c, s, o.bind.imp fun x H1 ⟨m1, d, c1, x1, s1, k1, o1⟩ => ?_⟩
  have k1 : d = x := k1
  subst k1
  exact o1.here s1 rfl
theorem st_tru (hK : X.K = g.K) (h : PE X e (tE g W fa)) (hp : plainTest e = true) : PT X e (tT g W (cTru fa)) := by
  refine pt_imp (pt_truth h fun whole => test_ok hp whole) fun σ H Q ⟨m, c, s, o⟩ => ⟨m, c, s, o.bind.imp fun x H1 ⟨m1, d, c1, x1, s1, k1, o1⟩ => ?_⟩
  rw [hK]
  have lst : ∀ {xs : List D}, c1.seqL d = some xs → Out rB g W σ m1 (.ok (!xs.isEmpty) c1) Q → ∃ k, TruV g.K x H1 k ∧ Q k H1 := fun {xs} e o => by
    obtain ⟨p, vs, rfl, hp, hv⟩ := s1.seqL e k1
    refine ⟨!xs.isEmpty, .inl ⟨vs, SqL.of hp, ?_⟩, o.here s1 rfl⟩
    cases hv <;> rfl
  cases k1 with
  | non => exact ⟨false, rfl, o1.here s1 rfl⟩
  | bl b => exact ⟨b, rfl, o1.here s1 rfl⟩
  | int i => exact ⟨_, rfl, o1.here s1 rfl⟩
  | str z =>
    obtain ⟨hz, o1⟩ := Out.guard o1
    exact ⟨_, ⟨of_decide_eq_true hz, rfl⟩, o1.here s1 rfl⟩
  | @tup p xs vs h1 h2 =>
    refine ⟨!xs.isEmpty, .inr (.inl ⟨vs, s1.sqT h1, ?_⟩), o1.here s1 rfl⟩
    cases h2 <;> rfl
  | @lst p xs vs h1 h2 => exact lst rfl o1
  | @ref n p h1 =>
    have o2 : Out rB g W σ m1 (match c1.seqL (.ref n) with
      | some xs => .ok (!xs.isEmpty) c1
      | none => .stuck) Q := o1
    cases e : c1.seqL (.ref n) with
    | none => rw [e] at o2; exact o2.elim
    | some xs =>
      rw [e] at o2
      exact lst e o2
  | _ => exact o1.elim
end
def cCons (a : M D) (r : M (List D)) : M (List D) := a.bind fun x => r.bind fun xs => M.ret (x :: xs)
def cTup (r : M (List D)) : M D := r.bind fun xs => M.guard (szOk xs.length) (M.ret (.tup xs))
def cLst (r : M (List D)) : M (List D) := r.bind fun xs => M.guard (szOk xs.length) (M.ret xs)
def dItems (d : D) : M (List D) := fun c => match d with
  | .tup xs => .ok xs c
  | _ => match c.seqL d with
    | some xs => .ok xs c
    | none => .stuck
def cStar (a : M D) (r : M (List D)) : M (List D) := a.bind fun x => (dItems x).bind fun xs => r.bind fun ys => M.ret (xs ++ ys)
theorem Sim.items {g : G} {W : WX} {m : Mp} {c : CS} {σ : L2.St} {H : Hp} (s : Sim g m c σ H) {d : D} {v : V} (k : Sv g m d v) {β γ : Type} {rel : Rl γ β} {r : List D → CS → R γ} {Q : β → Hp → Prop} (o : Out rel g W σ m ((dItems d c).bind r) Q) :
    ∃ p xs vs, v = .ref p ∧ (SqT g.K H p vs ∨ SqL g.K H p vs) ∧ Svs g m xs vs ∧ Out rel g W σ m (r xs c) Q := by
  have lst : ∀ {xs : List D}, c.seqL d = some xs → Out rel g W σ m (r xs c) Q → ∃ p xs vs, v = .ref p ∧ (SqT g.K H p vs ∨ SqL g.K H p vs) ∧ Svs g m xs vs ∧ Out rel g W σ m (r xs c) Q := fun {xs} e o => by
    obtain ⟨p, vs, rfl, hp, hv⟩ := s.seqL e k
    exact ⟨p, xs, vs, rfl, .inr (SqL.of hp), hv, o⟩
  cases k with
  | @tup p xs vs h1 h2 => exact ⟨p, xs, vs, rfl, .inl (s.sqT h1), h2, o⟩
  | @lst p xs vs h1 h2 => exact lst rfl o
  | @ref n p h1 =>
    have o : Out rel g W σ m (R.bind (match c.seqL (.ref n) with
      | some xs => .ok xs c
      | none => .stuck) r) Q := o
    cases e : c.seqL (.ref n) with
    | none => rw [e] at o; exact o.elim
    | some xs =>
      rw [e] at o
      exact lst e o
  | _ => exact o.elim
section
variable {X : Cx} {g : G} {W : WX} {pos : Pos} {e : Expr} {es : List Expr} {fa : M D} {fr : M (List D)}
theorem sa_nil : PA X [] (tA g W (M.ret [])) := pa_imp pa_nil fun σ H Q ⟨m, c, s, o⟩ => o.here s .nil
theorem sa_cons (ha : PE X e (tE g W fa)) (hr : PA X es (tA g W fr)) (hs : isStar e = false) : PA X (e :: es) (tA g W (cCons fa fr)) := by
  refine pa_imp (pa_cons ha hr (star_plain hs)) fun σ H Q ⟨m, c, s, o⟩ => ⟨m, c, s, o.bind.imp fun x H1 ⟨m1, d, c1, x1, s1, k1, o1⟩ => ⟨m1, c1, s1, o1.bind.imp fun xs H2 ⟨m2, ds, c2, x2, s2, k2, o2⟩ => ?_⟩⟩
  exact o2.here s2 (.cons (k1.mono x2) k2)
theorem se_tup {k : Nat} (h : PA X es (tA g W fr)) : PE X (.Tuple es k pos) (tE g W (cTup fr)) := by
  refine pe_imp (pe_tup h) fun σ H Q ⟨m, c, s, o⟩ => ⟨m, c, s, o.bind.imp fun xs H1 ⟨m1, ds, c1, x1, s1, k1, o1⟩ => ?_⟩
  have k1 : Svs g m1 ds xs := k1
  obtain ⟨hz, o1⟩ := Out.guard o1
  exact ⟨by rw [← k1.length]; exact of_decide_eq_true hz, fun p hp => out_newT s1 k1 o1 hp⟩
theorem sl_lst (h : PA X es (tA g W fr)) : PE X (.List es pos) (tL g W (cLst fr)) := by
  refine pe_imp (pe_lst h) fun σ H Q ⟨m, c, s, o⟩ => ⟨m, c, s, o.bind.imp fun xs H1 ⟨m1, ds, c1, x1, s1, k1, o1⟩ => ?_⟩
  have k1 : Svs g m1 ds xs := k1
  obtain ⟨hz, o1⟩ := Out.guard o1
  exact ⟨by rw [← k1.length]; exact of_decide_eq_true hz, fun p hp => out_freshL s1 k1 o1 hp⟩
end
inductive FR where
  | ok (d : D) (S : List O)
  | exc (cn : Nat) (vs : List D) (S : List O)
  | stuck
abbrev Fn := List D → List O → FR
def OutF (g : G) (m : Mp) (r : FR) (Q : VK) (E : XK) : Prop := match r with
  | .ok d S => ∀ m' v H', Ext m m' → Sim g m' ⟨[], S⟩ [] H' → Sv g m' d v → Q v H'
  | .exc cn vs S => ∀ m' H' C dd, Ext m m' → Sim g m' ⟨[], S⟩ [] H' → Exr g m' cn vs C dd → E C dd H'
  | .stuck => False
def spOf (g : G) (f : Fn) : Sp := fun vs H Q E => ∃ m S ds, Sim g m ⟨[], S⟩ [] H ∧ Svs g m ds vs ∧ OutF g m (f ds S) Q E
def liftF (r : FR) (c : CS) : R D := match r with
  | .ok d S => .ok d { c with S := S }
  | .exc cn vs S => .exc cn vs { c with S := S }
  | .stuck => .stuck
mutual
theorem Sv.like {g : G} {m m' : Mp} (er : ∀ (n : Nat) (a : Addr), m.rho[n]? = some a → m'.rho[n]? = some a) (ef : ∀ (a : Addr) (o : HO), m.F a = some o → m'.F a = some o) : ∀ {d : D} {v : V}, Sv g m d v → Sv g m' d v
  | _, _, .non => .non
  | _, _, .bl b => .bl b
  | _, _, .int i => .int i
  | _, _, .str x => .str x
  | _, _, .tup h r => .tup (sqT_mono ef h) (Svs.like er ef r)
  | _, _, .lst h r => .lst (ef _ _ h) (Svs.like er ef r)
  | _, _, .scr h => .scr (sqL_mono ef h)
  | _, _, .obj c h r l => .obj c (ef _ _ h) (Svs.like er ef r) l
  | _, _, .exn c h h2 r l => .exn c (ef _ _ h) (ef _ _ h2) (Svs.like er ef r) l
  | _, _, .ref h => .ref (er _ _ h)
theorem Svs.like {g : G} {m m' : Mp} (er : ∀ (n : Nat) (a : Addr), m.rho[n]? = some a → m'.rho[n]? = some a) (ef : ∀ (a : Addr) (o : HO), m.F a = some o → m'.F a = some o) : ∀ {ds : List D} {vs : List V}, Svs g m ds vs → Svs g m' ds vs
  | _, _, .nil => .nil
  | _, _, .cons a b => .cons (Sv.like er ef a) (Svs.like er ef b)
end
theorem So.like {g : G} {m m' : Mp} {H H' : Hp} {a : Addr} {o : O} (er : ∀ (n : Nat) (a : Addr), m.rho[n]? = some a → m'.rho[n]? = some a) (ef : ∀ (a : Addr) (o : HO), m.F a = some o → m'.F a = some o) (k : H' a = H a) (h : So g m H a o) : So g m' H' a o := by
  cases o with
  | lst xs =>
    obtain ⟨vs, h1, h2⟩ := h
    exact ⟨vs, k.trans h1, h2.like er ef⟩
  | ins c fs =>
    obtain ⟨C, ns, dx, ws, h1, h2, h3⟩ := h
    refine ⟨C, ns, dx, ws, h1, k.trans h2, ?_⟩
    clear h2
    induction h3 with
    | nil => exact .nil
    | cons a _ ih => exact .cons (a.like er ef) ih
def Mp.call (m : Mp) (H : Hp) (ex : List Addr) (ni : Addr) : Mp := { m with ini := ni, B := fun a => if a ∈ m.rho ∨ a ∈ ex then none else match m.F a with
  | some _ => none
  | none => match H a with
    | some (.tbl _) => none
    | o => o }
theorem call_bg {m : Mp} {H : Hp} {ex : List Addr} {ni : Addr} {a : Addr} {o : HO} (h1 : a ∉ m.rho) (hx : a ∉ ex) (h2 : m.F a = none) (h3 : H a = some o) (h4 : ∀ ps, o ≠ .tbl ps) : (m.call H ex ni).B a = some o := by
  show (if a ∈ m.rho ∨ a ∈ ex then none else _) = some o
  rw [if_neg (fun z => z.elim h1 hx), h2, h3]
  cases o <;> first | rfl | (exact absurd rfl (h4 _))
theorem of_call_bg {m : Mp} {H : Hp} {ex : List Addr} {ni : Addr} {a : Addr} {o : HO} (h : (m.call H ex ni).B a = some o) : H a = some o ∧ m.F a = none ∧ a ∉ m.rho ∧ (∀ ps, o ≠ .tbl ps) ∧ a ∉ ex := by
  have h : (if a ∈ m.rho ∨ a ∈ ex then none else match m.F a with
    | some _ => none
    | none => match H a with
      | some (.tbl _) => none
      | o => o) = some o := h
  by_cases h1 : a ∈ m.rho ∨ a ∈ ex
  · rw [if_pos h1] at h; cases h
  · rw [if_neg h1] at h
    have n1 : a ∉ m.rho := fun z => h1 (.inl z)
    have n2 : a ∉ ex := fun z => h1 (.inr z)
    cases h2 : m.F a with
    | some u => rw [h2] at h; cases h
    | none =>
      rw [h2] at h
      cases h3 : H a with
      | none => rw [h3] at h; cases h
      | some u =>
        rw [h3] at h
        cases u <;> first | (cases h; done) | (cases h; exact ⟨rfl, rfl, n1, (fun ps z => nomatch z), n2⟩)
theorem Sim.call {g : G} {m : Mp} {c : CS} {σ : L2.St} {H : Hp} (s : Sim g m c σ H) (ex : List Addr) (ni : Addr) : Sim g (m.call H ex ni) ⟨[], c.S⟩ [] H :=
  ⟨s.fr, s.nd, s.tb, s.len, iniOk_nil, rfl, fun n a o h1 h2 => ⟨(s.st n a o h1 h2).1, So.like (m := m) (m' := m.call H ex ni) (fun _ _ z => z) (fun _ _ z => z) rfl (s.st n a o h1 h2).2⟩, fun a o h => let ⟨z1, z2, z3, z4, _⟩ := of_call_bg h; ⟨z1, z2, z3, z4⟩, fun i t h => by
    have h : ([] : List Sl)[i]? = some t := h
    simp at h⟩
theorem Sim.back {g : G} {m m' : Mp} {c : CS} {σ : L2.St} {H H' : Hp} {S' : List O} {ex : List Addr} {ni : Addr} (s : Sim g m c σ H) (fx : ∀ a ∈ ex, Fre m c a) (x : Ext (m.call H ex ni) m') (s' : Sim g m' ⟨[], S'⟩ [] H') :
    Ext m ⟨m'.rho, m'.F, m.B, m.lam, m.ini⟩ ∧ Sim g ⟨m'.rho, m'.F, m.B, m.lam, m.ini⟩ { c with S := S' } σ H' := by
  have e1 : Ext m ⟨m'.rho, m'.F, m.B, m.lam, m.ini⟩ := ⟨x.r, x.f, rfl, rfl⟩
  have bg : ∀ {a : Addr} {o : HO}, a ∉ m.rho → a ∉ ex → m.F a = none → H a = some o → (∀ ps, o ≠ .tbl ps) → H' a = some o ∧ m'.F a = none ∧ a ∉ m'.rho := fun {a o} h1 hx h2 h3 h4 => by
    have z := call_bg (ni := ni) h1 hx h2 h3 h4
    rw [← x.b] at z
    obtain ⟨z1, z2, z3, _⟩ := s'.bk a o z
    exact ⟨z1, z2, z3⟩
  refine ⟨e1, ⟨s'.fr, s'.nd, s'.tb, s'.len, s.ini, s.ln, fun n a o h1 h2 => ?_, fun a o z => ?_, fun i t h => ?_⟩⟩
  · obtain ⟨k1, k2⟩ := s'.st n a o h1 h2
    exact ⟨k1, So.like (m := m') (m' := ⟨m'.rho, m'.F, m.B, m.lam, m.ini⟩) (fun _ _ z => z) (fun _ _ z => z) rfl k2⟩
  · obtain ⟨z1, z2, z3, z4⟩ := s.bk a o z
    obtain ⟨y1, y2, y3⟩ := bg z3 (fun hx => by
      have q := (fx a hx).b
      have z : m.B a = some o := z
      rw [q] at z
      cases z) z2 z1 z4
    exact ⟨y1, y2, y3, z4⟩
  · have q := s.sl i t h
    cases t with
    | no => trivial
    | val d =>
      obtain ⟨v, q1, q2⟩ := q
      exact ⟨v, q1, Sv.like (m := m) (m' := ⟨m'.rho, m'.F, m.B, m.lam, m.ini⟩) x.r x.f q2⟩
    | own o =>
      obtain ⟨q1, q2, q3⟩ := q
      obtain ⟨u, e, mu⟩ := q2.here
      have nt : ∀ ps, u ≠ .tbl ps := fun ps z => by
        subst z
        exact mu
      obtain ⟨y1, y2, y3⟩ := bg q3.rh (fun hx => (fx _ hx).o i o h rfl) q3.fr e nt
      exact ⟨q1, So.like (m := m) (m' := ⟨m'.rho, m'.F, m.B, m.lam, m.ini⟩) x.r x.f (by rw [y1]; exact e.symm) q2, ⟨y2, q3.bk, y3, q3.ap⟩⟩
theorem exr_like {g : G} {m m' : Mp} {cn : Nat} {vs : List D} {C : Value} {d : Option Addr} (er : ∀ (n : Nat) (a : Addr), m.rho[n]? = some a → m'.rho[n]? = some a) (ef : ∀ (a : Addr) (o : HO), m.F a = some o → m'.F a = some o) (h : Exr g m cn vs C d) : Exr g m' cn vs C d := by
  obtain ⟨Ca, ns, d2, us, k1, k2, k3, k4, k5, k6⟩ := h
  exact ⟨Ca, ns, d2, us, k1, k2, k3, ef _ _ k4, k5.like er ef, k6⟩
theorem call_sp {g : G} {W : WX} {m : Mp} {c : CS} {σ : L2.St} {H : Hp} {f : Fn} {ds : List D} {vs : List V} {Q : VK} (s : Sim g m c σ H) (hv : Svs g m ds vs) (o : Out (rE g) g W σ m (liftF (f ds c.S) c) Q) : spOf g f vs H Q (fun C d H' => W C d σ H') := by
  refine ⟨m.call H [] m.ini, c.S, ds, s.call [] m.ini, Svs.like (m := m) (m' := m.call H [] m.ini) (fun _ _ z => z) (fun _ _ z => z) hv, ?_⟩
  cases e : f ds c.S with
  | ok d S' =>
    rw [e] at o
    intro m' v H' x s' k
    obtain ⟨x2, s2⟩ := s.back (ex := []) (fun a z => absurd z List.not_mem_nil) x s'
    exact o _ v H' x2 s2 (Sv.like (m := m') (m' := ⟨m'.rho, m'.F, m.B, m.lam, m.ini⟩) (fun _ _ z => z) (fun _ _ z => z) k)
  | exc cn ws S' =>
    rw [e] at o
    intro m' H' C dd x s' k
    obtain ⟨x2, s2⟩ := s.back (ex := []) (fun a z => absurd z List.not_mem_nil) x s'
    exact o _ H' C dd x2 s2 (exr_like (m := m') (m' := ⟨m'.rho, m'.F, m.B, m.lam, m.ini⟩) (fun _ _ z => z) (fun _ _ z => z) k)
  | stuck => rw [e] at o; exact o.elim
abbrev FnC (g : G) (k : Nat) (f : Addr) (fn : Fn) : Prop := FnR g.prog g.w g.K g.mg g.base (L2.CX g.prog g.w) k f (spOf g fn)
section
variable {X : Cx} {g : G} {W : WX} {pins : List (Addr × Obj)} {m : Mp} {c : CS} {σ : L2.St} {H : Hp} {s : Shared} {k : Nat} {f : Addr} {fn : Fn}
theorem run_cA {A : Around} (F : FnR X.prog X.w X.K X.mg X.base (L2.CX X.prog X.w) k f (spOf g fn)) (hr : Room k A) (e0 : Env0 X.prog X.w X.K X.mg X.base A X.stack s H) (tk : Takes X W) (I : Inv X pins σ H s) {ds : List D} {vs : List V} {us : List Value} {Q : VK} (r : Vals vs us) (sm : Sim g m c σ H) (hv : Svs g m ds vs) (o : Out (rE g) g W σ m (liftF (fn ds c.S) c) Q) :
    codeAny (model X.prog X.w) A (.call (.ref f) ⟨us, []⟩) (fun r s' => match r with | .ok (.ret v) => EP X pins σ Q v s' | .ok _ => False | .error e => X.xe e s') s := by
  refine codeAny_mono (F A X.stack s H us vs Q _ hr e0 r (call_sp (W := W) sm hv o)) fun r s' hq => ?_
  match r, hq with
  | .error e, hq => exact passAt tk σ pins H s e s' I hq
  | .ok (.ret u), hq => exact I.after hq
theorem run_c (F : FnR X.prog X.w X.K X.mg X.base (L2.CX X.prog X.w) k f (spOf g fn)) (hr : Room k X.A) (tk : Takes X W) (I : Inv X pins σ H s) {ds : List D} {vs : List V} {us : List Value} {Q : VK} (r : Vals vs us) (sm : Sim g m c σ H) (hv : Svs g m ds vs) (o : Out (rE g) g W σ m (liftF (fn ds c.S) c) Q) :
    codeAny (model X.prog X.w) X.A (.call (.ref f) ⟨us, []⟩) (fun r s' => match r with | .ok (.ret v) => EP X pins σ Q v s' | .ok _ => False | .error e => X.xe e s') s :=
  run_cA F hr I.env0 tk I r sm hv o
end
end CL
namespace CL
open PySem PySem.Spec PyProof.Rows L2
inductive Fl where
  | next | ret (d : D) | brk | cont
def OutS (g : G) (W : WX) (m : Mp) (r : R Fl) (Dn : Ends) : Prop := match r with
  | .ok .next c => ∀ m' σ' H', Ext m m' → Sim g m' c σ' H' → Dn.nx σ' H'
  | .ok (.ret d) c => ∀ m' σ' v H', Ext m m' → Sim g m' c σ' H' → Sv g m' d v → Dn.rt v H'
  | .ok .brk c => ∀ m' σ' H', Ext m m' → Sim g m' c σ' H' → Dn.bk σ' H'
  | .ok .cont c => ∀ m' σ' H', Ext m m' → Sim g m' c σ' H' → Dn.ct σ' H'
  | .exc cn vs c => ∀ m' σ' H' C d, Ext m m' → Sim g m' c σ' H' → Exr g m' cn vs C d → W C d σ' H'
  | .stuck => False
def tS (g : G) (W : WX) (f : M Fl) : TS := fun Dn σ H => ∃ m c, Sim g m c σ H ∧ OutS g W m (f c) Dn
theorem ps_imp {X : Cx} {st : Stmt} {t t' : TS} (h : PS X st t) (i : ∀ Dn σ H, t' Dn σ H → t Dn σ H) : PS X st t' := ⟨fun pins s σ H Dn I q => h.run pins s σ H Dn I (i Dn σ H q)⟩
theorem pss_imp {X : Cx} {st : List Stmt} {t t' : TS} (h : PSs X st t) (i : ∀ Dn σ H, t' Dn σ H → t Dn σ H) : PSs X st t' := ⟨fun pins s σ H Dn I q => h.run pins s σ H Dn I (i Dn σ H q)⟩
section
variable {g : G} {W : WX} {m m' : Mp} {Dn Dn' : Ends} {α β : Type} {rel : Rl α β} {σ : L2.St}
theorem OutS.mono {r : R Fl} (e : Ext m m') (h : OutS g W m r Dn) : OutS g W m' r Dn := by
  cases r with
  | ok a c =>
    cases a with
    | next => exact fun m2 σ' H' x s => h m2 σ' H' (e.trans x) s
    | ret d => exact fun m2 σ' v H' x s k => h m2 σ' v H' (e.trans x) s k
    | brk => exact fun m2 σ' H' x s => h m2 σ' H' (e.trans x) s
    | cont => exact fun m2 σ' H' x s => h m2 σ' H' (e.trans x) s
  | exc cn vs c => exact fun m2 σ' H' C d x s k => h m2 σ' H' C d (e.trans x) s k
  | stuck => exact h
theorem OutS.bind {r : R α} {k : α → CS → R Fl} (h : OutS g W m (r.bind k) Dn) :
    Out rel g W σ m r (fun b H' => ∃ m' a c', Ext m m' ∧ Sim g m' c' σ H' ∧ rel m' c' H' a b ∧ OutS g W m' (k a c') Dn) := by
  cases r with
  | ok a c => exact fun m2 b H' x s k' => ⟨m2, a, c, x, s, k', OutS.mono x h⟩
  | exc cn vs c => exact fun m2 H' C d x s k => h m2 σ H' C d x s k
  | stuck => exact h
theorem OutS.nx {c : CS} {σ' : L2.St} {H : Hp} (s : Sim g m c σ' H) (h : OutS g W m (.ok .next c) Dn) : Dn.nx σ' H := h m σ' H Ext.rfl' s
end
def cSeq (f h : M Fl) : M Fl := fun c => match f c with
  | .ok .next c' => h c'
  | r => r
def cNext : M Fl := fun c => .ok .next c
section
variable {X : Cx} {g : G} {W : WX} {pos : Pos} {st : Stmt} {rest : List Stmt} {e : Expr} {f h : M Fl} {fe : M D} {fl : M (List D)} {ft : M Bool}
theorem ss_nil : PSs X [] (tS g W cNext) := pss_imp pss_nil fun Dn σ H ⟨m, c, s, o⟩ => o.nx s
theorem ss_cons (h1 : PS X st (tS g W f)) (h2 : PSs X rest (tS g W h)) : PSs X (st :: rest) (tS g W (cSeq f h)) := by
  refine pss_imp (pss_cons h1 h2) fun Dn σ H ⟨m, c, s, o⟩ => ⟨m, c, s, ?_⟩
  unfold cSeq at o
  cases q : f c with
  | ok a c' =>
    rw [q] at o
    cases a with
    | next => exact fun m' σ' H' x s' => ⟨m', c', s', OutS.mono x o⟩
    | ret d => exact o
    | brk => exact o
    | cont => exact o
  | exc cn vs c' => rw [q] at o; exact o
  | stuck => rw [q] at o; exact o
def cBrk : M Fl := fun c => .ok .brk c
def cCont : M Fl := fun c => .ok .cont c
def cRet (fe : M D) : M Fl := fun c => (fe c).bind fun d c' => .ok (.ret d) c'
theorem ss_ret (he : PE X e (tE g W fe)) : PS X (.Return (some e) pos) (tS g W (cRet fe)) := by
  refine ps_imp (ps_ret he) fun Dn σ H ⟨m, c, s, o⟩ => ⟨m, c, s, o.bind.imp fun v H1 ⟨m1, d, c1, x1, s1, k1, o1⟩ => ?_⟩
  exact o1 m1 σ v H1 Ext.rfl' s1 k1
def cRetN : M Fl := fun c => .ok (.ret .non) c
def cDrop (fe : M D) : M Fl := fun c => (fe c).bind fun _ c' => .ok .next c'
theorem ss_drop (he : PE X e (tE g W fe)) (hs : swapsWith e none pos.line X.env = pure false) : PS X (.Expr e pos) (tS g W (cDrop fe)) := by
  refine ps_imp (ps_expr he hs) fun Dn σ H ⟨m, c, s, o⟩ => ⟨m, c, s, o.bind.imp fun v H1 ⟨m1, d, c1, x1, s1, k1, o1⟩ => ?_⟩
  exact o1.nx s1
def cIfS (ft : M Bool) (f h : M Fl) : M Fl := fun c => (ft c).bind fun b c' => match b with
  | true => f c'
  | false => h c'
theorem ss_if {t : Expr} {a b : List Stmt} (ht : PT X t (tT g W ft)) (ha : PSs X a (tS g W f)) (hb : PSs X b (tS g W h)) : PS X (.If t a b pos) (tS g W (cIfS ft f h)) := by
  refine ps_imp (ps_if ht ha hb) fun Dn σ H ⟨m, c, s, o⟩ => ⟨m, c, s, o.bind.imp fun x H1 ⟨m1, d, c1, x1, s1, k1, o1⟩ => ?_⟩
  have k1 : d = x := k1
  subst k1
  cases d with
  | true => exact ⟨m1, c1, s1, o1⟩
  | false => exact ⟨m1, c1, s1, o1⟩
end
def CS.put (c : CS) (i : Nat) (s : Sl) : CS := { c with sl := c.sl.set i s }
theorem Sim.val {g : G} {m : Mp} {c : CS} {σ : L2.St} {H : Hp} (h : Sim g m c σ H) {i : Nat} {d : D} {v : V} (k : Sv g m d v) : Sim g m (c.put i (.val d)) (σ.set i (some v)) H := by
  refine ⟨h.fr, h.nd, h.tb, h.len, h.ini.set (fun _ _ z => nomatch z), by show (c.sl.set i _).length = (σ.set i _).length; rw [List.length_set, List.length_set]; exact h.ln, h.st, h.bk, fun j s hs => ?_⟩
  have hs : (c.sl.set i (.val d))[j]? = some s := hs
  by_cases e : i = j
  · subst e
    by_cases hi : i < c.sl.length
    · rw [List.getElem?_set_self hi] at hs
      cases hs
      exact ⟨v, List.getElem?_set_self (by rw [← h.ln]; exact hi), k⟩
    · rw [List.getElem?_eq_none (by rw [List.length_set]; omega)] at hs
      cases hs
  · rw [List.getElem?_set_ne e] at hs
    have q := h.sl j s hs
    cases s with
    | no => trivial
    | val d' =>
      obtain ⟨w, q1, q2⟩ := q
      exact ⟨w, by rw [List.getElem?_set_ne e]; exact q1, q2⟩
    | own o =>
      obtain ⟨q1, q2, q3⟩ := q
      refine ⟨by rw [List.getElem?_set_ne e]; exact q1, q2, ⟨q3.fr, q3.bk, q3.rh, fun k o' hk z => ?_⟩⟩
      have hk : (c.sl.set i (.val d))[k]? = some (.own o') := hk
      by_cases ek : i = k
      · subst ek
        by_cases hi : i < c.sl.length
        · rw [List.getElem?_set_self hi] at hk
          cases hk
        · rw [List.getElem?_eq_none (by rw [List.length_set]; omega)] at hk
          cases hk
      · rw [List.getElem?_set_ne ek] at hk
        exact q3.ap k o' hk z
theorem Sim.own {g : G} {m : Mp} {c : CS} {σ : L2.St} {H : Hp} (h : Sim g m c σ H) {i : Nat} {xs : List D} {v : V} (k : rL g m c H xs v) : ∃ m', Ext m m' ∧ Sim g m' (c.put i (.own (.lst xs))) (σ.set i (some v)) H := by
  obtain ⟨p, vs, rfl, hp, hv, f⟩ := k
  have ex : Ext m { m with lam := fun j => if j = i then p else m.lam j } := ⟨fun _ _ z => z, fun _ _ z => z, rfl, rfl⟩
  have l1 : ∀ {j : Nat}, j = i → (fun j => if j = i then p else m.lam j) j = p := fun {j} e => if_pos e
  have l2 : ∀ {j : Nat}, j ≠ i → (fun j => if j = i then p else m.lam j) j = m.lam j := fun {j} e => if_neg e
  have iniL : IniOk { m with lam := fun j => if j = i then p else m.lam j } (c.sl.set i (.own (.lst xs))) := fun k fs e => by
    have e2 := (h.ini.set (i := i) (s := .own (.lst xs)) (fun _ _ z => nomatch z)) k fs e
    by_cases q : (0 : Nat) = i
    · subst q
      by_cases hl : 0 < c.sl.length
      · rw [List.getElem?_set_self hl] at e
        cases e
      · rw [List.getElem?_eq_none (by rw [List.length_set]; omega)] at e
        cases e
    · show (if (0 : Nat) = i then p else m.lam 0) = m.ini
      rw [if_neg q]
      exact e2
  refine ⟨{ m with lam := fun j => if j = i then p else m.lam j }, ex, h.fr, h.nd, h.tb, h.len, iniL, by show (c.sl.set i _).length = (σ.set i _).length; rw [List.length_set, List.length_set]; exact h.ln, fun n a o h1 h2 => ?_, h.bk, fun j s hs => ?_⟩
  · obtain ⟨k1, k2⟩ := h.st n a o h1 h2
    exact ⟨k1, k2.mono ex rfl⟩
  · have hs : (c.sl.set i (.own (.lst xs)))[j]? = some s := hs
    by_cases e : i = j
    · subst e
      by_cases hi : i < c.sl.length
      · rw [List.getElem?_set_self hi] at hs
        cases hs
        refine ⟨?_, ⟨vs, ?_, hv.mono ex⟩, ⟨?_, ?_, ?_, fun k o' hk z => ?_⟩⟩
        · show (σ.set i _)[i]? = some (some (.ref ((fun j => if j = i then p else m.lam j) i)))
          rw [l1 rfl]
          exact List.getElem?_set_self (by rw [← h.ln]; exact hi)
        · show H ((fun j => if j = i then p else m.lam j) i) = _
          rw [l1 rfl]
          exact hp
        · show m.F ((fun j => if j = i then p else m.lam j) i) = _
          rw [l1 rfl]
          exact f.f
        · show m.B ((fun j => if j = i then p else m.lam j) i) = _
          rw [l1 rfl]
          exact f.b
        · show (fun j => if j = i then p else m.lam j) i ∉ m.rho
          rw [l1 rfl]
          exact f.r
        · have hk : (c.sl.set i (.own (.lst xs)))[k]? = some (.own o') := hk
          have z : (fun j => if j = i then p else m.lam j) k = (fun j => if j = i then p else m.lam j) i := z
          rw [l1 (j := i) rfl] at z
          by_cases ek : i = k
          · exact ek.symm
          · rw [List.getElem?_set_ne ek] at hk
            rw [l2 (fun e => ek e.symm)] at z
            exact absurd z (f.o k o' hk)
      · rw [List.getElem?_eq_none (by rw [List.length_set]; omega)] at hs
        cases hs
    · rw [List.getElem?_set_ne e] at hs
      have q := h.sl j s hs
      cases s with
      | no => trivial
      | val d' =>
        obtain ⟨w, q1, q2⟩ := q
        exact ⟨w, by rw [List.getElem?_set_ne e]; exact q1, q2.mono ex⟩
      | own o =>
        obtain ⟨q1, q2, q3⟩ := q
        have ej : (fun j => if j = i then p else m.lam j) j = m.lam j := l2 (fun z => e z.symm)
        refine ⟨?_, ?_, ⟨?_, ?_, ?_, fun k o' hk z => ?_⟩⟩
        · show (σ.set i _)[j]? = some (some (.ref ((fun j => if j = i then p else m.lam j) j)))
          rw [ej, List.getElem?_set_ne e]
          exact q1
        · show So g _ H ((fun j => if j = i then p else m.lam j) j) o
          rw [ej]
          exact q2.mono ex rfl
        · show m.F ((fun j => if j = i then p else m.lam j) j) = _
          rw [ej]
          exact q3.fr
        · show m.B ((fun j => if j = i then p else m.lam j) j) = _
          rw [ej]
          exact q3.bk
        · show (fun j => if j = i then p else m.lam j) j ∉ m.rho
          rw [ej]
          exact q3.rh
        · have hk : (c.sl.set i (.own (.lst xs)))[k]? = some (.own o') := hk
          have z : (fun j => if j = i then p else m.lam j) k = (fun j => if j = i then p else m.lam j) j := z
          rw [ej] at z
          by_cases ek : i = k
          · subst ek
            rw [l1 rfl] at z
            exact absurd z.symm (f.o j o hs)
          · rw [List.getElem?_set_ne ek] at hk
            rw [l2 (fun e => ek e.symm)] at z
            exact q3.ap k o' hk z
theorem Sim.no {g : G} {m : Mp} {c : CS} {σ : L2.St} {H : Hp} (h : Sim g m c σ H) {i : Nat} (o : Option V) : Sim g m (c.put i .no) (σ.set i o) H := by
  refine ⟨h.fr, h.nd, h.tb, h.len, h.ini.set (fun _ _ z => nomatch z), by show (c.sl.set i _).length = (σ.set i _).length; rw [List.length_set, List.length_set]; exact h.ln, h.st, h.bk, fun j s hs => ?_⟩
  have hs : (c.sl.set i .no)[j]? = some s := hs
  by_cases e : i = j
  · subst e
    by_cases hi : i < c.sl.length
    · rw [List.getElem?_set_self hi] at hs
      cases hs
      trivial
    · rw [List.getElem?_eq_none (by rw [List.length_set]; omega)] at hs
      cases hs
  · rw [List.getElem?_set_ne e] at hs
    have q := h.sl j s hs
    cases s with
    | no => trivial
    | val d' =>
      obtain ⟨w, q1, q2⟩ := q
      exact ⟨w, by rw [List.getElem?_set_ne e]; exact q1, q2⟩
    | own o =>
      obtain ⟨q1, q2, q3⟩ := q
      refine ⟨by rw [List.getElem?_set_ne e]; exact q1, q2, ⟨q3.fr, q3.bk, q3.rh, fun k o' hk z => ?_⟩⟩
      have hk : (c.sl.set i .no)[k]? = some (.own o') := hk
      by_cases ek : i = k
      · subst ek
        by_cases hi : i < c.sl.length
        · rw [List.getElem?_set_self hi] at hk
          cases hk
        · rw [List.getElem?_eq_none (by rw [List.length_set]; omega)] at hk
          cases hk
      · rw [List.getElem?_set_ne ek] at hk
        exact q3.ap k o' hk z
theorem nodup_at {l : List Addr} (h : l.Nodup) {i j : Nat} {a : Addr} (hi : l[i]? = some a) (hj : l[j]? = some a) : i = j := by
  obtain ⟨h1, e1⟩ := List.getElem?_eq_some_iff.mp hi
  obtain ⟨h2, e2⟩ := List.getElem?_eq_some_iff.mp hj
  rcases Nat.lt_trichotomy i j with q | q | q
  · exact absurd (e1.trans e2.symm) (List.pairwise_iff_getElem.mp h i j h1 h2 q)
  · exact q
  · exact absurd (e2.trans e1.symm) (List.pairwise_iff_getElem.mp h j i h2 h1 q)
theorem Sim.wrOwn {g : G} {m : Mp} {c : CS} {σ : L2.St} {H : Hp} (h : Sim g m c σ H) {i : Nat} {o o' : O} (hi : c.sl[i]? = some (.own o)) {u : HO} (k : ∀ H', H' (m.lam i) = some u → So g m H' (m.lam i) o') (hk : ∀ c fs, o' = .ins c fs → ∃ c fs, o = .ins c fs) : Sim g m (c.put i (.own o')) σ (upd H (m.lam i) u) := by
  obtain ⟨e1, e2, e3⟩ := h.sl i _ hi
  have hlt : i < c.sl.length := (List.getElem?_eq_some_iff.mp hi).1
  have iniL : IniOk m (c.sl.set i (.own o')) := fun k fs e => by
    by_cases q : i = 0
    · subst q
      rw [List.getElem?_set_self hlt] at e
      cases e
      obtain ⟨c2, fs2, e2⟩ := hk _ _ rfl
      subst e2
      exact h.ini _ _ hi
    · rw [List.getElem?_set_ne q] at e
      exact h.ini k fs e
  refine ⟨fun a w z => ?_, h.nd, (let ⟨_, y1, y2⟩ := e2.here; h.tb.mut y1 fun ps z => by subst z; exact y2), h.len, iniL, by show (c.sl.set i _).length = _; rw [List.length_set]; exact h.ln, fun n a w h1 h2 => ?_, fun a w z => ?_, fun j s hs => ?_⟩
  · rw [upd_ne (fun e => by rw [e, e3.fr] at z; cases z)]
    exact h.fr a w z
  · obtain ⟨k1, k2⟩ := h.st n a w h1 h2
    exact ⟨k1, k2.mono Ext.rfl' (upd_ne fun e => e3.rh (by rw [← e]; exact List.mem_of_getElem? h1))⟩
  · rw [upd_ne (fun e => by rw [e, e3.bk] at z; cases z)]
    exact h.bk a w z
  · have hs : (c.sl.set i (.own o'))[j]? = some s := hs
    by_cases e : i = j
    · subst e
      rw [List.getElem?_set_self hlt] at hs
      cases hs
      refine ⟨e1, k _ upd_same, ⟨e3.fr, e3.bk, e3.rh, fun k o'' hk z => ?_⟩⟩
      have hk : (c.sl.set i (.own o'))[k]? = some (.own o'') := hk
      by_cases ek : i = k
      · exact ek.symm
      · rw [List.getElem?_set_ne ek] at hk
        exact e3.ap k o'' hk z
    · rw [List.getElem?_set_ne e] at hs
      have q := h.sl j s hs
      cases s with
      | no => trivial
      | val d' => exact q
      | own w =>
        obtain ⟨q1, q2, q3⟩ := q
        have ne : m.lam j ≠ m.lam i := fun z => e (e3.ap j w hs z).symm
        refine ⟨q1, q2.mono Ext.rfl' (upd_ne ne), ⟨q3.fr, q3.bk, q3.rh, fun k o'' hk z => ?_⟩⟩
        have hk : (c.sl.set i (.own o'))[k]? = some (.own o'') := hk
        by_cases ek : i = k
        · subst ek
          exact absurd z.symm ne
        · rw [List.getElem?_set_ne ek] at hk
          exact q3.ap k o'' hk z
theorem Sim.wrSt {g : G} {m : Mp} {c : CS} {σ : L2.St} {H : Hp} (h : Sim g m c σ H) {n : Nat} {a : Addr} {o o' : O} (ha : m.rho[n]? = some a) (ho : c.S[n]? = some o) {u : HO} (k : ∀ H', H' a = some u → So g m H' a o') : Sim g m { c with S := c.S.set n o' } σ (upd H a u) := by
  have hlt : n < c.S.length := (List.getElem?_eq_some_iff.mp ho).1
  obtain ⟨f1, f2⟩ := h.st n a o ha ho
  refine ⟨fun b w z => ?_, h.nd, (let ⟨_, y1, y2⟩ := f2.here; h.tb.mut y1 fun ps z => by subst z; exact y2), by show _ = (c.S.set n o').length; rw [List.length_set]; exact h.len, h.ini, h.ln, fun n' b w h1 h2 => ?_, fun b w z => ?_, fun j s hs => ?_⟩
  · rw [upd_ne (fun e => by rw [e, f1] at z; cases z)]
    exact h.fr b w z
  · have h2 : (c.S.set n o')[n']? = some w := h2
    by_cases e : n = n'
    · subst e
      rw [ha] at h1
      cases h1
      rw [List.getElem?_set_self hlt] at h2
      cases h2
      exact ⟨f1, k _ upd_same⟩
    · rw [List.getElem?_set_ne e] at h2
      obtain ⟨k1, k2⟩ := h.st n' b w h1 h2
      have ne : b ≠ a := fun z => by
        subst z
        exact e (nodup_at h.nd ha h1)
      exact ⟨k1, k2.mono Ext.rfl' (upd_ne ne)⟩
  · have z := h.bk b w z
    rw [upd_ne (fun e => z.2.2.1 (by rw [e]; exact List.mem_of_getElem? ha))]
    exact z
  · have q := h.sl j s hs
    cases s with
    | no => trivial
    | val d' => exact q
    | own w =>
      obtain ⟨q1, q2, q3⟩ := q
      exact ⟨q1, q2.mono Ext.rfl' (upd_ne fun e => q3.rh (by rw [e]; exact List.mem_of_getElem? ha)), q3⟩
end CL
namespace CL
open PySem PySem.Spec PyProof.Rows L2
def isLoc (o : Option NameKind) : Bool := match o with
  | some .local => true
  | some .cell => true
  | _ => false
def isVis (o : Option NameKind) : Bool := match o with
  | some .local => true
  | some .cell => true
  | some .free => true
  | _ => false
theorem vis_of {sc : Scope} {x : Str} (h : isVis (sc.names.lookup x) = true) : Vis sc x := by
  unfold Vis
  cases e : sc.names.lookup x with
  | none => rw [e] at h; cases h
  | some k => rw [e] at h; cases k <;> first | (cases h; done) | simp
structure Good (g : G) (k : Nat) (N : List Str) (X : Cx) (sc ws : Scope) (W : WX) : Prop where
  hN : X.N = N
  nd : N.Nodup
  hsc : X.env.scope = sc
  calm : X.calm = true
  room : Room k X.A
  hK : X.K = g.K
  hP : X.prog = g.prog
  hw : X.w = g.w
  hmg : X.mg = g.mg
  hbs : X.base = g.base
  tk : Takes X W
  own : PassesOwn (model X.prog X.w) X.A X.env X.xe
  sto : ∀ x, isLoc (ws.names.lookup x) = true → Loc X.env.scope x ∧ (X.fn x = true ∨ X.env.scope.names.lookup x = some .local)
section
variable {g : G} {k : Nat} {N : List Str} {X : Cx} {sc ws : Scope} {W : WX}
theorem Good.vis (q : Good g k N X sc ws W) {x : Str} (h : isVis (sc.names.lookup x) = true) : Vis X.env.scope x := by
  rw [q.hsc]
  exact vis_of h
def isGl (sc : Scope) (x : Str) : Bool := match sc.names.lookup x with
  | some .globalImplicit => !(x == ("__debug__" : Str)) && !(x == ("__name__" : Str))
  | _ => false
theorem Good.gl (q : Good g k N X sc ws W) {x : Str} (h : isGl sc x = true) : Gl X x ∧ (x == ("__debug__" : Str)) = false ∧ x ≠ "__name__" := by
  unfold isGl at h
  split at h
  · rename_i e
    rw [Bool.and_eq_true] at h
    refine ⟨?_, by simpa using h.1, fun z => ?_⟩
    · show X.env.scope.names.lookup x = _
      rw [q.hsc]
      exact e
    · have h2 := h.2
      rw [z] at h2
      revert h2
      decide
  · cases h
theorem Good.fn (q : Good g k N X sc ws W) {j : Nat} {f : Addr} {fn : Fn} (F : FnC g j f fn) : FnR X.prog X.w X.K X.mg X.base (L2.CX X.prog X.w) j f (spOf g fn) := by
  rw [q.hP, q.hw, q.hK, q.hmg, q.hbs]
  exact F
theorem Good.ndX (q : Good g k N X sc ws W) : X.N.Nodup := by rw [q.hN]; exact q.nd
theorem Good.at_ (q : Good g k N X sc ws W) {i : Nat} {x : Str} (h : N[i]? = some x) : X.N[i]? = some x := by rw [q.hN]; exact h
end
def noDbg (x : Str) : Bool := !(x == ("__debug__" : Str)) && !(x == ("__classdict__" : Str))
theorem noDbg_1 {x : Str} (h : noDbg x = true) : (x == ("__debug__" : Str)) = false := by
  unfold noDbg at h
  rw [Bool.and_eq_true] at h
  simpa using h.1
theorem noDbg_2 {x : Str} (h : noDbg x = true) : (x == ("__classdict__" : Str)) = false := by
  unfold noDbg at h
  rw [Bool.and_eq_true] at h
  simpa using h.2
def notComp : Expr → Bool
  | .ListComp _ _ _ _ => false
  | .SetComp _ _ _ _ => false
  | .DictComp _ _ _ _ _ => false
  | _ => true
theorem swaps_no {e : Expr} {t : Option Expr} {l : Nat} {env : Env} (h : notComp e = true) : swapsWith e t l env = pure false := by
  cases e <;> first | rfl | cases h
def cSet (i : Nat) (fe : M D) : M Fl := fun c => (fe c).bind fun d c' => .ok .next (c'.put i (.val d))
def cSetL (i : Nat) (fl : M (List D)) : M Fl := fun c => (fl c).bind fun xs c' => .ok .next (c'.put i (.own (.lst xs)))
section
variable {X : Cx} {g : G} {k : Nat} {N : List Str} {sc ws : Scope} {W : WX} {pos pos' : Pos} {e : Expr} {fe : M D} {fl : M (List D)} {i : Nat} {x : Str}
theorem cSet_ok (Dn : Ends) (σ : L2.St) (H : Hp) (q : tS g W (cSet i fe) Dn σ H) : tE g W fe σ H fun v H1 => Dn.nx (σ.set i (some v)) H1 := by
  obtain ⟨m, c, s, o⟩ := q
  exact ⟨m, c, s, o.bind.imp fun v H1 ⟨m1, d, c1, x1, s1, k1, o1⟩ => o1.nx (s1.val k1)⟩
theorem cSetL_ok (Dn : Ends) (σ : L2.St) (H : Hp) (q : tS g W (cSetL i fl) Dn σ H) : tL g W fl σ H fun v H1 => Dn.nx (σ.set i (some v)) H1 := by
  obtain ⟨m, c, s, o⟩ := q
  refine ⟨m, c, s, o.bind.imp fun v H1 ⟨m1, d, c1, x1, s1, k1, o1⟩ => ?_⟩
  obtain ⟨m2, x2, s2⟩ := s1.own (i := i) k1
  exact (o1.mono x2).nx s2
theorem ss_set (q : Good g k N X sc ws W) (hi : N[i]? = some x) (hl : isLoc (ws.names.lookup x) = true) (he : PE X e (tE g W fe)) (hs : swapsWith e (some (.Name x pos')) pos.line X.env = pure false) : PS X (.Assign [.Name x pos'] e pos) (tS g W (cSet i fe)) :=
  ps_imp (ps_set q.ndX (q.at_ hi) (q.sto x hl).1 he hs (q.sto x hl).2) cSet_ok
theorem ss_setL (q : Good g k N X sc ws W) (hi : N[i]? = some x) (hl : isLoc (ws.names.lookup x) = true) (he : PE X e (tL g W fl)) (hs : swapsWith e (some (.Name x pos')) pos.line X.env = pure false) : PS X (.Assign [.Name x pos'] e pos) (tS g W (cSetL i fl)) :=
  ps_imp (ps_set q.ndX (q.at_ hi) (q.sto x hl).1 he hs (q.sto x hl).2) cSetL_ok
end
inductive Pl where
  | own (xs : List D)
  | st (n : Nat) (xs : List D)
def CS.pl (c : CS) (i : Nat) : Option Pl := match c.sl[i]? with
  | some (.own (.lst xs)) => some (.own xs)
  | some (.val (.ref n)) => match c.S[n]? with
    | some (.lst xs) => some (.st n xs)
    | _ => none
  | _ => none
def Pl.xs : Pl → List D
  | .own xs => xs
  | .st _ xs => xs
def CS.wr (c : CS) (i : Nat) (p : Pl) (ys : List D) : CS := match p with
  | .own _ => c.put i (.own (.lst ys))
  | .st n _ => { c with S := c.S.set n (.lst ys) }
theorem Sim.pl {g : G} {m : Mp} {c : CS} {σ : L2.St} {H : Hp} (s : Sim g m c σ H) {i : Nat} {p : Pl} (e : c.pl i = some p) :
    ∃ a vs, σ[i]? = some (some (.ref a)) ∧ H a = some (.lst vs) ∧ Svs g m p.xs vs ∧ ∀ ys ws, Svs g m ys ws → Sim g m (c.wr i p ys) σ (upd H a (.lst ws)) := by
  unfold CS.pl at e
  cases q : c.sl[i]? with
  | none => rw [q] at e; cases e
  | some t =>
    rw [q] at e
    cases t with
    | no => cases e
    | own o =>
      cases o with
      | ins _ _ => cases e
      | lst xs =>
        cases e
        obtain ⟨h1, ⟨vs, h2, h3⟩, h4⟩ := s.sl i _ q
        exact ⟨m.lam i, vs, h1, h2, h3, fun ys ws k => s.wrOwn q (fun H' z => ⟨ws, z, k⟩) (fun _ _ z => nomatch z)⟩
    | val d =>
      cases d with
      | ref n =>
        have e : (match c.S[n]? with
          | some (.lst xs) => some (Pl.st n xs)
          | _ => none) = some p := e
        cases r : c.S[n]? with
        | none => rw [r] at e; cases e
        | some o =>
          rw [r] at e
          cases o with
          | ins _ _ => cases e
          | lst xs =>
            cases e
            obtain ⟨v, h1, h2⟩ := s.sl i _ q
            cases h2 with
            | @ref _ a ha =>
              obtain ⟨_, vs, k1, k2⟩ := s.st n a _ ha r
              exact ⟨a, vs, h1, k1, k2, fun ys ws k => s.wrSt ha r fun H' z => ⟨ws, z, k⟩⟩
      | _ => cases e
theorem asgSub_ok {o i : Expr} {pos : Pos} {env : Env} (h : notSlice i = true) (v : Value) : assign (.Subscript o i pos) env v = (do
      let ov ← holding [v] (eval o env)
      let iv ← holding [v, ov] (eval i env)
      standAt pos
      holding [v, ov, iv] (setItem ov iv v)
      release [v, ov, iv] []) := by
  cases i <;> first | rfl | cases h
theorem swaps_sub {e o i : Expr} {p : Pos} {l : Nat} {env : Env} : swapsWithSole [.Subscript o i p] e l env = pure false := by
  cases e <;> rfl
theorem swst_sub {e o i : Expr} {p : Pos} {env : Env} : swappedStores [.Subscript o i p] e env = pure none := by
  cases e <;> rfl
def cSetIx (i : Nat) (fi fe : M D) : M Fl := fun c => (fe c).bind fun d c1 => match c1.pl i with
  | none => .stuck
  | some _ => (fi c1).bind fun j c2 => match j, c2.pl i with
    | .int j, some p => match ixN p.xs.length j with
      | some n => .ok .next (c2.wr i p (p.xs.set n d))
      | none => .stuck
    | _, _ => .stuck
section
variable {X : Cx} {g : G} {k : Nat} {N : List Str} {sc ws : Scope} {W : WX} {pos pos' px : Pos} {e ie : Expr} {fe fi : M D} {i : Nat} {x : Str}
theorem ss_setIx (q : Good g k N X sc ws W) (hi : N[i]? = some x) (hv : isVis (sc.names.lookup x) = true) (hd : noDbg x = true) (he : PE X e (tE g W fe)) (hie : PE X ie (tE g W fi)) (hs : notSlice ie = true) : PS X (.Assign [.Subscript (.Name x px) ie pos'] e pos) (tS g W (cSetIx i fi fe)) := by
  refine ps_imp (ps_asg he (pg_sub (pe_var (q.at_ hi) (q.vis hv) (noDbg_1 hd) (noDbg_2 hd)) hie set_list (asgSub_ok hs)) swaps_sub swst_sub rfl) fun Dn σ H ⟨m, c, s, o⟩ => ?_
  refine ⟨m, c, s, o.bind.imp fun v H1 ⟨m1, d, c1, x1, s1, k1, o1⟩ => ?_⟩
  cases e1 : c1.pl i with
  | none => rw [e1] at o1; exact o1.elim
  | some p =>
    rw [e1] at o1
    obtain ⟨a, vs, h1, h2, h3, h4⟩ := s1.pl e1
    refine ⟨.ref a, h1, m1, c1, s1, o1.bind.imp fun y H2 ⟨m2, j, c2, x2, s2, k2, o2⟩ => ?_⟩
    cases k2 with
    | int j =>
      cases e2 : c2.pl i with
      | none => rw [e2] at o2; exact o2.elim
      | some p2 =>
        obtain ⟨a2, vs2, g1, g2, g3, g4⟩ := s2.pl e2
        rw [h1] at g1
        cases g1
        have o2 : OutS g W m2 (match c2.pl i with
          | some p => match ixN p.xs.length j with
            | some n => .ok .next (c2.wr i p (p.xs.set n d))
            | none => .stuck
          | none => .stuck) Dn := by
          cases e3 : c2.pl i with
          | none => rw [e3] at e2; cases e2
          | some p3 => rw [e3] at o2; exact o2
        rw [e2] at o2
        dsimp only at o2
        cases e3 : ixN p2.xs.length j with
        | none => rw [e3] at o2; exact o2.elim
        | some n =>
          rw [e3] at o2
          refine ⟨a, vs2, j, n, rfl, rfl, g2, by rw [← g3.length]; exact e3, ?_⟩
          exact o2.nx (g4 _ _ (g3.set n (k1.mono x2)))
    | _ => exact o2.elim
end
def Yld (g : G) (m : Mp) (J : It) (ds : List D) : Prop := ∀ (m1 : Mp) (c : CS) (σ : L2.St) (H : Hp), (∀ (n : Nat) (a : Addr), m.rho[n]? = some a → m1.rho[n]? = some a) → (∀ (a : Addr) (o : HO), m.F a = some o → m1.F a = some o) → Sim g m1 c σ H → ∀ i : Nat,
  (i = ds.length → J.stop i H) ∧ ∀ d, ds[i]? = some d → J.go i H ∧ ∀ x H', J.yld i H x H' → ∃ m2, Ext m1 m2 ∧ Sim g m2 c σ H' ∧ Sv g m2 d x
def rI (g : G) : Rl (List D) It := fun m _ _ ds J => Yld g m J ds
abbrev tI (g : G) (W : WX) (f : M (List D)) : TI := tX (rI g) g W f
theorem pi_imp {X : Cx} {tg e : Expr} {t t' : TI} (h : PI X tg e t) (i : ∀ σ H R, t' σ H R → t σ H R) : PI X tg e t' := ⟨fun pins s σ H R I q => h.run pins s σ H R I (i σ H R q)⟩
theorem yld_list {g : G} {m : Mp} {a : Addr} {ds : List D} {vs : List V} (h : m.F a = some (.lst vs)) (k : Svs g m ds vs) : Yld g m (Itl g.K a) ds := fun m1 c σ H xr xf s i => by
  have hq : SqL g.K H a vs := SqL.of (s.fr _ _ (xf _ _ h))
  have kl := k.length
  refine ⟨fun hi => ⟨vs, hq, by omega⟩, fun d hd => ?_⟩
  obtain ⟨v, h1, h2⟩ := k.get hd
  refine ⟨⟨vs, v, hq, h1⟩, fun y H' ⟨e1, e2⟩ => ?_⟩
  have e3 := e2 vs hq
  rw [h1] at e3
  cases e3
  subst e1
  exact ⟨m1, Ext.rfl', s, Sv.like xr xf h2⟩
theorem yld_tup {g : G} {m : Mp} {a : Addr} {ds : List D} {vs : List V} (h : SqT g.K m.F a vs) (k : Svs g m ds vs) : Yld g m (Itt g.K a) ds := fun m1 c σ H xr xf s i => by
  have hq : SqT g.K H a vs := s.sqT (sqT_mono xf h)
  have kl := k.length
  refine ⟨fun hi => ⟨vs, hq, by omega⟩, fun d hd => ?_⟩
  obtain ⟨v, h1, h2⟩ := k.get hd
  refine ⟨⟨vs, v, hq, h1⟩, fun y H' ⟨e1, e2⟩ => ?_⟩
  have e3 := e2 vs hq
  rw [h1] at e3
  cases e3
  subst e1
  exact ⟨m1, Ext.rfl', s, Sv.like xr xf h2⟩
def rangeD (lo : Int) (n : Nat) : List D := (List.range n).map fun (i : Nat) => D.int (lo + i)
theorem yld_range {g : G} {m : Mp} {lo : Int} {n : Nat} : Yld g m (Itr lo n) (rangeD lo n) := fun m1 c σ H xr xf s i => by
  have hl : (rangeD lo n).length = n := by unfold rangeD; simp
  refine ⟨fun hi => by rw [hl] at hi; exact Nat.le_of_eq hi.symm, fun d hd => ?_⟩
  have hi : i < n := by
    rw [← hl]
    exact (List.getElem?_eq_some_iff.mp hd).1
  unfold rangeD at hd
  rw [List.getElem?_map, List.getElem?_range hi] at hd
  cases hd
  refine ⟨hi, fun y H' ⟨e1, e2⟩ => ?_⟩
  subst e1
  subst e2
  exact ⟨m1, Ext.rfl', s, .int _⟩
def fitsR (i : Int) : Bool := decide (-(2 ^ 62) ≤ i ∧ i < 2 ^ 62)
def dWalk (d : D) : M (List D) := fun c => match d with
  | .lst xs => .ok xs c
  | .tup xs => .ok xs c
  | _ => .stuck
def cWalk (f : M D) : M (List D) := f.bind dWalk
def cRange1 (f : M D) : M (List D) := f.bind fun x => match x with
  | .int n => M.guard (fitsR n) (M.ret (rangeD 0 n.toNat))
  | _ => fun _ => .stuck
def cRange2 (f h : M D) : M (List D) := f.bind fun x => h.bind fun y => match x, y with
  | .int i, .int j => M.guard (fitsR i && fitsR j) (M.ret (rangeD i (j - i).toNat))
  | _, _ => fun _ => .stuck
section
variable {X : Cx} {g : G} {W : WX} {tg e e2 : Expr} {fe fe2 : M D} {p pos : Pos}
theorem pi_seq (hK : X.K = g.K) (he : PE X e (tE g W fe)) : PI X tg e (tI g W (cWalk fe)) := by
  refine ⟨fun pins s σ H R I ⟨m, c, sm, o⟩ => ?_⟩
  refine thn (he.run pins s σ H _ I ⟨m, c, sm, o.bind⟩) fun u s1 ⟨v, H1, I1, r1, m1, d, c1, x1, s2, k1, o1⟩ => ?_
  cases k1 with
  | @lst a ds vs h1 h2 =>
    cases r1
    obtain ⟨its, _, pl, _⟩ := I1.list (SqL.of (s2.fr _ _ h1))
    refine wpAny_pyIter_list pl.isList ⟨s1.heap.objs.size, [s1.heap.objs.size], _, _, H1, rfl, I1.kept (t' := s1.toks) fun b ob q => Heap.get?_push_of_some _ q, turn_list a _, ⟨_, Heap.get?_push_size _ rfl, rfl, rfl⟩, fun b hb => ?_, ?_⟩
    · cases List.mem_singleton.mp hb
      exact I1.fpOk (Nat.le_refl _) (I1.hok.fresh (Nat.le_refl _))
    · rw [hK]
      exact o1.here s2 (yld_list h1 h2)
  | @tup a ds vs h1 h2 =>
    cases r1
    have hq : SqT X.K H1 a vs := by
      rw [hK]
      exact s2.sqT h1
    obtain ⟨its, _, pl, _⟩ := I1.tuple hq
    refine wpAny_pyIter_tuple (show s1.heap.IsTuple a its.toArray from pl) ⟨s1.heap.objs.size, [s1.heap.objs.size], _, _, H1, rfl, I1.kept (t' := s1.toks) fun b ob q => Heap.get?_push_of_some _ q, turn_tuple a _, ⟨_, Heap.get?_push_size _ rfl, rfl, rfl⟩, fun b hb => ?_, ?_⟩
    · cases List.mem_singleton.mp hb
      exact I1.fpOk (Nat.le_refl _) (I1.hok.fresh (Nat.le_refl _))
    · rw [hK]
      exact o1.here s2 (yld_tup h1 h2)
  | _ => exact o1.elim
theorem si_range1 (hg : Gl X "range") (hm : X.mg "range" = none) (he : PE X e (tE g W fe)) (hs : isStar e = false) : PI X tg (.Call (.Name "range" p) [e] [] pos) (tI g W (cRange1 fe)) := by
  refine pi_imp (pi_range1 hg hm (pa_cons he pa_nil (star_plain hs)) (star_plain hs)) fun σ H R ⟨m, c, s, o⟩ => ⟨m, c, s, o.bind.imp fun v H1 ⟨m1, d, c1, x1, s1, k1, o1⟩ => ?_⟩
  cases k1 with
  | int n =>
    obtain ⟨hz, o1⟩ := Out.guard o1
    have hz := of_decide_eq_true hz
    exact ⟨n, rfl, hz.1, hz.2, o1.here s1 yld_range⟩
  | _ => exact o1.elim
theorem si_range2 (hg : Gl X "range") (hm : X.mg "range" = none) (he : PE X e (tE g W fe)) (he2 : PE X e2 (tE g W fe2)) (hs : isStar e = false) (hs2 : isStar e2 = false) : PI X tg (.Call (.Name "range" p) [e, e2] [] pos) (tI g W (cRange2 fe fe2)) := by
  refine pi_imp (pi_range2 hg hm (pa_cons he (pa_cons he2 pa_nil (star_plain hs2)) (star_plain hs)) (by rw [star_plain hs, star_plain hs2]; rfl) (star_plain hs2)) fun σ H R ⟨m, c, s, o⟩ => ⟨m, c, s, o.bind.imp fun v H1 ⟨m1, d, c1, x1, s1, k1, o1⟩ => ⟨m1, c1, s1, o1.bind.imp fun v2 H2 ⟨m2, d2, c2, x2, s2, k2, o2⟩ => ?_⟩⟩
  cases k1 with
  | int i =>
    cases k2 with
    | int j =>
      obtain ⟨hz, o2⟩ := Out.guard o2
      rw [Bool.and_eq_true] at hz
      have h1 := of_decide_eq_true hz.1
      have h2 := of_decide_eq_true hz.2
      exact ⟨i, j, rfl, ⟨h1.1, h1.2, h2.1, h2.2⟩, o2.here s2 yld_range⟩
    | _ => exact o2.elim
  | _ => cases k2 <;> exact o2.elim
end
inductive Tg where
  | nm (i : Nat)
  | tp (is : List Nat)
def putAll : List Nat → List D → CS → CS
  | i :: is, d :: ds, c => putAll is ds (c.put i (.val d))
  | _, _, c => c
def cTg : Tg → D → M Fl
  | .nm i, d => fun c => .ok .next (c.put i (.val d))
  | .tp is, .tup ds => fun c => match decide (ds.length = is.length) with
    | true => .ok .next (putAll is ds c)
    | false => .stuck
  | .tp _, _ => fun _ => .stuck
def setAll : List Nat → List V → L2.St → L2.St
  | i :: is, v :: vs, σ => setAll is vs (σ.set i (some v))
  | _, _, σ => σ
theorem Sim.putAll {g : G} {m : Mp} {H : Hp} : ∀ (is : List Nat) {ds : List D} {vs : List V} {c : CS} {σ : L2.St}, Sim g m c σ H → Svs g m ds vs → Sim g m (CL.putAll is ds c) (setAll is vs σ) H
  | [], _, _, _, _, s, _ => by
    unfold CL.putAll setAll
    exact s
  | i :: is, _, _, _, _, s, .nil => s
  | i :: is, _, _, _, _, s, .cons k r => Sim.putAll is (s.val k) r
def gT (g : G) (t : Tg) : TG := fun v σ H Q => match t with
  | .nm i => Q (σ.set i (some v)) H
  | .tp is => ∃ a xs, v = .ref a ∧ SqT g.K H a xs ∧ xs.length = is.length ∧ Q (setAll is xs σ) H
structure PTg (g : G) (X : Cx) (tg : Expr) (t : Tg) : Prop where
  run : PG X tg (gT g t)
def Tg.slots : Tg → List Nat
  | .nm i => [i]
  | .tp is => is
theorem wipe_get (σ : L2.St) (j : Nat) : ∀ vs : List Nat, (wipe σ vs)[j]? = if j ∈ vs then σ[j]?.map (fun _ => none) else σ[j]?
  | [] => by simp [wipe]
  | v :: vs => by
    have ih := wipe_get σ j vs
    unfold wipe
    by_cases e : v = j
    · subst e
      rw [if_pos (List.mem_cons_self)]
      by_cases h : v < σ.length
      · rw [List.getElem?_set_self (by rw [wipe_length]; exact h), List.getElem?_eq_getElem h]
        rfl
      · rw [List.getElem?_eq_none (by rw [List.length_set, wipe_length]; omega), List.getElem?_eq_none (by omega)]
        rfl
    · rw [List.getElem?_set_ne e, ih]
      by_cases h : j ∈ vs
      · rw [if_pos h, if_pos (List.mem_cons_of_mem _ h)]
      · rw [if_neg h, if_neg (fun z => (List.mem_cons.mp z).elim (fun z => e z.symm) h)]
theorem wipe_set {σ : L2.St} {i : Nat} {o : Option V} {vs : List Nat} (h : i ∈ vs) : wipe (σ.set i o) vs = wipe σ vs := by
  refine List.ext_getElem? fun j => ?_
  rw [wipe_get, wipe_get]
  by_cases e : i = j
  · subst e
    rw [if_pos h, if_pos h, List.getElem?_set]
    by_cases h : i < σ.length
    · simp [h]
    · simp [h]
  · rw [List.getElem?_set_ne e]
theorem wipe_wipe (σ : L2.St) (vs : List Nat) : wipe (wipe σ vs) vs = wipe σ vs := by
  refine List.ext_getElem? fun j => ?_
  rw [wipe_get, wipe_get]
  by_cases h : j ∈ vs
  · rw [if_pos h, if_pos h]
    cases σ[j]? <;> rfl
  · rw [if_neg h, if_neg h]
theorem wipe_setAll {vs : List Nat} : ∀ (is : List Nat) (xs : List V) (σ : L2.St), (∀ i ∈ is, i ∈ vs) → wipe (setAll is xs σ) vs = wipe σ vs
  | [], _, _, _ => by unfold setAll; rfl
  | i :: is, [], _, _ => rfl
  | i :: is, x :: xs, σ, h => by
    show wipe (setAll is xs (σ.set i (some x))) vs = _
    rw [wipe_setAll is xs _ fun j hj => h j (List.mem_cons_of_mem _ hj), wipe_set (h i List.mem_cons_self)]
theorem PTg.go {g : G} {t : Tg} {m : Mp} {c c' : CS} {σ : L2.St} {H : Hp} {d : D} {v : V} {Q : L2.St → Hp → Prop} (s : Sim g m c σ H) (k : Sv g m d v) (e : cTg t d c = .ok .next c') (q : ∀ σ', Sim g m c' σ' H → (∀ vs : List Nat, (∀ i ∈ t.slots, i ∈ vs) → wipe σ' vs = wipe σ vs) → Q σ' H) : gT g t v σ H Q := by
  cases t with
  | nm i =>
    cases e
    exact q _ (s.val k) fun vs h => wipe_set (h i List.mem_cons_self)
  | tp is =>
    cases k with
    | @tup a ds vs h1 h2 =>
      have e : (match decide (ds.length = is.length) with
        | true => R.ok Fl.next (putAll is ds c)
        | false => .stuck) = .ok .next c' := e
      cases hd : decide (ds.length = is.length) with
      | false => rw [hd] at e; cases e
      | true =>
        rw [hd] at e
        cases e
        have hl := of_decide_eq_true hd
        exact ⟨a, vs, rfl, s.sqT h1, by rw [← h2.length]; exact hl, q _ (s.putAll is h2) fun us h => wipe_setAll is vs σ h⟩
    | _ => cases e
theorem cTg_next (t : Tg) (d : D) (c : CS) : (∃ c', cTg t d c = .ok .next c') ∨ cTg t d c = .stuck := by
  cases t with
  | nm i => exact .inl ⟨_, rfl⟩
  | tp is =>
    cases d with
    | tup ds =>
      show (∃ c', (match decide (ds.length = is.length) with
        | true => R.ok Fl.next (putAll is ds c)
        | false => .stuck) = .ok .next c') ∨ (match decide (ds.length = is.length) with
        | true => R.ok Fl.next (putAll is ds c)
        | false => .stuck) = .stuck
      cases decide (ds.length = is.length) with
      | true => exact .inl ⟨_, rfl⟩
      | false => exact .inr rfl
    | _ => exact .inr rfl
section
variable {g : G} {k : Nat} {N : List Str} {X : Cx} {sc ws : Scope} {W : WX} {pos : Pos} {x : Str} {i : Nat}
theorem tg_name (q : Good g k N X sc ws W) (hi : N[i]? = some x) (hl : isLoc (ws.names.lookup x) = true) : PTg g X (.Name x pos) (.nm i) := ⟨pg_name q.ndX (q.at_ hi) (q.sto x hl).1 (q.sto x hl).2⟩
def tgNames (N : List Str) (ws : Scope) : List Expr → List Nat → Bool
  | [], [] => true
  | .Name x _ :: es, i :: is => decide (N[i]? = some x) && isLoc (ws.names.lookup x) && tgNames N ws es is
  | _, _ => false
theorem pgs_all (q : Good g k N X sc ws W) : ∀ (es : List Expr) (is : List Nat), tgNames N ws es is = true → PGs X es (fun vs σ H Q => vs.length = is.length ∧ Q (setAll is vs σ) H) ∧ (assignEach es X.env).length = is.length ∧ (assignEach es X.env).findIdx? (·.1) = none
  | [], [], _ => ⟨⟨fun pins s σ H vs us Q I r h => by
      obtain ⟨h1, h2⟩ := h
      have e : vs = [] := by cases vs with
        | nil => rfl
        | cons _ _ => cases h1
      subst e
      exact pgs_nil.run pins s σ H [] us Q I r ⟨rfl, by unfold setAll at h2; exact h2⟩⟩, rfl, rfl⟩
  | [], _ :: _, h => by cases h
  | e :: es, is, h => by
    cases e with
    | Name x p =>
      cases is with
      | nil => cases h
      | cons i is =>
        have h : (decide (N[i]? = some x) && isLoc (ws.names.lookup x) && tgNames N ws es is) = true := h
        rw [Bool.and_eq_true, Bool.and_eq_true] at h
        obtain ⟨⟨h1, h2⟩, h3⟩ := h
        obtain ⟨r1, r2, r3⟩ := pgs_all q es is h3
        refine ⟨⟨fun pins s σ H vs us Q I r hq => ?_⟩, ?_, ?_⟩
        · refine (pgs_cons (pg_name (pos := p) q.ndX (q.at_ (of_decide_eq_true h1)) (q.sto x h2).1 (q.sto x h2).2) r1).run pins s σ H vs us Q I r ?_
          obtain ⟨hl, hq⟩ := hq
          cases vs with
          | nil => cases hl
          | cons v vs => exact ⟨v, vs, rfl, by simpa using hl, hq⟩
        · show (assignEach es X.env).length + 1 = is.length + 1
          rw [r2]
        · show List.findIdx? _ ((false, assign (.Name x p) X.env) :: assignEach es X.env) = none
          rw [List.findIdx?_cons, r3]
          rfl
    | _ => cases is <;> cases h
theorem tg_tup (q : Good g k N X sc ws W) {es : List Expr} {is : List Nat} {j : Nat} (h : tgNames N ws es is = true) : PTg g X (.Tuple es j pos) (.tp is) := by
  obtain ⟨r1, r2, r3⟩ := pgs_all q es is h
  refine ⟨⟨fun pins s σ H v u Q I r hq => ?_⟩⟩
  obtain ⟨a, xs, e, hs, hl, hq⟩ := hq
  exact (pg_tup (n := is.length) q.calm r1 r2 r3).run pins s σ H v u Q I r ⟨a, xs, e, by rw [q.hK]; exact hs, hl, hl, hq⟩
end
def forL (body : D → M Fl) : List D → M Fl
  | [] => fun c => .ok .next c
  | d :: ds => fun c => match body d c with
    | .ok .next c' => forL body ds c'
    | .ok .cont c' => forL body ds c'
    | .ok .brk c' => .ok .next c'
    | .ok (.ret v) c' => .ok (.ret v) c'
    | .exc cn vs c' => .exc cn vs c'
    | .stuck => .stuck
def cFor (fi : M (List D)) (t : Tg) (body : M Fl) : M Fl := fun c => (fi c).bind fun ds c' => forL (fun d => cSeq (cTg t d) body) ds c'
section
variable {g : G} {k : Nat} {N : List Str} {X : Cx} {sc ws : Scope} {W : WX} {pos : Pos} {tg iter : Expr} {bd : List Stmt} {fi : M (List D)} {t : Tg} {fb : M Fl}
theorem ss_for (q : Good g k N X sc ws W) (hi : PI X tg iter (tI g W fi)) (ht : PTg g X tg t) (hb : PSs X bd (tS g W fb)) (hs : notSet iter = true) : PS X (.For tg iter bd [] pos) (tS g W (cFor fi t fb)) := by
  refine ps_imp (ps_for q.own q.calm hi ht.run hb (folded_ok hs)) fun Dn σ H ⟨m, c, s, o⟩ => ⟨m, c, s, o.bind.imp fun J H1 ⟨m1, ds, c1, x1, s1, y, o1⟩ => ?_⟩
  refine ⟨fun i mm σ H => mm = ds.length - i ∧ i ≤ ds.length ∧ ∃ m2 c2, Ext m1 m2 ∧ Sim g m2 c2 σ H ∧ OutS g W m2 (forL (fun d => cSeq (cTg t d) fb) (ds.drop i) c2) Dn, ⟨ds.length, by simp, Nat.zero_le _, m1, c1, Ext.rfl', s1, o1⟩, ?_⟩
  rintro i mm σ2 H2 ⟨rfl, hi, m2, c2, x2, s2, o2⟩
  obtain ⟨y1, y2⟩ := y m2 c2 σ2 H2 x2.r x2.f s2 i
  by_cases hlt : i < ds.length
  · obtain ⟨go, yl⟩ := y2 _ (List.getElem?_eq_getElem hlt)
    rw [List.drop_eq_getElem_cons hlt] at o2
    refine .inr ⟨go, fun σ3 H3 => ∃ m3 c3, Ext m1 m3 ∧ Sim g m3 c3 σ3 H3 ∧ OutS g W m3 (forL (fun d => cSeq (cTg t d) fb) (ds.drop (i + 1)) c3) Dn, fun σ3 H3 ⟨m3, c3, z1, z2, z3⟩ => ⟨ds.length - (i + 1), by omega, rfl, hlt, m3, c3, z1, z2, z3⟩, fun x H3 yx => ?_⟩
    obtain ⟨m3, x3, s3, k3⟩ := yl x H3 yx
    have o3 := OutS.mono x3 o2
    unfold forL at o3
    rcases cTg_next t ds[i] c2 with ⟨c4, e4⟩ | e4
    · refine PTg.go s3 k3 e4 fun σ4 s4 _ => ⟨m3, c4, s4, ?_⟩
      have e5 : cSeq (cTg t ds[i]) fb c2 = fb c4 := by
        unfold cSeq
        rw [e4]
      rw [e5] at o3
      cases q : fb c4 with
      | ok f c5 =>
        rw [q] at o3
        cases f with
        | next => exact fun m6 σ6 H6 x6 s6 => ⟨m6, c5, (x2.trans x3).trans x6, s6, OutS.mono x6 o3⟩
        | cont => exact fun m6 σ6 H6 x6 s6 => ⟨m6, c5, (x2.trans x3).trans x6, s6, OutS.mono x6 o3⟩
        | brk => exact o3
        | ret v => exact o3
      | exc cn vs c5 => rw [q] at o3; exact o3
      | stuck => rw [q] at o3; exact o3
    · have e5 : cSeq (cTg t ds[i]) fb c2 = .stuck := by
        unfold cSeq
        rw [e4]
      rw [e5] at o3
      exact o3.elim
  · have e : i = ds.length := by omega
    subst e
    rw [List.drop_length] at o2
    exact .inl ⟨y1 rfl, o2.nx s2⟩
end
end CL
namespace CL
open PySem PySem.Spec PyProof.Rows L2
abbrev WF : WX := fun _ _ _ _ => False
def wipeC (vs : List Nat) (c : CS) : CS := vs.foldr (fun v c => c.put v .no) c
theorem Sim.wipe {g : G} {m : Mp} {H : Hp} {c : CS} {σ : L2.St} (s : Sim g m c σ H) : ∀ vs : List Nat, Sim g m (wipeC vs c) (L2.wipe σ vs) H
  | [] => s
  | v :: vs => by
    show Sim g m ((wipeC vs c).put v .no) ((L2.wipe σ vs).set v none) H
    exact (s.wipe vs).no none
theorem Sim.unwipe {g : G} {m : Mp} {H : Hp} {c : CS} {σ : L2.St} {vs : List Nat} (s : Sim g m c (L2.wipe σ vs) H) : Sim g m c σ H :=
  ⟨s.fr, s.nd, s.tb, s.len, s.ini, by rw [s.ln, wipe_length], s.st, s.bk, fun i t h => by
    have q := s.sl i t h
    cases t with
    | no => trivial
    | val d =>
      obtain ⟨v, q1, q2⟩ := q
      exact ⟨v, (wipe_some q1).1, q2⟩
    | own o =>
      obtain ⟨q1, q2, q3⟩ := q
      exact ⟨(wipe_some q1).1, q2, q3⟩⟩
theorem Sim.hide {g : G} {m : Mp} {H : Hp} {c : CS} {σ : L2.St} (s : Sim g m c σ H) {p : Addr} {u : HO} (f : Fre m c p) (hp : H p = some u) (nt : ∀ ps, u ≠ .tbl ps) : Sim g { m with B := upd m.B p u } c σ H := by
  refine ⟨s.fr, s.nd, s.tb, s.len, s.ini, s.ln, fun n a o h1 h2 => ⟨(s.st n a o h1 h2).1, So.like (m := m) (m' := { m with B := upd m.B p u }) (fun _ _ z => z) (fun _ _ z => z) rfl (s.st n a o h1 h2).2⟩, fun a o z => ?_, fun i t h => ?_⟩
  · have z : upd m.B p u a = some o := z
    by_cases e : a = p
    · subst e
      rw [upd_same] at z
      cases z
      exact ⟨hp, f.f, f.r, nt⟩
    · rw [upd_ne e] at z
      exact s.bk a o z
  · have q := s.sl i t h
    cases t with
    | no => trivial
    | val d =>
      obtain ⟨v, q1, q2⟩ := q
      exact ⟨v, q1, Sv.like (m := m) (m' := { m with B := upd m.B p u }) (fun _ _ z => z) (fun _ _ z => z) q2⟩
    | own o =>
      obtain ⟨q1, q2, q3⟩ := q
      refine ⟨q1, So.like (m := m) (m' := { m with B := upd m.B p u }) (fun _ _ z => z) (fun _ _ z => z) rfl q2, ⟨q3.fr, ?_, q3.rh, q3.ap⟩⟩
      show upd m.B p u (m.lam i) = none
      rw [upd_ne (f.o i o h)]
      exact q3.bk
theorem Sim.unhide {g : G} {m : Mp} {B : Hp} {H : Hp} {c : CS} {σ : L2.St} {p : Addr} {u u' : HO} (s : Sim g m c σ H) (hB : m.B = upd B p u) (hn : B p = none) : H p = some u ∧ Sim g { m with B := B } c σ (upd H p u') ∧ Fre { m with B := B } c p := by
  have hp : m.B p = some u := by rw [hB, upd_same]
  obtain ⟨z1, z2, z3, z4⟩ := s.bk p u hp
  have no : ∀ (i : Nat) (o : O), c.sl[i]? = some (.own o) → m.lam i ≠ p := fun i o h e => by
    obtain ⟨_, _, q3⟩ := s.sl i _ h
    have q := q3.bk
    rw [e, hp] at q
    cases q
  refine ⟨z1, ⟨fun a o z => ?_, s.nd, s.tb.mut z1 z4, s.len, s.ini, s.ln, fun n a o h1 h2 => ?_, fun a o z => ?_, fun i t h => ?_⟩, ⟨z2, hn, z3, no⟩⟩
  · rw [upd_ne (fun e => by
      have z : m.F a = some o := z
      rw [e, z2] at z
      cases z)]
    exact s.fr a o z
  · obtain ⟨k1, k2⟩ := s.st n a o h1 h2
    exact ⟨k1, So.like (m := m) (m' := { m with B := B }) (fun _ _ z => z) (fun _ _ z => z) (upd_ne fun e => z3 (by rw [← e]; exact List.mem_of_getElem? h1)) k2⟩
  · have z : B a = some o := z
    have ne : a ≠ p := fun e => by rw [e, hn] at z; cases z
    rw [upd_ne ne]
    exact s.bk a o (by rw [hB, upd_ne ne]; exact z)
  · have q := s.sl i t h
    cases t with
    | no => trivial
    | val d =>
      obtain ⟨v, q1, q2⟩ := q
      exact ⟨v, q1, Sv.like (m := m) (m' := { m with B := B }) (fun _ _ z => z) (fun _ _ z => z) q2⟩
    | own o =>
      obtain ⟨q1, q2, q3⟩ := q
      have ne := no i o h
      refine ⟨q1, So.like (m := m) (m' := { m with B := B }) (fun _ _ z => z) (fun _ _ z => z) (upd_ne ne) q2, ⟨q3.fr, ?_, q3.rh, q3.ap⟩⟩
      show B (m.lam i) = none
      have q := q3.bk
      rw [hB, upd_ne ne] at q
      exact q
theorem Fre.wipe {m : Mp} {p : Addr} : ∀ (vs : List Nat) {c : CS}, Fre m c p → Fre m (wipeC vs c) p
  | [], _, f => f
  | v :: vs, c, f => by
    have ih := Fre.wipe vs f
    refine ⟨ih.f, ih.b, ih.r, fun j o h => ?_⟩
    have h : ((wipeC vs c).sl.set v .no)[j]? = some (.own o) := h
    by_cases e : v = j
    · subst e
      by_cases hi : v < (wipeC vs c).sl.length
      · rw [List.getElem?_set_self hi] at h
        cases h
      · rw [List.getElem?_eq_none (by rw [List.length_set]; omega)] at h
        cases h
    · rw [List.getElem?_set_ne e] at h
      exact ih.o j o h

def lcL (t : Tg) (ft : M Bool) (fe : M D) (vs : List Nat) : List D → List D → M (List D)
  | [], acc => M.ret acc
  | d :: ds, acc => fun c => match cTg t d c with
    | .ok .next c1 => match ft c1 with
      | .ok true c2 => match fe c2 with
        | .ok y c3 => M.guard (decide (acc.length < sizeLine)) (lcL t ft fe vs ds (acc ++ [y])) (wipeC vs c3)
        | _ => .stuck
      | .ok false c2 => lcL t ft fe vs ds acc (wipeC vs c2)
      | _ => .stuck
    | _ => .stuck
def cLc (fi : M (List D)) (t : Tg) (ft : M Bool) (fe : M D) (vs : List Nat) : M (List D) := fun c => (fi c).bind fun ds c' => lcL t ft fe vs ds [] (wipeC vs c')
def LcI (g : G) (W : WX) (σ : L2.St) (vs : List Nat) (Q : VK) (t : Tg) (ft : M Bool) (fe : M D) (m1 : Mp) (Dl : Addr) (rest : List D) (H : Hp) : Prop :=
  ∃ m2 c2 acc av, Ext m1 m2 ∧ Sim g m2 c2 (L2.wipe σ vs) H ∧ H Dl = some (.lst av) ∧ Svs g m2 acc av ∧ Fre m2 c2 Dl ∧ Out (rL g) g W σ m2 (lcL t ft fe vs rest acc c2) Q
section
variable {g : G} {k : Nat} {N : List Str} {X : Cx} {sc ws : Scope} {W : WX} {pos : Pos} {tg iter elt : Expr} {ifs : List Expr} {fi : M (List D)} {t : Tg} {ft : M Bool} {fe : M D} {scope : Scope} {own : List (Str × Nat)}
theorem lc_read (hv : ∀ i ∈ t.slots, i ∈ own.map (·.2)) (σ : L2.St) (H : Hp) (Q : VK) (q : tL g W (cLc fi t ft fe (own.map (·.2))) σ H Q) : tLc (tI g W fi) (gT g t) (tT g WF ft) (tE g WF fe) (own.map (·.2)) σ H Q := by
  obtain ⟨m, c, s, o⟩ := q
  refine ⟨m, c, s, o.bind.imp fun J H1 ⟨m1, ds, c1, x1, s1, y, o1⟩ => fun Dl hD => ?_⟩
  obtain ⟨s2, f2⟩ := (s1.wipe (own.map (·.2))).new (u := .lst []) hD
  refine ⟨fun i mm H => mm = ds.length - i ∧ i ≤ ds.length ∧ LcI g W σ (own.map (·.2)) Q t ft fe m1 Dl (ds.drop i) H, ⟨ds.length, by simp, Nat.zero_le _, m1, _, [], [], Ext.rfl', s2, upd_same, .nil, f2, o1⟩, ?_⟩
  rintro i mm H2 ⟨rfl, hi, m2, c2, acc, av, x2, s2, hp, ha, f2, o2⟩
  by_cases hlt : i < ds.length
  · have sB := s2.hide f2 hp (fun ps z => nomatch z)
    obtain ⟨_, y2⟩ := y { m2 with B := upd m2.B Dl (.lst av) } c2 _ H2 x2.r x2.f sB i
    obtain ⟨go, yl⟩ := y2 _ (List.getElem?_eq_getElem hlt)
    rw [List.drop_eq_getElem_cons hlt] at o2
    refine .inr ⟨go, LcI g W σ (own.map (·.2)) Q t ft fe m1 Dl (ds.drop (i + 1)), fun H3 z => ⟨ds.length - (i + 1), by omega, rfl, hlt, z⟩, fun x H3 yx => ?_⟩
    obtain ⟨m3, x3, s3, k3⟩ := yl x H3 yx
    unfold lcL at o2
    have fin : ∀ {m6 : Mp} {c6 : CS} {σ4 : L2.St} {H4 : Hp} {acc' : List D} {av' : List V}, Ext { m2 with B := upd m2.B Dl (.lst av) } m6 → Sim g m6 c6 σ4 H4 → L2.wipe σ4 (own.map (·.2)) = L2.wipe σ (own.map (·.2)) → Svs g m6 acc' av' → Out (rL g) g W σ m2 (lcL t ft fe (own.map (·.2)) (ds.drop (i + 1)) acc' (wipeC (own.map (·.2)) c6)) Q →
        H4 Dl = some (.lst av) ∧ LcI g W σ (own.map (·.2)) Q t ft fe m1 Dl (ds.drop (i + 1)) (upd H4 Dl (.lst av')) := fun {m6 c6 σ4 H4 acc' av'} x6 s6 w6 k6 o6 => by
      obtain ⟨z1, z2, z3⟩ := s6.unhide (u' := .lst av') x6.b f2.b
      have ex : Ext m2 { m6 with B := m2.B } := ⟨x6.r, x6.f, rfl, x6.i⟩
      refine ⟨z1, { m6 with B := m2.B }, wipeC (own.map (·.2)) c6, acc', av', x2.trans ex, ?_, upd_same, Svs.like (m := m6) (m' := { m6 with B := m2.B }) (fun _ _ z => z) (fun _ _ z => z) k6, z3.wipe _, o6.mono ex⟩
      have z := z2.wipe (own.map (·.2))
      rw [w6] at z
      exact z
    have same : ∀ {H4 : Hp}, H4 Dl = some (.lst av) → upd H4 Dl (.lst av) = H4 := fun {H4} h => by
      funext b
      by_cases e : b = Dl
      · rw [e, upd_same, h]
      · rw [upd_ne e]
    rcases cTg_next t ds[i] c2 with ⟨c4, e4⟩ | e4
    · rw [e4] at o2
      dsimp only at o2
      refine PTg.go s3 k3 e4 fun σ4 s4 w4 => ⟨?_, m3, c4, s4, ?_⟩
      · rw [w4 _ hv, wipe_wipe]
      · have w4 := (w4 _ hv).trans (wipe_wipe σ _)
        cases q : ft c4 with
        | ok b c5 =>
          rw [q] at o2
          intro m5 b' H5 x5 s5 kb
          have kb : b = b' := kb
          subst kb
          cases b with
          | true =>
            dsimp only at o2
            show tE g WF fe σ4 H5 _
            refine ⟨m5, c5, s5, ?_⟩
            cases r : fe c5 with
            | ok yv c6 =>
              rw [r] at o2
              obtain ⟨hz, o2⟩ := Out.guard o2
              intro m6 v H6 x6 s6 k6
              have xx := (x3.trans x5).trans x6
              obtain ⟨z1, z2⟩ := fin xx s6 w4 ((Svs.like (m := m2) (m' := m6) xx.r xx.f ha).append (.cons k6 .nil)) o2
              exact ⟨av, z1, by rw [← ha.length]; exact of_decide_eq_true hz, z2⟩
            | exc cn us c6 => rw [r] at o2; exact o2.elim
            | stuck => rw [r] at o2; exact o2.elim
          | false =>
            dsimp only at o2
            have xx := x3.trans x5
            obtain ⟨z1, z2⟩ := fin xx s5 w4 (Svs.like (m := m2) (m' := m5) xx.r xx.f ha) o2
            rw [same z1] at z2
            exact z2
        | exc cn us c5 => rw [q] at o2; exact o2.elim
        | stuck => rw [q] at o2; exact o2.elim
    · rw [e4] at o2
      exact o2.elim
  · have e : i = ds.length := by omega
    subst e
    obtain ⟨y1, _⟩ := y m2 c2 _ H2 x2.r x2.f s2 ds.length
    rw [List.drop_length] at o2
    exact .inl ⟨y1 rfl, o2.here s2.unwipe ⟨Dl, av, rfl, hp, ha, f2⟩⟩
structure LcJ (g : G) (X : Cx) (scope : Scope) (tg : Expr) (t : Tg) (ifs : List Expr) (ft : M Bool) (elt : Expr) (fe : M D) : Prop where
  tg : ∀ (s : Shared) (H : Hp) (C : Addr) (cl : List (Str × Addr)) (fp : List Addr), PTg g (X.blk s H scope (compEnvC scope cl C X.env) fp) tg t
  ts : ∀ (s : Shared) (H : Hp) (C : Addr) (cl : List (Str × Addr)) (fp : List Addr), PTs (X.blk s H scope (compEnvC scope cl C X.env) fp) ifs (tT g WF ft)
  el : ∀ (s : Shared) (H : Hp) (C : Addr) (cl : List (Str × Addr)) (fp : List Addr), PE (X.blk s H scope (compEnvC scope cl C X.env) fp) elt (tE g WF fe)
theorem sl_lc (q : Good g k N X sc ws W) (hi : PI X tg iter (tI g W fi)) (ok : BlkOk X.N X.env.scope scope own) (J : LcJ g X scope tg t ifs ft elt fe) (hv : ∀ i ∈ t.slots, i ∈ own.map (·.2)) (hs : notSet iter = true) : PE X (.ListComp elt [⟨tg, iter, ifs, 0⟩] scope pos) (tL g W (cLc fi t ft fe (own.map (·.2)))) :=
  pe_imp (pe_lc q.calm q.ndX hi ok (fun s H C cl fp => (J.tg s H C cl fp).run) J.ts J.el (folded_ok hs)) (lc_read hv)
theorem ss_setLc {i : Nat} {y : Str} {py spos : Pos} (q : Good g k N X sc ws W) (hy : N[i]? = some y) (hyl : sc.names.lookup y = some .local) (hsw : swapsWith (.ListComp elt [⟨tg, iter, ifs, 0⟩] scope pos) (some (.Name y py)) spos.line X.env = pure true)
    (hi : PI X tg iter (tI g W fi)) (ok : BlkOk X.N X.env.scope scope own) (J : LcJ g X scope tg t ifs ft elt fe) (hv : ∀ i ∈ t.slots, i ∈ own.map (·.2)) (hs : notSet iter = true) :
    PS X (.Assign [.Name y py] (.ListComp elt [⟨tg, iter, ifs, 0⟩] scope pos) spos) (tS g W (cSetL i (cLc fi t ft fe (own.map (·.2))))) :=
  ps_imp (ps_setLc q.calm q.ndX (q.at_ hy) (by rw [q.hsc]; exact hyl) hsw hi ok (fun s H C cl fp => (J.tg s H C cl fp).run) J.ts J.el (folded_ok hs)) fun Dn σ H h => lc_read hv σ H _ (cSetL_ok Dn σ H h)
theorem ss_setLcV {i : Nat} {y : Str} {py spos : Pos} (q : Good g k N X sc ws W) (hy : N[i]? = some y) (hyl : sc.names.lookup y = some .local) (hsw : swapsWith (.ListComp elt [⟨tg, iter, ifs, 0⟩] scope pos) (some (.Name y py)) spos.line X.env = pure true)
    (hi : PI X tg iter (tI g W fi)) (ok : BlkOk X.N X.env.scope scope own) (J : LcJ g X scope tg t ifs ft elt fe) (hv : ∀ i ∈ t.slots, i ∈ own.map (·.2)) (hs : notSet iter = true) :
    PS X (.Assign [.Name y py] (.ListComp elt [⟨tg, iter, ifs, 0⟩] scope pos) spos) (tS g W (cSet i (froz (cLc fi t ft fe (own.map (·.2)))))) :=
  ps_imp (ps_setLc q.calm q.ndX (q.at_ hy) (by rw [q.hsc]; exact hyl) hsw hi ok (fun s H C cl fp => (J.tg s H C cl fp).run) J.ts J.el (folded_ok hs)) fun Dn σ H h => lc_read hv σ H _ (by
    obtain ⟨m, c, s, o⟩ := cSet_ok Dn σ H h
    refine ⟨m, c, s, o.bind.imp fun v H1 ⟨m1, xs, c1, x1, s1, k1, o1⟩ => ?_⟩
    obtain ⟨m2, x2, s2, k2⟩ := s1.freezeL k1
    exact (o1.mono x2).here (Q := fun v H1 => Dn.nx (σ.set i (some v)) H1) s2 k2)
theorem sts_nil : PTs X [] (tT g WF (M.ret true)) := ⟨fun pins s σ H Q I ⟨m, c, sm, o⟩ => pts_nil.run pins s σ H Q I (o.here sm rfl)⟩
end
end CL
namespace CL
open PySem PySem.Spec PyProof.Rows L2
def SC {β γ : Type} (rel : G → Rl γ V) (g : G) (r : List V → Hp → VK → Prop) (f : List D → M γ) : Prop := ∀ (W : WX) (m : Mp) (c : CS) (σ : L2.St) (H : Hp) (ds : List D) (vs : List V) (Q : VK), Sim g m c σ H → Svs g m ds vs → Out (rel g) g W σ m (f ds c) Q → r vs H Q
abbrev SCE (g : G) (r : List V → Hp → VK → Prop) (f : List D → M D) : Prop := SC (β := Unit) (fun g => rE g) g r f
abbrev SCL (g : G) (r : List V → Hp → VK → Prop) (f : List D → M (List D)) : Prop := SC (β := Unit) (fun g => rL g) g r f
section
variable {X : Cx} {g : G} {W : WX} {x : Str} {p pos : Pos} {e : Expr} {es : List Expr} {id T : String} {r : List V → Hp → VK → Prop} {fa : M (List D)} {γ : Type} {rel : G → Rl γ V} {f : List D → M γ}
theorem sx_args (h : SC (β := Unit) rel g r f) (σ : L2.St) (H : Hp) (Q : VK) (q : tX (rel g) g W (fa.bind f) σ H Q) : tCB r (tA g W fa) σ H Q := by
  obtain ⟨m, c, s, o⟩ := q
  exact ⟨m, c, s, o.bind.imp fun vs H1 ⟨m1, ds, c1, x1, s1, k1, o1⟩ => h W m1 c1 σ H1 ds vs Q s1 k1 o1⟩
theorem sx_callB (hc : CallR X (.builtin id) r) (h : SC (β := Unit) rel g r f) (hg : Gl X x) (hm : X.mg x = none) (hv : bootBuiltins x = some (.builtin id)) (ha : PA X (e :: es) (tA g W fa)) (hn : x ≠ "__name__") (hd : (x == ("__debug__" : Str)) = false) (hp : plainArgs (e :: es) = true) : PE X (.Call (.Name x p) (e :: es) [] pos) (tX (rel g) g W (fa.bind f)) := by
  have hp' := hp
  unfold plainArgs at hp'
  rw [List.all_cons, Bool.and_eq_true] at hp'
  exact pe_imp (pe_callB hc hg hm hv ha hn hd (star_plain (by simpa using hp'.1)) (plain_any (es := es) hp'.2)) (sx_args h)
theorem sx_callTy (hc : CallR X (.type T) r) (h : SC (β := Unit) rel g r f) (hg : Gl X x) (hm : X.mg x = none) (hv : bootBuiltins x = some (.type T)) (ha : PA X (e :: es) (tA g W fa)) (hn : x ≠ "__name__") (hd : (x == ("__debug__" : Str)) = false) (hp : plainArgs (e :: es) = true) : PE X (.Call (.Name x p) (e :: es) [] pos) (tX (rel g) g W (fa.bind f)) := by
  have hp' := hp
  unfold plainArgs at hp'
  rw [List.all_cons, Bool.and_eq_true] at hp'
  exact pe_imp (pe_callTy hc hg hm hv ha hn hd (star_plain (by simpa using hp'.1)) (plain_any (es := es) hp'.2)) (sx_args h)
end
def bLen : List D → M D
  | [.str x] => M.guard (szOk x.length) (M.ret (.int x.length))
  | [.tup xs] => M.ret (.int xs.length)
  | [.scr ns] => M.ret (.int ns.length)
  | [d] => fun c => match c.seqL d with
    | some xs => .ok (.int xs.length) c
    | none => .stuck
  | _ => fun _ => .stuck
theorem Svs.one {g : G} {m : Mp} {d : D} {vs : List V} (h : Svs g m [d] vs) : ∃ v, vs = [v] ∧ Sv g m d v := by
  cases h with
  | cons a b => cases b; exact ⟨_, rfl, a⟩
theorem sc_len {g : G} : SCE g (fun xs H Q => ∃ x n, xs = [x] ∧ LenV g.K x H n ∧ Q (.int n) H) bLen := by
  intro W m c σ H ds vs Q s hv o
  cases hv with
  | nil => exact o.elim
  | @cons d v ds vs k r =>
    cases r with
    | cons _ _ => cases k <;> exact o.elim
    | nil =>
      have lst : ∀ {xs : List D}, c.seqL d = some xs → Out (rE g) g W σ m (.ok (.int xs.length) c) Q → ∃ x n, [v] = [x] ∧ LenV g.K x H n ∧ Q (.int n) H := fun {xs} e o => by
        obtain ⟨p, ws, rfl, hp, hw⟩ := s.seqL e k
        exact ⟨_, xs.length, rfl, .inl ⟨ws, SqL.of hp, hw.length⟩, o.here s (.int _)⟩
      cases k with
      | str z =>
        obtain ⟨hz, o⟩ := Out.guard o
        exact ⟨_, _, rfl, ⟨of_decide_eq_true hz, rfl⟩, o.here s (.int _)⟩
      | @tup p xs ws h1 h2 => exact ⟨_, xs.length, rfl, .inr ⟨ws, s.sqT h1, h2.length⟩, o.here s (.int _)⟩
      | @scr ns p h1 => exact ⟨_, ns.length, rfl, .inl ⟨_, s.sqL h1, by rw [List.length_map]⟩, o.here s (.int _)⟩
      | @lst p xs ws h1 h2 => exact lst rfl o
      | @ref n p h1 =>
        have o : Out (rE g) g W σ m (match c.seqL (.ref n) with
          | some xs => .ok (.int xs.length) c
          | none => .stuck) Q := o
        cases e : c.seqL (.ref n) with
        | none => rw [e] at o; exact o.elim
        | some xs =>
          rw [e] at o
          exact lst e o
      | _ => exact o.elim
def bList : List D → M (List D)
  | [.tup xs] => M.ret xs
  | [.scr ns] => M.ret (ns.map .int)
  | [d] => fun c => match c.seqL d with
    | some xs => .ok xs c
    | none => .stuck
  | _ => fun _ => .stuck
def rListOf (K : PySem.W.Frag) : List V → Hp → VK → Prop := fun xs H Q => ∃ p ys, xs = [.ref p] ∧ (SqL K H p ys ∨ SqT K H p ys) ∧ ∀ l, H l = none → Q (.ref l) (upd H l (.lst ys))
theorem sc_list {g : G} : SCL g (rListOf g.K) bList := by
  intro W m c σ H ds vs Q s hv o
  cases hv with
  | nil => exact o.elim
  | @cons d v ds vs k r =>
    cases r with
    | cons _ _ => cases k <;> exact o.elim
    | nil =>
      have lst : ∀ {xs : List D}, c.seqL d = some xs → Out (rL g) g W σ m (.ok xs c) Q → rListOf g.K [v] H Q := fun {xs} e o => by
        obtain ⟨p, ws, rfl, hp, hw⟩ := s.seqL e k
        exact ⟨p, ws, rfl, .inl (SqL.of hp), fun l hl => out_freshL s hw o hl⟩
      cases k with
      | @tup p xs ws h1 h2 => exact ⟨p, ws, rfl, .inr (s.sqT h1), fun l hl => out_freshL s h2 o hl⟩
      | @scr ns p h1 => exact ⟨p, _, rfl, .inl (s.sqL h1), fun l hl => out_freshL s (svs_ints ns) o hl⟩
      | @lst p xs ws h1 h2 => exact lst rfl o
      | @ref n p h1 =>
        have o : Out (rL g) g W σ m (match c.seqL (.ref n) with
          | some xs => .ok xs c
          | none => .stuck) Q := o
        cases e : c.seqL (.ref n) with
        | none => rw [e] at o; exact o.elim
        | some xs =>
          rw [e] at o
          exact lst e o
      | _ => exact o.elim
def bTuple : List D → M D
  | [.tup xs] => M.ret (.tup xs)
  | [d] => fun c => match c.seqL d with
    | some xs => .ok (.tup xs) c
    | none => .stuck
  | _ => fun _ => .stuck
theorem sc_tuple {g : G} : SCE g (fun xs H Q => ∃ p ys, xs = [.ref p] ∧ ((SqL g.K H p ys ∧ ∀ l, H l = none → Q (.ref l) (upd H l (.tup ys))) ∨ (SqT g.K H p ys ∧ Q (.ref p) H))) bTuple := by
  intro W m c σ H ds vs Q s hv o
  cases hv with
  | nil => exact o.elim
  | @cons d v ds vs k r =>
    cases r with
    | cons _ _ => cases k <;> exact o.elim
    | nil =>
      have lst : ∀ {xs : List D}, c.seqL d = some xs → Out (rE g) g W σ m (.ok (.tup xs) c) Q → ∃ p ys, [v] = [.ref p] ∧ ((SqL g.K H p ys ∧ ∀ l, H l = none → Q (.ref l) (upd H l (.tup ys))) ∨ (SqT g.K H p ys ∧ Q (.ref p) H)) := fun {xs} e o => by
        obtain ⟨p, ws, rfl, hp, hw⟩ := s.seqL e k
        exact ⟨p, ws, rfl, .inl ⟨SqL.of hp, fun l hl => out_newT s hw o hl⟩⟩
      cases k with
      | @tup p xs ws h1 h2 => exact ⟨p, ws, rfl, .inr ⟨s.sqT h1, o.here s (.tup h1 h2)⟩⟩
      | @lst p xs ws h1 h2 => exact lst rfl o
      | @ref n p h1 =>
        have o : Out (rE g) g W σ m (match c.seqL (.ref n) with
          | some xs => .ok (.tup xs) c
          | none => .stuck) Q := o
        cases e : c.seqL (.ref n) with
        | none => rw [e] at o; exact o.elim
        | some xs =>
          rw [e] at o
          exact lst e o
      | _ => exact o.elim
def asInts : List D → Option (List Int)
  | [] => some []
  | .int i :: r => (asInts r).map (i :: ·)
  | _ => none
theorem asInts_ok {g : G} {m : Mp} : ∀ {ds : List D} {vs : List V} {ns : List Int}, Svs g m ds vs → asInts ds = some ns → vs = ns.map V.int ∧ ds = ns.map D.int
  | [], _, ns, h, e => by
    cases h
    cases e
    exact ⟨rfl, rfl⟩
  | d :: ds, _, ns, h, e => by
    cases h with
    | cons a b =>
      cases a with
      | int i =>
        have e : (asInts ds).map (i :: ·) = some ns := e
        obtain ⟨ms, e1, e2⟩ := Option.map_eq_some_iff.mp e
        subst e2
        obtain ⟨h1, h2⟩ := asInts_ok b e1
        rw [h1, h2]
        exact ⟨rfl, rfl⟩
      | _ => cases e
def asBls : List D → Option (List Bool)
  | [] => some []
  | .bl i :: r => (asBls r).map (i :: ·)
  | _ => none
theorem asBls_ok {g : G} {m : Mp} : ∀ {ds : List D} {vs : List V} {ns : List Bool}, Svs g m ds vs → asBls ds = some ns → vs = ns.map V.bl
  | [], _, ns, h, e => by
    cases h
    cases e
    rfl
  | d :: ds, _, ns, h, e => by
    cases h with
    | cons a b =>
      cases a with
      | bl i =>
        have e : (asBls ds).map (i :: ·) = some ns := e
        obtain ⟨ms, e1, e2⟩ := Option.map_eq_some_iff.mp e
        subst e2
        rw [asBls_ok b e1]
        rfl
      | _ => cases e
def asStrs : List D → Option (List Str)
  | [] => some []
  | .str i :: r => (asStrs r).map (i :: ·)
  | _ => none
theorem asStrs_ok {g : G} {m : Mp} : ∀ {ds : List D} {vs : List V} {ns : List Str}, Svs g m ds vs → asStrs ds = some ns → vs = ns.map V.str
  | [], _, ns, h, e => by
    cases h
    cases e
    rfl
  | d :: ds, _, ns, h, e => by
    cases h with
    | cons a b =>
      cases a with
      | str i =>
        have e : (asStrs ds).map (i :: ·) = some ns := e
        obtain ⟨ms, e1, e2⟩ := Option.map_eq_some_iff.mp e
        subst e2
        rw [asStrs_ok b e1]
        rfl
      | _ => cases e
def bOne {β γ : Type} (as : List D → Option β) (f : β → M γ) : List D → M γ
  | [d] => fun c => match (c.seqL d).bind as with
    | some x => f x c
    | none => .stuck
  | _ => fun _ => .stuck
theorem sc_one {β γ : Type} {rel : G → Rl γ V} {g : G} {r : List V → Hp → VK → Prop} {as : List D → Option β} {f : β → M γ}
    (h : ∀ (W : WX) (m : Mp) (c : CS) (σ : L2.St) (H : Hp) (p : Addr) (xs : List D) (vs : List V) (b : β) (Q : VK), Sim g m c σ H → H p = some (.lst vs) → Svs g m xs vs → as xs = some b → Out (rel g) g W σ m (f b c) Q → r [.ref p] H Q) : SC (β := Unit) rel g r (bOne as f) := by
  intro W m c σ H ds vs Q s hv o
  cases hv with
  | nil => exact o.elim
  | @cons d v ds vs k t =>
    cases t with
    | cons _ _ => exact o.elim
    | nil =>
      have o : Out (rel g) g W σ m (match (c.seqL d).bind as with
        | some x => f x c
        | none => .stuck) Q := o
      cases e : c.seqL d with
      | none => rw [e] at o; exact o.elim
      | some xs =>
        rw [e] at o
        have o : Out (rel g) g W σ m (match as xs with
          | some x => f x c
          | none => .stuck) Q := o
        cases e2 : as xs with
        | none => rw [e2] at o; exact o.elim
        | some b =>
          rw [e2] at o
          obtain ⟨p, ws, rfl, hp, hw⟩ := s.seqL e k
          exact h W m c σ H p xs ws b Q s hp hw e2 o
def bAny : List D → M D := bOne asBls fun bs => M.ret (.bl (bs.any id))
def bAll : List D → M D := bOne asBls fun bs => M.ret (.bl (bs.all id))
theorem sc_all {g : G} : SCE g (rAll g.K) bAll := sc_one fun W m c σ H p xs vs bs Q s hp hv e o => by
  have e := asBls_ok hv e
  subst e
  exact ⟨p, bs, rfl, SqL.of hp, o.here s (.bl _)⟩
def sortI (ns : List Int) : List Int := ns.mergeSort fun a b => decide (a ≤ b)
theorem sortI_perm (ns : List Int) : (sortI ns).Perm ns := List.mergeSort_perm ns _
theorem sortI_sorted (ns : List Int) : (sortI ns).Pairwise (· ≤ ·) := by
  have h := List.pairwise_mergeSort (le := fun a b : Int => decide (a ≤ b)) (fun a b c h1 h2 => by simp at h1 h2 ⊢; omega) (fun a b => by simp; omega) ns
  exact h.imp fun {a b} h => of_decide_eq_true h
def bSorted : List D → M (List D) := bOne asInts fun ns => M.ret ((sortI ns).map .int)
theorem sc_sorted {g : G} : SCL g (rSortedI g.K) bSorted := sc_one fun W m c σ H p xs vs ns Q s hp hv e o => by
  obtain ⟨rfl, _⟩ := asInts_ok hv e
  refine ⟨p, ns, rfl, SqL.of hp, fun ns' q h1 h2 hq => ?_⟩
  have e : ns' = sortI ns := (h1.trans (sortI_perm ns).symm).eq_of_pairwise (fun x y _ _ a b => Int.le_antisymm a b) h2 (sortI_sorted ns)
  rw [e]
  exact out_freshL s (svs_ints _) o hq
def maxI : List Int → Int
  | [] => 0
  | x :: r => r.foldl max x
def bMax : List D → M D := bOne asInts fun ns => M.guard (decide (0 < ns.length)) (M.ret (.int (maxI ns)))
def bStr : List D → M D
  | [.int i] => M.guard (decide (i.natAbs.log2 < 1920)) (M.ret (.str (toString i)))
  | _ => fun _ => .stuck
theorem sc_str {g : G} : SCE g (fun xs H Q => ∃ i, xs = [.int i] ∧ i.natAbs.log2 < 1920 ∧ Q (.str (toString i)) H) bStr := by
  intro W m c σ H ds vs Q s hv o
  cases hv with
  | nil => exact o.elim
  | cons k t =>
    cases t with
    | cons _ _ => cases k <;> exact o.elim
    | nil =>
      cases k with
      | int i =>
        obtain ⟨hz, o⟩ := Out.guard o
        exact ⟨i, rfl, of_decide_eq_true hz, o.here s (.str _)⟩
      | _ => exact o.elim
inductive Ty where
  | non | bl | int | str | tup | lst
  deriving DecidableEq
def Ty.nm : Ty → String
  | .non => "NoneType"
  | .bl => "bool"
  | .int => "int"
  | .str => "str"
  | .tup => "tuple"
  | .lst => "list"
def isTy (a b : Ty) : Bool := decide (a = b) || (decide (a = .bl) && decide (b = .int))
theorem isTy_ok (a b : Ty) (h : b ≠ .non) : kitB a.nm b.nm = some (isTy a b) := by
  cases b <;> first | (exact absurd rfl h) | (cases a <;> decide +kernel)
structure KlsOk (g : G) (ci : Nat) (C : Addr) (ns : List Str) : Prop where
  cls : Cls g.K C
  na : ∀ f ∈ ns, NoAttr g.K C f
  ha : PySem.W.findIn g.K (.ref C) "__class__" = some (some (.builtin "object.__class__"))
  hn : PySem.W.specialIn g.K (.builtin "object.__class__") "__get__" = some (some (.builtin "getset_descriptor.__get__"))
  ht : PySem.W.takesIn g.K (.builtin "object.__class__") = some true
  hm : PySem.W.mroIn g.K C (.type "object") = some true
  ic : ∀ t : Ty, t ≠ .non → PySem.W.kitOne g.K (.ref C) (.type t.nm) = some false
  ci : ∀ t : Ty, PySem.W.kitOne g.K (.type t.nm) (.ref C) = some false
structure TabK (g : G) : Prop where
  kls : ∀ (ci : Nat) (C : Addr) (ns : List Str), g.cls ci = some (C, ns) → KlsOk g ci C ns
  two : ∀ (i j : Nat) (C C' : Addr) (ns ns' : List Str), g.cls i = some (C, ns) → g.cls j = some (C', ns') → PySem.W.kitOne g.K (.ref C) (.ref C') = some (i == j)
def tyB : D → Option Ty
  | .non => some .non
  | .bl _ => some .bl
  | .int _ => some .int
  | .str _ => some .str
  | .tup _ => some .tup
  | .lst _ => some .lst
  | .scr _ => some .lst
  | _ => none
inductive Kn where
  | ty (n : Ty)
  | cl (c : Nat)
def CS.clsOf (c : CS) : D → Option Nat
  | .obj k _ => some k
  | .ref n => match c.S[n]? with
    | some (.ins k _) => some k
    | _ => none
  | _ => none
def CS.knOf (c : CS) (d : D) : Option Kn := match tyB d with
  | some t => some (.ty t)
  | none => match c.clsOf d with
    | some k => some (.cl k)
    | none => match c.seqL d with
      | some _ => some (.ty .lst)
      | none => none
def isKn : Kn → Kn → Bool
  | .ty a, .ty b => isTy a b
  | .cl a, .cl b => a == b
  | _, _ => false
def knV (g : G) : Kn → Option Value
  | .ty n => some (.type n.nm)
  | .cl k => (g.cls k).map fun p => .ref p.1
theorem Sim.tyX {g : G} {m : Mp} {c : CS} {σ : L2.St} {H : Hp} (T : TabK g) (s : Sim g m c σ H) {d : D} {v : V} (k : Sv g m d v) {kn : Kn} (e : c.knOf d = some kn) : ∃ t, knV g kn = some t ∧ TyX g.K H v t := by
  unfold CS.knOf at e
  cases k with
  | non => cases e; exact ⟨_, rfl, .base .non⟩
  | bl b => cases e; exact ⟨_, rfl, .base (.bl b)⟩
  | int i => cases e; exact ⟨_, rfl, .base (.int i)⟩
  | str x => cases e; exact ⟨_, rfl, .base (.str x)⟩
  | @tup a xs vs h1 h2 =>
    cases e
    refine ⟨_, rfl, ?_⟩
    rcases s.sqT h1 with h | ⟨o, its, n, q1, q2, _⟩
    · rcases h with h | ⟨o, h⟩
      · exact .base (.tup h)
      · exact .fTuple h
    · exact .kTuple q1 q2
  | @lst a xs vs h1 h2 =>
    cases e
    exact ⟨_, rfl, .base (.lst (s.fr _ _ h1))⟩
  | @scr ns a h1 =>
    cases e
    refine ⟨_, rfl, ?_⟩
    rcases s.sqL h1 with h | ⟨o, its, n, q1, q2, _⟩
    · rcases h with h | ⟨o, h⟩
      · exact .base (.lst h)
      · exact .base (.frz h)
    · exact .kList q1 q2
  | @obj ci ds a C dx ns ws h1 h2 h3 h4 =>
    cases e
    have K := T.kls ci C ns h1
    exact ⟨_, by show (g.cls ci).map _ = _; rw [h1]; rfl, .base (.ins (s.fr _ _ h2) K.cls K.ha K.hn K.ht K.hm)⟩
  | exn _ _ _ _ _ => cases e
  | @ref n a h1 =>
    have e : (match (match c.S[n]? with
      | some (.ins k _) => some k
      | _ => none) with
      | some k => some (Kn.cl k)
      | none => match c.seqL (.ref n) with
        | some _ => some (.ty .lst)
        | none => none) = some kn := e
    cases q : c.S[n]? with
    | none =>
      rw [q] at e
      have z : c.seqL (.ref n) = none := by
        show (match c.S[n]? with
          | some (.lst xs) => some xs
          | _ => none) = none
        rw [q]
      rw [z] at e
      cases e
    | some o =>
      rw [q] at e
      obtain ⟨_, k2⟩ := s.st n a o h1 q
      cases o with
      | ins ci fs =>
        cases e
        obtain ⟨C, ns, dx, ws, j1, j2, j3⟩ := k2
        have K := T.kls ci C ns j1
        exact ⟨_, by show (g.cls ci).map _ = _; rw [j1]; rfl, .base (.ins j2 K.cls K.ha K.hn K.ht K.hm)⟩
      | lst xs =>
        have z : c.seqL (.ref n) = some xs := by
          show (match c.S[n]? with
            | some (.lst xs) => some xs
            | _ => none) = _
          rw [q]
        rw [z] at e
        cases e
        obtain ⟨vs, j1, _⟩ := k2
        exact ⟨_, rfl, .base (.lst j1)⟩
end CL
namespace CL
open PySem PySem.Spec PyProof.Rows L2
def PCl (g : G) (X : Cx) (e : Expr) (kn : Kn) : Prop := ∃ c u, PE X e (tC c) ∧ ClsV c u ∧ knV g kn = some u ∧ kn ≠ .ty .non
section
variable {X : Cx} {g : G} {k : Nat} {N : List Str} {sc ws : Scope} {W : WX}
theorem pcl_ty (q : Good g k N X sc ws W) {x : Str} {pos : Pos} {t : Ty} (hg : isGl sc x = true) (hm : g.mg x = none) (hv : bootBuiltins x = some (.type t.nm)) (ht : t ≠ .non) : PCl g X (.Name x pos) (.ty t) :=
  ⟨.ty t.nm, .type t.nm, pe_bltn (q.gl hg).1 (by rw [q.hmg]; exact hm) hv rfl (q.gl hg).2.2 (q.gl hg).2.1, .ty _, rfl, fun z => by cases z; exact ht rfl⟩
end
theorem kit_kn {g : G} (T : TabK g) {a b : Kn} {t u : Value} (ha : knV g a = some t) (hb : knV g b = some u) (hn : b ≠ .ty .non) : PySem.W.kitOne g.K t u = some (isKn a b) := by
  cases a with
  | ty x =>
    cases ha
    cases b with
    | ty y =>
      cases hb
      exact kit_ty (isTy_ok x y fun z => hn (by rw [z]))
    | cl j =>
      have hb : (g.cls j).map (fun p => Value.ref p.1) = some u := hb
      obtain ⟨⟨C, ns⟩, e1, e2⟩ := Option.map_eq_some_iff.mp hb
      subst e2
      exact (T.kls j C ns e1).ci x
  | cl i =>
    have ha : (g.cls i).map (fun p => Value.ref p.1) = some t := ha
    obtain ⟨⟨C, ns⟩, e1, e2⟩ := Option.map_eq_some_iff.mp ha
    subst e2
    cases b with
    | ty y =>
      cases hb
      exact (T.kls i C ns e1).ic y fun z => hn (by rw [z])
    | cl j =>
      have hb : (g.cls j).map (fun p => Value.ref p.1) = some u := hb
      obtain ⟨⟨C', ns'⟩, e3, e4⟩ := Option.map_eq_some_iff.mp hb
      subst e4
      exact T.two i j C C' ns ns' e1 e3
def cIsi (k : Kn) (fe : M D) : M D := fe.bind fun d c => match c.knOf d with
  | some t => .ok (.bl (isKn t k)) c
  | none => .stuck
def cIsiT (ks : List Kn) (fe : M D) : M D := fe.bind fun d c => match c.knOf d with
  | some t => .ok (.bl (ks.any (isKn t))) c
  | none => .stuck
section
variable {X : Cx} {g : G} {k : Nat} {N : List Str} {sc ws : Scope} {W : WX} {p pos tpos : Pos} {e ce : Expr} {ces : List Expr} {fe : M D} {kn : Kn} {kns : List Kn} {j : Nat}
theorem sx_isi (T : TabK g) (q : Good g k N X sc ws W) (hg : isGl sc "isinstance" = true) (hm : g.mg "isinstance" = none) (he : PE X e (tE g W fe)) (hc : PCl g X ce kn) (hs : isStar e = false) (hs2 : isStar ce = false) : PE X (.Call (.Name "isinstance" p) [e, ce] [] pos) (tE g W (cIsi kn fe)) := by
  obtain ⟨c, u, h1, h2, h3, h4⟩ := hc
  obtain ⟨hg, hd, _⟩ := q.gl hg
  rw [← q.hmg] at hm
  refine pe_imp (pe_callB call_isi hg hm (by rfl) (pa_cons he (pa_cons h1 pa_nil (star_plain hs2)) (star_plain hs)) (by decide) (by decide) (star_plain hs) (plain_any (es := [ce]) (by unfold plainArgs; simp [hs2]))) fun σ H Q ⟨m, c, s, o⟩ => ⟨m, c, s, o.bind.imp fun v H1 ⟨m1, d, c1, x1, s1, k1, o1⟩ => ?_⟩
  cases e2 : c1.knOf d with
  | none => rw [e2] at o1; exact o1.elim
  | some t =>
    rw [e2] at o1
    obtain ⟨tv, g1, g2⟩ := s1.tyX T k1 e2
    exact ⟨v, _, tv, u, isKn t kn, rfl, h2, by rw [q.hK]; exact g2, by rw [q.hK]; exact kit_kn T g1 h3 h4, o1.here s1 (.bl _)⟩
def PCls (g : G) (X : Cx) : List Expr → List Kn → Prop
  | [], [] => True
  | e :: es, k :: ks => PCl g X e k ∧ isStar e = false ∧ PCls g X es ks
  | _, _ => False
def tCs (cs : List V) : TA := fun _ H Q => Q cs H
theorem pcls_pa {X : Cx} {g : G} : ∀ {es : List Expr} {ks : List Kn}, PCls g X es ks → ∃ cs us, PA X es (tCs cs) ∧ Paired ClsV cs us ∧ us.length = ks.length ∧ ∀ i (h : i < us.length) (h2 : i < ks.length), knV g ks[i] = some us[i] ∧ ks[i] ≠ .ty .non
  | [], [], _ => ⟨[], [], pa_imp pa_nil fun _ _ _ h => h, .nil, rfl, fun i h => absurd h (Nat.not_lt_zero _)⟩
  | [], _ :: _, h => h.elim
  | _ :: _, [], h => h.elim
  | e :: es, k :: ks, h => by
    obtain ⟨⟨c, u, h1, h2, h3, h4⟩, hs, hr⟩ := h
    obtain ⟨cs, us, r1, r2, r3, r4⟩ := pcls_pa hr
    refine ⟨c :: cs, u :: us, pa_imp (pa_cons h1 r1 (star_plain hs)) fun σ H Q h => h, .cons h2 r2, by rw [List.length_cons, List.length_cons, r3], fun i g1 g2 => ?_⟩
    cases i with
    | zero => exact ⟨h3, h4⟩
    | succ i => exact r4 i (by simpa using g1) (by simpa using g2)
theorem kit_any {g : G} (T : TabK g) {a : Kn} {t : Value} (ha : knV g a = some t) : ∀ {us : List Value} {ks : List Kn}, us.length = ks.length → (∀ i (h : i < us.length) (h2 : i < ks.length), knV g ks[i] = some us[i] ∧ ks[i] ≠ .ty .non) → PySem.W.kitAny g.K t us = some (ks.any (isKn a))
  | [], [], _, _ => rfl
  | [], _ :: _, h, _ => by cases h
  | _ :: _, [], h, _ => by cases h
  | u :: us, k :: ks, h, hk => by
    have h0 := hk 0 (by simp) (by simp)
    have e := kit_kn T ha h0.1 h0.2
    have ih := kit_any T ha (us := us) (ks := ks) (by simpa using h) fun i g1 g2 => by
      have := hk (i + 1) (by simpa using g1) (by simpa using g2)
      simpa using this
    unfold PySem.W.kitAny
    have e' : PySem.W.kitOne g.K t u = some (isKn a k) := e
    rw [e', List.any_cons]
    cases isKn a k with
    | true => rfl
    | false => rw [Bool.false_or]; exact ih
theorem sx_isiT (T : TabK g) (q : Good g k N X sc ws W) (hg : isGl sc "isinstance" = true) (hm : g.mg "isinstance" = none) (he : PE X e (tE g W fe)) (hc : PCls g X ces kns) (hz : szOk ces.length = true) (hs : isStar e = false) : PE X (.Call (.Name "isinstance" p) [e, .Tuple ces j tpos] [] pos) (tE g W (cIsiT kns fe)) := by
  obtain ⟨cs, us, h1, h2, h3, h4⟩ := pcls_pa hc
  have hl : cs.length = ces.length := by
    have a1 : cs.length = us.length := by clear h1 h4 h3; induction h2 <;> simp_all
    have a2 : ces.length = kns.length := by
      clear h1 h2 h3 h4 hz a1 cs us
      induction ces generalizing kns with
      | nil => cases kns <;> first | rfl | exact hc.elim
      | cons e es ih => cases kns with
        | nil => exact hc.elim
        | cons k ks => rw [List.length_cons, List.length_cons, ih hc.2.2]
    omega
  obtain ⟨hg, hd, _⟩ := q.gl hg
  rw [← q.hmg] at hm
  refine pe_imp (pe_callB call_isiT hg hm (by rfl) (pa_cons he (pa_cons (pe_tup h1) pa_nil (by rfl)) (star_plain hs)) (by decide) (by decide) (star_plain hs) (by rfl)) fun σ H Q ⟨m, c, s, o⟩ => ⟨m, c, s, o.bind.imp fun v H1 ⟨m1, d, c1, x1, s1, k1, o1⟩ => ?_⟩
  cases e2 : c1.knOf d with
  | none => rw [e2] at o1; exact o1.elim
  | some t =>
    rw [e2] at o1
    refine ⟨by rw [hl]; exact of_decide_eq_true hz, fun tp ht => ?_⟩
    obtain ⟨s2, x2⟩ := s1.frozen (u := .tup cs) ht
    obtain ⟨tv, g1, g2⟩ := s2.tyX T (k1.mono x2) e2
    exact ⟨v, tp, cs, tv, us, _, rfl, upd_same, h2, by rw [q.hK]; exact g2, by rw [q.hK]; exact kit_any T g1 h3 h4, (o1.mono x2).here s2 (.bl _)⟩
end
def cCall (fn : Fn) (fa : M (List D)) : M D := fa.bind fun ds c => liftF (fn ds c.S) c
section
variable {X : Cx} {g : G} {k j : Nat} {N : List Str} {sc ws : Scope} {W : WX} {p pos apos sp : Pos} {x : Str} {e o : Expr} {es : List Expr} {fa : M (List D)} {fe fo : M D} {f C : Addr} {fn : Fn}
theorem plain_tail {e : Expr} {es : List Expr} (hp : plainArgs (e :: es) = true) : isStar e = false ∧ plainArgs es = true := by
  unfold plainArgs at hp ⊢
  rw [List.all_cons, Bool.and_eq_true] at hp
  exact ⟨by simpa using hp.1, hp.2⟩
theorem sx_call (q : Good g k N X sc ws W) (F : FnC g j f fn) (hj : j ≤ k) (hg : isGl sc x = true) (hm : g.mg x = some (.ref f)) (hk : PySem.W.keepIn g.K (.ref f) = true) (ha : PA X (e :: es) (tA g W fa)) (hp : plainArgs (e :: es) = true) :
    PE X (.Call (.Name x p) (e :: es) [] pos) (tE g W (cCall fn fa)) := by
  obtain ⟨p1, p2⟩ := plain_tail hp
  refine ⟨fun pins s σ H Q I ⟨m, c, sm, o⟩ => ?_⟩
  obtain ⟨hg, hd, _⟩ := q.gl hg
  rw [← q.hmg] at hm
  rw [← q.hK] at hk
  refine wpAny_Call_Name_kw (ld_glob I hg hm ?_ hd)
  refine PySem.W.callWith_K (h₀ := X.base) I.ok.mod.kin hk (thn (ha.run pos pins s σ H _ I ⟨m, c, sm, o.bind⟩) fun us s1 ⟨vs, H1, I1, r, m1, ds, c1, x1, s2, k1, o1⟩ => ⟨I1.kIn, ?_⟩) (star_plain p1) (plain_any p2)
  exact wpAny_call (run_c (q.fn F) (q.room.mono hj) q.tk I1 r s2 k1 o1)
theorem zip_none {ns : List Str} {ws : List V} {m : Str} (h : m ∉ ns) : (ns.zip ws).lookup m = none := by
  induction ns generalizing ws with
  | nil => rfl
  | cons n ns ih =>
    cases ws with
    | nil => rfl
    | cons w ws =>
      rw [List.zip_cons_cons, List.lookup_cons]
      have ne : (m == n) = false := beq_eq_false_iff_ne.mpr fun z => h (by rw [z]; exact List.mem_cons_self)
      rw [ne]
      exact ih fun z => h (List.mem_cons_of_mem _ z)
theorem zip_at {ns : List Str} (hn : ns.Nodup) {ws : List V} {i : Nat} {m : Str} (h : ns[i]? = some m) : (ns.zip ws).lookup m = ws[i]? := by
  induction ns generalizing ws i with
  | nil => simp at h
  | cons n ns ih =>
    cases ws with
    | nil => simp
    | cons w ws =>
      rw [List.zip_cons_cons, List.lookup_cons]
      rw [List.nodup_cons] at hn
      cases i with
      | zero =>
        simp at h
        subst h
        simp
      | succ i =>
        have h : ns[i]? = some m := by simpa using h
        have ne : (m == n) = false := beq_eq_false_iff_ne.mpr fun z => hn.1 (by rw [← z]; exact List.mem_of_getElem? h)
        rw [ne, List.getElem?_cons_succ]
        exact ih hn.2 h
def CS.has (c : CS) (ci : Nat) (mn : Str) (d : D) : Bool := match d with
  | .obj k _ => k == ci
  | .ref n => match c.S[n]? with
    | some (.ins k fs) => k == ci && (fs.lookup mn).isNone
    | _ => false
  | _ => false
theorem Sim.has {m : Mp} {c : CS} {σ : L2.St} {H : Hp} (s : Sim g m c σ H) {d : D} {v : V} (k : Sv g m d v) {ci : Nat} {mn : Str} {ns : List Str} (h : c.has ci mn d = true) (hc : g.cls ci = some (C, ns)) (hn : ns.contains mn = false) :
    ∃ a dx fs, v = .ref a ∧ H a = some (.ins C dx fs) ∧ fs.lookup mn = none := by
  have hn : mn ∉ ns := fun z => by
    rw [List.contains_iff_mem.mpr z] at hn
    cases hn
  cases k with
  | @obj i ds a C' dx ns' us h1 h2 h3 h4 =>
    have h : (i == ci) = true := h
    have e := beq_iff_eq.mp h
    subst e
    rw [hc] at h1
    cases h1
    exact ⟨a, dx, _, rfl, s.fr _ _ h2, zip_none hn⟩
  | @ref n a h1 =>
    have h : (match c.S[n]? with
      | some (.ins k fs) => k == ci && (fs.lookup mn).isNone
      | _ => false) = true := h
    cases e : c.S[n]? with
    | none => rw [e] at h; cases h
    | some o =>
      rw [e] at h
      cases o with
      | lst _ => cases h
      | ins i fs =>
        have h : (i == ci && (fs.lookup mn).isNone) = true := h
        rw [Bool.and_eq_true] at h
        have e2 := beq_iff_eq.mp h.1
        subst e2
        obtain ⟨_, C', ns', dx, us, j1, j2, j3⟩ := s.st n a _ h1 e
        rw [hc] at j1
        cases j1
        exact ⟨a, dx, us, rfl, j2, j3.lookup_none (by simpa using h.2)⟩
  | _ => cases h
def cMeth (ci : Nat) (mn : Str) (fn : Fn) (fo : M D) (fa : M (List D)) : M D := fo.bind fun o c => match c.has ci mn o with
  | true => (fa c).bind fun ds c' => liftF (fn (o :: ds) c'.S) c'
  | false => .stuck
def CS.fld (c : CS) (ci i : Nat) (f : Str) (d : D) : Option D := match d with
  | .obj k vs => if k = ci then vs[i]? else none
  | .ref n => match c.S[n]? with
    | some (.ins k fs) => if k = ci then fs.lookup f else none
    | _ => none
  | _ => none
theorem Sim.fld {m : Mp} {c : CS} {σ : L2.St} {H : Hp} (s : Sim g m c σ H) {d r : D} {v : V} (k : Sv g m d v) {ci i : Nat} {f : Str} {ns : List Str} (h : c.fld ci i f d = some r) (hc : g.cls ci = some (C, ns)) (hn : ns.Nodup) (hi : ns[i]? = some f) :
    ∃ a dx fs z, v = .ref a ∧ H a = some (.ins C dx fs) ∧ fs.lookup f = some z ∧ Sv g m r z := by
  cases k with
  | @obj j ds a C' dx ns' us h1 h2 h3 h4 =>
    have h : (if j = ci then ds[i]? else none) = some r := h
    by_cases e : j = ci
    · subst e
      rw [if_pos rfl] at h
      rw [hc] at h1
      cases h1
      obtain ⟨z, e1, e2⟩ := h3.get h
      exact ⟨a, dx, _, z, rfl, s.fr _ _ h2, by rw [zip_at hn hi]; exact e1, e2⟩
    · rw [if_neg e] at h; cases h
  | @ref n a h1 =>
    have h : (match c.S[n]? with
      | some (.ins k fs) => if k = ci then fs.lookup f else none
      | _ => none) = some r := h
    cases e : c.S[n]? with
    | none => rw [e] at h; cases h
    | some o =>
      rw [e] at h
      cases o with
      | lst _ => cases h
      | ins j fs =>
        have h : (if j = ci then fs.lookup f else none) = some r := h
        by_cases e2 : j = ci
        · subst e2
          rw [if_pos rfl] at h
          obtain ⟨_, C', ns', dx, us, j1, j2, j3⟩ := s.st n a _ h1 e
          rw [hc] at j1
          cases j1
          obtain ⟨z, q1, q2⟩ := j3.lookup h
          exact ⟨a, dx, us, z, rfl, j2, q1, q2⟩
        · rw [if_neg e2] at h; cases h
  | _ => cases h
def cFld (ci i : Nat) (f : Str) (fo : M D) : M D := fo.bind fun o c => match c.fld ci i f o with
  | some r => .ok r c
  | none => .stuck
theorem sx_fld {ci i : Nat} {f : Str} {ns : List Str} (q : Good g k N X sc ws W) (hc : g.cls ci = some (C, ns)) (hn : ns.Nodup) (hi : ns[i]? = some f) (kc : Cls g.K C) (na : NoAttr g.K C f) (ho : PE X o (tE g W fo)) (h1 : okBase o = true) : PE X (.Attribute o f pos) (tE g W (cFld ci i f fo)) := by
  rw [← q.hK] at kc na
  refine pe_imp (pe_fld ho (base_ok h1)) fun σ H Q ⟨m, c, s, h⟩ => ⟨m, c, s, h.bind.imp fun v H1 ⟨m1, d, c1, x1, s1, k1, o1⟩ => ?_⟩
  cases e : c1.fld ci i f d with
  | none => rw [e] at o1; exact o1.elim
  | some r =>
    rw [e] at o1
    obtain ⟨a, dx, fs, z, rfl, g2, g3, g4⟩ := s1.fld k1 e hc hn hi
    exact ⟨a, C, dx, fs, z, rfl, g2, kc, na, g3, o1.here s1 g4⟩
theorem sx_cval (q : Good g k N X sc ws W) {f : Str} {mc : Value} {v : V} {u : Value} {d : D} {xc : Str} (hg : isGl sc xc = true) (hm : g.mg xc = some (.ref C)) (cr : ClX.CRead g.K C mc) (cv : ClX.CVal g.K C mc f v u) (hv : ∀ m : Mp, Sv g m d v) : PE X (.Attribute (.Name xc p) f pos) (tE g W (M.ret d)) := by
  obtain ⟨hg, hd, _⟩ := q.gl hg
  rw [← q.hmg] at hm
  rw [← q.hK] at cr cv
  refine pe_imp (ClX.pe_cval (pe_glob (v := .ref C) hg hm rfl hd) (by rfl)) fun σ H Q ⟨m, c, s, h⟩ => ?_
  exact ⟨C, mc, v, u, rfl, cr, cv, h.here s (hv m)⟩
def noExc (r : R D) : R D := match r with
  | .ok d c => .ok d c
  | _ => .stuck
def cProp (ci : Nat) (f : Str) (fn : Fn) (fo : M D) : M D := fo.bind fun o c => match c.has ci f o with
  | true => noExc (liftF (fn [o] c.S) c)
  | false => .stuck
theorem sx_prop {ci : Nat} {mn : Str} {ns : List Str} {pa : Addr} (q : Good g k N X sc ws W) (hc : g.cls ci = some (C, ns)) (hn : ns.contains mn = false) (kc : Cls g.K C) (pr : PropOf g.K C mn pa f) (F : FnC g j f fn) (hj : j + 1 ≤ k) (ho : PE X o (tE g W fo)) (h1 : okBase o = true) : PE X (.Attribute o mn pos) (tE g W (cProp ci mn fn fo)) := by
  rw [← q.hK] at kc pr
  refine ⟨fun pins s σ H Q I ⟨m, c, sm, h⟩ => ?_⟩
  refine attr_of (base_ok h1) (thn (ho.run pins s σ H _ I ⟨m, c, sm, h.bind⟩) fun u s1 ⟨x, H1, I1, rx, m1, d, c1, x1, s2, k1, o1⟩ => ?_)
  cases e1 : c1.has ci mn d with
  | false => rw [e1] at o1; exact o1.elim
  | true =>
    rw [e1] at o1
    obtain ⟨a, dx, fs, ex, ea, l⟩ := s2.has k1 e1 hc hn
    subst ex
    obtain rfl : u = Value.ref a := rx
    obtain ⟨mA, O, _, _, _, _⟩ := ins_get I1.hok ea
    obtain ⟨od, J, _⟩ := O.look
    obtain ⟨rest, hrec⟩ := pr.rec_
    have I2 := I1.tok (s1.toks + 1)
    have hcl : (PySem.W.clsIn X.K C).isSome = true := by
      obtain ⟨cd, hc, _⟩ := PySem.W.any_some kc.hd
      rw [hc]
      rfl
    have o2 : Out (rE g) g WF σ m1 (liftF (fn [d] c1.S) c1) Q := by
      cases e3 : fn [d] c1.S with
      | ok d' S' => rw [e3] at o1; exact o1
      | exc cn ws S' => rw [e3] at o1; exact o1.elim
      | stuck => rw [e3] at o1; exact o1.elim
    refine PySem.W.get_bind I1.kIn J (PySem.W.plainGet_of (kc.get mn)).1 (PySem.W.findObj_data hcl pr.at_ pr.get pr.tak) (PySem.W.plainGet_of (kc.get mn)).2 (wpAny_call (PySem.W.prop_get (s := { s1 with toks := s1.toks + 1 }) I1.kIn hrec ?_))
    refine codeAny_mono ((q.fn F) X.A.in1 X.stack { s1 with toks := s1.toks + 1 } H1 [.ref a] [V.ref a] Q (fun C d H' => WF C d σ H') (q.room.mono hj).in1 I2.env0.in1 (.cons rfl .nil) (call_sp s2 (.cons k1 .nil) o2)) fun r s' hq => ?_
    cases r with
    | error er => exact (passAt (X := X.nox) (W := WF) (fun u s' ⟨_, _, _, _, _, _, _, _, _, _, _, _, _, _, _, _, w⟩ => w.elim) σ pins H1 { s1 with toks := s1.toks + 1 } er s' (I2.wish _) hq).elim
    | ok fl =>
      cases fl with
      | ret u =>
        obtain ⟨v, H', I3, rv, q3⟩ := I2.after hq
        show wpAny _ _ (handedOut u) _ _ _
        rw [PySem.W.handedOut_of (handed_of rv)]
        exact wpAny_pure ⟨v, H', I3, rv, q3⟩
      | next => exact False.elim hq
      | brk => exact False.elim hq
      | cont => exact False.elim hq
end
end CL
namespace CL
open PySem PySem.Spec PyProof.Rows L2
theorem rel_keep {sc : Scope} {x : Str} {kd : NameKind} : ∀ {l : List (Str × NameKind)}, l.lookup x = some kd → kd ≠ .free →
    (l.map fun (n, k) => if (k == .free && sc.kind == .function && sc.names.lookup n == some .cell) then (n, NameKind.cell) else (n, k)).lookup x = some kd
  | [], h, _ => by simp at h
  | (n, k) :: r, h, hk => by
    rw [List.lookup_cons] at h
    rw [List.map_cons]
    have hn : ((fun (p : Str × NameKind) => if (p.2 == .free && sc.kind == .function && sc.names.lookup p.1 == some .cell) then (p.1, NameKind.cell) else (p.1, p.2)) (n, k)).1 = n := by
      dsimp only
      split <;> rfl
    show List.lookup x ((if (k == .free && sc.kind == .function && sc.names.lookup n == some .cell) then (n, NameKind.cell) else (n, k)) :: _) = _
    by_cases e : x = n
    · subst e
      simp at h
      subst h
      have kf : (k == NameKind.free) = false := by
        cases k <;> first | rfl | exact absurd rfl hk
      rw [kf]
      simp
    · have eb : (x == n) = false := beq_eq_false_iff_ne.mpr e
      rw [eb] at h
      have ih := rel_keep (sc := sc) (l := r) h hk
      split
      · rw [List.lookup_cons, eb]; exact ih
      · rw [List.lookup_cons, eb]; exact ih
section
variable {g : G} {k : Nat} {N : List Str} {X : Cx} {sc ws : Scope} {W : WX}
theorem Good.blk (q : Good g k N X sc ws W) {s : Shared} {H : Hp} {scope : Scope} {cl : List (Str × Addr)} {C : Addr} {fp : List Addr} : Good g k N (X.blk s H scope (compEnvC scope cl C X.env) fp) (relS scope sc) scope WF := by
  refine ⟨q.hN, q.nd, ?_, q.calm, q.room, q.hK, q.hP, q.hw, q.hmg, q.hbs, fun u s' ⟨_, _, _, _, _, _, _, _, _, _, _, _, _, _, _, _, w⟩ => w.elim, PassesOwn.never, fun x hx => ?_⟩
  · show relabel scope X.env = relS scope sc
    rw [← q.hsc]
    rfl
  · unfold isLoc at hx
    show Loc (relabel scope X.env) x ∧ ((scope.names.lookup x == some .cell) = true ∨ (relabel scope X.env).names.lookup x = some .local)
    split at hx
    · rename_i e
      have h := rel_keep (sc := X.env.scope) e (fun z => nomatch z)
      exact ⟨.inl h, .inr h⟩
    · rename_i e
      have h := rel_keep (sc := X.env.scope) e (fun z => nomatch z)
      exact ⟨.inr h, .inl (by rw [e]; rfl)⟩
    · cases hx
end
section
variable {X : Cx} {g : G} {k : Nat} {N : List Str} {sc ws : Scope} {W : WX} {x : Str} {p pos : Pos} {e e2 tg : Expr} {es : List Expr} {id T : String} {r : List V → Hp → VK → Prop} {fa : M (List D)} {γ : Type} {rel : G → Rl γ V} {f : List D → M γ} {fe fe2 : M D}
theorem sq_B (q : Good g k N X sc ws W) (hc : CallR X (.builtin id) r) (h : SC (β := Unit) rel g r f) (hg : isGl sc x = true) (hm : g.mg x = none) (hv : bootBuiltins x = some (.builtin id)) (ha : PA X (e :: es) (tA g W fa)) (hp : plainArgs (e :: es) = true) : PE X (.Call (.Name x p) (e :: es) [] pos) (tX (rel g) g W (fa.bind f)) :=
  sx_callB hc h (q.gl hg).1 (by rw [q.hmg]; exact hm) hv ha (q.gl hg).2.2 (q.gl hg).2.1 hp
theorem sq_Ty (q : Good g k N X sc ws W) (hc : CallR X (.type T) r) (h : SC (β := Unit) rel g r f) (hg : isGl sc x = true) (hm : g.mg x = none) (hv : bootBuiltins x = some (.type T)) (ha : PA X (e :: es) (tA g W fa)) (hp : plainArgs (e :: es) = true) : PE X (.Call (.Name x p) (e :: es) [] pos) (tX (rel g) g W (fa.bind f)) :=
  sx_callTy hc h (q.gl hg).1 (by rw [q.hmg]; exact hm) hv ha (q.gl hg).2.2 (q.gl hg).2.1 hp
theorem sq_range1 (q : Good g k N X sc ws W) (hg : isGl sc "range" = true) (hm : g.mg "range" = none) (he : PE X e (tE g W fe)) (hs : isStar e = false) : PI X tg (.Call (.Name "range" p) [e] [] pos) (tI g W (cRange1 fe)) := si_range1 (q.gl hg).1 (by rw [q.hmg]; exact hm) he hs
theorem sq_range2 (q : Good g k N X sc ws W) (hg : isGl sc "range" = true) (hm : g.mg "range" = none) (he : PE X e (tE g W fe)) (he2 : PE X e2 (tE g W fe2)) (hs : isStar e = false) (hs2 : isStar e2 = false) : PI X tg (.Call (.Name "range" p) [e, e2] [] pos) (tI g W (cRange2 fe fe2)) := si_range2 (q.gl hg).1 (by rw [q.hmg]; exact hm) he he2 hs hs2
theorem sq_var {i : Nat} (q : Good g k N X sc ws W) (hN : N[i]? = some x) (hv : isVis (sc.names.lookup x) = true) (hd : noDbg x = true) : PE X (.Name x pos) (tE g W (cVar i)) := se_var (q.at_ hN) (q.vis hv) (noDbg_1 hd) (noDbg_2 hd)
theorem sq_seq (q : Good g k N X sc ws W) (he : PE X e (tE g W fe)) : PI X tg e (tI g W (cWalk fe)) := pi_seq q.hK he
theorem sq_tru (q : Good g k N X sc ws W) (h : PE X e (tE g W fe)) (hp : plainTest e = true) : PT X e (tT g W (cTru fe)) := st_tru q.hK h hp
end
def cNever {α : Type} : M α := fun _ => .stuck
theorem ss_any {X : Cx} {g : G} {W : WX} {st : Stmt} : PS X st (tS g W cNever) := ⟨fun _ _ _ _ _ _ ⟨_, _, _, o⟩ => o.elim⟩
def cStore (f : M (List D)) : M D := f.bind fun xs c => .ok (.ref c.S.length) { c with S := c.S ++ [.lst xs] }
theorem Sim.store {g : G} {m : Mp} {c : CS} {σ : L2.St} {H : Hp} {xs : List D} {v : V} (h : Sim g m c σ H) (k : rL g m c H xs v) : ∃ m', Ext m m' ∧ Sim g m' { c with S := c.S ++ [.lst xs] } σ H ∧ Sv g m' (.ref c.S.length) v := by
  obtain ⟨p, vs, rfl, hp, hv, f⟩ := k
  have ex : Ext m { m with rho := m.rho ++ [p] } := ⟨fun n a z => by
    show (m.rho ++ [p])[n]? = some a
    rw [List.getElem?_append_left (List.getElem?_eq_some_iff.mp z).1]
    exact z, fun _ _ z => z, rfl, rfl⟩
  have last : (m.rho ++ [p])[c.S.length]? = some p := by
    rw [← h.len, List.getElem?_append_right (Nat.le_refl _), Nat.sub_self]
    rfl
  refine ⟨{ m with rho := m.rho ++ [p] }, ex, ⟨h.fr, ?_, h.tb, ?_, h.ini, h.ln, fun n a o h1 h2 => ?_, fun a o z => ?_, fun i s hs => ?_⟩, .ref last⟩
  · show (m.rho ++ [p]).Nodup
    rw [List.nodup_append]
    exact ⟨h.nd, by simp, fun a ha b hb => by
      cases List.mem_singleton.mp hb
      exact fun z => f.r (by rw [← z]; exact ha)⟩
  · show (m.rho ++ [p]).length = (c.S ++ [O.lst xs]).length
    rw [List.length_append, List.length_append, h.len]
    rfl
  · have h1 : (m.rho ++ [p])[n]? = some a := h1
    have h2 : (c.S ++ [O.lst xs])[n]? = some o := h2
    by_cases q : n < c.S.length
    · rw [List.getElem?_append_left (by rw [h.len]; exact q)] at h1
      rw [List.getElem?_append_left q] at h2
      obtain ⟨k1, k2⟩ := h.st n a o h1 h2
      exact ⟨k1, k2.mono ex rfl⟩
    · have hl : n < (c.S ++ [O.lst xs]).length := (List.getElem?_eq_some_iff.mp h2).1
      rw [List.length_append] at hl
      have e : n = c.S.length := by
        have : ([O.lst xs] : List O).length = 1 := rfl
        omega
      subst e
      rw [last] at h1
      cases h1
      rw [List.getElem?_append_right (Nat.le_refl _), Nat.sub_self] at h2
      cases h2
      exact ⟨f.f, vs, hp, hv.mono ex⟩
  · obtain ⟨z1, z2, z3, z4⟩ := h.bk a o z
    refine ⟨z1, z2, fun q => ?_, z4⟩
    have q : a ∈ m.rho ++ [p] := q
    rcases List.mem_append.mp q with q | q
    · exact z3 q
    · rw [List.mem_singleton.mp q] at z
      have z : m.B p = some o := z
      rw [f.b] at z
      cases z
  · have q := h.sl i s hs
    cases s with
    | no => trivial
    | val d =>
      obtain ⟨v, q1, q2⟩ := q
      exact ⟨v, q1, q2.mono ex⟩
    | own o =>
      obtain ⟨q1, q2, q3⟩ := q
      refine ⟨q1, q2.mono ex rfl, ⟨q3.fr, q3.bk, fun z => ?_, q3.ap⟩⟩
      have z : m.lam i ∈ m.rho ++ [p] := z
      rcases List.mem_append.mp z with z | z
      · exact q3.rh z
      · exact f.o i o hs (List.mem_singleton.mp z)
theorem se_store {X : Cx} {g : G} {W : WX} {e : Expr} {f : M (List D)} (h : PE X e (tL g W f)) : PE X e (tE g W (cStore f)) := by
  refine pe_imp h fun σ H Q ⟨m, c, s, o⟩ => ⟨m, c, s, o.bind.imp fun v H1 ⟨m1, xs, c1, x1, s1, k1, o1⟩ => ?_⟩
  obtain ⟨m2, x2, s2, k2⟩ := s1.store k1
  exact (o1.mono x2).here s2 k2
def startC (n : Nat) (ds : List D) (S : List O) : CS := ⟨ds.map .val ++ List.replicate (n - ds.length) .no, S⟩
def outF (r : R Fl) : FR := match r with
  | .ok .next c => .ok .non c.S
  | .ok (.ret d) c => .ok d c.S
  | .exc cn vs c => .exc cn vs c.S
  | _ => .stuck
def fnB (n np : Nat) (fb : M Fl) : Fn := fun ds S => match decide (ds.length = np) with
  | true => outF (fb (startC n ds S))
  | false => .stuck
theorem Sim.drop {g : G} {m : Mp} {c : CS} {σ : L2.St} {H : Hp} (h : Sim g m c σ H) : Sim g m ⟨[], c.S⟩ [] H :=
  ⟨h.fr, h.nd, h.tb, h.len, iniOk_nil, rfl, h.st, h.bk, fun i s hs => by
    have hs : ([] : List Sl)[i]? = some s := hs
    simp at hs⟩
theorem Sim.start {g : G} {m : Mp} {S : List O} {H : Hp} {N : List Str} {ds : List D} {vs : List V} (h : Sim g m ⟨[], S⟩ [] H) (hv : Svs g m ds vs) : Sim g m (startC N.length ds S) (L2.start N vs) H := by
  have iniS : IniOk m (ds.map Sl.val ++ List.replicate (N.length - ds.length) Sl.no) := fun k fs e => by
    rcases List.mem_append.mp (List.mem_of_getElem? e) with z | z
    · obtain ⟨d, _, z⟩ := List.mem_map.mp z
      cases z
    · cases (List.mem_replicate.mp z).2
  refine ⟨h.fr, h.nd, h.tb, h.len, iniS, ?_, h.st, h.bk, fun i s hs => ?_⟩
  · show (ds.map Sl.val ++ List.replicate (N.length - ds.length) Sl.no).length = (vs.map some ++ List.replicate (N.length - vs.length) none).length
    rw [List.length_append, List.length_append, List.length_map, List.length_map, List.length_replicate, List.length_replicate, hv.length]
  · have hs : (ds.map Sl.val ++ List.replicate (N.length - ds.length) Sl.no)[i]? = some s := hs
    by_cases q : i < ds.length
    · rw [List.getElem?_append_left (by rw [List.length_map]; exact q), List.getElem?_map, List.getElem?_eq_getElem q] at hs
      cases hs
      obtain ⟨v, e1, e2⟩ := hv.get (List.getElem?_eq_getElem q)
      refine ⟨v, ?_, e2⟩
      show (vs.map some ++ List.replicate (N.length - vs.length) none)[i]? = some (some v)
      rw [List.getElem?_append_left (by rw [List.length_map, ← hv.length]; exact q), List.getElem?_map, e1]
      rfl
    · rw [List.getElem?_append_right (by rw [List.length_map]; omega)] at hs
      have e := List.mem_of_getElem? hs
      have e := (List.mem_replicate.mp e).2
      subst e
      trivial
theorem outS_F {g : G} {W : WX} {m : Mp} {S : List O} {r : R Fl} {Q : VK} {E : XK} (hW : ∀ C d σ H, E C d H → W C d σ H) (o : OutF g m (outF r) Q E) : OutS g W m r { nx := fun _ H' => Q .non H', rt := Q } := by
  cases r with
  | ok a c =>
    cases a with
    | next => exact fun m' σ' H' x s => o m' .non H' x s.drop .non
    | ret d => exact fun m' σ' v H' x s k => o m' v H' x s.drop k
    | brk => exact o.elim
    | cont => exact o.elim
  | exc cn vs c => exact fun m' σ' H' C d x s k => hW C d σ' H' (o m' H' C d x s.drop k)
  | stuck => exact o.elim
def StoOk (sc : Scope) : Prop := ∀ x, isLoc (sc.names.lookup x) = true → Loc sc x
theorem sto_ok {sc : Scope} : StoOk sc := fun x h => by
  unfold isLoc at h
  split at h
  · rename_i e; exact .inl e
  · rename_i e; exact .inr e
  · cases h
theorem good_of {g : G} {N ps : List Str} {qual : Str} {sc : Scope} {f : Addr} {cd : Value} {A : Around} {outer : List Env} {s : Shared} {H : Hp} {E : XK} {k : Nat} (S : FnScope N ps sc) (hr : Room k (A.deeper (envOfC qual sc s.heap.objs.size f cd))) :
    Good g k N (cxOf (L2.CX g.prog g.w) g.prog g.w g.K g.mg g.base N qual sc f cd A outer s H E) sc sc (fun C d _ H' => E C d H') :=
  ⟨rfl, S.nd, rfl, rfl, hr, rfl, rfl, rfl, rfl, rfl, takes_of rfl rfl rfl rfl, passes_of rfl, fun x hx => ⟨sto_ok x hx, .inl rfl⟩⟩
theorem fn_c {g : G} {x qual : Str} {st : Stmt} {f : Addr} {fd : FuncData} {N ps : List Str} {k : Nat} {fb : M Fl} (F : L2.Fun g.K x qual st f fd) (S : FnScope N ps (defScope st)) (hb : Binds g.K fd ps [])
    (h : ∀ (X : Cx) (W : WX), Good g k N X (defScope st) (defScope st) W → PSs X (defBody st) (tS g W fb)) : FnC g (k + 1) f (fnB N.length ps.length fb) := by
  have z : FnOk g.prog g.w g.K g.mg g.base (L2.CX g.prog g.w) (k + 1) f fd ps (spOf g (fnB N.length ps.length fb)) := by
    refine F.okX S (fun vs H Q E hs => ?_) (fun cdv A outer s H vs Q E hr hs => ?_)
    · obtain ⟨m, S', ds, sm, hv, o⟩ := hs
      unfold fnB at o
      cases e : decide (ds.length = ps.length) with
      | false => rw [e] at o; exact o.elim
      | true => rw [← hv.length]; exact of_decide_eq_true e
    · obtain ⟨m, S', ds, sm, hv, o⟩ := hs
      unfold fnB at o
      cases e : decide (ds.length = ps.length) with
      | false => rw [e] at o; exact o.elim
      | true =>
        rw [e] at o
        exact ⟨_, h _ _ (good_of S hr), m, _, sm.start hv, outS_F (S := S') (fun _ _ _ _ h => h) o⟩
  exact (z.raw hb (dvs := []) .nil).imp fun vs H Q E hs => by rw [List.append_nil]; exact hs
end CL
namespace CL
open PySem PySem.Spec PyProof.Rows L2
abbrev tupIt (a : Addr) : Obj := { cls := .type "tuple_iterator", data := .fields #[.ref a, .int 0 0] }
abbrev enuOb (i : Addr) : Obj := { cls := .type "enumerate", data := .fields #[.none, .bool false, .ref i, rawInt 0, .none, .none] }
open AutoSeq1 in
theorem enuT_new (a : Addr) (its : Array Value) (n : Nat) (dc : Option Addr) (ss : Array (Option Value)) :
    Meets (Builtin.«enumerate.__new__» ⟨[.type "enumerate", .ref a], []⟩)
      (fun _ R s => s.heap.get? a = some ⟨.type "tuple", dc, .seq its n, ss⟩ ∧
        R (.ok (.ret (.ref (s.heap.push (tupIt a)).objs.size))) { s with heap := (s.heap.push (tupIt a)).push (enuOb s.heap.objs.size) }) :=
  .of_wp fun P w A R s h => by
    obtain ⟨hh, gs, dd, tt, os⟩ := s
    obtain ⟨hl, h⟩ := h
    have hs := sub_enumerate
    have ht : Heap.IsTuple (Shared.heap ⟨hh, gs, dd, tt, os⟩) a its := ⟨_, hl, rfl, n, rfl⟩
    wp_walk using wpAny_loadPart' hl
    refine wpAny_stack_any fun sk => wpAny_pure ?_
    split
    · rename_i k _ _ _ _ _
      cases (k == Value.type "enumerate") <;> wp_walk using wpAny_loadPart' hl, wpAny_pyIter_tuple ht
      all_goals exact ⟨_, rfl, h⟩
    · wp_walk using wpAny_loadPart' hl, wpAny_pyIter_tuple ht
      exact ⟨_, rfl, h⟩

theorem enuT_call {P : Program} {w : World} {A : Around} {E : Value → Shared → Prop} {s : Shared} {a : Addr} {its : Array Value} {Q : Value → Shared → Prop} (ht : s.heap.IsTuple a its)
    (h : ∀ h', IsEnum h' (s.heap.objs.size + 1) s.heap.objs.size 0 .none → h'.IsTupleIter s.heap.objs.size a 0 →
      (∀ b o, s.heap.get? b = some o → h'.get? b = some o) → Q (.ref (s.heap.objs.size + 1)) { s with heap := h' }) :
    wpAny (model P w) A (call (.type "enumerate") [.ref a]) Q E s := by
  obtain ⟨⟨oc, od, dt, ss⟩, e1, e2, n, e3⟩ := ht
  have e2 : oc = .type "tuple" := e2
  have e3 : dt = .seq its n := e3
  subst e2 e3
  have sz : (s.heap.push (tupIt a)).objs.size = s.heap.objs.size + 1 := Heap.size_push ..
  refine callType_new F.called_enumerate (by decide) (F.typeCall_enumerate_1 _) (F.newCall_enumerate_1 _) (fun ob => F.args_object_init_2 ob _) F.entry_enumerate_new (enuT_new a its n od ss) ⟨e1, ?_⟩
  show _ ∧ _
  rw [sz]
  have g1 : IsEnum ((s.heap.push (tupIt a)).push (enuOb s.heap.objs.size)) (s.heap.objs.size + 1) s.heap.objs.size 0 .none := by
    have q := Heap.get?_push_size (s.heap.push (tupIt a)) (o := enuOb s.heap.objs.size) rfl
    rw [sz] at q
    exact q
  exact ⟨⟨_, g1, rfl⟩, h _ g1 ⟨_, Heap.get?_push_of_some _ (Heap.get?_push_size _ rfl), rfl, rfl⟩ fun b o x => Heap.get?_push_of_some _ (Heap.get?_push_of_some _ x)⟩

def IteT (K : PySem.W.Frag) (a : Addr) : It where
  go := fun i H => ∃ (xs : List V) (x : V), SqT K H a xs ∧ xs[i]? = some x
  yld := fun i H v H' => ∃ T x, v = .ref T ∧ H T = none ∧ H' = upd H T (.tup [.int (i : Nat), x]) ∧ ∀ xs, SqT K H a xs → xs[i]? = some x
  stop := fun i H => ∃ xs : List V, SqT K H a xs ∧ i = xs.length
theorem turn_enumT {P : Program} {w : World} {K : PySem.W.Frag} {elts : List Expr} {kk : Nat} {tpos : Pos} (a e it : Addr) :
    Turn P w K (.Tuple elts kk tpos) (IteT K a) [e, it] e (fun i h => (∃ u, IsEnum h e it ((i : Nat) : Int) u) ∧ h.IsTupleIter it a i ∧ e ≠ it ∧ a ≠ it ∧ a ≠ e) where
  mem := List.mem_cons_self
  obj := by
    intro i h hx b hb
    obtain ⟨⟨u, he⟩, ⟨o, ho, _, hd⟩, _⟩ := hx
    rcases List.mem_cons.mp hb with z | z
    · rw [z]
      exact ⟨_, he, fun v q => nomatch q⟩
    · exact ⟨o, by rw [List.mem_singleton.mp z]; exact ho, fun v q => by rw [hd] at q; cases q⟩
  keep := by
    intro i h h' hx k
    obtain ⟨⟨u, he⟩, hi, ne⟩ := hx
    exact ⟨⟨u, k e List.mem_cons_self _ he⟩, hi.at fun o q => k it (List.mem_cons_of_mem _ List.mem_cons_self) o q, ne⟩
  item := by
    intro X e1 e2 e3 hc i pins s σ H E I fp ht hg
    obtain ⟨⟨u0, he⟩, hit, ne, n2, n3⟩ := ht
    obtain ⟨xs, x, hq, hx⟩ := hg
    subst e1 e2 e3
    obtain ⟨its, rv, pl, _⟩ := I.tuple hq
    obtain ⟨u, hu, ru⟩ := rv.get hx
    have le : e < s.heap.objs.size := Heap.lt_size he
    have li : it < s.heap.objs.size := let ⟨_, q, _⟩ := hit; Heap.lt_size q
    have la : a < s.heap.objs.size := let ⟨_, q, _⟩ := pl; Heap.lt_size q
    have D := PySem.Draws.tuple (prog := X.prog) (w := X.w) (A := X.A.in1) (I.ok.hd hc) it a n2 its.toArray
    have lt : i < its.toArray.size := by
      have := (List.getElem?_eq_some_iff.mp hu).1
      simpa using this
    have nf : e ∉ [it, a] := fun z => by
      rcases List.mem_cons.mp z with z | z
      · exact ne z
      · exact n3 (List.mem_singleton.mp z).symm
    refine wpAny_pyNext_enum_itemD D he ⟨hit, pl⟩ lt ne nf fun y h' tk hy ho st hT sz hk => ?_
    have ey : y = u := by
      rw [List.getElem?_toArray, hu] at hy
      exact (Option.some.inj hy).symm
    subst ey
    refine ⟨_, rfl, wpAny_letOwnedTupleGo_enum (s := { s with heap := h', toks := tk + 1 }) ho fun h2 he2 sb => ?_⟩
    have hT2 : h2.get? s.heap.objs.size = some { cls := .type "tuple", data := .seq #[.int i tk, y] } := (sb.2 _ (Nat.ne_of_gt le)).trans hT
    have nw : ObjOk X.prog X.w (upd H s.heap.objs.size (.tup [.int (i : Nat), x])) h2 s.heap.objs.size (.tup [.int (i : Nat), x]) :=
      ⟨by show 2 ≤ sizeLine; decide, [.int i tk, y], .cons ⟨_, rfl⟩ (.cons ru .nil), _, hT2, rfl, _, rfl⟩
    have kp : ∀ b o, b ∉ [e, it] → s.heap.get? b = some o → h2.get? b = some o := fun b o hb q => by
      have b1 : b ≠ e := fun z => hb (by rw [z]; exact List.mem_cons_self)
      have b2 : b ≠ it := fun z => hb (by rw [z]; exact List.mem_cons_of_mem _ List.mem_cons_self)
      exact (sb.2 b b1).trans (hk b o b1 b2 q)
    have J : Inv X pins σ (upd H s.heap.objs.size (.tup [.int (i : Nat), x])) { s with heap := h2, toks := tk + 1 } := I.turnedNew (ch := [e, it]) kp fp (Nat.le_refl _) nw
    refine ⟨.ref s.heap.objs.size, _, J, rfl, ⟨_, x, rfl, I.hok.fresh (Nat.le_refl _), rfl, fun ys hy => by rw [I.tuple_inj hy hq]; exact hx⟩, ⟨⟨y, ?_⟩, st.1.at fun o q => (sb.2 it (Ne.symm ne)).trans q, ne, n2, n3⟩, fun b hb => ?_⟩
    · rw [show ((i + 1 : Nat) : Int) = (i : Int) + 1 by omega]
      exact he2
    · have lb : b < s.heap.objs.size := by
        rcases List.mem_cons.mp hb with z | z
        · rw [z]; exact le
        · rw [List.mem_singleton.mp z]; exact li
      rw [upd_ne (Nat.ne_of_lt lb)]
      exact (fp b hb).1
  done := by
    intro X e1 e2 e3 hc i pins s σ H E I fp ht hg
    obtain ⟨⟨u0, he⟩, hit, ne, n2, n3⟩ := ht
    obtain ⟨xs, hq, hx⟩ := hg
    subst e1 e2 e3
    obtain ⟨its, rv, pl, _⟩ := I.tuple hq
    obtain ⟨f0, f1, f2, f3, f4, f5⟩ := fp it (List.mem_cons_of_mem _ List.mem_cons_self)
    have D := PySem.Draws.tuple (prog := X.prog) (w := X.w) (A := X.A.in1) (I.ok.hd hc) it a n2 its.toArray
    have hl := rv.length
    have q : i = its.toArray.size := by
      rw [List.size_toArray, ← hl]
      exact hx
    subst q
    exact wpAny_pyNext_enum_endD D he ⟨hit, pl⟩ fun h' eb => ⟨rfl, I.turned (t' := s.toks) (fun b o hb q => eb b o hb q) f0 f1 f3 f4 f5⟩
  self := by
    intro A i s Q E hx h
    obtain ⟨⟨_, he⟩, _⟩ := hx
    exact wpAny_pyIter_enum he h
def enumD (xs : List D) : List D := xs.zipIdx.map fun p => .tup [.int (p.2 : Nat), p.1]
theorem enumD_at {xs : List D} {i : Nat} {d : D} (h : (enumD xs)[i]? = some d) : ∃ x, xs[i]? = some x ∧ d = .tup [.int (i : Nat), x] := by
  unfold enumD at h
  rw [List.getElem?_map, List.getElem?_zipIdx] at h
  cases e : xs[i]? with
  | none => rw [e] at h; cases h
  | some x =>
    rw [e] at h
    cases h
    exact ⟨x, rfl, by simp⟩
theorem enumD_length (xs : List D) : (enumD xs).length = xs.length := by unfold enumD; simp
theorem yld_pair {g : G} {m1 : Mp} {c : CS} {σ : L2.St} {H : Hp} {d : D} {v : V} {i : Int} {T : Addr} (s : Sim g m1 c σ H) (k : Sv g m1 d v) (hT : H T = none) : ∃ m2, Ext m1 m2 ∧ Sim g m2 c σ (upd H T (.tup [.int i, v])) ∧ Sv g m2 (.tup [.int i, d]) (.ref T) := by
  obtain ⟨s2, x2⟩ := s.frozen (u := .tup [.int i, v]) hT
  exact ⟨_, x2, s2, .tup (SqT.of upd_same) (.cons (.int i) (.cons (k.mono x2) .nil))⟩
theorem yld_enumT {g : G} {m : Mp} {a : Addr} {ds : List D} {vs : List V} (h : SqT g.K m.F a vs) (k : Svs g m ds vs) : Yld g m (IteT g.K a) (enumD ds) := fun m1 c σ H xr xf s i => by
  have hq : SqT g.K H a vs := s.sqT (sqT_mono xf h)
  have kl := k.length
  refine ⟨fun hi => ⟨vs, hq, by rw [hi, enumD_length]; exact kl⟩, fun d hd => ?_⟩
  obtain ⟨x, hx, rfl⟩ := enumD_at hd
  obtain ⟨v, h1, h2⟩ := k.get hx
  refine ⟨⟨vs, v, hq, h1⟩, fun y H' ⟨T, w, e1, e2, e3, e4⟩ => ?_⟩
  have e5 := e4 vs hq
  rw [h1] at e5
  cases e5
  subst e1 e3
  exact yld_pair s (Sv.like xr xf h2) e2
theorem yld_enumL {g : G} {m : Mp} {a : Addr} {ds : List D} {vs : List V} (h : m.F a = some (.lst vs)) (k : Svs g m ds vs) : Yld g m (Ite g.K a) (enumD ds) := fun m1 c σ H xr xf s i => by
  have hq : SqL g.K H a vs := SqL.of (s.fr _ _ (xf _ _ h))
  have kl := k.length
  refine ⟨fun hi => ⟨vs, hq, by rw [hi, enumD_length]; omega⟩, fun d hd => ?_⟩
  obtain ⟨x, hx, rfl⟩ := enumD_at hd
  obtain ⟨v, h1, h2⟩ := k.get hx
  refine ⟨⟨vs, v, hq, h1⟩, fun y H' ⟨T, w, e1, e2, e3, e4⟩ => ?_⟩
  have e5 := e4 vs hq
  rw [h1] at e5
  cases e5
  subst e1 e3
  exact yld_pair s (Sv.like xr xf h2) e2
def dEnum (d : D) : M (List D) := fun c => match d with
  | .lst xs => .ok (enumD xs) c
  | .tup xs => .ok (enumD xs) c
  | _ => .stuck
def cEnum (f : M D) : M (List D) := f.bind dEnum
def OneQ {β γ : Type} (rel : Rl γ β) (g : G) (W : WX) (σ : L2.St) (m : Mp) (f : D → M γ) (R : β → Hp → Prop) : List V → Hp → Prop := fun vs H1 => ∃ v m' d c', vs = [v] ∧ Ext m m' ∧ Sim g m' c' σ H1 ∧ Sv g m' d v ∧ Out rel g W σ m' (f d c') R
section
variable {g : G} {k : Nat} {N : List Str} {X : Cx} {sc ws : Scope} {W : WX} {p pos tpos : Pos} {e : Expr} {fe : M D} {es : List Expr} {kk : Nat}
theorem sq_enum (q : Good g k N X sc ws W) (hg : isGl sc "enumerate" = true) (hm : g.mg "enumerate" = none) (he : PE X e (tE g W fe)) (hs : isStar e = false) : PI X (.Tuple es kk tpos) (.Call (.Name "enumerate" p) [e] [] pos) (tI g W (cEnum fe)) := by
  refine ⟨fun pins s σ H R I ⟨m, c, sm, o⟩ => ?_⟩
  have hst : starEach [e] X.env = (false, eval e X.env) :: starEach [] X.env := star_plain hs
  have one : PA X [e] (fun σ H Q => tE g W fe σ H fun x H1 => Q [x] H1) := pa_cons he pa_nil hst
  have o2 : tE g W fe σ H fun x H1 => OneQ (rI g) g W σ m dEnum R [x] H1 := ⟨m, c, sm, o.bind.imp fun v H1 ⟨m1, d, c1, x1, s1, k1, o1⟩ => ⟨v, m1, d, c1, rfl, x1, s1, k1, o1⟩⟩
  refine Call_ (ld_blt I (q.gl hg).1 (by rw [q.hmg]; exact hm) boot_enumerate (PyProof.Rows.callWith_type1 (thn (one.run pos pins s σ H (OneQ (rI g) g W σ m dEnum R) I o2) fun us s1 ⟨vs, H1, I1, r1, z1⟩ => ?_) hst rfl))
  obtain ⟨v0, m1, d, c1, ev, x1, s2, k1, o1⟩ := z1
  subst ev
  cases r1 with
  | cons r rr =>
    cases rr
    cases k1 with
    | @lst a ds vs h1 h2 =>
      cases r
      have hq : SqL X.K H1 a vs := SqL.of (s2.fr _ _ h1)
      obtain ⟨its, rv, p', hz⟩ := I1.list hq
      refine call_enumerate_list p'.isList fun h' g1 g2 _ hk => wpAny_pyIter_enum g1 ?_
      have I2 : Inv X pins σ H1 { s1 with heap := h' } := I1.kept (t' := s1.toks) hk
      refine ⟨s1.heap.objs.size + 1, [s1.heap.objs.size + 1, s1.heap.objs.size], _, _, H1, rfl, I2, turn_enum a (s1.heap.objs.size + 1) s1.heap.objs.size, ⟨⟨.none, g1⟩, g2, Nat.succ_ne_self _⟩, fun b hb => ?_, ?_⟩
      · have lb : s1.heap.objs.size ≤ b := by
          rcases List.mem_cons.mp hb with z | z
          · rw [z]; exact Nat.le_succ _
          · rw [List.mem_singleton.mp z]; exact Nat.le_refl _
        exact I1.fpOk lb (I1.hok.fresh lb)
      · rw [q.hK]
        exact o1.here s2 (yld_enumL h1 h2)
    | @tup a ds vs h1 h2 =>
      cases r
      have hq : SqT X.K H1 a vs := by
        rw [q.hK]
        exact s2.sqT h1
      obtain ⟨its, rv, p', hz⟩ := I1.tuple hq
      have la : a < s1.heap.objs.size := let ⟨_, z, _⟩ := p'; Heap.lt_size z
      refine enuT_call (show s1.heap.IsTuple a its.toArray from p') fun h' g1 g2 hk => wpAny_pyIter_enum g1 ?_
      have I2 : Inv X pins σ H1 { s1 with heap := h' } := I1.kept (t' := s1.toks) hk
      refine ⟨s1.heap.objs.size + 1, [s1.heap.objs.size + 1, s1.heap.objs.size], _, _, H1, rfl, I2, turn_enumT a (s1.heap.objs.size + 1) s1.heap.objs.size, ⟨⟨.none, g1⟩, g2, Nat.succ_ne_self _, Nat.ne_of_lt la, Nat.ne_of_lt (Nat.lt_succ_of_lt la)⟩, fun b hb => ?_, ?_⟩
      · have lb : s1.heap.objs.size ≤ b := by
          rcases List.mem_cons.mp hb with z | z
          · rw [z]; exact Nat.le_succ _
          · rw [List.mem_singleton.mp z]; exact Nat.le_refl _
        exact I1.fpOk lb (I1.hok.fresh lb)
      · rw [q.hK]
        exact o1.here s2 (yld_enumT h1 h2)
    | _ => exact o1.elim
end
end CL
namespace CL
open PySem PySem.Spec PyProof.Rows L2
def OutMk (g : G) (m : Mp) (x : Addr) (r : FR) (Q : VK) (E : XK) : Prop := match r with
  | .ok d S => ∀ m' H', Ext m m' → Sim g m' ⟨[], S⟩ [] H' → Sv g m' d (.ref x) → Q .non H'
  | .exc cn vs S => ∀ m' H' C dd, Ext m m' → Sim g m' ⟨[], S⟩ [] H' → Exr g m' cn vs C dd → E C dd H'
  | .stuck => False
def spMk (g : G) (ci : Nat) (fn : Fn) : Sp := fun vs H Q E => ∃ x us m S ds C ns dx, vs = V.ref x :: us ∧ g.cls ci = some (C, ns) ∧ H x = some (.ins C dx []) ∧ Sim g m ⟨[], S⟩ [] H ∧ m.F x = none ∧ m.B x = none ∧ x ∉ m.rho ∧ m.ini = x ∧ Svs g m ds us ∧ OutMk g m x (fn ds S) Q E
abbrev FnMk (g : G) (k : Nat) (f : Addr) (ci : Nat) (fn : Fn) : Prop := FnR g.prog g.w g.K g.mg g.base (L2.CX g.prog g.w) k f (spMk g ci fn)
section
variable {X : Cx} {g : G} {k j : Nat} {N : List Str} {sc ws : Scope} {W : WX} {p pos : Pos} {x : Str} {e : Expr} {es : List Expr} {fa : M (List D)} {f C : Addr} {fn : Fn} {ci : Nat} {ns : List Str}
theorem run_mk (q : Good g k N X sc ws W) (hc : g.cls ci = some (C, ns)) (M : Mk g.K C f) (F : FnMk g j f ci fn) (hj : j + 1 ≤ k) {pins : List (Addr × Obj)} {m : Mp} {c : CS} {σ : L2.St} {H : Hp} {s : Shared} {ds : List D} {vs : List V} {us : List Value} {Q : VK}
    (I : Inv X pins σ H s) (r : Vals vs us) (sm : Sim g m c σ H) (hv : Svs g m ds vs) (o : Out (rE g) g W σ m (liftF (fn ds c.S) c) Q) : wpAny (model X.prog X.w) X.A (call (.ref C) us) (EP X pins σ Q) X.xe s := by
  rw [← q.hK] at M
  have F : FnR X.prog X.w X.K X.mg X.base (L2.CX X.prog X.w) j f (spMk g ci fn) := by
    rw [q.hP, q.hw, q.hK, q.hmg, q.hbs]
    exact F
  have hdx : H s.heap.objs.size = none := I.hok.fresh (Nat.le_refl _)
  have hx : H (s.heap.objs.size + 1) = none := I.hok.fresh (Nat.le_succ _)
  have ne : s.heap.objs.size + 1 ≠ s.heap.objs.size := Nat.ne_of_gt (Nat.lt_succ_self _)
  obtain ⟨s1, _⟩ := sm.new (u := .own (s.heap.objs.size + 1)) hdx
  obtain ⟨s2, f2⟩ := s1.new (p := s.heap.objs.size + 1) (u := .ins C s.heap.objs.size []) (by rw [upd_ne ne]; exact hx)
  have fx : ∀ a ∈ [s.heap.objs.size + 1], Fre m c a := fun a ha => by
    rw [List.mem_singleton.mp ha]
    exact f2
  have hq : spMk g ci fn (V.ref (s.heap.objs.size + 1) :: vs) (upd (upd H s.heap.objs.size (.own (s.heap.objs.size + 1))) (s.heap.objs.size + 1) (.ins C s.heap.objs.size [])) (fun v H2 => v = .non ∧ Q (.ref (s.heap.objs.size + 1)) H2) (WE W σ) := by
    refine ⟨_, vs, _, c.S, ds, C, ns, _, rfl, hc, upd_same, s2.call [s.heap.objs.size + 1] (s.heap.objs.size + 1), f2.f, ?_, f2.r, rfl, Svs.like (m := m) (m' := m.call _ [s.heap.objs.size + 1] (s.heap.objs.size + 1)) (fun _ _ z => z) (fun _ _ z => z) hv, ?_⟩
    · show (if _ then none else _) = none
      rw [if_pos (.inr List.mem_cons_self)]
    · cases e : fn ds c.S with
      | ok d S' =>
        rw [e] at o
        intro m' H' x' s' k'
        obtain ⟨x3, s3⟩ := s2.back fx x' s'
        exact ⟨rfl, o _ _ H' x3 s3 (Sv.like (m := m') (m' := ⟨m'.rho, m'.F, m.B, m.lam, m.ini⟩) (fun _ _ z => z) (fun _ _ z => z) k')⟩
      | exc cn ws S' =>
        rw [e] at o
        intro m' H' C' dd x' s' k'
        obtain ⟨x3, s3⟩ := s2.back fx x' s'
        exact o _ H' C' dd x3 s3 (exr_like (m := m') (m' := ⟨m'.rho, m'.F, m.B, m.lam, m.ini⟩) (fun _ _ z => z) (fun _ _ z => z) k')
      | stuck => rw [e] at o; exact o.elim
  have I2 := Inv.made (C := C) I
  have r2 : Vals (V.ref (s.heap.objs.size + 1) :: vs) (Value.ref (s.heap.objs.size + 1) :: us) := .cons rfl r
  refine wpAny_call (make_map (f := f) I.kIn M.makes M.init (beq_iff_eq.mp M.fn) (codeAny_mono (F _ X.stack _ _ _ _ _ _ ((q.room.mono hj).make C us []) (I2.env0.make C us []) r2 hq) fun r s' hr => ?_))
  match r, hr with
  | .error er, hr => exact passAt q.tk σ pins _ _ er s' I2 hr
  | .ok (.ret u), hr =>
    obtain ⟨v, H', I3, rv, ev, q3⟩ := I2.after hr
    subst ev
    exact ⟨rv, V.ref (s.heap.objs.size + 1), H', I3, rfl, q3⟩
def cCallS (fn : Fn) (fe : M D) : M D := fe.bind fun d => (dItems d).bind fun ds c => liftF (fn ds c.S) c
theorem sx_makeS {sp : Pos} {fe : M D} (q : Good g k N X sc ws W) (hc : g.cls ci = some (C, ns)) (M : Mk g.K C f) (F : FnMk g j f ci fn) (hj : j + 1 ≤ k) (hg : isGl sc x = true) (hm : g.mg x = some (.ref C)) (he : PE X e (tE g W fe)) :
    PE X (.Call (.Name x p) [.Starred e sp] [] pos) (tE g W (cCallS fn fe)) := by
  refine ⟨fun pins s σ H Q I ⟨m, c, sm, o⟩ => ?_⟩
  obtain ⟨hg, hd, _⟩ := q.gl hg
  rw [← q.hmg] at hm
  refine wpAny_Call_Name_kw (ld_glob I hg hm ?_ hd)
  refine PySem.W.callWith_S (K := X.K) (h₀ := X.base) I.ok.mod.kin (by rw [q.hK]; exact M.kp) (thn (he.run pins s σ H _ I ⟨m, c, sm, o.bind⟩) fun v s1 ⟨y, H1, I1, ry, m1, d, c1, x1, s2, k1, o1⟩ => ?_) (by rfl)
  obtain ⟨a, xs, vs, rfl, h1, h2, o2⟩ := s2.items k1 o1
  obtain rfl : v = Value.ref a := ry
  rw [← q.hK] at h1
  exact StX.star_any I1 h1 fun us s3 I3 rv => ⟨I3.kIn, run_mk q hc M F hj I3 rv s2 h2 o2⟩
end
inductive Pi where
  | own (fs : List (Str × D))
  | st (n : Nat) (fs : List (Str × D))
def Pi.fs : Pi → List (Str × D)
  | .own fs => fs
  | .st _ fs => fs
def CS.pi (c : CS) (ci i : Nat) : Option Pi := match c.sl[i]? with
  | some (.own (.ins k fs)) => if k = ci then some (.own fs) else none
  | some (.val (.ref n)) => match c.S[n]? with
    | some (.ins k fs) => if k = ci then some (.st n fs) else none
    | _ => none
  | _ => none
def CS.wi (c : CS) (ci i : Nat) (p : Pi) (fs : List (Str × D)) : CS := match p with
  | .own _ => c.put i (.own (.ins ci fs))
  | .st n _ => { c with S := c.S.set n (.ins ci fs) }
theorem Sim.pi {g : G} {m : Mp} {c : CS} {σ : L2.St} {H : Hp} (s : Sim g m c σ H) {ci i : Nat} {p : Pi} {C : Addr} {ns : List Str} (hc : g.cls ci = some (C, ns)) (e : c.pi ci i = some p) :
    ∃ a dx us, σ[i]? = some (some (.ref a)) ∧ H a = some (.ins C dx us) ∧ Sfs g m p.fs us ∧ ∀ fs ws, Sfs g m fs ws → Sim g m (c.wi ci i p fs) σ (upd H a (.ins C dx ws)) := by
  unfold CS.pi at e
  cases q : c.sl[i]? with
  | none => rw [q] at e; cases e
  | some t =>
    rw [q] at e
    cases t with
    | no => cases e
    | own o =>
      cases o with
      | lst _ => cases e
      | ins k fs =>
        have e : (if k = ci then some (Pi.own fs) else none) = some p := e
        by_cases z : k = ci
        · subst z
          rw [if_pos rfl] at e
          cases e
          obtain ⟨h1, ⟨C', ns', dx, us, j1, j2, j3⟩, h3⟩ := s.sl i _ q
          rw [hc] at j1
          cases j1
          exact ⟨m.lam i, dx, us, h1, j2, j3, fun fs ws k => s.wrOwn q (fun H' z => ⟨C, ns, dx, ws, hc, z, k⟩) (fun _ _ _ => ⟨_, _, rfl⟩)⟩
        · rw [if_neg z] at e; cases e
    | val d =>
      cases d with
      | ref n =>
        have e : (match c.S[n]? with
          | some (.ins k fs) => if k = ci then some (Pi.st n fs) else none
          | _ => none) = some p := e
        cases r : c.S[n]? with
        | none => rw [r] at e; cases e
        | some o =>
          rw [r] at e
          cases o with
          | lst _ => cases e
          | ins k fs =>
            have e : (if k = ci then some (Pi.st n fs) else none) = some p := e
            by_cases z : k = ci
            · subst z
              rw [if_pos rfl] at e
              cases e
              obtain ⟨v, h1, h2⟩ := s.sl i _ q
              cases h2 with
              | @ref _ a ha =>
                obtain ⟨_, C', ns', dx, us, j1, j2, j3⟩ := s.st n a _ ha r
                rw [hc] at j1
                cases j1
                exact ⟨a, dx, us, h1, j2, j3, fun fs ws k => s.wrSt ha r fun H' z => ⟨C, ns, dx, ws, hc, z, k⟩⟩
            · rw [if_neg z] at e; cases e
      | _ => cases e
def cSetF (ci i : Nat) (f : Str) (fe : M D) : M Fl := fun c => (fe c).bind fun d c1 => match c1.pi ci i with
  | some p => match decide (p.fs.length < 1000) with
    | true => .ok .next (c1.wi ci i p (putD f d p.fs))
    | false => .stuck
  | none => .stuck
section
variable {X : Cx} {g : G} {k : Nat} {N : List Str} {sc ws : Scope} {W : WX} {pos pos' px : Pos} {x f : Str} {e : Expr} {fe : M D} {C : Addr} {ci i : Nat} {ns : List Str}
theorem ss_setF (q : Good g k N X sc ws W) (hc : g.cls ci = some (C, ns)) (kc : Cls g.K C) (na : NoAttr g.K C f) (hi : N[i]? = some x) (hv : isVis (sc.names.lookup x) = true) (hd : noDbg x = true) (he : PE X e (tE g W fe)) (hs : swapsWith e (some (.Attribute (.Name x px) f pos')) pos.line X.env = pure false) :
    PS X (.Assign [.Attribute (.Name x px) f pos'] e pos) (tS g W (cSetF ci i f fe)) := by
  rw [← q.hK] at kc na
  refine ps_imp (ps_fld (pe_var (q.at_ hi) (q.vis hv) (noDbg_1 hd) (noDbg_2 hd)) he hs) fun Dn σ H ⟨m, c, s, o⟩ => ⟨m, c, s, o.bind.imp fun v H1 ⟨m1, d, c1, x1, s1, k1, o1⟩ => ?_⟩
  cases e1 : c1.pi ci i with
  | none => rw [e1] at o1; exact o1.elim
  | some p =>
    rw [e1] at o1
    have o1 : OutS g W m1 (match decide (p.fs.length < 1000) with
      | true => .ok .next (c1.wi ci i p (putD f d p.fs))
      | false => .stuck) Dn := o1
    obtain ⟨a, dx, us, h1, h2, h3, h4⟩ := s1.pi hc e1
    cases z : decide (p.fs.length < 1000) with
    | false => rw [z] at o1; exact o1.elim
    | true =>
      rw [z] at o1
      exact ⟨.ref a, h1, a, C, dx, us, rfl, h2, kc, na, by rw [← h3.length]; exact of_decide_eq_true z, o1.nx (h4 _ _ (h3.put k1))⟩
end
def startM (n ci : Nat) (ds : List D) (S : List O) : CS := ⟨.own (.ins ci []) :: (ds.map .val ++ List.replicate (n - 1 - ds.length) .no), S⟩
def outM (ci : Nat) (ns : List Str) (c : CS) : FR := match c.sl[(0 : Nat)]? with
  | some (.own (.ins k fs)) => match decide (k = ci ∧ fs.map (·.1) = ns) with
    | true => .ok (.obj ci (fs.map (·.2))) c.S
    | false => .stuck
  | _ => .stuck
def mkB (n np ci : Nat) (ns : List Str) (fb : M Fl) : Fn := fun ds S => match decide (ds.length = np) with
  | true => match fb (startM n ci ds S) with
    | .ok .next c => outM ci ns c
    | .ok (.ret .non) c => outM ci ns c
    | .exc cn vs c => .exc cn vs c.S
    | _ => .stuck
  | false => .stuck
theorem Sim.startM {g : G} {m : Mp} {S : List O} {H : Hp} {N : List Str} {ds : List D} {vs : List V} {ci : Nat} {C : Addr} {ns : List Str} {x dx : Addr} (h : Sim g m ⟨[], S⟩ [] H) (hv : Svs g m ds vs) (hc : g.cls ci = some (C, ns)) (hx : H x = some (.ins C dx [])) (hF : m.F x = none) (hB : m.B x = none) (hr : x ∉ m.rho) (hi : m.ini = x) :
    ∃ m', Ext m m' ∧ Sim g m' (CL.startM N.length ci ds S) (L2.start N (V.ref x :: vs)) H := by
  have ex : Ext m { m with lam := fun _ => x } := ⟨fun _ _ z => z, fun _ _ z => z, rfl, rfl⟩
  refine ⟨{ m with lam := fun _ => x }, ex, h.fr, h.nd, h.tb, h.len, fun _ _ _ => hi.symm, ?_, fun n a o h1 h2 => ⟨(h.st n a o h1 h2).1, (h.st n a o h1 h2).2.mono ex rfl⟩, h.bk, fun i s hs => ?_⟩
  · show (Sl.own (.ins ci []) :: (ds.map Sl.val ++ List.replicate (N.length - 1 - ds.length) Sl.no)).length = (((V.ref x :: vs).map some) ++ List.replicate (N.length - (V.ref x :: vs).length) none).length
    rw [List.length_cons, List.length_append, List.length_append, List.length_map, List.length_map, List.length_replicate, List.length_replicate, List.length_cons, hv.length]
    omega
  · have hs : (Sl.own (.ins ci []) :: (ds.map Sl.val ++ List.replicate (N.length - 1 - ds.length) Sl.no))[i]? = some s := hs
    cases i with
    | zero =>
      cases hs
      refine ⟨rfl, ⟨C, ns, dx, [], hc, hx, .nil⟩, ⟨hF, hB, hr, fun j o hj _ => ?_⟩⟩
      have hj : (Sl.own (.ins ci []) :: (ds.map Sl.val ++ List.replicate (N.length - 1 - ds.length) Sl.no))[j]? = some (.own o) := hj
      cases j with
      | zero => rfl
      | succ j =>
        rw [List.getElem?_cons_succ] at hj
        rcases List.mem_append.mp (List.mem_of_getElem? hj) with z | z
        · obtain ⟨d, _, z⟩ := List.mem_map.mp z
          cases z
        · cases (List.mem_replicate.mp z).2
    | succ i =>
      rw [List.getElem?_cons_succ] at hs
      by_cases q : i < ds.length
      · rw [List.getElem?_append_left (by rw [List.length_map]; exact q), List.getElem?_map, List.getElem?_eq_getElem q] at hs
        cases hs
        obtain ⟨v, e1, e2⟩ := hv.get (List.getElem?_eq_getElem q)
        refine ⟨v, ?_, e2.mono ex⟩
        show ((some (V.ref x) :: vs.map some) ++ List.replicate (N.length - (V.ref x :: vs).length) none)[i + 1]? = some (some v)
        rw [List.cons_append, List.getElem?_cons_succ, List.getElem?_append_left (by rw [List.length_map, ← hv.length]; exact q), List.getElem?_map, e1]
        rfl
      · rw [List.getElem?_append_right (by rw [List.length_map]; omega)] at hs
        cases (List.mem_replicate.mp (List.mem_of_getElem? hs)).2
        trivial
theorem Sfs.zip {g : G} {m : Mp} {fs : List (Str × D)} {us : List (Str × V)} (h : Sfs g m fs us) : us = (fs.map (·.1)).zip (us.map (·.2)) ∧ Svs g m (fs.map (·.2)) (us.map (·.2)) := by
  induction h with
  | nil => exact ⟨rfl, .nil⟩
  | cons a _ ih => exact ⟨by
      rw [List.map_cons, List.map_cons, List.zip_cons_cons, ← ih.1], .cons a ih.2⟩
theorem outM_ok {g : G} {m m' : Mp} {c : CS} {σ : L2.St} {H : Hp} {ci : Nat} {C : Addr} {ns : List Str} {x : Addr} {Q : VK} {E : XK} (hc : g.cls ci = some (C, ns)) (xx : Ext m m') (s : Sim g m' c σ H) (hi : m.ini = x) (o : OutMk g m x (outM ci ns c) Q E) : Q .non H := by
  unfold outM at o
  cases e : c.sl[0]? with
  | none => rw [e] at o; exact o.elim
  | some t =>
    rw [e] at o
    cases t with
    | no => exact o.elim
    | val d => exact o.elim
    | own ob =>
      cases ob with
      | lst _ => exact o.elim
      | ins k fs =>
        have o : OutMk g m x (match decide (k = ci ∧ fs.map (·.1) = ns) with
          | true => FR.ok (.obj ci (fs.map (·.2))) c.S
          | false => .stuck) Q E := o
        cases z : decide (k = ci ∧ fs.map (·.1) = ns) with
        | false => rw [z] at o; exact o.elim
        | true =>
          rw [z] at o
          obtain ⟨rfl, hn⟩ := of_decide_eq_true z
          obtain ⟨h1, ⟨C', ns', dx, us, j1, j2, j3⟩, h3⟩ := s.sl 0 _ e
          rw [hc] at j1
          cases j1
          have ex : m'.lam 0 = x := (s.ini _ _ e).trans (xx.i.trans hi)
          obtain ⟨z1, z2⟩ := j3.zip
          rw [hn] at z1
          have xf : Ext m' { m' with F := upd m'.F x (.ins C dx us) } := ⟨fun _ _ z => z, fun a o z => by
            show upd m'.F _ _ a = some o
            rw [upd_ne (ne_of_none z (by rw [← ex]; exact h3.fr))]
            exact z, rfl, rfl⟩
          have sm : Sim g { m' with F := upd m'.F x (.ins C dx us) } ⟨[], c.S⟩ [] H := by
            refine ⟨fun a o z => ?_, s.nd, s.tb.ext xf.f (s.tb.1.put fun _ z => nomatch z) (fun _ _ z => z), s.len, iniOk_nil, rfl, fun n a o g1 g2 => ?_, fun a o z => ?_, fun i t h => by
              have h : ([] : List Sl)[i]? = some t := h
              simp at h⟩
            · have z' : upd m'.F x (.ins C dx us) a = some o := z
              by_cases q : a = x
              · rw [q, upd_same] at z'
                cases z'
                rw [q, ← ex]
                exact j2
              · rw [upd_ne q] at z'
                exact s.fr a o z'
            · obtain ⟨k1, k2⟩ := s.st n a o g1 g2
              refine ⟨?_, k2.mono xf rfl⟩
              show upd m'.F _ _ a = none
              rw [upd_ne (fun q => h3.rh (by rw [ex, ← q]; exact List.mem_of_getElem? g1))]
              exact k1
            · obtain ⟨z1, z2, z3, z4⟩ := s.bk a o z
              refine ⟨z1, ?_, z3, z4⟩
              show upd m'.F _ _ a = none
              rw [upd_ne (fun q => by
                have z : m'.B a = some o := z
                rw [q, ← ex, h3.bk] at z
                cases z)]
              exact z2
          refine o _ H (xx.trans xf) sm (.obj (dx := dx) hc ?_ (z2.mono xf) ?_)
          · show upd m'.F x _ x = _
            rw [upd_same, ← z1]
          · rw [← hn, List.length_map, List.length_map]
theorem outM_S {g : G} {W : WX} {m m1 : Mp} {ci np : Nat} {C : Addr} {ns : List Str} {x : Addr} {r : R Fl} {Q : VK} {E : XK} (hc : g.cls ci = some (C, ns)) (xx : Ext m m1) (hi : m.ini = x) (hW : ∀ C d σ H, E C d H → W C d σ H)
    (o : OutMk g m x (match r with
      | .ok .next c => outM ci ns c
      | .ok (.ret .non) c => outM ci ns c
      | .exc cn vs c => .exc cn vs c.S
      | _ => .stuck) Q E) : OutS g W m1 r { nx := fun _ H' => Q .non H', rt := Q } := by
  cases r with
  | ok a c =>
    cases a with
    | next => exact fun m' σ' H' x' s => outM_ok hc (xx.trans x') s hi o
    | ret d =>
      cases d <;> first | exact o.elim | skip
      intro m' σ' v H' x' s k
      cases k
      exact outM_ok hc (xx.trans x') s hi o
    | brk => exact o.elim
    | cont => exact o.elim
  | exc cn vs c => exact fun m' σ' H' C d x' s k => hW C d σ' H' (o m' H' C d (xx.trans x') s.drop k)
  | stuck => exact o.elim
def fnStar (fn : Fn) : Fn := fun ds S => match szOk ds.length with
  | true => fn [.tup ds] S
  | false => .stuck
theorem fn_mkS {g : G} {x qual : Str} {st : Stmt} {f : Addr} {fd : FuncData} {N : List Str} {k ci : Nat} {C : Addr} {ns : List Str} {fb : M Fl} {ps pv : Str} (F : L2.Fun g.K x qual st f fd) (S : FnScope N ([ps] ++ [pv]) (defScope st)) (hc : g.cls ci = some (C, ns))
    (hb : ∀ (kV doc pm : Value) (an : Option Addr) (cdv ct : Value) (us rest : List Value), us.length = [ps].length → bindArgs (PySem.W.fnOf x qual (defArgs st) (defBody st) (defScope st) .none kV doc pm an cdv ct) ⟨us ++ rest, []⟩ = (newTuple rest >>= fun t => pure ([ps].zip us ++ [(pv, t)])))
    (h : ∀ (X : Cx) (W : WX), Good g k N X (defScope st) (defScope st) W → PSs X (defBody st) (tS g W fb)) :
    FnMk g (k + 1) f ci (fnStar (mkB N.length 1 ci ns fb)) := by
  obtain ⟨oc, od, kV, doc, pm, an, cdv, ct, osl, rfl, lk, hcd⟩ := F.ex
  refine (StX.fn_star (sp := spMk g ci (mkB N.length 1 ci ns fb)) lk hcd S StX.cxUp (hb kV doc pm an cdv ct) fun A outer s H vs Q E hr hsp => ?_).imp fun vs H Q E hs => ?_
  · obtain ⟨y, us, m, S', ds, C', ns', dx, rfl, hc', hx, sm, hF, hB, hrr, hi, hv, o⟩ := hsp
    unfold mkB at o
    cases e : decide (ds.length = 1) with
    | false => rw [e] at o; exact o.elim
    | true =>
      rw [e] at o
      obtain ⟨m1, x1, s1⟩ := sm.startM (N := N) hv hc' hx hF hB hrr hi
      exact ⟨_, h _ _ (good_of S hr), m1, _, s1, outM_S (np := 1) hc x1 hi (fun _ _ _ _ h => h) o⟩
  · obtain ⟨y, us, m, S', ds, C', ns', dx, rfl, hc', hx, sm, hF, hB, hrr, hi, hv, o⟩ := hs
    unfold fnStar at o
    cases e : szOk ds.length with
    | false => rw [e] at o; exact o.elim
    | true =>
      rw [e] at o
      refine ⟨[V.ref y], us, rfl, rfl, by rw [← hv.length]; exact of_decide_eq_true e, fun p hp => ?_⟩
      obtain ⟨s2, x2⟩ := sm.frozen (u := .tup us) hp
      have ny : y ≠ p := ne_of_none hx hp
      refine ⟨y, [V.ref p], _, S', [.tup ds], C', ns', dx, rfl, hc', by rw [upd_ne ny]; exact hx, s2, ?_, hB, hrr, hi, .cons (.tup (SqT.of upd_same) (hv.mono x2)) .nil, ?_⟩
      · show upd m.F p _ y = none
        rw [upd_ne ny]
        exact hF
      · cases r : mkB N.length 1 ci ns fb [.tup ds] S' with
        | ok d S2 =>
          rw [r] at o
          exact fun m' H' x' s' k' => o m' H' (x2.trans x') s' k'
        | exc cn ws S2 =>
          rw [r] at o
          exact fun m' H' C dd x' s' k' => o m' H' C dd (x2.trans x') s' k'
        | stuck => rw [r] at o; exact o.elim
end CL
namespace CL
open PySem PySem.Spec PyProof.Rows L2
def MOp (X : Cx) (g : G) (W : WX) (f : Value → Value → Sem Value) (h : D → D → M D) : Prop := ∀ (pins : List (Addr × Obj)) (s : Shared) (σ : L2.St) (H : Hp) (m : Mp) (c : CS) (a b : D) (x y : V) (v u : Value) (Q : VK),
  Inv X pins σ H s → Sim g m c σ H → Sv g m a x → Sv g m b y → RelV x v → RelV y u → Out (rE g) g W σ m (h a b c) Q → wpAny (model X.prog X.w) X.A (f v u) (EP X pins σ Q) X.xe s
theorem mop_of {X : Cx} {g : G} {W : WX} {f : Value → Value → Sem Value} {r : R2} {h : D → D → M D} (ho : OpR X f r) (hs : S2 g r h) : MOp X g W f h := fun pins s σ H m c a b x y v u Q I sm ka kb rx ry o => ho pins s σ H x y v u Q I rx ry (hs W m c σ H a b x y Q sm ka kb o)
def TwoQ (g : G) (W : WX) (σ : L2.St) (h : D → D → M D) (Q : VK) : V → V → Hp → Prop := fun x y H => ∃ m c a b, Sim g m c σ H ∧ Sv g m a x ∧ Sv g m b y ∧ Out (rE g) g W σ m (h a b c) Q
section
variable {X : Cx} {g : G} {k j : Nat} {N : List Str} {sc ws : Scope} {W : WX} {p pos : Pos} {a b e : Expr} {fa fb : M D} {h h' : D → D → M D}
theorem two2 {σ : L2.St} {H : Hp} {Q : VK} (q : tE g W (cOp h fa fb) σ H Q) : tE g W fa σ H fun x H1 => tE g W fb σ H1 fun y H2 => TwoQ g W σ h Q x y H2 := by
  obtain ⟨m, c, s, o⟩ := q
  exact ⟨m, c, s, o.bind.imp fun x H1 ⟨m1, a, c1, x1, s1, k1, o1⟩ => ⟨m1, c1, s1, o1.bind.imp fun y H2 ⟨m2, b, c2, x2, s2, k2, o2⟩ => ⟨m2, c2, a, b, s2, k1.mono x2, k2, o2⟩⟩⟩
theorem sx_bin {op : Operator} (ho : MOp X g W (binaryOp op) h) (ha : PE X a (tE g W fa)) (hb : PE X b (tE g W fb)) : PE X (.BinOp a op b pos) (tE g W (cOp h fa fb)) := by
  refine ⟨fun pins s σ H Q I q => ?_⟩
  exact wpAny_BinOp (binT ha hb I (two2 q) fun v u s2 x y H2 I2 rx ry ⟨m, c, d1, d2, sm, k1, k2, o⟩ => ho pins s2 σ H2 m c d1 d2 x y v u Q I2 sm k1 k2 rx ry o)
theorem sx_cmp {op : CmpOp} (ho : MOp X g W (compareOp op) h) (ha : PE X a (tE g W fa)) (hb : PE X b (tE g W fb)) (hm : behindInMarks op b = false) : PE X (.Compare a [op] [b] pos) (tE g W (cOp h fa fb)) := by
  refine ⟨fun pins s σ H Q I q => ?_⟩
  exact wpAny_Compare1 (binT ha hb I (two2 q) fun v u s2 x y H2 I2 rx ry ⟨m, c, d1, d2, sm, k1, k2, o⟩ => ho pins s2 σ H2 m c d1 d2 x y v u Q I2 sm k1 k2 rx ry o) hm
theorem sx_cmpT {op : CmpOp} (ho : MOp X g W (compareOp op) h) (ha : PE X a (tE g W fa)) (hb : PE X b (tE g W fb)) (hm : behindInMarks op b = false) : PT X (.Compare a [op] [b] pos) (tT g W (asB (cOp h fa fb))) := by
  refine ⟨fun pins s σ H Q I ⟨m, c, sm, o⟩ => ?_⟩
  have q : tE g W (cOp h fa fb) σ H (fun z H3 => ∃ k, z = .bl k ∧ Q k H3) := ⟨m, c, sm, o.bind.imp fun x H1 ⟨m1, d, c1, x1, s1, k1, o1⟩ => by
    cases k1 with
    | bl b => exact ⟨b, rfl, o1.here s1 rfl⟩
    | _ => exact o1.elim⟩
  refine wpAny_isTrue_Compare1 (binT ha hb I (two2 q) fun v u s2 x y H2 I2 rx ry ⟨m, c, d1, d2, sm, k1, k2, o⟩ => thn (ho pins s2 σ H2 m c d1 d2 x y v u _ I2 sm k1 k2 rx ry o) fun w s3 ⟨z, H3, I3, r3, kk, ez, q3⟩ => ?_) hm
  subst ez
  cases r3
  exact wpAny_truthy_bool ⟨H3, I3, q3⟩
theorem sx_sub {r : R2} (ho : ∀ (vl sl : Expr), notSlice sl = true → MOp X g W (fun v u => subscriptTail vl sl v u) h) (ha : PE X a (tE g W fa)) (hb : PE X b (tE g W fb)) (hs : notSlice b = true) : PE X (.Subscript a b pos) (tE g W (cOp h fa fb)) := by
  refine ⟨fun pins s σ H Q I q => ?_⟩
  exact Subscript_ (binT ha hb I (two2 q) fun v u s2 x y H2 I2 rx ry ⟨m, c, d1, d2, sm, k1, k2, o⟩ => ho a b hs pins s2 σ H2 m c d1 d2 x y v u Q I2 sm k1 k2 rx ry o)
def cChain (h h' : D → D → M D) (fa fb fc : M D) : M D := fa.bind fun x => fb.bind fun y => (h x y).bind fun z => match z with
  | .bl true => fc.bind fun w => h' y w
  | .bl false => M.ret (.bl false)
  | _ => fun _ => .stuck
theorem chain_read {r r' : R2} {fc : M D} (hs : S2 g r h) (hs' : S2 g r' h') {σ : L2.St} {H : Hp} {Q : VK} (q : tE g W (cChain h h' fa fb fc) σ H Q) : tChain r r' (tE g W fa) (tE g W fb) (tE g W fc) σ H Q := by
  obtain ⟨m, c, s, o⟩ := q
  refine ⟨m, c, s, o.bind.imp fun x H1 ⟨m1, a, c1, x1, s1, k1, o1⟩ => ⟨m1, c1, s1, o1.bind.imp fun y H2 ⟨m2, b, c2, x2, s2, k2, o2⟩ => ?_⟩⟩
  refine hs W m2 c2 σ H2 a b x y _ s2 (k1.mono x2) k2 (o2.bind.imp fun z H3 ⟨m3, d, c3, x3, s3, k3, o3⟩ => ?_)
  cases k3 with
  | bl bb =>
    refine ⟨bb, rfl, ?_⟩
    cases bb with
    | true =>
      rw [if_pos rfl]
      exact ⟨m3, c3, s3, o3.bind.imp fun w H4 ⟨m4, e, c4, x4, s4, k4, o4⟩ => hs' W m4 c4 σ H4 b e y w Q s4 ((k2.mono x3).mono x4) k4 o4⟩
    | false =>
      rw [if_neg (fun z => nomatch z)]
      exact o3.here s3 (.bl _)
  | _ => exact o3.elim
theorem sx_chain {op op' : CmpOp} {r r' : R2} {c : Expr} {fc : M D} (ho : OpR X (compareOp op) r) (ho' : OpR X (compareOp op') r') (hs : S2 g r h) (hs' : S2 g r' h') (ha : PE X a (tE g W fa)) (hb : PE X b (tE g W fb)) (hc : PE X c (tE g W fc)) (hm : lastMarks [op, op'] [b, c] = false) : PE X (.Compare a [op, op'] [b, c] pos) (tE g W (cChain h h' fa fb fc)) :=
  pe_imp (pe_chain ho ho' ha hb hc hm) fun σ H Q q => chain_read hs hs' q
theorem sx_chainT {op op' : CmpOp} {r r' : R2} {c : Expr} {fc : M D} (ho : OpR X (compareOp op) r) (ho' : OpR X (compareOp op') r') (hs : S2 g r h) (hs' : S2 g r' h') (ha : PE X a (tE g W fa)) (hb : PE X b (tE g W fb)) (hc : PE X c (tE g W fc)) (hm : lastMarks [op, op'] [b, c] = false) : PT X (.Compare a [op, op'] [b, c] pos) (tT g W (asB (cChain h h' fa fb fc))) := by
  refine pt_imp (pt_chain ho ho' ha hb hc hm) fun σ H Q ⟨m, c, s, o⟩ => chain_read (W := W) hs hs' ⟨m, c, s, o.bind.imp fun x H1 ⟨m1, d, c1, x1, s1, k1, o1⟩ => ?_⟩
  cases k1 with
  | bl b => exact ⟨b, rfl, o1.here s1 rfl⟩
  | _ => exact o1.elim
end
structure Spc (K : PySem.W.Frag) (C : Addr) (mn : Str) (f : Addr) : Prop where
  at_ : PySem.W.findIn K (.ref C) mn = some (some (.ref f))
  fn : PySem.W.isFn K (.ref f) = true
section
variable {X : Cx} {g : G} {k j : Nat} {N : List Str} {sc ws : Scope} {W : WX} {f C : Addr} {fn : Fn} {ci : Nat} {ns : List Str} {mn : Str}
def dOwn (ci : Nat) (mn : Str) (fn : Fn) (h : D → D → M D) : D → D → M D := fun a b c => match c.has ci mn a with
  | true => liftF (fn [a, b] c.S) c
  | false => h a b c
def negB (r : R D) : R D := match r with
  | .ok (.bl b) c => .ok (.bl (!b)) c
  | .exc n vs c => .exc n vs c
  | _ => .stuck
def CS.typed (c : CS) (d : D) : Bool := (c.knOf d).isSome
def dEqO (ci : Nat) (fn : Fn) (h : D → D → M D) : D → D → M D := fun a b c => match c.has ci "__eq__" a with
  | true => M.guard (c.typed b) (fun c => liftF (fn [a, b] c.S) c) c
  | false => h a b c
def dNeO (ci : Nat) (fn : Fn) (h : D → D → M D) : D → D → M D := fun a b c => match c.has ci "__eq__" a with
  | true => M.guard (c.typed b) (fun c => negB (liftF (fn [a, b] c.S) c)) c
  | false => h a b c
structure NeK (K : PySem.W.Frag) (C : Addr) : Prop where
  at_ : PySem.W.findIn K (.ref C) "__ne__" = some (some (.builtin "object.__ne__"))
  ob : PySem.W.subIn K (.ref C) (.type "object") = some true
end
section
open PySem.W
variable {P : Program} {w : World} {A : Around} {E : Value → Shared → Prop} {s : Shared} {K : Frag} {x C : Addr} {ox : Obj} {od : Option Obj}
end
section
variable {X : Cx} {g : G} {k j : Nat} {N : List Str} {sc ws : Scope} {W : WX} {f C : Addr} {fn : Fn} {ci : Nat} {ns : List Str} {mn : Str}
def dBinO (ci : Nat) (mn : Str) (fn : Fn) (h : D → D → M D) : D → D → M D := fun a b c => match c.has ci mn a with
  | true => M.guard (c.has ci mn b) (fun c => liftF (fn [a, b] c.S) c) c
  | false => h a b c
theorem mop_ix {r : R2} {h : D → D → M D} (ho : IxR X r) (hs2 : S2 g r h) (vl sl : Expr) (hs : notSlice sl = true) : MOp X g W (fun v u => subscriptTail vl sl v u) h := fun pins s σ H m c a b x y v u Q I sm ka kb rx ry o => ho vl sl pins s σ H x y v u Q I rx ry (hs2 W m c σ H a b x y Q sm ka kb o) (plainIx_ok hs _ _)
end
end CL
namespace CL
open PySem PySem.Spec PyProof.Rows L2
def cApp (i : Nat) (fe : M D) : M Fl := fun c => match c.pl i with
  | none => .stuck
  | some _ => (fe c).bind fun d c2 => match c2.pl i with
    | none => .stuck
    | some p => match decide (p.xs.length < sizeLine) with
      | true => .ok .next (c2.wr i p (p.xs ++ [d]))
      | false => .stuck
section
variable {X : Cx} {g : G} {k : Nat} {N : List Str} {sc ws : Scope} {W : WX} {pos px apos cpos tpos : Pos} {e : Expr} {fe : M D} {i : Nat} {x : Str}
theorem ss_append (q : Good g k N X sc ws W) (hi : N[i]? = some x) (hv : isVis (sc.names.lookup x) = true) (hd : noDbg x = true) (he : PE X e (tE g W fe)) (hs : isStar e = false) (hline : (apos.endLine == cpos.line) = true) :
    PS X (.Expr (.Call (.Attribute (.Name x px) "append" apos) [e] [] cpos) pos) (tS g W (cApp i fe)) := by
  refine ps_imp (ps_expr (pe_bm PySem.F.plainAttrs_list PySem.F.slot_list_append PySem.F.type_list_append mt_append (pe_var (q.at_ hi) (q.vis hv) (noDbg_1 hd) (noDbg_2 hd)) (pa_cons he pa_nil (star_plain hs)) (by rfl)
    (by rw [star_plain hs]; rfl) hline (star_plain hs) (by rfl)) (by rfl)) fun Dn σ H ⟨m, c, s, o⟩ => ?_
  unfold cApp at o
  cases e1 : c.pl i with
  | none => rw [e1] at o; exact o.elim
  | some p =>
    rw [e1] at o
    obtain ⟨a, vs, h1, h2, h3, h4⟩ := s.pl e1
    refine ⟨.ref a, h1, .inl ⟨rfl, _, SqL.of h2⟩, m, c, s, o.bind.imp fun y H2 ⟨m2, d, c2, x2, s2, k2, o2⟩ => ?_⟩
    cases e2 : c2.pl i with
    | none => rw [e2] at o2; exact o2.elim
    | some p2 =>
      rw [e2] at o2
      have o2 : OutS g W m2 (match decide (p2.xs.length < sizeLine) with
        | true => .ok .next (c2.wr i p2 (p2.xs ++ [d]))
        | false => .stuck) Dn := o2
      obtain ⟨a2, vs2, g1, g2, g3, g4⟩ := s2.pl e2
      rw [h1] at g1
      cases g1
      cases z : decide (p2.xs.length < sizeLine) with
      | false => rw [z] at o2; exact o2.elim
      | true =>
        rw [z] at o2
        exact ⟨a, vs2, y, rfl, rfl, g2, by rw [← g3.length]; exact of_decide_eq_true z, o2.nx (g4 _ _ (g3.append (.cons k2 .nil)))⟩
def cSetTp (is : List Nat) (fe : M D) : M Fl := fun c => (fe c).bind fun d c1 => match d with
  | .tup ds => match decide (ds.length = is.length) with
    | true => .ok .next (putAll is ds c1)
    | false => .stuck
  | .lst ds => match decide (ds.length = is.length) with
    | true => .ok .next (putAll is ds c1)
    | false => .stuck
  | _ => .stuck
end
end CL
namespace CL
open PySem PySem.Spec PyProof.Rows L2
section
variable {X : Cx} {g : G} {k : Nat} {N : List Str} {sc ws : Scope} {W : WX} {pos p2 : Pos} {e : Expr} {fe : M D} {lo hi : Option Expr} {fl fh : M (Option Int)} {op : Operator}
theorem mq {f : Value → Value → Sem Value} {r : PySem.W.Frag → R2} {h : D → D → M D} (q : Good g k N X sc ws W) (ho : OpR X f (r X.K)) (hs : S2 g (r g.K) h) : MOp X g W f h := by
  rw [q.hK] at ho
  exact mop_of ho hs
theorem mq_add (q : Good g k N X sc ws W) : MOp X g W (binaryOp .Add) dAdd := mq (r := rAdd3) q op_add3 s2_add
theorem mq_eq (q : Good g k N X sc ws W) : MOp X g W (compareOp .Eq) dEq := mq (r := rEqD) q (op_eqD (by have := q.room.un; omega)) s2_eq
theorem mq_ne (q : Good g k N X sc ws W) : MOp X g W (compareOp .NotEq) dNe := mq (r := rNeD) q (op_neD (by have := q.room.un; omega)) s2_ne
theorem mq_in (q : Good g k N X sc ws W) : MOp X g W (compareOp .In) (dIn false) := mq (r := fun K => rInA K false) q (op_inA (by have := q.room.un; omega)) s2_in
theorem mq_notin (q : Good g k N X sc ws W) : MOp X g W (compareOp .NotIn) (dIn true) := mq (r := fun K => rInA K true) q (op_notInA (by have := q.room.un; omega)) s2_in
theorem mq_ix (q : Good g k N X sc ws W) (vl sl : Expr) (hs : notSlice sl = true) : MOp X g W (fun v u => subscriptTail vl sl v u) dIx := by
  have h := ix_seq (X := X)
  rw [q.hK] at h
  exact mop_ix h s2_ix vl sl hs
def dNeg (d : D) : M D := fun c => match d with
  | .int i => .ok (.int (-i)) c
  | _ => .stuck
theorem sq_cutT (q : Good g k N X sc ws W) (he : PE X e (tE g W fe)) (hl : PO X lo (tP g W fl)) (hu : PO X hi (tP g W fh)) : PE X (.Subscript e (.Slice lo hi none p2) pos) (tE g W (cCutT fe fl fh)) := se_cutT q.hK he hl hu
theorem sq_cutL (q : Good g k N X sc ws W) (he : PE X e (tE g W fe)) (hl : PO X lo (tP g W fl)) (hu : PO X hi (tP g W fh)) : PE X (.Subscript e (.Slice lo hi none p2) pos) (tL g W (cCutL fe fl fh)) := sl_cut q.hK he hl hu
end
end CL
namespace CL
open PySem PySem.Spec PyProof.Rows L2
def CS.see (c : CS) (i : Nat) : Option (List D) := match c.sl[i]? with
  | some (.own (.lst xs)) => some xs
  | some (.val d) => c.seqL d
  | _ => none
theorem Sim.see {g : G} {m : Mp} {c : CS} {σ : L2.St} {H : Hp} (s : Sim g m c σ H) {i : Nat} {xs : List D} (e : c.see i = some xs) : ∃ a vs, σ[i]? = some (some (.ref a)) ∧ H a = some (.lst vs) ∧ Svs g m xs vs := by
  unfold CS.see at e
  cases q : c.sl[i]? with
  | none => rw [q] at e; cases e
  | some t =>
    rw [q] at e
    cases t with
    | no => cases e
    | own o =>
      cases o with
      | ins _ _ => cases e
      | lst ys =>
        cases e
        obtain ⟨h1, ⟨vs, h2, h3⟩, _⟩ := s.sl i _ q
        exact ⟨_, vs, h1, h2, h3⟩
    | val d =>
      obtain ⟨v, h1, h2⟩ := s.sl i _ q
      obtain ⟨p, vs, rfl, hp, hv⟩ := s.seqL e h2
      exact ⟨p, vs, h1, hp, hv⟩
def cLenP (i : Nat) : M D := fun c => match c.see i with
  | some xs => .ok (.int xs.length) c
  | none => .stuck
def cIxP (i : Nat) (fe : M D) : M D := fun c => match c.see i with
  | some _ => (fe c).bind fun j c2 => match j, c2.see i with
    | .int j, some xs => match atI xs j with
      | some d => .ok d c2
      | none => .stuck
    | _, _ => .stuck
  | none => .stuck
def cEqP (ne : Bool) (i : Nat) (fe : M D) : M D := fun c => match c.see i with
  | some _ => (fe c).bind fun y c2 => match c2.see i with
    | some xs => match toPs xs, toP y with
      | some ps, some q => M.guard (SeqAt.shaped (.list ps) && SeqAt.shaped q) (M.ret (.bl (if ne then !PyData.eqv (.list ps) q else PyData.eqv (.list ps) q))) c2
      | _, _ => .stuck
    | none => .stuck
  | none => .stuck
section
variable {X : Cx} {g : G} {k : Nat} {N : List Str} {sc ws : Scope} {W : WX} {p px pos : Pos} {x : Str} {e : Expr} {fe : M D} {i : Nat}
theorem sx_lenP (q : Good g k N X sc ws W) (hg : isGl sc "len" = true) (hm : g.mg "len" = none) (hi : N[i]? = some x) (hv : isVis (sc.names.lookup x) = true) (hd : noDbg x = true) : PE X (.Call (.Name "len" p) [.Name x px] [] pos) (tE g W (cLenP i)) := by
  refine pe_imp (pe_callB call_len_seq (q.gl hg).1 (by rw [q.hmg]; exact hm) (by rfl) (pa_cons (pe_var (q.at_ hi) (q.vis hv) (noDbg_1 hd) (noDbg_2 hd)) pa_nil (by rfl)) (q.gl hg).2.2 (q.gl hg).2.1 (by rfl) (by rfl)) fun σ H Q ⟨m, c, s, o⟩ => ?_
  unfold cLenP at o
  cases e1 : c.see i with
  | none => rw [e1] at o; exact o.elim
  | some xs =>
    rw [e1] at o
    obtain ⟨a, vs, h1, h2, h3⟩ := s.see e1
    refine ⟨.ref a, h1, a, vs, rfl, .inl (SqL.of h2), ?_⟩
    rw [← h3.length]
    exact o.here s (.int _)
theorem eqP_read (q : Good g k N X sc ws W) {ne : Bool} (f : PyData → PyData → Bool) (hf : ∀ p q, f p q = if ne then !PyData.eqv p q else PyData.eqv p q) {a0 : TE} (ha : ∀ σ H Q, (∃ v, σ[i]? = some (some v) ∧ Q v H) → a0 σ H Q) {σ : L2.St} {H : Hp} {Q : VK} (z : tE g W (cEqP ne i fe) σ H Q) :
    tOp (fun x y H Q => ∃ d e, Dp X.K H x d ∧ Dp X.K H y e ∧ SeqAt.shaped d = true ∧ SeqAt.shaped e = true ∧ Q (.bl (f d e)) H) a0 (tE g W fe) σ H Q := by
  obtain ⟨m, c, s, o⟩ := z
  unfold cEqP at o
  cases e1 : c.see i with
  | none => rw [e1] at o; exact o.elim
  | some xs =>
    rw [e1] at o
    obtain ⟨a, vs, h1, h2, h3⟩ := s.see e1
    refine ha _ _ _ ⟨.ref a, h1, m, c, s, o.bind.imp fun y H2 ⟨m2, d, c2, x2, s2, k2, o2⟩ => ?_⟩
    cases e2 : c2.see i with
    | none => rw [e2] at o2; exact o2.elim
    | some ys =>
      rw [e2] at o2
      obtain ⟨a2, vs2, g1, g2, g3⟩ := s2.see e2
      rw [h1] at g1
      cases g1
      have o2 : Out (rE g) g W σ m2 (match toPs ys, toP d with
        | some ps, some q => M.guard (SeqAt.shaped (.list ps) && SeqAt.shaped q) (M.ret (.bl (if ne then !PyData.eqv (.list ps) q else PyData.eqv (.list ps) q))) c2
        | _, _ => .stuck) Q := o2
      cases e3 : toPs ys with
      | none => rw [e3] at o2; exact o2.elim
      | some ps =>
        cases e4 : toP d with
        | none => rw [e3, e4] at o2; exact o2.elim
        | some pq =>
          rw [e3, e4] at o2
          obtain ⟨hz, o2⟩ := Out.guard o2
          rw [Bool.and_eq_true] at hz
          rw [q.hK]
          exact ⟨.list ps, pq, .lst (SqL.of g2) (s2.dps g3 e3), s2.dp k2 e4, hz.1, hz.2, by rw [hf]; exact o2.here s2 (.bl _)⟩
theorem sx_nePT (q : Good g k N X sc ws W) (hi : N[i]? = some x) (hv : isVis (sc.names.lookup x) = true) (hd : noDbg x = true) (he : PE X e (tE g W fe)) (hs : notSet e = true) : PT X (.Compare (.Name x px) [.NotEq] [e] pos) (tT g W (asB (cEqP true i fe))) := by
  refine pt_imp (pt_cmpR (op_neD (by have := q.room.un; omega)) (pe_var (q.at_ hi) (q.vis hv) (noDbg_1 hd) (noDbg_2 hd)) he (marks_ok hs)) fun σ H Q ⟨m, c, s, o⟩ => eqP_read (W := W) q _ (fun _ _ => rfl) (fun _ _ _ h => h) ⟨m, c, s, o.bind.imp fun x H1 ⟨m1, d, c1, x1, s1, k1, o1⟩ => ?_⟩
  cases k1 with
  | bl b => exact ⟨b, rfl, o1.here s1 rfl⟩
  | _ => exact o1.elim
def blkB (N : List Str) (sc scope : Scope) (own : List (Str × Nat)) : Bool :=
  decide (scope.kind = .function) && scope.names.all (fun y => decide (scope.names.lookup y.1 = some y.2)) && own.all (fun p => decide (N[p.2]? = some p.1)) &&
    scope.names.all (fun y => !decide (y.2 = .free) || (decide (sc.names.lookup y.1 = some .cell) || decide (sc.names.lookup y.1 = some .free))) &&
    scope.names.all (fun y => !(decide (y.2 = .local) || decide (y.2 = .cell)) || (decide (y.1 ∈ own.map (·.1)) || decide (y.1 ∉ N)))
theorem blk_of (q : Good g k N X sc ws W) {scope : Scope} {own : List (Str × Nat)} (h : blkB N sc scope own = true) : BlkOk X.N X.env.scope scope own := by
  unfold blkB at h
  simp only [Bool.and_eq_true, List.all_eq_true, Bool.or_eq_true, decide_eq_true_eq, Bool.not_eq_true', decide_eq_false_iff_not] at h
  obtain ⟨⟨⟨⟨h1, h2⟩, h3⟩, h4⟩, h5⟩ := h
  rw [q.hN, q.hsc]
  refine ⟨h1, h2, h3, fun y hy e => ?_, fun y hy e => ?_⟩
  · rcases h4 y hy with z | z
    · exact absurd e z
    · exact z
  · rcases h5 y hy with z | z
    · rcases e with e | e
      · rw [e] at z; simp at z
      · rw [e] at z; simp at z
    · exact z
end
end CL
namespace CL
open PySem PySem.Spec PyProof.Rows L2
def swB (sc scope : Scope) (y : Str) (l l' : Nat) : Bool := decide (sc.kind = .function) && decide (sc.names.lookup y = some .local) && decide (l = l') && !(scope.names.any fun (n, k) => n == y && (k == .local || k == .cell))
theorem swaps_lc {g : G} {k : Nat} {N : List Str} {X : Cx} {sc ws : Scope} {W : WX} (q : Good g k N X sc ws W) {elt : Expr} {gens : List Comprehension} {scope : Scope} {y : Str} {pos p : Pos} {l : Nat} (h : swB sc scope y p.line pos.line = true) : swapsWith (.ListComp elt gens scope pos) (some (.Name y p)) l X.env = pure true := by
  unfold swB at h
  simp only [Bool.and_eq_true, decide_eq_true_eq] at h
  obtain ⟨⟨⟨h1, h2⟩, h3⟩, h4⟩ := h
  have e1 : (X.env.blockKind == .function) = true := by
    unfold Env.blockKind
    rw [q.hsc, h1]
    rfl
  have e2 : (X.env.kindOf y == some .local) = true := by
    show (X.env.scope.names.lookup y == some .local) = true
    rw [q.hsc, h2]
    rfl
  have e3 : (p.line == (Expr.ListComp elt gens scope pos).pos.line) = true := beq_iff_eq.mpr h3
  show (pure (X.env.blockKind == .function && X.env.kindOf y == some .local && p.line == (Expr.ListComp elt gens scope pos).pos.line && !(scope.names.any fun (n, k) => n == y && (k == .local || k == .cell))) : Sem Bool) = pure true
  rw [e1, e2, e3, h4]
  rfl
end CL
namespace CL
open PySem PySem.Spec PyProof.Rows L2
section
variable {X : Cx} {g : G} {k : Nat} {N : List Str} {sc ws : Scope} {W : WX} {p pos : Pos} {e : Expr} {es : List Expr} {fa : M (List D)}
theorem sq_len (q : Good g k N X sc ws W) (hg : isGl sc "len" = true) (hm : g.mg "len" = none) (ha : PA X (e :: es) (tA g W fa)) (hp : plainArgs (e :: es) = true) : PE X (.Call (.Name "len" p) (e :: es) [] pos) (tE g W (fa.bind bLen)) := by
  have h := call_len (X := X)
  rw [q.hK] at h
  exact sq_B q h sc_len hg hm (by rfl) ha hp
theorem sq_list (q : Good g k N X sc ws W) (hg : isGl sc "list" = true) (hm : g.mg "list" = none) (ha : PA X (e :: es) (tA g W fa)) (hp : plainArgs (e :: es) = true) : PE X (.Call (.Name "list" p) (e :: es) [] pos) (tL g W (fa.bind bList)) := by
  have h := call_list_of (X := X)
  rw [q.hK] at h
  exact sq_Ty q h sc_list hg hm (by rfl) ha hp
theorem sq_tuple (q : Good g k N X sc ws W) (hg : isGl sc "tuple" = true) (hm : g.mg "tuple" = none) (ha : PA X (e :: es) (tA g W fa)) (hp : plainArgs (e :: es) = true) : PE X (.Call (.Name "tuple" p) (e :: es) [] pos) (tE g W (fa.bind bTuple)) := by
  have h := call_tuple_of (X := X)
  rw [q.hK] at h
  exact sq_Ty q h sc_tuple hg hm (by rfl) ha hp
theorem sq_sorted (q : Good g k N X sc ws W) (hg : isGl sc "sorted" = true) (hm : g.mg "sorted" = none) (ha : PA X (e :: es) (tA g W fa)) (hp : plainArgs (e :: es) = true) : PE X (.Call (.Name "sorted" p) (e :: es) [] pos) (tL g W (fa.bind bSorted)) := by
  have h := cr_sortedI (X := X)
  rw [q.hK] at h
  exact sq_B q h sc_sorted hg hm (by rfl) ha hp
theorem sq_all (q : Good g k N X sc ws W) (hg : isGl sc "all" = true) (hm : g.mg "all" = none) (ha : PA X (e :: es) (tA g W fa)) (hp : plainArgs (e :: es) = true) : PE X (.Call (.Name "all" p) (e :: es) [] pos) (tE g W (fa.bind bAll)) := by
  have h := cr_all (X := X) q.calm
  rw [q.hK] at h
  exact sq_B q h sc_all hg hm (by rfl) ha hp
theorem sq_str (q : Good g k N X sc ws W) (hg : isGl sc "str" = true) (hm : g.mg "str" = none) (ha : PA X (e :: es) (tA g W fa)) (hp : plainArgs (e :: es) = true) : PE X (.Call (.Name "str" p) (e :: es) [] pos) (tE g W (fa.bind bStr)) := sq_Ty q call_str_int sc_str hg hm (by rfl) ha hp
end
end CL
namespace CL
open PySem PySem.Spec PyProof.Rows L2
def spLawT (K : PySem.W.Frag) (T : List (Addr × Str)) : Sp := fun vs H Q _ => ∃ (a : Addr) (ns : List Int), vs = [V.ref a] ∧ SqL K H a (ns.map V.int) ∧ ns.length ≤ 63 ∧ (∀ p ∈ T, H p.1 = some (.tbl #[])) ∧ ∀ H', Q (.bl true) H'
def unT (H : Hp) : Hp := fun b => match H b with
  | some (.tbl _) => none
  | o => o
theorem unT_le {H : Hp} {a : Addr} {o : HO} (h : unT H a = some o) : H a = some o := by
  unfold unT at h
  cases e : H a with
  | none => rw [e] at h; cases h
  | some u =>
    rw [e] at h
    cases u <;> first | exact h | cases h
theorem unT_noT {H : Hp} : NoT (unT H) := fun a ps h => by
  unfold unT at h
  cases e : H a with
  | none => rw [e] at h; cases h
  | some u =>
    rw [e] at h
    cases u <;> cases h
theorem unT_of {H : Hp} {a : Addr} {o : HO} (h : H a = some o) (n : ∀ ps, o ≠ .tbl ps) : unT H a = some o := by
  unfold unT
  rw [h]
  cases o <;> first | rfl | exact absurd rfl (n _)
theorem sqL_unT {K : PySem.W.Frag} {H : Hp} {a : Addr} {xs : List V} (h : SqL K H a xs) : SqL K (unT H) a xs := by
  rcases h with h | h
  · refine Or.inl ?_
    rcases h with h | ⟨o, h⟩
    · exact Or.inl (unT_of h fun ps z => nomatch z)
    · exact Or.inr ⟨o, unT_of h fun ps z => nomatch z⟩
  · exact Or.inr h
theorem law_end {g : G} {fn : Fn} (hm : ∀ ns : List Int, ns.length ≤ 63 → ∃ S, fn [.scr ns] [] = .ok (.bl true) S) (vs : List V) (H : Hp) (Q : VK) (E : XK) (h : spLawT g.K g.T vs H Q E) : spOf g fn vs H Q E := by
  obtain ⟨a, ns, rfl, hS, hl, hT, q⟩ := h
  obtain ⟨S, e⟩ := hm ns hl
  refine ⟨⟨[], unT H, fun _ => none, fun _ => 0, 0⟩, [], [.scr ns], ⟨fun _ _ h => unT_le h, List.nodup_nil, ⟨unT_noT, fun p hp => ⟨#[], hT p hp, True.intro, fun pos cv hc => ?_⟩⟩, rfl, iniOk_nil, rfl, fun n a o h1 h2 => ?_, fun a o h => ?_, fun i s h => ?_⟩, .cons (.scr (sqL_unT hS)) .nil, ?_⟩
  · have z : codeAmong pos [] = some cv := hc
    simp [codeAmong] at z
  · have h1 : ([] : List Addr)[n]? = some a := h1
    simp at h1
  · cases h
  · have h : ([] : List Sl)[i]? = some s := h
    simp at h
  · rw [e]
    intro m' v H' _ _ k
    cases k
    exact q H'
def clsOne (C : Addr) (ns : List Str) : Nat → Option (Addr × List Str)
  | 0 => some (C, ns)
  | _ => none
theorem kit_ct {K : PySem.W.Frag} {C : Addr} {T : String} (hm : PySem.W.kitMeta T = true) (h : PySem.W.subIn K (.ref C) (.type T) = some false) : PySem.W.kitOne K (.ref C) (.type T) = some false := by
  unfold PySem.W.kitOne
  rw [if_neg (by simp)]
  unfold PySem.W.kitCls
  dsimp only
  rw [if_pos hm]
  exact h
theorem kit_tc {K : PySem.W.Frag} {C : Addr} {T : String} (h1 : PySem.W.isClsIn K C = true) (h2 : PySem.W.typeIn K (.ref C) = some (.type "type")) (h : PySem.W.subIn K (.type T) (.ref C) = some false) : PySem.W.kitOne K (.type T) (.ref C) = some false := by
  unfold PySem.W.kitOne
  rw [if_neg (by simp)]
  unfold PySem.W.kitCls
  dsimp only
  have e : (PySem.W.clsIn K C).isSome = true := h1
  rw [e, h2]
  rw [if_pos (by decide)]
  exact h
theorem kit_same {K : PySem.W.Frag} {C : Addr} : PySem.W.kitOne K (.ref C) (.ref C) = some true := by
  unfold PySem.W.kitOne
  rw [if_pos (by simp)]
structure OneK (K : PySem.W.Frag) (C : Addr) : Prop where
  ha : PySem.W.findIn K (.ref C) "__class__" = some (some (.builtin "object.__class__"))
  hn : PySem.W.specialIn K (.builtin "object.__class__") "__get__" = some (some (.builtin "getset_descriptor.__get__"))
  ht : PySem.W.takesIn K (.builtin "object.__class__") = some true
  hm : PySem.W.mroIn K C (.type "object") = some true
  i1 : PySem.W.subIn K (.ref C) (.type "bool") = some false
  i2 : PySem.W.subIn K (.ref C) (.type "int") = some false
  i3 : PySem.W.subIn K (.ref C) (.type "str") = some false
  i4 : PySem.W.subIn K (.ref C) (.type "tuple") = some false
  i5 : PySem.W.subIn K (.ref C) (.type "list") = some false
  kc : PySem.W.isClsIn K C = true
  kt : PySem.W.typeIn K (.ref C) = some (.type "type")
  j0 : PySem.W.subIn K (.type "NoneType") (.ref C) = some false
  j1 : PySem.W.subIn K (.type "bool") (.ref C) = some false
  j2 : PySem.W.subIn K (.type "int") (.ref C) = some false
  j3 : PySem.W.subIn K (.type "str") (.ref C) = some false
  j4 : PySem.W.subIn K (.type "tuple") (.ref C) = some false
  j5 : PySem.W.subIn K (.type "list") (.ref C) = some false
theorem tab_one {g : G} {C : Addr} {ns : List Str} (hg : g.cls = clsOne C ns) (kc : Cls g.K C) (na : ∀ f ∈ ns, NoAttr g.K C f) (o : OneK g.K C) : TabK g := by
  refine ⟨fun ci C' ns' h => ?_, fun i j C1 C2 n1 n2 h1 h2 => ?_⟩
  · rw [hg] at h
    cases ci with
    | succ _ => cases h
    | zero =>
      cases h
      refine ⟨kc, na, o.ha, o.hn, o.ht, o.hm, fun t h => ?_, fun t => ?_⟩
      · cases t with
        | non => exact absurd rfl h
        | bl => exact kit_ct (by decide +kernel) o.i1
        | int => exact kit_ct (by decide +kernel) o.i2
        | str => exact kit_ct (by decide +kernel) o.i3
        | tup => exact kit_ct (by decide +kernel) o.i4
        | lst => exact kit_ct (by decide +kernel) o.i5
      · cases t with
        | non => exact kit_tc o.kc o.kt o.j0
        | bl => exact kit_tc o.kc o.kt o.j1
        | int => exact kit_tc o.kc o.kt o.j2
        | str => exact kit_tc o.kc o.kt o.j3
        | tup => exact kit_tc o.kc o.kt o.j4
        | lst => exact kit_tc o.kc o.kt o.j5
  · rw [hg] at h1 h2
    cases i with
    | succ _ => cases h1
    | zero =>
      cases j with
      | succ _ => cases h2
      | zero =>
        cases h1
        cases h2
        exact kit_same
theorem cx_none {P : Program} {w : World} (H : Hp) (s : Shared) (e : Value) (s' : Shared) (h : L2.CX P w [] H s (fun _ _ _ => False) e s') : False := by
  obtain ⟨_, _, _, _, _, _, _, _, _, _, _, _, z⟩ := h
  exact z
end CL
namespace CL
open PySem PySem.Spec PyProof.Rows L2
def zipD (xs ys : List D) : List D := (xs.zip ys).map fun p => .tup [p.1, p.2]
theorem zipD_at {xs ys : List D} {i : Nat} {d : D} (h : (zipD xs ys)[i]? = some d) : ∃ x y, xs[i]? = some x ∧ ys[i]? = some y ∧ d = .tup [x, y] := by
  unfold zipD at h
  rw [List.getElem?_map, Option.map_eq_some_iff] at h
  obtain ⟨⟨x, y⟩, h1, h2⟩ := h
  rw [List.getElem?_zip_eq_some] at h1
  exact ⟨x, y, h1.1, h1.2, h2.symm⟩
theorem zipD_length (xs ys : List D) : (zipD xs ys).length = min xs.length ys.length := by
  unfold zipD
  simp
theorem yld_pair2 {g : G} {m1 : Mp} {c : CS} {σ : L2.St} {H : Hp} {d e : D} {v w : V} {T : Addr} (s : Sim g m1 c σ H) (k : Sv g m1 d v) (l : Sv g m1 e w) (hT : H T = none) : ∃ m2, Ext m1 m2 ∧ Sim g m2 c σ (upd H T (.tup [v, w])) ∧ Sv g m2 (.tup [d, e]) (.ref T) := by
  obtain ⟨s2, x2⟩ := s.frozen (u := .tup [v, w]) hT
  exact ⟨_, x2, s2, .tup (SqT.of upd_same) (.cons (k.mono x2) (.cons (l.mono x2) .nil))⟩
theorem yld_zipT {g : G} {m : Mp} {a b : Addr} {ds es : List D} {vs ws : List V} (h : SqT g.K m.F a vs) (k : Svs g m ds vs) (h' : SqT g.K m.F b ws) (k' : Svs g m es ws) : Yld g m (RZ.ItzT g.K a b) (zipD ds es) := fun m1 c σ H xr xf s i => by
  have hq : SqT g.K H a vs := s.sqT (sqT_mono xf h)
  have hq' : SqT g.K H b ws := s.sqT (sqT_mono xf h')
  have kl := k.length
  have kl' := k'.length
  refine ⟨fun hi => ⟨vs, ws, hq, hq', by rw [zipD_length] at hi; omega⟩, fun d hd => ?_⟩
  obtain ⟨x, y, hx, hy, rfl⟩ := zipD_at hd
  obtain ⟨v, h1, h2⟩ := k.get hx
  obtain ⟨w, g1, g2⟩ := k'.get hy
  refine ⟨⟨vs, ws, v, w, hq, hq', h1, g1⟩, fun z H' ⟨T, v', w', e1, e2, e3, e4, e5⟩ => ?_⟩
  have f4 := e4 vs hq
  have f5 := e5 ws hq'
  rw [h1] at f4
  rw [g1] at f5
  cases f4
  cases f5
  subst e1 e3
  exact yld_pair2 s (Sv.like xr xf h2) (Sv.like xr xf g2) e2
def dZip (x y : D) : M (List D) := fun c => match x, y with
  | .lst xs, .lst ys => .ok (zipD xs ys) c
  | .tup xs, .tup ys => .ok (zipD xs ys) c
  | _, _ => .stuck
def cZip (f h : M D) : M (List D) := f.bind fun x => h.bind fun y => dZip x y
section
variable {g : G} {k : Nat} {N : List Str} {X : Cx} {sc ws : Scope} {W : WX} {p pos tpos : Pos} {e e2 : Expr} {fe fe2 : M D} {es : List Expr} {kk : Nat}
end
end CL
namespace CL
open PySem PySem.Spec PyProof.Rows L2
def dJoin (a : Str) (d : D) : M D := fun c => match (c.seqL d).bind asStrs with
  | some ys => M.guard (decide ((ys.map (·.length)).sum + ys.length * a.length ≤ 16777216)) (M.ret (.str (Txt.join a ys))) c
  | none => .stuck
def cJoin (fo fe : M D) : M D := fo.bind fun o => match o with
  | .str a => fe.bind (dJoin a)
  | _ => fun _ => .stuck
def dSplit (a : Str) (d : D) : M (List D) := match d with
  | .str b => M.guard (!(b.length == 0) && decide (a.length + 2 ≤ sizeLine)) (M.ret ((Txt.split a b).map .str))
  | _ => fun _ => .stuck
def cSplit (fo fe : M D) : M (List D) := fo.bind fun o => match o with
  | .str a => fe.bind (dSplit a)
  | _ => fun _ => .stuck
theorem svs_strs {g : G} {m : Mp} : ∀ ys : List Str, Svs g m (ys.map D.str) (ys.map V.str)
  | [] => .nil
  | n :: ys => .cons (.str n) (svs_strs ys)
section
variable {X : Cx} {g : G} {k j : Nat} {N : List Str} {sc ws : Scope} {W : WX} {p pos apos : Pos} {o e : Expr} {fo fe : M D}
theorem sx_join (q : Good g k N X sc ws W) (ho : PE X o (tE g W fo)) (he : PE X e (tE g W fe)) (hb : okBase o = true) (hs : isStar e = false) (hl : (apos.endLine == pos.line) = true) : PE X (.Call (.Attribute o "join" apos) [e] [] pos) (tE g W (cJoin fo fe)) := by
  refine pe_imp (pe_m1 F.slot_str_join F.type_str_join mt_join ho he (star_plain hs) (base_ok hb) hl) fun σ H Q ⟨m, c, s, o1⟩ => ⟨m, c, s, o1.bind.imp fun x H1 ⟨m1, d, c1, x1, s1, k1, o2⟩ => ?_⟩
  cases k1 with
  | str a =>
    refine ⟨⟨a, rfl⟩, m1, c1, s1, o2.bind.imp fun y H2 ⟨m2, d2, c2, x2, s2, k2, o3⟩ => ?_⟩
    unfold dJoin at o3
    cases e1 : c2.seqL d2 with
    | none => rw [e1] at o3; exact o3.elim
    | some xs =>
      rw [e1] at o3
      have o3 : Out (rE g) g W σ m2 (match asStrs xs with
        | some ys => M.guard (decide ((ys.map (·.length)).sum + ys.length * a.length ≤ 16777216)) (M.ret (.str (Txt.join a ys))) c2
        | none => .stuck) Q := o3
      cases e2 : asStrs xs with
      | none => rw [e2] at o3; exact o3.elim
      | some ys =>
        rw [e2] at o3
        obtain ⟨hz, o3⟩ := Out.guard o3
        obtain ⟨pp, vs, rfl, hp, hv⟩ := s2.seqL e1 k2
        have ev := asStrs_ok hv e2
        subst ev
        exact ⟨a, pp, ys, rfl, rfl, .inl (SqL.of hp), of_decide_eq_true hz, o3.here s2 (.str _)⟩
  | _ => exact o2.elim
theorem sl_split (q : Good g k N X sc ws W) (ho : PE X o (tE g W fo)) (he : PE X e (tE g W fe)) (hb : okBase o = true) (hs : isStar e = false) (hl : (apos.endLine == pos.line) = true) : PE X (.Call (.Attribute o "split" apos) [e] [] pos) (tL g W (cSplit fo fe)) := by
  refine pe_imp (pe_m1 F.slot_str_split F.type_str_split mt_split ho he (star_plain hs) (base_ok hb) hl) fun σ H Q ⟨m, c, s, o1⟩ => ⟨m, c, s, o1.bind.imp fun x H1 ⟨m1, d, c1, x1, s1, k1, o2⟩ => ?_⟩
  cases k1 with
  | str a =>
    refine ⟨⟨a, rfl⟩, m1, c1, s1, o2.bind.imp fun y H2 ⟨m2, d2, c2, x2, s2, k2, o3⟩ => ?_⟩
    cases k2 with
    | str b =>
      obtain ⟨hz, o3⟩ := Out.guard o3
      rw [Bool.and_eq_true] at hz
      exact ⟨a, b, rfl, rfl, by simpa using hz.1, of_decide_eq_true hz.2, fun l hl => out_freshL s2 (svs_strs _) o3 hl⟩
    | _ => exact o3.elim
  | _ => exact o2.elim
end
def strOnly (r : R D) : R D := match r with
  | .ok (.str x) c => .ok (.str x) c
  | .exc n vs c => .exc n vs c
  | _ => .stuck
section
variable {X : Cx} {g : G} {k j : Nat} {N : List Str} {sc ws : Scope} {W : WX} {p pos : Pos} {e : Expr} {fe : M D} {f C : Addr} {fn : Fn} {ci : Nat} {ns : List Str}
def dStrO (ci : Nat) (fn : Fn) (d : D) : M D := fun c => match c.has ci "__str__" d with
  | true => strOnly (liftF (fn [d] c.S) c)
  | false => match d with
    | .int i => M.guard (decide (i.natAbs.log2 < 1920)) (M.ret (.str (toString i))) c
    | .str x => .ok (.str x) c
    | _ => .stuck
def dReprO (ci : Nat) (fn : Fn) (d : D) : M D := fun c => match c.has ci "__repr__" d with
  | true => strOnly (liftF (fn [d] c.S) c)
  | false => .stuck
def intOnly (r : R D) : R D := match r with
  | .ok (.int i) c => M.guard (decide (0 ≤ i ∧ i < 2 ^ 63)) (M.ret (.int i)) c
  | .exc n vs c => .exc n vs c
  | _ => .stuck
def dLenO (ci : Nat) (fn : Fn) (d : D) : M D := fun c => match c.has ci "__len__" d with
  | true => intOnly (liftF (fn [d] c.S) c)
  | false => bLen [d] c
def dFmtO (ci : Nat) (fn : Fn) (d : D) : M D := fun c => match c.has ci "__str__" d with
  | true => strOnly (liftF (fn [d] c.S) c)
  | false => match d with
    | .int i => M.guard (decide (i.natAbs.log2 < 1920)) (M.ret (.str (toString i))) c
    | .str x => M.guard (szOk x.length) (M.ret (.str x)) c
    | _ => .stuck
structure FmtK (K : PySem.W.Frag) (C : Addr) : Prop where
  fm : PySem.W.findIn K (.ref C) "__format__" = some (some (.builtin "object.__format__"))
  ob : PySem.W.mroIn K C (.type "object") = some true
end
def cParts : List (M D) → Str → M Str
  | [], acc => M.ret acc
  | f :: fs, acc => f.bind fun d => match d with
    | .str y => M.guard (szOk (acc ++ y).length) (cParts fs (acc ++ y))
    | _ => fun _ => .stuck
def cJoined (fs : List (M D)) : M D := (cParts fs Str.empty).bind fun x => M.ret (.str x)
def spCm (g : G) (C : Addr) (fn : Fn) : Sp := fun vs H Q E => ∃ us, vs = V.ref C :: us ∧ spOf g fn us H Q E
abbrev FnCm (g : G) (k : Nat) (f C : Addr) (fn : Fn) : Prop := FnR g.prog g.w g.K g.mg g.base (L2.CX g.prog g.w) k f (spCm g C fn)
def startK (n : Nat) (ds : List D) (S : List O) : CS := ⟨.no :: (ds.map .val ++ List.replicate (n - 1 - ds.length) .no), S⟩
def cmB (n np : Nat) (fb : M Fl) : Fn := fun ds S => match decide (ds.length + 1 = np) with
  | true => outF (fb (startK n ds S))
  | false => .stuck
theorem Sim.startK {g : G} {m : Mp} {S : List O} {H : Hp} {N : List Str} {ds : List D} {vs : List V} {x : V} (h : Sim g m ⟨[], S⟩ [] H) (hv : Svs g m ds vs) : Sim g m (CL.startK N.length ds S) (L2.start N (x :: vs)) H := by
  refine ⟨h.fr, h.nd, h.tb, h.len, fun k fs e => ?_, ?_, h.st, h.bk, fun i s hs => ?_⟩
  · have e : (some Sl.no) = some (Sl.own (.ins k fs)) := e
    cases e
  · show (Sl.no :: (ds.map Sl.val ++ List.replicate (N.length - 1 - ds.length) Sl.no)).length = ((x :: vs).map some ++ List.replicate (N.length - (x :: vs).length) none).length
    rw [List.length_cons, List.length_append, List.length_append, List.length_map, List.length_map, List.length_replicate, List.length_replicate, List.length_cons, hv.length]
    omega
  · have hs : (Sl.no :: (ds.map Sl.val ++ List.replicate (N.length - 1 - ds.length) Sl.no))[i]? = some s := hs
    cases i with
    | zero => cases hs; trivial
    | succ i =>
      rw [List.getElem?_cons_succ] at hs
      by_cases q : i < ds.length
      · rw [List.getElem?_append_left (by rw [List.length_map]; exact q), List.getElem?_map, List.getElem?_eq_getElem q] at hs
        cases hs
        obtain ⟨v, e1, e2⟩ := hv.get (List.getElem?_eq_getElem q)
        refine ⟨v, ?_, e2⟩
        show ((some x :: vs.map some) ++ List.replicate (N.length - (x :: vs).length) none)[i + 1]? = some (some v)
        rw [List.cons_append, List.getElem?_cons_succ, List.getElem?_append_left (by rw [List.length_map, ← hv.length]; exact q), List.getElem?_map, e1]
        rfl
      · rw [List.getElem?_append_right (by rw [List.length_map]; omega)] at hs
        cases (List.mem_replicate.mp (List.mem_of_getElem? hs)).2
        trivial
section
variable {X : Cx} {g : G} {k j : Nat} {N : List Str} {sc ws : Scope} {W : WX} {p pos apos : Pos} {e : Expr} {es : List Expr} {fa : M (List D)} {f C pa : Addr} {fn : Fn} {mc : Value} {mn xc : Str}
theorem sx_cmeth (q : Good g k N X sc ws W) (hg : isGl sc xc = true) (hm : g.mg xc = some (.ref C)) (cr : ClX.CRead g.K C mc) (cm : ClX.CMet g.K C mc mn pa f) (F : FnCm g j f C fn) (hj : j ≤ k) (ha : PA X (e :: es) (tA g W fa)) (hp : plainArgs (e :: es) = true) (h3 : (apos.endLine == pos.line) = true) (h4 : decide ((e :: es).length < 30) = true) :
    PE X (.Call (.Attribute (.Name xc p) mn apos) (e :: es) [] pos) (tE g W (cCall fn fa)) := by
  obtain ⟨p1, p2⟩ := plain_tail hp
  obtain ⟨hg, hd, _⟩ := q.gl hg
  rw [← q.hmg] at hm
  rw [← q.hK] at cr cm
  have F : FnR X.prog X.w X.K X.mg X.base (L2.CX X.prog X.w) j f (spCm g C fn) := by
    rw [q.hP, q.hw, q.hK, q.hmg, q.hbs]
    exact F
  refine ⟨fun pins s σ H Q I ⟨m, c, sm, o⟩ => ?_⟩
  refine PySem.W.methodCall_KW (ld_glob I hg hm ?_ hd) (meth_form (by rfl) hp h3 h4)
  refine ClX.getmethcm_ok I cr cm fun s' I' => ?_
  refine ClX.callwith_cm I' (ClX.base_none I (Nat.le_refl _)) cm.fi (thn (ha.run pos _ s' σ H _ I' ⟨m, c, sm, o.bind⟩) fun us s1 ⟨vs, H1, I1, r, m1, ds, c1, x1, s2, k1, o1⟩ => ⟨⟨ClX.pin_at I1, I1.kIn⟩, ?_⟩) (star_plain p1) (plain_any p2)
  have hsp : spCm g C fn (V.ref C :: vs) H1 Q (WE W σ) := ⟨vs, rfl, call_sp (W := W) s2 k1 o1⟩
  have z := codeAny_mono (F X.A X.stack s1 H1 (.ref C :: us) (V.ref C :: vs) Q _ (q.room.mono hj) I1.env0 (.cons rfl r) hsp) (R' := fun r s' => match r with | .ok (.ret v) => EP X ((s.heap.objs.size, PySem.W.methodObj (.ref f) (.ref C)) :: pins) σ Q v s' | .ok _ => False | .error e => X.xe e s') fun r s' hq => by
    match r, hq with
    | .error e, hq => exact passAt q.tk σ _ H1 s1 e s' I1 hq
    | .ok (.ret u), hq => exact I1.after hq
  exact thn (wpAny_call (PySem.W.method_call (ClX.pin_at I1) z)) fun _ _ y => ClX.unpinE y
end
end CL
namespace CL
open PySem PySem.Spec PyProof.Rows L2
def dumE (sc : Scope) : Env := envOfC Str.empty sc 0 0 .none
theorem sw_env {ts : List Expr} {v : Expr} {e1 e2 : Env} (h : e1.scope = e2.scope) : swappedStores ts v e1 = swappedStores ts v e2 := by
  unfold swappedStores Env.blockKind Env.kindOf
  rw [h]
theorem sw_of {g : G} {k : Nat} {N : List Str} {X : Cx} {sc ws : Scope} {W : WX} (q : Good g k N X sc ws W) {ts : List Expr} {v : Expr} {r : Option (List Str)} (h : swappedStores ts v (dumE sc) = pure r) : swappedStores ts v X.env = pure r := by
  rw [← h]
  exact sw_env q.hsc
def cPar (i j : Nat) (fr : M (List D)) : M Fl := fun c => (fr c).bind fun ds c1 => match ds with
  | [x, y] => .ok .next ((c1.put i (.val x)).put j (.val y))
  | _ => .stuck
theorem ss_par {g : G} {k : Nat} {N : List Str} {X : Cx} {sc ws : Scope} {W : WX} {i j : Nat} {x y : Str} {a b : Expr} {fr : M (List D)} {px py pt pos : Pos} {kt k2 : Nat} {pt2 : Pos} (q : Good g k N X sc ws W) (hi : N[i]? = some x) (hj : N[j]? = some y) (hij : i ≠ j) (hx : sc.names.lookup x = some .local) (hy : sc.names.lookup y = some .local) (ha : PA X [a, b] (tA g W fr))
    (hw : swappedStores [.Tuple [.Name x px, .Name y py] kt pt] (.Tuple [a, b] k2 pt2) X.env = pure (some [x, y])) : PS X (.Assign [.Tuple [.Name x px, .Name y py] kt pt] (.Tuple [a, b] k2 pt2) pos) (tS g W (cPar i j fr)) := by
  refine ps_imp (ps_par q.calm q.ndX (q.at_ hi) (q.at_ hj) hij (by rw [q.hsc]; exact hx) (by rw [q.hsc]; exact hy) ha hw (by rfl)) fun Dn σ H ⟨m, c, s, o⟩ => ⟨m, c, s, o.bind.imp fun vs H1 ⟨m1, ds, c1, x1, s1, k1, o1⟩ => ?_⟩
  have k1 : Svs g m1 ds vs := k1
  cases k1 with
  | nil => exact o1.elim
  | cons ka kr =>
    cases kr with
    | nil => exact o1.elim
    | cons kb kr =>
      cases kr with
      | nil => exact ⟨_, _, rfl, o1.nx ((s1.val ka).val kb)⟩
      | cons _ _ => exact o1.elim
end CL
namespace CL
open PySem PySem.Spec PyProof.Rows L2
structure XcK (g : G) (E : Nat → List Str) : Prop where
  k : ∀ (cn : Nat) (C : Addr) (ns : List Str), g.exc cn = some (C, ns) → L2.XfC g.K C ∧ ns = E cn ∧ ∀ f ∈ ns, PySem.W.findIn g.K (.ref C) f = some none
theorem zip_look {g : G} {m : Mp} {f : Str} : ∀ {ns : List Str} {ds : List D} {ws : List V} {d : D}, Svs g m ds ws → (ns.zip ds).lookup f = some d → f ∈ ns ∧ ∃ v, (ns.zip ws).lookup f = some v ∧ Sv g m d v
  | [], _, _, _, _, h => by simp at h
  | _ :: _, [], _, _, _, h => by simp at h
  | n :: ns, d0 :: ds, _, d, .cons (v := v0) (vs := vs0) a b, h => by
    rw [List.zip_cons_cons, List.lookup_cons] at h ⊢
    cases e : f == n with
    | true =>
      rw [e] at h
      have h : some d0 = some d := h
      cases h
      have e2 : f = n := by simpa using e
      exact ⟨by rw [e2]; exact List.mem_cons_self, v0, rfl, a⟩
    | false =>
      rw [e] at h
      obtain ⟨h1, v, h2, h3⟩ := zip_look b h
      exact ⟨List.mem_cons_of_mem _ h1, v, h2, h3⟩
def dXf (E : Nat → List Str) (f : Str) (o : D) : M D := fun c => match o with
  | .exn cn vs => match ((E cn).zip vs).lookup f with
    | some d => .ok d c
    | none => .stuck
  | _ => .stuck
theorem exq_at {P : Program} {w : World} {H : Hp} {h : Heap} {a C d : Addr} (hok : HOk P w H h) (e : H a = some (exq a C d)) : ∃ (o : Obj) (vs : Array Value), h.get? a = some o ∧ o.cls = .ref C ∧ o.dict = some d ∧ o.data = .fields vs := by
  have z : ObjOk P w H h a (.ext fun h => ∃ (o : Obj) (vs : Array Value), h.get? a = some o ∧ o.cls = .ref C ∧ o.dict = some d ∧ o.data = .fields vs) := hok a _ e
  exact z.1
theorem exq_ok {P : Program} {w : World} {H : Hp} {h : Heap} {a C d : Addr} {vs : Array Value} {o : Obj} (e : h.get? a = some o) (e1 : o.cls = .ref C) (e2 : o.dict = some d) (e3 : o.data = .fields vs) : ObjOk P w H h a (exq a C d) :=
  ⟨⟨o, vs, e, e1, e2, e3⟩, ⟨_, e⟩, fun h1 h2 ⟨u, us, z, y1, y2, y3⟩ k => ⟨u, us, k _ z, y1, y2, y3⟩⟩
section
variable {X : Cx} {g : G} {W : WX} {pos : Pos} {o : Expr} {fo : M D} {f : Str} {E : Nat → List Str}
theorem sx_xf (hK : X.K = g.K) (T : XcK g E) (ho : PE X o (tE g W fo)) (h1 : okBase o = true) : PE X (.Attribute o f pos) (tE g W (fo.bind (dXf E f))) := by
  refine ⟨fun pins s σ H Q I ⟨m, c, sm, h⟩ => ?_⟩
  refine attr_of (base_ok h1) (thn (ho.run pins s σ H _ I ⟨m, c, sm, h.bind⟩) fun u s1 ⟨x, H1, I1, rx, m1, d, c1, x1, s2, k1, o1⟩ => ?_)
  cases k1 with
  | @exn cn ds a C dd ns ws g1 g2 g3 g4 g5 =>
    have o1 : Out (rE g) g W σ m1 (match ((E cn).zip ds).lookup f with
      | some d => .ok d c1
      | none => .stuck) Q := o1
    obtain ⟨t1, rfl, t3⟩ := T.k cn C ns g1
    cases e : ((E cn).zip ds).lookup f with
    | none => rw [e] at o1; exact o1.elim
    | some d =>
      rw [e] at o1
      obtain ⟨fm, v, lk, kv⟩ := zip_look g4 e
      obtain rfl : u = Value.ref a := rx
      obtain ⟨oe, vs, ha, y1, y2, y3⟩ := exq_at I1.hok (s2.fr _ _ g2)
      have hx : ObjOk X.prog X.w H1 s1.heap dd (.xd ((E cn).zip ws)) := I1.hok dd _ (s2.fr _ _ g3)
      obtain ⟨mA, hns, hr⟩ := hx
      obtain ⟨od, hod, hl⟩ := lookIn_ns hns
      obtain ⟨u, hu, ru⟩ := RelO.some_of (v := v) (o := mA f) (by rw [← lk]; exact hr f)
      have J : PySem.W.InstAt s1.heap a oe C (some od) := ⟨ha, y1, by unfold PySem.W.notCls; rw [y3] <;> rfl, by rw [y2]; exact hod⟩
      have KI := I1.kIn
      rw [hK] at KI
      exact HandSPX.exc_get KI J t1.ga t1.gg t1.exC (PySem.W.findObj_own t1.hdC (t3 f fm) rfl (by rw [hl, hu])) (handed_of ru) ⟨v, H1, I1.tok _, ru, o1.here s2 kv⟩
  | _ => exact o1.elim
end
theorem vis_p {N ps : List Str} {sc : Scope} (S : FnScope N ps sc) {x : Str} (h : x ∈ ps) : Vis sc x := (S.par x h).elim .inl fun k => .inr (.inl k)
abbrev cdS : Str := "code"
def spX1 (K : PySem.W.Frag) (f t : Str) : Sp := fun vs H Q _ => ∃ (a C : Addr) (v : V), vs = [.ref a, v] ∧ OexC K C ∧ H a = some (exo a C none) ∧ PySem.W.findIn K (.ref C) f = some none ∧ PySem.W.findIn K (.ref C) cdS = some none ∧
  ∀ dx, H dx = none → dx ≠ a → Q .non (upd (upd (upd H dx (exd dx [(f, v)])) a (exo a C (some dx))) dx (exd dx [(cdS, .str t), (f, v)]))
def spX0 (K : PySem.W.Frag) (t : Str) : Sp := fun vs H Q _ => ∃ (a C : Addr), vs = [.ref a] ∧ OexC K C ∧ H a = some (exo a C none) ∧ PySem.W.findIn K (.ref C) cdS = some none ∧
  ∀ dx, H dx = none → dx ≠ a → Q .non (upd (upd H dx (exd dx [(cdS, .str t)])) a (exo a C (some dx)))
section
variable {g : G} {x qual : Str} {st : Stmt} {fa : Addr} {fd : FuncData} {f t sf p : Str} {p1 p2 p3 p4 p5 p6 p7 p8 : Pos} {j : Nat}
theorem fn_x0 (F : L2.Fun g.K x qual st fa fd) (S : FnScope [sf] [sf] (defScope st)) (hb : defBody st = [.Assign [.Attribute (.Name sf p5) cdS p6] (.Constant (.str t) j p7) p8])
    (n1 : noDbg sf = true) : FnOk g.prog g.w g.K g.mg g.base (L2.CX g.prog g.w) 1 fa fd [sf] (spX0 g.K t) := by
  refine F.okX (k := 0) S (fun vs H Q E ⟨_, _, e, _⟩ => by rw [e]; rfl) fun cdv A outer s H vs Q E hr ⟨a, C, e, T, ea, nc, q⟩ => ?_
  subst e
  rw [hb]
  have va := vis_p S (x := sf) List.mem_cons_self
  refine ⟨_, pss_one (ps_ost (pe_var (i := 0) rfl va (noDbg_1 n1) (noDbg_2 n1)) pe_str (by rfl)), ?_⟩
  exact ⟨.ref a, rfl, a, C, rfl, T, nc, .inl ⟨ea, fun dx h1 h2 => q dx h1 h2⟩⟩
end
structure Xc1 (g : G) (x : Str) (C fI : Addr) (f t : Str) : Prop where
  T : OexC g.K C
  iC : PySem.W.findIn g.K (.ref C) "__init__" = some (some (.ref fI))
  tI : PySem.W.typeIn g.K (.ref fI) = some (.type "function")
  m : g.mg x = some (.ref C)
  nf : PySem.W.findIn g.K (.ref C) f = some none
  nc : PySem.W.findIn g.K (.ref C) cdS = some none
  fn : ∃ fd ps, FnOk g.prog g.w g.K g.mg g.base (L2.CX g.prog g.w) 1 fI fd ps (spX1 g.K f t) ∧ Binds g.K fd ps []
structure Xc0 (g : G) (x : Str) (C fI : Addr) (t : Str) : Prop where
  T : OexC g.K C
  iC : PySem.W.findIn g.K (.ref C) "__init__" = some (some (.ref fI))
  tI : PySem.W.typeIn g.K (.ref fI) = some (.type "function")
  m : g.mg x = some (.ref C)
  nc : PySem.W.findIn g.K (.ref C) cdS = some none
  fn : ∃ fd ps, FnOk g.prog g.w g.K g.mg g.base (L2.CX g.prog g.w) 1 fI fd ps (spX0 g.K t) ∧ Binds g.K fd ps []
def cRaise1 (cn : Nat) (t : Str) (fe : M D) : M Fl := fun c => (fe c).bind fun d c' => .exc cn [.str t, d] c'
def cRaise0 (cn : Nat) (t : Str) : M Fl := fun c => .exc cn [.str t] c
section
variable {X : Cx} {g : G} {k : Nat} {N : List Str} {sc ws : Scope} {W : WX} {x f t : Str} {C fI : Addr} {cn : Nat} {e : Expr} {fe : M D} {p p' pos : Pos}
theorem noPass {X : Cx} : Passes (L2.CX X.prog X.w) X (fun _ _ _ => False) := passes_call takes_none5 fun _ _ _ _ h => h
theorem pmk_0 {fd : FuncData} {ps : List Str} {sp : Sp} (T : OexC X.K C) (iC : PySem.W.findIn X.K (.ref C) "__init__" = some (some (.ref fI))) (tI : PySem.W.typeIn X.K (.ref fI) = some (.type "function"))
    (F1 : FnOk X.prog X.w X.K X.mg X.base (L2.CX X.prog X.w) 1 fI fd ps sp) (hr : Room 2 X.A) (hb : Binds X.K fd ps []) (hg : Gl X x) (hm : X.mg x = some (.ref C)) (hd : (x == ("__debug__" : Str)) = false) :
    PMk X (.Call (.Name x p) [] [] p') (tMkO C sp [] tNil) := by
  intro pins s σ H Q I h
  obtain ⟨nm, qn, N', bs, bm, sn, sub, ab, col, dd, k0, k1, k2, k3, k5, hC, hbm⟩ := T.cls
  have call0 : ∀ s1 : Shared, Inv X pins σ H s1 → wpAny (model X.prog X.w) X.A (call (.ref C) []) (MkP X pins σ Q) X.xe s1 := fun s1 I1 => by
    obtain ⟨_, q1⟩ := h
    obtain ⟨hp, gs, dr, tk, os⟩ := s1
    have hsz : hp.objs.size ≤ hp.objs.size + 1 := Nat.le_succ _
    have hq := q1 (hp.objs.size + 1) (I1.hok.fresh hsz)
    have kk : ∀ b o, hp.get? b = some o → ((hp.push (PySem.W.kdv_tup [])).push (HandSPX.excO C hp.objs.size)).get? b = some o := fun b o z => Heap.get?_push_of_some _ (Heap.get?_push_of_some _ z)
    have hget : ((hp.push (PySem.W.kdv_tup [])).push (HandSPX.excO C hp.objs.size)).get? (hp.objs.size + 1) = some (HandSPX.excO C hp.objs.size) := by heap_get
    have I2 := I1.laid (t' := tk) (o := exo (hp.objs.size + 1) C none) (h' := (hp.push (PySem.W.kdv_tup [])).push (HandSPX.excO C hp.objs.size)) kk hsz (exo_ok hget)
    have hl : ([Value.ref (hp.objs.size + 1)] : List Value).length = ps.length := by rw [← F1.len _ _ _ _ hq]; rfl
    refine wpAny_call (HandSPX.call_own F.excBase_ValueError (fun Y => HandSPX.refsVE_contains Y bm hbm) (I1.kIn _ _ hC) (PySem.W.looks_findIn I1.kIn iC) (fun self => PySem.W.bind_fn I1.kIn self tI) (Nat.zero_le _) ?_)
    have b0 := hb ⟨_, gs, dr, tk, os⟩ [Value.ref (hp.objs.size + 1)] I2.kIn (by rw [List.append_nil]; exact hl)
    rw [List.append_nil] at b0
    refine codeAny_mono (F1.run _ X.stack _ _ ⟨[Value.ref (hp.objs.size + 1)], []⟩ _ [V.ref (hp.objs.size + 1)] _ (fun _ _ _ => False) (hr.make C [] []) (I2.env0.make C [] []) b0 (.cons rfl .nil) hq) fun r s' hq' => ?_
    match r, hq' with
    | .error er, hq' => exact noPass pins σ _ _ er s' I2 hq'
    | .ok (.ret u), hq' =>
      obtain ⟨v, H2, os2, bare2, un2, hok2, rv, ev, d, fs, ea, ed, hd1, q2⟩ := hq'
      subst ev
      obtain ⟨h2, g2, d2, t2, os'⟩ := s'
      exact ⟨rv, mk_end (raises_own T.exC T.tyC) I1 hsz kk un2 hok2 os2 bare2 ea ed hd1 q2⟩
  refine wpAny_Call_Name_kw (ld_glob I hg hm ?_ hd)
  exact PySem.W.callWith_K0 I.kIn T.kC (call0 s I)
theorem ss_raise0 (q : Good g k N X sc ws W) (K : Xc0 g x C fI t) (hx : g.exc cn = some (C, [cdS])) (hg : isGl sc x = true) (hk : 2 ≤ k) : PS X (.Raise (some (.Call (.Name x p) [] [] p')) none pos) (tS g W (cRaise0 cn t)) := by
  obtain ⟨T, iC, tI, hm, nc, fd, ps, F1, hb⟩ := K
  obtain ⟨hg, hd, _⟩ := q.gl hg
  rw [← q.hmg] at hm
  rw [← q.hK] at T iC tI nc F1 hb
  rw [← q.hP, ← q.hw, ← q.hmg, ← q.hbs] at F1
  refine ps_imp (ps_raise q.calm q.tk (pmk_0 T iC tI F1 (q.room.mono hk) hb hg hm hd)) fun Dn σ H1 ⟨m, c, s1, o1⟩ => ?_
  refine ⟨by decide, fun a na => ⟨a, C, rfl, T, upd_same, nc, fun dx h1 h2 => ⟨rfl, dx, [(cdS, .str t)], upd_same, ?_, ?_, ?_⟩⟩⟩
  · rw [upd_ne h2, upd_same]
  · rw [upd_ne h2] at h1
    exact h1
  · rw [upd_ne h2] at h1
    have eq : upd (del (upd (upd (upd H1 a (exo a C none)) dx (exd dx [(cdS, .str t)])) a (exo a C (some dx))) a) dx (.xd [(cdS, .str t)]) = upd H1 dx (.xd [(cdS, .str t)]) := by
      funext b
      by_cases hb : b = dx
      · rw [hb, upd_same, upd_same]
      · rw [upd_ne hb, upd_ne hb]
        by_cases ha : b = a
        · rw [ha, del_same, na]
        · rw [del_ne ha, upd_ne ha, upd_ne hb, upd_ne ha]
    rw [eq]
    obtain ⟨s2, x2⟩ := s1.frozen (u := .xd [(cdS, .str t)]) h1
    exact o1 _ _ _ _ _ x2 s2 ⟨C, _, dx, [.str t], hx, rfl, rfl, upd_same, .cons (.str t) .nil, rfl⟩
end
end CL
namespace CL
open PySem PySem.Spec PyProof.Rows L2
structure GoodH (g : G) (k : Nat) (N : List Str) (X : Cx) (sc : Scope) : Prop where
  hN : X.N = N
  nd : N.Nodup
  hsc : X.env.scope = sc
  room : L2H.RoomH k X.A
  hK : X.K = g.K
  hP : X.prog = g.prog
  hw : X.w = g.w
  hmg : X.mg = g.mg
  hbs : X.base = g.base
section
variable {g : G} {k : Nat} {N : List Str} {X : Cx} {sc : Scope} {pos : Pos}
theorem hq_var {x : Str} {i : Nat} (q : GoodH g k N X sc) (hN : N[i]? = some x) (hv : isVis (sc.names.lookup x) = true) (hd : noDbg x = true) : PE X (.Name x pos) (tE g WF (cVar i)) :=
  se_var (by rw [q.hN]; exact hN) (by rw [q.hsc]; exact vis_of hv) (noDbg_1 hd) (noDbg_2 hd)
theorem hq_mop {f : Value → Value → Sem Value} {r : PySem.W.Frag → R2} {h : D → D → M D} (q : GoodH g k N X sc) (ho : OpR X f (r X.K)) (hs : S2 g (r g.K) h) : MOp X g WF f h := by
  rw [q.hK] at ho
  exact mop_of ho hs
theorem hq_eq (q : GoodH g k N X sc) : MOp X g WF (compareOp .Eq) dEq := hq_mop (r := rEqD) q (op_eqD (by have := q.room.un; omega)) s2_eq
theorem hq_in (q : GoodH g k N X sc) : MOp X g WF (compareOp .In) (dIn false) := hq_mop (r := fun K => rInA K false) q (op_inA (by have := q.room.un; omega)) s2_in
theorem GoodH.gl (q : GoodH g k N X sc) {x : Str} (h : isGl sc x = true) : Gl X x ∧ (x == ("__debug__" : Str)) = false ∧ x ≠ "__name__" := by
  unfold isGl at h
  split at h
  · rename_i e
    rw [Bool.and_eq_true] at h
    refine ⟨?_, by simpa using h.1, fun z => ?_⟩
    · show X.env.scope.names.lookup x = _
      rw [q.hsc]
      exact e
    · have h2 := h.2
      rw [z] at h2
      revert h2
      decide
  · cases h
end
def FnCH (g : G) (k : Nat) (f : Addr) (fn : Fn) : Prop := ∀ (A : Around) (outer : List Env) (s : Shared) (H : Hp) (us : List Value) (vs : List V) (Q : VK) (E : XK), L2H.RoomH k A → Env0 g.prog g.w g.K g.mg g.base A outer s H → Vals vs us → spOf g fn vs H Q E →
  codeAny (model g.prog g.w) A (.call (.ref f) ⟨us, []⟩) (CR (L2.CX g.prog g.w) outer g.prog g.w H s Q E) s
theorem outS_W {g : G} {W W' : WX} {m : Mp} {r : R Fl} {Dn : Ends} (hne : ∀ cn vs c, r ≠ .exc cn vs c) (o : OutS g W m r Dn) : OutS g W' m r Dn := by
  cases r with
  | ok a c => cases a <;> exact o
  | exc cn vs c => exact absurd rfl (hne cn vs c)
  | stuck => exact o.elim
def noX (r : R Fl) : R Fl := match r with
  | .exc _ _ _ => .stuck
  | r => r
theorem fn_cH {g : G} {x qual : Str} {st : Stmt} {f : Addr} {fd : FuncData} {N ps : List Str} {k : Nat} {fb : M Fl} (F : L2.Fun g.K x qual st f fd) (S : FnScope N ps (defScope st)) (hb : Binds g.K fd ps [])
    (h : ∀ X : Cx, GoodH g k N X (defScope st) → PSs X (defBody st) (tS g WF fb)) : FnCH g (k + 1) f (fnB N.length ps.length fun c => noX (fb c)) := by
  intro A outer s H us vs Q E hr e0 rv hs
  obtain ⟨oc, od, kV, doc, pm, an, cdv, ct, osl, rfl, lk, hcd⟩ := F.ex
  obtain ⟨m, S', ds, sm, hv, o⟩ := hs
  unfold fnB at o
  cases e : decide (ds.length = ps.length) with
  | false => rw [e] at o; exact o.elim
  | true =>
    rw [e] at o
    have hl : vs.length = ps.length := by rw [← hv.length]; exact of_decide_eq_true e
    have hu : us.length = ps.length := by rw [← rv.length]; exact hl
    have KX : g.K.In s.heap := e0.mod.kin.keeps fun b ob z => (e0.bs b ob z).1
    have lim : s.heap.NoLimit := e0.mod.nolimit.keeps fun b ob z => (e0.bs b ob z).1
    have b0 := hb s us KX (by rw [List.append_nil]; exact hu)
    rw [List.append_nil] at b0
    have hkind : ∀ y ∈ ps.zip us, (defScope st).names.lookup y.1 = some .local ∨ ((defScope st).names.lookup y.1 = some .cell ∧ ((cellsFrom (s.heap.objs.size + 1) (defScope st).names []).lookup y.1).isSome = true) := fun ⟨n, _⟩ hy =>
      (S.par n (List.of_mem_zip hy).1).elim .inl fun z => .inr ⟨z, PySem.W.cellsFrom_some _ _ _ (.inl z)⟩
    refine codeAny_call_function hr.depth (KX _ _ lk) rfl S.co S.gen rfl (PySem.W.codeRec_of KX hcd) (b0 _ _ _ _ ?_)
    refine wpAny_newFunctionEnv_cells S.kind hkind fun env he s1 x => ?_
    subst he
    refine ⟨lim.keeps x.toInCall.keep, codeAny_func ?_⟩
    have e1 : Env0 g.prog g.w g.K g.mg g.base ({ A with handled := none } : Around) outer s H := ⟨e0.frames, e0.mod, e0.bs, e0.bsz, e0.funs, e0.frf, e0.hok, e0.bare⟩
    have I0 := inv_start (CX := L2.CX g.prog g.w) (qual := qual) (f := f) (cd := cdv) (E := E) S rfl e1 hl rv x
    let Z : Cx := { cxOf (L2.CX g.prog g.w) g.prog g.w g.K g.mg g.base N qual (defScope st) f cdv A outer s H E with calm := false }
    have okZ : Z.Ok := ⟨I0.ok.mod, I0.ok.kind, I0.ok.glob, I0.ok.blt, I0.ok.above, I0.ok.inj, I0.ok.has, I0.ok.cab, (fun z => nomatch (show false = true from z)), Around.frames_deeper e0.frames, I0.ok.stk, I0.ok.exf, I0.ok.bs, I0.ok.bsz, I0.ok.noex, I0.ok.exfs, I0.ok.funs, I0.ok.frf⟩
    have I : Inv Z [] (L2.start N vs) H s1 := ⟨okZ, I0.os, I0.bare, I0.base, I0.loc, I0.cell, I0.free, I0.freeC, I0.pin, I0.hok, I0.len⟩
    have GH : GoodH g k N Z (defScope st) := ⟨rfl, S.nd, rfl, hr.deeper _, rfl, rfl, rfl, rfl, rfl⟩
    have o2 : OutS g WF m (fb (startC N.length ds S')) { nx := fun _ H' => Q .non H', rt := Q } := by
      cases q : fb (startC N.length ds S') with
      | ok a c =>
        have o : OutF g m (outF (noX (fb (startC N.length ds S')))) Q E := o
        rw [q] at o
        exact outS_W (W := fun C d _ H' => E C d H') (fun _ _ _ z => nomatch z) (outS_F (S := S') (fun _ _ _ _ h => h) o)
      | exc cn ws c =>
        have o : OutF g m (outF (noX (fb (startC N.length ds S')))) Q E := o
        rw [q] at o
        exact o.elim
      | stuck =>
        have o : OutF g m (outF (noX (fb (startC N.length ds S')))) Q E := o
        rw [q] at o
        exact o.elim
    refine wpAny_mono ((h Z GH).run [] s1 (L2.start N vs) H _ I ⟨m, _, sm.start hv, o2⟩) (fun fl s' hs => ?_) fun er s' hs => hs
    have fin : ∀ {σ' : L2.St} {H' : Hp} {v : V} {u : Value}, Inv Z [] σ' H' s' → L2.RelV v u → Q v H' → CE outer g.prog g.w H s Q u s' :=
      fun {σ' H' v u} J r q => ⟨v, H', J.os, J.bare, J.base, J.hok, r, q⟩
    match fl, hs with
    | .ret u, ⟨v, σ', H', J, r, q⟩ => exact fin J r q
    | .next, ⟨σ', H', J, q⟩ => exact fin (v := V.non) (u := Value.none) J rfl q
    | .brk, ⟨_, _, _, q⟩ => exact False.elim q
    | .cont, ⟨_, _, _, q⟩ => exact False.elim q
theorem hx_call {g : G} {k j : Nat} {N : List Str} {X : Cx} {sc : Scope} {x : Str} {f : Addr} {fn : Fn} {e : Expr} {es : List Expr} {fa : M (List D)} {p pos : Pos} (q : GoodH g k N X sc) (F : FnCH g j f fn) (hj : j ≤ k) (hg : isGl sc x = true) (hm : g.mg x = some (.ref f)) (hk : PySem.W.keepIn g.K (.ref f) = true)
    (ha : PA X (e :: es) (tA g WF fa)) (hp : plainArgs (e :: es) = true) : PE X (.Call (.Name x p) (e :: es) [] pos) (tE g WF (cCall fn fa)) := by
  obtain ⟨p1, p2⟩ := plain_tail hp
  refine ⟨fun pins s σ H Q I ⟨m, c, sm, o⟩ => ?_⟩
  obtain ⟨hg, hd, _⟩ := q.gl hg
  rw [← q.hmg] at hm
  rw [← q.hK] at hk
  refine wpAny_Call_Name_kw (ld_glob I hg hm ?_ hd)
  refine PySem.W.callWith_K (h₀ := X.base) I.ok.mod.kin hk (thn (ha.run pos pins s σ H _ I ⟨m, c, sm, o.bind⟩) fun us s1 ⟨vs, H1, I1, r, m1, ds, c1, x1, s2, k1, o1⟩ => ⟨I1.kIn, ?_⟩) (star_plain p1) (plain_any p2)
  have e0 := I1.env0
  rw [q.hP, q.hw, q.hK, q.hmg, q.hbs] at e0
  have rc := F X.A X.stack s1 H1 us vs Q _ (q.room.mono hj) e0 r (call_sp (W := WF) s2 k1 o1)
  rw [← q.hP, ← q.hw] at rc
  refine wpAny_call (codeAny_mono rc fun r2 s' hq => ?_)
  match r2, hq with
  | .error er, hq => exact (noPass (X := X) pins σ H1 s1 er s' I1 (by
      obtain ⟨_, _, _, _, _, _, _, _, _, _, _, _, w⟩ := (show L2.CX X.prog X.w X.stack H1 s1 _ er s' from hq)
      exact w.elim))
  | .ok (.ret u), hq => exact I1.after hq
theorem fly_keep {B h h' : Heap} {l : List Env} {e : Addr} {Z : Obj → Prop} (R : HandSPX.FlyingZ B l e Z h) (k : ∀ b o, h.get? b = some o → h'.get? b = some o) : HandSPX.FlyingZ B l e Z h' := by
  obtain ⟨f1, f2, f3, oe, vs, T, oT, ts, he, hz, hd, h1, hn, hne, hT, hdT, h3⟩ := R
  exact ⟨fun b o q => k b o (f1 b o q), f2, f3.of_keeps fun b o q _ => ⟨o, k b o q, rfl⟩, oe, vs, T, oT, ts, k _ _ he, hz, hd, h1, hn, hne, k _ _ hT, hdT, h3⟩
theorem Inv.caught {X : Cx} {pins : List (Addr × Obj)} {σ : L2.St} {H : Hp} {s : Shared} (I : Inv X pins σ H s) {a C d : Addr} {vs : Array Value} {oe : Obj} (ha : s.heap.get? a = some oe) (hc : oe.cls = .ref C) (hd : oe.dict = some d) (hdt : oe.data = .fields vs) (na : H a = none) (nL : a ≠ X.env.locals)
    (n0 : X.s_0.heap.get? a = none) (np : ∀ p ∈ X.pn ++ pins, p.1 ≠ a) : Inv (X.suite a (X.pn ++ pins)) [] σ (upd H a (exq a C d)) s := by
  have ne : ∀ {b : Addr} {o : HO}, H b = some o → b ≠ a := fun e => ne_of_none e na
  refine ⟨I.ok.suite _ _, I.os, I.bare, ⟨I.base.keep, I.base.slot, fun b o e n hx => ?_, I.base.there, fun b xs e => ?_, fun b o u e => ?_, fun b ps e => ?_⟩, I.loc, I.cell, ?_, fun y c e => ?_, fun p hp => ?_, fun b o z => ?_, I.len⟩
  · have nb : b ≠ a := fun z => by rw [z] at e; exact absurd (e.symm.trans n0) (fun w => nomatch w)
    rw [upd_ne nb]
    exact I.base.free b o e n hx
  · have z := I.base.tups b xs e
    rw [upd_ne (ne z)]
    exact z
  · have z := I.base.frzs b o u e
    rw [upd_ne (ne z)]
    exact z
  · obtain ⟨more, z⟩ := I.base.tbls b ps e
    exact ⟨more, by rw [upd_ne (ne z)]; exact z⟩
  · rw [upd_ne (Ne.symm nL)]
    exact I.free
  · have nc : c ≠ a := fun z => by
      obtain ⟨v, o, ho, hd⟩ := I.cell y c e
      rw [z, ha] at ho
      cases ho
      rw [hdt] at hd
      cases hd
    rw [upd_ne nc]
    exact I.freeC y c e
  · have hp : p ∈ X.pn ++ pins := by rw [List.append_nil] at hp; exact hp
    obtain ⟨z1, z2, z3⟩ := I.pin p hp
    exact ⟨z1, by rw [upd_ne (np p hp)]; exact z2, z3⟩
  · by_cases hb : b = a
    · rw [hb, upd_same] at z
      cases z
      rw [hb]
      exact exq_ok ha hc hd hdt
    · rw [upd_ne hb] at z
      exact (I.hok b o z).stay (fun _ _ _ q => q) (fun c hc => by rw [upd_ne (ne hc)]; exact hc) fun c xs hc => by rw [upd_ne (ne hc)]; exact hc
theorem Inv.uncaught {X : Cx} {pins pn' : List (Addr × Obj)} {σ : L2.St} {H : Hp} {s : Shared} {a : Addr} (I : Inv (X.suite a (X.pn ++ pins)) pn' σ H s) (ok : X.Ok) : Inv X pins σ H s :=
  ⟨ok, I.os, I.bare, I.base, I.loc, I.cell, I.free, I.freeC, fun p hp => I.pin p (List.mem_append_left _ hp), I.hok, I.len⟩
def wTry (K : PySem.W.Frag) (c1 c2 : Value) (i l : Nat) (ts : TS) (Dn : Ends) : WX := fun cls d σ H => PySem.W.exmAny K cls [c1, c2] = some true ∧ ∃ C dd, cls = .ref C ∧ d = some dd ∧ ∀ a, H a = none → σ.length = l →
  ts { nx := fun σ' H' => Dn.nx (σ'.set i none) H', rt := Dn.rt, bk := fun σ' H' => Dn.bk (σ'.set i none) H', ct := fun σ' H' => Dn.ct (σ'.set i none) H' } (σ.set i (some (.ref a))) (upd H a (exq a C dd))
section
variable {X : Cx} {x1 x2 n : Str} {c1 c2 : Value} {i kk : Nat} {body suite : List Stmt} {b0 : Stmt} {q1 q2 tp pos pos' : Pos} {tb : WX → TS} {ts : TS}
theorem ps_try2 (hst : X.stack = X.env :: X.outer) (hf : X.env.frame = some X.env.locals) (hex : X.ex = []) (hN : X.N.Nodup) (hi : X.N[i]? = some n) (hln : X.env.kindOf n = some .local) (hc1 : Gl X x1 ∧ (x1 == ("__debug__" : Str)) = false ∧ X.mg x1 = some c1) (hc2 : Gl X x2 ∧ (x2 == ("__debug__" : Str)) = false ∧ X.mg x2 = some c2)
    (hb : ∀ (W : WX) (pn : List (Addr × Obj)) (xe : Value → Shared → Prop), Takes (X.tr pn xe) W → PassesOwn (model X.prog X.w) X.A X.env xe → PSs (X.tr pn xe) body (tb W))
    (hsu : ∀ (a : Addr) (pn : List (Addr × Obj)), PSs (X.suite a pn) (b0 :: suite) ts) :
    PS X (.Try body [.ExceptHandler (some (.Tuple [.Name x1 q1, .Name x2 q2] kk tp)) (some n) (b0 :: suite) pos'] [] [] pos) (fun Dn σ H => tb (wTry X.K c1 c2 i X.N.length ts Dn) Dn σ H) := by
  refine ⟨fun pins s σ H Dn I h => ?_⟩
  have ok := I.ok
  have hfr : X.A.frames = some (X.env :: X.outer) := by rw [ok.frames, hst]
  refine wpAny_Try_except (wpAny_mono ((hb (wTry X.K c1 c2 i X.N.length ts Dn) (X.pn ++ pins) (fun e s₁ => wpAny (model X.prog X.w) X.A (noteFrame e X.env) (fun _ s₂ => wpAny (model X.prog X.w) X.A (setFlight e none) (fun _ s₃ => wpAny (model X.prog X.w) X.A (handleBy e X.env [.ExceptHandler (some (.Tuple [.Name x1 q1, .Name x2 q2] kk tp)) (some n) (b0 :: suite) pos']) (SP X pins Dn) X.xe s₃) X.xe s₂) X.xe s₁) (fun u s' xx => ?_) PassesOwn.looking).run [] s σ H Dn (I.toTry _) h) (fun f s1 hsp => ?_) (fun e s1 he => he))
  · obtain ⟨a, B, sI, pins', σ', H', cls, d, rfl, J', nb, up, sky, na, os, ag, hx, C, dd, rfl, rfl, go⟩ := xx
    have J : Inv X pins σ' H' sI := J'.ofTry ok
    have go := go a na J.len
    have sky' : Sky B (X.env :: X.outer) a (Zc (.ref C) (some dd)) X.env.locals s'.heap := by rw [← hst]; exact sky
    show wpAny (model X.prog X.w) X.A (noteFrame (.ref a) X.env) _ _ _
    refine Sky.land Zc.steady hfr hf sky' fun h3 fl3 up3 => ?_
    have J3 : Inv X pins σ' H' { s' with heap := h3 } := J.landed nb fl3.1 (up.trans up3) os ag
    have frOf : ∀ {h : Heap} {o : Obj} {vs : Array Value}, h.FunFrames B (X.env :: X.outer) → h.get? a = some o → o.data = .fields vs → a ∉ frs (X.env :: X.outer) := fun ff e dt hm => by
      obtain ⟨_, o', e', hnf⟩ := ff.mem hm
      cases e.symm.trans e'
      exact hnf _ dt
    obtain ⟨oe3, vs3, he3, hz3, hd3⟩ := fl3.there
    have nfr := frOf fl3.2.2.1 he3 hd3
    have nL : a ≠ X.env.locals := fun z => nfr (List.mem_filterMap.mpr ⟨X.env, List.mem_cons_self, by rw [hf, z]⟩)
    have nF : a ∉ X.fs := fun hm => nfr (by
      obtain ⟨v, hv, q⟩ := List.mem_filterMap.mp hm
      exact List.mem_filterMap.mpr ⟨v, List.mem_cons_of_mem _ hv, q⟩)
    have S3 := J3.suite he3 hd3 na nL nF
    have nI : ∀ o, sI.heap.get? a ≠ some o := fun o z => by
      have w := nb a o z (by rw [hst]; exact nfr)
      rw [fl3.2.1] at w
      cases w
    have n0 : X.s_0.heap.get? a = none := by
      cases q : X.s_0.heap.get? a with
      | none => rfl
      | some o =>
        obtain ⟨o', z⟩ := J.base.there a o q (by rw [hex]; exact List.not_mem_nil)
        exact absurd z (nI o')
    have np : ∀ p ∈ X.pn ++ pins, p.1 ≠ a := fun p hp z => nI p.2 (by rw [← z]; exact (J.pin p hp).1)
    refine wpAny_handleBy_cons (codeAny_handlers_test ?_) (by intro q; cases q)
    refine wpAny_Tuple (wpAny_items_cons (ld_glob (X := X.suite a ((a, oe3) :: (X.pn ++ pins))) S3 hc1.1 hc1.2.2 ?_ hc1.2.1))
    refine wpAny_items_cons (ld_glob (X := X.suite a ((a, oe3) :: (X.pn ++ pins))) S3 hc2.1 hc2.2.2 ?_ hc2.2.1)
    refine wpAny_items_nil ⟨by size_fits, ?_⟩
    have kp : ∀ q o, h3.get? q = some o → (h3.push { cls := .type "tuple", data := .seq [c1, c2].toArray }).get? q = some o := fun _ _ z => Heap.get?_push_of_some _ z
    have LT : PySem.W.Looks (model X.prog X.w) h3 (typeOf (.ref a)) (.ref C) := fun A Q E t k q => wpAny_typeOf_ref (k _ _ he3) (by rw [hz3.1]; exact q)
    refine (PySem.W.exm_tup2 (J3.kIn.keeps kp) (LT.keeps kp) (Heap.get?_push_size h3 rfl) hx).here ?_
    have fl4 := fly_keep fl3 kp
    have up4 : s'.heap.UpToSlots (h3.push { cls := .type "tuple", data := .seq [c1, c2].toArray }) := up3.trans (Heap.UpToSlots.of_keeps kp)
    refine codeAny_handlers_suite_as ?_
    refine HandSPX.lands_againZ fl4 fun h5 fl5 up5 => ?_
    have J5 : Inv X pins σ' H' { s' with heap := h5 } := J.landed nb fl5.1 ((up.trans up4).trans up5) os ag
    obtain ⟨oe5, vs5, he5, hz5, hd5⟩ := fl5.there
    have S5 := Inv.caught J5 he5 hz5.1 hz5.2 hd5 na nL n0 np
    refine store_ok (X := X.suite a (X.pn ++ pins)) (v := .ref a) S5 hN hi (.inl hln) rfl (fun s6 S6 => ?_) (.inr hln)
    refine wpAny_mono ((hsu a (X.pn ++ pins)).run [] s6 _ _ _ S6 go) (fun f s7 hsp => ?_) (fun _ _ z => False.elim z)
    have end_ : ∀ {σ6 : L2.St} {H6 : Hp} {Q : Shared → Prop}, Inv (X.suite a (X.pn ++ pins)) [] σ6 H6 s7 → (∀ s8, Inv X pins (σ6.set i none) H6 s8 → Q s8) → wpAny (model X.prog X.w) X.A (do bindName X.env n .none; unbindBehindTheSuite X.env n pos') (fun _ s8 => Q s8) X.xe s7 := fun S7 hq => gone_ok (Inv.uncaught S7 ok) hN hi hln hq
    match f, hsp with
    | .next, ⟨σ6, H6, S7, q6⟩ => exact end_ S7 fun s8 J8 => ⟨_, _, J8, q6⟩
    | .brk, ⟨σ6, H6, S7, q6⟩ => exact end_ S7 fun s8 J8 => ⟨_, _, J8, q6⟩
    | .cont, ⟨σ6, H6, S7, q6⟩ => exact end_ S7 fun s8 J8 => ⟨_, _, J8, q6⟩
    | .ret u, ⟨v6, σ6, H6, S7, r6, q6⟩ => exact end_ S7 fun s8 J8 => ⟨_, _, _, J8, r6, q6⟩
  · match f, hsp with
    | .next, ⟨σ', H', J', q⟩ => exact wpAny_execs_nil ⟨σ', H', J'.ofTry ok, q⟩
    | .brk, ⟨σ', H', J', q⟩ => exact ⟨σ', H', J'.ofTry ok, q⟩
    | .cont, ⟨σ', H', J', q⟩ => exact ⟨σ', H', J'.ofTry ok, q⟩
    | .ret u, ⟨v, σ', H', J', r, q⟩ => exact ⟨v, σ', H', J'.ofTry ok, r, q⟩
end
end CL
namespace CL
open PySem PySem.Spec PyProof.Rows L2
abbrev lamD (q : Str) (params : Arguments) (body : Expr) (scope : Scope) (cl : List (Str × Addr)) (dv pm cdv ctv : Value) : FuncData :=
  { PySem.W.kla_fn "<lambda>" q params body scope cl pm cdv ctv with defaults := dv }
abbrev lamO (q : Str) (params : Arguments) (body : Expr) (scope : Scope) (cl : List (Str × Addr)) (dv pm cdv ctv : Value) : Obj := { cls := .type "function", data := .func (lamD q params body scope cl dv pm cdv ctv) }
section
variable {M : Model} {A : Around} {E : Value → Shared → Prop} {s : Shared} {q : Str} {params : Arguments} {body : Expr} {scope : Scope} {env : Env} {c P : Addr} {ps : Array Value} {pos : Pos} {fl : Nat} {mg : Str → Option Value} {clos : List (Str × Addr)} {dv : Value} {Q : Value → Shared → Prop}
theorem tail_new (hcl : closureFor scope env = pure clos) (g0 : env.globals = mainGlobals) (hg : s.heap.Ns mainGlobals mg) (hcode : env.code = .ref c) (C : PySem.W.CodeHd s.heap c P) (hP : s.heap.get? P = some { cls := .none, data := .fields ps }) (ht : TriplesOk ps.toList)
    (hnf : codeAmong pos ps.toList = none) (gP : mainGlobals ≠ P) (hb : s.heap.BuiltinsAt mg P)
    (h : ∀ c' ctv h' tk, Heap.ExtBut P s.heap h' → s.heap.objs.size ≤ c' → c' < h'.objs.size → h'.CodeRec (.ref c') q → h'.get? P = some { cls := .none, data := .fields (ps ++ #[rawInt pos.line, rawInt pos.col, .ref c']) } →
      Q (.ref h'.objs.size) { s with heap := h'.push (lamO q params body scope clos dv ((mg "__name__").getD .none) (.ref c') ctv), toks := tk }) :
    wpAny M A (makeTail "<lambda>" q params (.expr body) scope env dv .none none pos fl) Q E s := by
  obtain ⟨bm, ob, hbm, ne0, _, neP, hbo, hcls, hdict, hdata⟩ := hb
  have go : ∀ (ctv : Value) (h0 : Heap), (∀ b o, s.heap.get? b = some o → h0.get? b = some o) → s.heap.objs.size ≤ h0.objs.size → h0.Ns mainGlobals mg →
      wpAny M A (functionCode env pos fl "<lambda>" q params scope (.expr body)) (fun cv s1 => wpAny M A (builtinsFor mainGlobals env.builtins) (fun b s2 => wpAny M A (nsGet mainGlobals "__name__") (fun nm s3 => wpAny M A (newObj (.type "function") (.func (lamD q params body scope clos dv (nm.getD .none) cv ctv |> fun (fd : FuncData) => { fd with builtins := b }))) Q E s3) E s2) E s1) E { s with heap := h0 } := fun ctv h0 k0 z0 hg0 => by
    refine wpAny_functionCodeX hcode ((C.keeps k0).code (k0 _ _ hP) ht) ((C.keeps k0).tab (k0 _ _ hP)) hnf fun c' h' tk hx hge hlt _ hrec htb _ => ?_
    have hg' := hg0.extBut hx gP
    refine wpAny_builtinsFor hg' hbm ne0 (hx _ _ neP (k0 _ _ hbo)) hcls hdict hdata (wpAny_nsGet hg' ?_)
    exact wpAny_newObj_type (h c' ctv h' tk (fun b o hb' e => hx b o hb' (k0 b o e)) (Nat.le_trans z0 hge) hlt hrec htb.2) (by size_fits)
  unfold makeTail
  rw [hcl, g0]
  refine wpAny_bind (wpAny_pure ?_)
  cases clos with
  | nil =>
    simp only [List.isEmpty_nil, if_true]
    refine wpAny_bind (wpAny_pure (wpAny_bind (wpAny_mono (go .none s.heap (fun _ _ e => e) (Nat.le_refl _) hg) (fun cv s1 h1 => wpAny_bind (wpAny_mono h1 (fun b s2 h2 => wpAny_bind (wpAny_mono h2 (fun nm s3 h3 => wpAny_bind (wpAny_pure h3)) fun _ _ z => z)) fun _ _ z => z)) fun _ _ z => z)))
  | cons y r =>
    simp only [List.isEmpty_cons, Bool.false_eq_true, if_false]
    refine wpAny_bind (wpAny_newTextTuple (wpAny_bind (wpAny_mono (go (.ref s.heap.objs.size) _ (fun b o e => Heap.get?_push_of_some _ e) (by rw [Heap.size_push]; omega) (hg.push _)) (fun cv s1 h1 => wpAny_bind (wpAny_mono h1 (fun b s2 h2 => wpAny_bind (wpAny_mono h2 (fun nm s3 h3 => wpAny_bind (wpAny_pure h3)) fun _ _ z => z)) fun _ _ z => z)) fun _ _ z => z)))
theorem tail_hit {cv : Value} (hcl : closureFor scope env = pure clos) (g0 : env.globals = mainGlobals) (hg : s.heap.Ns mainGlobals mg) (hcode : env.code = .ref c) (C : PySem.W.CodeHd s.heap c P) (hP : s.heap.get? P = some { cls := .none, data := .fields ps }) (ht : TriplesOk ps.toList)
    (hf : codeAmong pos ps.toList = some cv) (hb : s.heap.BuiltinsAt mg P)
    (h : ∀ (ctv : Value) (h' : Heap) (tk : Tok), (∀ b o, s.heap.get? b = some o → h'.get? b = some o) → s.heap.objs.size ≤ h'.objs.size →
      Q (.ref h'.objs.size) { s with heap := h'.push (lamO q params body scope clos dv ((mg "__name__").getD .none) cv ctv), toks := tk }) :
    wpAny M A (makeTail "<lambda>" q params (.expr body) scope env dv .none none pos fl) Q E s := by
  obtain ⟨bm, ob, hbm, ne0, _, neP, hbo, hcls, hdict, hdata⟩ := hb
  have go : ∀ (ctv : Value) (h0 : Heap), (∀ b o, s.heap.get? b = some o → h0.get? b = some o) → s.heap.objs.size ≤ h0.objs.size → h0.Ns mainGlobals mg →
      wpAny M A (functionCode env pos fl "<lambda>" q params scope (.expr body)) (fun cv s1 => wpAny M A (builtinsFor mainGlobals env.builtins) (fun b s2 => wpAny M A (nsGet mainGlobals "__name__") (fun nm s3 => wpAny M A (newObj (.type "function") (.func (lamD q params body scope clos dv (nm.getD .none) cv ctv |> fun (fd : FuncData) => { fd with builtins := b }))) Q E s3) E s2) E s1) E { s with heap := h0 } := fun ctv h0 k0 z0 hg0 => by
    refine wpAny_functionCode_hit hcode ((C.keeps k0).code (k0 _ _ hP) ht) hf ?_
    refine wpAny_builtinsFor hg0 hbm ne0 (k0 _ _ hbo) hcls hdict hdata (wpAny_nsGet hg0 ?_)
    exact wpAny_newObj_type (h ctv h0 s.toks k0 z0) (by size_fits)
  unfold makeTail
  rw [hcl, g0]
  refine wpAny_bind (wpAny_pure ?_)
  cases clos with
  | nil =>
    simp only [List.isEmpty_nil, if_true]
    refine wpAny_bind (wpAny_pure (wpAny_bind (wpAny_mono (go .none s.heap (fun _ _ e => e) (Nat.le_refl _) hg) (fun cv s1 h1 => wpAny_bind (wpAny_mono h1 (fun b s2 h2 => wpAny_bind (wpAny_mono h2 (fun nm s3 h3 => wpAny_bind (wpAny_pure h3)) fun _ _ z => z)) fun _ _ z => z)) fun _ _ z => z)))
  | cons y r =>
    simp only [List.isEmpty_cons, Bool.false_eq_true, if_false]
    refine wpAny_bind (wpAny_newTextTuple (wpAny_bind (wpAny_mono (go (.ref s.heap.objs.size) _ (fun b o e => Heap.get?_push_of_some _ e) (by rw [Heap.size_push]; omega) (hg.push _)) (fun cv s1 h1 => wpAny_bind (wpAny_mono h1 (fun b s2 h2 => wpAny_bind (wpAny_mono h2 (fun nm s3 h3 => wpAny_bind (wpAny_pure h3)) fun _ _ z => z)) fun _ _ z => z)) fun _ _ z => z)))
end
theorem Sim.lam {g : G} {m : Mp} {c : CS} {σ : L2.St} {H : Hp} (s : Sim g m c σ H) {P c' : Addr} {q : Str} {ps : Array Value} {pos : Pos} (hP : H P = some (.tbl ps)) (hc : H c' = none) (ht : TriplesOk ps.toList) (hT : ∀ p ∈ g.T, p.1 = P → p.2 = q) :
    Sim g { m with F := upd m.F c' (LamX.CodeO c' q) } c σ (upd (upd H P (.tbl (ps ++ #[rawInt pos.line, rawInt pos.col, .ref c']))) c' (LamX.CodeO c' q)) ∧ Ext m { m with F := upd m.F c' (LamX.CodeO c' q) } := by
  have hF : m.F c' = none := by
    cases e : m.F c' with
    | none => rfl
    | some o => rw [s.fr _ o e] at hc; cases hc
  have ex : Ext m { m with F := upd m.F c' (LamX.CodeO c' q) } := ⟨fun _ _ z => z, fun a o z => by
    show upd m.F _ _ a = some o
    rw [upd_ne (ne_of_none z hF)]
    exact z, rfl, rfl⟩
  have nP : ∀ {a : Addr} {o : HO}, H a = some o → (∀ ps, o ≠ .tbl ps) → a ≠ P := fun {a o} e n z => by
    rw [z, hP] at e
    exact n ps (Option.some.inj e).symm
  have nPc : P ≠ c' := ne_of_none hP hc
  have at_ : ∀ {a : Addr} {o : HO}, H a = some o → (∀ ps, o ≠ .tbl ps) → upd (upd H P (.tbl (ps ++ #[rawInt pos.line, rawInt pos.col, .ref c']))) c' (LamX.CodeO c' q) a = H a := fun e n => by rw [upd_ne (ne_of_none e hc), upd_ne (nP e n)]
  have nt : ∀ {u : HO}, Mut (some u) → ∀ ps, u ≠ .tbl ps := fun y ps z => by subst z; exact y
  refine ⟨⟨fun a o z => ?_, s.nd, ⟨s.tb.1.put LamX.codeO_ne, fun p hp => ?_⟩, s.len, s.ini, s.ln, fun n a o h1 h2 => ?_, fun a o z => ?_, fun i t h => ?_⟩, ex⟩
  · have z : upd m.F c' (LamX.CodeO c' q) a = some o := z
    by_cases e : a = c'
    · rw [e, upd_same] at z ⊢
      exact z
    · rw [upd_ne e] at z
      have z2 := s.fr a o z
      rw [at_ z2 fun ps w => s.tb.1 a ps (by rw [← w]; exact z)]
      exact z2
  · obtain ⟨ps', a1, a2, a3⟩ := s.tb.2 p hp
    by_cases hb : p.1 = P
    · rw [hb, hP] at a1
      cases a1
      refine ⟨_, by rw [hb, upd_ne nPc, upd_same], by rw [show (ps ++ #[rawInt pos.line, rawInt pos.col, .ref c']).toList = ps.toList ++ [rawInt pos.line, rawInt pos.col, .ref c'] by simp]; exact PySem.TriplesOk_snoc _ _ _ _ ht, fun p' cv hcv => ?_⟩
      rw [show (ps ++ #[rawInt pos.line, rawInt pos.col, .ref c']).toList = ps.toList ++ [rawInt pos.line, rawInt pos.col, .ref c'] by simp] at hcv
      rcases LamX.among_app _ ht hcv with z | z
      · obtain ⟨c0, e1, e2⟩ := a3 p' cv z
        exact ⟨c0, e1, ex.f _ _ e2⟩
      · exact ⟨c', z, by rw [hT p hp hb]; exact upd_same⟩
    · refine ⟨ps', by rw [upd_ne (ne_of_none a1 hc), upd_ne hb]; exact a1, a2, fun p' cv hcv => ?_⟩
      obtain ⟨c0, e1, e2⟩ := a3 p' cv hcv
      exact ⟨c0, e1, ex.f _ _ e2⟩
  · obtain ⟨k1, k2⟩ := s.st n a o h1 h2
    obtain ⟨u, y1, y2⟩ := k2.here
    refine ⟨?_, k2.mono ex (at_ y1 (nt y2))⟩
    show upd m.F _ _ a = none
    rw [upd_ne (ne_of_none y1 hc)]
    exact k1
  · obtain ⟨z1, z2, z3, z4⟩ := s.bk a o z
    refine ⟨by rw [at_ z1 z4]; exact z1, ?_, z3, z4⟩
    show upd m.F _ _ a = none
    rw [upd_ne (ne_of_none z1 hc)]
    exact z2
  · have w := s.sl i t h
    cases t with
    | no => trivial
    | val d =>
      obtain ⟨v, e1, e2⟩ := w
      exact ⟨v, e1, e2.mono ex⟩
    | own o =>
      obtain ⟨e1, e2, e3⟩ := w
      obtain ⟨u, y1, y2⟩ := e2.here
      refine ⟨e1, e2.mono ex (at_ y1 (nt y2)), ⟨?_, e3.bk, e3.rh, e3.ap⟩⟩
      show upd m.F _ _ (m.lam i) = none
      rw [upd_ne (ne_of_none y1 hc)]
      exact e3.fr
section
variable {X : Cx} {g : G} {pins : List (Addr × Obj)} {m : Mp} {c : CS} {σ : L2.St} {H : Hp} {s : Shared} {W : WX}
structure LamAt (X : Cx) (g : G) (m : Mp) (c : CS) (σ : L2.St) (H : Hp) (s0 : Shared) (q : Str) (params : Arguments) (body : Expr) (scope : Scope) (dv : Value) (f c' : Addr) (s : Shared) : Prop where
  sim : Sim g m c σ H
  ob : ∃ pm ctv, s.heap.get? f = some (lamO q params body scope (cloFrom X.env.cells scope.names []) dv pm (.ref c') ctv)
  fn : H f = none
  fr : f ∉ frs X.stack
  co : m.F c' = some (LamX.CodeO c' q)
  dk : ∀ t o, dv = .ref t → s0.heap.get? t = some o → (∀ vs, o.data ≠ .fields vs) → s.heap.get? t = some o ∧ H t = none ∧ t ∉ frs X.stack
theorem lam_tail {cc P : Addr} {params : Arguments} {body : Expr} {scope : Scope} {pos : Pos} {fl : Nat} {dv : Value} {E : Value → Shared → Prop} {Q : Value → Shared → Prop} (I : Inv X pins σ H s) (sm : Sim g m c σ H) (TB : LamX.TabB X.base X.mg cc P) (hcode : X.env.code = .ref cc)
    (hm : (P, X.env.qual ++ "<lambda>") ∈ g.T) (hT : ∀ p ∈ g.T, p.1 = P → p.2 = X.env.qual ++ "<lambda>") (hfree : ∀ y ∈ scope.names, y.2 = .free → ∃ c, X.env.cells.lookup y.1 = some c) (hdv : ∀ t, dv = .ref t → H t = none ∧ t ∉ frs X.stack)
    (h : ∀ f c' m1 H1 s', Inv X pins σ H1 s' → Ext m m1 → LamAt X g m1 c σ H1 s (X.env.qual ++ "<lambda>") params body scope dv f c' s' → Q (.ref f) s') :
    wpAny (model X.prog X.w) X.A (makeTail "<lambda>" (X.env.qual ++ "<lambda>") params (.expr body) scope X.env dv .none none pos fl) Q E s := by
  obtain ⟨ps, hP, ht, ha⟩ := sm.tb.2 _ hm
  have bP : s.heap.BuiltinsAt X.mg P := TB.bm.keeps I.bk
  have hP' : s.heap.get? P = some { cls := .none, data := .fields ps } := I.hok P _ hP
  have nofr : ∀ f, s.heap.objs.size ≤ f → f ∉ frs X.stack := fun f hf z => by
    rcases List.mem_cons.mp (I.stkSub _ z) with e | e
    · have h1 := I.lt
      rw [← e] at h1
      exact absurd (Nat.lt_of_lt_of_le h1 hf) (Nat.lt_irrefl _)
    · exact I.nofs hf e
  cases hcq : codeAmong pos ps.toList with
  | none =>
    refine tail_new (closure_ok hfree) I.ok.glob (I.mod.glob.keeps I.bk) hcode (TB.code.keeps I.bk) hP' ht hcq TB.gP bP fun c' ctv h' tk hx hge hlt hrec htb => ?_
    obtain ⟨_, oc, vs, t, e2, hoc, hd, hv⟩ := hrec
    cases e2
    have nC : H c' = none := I.hok.fresh hge
    have hsz : s.heap.objs.size ≤ h'.objs.size := Nat.le_trans hge (Nat.le_of_lt hlt)
    have I1 := LamX.inv_table (t' := tk) (more := #[rawInt pos.line, rawInt pos.col, .ref c']) (q := X.env.qual ++ "<lambda>") (h' := h'.push (lamO (X.env.qual ++ "<lambda>") params body scope (cloFrom X.env.cells scope.names []) dv ((X.mg "__name__").getD .none) (.ref c') ctv)) I hP
      (fun b o hb e => Heap.get?_push_of_some _ (hx b o hb e)) (Heap.get?_push_of_some _ htb) hge ⟨oc, vs, t, Heap.get?_push_of_some _ hoc, hd, hv⟩
    obtain ⟨s1, x1⟩ := sm.lam (pos := pos) hP nC ht hT
    refine h h'.objs.size c' _ _ _ I1 x1 ⟨s1, ⟨_, _, Heap.get?_push_size _ rfl⟩, ?_, nofr _ hsz, upd_same, fun t o ed eo nf => ?_⟩
    · have n2 : h'.objs.size ≠ P := Nat.ne_of_gt (Nat.lt_of_lt_of_le (Heap.lt_size hP') hsz)
      rw [upd_ne (Nat.ne_of_gt hlt), upd_ne n2]
      exact I.hok.fresh hsz
    · have n1 : t ≠ P := fun z => by
        rw [z, hP'] at eo
        cases eo
        exact nf _ rfl
      have n3 : t ≠ c' := Nat.ne_of_lt (Nat.lt_of_lt_of_le (Heap.lt_size eo) hge)
      exact ⟨Heap.get?_push_of_some _ (hx t o n1 eo), by rw [upd_ne n3, upd_ne n1]; exact (hdv t ed).1, (hdv t ed).2⟩
  | some cv =>
    obtain ⟨c', e, hco⟩ := ha pos cv hcq
    subst e
    refine tail_hit (closure_ok hfree) I.ok.glob (I.mod.glob.keeps I.bk) hcode (TB.code.keeps I.bk) hP' ht hcq bP fun ctv h' tk hx hsz => ?_
    have I1 : Inv X pins σ H { s with heap := h'.push (lamO (X.env.qual ++ "<lambda>") params body scope (cloFrom X.env.cells scope.names []) dv ((X.mg "__name__").getD .none) (.ref c') ctv), toks := tk } := I.kept fun b o e => Heap.get?_push_of_some _ (hx b o e)
    exact h h'.objs.size c' m H _ I1 Ext.rfl' ⟨sm, ⟨_, _, Heap.get?_push_size _ rfl⟩, I.hok.fresh hsz, nofr _ hsz, hco, fun t o ed eo nf => ⟨Heap.get?_push_of_some _ (hx t o eo), hdv t ed⟩⟩
inductive LamP : Arguments → List Str → Prop
  | none : LamP ⟨[], [], Option.none, [], [], Option.none, []⟩ []
  | one (y : Str) (an : Option Expr) (p1 p2 : Pos) (i : Int) (j : Nat) : LamP ⟨[], [⟨y, an, p1⟩], Option.none, [], [], Option.none, [.Constant (.int i) j p2]⟩ [y]
def DvOk (dv : Value) (ys : List Str) (s : Shared) : Prop := (ys = [] ∧ dv = .none) ∨ ∃ y t u, ys = [y] ∧ dv = .ref t ∧ s.heap.get? t = some { cls := .type "tuple", data := .seq [u].toArray }
theorem lam_eval {cc P : Addr} {params : Arguments} {ys : List Str} {body : Expr} {scope : Scope} {pos : Pos} {Q : Value → Shared → Prop} (hp : LamP params ys) (I : Inv X pins σ H s) (sm : Sim g m c σ H) (TB : LamX.TabB X.base X.mg cc P) (hcode : X.env.code = .ref cc)
    (hm : (P, X.env.qual ++ "<lambda>") ∈ g.T) (hT : ∀ p ∈ g.T, p.1 = P → p.2 = X.env.qual ++ "<lambda>") (hfree : ∀ y ∈ scope.names, y.2 = .free → ∃ c, X.env.cells.lookup y.1 = some c)
    (h : ∀ f c' m1 H1 dv s0 s', Inv X pins σ H1 s' → Ext m m1 → LamAt X g m1 c σ H1 s0 (X.env.qual ++ "<lambda>") params body scope dv f c' s' → DvOk dv ys s0 → Q (.ref f) s') :
    wpAny (model X.prog X.w) X.A (eval (.Lambda params body scope pos) X.env) Q X.xe s := by
  rw [arm_eval_Lambda]
  cases hp with
  | none =>
    show wpAny _ _ (do let dv ← evalAll []; let kdv ← holding dv (evalAllOpt []); makeFunction "<lambda>" (X.env.qual ++ "<lambda>") _ (.expr body) scope X.env dv kdv [] pos pos.line) Q _ s
    refine wpAny_bind (wpAny_pure (wpAny_bind (wpAny_holding (wpAny_pure ?_))))
    rw [makeFunction_eq]
    simp only [List.zip_nil_right, List.filterMap_nil, List.isEmpty_nil, if_true, pure_bind]
    exact lam_tail I sm TB hcode hm hT hfree (fun t z => nomatch z) fun f c' m1 H1 s' I1 x1 L => h f c' m1 H1 .none s s' I1 x1 L (.inl ⟨rfl, rfl⟩)
  | one y an p1 p2 i j =>
    show wpAny _ _ (do let dv ← evalAll [eval (.Constant (.int i) j p2) X.env]; let kdv ← holding dv (evalAllOpt []); makeFunction "<lambda>" (X.env.qual ++ "<lambda>") _ (.expr body) scope X.env dv kdv [] pos pos.line) Q _ s
    refine wpAny_bind ?_
    show wpAny _ _ (do let v ← eval (.Constant (.int i) j p2) X.env; return v :: (← holding [v] (evalAll []))) _ _ s
    refine wpAny_bind (thn ((pe_int (X := X)).run pins s σ H (fun v H1 => H1 = H) I rfl) fun u s1 ⟨v, H1, I1, r1, e1⟩ => ?_)
    rw [e1] at I1
    refine wpAny_bind (wpAny_holding (wpAny_pure (wpAny_pure (wpAny_bind (wpAny_holding (wpAny_pure ?_))))))
    rw [makeFunction_eq]
    simp only [List.zip_nil_right, List.filterMap_nil, List.isEmpty_nil, if_true, pure_bind, List.isEmpty_cons, Bool.false_eq_true, if_false]
    refine wpAny_bind (wpAny_newTextTuple ?_)
    have I2 : Inv X pins σ H { s1 with heap := s1.heap.push { cls := .type "tuple", data := .seq [u].toArray } } := I1.kept fun b o e => Heap.get?_push_of_some _ e
    refine lam_tail I2 sm TB hcode hm hT hfree (fun t z => by
      cases z
      refine ⟨I1.hok.fresh (Nat.le_refl _), fun w => ?_⟩
      rcases List.mem_cons.mp (I1.stkSub _ w) with e | e
      · have h1 := I1.lt
        rw [← e] at h1
        exact absurd h1 (Nat.lt_irrefl _)
      · exact I1.nofs (Nat.le_refl _) e) fun f c' m1 H1 s' I3 x1 L => ?_
    exact h f c' m1 H1 _ _ s' I3 x1 L (.inr ⟨y, _, u, rfl, rfl, Heap.get?_push_size _ rfl⟩)
end
end CL
namespace CL
open PySem PySem.Spec PyProof.Rows L2
structure LamS (N : List Str) (sc scope : Scope) (ys : List Str) : Prop where
  kind : scope.kind = .function
  co : scope.isCoroutine = false
  gen : scope.isGenerator = false
  nocell : ∀ y ∈ scope.names, y.2 ≠ .cell
  own : ∀ y ∈ N, scope.names.lookup y ≠ some .local
  free : ∀ y ∈ scope.names, y.2 = .free → sc.names.lookup y.1 = some .cell ∨ sc.names.lookup y.1 = some .free
  par : ∀ y ∈ ys, scope.names.lookup y = some .local
def lamOk (N : List Str) (sc scope : Scope) (ys : List Str) : Bool :=
  decide (scope.kind = .function) && (!scope.isCoroutine && (!scope.isGenerator && ((scope.names.all fun y => !decide (y.2 = .cell)) && ((N.all fun y => !decide (scope.names.lookup y = some .local)) &&
    ((scope.names.all fun y => !decide (y.2 = .free) || (decide (sc.names.lookup y.1 = some .cell) || decide (sc.names.lookup y.1 = some .free))) && ys.all fun y => decide (scope.names.lookup y = some .local))))))
theorem lamS_of {N : List Str} {sc scope : Scope} {ys : List Str} (h : lamOk N sc scope ys = true) : LamS N sc scope ys := by
  unfold lamOk at h
  simp only [Bool.and_eq_true, Bool.or_eq_true, Bool.not_eq_true', decide_eq_true_eq, decide_eq_false_iff_not, List.all_eq_true] at h
  obtain ⟨h1, h2, h3, h4, h5, h6, h7⟩ := h
  exact ⟨h1, h2, h3, h4, h5, fun y hy e => (h6 y hy).resolve_left fun z => z e, h7⟩
theorem LamS.has {X : Cx} {scope : Scope} {ys : List Str} (L : LamS X.N X.env.scope scope ys) (ok : X.Ok) : ∀ y ∈ scope.names, y.2 = .free → ∃ c, X.env.cells.lookup y.1 = some c := fun y hy e => ok.has _ (L.free y hy e)
theorem lam_bind {q : Str} {params : Arguments} {body : Expr} {scope : Scope} {cl : List (Str × Addr)} {dv pm cdv ctv : Value} {ys : List Str} {s : Shared} (hp : LamP params ys) (h : DvOk dv ys s) : ∃ bs : List (Str × Value), bs.map (·.1) = ys ∧ BindsTo s (lamD q params body scope cl dv pm cdv ctv) ⟨[], []⟩ bs := by
  cases hp with
  | none =>
    rcases h with ⟨_, rfl⟩ | ⟨_, _, _, z, _⟩
    · exact ⟨[], rfl, .of_eq rfl⟩
    · cases z
  | one y an p1 p2 i j =>
    rcases h with ⟨z, _⟩ | ⟨y', t, u, z, rfl, ht⟩
    · cases z
    · cases z
      refine ⟨[(y, u)], rfl, fun M A E Q hq => ?_⟩
      show wpAny _ _ (seqItems? (.ref t) >>= _) _ _ _
      refine wpAny_bind (wpAny_seqItems ht rfl (wpAny_pure ?_))
      have e : (List.filterMap (fun n => Option.map (fun x => (n, x)) (List.lookup n [(y, u)])) [y]) = [(y, u)] := by simp [List.lookup]
      rw [← e] at hq
      exact hq
section
variable {X : Cx} {g : G} {pins : List (Addr × Obj)} {m : Mp} {c : CS} {σ : L2.St} {H HZ : Hp} {s s1 s0 : Shared} {W : WX}
theorem lam_start3 {A : Around} {outer : List Env} {E : XK} {scope : Scope} {ys : List Str} {f c' : Addr} {h1 : Heap} {tk : Nat} {mm : Str → Option Value} (I : Inv X pins σ H s) (L : LamS X.N X.env.scope scope ys) (e0 : Env0 X.prog X.w X.K X.mg X.base A outer s1 HZ) (hd : A.handled = none)
    (un : Un (frs X.stack) [] H HZ s.heap s1.heap) (hns : h1.Ns s1.heap.objs.size mm) (kp : ∀ b o, s1.heap.get? b = some o → h1.get? b = some o) :
    Inv (LamX.lamCx X A outer s1 HZ E scope f c') [] σ HZ { s1 with heap := h1, toks := tk } := by
  have hfree := L.has I.ok
  have cm : ∀ {y c}, (cloFrom X.env.cells scope.names []).lookup y = some c → X.env.cells.lookup y = some c := fun {y c} e => by
    rcases cloFrom_mem (PySem.mem_of_lookup e) with hm | ⟨z1, z2⟩
    · cases hm
    · obtain ⟨c1, hc⟩ := hfree _ z1 rfl
      have hc : X.env.cells.lookup y = some c1 := hc
      rw [z2, hc] <;> rfl
  have look : ∀ {y}, scope.names.lookup y = some .free → ∃ c, (cloFrom X.env.cells scope.names []).lookup y = some c := fun {y} hl => mem_lookup (cloFrom_has (cells := X.env.cells) (acc := []) (show (y, NameKind.free) ∈ scope.names from PySem.mem_of_lookup hl))
  have cellK : ∀ {c : Addr} {v : Option Value}, H c = none → s.heap.IsCell c v → h1.IsCell c v := fun {c v} n ⟨o, ho, hdt⟩ => by
    obtain ⟨sl, q⟩ := un.any ho n List.not_mem_nil
    exact ⟨_, kp _ _ q, hdt⟩
  have noA : ∀ b : Addr, b ∉ (LamX.lamCx X A outer s1 HZ E scope f c').ex := fun b z => absurd (show b ∈ ([] : List Addr) from z) List.not_mem_nil
  have freeOf : ∀ {y}, Vis scope y → y ∈ X.N → scope.names.lookup y = some .free := fun {y} k hy => by
    rcases k with k | k | k
    · exact absurd k (L.own y hy)
    · exact absurd rfl (L.nocell _ (PySem.mem_of_lookup k))
    · exact k
  refine ⟨⟨e0.mod, L.kind, rfl, rfl, Nat.le_refl _, fun y z c e1 e2 => I.ok.inj y z c (cm e1) (cm e2), fun y hy => ?_, (fun y c z _ => nomatch (show false = true from z)), fun _ => hd, Around.frames_deeper e0.frames, .inr ⟨rfl, rfl⟩, fun b z => absurd z (noA b), e0.bs, e0.bsz, fun b _ _ => noA b, fun b z => absurd z (noA b), e0.funs, e0.frf⟩,
    rfl, e0.bare, Un.kept kp, ⟨_, hns, fun i y v e1 e2 e3 => ?_⟩, fun y c e => ?_, e0.hok.fresh (Nat.le_refl _), fun y c e => ?_, fun q hq => absurd (show q ∈ ([] : List (Addr × Obj)) ++ [] from hq) List.not_mem_nil, e0.hok.kept kp, I.len⟩
  · have hy : scope.names.lookup y = some .cell ∨ scope.names.lookup y = some .free := hy
    rcases hy with hy | hy
    · exact absurd rfl (L.nocell _ (PySem.mem_of_lookup hy))
    · exact look hy
  · have e1 : X.N[i]? = some y := e1
    have k := freeOf (show Vis scope y from e3) (List.mem_of_getElem? e1)
    obtain ⟨mX, hn, hl⟩ := I.loc
    have hv : Vis X.env.scope y := (L.free _ (PySem.mem_of_lookup k) rfl).elim (fun k => .inr (.inl k)) fun k => .inr (.inr k)
    obtain ⟨w', r, z⟩ := hl i y v e1 e2 hv
    obtain ⟨c2, h2⟩ := look k
    have c1 := cm h2
    refine ⟨w', r, .inr ⟨.inr k, c2, h2, ?_⟩⟩
    rcases z with ⟨k', _⟩ | ⟨_, c3, e', z⟩
    · have k' : X.env.scope.names.lookup y = some .local := k'
      rcases L.free _ (PySem.mem_of_lookup k) rfl with k2 | k2 <;> cases k'.symm.trans k2
    · rw [c1] at e'
      cases e'
      exact cellK (I.freeC y _ c1) z
  · obtain ⟨w', z⟩ := I.cell y c (cm e)
    exact ⟨w', cellK (I.freeC y c (cm e)) z⟩
  · obtain ⟨v, o, ho, hdt⟩ := I.cell y c (cm e)
    exact un.free c o ho (I.freeC y c (cm e)) List.not_mem_nil
theorem pe_act3 {CXg : CXT} {Eg : XK} {Ng : List Str} {qg : Str} {sg : Scope} {ga f c' : Addr} {cdg dv : Value} {params : Arguments} {ys : List Str} {body : Expr} {scope : Scope} {k i : Nat} {a : Str} {pn : List (Addr × Obj)} {xe : Value → Shared → Prop} {E : XK} {tb : TE} {p1 p2 : Pos}
    (I : Inv X pins σ H s) (L : LamS X.N X.env.scope scope ys) (hp : LamP params ys) (LA : LamAt X g m c σ H s0 (X.env.qual ++ "<lambda>") params body scope dv f c' s) (hdv : DvOk dv ys s0)
    (tk : Takes ((cxOf CXg X.prog X.w X.K X.mg X.base Ng qg sg ga cdg X.A X.stack s H Eg).tr pn xe) W) (hW : ∀ cls d σ' H', E cls d H' → W cls d σ' H') (hr : Room (k + 1) (X.A.deeper (envOfC qg sg s.heap.objs.size ga cdg)))
    (hbody : ∀ (A : Around) (outer : List Env) (s : Shared) (H : Hp), Room k (A.deeper (LamX.lamEnv X scope s.heap.objs.size f c')) → PE (LamX.lamCx X A outer s H E scope f c') body tb)
    (hN : Ng[i]? = some a) (hv : Vis sg a) (hn : noDbg a = true) :
    PE ((cxOf CXg X.prog X.w X.K X.mg X.base Ng qg sg ga cdg X.A X.stack s H Eg).tr pn xe) (.Call (.Name a p1) [] [] p2) (fun σZ HZ Q => σZ[i]? = some (some (.ref f)) ∧ HZ c' = some (LamX.CodeO c' (X.env.qual ++ "<lambda>")) ∧ tb σ HZ Q) := by
  refine ⟨fun pinsZ sZ σZ HZ Q IZ ⟨hs, hc, ht⟩ => ?_⟩
  refine wpAny_Call_Name_kw (thn ((pe_var (pos := p1) (i := i) hN hv (noDbg_1 hn) (noDbg_2 hn)).run pinsZ sZ σZ HZ (fun v H1 => v = .ref f ∧ H1 = HZ) IZ ⟨.ref f, hs, rfl, rfl⟩) fun u s1 ⟨v, H1, I1, r1, ev, eH⟩ => ?_)
  subst ev
  subst eH
  obtain rfl : u = Value.ref f := r1
  obtain ⟨pm, ctv, hf⟩ := LA.ob
  have of1 := I1.base.keep f _ hf LA.fn LA.fr (fun z => nomatch (show f ∈ ([] : List Addr) from z))
  have dv1 : DvOk dv ys s1 := by
    rcases hdv with h | ⟨y, t, u, e1, e2, e3⟩
    · exact .inl h
    · obtain ⟨z1, z2, z3⟩ := LA.dk t _ e2 e3 fun vs z => nomatch z
      exact .inr ⟨y, t, u, e1, e2, I1.base.keep t _ z1 z2 z3 fun z => nomatch (show t ∈ ([] : List Addr) from z)⟩
  refine PySem.W.callWith_F0 ⟨_, _, _, _, of1⟩ ?_
  have un : Un (frs X.stack) [] H H1 s.heap s1.heap := I1.base
  obtain ⟨⟨oc, vs, t, hoc, hdc, hvc⟩, _, _⟩ := I1.hok c' _ hc
  obtain ⟨bs, hbs, bnd⟩ := lam_bind (q := X.env.qual ++ "<lambda>") (body := body) (scope := scope) (cl := cloFrom X.env.cells scope.names []) (pm := pm) (cdv := .ref c') (ctv := ctv) hp dv1
  have rc : codeAny (model X.prog X.w) (X.A.deeper (envOfC qg sg s.heap.objs.size ga cdg)) (.call (.ref f) ⟨[], []⟩) (CR (L2.CX X.prog X.w) (envOfC qg sg s.heap.objs.size ga cdg :: X.stack) X.prog X.w H1 s1 Q E) s1 := by
    refine PySem.W.kla_callFunE hr.depth of1 rfl L.co L.gen rfl ⟨c', oc, vs, t, rfl, hoc, hdc, hvc⟩ (bnd _ _ _ _ ?_)
    refine wpAny_newFunctionEnv L.nocell (fun y hy => L.par y.1 (by rw [← hbs]; exact List.mem_map_of_mem hy)) (fun h2 hns hsb => ⟨I1.nolimit.fresh _ hsb, ?_⟩) L.kind
    show codeAny _ _ (.expr body (LamX.lamEnv X scope s1.heap.objs.size f c')) _ _
    have kp : ∀ b o, s1.heap.get? b = some o → h2.get? b = some o := fun b o e => hsb.extBut b o (Nat.ne_of_lt (Heap.lt_size e)) (Heap.get?_push_of_some _ e)
    have J := lam_start3 (A := X.A.deeper (envOfC qg sg s.heap.objs.size ga cdg)) (outer := envOfC qg sg s.heap.objs.size ga cdg :: X.stack) (E := E) (f := f) (c' := c') (tk := s1.toks + bs.length) I L I1.env0 hr.hd un hns kp
    refine PySem.W.kla_codeExpr (wpAny_mono ((hbody _ _ s1 H1 (hr.deeper _)).run [] _ _ H1 Q J ht) (fun v s' ⟨w', H', J', rv, q⟩ => ?_) fun e s' hq => hq)
    exact ⟨w', H', J'.os, J'.bare, J'.base, J'.hok, rv, q⟩
  have hx : Passes (L2.CX X.prog X.w) ((cxOf CXg X.prog X.w X.K X.mg X.base Ng qg sg ga cdg X.A X.stack s H Eg).tr pn xe) E := passes_call tk hW
  refine wpAny_call (codeAny_mono rc fun r s' hq => ?_)
  match r, hq with
  | .error e, hq => exact hx pinsZ σZ H1 s1 e s' I1 hq
  | .ok (.ret u), hq => exact I1.after hq
end
structure Lm (g : G) (X : Cx) (cc P : Addr) (ql : Str) : Prop where
  code : X.env.code = .ref cc
  qual : X.env.qual ++ "<lambda>" = ql
  tb : LamX.TabB g.base g.mg cc P
  hm : (P, ql) ∈ g.T
  hT : ∀ p ∈ g.T, p.1 = P → p.2 = ql
theorem Sim.two {g : G} {m : Mp} {S : List O} {σ : L2.St} {H : Hp} {d : D} {v : V} (h : Sim g m ⟨[], S⟩ [] H) (hl : σ.length = 2) (h1 : σ[1]? = some (some v)) (k : Sv g m d v) : Sim g m ⟨[.no, .val d], S⟩ σ H := by
  refine ⟨h.fr, h.nd, h.tb, h.len, fun c fs e => by simp at e, hl.symm, h.st, h.bk, fun i s hs => ?_⟩
  match i, hs with
  | 0, hs => cases hs; trivial
  | 1, hs => cases hs; exact ⟨v, h1, k⟩
  | n + 2, hs => simp at hs
def cTry (fsu : M Fl) (fb : M D) : M D := fun c => match fb c with
  | .ok d c' => .ok (.tup [.str Str.empty, d]) c'
  | .exc cn vs c' => match fsu ⟨[.no, .val (.exn cn vs)], c'.S⟩ with
    | .ok (.ret d) c2 => .ok d { c' with S := c2.S }
    | _ => .stuck
  | .stuck => .stuck
section
variable {X : Cx} {g : G} {k j : Nat} {N : List Str} {sc ws : Scope} {W : WX} {x a n x1 x2 : Str} {ga CE NF cc P : Addr} {ql : Str} {st : Stmt} {b0 : Stmt} {suite : List Stmt} {fsu : M Fl} {fb : M D} {params : Arguments} {ys : List Str} {body : Expr} {scope : Scope} {j0 kk k2 : Nat} {p1 p2 p3 p4 tp q1 q2 tp2 pos' pos2 p lpos pos : Pos}
theorem sx_try (q : Good g k N X sc ws W) (ql' : Lm g X cc P ql) (F : ∃ fd, L2.Fun g.K x x st ga fd ∧ Binds g.K fd [a] []) (S : FnScope [a, n] [a] (defScope st)) (hk : j + 2 ≤ k) (hg : isGl sc x = true) (hm : g.mg x = some (.ref ga)) (kp : PySem.W.keepIn g.K (.ref ga) = true)
    (hb : defBody st = [.Try [.Return (some (.Tuple [.Constant (.str Str.empty) j0 p4, .Call (.Name a p1) [] [] p2] kk tp)) p3] [.ExceptHandler (some (.Tuple [.Name x1 q1, .Name x2 q2] k2 tp2)) (some n) (b0 :: suite) pos'] [] [] pos2])
    (hna : noDbg a = true) (hln : (defScope st).names.lookup n = some .local) (h1 : isGl (defScope st) x1 = true) (h2 : isGl (defScope st) x2 = true) (m1 : g.mg x1 = some (.ref CE)) (m2 : g.mg x2 = some (.ref NF))
    (hx : ∀ cn C ns, g.exc cn = some (C, ns) → PySem.W.exmAny g.K (.ref C) [.ref CE, .ref NF] = some true)
    (hsu : ∀ Z : Cx, GoodH g j [a, n] Z (defScope st) → PSs Z (b0 :: suite) (tS g WF fsu))
    (hp : LamP params ys) (L : LamS N sc scope ys)
    (hfb : ∀ (Z : Cx) (W' : WX), Good g j N Z scope scope W' → PE Z body (tE g W' fb)) :
    PE X (.Call (.Name x p) [.Lambda params body scope lpos] [] pos) (tE g W (cTry fsu fb)) := by
  obtain ⟨fd, F, hbd⟩ := F
  obtain ⟨oc, od, kV, doc, pm, an, cdv, ct, osl, rfl, lk, hcd⟩ := F.ex
  obtain ⟨hgx, hdx, _⟩ := q.gl hg
  rw [← q.hmg] at hm
  rw [← q.hK] at kp lk hcd hbd
  have L : LamS X.N X.env.scope scope ys := by rw [q.hN, q.hsc]; exact L
  have TB := ql'.tb
  rw [← q.hmg, ← q.hbs] at TB
  refine ⟨fun pins s σ H Q I ⟨m, c, sm, o⟩ => ?_⟩
  refine wpAny_Call_Name_kw (ld_glob I hgx hm ?_ hdx)
  refine PySem.W.callWith_K (h₀ := X.base) I.ok.mod.kin kp ?_ (by rfl) (by rfl)
  show wpAny _ _ (spliced ((false, eval (.Lambda params body scope lpos) X.env) :: backTo pos (starEach [] X.env))) _ _ s
  refine Calls.spliced_cons (lam_eval hp I sm TB ql'.code (by rw [ql'.qual]; exact ql'.hm) (by rw [ql'.qual]; exact ql'.hT) (L.has I.ok) fun f c' m1' H1 dv s0 s' I1 x1' LA hdv => ?_)
  refine Calls.spliced_nil ⟨I1.kIn, ?_⟩
  have hlen : ([a] : List Str).length = 1 := rfl
  have b0' := hbd s' [.ref f] I1.kIn rfl
  have rc : codeAny (model X.prog X.w) X.A (.call (.ref ga) ⟨[.ref f], []⟩) (CR (L2.CX X.prog X.w) X.stack X.prog X.w H1 s' Q (fun _ _ _ => False)) s' := by
    refine LamX.run_ofS (CX := L2.CX X.prog X.w) (k := j + 1) (N := [a, n]) (ps := [a]) (us := [.ref f]) (vs := [.ref f]) lk hcd S (q.room.mono hk) I1.env0 b0' (.cons rfl .nil) rfl fun hr' => ?_
    let Z : Cx := cxOf (L2.CX X.prog X.w) X.prog X.w X.K X.mg X.base [a, n] x (defScope st) ga cdv X.A X.stack s' H1 (fun _ _ _ => False)
    have va : Vis (defScope st) a := vis_p S List.mem_cons_self
    have glo : ∀ {y : Str} {C : Addr}, isGl (defScope st) y = true → g.mg y = some (.ref C) → Gl Z y ∧ (y == ("__debug__" : Str)) = false ∧ Z.mg y = some (.ref C) := fun {y C} hy hc => by
      have z := hy
      unfold isGl at z
      split at z
      · rename_i e
        rw [Bool.and_eq_true] at z
        exact ⟨e, by simpa using z.1, by show X.mg y = _; rw [q.hmg]; exact hc⟩
      · cases z
    let Ec : XK := fun cls d H' => PySem.W.exmAny X.K cls [.ref CE, .ref NF] = some true ∧ ∃ C dd, cls = .ref C ∧ d = some dd ∧ ∀ (a' : Addr) (σ' : L2.St), H' a' = none → σ'.length = 2 → ∃ m2 c2 d2 c3, Sim g m2 c2 (σ'.set 1 (some (.ref a'))) (upd H' a' (exq a' C dd)) ∧ fsu c2 = .ok (.ret d2) c3 ∧ ∀ m3 σ3 v H3, Ext m2 m3 → Sim g m3 c3 σ3 H3 → Sv g m3 d2 v → Q v H3
    have act : ∀ (W2 : WX) (pn : List (Addr × Obj)) (xe : Value → Shared → Prop), Takes (Z.tr pn xe) W2 → (∀ cls d σ' H', Ec cls d H' → W2 cls d σ' H') → PE (Z.tr pn xe) (.Call (.Name a p1) [] [] p2) (fun σZ HZ Q' => σZ[0]? = some (some (.ref f)) ∧ HZ c' = some (LamX.CodeO c' (X.env.qual ++ "<lambda>")) ∧ tE g (fun C d _ H' => Ec C d H') fb σ HZ Q') := fun W2 pn xe tk2 hW2 =>
      pe_act3 (i := 0) (k := j) (E := Ec) I1 L hp LA hdv tk2 hW2 hr' (fun A outer s H hr2 => hfb _ _ ⟨q.hN, q.nd, rfl, rfl, hr2, q.hK, q.hP, q.hw, q.hmg, q.hbs, takes_of rfl rfl rfl rfl, passes_of rfl, fun y hy => by
        unfold isLoc at hy
        split at hy
        · rename_i e
          exact ⟨.inl e, .inr e⟩
        · rename_i e
          exact absurd rfl (L.nocell _ (PySem.mem_of_lookup e))
        · cases hy⟩) rfl va hna
    have su : ∀ (a' : Addr) (pn : List (Addr × Obj)), PSs (Z.suite a' pn) (b0 :: suite) (tS g WF fsu) := fun a' pn => hsu _ ⟨rfl, S.nd, rfl, ⟨by have := hr'.dp; show (X.A.deeper (envOfC x (defScope st) s'.heap.objs.size ga cdv)).depth + 3 * j + 5 < _; omega, by have := hr'.un; show (X.A.deeper (envOfC x (defScope st) s'.heap.objs.size ga cdv)).units + 16 * j + 200 < _; omega⟩, q.hK, q.hP, q.hw, q.hmg, q.hbs⟩
    let tb : WX → TS := fun W2 Dn σZ HZ => (∀ cls d σ' H', Ec cls d H' → W2 cls d σ' H') ∧ σZ[0]? = some (some (.ref f)) ∧ HZ c' = some (LamX.CodeO c' (X.env.qual ++ "<lambda>")) ∧ tE g (fun C d _ H' => Ec C d H') fb σ HZ fun v H' => ∀ p, H' p = none → Dn.rt (.ref p) (upd H' p (.tup [.str Str.empty, v]))
    have tbh : ∀ (W2 : WX) (pn : List (Addr × Obj)) (xe : Value → Shared → Prop), Takes (Z.tr pn xe) W2 → PassesOwn (model Z.prog Z.w) Z.A Z.env xe → PSs (Z.tr pn xe) [.Return (some (.Tuple [.Constant (.str Str.empty) j0 p4, .Call (.Name a p1) [] [] p2] kk tp)) p3] (tb W2) := fun W2 pn xe tk2 own2 => by
      refine ⟨fun pins2 s2 σ2 H2 Dn I2 ⟨w1, w2, w3, w4⟩ => ?_⟩
      refine (pss_one (ps_ret (pos := p3) (pe_tup (pos := tp) (x1 := kk) (pa_cons (pe_str (j := j0) (pos := p4)) (pa_cons (act W2 pn xe tk2 w1) pa_nil (by rfl)) (by rfl))))).run pins2 s2 σ2 H2 Dn I2 ?_
      refine ⟨w2, w3, ?_⟩
      obtain ⟨mm, cm, sm2, o2⟩ := w4
      exact ⟨mm, cm, sm2, o2.imp fun v H' hq => ⟨Nat.le_of_ble_eq_true rfl, hq⟩⟩
    have key := pss_one (ps_try2 (X := Z) (i := 1) (tb := tb) (q1 := q1) (q2 := q2) (tp := tp2) (kk := k2) (pos := pos2) (pos' := pos') rfl rfl rfl S.nd rfl hln (glo h1 m1) (glo h2 m2) tbh su)
    refine ⟨_, by rw [hb]; exact key, ?_⟩
    refine ⟨fun cls d σ' H' ⟨e1, C, dd, e2, e3, e4⟩ => ⟨e1, C, dd, e2, e3, fun a' na hl => ?_⟩, rfl, LA.sim.fr _ _ LA.co, ?_⟩
    · obtain ⟨mm, cm, d2, c3, sm2, e5, o2⟩ := e4 a' σ' na hl
      refine ⟨mm, cm, sm2, ?_⟩
      rw [e5]
      exact o2
    · refine ⟨m1', c, LA.sim, ?_⟩
      have o := o.mono x1'
      unfold cTry at o
      cases r : fb c with
      | ok d c2 =>
        rw [r] at o
        exact fun m' v H' x' s2 k' p hp => out_newT s2 (.cons (.str _) (.cons k' .nil)) (o.mono x') hp
      | exc cn vs c2 =>
        rw [r] at o
        intro m' H' C d x' s2 ex
        obtain ⟨Ca, ns, dd, us, y1, y2, y3, y4, y5, y6⟩ := ex
        refine ⟨by rw [q.hK, y2]; exact hx cn Ca ns y1, Ca, dd, y2, y3, fun a' σ' na hl => ?_⟩
        obtain ⟨s3, x3⟩ := s2.frozen (u := exq a' Ca dd) na (fun ps z => by
          unfold exq at z
          cases z)
        have o : Out (rE g) g W σ m1' (match fsu ⟨[.no, .val (.exn cn vs)], c2.S⟩ with
          | .ok (.ret d) c3 => .ok d { c2 with S := c3.S }
          | _ => .stuck) Q := o
        have kx : Sv g (Mp.call { m' with F := upd m'.F a' (exq a' Ca dd) } (upd H' a' (exq a' Ca dd)) [] m'.ini) (.exn cn vs) (.ref a') := .exn (dd := dd) y1 upd_same (x3.f _ _ y4) (Svs.like (m := m') (m' := Mp.call { m' with F := upd m'.F a' (exq a' Ca dd) } (upd H' a' (exq a' Ca dd)) [] m'.ini) (fun _ _ z => z) x3.f y5) y6
        have s4 := (s3.call [] m'.ini).two (σ := σ'.set 1 (some (.ref a'))) (by rw [List.length_set]; exact hl) (List.getElem?_set_self (by rw [hl]; decide)) kx
        cases r2 : fsu ⟨[.no, .val (.exn cn vs)], c2.S⟩ with
        | exc _ _ _ => rw [r2] at o; exact o.elim
        | stuck => rw [r2] at o; exact o.elim
        | ok fl c3 =>
          rw [r2] at o
          cases fl with
          | next => exact o.elim
          | brk => exact o.elim
          | cont => exact o.elim
          | ret d2 =>
            refine ⟨_, _, d2, c3, s4, r2, fun m3 σ3 v H3 x5 s5 k5 => ?_⟩
            obtain ⟨x6, s6⟩ := s3.back (ex := []) (fun a z => absurd z List.not_mem_nil) x5 s5.drop
            exact o _ v H3 (x'.trans (x3.trans x6)) s6 (Sv.like (m := m3) (m' := ⟨m3.rho, m3.F, m'.B, m'.lam, m'.ini⟩) (fun _ _ z => z) (fun _ _ z => z) k5)
      | stuck => rw [r] at o; exact o.elim
  refine wpAny_call (codeAny_mono rc fun r s2 hq => ?_)
  match r, hq with
  | .error e, hq => exact (noPass (X := X) pins σ H1 s' e s2 I1 hq)
  | .ok (.ret u), hq => exact I1.after hq
end
end CL
namespace CL
open PySem PySem.Spec PyProof.Rows L2
theorem fn_cOkL {g : G} {x qual ql : Str} {st : Stmt} {f cc P : Addr} {fd : FuncData} {N ps : List Str} {k : Nat} {fb : M Fl} (F : L2.Fun g.K x qual st f fd) (S : FnScope N ps (defScope st)) (hc : fd.code = .ref cc) (hq : (qual ++ ".<locals>.") ++ "<lambda>" = ql) (tb : LamX.TabB g.base g.mg cc P) (hm : (P, ql) ∈ g.T) (hT : ∀ p ∈ g.T, p.1 = P → p.2 = ql)
    (h : ∀ (X : Cx) (W : WX), Good g k N X (defScope st) (defScope st) W → Lm g X cc P ql → PSs X (defBody st) (tS g W fb)) : FnOk g.prog g.w g.K g.mg g.base (L2.CX g.prog g.w) (k + 1) f fd ps (spOf g (fnB N.length ps.length fb)) := by
  obtain ⟨oc, od, kV, doc, pm, an, cdv, ct, osl, rfl, lk, hcd⟩ := F.ex
  have hc : cdv = .ref cc := hc
  refine fn_of lk hcd S (fun vs H Q E hs => ?_) fun A outer s H vs Q E hr hs => ?_
  · obtain ⟨m, S', ds, sm, hv, o⟩ := hs
    unfold fnB at o
    cases e : decide (ds.length = ps.length) with
    | false => rw [e] at o; exact o.elim
    | true => rw [← hv.length]; exact of_decide_eq_true e
  · obtain ⟨m, S', ds, sm, hv, o⟩ := hs
    unfold fnB at o
    cases e : decide (ds.length = ps.length) with
    | false => rw [e] at o; exact o.elim
    | true =>
      rw [e] at o
      exact ⟨_, h _ _ (good_of S hr) ⟨hc, hq, tb, hm, hT⟩, m, _, sm.start hv, outS_F (S := S') (fun _ _ _ _ h => h) o⟩
theorem exm_two {K : PySem.W.Frag} {C CE NF : Addr} {b : Bool} (e1 : PySem.W.subIn K (.ref CE) (.type "BaseException") = some true) (e2 : PySem.W.subIn K (.ref NF) (.type "BaseException") = some true) (hC : PySem.W.isClsIn K C = true) (i1 : PySem.W.isClsIn K CE = true) (i2 : PySem.W.isClsIn K NF = true)
    (t1 : PySem.W.typeIn K (.ref CE) = some (.type "type")) (t2 : PySem.W.typeIn K (.ref NF) = some (.type "type")) (s1 : PySem.W.subIn K (.ref C) (.ref CE) = some b) (s2 : PySem.W.subIn K (.ref C) (.ref NF) = some (!b)) : PySem.W.exmAny K (.ref C) [.ref CE, .ref NF] = some true := by
  have one : ∀ {D : Addr} {c : Bool}, PySem.W.subIn K (.ref D) (.type "BaseException") = some true → PySem.W.isClsIn K D = true → PySem.W.typeIn K (.ref D) = some (.type "type") → PySem.W.subIn K (.ref C) (.ref D) = some c → PySem.W.exmOne K (.ref C) (.ref D) = some c := fun {D c} h1 h2 h3 h4 => by
    have e1 : (PySem.W.subIn K (.ref D) (.type "BaseException") == some true) = true := by rw [h1] <;> rfl
    have e2 : ((PySem.W.clsIn K D).isSome && PySem.W.typeIn K (.ref D) == some (.type "type")) = true := by
      have z : (PySem.W.clsIn K D).isSome = true := h2
      rw [z, h3] <;> rfl
    unfold PySem.W.exmOne PySem.W.kitCls
    rw [if_pos e1]
    dsimp only
    rw [if_pos e2]
    exact h4
  unfold PySem.W.exmAny PySem.W.exmAny PySem.W.exmAny
  rw [one e1 i1 t1 s1, one e2 i2 t2 s2]
  cases b <;> rfl
end CL
namespace CL
open PySem
section
variable {α : Type} {f h : M Fl} {c c1 c2 : CS} {d x y : D} {b : Bool} {fa fb fe : M D} {t u : M Bool} {k : D → D → M D} {r : R D} {a1 a2 : M α}
theorem op_of (ea : fa c = .ok x c1) (eb : fb c1 = .ok y c2) (e : k x y c2 = r) : cOp k fa fb c = r := by
  show (fa c).bind (fun x c' => (fb c').bind fun y c'' => k x y c'') = r
  rw [ea]
  show (fb c1).bind (fun y c'' => k x y c'') = r
  rw [eb]
  exact e
theorem asB_of (e : fe c = .ok (.bl b) c1) : asB fe c = .ok b c1 := by
  show (fe c).bind cB = _
  rw [e]
  rfl
theorem ifS_t (e : t c = .ok true c1) : cIfS t f h c = f c1 := by
  show (t c).bind _ = _
  rw [e]
  rfl
theorem ifS_f (e : t c = .ok false c1) : cIfS t f h c = h c1 := by
  show (t c).bind _ = _
  rw [e]
  rfl
theorem ifS_n (e : t c = .ok false c1) : cIfS t f cNext c = .ok .next c1 := ifS_f e
theorem orT_f (e : t c = .ok false c1) : cOrT t u c = u c1 := by
  show (t c).bind _ = _
  rw [e]
  rfl
theorem notT_of (e : t c = .ok b c1) : cNotT t c = .ok (!b) c1 := by
  show (t c).bind _ = _
  rw [e]
  rfl
theorem tru_bl (e : fe c = .ok (.bl b) c1) : cTru fe c = .ok b c1 := by
  show (fe c).bind _ = _
  rw [e]
  rfl
theorem set_of {i : Nat} (e : fe c = .ok d c1) : cSet i fe c = .ok .next (c1.put i (.val d)) := by
  show (fe c).bind _ = _
  rw [e]
  rfl
theorem ret_of (e : fe c = .ok d c1) : cRet fe c = .ok (.ret d) c1 := by
  show (fe c).bind _ = _
  rw [e]
  rfl
theorem and_t (e : fa c = .ok (.bl true) c1) : cAnd fa fb c = fb c1 := by
  show (fa c).bind _ = _
  rw [e]
  rfl
theorem not_of (e : fe c = .ok (.bl b) c1) : cNot fe c = .ok (.bl (!b)) c1 := by
  show (fe c).bind _ = _
  rw [e]
  rfl
theorem cons_of {fr : M (List D)} {xs : List D} (ea : fa c = .ok x c1) (er : fr c1 = .ok xs c2) : cCons fa fr c = .ok (x :: xs) c2 := by
  show (fa c).bind (fun x c' => (fr c').bind fun xs => M.ret (x :: xs)) = _
  rw [ea]
  show (fr c1).bind _ = _
  rw [er]
  rfl
theorem call_of {fn : Fn} {fr : M (List D)} {xs : List D} (er : fr c = .ok xs c1) : cCall fn fr c = liftF (fn xs c1.S) c1 := by
  show (fr c).bind _ = _
  rw [er]
  rfl
theorem nilA : (M.ret ([] : List D)) c = .ok [] c := rfl
theorem call2_of {fn : Fn} (ea : fa c = .ok x c1) (eb : fb c1 = .ok y c2) : cCall fn (cCons fa (cCons fb (M.ret []))) c = liftF (fn [x, y] c2.S) c2 := call_of (cons_of ea (cons_of eb nilA))
theorem opL_of {kl : D → D → M (List D)} {r : R (List D)} (ea : fa c = .ok x c1) (eb : fb c1 = .ok y c2) (e : kl x y c2 = r) : cOpL kl fa fb c = r := by
  show (fa c).bind (fun x c' => (fb c').bind fun y c'' => kl x y c'') = r
  rw [ea]
  show (fb c1).bind (fun y c'' => kl x y c'') = r
  rw [eb]
  exact e
theorem froz_of {fl : M (List D)} {xs : List D} (e : fl c = .ok xs c1) : froz fl c = .ok (.lst xs) c1 := by
  show (fl c).bind _ = _
  rw [e]
  rfl
theorem range2_of {i j : Int} (ea : fa c = .ok (.int i) c1) (eb : fb c1 = .ok (.int j) c2) (h : (fitsR i && fitsR j) = true) : cRange2 fa fb c = .ok (rangeD i (j - i).toNat) c2 := by
  show (fa c).bind _ = _
  rw [ea]
  show (fb c1).bind _ = _
  rw [eb]
  show M.guard (fitsR i && fitsR j) _ c2 = _
  rw [h]
  rfl
theorem for_of {fi : M (List D)} {tg : Tg} {ds : List D} {r : R Fl} (ei : fi c = .ok ds c1) (e : forL (fun d => cSeq (cTg tg d) f) ds c1 = r) : cFor fi tg f c = r := by
  show (fi c).bind _ = _
  rw [ei]
  exact e
theorem par_of {i j : Nat} {fr : M (List D)} (e : fr c = .ok [x, y] c1) : cPar i j fr c = .ok .next ((c1.put i (.val x)).put j (.val y)) := by
  show (fr c).bind _ = _
  rw [e]
  rfl
theorem tup_of {fr : M (List D)} {xs : List D} (e : fr c = .ok xs c1) (h : szOk xs.length = true) : cTup fr c = .ok (.tup xs) c1 := by
  show (fr c).bind _ = _
  rw [e]
  show M.guard (szOk xs.length) _ c1 = _
  rw [h]
  rfl
theorem lst_of {fr : M (List D)} {xs : List D} (e : fr c = .ok xs c1) (h : szOk xs.length = true) : cLst fr c = .ok xs c1 := by
  show (fr c).bind _ = _
  rw [e]
  show M.guard (szOk xs.length) _ c1 = _
  rw [h]
  rfl
end
end CL
namespace CL
open PySem PySem.Spec PyProof.Rows L2
section
variable {X : Cx} {g : G} {k : Nat} {N : List Str} {sc ws : Scope} {W : WX} {pos px apos cpos p2 : Pos} {e1 e2 : Expr} {fr : M (List D)} {i : Nat} {x : Str} {lo hi : Option Expr} {fl fh : M (Option Int)}
end
section
variable {X : Cx} {g : G} {k : Nat} {N : List Str} {sc ws : Scope} {W : WX} {p pos : Pos} {e : Expr} {es : List Expr} {fa : M (List D)}
end
end CL
namespace CL
open PySem PySem.Spec PyProof.Rows L2
def lcL2 (t : Tg) (ft : M Bool) (fi1 : M (List D)) (t1 : Tg) (ft1 : M Bool) (fe : M D) (vs1 vs : List Nat) : List D → List D → M (List D)
  | [], acc => M.ret acc
  | d :: ds, acc => fun c => match cTg t d c with
    | .ok .next c1 => match ft c1 with
      | .ok true c2 => match fi1 c2 with
        | .ok ds1 c3 => (lcL t1 ft1 fe vs1 ds1 acc (wipeC vs1 c3)).bind fun acc' c4 => lcL2 t ft fi1 t1 ft1 fe vs1 vs ds acc' (wipeC vs c4)
        | _ => .stuck
      | .ok false c2 => lcL2 t ft fi1 t1 ft1 fe vs1 vs ds acc (wipeC vs c2)
      | _ => .stuck
    | _ => .stuck
def cLc2 (fi : M (List D)) (t : Tg) (ft : M Bool) (fi1 : M (List D)) (t1 : Tg) (ft1 : M Bool) (fe : M D) (vs1 vs : List Nat) : M (List D) := fun c => (fi c).bind fun ds c' => lcL2 t ft fi1 t1 ft1 fe vs1 vs ds [] (wipeC vs c')
section
variable {g : G} {k : Nat} {N : List Str} {X : Cx} {sc ws : Scope} {W : WX} {pos : Pos} {tg iter tg1 iter1 elt : Expr} {ifs ifs1 : List Expr} {fi fi1 : M (List D)} {t t1 : Tg} {ft ft1 : M Bool} {fe : M D} {scope : Scope} {own : List (Str × Nat)} {vs1 : List Nat}
structure LcJ2 (g : G) (X : Cx) (scope : Scope) (tg : Expr) (t : Tg) (ifs : List Expr) (ft : M Bool) (tg1 : Expr) (t1 : Tg) (iter1 : Expr) (fi1 : M (List D)) (ifs1 : List Expr) (ft1 : M Bool) (elt : Expr) (fe : M D) : Prop where
  tg : ∀ (s : Shared) (H : Hp) (C : Addr) (cl : List (Str × Addr)) (fp : List Addr), PTg g (X.blk s H scope (compEnvC scope cl C X.env) fp) tg t
  ts : ∀ (s : Shared) (H : Hp) (C : Addr) (cl : List (Str × Addr)) (fp : List Addr), PTs (X.blk s H scope (compEnvC scope cl C X.env) fp) ifs (tT g WF ft)
  it1 : ∀ (s : Shared) (H : Hp) (C : Addr) (cl : List (Str × Addr)) (fp : List Addr), PI (X.blk s H scope (compEnvC scope cl C X.env) fp) tg1 iter1 (tI g WF fi1)
  tg1 : ∀ (s : Shared) (H : Hp) (C : Addr) (cl : List (Str × Addr)) (fp : List Addr), PTg g (X.blk s H scope (compEnvC scope cl C X.env) fp) tg1 t1
  ts1 : ∀ (s : Shared) (H : Hp) (C : Addr) (cl : List (Str × Addr)) (fp : List Addr), PTs (X.blk s H scope (compEnvC scope cl C X.env) fp) ifs1 (tT g WF ft1)
  el : ∀ (s : Shared) (H : Hp) (C : Addr) (cl : List (Str × Addr)) (fp : List Addr), PE (X.blk s H scope (compEnvC scope cl C X.env) fp) elt (tE g WF fe)
end
end CL
namespace CL
open PySem PySem.Spec PyProof.Rows L2
def YldG (g : G) (m : Mp) (J : It) (ds : List D) (P : CS → Bool) : Prop := ∀ (m1 : Mp) (c : CS) (σ : L2.St) (H : Hp), (∀ (n : Nat) (a : Addr), m.rho[n]? = some a → m1.rho[n]? = some a) → (∀ (a : Addr) (o : HO), m.F a = some o → m1.F a = some o) → Sim g m1 c σ H → P c = true → ∀ i : Nat,
  (i = ds.length → J.stop i H) ∧ ∀ d, ds[i]? = some d → J.go i H ∧ ∀ x H', J.yld i H x H' → ∃ m2, Ext m1 m2 ∧ Sim g m2 c σ H' ∧ Sv g m2 d x
def rIG (g : G) : Rl (List D × (CS → Bool)) It := fun m _ _ p J => YldG g m J p.1 p.2
abbrev tIG (g : G) (W : WX) (f : M (List D × (CS → Bool))) : TI := tX (rIG g) g W f
noncomputable def isAt (d : D) (l : List D) : CS → Bool := fun c => @decide (c.seqL d = some l) (Classical.propDecidable _)
theorem isAt_iff {d : D} {l : List D} {c : CS} : isAt d l c = true ↔ c.seqL d = some l := by
  unfold isAt
  exact @decide_eq_true_iff _ (Classical.propDecidable _)
noncomputable def dWalkG (d : D) : M (List D × (CS → Bool)) := fun c => match c.seqL d with
  | some l => .ok (l, isAt d l) c
  | none => .stuck
noncomputable def cWalkG (f : M D) : M (List D × (CS → Bool)) := f.bind dWalkG
def dZipT (x y : D) : M (List D × (CS → Bool)) := fun c => match x, y with
  | .tup xs, .tup ys => .ok (zipD xs ys, fun _ => true) c
  | _, _ => .stuck
noncomputable def dZipG (x y : D) : M (List D × (CS → Bool)) := fun c => match c.seqL x, c.seqL y with
  | some xs, some ys => .ok (zipD xs ys, fun c => isAt x xs c && isAt y ys c) c
  | _, _ => dZipT x y c
noncomputable def cZipG (f h : M D) : M (List D × (CS → Bool)) := f.bind fun x => h.bind fun y => dZipG x y
theorem Sim.at {g : G} {m m1 : Mp} {c : CS} {σ : L2.St} {H : Hp} {d : D} {l : List D} {a : Addr} (s : Sim g m1 c σ H) (xr : ∀ (n : Nat) (a : Addr), m.rho[n]? = some a → m1.rho[n]? = some a) (xf : ∀ (a : Addr) (o : HO), m.F a = some o → m1.F a = some o) (k : Sv g m d (.ref a)) (e : isAt d l c = true) : ∃ vs, H a = some (.lst vs) ∧ Svs g m1 l vs := by
  obtain ⟨p, vs, e1, h1, h2⟩ := s.seqL (isAt_iff.mp e) (Sv.like xr xf k)
  cases e1
  exact ⟨vs, h1, h2⟩
theorem yldG_zip {g : G} {m : Mp} {a b : Addr} {x y : D} {ds es : List D} (k : Sv g m x (.ref a)) (l : Sv g m y (.ref b)) : YldG g m (Itz g.K a b) (zipD ds es) (fun c => isAt x ds c && isAt y es c) := fun m1 c σ H xr xf s p i => by
  rw [Bool.and_eq_true] at p
  obtain ⟨vs, h, k⟩ := s.at xr xf k p.1
  obtain ⟨ws, h', k'⟩ := s.at xr xf l p.2
  have hq : SqL g.K H a vs := SqL.of h
  have hq' : SqL g.K H b ws := SqL.of h'
  have kl := k.length
  have kl' := k'.length
  refine ⟨fun hi => ⟨vs, ws, hq, hq', by rw [zipD_length] at hi; omega⟩, fun d hd => ?_⟩
  obtain ⟨x, y, hx, hy, rfl⟩ := zipD_at hd
  obtain ⟨v, h1, h2⟩ := k.get hx
  obtain ⟨w, g1, g2⟩ := k'.get hy
  refine ⟨⟨vs, ws, v, w, hq, hq', h1, g1⟩, fun z H' ⟨T, v', w', e1, e2, e3, e4, e5⟩ => ?_⟩
  have f4 := e4 vs hq
  have f5 := e5 ws hq'
  rw [h1] at f4
  rw [g1] at f5
  cases f4
  cases f5
  subst e1 e3
  exact yld_pair2 s h2 g2 e2
theorem yldG_of {g : G} {m : Mp} {J : It} {ds : List D} {P : CS → Bool} (y : Yld g m J ds) : YldG g m J ds P := fun m1 c σ H xr xf s _ i => y m1 c σ H xr xf s i
section
variable {g : G} {k : Nat} {N : List Str} {X : Cx} {sc ws : Scope} {W : WX} {p pos tpos : Pos} {e e2 tg : Expr} {fe fe2 : M D} {es : List Expr} {kk : Nat}
theorem sq_zipG (q : Good g k N X sc ws W) (hg : isGl sc "zip" = true) (hm : g.mg "zip" = none) (he : PE X e (tE g W fe)) (he2 : PE X e2 (tE g W fe2)) (hs : isStar e = false) (hs2 : isStar e2 = false) : PI X (.Tuple es kk tpos) (.Call (.Name "zip" p) [e, e2] [] pos) (tIG g W (cZipG fe fe2)) := by
  refine pi_imp (RZ.pi_zipA (q.gl hg).1 (by rw [q.hmg]; exact hm) (pa_cons he (pa_cons he2 pa_nil (star_plain hs2)) (star_plain hs)) (star_plain hs) (plain_any (es := [e2]) (by unfold plainArgs; simp [hs2]))) fun σ H R ⟨m, c, s, o⟩ => ⟨m, c, s, o.bind.imp fun v H1 ⟨m1, d, c1, x1, s1, k1, o1⟩ => ⟨m1, c1, s1, o1.bind.imp fun w H2 ⟨m2, d2, c2, x2, s2, k2, o2⟩ => ?_⟩⟩
  have k1 := k1.mono x2
  rw [q.hK]
  unfold dZipG at o2
  show ∃ a b xs ys, [v, w] = [V.ref a, V.ref b] ∧ (SqL g.K H2 a xs ∧ SqL g.K H2 b ys ∧ R (Itz g.K a b) H2 ∨ SqT g.K H2 a xs ∧ SqT g.K H2 b ys ∧ R (RZ.ItzT g.K a b) H2)
  have tups : Out (rIG g) g W σ m2 (dZipT d d2 c2) R → ∃ a b xs ys, [v, w] = [V.ref a, V.ref b] ∧ (SqL g.K H2 a xs ∧ SqL g.K H2 b ys ∧ R (Itz g.K a b) H2 ∨ SqT g.K H2 a xs ∧ SqT g.K H2 b ys ∧ R (RZ.ItzT g.K a b) H2) := fun o2 => by
    cases k1 with
    | @tup a xs vs h1 h2 =>
      cases k2 with
      | @tup b ys us g1 g2 => exact ⟨a, b, vs, us, rfl, .inr ⟨s2.sqT h1, s2.sqT g1, o2.here s2 (yldG_of (yld_zipT h1 h2 g1 g2))⟩⟩
      | _ => exact o2.elim
    | _ => cases k2 <;> exact o2.elim
  cases e1 : c2.seqL d with
  | none => rw [e1] at o2; exact tups o2
  | some xs =>
    cases e2 : c2.seqL d2 with
    | none => rw [e1, e2] at o2; exact tups o2
    | some ys =>
      rw [e1, e2] at o2
      obtain ⟨a, vs, rfl, h1, h2⟩ := s2.seqL e1 k1
      obtain ⟨b, us, rfl, g1, g2⟩ := s2.seqL e2 k2
      exact ⟨a, b, vs, us, rfl, .inl ⟨SqL.of h1, SqL.of g1, o2.here s2 (yldG_zip k1 k2)⟩⟩
end
def lcLG (pc : CS → Bool) (t : Tg) (ft : M Bool) (fe : M D) (vs : List Nat) : List D → List D → M (List D)
  | [], acc => fun c => match pc c with
    | true => .ok acc c
    | false => .stuck
  | d :: ds, acc => fun c => match pc c with
    | false => .stuck
    | true => match cTg t d c with
      | .ok .next c1 => match ft c1 with
        | .ok true c2 => match fe c2 with
          | .ok y c3 => M.guard (decide (acc.length < sizeLine)) (lcLG pc t ft fe vs ds (acc ++ [y])) (wipeC vs c3)
          | _ => .stuck
        | .ok false c2 => lcLG pc t ft fe vs ds acc (wipeC vs c2)
        | _ => .stuck
      | _ => .stuck
def cLcG (fi : M (List D × (CS → Bool))) (t : Tg) (ft : M Bool) (fe : M D) (vs : List Nat) : M (List D) := fun c => (fi c).bind fun p c' => lcLG p.2 t ft fe vs p.1 [] (wipeC vs c')
def LcIG (g : G) (W : WX) (σ : L2.St) (vs : List Nat) (Q : VK) (pc : CS → Bool) (t : Tg) (ft : M Bool) (fe : M D) (m1 : Mp) (Dl : Addr) (rest : List D) (H : Hp) : Prop :=
  ∃ m2 c2 acc av, Ext m1 m2 ∧ Sim g m2 c2 (L2.wipe σ vs) H ∧ H Dl = some (.lst av) ∧ Svs g m2 acc av ∧ Fre m2 c2 Dl ∧ Out (rL g) g W σ m2 (lcLG pc t ft fe vs rest acc c2) Q
section
variable {g : G} {k : Nat} {N : List Str} {X : Cx} {sc ws : Scope} {W : WX} {pos : Pos} {tg iter elt : Expr} {ifs : List Expr} {fi : M (List D × (CS → Bool))} {t : Tg} {ft : M Bool} {fe : M D} {scope : Scope} {own : List (Str × Nat)}
theorem lcG_read (hv : ∀ i ∈ t.slots, i ∈ own.map (·.2)) (σ : L2.St) (H : Hp) (Q : VK) (q : tL g W (cLcG fi t ft fe (own.map (·.2))) σ H Q) : tLc (tIG g W fi) (gT g t) (tT g WF ft) (tE g WF fe) (own.map (·.2)) σ H Q := by
  obtain ⟨m, c, s, o⟩ := q
  refine ⟨m, c, s, o.bind.imp fun J H1 ⟨m1, ⟨ds, pc⟩, c1, x1, s1, y, o1⟩ => fun Dl hD => ?_⟩
  obtain ⟨s2, f2⟩ := (s1.wipe (own.map (·.2))).new (u := .lst []) hD
  refine ⟨fun i mm H => mm = ds.length - i ∧ i ≤ ds.length ∧ LcIG g W σ (own.map (·.2)) Q pc t ft fe m1 Dl (ds.drop i) H, ⟨ds.length, by simp, Nat.zero_le _, m1, _, [], [], Ext.rfl', s2, upd_same, .nil, f2, o1⟩, ?_⟩
  rintro i mm H2 ⟨rfl, hi, m2, c2, acc, av, x2, s2, hp, ha, f2, o2⟩
  have pcOk : pc c2 = true := by
    cases hpc : pc c2 with
    | true => rfl
    | false =>
      exfalso
      cases hd : ds.drop i with
      | nil =>
        rw [hd, lcLG] at o2
        dsimp only at o2
        rw [hpc] at o2
        exact o2.elim
      | cons d r =>
        rw [hd, lcLG] at o2
        dsimp only at o2
        rw [hpc] at o2
        exact o2.elim
  by_cases hlt : i < ds.length
  · have sB := s2.hide f2 hp (fun ps z => nomatch z)
    obtain ⟨_, y2⟩ := y { m2 with B := upd m2.B Dl (.lst av) } c2 _ H2 x2.r x2.f sB pcOk i
    obtain ⟨go, yl⟩ := y2 _ (List.getElem?_eq_getElem hlt)
    rw [List.drop_eq_getElem_cons hlt] at o2
    refine .inr ⟨go, LcIG g W σ (own.map (·.2)) Q pc t ft fe m1 Dl (ds.drop (i + 1)), fun H3 z => ⟨ds.length - (i + 1), by omega, rfl, hlt, z⟩, fun x H3 yx => ?_⟩
    obtain ⟨m3, x3, s3, k3⟩ := yl x H3 yx
    unfold lcLG at o2
    rw [pcOk] at o2
    dsimp only at o2
    have fin : ∀ {m6 : Mp} {c6 : CS} {σ4 : L2.St} {H4 : Hp} {acc' : List D} {av' : List V}, Ext { m2 with B := upd m2.B Dl (.lst av) } m6 → Sim g m6 c6 σ4 H4 → L2.wipe σ4 (own.map (·.2)) = L2.wipe σ (own.map (·.2)) → Svs g m6 acc' av' → Out (rL g) g W σ m2 (lcLG pc t ft fe (own.map (·.2)) (ds.drop (i + 1)) acc' (wipeC (own.map (·.2)) c6)) Q →
        H4 Dl = some (.lst av) ∧ LcIG g W σ (own.map (·.2)) Q pc t ft fe m1 Dl (ds.drop (i + 1)) (upd H4 Dl (.lst av')) := fun {m6 c6 σ4 H4 acc' av'} x6 s6 w6 k6 o6 => by
      obtain ⟨z1, z2, z3⟩ := s6.unhide (u' := .lst av') x6.b f2.b
      have ex : Ext m2 { m6 with B := m2.B } := ⟨x6.r, x6.f, rfl, x6.i⟩
      refine ⟨z1, { m6 with B := m2.B }, wipeC (own.map (·.2)) c6, acc', av', x2.trans ex, ?_, upd_same, Svs.like (m := m6) (m' := { m6 with B := m2.B }) (fun _ _ z => z) (fun _ _ z => z) k6, z3.wipe _, o6.mono ex⟩
      have z := z2.wipe (own.map (·.2))
      rw [w6] at z
      exact z
    have same : ∀ {H4 : Hp}, H4 Dl = some (.lst av) → upd H4 Dl (.lst av) = H4 := fun {H4} h => by
      funext b
      by_cases e : b = Dl
      · rw [e, upd_same, h]
      · rw [upd_ne e]
    rcases cTg_next t ds[i] c2 with ⟨c4, e4⟩ | e4
    · rw [e4] at o2
      dsimp only at o2
      refine PTg.go s3 k3 e4 fun σ4 s4 w4 => ⟨?_, m3, c4, s4, ?_⟩
      · rw [w4 _ hv, wipe_wipe]
      · have w4 := (w4 _ hv).trans (wipe_wipe σ _)
        cases q : ft c4 with
        | ok b c5 =>
          rw [q] at o2
          intro m5 b' H5 x5 s5 kb
          have kb : b = b' := kb
          subst kb
          cases b with
          | true =>
            dsimp only at o2
            show tE g WF fe σ4 H5 _
            refine ⟨m5, c5, s5, ?_⟩
            cases r : fe c5 with
            | ok yv c6 =>
              rw [r] at o2
              obtain ⟨hz, o2⟩ := Out.guard o2
              intro m6 v H6 x6 s6 k6
              have xx := (x3.trans x5).trans x6
              obtain ⟨z1, z2⟩ := fin xx s6 w4 ((Svs.like (m := m2) (m' := m6) xx.r xx.f ha).append (.cons k6 .nil)) o2
              exact ⟨av, z1, by rw [← ha.length]; exact of_decide_eq_true hz, z2⟩
            | exc cn us c6 => rw [r] at o2; exact o2.elim
            | stuck => rw [r] at o2; exact o2.elim
          | false =>
            dsimp only at o2
            have xx := x3.trans x5
            obtain ⟨z1, z2⟩ := fin xx s5 w4 (Svs.like (m := m2) (m' := m5) xx.r xx.f ha) o2
            rw [same z1] at z2
            exact z2
        | exc cn us c5 => rw [q] at o2; exact o2.elim
        | stuck => rw [q] at o2; exact o2.elim
    · rw [e4] at o2
      exact o2.elim
  · have e : i = ds.length := by omega
    subst e
    obtain ⟨y1, _⟩ := y m2 c2 _ H2 x2.r x2.f s2 pcOk ds.length
    rw [List.drop_length, lcLG] at o2
    dsimp only at o2
    rw [pcOk] at o2
    exact .inl ⟨y1 rfl, o2.here s2.unwipe ⟨Dl, av, rfl, hp, ha, f2⟩⟩
theorem sl_lcG (q : Good g k N X sc ws W) (hi : PI X tg iter (tIG g W fi)) (ok : BlkOk X.N X.env.scope scope own) (J : LcJ g X scope tg t ifs ft elt fe) (hv : ∀ i ∈ t.slots, i ∈ own.map (·.2)) (hs : notSet iter = true) : PE X (.ListComp elt [⟨tg, iter, ifs, 0⟩] scope pos) (tL g W (cLcG fi t ft fe (own.map (·.2)))) :=
  pe_imp (pe_lc q.calm q.ndX hi ok (fun s H C cl fp => (J.tg s H C cl fp).run) J.ts J.el (folded_ok hs)) (lcG_read hv)
end
end CL
namespace CL
open PySem PySem.Spec PyProof.Rows L2
def forLG (pc : CS → Bool) (body : D → M Fl) : List D → M Fl
  | [] => fun c => match pc c with
    | true => .ok .next c
    | false => .stuck
  | d :: ds => fun c => match pc c with
    | false => .stuck
    | true => match body d c with
      | .ok .next c' => forLG pc body ds c'
      | .ok .cont c' => forLG pc body ds c'
      | .ok .brk c' => .ok .next c'
      | .ok (.ret v) c' => .ok (.ret v) c'
      | .exc cn vs c' => .exc cn vs c'
      | .stuck => .stuck
def cForG (fi : M (List D × (CS → Bool))) (t : Tg) (body : M Fl) : M Fl := fun c => (fi c).bind fun p c' => forLG p.2 (fun d => cSeq (cTg t d) body) p.1 c'
section
variable {g : G} {k : Nat} {N : List Str} {X : Cx} {sc ws : Scope} {W : WX} {pos : Pos} {tg iter : Expr} {bd : List Stmt} {fi : M (List D × (CS → Bool))} {t : Tg} {fb : M Fl}
end
end CL
namespace CL
open PySem PySem.Spec PyProof.Rows L2
def leEnd : List Value := [.type "LookupError", .type "Exception", .type "BaseException", .type "object"]
inductive LeMro : List Value → Prop
  | fin : LeMro leEnd
  | own {a : Addr} {l : List Value} : LeMro l → LeMro (.ref a :: l)
theorem LeMro.has {l : List Value} (h : LeMro l) (T : String) : l.contains (.type T) = leEnd.contains (.type T) := by
  induction h with
  | fin => rfl
  | own _ ih => rw [List.contains_cons, ih]; rfl
theorem LeMro.some {l : List Value} (h : LeMro l) : l.isEmpty = false := by cases h <;> rfl
section
open Builtin Builtin.ObjectAttr
variable {P : Program} {w : World} {A : Around} {E : Value → Shared → Prop} {R : Result → Shared → Prop} {hp : Heap} {g : Array GenState} {d : Drawn} {t : Nat} {os : OsState} {K : PySem.W.Frag} {nm : Str} {tk : Tok} {v : Value} {x C dx : Addr} {cd : ClassData} {ox : Obj} {od : Option Obj}
end
structure OexL (K : PySem.W.Frag) (C : Addr) : Prop where
  cls : ∃ n1 n2 N bs bm sn sub ab col dd k0 k1 k2 k3 k5, K.lookup C = some (excClassObj n1 n2 C N bs bm true sn sub ab col dd k0 k1 k2 k3 k5 "LookupError.__new__") ∧ LeMro bm
  sa : PySem.W.findIn K (.ref C) "__setattr__" = some (some (.builtin "object.__setattr__"))
  exC : PySem.W.subIn K (.ref C) (.type "BaseException") = some true
  tyC : PySem.W.typeIn K (.ref C) = some (.type "type")
  kC : PySem.W.keepIn K (.ref C) = true
section
variable {X : Cx} {pins : List (Addr × Obj)} {σ : L2.St} {H : Hp} {s : Shared} {a C dx : Addr} {f : Str} {y : V} {u : Value} {fs : List (Str × V)} {Q : Unit → Shared → Prop} {E : Value → Shared → Prop} {A : Around}
theorem OexL.data {K : PySem.W.Frag} (T : OexL K C) : ∃ cd, PySem.W.clsIn K C = some cd ∧ LeMro cd.mro ∧ cd.hasDict = true := by
  obtain ⟨n1, n2, N, bs, bm, sn, sub, ab, col, dd, k0, k1, k2, k3, k5, e, hm⟩ := T.cls
  exact ⟨{ name := n1, bases := bs, mro := .ref C :: bm, ns := N, qualname := n2, hasDict := true, slotNames := sn, subclasses := sub, abstract := ab, collection := col, hasDel := false }, by unfold PySem.W.clsIn; rw [e] <;> rfl, .own hm, rfl⟩
end
section
variable {X : Cx} {o e : Expr} {to te : TE} {f : Str} {p' pos : Pos}
end
theorem TyX.put {K : PySem.W.Frag} {H : Hp} {v : V} {t : Value} {a : Addr} {o : HO} (h : TyX K H v t) (n : H a = none) : TyX K (upd H a o) v t := by
  have nn : ∀ {b : Addr} {u : HO}, H b = some u → upd H a o b = some u := fun {b u} e => by rw [upd_ne (ne_of_none e n)]; exact e
  cases h with
  | base b =>
    refine .base ?_
    cases b with
    | non => exact .non
    | bl x => exact .bl x
    | int i => exact .int i
    | str x => exact .str x
    | flt x => exact .flt x
    | lst e => exact .lst (nn e)
    | frz e => exact .frz (nn e)
    | tup e => exact .tup (nn e)
    | dK e => exact .dK (nn e)
    | dT e => exact .dT (nn e)
    | ins e c1 c2 c3 c4 c5 => exact .ins (nn e) c1 c2 c3 c4 c5
  | byt b => exact .byt b
  | set e => exact .set (nn e)
  | kList e c => exact .kList e c
  | kTuple e c => exact .kTuple e c
  | kDict e c => exact .kDict e c
  | fTuple e => exact .fTuple (nn e)
  | fDict e => exact .fDict (nn e)
section
variable {g : G} {st : Stmt} {fa fb : Addr} {fd fd2 : FuncData} {x f t sf pr : Str} {p1 p2 p3 p4 p5 p6 p7 p8 p9 : Pos} {j : Nat} {e : Expr}
end
def spXL (K : PySem.W.Frag) (f t : Str) : Sp := fun vs H Q _ => ∃ (a C : Addr) (v : V), vs = [.ref a, v] ∧ OexL K C ∧ H a = some (exo a C none) ∧ PySem.W.findIn K (.ref C) f = some none ∧ PySem.W.findIn K (.ref C) cdS = some none ∧ TyX K H v (.type "tuple") ∧
  ∀ dx, H dx = none → dx ≠ a → Q .non (upd (upd (upd H dx (exd dx [(f, v)])) a (exo a C (some dx))) dx (exd dx [(cdS, .str t), (f, v)]))
section
variable {g : G} {st : Stmt} {fa fb : Addr} {fd fd2 : FuncData} {x qual f t sf p pr : Str} {p1 p2 p3 p4 p5 p6 p7 p8 p9 p10 : Pos} {j : Nat} {e : Expr}
end
structure XcL (g : G) (x : Str) (C fI : Addr) (f t : Str) : Prop where
  T : OexL g.K C
  iC : PySem.W.findIn g.K (.ref C) "__init__" = some (some (.ref fI))
  tI : PySem.W.typeIn g.K (.ref fI) = some (.type "function")
  m : g.mg x = some (.ref C)
  nf : PySem.W.findIn g.K (.ref C) f = some none
  nc : PySem.W.findIn g.K (.ref C) cdS = some none
  fn : ∃ fd ps, FnOk g.prog g.w g.K g.mg g.base (L2.CX g.prog g.w) 2 fI fd ps (spXL g.K f t) ∧ Binds g.K fd ps []
section
variable {X : Cx} {g : G} {k : Nat} {N : List Str} {sc ws : Scope} {W : WX} {x f t : Str} {C fI : Addr} {cn : Nat} {e : Expr} {es : List Expr} {ta : TA} {fe : M D} {p p' pos : Pos}
end
section
variable {X : Cx} {g : G} {k : Nat} {N : List Str} {sc ws : Scope} {W : WX} {p p2 pos pos2 : Pos} {e e2 : Expr} {fe fe2 : M D}
end
end CL
namespace CL
open PySem PySem.Spec PyProof.Rows L2 GenW
section
variable {X : Cx} {test tg iter : Expr} {body orelse : List Stmt} {pos : Pos}
end
section
variable {prog : Program} {w : World} {A : Around} {R : GenEnd} {Y : Protocol} {n : Nat} {s₀ s : Shared} {fs : List Frame} {env : Env} {tg : Expr} {it : Value} {body : List Stmt}
end
section
variable {X : Cx} {tg iter : Expr} {body : List Stmt} {pos : Pos}
end
abbrev GM := List D → CS → R (Fl × List D)
def OutGS (g : G) (W : WX) (m : Mp) (r : R (Fl × List D)) (Dn : GEnds) : Prop := match r with
  | .ok (.next, zs) c => ∀ m' ys' σ' H', Ext m m' → Sim g m' c σ' H' → Svs g m' zs ys' → Dn.nx ys' σ' H'
  | .ok (.brk, zs) c => ∀ m' ys' σ' H', Ext m m' → Sim g m' c σ' H' → Svs g m' zs ys' → Dn.bk ys' σ' H'
  | .ok (.cont, zs) c => ∀ m' ys' σ' H', Ext m m' → Sim g m' c σ' H' → Svs g m' zs ys' → Dn.ct ys' σ' H'
  | .ok (.ret _, _) _ => False
  | .exc cn vs c => ∀ m' σ' H' C d, Ext m m' → Sim g m' c σ' H' → Exr g m' cn vs C d → W C d σ' H'
  | .stuck => False
theorem OutGS.mono {g : G} {W : WX} {m m' : Mp} {r : R (Fl × List D)} {Dn : GEnds} (e : Ext m m') (h : OutGS g W m r Dn) : OutGS g W m' r Dn := by
  cases r with
  | ok a c =>
    obtain ⟨fl, zs⟩ := a
    cases fl with
    | next => exact fun m2 ys σ H x => h m2 ys σ H (e.trans x)
    | brk => exact fun m2 ys σ H x => h m2 ys σ H (e.trans x)
    | cont => exact fun m2 ys σ H x => h m2 ys σ H (e.trans x)
    | ret d => exact h
  | exc cn vs c => exact fun m2 σ H C d x => h m2 σ H C d (e.trans x)
  | stuck => exact h
section
variable {g : G} {k : Nat} {N : List Str} {X : Cx} {sc ws : Scope} {W : WX} {pos yp : Pos} {tg iter e test : Expr} {st : Stmt} {rest bd a b : List Stmt} {fi : M (List D)} {t : Tg} {fb f h : GM} {fe : M D} {ft : M Bool} {fp : M Fl}
end
section
variable {g : G} {k : Nat} {N : List Str} {X : Cx} {sc ws : Scope} {W : WX} {pos : Pos} {tg iter : Expr} {bd : List Stmt} {fi : M (List D)} {t : Tg} {fb : GM}
end
inductive GR where
  | ok (ys : List D) (S : List O)
  | stuck
abbrev FnG := List D → List O → GR
def OutGF (g : G) (m : Mp) (r : GR) (Q : List V → Hp → Prop) : Prop := match r with
  | .ok zs S => ∀ m' ys H', Ext m m' → Sim g m' ⟨[], S⟩ [] H' → Svs g m' zs ys → Q ys H'
  | .stuck => False
def spG (g : G) (f : FnG) : SpG := fun vs H Q _ => ∃ m S ds, Sim g m ⟨[], S⟩ [] H ∧ Svs g m ds vs ∧ OutGF g m (f ds S) Q
structure FnGC (g : G) (k : Nat) (f : Addr) (fn : FnG) : Prop where
  fn : ∃ fd ps, GFn g.prog g.w g.K g.mg g.base k f fd ps (spG g fn) ∧ Binds g.K fd ps []
section
variable {g : G} {j k : Nat} {N : List Str} {X : Cx} {sc ws : Scope} {W : WX} {p p2 pos pos2 : Pos} {x : Str} {f : Addr} {fn : FnG} {e : Expr} {es : List Expr} {fa : M (List D)}
end
end CL
namespace CL
open PySem PySem.Spec PyProof.Rows L2
section
variable {X : Cx} {g : G} {W : WX} {e : Expr} {fa : M D} {k : Nat} {p1 p2 p3 pos : Pos}
end
section
variable {g : G} {k : Nat} {N : List Str} {X : Cx} {sc ws : Scope} {W : WX} {pos : Pos} {t : Expr} {bd : List Stmt} {ft : M Bool} {fb : M Fl}
end
def cParL (i j : Nat) (fa : M D) (fl : M (List D)) : M Fl := fun c => (fa c).bind fun d c1 => (fl c1).bind fun xs c2 => .ok .next ((c2.put j (.own (.lst xs))).put i (.val d))
section
variable {g : G} {k : Nat} {N : List Str} {X : Cx} {sc ws : Scope} {W : WX} {i j : Nat} {x y : Str} {a b : Expr} {fa : M D} {fl : M (List D)} {px py pt pos : Pos} {kt k2 : Nat} {pt2 : Pos}
end
end CL
namespace CL
open PySem PySem.Spec PyProof.Rows L2
section
variable {X : Cx} {g : G} {k : Nat} {N : List Str} {sc ws : Scope} {W : WX}
end
end CL
namespace CL
open PySem PySem.Spec PyProof.Rows L2
def CS.lstAt (c : CS) : D → Option (Nat × List D)
  | .ref n => match c.S[n]? with
    | some (.lst xs) => some (n, xs)
    | _ => none
  | _ => none
theorem Sim.lstAt {g : G} {m : Mp} {c : CS} {σ : L2.St} {H : Hp} (s : Sim g m c σ H) {d : D} {v : V} {n : Nat} {xs : List D} (k : Sv g m d v) (e : c.lstAt d = some (n, xs)) :
    ∃ a vs, v = .ref a ∧ H a = some (.lst vs) ∧ Svs g m xs vs ∧ ∀ ys ws, Svs g m ys ws → Sim g m { c with S := c.S.set n (.lst ys) } σ (upd H a (.lst ws)) := by
  cases k with
  | @ref n' a ha =>
    have e : (match c.S[n']? with
      | some (.lst xs) => some (n', xs)
      | _ => none) = some (n, xs) := e
    cases r : c.S[n']? with
    | none => rw [r] at e; cases e
    | some o =>
      rw [r] at e
      cases o with
      | ins _ _ => cases e
      | lst ys =>
        cases e
        obtain ⟨_, vs, h1, h2⟩ := s.st _ a _ ha r
        exact ⟨a, vs, rfl, h1, h2, fun ys ws k => s.wrSt ha r fun H' z => ⟨ws, z, k⟩⟩
  | _ => cases e
def cAppE (fo fe : M D) : M Fl := fo.bind fun o c1 => match c1.lstAt o with
  | none => .stuck
  | some _ => (fe c1).bind fun d c => match c.lstAt o with
    | some (n, xs) => match decide (xs.length < sizeLine) with
      | true => .ok .next { c with S := c.S.set n (.lst (xs ++ [d])) }
      | false => .stuck
    | none => .stuck
section
variable {X : Cx} {g : G} {k : Nat} {N : List Str} {sc ws : Scope} {W : WX} {pos apos cpos : Pos} {e o : Expr} {fo fe : M D}
end
end CL
namespace CL
open PySem PySem.Spec PyProof.Rows L2
section
variable {X : Cx} {g : G} {k : Nat} {N : List Str} {sc ws : Scope} {W : WX} {pos : Pos} {x : Str} {n : Int} {u : Value}
end
end CL
namespace CL
open PySem
section
variable {c c1 c2 : CS} {d x y : D} {fa fb fe fo fi : M D} {fl : M (List D)}
theorem setL_of {i : Nat} {xs : List D} (e : fl c = .ok xs c1) : cSetL i fl c = .ok .next (c1.put i (.own (.lst xs))) := by
  show (fl c).bind _ = _
  rw [e]
  rfl
theorem drop_of (e : fe c = .ok d c1) : cDrop fe c = .ok .next c1 := by
  show (fe c).bind _ = _
  rw [e]
  rfl
theorem setTp_of {is : List Nat} {ds : List D} (e : fe c = .ok (.tup ds) c1) (h : ds.length = is.length) : cSetTp is fe c = .ok .next (putAll is ds c1) := by
  show (fe c).bind _ = _
  rw [e]
  show (match decide (ds.length = is.length) with
    | true => R.ok Fl.next (putAll is ds c1)
    | false => .stuck) = _
  rw [decide_eq_true h]
theorem setIx_of {i : Nat} {p1 p : Pl} {j : Int} {n : Nat} (e : fe c = .ok d c1) (h1 : c1.pl i = some p1) (ei : fi c1 = .ok (.int j) c2) (h2 : c2.pl i = some p) (hn : L2.ixN p.xs.length j = some n) : cSetIx i fi fe c = .ok .next (c2.wr i p (p.xs.set n d)) := by
  unfold cSetIx
  rw [e]
  show (match c1.pl i with
    | none => R.stuck
    | some _ => (fi c1).bind fun j c2 => match j, c2.pl i with
      | .int j, some p => match L2.ixN p.xs.length j with
        | some n => R.ok Fl.next (c2.wr i p (p.xs.set n d))
        | none => .stuck
      | _, _ => .stuck) = _
  rw [h1]
  dsimp only
  rw [ei]
  show (match D.int j, c2.pl i with
      | .int j, some p => (match L2.ixN p.xs.length j with
        | some n => R.ok Fl.next (c2.wr i p (p.xs.set n d))
        | none => .stuck)
      | _, _ => .stuck) = _
  rw [h2]
  dsimp only
  rw [hn]
theorem fld_of {ci i : Nat} {f : Str} {r : D} (e : fo c = .ok d c1) (h : c1.fld ci i f d = some r) : cFld ci i f fo c = .ok r c1 := by
  show (fo c).bind _ = _
  rw [e]
  show (match c1.fld ci i f d with
    | some r => R.ok r c1
    | none => .stuck) = _
  rw [h]
theorem prop_of {ci : Nat} {f : Str} {fn : Fn} (e : fo c = .ok d c1) (h : c1.has ci f d = true) : cProp ci f fn fo c = noExc (liftF (fn [d] c1.S) c1) := by
  show (fo c).bind _ = _
  rw [e]
  show (match c1.has ci f d with
    | true => noExc (liftF (fn [d] c1.S) c1)
    | false => .stuck) = _
  rw [h]
theorem methS_of {ci : Nat} {mn : Str} {fn : Fn} {ds : List D} (e : fo c = .ok d c1) (h : c1.has ci mn d = true) (ea : fl c1 = .ok ds c2) : cMeth ci mn fn fo fl c = liftF (fn (d :: ds) c2.S) c2 := by
  show (fo c).bind _ = _
  rw [e]
  show (match c1.has ci mn d with
    | true => (fl c1).bind fun ds c' => liftF (fn (d :: ds) c'.S) c'
    | false => .stuck) = _
  rw [h]
  dsimp only
  rw [ea]
  rfl
theorem lstAt_of {n : Nat} {xs : List D} (h : c.S[n]? = some (.lst xs)) : c.lstAt (.ref n) = some (n, xs) := by
  show (match c.S[n]? with
    | some (.lst xs) => some (n, xs)
    | _ => none) = _
  rw [h]
theorem appE_of {n : Nat} {xs xs1 : List D} (e : fo c = .ok (.ref n) c1) (h1 : c1.S[n]? = some (.lst xs1)) (ee : fe c1 = .ok d c2) (h : c2.S[n]? = some (.lst xs)) (hl : xs.length < sizeLine) : cAppE fo fe c = .ok .next { c2 with S := c2.S.set n (.lst (xs ++ [d])) } := by
  show (fo c).bind _ = _
  rw [e]
  show (match c1.lstAt (.ref n) with
    | none => R.stuck
    | some _ => (fe c1).bind fun d c => match c.lstAt (.ref n) with
      | some (n, xs) => match decide (xs.length < sizeLine) with
        | true => R.ok Fl.next { c with S := c.S.set n (.lst (xs ++ [d])) }
        | false => .stuck
      | none => .stuck) = _
  rw [lstAt_of h1]
  dsimp only
  rw [ee]
  show (match c2.lstAt (.ref n) with
      | some (n, xs) => match decide (xs.length < sizeLine) with
        | true => R.ok Fl.next { c2 with S := c2.S.set n (.lst (xs ++ [d])) }
        | false => .stuck
      | none => .stuck) = _
  rw [lstAt_of h]
  dsimp only
  rw [decide_eq_true hl]
theorem setF_of {ci i : Nat} {f : Str} {p : Pi} (e : fe c = .ok d c1) (h : c1.pi ci i = some p) (hl : p.fs.length < 1000) : cSetF ci i f fe c = .ok .next (c1.wi ci i p (putD f d p.fs)) := by
  show (fe c).bind _ = _
  rw [e]
  show (match c1.pi ci i with
    | some p => match decide (p.fs.length < 1000) with
      | true => R.ok Fl.next (c1.wi ci i p (putD f d p.fs))
      | false => .stuck
    | none => .stuck) = _
  rw [h]
  dsimp only
  rw [decide_eq_true hl]
end
end CL
namespace CL
open PySem
section
variable {t : Tg} {ft : M Bool} {fe : M D} {vs : List Nat}
theorem size_small {n : Nat} (h : n ≤ 1000) : n < sizeLine := Nat.lt_of_lt_of_le (by omega : n < 1001) (by decide)
theorem lcL_fm (p : D → Bool) (f : D → D) (c : CS) (ds : List D) : (∀ d ∈ ds, ∃ c0 c1, cTg t d c = .ok .next c0 ∧ ft c0 = .ok (p d) c1 ∧ (p d = true → ∃ c2, fe c1 = .ok (f d) c2 ∧ wipeC vs c2 = c) ∧ (p d = false → wipeC vs c1 = c)) →
    ∀ acc : List D, acc.length + ds.length ≤ 1000 → lcL t ft fe vs ds acc c = .ok (acc ++ (ds.filter p).map f) c := by
  induction ds with
  | nil => intro _ acc _; rw [lcL]; simp; rfl
  | cons d ds ih =>
    intro h acc hl
    obtain ⟨c0, c1, e0, e1, e2, e3⟩ := h d List.mem_cons_self
    rw [List.length_cons] at hl
    rw [lcL]
    dsimp only
    rw [e0]
    dsimp only
    rw [e1]
    cases q : p d with
    | true =>
      obtain ⟨c2, e4, e5⟩ := e2 q
      dsimp only
      rw [e4]
      dsimp only
      rw [decide_eq_true (size_small (by omega : acc.length ≤ 1000))]
      show lcL t ft fe vs ds (acc ++ [f d]) (wipeC vs c2) = _
      rw [e5, ih (fun d hd => h d (List.mem_cons_of_mem _ hd)) (acc ++ [f d]) (by rw [List.length_append]; simp; omega), List.filter_cons_of_pos q, List.map_cons, List.append_assoc]
      rfl
    | false =>
      dsimp only
      rw [e3 q, ih (fun d hd => h d (List.mem_cons_of_mem _ hd)) acc (by omega), List.filter_cons_of_neg (by rw [q]; exact Bool.false_ne_true)]
theorem lcL_map (f : D → D) (c : CS) (ds : List D) (h : ∀ d ∈ ds, ∃ c0 c1, cTg t d c = .ok .next c0 ∧ fe c0 = .ok (f d) c1 ∧ wipeC vs c1 = c) (acc : List D) (hl : acc.length + ds.length ≤ 1000) : lcL t (M.ret true) fe vs ds acc c = .ok (acc ++ ds.map f) c := by
  refine (lcL_fm (ft := M.ret true) (fun _ => true) f c ds (fun d hd => ?_) acc hl).trans ?_
  · obtain ⟨c0, c1, e0, e1, e2⟩ := h d hd
    exact ⟨c0, c0, e0, rfl, fun _ => ⟨c1, e1, e2⟩, fun z => nomatch z⟩
  · rw [List.filter_eq_self.mpr fun _ _ => rfl]
end
theorem walkG_of {fe : M D} {c c1 : CS} {n : Nat} {l : List D} (e : fe c = .ok (.ref n) c1) (h : c1.S[n]? = some (.lst l)) : cWalkG fe c = .ok (l, isAt (.ref n) l) c1 := by
  unfold cWalkG M.bind
  rw [e]
  show dWalkG (.ref n) c1 = _
  unfold dWalkG
  have s : c1.seqL (.ref n) = some l := by
    show (match c1.S[n]? with
      | some (.lst xs) => some xs
      | _ => none) = _
    rw [h]
  rw [s]
theorem lcG_of {fi : M (List D × (CS → Bool))} {tg : Tg} {ft : M Bool} {fe : M D} {vs : List Nat} {ds ys : List D} {pc : CS → Bool} {c c1 c2 : CS} (ei : fi c = .ok (ds, pc) c1) (e : lcLG pc tg ft fe vs ds [] (wipeC vs c1) = .ok ys c2) : cLcG fi tg ft fe vs c = .ok ys c2 := by
  unfold cLcG
  rw [ei]
  exact e
end CL
namespace CL
open PySem
abbrev PdG (n : Nat) (d : D) : Prop := ∃ p, toP d = some p ∧ p.canLay0 = true ∧ p.depth ≤ n + 1 ∧ PyData.eqv p p = true
theorem pd_list (n : Nat) (xs : List D) (h : ∀ x ∈ xs, PdG n x) : ∃ ps, toPs xs = some ps ∧ PyData.canLayAll0 ps = true ∧ PyData.depthAll ps ≤ n + 1 ∧ PyData.eqvAll ps ps = true := by
  induction xs with
  | nil => exact ⟨[], by rw [toPs], by simp [PyData.canLayAll0], by simp [PyData.depthAll], by simp [PyData.eqvAll]⟩
  | cons x xs ih =>
    obtain ⟨ps, e1, e2, e3, e4⟩ := ih fun y hy => h y (List.mem_cons_of_mem _ hy)
    obtain ⟨p, f1, f2, f3, f4⟩ := h x List.mem_cons_self
    refine ⟨p :: ps, ?_, ?_, ?_, ?_⟩
    · rw [toPs, f1, e1]
    · simp [PyData.canLayAll0, f2, e2]
    · simp [PyData.depthAll]; omega
    · simp [PyData.eqvAll, f4, e4]
end CL
namespace CL
open PySem PySem.Spec PyProof.Rows L2
def bInt : List D → M D
  | [.int i] => M.ret (.int i)
  | [.bl b] => M.ret (.int (if b then 1 else 0))
  | _ => fun _ => .stuck
section
variable {X : Cx} {g : G} {k : Nat} {N : List Str} {sc ws : Scope} {W : WX} {p pos : Pos} {e : Expr} {es : List Expr} {fa : M (List D)}
end
end CL
namespace CL
open PySem PySem.Spec PyProof.Rows L2
def cSetIxE (fo fi fe : M D) : M Fl := fun c => (fe c).bind fun d c1 => (fo c1).bind fun o c2 => match c2.lstAt o with
  | none => .stuck
  | some _ => (fi c2).bind fun j c3 => match j, c3.lstAt o with
    | .int j, some (n, xs) => match ixN xs.length j with
      | some k => .ok .next { c3 with S := c3.S.set n (.lst (xs.set k d)) }
      | none => .stuck
    | _, _ => .stuck
section
variable {X : Cx} {g : G} {k : Nat} {N : List Str} {sc ws : Scope} {W : WX} {pos pos' : Pos} {e o ie : Expr} {fo fe fi : M D}
end
end CL
namespace CL
open PySem PySem.Spec PyProof.Rows L2
def cPar3 (i j l : Nat) (fr : M (List D)) : M Fl := fun c => (fr c).bind fun ds c1 => match ds with
  | [x, y, z] => .ok .next (((c1.put i (.val x)).put j (.val y)).put l (.val z))
  | _ => .stuck
end CL
namespace CL
open PySem PySem.Spec PyProof.Rows L2
def dFmtI (d : D) : M D := match d with
  | .int i => M.guard (decide (i.natAbs.log2 < 1920)) (M.ret (.str (toString i)))
  | _ => fun _ => .stuck
section
variable {X : Cx} {g : G} {k : Nat} {N : List Str} {sc ws : Scope} {W : WX} {pos apos cpos : Pos} {e o : Expr} {fe fo : M D}
def cClrE (fo : M D) : M Fl := fo.bind fun o c => match c.lstAt o with
  | some (n, _) => .ok .next { c with S := c.S.set n (.lst []) }
  | none => .stuck
end
end CL
namespace CL
open PySem
def seqK (h : M Fl) : R Fl → R Fl
  | .ok .next c => h c
  | r => r
def selK {α : Type} (b : Bool) (f h : α) : α := match b with
  | true => f
  | false => h
structure Nl {α : Type} (a b : List α) : Prop where
  out : a = b
section
variable {α β γ : Type} {f h : M Fl} {c c1 c2 c3 : CS} {sl sl1 sl2 sl3 : List Sl} {S S1 S2 S3 : List O} {d x y z : D} {b b1 b2 : Bool} {fa fb fe fo fi : M D} {t u : M Bool} {xs ys ds es : List D} {fr fq : M (List D)} {i j n : Nat} {cn : Nat} {vs : List D}
theorem w_seq {r1 r : R Fl} (e : f c = r1) (k : seqK h r1 = r) : cSeq f h c = r := by
  unfold cSeq
  rw [e]
  rw [← k]
  cases r1 with
  | ok a c' => cases a <;> rfl
  | exc _ _ _ => rfl
  | stuck => rfl
theorem w_seqN {r : R Fl} (k : h c = r) : seqK h (.ok .next c) = r := k
theorem w_seqR : seqK h (.ok (.ret d) c) = .ok (.ret d) c := rfl
theorem w_seqB : seqK h (.ok .brk c) = .ok .brk c := rfl
theorem w_seqC : seqK h (.ok .cont c) = .ok .cont c := rfl
theorem w_seqX : seqK h (.exc cn vs c) = .exc cn vs c := rfl
theorem w_selT {f h : α → β} {a : α} {r : β} (hb : b = true) (k : f a = r) : selK b f h a = r := by subst hb; exact k
theorem w_selF {f h : α → β} {a : α} {r : β} (hb : b = false) (k : h a = r) : selK b f h a = r := by subst hb; exact k
theorem w_selAnd (e : u c = .ok b2 c) : selK b u (M.ret false) c = .ok (b && b2) c := by cases b with
  | true => exact e
  | false => rfl
theorem w_selOr (e : u c = .ok b2 c) : selK b (M.ret true) u c = .ok (b || b2) c := by cases b with
  | true => rfl
  | false => exact e
theorem w_selAndV (e : fb c = .ok (.bl b2) c) : selK b fb (M.ret (.bl false)) c = .ok (.bl (b && b2)) c := by cases b with
  | true => exact e
  | false => rfl
theorem w_selOrV (e : fb c = .ok (.bl b2) c) : selK b (M.ret (.bl true)) fb c = .ok (.bl (b || b2)) c := by cases b with
  | true => rfl
  | false => exact e
theorem w_ret {a : α} : M.ret a c = .ok a c := rfl
theorem w_var (h : sl[i]? = some (.val d)) : cVar i ⟨sl, S⟩ = .ok d ⟨sl, S⟩ := by
  unfold cVar
  dsimp only
  rw [h]
theorem w_varL (h : sl[i]? = some (.own (.lst xs))) (hs : Nl (sl.set i (.val (.lst xs))) sl1) : cVar i ⟨sl, S⟩ = .ok (.lst xs) ⟨sl1, S⟩ := by
  obtain ⟨rfl⟩ := hs
  unfold cVar
  dsimp only
  rw [h]
theorem w_op {k : D → D → M D} {r : R D} (ea : fa c = .ok x c1) (eb : fb c1 = .ok y c2) (e : k x y c2 = r) : cOp k fa fb c = r := op_of ea eb e
theorem w_opL {k : D → D → M (List D)} {r : R (List D)} (ea : fa c = .ok x c1) (eb : fb c1 = .ok y c2) (e : k x y c2 = r) : cOpL k fa fb c = r := opL_of ea eb e
theorem w_chain {k k' : D → D → M D} {fc : M D} {r : R D} (ea : fa c = .ok x c1) (eb : fb c1 = .ok y c2) (e : k x y c2 = .ok (.bl b) c3) (kk : selK b (fc.bind fun w => k' y w) (M.ret (.bl false)) c3 = r) : cChain k k' fa fb fc c = r := by
  subst kk
  show (fa c).bind _ = _
  rw [ea]
  show (fb c1).bind _ = _
  rw [eb]
  show (k x y c2).bind _ = _
  rw [e]
  cases b <;> rfl
theorem w_asB (e : fe c = .ok (.bl b) c1) : asB fe c = .ok b c1 := asB_of e
theorem w_bind {f : M α} {k : α → M β} {a : α} {r : R β} (e : f c = .ok a c1) (h : k a c1 = r) : M.bind f k c = r := by
  unfold M.bind
  rw [e]
  exact h
theorem w_cons (ea : fa c = .ok x c1) (er : fr c1 = .ok xs c2) : cCons fa fr c = .ok (x :: xs) c2 := cons_of ea er
theorem w_star (ea : fa c = .ok d c1) (ed : dItems d c1 = .ok ys c1) (er : fr c1 = .ok xs c2) : cStar fa fr c = .ok (ys ++ xs) c2 := by
  show (fa c).bind _ = _
  rw [ea]
  show (dItems d c1).bind _ = _
  rw [ed]
  show (fr c1).bind _ = _
  rw [er]
  rfl
theorem w_itemsT : dItems (.tup xs) c = .ok xs c := rfl
theorem w_itemsL : dItems (.lst xs) c = .ok xs c := rfl
theorem w_sz {n : Nat} (h : n ≤ 1000) : szOk n = true := by
  unfold szOk
  exact decide_eq_true (Nat.le_trans h (by decide))
theorem w_tup (e : fr c = .ok xs c1) (h : szOk xs.length = true) : cTup fr c = .ok (.tup xs) c1 := tup_of e h
theorem w_lst (e : fr c = .ok xs c1) (h : szOk xs.length = true) : cLst fr c = .ok xs c1 := lst_of e h
theorem w_froz {fl : M (List D)} (e : fl c = .ok xs c1) : froz fl c = .ok (.lst xs) c1 := froz_of e
theorem w_store {fl : M (List D)} (e : fl c = .ok xs ⟨sl, S⟩) : cStore fl c = .ok (.ref S.length) ⟨sl, S ++ [.lst xs]⟩ := by
  unfold cStore M.bind
  rw [e]
  rfl
theorem w_call {fn : Fn} {q : FR} {r : R D} (ea : fr c = .ok xs ⟨sl, S⟩) (h : fn xs S = q) (k : liftF q ⟨sl, S⟩ = r) : cCall fn fr c = r := by
  subst h
  exact (call_of ea).trans k
theorem w_lift : liftF (.ok d S1) ⟨sl, S⟩ = .ok d ⟨sl, S1⟩ := rfl
theorem w_liftX : liftF (.exc cn vs S1) ⟨sl, S⟩ = .exc cn vs ⟨sl, S1⟩ := rfl
theorem w_callS {fn : Fn} {q : FR} {r : R D} (ea : fa c = .ok d c1) (ed : dItems d c1 = .ok xs ⟨sl, S⟩) (h : fn xs S = q) (k : liftF q ⟨sl, S⟩ = r) : cCallS fn fa c = r := by
  subst h
  subst k
  show (fa c).bind _ = _
  rw [ea]
  show (dItems d c1).bind _ = _
  rw [ed]
  rfl
theorem w_meth {ci : Nat} {mn : Str} {fn : Fn} {q : FR} {r : R D} (eo : fo c = .ok d c1) (hh : c1.has ci mn d = true) (ea : fr c1 = .ok xs ⟨sl, S⟩) (h : fn (d :: xs) S = q) (k : liftF q ⟨sl, S⟩ = r) : cMeth ci mn fn fo fr c = r := by
  subst h
  exact (methS_of eo hh ea).trans k
theorem w_prop {ci : Nat} {mn : Str} {fn : Fn} (eo : fo c = .ok d ⟨sl, S⟩) (hh : CS.has ⟨sl, S⟩ ci mn d = true) (h : fn [d] S = .ok x S1) : cProp ci mn fn fo c = .ok x ⟨sl, S1⟩ := by
  refine (prop_of eo hh).trans ?_
  rw [h]
  rfl
theorem w_hasO {k : Nat} {mn : Str} {fs : List D} : CS.has c k mn (.obj k fs) = true := by
  show (k == k) = true
  exact beq_self_eq_true k
theorem w_hasR {k : Nat} {mn : Str} {fs : List (Str × D)} (h : S[n]? = some (.ins k fs)) (hl : (fs.lookup mn).isNone = true) : CS.has ⟨sl, S⟩ k mn (.ref n) = true := by
  show (match S[n]? with
    | some (.ins k' fs) => k' == k && (fs.lookup mn).isNone
    | _ => false) = _
  rw [h]
  dsimp only
  rw [hl, beq_self_eq_true]
  rfl
theorem w_fld {ci i : Nat} {mn : Str} (eo : fo c = .ok d c1) (h : c1.fld ci i mn d = some x) : cFld ci i mn fo c = .ok x c1 := fld_of eo h
theorem w_fldO {k i : Nat} {mn : Str} {fs : List D} (h : fs[i]? = some x) : CS.fld c k i mn (.obj k fs) = some x := by
  show (if k = k then fs[i]? else none) = _
  rw [if_pos rfl, h]
theorem w_fldR {k i : Nat} {mn : Str} {fs : List (Str × D)} (h : S[n]? = some (.ins k fs)) (hl : fs.lookup mn = some x) : CS.fld ⟨sl, S⟩ k i mn (.ref n) = some x := by
  show (match S[n]? with
    | some (.ins k' fs) => if k' = k then fs.lookup mn else none
    | _ => none) = _
  rw [h]
  dsimp only
  rw [if_pos rfl, hl]
theorem w_if {a1 a2 : M α} {r : R α} (e : t c = .ok b c1) (k : selK b a1 a2 c1 = r) : cIf t a1 a2 c = r := by
  subst k
  show (t c).bind _ = _
  rw [e]
  cases b <;> rfl
theorem w_ifS {r : R Fl} (e : t c = .ok b c1) (k : selK b f h c1 = r) : cIfS t f h c = r := by
  subst k
  show (t c).bind _ = _
  rw [e]
  cases b <;> rfl
theorem w_andT {r : R Bool} (e : t c = .ok b c1) (k : selK b u (M.ret false) c1 = r) : cAndT t u c = r := by
  subst k
  show (t c).bind _ = _
  rw [e]
  cases b <;> rfl
theorem w_orT {r : R Bool} (e : t c = .ok b c1) (k : selK b (M.ret true) u c1 = r) : cOrT t u c = r := by
  subst k
  show (t c).bind _ = _
  rw [e]
  cases b <;> rfl
theorem w_and {r : R D} (e : fa c = .ok (.bl b) c1) (k : selK b fb (M.ret (.bl false)) c1 = r) : cAnd fa fb c = r := by
  subst k
  show (fa c).bind _ = _
  rw [e]
  cases b <;> rfl
theorem w_or {r : R D} (e : fa c = .ok (.bl b) c1) (k : selK b (M.ret (.bl true)) fb c1 = r) : cOr fa fb c = r := by
  subst k
  show (fa c).bind _ = _
  rw [e]
  cases b <;> rfl
theorem w_notT (e : t c = .ok b c1) : cNotT t c = .ok (!b) c1 := notT_of e
theorem w_not (e : fe c = .ok (.bl b) c1) : cNot fe c = .ok (.bl (!b)) c1 := not_of e
theorem w_tru {r : R Bool} (e : fe c = .ok d c1) (k : dTru d c1 = r) : cTru fe c = r := by
  show (fe c).bind _ = _
  rw [e]
  exact k
theorem w_truB : dTru (.bl b) c = .ok b c := rfl
theorem w_truI {i : Int} : dTru (.int i) c = .ok (i != 0) c := rfl
theorem w_truT : dTru (.tup xs) c = .ok (!xs.isEmpty) c := rfl
theorem w_truL : dTru (.lst xs) c = .ok (!xs.isEmpty) c := rfl
theorem w_isi {k q : Kn} (e : fe c = .ok d c1) (h : c1.knOf d = some q) : cIsi k fe c = .ok (.bl (isKn q k)) c1 := by
  show (fe c).bind _ = _
  rw [e]
  show (match c1.knOf d with
    | some t => R.ok (D.bl (isKn t k)) c1
    | none => .stuck) = _
  rw [h]
theorem w_isiT {ks : List Kn} {q : Kn} (e : fe c = .ok d c1) (h : c1.knOf d = some q) : cIsiT ks fe c = .ok (.bl (ks.any (isKn q))) c1 := by
  show (fe c).bind _ = _
  rw [e]
  show (match c1.knOf d with
    | some t => R.ok (D.bl (ks.any (isKn t))) c1
    | none => .stuck) = _
  rw [h]
theorem w_knI {k : Nat} {fs : List (Str × D)} (h : S[n]? = some (.ins k fs)) : CS.knOf ⟨sl, S⟩ (.ref n) = some (.cl k) := by
  have h2 : CS.clsOf ⟨sl, S⟩ (.ref n) = some k := by
    show (match S[n]? with
      | some (.ins k _) => some k
      | _ => none) = _
    rw [h]
  unfold CS.knOf
  rw [show tyB (.ref n) = none from rfl, h2]
theorem w_knL (h : S[n]? = some (.lst xs)) : CS.knOf ⟨sl, S⟩ (.ref n) = some (.ty .lst) := by
  have h2 : CS.clsOf ⟨sl, S⟩ (.ref n) = none := by
    show (match S[n]? with
      | some (.ins k _) => some k
      | _ => none) = _
    rw [h]
  have h3 : CS.seqL ⟨sl, S⟩ (.ref n) = some xs := by
    show (match S[n]? with
      | some (.lst xs) => some xs
      | _ => none) = _
    rw [h]
  unfold CS.knOf
  rw [show tyB (.ref n) = none from rfl, h2, h3]
theorem w_next : cNext c = .ok .next c := rfl
theorem w_brk : cBrk c = .ok .brk c := rfl
theorem w_cont : cCont c = .ok .cont c := rfl
theorem w_retS (e : fe c = .ok d c1) : cRet fe c = .ok (.ret d) c1 := ret_of e
theorem w_retN : cRetN c = .ok (.ret .non) c := rfl
theorem w_drop (e : fe c = .ok d c1) : cDrop fe c = .ok .next c1 := drop_of e
theorem w_set (e : fe c = .ok d ⟨sl, S⟩) (hs : Nl (sl.set i (.val d)) sl1) : cSet i fe c = .ok .next ⟨sl1, S⟩ := by
  obtain ⟨rfl⟩ := hs
  exact set_of e
theorem w_setL (e : fr c = .ok xs ⟨sl, S⟩) (hs : Nl (sl.set i (.own (.lst xs))) sl1) : cSetL i fr c = .ok .next ⟨sl1, S⟩ := by
  obtain ⟨rfl⟩ := hs
  exact setL_of e
def setsL : List Nat → List D → List Sl → List Sl
  | i :: is, d :: ds, sl => setsL is ds (sl.set i (.val d))
  | _, _, sl => sl
theorem putAll_sets : ∀ (is : List Nat) (ds : List D) (sl : List Sl) (S : List O), putAll is ds ⟨sl, S⟩ = ⟨setsL is ds sl, S⟩
  | [], [], _, _ => rfl
  | [], _ :: _, _, _ => rfl
  | _ :: _, [], _, _ => rfl
  | i :: is, d :: ds, sl, S => putAll_sets is ds (sl.set i (.val d)) S
theorem w_setTp {is : List Nat} (e : fe c = .ok (.tup ds) ⟨sl, S⟩) (hl : ds.length = is.length) (hs : Nl (setsL is ds sl) sl1) : cSetTp is fe c = .ok .next ⟨sl1, S⟩ := by
  obtain ⟨rfl⟩ := hs
  exact (setTp_of e hl).trans (by rw [putAll_sets])
theorem w_setTpL {is : List Nat} (e : fe c = .ok (.lst ds) ⟨sl, S⟩) (hl : ds.length = is.length) (hs : Nl (setsL is ds sl) sl1) : cSetTp is fe c = .ok .next ⟨sl1, S⟩ := by
  obtain ⟨rfl⟩ := hs
  rw [← putAll_sets]
  show (fe c).bind _ = _
  rw [e]
  show (match decide (ds.length = is.length) with
    | true => R.ok Fl.next (putAll is ds ⟨sl, S⟩)
    | false => .stuck) = _
  rw [decide_eq_true hl]
theorem w_par (e : fr c = .ok [x, y] ⟨sl, S⟩) (hs : Nl ((sl.set i (.val x)).set j (.val y)) sl1) : cPar i j fr c = .ok .next ⟨sl1, S⟩ := by
  obtain ⟨rfl⟩ := hs
  exact par_of e
theorem w_par3 {l : Nat} (e : fr c = .ok [x, y, z] ⟨sl, S⟩) (hs : Nl (((sl.set i (.val x)).set j (.val y)).set l (.val z)) sl1) : cPar3 i j l fr c = .ok .next ⟨sl1, S⟩ := by
  obtain ⟨rfl⟩ := hs
  show (fr c).bind _ = _
  rw [e]
  rfl
theorem w_parL {fl : M (List D)} (e : fa c = .ok d c1) (el : fl c1 = .ok xs ⟨sl, S⟩) (hs : Nl ((sl.set j (.own (.lst xs))).set i (.val d)) sl1) : cParL i j fa fl c = .ok .next ⟨sl1, S⟩ := by
  obtain ⟨rfl⟩ := hs
  show (fa c).bind _ = _
  rw [e]
  show (fl c1).bind _ = _
  rw [el]
  rfl
theorem w_pl (h : sl[i]? = some (.own (.lst xs))) : CS.pl ⟨sl, S⟩ i = some (.own xs) := by
  unfold CS.pl
  dsimp only
  rw [h]
theorem w_plR (h : sl[i]? = some (.val (.ref n))) (h2 : S[n]? = some (.lst xs)) : CS.pl ⟨sl, S⟩ i = some (.st n xs) := by
  unfold CS.pl
  dsimp only
  rw [h]
  dsimp only
  rw [h2]
theorem w_see (h : sl[i]? = some (.own (.lst xs))) : CS.see ⟨sl, S⟩ i = some xs := by
  unfold CS.see
  dsimp only
  rw [h]
theorem w_seeV (h : sl[i]? = some (.val (.lst xs))) : CS.see ⟨sl, S⟩ i = some xs := by
  unfold CS.see
  dsimp only
  rw [h]
  rfl
theorem w_seeR (h : sl[i]? = some (.val (.ref n))) (h2 : S[n]? = some (.lst xs)) : CS.see ⟨sl, S⟩ i = some xs := by
  unfold CS.see
  dsimp only
  rw [h]
  show (match S[n]? with
    | some (.lst xs) => some xs
    | _ => none) = _
  rw [h2]
theorem w_appO (h0 : sl[i]? = some (.own (.lst xs))) (e : fe ⟨sl, S⟩ = .ok d ⟨sl1, S1⟩) (h1 : sl1[i]? = some (.own (.lst ys))) (hl : ys.length ≤ 1000) (hs : Nl (sl1.set i (.own (.lst (ys ++ [d])))) sl2) : cApp i fe ⟨sl, S⟩ = .ok .next ⟨sl2, S1⟩ := by
  obtain ⟨rfl⟩ := hs
  unfold cApp
  rw [w_pl h0]
  dsimp only
  rw [e]
  show (match CS.pl ⟨sl1, S1⟩ i with
    | none => R.stuck
    | some p => match decide (p.xs.length < sizeLine) with
      | true => R.ok Fl.next (CS.wr ⟨sl1, S1⟩ i p (p.xs ++ [d]))
      | false => .stuck) = _
  rw [w_pl h1]
  dsimp only
  rw [show decide ((Pl.own ys).xs.length < sizeLine) = true from decide_eq_true (size_small hl)]
  rfl
theorem w_appR (h0 : sl[i]? = some (.val (.ref n))) (h2 : S[n]? = some (.lst xs)) (e : fe ⟨sl, S⟩ = .ok d ⟨sl1, S1⟩) (h1 : sl1[i]? = some (.val (.ref n))) (h3 : S1[n]? = some (.lst ys)) (hl : ys.length ≤ 1000) : cApp i fe ⟨sl, S⟩ = .ok .next ⟨sl1, S1.set n (.lst (ys ++ [d]))⟩ := by
  unfold cApp
  rw [w_plR h0 h2]
  dsimp only
  rw [e]
  show (match CS.pl ⟨sl1, S1⟩ i with
    | none => R.stuck
    | some p => match decide (p.xs.length < sizeLine) with
      | true => R.ok Fl.next (CS.wr ⟨sl1, S1⟩ i p (p.xs ++ [d]))
      | false => .stuck) = _
  rw [w_plR h1 h3]
  dsimp only
  rw [show decide ((Pl.st n ys).xs.length < sizeLine) = true from decide_eq_true (size_small hl)]
  rfl
theorem w_setIxO {j : Int} (e : fe c = .ok d ⟨sl, S⟩) (h0 : sl[i]? = some (.own (.lst xs))) (ei : fi ⟨sl, S⟩ = .ok (.int j) ⟨sl1, S1⟩) (h1 : sl1[i]? = some (.own (.lst ys))) (hn : L2.ixN ys.length j = some n) (hs : Nl (sl1.set i (.own (.lst (ys.set n d)))) sl2) : cSetIx i fi fe c = .ok .next ⟨sl2, S1⟩ := by
  obtain ⟨rfl⟩ := hs
  exact setIx_of e (w_pl h0) ei (w_pl h1) hn
theorem w_setIxE {j : Int} {m : Nat} (e : fe c = .ok d c1) (eo : fo c1 = .ok (.ref m) ⟨sl, S⟩) (h2 : S[m]? = some (.lst xs)) (ei : fi ⟨sl, S⟩ = .ok (.int j) ⟨sl1, S1⟩) (h3 : S1[m]? = some (.lst ys)) (hn : L2.ixN ys.length j = some n) : cSetIxE fo fi fe c = .ok .next ⟨sl1, S1.set m (.lst (ys.set n d))⟩ := by
  unfold cSetIxE
  rw [e]
  show (fo c1).bind _ = _
  rw [eo]
  show (match CS.lstAt ⟨sl, S⟩ (.ref m) with
    | none => R.stuck
    | some _ => (fi ⟨sl, S⟩).bind fun j c3 => match j, c3.lstAt (.ref m) with
      | .int j, some (n, xs) => match L2.ixN xs.length j with
        | some k => R.ok Fl.next { c3 with S := c3.S.set n (.lst (xs.set k d)) }
        | none => .stuck
      | _, _ => .stuck) = _
  rw [lstAt_of h2]
  dsimp only
  rw [ei]
  show (match D.int j, CS.lstAt ⟨sl1, S1⟩ (.ref m) with
      | .int j, some (n, xs) => (match L2.ixN xs.length j with
        | some k => R.ok Fl.next { (⟨sl1, S1⟩ : CS) with S := S1.set n (.lst (xs.set k d)) }
        | none => .stuck)
      | _, _ => .stuck) = _
  rw [lstAt_of h3]
  dsimp only
  rw [hn]
theorem w_setF {ci : Nat} {mn : Str} {k : Nat} {fs fs1 : List (Str × D)} (e : fe c = .ok d ⟨sl, S⟩) (h : sl[i]? = some (.own (.ins ci fs))) (hl : fs.length < 1000) (hp : Nl (putD mn d fs) fs1) (hs : Nl (sl.set i (.own (.ins ci fs1))) sl1) : cSetF ci i mn fe c = .ok .next ⟨sl1, S⟩ := by
  obtain ⟨rfl⟩ := hs
  obtain ⟨rfl⟩ := hp
  refine (setF_of (p := .own fs) e ?_ hl).trans rfl
  unfold CS.pi
  dsimp only
  rw [h]
  exact if_pos rfl
theorem w_appE {m : Nat} (e : fo c = .ok (.ref m) ⟨sl, S⟩) (h : S[m]? = some (.lst xs)) (ee : fe ⟨sl, S⟩ = .ok d ⟨sl1, S1⟩) (h1 : S1[m]? = some (.lst ys)) (hl : ys.length ≤ 1000) : cAppE fo fe c = .ok .next ⟨sl1, S1.set m (.lst (ys ++ [d]))⟩ := appE_of e h ee h1 (size_small hl)
theorem w_clrE {m : Nat} (e : fo c = .ok (.ref m) ⟨sl, S⟩) (h : S[m]? = some (.lst xs)) : cClrE fo c = .ok .next ⟨sl, S.set m (.lst [])⟩ := by
  show (fo c).bind _ = _
  rw [e]
  show (match CS.lstAt ⟨sl, S⟩ (.ref m) with
    | some (n, _) => R.ok Fl.next { (⟨sl, S⟩ : CS) with S := S.set n (.lst []) }
    | none => .stuck) = _
  rw [lstAt_of h]
theorem w_for {tg : Tg} {r : R Fl} {fi : M (List D)} (ei : fi c = .ok ds c1) (e : forL (fun d => cSeq (cTg tg d) f) ds c1 = r) : cFor fi tg f c = r := for_of ei e
theorem w_for0 {body : D → M Fl} : forL body [] c = .ok .next c := rfl
theorem w_forG {tg : Tg} {r : R Fl} {fi : M (List D × (CS → Bool))} {pc : CS → Bool} (ei : fi c = .ok (ds, pc) c1) (e : forLG pc (fun d => cSeq (cTg tg d) f) ds c1 = r) : cForG fi tg f c = r := by
  show (fi c).bind _ = _
  rw [ei]
  exact e
theorem w_tgN (hs : Nl (sl.set i (.val d)) sl1) : cTg (.nm i) d ⟨sl, S⟩ = .ok .next ⟨sl1, S⟩ := by
  obtain ⟨rfl⟩ := hs
  rfl
theorem w_tgT {is : List Nat} (hl : ds.length = is.length) (hs : Nl (setsL is ds sl) sl1) : cTg (.tp is) (.tup ds) ⟨sl, S⟩ = .ok .next ⟨sl1, S⟩ := by
  obtain ⟨rfl⟩ := hs
  rw [← putAll_sets]
  show (match decide (ds.length = is.length) with
    | true => R.ok Fl.next (putAll is ds ⟨sl, S⟩)
    | false => .stuck) = _
  rw [decide_eq_true hl]
theorem w_raise1 {tt : Str} (e : fe c = .ok d c1) : cRaise1 cn tt fe c = .exc cn [.str tt, d] c1 := by
  show (fe c).bind _ = _
  rw [e]
  rfl
theorem w_raise0 {tt : Str} : cRaise0 cn tt c = .exc cn [.str tt] c := rfl
def wipeS (vs : List Nat) (sl : List Sl) : List Sl := vs.foldr (fun v sl => sl.set v .no) sl
theorem wipeC_S : ∀ (vs : List Nat) (sl : List Sl) (S : List O), wipeC vs ⟨sl, S⟩ = ⟨wipeS vs sl, S⟩
  | [], _, _ => rfl
  | v :: vs, sl, S => by
    show CS.put (wipeC vs ⟨sl, S⟩) v .no = _
    rw [wipeC_S vs sl S]
    rfl
theorem w_lc {fi : M (List D)} {tg : Tg} {ft : M Bool} {vs : List Nat} {r : R (List D)} (ei : fi c = .ok ds ⟨sl, S⟩) (hs : Nl (wipeS vs sl) sl1) (e : lcL tg ft fe vs ds [] ⟨sl1, S⟩ = r) : cLc fi tg ft fe vs c = r := by
  obtain ⟨rfl⟩ := hs
  rw [← wipeC_S] at e
  show (fi c).bind _ = _
  rw [ei]
  exact e
theorem w_lcG {fi : M (List D × (CS → Bool))} {tg : Tg} {ft : M Bool} {vs : List Nat} {pc : CS → Bool} {r : R (List D)} (ei : fi c = .ok (ds, pc) ⟨sl, S⟩) (hs : Nl (wipeS vs sl) sl1) (e : lcLG pc tg ft fe vs ds [] ⟨sl1, S⟩ = r) : cLcG fi tg ft fe vs c = r := by
  obtain ⟨rfl⟩ := hs
  rw [← wipeC_S] at e
  show (fi c).bind _ = _
  rw [ei]
  exact e
theorem w_lc2 {fi fi1 : M (List D)} {tg t1 : Tg} {ft ft1 : M Bool} {vs1 vs : List Nat} {r : R (List D)} (ei : fi c = .ok ds ⟨sl, S⟩) (hs : Nl (wipeS vs sl) sl1) (e : lcL2 tg ft fi1 t1 ft1 fe vs1 vs ds [] ⟨sl1, S⟩ = r) : cLc2 fi tg ft fi1 t1 ft1 fe vs1 vs c = r := by
  obtain ⟨rfl⟩ := hs
  rw [← wipeC_S] at e
  show (fi c).bind _ = _
  rw [ei]
  exact e
theorem w_walk {r : R (List D)} (e : fe c = .ok d c1) (k : dWalk d c1 = r) : cWalk fe c = r := by
  show (fe c).bind _ = _
  rw [e]
  exact k
theorem w_walkL : dWalk (.lst xs) c = .ok xs c := rfl
theorem w_walkT : dWalk (.tup xs) c = .ok xs c := rfl
theorem w_walkG (e : fe c = .ok (.ref n) ⟨sl, S⟩) (h : S[n]? = some (.lst xs)) : cWalkG fe c = .ok (xs, isAt (.ref n) xs) ⟨sl, S⟩ := walkG_of e h
theorem w_enum {r : R (List D)} (e : fe c = .ok d c1) (k : dEnum d c1 = r) : cEnum fe c = r := by
  show (fe c).bind _ = _
  rw [e]
  exact k
theorem w_enumL : dEnum (.lst xs) c = .ok (xs.zipIdx.map fun p => D.tup [.int (p.2 : Nat), p.1]) c := rfl
theorem w_enumT : dEnum (.tup xs) c = .ok (xs.zipIdx.map fun p => D.tup [.int (p.2 : Nat), p.1]) c := rfl
def r1K (d : D) : M (List D) := match d with
  | .int n => M.guard (fitsR n) (M.ret (rangeD 0 n.toNat))
  | _ => fun _ => .stuck
theorem w_range1 {r : R (List D)} (e : fe c = .ok d c1) (k : r1K d c1 = r) : cRange1 fe c = r := by
  show (fe c).bind _ = _
  rw [e]
  exact k
theorem w_fits {i : Int} (h : -1000000 ≤ i ∧ i ≤ 1000000) : fitsR i = true := by
  unfold fitsR
  simp
  omega
theorem w_r1N (h : n ≤ 1000000) : r1K (.int (n : Nat)) c = .ok (rangeD 0 n) c := by
  unfold r1K
  dsimp only
  rw [w_fits (by omega), Int.toNat_natCast]
  rfl
theorem w_r1I {i : Int} (h : -1000000 ≤ i ∧ i ≤ 1000000) : r1K (.int i) c = .ok (rangeD 0 i.toNat) c := by
  unfold r1K
  dsimp only
  rw [w_fits h]
  rfl
theorem w_range2 {i j : Int} (e : fa c = .ok (.int i) c1) (e2 : fb c1 = .ok (.int j) c2) (h : (-1000000 ≤ i ∧ i ≤ 1000000) ∧ (-1000000 ≤ j ∧ j ≤ 1000000)) : cRange2 fa fb c = .ok (rangeD i (j - i).toNat) c2 := range2_of e e2 (by rw [w_fits h.1, w_fits h.2]; rfl)
theorem w_zip {fi : M D} {r : R (List D)} (ea : fa c = .ok x c1) (eb : fb c1 = .ok y c2) (k : dZip x y c2 = r) : cZip fa fb c = r := by
  show (fa c).bind _ = _
  rw [ea]
  show (fb c1).bind _ = _
  rw [eb]
  exact k
theorem w_zipL : dZip (.lst xs) (.lst ys) c = .ok (zipD xs ys) c := rfl
theorem w_zipT : dZip (.tup xs) (.tup ys) c = .ok (zipD xs ys) c := rfl
theorem w_cutT {lo hi : M (Option Int)} {a1 a2 : Option Int} {r : R D} (e : fa c = .ok d c1) (e1 : lo c1 = .ok a1 c2) (e2 : hi c2 = .ok a2 c3) (k : dCutT d a1 a2 c3 = r) : cCutT fa lo hi c = r := by
  show (fa c).bind _ = _
  rw [e]
  show (lo c1).bind _ = _
  rw [e1]
  show (hi c2).bind _ = _
  rw [e2]
  exact k
theorem w_cutL {lo hi : M (Option Int)} {a1 a2 : Option Int} {r : R (List D)} (e : fa c = .ok d c1) (e1 : lo c1 = .ok a1 c2) (e2 : hi c2 = .ok a2 c3) (k : dCutL d a1 a2 c3 = r) : cCutL fa lo hi c = r := by
  show (fa c).bind _ = _
  rw [e]
  show (lo c1).bind _ = _
  rw [e1]
  show (hi c2).bind _ = _
  rw [e2]
  exact k
theorem w_noPart : cNoPart c = .ok none c := rfl
theorem w_part {i : Int} (e : fe c = .ok (.int i) c1) : cPart fe c = .ok (some i) c1 := by
  show (fe c).bind _ = _
  rw [e]
  rfl
theorem cutN_to {α : Type} (xs : List α) (n : Nat) : (xs.drop (HT.sIx xs.length 0 none)).take (HT.sIx xs.length xs.length (some (n : Int)) - HT.sIx xs.length 0 none) = xs.take n := by
  have e1 : HT.sIx xs.length 0 none = 0 := rfl
  have e2 : HT.sIx xs.length xs.length (some (n : Int)) = min n xs.length := by
    show (if (n : Int) < 0 then ((n : Int) + (xs.length : Int)).toNat else min (n : Int).toNat xs.length) = _
    rw [if_neg (by omega)]
    simp
  rw [e1, e2, List.drop_zero, Nat.sub_zero]
  by_cases h : n ≤ xs.length
  · rw [Nat.min_eq_left h]
  · rw [Nat.min_eq_right (by omega), List.take_length, List.take_of_length_le (by omega)]
theorem cutN_from {α : Type} (xs : List α) (n : Nat) : (xs.drop (HT.sIx xs.length 0 (some (n : Int)))).take (HT.sIx xs.length xs.length none - HT.sIx xs.length 0 (some (n : Int))) = xs.drop n := by
  have e1 : HT.sIx xs.length xs.length none = xs.length := rfl
  have e2 : HT.sIx xs.length 0 (some (n : Int)) = min n xs.length := by
    show (if (n : Int) < 0 then ((n : Int) + (xs.length : Int)).toNat else min (n : Int).toNat xs.length) = _
    rw [if_neg (by omega)]
    simp
  rw [e1, e2, ← List.length_drop, List.take_length]
  by_cases h : n ≤ xs.length
  · rw [Nat.min_eq_left h]
  · rw [Nat.min_eq_right (by omega), List.drop_length, List.drop_eq_nil_of_le (by omega)]
theorem w_cutTto : dCutT (.tup xs) none (some (n : Nat)) c = .ok (.tup (xs.take n)) c := by
  show R.ok (D.tup _) c = _
  rw [cutN_to]
theorem w_cutTfrom : dCutT (.tup xs) (some (n : Nat)) none c = .ok (.tup (xs.drop n)) c := by
  show R.ok (D.tup _) c = _
  rw [cutN_from]
theorem w_cutT1 : dCutT (.tup xs) (some 1) none c = .ok (.tup (xs.drop 1)) c := w_cutTfrom (n := 1)
theorem w_cutLto : dCutL (.lst xs) none (some (n : Nat)) c = .ok (xs.take n) c := by
  show R.ok _ c = _
  rw [cutN_to]
theorem w_cutLfrom : dCutL (.lst xs) (some (n : Nat)) none c = .ok (xs.drop n) c := by
  show R.ok _ c = _
  rw [cutN_from]
theorem w_cutL1 : dCutL (.lst xs) (some 1) none c = .ok (xs.drop 1) c := w_cutLfrom (n := 1)
theorem o_lt {i j : Int} : dLt (.int i) (.int j) c = .ok (.bl (decide (i < j))) c := rfl
theorem o_le {i j : Int} : dLe (.int i) (.int j) c = .ok (.bl (decide (i ≤ j))) c := rfl
theorem o_gt {i j : Int} : dGt (.int i) (.int j) c = .ok (.bl (decide (j < i))) c := rfl
theorem o_ge {i j : Int} : dGe (.int i) (.int j) c = .ok (.bl (decide (j ≤ i))) c := rfl
theorem o_addI {i j : Int} : dAdd (.int i) (.int j) c = .ok (.int (i + j)) c := rfl
theorem o_subI {i j : Int} : dSub (.int i) (.int j) c = .ok (.int (i - j)) c := rfl
theorem o_mulI {i j : Int} (h : cMul i j = true) : dMul (.int i) (.int j) c = .ok (.int (i * j)) c := by
  show M.guard (cMul i j) _ c = _
  rw [h]
  rfl
theorem o_divI {i j : Int} (h : cDiv i j = true) : dDiv (.int i) (.int j) c = .ok (.int (i / j)) c := by
  show M.guard (cDiv i j) _ c = _
  rw [h]
  rfl
theorem o_modI {i j : Int} (h : 0 < j) : dMod (.int i) (.int j) c = .ok (.int (i % j)) c := by
  show M.guard (decide (0 < j)) _ c = _
  rw [decide_eq_true h]
  rfl
theorem o_addT (h : szOk (xs.length + ys.length) = true) : dAdd (.tup xs) (.tup ys) c = .ok (.tup (xs ++ ys)) c := by
  show M.guard (szOk (xs.length + ys.length)) _ c = _
  rw [h]
  rfl
theorem o_cat (h : szOk (xs.length + ys.length) = true) : dCat (.lst xs) (.lst ys) c = .ok (xs ++ ys) c := by
  show M.guard (szOk (xs.length + ys.length)) _ c = _
  rw [h]
  rfl
theorem o_shpI (i : Int) : SeqAt.shaped (.int i) = true := by
  unfold SeqAt.shaped
  simp [PyData.canLay0, PyData.depth]
theorem o_eqI {i j : Int} : dEq (.int i) (.int j) c = .ok (.bl (decide (i = j))) c := by
  show M.guard (SeqAt.shaped (.int i) && SeqAt.shaped (.int j)) (M.ret (D.bl (PyData.eqv (.int i) (.int j)))) c = _
  rw [o_shpI, o_shpI]
  show R.ok _ c = _
  simp only [PyData.eqv]
  by_cases h : i = j <;> simp [h]
theorem o_neI {i j : Int} : dNe (.int i) (.int j) c = .ok (.bl (!decide (i = j))) c := by
  show M.guard (SeqAt.shaped (.int i) && SeqAt.shaped (.int j)) (M.ret (D.bl (!PyData.eqv (.int i) (.int j)))) c = _
  rw [o_shpI, o_shpI]
  show R.ok _ c = _
  simp only [PyData.eqv]
  by_cases h : i = j <;> simp [h]
theorem o_is : dIs d .non c = .ok (.bl d.isNon) c := rfl
theorem o_isNot : dIsNot d .non c = .ok (.bl (!d.isNon)) c := rfl
theorem o_ixT {i : Int} (h : L2.atI xs i = some d) : dIx (.tup xs) (.int i) c = .ok d c := by
  show M.opt (L2.atI xs i) c = _
  rw [h]
  rfl
theorem o_ixL {i : Int} (h : L2.atI xs i = some d) : dIx (.lst xs) (.int i) c = .ok d c := by
  show M.opt (L2.atI xs i) c = _
  rw [h]
  rfl
theorem o_ixR {i : Int} (h0 : S[n]? = some (.lst xs)) (h : L2.atI xs i = some d) : dIx (.ref n) (.int i) ⟨sl, S⟩ = .ok d ⟨sl, S⟩ := by
  have s : CS.seqL ⟨sl, S⟩ (.ref n) = some xs := by
    show (match S[n]? with
      | some (.lst xs) => some xs
      | _ => none) = _
    rw [h0]
  show (match CS.seqL ⟨sl, S⟩ (.ref n) with
    | some xs => M.opt (L2.atI xs i) ⟨sl, S⟩
    | none => .stuck) = _
  rw [s]
  dsimp only
  rw [h]
  rfl
theorem o_atN {xs : List α} {k : Nat} {a : α} (h : xs[k]? = some a) : L2.atI xs ((k : Nat) : Int) = some a := by
  unfold L2.atI L2.ixN
  have hk := (List.getElem?_eq_some_iff.mp h).1
  rw [if_pos (by omega), if_pos (by omega), Int.toNat_natCast]
  exact h
theorem o_at0 {xs : List α} {a : α} (h : xs[(0 : Nat)]? = some a) : L2.atI xs (0 : Int) = some a := o_atN (k := 0) h
theorem o_at1 {xs : List α} {a : α} (h : xs[(1 : Nat)]? = some a) : L2.atI xs (1 : Int) = some a := o_atN (k := 1) h
theorem o_at2 {xs : List α} {a : α} (h : xs[(2 : Nat)]? = some a) : L2.atI xs (2 : Int) = some a := o_atN (k := 2) h
theorem o_at3 {xs : List α} {a : α} (h : xs[(3 : Nat)]? = some a) : L2.atI xs (3 : Int) = some a := o_atN (k := 3) h
theorem o_map {f : α → β} {xs : List α} {k : Nat} {a : α} (h : xs[k]? = some a) : (xs.map f)[k]? = some (f a) := by
  rw [List.getElem?_map, h]
  rfl
theorem o_own {ci : Nat} {mn : Str} {fn : Fn} {k : D → D → M D} {q : FR} {r : R D} (hh : CS.has ⟨sl, S⟩ ci mn x = true) (h : fn [x, y] S = q) (kk : liftF q ⟨sl, S⟩ = r) : dOwn ci mn fn k x y ⟨sl, S⟩ = r := by
  subst h
  subst kk
  unfold dOwn
  rw [hh]
theorem o_ownN {ci : Nat} {mn : Str} {fn : Fn} {k : D → D → M D} {r : R D} (hh : c.has ci mn x = false) (kk : k x y c = r) : dOwn ci mn fn k x y c = r := by
  unfold dOwn
  rw [hh]
  exact kk
theorem o_eqO {ci : Nat} {fn : Fn} {k : D → D → M D} {q : FR} {r : R D} (hh : CS.has ⟨sl, S⟩ ci "__eq__" x = true) (ht : CS.typed ⟨sl, S⟩ y = true) (h : fn [x, y] S = q) (kk : liftF q ⟨sl, S⟩ = r) : dEqO ci fn k x y ⟨sl, S⟩ = r := by
  subst h
  subst kk
  unfold dEqO
  rw [hh]
  dsimp only
  rw [ht]
  rfl
theorem o_neO {ci : Nat} {fn : Fn} {k : D → D → M D} (hh : CS.has ⟨sl, S⟩ ci "__eq__" x = true) (ht : CS.typed ⟨sl, S⟩ y = true) (h : fn [x, y] S = .ok (.bl b) S1) : dNeO ci fn k x y ⟨sl, S⟩ = .ok (.bl (!b)) ⟨sl, S1⟩ := by
  unfold dNeO
  rw [hh]
  dsimp only
  rw [ht]
  show negB (liftF (fn [x, y] S) ⟨sl, S⟩) = _
  rw [h]
  rfl
theorem o_eqON {ci : Nat} {fn : Fn} {k : D → D → M D} {r : R D} (hh : c.has ci "__eq__" x = false) (kk : k x y c = r) : dEqO ci fn k x y c = r := by
  unfold dEqO
  rw [hh]
  exact kk
theorem o_neON {ci : Nat} {fn : Fn} {k : D → D → M D} {r : R D} (hh : c.has ci "__eq__" x = false) (kk : k x y c = r) : dNeO ci fn k x y c = r := by
  unfold dNeO
  rw [hh]
  exact kk
theorem w_lenP (h : c.see i = some xs) : cLenP i c = .ok (.int xs.length) c := by
  unfold cLenP
  rw [h]
theorem w_ixP {j : Int} (h : c.see i = some xs) (e : fe c = .ok (.int j) c1) (h1 : c1.see i = some ys) (ha : L2.atI ys j = some d) : cIxP i fe c = .ok d c1 := by
  unfold cIxP
  rw [h]
  show (fe c).bind _ = _
  rw [e]
  show (match D.int j, c1.see i with
    | .int j, some xs => (match L2.atI xs j with
      | some d => R.ok d c1
      | none => .stuck)
    | _, _ => .stuck) = _
  rw [h1]
  dsimp only
  rw [ha]
theorem w_lenT : bLen [.tup xs] c = .ok (.int xs.length) c := rfl
theorem w_lenL : bLen [.lst xs] c = .ok (.int xs.length) c := rfl
theorem w_lenR (h : S[n]? = some (.lst xs)) : bLen [.ref n] ⟨sl, S⟩ = .ok (.int xs.length) ⟨sl, S⟩ := by
  have s : CS.seqL ⟨sl, S⟩ (.ref n) = some xs := by
    show (match S[n]? with
      | some (.lst xs) => some xs
      | _ => none) = _
    rw [h]
  show (match CS.seqL ⟨sl, S⟩ (.ref n) with
    | some xs => R.ok (D.int xs.length) (⟨sl, S⟩ : CS)
    | none => .stuck) = _
  rw [s]
theorem w_listT : bList [.tup xs] c = .ok xs c := rfl
theorem w_listL : bList [.lst xs] c = .ok xs c := rfl
theorem w_listR (h : S[n]? = some (.lst xs)) : bList [.ref n] ⟨sl, S⟩ = .ok xs ⟨sl, S⟩ := by
  have s : CS.seqL ⟨sl, S⟩ (.ref n) = some xs := by
    show (match S[n]? with
      | some (.lst xs) => some xs
      | _ => none) = _
    rw [h]
  show (match CS.seqL ⟨sl, S⟩ (.ref n) with
    | some xs => R.ok xs (⟨sl, S⟩ : CS)
    | none => .stuck) = _
  rw [s]
theorem w_tupT : bTuple [.tup xs] c = .ok (.tup xs) c := rfl
theorem w_tupL : bTuple [.lst xs] c = .ok (.tup xs) c := rfl
theorem w_tupR (h : S[n]? = some (.lst xs)) : bTuple [.ref n] ⟨sl, S⟩ = .ok (.tup xs) ⟨sl, S⟩ := by
  have s : CS.seqL ⟨sl, S⟩ (.ref n) = some xs := by
    show (match S[n]? with
      | some (.lst xs) => some xs
      | _ => none) = _
    rw [h]
  show (match CS.seqL ⟨sl, S⟩ (.ref n) with
    | some xs => R.ok (D.tup xs) (⟨sl, S⟩ : CS)
    | none => .stuck) = _
  rw [s]
theorem w_all {bs : List Bool} (h : asBls xs = some bs) : bAll [.lst xs] c = .ok (.bl (bs.all id)) c := by
  unfold bAll bOne
  dsimp only
  rw [show CS.seqL c (D.lst xs) = some xs from rfl, Option.bind_some, h]
  rfl
theorem w_any {bs : List Bool} (h : asBls xs = some bs) : bAny [.lst xs] c = .ok (.bl (bs.any id)) c := by
  unfold bAny bOne
  dsimp only
  rw [show CS.seqL c (D.lst xs) = some xs from rfl, Option.bind_some, h]
  rfl
theorem w_neg {i : Int} : dNeg (.int i) c = .ok (.int (-i)) c := rfl
theorem w_joined {fs : List (M D)} {a : Str} (e : cParts fs Str.empty c = .ok a c1) : cJoined fs c = .ok (.str a) c1 := by
  unfold cJoined M.bind
  rw [e]
  rfl
theorem w_parts0 {a : Str} : cParts [] a c = .ok a c := rfl
theorem w_parts {fs : List (M D)} {a v : Str} {r : R Str} (e : fe c = .ok (.str v) c1) (hz : szOk (a ++ v).length = true) (k : cParts fs (a ++ v) c1 = r) : cParts (fe :: fs) a c = r := by
  rw [cParts]
  unfold M.bind
  rw [e]
  show M.guard (szOk (a ++ v).length) (cParts fs (a ++ v)) c1 = _
  rw [hz]
  exact k
theorem o_fmtO {ci : Nat} {fn : Fn} {v : Str} (hh : CS.has ⟨sl, S⟩ ci "__str__" d = true) (h : fn [d] S = .ok (.str v) S1) : dFmtO ci fn d ⟨sl, S⟩ = .ok (.str v) ⟨sl, S1⟩ := by
  unfold dFmtO
  rw [hh]
  show strOnly (liftF (fn [d] S) ⟨sl, S⟩) = _
  rw [h]
  rfl
theorem o_strO {ci : Nat} {fn : Fn} {v : Str} (hh : CS.has ⟨sl, S⟩ ci "__str__" d = true) (h : fn [d] S = .ok (.str v) S1) : dStrO ci fn d ⟨sl, S⟩ = .ok (.str v) ⟨sl, S1⟩ := by
  unfold dStrO
  rw [hh]
  show strOnly (liftF (fn [d] S) ⟨sl, S⟩) = _
  rw [h]
  rfl
theorem o_reprO {ci : Nat} {fn : Fn} {v : Str} (hh : CS.has ⟨sl, S⟩ ci "__repr__" d = true) (h : fn [d] S = .ok (.str v) S1) : dReprO ci fn d ⟨sl, S⟩ = .ok (.str v) ⟨sl, S1⟩ := by
  unfold dReprO
  rw [hh]
  show strOnly (liftF (fn [d] S) ⟨sl, S⟩) = _
  rw [h]
  rfl
theorem o_lenO {ci : Nat} {fn : Fn} {k : Nat} (hh : CS.has ⟨sl, S⟩ ci "__len__" d = true) (h : fn [d] S = .ok (.int (k : Nat)) S1) (hk : k ≤ 1000000) : dLenO ci fn d ⟨sl, S⟩ = .ok (.int (k : Nat)) ⟨sl, S1⟩ := by
  unfold dLenO
  rw [hh]
  show intOnly (liftF (fn [d] S) ⟨sl, S⟩) = _
  rw [h]
  have z : decide (0 ≤ (k : Int) ∧ (k : Int) < 2 ^ 63) = true := by
    simp
    omega
  unfold liftF intOnly
  dsimp only
  rw [z]
  rfl
theorem w_log {k : Nat} (hk : k ≤ 1000) : decide ((k : Int).natAbs.log2 < 1920) = true := by
  have h1 := Nat.log2_le_self k
  have h2 : (k : Int).natAbs.log2 < 1920 := by
    rw [Int.natAbs_natCast]
    generalize Nat.log2 k = m at h1
    omega
  simp only [h2, decide_true]
theorem o_fmtI {k : Nat} (hk : k ≤ 1000) : dFmtI (.int (k : Nat)) c = .ok (.str (toString (k : Int))) c := by
  show M.guard (decide ((k : Int).natAbs.log2 < 1920)) _ c = _
  rw [w_log hk]
  rfl
theorem w_strI {k : Nat} (hk : k ≤ 1000) : bStr [.int (k : Nat)] c = .ok (.str (toString (k : Int))) c := by
  show M.guard (decide ((k : Int).natAbs.log2 < 1920)) _ c = _
  rw [w_log hk]
  rfl
theorem w_join {a : Str} {r : R D} (eo : fo c = .ok (.str a) c1) (ee : fe c1 = .ok d c2) (k : dJoin a d c2 = r) : cJoin fo fe c = r := by
  show (fo c).bind _ = _
  rw [eo]
  show (fe c1).bind _ = _
  rw [ee]
  exact k
theorem o_addS {a v : Str} (h : szOk (a.length + v.length) = true) : dAdd (.str a) (.str v) c = .ok (.str (a ++ v)) c := by
  show M.guard (szOk (a.length + v.length)) _ c = _
  rw [h]
  rfl
def startSl (n : Nat) (ds : List D) : List Sl := ds.map .val ++ List.replicate (n - ds.length) .no
theorem w_fnB {np : Nat} {fb : M Fl} {q : FR} {r : R Fl} (hl : ds.length = np) (hs : Nl (startSl n ds) sl) (e : fb ⟨sl, S⟩ = r) (k : outF r = q) : fnB n np fb ds S = q := by
  obtain ⟨rfl⟩ := hs
  subst k
  subst e
  unfold fnB
  rw [decide_eq_true hl]
  rfl
theorem w_outN : outF (.ok .next ⟨sl, S⟩) = .ok .non S := rfl
theorem w_outR : outF (.ok (.ret d) ⟨sl, S⟩) = .ok d S := rfl
theorem w_outX : outF (.exc cn vs ⟨sl, S⟩) = .exc cn vs S := rfl
theorem w_nl {l xs ys : List α} {x : α} (h : l = x :: xs) (k : xs = ys) : l = x :: ys := by
  subst k
  exact h
theorem w_nl0 {l : List α} (h : l = []) : l = [] := h
theorem w_nlI {l m : List α} (h : l = m) : Nl l m := ⟨h⟩
theorem w_slt {l : List Sl} {i : Nat} {o : Option Sl} (h : l[i]? = o) : l[i]? = o := h
theorem w_sto {l : List O} {i : Nat} {o : Option O} (h : l[i]? = o) : l[i]? = o := h
theorem w_le {a b : Nat} (h : a ≤ b) : a ≤ b := h
theorem w_lt {a b : Nat} (h : a < b) : a < b := h
theorem w_ln {l : List α} {m : List β} (h : l.length = m.length) : l.length = m.length := h
theorem w_lnN {l : List α} {n : Nat} (h : l.length = n) : l.length = n := h
theorem w_ixN {n i : Nat} (h : i < n) : L2.ixN n (i : Int) = some i := by
  unfold L2.ixN
  rw [if_pos (by omega), if_pos (by omega), Int.toNat_natCast]
theorem w_has {k : Nat} {mn : Str} (h : c.has k mn d = b) : c.has k mn d = b := h
theorem w_fldI {k i : Nat} {mn : Str} {o : Option D} (h : c.fld k i mn d = o) : c.fld k i mn d = o := h
theorem w_at {l : List α} {i : Int} {o : Option α} (h : L2.atI l i = o) : L2.atI l i = o := h
theorem w_kn {o : Option Kn} (h : c.knOf d = o) : c.knOf d = o := h
theorem w_seeI {o : Option (List D)} (h : c.see i = o) : c.see i = o := h
theorem w_knB {q k : Kn} (h : isKn q k = b) : isKn q k = b := h
theorem w_knA {ks : List Kn} {q : Kn} (h : ks.any (isKn q) = b) : ks.any (isKn q) = b := h
theorem w_nonB (h : d.isNon = b) : d.isNon = b := h
theorem w_nonN (h : (!d.isNon) = b) : (!d.isNon) = b := h
theorem w_emp {l : List α} (h : (!l.isEmpty) = b) : (!l.isEmpty) = b := h
theorem w_typed (h : c.typed d = true) : c.typed d = true := h
theorem w_asB' {o : Option (List Bool)} (h : asBls xs = o) : asBls xs = o := h
theorem w_rng {a b i : Int} (h : a ≤ i ∧ i ≤ b) : a ≤ i ∧ i ≤ b := h
theorem w_rng2 {a b i a2 b2 i2 : Int} (h : (a ≤ i ∧ i ≤ b) ∧ (a2 ≤ i2 ∧ i2 ≤ b2)) : (a ≤ i ∧ i ≤ b) ∧ (a2 ≤ i2 ∧ i2 ≤ b2) := h
end
end CL
namespace CL
open PySem PySem.Spec PyProof.Rows L2
end CL
namespace CL
open PySem PySem.Spec PyProof.Rows L2
def bMaxA : List D → M D
  | [.tup xs] => fun c => match asInts xs with
    | some ns => M.guard (decide (0 < ns.length)) (M.ret (.int (maxI ns))) c
    | none => .stuck
  | ds => bMax ds
section
variable {X : Cx} {g : G} {k : Nat} {N : List Str} {sc ws : Scope} {W : WX} {p pos : Pos} {e : Expr} {es : List Expr} {fa : M (List D)}
end
section
variable {c : CS} {xs : List D} {n : Nat}
theorem w_maxT {ns : List Int} (e : asInts xs = some ns) (h : 0 < ns.length) : bMaxA [.tup xs] c = .ok (.int (maxI ns)) c := by
  unfold bMaxA
  dsimp only
  rw [e]
  dsimp only
  rw [decide_eq_true h]
  rfl
theorem w_cutTfromS : dCutT (.tup xs) (some ((n : Nat) + 1 : Int)) none c = .ok (.tup (xs.drop (n + 1))) c := w_cutTfrom (n := n + 1)
theorem w_cutLfromS : dCutL (.lst xs) (some ((n : Nat) + 1 : Int)) none c = .ok (xs.drop (n + 1)) c := w_cutLfrom (n := n + 1)
theorem o_shpB (b : Bool) : SeqAt.shaped (.bool b) = true := by
  unfold SeqAt.shaped
  simp [PyData.canLay0, PyData.depth]
theorem o_eqB {a b : Bool} : dEq (.bl a) (.bl b) c = .ok (.bl (a == b)) c := by
  show M.guard (SeqAt.shaped (.bool a) && SeqAt.shaped (.bool b)) (M.ret (D.bl (PyData.eqv (.bool a) (.bool b)))) c = _
  rw [o_shpB, o_shpB]
  have e : PyData.eqv (.bool a) (.bool b) = (a == b) := by simp [PyData.eqv]
  rw [e]
  rfl
theorem o_neB {a b : Bool} : dNe (.bl a) (.bl b) c = .ok (.bl (a != b)) c := by
  show M.guard (SeqAt.shaped (.bool a) && SeqAt.shaped (.bool b)) (M.ret (D.bl (!PyData.eqv (.bool a) (.bool b)))) c = _
  rw [o_shpB, o_shpB]
  have e : PyData.eqv (.bool a) (.bool b) = (a == b) := by simp [PyData.eqv]
  rw [e]
  rfl
end
end CL
namespace CL
open PySem
section
variable {α β : Type} {f h : M Fl} {c c1 c2 : CS} {sl sl1 sl2 : List Sl} {S S1 S2 : List O} {d x y : D} {fa fb fe fo : M D} {cn : Nat} {vs : List D} {fr : M (List D)}
theorem x_seq (e : f c = .exc cn vs c1) : cSeq f h c = .exc cn vs c1 := by
  unfold cSeq
  rw [e]
theorem w_try {fsu : M Fl} (e : fb c = .ok d c1) : cTry fsu fb c = .ok (.tup [.str Str.empty, d]) c1 := by
  unfold cTry
  rw [e]
theorem w_tryX {fsu : M Fl} (e : fb c = .exc cn vs ⟨sl, S⟩) (hs : fsu ⟨[.no, .val (.exn cn vs)], S⟩ = .ok (.ret d) ⟨sl2, S2⟩) : cTry fsu fb c = .ok d ⟨sl, S2⟩ := by
  unfold cTry
  rw [e]
  dsimp only
  rw [hs]
theorem w_xf {E : Nat → List Str} {fn : Str} (h : ((E cn).zip vs).lookup fn = some d) : dXf E fn (.exn cn vs) c = .ok d c := by
  unfold dXf
  dsimp only
  rw [h]
theorem o_eqS {a b : Str} (ha : SeqAt.shaped (.str a) = true) (hb : SeqAt.shaped (.str b) = true) : dEq (.str a) (.str b) c = .ok (.bl (decide (a = b))) c := by
  show (match toP (.str a), toP (.str b) with
    | some p, some q => M.guard (SeqAt.shaped p && SeqAt.shaped q) (M.ret (D.bl (PyData.eqv p q)))
    | _, _ => fun _ => .stuck : M D) c = _
  have t : ∀ x, toP (.str x) = some (.str x) := fun x => by simp [toP]
  have e : PyData.eqv (.str a) (.str b) = (a == b) := by simp [PyData.eqv]
  rw [t, t]
  dsimp only
  rw [ha, hb, e]
  show R.ok (D.bl (a == b)) c = _
  by_cases h : a = b <;> simp [h]
def pdS : Nat → D → Prop
  | _, .non => True
  | _, .bl _ => True
  | _, .int _ => True
  | _, .str x => PyData.strOk x = true
  | n + 1, .tup xs => ∀ x ∈ xs, pdS n x
  | n + 1, .lst xs => ∀ x ∈ xs, pdS n x
  | _, _ => False
theorem pdS_of (n : Nat) : ∀ d : D, pdS n d → PdG n d := by
  have base : ∀ n : Nat, PdG n .non ∧ (∀ b, PdG n (.bl b)) ∧ (∀ i, PdG n (.int i)) ∧ ∀ x, PyData.strOk x = true → PdG n (.str x) := fun n =>
    ⟨⟨.none, rfl, by simp [PyData.canLay0], by simp [PyData.depth], by simp [PyData.eqv]⟩, fun b => ⟨.bool b, rfl, by simp [PyData.canLay0], by simp [PyData.depth], by simp [PyData.eqv]⟩, fun i => ⟨.int i, rfl, by simp [PyData.canLay0], by simp [PyData.depth], by simp [PyData.eqv]⟩, fun x hx => ⟨.str x, by simp [toP], by simp [PyData.canLay0, hx], by simp [PyData.depth], by simp [PyData.eqv]⟩⟩
  induction n with
  | zero =>
    intro d h
    cases d with
    | non => exact (base 0).1
    | bl b => exact (base 0).2.1 b
    | int i => exact (base 0).2.2.1 i
    | str x => exact (base 0).2.2.2 x h
    | _ => exact h.elim
  | succ n ih =>
    intro d h
    cases d with
    | non => exact (base _).1
    | bl b => exact (base _).2.1 b
    | int i => exact (base _).2.2.1 i
    | str x => exact (base _).2.2.2 x h
    | tup xs =>
      obtain ⟨ps, e1, e2, e3, e4⟩ := pd_list n xs fun x hx => ih x (h x hx)
      exact ⟨.tuple ps, by rw [toP, e1]; rfl, by simp [PyData.canLay0, e2], by simp [PyData.depth]; omega, by simp [PyData.eqv, e4]⟩
    | lst xs =>
      obtain ⟨ps, e1, e2, e3, e4⟩ := pd_list n xs fun x hx => ih x (h x hx)
      exact ⟨.list ps, by rw [toP, e1]; rfl, by simp [PyData.canLay0, e2], by simp [PyData.depth]; omega, by simp [PyData.eqv, e4]⟩
    | _ => exact h.elim
theorem pd_shp {n : Nat} {d : D} (hn : n ≤ 60) (h : pdS n d) : ∃ p, toP d = some p ∧ SeqAt.shaped p = true ∧ PyData.eqv p p = true := by
  obtain ⟨p, e1, e2, e3, e4⟩ := pdS_of n d h
  refine ⟨p, e1, ?_, e4⟩
  unfold SeqAt.shaped
  rw [e2, decide_eq_true (by omega)]
  rfl
theorem dNe_pd {n : Nat} (hn : n ≤ 60) (h : pdS n d) (c : CS) : dNe d d c = .ok (.bl false) c := by
  obtain ⟨p, e1, e2, e3⟩ := pd_shp hn h
  show (match toP d, toP d with
    | some p, some q => M.guard (SeqAt.shaped p && SeqAt.shaped q) (M.ret (D.bl (!PyData.eqv p q)))
    | _, _ => fun _ => .stuck : M D) c = _
  rw [e1]
  dsimp only
  rw [e2, e3]
  rfl
end
end CL
namespace CL
open PySem PySem.Spec PyProof.Rows L2
section
variable {X : Cx} {g : G} {k : Nat} {N : List Str} {sc ws : Scope} {W : WX} {pos px apos cpos tpos : Pos} {e : Expr} {fe : M D} {i : Nat} {x : Str}
end
section
variable {X : Cx} {g : G} {k : Nat} {N : List Str} {sc ws : Scope} {W : WX} {p pos kp : Pos} {e ke : Expr} {fe fk : M D} {kn x : Str} {id : String}
def dMaxD (d v : D) : M D := fun c => match c.seqL d with
  | some xs => match asInts xs with
    | some [] => .ok v c
    | some (n :: ns) => .ok (.int (maxI (n :: ns))) c
    | none => .stuck
  | none => .stuck
def cMaxD (fe fk : M D) : M D := fe.bind fun d => fk.bind fun v => dMaxD d v
def sortR (ns : List Int) : List Int := (sortI ns).reverse
def dSortR (d v : D) : M (List D) := fun c => match v, c.seqL d with
  | .bl true, some xs => match asInts xs with
    | some ns => match decide (ns.length < 64) with
      | true => .ok ((sortR ns).map .int) c
      | false => .stuck
    | none => .stuck
  | _, _ => .stuck
def cSortR (fe fk : M D) : M (List D) := fe.bind fun d => fk.bind fun v => dSortR d v
end
section
variable {X : Cx} {g : G} {k : Nat} {N : List Str} {sc ws : Scope} {W : WX} {tg iter tg1 iter1 elt : Expr} {ifs ifs1 : List Expr} {scope : Scope} {own : List (Str × Nat)} {vs1 : List Nat} {pos : Pos} {t t1 : Tg} {fi fi1 : M (List D)} {ft ft1 : M Bool} {fe : M D}
end
end CL
namespace CL
open PySem PySem.Spec PyProof.Rows L2
section
variable {X : Cx} {g : G} {k : Nat} {N : List Str} {sc ws : Scope} {W : WX} {p pos : Pos} {e : Expr} {es : List Expr} {fa : M (List D)}
end
end CL
namespace CL
open PySem PySem.Spec PyProof.Rows L2
section
variable {g : G} {k : Nat} {N : List Str} {X : Cx} {sc ws : Scope} {W : WX} {p pos tpos : Pos} {e e2 tg : Expr} {fe fe2 : M D} {es : List Expr} {kk : Nat}
end
end CL
namespace CL
open PySem PySem.Spec PyProof.Rows L2
def pdI : Nat → D → Prop
  | _, .non => True
  | _, .int _ => True
  | _, .str x => PyData.strOk x = true
  | n + 1, .tup xs => ∀ x ∈ xs, pdI n x
  | n + 1, .lst xs => ∀ x ∈ xs, pdI n x
  | _, _ => False
theorem pdI_S (n : Nat) : ∀ d : D, pdI n d → pdS n d := by
  induction n with
  | zero => intro d h; cases d <;> first | exact h | exact h.elim
  | succ n ih =>
    intro d h
    cases d with
    | tup xs => exact fun x hx => ih x (h x hx)
    | lst xs => exact fun x hx => ih x (h x hx)
    | bl b => exact h.elim
    | obj _ _ => exact h.elim
    | ref _ => exact h.elim
    | scr _ => exact h.elim
    | exn _ _ => exact h.elim
    | _ => exact h
theorem eqvAll_of {P : D → Prop} (hP : ∀ d e p q, P d → P e → toP d = some p → toP e = some q → PyData.eqv p q = true → d = e) : ∀ (xs ys : List D) (ps qs : List PyData), (∀ x ∈ xs, P x) → (∀ x ∈ ys, P x) → toPs xs = some ps → toPs ys = some qs → PyData.eqvAll ps qs = true → xs = ys := by
  intro xs
  induction xs with
  | nil =>
    intro ys ps qs _ _ h1 h2 h
    cases ys with
    | nil => rfl
    | cons y ys =>
      exfalso
      rw [toPs] at h1
      rw [toPs] at h2
      cases h1
      cases e1 : toP y with
      | none => rw [e1] at h2; cases h2
      | some p =>
        cases e2 : toPs ys with
        | none => rw [e1, e2] at h2; cases h2
        | some r => rw [e1, e2] at h2; cases h2; simp [PyData.eqvAll] at h
  | cons x xs ih =>
    intro ys ps qs hx hy h1 h2 h
    rw [toPs] at h1
    cases e1 : toP x with
    | none => rw [e1] at h1; cases h1
    | some p =>
      cases e2 : toPs xs with
      | none => rw [e1, e2] at h1; cases h1
      | some r =>
        rw [e1, e2] at h1
        cases h1
        cases ys with
        | nil => rw [toPs] at h2; cases h2; simp [PyData.eqvAll] at h
        | cons y ys =>
          rw [toPs] at h2
          cases f1 : toP y with
          | none => rw [f1] at h2; cases h2
          | some p2 =>
            cases f2 : toPs ys with
            | none => rw [f1, f2] at h2; cases h2
            | some r2 =>
              rw [f1, f2] at h2
              cases h2
              simp [PyData.eqvAll] at h
              rw [hP x y p p2 (hx x (by simp)) (hy y (by simp)) e1 f1 h.1, ih ys r r2 (fun z hz => hx z (by simp [hz])) (fun z hz => hy z (by simp [hz])) e2 f2 h.2]
theorem eqv_eq (n : Nat) : ∀ (d e : D) (p q : PyData), pdI n d → pdI n e → toP d = some p → toP e = some q → PyData.eqv p q = true → d = e := by
  have base : ∀ (d e : D) (p q : PyData), (d = .non ∨ (∃ i, d = .int i) ∨ ∃ x, d = .str x) → (e = .non ∨ (∃ i, e = .int i) ∨ ∃ x, e = .str x) → toP d = some p → toP e = some q → PyData.eqv p q = true → d = e := by
    rintro d e p q (rfl | ⟨i, rfl⟩ | ⟨x, rfl⟩) (rfl | ⟨j, rfl⟩ | ⟨y, rfl⟩) h1 h2 h <;> simp only [toP, Option.some.injEq] at h1 h2 <;> subst h1 <;> subst h2 <;> simp [PyData.eqv] at h ⊢ <;> exact h
  have mix1 : ∀ (d : D) (xs : List D) (p q : PyData), (d = .non ∨ (∃ i, d = .int i) ∨ ∃ x, d = .str x) → toP d = some p → toP (.tup xs) = some q → PyData.eqv p q = true → False := by
    rintro d xs p q (rfl | ⟨i, rfl⟩ | ⟨x, rfl⟩) h1 h2 h <;> simp only [toP, Option.some.injEq, Option.map_eq_some_iff] at h1 h2 <;> obtain ⟨r, _, rfl⟩ := h2 <;> subst h1 <;> simp [PyData.eqv] at h
  have mix2 : ∀ (d : D) (xs : List D) (p q : PyData), (d = .non ∨ (∃ i, d = .int i) ∨ ∃ x, d = .str x) → toP d = some p → toP (.lst xs) = some q → PyData.eqv p q = true → False := by
    rintro d xs p q (rfl | ⟨i, rfl⟩ | ⟨x, rfl⟩) h1 h2 h <;> simp only [toP, Option.some.injEq, Option.map_eq_some_iff] at h1 h2 <;> obtain ⟨r, _, rfl⟩ := h2 <;> subst h1 <;> simp [PyData.eqv] at h
  have mix3 : ∀ (d : D) (xs : List D) (p q : PyData), (d = .non ∨ (∃ i, d = .int i) ∨ ∃ x, d = .str x) → toP d = some p → toP (.tup xs) = some q → PyData.eqv q p = true → False := by
    rintro d xs p q (rfl | ⟨i, rfl⟩ | ⟨x, rfl⟩) h1 h2 h <;> simp only [toP, Option.some.injEq, Option.map_eq_some_iff] at h1 h2 <;> obtain ⟨r, _, rfl⟩ := h2 <;> subst h1 <;> simp [PyData.eqv] at h
  have mix4 : ∀ (d : D) (xs : List D) (p q : PyData), (d = .non ∨ (∃ i, d = .int i) ∨ ∃ x, d = .str x) → toP d = some p → toP (.lst xs) = some q → PyData.eqv q p = true → False := by
    rintro d xs p q (rfl | ⟨i, rfl⟩ | ⟨x, rfl⟩) h1 h2 h <;> simp only [toP, Option.some.injEq, Option.map_eq_some_iff] at h1 h2 <;> obtain ⟨r, _, rfl⟩ := h2 <;> subst h1 <;> simp [PyData.eqv] at h
  have kinds : ∀ (n : Nat) (d : D), pdI n d → (d = .non ∨ (∃ i, d = .int i) ∨ ∃ x, d = .str x) ∨ (∃ xs, d = .tup xs) ∨ ∃ xs, d = .lst xs := by
    intro n d h
    cases d with
    | non => exact .inl (.inl rfl)
    | int i => exact .inl (.inr (.inl ⟨_, rfl⟩))
    | str x => exact .inl (.inr (.inr ⟨_, rfl⟩))
    | tup xs => exact .inr (.inl ⟨_, rfl⟩)
    | lst xs => exact .inr (.inr ⟨_, rfl⟩)
    | bl b => cases n <;> exact h.elim
    | obj _ _ => cases n <;> exact h.elim
    | ref _ => cases n <;> exact h.elim
    | scr _ => cases n <;> exact h.elim
    | exn _ _ => cases n <;> exact h.elim
  induction n with
  | zero =>
    intro d e p q hd he h1 h2 h
    rcases kinds 0 d hd with k | ⟨xs, rfl⟩ | ⟨xs, rfl⟩
    · rcases kinds 0 e he with l | ⟨ys, rfl⟩ | ⟨ys, rfl⟩
      · exact base d e p q k l h1 h2 h
      · exact (mix1 d ys p q k h1 h2 h).elim
      · exact (mix2 d ys p q k h1 h2 h).elim
    · exact hd.elim
    · exact hd.elim
  | succ n ih =>
    intro d e p q hd he h1 h2 h
    rcases kinds (n + 1) d hd with k | ⟨xs, rfl⟩ | ⟨xs, rfl⟩
    · rcases kinds (n + 1) e he with l | ⟨ys, rfl⟩ | ⟨ys, rfl⟩
      · exact base d e p q k l h1 h2 h
      · exact (mix1 d ys p q k h1 h2 h).elim
      · exact (mix2 d ys p q k h1 h2 h).elim
    · rcases kinds (n + 1) e he with l | ⟨ys, rfl⟩ | ⟨ys, rfl⟩
      · exact (mix3 e xs q p l h2 h1 h).elim
      · simp only [toP, Option.map_eq_some_iff] at h1 h2
        obtain ⟨r, a1, rfl⟩ := h1
        obtain ⟨r2, a2, rfl⟩ := h2
        rw [eqvAll_of (P := pdI n) ih xs ys r r2 hd he a1 a2 (by simpa [PyData.eqv] using h)]
      · simp only [toP, Option.map_eq_some_iff] at h1 h2
        obtain ⟨r, a1, rfl⟩ := h1
        obtain ⟨r2, a2, rfl⟩ := h2
        simp [PyData.eqv] at h
    · rcases kinds (n + 1) e he with l | ⟨ys, rfl⟩ | ⟨ys, rfl⟩
      · exact (mix4 e xs q p l h2 h1 h).elim
      · simp only [toP, Option.map_eq_some_iff] at h1 h2
        obtain ⟨r, a1, rfl⟩ := h1
        obtain ⟨r2, a2, rfl⟩ := h2
        simp [PyData.eqv] at h
      · simp only [toP, Option.map_eq_some_iff] at h1 h2
        obtain ⟨r, a1, rfl⟩ := h1
        obtain ⟨r2, a2, rfl⟩ := h2
        rw [eqvAll_of (P := pdI n) ih xs ys r r2 hd he a1 a2 (by simpa [PyData.eqv] using h)]
section
variable {n : Nat} {d e : D} {c : CS}
theorem seqL_ref {S : List O} {sl : List Sl} {n : Nat} {xs : List D} (h : S[n]? = some (.lst xs)) : CS.seqL ⟨sl, S⟩ (.ref n) = some xs := by
  show (match S[n]? with
    | some (.lst xs) => some xs
    | _ => none) = _
  rw [h]
end
end CL
namespace CL
open PySem
theorem o_catR {S : List O} {sl : List Sl} {n : Nat} {xs ys : List D} (h : S[n]? = some (.lst xs)) (hz : szOk (xs.length + ys.length) = true) : dCat (.ref n) (.lst ys) ⟨sl, S⟩ = .ok (xs ++ ys) ⟨sl, S⟩ := by
  show (match CS.seqL ⟨sl, S⟩ (.ref n), CS.seqL ⟨sl, S⟩ (.lst ys) with
    | some xs, some ys => M.guard (szOk (xs.length + ys.length)) (M.ret (xs ++ ys)) (⟨sl, S⟩ : CS)
    | _, _ => .stuck) = _
  rw [seqL_ref h]
  show M.guard (szOk (xs.length + ys.length)) _ _ = _
  rw [hz]
  rfl
end CL
namespace CL
open PySem
theorem w_intB {b : Bool} {c : CS} : bInt [.bl b] c = .ok (.int (if b = true then 1 else 0)) c := rfl
theorem w_intI {i : Int} {c : CS} : bInt [.int i] c = .ok (.int i) c := rfl
end CL
namespace CL
open PySem PySem.Spec PyProof.Rows L2
def BindsK (K : PySem.W.Frag) (fd : FuncData) (ps : List Str) (kn : Str) : Prop := ∀ (s : Shared) (us : List Value) (uk : Value), K.In s.heap → (us ++ [uk]).length = ps.length → BindsTo s fd ⟨us, [(kn, uk)]⟩ (ps.zip (us ++ [uk]))
structure KwFun (g : G) (x qual : Str) (st : Stmt) (f : Addr) (ps : List Str) (kn : Str) (i : Int) : Prop where
  ex : ∃ fd, L2.Fun g.K x qual st f fd ∧ BindsK g.K fd ps kn ∧ ∃ u, RelV (.int i) u ∧ Binds g.K fd ps [u]
section
variable {g : G} {x qual : Str} {st : Stmt} {f : Addr} {N ps : List Str} {k : Nat} {fb : M Fl} {kn : Str} {i : Int}
end
section
variable {X : Cx} {pins : List (Addr × Obj)} {σ : L2.St} {H : Hp} {s : Shared} {g : G} {m : Mp} {c : CS} {W : WX} {k : Nat} {f : Addr} {fn : Fn} {kn : Str}
end
def cCallK (fn : Fn) (fa : M (List D)) (fk : M D) : M D := fun c => (fa c).bind fun ds c1 => (fk c1).bind fun d c2 => liftF (fn (ds ++ [d]) c2.S) c2
section
variable {X : Cx} {g : G} {k j : Nat} {N : List Str} {sc ws : Scope} {W : WX} {p pos kp : Pos} {e ke : Expr} {es : List Expr} {fa : M (List D)} {fk : M D} {x kn : Str} {f : Addr} {fn : Fn}
end
end CL
namespace CL
open PySem PySem.Spec PyProof.Rows L2
def cShr (_ j : Int) : Bool := decide (0 ≤ j)
abbrev dShl : D → D → M D := dI2 cPow fun i j => .int (i * 2 ^ j.toNat)
abbrev dShr : D → D → M D := dI2 cShr fun i j => .int (i / 2 ^ j.toNat)
abbrev dAnd2 : D → D → M D := dI2 (fun _ _ => true) fun i j => .int (Builtin.bitAnd i j)
def bDivmod : List D → M D
  | [.int i, .int j] => M.guard (cDiv i j) (M.ret (.tup [.int (i / j), .int (i % j)]))
  | _ => fun _ => .stuck
section
variable {X : Cx} {g : G} {k : Nat} {N : List Str} {sc ws : Scope} {W : WX} {p pos : Pos} {e : Expr} {es : List Expr} {fa : M (List D)}
end
theorem w_callK {fn : Fn} {fa : M (List D)} {fk : M D} {c : CS} {xs : List D} {c1 : CS} {d : D} {sl : List Sl} {S : List O} {q : FR} {r : R D} (ea : fa c = .ok xs c1) (ek : fk c1 = .ok d ⟨sl, S⟩) {ys : List D} (hs : Nl (xs ++ [d]) ys) (h : fn ys S = q) (k : liftF q ⟨sl, S⟩ = r) : cCallK fn fa fk c = r := by
  obtain ⟨rfl⟩ := hs
  subst h
  show (fa c).bind _ = _
  rw [ea]
  show (fk c1).bind _ = _
  rw [ek]
  exact k
theorem o_shl {i j : Int} {c : CS} (h : cPow i j = true) : dShl (.int i) (.int j) c = .ok (.int (i * 2 ^ j.toNat)) c := by
  show M.guard (cPow i j) _ c = _
  rw [h]
  rfl
theorem o_shr {i j : Int} {c : CS} (h : 0 ≤ j) : dShr (.int i) (.int j) c = .ok (.int (i / 2 ^ j.toNat)) c := by
  show M.guard (cShr i j) _ c = _
  rw [show cShr i j = true from decide_eq_true h]
  rfl
theorem o_band {i j : Int} {c : CS} : dAnd2 (.int i) (.int j) c = .ok (.int (Builtin.bitAnd i j)) c := rfl
theorem w_divmod {i j : Int} {c : CS} (h : cDiv i j = true) : bDivmod [.int i, .int j] c = .ok (.tup [.int (i / j), .int (i % j)]) c := by
  show M.guard (cDiv i j) _ c = _
  rw [h]
  rfl
end CL
namespace CL
open PySem
section
variable {ci : Nat} {mn : Str} {fn : Fn} {h : D → D → M D} {x y : D} {sl : List Sl} {S : List O} {c : CS} {q : FR} {r : R D}
theorem o_bin (hx : CS.has ⟨sl, S⟩ ci mn x = true) (hy : CS.has ⟨sl, S⟩ ci mn y = true) (e : fn [x, y] S = q) (k : liftF q ⟨sl, S⟩ = r) : dBinO ci mn fn h x y ⟨sl, S⟩ = r := by
  subst e
  unfold dBinO
  rw [hx]
  show M.guard (CS.has ⟨sl, S⟩ ci mn y) _ _ = _
  rw [hy]
  exact k
theorem o_binN (hx : c.has ci mn x = false) (k : h x y c = r) : dBinO ci mn fn h x y c = r := by
  unfold dBinO
  rw [hx]
  exact k
end
end CL
namespace CL
open PySem
end CL
namespace CL
open PySem
end CL
namespace CL
open PySem
theorem w_sortR {fe fk : M D} {d v : D} {c c1 c2 : CS} {r : R (List D)} (e : fe c = .ok d c1) (ek : fk c1 = .ok v c2) (k : dSortR d v c2 = r) : cSortR fe fk c = r := by
  show (fe c).bind _ = _
  rw [e]
  show (fk c1).bind _ = _
  rw [ek]
  exact k
theorem w_maxD {fe fk : M D} {d v : D} {c c1 c2 : CS} {r : R D} (e : fe c = .ok d c1) (ek : fk c1 = .ok v c2) (k : dMaxD d v c2 = r) : cMaxD fe fk c = r := by
  show (fe c).bind _ = _
  rw [e]
  show (fk c1).bind _ = _
  rw [ek]
  exact k
end CL
namespace CL
open PySem
section
variable {xs : List D} {c : CS}
theorem w_cutLm1 : dCutL (.lst xs) none (some (-1)) c = .ok xs.dropLast c := by
  show R.ok ((xs.drop (HT.sIx xs.length 0 none)).take (HT.sIx xs.length xs.length (some (-1)) - HT.sIx xs.length 0 none)) c = _
  have a : HT.sIx xs.length xs.length (some (-1)) = xs.length - 1 := by
    show (if (-1 : Int) < 0 then ((-1 : Int) + (xs.length : Int)).toNat else min (-1 : Int).toNat xs.length) = _
    rw [if_pos (by omega)]
    omega
  have b : HT.sIx xs.length 0 none = 0 := rfl
  rw [a, b, List.drop_zero, Nat.sub_zero, List.dropLast_eq_take]
theorem w_cutLl1 : dCutL (.lst xs) (some (-1)) none c = .ok (xs.drop (xs.length - 1)) c := by
  show R.ok ((xs.drop (HT.sIx xs.length 0 (some (-1)))).take (HT.sIx xs.length xs.length none - HT.sIx xs.length 0 (some (-1)))) c = _
  have a : HT.sIx xs.length 0 (some (-1)) = xs.length - 1 := by
    show (if (-1 : Int) < 0 then ((-1 : Int) + (xs.length : Int)).toNat else min (-1 : Int).toNat xs.length) = _
    rw [if_pos (by omega)]
    omega
  have b : HT.sIx xs.length xs.length none = xs.length := rfl
  rw [a, b, List.take_of_length_le (by rw [List.length_drop]; omega)]
end
theorem toPs_bls (l : List Bool) : toPs (l.map D.bl) = some (l.map PyData.bool) := by
  induction l with
  | nil => simp [toPs]
  | cons x l ih => simp [toPs, toP, ih]
theorem eqv_bls (a b : List Bool) : PyData.eqvAll (a.map PyData.bool) (b.map PyData.bool) = decide (a = b) := by
  induction a generalizing b with
  | nil => cases b <;> simp [PyData.eqvAll]
  | cons x a ih =>
    cases b with
    | nil => simp [PyData.eqvAll]
    | cons y b =>
      simp only [List.map_cons, PyData.eqvAll, PyData.eqv, ih]
      by_cases h : x = y <;> by_cases k : a = b <;> simp [h, k]
theorem shp_bls (l : List Bool) : SeqAt.shaped (.list (l.map PyData.bool)) = true := by
  have a : PyData.canLayAll0 (l.map PyData.bool) = true := by
    induction l with
    | nil => simp [PyData.canLayAll0]
    | cons x l ih => simp [PyData.canLayAll0, PyData.canLay0, ih]
  have b : PyData.depthAll (l.map PyData.bool) ≤ 1 := by
    clear a
    induction l with
    | nil => simp [PyData.depthAll]
    | cons x l ih => simp [PyData.depthAll, PyData.depth]; omega
  unfold SeqAt.shaped
  have c : PyData.canLay0 (.list (l.map PyData.bool)) = true := by simp [PyData.canLay0, a]
  have d : PyData.depth (.list (l.map PyData.bool)) ≤ 2 := by simp [PyData.depth]; omega
  rw [c, decide_eq_true (by omega)]
  rfl
theorem dEq_bls (a b : List Bool) (c : CS) : dEq (.lst (a.map D.bl)) (.lst (b.map D.bl)) c = .ok (.bl (decide (a = b))) c := by
  have t : ∀ l : List Bool, toP (.lst (l.map D.bl)) = some (.list (l.map PyData.bool)) := fun l => by rw [toP, toPs_bls]; rfl
  show (match toP (.lst (a.map D.bl)), toP (.lst (b.map D.bl)) with
    | some p, some q => M.guard (SeqAt.shaped p && SeqAt.shaped q) (M.ret (D.bl (PyData.eqv p q)))
    | _, _ => fun _ => .stuck : M D) c = _
  rw [t, t]
  dsimp only
  rw [shp_bls, shp_bls]
  show R.ok (D.bl (PyData.eqv (.list (a.map PyData.bool)) (.list (b.map PyData.bool)))) c = _
  rw [show PyData.eqv (.list (a.map PyData.bool)) (.list (b.map PyData.bool)) = decide (a = b) by simp [PyData.eqv, eqv_bls]]
theorem dNe_bls (a b : List Bool) (c : CS) : dNe (.lst (a.map D.bl)) (.lst (b.map D.bl)) c = .ok (.bl (!decide (a = b))) c := by
  have t : ∀ l : List Bool, toP (.lst (l.map D.bl)) = some (.list (l.map PyData.bool)) := fun l => by rw [toP, toPs_bls]; rfl
  show (match toP (.lst (a.map D.bl)), toP (.lst (b.map D.bl)) with
    | some p, some q => M.guard (SeqAt.shaped p && SeqAt.shaped q) (M.ret (D.bl (!PyData.eqv p q)))
    | _, _ => fun _ => .stuck : M D) c = _
  rw [t, t]
  dsimp only
  rw [shp_bls, shp_bls]
  show R.ok (D.bl (!PyData.eqv (.list (a.map PyData.bool)) (.list (b.map PyData.bool)))) c = _
  rw [show PyData.eqv (.list (a.map PyData.bool)) (.list (b.map PyData.bool)) = decide (a = b) by simp [PyData.eqv, eqv_bls]]
end CL
namespace CL
open PySem PySem.Spec PyProof.Rows L2
section
variable {X : Cx} {g : G} {k j : Nat} {N : List Str} {sc ws : Scope} {W : WX} {p pos kp : Pos} {x kn : Str} {e ke : Expr} {es : List Expr} {fa : M (List D)} {fk : M D} {f C : Addr} {fn : Fn} {ci : Nat} {ns : List Str}
end
end CL
namespace CL
open PySem PySem.Spec PyProof.Rows L2
inductive Tf where
  | nm (i : Nat)
  | fl (ci i : Nat) (f : Str)
def putF1 : Tf → D → CS → Option CS
  | .nm i, d, c => some (c.put i (.val d))
  | .fl ci i f, d, c => match c.pi ci i with
    | some p => if p.fs.length < 1000 then some (c.wi ci i p (putD f d p.fs)) else none
    | none => none
def putFs : List Tf → List D → CS → Option CS
  | [], [], c => some c
  | t :: ts, d :: ds, c => (putF1 t d c).bind (putFs ts ds)
  | _, _, _ => none
def gF (g : G) (t : Tf) : TG := fun v σ H Q => ∃ m c d c', Sim g m c σ H ∧ Sv g m d v ∧ putF1 t d c = some c' ∧ ∀ m' σ' H', Ext m m' → Sim g m' c' σ' H' → Q σ' H'
section
variable {X : Cx} {g : G} {k : Nat} {N : List Str} {sc ws : Scope} {W : WX} {pos apos tpos px : Pos} {x f : Str} {e : Expr} {fe : M D} {C : Addr} {ci i : Nat} {ns : List Str}
structure PTf (g : G) (X : Cx) (e : Expr) (t : Tf) : Prop where
  run : PG X e (gF g t)
  one : (assignEach [e] X.env) = [(false, assign e X.env)]
inductive PTfs (g : G) (X : Cx) : List Expr → List Tf → Prop where
  | nil : PTfs g X [] []
  | cons {e : Expr} {t : Tf} {es : List Expr} {ts : List Tf} : PTf g X e t → PTfs g X es ts → PTfs g X (e :: es) (t :: ts)
def cSetTf (ts : List Tf) (fe : M D) : M Fl := fun c => (fe c).bind fun d c1 => match d with
  | .tup ds => match putFs ts ds c1 with
    | some c2 => .ok .next c2
    | none => .stuck
  | _ => .stuck
def cAugF (ci i : Nat) (f : Str) (fe : M D) : M Fl := fun c => match c.pi ci i with
  | some p => match p.fs.lookup f with
    | some (.int a) => (fe c).bind fun d c1 => match d, c1.pi ci i with
      | .int b, some p1 => match decide (p1.fs.length < 1000) with
        | true => .ok .next (c1.wi ci i p1 (putD f (.int (a + b)) p1.fs))
        | false => .stuck
      | _, _ => .stuck
    | _ => .stuck
  | none => .stuck
def cPopE (fo : M D) : M D := fo.bind fun o c => match c.lstAt o with
  | some (n, xs) => match xs[xs.length - 1]? with
    | some d => .ok d { c with S := c.S.set n (.lst xs.dropLast) }
    | none => .stuck
  | none => .stuck
theorem Svs.dropLast {m : Mp} : ∀ {ds : List D} {vs : List V}, Svs g m ds vs → Svs g m ds.dropLast vs.dropLast
  | [], _, .nil => .nil
  | [_], _, .cons _ .nil => .nil
  | _ :: _ :: _, _, .cons a (.cons b r) => .cons a (Svs.dropLast (.cons b r))
def cSet2 (i j : Nat) (fe : M D) : M Fl := fun c => (fe c).bind fun d c1 => .ok .next ((c1.put i (.val d)).put j (.val d))
end
end CL
namespace CL
open PySem PySem.Spec PyProof.Rows L2
def dIndex (o d : D) : M D := fun c => match toP o, toP d with
  | some (.list ps), some p => match decide (SeqAt.shaped (.list ps) = true ∧ SeqAt.shaped p = true) with
    | true => match ps.findIdx? fun z => PyData.eqv z p with
      | some j => .ok (.int (j : Nat)) c
      | none => .stuck
    | false => .stuck
  | _, _ => .stuck
def cIndex (fo fe : M D) : M D := fun c => (fo c).bind fun o c1 => match o with
  | .lst _ => (fe c1).bind fun d c2 => dIndex o d c2
  | _ => .stuck
section
variable {X : Cx} {g : G} {k : Nat} {N : List Str} {sc ws : Scope} {W : WX} {pos apos cpos : Pos} {e o : Expr} {fo fe : M D}
end
end CL
namespace CL
open PySem
section
variable {c c1 c2 : CS} {sl sl1 sl2 : List Sl} {S S1 S2 : List O} {d x y : D} {fe fo : M D} {i j n m ci : Nat} {xs ds : List D} {ts : List Tf} {mn : Str} {fs fs1 : List (Str × D)}
theorem w_setTf (e : fe c = .ok (.tup ds) c1) (h : putFs ts ds c1 = some c2) : cSetTf ts fe c = .ok .next c2 := by
  show (fe c).bind _ = _
  rw [e]
  show (match putFs ts ds c1 with
    | some c2 => R.ok Fl.next c2
    | none => .stuck) = _
  rw [h]
theorem w_pf0 : putFs [] [] c = some c := rfl
theorem w_pfN (hs : Nl (sl.set i (.val d)) sl1) (h : putFs ts ds ⟨sl1, S⟩ = some c2) : putFs (.nm i :: ts) (d :: ds) ⟨sl, S⟩ = some c2 := by
  obtain ⟨rfl⟩ := hs
  exact h
theorem pi_ref (h : sl[i]? = some (.val (.ref m))) (h2 : S[m]? = some (.ins ci fs)) : CS.pi ⟨sl, S⟩ ci i = some (.st m fs) := by
  unfold CS.pi
  dsimp only
  rw [h]
  dsimp only
  rw [h2]
  exact if_pos rfl
theorem w_pfF (h : sl[i]? = some (.val (.ref m))) (h2 : S[m]? = some (.ins ci fs)) (hl : fs.length < 1000) (hp : Nl (putD mn d fs) fs1) (k : putFs ts ds ⟨sl, S.set m (.ins ci fs1)⟩ = some c2) : putFs (.fl ci i mn :: ts) (d :: ds) ⟨sl, S⟩ = some c2 := by
  obtain ⟨rfl⟩ := hp
  show (match CS.pi ⟨sl, S⟩ ci i with
    | some p => if p.fs.length < 1000 then some ((⟨sl, S⟩ : CS).wi ci i p (putD mn d p.fs)) else none
    | none => none).bind (putFs ts ds) = _
  rw [pi_ref h h2]
  show (if fs.length < 1000 then some ((⟨sl, S⟩ : CS).wi ci i (.st m fs) (putD mn d fs)) else none).bind (putFs ts ds) = _
  rw [if_pos hl]
  exact k
theorem w_augF {a b : Int} {fs2 : List (Str × D)} (h : sl[i]? = some (.val (.ref m))) (h2 : S[m]? = some (.ins ci fs)) (h3 : fs.lookup mn = some (.int a)) (e : fe ⟨sl, S⟩ = .ok (.int b) ⟨sl1, S1⟩) (g : sl1[i]? = some (.val (.ref m))) (g2 : S1[m]? = some (.ins ci fs1)) (hl : fs1.length < 1000) (hp : Nl (putD mn (.int (a + b)) fs1) fs2) : cAugF ci i mn fe ⟨sl, S⟩ = .ok .next ⟨sl1, S1.set m (.ins ci fs2)⟩ := by
  obtain ⟨rfl⟩ := hp
  unfold cAugF
  rw [pi_ref h h2]
  dsimp only [Pi.fs]
  rw [h3]
  dsimp only
  rw [e]
  unfold R.bind
  dsimp only
  rw [pi_ref g g2]
  show (match decide (fs1.length < 1000) with
    | true => R.ok Fl.next (⟨sl1, S1.set m (.ins ci (putD mn (.int (a + b)) fs1))⟩ : CS)
    | false => .stuck) = _
  rw [decide_eq_true hl]
theorem w_popE (e : fo c = .ok (.ref m) ⟨sl, S⟩) (h : S[m]? = some (.lst xs)) (hd : xs[xs.length - 1]? = some d) : cPopE fo c = .ok d ⟨sl, S.set m (.lst xs.dropLast)⟩ := by
  show (fo c).bind _ = _
  rw [e]
  show (match CS.lstAt ⟨sl, S⟩ (.ref m) with
    | some (n, xs) => match xs[xs.length - 1]? with
      | some d => R.ok d { (⟨sl, S⟩ : CS) with S := S.set n (.lst xs.dropLast) }
      | none => .stuck
    | none => .stuck) = _
  rw [lstAt_of h]
  dsimp only
  rw [hd]
theorem w_set2 (e : fe c = .ok d ⟨sl, S⟩) (hs : Nl ((sl.set i (.val d)).set j (.val d)) sl1) : cSet2 i j fe c = .ok .next ⟨sl1, S⟩ := by
  obtain ⟨rfl⟩ := hs
  show (fe c).bind _ = _
  rw [e]
  rfl
theorem w_index (e : fo c = .ok (.lst xs) c1) (ee : fe c1 = .ok d c2) (h : dIndex (.lst xs) d c2 = .ok x c2) : cIndex fo fe c = .ok x c2 := by
  show (fo c).bind _ = _
  rw [e]
  show (fe c1).bind _ = _
  rw [ee]
  exact h
end
theorem toPs_at : ∀ {xs : List D} {ps : List PyData}, toPs xs = some ps → ∀ (i : Nat) (x : D), xs[i]? = some x → ∃ q, ps[i]? = some q ∧ toP x = some q
  | [], _, _, i, x, h => by simp at h
  | y :: ys, ps, h, i, x, hx => by
    rw [toPs] at h
    cases e1 : toP y with
    | none => rw [e1] at h; cases h
    | some p =>
      cases e2 : toPs ys with
      | none => rw [e1, e2] at h; cases h
      | some r =>
        rw [e1, e2] at h
        cases h
        cases i with
        | zero => cases hx; exact ⟨p, rfl, e1⟩
        | succ i => exact toPs_at e2 i x (by simpa using hx)
theorem toPs_len : ∀ {xs : List D} {ps : List PyData}, toPs xs = some ps → ps.length = xs.length
  | [], _, h => by rw [toPs] at h; cases h; rfl
  | y :: ys, ps, h => by
    rw [toPs] at h
    cases e1 : toP y with
    | none => rw [e1] at h; cases h
    | some p =>
      cases e2 : toPs ys with
      | none => rw [e1, e2] at h; cases h
      | some r =>
        rw [e1, e2] at h
        cases h
        rw [List.length_cons, List.length_cons, toPs_len e2]
theorem dIn_lst {n : Nat} {xs : List D} {d : D} (hn : n ≤ 59) (hx : pdI (n + 1) (.lst xs)) (hd : pdI n d) (b : Bool) (hb : b = true ↔ d ∈ xs) (c : CS) : dIn false d (.lst xs) c = .ok (.bl b) c := by
  have mem : ∀ x ∈ xs, pdI n x := hx
  obtain ⟨q, e1, e2, e3⟩ := pd_shp (by omega : n + 1 ≤ 60) (pdI_S _ _ hx)
  obtain ⟨p, f1, f2, f3⟩ := pd_shp (by omega : n ≤ 60) (pdI_S _ _ hd)
  have e0 : toP (.lst xs) = (toPs xs).map .list := by rw [toP]
  cases e4 : toPs xs with
  | none => rw [e0, e4] at e1; cases e1
  | some ps =>
    rw [e0, e4] at e1
    cases e1
    have pl := toPs_len e4
    have an : (ps.any fun z => PyData.eqv z p) = b := by
      rw [Bool.eq_iff_iff, List.any_eq_true, hb]
      constructor
      · rintro ⟨z, hz, hp⟩
        obtain ⟨i, hi, rfl⟩ := List.getElem_of_mem hz
        have il : i < xs.length := by omega
        obtain ⟨r, r1, r2⟩ := toPs_at e4 i _ (List.getElem?_eq_getElem il)
        rw [(List.getElem?_eq_some_iff.mp r1).2] at hp
        have := eqv_eq n xs[i] d r p (mem _ (List.getElem_mem il)) hd r2 f1 hp
        rw [← this]
        exact List.getElem_mem il
      · intro h
        obtain ⟨i, hi, e⟩ := List.getElem_of_mem h
        obtain ⟨r, r1, r2⟩ := toPs_at e4 i d (by rw [List.getElem?_eq_getElem hi, e])
        rw [f1] at r2
        cases r2
        exact ⟨p, List.mem_of_getElem? r1, f3⟩
    show (match toP d, toPs xs with
      | some p, some ps => M.guard (SeqAt.shaped p && SeqAt.shaped (.list ps)) (M.ret (D.bl (ynot false (ps.any fun z => PyData.eqv z p)))) c
      | _, _ => .stuck) = _
    rw [f1, e4]
    show M.guard (SeqAt.shaped p && SeqAt.shaped (.list ps)) _ c = _
    rw [f2, e2, an]
    cases b <;> rfl
end CL
namespace CL
open PySem PySem.Spec PyProof.Rows L2
structure KwMk (g : G) (qual : Str) (st : Stmt) (f : Addr) (ps : List Str) (kn : Str) : Prop where
  ex : ∃ fd, L2.Fun g.K "__init__" qual st f fd ∧ BindsK g.K fd ps kn ∧ ∃ (a : Addr) (o : Obj) (n : Nat), Binds g.K fd ps [.ref a] ∧ g.K.lookup a = some o ∧ o.cls = .type "tuple" ∧ o.data = .seq #[] n
section
variable {g : G} {qual : Str} {st : Stmt} {f : Addr} {N ps : List Str} {np k ci : Nat} {C : Addr} {ns : List Str} {fb : M Fl} {kn : Str}
end
end CL
namespace CL
open PySem
end CL
namespace CL
open PySem PySem.Spec PyProof.Rows L2
section
variable {X : Cx} {g : G} {k : Nat} {N : List Str} {sc ws : Scope} {W : WX} {tg e e2 e3 : Expr} {fe fe2 fe3 : M D} {p pos : Pos}
end
section
variable {c c1 c2 c3 : CS} {fe fe2 fe3 : M D} {i j : Int}
end
end CL
namespace CL
open PySem PySem.Spec PyProof.Rows L2
section
variable {X : Cx} {g : G} {k : Nat} {N : List Str} {sc ws : Scope} {W : WX} {p p2 pos pos2 : Pos} {e e2 : Expr} {fe fe2 : M D}
end
section
variable {X : Cx} {g : G} {k : Nat} {N : List Str} {sc ws : Scope} {W : WX}
end
end CL
namespace CL
open PySem PySem.Spec PyProof.Rows L2
structure SMet (K : PySem.W.Frag) (C : Addr) (mc : Value) (m : Str) (p f : Addr) : Prop where
  at_ : PySem.W.findCls K (.ref C) mc m = some (.get (.builtin "staticmethod.__get__") (.ref p) .none (.ref C))
  rc : ∃ rest, PySem.W.recIn K p "staticmethod" = some (.ref f :: rest)
  kp : PySem.W.keepIn K (.ref f) = true
section
variable {X : Cx} {g : G} {k j : Nat} {N : List Str} {sc ws : Scope} {W : WX} {p pos apos : Pos} {e : Expr} {es : List Expr} {fa : M (List D)} {f C pa : Addr} {fn : Fn} {mc : Value} {mn xc : Str}
end
end CL
namespace CL
open PySem PySem.Spec PyProof.Rows L2
section
variable {prog : Program} {w : World} {A : Around} {E : Value → Shared → Prop} {s : Shared}
end
section
variable {prog : Program} {w : World} {A : Around} {E : Value → Shared → Prop} {s : Shared}
end
section
variable {X : Cx} {e : Expr} {te : TE} {k : Nat} {p1 p2 p3 pos : Pos}
end
section
variable {X : Cx} {g : G} {W : WX} {e : Expr} {fa : M D} {k : Nat} {p1 p2 p3 pos : Pos}
end
end CL
namespace CL
open PySem PySem.Spec PyProof.Rows L2
structure LamM (N : List Str) (sc scope : Scope) (ys : List Str) (q0 : Nat) : Prop where
  kind : scope.kind = .function
  co : scope.isCoroutine = false
  gen : scope.isGenerator = false
  nocell : ∀ y ∈ scope.names, y.2 ≠ .cell
  own : ∀ i y, N[i]? = some y → i ≠ q0 → scope.names.lookup y ≠ some .local
  free : ∀ y ∈ scope.names, y.2 = .free → sc.names.lookup y.1 = some .cell ∨ sc.names.lookup y.1 = some .free
  par : ∀ y ∈ ys, scope.names.lookup y = some .local
section
variable {X : Cx} {g : G} {pins : List (Addr × Obj)} {m : Mp} {c : CS} {σ : L2.St} {H HZ : Hp} {s s1 s0 : Shared} {W : WX} {q0 : Nat}
end

section
variable {X : Cx} {g : G} {k j : Nat} {N : List Str} {sc ws : Scope} {W : WX} {x a n x1 x2 : Str} {ga CE NF cc P : Addr} {ql : Str} {st : Stmt} {b0 : Stmt} {suite : List Stmt} {fsu : M Fl} {fb : M D} {params : Arguments} {ys : List Str} {body : Expr} {scope : Scope} {j0 kk k2 : Nat} {q0 : Nat} {p1 p2 p3 p4 tp q1 q2 tp2 pos' pos2 p lpos pos : Pos}
end
end CL
namespace CL
open PySem PySem.Spec PyProof.Rows L2
section
variable {P : Program} {w : World} {A : Around} {E : Value → Shared → Prop} {s : Shared}
end
section
variable {X : Cx}
end
def dd : List Int → List Int
  | [] => []
  | x :: r => if x ∈ r then dd r else x :: dd r
section
variable {X : Cx} {g : G} {k : Nat} {N : List Str} {sc ws : Scope} {W : WX} {p p2 pos pos2 : Pos} {e : Expr} {fe : M D}
end
section
variable {X : Cx} {g : G} {k : Nat} {N : List Str} {sc ws : Scope} {W : WX} {p pos : Pos} {e : Expr} {es : List Expr} {fa : M (List D)}
end
end CL
namespace CL
open PySem PySem.Spec PyProof.Rows L2
section
variable {prog : Program} {w : World} {A : Around} {E : Value → Shared → Prop} {s : Shared}
end
section
variable {X : Cx}
end
def cDelFE (fo : M D) (fa : M (Option Int)) : M Fl := fo.bind fun o => fa.bind fun j c => match j, c.lstAt o with
  | some a, some (n, xs) => match decide (0 ≤ a ∧ a ≤ xs.length) with
    | true => .ok .next { c with S := c.S.set n (.lst (xs.take a.toNat)) }
    | false => .stuck
  | _, _ => .stuck
section
variable {X : Cx} {g : G} {k : Nat} {N : List Str} {sc ws : Scope} {W : WX} {pos p2 tpos : Pos} {o : Expr} {lo : Option Expr} {fo : M D} {fl : M (Option Int)}
theorem w_delFE {fo : M D} {fa : M (Option Int)} {c c1 c2 : CS} {n : Nat} {a : Int} {xs : List D} (e : fo c = .ok (.ref n) c1) (e2 : fa c1 = .ok (some a) c2) (h : c2.S[n]? = some (.lst xs)) (h0 : 0 ≤ a ∧ a ≤ xs.length) : cDelFE fo fa c = .ok .next { c2 with S := c2.S.set n (.lst (xs.take a.toNat)) } := by
  show (fo c).bind _ = _
  rw [e]
  show (fa c1).bind _ = _
  rw [e2]
  show (match (some a), c2.lstAt (.ref n) with
    | some a, some (n, xs) => match decide (0 ≤ a ∧ a ≤ xs.length) with
      | true => R.ok Fl.next { c2 with S := c2.S.set n (.lst (xs.take a.toNat)) }
      | false => .stuck
    | _, _ => .stuck) = _
  have l : c2.lstAt (.ref n) = some (n, xs) := by
    show (match c2.S[n]? with
      | some (.lst xs) => some (n, xs)
      | _ => none) = _
    rw [h]
  rw [l]
  show (match decide (0 ≤ a ∧ a ≤ (xs.length : Int)) with
      | true => R.ok Fl.next { c2 with S := c2.S.set n (.lst (xs.take a.toNat)) }
      | false => .stuck) = _
  rw [decide_eq_true h0]
end
end CL
namespace CL
open PySem PySem.Spec PyProof.Rows L2
def spXP (K : PySem.W.Frag) (f t : Str) : Sp := fun vs H Q _ => ∃ (a C : Addr) (v : V), vs = [.ref a, v] ∧ OexC K C ∧ H a = some (exo a C none) ∧ PySem.W.findIn K (.ref C) f = some none ∧ PySem.W.findIn K (.ref C) cdS = some none ∧ TyX K H v (.type "tuple") ∧
  ∀ dx, H dx = none → dx ≠ a → Q .non (upd (upd (upd H dx (exd dx [(f, v)])) a (exo a C (some dx))) dx (exd dx [(cdS, .str t), (f, v)]))
section
variable {g : G} {st : Stmt} {fa fb : Addr} {fd fd2 : FuncData} {x qual f t sf p pr : Str} {p1 p2 p3 p4 p5 p6 p7 p8 p9 p10 : Pos} {j : Nat} {e : Expr}
end
structure XcP (g : G) (x : Str) (C fI : Addr) (f t : Str) : Prop where
  T : OexC g.K C
  iC : PySem.W.findIn g.K (.ref C) "__init__" = some (some (.ref fI))
  tI : PySem.W.typeIn g.K (.ref fI) = some (.type "function")
  m : g.mg x = some (.ref C)
  nf : PySem.W.findIn g.K (.ref C) f = some none
  nc : PySem.W.findIn g.K (.ref C) cdS = some none
  fn : ∃ fd ps, FnOk g.prog g.w g.K g.mg g.base (L2.CX g.prog g.w) 2 fI fd ps (spXP g.K f t) ∧ Binds g.K fd ps []
section
variable {X : Cx} {g : G} {k : Nat} {N : List Str} {sc ws : Scope} {W : WX} {x f t : Str} {C fI : Addr} {cn : Nat} {e : Expr} {es : List Expr} {ta : TA} {fe : M D} {p p' pos : Pos}
end
end CL
namespace CL
open PySem PySem.Spec PyProof.Rows L2
end CL
namespace CL
open PySem PySem.Spec PyProof.Rows L2
def cPar3L (i j l : Nat) (fa fb : M D) (fl : M (List D)) : M Fl := fun c => (fa c).bind fun d c1 => (fb c1).bind fun e c2 => (fl c2).bind fun xs c3 => .ok .next (((c3.put l (.own (.lst xs))).put i (.val d)).put j (.val e))
section
variable {g : G} {k : Nat} {N : List Str} {X : Cx} {sc ws : Scope} {W : WX} {i j l : Nat} {x y z : Str} {a b d : Expr} {fa fb : M D} {fl : M (List D)} {px py pz pt pos : Pos} {kt k2 : Nat} {pt2 : Pos}
theorem w_par3L {c c1 c2 c3 : CS} {d e : D} {xs : List D} {sl sl1 : List Sl} {S : List O} (ea : fa c = .ok d c1) (eb : fb c1 = .ok e c2) (el : fl c2 = .ok xs ⟨sl, S⟩) (hs : Nl (((sl.set l (.own (.lst xs))).set i (.val d)).set j (.val e)) sl1) : cPar3L i j l fa fb fl c = .ok .next ⟨sl1, S⟩ := by
  obtain ⟨rfl⟩ := hs
  unfold cPar3L
  rw [ea]
  show (fb c1).bind _ = _
  rw [eb]
  show (fl c2).bind _ = _
  rw [el]
  rfl
end
end CL
namespace CL
open PySem PySem.Spec PyProof.Rows L2
section
variable {X : Cx} {g : G} {k : Nat} {N : List Str} {sc ws : Scope} {W : WX}
end
end CL
namespace CL
open PySem PySem.Spec PyProof.Rows L2
end CL
namespace CL
open PySem PySem.Spec PyProof.Rows L2
theorem funFrames_base {h base base' : Heap} (k : ∀ b, base.get? b = none → base'.get? b = none) : ∀ {l : List Env}, h.FunFrames base l → h.FunFrames base' l
  | [], _ => trivial
  | _ :: _, ⟨hk, ⟨L', o, hf, hb, ho, hd⟩, hr⟩ => ⟨hk, ⟨L', o, hf, k _ hb, ho, hd⟩, funFrames_base k hr⟩
theorem fl_off {B h : Heap} {l : List Env} {a C : Addr} {Z : Obj → Prop} (held : HandSPX.HeldZ B l a Z C h) : ∃ (oe : Obj) (vs : Array Value) (T : Addr) (oT : Obj) (ts : Array Value), h.get? a = some oe ∧ Z oe ∧ oe.data = .fields vs ∧ vs[1]? = some (.ref T) ∧ h.get? T = some oT ∧ oT.data = .fields ts ∧ ts[3]? = some (rawInt C) ∧
    B.StaysIn (h.update T (Obj.mapFields (·.setIfInBounds 3 Value.none))) ∧ (h.update T (Obj.mapFields (·.setIfInBounds 3 Value.none))).FunFrames B l ∧ (h.update T (Obj.mapFields (·.setIfInBounds 3 Value.none))).get? a = some oe ∧
    ∀ b o, h.get? b = some o → (∀ us, o.data ≠ .fields us) → (h.update T (Obj.mapFields (·.setIfInBounds 3 Value.none))).get? b = some o := by
  obtain ⟨ground, _, frames, oe, vs, T, oT, ts, ha, hz, hd, hv, new, ne, hT, dT, fl⟩ := held
  have away : ∀ {b : Addr}, b ≠ T → (h.update T (Obj.mapFields (·.setIfInBounds 3 Value.none))).get? b = h.get? b := fun z => Heap.get?_update_other _ _ fun w => z w.symm
  have plain : ∀ b o, h.get? b = some o → (∀ us, o.data ≠ .fields us) → (h.update T (Obj.mapFields (·.setIfInBounds 3 Value.none))).get? b = some o := fun b o e n => by
    by_cases z : b = T
    · rw [z] at e
      cases e.symm.trans hT
      exact absurd dT (n ts)
    · exact (away z).trans e
  refine ⟨oe, vs, T, oT, ts, ha, hz, hd, hv, hT, dT, fl, fun b o e => ?_, frames.of_keeps fun b o e n => ⟨o, plain b o e n, rfl⟩, (away ne.symm).trans ha, plain⟩
  by_cases z : b = T
  · rw [z, new] at e
    cases e
  · exact (away z).trans (ground b o e)
theorem note_sky {M : Model} {A : Around} {E : Value → Shared → Prop} {s : Shared} {env : Env} {outer : List Env} {L C a : Addr} {B : Heap} {Z : Obj → Prop} {Q : Unit → Shared → Prop} (hZ : PXN.Steady1 Z) (hfr : A.frames = some (env :: outer)) (hf : env.frame = some L)
    (x : Sky B (env :: outer) a Z C s.heap) (hQ : ∀ h', HandSPX.HeldZ B (env :: outer) a Z L h' → s.heap.UpToSlots h' → Q () { s with heap := h' }) : wpAny M A (noteFrame (.ref a) env) Q E s := by
  rcases x with ⟨ground, new, frames, oe, vs, ha, hz, hd, hv⟩ | flying | held
  · exact PXN.look_newZ hZ hfr frames hf ha ground new hd hv hz hQ
  · exact PXN.looks_onZ hZ hfr hf flying hQ
  · by_cases e : C = L
    · subst e
      exact HandSPX.againZ hf held.2.2.2 (hQ s.heap held (Heap.UpToSlots.refl _))
    · obtain ⟨oe, vs, T, oT, ts, ha, hz, hd, hv, hT, dT, fl, g1, g2, g3, g4⟩ := fl_off held
      unfold noteFrame
      simp only [hf]
      have some1 : (Value.ref T != Value.none) = true := by simp
      have other : ¬ (rawInt C == rawInt L) = true := by simpa [rawInt] using fun z => e (Int.ofNat.inj z)
      refine wpAny_bind (wpAny_field ha hd hv ?_)
      rw [if_pos some1]
      refine wpAny_bind (wpAny_field hT dT fl ?_)
      rw [if_neg other]
      refine wpAny_bind (wpAny_setField hT dT (Array.getElem?_eq_some_iff.mp fl).1 ?_)
      exact PXN.wpAny_entryZ hZ hfr g2 hf g3 g1 held.2.1 hd (Array.getElem?_eq_some_iff.mp hv).1 hz fun h' noted => hQ h' ⟨noted.1, held.2.1, noted.2.1, noted.2.2.1⟩ fun b o e n => noted.2.2.2 b o (g4 b o e n) n
abbrev Cx.xeTo (X : Cx) (xe : Value → Shared → Prop) : Cx := { X with xe := xe }
theorem Ok.xeTo {X : Cx} (ok : X.Ok) (xe : Value → Shared → Prop) : (Cx.xeTo X xe).Ok :=
  ⟨ok.mod, ok.kind, ok.glob, ok.blt, ok.above, ok.inj, ok.has, ok.cab, ok.hd, ok.frames, ok.stk, ok.exf, ok.bs, ok.bsz, ok.noex, ok.exfs, ok.funs, ok.frf⟩
theorem inv_xe {X : Cx} {pins : List (Addr × Obj)} {σ : L2.St} {H : Hp} {s : Shared} (I : Inv X pins σ H s) (xe : Value → Shared → Prop) : Inv (Cx.xeTo X xe) pins σ H s :=
  ⟨Ok.xeTo I.ok xe, I.os, I.bare, I.base, I.loc, I.cell, I.free, I.freeC, I.pin, I.hok, I.len⟩
theorem inv_ofXe {X : Cx} {pins : List (Addr × Obj)} {σ : L2.St} {H : Hp} {s : Shared} {xe : Value → Shared → Prop} (I : Inv (Cx.xeTo X xe) pins σ H s) : Inv X pins σ H s :=
  inv_xe I X.xe
structure Blk (X : Cx) (W : WX) (pins : List (Addr × Obj)) (σ : L2.St) (hp : Hp) (st : Shared) (be : Env) (its : List Addr) : Prop where
  tk : Takes X W
  stk : X.stack = X.env :: X.outer
  frm : X.env.frame = some X.env.locals
  inv : Inv X pins σ hp st
  par : ∀ b ∈ its, FpOk X pins hp b ∧ b < st.heap.objs.size
  loc : be.locals = st.heap.objs.size
  fre : be.frame = X.env.frame
section
variable {X : Cx} {W : WX} {pins pn : List (Addr × Obj)} {σ τ : L2.St} {hp kp : Hp} {st su : Shared} {scope : Scope} {be : Env} {its : List Addr} {use : Option (Value → Sem Unit)} {Qf : Value → Shared → Prop} {acc : Value} {xe : Value → Shared → Prop}
theorem Blk.out (B : Blk X W pins σ hp st be its) (J : Inv (X.blk st hp scope be its) pn τ kp su) : Inv X pins σ kp su ∧ (∃ m, su.heap.Ns be.locals m) ∧ FpOk X pins kp be.locals := by
  have back : Inv X pins σ kp su := B.inv.call' (ch := its) J.os J.base J.hok J.bare fun b hb => by
    obtain ⟨⟨_, w1, _, w3, w4, w5⟩, _⟩ := B.par b hb
    exact ⟨w3, w1, w4, w5⟩
  obtain ⟨m, names, _⟩ := J.loc
  exact ⟨back, ⟨m, names⟩, B.inv.fpOk (by rw [B.loc]; exact Nat.le_refl _) J.free⟩
theorem Blk.parts (J : Inv (X.blk st hp scope be its) [] τ kp su) (none : ∀ b ∈ its, kp b = none) (b : Addr) (hb : b ∈ its) : FpOk (X.blk st hp scope be its) [] kp b := by
  obtain ⟨w1, w2⟩ := J.ok.exf b hb
  exact ⟨none b hb, w1, J.ok.exfs b hb, Or.inl hb, w2, fun p hm => nomatch (show p ∈ ([] : List (Addr × Obj)) from hm)⟩
theorem blk_goes (K : Blk X W pins σ hp st be its) {u : Value} (x : XE (Cx.xeTo (X.blk st hp scope be its) xe) (fun cls d _ k => W cls d σ k) u su) :
    notedBy (model X.prog X.w) X.A be (fun e s'' => compEnds (model X.prog X.w) X.A X.xe use Qf acc be (.error e) s'') u su := by
  obtain ⟨a, B, sI, pn', τ', kp, cls, d, rfl, J, nb, up, sky, na, os, ag, w⟩ := x
  obtain ⟨back, ⟨m, names⟩, g0, g1, _, g3, g4, g5⟩ := K.out (inv_ofXe J)
  have frames : X.A.frames = some (X.env :: X.outer) := by rw [K.inv.ok.frames, K.stk]
  have air : Sky B (X.env :: X.outer) a (Zc cls d) be.locals su.heap := by rw [← K.stk]; exact sky
  show wpAny (model X.prog X.w) X.A (noteFrame (.ref a) be) _ _ su
  rw [noteFrame_env _ K.fre]
  refine note_sky (fun o v h => Zc.steady o _ h) frames K.frm air fun h1 held up1 => ?_
  have names1 : h1.Ns be.locals m := (names.upToSlots up).upToSlots up1
  suffices gone : CompFails (model X.prog X.w) X.A X.xe be (.ref a) { su with heap := h1 } by cases use <;> exact gone
  refine ⟨m, names1, fun h2 m2 names2 same => ?_⟩
  obtain ⟨b1, b0, f1, oe, vs, T, oT, ts, ho, hz, hd, hv, hT0, hTa, hT, hdT, hfl⟩ := held
  have record : ∀ {b : Addr} {o : Obj} {us : Array Value}, h1.get? b = some o → o.data = .fields us → b ≠ be.locals := fun {b o us} e e2 z => by
    obtain ⟨oL, es, ep, at1, dat, _⟩ := names1
    rw [z, at1] at e
    cases e
    rw [dat] at e2
    cases e2
  have ho2 : h2.get? a = some oe := (same.2 a (record ho hd)).trans ho
  have hT2 : h2.get? T = some oT := (same.2 T (record hT hdT)).trans hT
  have hidden : ∀ {b : Addr}, B.get? b = none → (PySem.W.hideAll B [be.locals]).get? b = none := fun {b} e => by
    cases q : (PySem.W.hideAll B [be.locals]).get? b with
    | none => rfl
    | some o => exact absurd ((PySem.W.of_hideAll _ q).symm.trans e) (fun z => nomatch z)
  have other : ∀ {G : Heap} {b : Addr} {o : Obj}, (PySem.W.hideAll G [be.locals]).get? b = some o → b ≠ be.locals := fun {G b o} e z => by
    rw [z, PySem.W.hideAll_none _ (List.mem_singleton.mpr rfl)] at e
    cases e
  have b2 : (PySem.W.hideAll B [be.locals]).StaysIn h2 := fun b o hb => (same.2 b (other hb)).trans (b1 b o (PySem.W.of_hideAll _ hb))
  have f2 : h2.FunFrames (PySem.W.hideAll B [be.locals]) (X.env :: X.outer) := funFrames_base (fun _ e => hidden e) (Heap.FunFrames.sameBut same names2 f1)
  unfold PySem.passOn
  refine wpAny_bind (wpAny_field ho2 hd hv ?_)
  rw [if_neg (show ¬ ((Value.ref T == Value.none) = true) by simp), K.fre, K.frm]
  refine wpAny_bind (HandSPX.setFlight_anyZ (fr := some X.env.locals) b2 f2 ⟨oe, vs, T, oT, ts, ho2, hz, hd, hv, hidden hT0, hTa, hT2, hdT, hfl⟩ fun h4 b4 f4 t4 up4 => wpAny_throw ?_)
  have clear : Inv X pins σ kp { sI with heap := PySem.W.hideAll sI.heap [be.locals] } := back.turned (t' := sI.toks) (fun b o hb e => PySem.W.hideAll_get _ e (by simpa using hb)) g0 g1 g3 g4 g5
  refine K.tk _ _ ⟨a, PySem.W.hideAll B [be.locals], _, pins, σ, kp, cls, d, rfl, clear, fun b o e hb => PySem.W.hideAll_get _ (nb b o (PySem.W.of_hideAll _ e) hb) (by simpa using other e), fun b o e nf => ?_, ?_, na, os, ag, w⟩
  · obtain ⟨sl, e1⟩ := (up.trans up1) b o (PySem.W.of_hideAll _ e) nf
    have e0 : h2.get? b = h1.get? b := same.2 b (other e)
    exact (up4 b _ (e0.trans e1) nf).imp fun sl2 e3 => e3
  · rw [K.stk]
    exact .inr (.inr ⟨b4, hidden b0, f4, t4⟩)
end
section
variable {X : Cx} {W : WX} {pins : List (Addr × Obj)} {σ : L2.St} {hp : Hp} {st s0 : Shared} {scope : Scope} {be : Env} {its : List Addr} {use : Option (Value → Sem Unit)} {Qf : Value → Shared → Prop} {tg iter elt : Expr} {ifs : List Expr} {pos : Pos} {g : TG} {tt : TT} {te : TE} {it D : Addr} {tn : Nat → Heap → Prop} {Z : It} {vs : List Nat} {Q : VK} {Wn : Nat → Nat → Hp → Prop}
def BAt (X : Cx) (σ : L2.St) (hp : Hp) (st : Shared) (scope : Scope) (be : Env) (its : List Addr) (tn : Nat → Heap → Prop) (vs : List Nat) (Wn : Nat → Nat → Hp → Prop) (n : Nat) (s : Shared) : Prop :=
  ∃ i k, Inv (X.blk st hp scope be its) [] (wipe σ vs) k s ∧ tn i s.heap ∧ (∀ b ∈ its, k b = none) ∧ Wn i n k
theorem Blk.loop (K : Blk X W pins σ hp st be its) (hc : X.calm = true) (T : Turn X.prog X.w X.K tg Z its it tn) (pg : PG (X.blk st hp scope be its) tg g)
    (pt : PTs (Cx.xeTo (X.blk st hp scope be its) (notedBy (model X.prog X.w) X.A be fun e s => compEnds (model X.prog X.w) X.A X.xe use Qf (.ref D) be (.error e) s)) ifs tt)
    (pe : PE (Cx.xeTo (X.blk st hp scope be its) (notedBy (model X.prog X.w) X.A be fun e s => compEnds (model X.prog X.w) X.A X.xe use Qf (.ref D) be (.error e) s)) elt te)
    (turn : ∀ i m k, Wn i m k → (Z.stop i k ∧ Q (.ref D) k) ∨ (Z.go i k ∧ ∃ Nx : Hp → Prop, (∀ k', Nx k' → ∃ m', m' < m ∧ Wn (i + 1) m' k') ∧ ∀ x k', Z.yld i k x k' → g x (wipe σ vs) k' fun τ k2 => wipe τ vs = wipe σ vs ∧ tt τ k2 fun b k3 =>
      if b = true then te τ k3 fun y k4 => ∃ ys, k4 D = some (.lst ys) ∧ ys.length < sizeLine ∧ Nx (upd k4 D (.lst (ys ++ [y]))) else Nx k3))
    (ends : ∀ s m k, Inv X pins σ k s → Q (.ref D) k → s.heap.Ns be.locals m → FpOk X pins k be.locals → compEnds (model X.prog X.w) X.A X.xe use Qf (.ref D) be (.ok .next) s)
    {n : Nat} (at0 : BAt X σ hp st scope be its tn vs Wn n s0) :
    codeAny (model X.prog X.w) X.A (.compLoop (.ListComp elt [⟨tg, iter, ifs, 0⟩] scope pos) 0 (.ref it) (.ref D) be) (compEnds (model X.prog X.w) X.A X.xe use Qf (.ref D) be) s0 := by
  refine compLoop_any (BAt X σ hp st scope be its tn vs Wn) (fun n sa here => ?_) n at0
  obtain ⟨i, ka, Ja, sta, nna, wa⟩ := here
  rcases turn i n ka wa with ⟨halt, done⟩ | ⟨more, Nx, less, step⟩
  · -- the iterator ends
    refine thnF (T.done (X.blk st hp scope be its) rfl rfl rfl hc i [] sa _ ka (fun _ _ => False) Ja (Blk.parts Ja nna) sta halt) fun r sb last => ?_
    obtain ⟨rfl, Jb⟩ := last
    obtain ⟨back, ⟨m, names⟩, fp⟩ := K.out Jb
    exact ends sb m ka back done names fp
  · -- one more item
    refine thnF (T.item (X.blk st hp scope be its) rfl rfl rfl hc i [] sa _ ka (fun _ _ => False) Ja (Blk.parts Ja nna) sta more) fun r sb got => ?_
    obtain ⟨item, rfl, unp⟩ := got
    refine thnF unp fun _ sc here => ?_
    obtain ⟨x, kc, Jc, rel, yl, stc, nnc⟩ := here
    have next : ∀ {τ : L2.St} {k : Hp} {s : Shared}, wipe τ vs = wipe σ vs → Inv (X.blk st hp scope be its) ([] ++ pinsAt its sc.heap) τ k s → Nx k → ∃ m, m < n ∧ BAt X σ hp st scope be its tn vs Wn m s := fun {τ k s} wt Js nx => by
      obtain ⟨m, lt, wm⟩ := less k nx
      have keep : ∀ b ∈ its, ∀ o, sc.heap.get? b = some o → s.heap.get? b = some o ∧ k b = none := fun b hb o e => by
        have p := Js.pin (b, o) (List.mem_append_right _ (List.mem_append_right _ (mem_pinsAt hb e)))
        exact ⟨p.1, p.2.1⟩
      have len : (wipe σ vs).length = τ.length := by rw [← wt, wipe_length]
      refine ⟨m, lt, i + 1, k, (Js.unpinned (pins := [])).weak len (fun j v e => ?_), T.keep _ _ _ stc (fun b hb o e => (keep b hb o e).1), fun b hb => ?_, wm⟩
      · rw [← wt] at e
        exact (wipe_some e).1
      · obtain ⟨o, e, _⟩ := T.obj _ _ stc b hb
        exact (keep b hb o e).2
    have Jp := Jc.pinned (Blk.parts Jc nnc) (T.obj _ _ stc)
    refine thnF (pg.run _ sc _ kc x item _ Jp rel (step x kc yl)) fun _ sd here => ?_
    obtain ⟨τ, kd, Jd, wt, test⟩ := here
    refine wpAny_mono (pt.run _ sd τ kd _ (inv_xe Jd _) test) (fun b sf here => ?_) fun _ _ z => z
    obtain ⟨kf, Jf, rest⟩ := here
    cases b with
    | false => exact next wt (inv_ofXe Jf) rest
    | true =>
      refine wpAny_mono (pe.run _ sf τ kf _ (inv_xe (inv_ofXe Jf) _) rest) (fun z sg here => ?_) fun _ _ z => z
      obtain ⟨y, kg, Jg, ry, ys, at1, small, nx⟩ := here
      exact thnF (app_ok (X := X.blk st hp scope be its) (Q := fun _ s => ∃ m, m < n ∧ BAt X σ hp st scope be its tn vs Wn m s) (inv_ofXe Jg) at1 small ry fun s1 J1 => next wt J1 nx) fun _ _ z => z
end
section
variable {X : Cx} {W : WX}
def bEnv (X : Cx) (scope : Scope) (s : Shared) : Env := compEnvC scope (cellsFrom (s.heap.objs.size + 1) scope.names (cloFrom X.env.cells scope.names [])) s.heap.objs.size X.env
def bSt (scope : Scope) (s : Shared) : Shared := { s with heap := pushCells (s.heap.push { cls := .type "dict", data := .dict #[] }) scope.names }
theorem lcx_made {pins : List (Addr × Obj)} {sb : Shared} {σ : L2.St} {hb : Hp} {Q : VK} {elt tg iter : Expr} {ifs : List Expr} {scope : Scope} {own : List (Str × Nat)} {pos : Pos} {g : TG} {tt : TT} {te : TE} {use : Option (Value → Sem Unit)} {Qf : Value → Shared → Prop} {it D : Addr} {its : List Addr} {tn : Nat → Heap → Prop} {Z : It} {Wn : Nat → Nat → Hp → Prop} {n : Nat}
    (tk : Takes X W) (hst : X.stack = X.env :: X.outer) (hfm : X.env.frame = some X.env.locals) (hc : X.calm = true) (hN : X.N.Nodup) (Ib : Inv X pins σ hb sb) (ok : BlkOk X.N X.env.scope scope own) (T : Turn X.prog X.w X.K tg Z its it tn) (stb : tn 0 sb.heap)
    (par : ∀ b ∈ its, FpOk X pins hb b ∧ b < sb.heap.objs.size)
    (pg : PG (X.blk sb hb scope (bEnv X scope sb) its) tg g)
    (pt : ∀ xe, Takes (Cx.xeTo (X.blk sb hb scope (bEnv X scope sb) its) xe) (fun cls d _ k => W cls d σ k) → PassesOwn (model X.prog X.w) X.A (bEnv X scope sb) xe → PTs (Cx.xeTo (X.blk sb hb scope (bEnv X scope sb) its) xe) ifs tt)
    (pe : ∀ xe, Takes (Cx.xeTo (X.blk sb hb scope (bEnv X scope sb) its) xe) (fun cls d _ k => W cls d σ k) → PassesOwn (model X.prog X.w) X.A (bEnv X scope sb) xe → PE (Cx.xeTo (X.blk sb hb scope (bEnv X scope sb) its) xe) elt te)
    (turn : ∀ i m k, Wn i m k → (Z.stop i k ∧ Q (.ref D) k) ∨ (Z.go i k ∧ ∃ Nx : Hp → Prop, (∀ k', Nx k' → ∃ m', m' < m ∧ Wn (i + 1) m' k') ∧ ∀ x k', Z.yld i k x k' → g x (wipe σ (own.map (·.2))) k' fun τ k2 => wipe τ (own.map (·.2)) = wipe σ (own.map (·.2)) ∧ tt τ k2 fun b k3 =>
      if b = true then te τ k3 fun y k4 => ∃ ys, k4 D = some (.lst ys) ∧ ys.length < sizeLine ∧ Nx (upd k4 D (.lst (ys ++ [y]))) else Nx k3))
    (w0 : Wn 0 n hb)
    (ends : ∀ s m k, Inv X pins σ k s → Q (.ref D) k → s.heap.Ns (bEnv X scope sb).locals m → FpOk X pins k (bEnv X scope sb).locals → compEnds (model X.prog X.w) X.A X.xe use Qf (.ref D) (bEnv X scope sb) (.ok .next) s) :
    codeAny (model X.prog X.w) X.A (.compStart (.ListComp elt [⟨tg, iter, ifs, 0⟩] scope pos) 0 (.ref it) (.ref D) (bEnv X scope sb)) (compEnds (model X.prog X.w) X.A X.xe use Qf (.ref D) (bEnv X scope sb)) (bSt scope sb) := by
  have K : Blk X W pins σ hb sb (bEnv X scope sb) its := ⟨tk, hst, hfm, Ib, par, rfl, rfl⟩
  have ste : tn 0 (bSt scope sb).heap := T.keep _ _ _ stb fun b _ o e => pushCells_keeps _ _ _ _ (Heap.get?_push_of_some _ e)
  have start : BAt X σ hb sb scope (bEnv X scope sb) its tn (own.map (·.2)) Wn n (bSt scope sb) := ⟨0, hb, block_start Ib ok hN par, ste, fun b h => (par b h).1.1, w0⟩
  have run := K.loop (use := use) (Qf := Qf) (iter := iter) (pos := pos) hc T pg (pt _ (fun u su x => blk_goes K x) PassesOwn.looking) (pe _ (fun u su x => blk_goes K x) PassesOwn.looking) turn ends start
  exact codeAny_compStart_list run (T.self X.A 0 _ _ _ ste run)
theorem lcx_core {pins : List (Addr × Obj)} {s : Shared} {σ : L2.St} {H : Hp} {Q : VK} {elt tg iter : Expr} {ifs : List Expr} {scope : Scope} {own : List (Str × Nat)} {pos pos' : Pos} {wi : TI} {g : TG} {tt : TT} {te : TE} {use : Option (Value → Sem Unit)} {Qf : Value → Shared → Prop}
    (tk : Takes X W) (hst : X.stack = X.env :: X.outer) (hfm : X.env.frame = some X.env.locals) (hc : X.calm = true) (hN : X.N.Nodup) (I : Inv X pins σ H s) (hi : PI X tg iter wi) (ok : BlkOk X.N X.env.scope scope own)
    (hg : ∀ (s : Shared) (H : Hp) (C : Addr) (cl : List (Str × Addr)) (fp : List Addr), PG (X.blk s H scope (compEnvC scope cl C X.env) fp) tg g)
    (ht : ∀ (s : Shared) (H : Hp) (C : Addr) (cl : List (Str × Addr)) (fp : List Addr) (xe : Value → Shared → Prop), Takes (Cx.xeTo (X.blk s H scope (compEnvC scope cl C X.env) fp) xe) (fun cls d _ H' => W cls d σ H') → PassesOwn (model X.prog X.w) X.A (compEnvC scope cl C X.env) xe → PTs (Cx.xeTo (X.blk s H scope (compEnvC scope cl C X.env) fp) xe) ifs tt)
    (he : ∀ (s : Shared) (H : Hp) (C : Addr) (cl : List (Str × Addr)) (fp : List Addr) (xe : Value → Shared → Prop), Takes (Cx.xeTo (X.blk s H scope (compEnvC scope cl C X.env) fp) xe) (fun cls d _ H' => W cls d σ H') → PassesOwn (model X.prog X.w) X.A (compEnvC scope cl C X.env) xe → PE (Cx.xeTo (X.blk s H scope (compEnvC scope cl C X.env) fp) xe) elt te)
    (hs : ∀ x, foldedSetIterable iter X.env x = pure x)
    (h : tLc wi g tt te (own.map (·.2)) σ H Q)
    (hRR : ∀ D C s' m H', Inv X pins σ H' s' → Q (.ref D) H' → s'.heap.Ns C m → FpOk X pins H' C → ∀ ce : Env, ce.locals = C → compEnds (model X.prog X.w) X.A X.xe use Qf (.ref D) ce (.ok .next) s') :
    wpAny (model X.prog X.w) X.A (comprehension (.ListComp elt [⟨tg, iter, ifs, 0⟩] scope pos) scope X.env pos' (newList []) false (eval iter X.env) use) Qf X.xe s := by
  have known : ∀ y ∈ scope.names, y.2 = .free → ∃ c, X.env.cells.lookup y.1 = some c := fun y hy e => I.ok.has _ (ok.free y hy e)
  refine comprehension_at (use := use) rfl hs (closure_ok known) ok.kind (fun y hy e => (ok.uniq y hy).trans (congrArg some e)) ?_
  refine thn (hi.run pins s σ H _ I h) fun xv s1 iterated => thn iterated fun itv s2 made => ?_
  obtain ⟨it, its, tn, Z, H2, rfl, I2, T, st2, par2, q⟩ := made
  refine wpAny_newObj_type (newEnv_comp ?_) (Nat.zero_le _)
  have D0 : H2 s2.heap.objs.size = none := I2.hok.fresh (Nat.le_refl _)
  obtain ⟨Wn, ⟨n, w0⟩, turn⟩ := q _ D0
  have there : (s2.heap.push { cls := .type "list", data := .seq ([] : List Value).toArray }).get? s2.heap.objs.size = some { cls := .type "list", data := .seq ([] : List Value).toArray } := Heap.get?_push_size _ rfl
  have Ib : Inv X pins σ (upd H2 s2.heap.objs.size (.lst [])) { s2 with heap := s2.heap.push { cls := .type "list", data := .seq ([] : List Value).toArray } } :=
    I2.laid (t' := s2.toks) (fun b o e => Heap.get?_push_of_some _ e) (Nat.le_refl _) ⟨Nat.zero_le _, [], 0, .nil, there⟩
  have stb : tn 0 (s2.heap.push { cls := .type "list", data := .seq ([] : List Value).toArray }) := T.keep _ _ _ st2 fun b _ o e => Heap.get?_push_of_some _ e
  have parb : ∀ b ∈ its, FpOk X pins (upd H2 s2.heap.objs.size (.lst [])) b ∧ b < (s2.heap.push { cls := .type "list", data := .seq ([] : List Value).toArray }).objs.size := fun b hb => by
    obtain ⟨ob, e, _⟩ := T.obj _ _ st2 b hb
    have lt := Heap.lt_size e
    obtain ⟨w0, w⟩ := par2 b hb
    refine ⟨⟨(upd_ne (Nat.ne_of_lt lt)).trans w0, w⟩, ?_⟩
    rw [Heap.size_push]
    exact Nat.lt_succ_of_lt lt
  exact lcx_made tk hst hfm hc hN Ib ok T stb parb (hg _ _ _ _ _) (fun xe => ht _ _ _ _ _ xe) (fun xe => he _ _ _ _ _ xe) turn w0 fun s m k Js qk names fp => hRR _ _ s m k Js qk names fp _ rfl
end
end CL
namespace CL
open PySem PySem.Spec PyProof.Rows L2
def lcX (t : Tg) (fe : M D) (vs : List Nat) : List D → List D → M (List D)
  | [], acc => M.ret acc
  | d :: ds, acc => fun c => match cTg t d c with
    | .ok .next c1 => match fe c1 with
      | .ok y c3 => M.guard (decide (acc.length < sizeLine)) (lcX t fe vs ds (acc ++ [y])) (wipeC vs c3)
      | .exc cn us c3 => .exc cn us (wipeC vs c3)
      | .stuck => .stuck
    | _ => .stuck
def cLcX (fi : M (List D)) (t : Tg) (fe : M D) (vs : List Nat) : M (List D) := fun c => (fi c).bind fun ds c' => lcX t fe vs ds [] (wipeC vs c')
def LcXI (g : G) (W : WX) (σ : L2.St) (vs : List Nat) (Q : VK) (t : Tg) (fe : M D) (m1 : Mp) (Dl : Addr) (rest : List D) (H : Hp) : Prop :=
  ∃ m2 c2 acc av, Ext m1 m2 ∧ Sim g m2 c2 (L2.wipe σ vs) H ∧ H Dl = some (.lst av) ∧ Svs g m2 acc av ∧ Fre m2 c2 Dl ∧ Out (rL g) g W σ m2 (lcX t fe vs rest acc c2) Q
theorem fn_cF {g : G} {x qual : Str} {st : Stmt} {f : Addr} {fd : FuncData} {N ps : List Str} {k : Nat} {fb : M Fl} (F : L2.Fun g.K x qual st f fd) (S : FnScope N ps (defScope st)) (hb : Binds g.K fd ps [])
    (h : ∀ (X : Cx) (W : WX), Good g k N X (defScope st) (defScope st) W → (X.stack = X.env :: X.outer ∧ X.env.frame = some X.env.locals) → PSs X (defBody st) (tS g W fb)) : FnC g (k + 1) f (fnB N.length ps.length fb) := by
  have z : FnOk g.prog g.w g.K g.mg g.base (L2.CX g.prog g.w) (k + 1) f fd ps (spOf g (fnB N.length ps.length fb)) := by
    refine F.okX S (fun vs H Q E hs => ?_) (fun cdv A outer s H vs Q E hr hs => ?_)
    · obtain ⟨m, S', ds, sm, hv, o⟩ := hs
      unfold fnB at o
      cases e : decide (ds.length = ps.length) with
      | false => rw [e] at o; exact o.elim
      | true => rw [← hv.length]; exact of_decide_eq_true e
    · obtain ⟨m, S', ds, sm, hv, o⟩ := hs
      unfold fnB at o
      cases e : decide (ds.length = ps.length) with
      | false => rw [e] at o; exact o.elim
      | true =>
        rw [e] at o
        exact ⟨_, h _ _ (good_of S hr) ⟨rfl, rfl⟩, m, _, sm.start hv, outS_F (S := S') (fun _ _ _ _ h => h) o⟩
  exact (z.raw hb (dvs := []) .nil).imp fun vs H Q E hs => by rw [List.append_nil]; exact hs
theorem fn_cmF {g : G} {x qual : Str} {st : Stmt} {f C : Addr} {fd : FuncData} {N ps : List Str} {k : Nat} {fb : M Fl} (F : L2.Fun g.K x qual st f fd) (S : FnScope N ps (defScope st)) (hb : Binds g.K fd ps [])
    (h : ∀ (X : Cx) (W : WX), Good g k N X (defScope st) (defScope st) W → (X.stack = X.env :: X.outer ∧ X.env.frame = some X.env.locals) → PSs X (defBody st) (tS g W fb)) : FnCm g (k + 1) f C (cmB N.length ps.length fb) := by
  have z : FnOk g.prog g.w g.K g.mg g.base (L2.CX g.prog g.w) (k + 1) f fd ps (spCm g C (cmB N.length ps.length fb)) := by
    refine F.okX S (fun vs H Q E hs => ?_) (fun cdv A outer s H vs Q E hr hs => ?_)
    · obtain ⟨us, rfl, m, S', ds, sm, hv, o⟩ := hs
      unfold cmB at o
      cases e : decide (ds.length + 1 = ps.length) with
      | false => rw [e] at o; exact o.elim
      | true =>
        rw [List.length_cons, ← hv.length]
        exact of_decide_eq_true e
    · obtain ⟨us, rfl, m, S', ds, sm, hv, o⟩ := hs
      unfold cmB at o
      cases e : decide (ds.length + 1 = ps.length) with
      | false => rw [e] at o; exact o.elim
      | true =>
        rw [e] at o
        exact ⟨_, h _ _ (good_of S hr) ⟨rfl, rfl⟩, m, _, sm.startK hv, outS_F (S := S') (fun _ _ _ _ h => h) o⟩
  exact (z.raw hb (dvs := []) .nil).imp fun vs H Q E hs => by rw [List.append_nil]; exact hs
section
variable {g : G} {k : Nat} {N : List Str} {X : Cx} {sc ws : Scope} {W : WX} {pos : Pos} {tg iter elt : Expr} {fi : M (List D)} {t : Tg} {fe : M D} {scope : Scope} {own : List (Str × Nat)}
theorem Good.blkx (q : Good g k N X sc ws W) {s : Shared} {H : Hp} {cl : List (Str × Addr)} {C : Addr} {fp : List Addr} {xe : Value → Shared → Prop} {W' : WX} (tk : Takes (Cx.xeTo (X.blk s H scope (compEnvC scope cl C X.env) fp) xe) W') (po : PassesOwn (model X.prog X.w) X.A (compEnvC scope cl C X.env) xe) :
    Good g k N (Cx.xeTo (X.blk s H scope (compEnvC scope cl C X.env) fp) xe) (relS scope sc) scope W' :=
  let b : Good g k N (X.blk s H scope (compEnvC scope cl C X.env) fp) (relS scope sc) scope WF := q.blk
  ⟨b.hN, b.nd, b.hsc, b.calm, b.room, b.hK, b.hP, b.hw, b.hmg, b.hbs, tk, po, b.sto⟩
structure LcJX (g : G) (X : Cx) (scope : Scope) (tg : Expr) (t : Tg) (elt : Expr) (fe : M D) : Prop where
  tg : ∀ (s : Shared) (H : Hp) (C : Addr) (cl : List (Str × Addr)) (fp : List Addr), PTg g (X.blk s H scope (compEnvC scope cl C X.env) fp) tg t
  el : ∀ (s : Shared) (H : Hp) (C : Addr) (cl : List (Str × Addr)) (fp : List Addr) (xe : Value → Shared → Prop) (W' : WX), Takes (Cx.xeTo (X.blk s H scope (compEnvC scope cl C X.env) fp) xe) W' → PassesOwn (model X.prog X.w) X.A (compEnvC scope cl C X.env) xe →
    PE (Cx.xeTo (X.blk s H scope (compEnvC scope cl C X.env) fp) xe) elt (tE g W' fe)
theorem lcX_read (hv : ∀ i ∈ t.slots, i ∈ own.map (·.2)) (σ : L2.St) (H : Hp) (Q : VK) (q : tL g W (cLcX fi t fe (own.map (·.2))) σ H Q) : tLc (tI g W fi) (gT g t) tYes (tE g (fun cls d _ H' => W cls d σ H') fe) (own.map (·.2)) σ H Q := by
  obtain ⟨m, c, s, o⟩ := q
  refine ⟨m, c, s, o.bind.imp fun J H1 ⟨m1, ds, c1, x1, s1, y, o1⟩ => fun Dl hD => ?_⟩
  obtain ⟨s2, f2⟩ := (s1.wipe (own.map (·.2))).new (u := .lst []) hD
  refine ⟨fun i mm H => mm = ds.length - i ∧ i ≤ ds.length ∧ LcXI g W σ (own.map (·.2)) Q t fe m1 Dl (ds.drop i) H, ⟨ds.length, by simp, Nat.zero_le _, m1, _, [], [], Ext.rfl', s2, upd_same, .nil, f2, o1⟩, ?_⟩
  rintro i mm H2 ⟨rfl, hi, m2, c2, acc, av, x2, s2, hp, ha, f2, o2⟩
  by_cases hlt : i < ds.length
  · have sB := s2.hide f2 hp (fun ps z => nomatch z)
    obtain ⟨_, y2⟩ := y { m2 with B := upd m2.B Dl (.lst av) } c2 _ H2 x2.r x2.f sB i
    obtain ⟨go, yl⟩ := y2 _ (List.getElem?_eq_getElem hlt)
    rw [List.drop_eq_getElem_cons hlt] at o2
    refine .inr ⟨go, LcXI g W σ (own.map (·.2)) Q t fe m1 Dl (ds.drop (i + 1)), fun H3 z => ⟨ds.length - (i + 1), by omega, rfl, hlt, z⟩, fun x H3 yx => ?_⟩
    obtain ⟨m3, x3, s3, k3⟩ := yl x H3 yx
    unfold lcX at o2
    have same : ∀ {H4 : Hp}, H4 Dl = some (.lst av) → upd H4 Dl (.lst av) = H4 := fun {H4} h => by
      funext b
      by_cases e : b = Dl
      · rw [e, upd_same, h]
      · rw [upd_ne e]
    rcases cTg_next t ds[i] c2 with ⟨c4, e4⟩ | e4
    · rw [e4] at o2
      dsimp only at o2
      refine PTg.go s3 k3 e4 fun σ4 s4 w4 => ⟨?_, ?_⟩
      · rw [w4 _ hv, wipe_wipe]
      · have w4 := (w4 _ hv).trans (wipe_wipe σ _)
        show tE g (fun cls d _ H' => W cls d σ H') fe σ4 H3 _
        refine ⟨m3, c4, s4, ?_⟩
        cases r : fe c4 with
        | ok yv c6 =>
          rw [r] at o2
          obtain ⟨hz, o2⟩ := Out.guard o2
          intro m6 v H6 x6 s6 k6
          have xx := x3.trans x6
          obtain ⟨z1, z2, z3⟩ := s6.unhide (u' := .lst (av ++ [v])) xx.b f2.b
          have ex : Ext m2 { m6 with B := m2.B } := ⟨xx.r, xx.f, rfl, xx.i⟩
          refine ⟨av, z1, by rw [← ha.length]; exact of_decide_eq_true hz, { m6 with B := m2.B }, wipeC (own.map (·.2)) c6, acc ++ [yv], av ++ [v], x2.trans ex, ?_, upd_same, ?_, z3.wipe _, o2.mono ex⟩
          · have z := z2.wipe (own.map (·.2))
            rw [w4] at z
            exact z
          · exact Svs.like (m := m6) (m' := { m6 with B := m2.B }) (fun _ _ z => z) (fun _ _ z => z) ((Svs.like (m := m2) (m' := m6) xx.r xx.f ha).append (.cons k6 .nil))
        | exc cn us c6 =>
          rw [r] at o2
          intro m6 H6 C d x6 s6 k6
          have xx := x3.trans x6
          obtain ⟨z1, z2, z3⟩ := s6.unhide (u' := .lst av) xx.b f2.b
          have ex : Ext m2 { m6 with B := m2.B } := ⟨xx.r, xx.f, rfl, xx.i⟩
          rw [same z1] at z2
          have z := z2.wipe (own.map (·.2))
          rw [w4] at z
          obtain ⟨Ca, ns, dd, ws, h1, h2, h3, h4, h5, h6⟩ := k6
          exact o2 _ _ C d ex z.unwipe ⟨Ca, ns, dd, ws, h1, h2, h3, h4, Svs.like (m := m6) (m' := { m6 with B := m2.B }) (fun _ _ z => z) (fun _ _ z => z) h5, h6⟩
        | stuck => rw [r] at o2; exact o2.elim
    · rw [e4] at o2
      exact o2.elim
  · have e : i = ds.length := by omega
    subst e
    obtain ⟨y1, _⟩ := y m2 c2 _ H2 x2.r x2.f s2 ds.length
    rw [List.drop_length] at o2
    exact .inl ⟨y1 rfl, o2.here s2.unwipe ⟨Dl, av, rfl, hp, ha, f2⟩⟩
theorem sl_lcX (q : Good g k N X sc ws W) (hF : X.stack = X.env :: X.outer ∧ X.env.frame = some X.env.locals) (hi : PI X tg iter (tI g W fi)) (ok : BlkOk X.N X.env.scope scope own) (J : LcJX g X scope tg t elt fe) (hv : ∀ i ∈ t.slots, i ∈ own.map (·.2)) (hs : notSet iter = true) :
    PE X (.ListComp elt [⟨tg, iter, [], 0⟩] scope pos) (tL g W (cLcX fi t fe (own.map (·.2)))) := by
  refine ⟨fun pins s σ H Q I h => ?_⟩
  rw [eval_ListComp]
  refine lcx_core (tt := tYes) (te := tE g (fun cls d _ H' => W cls d σ H') fe) q.tk hF.1 hF.2 q.calm q.ndX I hi ok (fun s H C cl fp => (J.tg s H C cl fp).run) (fun s H C cl fp xe tk po => pts_nil) (fun s H C cl fp xe tk po => J.el s H C cl fp xe _ tk po) (folded_ok hs) (lcX_read hv σ H Q h) fun D C s' m H' I' qv hn f ce cl => ?_
  subst cl
  refine ⟨m, hn, fun h'' sb => ?_⟩
  obtain ⟨f0, f1, f2, f3, f4, f5⟩ := f
  exact ⟨.ref D, H', I'.turned (t' := s'.toks) (fun b o hb e => (sb.2 b hb).trans e) f0 f1 f3 f4 f5, rfl, qv⟩
theorem ss_setLcXV {i : Nat} {y : Str} {py spos : Pos} (q : Good g k N X sc ws W) (hF : X.stack = X.env :: X.outer ∧ X.env.frame = some X.env.locals) (hy : N[i]? = some y) (hyl : sc.names.lookup y = some .local) (hsw : swapsWith (.ListComp elt [⟨tg, iter, [], 0⟩] scope pos) (some (.Name y py)) spos.line X.env = pure true)
    (hi : PI X tg iter (tI g W fi)) (ok : BlkOk X.N X.env.scope scope own) (J : LcJX g X scope tg t elt fe) (hv : ∀ i ∈ t.slots, i ∈ own.map (·.2)) (hs : notSet iter = true) :
    PS X (.Assign [.Name y py] (.ListComp elt [⟨tg, iter, [], 0⟩] scope pos) spos) (tS g W (cSet i (froz (cLcX fi t fe (own.map (·.2)))))) := by
  have hyN := q.at_ hy
  have hyl : X.env.scope.names.lookup y = some .local := by rw [q.hsc]; exact hyl
  refine ⟨fun pins s σ H D I h => ?_⟩
  have h2 : tL g W (cLcX fi t fe (own.map (·.2))) σ H fun v H1 => D.nx (σ.set i (some v)) H1 := by
    obtain ⟨m, c, s, o⟩ := cSet_ok D σ H h
    refine ⟨m, c, s, o.bind.imp fun v H1 ⟨m1, xs, c1, x1, s1, k1, o1⟩ => ?_⟩
    obtain ⟨m2, x2, s2, k2⟩ := s1.freezeL k1
    exact (o1.mono x2).here (Q := fun v H1 => D.nx (σ.set i (some v)) H1) s2 k2
  rw [exec_Assign_Name_used _ _ _ _ hsw]
  refine wpAny_bind (wpAny_standAt (wpAny_bind ?_))
  show wpAny _ X.A (do let _ ← comprehension (.ListComp elt [⟨tg, iter, [], 0⟩] scope pos) scope X.env (firstIterPos [⟨tg, iter, [], 0⟩] pos) (newList []) false (eval iter X.env) (some (assign (.Name y py) X.env))) _ _ s
  refine wpAny_bind (thn (lcx_core (Qf := fun _ s' => SP X pins D .next s') (tt := tYes) (te := tE g (fun cls d _ H' => W cls d σ H') fe) q.tk hF.1 hF.2 q.calm q.ndX I hi ok (fun s H C cl fp => (J.tg s H C cl fp).run) (fun s H C cl fp xe tk po => pts_nil) (fun s H C cl fp xe tk po => J.el s H C cl fp xe _ tk po) (folded_ok hs) (lcX_read hv σ H _ h2) fun L C s' m H' I' qv hn f ce cl => ?_) fun _ s' hq => wpAny_pure (wpAny_pure hq))
  subst cl
  show wpAny _ _ (assign (.Name y py) X.env (.ref L)) _ _ _
  refine wpAny_assign_Name (store_ok2 (v := V.ref L) I' q.ndX hyN (.inl hyl) rfl (fun s2 I2 ⟨a, sb, ha⟩ => ?_) (.inr hyl))
  obtain ⟨f0, f1, f2, f3, f4, f5⟩ := f
  have haC : ce.locals ≠ a := by
    rcases ha with z | z
    · rw [z]; exact f1
    · exact fun e => f4 y a z e.symm
  refine ⟨m, hn.sameBut sb haC, fun h3 sb3 => ?_⟩
  exact ⟨_, H', I2.turned (t' := s2.toks) (fun b o hb e => (sb3.2 b hb).trans e) f0 f1 f3 f4 f5, qv⟩
end
end CL
namespace CL
open PySem PySem.Spec PyProof.Rows L2
def bIntS : List D → M D
  | [.str a] => match PySem.intText? a with
    | some n => M.guard (decide (a.length ≤ 640)) (M.ret (.int n))
    | none => fun _ => .stuck
  | _ => fun _ => .stuck
theorem sc_intS {g : G} : SCE g (fun xs H Q => ∃ a n, xs = [.str a] ∧ PySem.intText? a = some n ∧ a.length ≤ 640 ∧ Q (.int n) H) bIntS := by
  intro W m c σ H ds vs Q s hv o
  cases hv with
  | nil => exact o.elim
  | @cons d v ds vs k r =>
    cases r with
    | cons _ _ => cases k <;> exact o.elim
    | nil =>
      cases k with
      | str a =>
        have o : Out (rE g) g W σ m ((match PySem.intText? a with
          | some n => M.guard (decide (a.length ≤ 640)) (M.ret (D.int n))
          | none => fun _ => R.stuck) c) Q := o
        cases e : PySem.intText? a with
        | none => rw [e] at o; exact o.elim
        | some n =>
          rw [e] at o
          obtain ⟨hz, o⟩ := Out.guard o
          exact ⟨a, n, rfl, e, of_decide_eq_true hz, o.here s (.int n)⟩
      | _ => exact o.elim
section
variable {X : Cx} {g : G} {k : Nat} {N : List Str} {sc ws : Scope} {W : WX} {p pos : Pos} {e : Expr} {es : List Expr} {fa : M (List D)}
theorem sq_intS (q : Good g k N X sc ws W) (hg : isGl sc "int" = true) (hm : g.mg "int" = none) (ha : PA X (e :: es) (tA g W fa)) (hp : plainArgs (e :: es) = true) : PE X (.Call (.Name "int" p) (e :: es) [] pos) (tE g W (fa.bind bIntS)) :=
  sx_callTy call_int_str sc_intS (q.gl hg).1 (by rw [q.hmg]; exact hm) (by rfl) ha (q.gl hg).2.2 (q.gl hg).2.1 hp
end
def dMulS : D → D → M D
  | .str a, .int k => M.guard (decide (a.length ≤ 16) && decide (2 ≤ k) && decide (k ≤ 1000)) (M.ret (.str (Txt.mul a k)))
  | _, _ => fun _ => .stuck
def rMulS : R2 := fun x y H Q => ∃ a k, x = .str a ∧ y = .int k ∧ a.length ≤ 16 ∧ 2 ≤ k ∧ k ≤ 1000 ∧ Q (.str (Txt.mul a k)) H
theorem op_mulS {X : Cx} : OpR X (binaryOp .Mult) rMulS := by
  intro pins s σ H x y v u Q I rx ry h
  obtain ⟨a, k, rfl, rfl, h1, h2, h3, q⟩ := h
  obtain ⟨t, rfl⟩ := rx
  obtain ⟨t2, rfl⟩ := ry
  exact SB.mul (mulOk_of 16 1048576 (by omega) (by omega) (by omega) (by decide) (by decide)) fun t' k' => ⟨.str _, H, I.tok _, ⟨_, rfl⟩, q⟩
theorem s2_mulS {g : G} : S2 g rMulS dMulS := by
  intro W m c σ H a b x y Q s ha hb o
  cases ha with
  | str a =>
    cases hb with
    | int k =>
      obtain ⟨hz, o⟩ := Out.guard o
      simp only [Bool.and_eq_true, decide_eq_true_eq] at hz
      exact ⟨a, k, rfl, rfl, hz.1.1, hz.1.2, hz.2, o.here s (.str _)⟩
    | _ => exact o.elim
  | _ => exact o.elim
theorem mq_mulS {X : Cx} {g : G} {k : Nat} {N : List Str} {sc ws : Scope} {W : WX} (q : Good g k N X sc ws W) : MOp X g W (binaryOp .Mult) dMulS := mq (r := fun _ => rMulS) q op_mulS s2_mulS
end CL
namespace K03
open PySem PySem.Spec PyProof.Rows L2 CL
def topS (i : Nat) : Stmt := PySem.Challenge.pw_shelfdoors_k03_texts_that_are_no_chains.main.body.getD i (.Pass ⟨0, 0, 0, 0⟩)
def clsB : Stmt → List Stmt
  | .ClassDef (body := b) .. => b
  | _ => []
def inS (i j : Nat) : Stmt := (clsB (topS i)).getD j (.Pass ⟨0, 0, 0, 0⟩)
def exNs : Nat → List Str
  | 0 => [cdS]
  | _ => []
structure Ad where
  C_ChainError : Addr
  C_NotFound : Addr
  C_InvalidText : Addr
  a_InvalidText : Addr
  a_is_between : Addr
  a_check_rows : Addr
  mc_Chain : Value
  u_Chain_MAX_CAPACITY : Value
  u_Chain_MAX_LEVELS : Value
  u_Chain_MAX_SEGMENTS : Value
  a_Chain__init : Addr
  a_read_capacity : Addr
  a_read_row : Addr
  a_Chain_read : Addr
  p_Chain_read : Addr
  a_Chain_segments : Addr
  p_Chain_segments : Addr
  a_law_tape : Addr
  a_law_pick : Addr
  a_law_same : Addr
  a_law_field : Addr
  a_law_try : Addr
  a_law_row : Addr
  a_law_rows : Addr
  a_law_text : Addr
  a_law_of : Addr
  a_law_bent : Addr
  a_law_read_row : Addr
  a_law_read : Addr
  a_law : Addr
  cc_law : Addr
  P_law : Addr
  C_Chain : Addr
structure Tx (g : G) (A : Ad) : Prop where
  xck : XcK g exNs
  mb_ChainError : g.mg "ChainError" = some (.ref A.C_ChainError)
  mb_NotFound : g.mg "NotFound" = some (.ref A.C_NotFound)
  xm : ∀ cn C ns, g.exc cn = some (C, ns) → PySem.W.exmAny g.K (.ref C) [.ref A.C_ChainError, .ref A.C_NotFound] = some true
  f_InvalidText : ∃ fd, L2.Fun g.K "__init__" "InvalidText.__init__" (inS 4 0) A.a_InvalidText fd ∧ Binds g.K fd (["self"] : List Str) []
  xo_InvalidText : OexC g.K A.C_InvalidText
  xi_InvalidText : PySem.W.findIn g.K (.ref A.C_InvalidText) "__init__" = some (some (.ref A.a_InvalidText))
  xt_InvalidText : PySem.W.typeIn g.K (.ref A.a_InvalidText) = some (.type "function")
  mx_InvalidText : g.mg "InvalidText" = some (.ref A.C_InvalidText)
  xc_InvalidText : PySem.W.findIn g.K (.ref A.C_InvalidText) cdS = some none
  xe_InvalidText : g.exc 0 = some (A.C_InvalidText, ([cdS] : List Str))
  f_is_between : ∃ fd, L2.Fun g.K "is_between" "is_between" (topS 8) A.a_is_between fd ∧ Binds g.K fd (["value", "low", "high"] : List Str) []
  m_is_between : g.mg "is_between" = some (.ref A.a_is_between)
  kp_is_between : PySem.W.keepIn g.K (.ref A.a_is_between) = true
  n_bool : g.mg "bool" = none
  n_int : g.mg "int" = none
  n_isinstance : g.mg "isinstance" = none
  f_check_rows : ∃ fd, L2.Fun g.K "_check_rows" "_check_rows" (topS 11) A.a_check_rows fd ∧ Binds g.K fd (["rows"] : List Str) []
  m_check_rows : g.mg "_check_rows" = some (.ref A.a_check_rows)
  kp_check_rows : PySem.W.keepIn g.K (.ref A.a_check_rows) = true
  cr_Chain : ClX.CRead g.K A.C_Chain A.mc_Chain
  cv_Chain_MAX_CAPACITY : ClX.CVal g.K A.C_Chain A.mc_Chain "MAX_CAPACITY" (.int 12) A.u_Chain_MAX_CAPACITY
  cv_Chain_MAX_LEVELS : ClX.CVal g.K A.C_Chain A.mc_Chain "MAX_LEVELS" (.int 12) A.u_Chain_MAX_LEVELS
  cv_Chain_MAX_SEGMENTS : ClX.CVal g.K A.C_Chain A.mc_Chain "MAX_SEGMENTS" (.int 4) A.u_Chain_MAX_SEGMENTS
  n_all : g.mg "all" = none
  n_enumerate : g.mg "enumerate" = none
  n_len : g.mg "len" = none
  f_Chain__init : ∃ fd, L2.Fun g.K "__init__" "Chain.__init__" (inS 10 3) A.a_Chain__init fd
  mk_Chain : Mk g.K A.C_Chain A.a_Chain__init
  n_tuple : g.mg "tuple" = none
  na_Chain_rows : NoAttr g.K A.C_Chain "_rows"
  f_read_capacity : ∃ fd, L2.Fun g.K "_read_capacity" "_read_capacity" (topS 14) A.a_read_capacity fd ∧ Binds g.K fd (["word"] : List Str) []
  m_read_capacity : g.mg "_read_capacity" = some (.ref A.a_read_capacity)
  kp_read_capacity : PySem.W.keepIn g.K (.ref A.a_read_capacity) = true
  n_range : g.mg "range" = none
  n_str : g.mg "str" = none
  f_read_row : ∃ fd, L2.Fun g.K "_read_row" "_read_row" (topS 13) A.a_read_row fd ∧ Binds g.K fd (["text"] : List Str) []
  m_read_row : g.mg "_read_row" = some (.ref A.a_read_row)
  kp_read_row : PySem.W.keepIn g.K (.ref A.a_read_row) = true
  f_Chain_read : ∃ fd, L2.Fun g.K "read" "Chain.read" (inS 10 4) A.a_Chain_read fd ∧ Binds g.K fd (["cls", "text"] : List Str) []
  cm_Chain_read : ClX.CMet g.K A.C_Chain A.mc_Chain "read" A.p_Chain_read A.a_Chain_read
  f_Chain_segments : ∃ fd, L2.Fun g.K "segments" "Chain.segments" (inS 10 6) A.a_Chain_segments fd ∧ Binds g.K fd (["self"] : List Str) []
  pr_Chain_segments : PropOf g.K A.C_Chain "segments" A.p_Chain_segments A.a_Chain_segments
  f_law_tape : ∃ fd, L2.Fun g.K "_law_tape" "_law_tape" (topS 16) A.a_law_tape fd ∧ Binds g.K fd (["_law_script"] : List Str) []
  m_law_tape : g.mg "_law_tape" = some (.ref A.a_law_tape)
  kp_law_tape : PySem.W.keepIn g.K (.ref A.a_law_tape) = true
  n_list : g.mg "list" = none
  f_law_pick : ∃ fd, L2.Fun g.K "_law_pick" "_law_pick" (topS 17) A.a_law_pick fd ∧ Binds g.K fd (["_law_tape_here", "_law_many"] : List Str) []
  m_law_pick : g.mg "_law_pick" = some (.ref A.a_law_pick)
  kp_law_pick : PySem.W.keepIn g.K (.ref A.a_law_pick) = true
  f_law_same : ∃ fd, L2.Fun g.K "_law_same" "_law_same" (topS 19) A.a_law_same fd ∧ Binds g.K fd (["_law_found", "_law_due"] : List Str) []
  m_law_same : g.mg "_law_same" = some (.ref A.a_law_same)
  kp_law_same : PySem.W.keepIn g.K (.ref A.a_law_same) = true
  n_zip : g.mg "zip" = none
  f_law_field : ∃ fd, L2.Fun g.K "_law_field" "_law_field" (topS 20) A.a_law_field fd ∧ Binds g.K fd (["_law_e"] : List Str) []
  m_law_field : g.mg "_law_field" = some (.ref A.a_law_field)
  kp_law_field : PySem.W.keepIn g.K (.ref A.a_law_field) = true
  f_law_try : ∃ fd, L2.Fun g.K "_law_try" "_law_try" (topS 21) A.a_law_try fd ∧ Binds g.K fd (["_law_call"] : List Str) []
  m_law_try : g.mg "_law_try" = some (.ref A.a_law_try)
  kp_law_try : PySem.W.keepIn g.K (.ref A.a_law_try) = true
  f_law_row : ∃ fd, L2.Fun g.K "_law_row" "_law_row" (topS 22) A.a_law_row fd ∧ Binds g.K fd (["_law_tape_here", "_law_levels", "_law_top"] : List Str) []
  m_law_row : g.mg "_law_row" = some (.ref A.a_law_row)
  kp_law_row : PySem.W.keepIn g.K (.ref A.a_law_row) = true
  n_sorted : g.mg "sorted" = none
  f_law_rows : ∃ fd, L2.Fun g.K "_law_rows" "_law_rows" (topS 23) A.a_law_rows fd ∧ Binds g.K fd (["_law_tape_here", "_law_segments", "_law_levels", "_law_top"] : List Str) []
  m_law_rows : g.mg "_law_rows" = some (.ref A.a_law_rows)
  kp_law_rows : PySem.W.keepIn g.K (.ref A.a_law_rows) = true
  f_law_text : ∃ fd, L2.Fun g.K "_law_text" "_law_text" (topS 24) A.a_law_text fd ∧ Binds g.K fd (["_law_rows_here"] : List Str) []
  m_law_text : g.mg "_law_text" = some (.ref A.a_law_text)
  kp_law_text : PySem.W.keepIn g.K (.ref A.a_law_text) = true
  f_law_of : ∃ fd, L2.Fun g.K "_law_of" "_law_of" (topS 18) A.a_law_of fd ∧ Binds g.K fd (["_law_tape_here", "_law_some"] : List Str) []
  m_law_of : g.mg "_law_of" = some (.ref A.a_law_of)
  kp_law_of : PySem.W.keepIn g.K (.ref A.a_law_of) = true
  f_law_bent : ∃ fd, L2.Fun g.K "_law_bent" "_law_bent" (topS 25) A.a_law_bent fd ∧ Binds g.K fd (["_law_tape_here", "_law_text_here", "_law_signs"] : List Str) []
  m_law_bent : g.mg "_law_bent" = some (.ref A.a_law_bent)
  kp_law_bent : PySem.W.keepIn g.K (.ref A.a_law_bent) = true
  f_law_read_row : ∃ fd, L2.Fun g.K "_law_read_row" "_law_read_row" (topS 26) A.a_law_read_row fd ∧ Binds g.K fd (["_law_part"] : List Str) []
  m_law_read_row : g.mg "_law_read_row" = some (.ref A.a_law_read_row)
  kp_law_read_row : PySem.W.keepIn g.K (.ref A.a_law_read_row) = true
  f_law_read : ∃ fd, L2.Fun g.K "_law_read" "_law_read" (topS 27) A.a_law_read fd ∧ Binds g.K fd (["_law_text_here"] : List Str) []
  m_law_read : g.mg "_law_read" = some (.ref A.a_law_read)
  kp_law_read : PySem.W.keepIn g.K (.ref A.a_law_read) = true
  f_law : ∃ fd, L2.Fun g.K "law" "law" (topS 28) A.a_law fd ∧ Binds g.K fd (["_law_script"] : List Str) []
  tb_law : LamX.TabB g.base g.mg A.cc_law A.P_law
  hm_law : (A.P_law, ("law.<locals>.<lambda>" : Str)) ∈ g.T
  hT_law : ∀ p ∈ g.T, p.1 = A.P_law → p.2 = ("law.<locals>.<lambda>" : Str)
  m_law : g.mg "law" = some (.ref A.a_law)
  kp_law : PySem.W.keepIn g.K (.ref A.a_law) = true
  c_Chain : g.cls 0 = some (A.C_Chain, (["_rows"] : List Str))
  mC_Chain : g.mg "Chain" = some (.ref A.C_Chain)
  kl_Chain : Cls g.K A.C_Chain
  tab : TabK g
noncomputable section
theorem sc_InvalidText : FnScope (["self"] : List Str) (["self"] : List Str) (defScope (inS 4 0)) := ⟨rfl, rfl, rfl, by decide +kernel, rfl, by decide +kernel, by decide +kernel⟩
theorem okx_InvalidText {g : G} {A : Ad} (T : Tx g A) : Xc0 g "InvalidText" A.C_InvalidText A.a_InvalidText "InvalidText" := by
  obtain ⟨fd, F, B⟩ := T.f_InvalidText
  exact ⟨T.xo_InvalidText, T.xi_InvalidText, T.xt_InvalidText, T.mx_InvalidText, T.xc_InvalidText, fd, _, fn_x0 F sc_InvalidText rfl rfl, B⟩
theorem sc_is_between : FnScope (["value", "low", "high"] : List Str) (["value", "low", "high"] : List Str) (defScope (topS 8)) := ⟨rfl, rfl, rfl, by decide +kernel, rfl, by decide +kernel, by decide +kernel⟩
def cl_is_between : M Fl := (cSeq (cRet (cAnd (cIsi (.ty .int) (cVar 0)) (cAnd (cNot (cIsi (.ty .bl) (cVar 0))) (cChain dLe dLe (cVar 1) (cVar 0) (cVar 2)))))
  cNext)
def fn_is_between : Fn := fnB 3 3 cl_is_between
theorem ok_is_between {g : G} {A : Ad} (T : Tx g A) : FnC g 1 A.a_is_between fn_is_between := by
  obtain ⟨fd, F, B⟩ := T.f_is_between
  exact fn_c F sc_is_between B fun X W q => (ss_cons (ss_ret (se_and (sx_isi T.tab q rfl T.n_isinstance (sq_var q (i := 0) rfl rfl rfl) (pcl_ty q rfl T.n_int rfl (by decide)) rfl rfl) (se_and (se_not (sx_isi T.tab q rfl T.n_isinstance (sq_var q (i := 0) rfl rfl rfl) (pcl_ty q rfl T.n_bool rfl (by decide)) rfl rfl)) (se_one (sx_chain op_le op_le s2_le s2_le (sq_var q (i := 1) rfl rfl rfl) (sq_var q (i := 0) rfl rfl rfl) (sq_var q (i := 2) rfl rfl rfl) rfl)))))
  ss_nil)
theorem sc_check_rows : FnScope (["rows", "segment", "row", "capacity"] : List Str) (["rows"] : List Str) (defScope (topS 11)) := ⟨rfl, rfl, rfl, by decide +kernel, rfl, by decide +kernel, by decide +kernel⟩
def cl_check_rows : M Fl := (cSeq (cIfS (cNotT (asB (cChain dLe dLe (M.ret (.int 1)) ((cCons (cVar 0) (M.ret [])).bind bLen) (M.ret (.int 4))))) (cSeq cNever
  cNext) cNext)
  (cSeq (cFor (cEnum (cVar 0)) (.tp [1, 2]) (cSeq (cIfS (asB (cOp dGt ((cCons (cVar 2) (M.ret [])).bind bLen) (M.ret (.int 12)))) (cSeq cNever
  cNext) cNext)
  (cSeq (cIfS (cNotT (cTru ((cCons (froz (cLc (cWalk (cVar 2)) (.nm 3) (M.ret true) (cCall fn_is_between (cCons (cVar 3) (cCons (M.ret (.int 1)) (cCons (M.ret (.int 12)) (M.ret []))))) [3])) (M.ret [])).bind bAll))) (cSeq cNever
  cNext) cNext)
  cNext)))
  cNext))
def fn_check_rows : Fn := fnB 4 1 cl_check_rows
theorem ok_check_rows {g : G} {A : Ad} (T : Tx g A) : FnC g 2 A.a_check_rows fn_check_rows := by
  obtain ⟨fd, F, B⟩ := T.f_check_rows
  exact fn_c F sc_check_rows B fun X W q => (ss_cons (ss_if (st_not (sx_chainT op_le op_le s2_le s2_le se_int (sq_len q rfl T.n_len (sa_cons (sq_var q (i := 0) rfl rfl rfl) sa_nil rfl) rfl) (sx_cval q rfl T.mC_Chain T.cr_Chain T.cv_Chain_MAX_SEGMENTS (fun _ => .int _)) rfl)) (ss_cons ss_any
  ss_nil) ss_nil)
  (ss_cons (ss_for q (sq_enum q rfl T.n_enumerate (sq_var q (i := 0) rfl rfl rfl) rfl) (tg_tup q (is := [1, 2]) rfl) (ss_cons (ss_if (sx_cmpT (mop_of op_gt s2_gt) (sq_len q rfl T.n_len (sa_cons (sq_var q (i := 2) rfl rfl rfl) sa_nil rfl) rfl) (sx_cval q rfl T.mC_Chain T.cr_Chain T.cv_Chain_MAX_LEVELS (fun _ => .int _)) (marks_ok rfl)) (ss_cons ss_any
  ss_nil) ss_nil)
  (ss_cons (ss_if (st_not (sq_tru q (sq_all q rfl T.n_all (sa_cons (se_froz (sl_lc q (sq_seq q (sq_var q (i := 2) rfl rfl rfl)) (blk_of q (own := ([("capacity", 3)] : List (Str × Nat))) rfl) ⟨fun _ _ _ _ _ => (tg_name (q.blk) (i := 3) rfl rfl), fun _ _ _ _ _ => sts_nil, fun _ _ _ _ _ => (sx_call (q.blk) (ok_is_between T) (by omega) rfl T.m_is_between T.kp_is_between (sa_cons (sq_var (q.blk) (i := 3) rfl rfl rfl) (sa_cons se_int (sa_cons (sx_cval (q.blk) rfl T.mC_Chain T.cr_Chain T.cv_Chain_MAX_CAPACITY (fun _ => .int _)) sa_nil rfl) rfl) rfl) rfl)⟩ (by decide) rfl)) sa_nil rfl) rfl) rfl)) (ss_cons ss_any
  ss_nil) ss_nil)
  ss_nil)) rfl)
  ss_nil))
theorem sc_Chain__init : FnScope (["self", "segments", "rows", "row"] : List Str) ((["self"] : List Str) ++ (["segments"] : List Str)) (defScope (inS 10 3)) := ⟨rfl, rfl, rfl, by decide +kernel, rfl, by decide +kernel, by decide +kernel⟩
def cl_Chain__init : M Fl := (cSeq (cSet 2 ((cCons (froz (cLc (cWalk (cVar 1)) (.nm 3) (M.ret true) ((cCons (cVar 3) (M.ret [])).bind bTuple) [3])) (M.ret [])).bind bTuple))
  (cSeq (cDrop (cCall fn_check_rows (cCons (cVar 2) (M.ret []))))
  (cSeq (cSetF 0 0 "_rows" (cVar 2))
  cNext)))
def fn_Chain__init : Fn := fnStar (mkB 4 1 0 (["_rows"] : List Str) cl_Chain__init)
theorem ok_Chain__init {g : G} {A : Ad} (T : Tx g A) : FnMk g 3 A.a_Chain__init 0 fn_Chain__init := by
  obtain ⟨fd, F⟩ := T.f_Chain__init
  exact fn_mkS F sc_Chain__init T.c_Chain (fun kV doc pm an cdv ct us rest hl => match us, rest, hl with | [_], [], _ => rfl | [_], _ :: _, _ => rfl) fun X W q => (ss_cons (ss_set q (i := 2) rfl rfl (sq_tuple q rfl T.n_tuple (sa_cons (se_froz (sl_lc q (sq_seq q (sq_var q (i := 1) rfl rfl rfl)) (blk_of q (own := ([("row", 3)] : List (Str × Nat))) rfl) ⟨fun _ _ _ _ _ => (tg_name (q.blk) (i := 3) rfl rfl), fun _ _ _ _ _ => sts_nil, fun _ _ _ _ _ => (sq_tuple (q.blk) rfl T.n_tuple (sa_cons (sq_var (q.blk) (i := 3) rfl rfl rfl) sa_nil rfl) rfl)⟩ (by decide) rfl)) sa_nil rfl) rfl) (swaps_no rfl))
  (ss_cons (ss_drop (sx_call q (ok_check_rows T) (by omega) rfl T.m_check_rows T.kp_check_rows (sa_cons (sq_var q (i := 2) rfl rfl rfl) sa_nil rfl) rfl) (swaps_no rfl))
  (ss_cons (ss_setF q T.c_Chain T.kl_Chain T.na_Chain_rows (i := 0) rfl rfl rfl (sq_var q (i := 2) rfl rfl rfl) (swaps_no rfl))
  ss_nil)))
theorem sc_read_capacity : FnScope (["word", "capacity"] : List Str) (["word"] : List Str) (defScope (topS 14)) := ⟨rfl, rfl, rfl, by decide +kernel, rfl, by decide +kernel, by decide +kernel⟩
abbrev cl_read_capacity_b1 : M Fl := (cSeq (cIfS (asB (cOp dEq (cVar 0) ((cCons (cVar 1) (M.ret [])).bind bStr))) (cSeq (cRet (cVar 1))
  cNext) cNext)
  cNext)
def cl_read_capacity : M Fl := (cSeq (cFor (cRange2 (M.ret (.int 1)) (cOp dAdd (M.ret (.int 12)) (M.ret (.int 1)))) (.nm 1) cl_read_capacity_b1)
  (cSeq (cRaise0 0 "InvalidText")
  cNext))
def fn_read_capacity : Fn := fnB 2 1 cl_read_capacity
theorem ok_read_capacity {g : G} {A : Ad} (T : Tx g A) : FnC g 3 A.a_read_capacity fn_read_capacity := by
  obtain ⟨fd, F, B⟩ := T.f_read_capacity
  exact fn_c F sc_read_capacity B fun X W q => (ss_cons (ss_for q (sq_range2 q rfl T.n_range se_int (sx_bin (mq_add q) (sx_cval q rfl T.mC_Chain T.cr_Chain T.cv_Chain_MAX_CAPACITY (fun _ => .int _)) se_int) rfl rfl) (tg_name q (i := 1) rfl rfl) (ss_cons (ss_if (sx_cmpT (mq_eq q) (sq_var q (i := 0) rfl rfl rfl) (sq_str q rfl T.n_str (sa_cons (sq_var q (i := 1) rfl rfl rfl) sa_nil rfl) rfl) (marks_ok rfl)) (ss_cons (ss_ret (sq_var q (i := 1) rfl rfl rfl))
  ss_nil) ss_nil)
  ss_nil) rfl)
  (ss_cons (ss_raise0 q (okx_InvalidText T) T.xe_InvalidText rfl (by omega))
  ss_nil))
theorem sc_read_row : FnScope (["text", "row", "word"] : List Str) (["text"] : List Str) (defScope (topS 13)) := ⟨rfl, rfl, rfl, by decide +kernel, rfl, by decide +kernel, by decide +kernel⟩
abbrev cl_read_row_e1 : M D := (cCall fn_read_capacity (cCons (cVar 2) (M.ret [])))
def cl_read_row : M Fl := (cSeq (cIfS (asB (cOp dEq (cVar 0) (M.ret (.str (PySem.Str.ofString "-"))))) (cSeq (cRet (cTup (M.ret [])))
  cNext) cNext)
  (cSeq (cSet 1 ((cCons (froz (cLcX (cWalk (froz (cSplit (cVar 0) (M.ret (.str (PySem.Str.ofString " ")))))) (.nm 2) cl_read_row_e1 [2])) (M.ret [])).bind bTuple))
  (cSeq (cIfS (asB (cOp dGt ((cCons (cVar 1) (M.ret [])).bind bLen) (M.ret (.int 12)))) (cSeq (cRaise0 0 "InvalidText")
  cNext) cNext)
  (cSeq (cRet (cVar 1))
  cNext))))
def fn_read_row : Fn := fnB 3 1 cl_read_row
theorem ok_read_row {g : G} {A : Ad} (T : Tx g A) : FnC g 4 A.a_read_row fn_read_row := by
  obtain ⟨fd, F, B⟩ := T.f_read_row
  exact fn_cF F sc_read_row B fun X W q hF => (ss_cons (ss_if (sx_cmpT (mq_eq q) (sq_var q (i := 0) rfl rfl rfl) se_str (marks_ok rfl)) (ss_cons (ss_ret (se_tup sa_nil))
  ss_nil) ss_nil)
  (ss_cons (ss_set q (i := 1) rfl rfl (sq_tuple q rfl T.n_tuple (sa_cons (se_froz (sl_lcX q hF (sq_seq q (se_froz (sl_split q (sq_var q (i := 0) rfl rfl rfl) se_str rfl rfl rfl))) (blk_of q (own := ([("word", 2)] : List (Str × Nat))) rfl) ⟨fun _ _ _ _ _ => (tg_name (q.blk) (i := 2) rfl rfl), fun _ _ _ _ _ _ _ tk po => (sx_call (q.blkx tk po) (ok_read_capacity T) (by omega) rfl T.m_read_capacity T.kp_read_capacity (sa_cons (sq_var (q.blkx tk po) (i := 2) rfl rfl rfl) sa_nil rfl) rfl)⟩ (by decide) rfl)) sa_nil rfl) rfl) (swaps_no rfl))
  (ss_cons (ss_if (sx_cmpT (mop_of op_gt s2_gt) (sq_len q rfl T.n_len (sa_cons (sq_var q (i := 1) rfl rfl rfl) sa_nil rfl) rfl) (sx_cval q rfl T.mC_Chain T.cr_Chain T.cv_Chain_MAX_LEVELS (fun _ => .int _)) (marks_ok rfl)) (ss_cons (ss_raise0 q (okx_InvalidText T) T.xe_InvalidText rfl (by omega))
  ss_nil) ss_nil)
  (ss_cons (ss_ret (sq_var q (i := 1) rfl rfl rfl))
  ss_nil))))
theorem sc_Chain_read : FnScope (["cls", "text", "rows", "part"] : List Str) (["cls", "text"] : List Str) (defScope (inS 10 4)) := ⟨rfl, rfl, rfl, by decide +kernel, rfl, by decide +kernel, by decide +kernel⟩
abbrev cl_Chain_read_e1 : M D := (cCall fn_read_row (cCons (cVar 3) (M.ret [])))
def cl_Chain_read : M Fl := (cSeq (cSet 2 (froz (cLcX (cWalk (froz (cSplit (cVar 1) (M.ret (.str (PySem.Str.ofString " | ")))))) (.nm 3) cl_Chain_read_e1 [3])))
  (cSeq (cIfS (asB (cOp dGt ((cCons (cVar 2) (M.ret [])).bind bLen) (M.ret (.int 4)))) (cSeq (cRaise0 0 "InvalidText")
  cNext) cNext)
  (cSeq (cRet (cCallS fn_Chain__init (cVar 2)))
  cNext)))
def fn_Chain_read : Fn := cmB 4 2 cl_Chain_read
theorem ok_Chain_read {g : G} {A : Ad} (T : Tx g A) : FnCm g 5 A.a_Chain_read A.C_Chain fn_Chain_read := by
  obtain ⟨fd, F, B⟩ := T.f_Chain_read
  exact fn_cmF F sc_Chain_read B fun X W q hF => (ss_cons (ss_setLcXV q hF (i := 2) rfl rfl (swaps_lc q rfl) (sq_seq q (se_froz (sl_split q (sq_var q (i := 1) rfl rfl rfl) se_str rfl rfl rfl))) (blk_of q (own := ([("part", 3)] : List (Str × Nat))) rfl) ⟨fun _ _ _ _ _ => (tg_name (q.blk) (i := 3) rfl rfl), fun _ _ _ _ _ _ _ tk po => (sx_call (q.blkx tk po) (ok_read_row T) (by omega) rfl T.m_read_row T.kp_read_row (sa_cons (sq_var (q.blkx tk po) (i := 3) rfl rfl rfl) sa_nil rfl) rfl)⟩ (by decide) rfl)
  (ss_cons (ss_if (sx_cmpT (mop_of op_gt s2_gt) (sq_len q rfl T.n_len (sa_cons (sq_var q (i := 2) rfl rfl rfl) sa_nil rfl) rfl) (sx_cval q rfl T.mC_Chain T.cr_Chain T.cv_Chain_MAX_SEGMENTS (fun _ => .int _)) (marks_ok rfl)) (ss_cons (ss_raise0 q (okx_InvalidText T) T.xe_InvalidText rfl (by omega))
  ss_nil) ss_nil)
  (ss_cons (ss_ret (sx_makeS q T.c_Chain T.mk_Chain (ok_Chain__init T) (by omega) rfl T.mC_Chain (sq_var q (i := 2) rfl rfl rfl)))
  ss_nil)))
theorem sc_Chain_segments : FnScope (["self"] : List Str) (["self"] : List Str) (defScope (inS 10 6)) := ⟨rfl, rfl, rfl, by decide +kernel, rfl, by decide +kernel, by decide +kernel⟩
def cl_Chain_segments : M Fl := (cSeq (cRet (cFld 0 0 "_rows" (cVar 0)))
  cNext)
def fn_Chain_segments : Fn := fnB 1 1 cl_Chain_segments
theorem ok_Chain_segments {g : G} {A : Ad} (T : Tx g A) : FnC g 1 A.a_Chain_segments fn_Chain_segments := by
  obtain ⟨fd, F, B⟩ := T.f_Chain_segments
  exact fn_c F sc_Chain_segments B fun X W q => (ss_cons (ss_ret (sx_fld q (i := 0) T.c_Chain (by decide) rfl T.kl_Chain T.na_Chain_rows (sq_var q (i := 0) rfl rfl rfl) rfl))
  ss_nil)
theorem sc_law_tape : FnScope (["_law_script"] : List Str) (["_law_script"] : List Str) (defScope (topS 16)) := ⟨rfl, rfl, rfl, by decide +kernel, rfl, by decide +kernel, by decide +kernel⟩
def cl_law_tape : M Fl := (cSeq (cRet (cStore (cLst (cCons (froz ((cCons (froz (cCutL (cVar 0) cNoPart (cPart (M.ret (.int 63))))) (M.ret [])).bind bList)) (cCons (M.ret (.int 0)) (cCons (M.ret (.int 0)) (cCons (M.ret (.int 3815)) (M.ret []))))))))
  cNext)
def fn_law_tape : Fn := fnB 1 1 cl_law_tape
theorem ok_law_tape {g : G} {A : Ad} (T : Tx g A) : FnC g 1 A.a_law_tape fn_law_tape := by
  obtain ⟨fd, F, B⟩ := T.f_law_tape
  exact fn_c F sc_law_tape B fun X W q => (ss_cons (ss_ret (se_store (sl_lst (sa_cons (se_froz (sq_list q rfl T.n_list (sa_cons (se_froz (sq_cutL q (sq_var q (i := 0) rfl rfl rfl) so_none (so_some se_int))) sa_nil rfl) rfl)) (sa_cons se_int (sa_cons se_int (sa_cons se_int sa_nil rfl) rfl) rfl) rfl))))
  ss_nil)
theorem sc_law_pick : FnScope (["_law_tape_here", "_law_many", "_law_cell", "_law_digit", "_law_square"] : List Str) (["_law_tape_here", "_law_many"] : List Str) (defScope (topS 17)) := ⟨rfl, rfl, rfl, by decide +kernel, rfl, by decide +kernel, by decide +kernel⟩
def cl_law_pick : M Fl := (cSeq (cIfS (cAndT (asB (cOp dEq (cOp dIx (cVar 0) (M.ret (.int 2))) (M.ret (.int 0)))) (asB (cOp dLt (cOp dIx (cVar 0) (M.ret (.int 1))) ((cCons (cOp dIx (cVar 0) (M.ret (.int 0))) (M.ret [])).bind bLen)))) (cSeq (cSet 2 (cOp dIx (cOp dIx (cVar 0) (M.ret (.int 0))) (cOp dIx (cVar 0) (M.ret (.int 1)))))
  (cSeq (cSetIx 0 (M.ret (.int 1)) (cOp dAdd (cOp dIx (cVar 0) (M.ret (.int 1))) (M.ret (.int 1))))
  (cSeq (cIfS (asB (cOp dGe (cVar 2) (cOp dPow (M.ret (.int 10)) (M.ret (.int 18))))) (cSeq (cSetIx 0 (M.ret (.int 2)) (cVar 2))
  cNext) (cSeq (cSetIx 0 (M.ret (.int 3)) (cOp dMod (cOp dAdd (cOp dAdd (cOp dMul (cOp dIx (cVar 0) (M.ret (.int 3))) (M.ret (.int 48611))) (cOp dMul (cOp dMod (cVar 2) (M.ret (.int 2147483549))) (M.ret (.int 389)))) (M.ret (.int 41))) (M.ret (.int 2147483587))))
  cNext))
  cNext))) cNext)
  (cSeq (cIfS (asB (cOp dGt (cOp dIx (cVar 0) (M.ret (.int 2))) (M.ret (.int 0)))) (cSeq (cSet 3 (cOp dMod (cOp dIx (cVar 0) (M.ret (.int 2))) (cVar 1)))
  (cSeq (cSetIx 0 (M.ret (.int 2)) (cOp dDiv (cOp dIx (cVar 0) (M.ret (.int 2))) (cVar 1)))
  (cSeq (cRet (cVar 3))
  cNext))) cNext)
  (cSeq (cSet 4 (cOp dMod (cOp dMul (cOp dIx (cVar 0) (M.ret (.int 3))) (cOp dIx (cVar 0) (M.ret (.int 3)))) (M.ret (.int 2147483587))))
  (cSeq (cSetIx 0 (M.ret (.int 3)) (cOp dMod (cOp dAdd (cOp dAdd (cOp dMul (cVar 4) (M.ret (.int 30011))) (cOp dMul (cOp dIx (cVar 0) (M.ret (.int 3))) (M.ret (.int 16807)))) (M.ret (.int 9973))) (M.ret (.int 2147483587))))
  (cSeq (cRet (cOp dMod (cOp dAdd (cOp dDiv (cOp dIx (cVar 0) (M.ret (.int 3))) (M.ret (.int 83))) (cOp dMul (cOp dMod (cOp dIx (cVar 0) (M.ret (.int 3))) (M.ret (.int 7919))) (M.ret (.int 53)))) (cVar 1)))
  cNext)))))
def fn_law_pick : Fn := fnB 5 2 cl_law_pick
theorem ok_law_pick {g : G} {A : Ad} (T : Tx g A) : FnC g 1 A.a_law_pick fn_law_pick := by
  obtain ⟨fd, F, B⟩ := T.f_law_pick
  exact fn_c F sc_law_pick B fun X W q => (ss_cons (ss_if (PW.pt (sw_and (sx_cmpT (mq_eq q) (sx_sub (r := fun _ _ _ _ => True) (mq_ix q) (sq_var q (i := 0) rfl rfl rfl) se_int rfl) se_int (marks_ok rfl)) (sw_and1 (sx_cmpT (mop_of op_lt s2_lt) (sx_sub (r := fun _ _ _ _ => True) (mq_ix q) (sq_var q (i := 0) rfl rfl rfl) se_int rfl) (sq_len q rfl T.n_len (sa_cons (sx_sub (r := fun _ _ _ _ => True) (mq_ix q) (sq_var q (i := 0) rfl rfl rfl) se_int rfl) sa_nil rfl) rfl) (marks_ok rfl))))) (ss_cons (ss_set q (i := 2) rfl rfl (sx_sub (r := fun _ _ _ _ => True) (mq_ix q) (sx_sub (r := fun _ _ _ _ => True) (mq_ix q) (sq_var q (i := 0) rfl rfl rfl) se_int rfl) (sx_sub (r := fun _ _ _ _ => True) (mq_ix q) (sq_var q (i := 0) rfl rfl rfl) se_int rfl) rfl) (swaps_no rfl))
  (ss_cons (ss_setIx q (i := 0) rfl rfl rfl (sx_bin (mq_add q) (sx_sub (r := fun _ _ _ _ => True) (mq_ix q) (sq_var q (i := 0) rfl rfl rfl) se_int rfl) se_int) se_int rfl)
  (ss_cons (ss_if (sx_cmpT (mop_of op_ge s2_ge) (sq_var q (i := 2) rfl rfl rfl) (sx_bin (mop_of op_pow s2_pow) se_int se_int) (marks_ok rfl)) (ss_cons (ss_setIx q (i := 0) rfl rfl rfl (sq_var q (i := 2) rfl rfl rfl) se_int rfl)
  ss_nil) (ss_cons (ss_setIx q (i := 0) rfl rfl rfl (sx_bin (mop_of op_mod s2_mod) (sx_bin (mq_add q) (sx_bin (mq_add q) (sx_bin (mop_of op_mul s2_mul) (sx_sub (r := fun _ _ _ _ => True) (mq_ix q) (sq_var q (i := 0) rfl rfl rfl) se_int rfl) se_int) (sx_bin (mop_of op_mul s2_mul) (sx_bin (mop_of op_mod s2_mod) (sq_var q (i := 2) rfl rfl rfl) se_int) se_int)) se_int) se_int) se_int rfl)
  ss_nil))
  ss_nil))) ss_nil)
  (ss_cons (ss_if (sx_cmpT (mop_of op_gt s2_gt) (sx_sub (r := fun _ _ _ _ => True) (mq_ix q) (sq_var q (i := 0) rfl rfl rfl) se_int rfl) se_int (marks_ok rfl)) (ss_cons (ss_set q (i := 3) rfl rfl (sx_bin (mop_of op_mod s2_mod) (sx_sub (r := fun _ _ _ _ => True) (mq_ix q) (sq_var q (i := 0) rfl rfl rfl) se_int rfl) (sq_var q (i := 1) rfl rfl rfl)) (swaps_no rfl))
  (ss_cons (ss_setIx q (i := 0) rfl rfl rfl (sx_bin (mop_of op_fdiv s2_div) (sx_sub (r := fun _ _ _ _ => True) (mq_ix q) (sq_var q (i := 0) rfl rfl rfl) se_int rfl) (sq_var q (i := 1) rfl rfl rfl)) se_int rfl)
  (ss_cons (ss_ret (sq_var q (i := 3) rfl rfl rfl))
  ss_nil))) ss_nil)
  (ss_cons (ss_set q (i := 4) rfl rfl (sx_bin (mop_of op_mod s2_mod) (sx_bin (mop_of op_mul s2_mul) (sx_sub (r := fun _ _ _ _ => True) (mq_ix q) (sq_var q (i := 0) rfl rfl rfl) se_int rfl) (sx_sub (r := fun _ _ _ _ => True) (mq_ix q) (sq_var q (i := 0) rfl rfl rfl) se_int rfl)) se_int) (swaps_no rfl))
  (ss_cons (ss_setIx q (i := 0) rfl rfl rfl (sx_bin (mop_of op_mod s2_mod) (sx_bin (mq_add q) (sx_bin (mq_add q) (sx_bin (mop_of op_mul s2_mul) (sq_var q (i := 4) rfl rfl rfl) se_int) (sx_bin (mop_of op_mul s2_mul) (sx_sub (r := fun _ _ _ _ => True) (mq_ix q) (sq_var q (i := 0) rfl rfl rfl) se_int rfl) se_int)) se_int) se_int) se_int rfl)
  (ss_cons (ss_ret (sx_bin (mop_of op_mod s2_mod) (sx_bin (mq_add q) (sx_bin (mop_of op_fdiv s2_div) (sx_sub (r := fun _ _ _ _ => True) (mq_ix q) (sq_var q (i := 0) rfl rfl rfl) se_int rfl) se_int) (sx_bin (mop_of op_mul s2_mul) (sx_bin (mop_of op_mod s2_mod) (sx_sub (r := fun _ _ _ _ => True) (mq_ix q) (sq_var q (i := 0) rfl rfl rfl) se_int rfl) se_int) se_int)) (sq_var q (i := 1) rfl rfl rfl)))
  ss_nil)))))
theorem sc_law_same : FnScope (["_law_found", "_law_due", "_law_one", "_law_other"] : List Str) (["_law_found", "_law_due"] : List Str) (defScope (topS 19)) := ⟨rfl, rfl, rfl, by decide +kernel, rfl, by decide +kernel, by decide +kernel⟩
def cl_law_same (fr : Fn) : M Fl := (cSeq (cIfS (cOrT (asB (cOp dIs (cVar 1) (M.ret .non))) (asB (cOp dIs (cVar 0) (M.ret .non)))) (cSeq (cRet (cAnd (cOp dIs (cVar 1) (M.ret .non)) (cOp dIs (cVar 0) (M.ret .non))))
  cNext) cNext)
  (cSeq (cIfS (cTru (cIsiT [.ty .lst, .ty .tup] (cVar 1))) (cSeq (cIfS (cOrT (asB (cOp dNe (cIsi (.ty .lst) (cVar 0)) (cIsi (.ty .lst) (cVar 1)))) (asB (cOp dNe (cIsi (.ty .tup) (cVar 0)) (cIsi (.ty .tup) (cVar 1))))) (cSeq (cRet (M.ret (.bl false)))
  cNext) cNext)
  (cSeq (cRet (cAnd (cOp dEq ((cCons (cVar 0) (M.ret [])).bind bLen) ((cCons (cVar 1) (M.ret [])).bind bLen)) ((cCons (froz (cLcG (cZipG (cVar 0) (cVar 1)) (.tp [2, 3]) (M.ret true) (cCall fr (cCons (cVar 2) (cCons (cVar 3) (M.ret [])))) [2, 3])) (M.ret [])).bind bAll)))
  cNext)) cNext)
  (cSeq (cIfS (cOrT (asB (cOp dNe (cIsi (.ty .bl) (cVar 1)) (cIsi (.ty .bl) (cVar 0)))) (asB (cOp dNe (cIsi (.ty .int) (cVar 1)) (cIsi (.ty .int) (cVar 0))))) (cSeq (cRet (M.ret (.bl false)))
  cNext) cNext)
  (cSeq (cRet (cAnd (cOp dEq (cIsi (.ty .str) (cVar 1)) (cIsi (.ty .str) (cVar 0))) (cOp dEq (cVar 0) (cVar 1))))
  cNext))))
def fn_law_same : Nat → Fn
  | 0 => fun _ _ => .stuck
  | n + 1 => fnB 4 2 (cl_law_same (fn_law_same n))
theorem ok_law_same {g : G} {A : Ad} (T : Tx g A) : ∀ n, FnC g (n + 1) A.a_law_same (fn_law_same n)
  | 0 => fun _ _ _ _ _ _ _ _ _ _ _ hs => by
    obtain ⟨_, _, _, _, _, o⟩ := hs
    exact o.elim
  | n + 1 => by
    obtain ⟨fd, F, B⟩ := T.f_law_same
    have ih := ok_law_same T n
    exact FnR.mono (fn_c (k := n + 1) (fb := cl_law_same (fn_law_same n)) F sc_law_same B fun X W q => (ss_cons (ss_if (PW.pt (sw_or (sx_cmpT (mop_of op_isN s2_is) (sq_var q (i := 1) rfl rfl rfl) se_non (marks_ok rfl)) (sw_or1 (sx_cmpT (mop_of op_isN s2_is) (sq_var q (i := 0) rfl rfl rfl) se_non (marks_ok rfl))))) (ss_cons (ss_ret (se_and (sx_cmp (mop_of op_isN s2_is) (sq_var q (i := 1) rfl rfl rfl) se_non (marks_ok rfl)) (se_one (sx_cmp (mop_of op_isN s2_is) (sq_var q (i := 0) rfl rfl rfl) se_non (marks_ok rfl)))))
  ss_nil) ss_nil)
  (ss_cons (ss_if (sq_tru q (sx_isiT T.tab q rfl T.n_isinstance (sq_var q (i := 1) rfl rfl rfl) ⟨(pcl_ty q rfl T.n_list rfl (by decide)), rfl, ⟨(pcl_ty q rfl T.n_tuple rfl (by decide)), rfl, trivial⟩⟩ rfl rfl) rfl) (ss_cons (ss_if (PW.pt (sw_or (sx_cmpT (mq_ne q) (sx_isi T.tab q rfl T.n_isinstance (sq_var q (i := 0) rfl rfl rfl) (pcl_ty q rfl T.n_list rfl (by decide)) rfl rfl) (sx_isi T.tab q rfl T.n_isinstance (sq_var q (i := 1) rfl rfl rfl) (pcl_ty q rfl T.n_list rfl (by decide)) rfl rfl) (marks_ok rfl)) (sw_or1 (sx_cmpT (mq_ne q) (sx_isi T.tab q rfl T.n_isinstance (sq_var q (i := 0) rfl rfl rfl) (pcl_ty q rfl T.n_tuple rfl (by decide)) rfl rfl) (sx_isi T.tab q rfl T.n_isinstance (sq_var q (i := 1) rfl rfl rfl) (pcl_ty q rfl T.n_tuple rfl (by decide)) rfl rfl) (marks_ok rfl))))) (ss_cons (ss_ret se_bl)
  ss_nil) ss_nil)
  (ss_cons (ss_ret (se_and (sx_cmp (mq_eq q) (sq_len q rfl T.n_len (sa_cons (sq_var q (i := 0) rfl rfl rfl) sa_nil rfl) rfl) (sq_len q rfl T.n_len (sa_cons (sq_var q (i := 1) rfl rfl rfl) sa_nil rfl) rfl) (marks_ok rfl)) (se_one (sq_all q rfl T.n_all (sa_cons (se_froz (sl_lcG q (sq_zipG q rfl T.n_zip (sq_var q (i := 0) rfl rfl rfl) (sq_var q (i := 1) rfl rfl rfl) rfl rfl) (blk_of q (own := ([("_law_one", 2), ("_law_other", 3)] : List (Str × Nat))) rfl) ⟨fun _ _ _ _ _ => (tg_tup (q.blk) (is := [2, 3]) rfl), fun _ _ _ _ _ => sts_nil, fun _ _ _ _ _ => (sx_call (q.blk) ih (by omega) rfl T.m_law_same T.kp_law_same (sa_cons (sq_var (q.blk) (i := 2) rfl rfl rfl) (sa_cons (sq_var (q.blk) (i := 3) rfl rfl rfl) sa_nil rfl) rfl) rfl)⟩ (by decide) rfl)) sa_nil rfl) rfl))))
  ss_nil)) ss_nil)
  (ss_cons (ss_if (PW.pt (sw_or (sx_cmpT (mq_ne q) (sx_isi T.tab q rfl T.n_isinstance (sq_var q (i := 1) rfl rfl rfl) (pcl_ty q rfl T.n_bool rfl (by decide)) rfl rfl) (sx_isi T.tab q rfl T.n_isinstance (sq_var q (i := 0) rfl rfl rfl) (pcl_ty q rfl T.n_bool rfl (by decide)) rfl rfl) (marks_ok rfl)) (sw_or1 (sx_cmpT (mq_ne q) (sx_isi T.tab q rfl T.n_isinstance (sq_var q (i := 1) rfl rfl rfl) (pcl_ty q rfl T.n_int rfl (by decide)) rfl rfl) (sx_isi T.tab q rfl T.n_isinstance (sq_var q (i := 0) rfl rfl rfl) (pcl_ty q rfl T.n_int rfl (by decide)) rfl rfl) (marks_ok rfl))))) (ss_cons (ss_ret se_bl)
  ss_nil) ss_nil)
  (ss_cons (ss_ret (se_and (sx_cmp (mq_eq q) (sx_isi T.tab q rfl T.n_isinstance (sq_var q (i := 1) rfl rfl rfl) (pcl_ty q rfl T.n_str rfl (by decide)) rfl rfl) (sx_isi T.tab q rfl T.n_isinstance (sq_var q (i := 0) rfl rfl rfl) (pcl_ty q rfl T.n_str rfl (by decide)) rfl rfl) (marks_ok rfl)) (se_one (sx_cmp (mq_eq q) (sq_var q (i := 0) rfl rfl rfl) (sq_var q (i := 1) rfl rfl rfl) (marks_ok rfl)))))
  ss_nil))))) (by omega)
theorem sc_law_field : FnScope (["_law_e"] : List Str) (["_law_e"] : List Str) (defScope (topS 20)) := ⟨rfl, rfl, rfl, by decide +kernel, rfl, by decide +kernel, by decide +kernel⟩
def cl_law_field : M Fl := (cSeq (cIfS (asB (cOp dEq ((cVar 0).bind (dXf exNs "code")) (M.ret (.str (PySem.Str.ofString "InvalidChain"))))) (cSeq (cRet ((cVar 0).bind (dXf exNs "segment")))
  cNext) cNext)
  (cSeq (cIfS (asB (cOp dEq ((cVar 0).bind (dXf exNs "code")) (M.ret (.str (PySem.Str.ofString "InvalidEntry"))))) (cSeq (cRet ((cVar 0).bind (dXf exNs "entry")))
  cNext) cNext)
  (cSeq (cIfS (asB (cOp dEq ((cVar 0).bind (dXf exNs "code")) (M.ret (.str (PySem.Str.ofString "InvalidItem"))))) (cSeq (cRet ((cVar 0).bind (dXf exNs "item")))
  cNext) cNext)
  (cSeq (cIfS (asB (cOp (dIn false) ((cVar 0).bind (dXf exNs "code")) (cTup (cCons (M.ret (.str (PySem.Str.ofString "NoLevel"))) (cCons (M.ret (.str (PySem.Str.ofString "NotRemovable"))) (M.ret [])))))) (cSeq (cRet ((cVar 0).bind (dXf exNs "level")))
  cNext) cNext)
  (cSeq (cIfS (asB (cOp (dIn false) ((cVar 0).bind (dXf exNs "code")) (cTup (cCons (M.ret (.str (PySem.Str.ofString "TooManyRounds"))) (cCons (M.ret (.str (PySem.Str.ofString "TooManySteps"))) (cCons (M.ret (.str (PySem.Str.ofString "RackFull"))) (M.ret []))))))) (cSeq (cRet ((cVar 0).bind (dXf exNs "limit")))
  cNext) cNext)
  (cSeq (cIfS (asB (cOp dEq ((cVar 0).bind (dXf exNs "code")) (M.ret (.str (PySem.Str.ofString "InvalidNumber"))))) (cSeq (cRet ((cVar 0).bind (dXf exNs "number")))
  cNext) cNext)
  (cSeq (cIfS (asB (cOp dEq ((cVar 0).bind (dXf exNs "code")) (M.ret (.str (PySem.Str.ofString "InvalidBound"))))) (cSeq (cRet ((cVar 0).bind (dXf exNs "bound")))
  cNext) cNext)
  (cSeq (cIfS (asB (cOp dEq ((cVar 0).bind (dXf exNs "code")) (M.ret (.str (PySem.Str.ofString "InvalidProgram"))))) (cSeq (cRet ((cVar 0).bind (dXf exNs "place")))
  cNext) cNext)
  (cSeq (cIfS (asB (cOp (dIn false) ((cVar 0).bind (dXf exNs "code")) (cTup (cCons (M.ret (.str (PySem.Str.ofString "UnknownPart"))) (cCons (M.ret (.str (PySem.Str.ofString "CircularPart"))) (cCons (M.ret (.str (PySem.Str.ofString "InvalidName"))) (cCons (M.ret (.str (PySem.Str.ofString "NameTaken"))) (cCons (M.ret (.str (PySem.Str.ofString "UnknownName"))) (M.ret []))))))))) (cSeq (cRet ((cVar 0).bind (dXf exNs "name")))
  cNext) cNext)
  (cSeq (cIfS (asB (cOp dEq ((cVar 0).bind (dXf exNs "code")) (M.ret (.str (PySem.Str.ofString "InvalidCommand"))))) (cSeq (cRet ((cVar 0).bind (dXf exNs "word")))
  cNext) cNext)
  (cSeq (cRet (cIf (asB (cOp dEq ((cVar 0).bind (dXf exNs "code")) (M.ret (.str (PySem.Str.ofString "InvalidDocument"))))) ((cVar 0).bind (dXf exNs "line")) (M.ret .non)))
  cNext)))))))))))
def fn_law_field : Fn := fnB 1 1 fun c => noX (cl_law_field c)
theorem ok_law_field {g : G} {A : Ad} (T : Tx g A) : FnCH g 1 A.a_law_field fn_law_field := by
  obtain ⟨fd, F, B⟩ := T.f_law_field
  exact fn_cH F sc_law_field B fun X q => (ss_cons (ss_if (sx_cmpT (hq_eq q) (sx_xf q.hK T.xck (hq_var q (i := 0) rfl rfl rfl) rfl) se_str (marks_ok rfl)) (ss_cons (ss_ret (sx_xf q.hK T.xck (hq_var q (i := 0) rfl rfl rfl) rfl))
  ss_nil) ss_nil)
  (ss_cons (ss_if (sx_cmpT (hq_eq q) (sx_xf q.hK T.xck (hq_var q (i := 0) rfl rfl rfl) rfl) se_str (marks_ok rfl)) (ss_cons (ss_ret (sx_xf q.hK T.xck (hq_var q (i := 0) rfl rfl rfl) rfl))
  ss_nil) ss_nil)
  (ss_cons (ss_if (sx_cmpT (hq_eq q) (sx_xf q.hK T.xck (hq_var q (i := 0) rfl rfl rfl) rfl) se_str (marks_ok rfl)) (ss_cons (ss_ret (sx_xf q.hK T.xck (hq_var q (i := 0) rfl rfl rfl) rfl))
  ss_nil) ss_nil)
  (ss_cons (ss_if (sx_cmpT (hq_in q) (sx_xf q.hK T.xck (hq_var q (i := 0) rfl rfl rfl) rfl) (se_tup (sa_cons se_str (sa_cons se_str sa_nil rfl) rfl)) (marks_ok rfl)) (ss_cons (ss_ret (sx_xf q.hK T.xck (hq_var q (i := 0) rfl rfl rfl) rfl))
  ss_nil) ss_nil)
  (ss_cons (ss_if (sx_cmpT (hq_in q) (sx_xf q.hK T.xck (hq_var q (i := 0) rfl rfl rfl) rfl) (se_tup (sa_cons se_str (sa_cons se_str (sa_cons se_str sa_nil rfl) rfl) rfl)) (marks_ok rfl)) (ss_cons (ss_ret (sx_xf q.hK T.xck (hq_var q (i := 0) rfl rfl rfl) rfl))
  ss_nil) ss_nil)
  (ss_cons (ss_if (sx_cmpT (hq_eq q) (sx_xf q.hK T.xck (hq_var q (i := 0) rfl rfl rfl) rfl) se_str (marks_ok rfl)) (ss_cons (ss_ret (sx_xf q.hK T.xck (hq_var q (i := 0) rfl rfl rfl) rfl))
  ss_nil) ss_nil)
  (ss_cons (ss_if (sx_cmpT (hq_eq q) (sx_xf q.hK T.xck (hq_var q (i := 0) rfl rfl rfl) rfl) se_str (marks_ok rfl)) (ss_cons (ss_ret (sx_xf q.hK T.xck (hq_var q (i := 0) rfl rfl rfl) rfl))
  ss_nil) ss_nil)
  (ss_cons (ss_if (sx_cmpT (hq_eq q) (sx_xf q.hK T.xck (hq_var q (i := 0) rfl rfl rfl) rfl) se_str (marks_ok rfl)) (ss_cons (ss_ret (sx_xf q.hK T.xck (hq_var q (i := 0) rfl rfl rfl) rfl))
  ss_nil) ss_nil)
  (ss_cons (ss_if (sx_cmpT (hq_in q) (sx_xf q.hK T.xck (hq_var q (i := 0) rfl rfl rfl) rfl) (se_tup (sa_cons se_str (sa_cons se_str (sa_cons se_str (sa_cons se_str (sa_cons se_str sa_nil rfl) rfl) rfl) rfl) rfl)) (marks_ok rfl)) (ss_cons (ss_ret (sx_xf q.hK T.xck (hq_var q (i := 0) rfl rfl rfl) rfl))
  ss_nil) ss_nil)
  (ss_cons (ss_if (sx_cmpT (hq_eq q) (sx_xf q.hK T.xck (hq_var q (i := 0) rfl rfl rfl) rfl) se_str (marks_ok rfl)) (ss_cons (ss_ret (sx_xf q.hK T.xck (hq_var q (i := 0) rfl rfl rfl) rfl))
  ss_nil) ss_nil)
  (ss_cons (ss_ret (se_if (sx_cmpT (hq_eq q) (sx_xf q.hK T.xck (hq_var q (i := 0) rfl rfl rfl) rfl) se_str (marks_ok rfl)) (sx_xf q.hK T.xck (hq_var q (i := 0) rfl rfl rfl) rfl) se_non))
  ss_nil)))))))))))
def trySuite (st : Stmt) : List Stmt := match defBody st with
  | [.Try _ [.ExceptHandler _ _ s _] _ _ _] => s
  | _ => []
theorem sc_law_try : FnScope (["_law_call", "_law_e"] : List Str) (["_law_call"] : List Str) (defScope (topS 21)) := ⟨rfl, rfl, rfl, by decide +kernel, rfl, by decide +kernel, by decide +kernel⟩
def cl_try_suite : M Fl := (cSeq (cRet (cTup (cCons ((cVar 1).bind (dXf exNs "code")) (cCons (cCall fn_law_field (cCons (cVar 1) (M.ret []))) (M.ret [])))))
  cNext)
theorem su_try {g : G} {A : Ad} (T : Tx g A) {k : Nat} (hk : 1 ≤ k) {Z : Cx} (q : GoodH g k (["_law_call", "_law_e"] : List Str) Z (defScope (topS 21))) : PSs Z (trySuite (topS 21)) (tS g WF cl_try_suite) := (ss_cons (ss_ret (se_tup (sa_cons (sx_xf q.hK T.xck (hq_var q (i := 1) rfl rfl rfl) rfl) (sa_cons (hx_call q (ok_law_field T) (by omega) rfl T.m_law_field T.kp_law_field (sa_cons (hq_var q (i := 1) rfl rfl rfl) sa_nil rfl) rfl) sa_nil rfl) rfl)))
  ss_nil)
theorem sc_law_row : FnScope (["_law_tape_here", "_law_levels", "_law_top", "_law_way", "_law_row_here", "_law_k"] : List Str) (["_law_tape_here", "_law_levels", "_law_top"] : List Str) (defScope (topS 22)) := ⟨rfl, rfl, rfl, by decide +kernel, rfl, by decide +kernel, by decide +kernel⟩
def cl_law_row : M Fl := (cSeq (cSet 3 (cCall fn_law_pick (cCons (cVar 0) (cCons (M.ret (.int 4)) (M.ret [])))))
  (cSeq (cSetL 4 (cLc (cRange1 (cCall fn_law_pick (cCons (cVar 0) (cCons (cOp dAdd (cVar 1) (M.ret (.int 1))) (M.ret []))))) (.nm 5) (M.ret true) (cOp dAdd (M.ret (.int 1)) (cCall fn_law_pick (cCons (cVar 0) (cCons (cVar 2) (M.ret []))))) [5]))
  (cSeq (cIfS (asB (cOp dEq (cVar 3) (M.ret (.int 0)))) (cSeq (cSetL 4 ((cCons (cVar 4) (M.ret [])).bind bSorted))
  cNext) cNext)
  (cSeq (cIfS (cAndT (asB (cOp dEq (cVar 3) (M.ret (.int 1)))) (asB (cEqP true 4 (froz (cLst (M.ret [])))))) (cSeq (cSetIx 4 (M.ret (.int 0)) (M.ret (.int 1)))
  cNext) cNext)
  (cSeq (cRet ((cCons (cVar 4) (M.ret [])).bind bTuple))
  cNext)))))
def fn_law_row : Fn := fnB 6 3 cl_law_row
theorem ok_law_row {g : G} {A : Ad} (T : Tx g A) : FnC g 2 A.a_law_row fn_law_row := by
  obtain ⟨fd, F, B⟩ := T.f_law_row
  exact fn_c F sc_law_row B fun X W q => (ss_cons (ss_set q (i := 3) rfl rfl (sx_call q (ok_law_pick T) (by omega) rfl T.m_law_pick T.kp_law_pick (sa_cons (sq_var q (i := 0) rfl rfl rfl) (sa_cons se_int sa_nil rfl) rfl) rfl) (swaps_no rfl))
  (ss_cons (ss_setLc q (i := 4) rfl rfl (swaps_lc q rfl) (sq_range1 q rfl T.n_range (sx_call q (ok_law_pick T) (by omega) rfl T.m_law_pick T.kp_law_pick (sa_cons (sq_var q (i := 0) rfl rfl rfl) (sa_cons (sx_bin (mq_add q) (sq_var q (i := 1) rfl rfl rfl) se_int) sa_nil rfl) rfl) rfl) rfl) (blk_of q (own := ([("_law_k", 5)] : List (Str × Nat))) rfl) ⟨fun _ _ _ _ _ => (tg_name (q.blk) (i := 5) rfl rfl), fun _ _ _ _ _ => sts_nil, fun _ _ _ _ _ => (sx_bin (mq_add (q.blk)) se_int (sx_call (q.blk) (ok_law_pick T) (by omega) rfl T.m_law_pick T.kp_law_pick (sa_cons (sq_var (q.blk) (i := 0) rfl rfl rfl) (sa_cons (sq_var (q.blk) (i := 2) rfl rfl rfl) sa_nil rfl) rfl) rfl))⟩ (by decide) rfl)
  (ss_cons (ss_if (sx_cmpT (mq_eq q) (sq_var q (i := 3) rfl rfl rfl) se_int (marks_ok rfl)) (ss_cons (ss_setL q (i := 4) rfl rfl (sq_sorted q rfl T.n_sorted (sa_cons (sq_var q (i := 4) rfl rfl rfl) sa_nil rfl) rfl) (swaps_no rfl))
  ss_nil) ss_nil)
  (ss_cons (ss_if (PW.pt (sw_and (sx_cmpT (mq_eq q) (sq_var q (i := 3) rfl rfl rfl) se_int (marks_ok rfl)) (sw_and1 (sx_nePT q (i := 4) rfl rfl rfl (se_froz (sl_lst sa_nil)) rfl)))) (ss_cons (ss_setIx q (i := 4) rfl rfl rfl se_int se_int rfl)
  ss_nil) ss_nil)
  (ss_cons (ss_ret (sq_tuple q rfl T.n_tuple (sa_cons (sq_var q (i := 4) rfl rfl rfl) sa_nil rfl) rfl))
  ss_nil)))))
theorem sc_law_rows : FnScope (["_law_tape_here", "_law_segments", "_law_levels", "_law_top", "_law_k"] : List Str) (["_law_tape_here", "_law_segments", "_law_levels", "_law_top"] : List Str) (defScope (topS 23)) := ⟨rfl, rfl, rfl, by decide +kernel, rfl, by decide +kernel, by decide +kernel⟩
def cl_law_rows : M Fl := (cSeq (cRet (froz (cLc (cRange1 (cOp dAdd (M.ret (.int 1)) (cCall fn_law_pick (cCons (cVar 0) (cCons (cVar 1) (M.ret [])))))) (.nm 4) (M.ret true) (cCall fn_law_row (cCons (cVar 0) (cCons (cVar 2) (cCons (cVar 3) (M.ret []))))) [4])))
  cNext)
def fn_law_rows : Fn := fnB 5 4 cl_law_rows
theorem ok_law_rows {g : G} {A : Ad} (T : Tx g A) : FnC g 3 A.a_law_rows fn_law_rows := by
  obtain ⟨fd, F, B⟩ := T.f_law_rows
  exact fn_c F sc_law_rows B fun X W q => (ss_cons (ss_ret (se_froz (sl_lc q (sq_range1 q rfl T.n_range (sx_bin (mq_add q) se_int (sx_call q (ok_law_pick T) (by omega) rfl T.m_law_pick T.kp_law_pick (sa_cons (sq_var q (i := 0) rfl rfl rfl) (sa_cons (sq_var q (i := 1) rfl rfl rfl) sa_nil rfl) rfl) rfl)) rfl) (blk_of q (own := ([("_law_k", 4)] : List (Str × Nat))) rfl) ⟨fun _ _ _ _ _ => (tg_name (q.blk) (i := 4) rfl rfl), fun _ _ _ _ _ => sts_nil, fun _ _ _ _ _ => (sx_call (q.blk) (ok_law_row T) (by omega) rfl T.m_law_row T.kp_law_row (sa_cons (sq_var (q.blk) (i := 0) rfl rfl rfl) (sa_cons (sq_var (q.blk) (i := 2) rfl rfl rfl) (sa_cons (sq_var (q.blk) (i := 3) rfl rfl rfl) sa_nil rfl) rfl) rfl) rfl)⟩ (by decide) rfl)))
  ss_nil)
theorem sc_law_text : FnScope (["_law_rows_here", "_law_one", "_law_row_here"] : List Str) (["_law_rows_here"] : List Str) (defScope (topS 24)) := ⟨rfl, rfl, rfl, by decide +kernel, rfl, by decide +kernel, by decide +kernel⟩
def cl_law_text : M Fl := (cSeq (cRet (cJoin (M.ret (.str (PySem.Str.ofString " | "))) (froz (cLc (cWalk (cVar 0)) (.nm 2) (M.ret true) (cIf (asB (cOp dGt ((cCons (cVar 2) (M.ret [])).bind bLen) (M.ret (.int 0)))) (cJoin (M.ret (.str (PySem.Str.ofString " "))) (froz (cLc (cWalk (cVar 2)) (.nm 1) (M.ret true) ((cCons (cVar 1) (M.ret [])).bind bStr) [1]))) (M.ret (.str (PySem.Str.ofString "-")))) [2]))))
  cNext)
def fn_law_text : Fn := fnB 3 1 cl_law_text
theorem ok_law_text {g : G} {A : Ad} (T : Tx g A) : FnC g 1 A.a_law_text fn_law_text := by
  obtain ⟨fd, F, B⟩ := T.f_law_text
  exact fn_c F sc_law_text B fun X W q => (ss_cons (ss_ret (sx_join q se_str (se_froz (sl_lc q (sq_seq q (sq_var q (i := 0) rfl rfl rfl)) (blk_of q (own := ([("_law_row_here", 2)] : List (Str × Nat))) rfl) ⟨fun _ _ _ _ _ => (tg_name (q.blk) (i := 2) rfl rfl), fun _ _ _ _ _ => sts_nil, fun _ _ _ _ _ => (se_if (sx_cmpT (mop_of op_gt s2_gt) (sq_len (q.blk) rfl T.n_len (sa_cons (sq_var (q.blk) (i := 2) rfl rfl rfl) sa_nil rfl) rfl) se_int (marks_ok rfl)) (sx_join (q.blk) se_str (se_froz (sl_lc (q.blk) (sq_seq (q.blk) (sq_var (q.blk) (i := 2) rfl rfl rfl)) (blk_of (q.blk) (own := ([("_law_one", 1)] : List (Str × Nat))) rfl) ⟨fun _ _ _ _ _ => (tg_name ((q.blk).blk) (i := 1) rfl rfl), fun _ _ _ _ _ => sts_nil, fun _ _ _ _ _ => (sq_str ((q.blk).blk) rfl T.n_str (sa_cons (sq_var ((q.blk).blk) (i := 1) rfl rfl rfl) sa_nil rfl) rfl)⟩ (by decide) rfl)) rfl rfl rfl) se_str)⟩ (by decide) rfl)) rfl rfl rfl))
  ss_nil)
theorem sc_law_of : FnScope (["_law_tape_here", "_law_some"] : List Str) (["_law_tape_here", "_law_some"] : List Str) (defScope (topS 18)) := ⟨rfl, rfl, rfl, by decide +kernel, rfl, by decide +kernel, by decide +kernel⟩
def cl_law_of : M Fl := (cSeq (cRet (cOp dIx (cVar 1) (cCall fn_law_pick (cCons (cVar 0) (cCons ((cCons (cVar 1) (M.ret [])).bind bLen) (M.ret []))))))
  cNext)
def fn_law_of : Fn := fnB 2 2 cl_law_of
theorem ok_law_of {g : G} {A : Ad} (T : Tx g A) : FnC g 2 A.a_law_of fn_law_of := by
  obtain ⟨fd, F, B⟩ := T.f_law_of
  exact fn_c F sc_law_of B fun X W q => (ss_cons (ss_ret (sx_sub (r := fun _ _ _ _ => True) (mq_ix q) (sq_var q (i := 1) rfl rfl rfl) (sx_call q (ok_law_pick T) (by omega) rfl T.m_law_pick T.kp_law_pick (sa_cons (sq_var q (i := 0) rfl rfl rfl) (sa_cons (sq_len q rfl T.n_len (sa_cons (sq_var q (i := 1) rfl rfl rfl) sa_nil rfl) rfl) sa_nil rfl) rfl) rfl) rfl))
  ss_nil)
theorem sc_law_bent : FnScope (["_law_tape_here", "_law_text_here", "_law_signs", "_law_at", "_law_sign"] : List Str) (["_law_tape_here", "_law_text_here", "_law_signs"] : List Str) (defScope (topS 25)) := ⟨rfl, rfl, rfl, by decide +kernel, rfl, by decide +kernel, by decide +kernel⟩
def cl_law_bent : M Fl := (cSeq (cPar 3 4 (cCons (cCall fn_law_pick (cCons (cVar 0) (cCons (cOp dAdd ((cCons (cVar 1) (M.ret [])).bind bLen) (M.ret (.int 1))) (M.ret [])))) (cCons (cCall fn_law_of (cCons (cVar 0) (cCons (cVar 2) (M.ret [])))) (M.ret []))))
  (cSeq (cRet (cOp dAdd (cOp dAdd (cCutT (cVar 1) cNoPart (cPart (cVar 3))) (cVar 4)) (cCutT (cVar 1) (cPart (cOp dAdd (cVar 3) (cCall fn_law_pick (cCons (cVar 0) (cCons (M.ret (.int 2)) (M.ret [])))))) cNoPart)))
  cNext))
def fn_law_bent : Fn := fnB 5 3 cl_law_bent
theorem ok_law_bent {g : G} {A : Ad} (T : Tx g A) : FnC g 3 A.a_law_bent fn_law_bent := by
  obtain ⟨fd, F, B⟩ := T.f_law_bent
  exact fn_c F sc_law_bent B fun X W q => (ss_cons (ss_par q (i := 3) (j := 4) rfl rfl (by decide) rfl rfl (sa_cons (sx_call q (ok_law_pick T) (by omega) rfl T.m_law_pick T.kp_law_pick (sa_cons (sq_var q (i := 0) rfl rfl rfl) (sa_cons (sx_bin (mq_add q) (sq_len q rfl T.n_len (sa_cons (sq_var q (i := 1) rfl rfl rfl) sa_nil rfl) rfl) se_int) sa_nil rfl) rfl) rfl) (sa_cons (sx_call q (ok_law_of T) (by omega) rfl T.m_law_of T.kp_law_of (sa_cons (sq_var q (i := 0) rfl rfl rfl) (sa_cons (sq_var q (i := 2) rfl rfl rfl) sa_nil rfl) rfl) rfl) sa_nil rfl) rfl) (sw_of q rfl))
  (ss_cons (ss_ret (sx_bin (mq_add q) (sx_bin (mq_add q) (sq_cutT q (sq_var q (i := 1) rfl rfl rfl) so_none (so_some (sq_var q (i := 3) rfl rfl rfl))) (sq_var q (i := 4) rfl rfl rfl)) (sq_cutT q (sq_var q (i := 1) rfl rfl rfl) (so_some (sx_bin (mq_add q) (sq_var q (i := 3) rfl rfl rfl) (sx_call q (ok_law_pick T) (by omega) rfl T.m_law_pick T.kp_law_pick (sa_cons (sq_var q (i := 0) rfl rfl rfl) (sa_cons se_int sa_nil rfl) rfl) rfl))) so_none)))
  ss_nil))
theorem sc_law_read_row : FnScope (["_law_part", "_law_row_here", "_law_word", "_law_k"] : List Str) (["_law_part"] : List Str) (defScope (topS 26)) := ⟨rfl, rfl, rfl, by decide +kernel, rfl, by decide +kernel, by decide +kernel⟩
abbrev cl_law_read_row_e1 : M D := ((cCons (cVar 3) (M.ret [])).bind bStr)
abbrev cl_law_read_row_b1 : M Fl := (cSeq (cIfS (asB (cOp (dIn true) (cVar 2) (froz (cLc (cRange2 (M.ret (.int 1)) (M.ret (.int 13))) (.nm 3) (M.ret true) cl_law_read_row_e1 [3])))) (cSeq (cRet (M.ret .non))
  cNext) cNext)
  (cSeq (cApp 1 ((cCons (cVar 2) (M.ret [])).bind bIntS))
  cNext))
def cl_law_read_row : M Fl := (cSeq (cIfS (asB (cOp dEq (cVar 0) (M.ret (.str (PySem.Str.ofString "-"))))) (cSeq (cRet (cTup (M.ret [])))
  cNext) cNext)
  (cSeq (cSetL 1 (cLst (M.ret [])))
  (cSeq (cFor (cWalk (froz (cSplit (cVar 0) (M.ret (.str (PySem.Str.ofString " ")))))) (.nm 2) cl_law_read_row_b1)
  (cSeq (cRet (cIf (asB (cOp dLt (cLenP 1) (M.ret (.int 13)))) ((cCons (cVar 1) (M.ret [])).bind bTuple) (M.ret .non)))
  cNext))))
def fn_law_read_row : Fn := fnB 4 1 cl_law_read_row
theorem ok_law_read_row {g : G} {A : Ad} (T : Tx g A) : FnC g 1 A.a_law_read_row fn_law_read_row := by
  obtain ⟨fd, F, B⟩ := T.f_law_read_row
  exact fn_c F sc_law_read_row B fun X W q => (ss_cons (ss_if (sx_cmpT (mq_eq q) (sq_var q (i := 0) rfl rfl rfl) se_str (marks_ok rfl)) (ss_cons (ss_ret (se_tup sa_nil))
  ss_nil) ss_nil)
  (ss_cons (ss_setL q (i := 1) rfl rfl (sl_lst sa_nil) (swaps_no rfl))
  (ss_cons (ss_for q (sq_seq q (se_froz (sl_split q (sq_var q (i := 0) rfl rfl rfl) se_str rfl rfl rfl))) (tg_name q (i := 2) rfl rfl) (ss_cons (ss_if (sx_cmpT (mq_notin q) (sq_var q (i := 2) rfl rfl rfl) (se_froz (sl_lc q (sq_range2 q rfl T.n_range se_int se_int rfl rfl) (blk_of q (own := ([("_law_k", 3)] : List (Str × Nat))) rfl) ⟨fun _ _ _ _ _ => (tg_name (q.blk) (i := 3) rfl rfl), fun _ _ _ _ _ => sts_nil, fun _ _ _ _ _ => (sq_str (q.blk) rfl T.n_str (sa_cons (sq_var (q.blk) (i := 3) rfl rfl rfl) sa_nil rfl) rfl)⟩ (by decide) rfl)) (marks_ok rfl)) (ss_cons (ss_ret se_non)
  ss_nil) ss_nil)
  (ss_cons (ss_append q (i := 1) rfl rfl rfl (sq_intS q rfl T.n_int (sa_cons (sq_var q (i := 2) rfl rfl rfl) sa_nil rfl) rfl) rfl rfl)
  ss_nil)) rfl)
  (ss_cons (ss_ret (se_if (sx_cmpT (mop_of op_lt s2_lt) (sx_lenP q (i := 1) rfl T.n_len rfl rfl rfl) se_int (marks_ok rfl)) (sq_tuple q rfl T.n_tuple (sa_cons (sq_var q (i := 1) rfl rfl rfl) sa_nil rfl) rfl) se_non))
  ss_nil))))
theorem sc_law_read : FnScope (["_law_text_here", "_law_rows_here", "_law_part"] : List Str) (["_law_text_here"] : List Str) (defScope (topS 27)) := ⟨rfl, rfl, rfl, by decide +kernel, rfl, by decide +kernel, by decide +kernel⟩
abbrev cl_law_read_e1 : M D := (cCall fn_law_read_row (cCons (cVar 2) (M.ret [])))
def cl_law_read : M Fl := (cSeq (cSet 1 (froz (cLc (cWalk (froz (cSplit (cVar 0) (M.ret (.str (PySem.Str.ofString " | ")))))) (.nm 2) (M.ret true) cl_law_read_e1 [2])))
  (cSeq (cRet (cIf (cOrT (asB (cOp (dIn false) (M.ret .non) (cVar 1))) (asB (cOp dGt ((cCons (cVar 1) (M.ret [])).bind bLen) (M.ret (.int 4))))) (M.ret .non) (cVar 1)))
  cNext))
def fn_law_read : Fn := fnB 3 1 cl_law_read
theorem ok_law_read {g : G} {A : Ad} (T : Tx g A) : FnC g 2 A.a_law_read fn_law_read := by
  obtain ⟨fd, F, B⟩ := T.f_law_read
  exact fn_c F sc_law_read B fun X W q => (ss_cons (ss_setLcV q (i := 1) rfl rfl (swaps_lc q rfl) (sq_seq q (se_froz (sl_split q (sq_var q (i := 0) rfl rfl rfl) se_str rfl rfl rfl))) (blk_of q (own := ([("_law_part", 2)] : List (Str × Nat))) rfl) ⟨fun _ _ _ _ _ => (tg_name (q.blk) (i := 2) rfl rfl), fun _ _ _ _ _ => sts_nil, fun _ _ _ _ _ => (sx_call (q.blk) (ok_law_read_row T) (by omega) rfl T.m_law_read_row T.kp_law_read_row (sa_cons (sq_var (q.blk) (i := 2) rfl rfl rfl) sa_nil rfl) rfl)⟩ (by decide) rfl)
  (ss_cons (ss_ret (se_if (PW.pt (sw_or (sx_cmpT (mq_in q) se_non (sq_var q (i := 1) rfl rfl rfl) (marks_ok rfl)) (sw_or1 (sx_cmpT (mop_of op_gt s2_gt) (sq_len q rfl T.n_len (sa_cons (sq_var q (i := 1) rfl rfl rfl) sa_nil rfl) rfl) se_int (marks_ok rfl))))) se_non (sq_var q (i := 1) rfl rfl rfl)))
  ss_nil))
theorem sc_law : FnScope (["_law_script", "_law_tape_here", "_law_signs", "_law_texts", "_law_turn", "_law_text_here", "_law_change", "_law_rows_here", "_law_found"] : List Str) (["_law_script"] : List Str) (defScope (topS 28)) := ⟨rfl, rfl, rfl, by decide +kernel, rfl, by decide +kernel, by decide +kernel⟩
abbrev cl_law_b1 : M Fl := (cSeq (cSet 5 (cCall fn_law_bent (cCons (cVar 1) (cCons (cVar 5) (cCons (cVar 2) (M.ret []))))))
  cNext)
abbrev cl_law_b2 : M Fl := (cSeq (cSet 5 (cCall fn_law_text (cCons (cCall fn_law_rows (cCons (cVar 1) (cCons (M.ret (.int 4)) (cCons (M.ret (.int 5)) (cCons (M.ret (.int 12)) (M.ret [])))))) (M.ret []))))
  (cSeq (cFor (cRange1 (cOp dAdd (M.ret (.int 1)) (cCall fn_law_pick (cCons (cVar 1) (cCons (M.ret (.int 2)) (M.ret [])))))) (.nm 6) cl_law_b1)
  (cSeq (cApp 3 (cVar 5))
  cNext)))
abbrev cl_law_b3 : M Fl := (cSeq (cPar 7 8 (cCons (cCall fn_law_read (cCons (cVar 5) (M.ret []))) (cCons (cTry cl_try_suite (cCall fn_Chain_read (cCons (cVar 5) (M.ret [])))) (M.ret []))))
  (cSeq (cIfS (cAndT (asB (cOp dIs (cVar 7) (M.ret .non))) (asB (cOp dNe (cVar 8) (cTup (cCons (M.ret (.str (PySem.Str.ofString "InvalidText"))) (cCons (M.ret .non) (M.ret []))))))) (cSeq (cRet (M.ret (.bl false)))
  cNext) cNext)
  (cSeq (cIfS (cAndT (asB (cOp dIsNot (cVar 7) (M.ret .non))) (cOrT (asB (cOp dNe (cOp dIx (cVar 8) (M.ret (.int 0))) (M.ret (.str (PySem.Str.ofString ""))))) (cNotT (cTru (cCall (fn_law_same 5) (cCons (cProp 0 "segments" fn_Chain_segments (cOp dIx (cVar 8) (M.ret (.int 1)))) (cCons ((cCons (cVar 7) (M.ret [])).bind bTuple) (M.ret [])))))))) (cSeq (cRet (M.ret (.bl false)))
  cNext) cNext)
  cNext)))
def cl_law : M Fl := (cSeq (cSet 1 (cCall fn_law_tape (cCons (cVar 0) (M.ret []))))
  (cSeq (cSet 2 (froz (cLst (cCons (M.ret (.str (PySem.Str.ofString ""))) (cCons (M.ret (.str (PySem.Str.ofString " "))) (cCons (M.ret (.str (PySem.Str.ofString "|"))) (cCons (M.ret (.str (PySem.Str.ofString "-"))) (cCons (M.ret (.str (PySem.Str.ofString "0"))) (cCons (M.ret (.str (PySem.Str.ofString "1"))) (cCons (M.ret (.str (PySem.Str.ofString "2"))) (cCons (M.ret (.str (PySem.Str.ofString "3"))) (cCons (M.ret (.str (PySem.Str.ofString " | "))) (cCons (M.ret (.str (PySem.Str.ofString "\n"))) (cCons (M.ret (.str (PySem.Str.ofString "a"))) (cCons (M.ret (.str (PySem.Str.ofString "12"))) (cCons (M.ret (.str (PySem.Str.ofString "+"))) (M.ret [])))))))))))))))))
  (cSeq (cSetL 3 (cLst (cCons (M.ret (.str (PySem.Str.ofString ""))) (cCons (M.ret (.str (PySem.Str.ofString " "))) (cCons (M.ret (.str (PySem.Str.ofString "|"))) (cCons (M.ret (.str (PySem.Str.ofString " | "))) (cCons (M.ret (.str (PySem.Str.ofString "- "))) (cCons (M.ret (.str (PySem.Str.ofString "0"))) (cCons (M.ret (.str (PySem.Str.ofString "13"))) (cCons (M.ret (.str (PySem.Str.ofString "01"))) (cCons (M.ret (.str (PySem.Str.ofString "1  2"))) (cCons (M.ret (.str (PySem.Str.ofString "1 | "))) (cCons (M.ret (.str (PySem.Str.ofString "1|2"))) (cCons (M.ret (.str (PySem.Str.ofString "- -"))) (cCons (M.ret (.str (PySem.Str.ofString "- 1"))) (cCons (M.ret (.str (PySem.Str.ofString "1 -"))) (cCons (M.ret (.str (PySem.Str.ofString "+1"))) (cCons (M.ret (.str (PySem.Str.ofString "-1"))) (cCons (M.ret (.str (PySem.Str.ofString "1\n"))) (M.ret []))))))))))))))))))))
  (cSeq (cSetL 3 (cOpL dCat (cVar 3) (froz (cLst (cCons (cJoin (M.ret (.str (PySem.Str.ofString " "))) (froz (cOpL dRep (froz (cLst (cCons (M.ret (.str (PySem.Str.ofString "1"))) (M.ret [])))) (M.ret (.int 13))))) (cCons (cJoin (M.ret (.str (PySem.Str.ofString " | "))) (froz (cOpL dRep (froz (cLst (cCons (M.ret (.str (PySem.Str.ofString "-"))) (M.ret [])))) (M.ret (.int 5))))) (cCons (cJoin (M.ret (.str (PySem.Str.ofString " | "))) (froz (cOpL dRep (froz (cLst (cCons (M.ret (.str (PySem.Str.ofString "-"))) (M.ret [])))) (M.ret (.int 4))))) (cCons (cOp dAdd (cOp dMulS (M.ret (.str (PySem.Str.ofString "12 "))) (M.ret (.int 11))) (M.ret (.str (PySem.Str.ofString "12")))) (M.ret [])))))))))
  (cSeq (cSetL 3 (cOpL dCat (cVar 3) (froz (cLst (cCons (M.ret (.str (PySem.Str.ofString "100"))) (cCons (M.ret (.str (PySem.Str.ofString "1_0"))) (M.ret [])))))))
  (cSeq (cFor (cRange1 (M.ret (.int 8))) (.nm 4) cl_law_b2)
  (cSeq (cFor (cWalk (cVar 3)) (.nm 5) cl_law_b3)
  (cSeq (cRet (M.ret (.bl true)))
  cNext))))))))
def fn_law : Fn := fnB 9 1 cl_law
theorem ok_law {g : G} {A : Ad} (T : Tx g A) {fd : FuncData} (F : L2.Fun g.K "law" "law" (topS 28) A.a_law fd) (hc : fd.code = .ref A.cc_law) : FnOk g.prog g.w g.K g.mg g.base (L2.CX g.prog g.w) 8 A.a_law fd (["_law_script"] : List Str) (spOf g fn_law) :=
  fn_cOkL F sc_law hc (by decide +kernel) T.tb_law T.hm_law T.hT_law fun X W q ql => (ss_cons (ss_set q (i := 1) rfl rfl (sx_call q (ok_law_tape T) (by omega) rfl T.m_law_tape T.kp_law_tape (sa_cons (sq_var q (i := 0) rfl rfl rfl) sa_nil rfl) rfl) (swaps_no rfl))
  (ss_cons (ss_set q (i := 2) rfl rfl (se_froz (sl_lst (sa_cons se_str (sa_cons se_str (sa_cons se_str (sa_cons se_str (sa_cons se_str (sa_cons se_str (sa_cons se_str (sa_cons se_str (sa_cons se_str (sa_cons se_str (sa_cons se_str (sa_cons se_str (sa_cons se_str sa_nil rfl) rfl) rfl) rfl) rfl) rfl) rfl) rfl) rfl) rfl) rfl) rfl) rfl))) (swaps_no rfl))
  (ss_cons (ss_setL q (i := 3) rfl rfl (sl_lst (sa_cons se_str (sa_cons se_str (sa_cons se_str (sa_cons se_str (sa_cons se_str (sa_cons se_str (sa_cons se_str (sa_cons se_str (sa_cons se_str (sa_cons se_str (sa_cons se_str (sa_cons se_str (sa_cons se_str (sa_cons se_str (sa_cons se_str (sa_cons se_str (sa_cons se_str sa_nil rfl) rfl) rfl) rfl) rfl) rfl) rfl) rfl) rfl) rfl) rfl) rfl) rfl) rfl) rfl) rfl) rfl)) (swaps_no rfl))
  (ss_cons (ss_setL q (i := 3) rfl rfl (sl_op op_cat s2_cat (sq_var q (i := 3) rfl rfl rfl) (se_froz (sl_lst (sa_cons (sx_join q se_str (se_froz (sl_op op_rep s2_rep (se_froz (sl_lst (sa_cons se_str sa_nil rfl))) se_int)) rfl rfl rfl) (sa_cons (sx_join q se_str (se_froz (sl_op op_rep s2_rep (se_froz (sl_lst (sa_cons se_str sa_nil rfl))) se_int)) rfl rfl rfl) (sa_cons (sx_join q se_str (se_froz (sl_op op_rep s2_rep (se_froz (sl_lst (sa_cons se_str sa_nil rfl))) se_int)) rfl rfl rfl) (sa_cons (sx_bin (mq_add q) (sx_bin (mq_mulS q) se_str se_int) se_str) sa_nil rfl) rfl) rfl) rfl)))) (swaps_no rfl))
  (ss_cons (ss_setL q (i := 3) rfl rfl (sl_op op_cat s2_cat (sq_var q (i := 3) rfl rfl rfl) (se_froz (sl_lst (sa_cons se_str (sa_cons se_str sa_nil rfl) rfl)))) (swaps_no rfl))
  (ss_cons (ss_for q (sq_range1 q rfl T.n_range se_int rfl) (tg_name q (i := 4) rfl rfl) (ss_cons (ss_set q (i := 5) rfl rfl (sx_call q (ok_law_text T) (by omega) rfl T.m_law_text T.kp_law_text (sa_cons (sx_call q (ok_law_rows T) (by omega) rfl T.m_law_rows T.kp_law_rows (sa_cons (sq_var q (i := 1) rfl rfl rfl) (sa_cons se_int (sa_cons se_int (sa_cons se_int sa_nil rfl) rfl) rfl) rfl) rfl) sa_nil rfl) rfl) (swaps_no rfl))
  (ss_cons (ss_for q (sq_range1 q rfl T.n_range (sx_bin (mq_add q) se_int (sx_call q (ok_law_pick T) (by omega) rfl T.m_law_pick T.kp_law_pick (sa_cons (sq_var q (i := 1) rfl rfl rfl) (sa_cons se_int sa_nil rfl) rfl) rfl)) rfl) (tg_name q (i := 6) rfl rfl) (ss_cons (ss_set q (i := 5) rfl rfl (sx_call q (ok_law_bent T) (by omega) rfl T.m_law_bent T.kp_law_bent (sa_cons (sq_var q (i := 1) rfl rfl rfl) (sa_cons (sq_var q (i := 5) rfl rfl rfl) (sa_cons (sq_var q (i := 2) rfl rfl rfl) sa_nil rfl) rfl) rfl) rfl) (swaps_no rfl))
  ss_nil) rfl)
  (ss_cons (ss_append q (i := 3) rfl rfl rfl (sq_var q (i := 5) rfl rfl rfl) rfl rfl)
  ss_nil))) rfl)
  (ss_cons (ss_for q (sq_seq q (sq_var q (i := 3) rfl rfl rfl)) (tg_name q (i := 5) rfl rfl) (ss_cons (ss_par q (i := 7) (j := 8) rfl rfl (by decide) rfl rfl (sa_cons (sx_call q (ok_law_read T) (by omega) rfl T.m_law_read T.kp_law_read (sa_cons (sq_var q (i := 5) rfl rfl rfl) sa_nil rfl) rfl) (sa_cons (sx_try (j := 5) q ql T.f_law_try sc_law_try (by omega) rfl T.m_law_try T.kp_law_try rfl rfl rfl rfl rfl T.mb_ChainError T.mb_NotFound T.xm (fun Z q => su_try T (by omega) q) .none (lamS_of (by decide +kernel)) fun Z W q => (sx_cmeth q rfl T.mC_Chain T.cr_Chain T.cm_Chain_read (ok_Chain_read T) (by omega) (sa_cons (sq_var q (i := 5) rfl rfl rfl) sa_nil rfl) rfl rfl rfl)) sa_nil rfl) rfl) (sw_of q rfl))
  (ss_cons (ss_if (PW.pt (sw_and (sx_cmpT (mop_of op_isN s2_is) (sq_var q (i := 7) rfl rfl rfl) se_non (marks_ok rfl)) (sw_and1 (sx_cmpT (mq_ne q) (sq_var q (i := 8) rfl rfl rfl) (se_tup (sa_cons se_str (sa_cons se_non sa_nil rfl) rfl)) (marks_ok rfl))))) (ss_cons (ss_ret se_bl)
  ss_nil) ss_nil)
  (ss_cons (ss_if (PW.pt (sw_and (sx_cmpT (mop_of op_notN s2_isnot) (sq_var q (i := 7) rfl rfl rfl) se_non (marks_ok rfl)) (sw_and1 (PW.pt (sw_or (sx_cmpT (mq_ne q) (sx_sub (r := fun _ _ _ _ => True) (mq_ix q) (sq_var q (i := 8) rfl rfl rfl) se_int rfl) se_str (marks_ok rfl)) (sw_or1 (st_not (sq_tru q (sx_call q (ok_law_same T 5) (by omega) rfl T.m_law_same T.kp_law_same (sa_cons (sx_prop q T.c_Chain rfl T.kl_Chain T.pr_Chain_segments (ok_Chain_segments T) (by omega) (sx_sub (r := fun _ _ _ _ => True) (mq_ix q) (sq_var q (i := 8) rfl rfl rfl) se_int rfl) rfl) (sa_cons (sq_tuple q rfl T.n_tuple (sa_cons (sq_var q (i := 7) rfl rfl rfl) sa_nil rfl) rfl) sa_nil rfl) rfl) rfl) rfl)))))))) (ss_cons (ss_ret se_bl)
  ss_nil) ss_nil)
  ss_nil))) rfl)
  (ss_cons (ss_ret se_bl)
  ss_nil))))))))
end
end K03
namespace K03
open CL PySem

theorem s_isb (v lo hi : Int) (S : List O) : fn_is_between [.int v, .int lo, .int hi] S = .ok (.bl (decide (lo ≤ v) && decide (v ≤ hi))) S := by
  simp [CL.M.bind, CL.M.ret, CL.R.bind, cSeq, cRet, cVar, cOp, cAnd, cOr, cNot, cIf, cAndT, cOrT, cNotT, asB, cB, cNext, cIfS, cSet, CL.CS.put, cChain, dLe, dLt, dGt, dGe, dI2, startC, outF, fnB, cIsi, CL.CS.knOf, tyB, isKn, isTy, CL.M.guard, cTru, dTru, liftF, cCall, cCons, fn_is_between, cl_is_between]
  by_cases h : lo ≤ v
  · simp [CL.M.bind, CL.M.ret, CL.R.bind, cSeq, cRet, cVar, cOp, cAnd, cOr, cNot, cIf, cAndT, cOrT, cNotT, asB, cB, cNext, cIfS, cSet, CL.CS.put, cChain, dLe, dLt, dGt, dGe, dI2, startC, outF, fnB, cIsi, CL.CS.knOf, tyB, isKn, isTy, CL.M.guard, cTru, dTru, liftF, cCall, cCons, h]
  · simp [CL.M.bind, CL.M.ret, CL.R.bind, cSeq, cRet, cVar, cOp, cAnd, cOr, cNot, cIf, cAndT, cOrT, cNotT, asB, cB, cNext, cIfS, cSet, CL.CS.put, cChain, dLe, dLt, dGt, dGe, dI2, startC, outF, fnB, cIsi, CL.CS.knOf, tyB, isKn, isTy, CL.M.guard, cTru, dTru, liftF, cCall, cCons, h]
theorem cSeq_next {f h : M Fl} {c c' : CS} (e : f c = .ok .next c') : cSeq f h c = h c' := by
  unfold cSeq
  rw [e]
theorem cSeq_ret {f h : M Fl} {c c' : CS} {d : D} (e : f c = .ok (.ret d) c') : cSeq f h c = .ok (.ret d) c' := by
  unfold cSeq
  rw [e]
def rowD (r : List Int) : D := .tup (r.map .int)
def chD (rs : List (List Int)) : D := .obj 0 [.tup (rs.map rowD)]
def RowOk (r : List Int) : Prop := r.length ≤ 12 ∧ ∀ x ∈ r, 1 ≤ x ∧ x ≤ 12

theorem szOk_small {n : Nat} (h : n ≤ 1000) : szOk n = true := by
  unfold szOk
  exact decide_eq_true (Nat.le_trans h (by decide))
theorem s_lcB (r : List Int) : ∀ (acc : List D) (c : CS), c.sl.length = 4 → acc.length + r.length ≤ 1000 →
    ∃ c', lcL (.nm 3) (M.ret true) (cCall fn_is_between (cCons (cVar 3) (cCons (M.ret (.int 1)) (cCons (M.ret (.int 12)) (M.ret []))))) [3] (r.map .int) acc c = .ok (acc ++ r.map fun x => .bl (decide (1 ≤ x) && decide (x ≤ 12))) c' ∧ c'.S = c.S ∧ c'.sl.length = 4 ∧ c'.sl.take 3 = c.sl.take 3 := by
  induction r with
  | nil => intro acc c h _; exact ⟨c, by simp [CL.M.bind, CL.M.ret, CL.R.bind, cSeq, cRet, cVar, cOp, cAnd, cOr, cNot, cIf, cAndT, cOrT, cNotT, asB, cB, cNext, cIfS, cSet, CL.CS.put, cChain, dLe, dLt, dGt, dGe, dI2, startC, outF, fnB, cIsi, CL.CS.knOf, tyB, isKn, isTy, CL.M.guard, cTru, dTru, liftF, cCall, cCons, cFor, forL, cEnum, dEnum, cTg, cLc, lcL, wipeC, cWalk, dWalk, cNever, cSetTp, putAll, bLen], rfl, h, rfl⟩
  | cons x r ih =>
    intro acc c h hl
    obtain ⟨sl, S⟩ := c
    match sl, h with
    | [a, b, d, e], _ =>
      obtain ⟨c', e1, e2, e3, e4⟩ := ih (acc ++ [.bl (decide (1 ≤ x) && decide (x ≤ 12))]) ⟨[a, b, d, .no], S⟩ rfl (by simp [CL.M.bind, CL.M.ret, CL.R.bind, cSeq, cRet, cVar, cOp, cAnd, cOr, cNot, cIf, cAndT, cOrT, cNotT, asB, cB, cNext, cIfS, cSet, CL.CS.put, cChain, dLe, dLt, dGt, dGe, dI2, startC, outF, fnB, cIsi, CL.CS.knOf, tyB, isKn, isTy, CL.M.guard, cTru, dTru, liftF, cCall, cCons, cFor, forL, cEnum, dEnum, cTg, cLc, lcL, wipeC, cWalk, dWalk, cNever, cSetTp, putAll, bLen] at hl ⊢; omega)
      refine ⟨c', ?_, e2, e3, e4⟩
      have hz : acc.length < sizeLine := Nat.lt_of_lt_of_le (by simp [CL.M.bind, CL.M.ret, CL.R.bind, cSeq, cRet, cVar, cOp, cAnd, cOr, cNot, cIf, cAndT, cOrT, cNotT, asB, cB, cNext, cIfS, cSet, CL.CS.put, cChain, dLe, dLt, dGt, dGe, dI2, startC, outF, fnB, cIsi, CL.CS.knOf, tyB, isKn, isTy, CL.M.guard, cTru, dTru, liftF, cCall, cCons, cFor, forL, cEnum, dEnum, cTg, cLc, lcL, wipeC, cWalk, dWalk, cNever, cSetTp, putAll, bLen] at hl; omega : acc.length < 1001) (by decide)
      simp [CL.M.bind, CL.M.ret, CL.R.bind, cSeq, cRet, cVar, cOp, cAnd, cOr, cNot, cIf, cAndT, cOrT, cNotT, asB, cB, cNext, cIfS, cSet, CL.CS.put, cChain, dLe, dLt, dGt, dGe, dI2, startC, outF, fnB, cIsi, CL.CS.knOf, tyB, isKn, isTy, CL.M.guard, cTru, dTru, liftF, cCall, cCons, cFor, forL, cEnum, dEnum, cTg, cLc, lcL, wipeC, cWalk, dWalk, cNever, cSetTp, putAll, bLen, s_isb, hz] at e1 ⊢
      exact e1

theorem s_row {r : List Int} (h : RowOk r) : (r.map fun x => D.bl (decide (1 ≤ x) && decide (x ≤ 12))) = (List.replicate r.length true).map D.bl := by
  rw [List.map_replicate]
  refine List.eq_replicate_iff.mpr ⟨by simp [CL.M.bind, CL.M.ret, CL.R.bind, cSeq, cRet, cVar, cOp, cAnd, cOr, cNot, cIf, cAndT, cOrT, cNotT, asB, cB, cNext, cIfS, cSet, CL.CS.put, cChain, dLe, dLt, dGt, dGe, dI2, startC, outF, fnB, cIsi, CL.CS.knOf, tyB, isKn, isTy, CL.M.guard, cTru, dTru, liftF, cCall, cCons, cFor, forL, cEnum, dEnum, cTg, cLc, lcL, wipeC, cWalk, dWalk, cNever, cSetTp, putAll, bLen], fun d hd => ?_⟩
  obtain ⟨x, hx, rfl⟩ := List.mem_map.mp hd
  obtain ⟨h1, h2⟩ := h.2 x hx
  simp [CL.M.bind, CL.M.ret, CL.R.bind, cSeq, cRet, cVar, cOp, cAnd, cOr, cNot, cIf, cAndT, cOrT, cNotT, asB, cB, cNext, cIfS, cSet, CL.CS.put, cChain, dLe, dLt, dGt, dGe, dI2, startC, outF, fnB, cIsi, CL.CS.knOf, tyB, isKn, isTy, CL.M.guard, cTru, dTru, liftF, cCall, cCons, cFor, forL, cEnum, dEnum, cTg, cLc, lcL, wipeC, cWalk, dWalk, cNever, cSetTp, putAll, bLen, h1, h2]
theorem asBls_map (bs : List Bool) : asBls (bs.map D.bl) = some bs := by
  induction bs with
  | nil => rfl
  | cons b bs ih => simp [CL.M.bind, CL.M.ret, CL.R.bind, cSeq, cRet, cVar, cOp, cAnd, cOr, cNot, cIf, cAndT, cOrT, cNotT, asB, cB, cNext, cIfS, cSet, CL.CS.put, cChain, dLe, dLt, dGt, dGe, dI2, startC, outF, fnB, cIsi, CL.CS.knOf, tyB, isKn, isTy, CL.M.guard, cTru, dTru, liftF, cCall, cCons, cFor, forL, cEnum, dEnum, cTg, cLc, lcL, wipeC, cWalk, dWalk, cNever, cSetTp, putAll, bLen, asBls, ih]
abbrev ckBody : M Fl := cSeq (cIfS (asB (cOp dGt ((cCons (cVar 2) (M.ret [])).bind bLen) (M.ret (.int 12)))) (cSeq cNever
  cNext) cNext)
  (cSeq (cIfS (cNotT (cTru ((cCons (froz (cLc (cWalk (cVar 2)) (.nm 3) (M.ret true) (cCall fn_is_between (cCons (cVar 3) (cCons (M.ret (.int 1)) (cCons (M.ret (.int 12)) (M.ret []))))) [3])) (M.ret [])).bind bAll))) (cSeq cNever
  cNext) cNext)
  cNext)
theorem s_ckRow (r : List Int) (h : RowOk r) (k : Nat) (c : CS) (hc : c.sl.length = 4) : ∃ c', cSeq (cTg (.tp [1, 2]) (.tup [.int k, rowD r])) ckBody c = .ok .next c' ∧ c'.S = c.S ∧ c'.sl.length = 4 := by
  obtain ⟨sl, S⟩ := c
  match sl, hc with
  | [a, b, d, e], _ =>
    obtain ⟨c', e1, e2, e3, e4⟩ := s_lcB r [] ⟨[a, .val (.int k), .val (rowD r), .no], S⟩ rfl (by have := h.1; simp [CL.M.bind, CL.M.ret, CL.R.bind, cSeq, cRet, cVar, cOp, cAnd, cOr, cNot, cIf, cAndT, cOrT, cNotT, asB, cB, cNext, cIfS, cSet, CL.CS.put, cChain, dLe, dLt, dGt, dGe, dI2, startC, outF, fnB, cIsi, CL.CS.knOf, tyB, isKn, isTy, CL.M.guard, cTru, dTru, liftF, cCall, cCons, cFor, forL, cEnum, dEnum, cTg, cLc, lcL, wipeC, cWalk, dWalk, cNever, cSetTp, putAll, bLen]; omega)
    rw [s_row h] at e1
    have hl : (r.map D.int).length ≤ 1000 := by have := h.1; simp [CL.M.bind, CL.M.ret, CL.R.bind, cSeq, cRet, cVar, cOp, cAnd, cOr, cNot, cIf, cAndT, cOrT, cNotT, asB, cB, cNext, cIfS, cSet, CL.CS.put, cChain, dLe, dLt, dGt, dGe, dI2, startC, outF, fnB, cIsi, CL.CS.knOf, tyB, isKn, isTy, CL.M.guard, cTru, dTru, liftF, cCall, cCons, cFor, forL, cEnum, dEnum, cTg, cLc, lcL, wipeC, cWalk, dWalk, cNever, cSetTp, putAll, bLen]; omega
    have hz : szOk (r.length) = true := szOk_small (by have := h.1; omega)
    have h12 : ¬ (12 : Int) < r.length := by have := h.1; omega
    refine ⟨c', ?_, e2, e3⟩
    simp only [List.nil_append] at e1
    simp [CL.M.bind, CL.M.ret, CL.R.bind, cSeq, cRet, cVar, cOp, cAnd, cOr, cNot, cIf, cAndT, cOrT, cNotT, asB, cB, cNext, cIfS, cSet, CL.CS.put, cChain, dLe, dLt, dGt, dGe, dI2, startC, outF, fnB, cIsi, CL.CS.knOf, tyB, isKn, isTy, CL.M.guard, cTru, dTru, liftF, cCall, cCons, cFor, forL, cEnum, dEnum, cTg, cLc, lcL, wipeC, cWalk, dWalk, cNever, cSetTp, putAll, bLen, rowD, froz, bAll, bOne, CL.CS.seqL, hz, h12] at e1 ⊢
    rw [e1]
    have e5 := asBls_map (List.replicate r.length true)
    simp [CL.M.bind, CL.M.ret, CL.R.bind, cSeq, cRet, cVar, cOp, cAnd, cOr, cNot, cIf, cAndT, cOrT, cNotT, asB, cB, cNext, cIfS, cSet, CL.CS.put, cChain, dLe, dLt, dGt, dGe, dI2, startC, outF, fnB, cIsi, CL.CS.knOf, tyB, isKn, isTy, CL.M.guard, cTru, dTru, liftF, cCall, cCons, cFor, forL, cEnum, dEnum, cTg, cLc, lcL, wipeC, cWalk, dWalk, cNever, cSetTp, putAll, bLen] at e5
    simp [CL.M.bind, CL.M.ret, CL.R.bind, cSeq, cRet, cVar, cOp, cAnd, cOr, cNot, cIf, cAndT, cOrT, cNotT, asB, cB, cNext, cIfS, cSet, CL.CS.put, cChain, dLe, dLt, dGt, dGe, dI2, startC, outF, fnB, cIsi, CL.CS.knOf, tyB, isKn, isTy, CL.M.guard, cTru, dTru, liftF, cCall, cCons, cFor, forL, cEnum, dEnum, cTg, cLc, lcL, wipeC, cWalk, dWalk, cNever, cSetTp, putAll, bLen, e5]

theorem s_ckL (rs : List (List Int)) : ∀ (k : Nat) (c : CS), (∀ r ∈ rs, RowOk r) → c.sl.length = 4 → ∃ c', forL (fun d => cSeq (cTg (.tp [1, 2]) d) ckBody) (((rs.map rowD).zipIdx k).map fun p => .tup [.int (p.2 : Nat), p.1]) c = .ok .next c' ∧ c'.S = c.S := by
  induction rs with
  | nil => intro k c _ _; exact ⟨c, rfl, rfl⟩
  | cons r rs ih =>
    intro k c h hc
    obtain ⟨c1, e1, e2, e3⟩ := s_ckRow r (h r (by simp [CL.M.bind, CL.M.ret, CL.R.bind, cSeq, cRet, cVar, cOp, cAnd, cOr, cNot, cIf, cAndT, cOrT, cNotT, asB, cB, cNext, cIfS, cSet, CL.CS.put, cChain, dLe, dLt, dGt, dGe, dI2, startC, outF, fnB, cIsi, CL.CS.knOf, tyB, isKn, isTy, CL.M.guard, cTru, dTru, liftF, cCall, cCons, cFor, forL, cEnum, dEnum, cTg, cLc, lcL, wipeC, cWalk, dWalk, cNever, cSetTp, putAll, bLen])) k c hc
    obtain ⟨c2, g1, g2⟩ := ih (k + 1) c1 (fun x hx => h x (by simp [CL.M.bind, CL.M.ret, CL.R.bind, cSeq, cRet, cVar, cOp, cAnd, cOr, cNot, cIf, cAndT, cOrT, cNotT, asB, cB, cNext, cIfS, cSet, CL.CS.put, cChain, dLe, dLt, dGt, dGe, dI2, startC, outF, fnB, cIsi, CL.CS.knOf, tyB, isKn, isTy, CL.M.guard, cTru, dTru, liftF, cCall, cCons, cFor, forL, cEnum, dEnum, cTg, cLc, lcL, wipeC, cWalk, dWalk, cNever, cSetTp, putAll, bLen, hx])) e3
    refine ⟨c2, ?_, g2.trans e2⟩
    rw [List.map_cons, List.zipIdx_cons, List.map_cons]
    unfold forL
    rw [e1]
    exact g1
theorem s_check (rs : List (List Int)) (S : List O) (h1 : 1 ≤ rs.length) (h4 : rs.length ≤ 4) (h : ∀ r ∈ rs, RowOk r) : fn_check_rows [.tup (rs.map rowD)] S = .ok .non S := by
  obtain ⟨c', e1, e2⟩ := s_ckL rs 0 ⟨[.val (.tup (rs.map rowD)), .no, .no, .no], S⟩ h rfl
  have hz : szOk rs.length = true := szOk_small (by omega)
  have i1 : (1 : Int) ≤ rs.length := by omega
  have i2 : (rs.length : Int) ≤ 4 := by omega
  have hL : cFor (cEnum (cVar 0)) (.tp [1, 2]) ckBody ⟨[.val (.tup (rs.map rowD)), .no, .no, .no], S⟩ = .ok .next c' := e1
  have hI : cIfS (cNotT (asB (cChain dLe dLe (M.ret (.int 1)) ((cCons (cVar 0) (M.ret [])).bind bLen) (M.ret (.int 4))))) (cSeq cNever cNext) cNext ⟨[.val (.tup (rs.map rowD)), .no, .no, .no], S⟩ = .ok .next ⟨[.val (.tup (rs.map rowD)), .no, .no, .no], S⟩ := by
    simp [CL.M.bind, CL.M.ret, CL.R.bind, cSeq, cRet, cVar, cOp, cAnd, cOr, cNot, cIf, cAndT, cOrT, cNotT, asB, cB, cNext, cIfS, cSet, CL.CS.put, cChain, dLe, dLt, dGt, dGe, dI2, startC, outF, fnB, cIsi, CL.CS.knOf, tyB, isKn, isTy, CL.M.guard, cTru, dTru, liftF, cCall, cCons, cFor, forL, cEnum, dEnum, cTg, cLc, lcL, wipeC, cWalk, dWalk, cNever, cSetTp, putAll, bLen, hz, i1, i2]
  show outF (cSeq _ (cSeq (cFor (cEnum (cVar 0)) (.tp [1, 2]) ckBody) cNext) ⟨[.val (.tup (rs.map rowD)), .no, .no, .no], S⟩) = _
  rw [cSeq_next hI, cSeq_next hL]
  simp [CL.M.bind, CL.M.ret, CL.R.bind, cSeq, cRet, cVar, cOp, cAnd, cOr, cNot, cIf, cAndT, cOrT, cNotT, asB, cB, cNext, cIfS, cSet, CL.CS.put, cChain, dLe, dLt, dGt, dGe, dI2, startC, outF, fnB, cIsi, CL.CS.knOf, tyB, isKn, isTy, CL.M.guard, cTru, dTru, liftF, cCall, cCons, cFor, forL, cEnum, dEnum, cTg, cLc, lcL, wipeC, cWalk, dWalk, cNever, cSetTp, putAll, bLen, e2]
def RowIn (r : List Int) (d : D) : Prop := d = rowD r ∨ d = .lst (r.map .int)
inductive RowsIn : List (List Int) → List D → Prop
  | nil : RowsIn [] []
  | cons {r : List Int} {d : D} {rs : List (List Int)} {ds : List D} : RowIn r d → RowsIn rs ds → RowsIn (r :: rs) (d :: ds)
theorem RowsIn.length {rs : List (List Int)} {ds : List D} (h : RowsIn rs ds) : ds.length = rs.length := by
  induction h with
  | nil => rfl
  | cons _ _ ih => simp [CL.M.bind, CL.M.ret, CL.R.bind, cSeq, cRet, cVar, cOp, cAnd, cOr, cNot, cIf, cAndT, cOrT, cNotT, asB, cB, cNext, cIfS, cSet, CL.CS.put, cChain, dLe, dLt, dGt, dGe, dI2, startC, outF, fnB, cIsi, CL.CS.knOf, tyB, isKn, isTy, CL.M.guard, cTru, dTru, liftF, cCall, cCons, cFor, forL, cEnum, dEnum, cTg, cLc, lcL, wipeC, cWalk, dWalk, cNever, cSetTp, putAll, bLen, ih]
theorem putD_nil (f : Str) (d : D) : putD f d [] = [(f, d)] := rfl
theorem s_lcT (rs : List (List Int)) : ∀ (ds : List D) (acc : List D) (c : CS), c.sl.length = 4 → acc.length + rs.length ≤ 1000 → RowsIn rs ds →
    ∃ c', lcL (.nm 3) (M.ret true) ((cCons (cVar 3) (M.ret [])).bind bTuple) [3] ds acc c = .ok (acc ++ rs.map rowD) c' ∧ c'.S = c.S ∧ c'.sl.length = 4 ∧ c'.sl.take 3 = c.sl.take 3 := by
  induction rs with
  | nil => intro ds acc c h _ hf; cases hf; exact ⟨c, by simp [CL.M.bind, CL.M.ret, CL.R.bind, cSeq, cRet, cVar, cOp, cAnd, cOr, cNot, cIf, cAndT, cOrT, cNotT, asB, cB, cNext, cIfS, cSet, CL.CS.put, cChain, dLe, dLt, dGt, dGe, dI2, startC, outF, fnB, cIsi, CL.CS.knOf, tyB, isKn, isTy, CL.M.guard, cTru, dTru, liftF, cCall, cCons, cFor, forL, cEnum, dEnum, cTg, cLc, lcL, wipeC, cWalk, dWalk, cNever, cSetTp, putAll, bLen], rfl, h, rfl⟩
  | cons r rs ih =>
    intro ds acc c h hl hf
    cases hf with
    | @cons _ d _ ds hd hf =>
      obtain ⟨sl, S⟩ := c
      match sl, h with
      | [a, b, x, e], _ =>
        obtain ⟨c', e1, e2, e3, e4⟩ := ih ds (acc ++ [rowD r]) ⟨[a, b, x, .no], S⟩ rfl (by simp [CL.M.bind, CL.M.ret, CL.R.bind, cSeq, cRet, cVar, cOp, cAnd, cOr, cNot, cIf, cAndT, cOrT, cNotT, asB, cB, cNext, cIfS, cSet, CL.CS.put, cChain, dLe, dLt, dGt, dGe, dI2, startC, outF, fnB, cIsi, CL.CS.knOf, tyB, isKn, isTy, CL.M.guard, cTru, dTru, liftF, cCall, cCons, cFor, forL, cEnum, dEnum, cTg, cLc, lcL, wipeC, cWalk, dWalk, cNever, cSetTp, putAll, bLen] at hl ⊢; omega) hf
        refine ⟨c', ?_, e2, e3, e4⟩
        have hz : acc.length < sizeLine := Nat.lt_of_lt_of_le (by simp [CL.M.bind, CL.M.ret, CL.R.bind, cSeq, cRet, cVar, cOp, cAnd, cOr, cNot, cIf, cAndT, cOrT, cNotT, asB, cB, cNext, cIfS, cSet, CL.CS.put, cChain, dLe, dLt, dGt, dGe, dI2, startC, outF, fnB, cIsi, CL.CS.knOf, tyB, isKn, isTy, CL.M.guard, cTru, dTru, liftF, cCall, cCons, cFor, forL, cEnum, dEnum, cTg, cLc, lcL, wipeC, cWalk, dWalk, cNever, cSetTp, putAll, bLen] at hl; omega : acc.length < 1001) (by decide)
        rcases hd with rfl | rfl
        · simp [CL.M.bind, CL.M.ret, CL.R.bind, cSeq, cRet, cVar, cOp, cAnd, cOr, cNot, cIf, cAndT, cOrT, cNotT, asB, cB, cNext, cIfS, cSet, CL.CS.put, cChain, dLe, dLt, dGt, dGe, dI2, startC, outF, fnB, cIsi, CL.CS.knOf, tyB, isKn, isTy, CL.M.guard, cTru, dTru, liftF, cCall, cCons, cFor, forL, cEnum, dEnum, cTg, cLc, lcL, wipeC, cWalk, dWalk, cNever, cSetTp, putAll, bLen, rowD, bTuple, hz] at e1 ⊢
          exact e1
        · simp [CL.M.bind, CL.M.ret, CL.R.bind, cSeq, cRet, cVar, cOp, cAnd, cOr, cNot, cIf, cAndT, cOrT, cNotT, asB, cB, cNext, cIfS, cSet, CL.CS.put, cChain, dLe, dLt, dGt, dGe, dI2, startC, outF, fnB, cIsi, CL.CS.knOf, tyB, isKn, isTy, CL.M.guard, cTru, dTru, liftF, cCall, cCons, cFor, forL, cEnum, dEnum, cTg, cLc, lcL, wipeC, cWalk, dWalk, cNever, cSetTp, putAll, bLen, rowD, bTuple, hz, CL.CS.seqL] at e1 ⊢
          exact e1
theorem s_init (rs : List (List Int)) (ds : List D) (S : List O) (h1 : 1 ≤ rs.length) (h4 : rs.length ≤ 4) (h : ∀ r ∈ rs, RowOk r) (hf : RowsIn rs ds) : fn_Chain__init ds S = .ok (chD rs) S := by
  have hl : ds.length = rs.length := hf.length
  have hz : szOk ds.length = true := szOk_small (by omega)
  obtain ⟨c', e1, e2, e3, e4⟩ := s_lcT rs ds [] ⟨[.own (.ins 0 []), .val (.tup ds), .no, .no], S⟩ rfl (by simp [CL.M.bind, CL.M.ret, CL.R.bind, cSeq, cRet, cVar, cOp, cAnd, cOr, cNot, cIf, cAndT, cOrT, cNotT, asB, cB, cNext, cIfS, cSet, CL.CS.put, cChain, dLe, dLt, dGt, dGe, dI2, startC, outF, fnB, cIsi, CL.CS.knOf, tyB, isKn, isTy, CL.M.guard, cTru, dTru, liftF, cCall, cCons, cFor, forL, cEnum, dEnum, cTg, cLc, lcL, wipeC, cWalk, dWalk, cNever, cSetTp, putAll, bLen]; omega) hf
  have ck := s_check rs S h1 h4 h
  obtain ⟨sl, S'⟩ := c'
  match sl, e3 with
  | [a, b, x, y], _ =>
    simp [CL.M.bind, CL.M.ret, CL.R.bind, cSeq, cRet, cVar, cOp, cAnd, cOr, cNot, cIf, cAndT, cOrT, cNotT, asB, cB, cNext, cIfS, cSet, CL.CS.put, cChain, dLe, dLt, dGt, dGe, dI2, startC, outF, fnB, cIsi, CL.CS.knOf, tyB, isKn, isTy, CL.M.guard, cTru, dTru, liftF, cCall, cCons, cFor, forL, cEnum, dEnum, cTg, cLc, lcL, wipeC, cWalk, dWalk, cNever, cSetTp, putAll, bLen] at e4 e2
    obtain ⟨rfl, rfl, rfl⟩ := e4
    subst e2
    unfold fn_Chain__init fnStar mkB cl_Chain__init
    simp [CL.M.bind, CL.M.ret, CL.R.bind, cSeq, cRet, cVar, cOp, cAnd, cOr, cNot, cIf, cAndT, cOrT, cNotT, asB, cB, cNext, cIfS, cSet, CL.CS.put, cChain, dLe, dLt, dGt, dGe, dI2, startC, outF, fnB, cIsi, CL.CS.knOf, tyB, isKn, isTy, CL.M.guard, cTru, dTru, liftF, cCall, cCons, cFor, forL, cEnum, dEnum, cTg, cLc, wipeC, cWalk, dWalk, cNever, cSetTp, putAll, bLen, hz, startM, froz, cDrop, cSetF, CL.CS.pi, CL.CS.wi, outM] at e1 ⊢
    rw [e1]
    simp [CL.M.bind, CL.M.ret, CL.R.bind, cSeq, cRet, cVar, cOp, cAnd, cOr, cNot, cIf, cAndT, cOrT, cNotT, asB, cB, cNext, cIfS, cSet, CL.CS.put, cChain, dLe, dLt, dGt, dGe, dI2, startC, outF, fnB, cIsi, CL.CS.knOf, tyB, isKn, isTy, CL.M.guard, cTru, dTru, liftF, cCall, cCons, cFor, forL, cEnum, dEnum, cTg, cLc, lcL, wipeC, cWalk, dWalk, cNever, cSetTp, putAll, bLen, bTuple, CL.CS.seqL, ck, CL.Pi.fs, chD, putD_nil]
end K03
namespace K03
open CL PySem
theorem toPs_int (r : List Int) : toPs (r.map D.int) = some (r.map PyData.int) := by
  induction r with
  | nil => simp [CL.M.bind, CL.M.ret, CL.R.bind, cSeq, cRet, cVar, cOp, cAnd, cOr, cNot, cIf, cAndT, cOrT, cNotT, asB, cB, cNext, cIfS, cSet, CL.CS.put, cChain, dLe, dLt, dGt, dGe, dI2, startC, outF, fnB, cIsi, CL.CS.knOf, tyB, isKn, isTy, CL.M.guard, cTru, dTru, liftF, cCall, cCons, cFor, forL, cEnum, dEnum, cTg, cLc, lcL, wipeC, cWalk, dWalk, cNever, cSetTp, putAll, bLen, toPs]
  | cons x r ih => simp [CL.M.bind, CL.M.ret, CL.R.bind, cSeq, cRet, cVar, cOp, cAnd, cOr, cNot, cIf, cAndT, cOrT, cNotT, asB, cB, cNext, cIfS, cSet, CL.CS.put, cChain, dLe, dLt, dGt, dGe, dI2, startC, outF, fnB, cIsi, CL.CS.knOf, tyB, isKn, isTy, CL.M.guard, cTru, dTru, liftF, cCall, cCons, cFor, forL, cEnum, dEnum, cTg, cLc, lcL, wipeC, cWalk, dWalk, cNever, cSetTp, putAll, bLen, toPs, toP, ih]
theorem lay_ints (a : List Int) : PyData.canLayAll0 (a.map PyData.int) = true := by
  induction a with
  | nil => simp [CL.M.bind, CL.M.ret, CL.R.bind, cSeq, cRet, cVar, cOp, cAnd, cOr, cNot, cIf, cAndT, cOrT, cNotT, asB, cB, cNext, cIfS, cSet, CL.CS.put, cChain, dLe, dLt, dGt, dGe, dI2, startC, outF, fnB, cIsi, CL.CS.knOf, tyB, isKn, isTy, CL.M.guard, cTru, dTru, liftF, cCall, cCons, cFor, forL, cEnum, dEnum, cTg, cLc, lcL, wipeC, cWalk, dWalk, cNever, cSetTp, putAll, bLen, PyData.canLayAll0]
  | cons x a ih => simp [CL.M.bind, CL.M.ret, CL.R.bind, cSeq, cRet, cVar, cOp, cAnd, cOr, cNot, cIf, cAndT, cOrT, cNotT, asB, cB, cNext, cIfS, cSet, CL.CS.put, cChain, dLe, dLt, dGt, dGe, dI2, startC, outF, fnB, cIsi, CL.CS.knOf, tyB, isKn, isTy, CL.M.guard, cTru, dTru, liftF, cCall, cCons, cFor, forL, cEnum, dEnum, cTg, cLc, lcL, wipeC, cWalk, dWalk, cNever, cSetTp, putAll, bLen, PyData.canLayAll0, PyData.canLay0, ih]
theorem dep_ints (a : List Int) : PyData.depthAll (a.map PyData.int) ≤ 1 := by
  induction a with
  | nil => simp [CL.M.bind, CL.M.ret, CL.R.bind, cSeq, cRet, cVar, cOp, cAnd, cOr, cNot, cIf, cAndT, cOrT, cNotT, asB, cB, cNext, cIfS, cSet, CL.CS.put, cChain, dLe, dLt, dGt, dGe, dI2, startC, outF, fnB, cIsi, CL.CS.knOf, tyB, isKn, isTy, CL.M.guard, cTru, dTru, liftF, cCall, cCons, cFor, forL, cEnum, dEnum, cTg, cLc, lcL, wipeC, cWalk, dWalk, cNever, cSetTp, putAll, bLen, PyData.depthAll]
  | cons x a ih => simp [CL.M.bind, CL.M.ret, CL.R.bind, cSeq, cRet, cVar, cOp, cAnd, cOr, cNot, cIf, cAndT, cOrT, cNotT, asB, cB, cNext, cIfS, cSet, CL.CS.put, cChain, dLe, dLt, dGt, dGe, dI2, startC, outF, fnB, cIsi, CL.CS.knOf, tyB, isKn, isTy, CL.M.guard, cTru, dTru, liftF, cCall, cCons, cFor, forL, cEnum, dEnum, cTg, cLc, lcL, wipeC, cWalk, dWalk, cNever, cSetTp, putAll, bLen, PyData.depthAll, PyData.depth]; omega
def ChOk (rs : List (List Int)) : Prop := 1 ≤ rs.length ∧ rs.length ≤ 4 ∧ ∀ r ∈ rs, RowOk r
theorem rowsIn_rows (rs : List (List Int)) : RowsIn rs (rs.map rowD) := by
  induction rs with
  | nil => exact .nil
  | cons r rs ih => exact .cons (.inl rfl) ih
theorem s_make (rs : List (List Int)) (S : List O) (h : ChOk rs) : fn_Chain__init (rs.map rowD) S = .ok (chD rs) S := s_init rs _ S h.1 h.2.1 h.2.2 (rowsIn_rows rs)


theorem shp_int (i : Int) : SeqAt.shaped (.int i) = true := by
  unfold SeqAt.shaped
  simp [CL.M.bind, CL.M.ret, CL.R.bind, cSeq, cRet, cVar, cOp, cAnd, cOr, cNot, cIf, cAndT, cOrT, cNotT, asB, cB, cNext, cIfS, cSet, CL.CS.put, cChain, dLe, dLt, dGt, dGe, dI2, startC, outF, fnB, cIsi, CL.CS.knOf, tyB, isKn, isTy, CL.M.guard, cTru, dTru, liftF, cCall, cCons, cFor, forL, cEnum, dEnum, cTg, cLc, lcL, wipeC, cWalk, dWalk, cNever, cSetTp, putAll, bLen, cFld, CL.CS.fld, cProp, noExc, CL.CS.clsOf, cCallS, dItems, cLenP, cIxP, CL.CS.see, cApp, CL.CS.pl, CL.CS.wr, CL.Pl.xs, dNeg, PyData.canLay0, PyData.depth]
theorem dEq_int (i j : Int) (c : CS) : dEq (.int i) (.int j) c = .ok (.bl (decide (i = j))) c := by
  simp [CL.M.bind, CL.M.ret, CL.R.bind, cSeq, cRet, cVar, cOp, cAnd, cOr, cNot, cIf, cAndT, cOrT, cNotT, asB, cB, cNext, cIfS, cSet, CL.CS.put, cChain, dLe, dLt, dGt, dGe, dI2, startC, outF, fnB, cIsi, CL.CS.knOf, tyB, isKn, isTy, CL.M.guard, cTru, dTru, liftF, cCall, cCons, cFor, forL, cEnum, dEnum, cTg, cLc, lcL, wipeC, cWalk, dWalk, cNever, cSetTp, putAll, bLen, cFld, CL.CS.fld, cProp, noExc, CL.CS.clsOf, cCallS, dItems, cLenP, cIxP, CL.CS.see, cApp, CL.CS.pl, CL.CS.wr, CL.Pl.xs, dNeg, dEq, dP2, toP, shp_int, PyData.eqv]
  by_cases h : i = j <;> simp [CL.M.bind, CL.M.ret, CL.R.bind, cSeq, cRet, cVar, cOp, cAnd, cOr, cNot, cIf, cAndT, cOrT, cNotT, asB, cB, cNext, cIfS, cSet, CL.CS.put, cChain, dLe, dLt, dGt, dGe, dI2, startC, outF, fnB, cIsi, CL.CS.knOf, tyB, isKn, isTy, CL.M.guard, cTru, dTru, liftF, cCall, cCons, cFor, forL, cEnum, dEnum, cTg, cLc, lcL, wipeC, cWalk, dWalk, cNever, cSetTp, putAll, bLen, cFld, CL.CS.fld, cProp, noExc, CL.CS.clsOf, cCallS, dItems, cLenP, cIxP, CL.CS.see, cApp, CL.CS.pl, CL.CS.wr, CL.Pl.xs, dNeg, h]
end K03
namespace K03
open CL PySem
def tpS (T : List O) (xs : List Int) (a b c : Int) : List O := .lst [.lst (xs.map .int), .int a, .int b, .int c] :: T
def TapeOk (S : List O) : Prop := ∃ (T : List O) (xs : List Int) (a : Nat) (b c : Int), S = tpS T xs a b c ∧ xs.length ≤ 63 ∧ 0 ≤ b ∧ 0 ≤ c ∧ c < 2147483587

theorem s_tape (ns : List Int) (h : ns.length ≤ 63) : fn_law_tape [.scr ns] [] = .ok (.ref 0) (tpS [] ns 0 0 3815) := by
  have z4 : szOk 4 = true := szOk_small (by omega)
  have e : ∀ (zs : List D), zs.length = ns.length → ((zs.drop (HT.sIx ns.length 0 none)).take (HT.sIx ns.length ns.length (some 63) - HT.sIx ns.length 0 none)) = zs := by
    intro zs hz
    have e1 : HT.sIx ns.length 0 none = 0 := rfl
    have e2 : HT.sIx ns.length ns.length (some 63) = ns.length := by
      show (if (63 : Int) < 0 then ((63 : Int) + (ns.length : Int)).toNat else min (63 : Int).toNat ns.length) = _
      rw [if_neg (by omega)]
      exact Nat.min_eq_right (by simpa using h)
    rw [e1, e2]
    simp [CL.M.bind, CL.M.ret, CL.R.bind, cSeq, cRet, cVar, cOp, cAnd, cOr, cNot, cIf, cAndT, cOrT, cNotT, asB, cB, cNext, cIfS, cSet, CL.CS.put, cChain, dLe, dLt, dGt, dGe, dI2, startC, outF, fnB, cIsi, CL.CS.knOf, tyB, isKn, isTy, CL.M.guard, cTru, dTru, liftF, cCall, cCons, cFor, forL, cEnum, dEnum, cTg, cLc, lcL, wipeC, cWalk, dWalk, cNever, cSetTp, putAll, bLen, cFld, CL.CS.fld, cProp, noExc, CL.CS.clsOf, cCallS, dItems, cLenP, cIxP, CL.CS.see, cApp, CL.CS.pl, CL.CS.wr, CL.Pl.xs, dNeg, cSetIx, cStore, froz, cLst, cCutL, dCutL, cNoPart, cPart, dPart, CL.CS.seqL, bList, CL.M.opt, ← hz]
  simp [CL.M.bind, CL.M.ret, CL.R.bind, cSeq, cRet, cVar, cOp, cAnd, cOr, cNot, cIf, cAndT, cOrT, cNotT, asB, cB, cNext, cIfS, cSet, CL.CS.put, cChain, dLe, dLt, dGt, dGe, dI2, startC, outF, fnB, cIsi, CL.CS.knOf, tyB, isKn, isTy, CL.M.guard, cTru, dTru, liftF, cCall, cCons, cFor, forL, cEnum, dEnum, cTg, cLc, lcL, wipeC, cWalk, dWalk, cNever, cSetTp, putAll, bLen, cFld, CL.CS.fld, cProp, noExc, CL.CS.clsOf, cCallS, dItems, cLenP, cIxP, CL.CS.see, cApp, CL.CS.pl, CL.CS.wr, CL.Pl.xs, dNeg, cSetIx, cStore, froz, cLst, cCutL, dCutL, cNoPart, cPart, dPart, CL.CS.seqL, bList, CL.M.opt, fn_law_tape, cl_law_tape, z4, tpS] at e ⊢
  exact e _ (by simp [CL.M.bind, CL.M.ret, CL.R.bind, cSeq, cRet, cVar, cOp, cAnd, cOr, cNot, cIf, cAndT, cOrT, cNotT, asB, cB, cNext, cIfS, cSet, CL.CS.put, cChain, dLe, dLt, dGt, dGe, dI2, startC, outF, fnB, cIsi, CL.CS.knOf, tyB, isKn, isTy, CL.M.guard, cTru, dTru, liftF, cCall, cCons, cFor, forL, cEnum, dEnum, cTg, cLc, lcL, wipeC, cWalk, dWalk, cNever, cSetTp, putAll, bLen, cFld, CL.CS.fld, cProp, noExc, CL.CS.clsOf, cCallS, dItems, cLenP, cIxP, CL.CS.see, cApp, CL.CS.pl, CL.CS.wr, CL.Pl.xs, dNeg, cSetIx, cStore, froz, cLst, cCutL, dCutL, cNoPart, cPart, dPart, CL.CS.seqL, bList, CL.M.opt])
theorem ix0 (xs : List Int) (a b c : Int) : L2.atI [D.lst (xs.map .int), .int a, .int b, .int c] 0 = some (.lst (xs.map .int)) := rfl
theorem ix1 (xs : List Int) (a b c : Int) : L2.atI [D.lst (xs.map .int), .int a, .int b, .int c] 1 = some (.int a) := rfl
theorem ix2 (xs : List Int) (a b c : Int) : L2.atI [D.lst (xs.map .int), .int a, .int b, .int c] 2 = some (.int b) := rfl
theorem ix3 (xs : List Int) (a b c : Int) : L2.atI [D.lst (xs.map .int), .int a, .int b, .int c] 3 = some (.int c) := rfl
abbrev pkA : M Fl := (cIfS (cAndT (asB (cOp dEq (cOp dIx (cVar 0) (M.ret (.int 2))) (M.ret (.int 0)))) (asB (cOp dLt (cOp dIx (cVar 0) (M.ret (.int 1))) ((cCons (cOp dIx (cVar 0) (M.ret (.int 0))) (M.ret [])).bind bLen)))) (cSeq (cSet 2 (cOp dIx (cOp dIx (cVar 0) (M.ret (.int 0))) (cOp dIx (cVar 0) (M.ret (.int 1)))))
  (cSeq (cSetIx 0 (M.ret (.int 1)) (cOp dAdd (cOp dIx (cVar 0) (M.ret (.int 1))) (M.ret (.int 1))))
  (cSeq (cIfS (asB (cOp dGe (cVar 2) (cOp dPow (M.ret (.int 10)) (M.ret (.int 18))))) (cSeq (cSetIx 0 (M.ret (.int 2)) (cVar 2))
  cNext) (cSeq (cSetIx 0 (M.ret (.int 3)) (cOp dMod (cOp dAdd (cOp dAdd (cOp dMul (cOp dIx (cVar 0) (M.ret (.int 3))) (M.ret (.int 48611))) (cOp dMul (cOp dMod (cVar 2) (M.ret (.int 2147483549))) (M.ret (.int 389)))) (M.ret (.int 41))) (M.ret (.int 2147483587))))
  cNext))
  cNext))) cNext)
theorem dP_int (i j : Int) (c : CS) : dP2 (fun p q => .bl (PyData.eqv p q)) (.int i) (.int j) c = .ok (.bl (decide (i = j))) c := dEq_int i j c
theorem ixN4 : L2.ixN 4 1 = some 1 ∧ L2.ixN 4 2 = some 2 ∧ L2.ixN 4 3 = some 3 := ⟨rfl, rfl, rfl⟩
theorem s_pkA (T : List O) (many : Int) (xs : List Int) (a : Nat) (b c : Int) (hl : xs.length ≤ 63) (hb : 0 ≤ b) (hc : 0 ≤ c) (hc2 : c < 2147483587) :
    ∃ y a' b' c', pkA ⟨[.val (.ref 0), .val (.int many), .no, .no, .no], tpS T xs a b c⟩ = .ok .next ⟨[.val (.ref 0), .val (.int many), y, .no, .no], tpS T xs (a' : Nat) b' c'⟩ ∧ 0 ≤ b' ∧ 0 ≤ c' ∧ c' < 2147483587 := by
  have zl : szOk xs.length = true := szOk_small (by omega)
  by_cases h2 : b = 0
  · subst h2
    by_cases h1 : (a : Int) < xs.length
    · have ha : a < xs.length := by omega
      have hx : L2.atI (xs.map D.int) (a : Int) = some (.int xs[a]) := by
        unfold L2.atI L2.ixN
        rw [if_pos (by omega), if_pos (by simp [CL.M.bind, CL.M.ret, CL.R.bind, cSeq, cRet, cVar, cOp, cAnd, cOr, cNot, cIf, cAndT, cOrT, cNotT, asB, cB, cNext, cIfS, cSet, CL.CS.put, cChain, dLe, dLt, dGt, dGe, dI2, startC, outF, fnB, cIsi, CL.CS.knOf, tyB, isKn, isTy, CL.M.guard, cTru, dTru, liftF, cCall, cCons, cFor, forL, cEnum, dEnum, cTg, cLc, lcL, wipeC, cWalk, dWalk, cNever, cSetTp, putAll, bLen, cFld, CL.CS.fld, cProp, noExc, CL.CS.clsOf, cCallS, dItems, cLenP, cIxP, CL.CS.see, cApp, CL.CS.pl, CL.CS.wr, CL.Pl.xs, dNeg, cSetIx, cStore, froz, cLst, cCutL, dCutL, cNoPart, cPart, dPart, CL.CS.seqL, bList, CL.M.opt]; omega)]
        simp [CL.M.bind, CL.M.ret, CL.R.bind, cSeq, cRet, cVar, cOp, cAnd, cOr, cNot, cIf, cAndT, cOrT, cNotT, asB, cB, cNext, cIfS, cSet, CL.CS.put, cChain, dLe, dLt, dGt, dGe, dI2, startC, outF, fnB, cIsi, CL.CS.knOf, tyB, isKn, isTy, CL.M.guard, cTru, dTru, liftF, cCall, cCons, cFor, forL, cEnum, dEnum, cTg, cLc, lcL, wipeC, cWalk, dWalk, cNever, cSetTp, putAll, bLen, cFld, CL.CS.fld, cProp, noExc, CL.CS.clsOf, cCallS, dItems, cLenP, cIxP, CL.CS.see, cApp, CL.CS.pl, CL.CS.wr, CL.Pl.xs, dNeg, cSetIx, cStore, froz, cLst, cCutL, dCutL, cNoPart, cPart, dPart, CL.CS.seqL, bList, CL.M.opt, ha]
      by_cases h3 : (1000000000000000000 : Int) ≤ xs[a]
      · refine ⟨.val (.int xs[a]), a + 1, xs[a], c, ?_, by omega, hc, hc2⟩
        simp [CL.M.bind, CL.M.ret, CL.R.bind, cSeq, cRet, cVar, cOp, cAnd, cOr, cNot, cIf, cAndT, cOrT, cNotT, asB, cB, cNext, cIfS, cSet, CL.CS.put, cChain, dLe, dLt, dGt, dGe, dI2, startC, outF, fnB, cIsi, CL.CS.knOf, tyB, isKn, isTy, CL.M.guard, cTru, dTru, liftF, cCall, cCons, cFor, forL, cEnum, dEnum, cTg, cLc, lcL, wipeC, cWalk, dWalk, cNever, cSetTp, putAll, bLen, cFld, CL.CS.fld, cProp, noExc, CL.CS.clsOf, cCallS, dItems, cLenP, cIxP, CL.CS.see, cApp, CL.CS.pl, CL.CS.wr, CL.Pl.xs, dNeg, cSetIx, cStore, froz, cLst, cCutL, dCutL, cNoPart, cPart, dPart, CL.CS.seqL, bList, CL.M.opt, dIx, tpS, ix0, ix1, ix2, ix3, dP_int, zl, h1, hx, dAdd, ixN4.1, ixN4.2.1, dPow, cPow, h3]
      · refine ⟨.val (.int xs[a]), a + 1, 0, (c * 48611 + xs[a] % 2147483549 * 389 + 41) % 2147483587, ?_, by omega, by omega, by omega⟩
        have m1 : cMul c 48611 = true := by unfold cMul; simp [CL.M.bind, CL.M.ret, CL.R.bind, cSeq, cRet, cVar, cOp, cAnd, cOr, cNot, cIf, cAndT, cOrT, cNotT, asB, cB, cNext, cIfS, cSet, CL.CS.put, cChain, dLe, dLt, dGt, dGe, dI2, startC, outF, fnB, cIsi, CL.CS.knOf, tyB, isKn, isTy, CL.M.guard, cTru, dTru, liftF, cCall, cCons, cFor, forL, cEnum, dEnum, cTg, cLc, lcL, wipeC, cWalk, dWalk, cNever, cSetTp, putAll, bLen, cFld, CL.CS.fld, cProp, noExc, CL.CS.clsOf, cCallS, dItems, cLenP, cIxP, CL.CS.see, cApp, CL.CS.pl, CL.CS.wr, CL.Pl.xs, dNeg, cSetIx, cStore, froz, cLst, cCutL, dCutL, cNoPart, cPart, dPart, CL.CS.seqL, bList, CL.M.opt]
        have m2 : cMul (xs[a] % 2147483549) 389 = true := by unfold cMul; simp [CL.M.bind, CL.M.ret, CL.R.bind, cSeq, cRet, cVar, cOp, cAnd, cOr, cNot, cIf, cAndT, cOrT, cNotT, asB, cB, cNext, cIfS, cSet, CL.CS.put, cChain, dLe, dLt, dGt, dGe, dI2, startC, outF, fnB, cIsi, CL.CS.knOf, tyB, isKn, isTy, CL.M.guard, cTru, dTru, liftF, cCall, cCons, cFor, forL, cEnum, dEnum, cTg, cLc, lcL, wipeC, cWalk, dWalk, cNever, cSetTp, putAll, bLen, cFld, CL.CS.fld, cProp, noExc, CL.CS.clsOf, cCallS, dItems, cLenP, cIxP, CL.CS.see, cApp, CL.CS.pl, CL.CS.wr, CL.Pl.xs, dNeg, cSetIx, cStore, froz, cLst, cCutL, dCutL, cNoPart, cPart, dPart, CL.CS.seqL, bList, CL.M.opt]
        simp [CL.M.bind, CL.M.ret, CL.R.bind, cSeq, cRet, cVar, cOp, cAnd, cOr, cNot, cIf, cAndT, cOrT, cNotT, asB, cB, cNext, cIfS, cSet, CL.CS.put, cChain, dLe, dLt, dGt, dGe, dI2, startC, outF, fnB, cIsi, CL.CS.knOf, tyB, isKn, isTy, CL.M.guard, cTru, dTru, liftF, cCall, cCons, cFor, forL, cEnum, dEnum, cTg, cLc, lcL, wipeC, cWalk, dWalk, cNever, cSetTp, putAll, bLen, cFld, CL.CS.fld, cProp, noExc, CL.CS.clsOf, cCallS, dItems, cLenP, cIxP, CL.CS.see, cApp, CL.CS.pl, CL.CS.wr, CL.Pl.xs, dNeg, cSetIx, cStore, froz, cLst, cCutL, dCutL, cNoPart, cPart, dPart, CL.CS.seqL, bList, CL.M.opt, dIx, tpS, ix0, ix1, ix2, ix3, dP_int, zl, h1, hx, dAdd, ixN4.1, ixN4.2.1, ixN4.2.2, dPow, cPow, h3, dMul, dMod, m1, m2]
    · refine ⟨.no, a, 0, c, ?_, by omega, hc, hc2⟩
      simp [CL.M.bind, CL.M.ret, CL.R.bind, cSeq, cRet, cVar, cOp, cAnd, cOr, cNot, cIf, cAndT, cOrT, cNotT, asB, cB, cNext, cIfS, cSet, CL.CS.put, cChain, dLe, dLt, dGt, dGe, dI2, startC, outF, fnB, cIsi, CL.CS.knOf, tyB, isKn, isTy, CL.M.guard, cTru, dTru, liftF, cCall, cCons, cFor, forL, cEnum, dEnum, cTg, cLc, lcL, wipeC, cWalk, dWalk, cNever, cSetTp, putAll, bLen, cFld, CL.CS.fld, cProp, noExc, CL.CS.clsOf, cCallS, dItems, cLenP, cIxP, CL.CS.see, cApp, CL.CS.pl, CL.CS.wr, CL.Pl.xs, dNeg, cSetIx, cStore, froz, cLst, cCutL, dCutL, cNoPart, cPart, dPart, CL.CS.seqL, bList, CL.M.opt, dIx, tpS, ix0, ix1, ix2, dP_int, zl, h1]
  · refine ⟨.no, a, b, c, ?_, hb, hc, hc2⟩
    simp [CL.M.bind, CL.M.ret, CL.R.bind, cSeq, cRet, cVar, cOp, cAnd, cOr, cNot, cIf, cAndT, cOrT, cNotT, asB, cB, cNext, cIfS, cSet, CL.CS.put, cChain, dLe, dLt, dGt, dGe, dI2, startC, outF, fnB, cIsi, CL.CS.knOf, tyB, isKn, isTy, CL.M.guard, cTru, dTru, liftF, cCall, cCons, cFor, forL, cEnum, dEnum, cTg, cLc, lcL, wipeC, cWalk, dWalk, cNever, cSetTp, putAll, bLen, cFld, CL.CS.fld, cProp, noExc, CL.CS.clsOf, cCallS, dItems, cLenP, cIxP, CL.CS.see, cApp, CL.CS.pl, CL.CS.wr, CL.Pl.xs, dNeg, cSetIx, cStore, froz, cLst, cCutL, dCutL, cNoPart, cPart, dPart, CL.CS.seqL, bList, CL.M.opt, dIx, tpS, ix2, dP_int, h2]

abbrev pkB : M Fl := (cIfS (asB (cOp dGt (cOp dIx (cVar 0) (M.ret (.int 2))) (M.ret (.int 0)))) (cSeq (cSet 3 (cOp dMod (cOp dIx (cVar 0) (M.ret (.int 2))) (cVar 1)))
  (cSeq (cSetIx 0 (M.ret (.int 2)) (cOp dDiv (cOp dIx (cVar 0) (M.ret (.int 2))) (cVar 1)))
  (cSeq (cRet (cVar 3))
  cNext))) cNext)
abbrev pkC : M Fl := (cSeq (cSet 4 (cOp dMod (cOp dMul (cOp dIx (cVar 0) (M.ret (.int 3))) (cOp dIx (cVar 0) (M.ret (.int 3)))) (M.ret (.int 2147483587))))
  (cSeq (cSetIx 0 (M.ret (.int 3)) (cOp dMod (cOp dAdd (cOp dAdd (cOp dMul (cVar 4) (M.ret (.int 30011))) (cOp dMul (cOp dIx (cVar 0) (M.ret (.int 3))) (M.ret (.int 16807)))) (M.ret (.int 9973))) (M.ret (.int 2147483587))))
  (cSeq (cRet (cOp dMod (cOp dAdd (cOp dDiv (cOp dIx (cVar 0) (M.ret (.int 3))) (M.ret (.int 83))) (cOp dMul (cOp dMod (cOp dIx (cVar 0) (M.ret (.int 3))) (M.ret (.int 7919))) (M.ret (.int 53)))) (cVar 1)))
  cNext)))
theorem s_pick (many : Int) (S : List O) (hm : 0 < many) (hm2 : many < 1073741824) (hS : TapeOk S) : ∃ v S', fn_law_pick [.ref 0, .int many] S = .ok (.int v) S' ∧ TapeOk S' ∧ 0 ≤ v ∧ v < many := by
  obtain ⟨T, xs, a, b, c, rfl, hl, hb, hc, hc2⟩ := hS
  obtain ⟨y, a', b', c', e, hb', hc', hc2'⟩ := s_pkA T many xs a b c hl hb hc hc2
  have md : cDiv b' many = true := by unfold cDiv; simp [CL.M.bind, CL.M.ret, CL.R.bind, cSeq, cRet, cVar, cOp, cAnd, cOr, cNot, cIf, cAndT, cOrT, cNotT, asB, cB, cNext, cIfS, cSet, CL.CS.put, cChain, dLe, dLt, dGt, dGe, dI2, startC, outF, fnB, cIsi, CL.CS.knOf, tyB, isKn, isTy, CL.M.guard, cTru, dTru, liftF, cCall, cCons, cFor, forL, cEnum, dEnum, cTg, cLc, lcL, wipeC, cWalk, dWalk, cNever, cSetTp, putAll, bLen, cFld, CL.CS.fld, cProp, noExc, CL.CS.clsOf, cCallS, dItems, cLenP, cIxP, CL.CS.see, cApp, CL.CS.pl, CL.CS.wr, CL.Pl.xs, dNeg, cSetIx, cStore, froz, cLst, cCutL, dCutL, cNoPart, cPart, dPart, CL.CS.seqL, bList, CL.M.opt]; omega
  by_cases h : 0 < b'
  · refine ⟨b' % many, tpS T xs a' (b' / many) c', ?_, ⟨T, xs, a', b' / many, c', rfl, hl, Int.ediv_nonneg hb' (by omega), hc', hc2'⟩, Int.emod_nonneg _ (by omega), Int.emod_lt_of_pos _ hm⟩
    have e2 : pkB ⟨[.val (.ref 0), .val (.int many), y, .no, .no], tpS T xs a' b' c'⟩ = .ok (.ret (.int (b' % many))) ⟨[.val (.ref 0), .val (.int many), y, .val (.int (b' % many)), .no], tpS T xs a' (b' / many) c'⟩ := by
      simp [CL.M.bind, CL.M.ret, CL.R.bind, cSeq, cRet, cVar, cOp, cAnd, cOr, cNot, cIf, cAndT, cOrT, cNotT, asB, cB, cNext, cIfS, cSet, CL.CS.put, cChain, dLe, dLt, dGt, dGe, dI2, startC, outF, fnB, cIsi, CL.CS.knOf, tyB, isKn, isTy, CL.M.guard, cTru, dTru, liftF, cCall, cCons, cFor, forL, cEnum, dEnum, cTg, cLc, lcL, wipeC, cWalk, dWalk, cNever, cSetTp, putAll, bLen, cFld, CL.CS.fld, cProp, noExc, CL.CS.clsOf, cCallS, dItems, cLenP, cIxP, CL.CS.see, cApp, CL.CS.pl, CL.CS.wr, CL.Pl.xs, dNeg, cSetIx, cStore, froz, cLst, cCutL, dCutL, cNoPart, cPart, dPart, CL.CS.seqL, bList, CL.M.opt, dIx, tpS, ix2, h, dMod, dDiv, md, hm, ixN4.2.1]
    show outF (cSeq pkA (cSeq pkB pkC) ⟨[.val (.ref 0), .val (.int many), .no, .no, .no], tpS T xs a b c⟩) = _
    rw [cSeq_next e, cSeq_ret e2]
    rfl
  · have b0 : b' = 0 := by omega
    subst b0
    have hs : 0 ≤ c' * c' % 2147483587 ∧ c' * c' % 2147483587 < 2147483587 := ⟨by omega, by omega⟩
    have hn : 0 ≤ (c' * c' % 2147483587 * 30011 + c' * 16807 + 9973) % 2147483587 ∧ (c' * c' % 2147483587 * 30011 + c' * 16807 + 9973) % 2147483587 < 2147483587 := ⟨by omega, by omega⟩
    have e2 : pkB ⟨[.val (.ref 0), .val (.int many), y, .no, .no], tpS T xs a' 0 c'⟩ = .ok .next ⟨[.val (.ref 0), .val (.int many), y, .no, .no], tpS T xs a' 0 c'⟩ := by
      simp [CL.M.bind, CL.M.ret, CL.R.bind, cSeq, cRet, cVar, cOp, cAnd, cOr, cNot, cIf, cAndT, cOrT, cNotT, asB, cB, cNext, cIfS, cSet, CL.CS.put, cChain, dLe, dLt, dGt, dGe, dI2, startC, outF, fnB, cIsi, CL.CS.knOf, tyB, isKn, isTy, CL.M.guard, cTru, dTru, liftF, cCall, cCons, cFor, forL, cEnum, dEnum, cTg, cLc, lcL, wipeC, cWalk, dWalk, cNever, cSetTp, putAll, bLen, cFld, CL.CS.fld, cProp, noExc, CL.CS.clsOf, cCallS, dItems, cLenP, cIxP, CL.CS.see, cApp, CL.CS.pl, CL.CS.wr, CL.Pl.xs, dNeg, cSetIx, cStore, froz, cLst, cCutL, dCutL, cNoPart, cPart, dPart, CL.CS.seqL, bList, CL.M.opt, dIx, tpS, ix2]
    generalize hq : (c' * c' % 2147483587 * 30011 + c' * 16807 + 9973) % 2147483587 = w at hn
    refine ⟨(w / 83 + w % 7919 * 53) % many, tpS T xs a' 0 w, ?_, ⟨T, xs, a', 0, w, rfl, hl, by omega, hn.1, hn.2⟩, Int.emod_nonneg _ (by omega), Int.emod_lt_of_pos _ hm⟩
    have m1 : cMul c' c' = true := by unfold cMul; simp [CL.M.bind, CL.M.ret, CL.R.bind, cSeq, cRet, cVar, cOp, cAnd, cOr, cNot, cIf, cAndT, cOrT, cNotT, asB, cB, cNext, cIfS, cSet, CL.CS.put, cChain, dLe, dLt, dGt, dGe, dI2, startC, outF, fnB, cIsi, CL.CS.knOf, tyB, isKn, isTy, CL.M.guard, cTru, dTru, liftF, cCall, cCons, cFor, forL, cEnum, dEnum, cTg, cLc, lcL, wipeC, cWalk, dWalk, cNever, cSetTp, putAll, bLen, cFld, CL.CS.fld, cProp, noExc, CL.CS.clsOf, cCallS, dItems, cLenP, cIxP, CL.CS.see, cApp, CL.CS.pl, CL.CS.wr, CL.Pl.xs, dNeg, cSetIx, cStore, froz, cLst, cCutL, dCutL, cNoPart, cPart, dPart, CL.CS.seqL, bList, CL.M.opt]; omega
    have m2 : ∀ z : Int, cMul z 30011 = true := fun z => by unfold cMul; simp [CL.M.bind, CL.M.ret, CL.R.bind, cSeq, cRet, cVar, cOp, cAnd, cOr, cNot, cIf, cAndT, cOrT, cNotT, asB, cB, cNext, cIfS, cSet, CL.CS.put, cChain, dLe, dLt, dGt, dGe, dI2, startC, outF, fnB, cIsi, CL.CS.knOf, tyB, isKn, isTy, CL.M.guard, cTru, dTru, liftF, cCall, cCons, cFor, forL, cEnum, dEnum, cTg, cLc, lcL, wipeC, cWalk, dWalk, cNever, cSetTp, putAll, bLen, cFld, CL.CS.fld, cProp, noExc, CL.CS.clsOf, cCallS, dItems, cLenP, cIxP, CL.CS.see, cApp, CL.CS.pl, CL.CS.wr, CL.Pl.xs, dNeg, cSetIx, cStore, froz, cLst, cCutL, dCutL, cNoPart, cPart, dPart, CL.CS.seqL, bList, CL.M.opt]
    have m3 : ∀ z : Int, cMul z 16807 = true := fun z => by unfold cMul; simp [CL.M.bind, CL.M.ret, CL.R.bind, cSeq, cRet, cVar, cOp, cAnd, cOr, cNot, cIf, cAndT, cOrT, cNotT, asB, cB, cNext, cIfS, cSet, CL.CS.put, cChain, dLe, dLt, dGt, dGe, dI2, startC, outF, fnB, cIsi, CL.CS.knOf, tyB, isKn, isTy, CL.M.guard, cTru, dTru, liftF, cCall, cCons, cFor, forL, cEnum, dEnum, cTg, cLc, lcL, wipeC, cWalk, dWalk, cNever, cSetTp, putAll, bLen, cFld, CL.CS.fld, cProp, noExc, CL.CS.clsOf, cCallS, dItems, cLenP, cIxP, CL.CS.see, cApp, CL.CS.pl, CL.CS.wr, CL.Pl.xs, dNeg, cSetIx, cStore, froz, cLst, cCutL, dCutL, cNoPart, cPart, dPart, CL.CS.seqL, bList, CL.M.opt]
    have m4 : ∀ z : Int, cMul z 53 = true := fun z => by unfold cMul; simp [CL.M.bind, CL.M.ret, CL.R.bind, cSeq, cRet, cVar, cOp, cAnd, cOr, cNot, cIf, cAndT, cOrT, cNotT, asB, cB, cNext, cIfS, cSet, CL.CS.put, cChain, dLe, dLt, dGt, dGe, dI2, startC, outF, fnB, cIsi, CL.CS.knOf, tyB, isKn, isTy, CL.M.guard, cTru, dTru, liftF, cCall, cCons, cFor, forL, cEnum, dEnum, cTg, cLc, lcL, wipeC, cWalk, dWalk, cNever, cSetTp, putAll, bLen, cFld, CL.CS.fld, cProp, noExc, CL.CS.clsOf, cCallS, dItems, cLenP, cIxP, CL.CS.see, cApp, CL.CS.pl, CL.CS.wr, CL.Pl.xs, dNeg, cSetIx, cStore, froz, cLst, cCutL, dCutL, cNoPart, cPart, dPart, CL.CS.seqL, bList, CL.M.opt]
    have m5 : ∀ z : Int, cDiv z 83 = true := fun z => by unfold cDiv; simp [CL.M.bind, CL.M.ret, CL.R.bind, cSeq, cRet, cVar, cOp, cAnd, cOr, cNot, cIf, cAndT, cOrT, cNotT, asB, cB, cNext, cIfS, cSet, CL.CS.put, cChain, dLe, dLt, dGt, dGe, dI2, startC, outF, fnB, cIsi, CL.CS.knOf, tyB, isKn, isTy, CL.M.guard, cTru, dTru, liftF, cCall, cCons, cFor, forL, cEnum, dEnum, cTg, cLc, lcL, wipeC, cWalk, dWalk, cNever, cSetTp, putAll, bLen, cFld, CL.CS.fld, cProp, noExc, CL.CS.clsOf, cCallS, dItems, cLenP, cIxP, CL.CS.see, cApp, CL.CS.pl, CL.CS.wr, CL.Pl.xs, dNeg, cSetIx, cStore, froz, cLst, cCutL, dCutL, cNoPart, cPart, dPart, CL.CS.seqL, bList, CL.M.opt]
    have e3 : pkC ⟨[.val (.ref 0), .val (.int many), y, .no, .no], tpS T xs a' 0 c'⟩ = .ok (.ret (.int ((w / 83 + w % 7919 * 53) % many))) ⟨[.val (.ref 0), .val (.int many), y, .no, .val (.int (c' * c' % 2147483587))], tpS T xs a' 0 w⟩ := by
      simp [CL.M.bind, CL.M.ret, CL.R.bind, cSeq, cRet, cVar, cOp, cAnd, cOr, cNot, cIf, cAndT, cOrT, cNotT, asB, cB, cNext, cIfS, cSet, CL.CS.put, cChain, dLe, dLt, dGt, dGe, dI2, startC, outF, fnB, cIsi, CL.CS.knOf, tyB, isKn, isTy, CL.M.guard, cTru, dTru, liftF, cCall, cCons, cFor, forL, cEnum, dEnum, cTg, cLc, lcL, wipeC, cWalk, dWalk, cNever, cSetTp, putAll, bLen, cFld, CL.CS.fld, cProp, noExc, CL.CS.clsOf, cCallS, dItems, cLenP, cIxP, CL.CS.see, cApp, CL.CS.pl, CL.CS.wr, CL.Pl.xs, dNeg, cSetIx, cStore, froz, cLst, cCutL, dCutL, cNoPart, cPart, dPart, CL.CS.seqL, bList, CL.M.opt, dIx, tpS, ix3, dMod, dDiv, dMul, dAdd, m1, m2, m3, m4, m5, hm, ixN4.2.2, hq]
    show outF (cSeq pkA (cSeq pkB pkC) ⟨[.val (.ref 0), .val (.int many), .no, .no, .no], tpS T xs a b c⟩) = _
    rw [cSeq_next e, cSeq_next e2, e3]
    rfl
end K03
namespace K03
open CL PySem
theorem s_rowL (lv top way : Int) (ht : 0 < top) (ht2 : top ≤ 12) (ds : List D) : ∀ (rs : List Int) (S : List O), rs.length + ds.length ≤ 1000 → (∀ r ∈ rs, 1 ≤ r ∧ r ≤ top) → TapeOk S →
    ∃ (rs' : List Int) (S' : List O), lcL (.nm 5) (M.ret true) (cOp dAdd (M.ret (.int 1)) (cCall fn_law_pick (cCons (cVar 0) (cCons (cVar 2) (M.ret []))))) [5] ds (rs.map .int) ⟨[.val (.ref 0), .val (.int lv), .val (.int top), .val (.int way), .no, .no], S⟩ = .ok (rs'.map .int) ⟨[.val (.ref 0), .val (.int lv), .val (.int top), .val (.int way), .no, .no], S'⟩ ∧ TapeOk S' ∧ rs'.length = rs.length + ds.length ∧ ∀ r ∈ rs', 1 ≤ r ∧ r ≤ top := by
  induction ds with
  | nil => intro rs S _ h hS; exact ⟨rs, S, by simp [CL.M.bind, CL.M.ret, CL.R.bind, cSeq, cRet, cVar, cOp, cAnd, cOr, cNot, cIf, cAndT, cOrT, cNotT, asB, cB, cNext, cIfS, cSet, CL.CS.put, cChain, dLe, dLt, dGt, dGe, dI2, startC, outF, fnB, cIsi, CL.CS.knOf, tyB, isKn, isTy, CL.M.guard, cTru, dTru, liftF, cCall, cCons, cFor, forL, cEnum, dEnum, cTg, cLc, lcL, wipeC, cWalk, dWalk, cNever, cSetTp, putAll, bLen, cFld, CL.CS.fld, cProp, noExc, CL.CS.clsOf, cCallS, dItems, cLenP, cIxP, CL.CS.see, cApp, CL.CS.pl, CL.CS.wr, CL.Pl.xs, dNeg, cSetIx, cStore, froz, cLst, cCutL, dCutL, cNoPart, cPart, dPart, CL.CS.seqL, bList, CL.M.opt], hS, by simp [CL.M.bind, CL.M.ret, CL.R.bind, cSeq, cRet, cVar, cOp, cAnd, cOr, cNot, cIf, cAndT, cOrT, cNotT, asB, cB, cNext, cIfS, cSet, CL.CS.put, cChain, dLe, dLt, dGt, dGe, dI2, startC, outF, fnB, cIsi, CL.CS.knOf, tyB, isKn, isTy, CL.M.guard, cTru, dTru, liftF, cCall, cCons, cFor, forL, cEnum, dEnum, cTg, cLc, lcL, wipeC, cWalk, dWalk, cNever, cSetTp, putAll, bLen, cFld, CL.CS.fld, cProp, noExc, CL.CS.clsOf, cCallS, dItems, cLenP, cIxP, CL.CS.see, cApp, CL.CS.pl, CL.CS.wr, CL.Pl.xs, dNeg, cSetIx, cStore, froz, cLst, cCutL, dCutL, cNoPart, cPart, dPart, CL.CS.seqL, bList, CL.M.opt], h⟩
  | cons d ds ih =>
    intro rs S hl h hS
    simp [CL.M.bind, CL.M.ret, CL.R.bind, cSeq, cRet, cVar, cOp, cAnd, cOr, cNot, cIf, cAndT, cOrT, cNotT, asB, cB, cNext, cIfS, cSet, CL.CS.put, cChain, dLe, dLt, dGt, dGe, dI2, startC, outF, fnB, cIsi, CL.CS.knOf, tyB, isKn, isTy, CL.M.guard, cTru, dTru, liftF, cCall, cCons, cFor, forL, cEnum, dEnum, cTg, cLc, lcL, wipeC, cWalk, dWalk, cNever, cSetTp, putAll, bLen, cFld, CL.CS.fld, cProp, noExc, CL.CS.clsOf, cCallS, dItems, cLenP, cIxP, CL.CS.see, cApp, CL.CS.pl, CL.CS.wr, CL.Pl.xs, dNeg, cSetIx, cStore, froz, cLst, cCutL, dCutL, cNoPart, cPart, dPart, CL.CS.seqL, bList, CL.M.opt] at hl
    obtain ⟨v, S', e, hS', v0, v1⟩ := s_pick top S ht (by omega) hS
    obtain ⟨rs', S2, e2, hS2, l2, h2⟩ := ih (rs ++ [1 + v]) S' (by simp [CL.M.bind, CL.M.ret, CL.R.bind, cSeq, cRet, cVar, cOp, cAnd, cOr, cNot, cIf, cAndT, cOrT, cNotT, asB, cB, cNext, cIfS, cSet, CL.CS.put, cChain, dLe, dLt, dGt, dGe, dI2, startC, outF, fnB, cIsi, CL.CS.knOf, tyB, isKn, isTy, CL.M.guard, cTru, dTru, liftF, cCall, cCons, cFor, forL, cEnum, dEnum, cTg, cLc, lcL, wipeC, cWalk, dWalk, cNever, cSetTp, putAll, bLen, cFld, CL.CS.fld, cProp, noExc, CL.CS.clsOf, cCallS, dItems, cLenP, cIxP, CL.CS.see, cApp, CL.CS.pl, CL.CS.wr, CL.Pl.xs, dNeg, cSetIx, cStore, froz, cLst, cCutL, dCutL, cNoPart, cPart, dPart, CL.CS.seqL, bList, CL.M.opt]; omega) (fun r hr => by
      simp [CL.M.bind, CL.M.ret, CL.R.bind, cSeq, cRet, cVar, cOp, cAnd, cOr, cNot, cIf, cAndT, cOrT, cNotT, asB, cB, cNext, cIfS, cSet, CL.CS.put, cChain, dLe, dLt, dGt, dGe, dI2, startC, outF, fnB, cIsi, CL.CS.knOf, tyB, isKn, isTy, CL.M.guard, cTru, dTru, liftF, cCall, cCons, cFor, forL, cEnum, dEnum, cTg, cLc, lcL, wipeC, cWalk, dWalk, cNever, cSetTp, putAll, bLen, cFld, CL.CS.fld, cProp, noExc, CL.CS.clsOf, cCallS, dItems, cLenP, cIxP, CL.CS.see, cApp, CL.CS.pl, CL.CS.wr, CL.Pl.xs, dNeg, cSetIx, cStore, froz, cLst, cCutL, dCutL, cNoPart, cPart, dPart, CL.CS.seqL, bList, CL.M.opt] at hr
      rcases hr with hr | hr
      · exact h r hr
      · omega) hS'
    refine ⟨rs', S2, ?_, hS2, by simp [CL.M.bind, CL.M.ret, CL.R.bind, cSeq, cRet, cVar, cOp, cAnd, cOr, cNot, cIf, cAndT, cOrT, cNotT, asB, cB, cNext, cIfS, cSet, CL.CS.put, cChain, dLe, dLt, dGt, dGe, dI2, startC, outF, fnB, cIsi, CL.CS.knOf, tyB, isKn, isTy, CL.M.guard, cTru, dTru, liftF, cCall, cCons, cFor, forL, cEnum, dEnum, cTg, cLc, lcL, wipeC, cWalk, dWalk, cNever, cSetTp, putAll, bLen, cFld, CL.CS.fld, cProp, noExc, CL.CS.clsOf, cCallS, dItems, cLenP, cIxP, CL.CS.see, cApp, CL.CS.pl, CL.CS.wr, CL.Pl.xs, dNeg, cSetIx, cStore, froz, cLst, cCutL, dCutL, cNoPart, cPart, dPart, CL.CS.seqL, bList, CL.M.opt] at l2 ⊢; omega, h2⟩
    have hz : rs.length < sizeLine := Nat.lt_of_lt_of_le (by omega : rs.length < 1001) (by decide)
    simp [CL.M.bind, CL.M.ret, CL.R.bind, cSeq, cRet, cVar, cOp, cAnd, cOr, cNot, cIf, cAndT, cOrT, cNotT, asB, cB, cNext, cIfS, cSet, CL.CS.put, cChain, dLe, dLt, dGt, dGe, dI2, startC, outF, fnB, cIsi, CL.CS.knOf, tyB, isKn, isTy, CL.M.guard, cTru, dTru, liftF, cCall, cCons, cFor, forL, cEnum, dEnum, cTg, cLc, lcL, wipeC, cWalk, dWalk, cNever, cSetTp, putAll, bLen, cFld, CL.CS.fld, cProp, noExc, CL.CS.clsOf, cCallS, dItems, cLenP, cIxP, CL.CS.see, cApp, CL.CS.pl, CL.CS.wr, CL.Pl.xs, dNeg, cSetIx, cStore, froz, cLst, cCutL, dCutL, cNoPart, cPart, dPart, CL.CS.seqL, bList, CL.M.opt, e, dAdd, hz] at e2 ⊢
    exact e2
theorem eqv_nil (xs : List Int) : PyData.eqv (.list (xs.map .int)) (.list []) = decide (xs = []) := by
  cases xs <;> simp [CL.M.bind, CL.M.ret, CL.R.bind, cSeq, cRet, cVar, cOp, cAnd, cOr, cNot, cIf, cAndT, cOrT, cNotT, asB, cB, cNext, cIfS, cSet, CL.CS.put, cChain, dLe, dLt, dGt, dGe, dI2, startC, outF, fnB, cIsi, CL.CS.knOf, tyB, isKn, isTy, CL.M.guard, cTru, dTru, liftF, cCall, cCons, cFor, forL, cEnum, dEnum, cTg, cLc, lcL, wipeC, cWalk, dWalk, cNever, cSetTp, putAll, bLen, cFld, CL.CS.fld, cProp, noExc, CL.CS.clsOf, cCallS, dItems, cLenP, cIxP, CL.CS.see, cApp, CL.CS.pl, CL.CS.wr, CL.Pl.xs, dNeg, cSetIx, cStore, froz, cLst, cCutL, dCutL, cNoPart, cPart, dPart, CL.CS.seqL, bList, CL.M.opt, PyData.eqv, PyData.eqvAll]
theorem shp_ints (xs : List Int) : SeqAt.shaped (.list (xs.map .int)) = true := by
  have h := dep_ints xs
  unfold SeqAt.shaped
  simp [CL.M.bind, CL.M.ret, CL.R.bind, cSeq, cRet, cVar, cOp, cAnd, cOr, cNot, cIf, cAndT, cOrT, cNotT, asB, cB, cNext, cIfS, cSet, CL.CS.put, cChain, dLe, dLt, dGt, dGe, dI2, startC, outF, fnB, cIsi, CL.CS.knOf, tyB, isKn, isTy, CL.M.guard, cTru, dTru, liftF, cCall, cCons, cFor, forL, cEnum, dEnum, cTg, cLc, lcL, wipeC, cWalk, dWalk, cNever, cSetTp, putAll, bLen, cFld, CL.CS.fld, cProp, noExc, CL.CS.clsOf, cCallS, dItems, cLenP, cIxP, CL.CS.see, cApp, CL.CS.pl, CL.CS.wr, CL.Pl.xs, dNeg, cSetIx, cStore, froz, cLst, cCutL, dCutL, cNoPart, cPart, dPart, CL.CS.seqL, bList, CL.M.opt, PyData.canLay0, lay_ints, PyData.depth]
  omega
theorem s_neP (i : Nat) (xs : List Int) (c : CS) (h : c.see i = some (xs.map .int)) : cEqP true i (froz (cLst (M.ret []))) c = .ok (.bl (!decide (xs = []))) c := by
  have z0 : szOk 0 = true := szOk_small (by omega)
  have e : froz (cLst (M.ret [])) c = .ok (.lst []) c := by simp [CL.M.bind, CL.M.ret, CL.R.bind, cSeq, cRet, cVar, cOp, cAnd, cOr, cNot, cIf, cAndT, cOrT, cNotT, asB, cB, cNext, cIfS, cSet, CL.CS.put, cChain, dLe, dLt, dGt, dGe, dI2, startC, outF, fnB, cIsi, CL.CS.knOf, tyB, isKn, isTy, CL.M.guard, cTru, dTru, liftF, cCall, cCons, cFor, forL, cEnum, dEnum, cTg, cLc, lcL, wipeC, cWalk, dWalk, cNever, cSetTp, putAll, bLen, cFld, CL.CS.fld, cProp, noExc, CL.CS.clsOf, cCallS, dItems, cLenP, cIxP, CL.CS.see, cApp, CL.CS.pl, CL.CS.wr, CL.Pl.xs, dNeg, cSetIx, cStore, froz, cLst, cCutL, dCutL, cNoPart, cPart, dPart, CL.CS.seqL, bList, CL.M.opt, z0]
  have t : toP (.lst []) = some (.list []) := by simp [CL.M.bind, CL.M.ret, CL.R.bind, cSeq, cRet, cVar, cOp, cAnd, cOr, cNot, cIf, cAndT, cOrT, cNotT, asB, cB, cNext, cIfS, cSet, CL.CS.put, cChain, dLe, dLt, dGt, dGe, dI2, startC, outF, fnB, cIsi, CL.CS.knOf, tyB, isKn, isTy, CL.M.guard, cTru, dTru, liftF, cCall, cCons, cFor, forL, cEnum, dEnum, cTg, cLc, lcL, wipeC, cWalk, dWalk, cNever, cSetTp, putAll, bLen, cFld, CL.CS.fld, cProp, noExc, CL.CS.clsOf, cCallS, dItems, cLenP, cIxP, CL.CS.see, cApp, CL.CS.pl, CL.CS.wr, CL.Pl.xs, dNeg, cSetIx, cStore, froz, cLst, cCutL, dCutL, cNoPart, cPart, dPart, CL.CS.seqL, bList, CL.M.opt, toP, toPs]
  have sh0 : SeqAt.shaped (.list []) = true := shp_ints []
  unfold cEqP
  rw [h]
  dsimp only
  rw [e]
  show (match c.see i with
    | some ys => match toPs ys, toP (.lst []) with
      | some ps, some q => M.guard (SeqAt.shaped (.list ps) && SeqAt.shaped q) (M.ret (D.bl (if true then !PyData.eqv (.list ps) q else PyData.eqv (.list ps) q))) c
      | _, _ => .stuck
    | none => .stuck) = _
  rw [h]
  dsimp only
  rw [toPs_int, t]
  dsimp only
  rw [shp_ints, sh0, eqv_nil]
  rfl
theorem sortI_mem {ns : List Int} {x : Int} (h : x ∈ sortI ns) : x ∈ ns := (sortI_perm ns).mem_iff.mp h
theorem sortI_len (ns : List Int) : (sortI ns).length = ns.length := (sortI_perm ns).length_eq
theorem asInts_map (ns : List Int) : asInts (ns.map D.int) = some ns := by
  induction ns with
  | nil => rfl
  | cons b bs ih => simp [CL.M.bind, CL.M.ret, CL.R.bind, cSeq, cRet, cVar, cOp, cAnd, cOr, cNot, cIf, cAndT, cOrT, cNotT, asB, cB, cNext, cIfS, cSet, CL.CS.put, cChain, dLe, dLt, dGt, dGe, dI2, startC, outF, fnB, cIsi, CL.CS.knOf, tyB, isKn, isTy, CL.M.guard, cTru, dTru, liftF, cCall, cCons, cFor, forL, cEnum, dEnum, cTg, cLc, lcL, wipeC, cWalk, dWalk, cNever, cSetTp, putAll, bLen, cFld, CL.CS.fld, cProp, noExc, CL.CS.clsOf, cCallS, dItems, cLenP, cIxP, CL.CS.see, cApp, CL.CS.pl, CL.CS.wr, CL.Pl.xs, dNeg, cSetIx, cStore, froz, cLst, cCutL, dCutL, cNoPart, cPart, dPart, CL.CS.seqL, bList, CL.M.opt, asInts, ih]
theorem rangeD_len (lo : Int) (n : Nat) : (rangeD lo n).length = n := by unfold rangeD; simp [CL.M.bind, CL.M.ret, CL.R.bind, cSeq, cRet, cVar, cOp, cAnd, cOr, cNot, cIf, cAndT, cOrT, cNotT, asB, cB, cNext, cIfS, cSet, CL.CS.put, cChain, dLe, dLt, dGt, dGe, dI2, startC, outF, fnB, cIsi, CL.CS.knOf, tyB, isKn, isTy, CL.M.guard, cTru, dTru, liftF, cCall, cCons, cFor, forL, cEnum, dEnum, cTg, cLc, lcL, wipeC, cWalk, dWalk, cNever, cSetTp, putAll, bLen, cFld, CL.CS.fld, cProp, noExc, CL.CS.clsOf, cCallS, dItems, cLenP, cIxP, CL.CS.see, cApp, CL.CS.pl, CL.CS.wr, CL.Pl.xs, dNeg, cSetIx, cStore, froz, cLst, cCutL, dCutL, cNoPart, cPart, dPart, CL.CS.seqL, bList, CL.M.opt]
theorem s_lrow (lv top : Int) (S : List O) (hv : 0 ≤ lv) (hv2 : lv ≤ 12) (ht : 0 < top) (ht2 : top ≤ 12) (hS : TapeOk S) : ∃ (r : List Int) (S' : List O), fn_law_row [.ref 0, .int lv, .int top] S = .ok (rowD r) S' ∧ TapeOk S' ∧ (r.length : Int) ≤ lv ∧ ∀ x ∈ r, 1 ≤ x ∧ x ≤ top := by
  obtain ⟨way, S1, e1, hS1, w0, w1⟩ := s_pick 4 S (by omega) (by omega) hS
  obtain ⟨n, S2, e2, hS2, n0, n1⟩ := s_pick (lv + 1) S1 (by omega) (by omega) hS1
  obtain ⟨rs, S3, e3, hS3, l3, h3⟩ := s_rowL lv top way ht ht2 (rangeD 0 n.toNat) [] S2 (by rw [rangeD_len]; simp [CL.M.bind, CL.M.ret, CL.R.bind, cSeq, cRet, cVar, cOp, cAnd, cOr, cNot, cIf, cAndT, cOrT, cNotT, asB, cB, cNext, cIfS, cSet, CL.CS.put, cChain, dLe, dLt, dGt, dGe, dI2, startC, outF, fnB, cIsi, CL.CS.knOf, tyB, isKn, isTy, CL.M.guard, cTru, dTru, liftF, cCall, cCons, cFor, forL, cEnum, dEnum, cTg, cLc, lcL, wipeC, cWalk, dWalk, cNever, cSetTp, putAll, bLen, cFld, CL.CS.fld, cProp, noExc, CL.CS.clsOf, cCallS, dItems, cLenP, cIxP, CL.CS.see, cApp, CL.CS.pl, CL.CS.wr, CL.Pl.xs, dNeg, cSetIx, cStore, froz, cLst, cCutL, dCutL, cNoPart, cPart, dPart, CL.CS.seqL, bList, CL.M.opt]; omega) (fun r hr => by simp [CL.M.bind, CL.M.ret, CL.R.bind, cSeq, cRet, cVar, cOp, cAnd, cOr, cNot, cIf, cAndT, cOrT, cNotT, asB, cB, cNext, cIfS, cSet, CL.CS.put, cChain, dLe, dLt, dGt, dGe, dI2, startC, outF, fnB, cIsi, CL.CS.knOf, tyB, isKn, isTy, CL.M.guard, cTru, dTru, liftF, cCall, cCons, cFor, forL, cEnum, dEnum, cTg, cLc, lcL, wipeC, cWalk, dWalk, cNever, cSetTp, putAll, bLen, cFld, CL.CS.fld, cProp, noExc, CL.CS.clsOf, cCallS, dItems, cLenP, cIxP, CL.CS.see, cApp, CL.CS.pl, CL.CS.wr, CL.Pl.xs, dNeg, cSetIx, cStore, froz, cLst, cCutL, dCutL, cNoPart, cPart, dPart, CL.CS.seqL, bList, CL.M.opt] at hr) hS2
  rw [rangeD_len] at l3
  simp [CL.M.bind, CL.M.ret, CL.R.bind, cSeq, cRet, cVar, cOp, cAnd, cOr, cNot, cIf, cAndT, cOrT, cNotT, asB, cB, cNext, cIfS, cSet, CL.CS.put, cChain, dLe, dLt, dGt, dGe, dI2, startC, outF, fnB, cIsi, CL.CS.knOf, tyB, isKn, isTy, CL.M.guard, cTru, dTru, liftF, cCall, cCons, cFor, forL, cEnum, dEnum, cTg, cLc, lcL, wipeC, cWalk, dWalk, cNever, cSetTp, putAll, bLen, cFld, CL.CS.fld, cProp, noExc, CL.CS.clsOf, cCallS, dItems, cLenP, cIxP, CL.CS.see, cApp, CL.CS.pl, CL.CS.wr, CL.Pl.xs, dNeg, cSetIx, cStore, froz, cLst, cCutL, dCutL, cNoPart, cPart, dPart, CL.CS.seqL, bList, CL.M.opt] at l3
  have hf : fitsR n = true := by unfold fitsR; simp [CL.M.bind, CL.M.ret, CL.R.bind, cSeq, cRet, cVar, cOp, cAnd, cOr, cNot, cIf, cAndT, cOrT, cNotT, asB, cB, cNext, cIfS, cSet, CL.CS.put, cChain, dLe, dLt, dGt, dGe, dI2, startC, outF, fnB, cIsi, CL.CS.knOf, tyB, isKn, isTy, CL.M.guard, cTru, dTru, liftF, cCall, cCons, cFor, forL, cEnum, dEnum, cTg, cLc, lcL, wipeC, cWalk, dWalk, cNever, cSetTp, putAll, bLen, cFld, CL.CS.fld, cProp, noExc, CL.CS.clsOf, cCallS, dItems, cLenP, cIxP, CL.CS.see, cApp, CL.CS.pl, CL.CS.wr, CL.Pl.xs, dNeg, cSetIx, cStore, froz, cLst, cCutL, dCutL, cNoPart, cPart, dPart, CL.CS.seqL, bList, CL.M.opt]; omega
  have g1 : cSet 3 (cCall fn_law_pick (cCons (cVar 0) (cCons (M.ret (.int 4)) (M.ret [])))) ⟨[.val (.ref 0), .val (.int lv), .val (.int top), .no, .no, .no], S⟩ = .ok .next ⟨[.val (.ref 0), .val (.int lv), .val (.int top), .val (.int way), .no, .no], S1⟩ := by
    simp [CL.M.bind, CL.M.ret, CL.R.bind, cSeq, cRet, cVar, cOp, cAnd, cOr, cNot, cIf, cAndT, cOrT, cNotT, asB, cB, cNext, cIfS, cSet, CL.CS.put, cChain, dLe, dLt, dGt, dGe, dI2, startC, outF, fnB, cIsi, CL.CS.knOf, tyB, isKn, isTy, CL.M.guard, cTru, dTru, liftF, cCall, cCons, cFor, forL, cEnum, dEnum, cTg, cLc, lcL, wipeC, cWalk, dWalk, cNever, cSetTp, putAll, bLen, cFld, CL.CS.fld, cProp, noExc, CL.CS.clsOf, cCallS, dItems, cLenP, cIxP, CL.CS.see, cApp, CL.CS.pl, CL.CS.wr, CL.Pl.xs, dNeg, cSetIx, cStore, froz, cLst, cCutL, dCutL, cNoPart, cPart, dPart, CL.CS.seqL, bList, CL.M.opt, e1]
  have g2 : cSetL 4 (cLc (cRange1 (cCall fn_law_pick (cCons (cVar 0) (cCons (cOp dAdd (cVar 1) (M.ret (.int 1))) (M.ret []))))) (.nm 5) (M.ret true) (cOp dAdd (M.ret (.int 1)) (cCall fn_law_pick (cCons (cVar 0) (cCons (cVar 2) (M.ret []))))) [5]) ⟨[.val (.ref 0), .val (.int lv), .val (.int top), .val (.int way), .no, .no], S1⟩ = .ok .next ⟨[.val (.ref 0), .val (.int lv), .val (.int top), .val (.int way), .own (.lst (rs.map .int)), .no], S3⟩ := by
    simp [CL.M.bind, CL.M.ret, CL.R.bind, cSeq, cRet, cVar, cOp, cAnd, cOr, cNot, cIf, cAndT, cOrT, cNotT, asB, cB, cNext, cIfS, cSet, CL.CS.put, cChain, dLe, dLt, dGt, dGe, dI2, startC, outF, fnB, cIsi, CL.CS.knOf, tyB, isKn, isTy, CL.M.guard, cTru, dTru, liftF, cCall, cCons, cFor, forL, cEnum, dEnum, cTg, cLc, wipeC, cWalk, dWalk, cNever, cSetTp, putAll, bLen, cFld, CL.CS.fld, cProp, noExc, CL.CS.clsOf, cCallS, dItems, cLenP, cIxP, CL.CS.see, cApp, CL.CS.pl, CL.CS.wr, CL.Pl.xs, dNeg, cSetIx, cStore, froz, cLst, cCutL, dCutL, cNoPart, cPart, dPart, CL.CS.seqL, bList, CL.M.opt, cSetL, cRange1, dAdd, e2, hf] at e3 ⊢
    rw [e3]
    simp [CL.M.bind, CL.M.ret, CL.R.bind, cSeq, cRet, cVar, cOp, cAnd, cOr, cNot, cIf, cAndT, cOrT, cNotT, asB, cB, cNext, cIfS, cSet, CL.CS.put, cChain, dLe, dLt, dGt, dGe, dI2, startC, outF, fnB, cIsi, CL.CS.knOf, tyB, isKn, isTy, CL.M.guard, cTru, dTru, liftF, cCall, cCons, cFor, forL, cEnum, dEnum, cTg, cLc, lcL, wipeC, cWalk, dWalk, cNever, cSetTp, putAll, bLen, cFld, CL.CS.fld, cProp, noExc, CL.CS.clsOf, cCallS, dItems, cLenP, cIxP, CL.CS.see, cApp, CL.CS.pl, CL.CS.wr, CL.Pl.xs, dNeg, cSetIx, cStore, froz, cLst, cCutL, dCutL, cNoPart, cPart, dPart, CL.CS.seqL, bList, CL.M.opt]
  obtain ⟨rs2, g3, l4, h4⟩ : ∃ rs2 : List Int, cIfS (asB (cOp dEq (cVar 3) (M.ret (.int 0)))) (cSeq (cSetL 4 ((cCons (cVar 4) (M.ret [])).bind bSorted)) cNext) cNext ⟨[.val (.ref 0), .val (.int lv), .val (.int top), .val (.int way), .own (.lst (rs.map .int)), .no], S3⟩ = .ok .next ⟨[.val (.ref 0), .val (.int lv), .val (.int top), .val (.int way), .own (.lst (rs2.map .int)), .no], S3⟩ ∧ rs2.length = rs.length ∧ ∀ r ∈ rs2, 1 ≤ r ∧ r ≤ top := by
    by_cases hw : way = 0
    · refine ⟨sortI rs, ?_, sortI_len rs, fun r hr => h3 r (sortI_mem hr)⟩
      simp [CL.M.bind, CL.M.ret, CL.R.bind, cSeq, cRet, cVar, cOp, cAnd, cOr, cNot, cIf, cAndT, cOrT, cNotT, asB, cB, cNext, cIfS, cSet, CL.CS.put, cChain, dLe, dLt, dGt, dGe, dI2, startC, outF, fnB, cIsi, CL.CS.knOf, tyB, isKn, isTy, CL.M.guard, cTru, dTru, liftF, cCall, cCons, cFor, forL, cEnum, dEnum, cTg, cLc, lcL, wipeC, cWalk, dWalk, cNever, cSetTp, putAll, bLen, cFld, CL.CS.fld, cProp, noExc, CL.CS.clsOf, cCallS, dItems, cLenP, cIxP, CL.CS.see, cApp, CL.CS.pl, CL.CS.wr, CL.Pl.xs, dNeg, cSetIx, cStore, froz, cLst, cCutL, dCutL, cNoPart, cPart, dPart, CL.CS.seqL, bList, CL.M.opt, dP_int, hw, cSetL, bSorted, bOne, asInts_map]
    · exact ⟨rs, by simp [CL.M.bind, CL.M.ret, CL.R.bind, cSeq, cRet, cVar, cOp, cAnd, cOr, cNot, cIf, cAndT, cOrT, cNotT, asB, cB, cNext, cIfS, cSet, CL.CS.put, cChain, dLe, dLt, dGt, dGe, dI2, startC, outF, fnB, cIsi, CL.CS.knOf, tyB, isKn, isTy, CL.M.guard, cTru, dTru, liftF, cCall, cCons, cFor, forL, cEnum, dEnum, cTg, cLc, lcL, wipeC, cWalk, dWalk, cNever, cSetTp, putAll, bLen, cFld, CL.CS.fld, cProp, noExc, CL.CS.clsOf, cCallS, dItems, cLenP, cIxP, CL.CS.see, cApp, CL.CS.pl, CL.CS.wr, CL.Pl.xs, dNeg, cSetIx, cStore, froz, cLst, cCutL, dCutL, cNoPart, cPart, dPart, CL.CS.seqL, bList, CL.M.opt, dP_int, hw], rfl, h3⟩
  obtain ⟨rs3, g4, l5, h5⟩ : ∃ rs3 : List Int, cIfS (cAndT (asB (cOp dEq (cVar 3) (M.ret (.int 1)))) (asB (cEqP true 4 (froz (cLst (M.ret [])))))) (cSeq (cSetIx 4 (M.ret (.int 0)) (M.ret (.int 1))) cNext) cNext ⟨[.val (.ref 0), .val (.int lv), .val (.int top), .val (.int way), .own (.lst (rs2.map .int)), .no], S3⟩ = .ok .next ⟨[.val (.ref 0), .val (.int lv), .val (.int top), .val (.int way), .own (.lst (rs3.map .int)), .no], S3⟩ ∧ rs3.length = rs2.length ∧ ∀ r ∈ rs3, 1 ≤ r ∧ r ≤ top := by
    have ne := s_neP 4 rs2 ⟨[.val (.ref 0), .val (.int lv), .val (.int top), .val (.int way), .own (.lst (rs2.map .int)), .no], S3⟩ rfl
    by_cases hw : way = 1
    · subst hw
      cases rs2 with
      | nil => exact ⟨[], by simp [CL.M.bind, CL.M.ret, CL.R.bind, cSeq, cRet, cVar, cOp, cAnd, cOr, cNot, cIf, cAndT, cOrT, cNotT, asB, cB, cNext, cIfS, cSet, CL.CS.put, cChain, dLe, dLt, dGt, dGe, dI2, startC, outF, fnB, cIsi, CL.CS.knOf, tyB, isKn, isTy, CL.M.guard, cTru, dTru, liftF, cCall, cCons, cFor, forL, cEnum, dEnum, cTg, cLc, lcL, wipeC, cWalk, dWalk, cNever, cSetTp, putAll, bLen, cFld, CL.CS.fld, cProp, noExc, CL.CS.clsOf, cCallS, dItems, cLenP, cIxP, CL.CS.see, cApp, CL.CS.pl, CL.CS.wr, CL.Pl.xs, dNeg, cSetIx, cStore, cCutL, dCutL, cNoPart, cPart, dPart, CL.CS.seqL, bList, CL.M.opt, dP_int] at ne ⊢; rw [ne], rfl, fun r hr => by simp [CL.M.bind, CL.M.ret, CL.R.bind, cSeq, cRet, cVar, cOp, cAnd, cOr, cNot, cIf, cAndT, cOrT, cNotT, asB, cB, cNext, cIfS, cSet, CL.CS.put, cChain, dLe, dLt, dGt, dGe, dI2, startC, outF, fnB, cIsi, CL.CS.knOf, tyB, isKn, isTy, CL.M.guard, cTru, dTru, liftF, cCall, cCons, cFor, forL, cEnum, dEnum, cTg, cLc, lcL, wipeC, cWalk, dWalk, cNever, cSetTp, putAll, bLen, cFld, CL.CS.fld, cProp, noExc, CL.CS.clsOf, cCallS, dItems, cLenP, cIxP, CL.CS.see, cApp, CL.CS.pl, CL.CS.wr, CL.Pl.xs, dNeg, cSetIx, cStore, froz, cLst, cCutL, dCutL, cNoPart, cPart, dPart, CL.CS.seqL, bList, CL.M.opt] at hr⟩
      | cons x rs2 =>
        refine ⟨1 :: rs2, ?_, rfl, fun r hr => ?_⟩
        · simp [CL.M.bind, CL.M.ret, CL.R.bind, cSeq, cRet, cVar, cOp, cAnd, cOr, cNot, cIf, cAndT, cOrT, cNotT, asB, cB, cNext, cIfS, cSet, CL.CS.put, cChain, dLe, dLt, dGt, dGe, dI2, startC, outF, fnB, cIsi, CL.CS.knOf, tyB, isKn, isTy, CL.M.guard, cTru, dTru, liftF, cCall, cCons, cFor, forL, cEnum, dEnum, cTg, cLc, lcL, wipeC, cWalk, dWalk, cNever, cSetTp, putAll, bLen, cFld, CL.CS.fld, cProp, noExc, CL.CS.clsOf, cCallS, dItems, cLenP, cIxP, CL.CS.see, cApp, CL.CS.pl, CL.CS.wr, CL.Pl.xs, dNeg, cSetIx, cStore, cCutL, dCutL, cNoPart, cPart, dPart, CL.CS.seqL, bList, CL.M.opt, dP_int] at ne ⊢
          rw [ne]
          simp [CL.M.bind, CL.M.ret, CL.R.bind, cSeq, cRet, cVar, cOp, cAnd, cOr, cNot, cIf, cAndT, cOrT, cNotT, asB, cB, cNext, cIfS, cSet, CL.CS.put, cChain, dLe, dLt, dGt, dGe, dI2, startC, outF, fnB, cIsi, CL.CS.knOf, tyB, isKn, isTy, CL.M.guard, cTru, dTru, liftF, cCall, cCons, cFor, forL, cEnum, dEnum, cTg, cLc, lcL, wipeC, cWalk, dWalk, cNever, cSetTp, putAll, bLen, cFld, CL.CS.fld, cProp, noExc, CL.CS.clsOf, cCallS, dItems, cLenP, cIxP, CL.CS.see, cApp, CL.CS.pl, CL.CS.wr, CL.Pl.xs, dNeg, cSetIx, cStore, froz, cLst, cCutL, dCutL, cNoPart, cPart, dPart, CL.CS.seqL, bList, CL.M.opt, L2.ixN]
        · simp [CL.M.bind, CL.M.ret, CL.R.bind, cSeq, cRet, cVar, cOp, cAnd, cOr, cNot, cIf, cAndT, cOrT, cNotT, asB, cB, cNext, cIfS, cSet, CL.CS.put, cChain, dLe, dLt, dGt, dGe, dI2, startC, outF, fnB, cIsi, CL.CS.knOf, tyB, isKn, isTy, CL.M.guard, cTru, dTru, liftF, cCall, cCons, cFor, forL, cEnum, dEnum, cTg, cLc, lcL, wipeC, cWalk, dWalk, cNever, cSetTp, putAll, bLen, cFld, CL.CS.fld, cProp, noExc, CL.CS.clsOf, cCallS, dItems, cLenP, cIxP, CL.CS.see, cApp, CL.CS.pl, CL.CS.wr, CL.Pl.xs, dNeg, cSetIx, cStore, froz, cLst, cCutL, dCutL, cNoPart, cPart, dPart, CL.CS.seqL, bList, CL.M.opt] at hr
          rcases hr with hr | hr
          · omega
          · exact h4 r (by simp [CL.M.bind, CL.M.ret, CL.R.bind, cSeq, cRet, cVar, cOp, cAnd, cOr, cNot, cIf, cAndT, cOrT, cNotT, asB, cB, cNext, cIfS, cSet, CL.CS.put, cChain, dLe, dLt, dGt, dGe, dI2, startC, outF, fnB, cIsi, CL.CS.knOf, tyB, isKn, isTy, CL.M.guard, cTru, dTru, liftF, cCall, cCons, cFor, forL, cEnum, dEnum, cTg, cLc, lcL, wipeC, cWalk, dWalk, cNever, cSetTp, putAll, bLen, cFld, CL.CS.fld, cProp, noExc, CL.CS.clsOf, cCallS, dItems, cLenP, cIxP, CL.CS.see, cApp, CL.CS.pl, CL.CS.wr, CL.Pl.xs, dNeg, cSetIx, cStore, froz, cLst, cCutL, dCutL, cNoPart, cPart, dPart, CL.CS.seqL, bList, CL.M.opt, hr])
    · exact ⟨rs2, by simp [CL.M.bind, CL.M.ret, CL.R.bind, cSeq, cRet, cVar, cOp, cAnd, cOr, cNot, cIf, cAndT, cOrT, cNotT, asB, cB, cNext, cIfS, cSet, CL.CS.put, cChain, dLe, dLt, dGt, dGe, dI2, startC, outF, fnB, cIsi, CL.CS.knOf, tyB, isKn, isTy, CL.M.guard, cTru, dTru, liftF, cCall, cCons, cFor, forL, cEnum, dEnum, cTg, cLc, lcL, wipeC, cWalk, dWalk, cNever, cSetTp, putAll, bLen, cFld, CL.CS.fld, cProp, noExc, CL.CS.clsOf, cCallS, dItems, cLenP, cIxP, CL.CS.see, cApp, CL.CS.pl, CL.CS.wr, CL.Pl.xs, dNeg, cSetIx, cStore, froz, cLst, cCutL, dCutL, cNoPart, cPart, dPart, CL.CS.seqL, bList, CL.M.opt, dP_int, hw], rfl, h4⟩
  refine ⟨rs3, S3, ?_, hS3, by omega, h5⟩
  show outF (cSeq _ (cSeq _ (cSeq _ (cSeq _ (cSeq _ _)))) ⟨[.val (.ref 0), .val (.int lv), .val (.int top), .no, .no, .no], S⟩) = _
  rw [cSeq_next g1, cSeq_next g2, cSeq_next g3, cSeq_next g4]
  simp [CL.M.bind, CL.M.ret, CL.R.bind, cSeq, cRet, cVar, cOp, cAnd, cOr, cNot, cIf, cAndT, cOrT, cNotT, asB, cB, cNext, cIfS, cSet, CL.CS.put, cChain, dLe, dLt, dGt, dGe, dI2, startC, outF, fnB, cIsi, CL.CS.knOf, tyB, isKn, isTy, CL.M.guard, cTru, dTru, liftF, cCall, cCons, cFor, forL, cEnum, dEnum, cTg, cLc, lcL, wipeC, cWalk, dWalk, cNever, cSetTp, putAll, bLen, cFld, CL.CS.fld, cProp, noExc, CL.CS.clsOf, cCallS, dItems, cLenP, cIxP, CL.CS.see, cApp, CL.CS.pl, CL.CS.wr, CL.Pl.xs, dNeg, cSetIx, cStore, froz, cLst, cCutL, dCutL, cNoPart, cPart, dPart, CL.CS.seqL, bList, CL.M.opt, bTuple, rowD]
end K03
namespace K03
open CL PySem
def plD : Nat → D → Prop
  | _, .non => True
  | _, .bl _ => True
  | _, .int _ => True
  | _, .str x => SeqAt.shaped (.str x) = true
  | n + 1, .tup xs => xs.length ≤ 1000 ∧ ∀ x ∈ xs, plD n x
  | n + 1, .lst xs => xs.length ≤ 1000 ∧ ∀ x ∈ xs, plD n x
  | _, _ => False
theorem shp_bl (b : Bool) : SeqAt.shaped (.bool b) = true := by
  unfold SeqAt.shaped
  simp [CL.M.bind, CL.M.ret, CL.R.bind, cSeq, cRet, cVar, cOp, cAnd, cOr, cNot, cIf, cAndT, cOrT, cNotT, asB, cB, cNext, cIfS, cSet, CL.CS.put, cChain, dLe, dLt, dGt, dGe, dI2, startC, outF, fnB, cIsi, CL.CS.knOf, tyB, isKn, isTy, CL.M.guard, cTru, dTru, liftF, cCall, cCons, cFor, forL, cEnum, dEnum, cTg, cLc, lcL, wipeC, cWalk, dWalk, cNever, cSetTp, putAll, bLen, cFld, CL.CS.fld, cProp, noExc, CL.CS.clsOf, cCallS, dItems, cLenP, cIxP, CL.CS.see, cApp, CL.CS.pl, CL.CS.wr, CL.Pl.xs, dNeg, cSetIx, cStore, froz, cLst, cCutL, dCutL, cNoPart, cPart, dPart, CL.CS.seqL, bList, CL.M.opt, PyData.canLay0, PyData.depth]
theorem dP_bl (a b : Bool) (c : CS) : dP2 (fun p q => .bl (PyData.eqv p q)) (.bl a) (.bl b) c = .ok (.bl (a == b)) c := by
  have e : PyData.eqv (.bool a) (.bool b) = (a == b) := by simp [CL.M.bind, CL.M.ret, CL.R.bind, cSeq, cRet, cVar, cOp, cAnd, cOr, cNot, cIf, cAndT, cOrT, cNotT, asB, cB, cNext, cIfS, cSet, CL.CS.put, cChain, dLe, dLt, dGt, dGe, dI2, startC, outF, fnB, cIsi, CL.CS.knOf, tyB, isKn, isTy, CL.M.guard, cTru, dTru, liftF, cCall, cCons, cFor, forL, cEnum, dEnum, cTg, cLc, lcL, wipeC, cWalk, dWalk, cNever, cSetTp, putAll, bLen, cFld, CL.CS.fld, cProp, noExc, CL.CS.clsOf, cCallS, dItems, cLenP, cIxP, CL.CS.see, cApp, CL.CS.pl, CL.CS.wr, CL.Pl.xs, dNeg, cSetIx, cStore, froz, cLst, cCutL, dCutL, cNoPart, cPart, dPart, CL.CS.seqL, bList, CL.M.opt, PyData.eqv]
  show (match toP (.bl a), toP (.bl b) with
    | some p, some q => M.guard (SeqAt.shaped p && SeqAt.shaped q) (M.ret (D.bl (PyData.eqv p q)))
    | _, _ => fun _ => .stuck : M D) c = _
  have t : ∀ b, toP (.bl b) = some (.bool b) := fun b => by simp [CL.M.bind, CL.M.ret, CL.R.bind, cSeq, cRet, cVar, cOp, cAnd, cOr, cNot, cIf, cAndT, cOrT, cNotT, asB, cB, cNext, cIfS, cSet, CL.CS.put, cChain, dLe, dLt, dGt, dGe, dI2, startC, outF, fnB, cIsi, CL.CS.knOf, tyB, isKn, isTy, CL.M.guard, cTru, dTru, liftF, cCall, cCons, cFor, forL, cEnum, dEnum, cTg, cLc, lcL, wipeC, cWalk, dWalk, cNever, cSetTp, putAll, bLen, cFld, CL.CS.fld, cProp, noExc, CL.CS.clsOf, cCallS, dItems, cLenP, cIxP, CL.CS.see, cApp, CL.CS.pl, CL.CS.wr, CL.Pl.xs, dNeg, cSetIx, cStore, froz, cLst, cCutL, dCutL, cNoPart, cPart, dPart, CL.CS.seqL, bList, CL.M.opt, toP]
  rw [t, t]
  dsimp only
  rw [shp_bl, shp_bl, e]
  rfl
theorem dN_bl (a b : Bool) (c : CS) : dP2 (fun p q => .bl (!PyData.eqv p q)) (.bl a) (.bl b) c = .ok (.bl (a != b)) c := by
  have e : PyData.eqv (.bool a) (.bool b) = (a == b) := by simp [CL.M.bind, CL.M.ret, CL.R.bind, cSeq, cRet, cVar, cOp, cAnd, cOr, cNot, cIf, cAndT, cOrT, cNotT, asB, cB, cNext, cIfS, cSet, CL.CS.put, cChain, dLe, dLt, dGt, dGe, dI2, startC, outF, fnB, cIsi, CL.CS.knOf, tyB, isKn, isTy, CL.M.guard, cTru, dTru, liftF, cCall, cCons, cFor, forL, cEnum, dEnum, cTg, cLc, lcL, wipeC, cWalk, dWalk, cNever, cSetTp, putAll, bLen, cFld, CL.CS.fld, cProp, noExc, CL.CS.clsOf, cCallS, dItems, cLenP, cIxP, CL.CS.see, cApp, CL.CS.pl, CL.CS.wr, CL.Pl.xs, dNeg, cSetIx, cStore, froz, cLst, cCutL, dCutL, cNoPart, cPart, dPart, CL.CS.seqL, bList, CL.M.opt, PyData.eqv]
  show (match toP (.bl a), toP (.bl b) with
    | some p, some q => M.guard (SeqAt.shaped p && SeqAt.shaped q) (M.ret (D.bl (!PyData.eqv p q)))
    | _, _ => fun _ => .stuck : M D) c = _
  have t : ∀ b, toP (.bl b) = some (.bool b) := fun b => by simp [CL.M.bind, CL.M.ret, CL.R.bind, cSeq, cRet, cVar, cOp, cAnd, cOr, cNot, cIf, cAndT, cOrT, cNotT, asB, cB, cNext, cIfS, cSet, CL.CS.put, cChain, dLe, dLt, dGt, dGe, dI2, startC, outF, fnB, cIsi, CL.CS.knOf, tyB, isKn, isTy, CL.M.guard, cTru, dTru, liftF, cCall, cCons, cFor, forL, cEnum, dEnum, cTg, cLc, lcL, wipeC, cWalk, dWalk, cNever, cSetTp, putAll, bLen, cFld, CL.CS.fld, cProp, noExc, CL.CS.clsOf, cCallS, dItems, cLenP, cIxP, CL.CS.see, cApp, CL.CS.pl, CL.CS.wr, CL.Pl.xs, dNeg, cSetIx, cStore, froz, cLst, cCutL, dCutL, cNoPart, cPart, dPart, CL.CS.seqL, bList, CL.M.opt, toP]
  rw [t, t]
  dsimp only
  rw [shp_bl, shp_bl, e]
  rfl
theorem dP_str (x : Str) (h : SeqAt.shaped (.str x) = true) (c : CS) : dP2 (fun p q => .bl (PyData.eqv p q)) (.str x) (.str x) c = .ok (.bl true) c := by
  have e : PyData.eqv (.str x) (.str x) = true := by simp [CL.M.bind, CL.M.ret, CL.R.bind, cSeq, cRet, cVar, cOp, cAnd, cOr, cNot, cIf, cAndT, cOrT, cNotT, asB, cB, cNext, cIfS, cSet, CL.CS.put, cChain, dLe, dLt, dGt, dGe, dI2, startC, outF, fnB, cIsi, CL.CS.knOf, tyB, isKn, isTy, CL.M.guard, cTru, dTru, liftF, cCall, cCons, cFor, forL, cEnum, dEnum, cTg, cLc, lcL, wipeC, cWalk, dWalk, cNever, cSetTp, putAll, bLen, cFld, CL.CS.fld, cProp, noExc, CL.CS.clsOf, cCallS, dItems, cLenP, cIxP, CL.CS.see, cApp, CL.CS.pl, CL.CS.wr, CL.Pl.xs, dNeg, cSetIx, cStore, froz, cLst, cCutL, dCutL, cNoPart, cPart, dPart, CL.CS.seqL, bList, CL.M.opt, PyData.eqv]
  show (match toP (.str x), toP (.str x) with
    | some p, some q => M.guard (SeqAt.shaped p && SeqAt.shaped q) (M.ret (D.bl (PyData.eqv p q)))
    | _, _ => fun _ => .stuck : M D) c = _
  have t : toP (.str x) = some (.str x) := by simp [CL.M.bind, CL.M.ret, CL.R.bind, cSeq, cRet, cVar, cOp, cAnd, cOr, cNot, cIf, cAndT, cOrT, cNotT, asB, cB, cNext, cIfS, cSet, CL.CS.put, cChain, dLe, dLt, dGt, dGe, dI2, startC, outF, fnB, cIsi, CL.CS.knOf, tyB, isKn, isTy, CL.M.guard, cTru, dTru, liftF, cCall, cCons, cFor, forL, cEnum, dEnum, cTg, cLc, lcL, wipeC, cWalk, dWalk, cNever, cSetTp, putAll, bLen, cFld, CL.CS.fld, cProp, noExc, CL.CS.clsOf, cCallS, dItems, cLenP, cIxP, CL.CS.see, cApp, CL.CS.pl, CL.CS.wr, CL.Pl.xs, dNeg, cSetIx, cStore, froz, cLst, cCutL, dCutL, cNoPart, cPart, dPart, CL.CS.seqL, bList, CL.M.opt, toP]
  rw [t]
  dsimp only
  rw [h, e]
  rfl

theorem lcLG_t {pc : CS → Bool} {t : Tg} {ft : M Bool} {fe : M D} {vs : List Nat} {d y : D} {ds acc : List D} {c c1 c2 c3 : CS} (ep : pc c = true) (e1 : cTg t d c = .ok .next c1) (e2 : ft c1 = .ok true c2) (e3 : fe c2 = .ok y c3) (hz : acc.length < sizeLine) : lcLG pc t ft fe vs (d :: ds) acc c = lcLG pc t ft fe vs ds (acc ++ [y]) (wipeC vs c3) := by
  rw [lcLG]
  dsimp only
  rw [ep]
  dsimp only
  rw [e1]
  dsimp only
  rw [e2]
  dsimp only
  rw [e3]
  dsimp only
  rw [decide_eq_true hz]
  rfl
theorem s_sameL (n : Nat) (ih : ∀ (d : D) (S : List O), plD n d → fn_law_same (n + 1) [d, d] S = .ok (.bl true) S) (pc : CS → Bool) (a b : Sl) (S : List O) (hp : ∀ sl, pc ⟨sl, S⟩ = true) (xs : List D) : ∀ (acc : List D), acc.length + xs.length ≤ 1000 → (∀ x ∈ xs, plD n x) →
    lcLG pc (.tp [2, 3]) (M.ret true) (cCall (fn_law_same (n + 1)) (cCons (cVar 2) (cCons (cVar 3) (M.ret [])))) [2, 3] (zipD xs xs) acc ⟨[a, b, .no, .no], S⟩ = .ok (acc ++ List.replicate xs.length (.bl true)) ⟨[a, b, .no, .no], S⟩ := by
  induction xs with
  | nil =>
    intro acc _ _
    show lcLG pc _ _ _ _ [] acc _ = _
    rw [lcLG]
    dsimp only
    rw [hp]
    simp [CL.M.bind, CL.M.ret, CL.R.bind, cSeq, cRet, cVar, cOp, cAnd, cOr, cNot, cIf, cAndT, cOrT, cNotT, asB, cB, cNext, cIfS, cSet, CL.CS.put, cChain, dLe, dLt, dGt, dGe, dI2, startC, outF, fnB, cIsi, CL.CS.knOf, tyB, isKn, isTy, CL.M.guard, cTru, dTru, liftF, cCall, cCons, cFor, forL, cEnum, dEnum, cTg, cLc, lcL, wipeC, cWalk, dWalk, cNever, cSetTp, putAll, bLen, cFld, CL.CS.fld, cProp, noExc, CL.CS.clsOf, cCallS, dItems, cLenP, cIxP, CL.CS.see, cApp, CL.CS.pl, CL.CS.wr, CL.Pl.xs, dNeg, cSetIx, cStore, froz, cLst, cCutL, dCutL, cNoPart, cPart, dPart, CL.CS.seqL, bList, CL.M.opt, dIs, cIsiT, CL.D.isNon]
  | cons x xs ihx =>
    intro acc hl hx
    rw [List.length_cons] at hl
    have e1 := ihx (acc ++ [.bl true]) (by rw [List.length_append]; simp [CL.M.bind, CL.M.ret, CL.R.bind, cSeq, cRet, cVar, cOp, cAnd, cOr, cNot, cIf, cAndT, cOrT, cNotT, asB, cB, cNext, cIfS, cSet, CL.CS.put, cChain, dLe, dLt, dGt, dGe, dI2, startC, outF, fnB, cIsi, CL.CS.knOf, tyB, isKn, isTy, CL.M.guard, cTru, dTru, liftF, cCall, cCons, cFor, forL, cEnum, dEnum, cTg, cLc, lcL, wipeC, cWalk, dWalk, cNever, cSetTp, putAll, bLen, cFld, CL.CS.fld, cProp, noExc, CL.CS.clsOf, cCallS, dItems, cLenP, cIxP, CL.CS.see, cApp, CL.CS.pl, CL.CS.wr, CL.Pl.xs, dNeg, cSetIx, cStore, froz, cLst, cCutL, dCutL, cNoPart, cPart, dPart, CL.CS.seqL, bList, CL.M.opt, dIs, cIsiT, CL.D.isNon]; omega) (fun y hy => hx y (by simp [CL.M.bind, CL.M.ret, CL.R.bind, cSeq, cRet, cVar, cOp, cAnd, cOr, cNot, cIf, cAndT, cOrT, cNotT, asB, cB, cNext, cIfS, cSet, CL.CS.put, cChain, dLe, dLt, dGt, dGe, dI2, startC, outF, fnB, cIsi, CL.CS.knOf, tyB, isKn, isTy, CL.M.guard, cTru, dTru, liftF, cCall, cCons, cFor, forL, cEnum, dEnum, cTg, cLc, lcL, wipeC, cWalk, dWalk, cNever, cSetTp, putAll, bLen, cFld, CL.CS.fld, cProp, noExc, CL.CS.clsOf, cCallS, dItems, cLenP, cIxP, CL.CS.see, cApp, CL.CS.pl, CL.CS.wr, CL.Pl.xs, dNeg, cSetIx, cStore, froz, cLst, cCutL, dCutL, cNoPart, cPart, dPart, CL.CS.seqL, bList, CL.M.opt, dIs, cIsiT, CL.D.isNon, hy]))
    have hz : acc.length < sizeLine := Nat.lt_of_lt_of_le (by omega : acc.length < 1001) (by decide)
    have z : cCall (fn_law_same (n + 1)) (cCons (cVar 2) (cCons (cVar 3) (M.ret []))) ⟨[a, b, .val x, .val x], S⟩ = .ok (.bl true) ⟨[a, b, .val x, .val x], S⟩ := by
      refine (call2_of (x := x) (y := x) (c1 := ⟨[a, b, .val x, .val x], S⟩) (c2 := ⟨[a, b, .val x, .val x], S⟩) rfl rfl).trans ?_
      show liftF (fn_law_same (n + 1) [x, x] S) _ = _
      rw [ih x S (hx x (by simp [CL.M.bind, CL.M.ret, CL.R.bind, cSeq, cRet, cVar, cOp, cAnd, cOr, cNot, cIf, cAndT, cOrT, cNotT, asB, cB, cNext, cIfS, cSet, CL.CS.put, cChain, dLe, dLt, dGt, dGe, dI2, startC, outF, fnB, cIsi, CL.CS.knOf, tyB, isKn, isTy, CL.M.guard, cTru, dTru, liftF, cCall, cCons, cFor, forL, cEnum, dEnum, cTg, cLc, lcL, wipeC, cWalk, dWalk, cNever, cSetTp, putAll, bLen, cFld, CL.CS.fld, cProp, noExc, CL.CS.clsOf, cCallS, dItems, cLenP, cIxP, CL.CS.see, cApp, CL.CS.pl, CL.CS.wr, CL.Pl.xs, dNeg, cSetIx, cStore, froz, cLst, cCutL, dCutL, cNoPart, cPart, dPart, CL.CS.seqL, bList, CL.M.opt, dIs, cIsiT, CL.D.isNon]))]
      rfl
    have ez : zipD (x :: xs) (x :: xs) = .tup [x, x] :: zipD xs xs := rfl
    rw [ez]
    refine (lcLG_t (c1 := ⟨[a, b, .val x, .val x], S⟩) (hp _) rfl rfl z hz).trans ?_
    refine Eq.trans e1 ?_
    rw [List.append_assoc]
    rfl
theorem s_sameS (n : Nat) (d : D) (S : List O) (h : plD 0 d) : fn_law_same (n + 1) [d, d] S = .ok (.bl true) S := by
  cases d with
  | non => simp [CL.M.bind, CL.M.ret, CL.R.bind, cSeq, cRet, cVar, cOp, cAnd, cOr, cNot, cIf, cAndT, cOrT, cNotT, asB, cB, cNext, cIfS, cSet, CL.CS.put, cChain, dLe, dLt, dGt, dGe, dI2, startC, outF, fnB, cIsi, CL.CS.knOf, tyB, isKn, isTy, CL.M.guard, cTru, dTru, liftF, cCall, cCons, cFor, forL, cEnum, dEnum, cTg, cLc, lcL, wipeC, cWalk, dWalk, cNever, cSetTp, putAll, bLen, cFld, CL.CS.fld, cProp, noExc, CL.CS.clsOf, cCallS, dItems, cLenP, cIxP, CL.CS.see, cApp, CL.CS.pl, CL.CS.wr, CL.Pl.xs, dNeg, cSetIx, cStore, froz, cLst, cCutL, dCutL, cNoPart, cPart, dPart, CL.CS.seqL, bList, CL.M.opt, dIs, cIsiT, CL.D.isNon, fn_law_same, cl_law_same]
  | bl b => simp [CL.M.bind, CL.M.ret, CL.R.bind, cSeq, cRet, cVar, cOp, cAnd, cOr, cNot, cIf, cAndT, cOrT, cNotT, asB, cB, cNext, cIfS, cSet, CL.CS.put, cChain, dLe, dLt, dGt, dGe, dI2, startC, outF, fnB, cIsi, CL.CS.knOf, tyB, isKn, isTy, CL.M.guard, cTru, dTru, liftF, cCall, cCons, cFor, forL, cEnum, dEnum, cTg, cLc, lcL, wipeC, cWalk, dWalk, cNever, cSetTp, putAll, bLen, cFld, CL.CS.fld, cProp, noExc, CL.CS.clsOf, cCallS, dItems, cLenP, cIxP, CL.CS.see, cApp, CL.CS.pl, CL.CS.wr, CL.Pl.xs, dNeg, cSetIx, cStore, froz, cLst, cCutL, dCutL, cNoPart, cPart, dPart, CL.CS.seqL, bList, CL.M.opt, dIs, cIsiT, CL.D.isNon, fn_law_same, cl_law_same, dN_bl, dP_bl]
  | int i => simp [CL.M.bind, CL.M.ret, CL.R.bind, cSeq, cRet, cVar, cOp, cAnd, cOr, cNot, cIf, cAndT, cOrT, cNotT, asB, cB, cNext, cIfS, cSet, CL.CS.put, cChain, dLe, dLt, dGt, dGe, dI2, startC, outF, fnB, cIsi, CL.CS.knOf, tyB, isKn, isTy, CL.M.guard, cTru, dTru, liftF, cCall, cCons, cFor, forL, cEnum, dEnum, cTg, cLc, lcL, wipeC, cWalk, dWalk, cNever, cSetTp, putAll, bLen, cFld, CL.CS.fld, cProp, noExc, CL.CS.clsOf, cCallS, dItems, cLenP, cIxP, CL.CS.see, cApp, CL.CS.pl, CL.CS.wr, CL.Pl.xs, dNeg, cSetIx, cStore, froz, cLst, cCutL, dCutL, cNoPart, cPart, dPart, CL.CS.seqL, bList, CL.M.opt, dIs, cIsiT, CL.D.isNon, fn_law_same, cl_law_same, dN_bl, dP_bl, dP_int]
  | str x =>
    have hx : SeqAt.shaped (.str x) = true := h
    simp [CL.M.bind, CL.M.ret, CL.R.bind, cSeq, cRet, cVar, cOp, cAnd, cOr, cNot, cIf, cAndT, cOrT, cNotT, asB, cB, cNext, cIfS, cSet, CL.CS.put, cChain, dLe, dLt, dGt, dGe, dI2, startC, outF, fnB, cIsi, CL.CS.knOf, tyB, isKn, isTy, CL.M.guard, cTru, dTru, liftF, cCall, cCons, cFor, forL, cEnum, dEnum, cTg, cLc, lcL, wipeC, cWalk, dWalk, cNever, cSetTp, putAll, bLen, cFld, CL.CS.fld, cProp, noExc, CL.CS.clsOf, cCallS, dItems, cLenP, cIxP, CL.CS.see, cApp, CL.CS.pl, CL.CS.wr, CL.Pl.xs, dNeg, cSetIx, cStore, froz, cLst, cCutL, dCutL, cNoPart, cPart, dPart, CL.CS.seqL, bList, CL.M.opt, dIs, cIsiT, CL.D.isNon, fn_law_same, cl_law_same, dN_bl, dP_bl, dP_str x hx]
  | _ => exact h.elim
theorem isAt_lst (l : List D) (c : CS) : isAt (.lst l) l c = true := isAt_iff.mpr rfl
theorem lcG_of {fi : M (List D × (CS → Bool))} {tg : Tg} {ft : M Bool} {fe : M D} {vs : List Nat} {ds ys : List D} {pc : CS → Bool} {c c1 c2 : CS} (ei : fi c = .ok (ds, pc) c1) (e : lcLG pc tg ft fe vs ds [] (wipeC vs c1) = .ok ys c2) : cLcG fi tg ft fe vs c = .ok ys c2 := by
  show (fi c).bind _ = _
  rw [ei]
  exact e
theorem zipG_lst {fa fb : M D} {c c1 c2 : CS} {x y : D} {xs ys : List D} (ea : fa c = .ok x c1) (eb : fb c1 = .ok y c2) (ex : c2.seqL x = some xs) (ey : c2.seqL y = some ys) : cZipG fa fb c = .ok (zipD xs ys, fun c => isAt x xs c && isAt y ys c) c2 := by
  show (fa c).bind _ = _
  rw [ea]
  show (fb c1).bind _ = _
  rw [eb]
  show dZipG x y c2 = _
  unfold dZipG
  rw [ex, ey]
theorem zipG_tup {fa fb : M D} {c c1 c2 : CS} {xs ys : List D} (ea : fa c = .ok (.tup xs) c1) (eb : fb c1 = .ok (.tup ys) c2) : cZipG fa fb c = .ok (zipD xs ys, fun _ => true) c2 := by
  show (fa c).bind _ = _
  rw [ea]
  show (fb c1).bind _ = _
  rw [eb]
  rfl
theorem s_sameC (n : Nat) (ih : ∀ (d : D) (S : List O), plD n d → fn_law_same (n + 1) [d, d] S = .ok (.bl true) S) (u v : D) (xs : List D) (S : List O) (hl : xs.length ≤ 1000) (hx : ∀ x ∈ xs, plD n x)
    (h : (∃ l1 l2, u = .tup l1 ∧ v = .tup l2 ∧ l1 = xs ∧ l2 = xs) ∨ ∃ i : Nat, (u = .lst xs ∨ (u = .ref i ∧ S[i]? = some (.lst xs))) ∧ v = .lst xs) : fn_law_same (n + 2) [u, v] S = .ok (.bl true) S := by
  have zl : szOk xs.length = true := szOk_small hl
  have ab := asBls_map (List.replicate xs.length true)
  rw [List.map_replicate] at ab
  have al : bAll [D.lst (List.replicate xs.length (D.bl true))] ⟨[.val u, .val v, .no, .no], S⟩ = .ok (.bl true) ⟨[.val u, .val v, .no, .no], S⟩ := by
    unfold bAll bOne
    dsimp only
    have sq : CS.seqL ⟨[.val u, .val v, .no, .no], S⟩ (D.lst (List.replicate xs.length (D.bl true))) = some (List.replicate xs.length (D.bl true)) := rfl
    rw [sq, Option.bind_some, ab]
    show R.ok (D.bl ((List.replicate xs.length true).all id)) _ = _
    have : (List.replicate xs.length true).all id = true := by
      rw [List.all_eq_true]
      intro b hb
      exact (List.mem_replicate.mp hb).2
    rw [this]
  have body : ∀ pc, (∀ sl, pc ⟨sl, S⟩ = true) → cZipG (cVar 0) (cVar 1) ⟨[.val u, .val v, .no, .no], S⟩ = .ok (zipD xs xs, pc) ⟨[.val u, .val v, .no, .no], S⟩ → ((cCons (froz (cLcG (cZipG (cVar 0) (cVar 1)) (.tp [2, 3]) (M.ret true) (cCall (fn_law_same (n + 1)) (cCons (cVar 2) (cCons (cVar 3) (M.ret [])))) [2, 3])) (M.ret [])).bind bAll) ⟨[.val u, .val v, .no, .no], S⟩ = .ok (.bl true) ⟨[.val u, .val v, .no, .no], S⟩ := fun pc hp hz => by
    have e := s_sameL n ih pc (.val u) (.val v) S hp xs [] (by simpa using hl) hx
    rw [List.nil_append] at e
    show ((cCons _ _) _).bind bAll = _
    rw [cons_of (froz_of (lcG_of hz e)) nilA]
    exact al
  have key : ∀ (p q : Bool) pc, (∀ sl, pc ⟨sl, S⟩ = true) → cZipG (cVar 0) (cVar 1) ⟨[.val u, .val v, .no, .no], S⟩ = .ok (zipD xs xs, pc) ⟨[.val u, .val v, .no, .no], S⟩ →
      cOp dIs (cVar 1) (M.ret .non) ⟨[.val u, .val v, .no, .no], S⟩ = .ok (.bl false) ⟨[.val u, .val v, .no, .no], S⟩ → cOp dIs (cVar 0) (M.ret .non) ⟨[.val u, .val v, .no, .no], S⟩ = .ok (.bl false) ⟨[.val u, .val v, .no, .no], S⟩ →
      cIsiT [.ty .lst, .ty .tup] (cVar 1) ⟨[.val u, .val v, .no, .no], S⟩ = .ok (.bl true) ⟨[.val u, .val v, .no, .no], S⟩ →
      cIsi (.ty .lst) (cVar 0) ⟨[.val u, .val v, .no, .no], S⟩ = .ok (.bl p) ⟨[.val u, .val v, .no, .no], S⟩ → cIsi (.ty .lst) (cVar 1) ⟨[.val u, .val v, .no, .no], S⟩ = .ok (.bl p) ⟨[.val u, .val v, .no, .no], S⟩ →
      cIsi (.ty .tup) (cVar 0) ⟨[.val u, .val v, .no, .no], S⟩ = .ok (.bl q) ⟨[.val u, .val v, .no, .no], S⟩ → cIsi (.ty .tup) (cVar 1) ⟨[.val u, .val v, .no, .no], S⟩ = .ok (.bl q) ⟨[.val u, .val v, .no, .no], S⟩ →
      ((cCons (cVar 0) (M.ret [])).bind bLen) ⟨[.val u, .val v, .no, .no], S⟩ = .ok (.int xs.length) ⟨[.val u, .val v, .no, .no], S⟩ → ((cCons (cVar 1) (M.ret [])).bind bLen) ⟨[.val u, .val v, .no, .no], S⟩ = .ok (.int xs.length) ⟨[.val u, .val v, .no, .no], S⟩ →
      fn_law_same (n + 2) [u, v] S = .ok (.bl true) S := fun p q pc hp hz n1 n0 i1 l0 l1 t0 t1 z0 z1 => by
    have b := body pc hp hz
    have a1 := orT_f (u := asB (cOp dIs (cVar 0) (M.ret .non))) (asB_of n1)
    have a2 := a1.trans (asB_of n0)
    have xx : ∀ a : Bool, (a != a) = false := fun a => by cases a <;> rfl
    have d1 := (asB_of (op_of l0 l1 (dN_bl p p _)))
    have d2 := (asB_of (op_of t0 t1 (dN_bl q q _)))
    rw [xx] at d1 d2
    have d3 := (orT_f (u := asB (cOp dNe (cIsi (.ty .tup) (cVar 0)) (cIsi (.ty .tup) (cVar 1)))) d1).trans d2
    have le := op_of z0 z1 (dEq_int _ _ _)
    rw [decide_eq_true rfl] at le
    have fin := ret_of ((and_t le).trans b)
    have s0 : fn_law_same (n + 2) [u, v] S = outF (cl_law_same (fn_law_same (n + 1)) ⟨[.val u, .val v, .no, .no], S⟩) := rfl
    rw [s0]
    unfold cl_law_same
    rw [cSeq_next (ifS_n a2)]
    have w := (ifS_t (h := cNext) (tru_bl i1)).trans ((cSeq_next (ifS_n (f := cSeq (cRet (M.ret (.bl false))) cNext) d3)).trans (cSeq_ret (h := cNext) fin))
    rw [cSeq_ret w]
    rfl
  rcases h with ⟨l1, l2, hu, hv, h1, h2⟩ | ⟨i, hu, hv⟩
  · subst hu hv
    subst h1
    subst h2
    exact key false true (fun _ => true) (fun _ => rfl) (zipG_tup rfl rfl) rfl rfl rfl rfl rfl rfl rfl rfl rfl
  · subst hv
    rcases hu with hu | ⟨hu, hS⟩
    · subst hu
      exact key true false _ (fun sl => by rw [isAt_lst]; rfl) (zipG_lst rfl rfl rfl rfl) rfl rfl rfl rfl rfl rfl rfl rfl rfl
    · subst hu
      have sq : ∀ sl, CS.seqL ⟨sl, S⟩ (.ref i) = some xs := fun sl => by
        show (match S[i]? with
          | some (.lst xs) => some xs
          | _ => none) = _
        rw [hS]
      have kn : ∀ sl, CS.knOf ⟨sl, S⟩ (.ref i) = some (.ty .lst) := fun sl => by
        unfold CS.knOf
        have h1 : tyB (.ref i) = none := rfl
        have h2 : CS.clsOf ⟨sl, S⟩ (.ref i) = none := by
          unfold CS.clsOf
          simp [CL.M.bind, CL.M.ret, CL.R.bind, cSeq, cRet, cVar, cOp, cAnd, cOr, cNot, cIf, cAndT, cOrT, cNotT, asB, cB, cNext, cIfS, cSet, CL.CS.put, cChain, dLe, dLt, dGt, dGe, dI2, startC, outF, fnB, cIsi, CL.CS.knOf, tyB, isKn, isTy, CL.M.guard, cTru, dTru, liftF, cCall, cCons, cFor, forL, cEnum, dEnum, cTg, cLc, lcL, wipeC, cWalk, dWalk, cNever, cSetTp, putAll, bLen, cFld, CL.CS.fld, cProp, noExc, CL.CS.clsOf, cCallS, dItems, cLenP, cIxP, CL.CS.see, cApp, CL.CS.pl, CL.CS.wr, CL.Pl.xs, dNeg, cSetIx, cStore, froz, cLst, cCutL, dCutL, cNoPart, cPart, dPart, CL.CS.seqL, bList, CL.M.opt, dIs, cIsiT, CL.D.isNon, hS]
        rw [h1, h2, sq]
      have is0 : ∀ k : Kn, cIsi k (cVar 0) ⟨[.val (.ref i), .val (.lst xs), .no, .no], S⟩ = .ok (.bl (isKn (.ty .lst) k)) ⟨[.val (.ref i), .val (.lst xs), .no, .no], S⟩ := fun k => by
        show (match CS.knOf ⟨[.val (.ref i), .val (.lst xs), .no, .no], S⟩ (.ref i) with
          | some t => R.ok (D.bl (isKn t k)) _
          | none => .stuck) = _
        rw [kn]
      have ln : ((cCons (cVar 0) (M.ret [])).bind bLen) ⟨[.val (.ref i), .val (.lst xs), .no, .no], S⟩ = .ok (.int xs.length) ⟨[.val (.ref i), .val (.lst xs), .no, .no], S⟩ := by
        show (match CS.seqL ⟨[.val (.ref i), .val (.lst xs), .no, .no], S⟩ (.ref i) with
          | some xs => R.ok (D.int xs.length) _
          | none => .stuck) = _
        rw [sq]
      exact key true false _ (fun sl => by rw [isAt_lst, isAt_iff.mpr (sq sl)]; rfl) (zipG_lst (c1 := ⟨[.val (.ref i), .val (.lst xs), .no, .no], S⟩) (c2 := ⟨[.val (.ref i), .val (.lst xs), .no, .no], S⟩) (x := .ref i) (y := .lst xs) rfl rfl (sq _) rfl) rfl rfl rfl (is0 _) rfl (is0 _) rfl ln rfl
theorem s_same : ∀ (n : Nat) (d : D) (S : List O), plD n d → fn_law_same (n + 1) [d, d] S = .ok (.bl true) S
  | 0, d, S, h => s_sameS 0 d S h
  | n + 1, d, S, h => by
    cases d with
    | tup xs => exact s_sameC n (s_same n) _ _ xs S h.1 h.2 (.inl ⟨xs, xs, rfl, rfl, rfl, rfl⟩)
    | lst xs => exact s_sameC n (s_same n) _ _ xs S h.1 h.2 (.inr ⟨0, .inl rfl, rfl⟩)
    | non => exact s_sameS (n + 1) _ S trivial
    | bl b => exact s_sameS (n + 1) _ S trivial
    | int i => exact s_sameS (n + 1) _ S trivial
    | str x => exact s_sameS (n + 1) _ S h
    | _ => exact h.elim
end K03
namespace K03
open CL PySem
theorem s_rowsL (sg lv top : Int) (hv : 0 ≤ lv) (hv2 : lv ≤ 12) (ht : 0 < top) (ht2 : top ≤ 12) (ds : List D) : ∀ (rs : List (List Int)) (S : List O), rs.length + ds.length ≤ 1000 → (∀ r ∈ rs, RowOk r) → TapeOk S →
    ∃ (rs' : List (List Int)) (S' : List O), lcL (.nm 4) (M.ret true) (cCall fn_law_row (cCons (cVar 0) (cCons (cVar 2) (cCons (cVar 3) (M.ret []))))) [4] ds (rs.map rowD) ⟨[.val (.ref 0), .val (.int sg), .val (.int lv), .val (.int top), .no], S⟩ = .ok (rs'.map rowD) ⟨[.val (.ref 0), .val (.int sg), .val (.int lv), .val (.int top), .no], S'⟩ ∧ TapeOk S' ∧ rs'.length = rs.length + ds.length ∧ ∀ r ∈ rs', RowOk r := by
  induction ds with
  | nil => intro rs S _ h hS; exact ⟨rs, S, by simp [CL.M.bind, CL.M.ret, CL.R.bind, cSeq, cRet, cVar, cOp, cAnd, cOr, cNot, cIf, cAndT, cOrT, cNotT, asB, cB, cNext, cIfS, cSet, CL.CS.put, cChain, dLe, dLt, dGt, dGe, dI2, startC, outF, fnB, cIsi, CL.CS.knOf, tyB, isKn, isTy, CL.M.guard, cTru, dTru, liftF, cCall, cCons, cFor, forL, cEnum, dEnum, cTg, cLc, lcL, wipeC, cWalk, dWalk, cNever, cSetTp, putAll, bLen, cFld, CL.CS.fld, cProp, noExc, CL.CS.clsOf, cCallS, dItems, cLenP, cIxP, CL.CS.see, cApp, CL.CS.pl, CL.CS.wr, CL.Pl.xs, dNeg, cSetIx, cStore, froz, cLst, cCutL, dCutL, cNoPart, cPart, dPart, CL.CS.seqL, bList, CL.M.opt, dIs, cIsiT, CL.D.isNon], hS, by simp [CL.M.bind, CL.M.ret, CL.R.bind, cSeq, cRet, cVar, cOp, cAnd, cOr, cNot, cIf, cAndT, cOrT, cNotT, asB, cB, cNext, cIfS, cSet, CL.CS.put, cChain, dLe, dLt, dGt, dGe, dI2, startC, outF, fnB, cIsi, CL.CS.knOf, tyB, isKn, isTy, CL.M.guard, cTru, dTru, liftF, cCall, cCons, cFor, forL, cEnum, dEnum, cTg, cLc, lcL, wipeC, cWalk, dWalk, cNever, cSetTp, putAll, bLen, cFld, CL.CS.fld, cProp, noExc, CL.CS.clsOf, cCallS, dItems, cLenP, cIxP, CL.CS.see, cApp, CL.CS.pl, CL.CS.wr, CL.Pl.xs, dNeg, cSetIx, cStore, froz, cLst, cCutL, dCutL, cNoPart, cPart, dPart, CL.CS.seqL, bList, CL.M.opt, dIs, cIsiT, CL.D.isNon], h⟩
  | cons d ds ih =>
    intro rs S hl h hS
    simp [CL.M.bind, CL.M.ret, CL.R.bind, cSeq, cRet, cVar, cOp, cAnd, cOr, cNot, cIf, cAndT, cOrT, cNotT, asB, cB, cNext, cIfS, cSet, CL.CS.put, cChain, dLe, dLt, dGt, dGe, dI2, startC, outF, fnB, cIsi, CL.CS.knOf, tyB, isKn, isTy, CL.M.guard, cTru, dTru, liftF, cCall, cCons, cFor, forL, cEnum, dEnum, cTg, cLc, lcL, wipeC, cWalk, dWalk, cNever, cSetTp, putAll, bLen, cFld, CL.CS.fld, cProp, noExc, CL.CS.clsOf, cCallS, dItems, cLenP, cIxP, CL.CS.see, cApp, CL.CS.pl, CL.CS.wr, CL.Pl.xs, dNeg, cSetIx, cStore, froz, cLst, cCutL, dCutL, cNoPart, cPart, dPart, CL.CS.seqL, bList, CL.M.opt, dIs, cIsiT, CL.D.isNon] at hl
    obtain ⟨r, S', e, hS', l1, h1⟩ := s_lrow lv top S hv hv2 ht ht2 hS
    have hr : RowOk r := ⟨by omega, fun x hx => ⟨(h1 x hx).1, by have := (h1 x hx).2; omega⟩⟩
    obtain ⟨rs', S2, e2, hS2, l2, h2⟩ := ih (rs ++ [r]) S' (by simp [CL.M.bind, CL.M.ret, CL.R.bind, cSeq, cRet, cVar, cOp, cAnd, cOr, cNot, cIf, cAndT, cOrT, cNotT, asB, cB, cNext, cIfS, cSet, CL.CS.put, cChain, dLe, dLt, dGt, dGe, dI2, startC, outF, fnB, cIsi, CL.CS.knOf, tyB, isKn, isTy, CL.M.guard, cTru, dTru, liftF, cCall, cCons, cFor, forL, cEnum, dEnum, cTg, cLc, lcL, wipeC, cWalk, dWalk, cNever, cSetTp, putAll, bLen, cFld, CL.CS.fld, cProp, noExc, CL.CS.clsOf, cCallS, dItems, cLenP, cIxP, CL.CS.see, cApp, CL.CS.pl, CL.CS.wr, CL.Pl.xs, dNeg, cSetIx, cStore, froz, cLst, cCutL, dCutL, cNoPart, cPart, dPart, CL.CS.seqL, bList, CL.M.opt, dIs, cIsiT, CL.D.isNon]; omega) (fun x hx => by
      simp [CL.M.bind, CL.M.ret, CL.R.bind, cSeq, cRet, cVar, cOp, cAnd, cOr, cNot, cIf, cAndT, cOrT, cNotT, asB, cB, cNext, cIfS, cSet, CL.CS.put, cChain, dLe, dLt, dGt, dGe, dI2, startC, outF, fnB, cIsi, CL.CS.knOf, tyB, isKn, isTy, CL.M.guard, cTru, dTru, liftF, cCall, cCons, cFor, forL, cEnum, dEnum, cTg, cLc, lcL, wipeC, cWalk, dWalk, cNever, cSetTp, putAll, bLen, cFld, CL.CS.fld, cProp, noExc, CL.CS.clsOf, cCallS, dItems, cLenP, cIxP, CL.CS.see, cApp, CL.CS.pl, CL.CS.wr, CL.Pl.xs, dNeg, cSetIx, cStore, froz, cLst, cCutL, dCutL, cNoPart, cPart, dPart, CL.CS.seqL, bList, CL.M.opt, dIs, cIsiT, CL.D.isNon] at hx
      rcases hx with hx | hx
      · exact h x hx
      · rw [hx]; exact hr) hS'
    refine ⟨rs', S2, ?_, hS2, by simp [CL.M.bind, CL.M.ret, CL.R.bind, cSeq, cRet, cVar, cOp, cAnd, cOr, cNot, cIf, cAndT, cOrT, cNotT, asB, cB, cNext, cIfS, cSet, CL.CS.put, cChain, dLe, dLt, dGt, dGe, dI2, startC, outF, fnB, cIsi, CL.CS.knOf, tyB, isKn, isTy, CL.M.guard, cTru, dTru, liftF, cCall, cCons, cFor, forL, cEnum, dEnum, cTg, cLc, lcL, wipeC, cWalk, dWalk, cNever, cSetTp, putAll, bLen, cFld, CL.CS.fld, cProp, noExc, CL.CS.clsOf, cCallS, dItems, cLenP, cIxP, CL.CS.see, cApp, CL.CS.pl, CL.CS.wr, CL.Pl.xs, dNeg, cSetIx, cStore, froz, cLst, cCutL, dCutL, cNoPart, cPart, dPart, CL.CS.seqL, bList, CL.M.opt, dIs, cIsiT, CL.D.isNon] at l2 ⊢; omega, h2⟩
    have hz : rs.length < sizeLine := Nat.lt_of_lt_of_le (by omega : rs.length < 1001) (by decide)
    simp [CL.M.bind, CL.M.ret, CL.R.bind, cSeq, cRet, cVar, cOp, cAnd, cOr, cNot, cIf, cAndT, cOrT, cNotT, asB, cB, cNext, cIfS, cSet, CL.CS.put, cChain, dLe, dLt, dGt, dGe, dI2, startC, outF, fnB, cIsi, CL.CS.knOf, tyB, isKn, isTy, CL.M.guard, cTru, dTru, liftF, cCall, cCons, cFor, forL, cEnum, dEnum, cTg, cLc, lcL, wipeC, cWalk, dWalk, cNever, cSetTp, putAll, bLen, cFld, CL.CS.fld, cProp, noExc, CL.CS.clsOf, cCallS, dItems, cLenP, cIxP, CL.CS.see, cApp, CL.CS.pl, CL.CS.wr, CL.Pl.xs, dNeg, cSetIx, cStore, froz, cLst, cCutL, dCutL, cNoPart, cPart, dPart, CL.CS.seqL, bList, CL.M.opt, dIs, cIsiT, CL.D.isNon, e, hz] at e2 ⊢
    exact e2
theorem s_rows (sg lv top : Int) (S : List O) (h0 : 0 < sg) (h4 : sg ≤ 4) (hv : 0 ≤ lv) (hv2 : lv ≤ 12) (ht : 0 < top) (ht2 : top ≤ 12) (hS : TapeOk S) : ∃ (rs : List (List Int)) (S' : List O), fn_law_rows [.ref 0, .int sg, .int lv, .int top] S = .ok (.lst (rs.map rowD)) S' ∧ TapeOk S' ∧ ChOk rs := by
  obtain ⟨n, S1, e1, hS1, n0, n1⟩ := s_pick sg S h0 (by omega) hS
  obtain ⟨rs, S2, e2, hS2, l2, h2⟩ := s_rowsL sg lv top hv hv2 ht ht2 (rangeD 0 (1 + n).toNat) [] S1 (by rw [rangeD_len]; simp [CL.M.bind, CL.M.ret, CL.R.bind, cSeq, cRet, cVar, cOp, cAnd, cOr, cNot, cIf, cAndT, cOrT, cNotT, asB, cB, cNext, cIfS, cSet, CL.CS.put, cChain, dLe, dLt, dGt, dGe, dI2, startC, outF, fnB, cIsi, CL.CS.knOf, tyB, isKn, isTy, CL.M.guard, cTru, dTru, liftF, cCall, cCons, cFor, forL, cEnum, dEnum, cTg, cLc, lcL, wipeC, cWalk, dWalk, cNever, cSetTp, putAll, bLen, cFld, CL.CS.fld, cProp, noExc, CL.CS.clsOf, cCallS, dItems, cLenP, cIxP, CL.CS.see, cApp, CL.CS.pl, CL.CS.wr, CL.Pl.xs, dNeg, cSetIx, cStore, froz, cLst, cCutL, dCutL, cNoPart, cPart, dPart, CL.CS.seqL, bList, CL.M.opt, dIs, cIsiT, CL.D.isNon]; omega) (fun r hr => by simp [CL.M.bind, CL.M.ret, CL.R.bind, cSeq, cRet, cVar, cOp, cAnd, cOr, cNot, cIf, cAndT, cOrT, cNotT, asB, cB, cNext, cIfS, cSet, CL.CS.put, cChain, dLe, dLt, dGt, dGe, dI2, startC, outF, fnB, cIsi, CL.CS.knOf, tyB, isKn, isTy, CL.M.guard, cTru, dTru, liftF, cCall, cCons, cFor, forL, cEnum, dEnum, cTg, cLc, lcL, wipeC, cWalk, dWalk, cNever, cSetTp, putAll, bLen, cFld, CL.CS.fld, cProp, noExc, CL.CS.clsOf, cCallS, dItems, cLenP, cIxP, CL.CS.see, cApp, CL.CS.pl, CL.CS.wr, CL.Pl.xs, dNeg, cSetIx, cStore, froz, cLst, cCutL, dCutL, cNoPart, cPart, dPart, CL.CS.seqL, bList, CL.M.opt, dIs, cIsiT, CL.D.isNon] at hr) hS1
  rw [rangeD_len] at l2
  simp [CL.M.bind, CL.M.ret, CL.R.bind, cSeq, cRet, cVar, cOp, cAnd, cOr, cNot, cIf, cAndT, cOrT, cNotT, asB, cB, cNext, cIfS, cSet, CL.CS.put, cChain, dLe, dLt, dGt, dGe, dI2, startC, outF, fnB, cIsi, CL.CS.knOf, tyB, isKn, isTy, CL.M.guard, cTru, dTru, liftF, cCall, cCons, cFor, forL, cEnum, dEnum, cTg, cLc, lcL, wipeC, cWalk, dWalk, cNever, cSetTp, putAll, bLen, cFld, CL.CS.fld, cProp, noExc, CL.CS.clsOf, cCallS, dItems, cLenP, cIxP, CL.CS.see, cApp, CL.CS.pl, CL.CS.wr, CL.Pl.xs, dNeg, cSetIx, cStore, froz, cLst, cCutL, dCutL, cNoPart, cPart, dPart, CL.CS.seqL, bList, CL.M.opt, dIs, cIsiT, CL.D.isNon] at l2
  have hf : fitsR (1 + n) = true := by unfold fitsR; simp [CL.M.bind, CL.M.ret, CL.R.bind, cSeq, cRet, cVar, cOp, cAnd, cOr, cNot, cIf, cAndT, cOrT, cNotT, asB, cB, cNext, cIfS, cSet, CL.CS.put, cChain, dLe, dLt, dGt, dGe, dI2, startC, outF, fnB, cIsi, CL.CS.knOf, tyB, isKn, isTy, CL.M.guard, cTru, dTru, liftF, cCall, cCons, cFor, forL, cEnum, dEnum, cTg, cLc, lcL, wipeC, cWalk, dWalk, cNever, cSetTp, putAll, bLen, cFld, CL.CS.fld, cProp, noExc, CL.CS.clsOf, cCallS, dItems, cLenP, cIxP, CL.CS.see, cApp, CL.CS.pl, CL.CS.wr, CL.Pl.xs, dNeg, cSetIx, cStore, froz, cLst, cCutL, dCutL, cNoPart, cPart, dPart, CL.CS.seqL, bList, CL.M.opt, dIs, cIsiT, CL.D.isNon]; omega
  refine ⟨rs, S2, ?_, hS2, by omega, by omega, h2⟩
  simp [CL.M.bind, CL.M.ret, CL.R.bind, cSeq, cRet, cVar, cOp, cAnd, cOr, cNot, cIf, cAndT, cOrT, cNotT, asB, cB, cNext, cIfS, cSet, CL.CS.put, cChain, dLe, dLt, dGt, dGe, dI2, startC, outF, fnB, cIsi, CL.CS.knOf, tyB, isKn, isTy, CL.M.guard, cTru, dTru, liftF, cCall, cCons, cFor, forL, cEnum, dEnum, cTg, cLc, wipeC, cWalk, dWalk, cNever, cSetTp, putAll, bLen, cFld, CL.CS.fld, cProp, noExc, CL.CS.clsOf, cCallS, dItems, cLenP, cIxP, CL.CS.see, cApp, CL.CS.pl, CL.CS.wr, CL.Pl.xs, dNeg, cSetIx, cStore, froz, cLst, cCutL, dCutL, cNoPart, cPart, dPart, CL.CS.seqL, bList, CL.M.opt, dIs, cIsiT, CL.D.isNon, fn_law_rows, cl_law_rows, cRange1, dAdd, e1, hf] at e2 ⊢
  rw [e2]
end K03
namespace K03
open CL PySem
theorem atI_nat {α : Type} (xs : List α) (k : Nat) (h : k < xs.length) : L2.atI xs (k : Int) = some xs[k] := by
  unfold L2.atI L2.ixN
  rw [if_pos (by omega), if_pos (by omega)]
  simp [CL.M.bind, CL.M.ret, CL.R.bind, cSeq, cRet, cVar, cOp, cAnd, cOr, cNot, cIf, cAndT, cOrT, cNotT, asB, cB, cNext, cIfS, cSet, CL.CS.put, cChain, dLe, dLt, dGt, dGe, dI2, startC, outF, fnB, cIsi, CL.CS.knOf, tyB, isKn, isTy, CL.M.guard, cTru, dTru, liftF, cCall, cCons, cFor, forL, cEnum, dEnum, cTg, cLc, lcL, wipeC, cWalk, dWalk, cNever, cSetTp, putAll, bLen, cFld, CL.CS.fld, cProp, noExc, CL.CS.clsOf, cCallS, dItems, cLenP, cIxP, CL.CS.see, cApp, CL.CS.pl, CL.CS.wr, CL.Pl.xs, dNeg, cSetIx, cStore, froz, cLst, cCutL, dCutL, cNoPart, cPart, dPart, CL.CS.seqL, bList, CL.M.opt, dIs, cIsiT, CL.D.isNon, h]
section
variable {fa fb : M D} {c c1 c2 : CS} {xs ys : List D} {n : Nat}
end

end K03
namespace K03
open CL PySem
theorem s_of (xs : List D) (S : List O) (h0 : 0 < xs.length) (h1 : xs.length ≤ 1000) (hS : TapeOk S) : ∃ d S', fn_law_of [.ref 0, .lst xs] S = .ok d S' ∧ TapeOk S' ∧ d ∈ xs := by
  obtain ⟨v, S', e, hS', v0, v1⟩ := s_pick xs.length S (by omega) (by omega) hS
  have hv : v.toNat < xs.length := by omega
  have ve : v = (v.toNat : Int) := by omega
  refine ⟨xs[v.toNat], S', ?_, hS', List.getElem_mem hv⟩
  have p : cCall fn_law_pick (cCons (cVar 0) (cCons ((cCons (cVar 1) (M.ret [])).bind bLen) (M.ret []))) ⟨[.val (.ref 0), .val (.lst xs)], S⟩ = .ok (.int v) ⟨[.val (.ref 0), .val (.lst xs)], S'⟩ := by
    show liftF (fn_law_pick [.ref 0, .int xs.length] S) _ = _
    rw [e]
    rfl
  have i : cOp dIx (cVar 1) (cCall fn_law_pick (cCons (cVar 0) (cCons ((cCons (cVar 1) (M.ret [])).bind bLen) (M.ret [])))) ⟨[.val (.ref 0), .val (.lst xs)], S⟩ = .ok xs[v.toNat] ⟨[.val (.ref 0), .val (.lst xs)], S'⟩ := op_of (x := .lst xs) (c1 := ⟨[.val (.ref 0), .val (.lst xs)], S⟩) rfl p (by
    have z := atI_nat xs v.toNat hv
    rw [← ve] at z
    show M.opt (L2.atI xs v) _ = _
    rw [z]
    rfl)
  have s0 : fn_law_of [.ref 0, .lst xs] S = outF (cl_law_of ⟨[.val (.ref 0), .val (.lst xs)], S⟩) := rfl
  rw [s0]
  unfold cl_law_of
  rw [cSeq_ret (ret_of i)]
  rfl
end K03
namespace K03
open CL PySem
def barS : Str := PySem.Str.ofString " | "
def wd (c : Int) : Str := (toString c : String)
theorem caps {P : Int → Prop} (h : ∀ n : Fin 12, P ((n.val : Int) + 1)) {c : Int} (h1 : 1 ≤ c) (h2 : c ≤ 12) : P c := by
  have e : c = (((c - 1).toNat : Nat) : Int) + 1 := by omega
  rw [e]
  exact h ⟨(c - 1).toNat, by omega⟩
theorem wd_len {c : Int} (h1 : 1 ≤ c) (h2 : c ≤ 12) : (wd c).length ≤ 2 := caps (P := fun c => (wd c).length ≤ 2) (by decide) h1 h2
theorem wd_shp {c : Int} (h1 : 1 ≤ c) (h2 : c ≤ 12) : SeqAt.shaped (.str (wd c)) = true := caps (P := fun c => SeqAt.shaped (.str (wd c)) = true) (by decide +kernel) h1 h2
theorem wd_log {c : Int} (h1 : 1 ≤ c) (h2 : c ≤ 12) : c.natAbs.log2 < 1920 := caps (P := fun c => c.natAbs.log2 < 1920) (by decide) h1 h2
def blk : Str := PySem.Str.ofString " "
def rowT (r : List Int) : Str := match r with
  | [] => PySem.Str.ofString "-"
  | x :: r => Txt.join blk ((x :: r).map wd)
def chT (rs : List (List Int)) : Str := Txt.join barS (rs.map rowT)
theorem asStrs_map (ys : List Str) : asStrs (ys.map D.str) = some ys := by
  induction ys with
  | nil => rfl
  | cons b bs ih => simp [CL.M.bind, CL.M.ret, CL.R.bind, cSeq, cRet, cVar, cOp, cAnd, cOr, cNot, cIf, cAndT, cOrT, cNotT, asB, cB, cNext, cIfS, cSet, CL.CS.put, cChain, dLe, dLt, dGt, dGe, dI2, startC, outF, fnB, cIsi, CL.CS.knOf, tyB, isKn, isTy, CL.M.guard, cTru, dTru, liftF, cCall, cCons, cFor, forL, cEnum, dEnum, cTg, cLc, lcL, wipeC, cWalk, dWalk, cNever, cSetTp, putAll, bLen, cFld, CL.CS.fld, cProp, noExc, CL.CS.clsOf, cCallS, dItems, cLenP, cIxP, CL.CS.see, cApp, CL.CS.pl, CL.CS.wr, CL.Pl.xs, dNeg, cSetIx, cStore, froz, cLst, cCutL, dCutL, cNoPart, cPart, dPart, CL.CS.seqL, bList, CL.M.opt, dIs, cIsiT, CL.D.isNon, asStrs, ih]
theorem sum_wd {r : List Int} (h : ∀ x ∈ r, 1 ≤ x ∧ x ≤ 12) : ((r.map wd).map (·.length)).sum ≤ 2 * r.length := by
  induction r with
  | nil => simp [CL.M.bind, CL.M.ret, CL.R.bind, cSeq, cRet, cVar, cOp, cAnd, cOr, cNot, cIf, cAndT, cOrT, cNotT, asB, cB, cNext, cIfS, cSet, CL.CS.put, cChain, dLe, dLt, dGt, dGe, dI2, startC, outF, fnB, cIsi, CL.CS.knOf, tyB, isKn, isTy, CL.M.guard, cTru, dTru, liftF, cCall, cCons, cFor, forL, cEnum, dEnum, cTg, cLc, lcL, wipeC, cWalk, dWalk, cNever, cSetTp, putAll, bLen, cFld, CL.CS.fld, cProp, noExc, CL.CS.clsOf, cCallS, dItems, cLenP, cIxP, CL.CS.see, cApp, CL.CS.pl, CL.CS.wr, CL.Pl.xs, dNeg, cSetIx, cStore, froz, cLst, cCutL, dCutL, cNoPart, cPart, dPart, CL.CS.seqL, bList, CL.M.opt, dIs, cIsiT, CL.D.isNon]
  | cons x r ih =>
    have h1 := wd_len (h x (by simp [CL.M.bind, CL.M.ret, CL.R.bind, cSeq, cRet, cVar, cOp, cAnd, cOr, cNot, cIf, cAndT, cOrT, cNotT, asB, cB, cNext, cIfS, cSet, CL.CS.put, cChain, dLe, dLt, dGt, dGe, dI2, startC, outF, fnB, cIsi, CL.CS.knOf, tyB, isKn, isTy, CL.M.guard, cTru, dTru, liftF, cCall, cCons, cFor, forL, cEnum, dEnum, cTg, cLc, lcL, wipeC, cWalk, dWalk, cNever, cSetTp, putAll, bLen, cFld, CL.CS.fld, cProp, noExc, CL.CS.clsOf, cCallS, dItems, cLenP, cIxP, CL.CS.see, cApp, CL.CS.pl, CL.CS.wr, CL.Pl.xs, dNeg, cSetIx, cStore, froz, cLst, cCutL, dCutL, cNoPart, cPart, dPart, CL.CS.seqL, bList, CL.M.opt, dIs, cIsiT, CL.D.isNon])).1 (h x (by simp [CL.M.bind, CL.M.ret, CL.R.bind, cSeq, cRet, cVar, cOp, cAnd, cOr, cNot, cIf, cAndT, cOrT, cNotT, asB, cB, cNext, cIfS, cSet, CL.CS.put, cChain, dLe, dLt, dGt, dGe, dI2, startC, outF, fnB, cIsi, CL.CS.knOf, tyB, isKn, isTy, CL.M.guard, cTru, dTru, liftF, cCall, cCons, cFor, forL, cEnum, dEnum, cTg, cLc, lcL, wipeC, cWalk, dWalk, cNever, cSetTp, putAll, bLen, cFld, CL.CS.fld, cProp, noExc, CL.CS.clsOf, cCallS, dItems, cLenP, cIxP, CL.CS.see, cApp, CL.CS.pl, CL.CS.wr, CL.Pl.xs, dNeg, cSetIx, cStore, froz, cLst, cCutL, dCutL, cNoPart, cPart, dPart, CL.CS.seqL, bList, CL.M.opt, dIs, cIsiT, CL.D.isNon])).2
    have h2 := ih fun y hy => h y (by simp [CL.M.bind, CL.M.ret, CL.R.bind, cSeq, cRet, cVar, cOp, cAnd, cOr, cNot, cIf, cAndT, cOrT, cNotT, asB, cB, cNext, cIfS, cSet, CL.CS.put, cChain, dLe, dLt, dGt, dGe, dI2, startC, outF, fnB, cIsi, CL.CS.knOf, tyB, isKn, isTy, CL.M.guard, cTru, dTru, liftF, cCall, cCons, cFor, forL, cEnum, dEnum, cTg, cLc, lcL, wipeC, cWalk, dWalk, cNever, cSetTp, putAll, bLen, cFld, CL.CS.fld, cProp, noExc, CL.CS.clsOf, cCallS, dItems, cLenP, cIxP, CL.CS.see, cApp, CL.CS.pl, CL.CS.wr, CL.Pl.xs, dNeg, cSetIx, cStore, froz, cLst, cCutL, dCutL, cNoPart, cPart, dPart, CL.CS.seqL, bList, CL.M.opt, dIs, cIsiT, CL.D.isNon, hy])
    simp [CL.M.bind, CL.M.ret, CL.R.bind, cSeq, cRet, cVar, cOp, cAnd, cOr, cNot, cIf, cAndT, cOrT, cNotT, asB, cB, cNext, cIfS, cSet, CL.CS.put, cChain, dLe, dLt, dGt, dGe, dI2, startC, outF, fnB, cIsi, CL.CS.knOf, tyB, isKn, isTy, CL.M.guard, cTru, dTru, liftF, cCall, cCons, cFor, forL, cEnum, dEnum, cTg, cLc, lcL, wipeC, cWalk, dWalk, cNever, cSetTp, putAll, bLen, cFld, CL.CS.fld, cProp, noExc, CL.CS.clsOf, cCallS, dItems, cLenP, cIxP, CL.CS.see, cApp, CL.CS.pl, CL.CS.wr, CL.Pl.xs, dNeg, cSetIx, cStore, froz, cLst, cCutL, dCutL, cNoPart, cPart, dPart, CL.CS.seqL, bList, CL.M.opt, dIs, cIsiT, CL.D.isNon] at h2 ⊢
    omega
theorem s_tx3 (r : List Int) : ∀ (acc : List D) (a b d : Sl) (S : List O), acc.length + r.length ≤ 1000 → (∀ x ∈ r, 1 ≤ x ∧ x ≤ 12) →
    ∃ b', lcL (.nm 1) (M.ret true) ((cCons (cVar 1) (M.ret [])).bind bStr) [1] (r.map .int) acc ⟨[a, b, d], S⟩ = .ok (acc ++ r.map fun x => .str (wd x)) ⟨[a, b', d], S⟩ := by
  induction r with
  | nil => intro acc a b d S _ _; exact ⟨b, by simp [CL.M.bind, CL.M.ret, CL.R.bind, cSeq, cRet, cVar, cOp, cAnd, cOr, cNot, cIf, cAndT, cOrT, cNotT, asB, cB, cNext, cIfS, cSet, CL.CS.put, cChain, dLe, dLt, dGt, dGe, dI2, startC, outF, fnB, cIsi, CL.CS.knOf, tyB, isKn, isTy, CL.M.guard, cTru, dTru, liftF, cCall, cCons, cFor, forL, cEnum, dEnum, cTg, cLc, lcL, wipeC, cWalk, dWalk, cNever, cSetTp, putAll, bLen, cFld, CL.CS.fld, cProp, noExc, CL.CS.clsOf, cCallS, dItems, cLenP, cIxP, CL.CS.see, cApp, CL.CS.pl, CL.CS.wr, CL.Pl.xs, dNeg, cSetIx, cStore, froz, cLst, cCutL, dCutL, cNoPart, cPart, dPart, CL.CS.seqL, bList, CL.M.opt, dIs, cIsiT, CL.D.isNon, bStr]⟩
  | cons x r ih =>
    intro acc a b d S hl h
    obtain ⟨b', e⟩ := ih (acc ++ [.str (wd x)]) a .no d S (by simp [CL.M.bind, CL.M.ret, CL.R.bind, cSeq, cRet, cVar, cOp, cAnd, cOr, cNot, cIf, cAndT, cOrT, cNotT, asB, cB, cNext, cIfS, cSet, CL.CS.put, cChain, dLe, dLt, dGt, dGe, dI2, startC, outF, fnB, cIsi, CL.CS.knOf, tyB, isKn, isTy, CL.M.guard, cTru, dTru, liftF, cCall, cCons, cFor, forL, cEnum, dEnum, cTg, cLc, lcL, wipeC, cWalk, dWalk, cNever, cSetTp, putAll, bLen, cFld, CL.CS.fld, cProp, noExc, CL.CS.clsOf, cCallS, dItems, cLenP, cIxP, CL.CS.see, cApp, CL.CS.pl, CL.CS.wr, CL.Pl.xs, dNeg, cSetIx, cStore, froz, cLst, cCutL, dCutL, cNoPart, cPart, dPart, CL.CS.seqL, bList, CL.M.opt, dIs, cIsiT, CL.D.isNon, bStr] at hl ⊢; omega) (fun y hy => h y (by simp [CL.M.bind, CL.M.ret, CL.R.bind, cSeq, cRet, cVar, cOp, cAnd, cOr, cNot, cIf, cAndT, cOrT, cNotT, asB, cB, cNext, cIfS, cSet, CL.CS.put, cChain, dLe, dLt, dGt, dGe, dI2, startC, outF, fnB, cIsi, CL.CS.knOf, tyB, isKn, isTy, CL.M.guard, cTru, dTru, liftF, cCall, cCons, cFor, forL, cEnum, dEnum, cTg, cLc, lcL, wipeC, cWalk, dWalk, cNever, cSetTp, putAll, bLen, cFld, CL.CS.fld, cProp, noExc, CL.CS.clsOf, cCallS, dItems, cLenP, cIxP, CL.CS.see, cApp, CL.CS.pl, CL.CS.wr, CL.Pl.xs, dNeg, cSetIx, cStore, froz, cLst, cCutL, dCutL, cNoPart, cPart, dPart, CL.CS.seqL, bList, CL.M.opt, dIs, cIsiT, CL.D.isNon, bStr, hy]))
    refine ⟨b', ?_⟩
    have hz : acc.length < sizeLine := Nat.lt_of_lt_of_le (by simp [CL.M.bind, CL.M.ret, CL.R.bind, cSeq, cRet, cVar, cOp, cAnd, cOr, cNot, cIf, cAndT, cOrT, cNotT, asB, cB, cNext, cIfS, cSet, CL.CS.put, cChain, dLe, dLt, dGt, dGe, dI2, startC, outF, fnB, cIsi, CL.CS.knOf, tyB, isKn, isTy, CL.M.guard, cTru, dTru, liftF, cCall, cCons, cFor, forL, cEnum, dEnum, cTg, cLc, lcL, wipeC, cWalk, dWalk, cNever, cSetTp, putAll, bLen, cFld, CL.CS.fld, cProp, noExc, CL.CS.clsOf, cCallS, dItems, cLenP, cIxP, CL.CS.see, cApp, CL.CS.pl, CL.CS.wr, CL.Pl.xs, dNeg, cSetIx, cStore, froz, cLst, cCutL, dCutL, cNoPart, cPart, dPart, CL.CS.seqL, bList, CL.M.opt, dIs, cIsiT, CL.D.isNon, bStr] at hl; omega : acc.length < 1001) (by decide)
    have hg := wd_log (h x (by simp [CL.M.bind, CL.M.ret, CL.R.bind, cSeq, cRet, cVar, cOp, cAnd, cOr, cNot, cIf, cAndT, cOrT, cNotT, asB, cB, cNext, cIfS, cSet, CL.CS.put, cChain, dLe, dLt, dGt, dGe, dI2, startC, outF, fnB, cIsi, CL.CS.knOf, tyB, isKn, isTy, CL.M.guard, cTru, dTru, liftF, cCall, cCons, cFor, forL, cEnum, dEnum, cTg, cLc, lcL, wipeC, cWalk, dWalk, cNever, cSetTp, putAll, bLen, cFld, CL.CS.fld, cProp, noExc, CL.CS.clsOf, cCallS, dItems, cLenP, cIxP, CL.CS.see, cApp, CL.CS.pl, CL.CS.wr, CL.Pl.xs, dNeg, cSetIx, cStore, froz, cLst, cCutL, dCutL, cNoPart, cPart, dPart, CL.CS.seqL, bList, CL.M.opt, dIs, cIsiT, CL.D.isNon, bStr])).1 (h x (by simp [CL.M.bind, CL.M.ret, CL.R.bind, cSeq, cRet, cVar, cOp, cAnd, cOr, cNot, cIf, cAndT, cOrT, cNotT, asB, cB, cNext, cIfS, cSet, CL.CS.put, cChain, dLe, dLt, dGt, dGe, dI2, startC, outF, fnB, cIsi, CL.CS.knOf, tyB, isKn, isTy, CL.M.guard, cTru, dTru, liftF, cCall, cCons, cFor, forL, cEnum, dEnum, cTg, cLc, lcL, wipeC, cWalk, dWalk, cNever, cSetTp, putAll, bLen, cFld, CL.CS.fld, cProp, noExc, CL.CS.clsOf, cCallS, dItems, cLenP, cIxP, CL.CS.see, cApp, CL.CS.pl, CL.CS.wr, CL.Pl.xs, dNeg, cSetIx, cStore, froz, cLst, cCutL, dCutL, cNoPart, cPart, dPart, CL.CS.seqL, bList, CL.M.opt, dIs, cIsiT, CL.D.isNon, bStr])).2
    simp [CL.M.bind, CL.M.ret, CL.R.bind, cSeq, cRet, cVar, cOp, cAnd, cOr, cNot, cIf, cAndT, cOrT, cNotT, asB, cB, cNext, cIfS, cSet, CL.CS.put, cChain, dLe, dLt, dGt, dGe, dI2, startC, outF, fnB, cIsi, CL.CS.knOf, tyB, isKn, isTy, CL.M.guard, cTru, dTru, liftF, cCall, cCons, cFor, forL, cEnum, dEnum, cTg, cLc, lcL, wipeC, cWalk, dWalk, cNever, cSetTp, putAll, bLen, cFld, CL.CS.fld, cProp, noExc, CL.CS.clsOf, cCallS, dItems, cLenP, cIxP, CL.CS.see, cApp, CL.CS.pl, CL.CS.wr, CL.Pl.xs, dNeg, cSetIx, cStore, froz, cLst, cCutL, dCutL, cNoPart, cPart, dPart, CL.CS.seqL, bList, CL.M.opt, dIs, cIsiT, CL.D.isNon, bStr, hz, hg] at e ⊢
    exact e
theorem cJoin_ok {a : Str} {L : M (List D)} {c c' : CS} {ys : List D} {r : R D} (e : L c = .ok ys c') (j : dJoin a (.lst ys) c' = r) : cJoin (M.ret (.str a)) (froz L) c = r := by
  show ((L c).bind fun xs c => R.ok (D.lst xs) c).bind (fun d c => dJoin a d c) = r
  rw [e]
  exact j
theorem blk_len : blk.length = 1 := by decide
theorem s_dJoinB (r : List Int) (h : RowOk r) (c : CS) : dJoin blk (.lst ((r.map wd).map .str)) c = .ok (.str (Txt.join blk (r.map wd))) c := by
  have e := asStrs_map (r.map wd)
  have hs := sum_wd h.2
  have hl := h.1
  have hd : decide (((r.map wd).map (·.length)).sum + (r.map wd).length * blk.length ≤ 16777216) = true := decide_eq_true (by rw [blk_len]; simp [CL.M.bind, CL.M.ret, CL.R.bind, cSeq, cRet, cVar, cOp, cAnd, cOr, cNot, cIf, cAndT, cOrT, cNotT, asB, cB, cNext, cIfS, cSet, CL.CS.put, cChain, dLe, dLt, dGt, dGe, dI2, startC, outF, fnB, cIsi, CL.CS.knOf, tyB, isKn, isTy, CL.M.guard, cTru, dTru, liftF, cCall, cCons, cFor, forL, cEnum, dEnum, cTg, cLc, lcL, wipeC, cWalk, dWalk, cNever, cSetTp, putAll, bLen, cFld, CL.CS.fld, cProp, noExc, CL.CS.clsOf, cCallS, dItems, cLenP, cIxP, CL.CS.see, cApp, CL.CS.pl, CL.CS.wr, CL.Pl.xs, dNeg, cSetIx, cStore, froz, cLst, cCutL, dCutL, cNoPart, cPart, dPart, CL.CS.seqL, bList, CL.M.opt, dIs, cIsiT, CL.D.isNon, bStr] at hs ⊢; omega)
  show (match (some ((r.map wd).map D.str)).bind asStrs with
    | some ys => M.guard (decide ((ys.map Str.length).sum + ys.length * blk.length ≤ 16777216)) (M.ret (D.str (Txt.join blk ys))) c
    | none => .stuck) = _
  rw [Option.bind_some, e]
  dsimp only
  rw [hd]
  rfl
theorem joinL_len (S : List Nat) : ∀ ps : List (List Nat), (TL.joinL S ps).length ≤ (ps.map List.length).sum + ps.length * S.length
  | [] => by simp [CL.M.bind, CL.M.ret, CL.R.bind, cSeq, cRet, cVar, cOp, cAnd, cOr, cNot, cIf, cAndT, cOrT, cNotT, asB, cB, cNext, cIfS, cSet, CL.CS.put, cChain, dLe, dLt, dGt, dGe, dI2, startC, outF, fnB, cIsi, CL.CS.knOf, tyB, isKn, isTy, CL.M.guard, cTru, dTru, liftF, cCall, cCons, cFor, forL, cEnum, dEnum, cTg, cLc, lcL, wipeC, cWalk, dWalk, cNever, cSetTp, putAll, bLen, cFld, CL.CS.fld, cProp, noExc, CL.CS.clsOf, cCallS, dItems, cLenP, cIxP, CL.CS.see, cApp, CL.CS.pl, CL.CS.wr, CL.Pl.xs, dNeg, cSetIx, cStore, froz, cLst, cCutL, dCutL, cNoPart, cPart, dPart, CL.CS.seqL, bList, CL.M.opt, dIs, cIsiT, CL.D.isNon, bStr, TL.joinL]
  | [p] => by simp [CL.M.bind, CL.M.ret, CL.R.bind, cSeq, cRet, cVar, cOp, cAnd, cOr, cNot, cIf, cAndT, cOrT, cNotT, asB, cB, cNext, cIfS, cSet, CL.CS.put, cChain, dLe, dLt, dGt, dGe, dI2, startC, outF, fnB, cIsi, CL.CS.knOf, tyB, isKn, isTy, CL.M.guard, cTru, dTru, liftF, cCall, cCons, cFor, forL, cEnum, dEnum, cTg, cLc, lcL, wipeC, cWalk, dWalk, cNever, cSetTp, putAll, bLen, cFld, CL.CS.fld, cProp, noExc, CL.CS.clsOf, cCallS, dItems, cLenP, cIxP, CL.CS.see, cApp, CL.CS.pl, CL.CS.wr, CL.Pl.xs, dNeg, cSetIx, cStore, froz, cLst, cCutL, dCutL, cNoPart, cPart, dPart, CL.CS.seqL, bList, CL.M.opt, dIs, cIsiT, CL.D.isNon, bStr, TL.joinL]
  | p :: q :: r => by
    have ih := joinL_len S (q :: r)
    show (p ++ (S ++ TL.joinL S (q :: r))).length ≤ _
    simp [CL.M.bind, CL.M.ret, CL.R.bind, cSeq, cRet, cVar, cOp, cAnd, cOr, cNot, cIf, cAndT, cOrT, cNotT, asB, cB, cNext, cIfS, cSet, CL.CS.put, cChain, dLe, dLt, dGt, dGe, dI2, startC, outF, fnB, cIsi, CL.CS.knOf, tyB, isKn, isTy, CL.M.guard, cTru, dTru, liftF, cCall, cCons, cFor, forL, cEnum, dEnum, cTg, cLc, lcL, wipeC, cWalk, dWalk, cNever, cSetTp, putAll, bLen, cFld, CL.CS.fld, cProp, noExc, CL.CS.clsOf, cCallS, dItems, cLenP, cIxP, CL.CS.see, cApp, CL.CS.pl, CL.CS.wr, CL.Pl.xs, dNeg, cSetIx, cStore, froz, cLst, cCutL, dCutL, cNoPart, cPart, dPart, CL.CS.seqL, bList, CL.M.opt, dIs, cIsiT, CL.D.isNon, bStr, Nat.add_mul] at ih ⊢
    omega
theorem str_len (x : Str) : x.length = (TL.tl x).length := by
  show x.cps.size = x.cps.toList.length
  simp [CL.M.bind, CL.M.ret, CL.R.bind, cSeq, cRet, cVar, cOp, cAnd, cOr, cNot, cIf, cAndT, cOrT, cNotT, asB, cB, cNext, cIfS, cSet, CL.CS.put, cChain, dLe, dLt, dGt, dGe, dI2, startC, outF, fnB, cIsi, CL.CS.knOf, tyB, isKn, isTy, CL.M.guard, cTru, dTru, liftF, cCall, cCons, cFor, forL, cEnum, dEnum, cTg, cLc, lcL, wipeC, cWalk, dWalk, cNever, cSetTp, putAll, bLen, cFld, CL.CS.fld, cProp, noExc, CL.CS.clsOf, cCallS, dItems, cLenP, cIxP, CL.CS.see, cApp, CL.CS.pl, CL.CS.wr, CL.Pl.xs, dNeg, cSetIx, cStore, froz, cLst, cCutL, dCutL, cNoPart, cPart, dPart, CL.CS.seqL, bList, CL.M.opt, dIs, cIsiT, CL.D.isNon, bStr]
theorem join_len (y : Str) (ps : List Str) : (Txt.join y ps).length ≤ (ps.map Str.length).sum + ps.length * y.length := by
  rw [str_len, TL.join_eq, TL.tl_join]
  refine Nat.le_trans (joinL_len _ _) ?_
  rw [List.map_map, List.length_map, ← str_len]
  have e : (List.length ∘ TL.tl : Str → Nat) = Str.length := by
    funext x
    exact (str_len x).symm
  rw [e]
  exact Nat.le_refl _
theorem rowT_len {r : List Int} (h : RowOk r) : (rowT r).length ≤ 60 := by
  have hl := h.1
  have hs : ((r.map wd).map Str.length).sum ≤ 2 * r.length := sum_wd h.2
  cases r with
  | nil => decide
  | cons x r =>
    have j := join_len blk ((x :: r).map wd)
    rw [blk_len, List.length_map] at j
    show (Txt.join blk ((x :: r).map wd)).length ≤ 60
    omega
theorem sum_le {ps : List Str} {n : Nat} (h : ∀ p ∈ ps, p.length ≤ n) : (ps.map Str.length).sum ≤ n * ps.length := by
  induction ps with
  | nil => simp [CL.M.bind, CL.M.ret, CL.R.bind, cSeq, cRet, cVar, cOp, cAnd, cOr, cNot, cIf, cAndT, cOrT, cNotT, asB, cB, cNext, cIfS, cSet, CL.CS.put, cChain, dLe, dLt, dGt, dGe, dI2, startC, outF, fnB, cIsi, CL.CS.knOf, tyB, isKn, isTy, CL.M.guard, cTru, dTru, liftF, cCall, cCons, cFor, forL, cEnum, dEnum, cTg, cLc, lcL, wipeC, cWalk, dWalk, cNever, cSetTp, putAll, bLen, cFld, CL.CS.fld, cProp, noExc, CL.CS.clsOf, cCallS, dItems, cLenP, cIxP, CL.CS.see, cApp, CL.CS.pl, CL.CS.wr, CL.Pl.xs, dNeg, cSetIx, cStore, froz, cLst, cCutL, dCutL, cNoPart, cPart, dPart, CL.CS.seqL, bList, CL.M.opt, dIs, cIsiT, CL.D.isNon, bStr]
  | cons p ps ih =>
    have h1 := h p (by simp [CL.M.bind, CL.M.ret, CL.R.bind, cSeq, cRet, cVar, cOp, cAnd, cOr, cNot, cIf, cAndT, cOrT, cNotT, asB, cB, cNext, cIfS, cSet, CL.CS.put, cChain, dLe, dLt, dGt, dGe, dI2, startC, outF, fnB, cIsi, CL.CS.knOf, tyB, isKn, isTy, CL.M.guard, cTru, dTru, liftF, cCall, cCons, cFor, forL, cEnum, dEnum, cTg, cLc, lcL, wipeC, cWalk, dWalk, cNever, cSetTp, putAll, bLen, cFld, CL.CS.fld, cProp, noExc, CL.CS.clsOf, cCallS, dItems, cLenP, cIxP, CL.CS.see, cApp, CL.CS.pl, CL.CS.wr, CL.Pl.xs, dNeg, cSetIx, cStore, froz, cLst, cCutL, dCutL, cNoPart, cPart, dPart, CL.CS.seqL, bList, CL.M.opt, dIs, cIsiT, CL.D.isNon, bStr])
    have h2 := ih fun q hq => h q (by simp [CL.M.bind, CL.M.ret, CL.R.bind, cSeq, cRet, cVar, cOp, cAnd, cOr, cNot, cIf, cAndT, cOrT, cNotT, asB, cB, cNext, cIfS, cSet, CL.CS.put, cChain, dLe, dLt, dGt, dGe, dI2, startC, outF, fnB, cIsi, CL.CS.knOf, tyB, isKn, isTy, CL.M.guard, cTru, dTru, liftF, cCall, cCons, cFor, forL, cEnum, dEnum, cTg, cLc, lcL, wipeC, cWalk, dWalk, cNever, cSetTp, putAll, bLen, cFld, CL.CS.fld, cProp, noExc, CL.CS.clsOf, cCallS, dItems, cLenP, cIxP, CL.CS.see, cApp, CL.CS.pl, CL.CS.wr, CL.Pl.xs, dNeg, cSetIx, cStore, froz, cLst, cCutL, dCutL, cNoPart, cPart, dPart, CL.CS.seqL, bList, CL.M.opt, dIs, cIsiT, CL.D.isNon, bStr, hq])
    simp [CL.M.bind, CL.M.ret, CL.R.bind, cSeq, cRet, cVar, cOp, cAnd, cOr, cNot, cIf, cAndT, cOrT, cNotT, asB, cB, cNext, cIfS, cSet, CL.CS.put, cChain, dLe, dLt, dGt, dGe, dI2, startC, outF, fnB, cIsi, CL.CS.knOf, tyB, isKn, isTy, CL.M.guard, cTru, dTru, liftF, cCall, cCons, cFor, forL, cEnum, dEnum, cTg, cLc, lcL, wipeC, cWalk, dWalk, cNever, cSetTp, putAll, bLen, cFld, CL.CS.fld, cProp, noExc, CL.CS.clsOf, cCallS, dItems, cLenP, cIxP, CL.CS.see, cApp, CL.CS.pl, CL.CS.wr, CL.Pl.xs, dNeg, cSetIx, cStore, froz, cLst, cCutL, dCutL, cNoPart, cPart, dPart, CL.CS.seqL, bList, CL.M.opt, dIs, cIsiT, CL.D.isNon, bStr, Nat.mul_add]
    omega
theorem bar_len : barS.length = 3 := by decide
theorem chT_sum {rs : List (List Int)} (h : ChOk rs) : ((rs.map rowT).map Str.length).sum ≤ 240 := by
  have h1 := sum_le (ps := rs.map rowT) (n := 60) fun p hp => by
    obtain ⟨r, hr, rfl⟩ := List.mem_map.mp hp
    exact rowT_len (h.2.2 r hr)
  have h4 := h.2.1
  simp [CL.M.bind, CL.M.ret, CL.R.bind, cSeq, cRet, cVar, cOp, cAnd, cOr, cNot, cIf, cAndT, cOrT, cNotT, asB, cB, cNext, cIfS, cSet, CL.CS.put, cChain, dLe, dLt, dGt, dGe, dI2, startC, outF, fnB, cIsi, CL.CS.knOf, tyB, isKn, isTy, CL.M.guard, cTru, dTru, liftF, cCall, cCons, cFor, forL, cEnum, dEnum, cTg, cLc, lcL, wipeC, cWalk, dWalk, cNever, cSetTp, putAll, bLen, cFld, CL.CS.fld, cProp, noExc, CL.CS.clsOf, cCallS, dItems, cLenP, cIxP, CL.CS.see, cApp, CL.CS.pl, CL.CS.wr, CL.Pl.xs, dNeg, cSetIx, cStore, froz, cLst, cCutL, dCutL, cNoPart, cPart, dPart, CL.CS.seqL, bList, CL.M.opt, dIs, cIsiT, CL.D.isNon, bStr] at h1 ⊢
  omega
theorem chT_len {rs : List (List Int)} (h : ChOk rs) : (chT rs).length ≤ 252 := by
  have h1 := chT_sum h
  have h4 := h.2.1
  have j := join_len barS (rs.map rowT)
  rw [bar_len, List.length_map] at j
  show (Txt.join barS (rs.map rowT)).length ≤ 252
  omega
theorem s_dJoinS {rs : List (List Int)} (h : ChOk rs) (c : CS) : dJoin barS (.lst ((rs.map rowT).map .str)) c = .ok (.str (chT rs)) c := by
  have e := asStrs_map (rs.map rowT)
  have hs := chT_sum h
  have h4 := h.2.1
  have hd : decide (((rs.map rowT).map Str.length).sum + (rs.map rowT).length * barS.length ≤ 16777216) = true := decide_eq_true (by rw [bar_len, List.length_map]; omega)
  show (match (some ((rs.map rowT).map D.str)).bind asStrs with
    | some ys => M.guard (decide ((ys.map Str.length).sum + ys.length * barS.length ≤ 16777216)) (M.ret (D.str (Txt.join barS ys))) c
    | none => .stuck) = _
  rw [Option.bind_some, e]
  dsimp only
  rw [hd]
  rfl
theorem app_len (x y : Str) : (x ++ y).length = x.length + y.length := by
  rw [str_len, TL.tl_append, List.length_append, ← str_len, ← str_len]
theorem cIf_t {α : Type} {t : M Bool} {a b : M α} {c c' : CS} (h : t c = .ok true c') : cIf t a b c = a c' := by
  show (t c).bind _ = _
  rw [h]
  rfl
def txB : M D := cIf (asB (cOp dGt ((cCons (cVar 2) (M.ret [])).bind bLen) (M.ret (.int 0)))) (cJoin (M.ret (.str blk)) (froz (cLc (cWalk (cVar 2)) (.nm 1) (M.ret true) ((cCons (cVar 1) (M.ret [])).bind bStr) [1]))) (M.ret (.str (PySem.Str.ofString "-")))
theorem s_txB (r : List Int) (h : RowOk r) (a b : Sl) (S : List O) : ∃ b', txB ⟨[a, b, .val (rowD r)], S⟩ = .ok (.str (rowT r)) ⟨[a, b', .val (rowD r)], S⟩ := by
  have hl := h.1
  have zl : szOk r.length = true := szOk_small (by omega)
  cases r with
  | nil => exact ⟨b, by simp [CL.M.bind, CL.M.ret, CL.R.bind, cSeq, cRet, cVar, cOp, cAnd, cOr, cNot, cAndT, cOrT, cNotT, asB, cB, cNext, cIfS, cSet, CL.CS.put, cChain, dLe, dLt, dGt, dGe, dI2, startC, outF, fnB, cIsi, CL.CS.knOf, tyB, isKn, isTy, CL.M.guard, cTru, dTru, liftF, cCall, cCons, cFor, forL, cEnum, dEnum, cTg, cLc, lcL, wipeC, cWalk, dWalk, cNever, cSetTp, putAll, bLen, cFld, CL.CS.fld, cProp, noExc, CL.CS.clsOf, cCallS, dItems, cLenP, cIxP, CL.CS.see, cApp, CL.CS.pl, CL.CS.wr, CL.Pl.xs, dNeg, cSetIx, cStore, froz, cLst, cCutL, dCutL, cNoPart, cPart, dPart, CL.CS.seqL, bList, CL.M.opt, dIs, cIsiT, CL.D.isNon, bStr, txB, rowD, zl, rowT, cIf, szOk_small]⟩
  | cons x r =>
    obtain ⟨b', e⟩ := s_tx3 (x :: r) [] a .no (.val (rowD (x :: r))) S (by simp [CL.M.bind, CL.M.ret, CL.R.bind, cSeq, cRet, cVar, cOp, cAnd, cOr, cNot, cIf, cAndT, cOrT, cNotT, asB, cB, cNext, cIfS, cSet, CL.CS.put, cChain, dLe, dLt, dGt, dGe, dI2, startC, outF, fnB, cIsi, CL.CS.knOf, tyB, isKn, isTy, CL.M.guard, cTru, dTru, liftF, cCall, cCons, cFor, forL, cEnum, dEnum, cTg, cLc, lcL, wipeC, cWalk, dWalk, cNever, cSetTp, putAll, bLen, cFld, CL.CS.fld, cProp, noExc, CL.CS.clsOf, cCallS, dItems, cLenP, cIxP, CL.CS.see, cApp, CL.CS.pl, CL.CS.wr, CL.Pl.xs, dNeg, cSetIx, cStore, froz, cLst, cCutL, dCutL, cNoPart, cPart, dPart, CL.CS.seqL, bList, CL.M.opt, dIs, cIsiT, CL.D.isNon, bStr] at hl ⊢; omega) h.2
    have j := s_dJoinB (x :: r) h ⟨[a, b', .val (rowD (x :: r))], S⟩
    have ne : (0 : Int) < (r.length : Int) + 1 := by omega
    have hI : asB (cOp dGt ((cCons (cVar 2) (M.ret [])).bind bLen) (M.ret (.int 0))) ⟨[a, b, .val (rowD (x :: r))], S⟩ = .ok true ⟨[a, b, .val (rowD (x :: r))], S⟩ := by
      simp [CL.M.bind, CL.M.ret, CL.R.bind, cSeq, cRet, cVar, cOp, cAnd, cOr, cNot, cIf, cAndT, cOrT, cNotT, asB, cB, cNext, cIfS, cSet, CL.CS.put, cChain, dLe, dLt, dGt, dGe, dI2, startC, outF, fnB, cIsi, CL.CS.knOf, tyB, isKn, isTy, CL.M.guard, cTru, dTru, liftF, cCall, cCons, cFor, forL, cEnum, dEnum, cTg, cLc, lcL, wipeC, cWalk, dWalk, cNever, cSetTp, putAll, bLen, cFld, CL.CS.fld, cProp, noExc, CL.CS.clsOf, cCallS, dItems, cLenP, cIxP, CL.CS.see, cApp, CL.CS.pl, CL.CS.wr, CL.Pl.xs, dNeg, cSetIx, cStore, froz, cLst, cCutL, dCutL, cNoPart, cPart, dPart, CL.CS.seqL, bList, CL.M.opt, dIs, cIsiT, CL.D.isNon, bStr, rowD, ne] at zl ⊢
      try simp [CL.M.bind, CL.M.ret, CL.R.bind, cSeq, cRet, cVar, cOp, cAnd, cOr, cNot, cIf, cAndT, cOrT, cNotT, asB, cB, cNext, cIfS, cSet, CL.CS.put, cChain, dLe, dLt, dGt, dGe, dI2, startC, outF, fnB, cIsi, CL.CS.knOf, tyB, isKn, isTy, CL.M.guard, cTru, dTru, liftF, cCall, cCons, cFor, forL, cEnum, dEnum, cTg, cLc, lcL, wipeC, cWalk, dWalk, cNever, cSetTp, putAll, bLen, cFld, CL.CS.fld, cProp, noExc, CL.CS.clsOf, cCallS, dItems, cLenP, cIxP, CL.CS.see, cApp, CL.CS.pl, CL.CS.wr, CL.Pl.xs, dNeg, cSetIx, cStore, froz, cLst, cCutL, dCutL, cNoPart, cPart, dPart, CL.CS.seqL, bList, CL.M.opt, dIs, cIsiT, CL.D.isNon, bStr, zl, ne]
    have eL : cLc (cWalk (cVar 2)) (.nm 1) (M.ret true) ((cCons (cVar 1) (M.ret [])).bind bStr) [1] ⟨[a, b, .val (rowD (x :: r))], S⟩ = .ok (([] : List D) ++ (x :: r).map fun x => .str (wd x)) ⟨[a, b', .val (rowD (x :: r))], S⟩ := e
    rw [List.nil_append] at eL
    have em : ((x :: r).map fun x => D.str (wd x)) = ((x :: r).map wd).map .str := by simp [CL.M.bind, CL.M.ret, CL.R.bind, cSeq, cRet, cVar, cOp, cAnd, cOr, cNot, cIf, cAndT, cOrT, cNotT, asB, cB, cNext, cIfS, cSet, CL.CS.put, cChain, dLe, dLt, dGt, dGe, dI2, startC, outF, fnB, cIsi, CL.CS.knOf, tyB, isKn, isTy, CL.M.guard, cTru, dTru, liftF, cCall, cCons, cFor, forL, cEnum, dEnum, cTg, cLc, lcL, wipeC, cWalk, dWalk, cNever, cSetTp, putAll, bLen, cFld, CL.CS.fld, cProp, noExc, CL.CS.clsOf, cCallS, dItems, cLenP, cIxP, CL.CS.see, cApp, CL.CS.pl, CL.CS.wr, CL.Pl.xs, dNeg, cSetIx, cStore, froz, cLst, cCutL, dCutL, cNoPart, cPart, dPart, CL.CS.seqL, bList, CL.M.opt, dIs, cIsiT, CL.D.isNon, bStr]
    rw [em] at eL
    refine ⟨b', ?_⟩
    have hR : cJoin (M.ret (.str blk)) (froz (cLc (cWalk (cVar 2)) (.nm 1) (M.ret true) ((cCons (cVar 1) (M.ret [])).bind bStr) [1])) ⟨[a, b, .val (rowD (x :: r))], S⟩ = .ok (.str (rowT (x :: r))) ⟨[a, b', .val (rowD (x :: r))], S⟩ := cJoin_ok eL j
    exact (cIf_t hI).trans hR
theorem s_ltL (rs : List (List Int)) : ∀ (acc : List D) (a b d : Sl) (S : List O), acc.length + rs.length ≤ 1000 → (∀ r ∈ rs, RowOk r) →
    ∃ b' d', lcL (.nm 2) (M.ret true) txB [2] (rs.map rowD) acc ⟨[a, b, d], S⟩ = .ok (acc ++ (rs.map rowT).map .str) ⟨[a, b', d'], S⟩ := by
  induction rs with
  | nil => intro acc a b d S _ _; exact ⟨b, d, by simp [CL.M.bind, CL.M.ret, CL.R.bind, cSeq, cRet, cVar, cOp, cAnd, cOr, cNot, cIf, cAndT, cOrT, cNotT, asB, cB, cNext, cIfS, cSet, CL.CS.put, cChain, dLe, dLt, dGt, dGe, dI2, startC, outF, fnB, cIsi, CL.CS.knOf, tyB, isKn, isTy, CL.M.guard, cTru, dTru, liftF, cCall, cCons, cFor, forL, cEnum, dEnum, cTg, cLc, lcL, wipeC, cWalk, dWalk, cNever, cSetTp, putAll, bLen, cFld, CL.CS.fld, cProp, noExc, CL.CS.clsOf, cCallS, dItems, cLenP, cIxP, CL.CS.see, cApp, CL.CS.pl, CL.CS.wr, CL.Pl.xs, dNeg, cSetIx, cStore, froz, cLst, cCutL, dCutL, cNoPart, cPart, dPart, CL.CS.seqL, bList, CL.M.opt, dIs, cIsiT, CL.D.isNon, bStr]⟩
  | cons r rs ih =>
    intro acc a b d S hl h
    obtain ⟨b1, z⟩ := s_txB r (h r (by simp [CL.M.bind, CL.M.ret, CL.R.bind, cSeq, cRet, cVar, cOp, cAnd, cOr, cNot, cIf, cAndT, cOrT, cNotT, asB, cB, cNext, cIfS, cSet, CL.CS.put, cChain, dLe, dLt, dGt, dGe, dI2, startC, outF, fnB, cIsi, CL.CS.knOf, tyB, isKn, isTy, CL.M.guard, cTru, dTru, liftF, cCall, cCons, cFor, forL, cEnum, dEnum, cTg, cLc, lcL, wipeC, cWalk, dWalk, cNever, cSetTp, putAll, bLen, cFld, CL.CS.fld, cProp, noExc, CL.CS.clsOf, cCallS, dItems, cLenP, cIxP, CL.CS.see, cApp, CL.CS.pl, CL.CS.wr, CL.Pl.xs, dNeg, cSetIx, cStore, froz, cLst, cCutL, dCutL, cNoPart, cPart, dPart, CL.CS.seqL, bList, CL.M.opt, dIs, cIsiT, CL.D.isNon, bStr])) a b S
    obtain ⟨b', d', e⟩ := ih (acc ++ [.str (rowT r)]) a b1 .no S (by simp [CL.M.bind, CL.M.ret, CL.R.bind, cSeq, cRet, cVar, cOp, cAnd, cOr, cNot, cIf, cAndT, cOrT, cNotT, asB, cB, cNext, cIfS, cSet, CL.CS.put, cChain, dLe, dLt, dGt, dGe, dI2, startC, outF, fnB, cIsi, CL.CS.knOf, tyB, isKn, isTy, CL.M.guard, cTru, dTru, liftF, cCall, cCons, cFor, forL, cEnum, dEnum, cTg, cLc, lcL, wipeC, cWalk, dWalk, cNever, cSetTp, putAll, bLen, cFld, CL.CS.fld, cProp, noExc, CL.CS.clsOf, cCallS, dItems, cLenP, cIxP, CL.CS.see, cApp, CL.CS.pl, CL.CS.wr, CL.Pl.xs, dNeg, cSetIx, cStore, froz, cLst, cCutL, dCutL, cNoPart, cPart, dPart, CL.CS.seqL, bList, CL.M.opt, dIs, cIsiT, CL.D.isNon, bStr] at hl ⊢; omega) (fun y hy => h y (by simp [CL.M.bind, CL.M.ret, CL.R.bind, cSeq, cRet, cVar, cOp, cAnd, cOr, cNot, cIf, cAndT, cOrT, cNotT, asB, cB, cNext, cIfS, cSet, CL.CS.put, cChain, dLe, dLt, dGt, dGe, dI2, startC, outF, fnB, cIsi, CL.CS.knOf, tyB, isKn, isTy, CL.M.guard, cTru, dTru, liftF, cCall, cCons, cFor, forL, cEnum, dEnum, cTg, cLc, lcL, wipeC, cWalk, dWalk, cNever, cSetTp, putAll, bLen, cFld, CL.CS.fld, cProp, noExc, CL.CS.clsOf, cCallS, dItems, cLenP, cIxP, CL.CS.see, cApp, CL.CS.pl, CL.CS.wr, CL.Pl.xs, dNeg, cSetIx, cStore, froz, cLst, cCutL, dCutL, cNoPart, cPart, dPart, CL.CS.seqL, bList, CL.M.opt, dIs, cIsiT, CL.D.isNon, bStr, hy]))
    refine ⟨b', d', ?_⟩
    have hz : acc.length < sizeLine := Nat.lt_of_lt_of_le (by simp [CL.M.bind, CL.M.ret, CL.R.bind, cSeq, cRet, cVar, cOp, cAnd, cOr, cNot, cIf, cAndT, cOrT, cNotT, asB, cB, cNext, cIfS, cSet, CL.CS.put, cChain, dLe, dLt, dGt, dGe, dI2, startC, outF, fnB, cIsi, CL.CS.knOf, tyB, isKn, isTy, CL.M.guard, cTru, dTru, liftF, cCall, cCons, cFor, forL, cEnum, dEnum, cTg, cLc, lcL, wipeC, cWalk, dWalk, cNever, cSetTp, putAll, bLen, cFld, CL.CS.fld, cProp, noExc, CL.CS.clsOf, cCallS, dItems, cLenP, cIxP, CL.CS.see, cApp, CL.CS.pl, CL.CS.wr, CL.Pl.xs, dNeg, cSetIx, cStore, froz, cLst, cCutL, dCutL, cNoPart, cPart, dPart, CL.CS.seqL, bList, CL.M.opt, dIs, cIsiT, CL.D.isNon, bStr] at hl; omega : acc.length < 1001) (by decide)
    simp [CL.M.bind, CL.M.ret, CL.R.bind, cSeq, cRet, cVar, cOp, cAnd, cOr, cNot, cIf, cAndT, cOrT, cNotT, asB, cB, cNext, cIfS, cSet, CL.CS.put, cChain, dLe, dLt, dGt, dGe, dI2, startC, outF, fnB, cIsi, CL.CS.knOf, tyB, isKn, isTy, CL.M.guard, cTru, dTru, liftF, cCall, cCons, cFor, forL, cEnum, dEnum, cTg, cLc, lcL, wipeC, cWalk, dWalk, cNever, cSetTp, putAll, bLen, cFld, CL.CS.fld, cProp, noExc, CL.CS.clsOf, cCallS, dItems, cLenP, cIxP, CL.CS.see, cApp, CL.CS.pl, CL.CS.wr, CL.Pl.xs, dNeg, cSetIx, cStore, froz, cLst, cCutL, dCutL, cNoPart, cPart, dPart, CL.CS.seqL, bList, CL.M.opt, dIs, cIsiT, CL.D.isNon, bStr, hz, z] at e ⊢
    exact e
theorem s_ltext (rs : List (List Int)) (S : List O) (h : ChOk rs) : fn_law_text [.lst (rs.map rowD)] S = .ok (.str (chT rs)) S := by
  have h4 := h.2.1
  obtain ⟨b', d', e⟩ := s_ltL rs [] (.val (.lst (rs.map rowD))) .no .no S (by simp [CL.M.bind, CL.M.ret, CL.R.bind, cSeq, cRet, cVar, cOp, cAnd, cOr, cNot, cIf, cAndT, cOrT, cNotT, asB, cB, cNext, cIfS, cSet, CL.CS.put, cChain, dLe, dLt, dGt, dGe, dI2, startC, outF, fnB, cIsi, CL.CS.knOf, tyB, isKn, isTy, CL.M.guard, cTru, dTru, liftF, cCall, cCons, cFor, forL, cEnum, dEnum, cTg, cLc, lcL, wipeC, cWalk, dWalk, cNever, cSetTp, putAll, bLen, cFld, CL.CS.fld, cProp, noExc, CL.CS.clsOf, cCallS, dItems, cLenP, cIxP, CL.CS.see, cApp, CL.CS.pl, CL.CS.wr, CL.Pl.xs, dNeg, cSetIx, cStore, froz, cLst, cCutL, dCutL, cNoPart, cPart, dPart, CL.CS.seqL, bList, CL.M.opt, dIs, cIsiT, CL.D.isNon, bStr]; omega) h.2.2
  have eL : cLc (cWalk (cVar 0)) (.nm 2) (M.ret true) txB [2] ⟨[.val (.lst (rs.map rowD)), .no, .no], S⟩ = .ok (([] : List D) ++ (rs.map rowT).map .str) ⟨[.val (.lst (rs.map rowD)), b', d'], S⟩ := e
  rw [List.nil_append] at eL
  have hR : cRet (cJoin (M.ret (.str barS)) (froz (cLc (cWalk (cVar 0)) (.nm 2) (M.ret true) txB [2]))) ⟨[.val (.lst (rs.map rowD)), .no, .no], S⟩ = .ok (.ret (.str (chT rs))) ⟨[.val (.lst (rs.map rowD)), b', d'], S⟩ := by
    unfold cRet
    rw [cJoin_ok eL (s_dJoinS h _)]
    rfl
  show outF (cSeq (cRet (cJoin (M.ret (.str barS)) (froz (cLc (cWalk (cVar 0)) (.nm 2) (M.ret true) txB [2])))) cNext ⟨[.val (.lst (rs.map rowD)), .no, .no], S⟩) = _
  rw [cSeq_ret hR]
  rfl
end K03
namespace K03
open CL PySem
abbrev bar : List Nat := [32, 124, 32]
theorem tl_bar : TL.tl barS = bar := by decide
def Asc (x : Str) : Prop := ∀ c ∈ TL.tl x, c < 128
theorem joinL_mem {S : List Nat} {c : Nat} : ∀ {ps : List (List Nat)}, c ∈ TL.joinL S ps → c ∈ S ∨ ∃ p ∈ ps, c ∈ p
  | [], h => by simp [CL.M.bind, CL.M.ret, CL.R.bind, cSeq, cRet, cVar, cOp, cAnd, cOr, cNot, cIf, cAndT, cOrT, cNotT, asB, cB, cNext, cIfS, cSet, CL.CS.put, cChain, dLe, dLt, dGt, dGe, dI2, startC, outF, fnB, cIsi, CL.CS.knOf, tyB, isKn, isTy, CL.M.guard, cTru, dTru, liftF, cCall, cCons, cFor, forL, cEnum, dEnum, cTg, cLc, lcL, wipeC, cWalk, dWalk, cNever, cSetTp, putAll, bLen, cFld, CL.CS.fld, cProp, noExc, CL.CS.clsOf, cCallS, dItems, cLenP, cIxP, CL.CS.see, cApp, CL.CS.pl, CL.CS.wr, CL.Pl.xs, dNeg, cSetIx, cStore, froz, cLst, cCutL, dCutL, cNoPart, cPart, dPart, CL.CS.seqL, bList, CL.M.opt, dIs, cIsiT, CL.D.isNon, bStr, TL.joinL] at h
  | [p], h => .inr ⟨p, by simp [CL.M.bind, CL.M.ret, CL.R.bind, cSeq, cRet, cVar, cOp, cAnd, cOr, cNot, cIf, cAndT, cOrT, cNotT, asB, cB, cNext, cIfS, cSet, CL.CS.put, cChain, dLe, dLt, dGt, dGe, dI2, startC, outF, fnB, cIsi, CL.CS.knOf, tyB, isKn, isTy, CL.M.guard, cTru, dTru, liftF, cCall, cCons, cFor, forL, cEnum, dEnum, cTg, cLc, lcL, wipeC, cWalk, dWalk, cNever, cSetTp, putAll, bLen, cFld, CL.CS.fld, cProp, noExc, CL.CS.clsOf, cCallS, dItems, cLenP, cIxP, CL.CS.see, cApp, CL.CS.pl, CL.CS.wr, CL.Pl.xs, dNeg, cSetIx, cStore, froz, cLst, cCutL, dCutL, cNoPart, cPart, dPart, CL.CS.seqL, bList, CL.M.opt, dIs, cIsiT, CL.D.isNon, bStr], h⟩
  | p :: q :: r, h => by
    have h : c ∈ p ++ (S ++ TL.joinL S (q :: r)) := h
    simp only [List.mem_append] at h
    rcases h with h | h | h
    · exact .inr ⟨p, by simp [CL.M.bind, CL.M.ret, CL.R.bind, cSeq, cRet, cVar, cOp, cAnd, cOr, cNot, cIf, cAndT, cOrT, cNotT, asB, cB, cNext, cIfS, cSet, CL.CS.put, cChain, dLe, dLt, dGt, dGe, dI2, startC, outF, fnB, cIsi, CL.CS.knOf, tyB, isKn, isTy, CL.M.guard, cTru, dTru, liftF, cCall, cCons, cFor, forL, cEnum, dEnum, cTg, cLc, lcL, wipeC, cWalk, dWalk, cNever, cSetTp, putAll, bLen, cFld, CL.CS.fld, cProp, noExc, CL.CS.clsOf, cCallS, dItems, cLenP, cIxP, CL.CS.see, cApp, CL.CS.pl, CL.CS.wr, CL.Pl.xs, dNeg, cSetIx, cStore, froz, cLst, cCutL, dCutL, cNoPart, cPart, dPart, CL.CS.seqL, bList, CL.M.opt, dIs, cIsiT, CL.D.isNon, bStr], h⟩
    · exact .inl h
    · rcases joinL_mem h with h | ⟨z, hz, h⟩
      · exact .inl h
      · exact .inr ⟨z, List.mem_cons_of_mem _ hz, h⟩
theorem join_mem {y : Str} {ps : List Str} {c : Nat} (h : c ∈ TL.tl (Txt.join y ps)) : c ∈ TL.tl y ∨ ∃ p ∈ ps, c ∈ TL.tl p := by
  rw [TL.join_eq, TL.tl_join] at h
  rcases joinL_mem h with h | ⟨z, hz, h⟩
  · exact .inl h
  · obtain ⟨p, hp, rfl⟩ := List.mem_map.mp hz
    exact .inr ⟨p, hp, h⟩
theorem asc_join {y : Str} {ps : List Str} (hy : Asc y) (hp : ∀ p ∈ ps, Asc p) : Asc (Txt.join y ps) := fun c h => by
  rcases join_mem h with h | ⟨p, q, h⟩
  · exact hy c h
  · exact hp p q c h
theorem wd_dig {c : Int} (h1 : 1 ≤ c) (h2 : c ≤ 12) : ∀ a ∈ TL.tl (wd c), a < 128 ∧ a ≠ 45 ∧ a ≠ 124 ∧ a ≠ 32 := caps (P := fun c => ∀ a ∈ TL.tl (wd c), a < 128 ∧ a ≠ 45 ∧ a ≠ 124 ∧ a ≠ 32) (by decide) h1 h2
theorem tl_blk : TL.tl blk = [32] := by decide
def dash : Str := PySem.Str.ofString "-"
theorem tl_dash : TL.tl dash = [45] := by decide
theorem rowT_cons {x : Int} {r : List Int} (h : RowOk (x :: r)) : ∀ a ∈ TL.tl (rowT (x :: r)), a < 128 ∧ a ≠ 45 ∧ a ≠ 124 := fun a ha => by
  rcases join_mem ha with h1 | ⟨p, hp, h1⟩
  · rw [tl_blk] at h1
    simp [CL.M.bind, CL.M.ret, CL.R.bind, cSeq, cRet, cVar, cOp, cAnd, cOr, cNot, cIf, cAndT, cOrT, cNotT, asB, cB, cNext, cIfS, cSet, CL.CS.put, cChain, dLe, dLt, dGt, dGe, dI2, startC, outF, fnB, cIsi, CL.CS.knOf, tyB, isKn, isTy, CL.M.guard, cTru, dTru, liftF, cCall, cCons, cFor, forL, cEnum, dEnum, cTg, cLc, lcL, wipeC, cWalk, dWalk, cNever, cSetTp, putAll, bLen, cFld, CL.CS.fld, cProp, noExc, CL.CS.clsOf, cCallS, dItems, cLenP, cIxP, CL.CS.see, cApp, CL.CS.pl, CL.CS.wr, CL.Pl.xs, dNeg, cSetIx, cStore, froz, cLst, cCutL, dCutL, cNoPart, cPart, dPart, CL.CS.seqL, bList, CL.M.opt, dIs, cIsiT, CL.D.isNon, bStr] at h1
    omega
  · obtain ⟨c, hc, rfl⟩ := List.mem_map.mp hp
    have z := wd_dig (h.2 c hc).1 (h.2 c hc).2 a h1
    exact ⟨z.1, z.2.1, z.2.2.1⟩
theorem rowT_asc {r : List Int} (h : RowOk r) : ∀ a ∈ TL.tl (rowT r), a < 128 ∧ a ≠ 124 := by
  cases r with
  | nil =>
    intro a ha
    have ha : a ∈ TL.tl dash := ha
    rw [tl_dash] at ha
    simp [CL.M.bind, CL.M.ret, CL.R.bind, cSeq, cRet, cVar, cOp, cAnd, cOr, cNot, cIf, cAndT, cOrT, cNotT, asB, cB, cNext, cIfS, cSet, CL.CS.put, cChain, dLe, dLt, dGt, dGe, dI2, startC, outF, fnB, cIsi, CL.CS.knOf, tyB, isKn, isTy, CL.M.guard, cTru, dTru, liftF, cCall, cCons, cFor, forL, cEnum, dEnum, cTg, cLc, lcL, wipeC, cWalk, dWalk, cNever, cSetTp, putAll, bLen, cFld, CL.CS.fld, cProp, noExc, CL.CS.clsOf, cCallS, dItems, cLenP, cIxP, CL.CS.see, cApp, CL.CS.pl, CL.CS.wr, CL.Pl.xs, dNeg, cSetIx, cStore, froz, cLst, cCutL, dCutL, cNoPart, cPart, dPart, CL.CS.seqL, bList, CL.M.opt, dIs, cIsiT, CL.D.isNon, bStr] at ha
    omega
  | cons x r => exact fun a ha => ⟨(rowT_cons h a ha).1, (rowT_cons h a ha).2.2⟩
theorem asc_bar : Asc barS := fun c h => by
  rw [tl_bar] at h
  simp [CL.M.bind, CL.M.ret, CL.R.bind, cSeq, cRet, cVar, cOp, cAnd, cOr, cNot, cIf, cAndT, cOrT, cNotT, asB, cB, cNext, cIfS, cSet, CL.CS.put, cChain, dLe, dLt, dGt, dGe, dI2, startC, outF, fnB, cIsi, CL.CS.knOf, tyB, isKn, isTy, CL.M.guard, cTru, dTru, liftF, cCall, cCons, cFor, forL, cEnum, dEnum, cTg, cLc, lcL, wipeC, cWalk, dWalk, cNever, cSetTp, putAll, bLen, cFld, CL.CS.fld, cProp, noExc, CL.CS.clsOf, cCallS, dItems, cLenP, cIxP, CL.CS.see, cApp, CL.CS.pl, CL.CS.wr, CL.Pl.xs, dNeg, cSetIx, cStore, froz, cLst, cCutL, dCutL, cNoPart, cPart, dPart, CL.CS.seqL, bList, CL.M.opt, dIs, cIsiT, CL.D.isNon, bStr] at h
  omega
theorem chT_asc {rs : List (List Int)} (h : ChOk rs) : Asc (chT rs) := asc_join asc_bar fun p hp => by
  obtain ⟨r, hr, rfl⟩ := List.mem_map.mp hp
  exact fun c hc => (rowT_asc (h.2.2 r hr) c hc).1
end K03
namespace K03
open CL PySem
noncomputable section
local macro_rules | `(tactic| walk_at "nl") => `(tactic| first | exact w_nl0 rfl | ((apply w_nl); (· exact rfl); walk_at "nl"))
local macro_rules | `(tactic| walk_at "tru") => `(tactic| first | with_reducible rfl | with_reducible assumption | ((simp only [decide_eq_true_eq, decide_eq_false_iff_not, Bool.not_eq_true', Bool.not_eq_false', Bool.not_true, Bool.not_false, Bool.and_eq_true, Bool.or_eq_true, Bool.and_eq_false_iff, Bool.or_eq_false_iff, bne_iff_ne, bne_eq_false_iff_eq, ne_eq, D.isNon, and_self, and_true, true_and, or_false, false_or, not_true_eq_false, not_false_eq_true, List.length_map, List.length_cons, List.length_nil]); first | done | with_reducible assumption | omega) | ((with_reducible apply w_knB); exact rfl) | ((with_reducible apply w_knA); exact rfl) | ((with_reducible apply w_nonB); first | with_reducible assumption | exact rfl) | ((with_reducible apply w_nonN); exact rfl) | ((with_reducible apply w_emp); exact rfl))
local macro_rules | `(tactic| walk_at "num") => `(tactic| first | with_reducible assumption | omega | ((simp only [List.length_cons, List.length_nil, List.length_map, List.length_append, List.length_replicate, List.length_take, List.length_drop]); first | done | omega))
local macro_rules | `(tactic| walk_at "at") => `(tactic| first | with_reducible assumption | exact rfl | ((apply o_atN); first | with_reducible assumption | exact rfl | (apply o_map; with_reducible assumption)) | ((apply o_at0); with_reducible assumption) | ((apply o_at1); with_reducible assumption) | ((apply o_at2); with_reducible assumption) | ((apply o_at3); with_reducible assumption))
local macro_rules | `(tactic| walk_at "side") => `(tactic| first
  | ((with_reducible apply w_nlI); walk_at "nl")
  | ((with_reducible apply w_slt); exact rfl)
  | ((with_reducible apply w_sto); first | with_reducible assumption | exact rfl)
  | ((with_reducible apply w_sz); walk_at "num")
  | ((with_reducible apply w_has); first | exact w_hasO | ((apply w_hasR); (· with_reducible assumption); (· exact rfl)) | exact rfl)
  | ((with_reducible apply w_fldI); first | exact w_fldO rfl | ((apply w_fldR); (· with_reducible assumption); (· exact rfl)))
  | ((with_reducible apply w_at); walk_at "at")
  | ((with_reducible apply w_le); walk_at "num")
  | ((with_reducible apply w_lt); walk_at "num")
  | ((with_reducible apply w_ln); first | exact rfl | walk_at "num")
  | ((with_reducible apply w_lnN); first | exact rfl | walk_at "num")
  | ((with_reducible apply w_kn); first | exact rfl | ((apply w_knI); with_reducible assumption) | ((apply w_knL); with_reducible assumption))
  | ((with_reducible apply w_seeI); first | ((apply w_see); exact rfl) | ((apply w_seeV); exact rfl) | ((apply w_seeR); (· exact rfl); (· with_reducible assumption)))
  | ((with_reducible apply w_typed); exact rfl)
  | ((with_reducible apply w_asB'); first | with_reducible assumption | exact rfl)
  | ((with_reducible apply w_rng); omega)
  | ((with_reducible apply w_rng2); omega)
  | ((with_reducible apply w_ixN); walk_at "num"))
local macro_rules | `(tactic| walk_at "ops") => `(tactic| first
  | with_reducible exact o_eqI | with_reducible exact o_neI | with_reducible exact o_eqB | with_reducible exact o_neB | with_reducible exact o_lt | with_reducible exact o_le | with_reducible exact o_gt | with_reducible exact o_ge
  | with_reducible exact o_addI | with_reducible exact o_subI | with_reducible exact o_is | with_reducible exact o_isNot
  | with_reducible apply o_ixT | with_reducible apply o_ixL | with_reducible apply o_ixR
  | with_reducible apply o_addT | with_reducible apply o_cat
  | ((with_reducible apply o_own); (· first | exact w_hasO | ((apply w_hasR); (· with_reducible assumption); (· exact rfl))))
  | ((with_reducible apply o_eqO); (· first | exact w_hasO | ((apply w_hasR); (· with_reducible assumption); (· exact rfl))))
  | ((with_reducible apply o_neO); (· first | exact w_hasO | ((apply w_hasR); (· with_reducible assumption); (· exact rfl))))
  | ((with_reducible apply o_ownN); (· exact rfl)) | ((with_reducible apply o_eqON); (· exact rfl)) | ((with_reducible apply o_neON); (· exact rfl))
  | ((with_reducible apply o_modI); omega) | ((with_reducible apply o_mulI); ((unfold cMul); simp [CL.M.bind, CL.M.ret, CL.R.bind, cSeq, cRet, cVar, cOp, cAnd, cOr, cNot, cIf, cAndT, cOrT, cNotT, asB, cB, cNext, cIfS, cSet, CL.CS.put, cChain, dLe, dLt, dGt, dGe, dI2, startC, outF, fnB, cIsi, CL.CS.knOf, tyB, isKn, isTy, CL.M.guard, cTru, dTru, liftF, cCall, cCons, cFor, forL, cEnum, dEnum, cTg, cLc, lcL, wipeC, cWalk, dWalk, cNever, cSetTp, putAll, bLen, cFld, CL.CS.fld, cProp, noExc, CL.CS.clsOf, cCallS, dItems, cLenP, cIxP, CL.CS.see, cApp, CL.CS.pl, CL.CS.wr, CL.Pl.xs, dNeg, cSetIx, cStore, froz, cLst, cCutL, dCutL, cNoPart, cPart, dPart, CL.CS.seqL, bList, CL.M.opt, dIs, cIsiT, CL.D.isNon, bStr]; try omega)) | ((with_reducible apply o_divI); ((unfold cDiv); simp [CL.M.bind, CL.M.ret, CL.R.bind, cSeq, cRet, cVar, cOp, cAnd, cOr, cNot, cIf, cAndT, cOrT, cNotT, asB, cB, cNext, cIfS, cSet, CL.CS.put, cChain, dLe, dLt, dGt, dGe, dI2, startC, outF, fnB, cIsi, CL.CS.knOf, tyB, isKn, isTy, CL.M.guard, cTru, dTru, liftF, cCall, cCons, cFor, forL, cEnum, dEnum, cTg, cLc, lcL, wipeC, cWalk, dWalk, cNever, cSetTp, putAll, bLen, cFld, CL.CS.fld, cProp, noExc, CL.CS.clsOf, cCallS, dItems, cLenP, cIxP, CL.CS.see, cApp, CL.CS.pl, CL.CS.wr, CL.Pl.xs, dNeg, cSetIx, cStore, froz, cLst, cCutL, dCutL, cNoPart, cPart, dPart, CL.CS.seqL, bList, CL.M.opt, dIs, cIsiT, CL.D.isNon, bStr]; try omega)))
local macro_rules | `(tactic| walk_at "sel") => `(tactic| first | ((with_reducible apply w_selT); (· walk_at "tru")) | ((with_reducible apply w_selF); (· walk_at "tru")) | with_reducible apply w_selAnd | with_reducible apply w_selOr | with_reducible apply w_selAndV | with_reducible apply w_selOrV)
local macro_rules | `(tactic| walk_at "w1") => `(tactic| first
  | with_reducible assumption
  | ((with_reducible apply w_var); exact rfl)
  | ((with_reducible apply w_varL); (· exact rfl))
  | with_reducible exact w_ret
  | with_reducible apply w_cons
  | with_reducible apply w_seq | with_reducible apply w_seqN | with_reducible exact w_seqR | with_reducible exact w_seqB | with_reducible exact w_seqC | with_reducible exact w_seqX
  | with_reducible apply w_ifS | walk_at "sel"
  | with_reducible apply w_op | with_reducible apply w_opL | with_reducible apply w_asB
  | with_reducible apply w_call | with_reducible exact w_lift | with_reducible exact w_liftX
  | walk_at "side"
  | walk_at "ops"
  | with_reducible exact w_next | with_reducible apply w_set | with_reducible apply w_retS | with_reducible apply w_setL | with_reducible apply w_drop
  | with_reducible apply w_tup | with_reducible apply w_lst | with_reducible apply w_froz | with_reducible apply w_store
  | with_reducible apply w_andT | with_reducible apply w_orT | with_reducible apply w_notT | with_reducible apply w_tru | with_reducible exact w_truB | with_reducible exact w_truI | with_reducible exact w_truT | with_reducible exact w_truL
  | with_reducible apply w_and | with_reducible apply w_or | with_reducible apply w_not | with_reducible apply w_if
  | with_reducible apply w_meth | with_reducible apply w_prop | with_reducible apply w_fld | with_reducible apply w_callS
  | with_reducible exact w_lenT | with_reducible exact w_lenL | with_reducible apply w_lenR | with_reducible exact w_listT | with_reducible exact w_listL | with_reducible apply w_listR | with_reducible exact w_tupT | with_reducible exact w_tupL | with_reducible apply w_tupR | with_reducible apply w_all | with_reducible apply w_any | with_reducible exact w_neg | with_reducible apply w_maxT
  | with_reducible apply w_isi | with_reducible apply w_isiT
  | with_reducible apply w_setTp | with_reducible apply w_setTpL | with_reducible apply w_par | with_reducible apply w_par3 | with_reducible apply w_parL | with_reducible apply w_par3L
  | ((with_reducible apply w_appO); (· exact rfl)) | ((with_reducible apply w_appR); (· exact rfl))
  | with_reducible apply w_setIxO | with_reducible apply w_setIxE
  | with_reducible apply w_setF
  | with_reducible apply w_appE | with_reducible apply w_clrE
  | with_reducible apply w_for | with_reducible exact w_for0 | with_reducible apply w_forG | with_reducible apply w_tgN | with_reducible apply w_tgT
  | with_reducible apply w_lc | with_reducible apply w_lcG | with_reducible apply w_lc2
  | with_reducible apply w_walk | with_reducible exact w_walkL | with_reducible exact w_walkT | with_reducible apply w_walkG | with_reducible apply w_enum | with_reducible exact w_enumL | with_reducible exact w_enumT | with_reducible apply w_range1 | with_reducible apply w_r1N | with_reducible apply w_r1I | with_reducible apply w_range2 | with_reducible apply w_zip | with_reducible exact w_zipL | with_reducible exact w_zipT
  | with_reducible apply w_cutT | with_reducible apply w_cutL | with_reducible exact w_noPart | with_reducible apply w_part | with_reducible exact w_cutTto | with_reducible exact w_cutTfrom | with_reducible exact w_cutTfromS | with_reducible exact w_cutLfromS | with_reducible exact w_cutT1 | with_reducible exact w_cutLto | with_reducible exact w_cutLfrom | with_reducible exact w_cutL1
  | with_reducible apply w_chain
  | with_reducible apply w_lenP | with_reducible apply w_ixP
  | with_reducible apply w_raise1 | with_reducible exact w_raise0 | with_reducible exact w_brk | with_reducible exact w_cont | with_reducible exact w_retN
  | with_reducible apply w_star | with_reducible exact w_itemsT | with_reducible exact w_itemsL
  | ((with_reducible apply w_xf); exact rfl) | with_reducible apply w_joined | with_reducible exact w_parts0 | with_reducible apply w_parts | with_reducible apply o_fmtO | with_reducible apply o_strO | with_reducible apply o_reprO | with_reducible apply o_lenO | with_reducible apply o_fmtI | with_reducible apply w_strI | with_reducible apply w_join | with_reducible apply o_addS
  | with_reducible apply w_bind
  | with_reducible exact w_outN | with_reducible exact w_outR | with_reducible exact w_outX
  | ((with_reducible apply w_fnB); (· exact rfl))
  | walk_at "fn")
local macro_rules | `(tactic| walk_at "w") => `(tactic| repeat' walk_at "w1")
local macro_rules | `(tactic| walk_at "fn") => `(tactic| first | with_reducible apply w_tryX)
theorem str_ok (s : Str) (h : PyData.strOk s = true) : SeqAt.shaped (.str s) = true := by
  simp [CL.M.bind, CL.M.ret, CL.R.bind, cSeq, cRet, cVar, cOp, cAnd, cOr, cNot, cIf, cAndT, cOrT, cNotT, asB, cB, cNext, cIfS, cSet, CL.CS.put, cChain, dLe, dLt, dGt, dGe, dI2, startC, outF, fnB, cIsi, CL.CS.knOf, tyB, isKn, isTy, CL.M.guard, cTru, dTru, liftF, cCall, cCons, cFor, forL, cEnum, dEnum, cTg, cLc, lcL, wipeC, cWalk, dWalk, cNever, cSetTp, putAll, bLen, cFld, CL.CS.fld, cProp, noExc, CL.CS.clsOf, cCallS, dItems, cLenP, cIxP, CL.CS.see, cApp, CL.CS.pl, CL.CS.wr, CL.Pl.xs, dNeg, cSetIx, cStore, froz, cLst, cCutL, dCutL, cNoPart, cPart, dPart, CL.CS.seqL, bList, CL.M.opt, dIs, cIsiT, CL.D.isNon, bStr, SeqAt.shaped, PyData.canLay0, PyData.depth, h]
theorem ieq (a b : String) (ha : PyData.strOk (PySem.Str.ofString a) = true) (hb : PyData.strOk (PySem.Str.ofString b) = true) (h : decide (PySem.Str.ofString a = PySem.Str.ofString b) = false) (c : CS) : dEq (.str (PySem.Str.ofString a)) (.str (PySem.Str.ofString b)) c = .ok (.bl false) c := by
  rw [o_eqS (str_ok _ ha) (str_ok _ hb), h]
theorem toPs_strs (l : List Str) : toPs (l.map D.str) = some (l.map PyData.str) := by
  induction l with
  | nil => simp [CL.M.bind, CL.M.ret, CL.R.bind, cSeq, cRet, cVar, cOp, cAnd, cOr, cNot, cIf, cAndT, cOrT, cNotT, asB, cB, cNext, cIfS, cSet, CL.CS.put, cChain, dLe, dLt, dGt, dGe, dI2, startC, outF, fnB, cIsi, CL.CS.knOf, tyB, isKn, isTy, CL.M.guard, cTru, dTru, liftF, cCall, cCons, cFor, forL, cEnum, dEnum, cTg, cLc, lcL, wipeC, cWalk, dWalk, cNever, cSetTp, putAll, bLen, cFld, CL.CS.fld, cProp, noExc, CL.CS.clsOf, cCallS, dItems, cLenP, cIxP, CL.CS.see, cApp, CL.CS.pl, CL.CS.wr, CL.Pl.xs, dNeg, cSetIx, cStore, froz, cLst, cCutL, dCutL, cNoPart, cPart, dPart, CL.CS.seqL, bList, CL.M.opt, dIs, cIsiT, CL.D.isNon, bStr, toPs]
  | cons x l ih => simp [CL.M.bind, CL.M.ret, CL.R.bind, cSeq, cRet, cVar, cOp, cAnd, cOr, cNot, cIf, cAndT, cOrT, cNotT, asB, cB, cNext, cIfS, cSet, CL.CS.put, cChain, dLe, dLt, dGt, dGe, dI2, startC, outF, fnB, cIsi, CL.CS.knOf, tyB, isKn, isTy, CL.M.guard, cTru, dTru, liftF, cCall, cCons, cFor, forL, cEnum, dEnum, cTg, cLc, lcL, wipeC, cWalk, dWalk, cNever, cSetTp, putAll, bLen, cFld, CL.CS.fld, cProp, noExc, CL.CS.clsOf, cCallS, dItems, cLenP, cIxP, CL.CS.see, cApp, CL.CS.pl, CL.CS.wr, CL.Pl.xs, dNeg, cSetIx, cStore, froz, cLst, cCutL, dCutL, cNoPart, cPart, dPart, CL.CS.seqL, bList, CL.M.opt, dIs, cIsiT, CL.D.isNon, bStr, toPs, toP, ih]
theorem flat_strs (l : List Str) : (l.map PyData.str).all flatP = true := by
  induction l with
  | nil => rfl
  | cons x l ih => simp [CL.M.bind, CL.M.ret, CL.R.bind, cSeq, cRet, cVar, cOp, cAnd, cOr, cNot, cIf, cAndT, cOrT, cNotT, asB, cB, cNext, cIfS, cSet, CL.CS.put, cChain, dLe, dLt, dGt, dGe, dI2, startC, outF, fnB, cIsi, CL.CS.knOf, tyB, isKn, isTy, CL.M.guard, cTru, dTru, liftF, cCall, cCons, cFor, forL, cEnum, dEnum, cTg, cLc, lcL, wipeC, cWalk, dWalk, cNever, cSetTp, putAll, bLen, cFld, CL.CS.fld, cProp, noExc, CL.CS.clsOf, cCallS, dItems, cLenP, cIxP, CL.CS.see, cApp, CL.CS.pl, CL.CS.wr, CL.Pl.xs, dNeg, cSetIx, cStore, froz, cLst, cCutL, dCutL, cNoPart, cPart, dPart, CL.CS.seqL, bList, CL.M.opt, dIs, cIsiT, CL.D.isNon, bStr, flatP]
theorem dIn_str (x : Str) (l : List Str) (c : CS) (b : Bool) (h : (l.any fun y => y == x) = b) : dIn false (.str x) (.tup (l.map D.str)) c = .ok (.bl b) c := by
  have t : toP (.str x) = some (.str x) := by simp [CL.M.bind, CL.M.ret, CL.R.bind, cSeq, cRet, cVar, cOp, cAnd, cOr, cNot, cIf, cAndT, cOrT, cNotT, asB, cB, cNext, cIfS, cSet, CL.CS.put, cChain, dLe, dLt, dGt, dGe, dI2, startC, outF, fnB, cIsi, CL.CS.knOf, tyB, isKn, isTy, CL.M.guard, cTru, dTru, liftF, cCall, cCons, cFor, forL, cEnum, dEnum, cTg, cLc, lcL, wipeC, cWalk, dWalk, cNever, cSetTp, putAll, bLen, cFld, CL.CS.fld, cProp, noExc, CL.CS.clsOf, cCallS, dItems, cLenP, cIxP, CL.CS.see, cApp, CL.CS.pl, CL.CS.wr, CL.Pl.xs, dNeg, cSetIx, cStore, froz, cLst, cCutL, dCutL, cNoPart, cPart, dPart, CL.CS.seqL, bList, CL.M.opt, dIs, cIsiT, CL.D.isNon, bStr, toP]
  have e : ((l.map PyData.str).any fun z => PyData.eqv z (.str x)) = b := by
    rw [← h]
    clear h
    induction l with
    | nil => rfl
    | cons y l ih =>
      simp only [List.any_cons, List.map_cons]
      rw [ih]
      simp [CL.M.bind, CL.M.ret, CL.R.bind, cSeq, cRet, cVar, cOp, cAnd, cOr, cNot, cIf, cAndT, cOrT, cNotT, asB, cB, cNext, cIfS, cSet, CL.CS.put, cChain, dLe, dLt, dGt, dGe, dI2, startC, outF, fnB, cIsi, CL.CS.knOf, tyB, isKn, isTy, CL.M.guard, cTru, dTru, liftF, cCall, cCons, cFor, forL, cEnum, dEnum, cTg, cLc, lcL, wipeC, cWalk, dWalk, cNever, cSetTp, putAll, bLen, cFld, CL.CS.fld, cProp, noExc, CL.CS.clsOf, cCallS, dItems, cLenP, cIxP, CL.CS.see, cApp, CL.CS.pl, CL.CS.wr, CL.Pl.xs, dNeg, cSetIx, cStore, froz, cLst, cCutL, dCutL, cNoPart, cPart, dPart, CL.CS.seqL, bList, CL.M.opt, dIs, cIsiT, CL.D.isNon, bStr, PyData.eqv]
  show (match toP (.str x), toPs (l.map D.str) with
    | some p, some ps => M.guard (flatP p && ps.all flatP) (M.ret (D.bl (ynot false (ps.any fun z => PyData.eqv z p)))) c
    | _, _ => .stuck) = _
  rw [t, toPs_strs]
  dsimp only
  rw [flat_strs, e]
  rfl
abbrev nCircularPart : D := .str (PySem.Str.ofString "CircularPart")
theorem okInvalidBound : PyData.strOk (PySem.Str.ofString "InvalidBound") = true := by decide +kernel
theorem okInvalidChain : PyData.strOk (PySem.Str.ofString "InvalidChain") = true := by decide +kernel
theorem okInvalidCommand : PyData.strOk (PySem.Str.ofString "InvalidCommand") = true := by decide +kernel
theorem okInvalidDocument : PyData.strOk (PySem.Str.ofString "InvalidDocument") = true := by decide +kernel
theorem okInvalidEntry : PyData.strOk (PySem.Str.ofString "InvalidEntry") = true := by decide +kernel
theorem okInvalidItem : PyData.strOk (PySem.Str.ofString "InvalidItem") = true := by decide +kernel
abbrev nInvalidName : D := .str (PySem.Str.ofString "InvalidName")
theorem okInvalidNumber : PyData.strOk (PySem.Str.ofString "InvalidNumber") = true := by decide +kernel
theorem okInvalidProgram : PyData.strOk (PySem.Str.ofString "InvalidProgram") = true := by decide +kernel
theorem okInvalidText : PyData.strOk (PySem.Str.ofString "InvalidText") = true := by decide +kernel
abbrev nInvalidText : D := .str (PySem.Str.ofString "InvalidText")
abbrev nNameTaken : D := .str (PySem.Str.ofString "NameTaken")
abbrev nNoLevel : D := .str (PySem.Str.ofString "NoLevel")
abbrev nNotRemovable : D := .str (PySem.Str.ofString "NotRemovable")
abbrev nRackFull : D := .str (PySem.Str.ofString "RackFull")
abbrev nTooManyRounds : D := .str (PySem.Str.ofString "TooManyRounds")
abbrev nTooManySteps : D := .str (PySem.Str.ofString "TooManySteps")
abbrev nUnknownName : D := .str (PySem.Str.ofString "UnknownName")
abbrev nUnknownPart : D := .str (PySem.Str.ofString "UnknownPart")
theorem s_fdInvalidText (S : List O) : fn_law_field [(.exn 0 [nInvalidText])] S = .ok .non S := by
  have a0 := ieq "InvalidText" "InvalidChain" okInvalidText okInvalidChain (by decide) ⟨[.val (.exn 0 [nInvalidText])], S⟩
  have a1 := ieq "InvalidText" "InvalidEntry" okInvalidText okInvalidEntry (by decide) ⟨[.val (.exn 0 [nInvalidText])], S⟩
  have a2 := ieq "InvalidText" "InvalidItem" okInvalidText okInvalidItem (by decide) ⟨[.val (.exn 0 [nInvalidText])], S⟩
  have a3 : dIn false nInvalidText (.tup [nNoLevel, nNotRemovable]) ⟨[.val (.exn 0 [nInvalidText])], S⟩ = .ok (.bl false) ⟨[.val (.exn 0 [nInvalidText])], S⟩ := dIn_str _ [PySem.Str.ofString "NoLevel", PySem.Str.ofString "NotRemovable"] _ _ (by decide)
  have a4 : dIn false nInvalidText (.tup [nTooManyRounds, nTooManySteps, nRackFull]) ⟨[.val (.exn 0 [nInvalidText])], S⟩ = .ok (.bl false) ⟨[.val (.exn 0 [nInvalidText])], S⟩ := dIn_str _ [PySem.Str.ofString "TooManyRounds", PySem.Str.ofString "TooManySteps", PySem.Str.ofString "RackFull"] _ _ (by decide)
  have a5 := ieq "InvalidText" "InvalidNumber" okInvalidText okInvalidNumber (by decide) ⟨[.val (.exn 0 [nInvalidText])], S⟩
  have a6 := ieq "InvalidText" "InvalidBound" okInvalidText okInvalidBound (by decide) ⟨[.val (.exn 0 [nInvalidText])], S⟩
  have a7 := ieq "InvalidText" "InvalidProgram" okInvalidText okInvalidProgram (by decide) ⟨[.val (.exn 0 [nInvalidText])], S⟩
  have a8 : dIn false nInvalidText (.tup [nUnknownPart, nCircularPart, nInvalidName, nNameTaken, nUnknownName]) ⟨[.val (.exn 0 [nInvalidText])], S⟩ = .ok (.bl false) ⟨[.val (.exn 0 [nInvalidText])], S⟩ := dIn_str _ [PySem.Str.ofString "UnknownPart", PySem.Str.ofString "CircularPart", PySem.Str.ofString "InvalidName", PySem.Str.ofString "NameTaken", PySem.Str.ofString "UnknownName"] _ _ (by decide)
  have a9 := ieq "InvalidText" "InvalidCommand" okInvalidText okInvalidCommand (by decide) ⟨[.val (.exn 0 [nInvalidText])], S⟩
  have a10 := ieq "InvalidText" "InvalidDocument" okInvalidText okInvalidDocument (by decide) ⟨[.val (.exn 0 [nInvalidText])], S⟩
  have z : cl_law_field ⟨[.val (.exn 0 [nInvalidText])], S⟩ = .ok (.ret .non) ⟨[.val (.exn 0 [nInvalidText])], S⟩ := by
    unfold cl_law_field
    walk_at "w"
  show outF (noX (cl_law_field ⟨[.val (.exn 0 [nInvalidText])], S⟩)) = _
  rw [z]
  rfl
theorem s_suInvalidText (S : List O) : cl_try_suite ⟨[.no, .val (.exn 0 [nInvalidText])], S⟩ = .ok (.ret (.tup [nInvalidText, .non])) ⟨[.no, .val (.exn 0 [nInvalidText])], S⟩ := by
  have f := s_fdInvalidText S
  unfold cl_try_suite
  walk_at "w"
end
end K03
namespace K03
open CL PySem
noncomputable section
local macro_rules | `(tactic| walk_at "nl") => `(tactic| first | exact w_nl0 rfl | ((apply w_nl); (· exact rfl); walk_at "nl"))
local macro_rules | `(tactic| walk_at "tru") => `(tactic| first | with_reducible rfl | with_reducible assumption | ((simp only [decide_eq_true_eq, decide_eq_false_iff_not, Bool.not_eq_true', Bool.not_eq_false', Bool.not_true, Bool.not_false, Bool.and_eq_true, Bool.or_eq_true, Bool.and_eq_false_iff, Bool.or_eq_false_iff, bne_iff_ne, bne_eq_false_iff_eq, ne_eq, D.isNon, and_self, and_true, true_and, or_false, false_or, not_true_eq_false, not_false_eq_true, List.length_map, List.length_cons, List.length_nil]); first | done | with_reducible assumption | omega) | ((with_reducible apply w_knB); exact rfl) | ((with_reducible apply w_knA); exact rfl) | ((with_reducible apply w_nonB); first | with_reducible assumption | exact rfl) | ((with_reducible apply w_nonN); exact rfl) | ((with_reducible apply w_emp); exact rfl))
local macro_rules | `(tactic| walk_at "num") => `(tactic| first | with_reducible assumption | omega | ((simp only [List.length_cons, List.length_nil, List.length_map, List.length_append, List.length_replicate, List.length_take, List.length_drop]); first | done | omega))
local macro_rules | `(tactic| walk_at "at") => `(tactic| first | with_reducible assumption | exact rfl | ((apply o_atN); first | with_reducible assumption | exact rfl | (apply o_map; with_reducible assumption)) | ((apply o_at0); with_reducible assumption) | ((apply o_at1); with_reducible assumption) | ((apply o_at2); with_reducible assumption) | ((apply o_at3); with_reducible assumption))
local macro_rules | `(tactic| walk_at "side") => `(tactic| first
  | ((with_reducible apply w_nlI); walk_at "nl")
  | ((with_reducible apply w_slt); exact rfl)
  | ((with_reducible apply w_sto); first | with_reducible assumption | exact rfl)
  | ((with_reducible apply w_sz); walk_at "num")
  | ((with_reducible apply w_has); first | exact w_hasO | ((apply w_hasR); (· with_reducible assumption); (· exact rfl)) | exact rfl)
  | ((with_reducible apply w_fldI); first | exact w_fldO rfl | ((apply w_fldR); (· with_reducible assumption); (· exact rfl)))
  | ((with_reducible apply w_at); walk_at "at")
  | ((with_reducible apply w_le); walk_at "num")
  | ((with_reducible apply w_lt); walk_at "num")
  | ((with_reducible apply w_ln); first | exact rfl | walk_at "num")
  | ((with_reducible apply w_lnN); first | exact rfl | walk_at "num")
  | ((with_reducible apply w_kn); first | exact rfl | ((apply w_knI); with_reducible assumption) | ((apply w_knL); with_reducible assumption))
  | ((with_reducible apply w_seeI); first | ((apply w_see); exact rfl) | ((apply w_seeV); exact rfl) | ((apply w_seeR); (· exact rfl); (· with_reducible assumption)))
  | ((with_reducible apply w_typed); exact rfl)
  | ((with_reducible apply w_asB'); first | with_reducible assumption | exact rfl)
  | ((with_reducible apply w_rng); omega)
  | ((with_reducible apply w_rng2); omega)
  | ((with_reducible apply w_ixN); walk_at "num"))
local macro_rules | `(tactic| walk_at "ops") => `(tactic| first
  | with_reducible exact o_eqI | with_reducible exact o_neI | with_reducible exact o_eqB | with_reducible exact o_neB | with_reducible exact o_lt | with_reducible exact o_le | with_reducible exact o_gt | with_reducible exact o_ge
  | with_reducible exact o_addI | with_reducible exact o_subI | with_reducible exact o_is | with_reducible exact o_isNot
  | with_reducible apply o_ixT | with_reducible apply o_ixL | with_reducible apply o_ixR
  | with_reducible apply o_addT | with_reducible apply o_cat
  | ((with_reducible apply o_own); (· first | exact w_hasO | ((apply w_hasR); (· with_reducible assumption); (· exact rfl))))
  | ((with_reducible apply o_eqO); (· first | exact w_hasO | ((apply w_hasR); (· with_reducible assumption); (· exact rfl))))
  | ((with_reducible apply o_neO); (· first | exact w_hasO | ((apply w_hasR); (· with_reducible assumption); (· exact rfl))))
  | ((with_reducible apply o_ownN); (· exact rfl)) | ((with_reducible apply o_eqON); (· exact rfl)) | ((with_reducible apply o_neON); (· exact rfl))
  | ((with_reducible apply o_modI); omega) | ((with_reducible apply o_mulI); ((unfold cMul); simp [CL.M.bind, CL.M.ret, CL.R.bind, cSeq, cRet, cVar, cOp, cAnd, cOr, cNot, cIf, cAndT, cOrT, cNotT, asB, cB, cNext, cIfS, cSet, CL.CS.put, cChain, dLe, dLt, dGt, dGe, dI2, startC, outF, fnB, cIsi, CL.CS.knOf, tyB, isKn, isTy, CL.M.guard, cTru, dTru, liftF, cCall, cCons, cFor, forL, cEnum, dEnum, cTg, cLc, lcL, wipeC, cWalk, dWalk, cNever, cSetTp, putAll, bLen, cFld, CL.CS.fld, cProp, noExc, CL.CS.clsOf, cCallS, dItems, cLenP, cIxP, CL.CS.see, cApp, CL.CS.pl, CL.CS.wr, CL.Pl.xs, dNeg, cSetIx, cStore, froz, cLst, cCutL, dCutL, cNoPart, cPart, dPart, CL.CS.seqL, bList, CL.M.opt, dIs, cIsiT, CL.D.isNon, bStr]; try omega)) | ((with_reducible apply o_divI); ((unfold cDiv); simp [CL.M.bind, CL.M.ret, CL.R.bind, cSeq, cRet, cVar, cOp, cAnd, cOr, cNot, cIf, cAndT, cOrT, cNotT, asB, cB, cNext, cIfS, cSet, CL.CS.put, cChain, dLe, dLt, dGt, dGe, dI2, startC, outF, fnB, cIsi, CL.CS.knOf, tyB, isKn, isTy, CL.M.guard, cTru, dTru, liftF, cCall, cCons, cFor, forL, cEnum, dEnum, cTg, cLc, lcL, wipeC, cWalk, dWalk, cNever, cSetTp, putAll, bLen, cFld, CL.CS.fld, cProp, noExc, CL.CS.clsOf, cCallS, dItems, cLenP, cIxP, CL.CS.see, cApp, CL.CS.pl, CL.CS.wr, CL.Pl.xs, dNeg, cSetIx, cStore, froz, cLst, cCutL, dCutL, cNoPart, cPart, dPart, CL.CS.seqL, bList, CL.M.opt, dIs, cIsiT, CL.D.isNon, bStr]; try omega)))
local macro_rules | `(tactic| walk_at "sel") => `(tactic| first | ((with_reducible apply w_selT); (· walk_at "tru")) | ((with_reducible apply w_selF); (· walk_at "tru")) | with_reducible apply w_selAnd | with_reducible apply w_selOr | with_reducible apply w_selAndV | with_reducible apply w_selOrV)
local macro_rules | `(tactic| walk_at "w1") => `(tactic| first
  | with_reducible assumption
  | ((with_reducible apply w_var); exact rfl)
  | ((with_reducible apply w_varL); (· exact rfl))
  | with_reducible exact w_ret
  | with_reducible apply w_cons
  | with_reducible apply w_seq | with_reducible apply w_seqN | with_reducible exact w_seqR | with_reducible exact w_seqB | with_reducible exact w_seqC | with_reducible exact w_seqX
  | with_reducible apply w_ifS | walk_at "sel"
  | with_reducible apply w_op | with_reducible apply w_opL | with_reducible apply w_asB
  | with_reducible apply w_call | with_reducible exact w_lift | with_reducible exact w_liftX
  | walk_at "side"
  | walk_at "ops"
  | with_reducible exact w_next | with_reducible apply w_set | with_reducible apply w_retS | with_reducible apply w_setL | with_reducible apply w_drop
  | with_reducible apply w_tup | with_reducible apply w_lst | with_reducible apply w_froz | with_reducible apply w_store
  | with_reducible apply w_andT | with_reducible apply w_orT | with_reducible apply w_notT | with_reducible apply w_tru | with_reducible exact w_truB | with_reducible exact w_truI | with_reducible exact w_truT | with_reducible exact w_truL
  | with_reducible apply w_and | with_reducible apply w_or | with_reducible apply w_not | with_reducible apply w_if
  | with_reducible apply w_meth | with_reducible apply w_prop | with_reducible apply w_fld | with_reducible apply w_callS
  | with_reducible exact w_lenT | with_reducible exact w_lenL | with_reducible apply w_lenR | with_reducible exact w_listT | with_reducible exact w_listL | with_reducible apply w_listR | with_reducible exact w_tupT | with_reducible exact w_tupL | with_reducible apply w_tupR | with_reducible apply w_all | with_reducible apply w_any | with_reducible exact w_neg | with_reducible apply w_maxT
  | with_reducible apply w_isi | with_reducible apply w_isiT
  | with_reducible apply w_setTp | with_reducible apply w_setTpL | with_reducible apply w_par | with_reducible apply w_par3 | with_reducible apply w_parL | with_reducible apply w_par3L
  | ((with_reducible apply w_appO); (· exact rfl)) | ((with_reducible apply w_appR); (· exact rfl))
  | with_reducible apply w_setIxO | with_reducible apply w_setIxE
  | with_reducible apply w_setF
  | with_reducible apply w_appE | with_reducible apply w_clrE
  | with_reducible apply w_for | with_reducible exact w_for0 | with_reducible apply w_forG | with_reducible apply w_tgN | with_reducible apply w_tgT
  | with_reducible apply w_lc | with_reducible apply w_lcG | with_reducible apply w_lc2
  | with_reducible apply w_walk | with_reducible exact w_walkL | with_reducible exact w_walkT | with_reducible apply w_walkG | with_reducible apply w_enum | with_reducible exact w_enumL | with_reducible exact w_enumT | with_reducible apply w_range1 | with_reducible apply w_r1N | with_reducible apply w_r1I | with_reducible apply w_range2 | with_reducible apply w_zip | with_reducible exact w_zipL | with_reducible exact w_zipT
  | with_reducible apply w_cutT | with_reducible apply w_cutL | with_reducible exact w_noPart | with_reducible apply w_part | with_reducible exact w_cutTto | with_reducible exact w_cutTfrom | with_reducible exact w_cutTfromS | with_reducible exact w_cutLfromS | with_reducible exact w_cutT1 | with_reducible exact w_cutLto | with_reducible exact w_cutLfrom | with_reducible exact w_cutL1
  | with_reducible apply w_chain
  | with_reducible apply w_lenP | with_reducible apply w_ixP
  | with_reducible apply w_raise1 | with_reducible exact w_raise0 | with_reducible exact w_brk | with_reducible exact w_cont | with_reducible exact w_retN
  | with_reducible apply w_star | with_reducible exact w_itemsT | with_reducible exact w_itemsL
  | ((with_reducible apply w_xf); exact rfl) | with_reducible apply w_joined | with_reducible exact w_parts0 | with_reducible apply w_parts | with_reducible apply o_fmtO | with_reducible apply o_strO | with_reducible apply o_reprO | with_reducible apply o_lenO | with_reducible apply o_fmtI | with_reducible apply w_strI | with_reducible apply w_join | with_reducible apply o_addS
  | with_reducible apply w_bind
  | with_reducible exact w_outN | with_reducible exact w_outR | with_reducible exact w_outX
  | ((with_reducible apply w_fnB); (· exact rfl))
  | with_reducible exact w_cutLm1 | with_reducible exact w_cutLl1 | with_reducible exact dEq_bls _ _ _ | with_reducible exact dNe_bls _ _ _ | with_reducible apply w_sortR | with_reducible apply w_maxD | with_reducible apply w_callK | ((with_reducible apply o_shl); ((unfold cPow; simp [CL.M.bind, CL.M.ret, CL.R.bind, cSeq, cRet, cVar, cOp, cAnd, cOr, cNot, cIf, cAndT, cOrT, cNotT, asB, cB, cNext, cIfS, cSet, CL.CS.put, cChain, dLe, dLt, dGt, dGe, dI2, startC, outF, fnB, cIsi, CL.CS.knOf, tyB, isKn, isTy, CL.M.guard, cTru, dTru, liftF, cCall, cCons, cFor, forL, cEnum, dEnum, cTg, cLc, lcL, wipeC, cWalk, dWalk, cNever, cSetTp, putAll, bLen, cFld, CL.CS.fld, cProp, noExc, CL.CS.clsOf, cCallS, dItems, cLenP, cIxP, CL.CS.see, cApp, CL.CS.pl, CL.CS.wr, CL.Pl.xs, dNeg, cSetIx, cStore, froz, cLst, cCutL, dCutL, cNoPart, cPart, dPart, CL.CS.seqL, bList, CL.M.opt, dIs, cIsiT, CL.D.isNon, bStr]; try omega))) | ((with_reducible apply o_shr); omega) | with_reducible exact o_band | ((with_reducible apply w_divmod); ((unfold cDiv; simp [CL.M.bind, CL.M.ret, CL.R.bind, cSeq, cRet, cVar, cOp, cAnd, cOr, cNot, cIf, cAndT, cOrT, cNotT, asB, cB, cNext, cIfS, cSet, CL.CS.put, cChain, dLe, dLt, dGt, dGe, dI2, startC, outF, fnB, cIsi, CL.CS.knOf, tyB, isKn, isTy, CL.M.guard, cTru, dTru, liftF, cCall, cCons, cFor, forL, cEnum, dEnum, cTg, cLc, lcL, wipeC, cWalk, dWalk, cNever, cSetTp, putAll, bLen, cFld, CL.CS.fld, cProp, noExc, CL.CS.clsOf, cCallS, dItems, cLenP, cIxP, CL.CS.see, cApp, CL.CS.pl, CL.CS.wr, CL.Pl.xs, dNeg, cSetIx, cStore, froz, cLst, cCutL, dCutL, cNoPart, cPart, dPart, CL.CS.seqL, bList, CL.M.opt, dIs, cIsiT, CL.D.isNon, bStr]; try omega))) | ((with_reducible apply o_bin); (· exact rfl); (· exact rfl)) | ((with_reducible apply o_binN); (· exact rfl)) | with_reducible exact w_intB | with_reducible exact w_intI | ((with_reducible apply o_catR); (· with_reducible assumption); (· first | with_reducible assumption | walk_at "side"))
  | with_reducible apply w_setTf | with_reducible exact w_pf0 | with_reducible apply w_pfN | with_reducible apply w_pfF | with_reducible apply w_augF | with_reducible apply w_popL | with_reducible apply w_popE | with_reducible apply w_delFE | with_reducible apply w_set2 | with_reducible apply w_index
  | walk_at "fn")
local macro_rules | `(tactic| walk_at "w") => `(tactic| repeat' walk_at "w1")
def tOk (x : Str) : Prop := x.length ≤ 300 ∧ ∀ n ∈ TL.tl x, n < 0x110000
theorem tOk.pd {x : Str} (h : tOk x) : PyData.strOk x = true := by
  show x.cps.all _ = true
  rw [← Array.all_toList]
  exact List.all_eq_true.mpr fun n hn => decide_eq_true (h.2 n hn)
theorem tOk.shp {x : Str} (h : tOk x) : SeqAt.shaped (.str x) = true := str_ok x h.pd
theorem spl_mem (S : List Nat) : ∀ (l : List Nat) (k : Nat) (acc p : List Nat), p ∈ TL.spl S k acc l → (∀ n ∈ p, n ∈ acc ∨ n ∈ l) ∧ p.length ≤ acc.length + l.length := by
  intro l
  induction l with
  | nil =>
    intro k acc p hp
    rw [TL.spl_nil] at hp
    rw [List.mem_singleton.mp hp]
    exact ⟨fun n hn => .inl hn, by simp [CL.M.bind, CL.M.ret, CL.R.bind, cSeq, cRet, cVar, cOp, cAnd, cOr, cNot, cIf, cAndT, cOrT, cNotT, asB, cB, cNext, cIfS, cSet, CL.CS.put, cChain, dLe, dLt, dGt, dGe, dI2, startC, outF, fnB, cIsi, CL.CS.knOf, tyB, isKn, isTy, CL.M.guard, cTru, dTru, liftF, cCall, cCons, cFor, forL, cEnum, dEnum, cTg, cLc, lcL, wipeC, cWalk, dWalk, cNever, cSetTp, putAll, bLen, cFld, CL.CS.fld, cProp, noExc, CL.CS.clsOf, cCallS, dItems, cLenP, cIxP, CL.CS.see, cApp, CL.CS.pl, CL.CS.wr, CL.Pl.xs, dNeg, cSetIx, cStore, froz, cLst, cCutL, dCutL, cNoPart, cPart, dPart, CL.CS.seqL, bList, CL.M.opt, dIs, cIsiT, CL.D.isNon, bStr]⟩
  | cons a l ih =>
    intro k acc p hp
    cases k with
    | zero =>
      unfold TL.spl at hp
      by_cases h : TL.pre S (a :: l) = true
      · rw [if_pos h] at hp
        rcases List.mem_cons.mp hp with z | z
        · rw [z]
          exact ⟨fun n hn => .inl hn, by omega⟩
        · obtain ⟨h1, h2⟩ := ih _ _ _ z
          refine ⟨fun n hn => .inr (List.mem_cons_of_mem _ ((h1 n hn).resolve_left List.not_mem_nil)), ?_⟩
          simp [CL.M.bind, CL.M.ret, CL.R.bind, cSeq, cRet, cVar, cOp, cAnd, cOr, cNot, cIf, cAndT, cOrT, cNotT, asB, cB, cNext, cIfS, cSet, CL.CS.put, cChain, dLe, dLt, dGt, dGe, dI2, startC, outF, fnB, cIsi, CL.CS.knOf, tyB, isKn, isTy, CL.M.guard, cTru, dTru, liftF, cCall, cCons, cFor, forL, cEnum, dEnum, cTg, cLc, lcL, wipeC, cWalk, dWalk, cNever, cSetTp, putAll, bLen, cFld, CL.CS.fld, cProp, noExc, CL.CS.clsOf, cCallS, dItems, cLenP, cIxP, CL.CS.see, cApp, CL.CS.pl, CL.CS.wr, CL.Pl.xs, dNeg, cSetIx, cStore, froz, cLst, cCutL, dCutL, cNoPart, cPart, dPart, CL.CS.seqL, bList, CL.M.opt, dIs, cIsiT, CL.D.isNon, bStr] at h2 ⊢
          omega
      · rw [if_neg h] at hp
        obtain ⟨h1, h2⟩ := ih _ _ _ hp
        refine ⟨fun n hn => ?_, by simp [CL.M.bind, CL.M.ret, CL.R.bind, cSeq, cRet, cVar, cOp, cAnd, cOr, cNot, cIf, cAndT, cOrT, cNotT, asB, cB, cNext, cIfS, cSet, CL.CS.put, cChain, dLe, dLt, dGt, dGe, dI2, startC, outF, fnB, cIsi, CL.CS.knOf, tyB, isKn, isTy, CL.M.guard, cTru, dTru, liftF, cCall, cCons, cFor, forL, cEnum, dEnum, cTg, cLc, lcL, wipeC, cWalk, dWalk, cNever, cSetTp, putAll, bLen, cFld, CL.CS.fld, cProp, noExc, CL.CS.clsOf, cCallS, dItems, cLenP, cIxP, CL.CS.see, cApp, CL.CS.pl, CL.CS.wr, CL.Pl.xs, dNeg, cSetIx, cStore, froz, cLst, cCutL, dCutL, cNoPart, cPart, dPart, CL.CS.seqL, bList, CL.M.opt, dIs, cIsiT, CL.D.isNon, bStr] at h2 ⊢; omega⟩
        rcases h1 n hn with z | z
        · rcases List.mem_append.mp z with z | z
          · exact .inl z
          · exact .inr (by rw [List.mem_singleton.mp z]; exact List.mem_cons_self)
        · exact .inr (List.mem_cons_of_mem _ z)
    | succ k =>
      unfold TL.spl at hp
      obtain ⟨h1, h2⟩ := ih _ _ _ hp
      exact ⟨fun n hn => (h1 n hn).imp id fun z => List.mem_cons_of_mem _ z, by simp [CL.M.bind, CL.M.ret, CL.R.bind, cSeq, cRet, cVar, cOp, cAnd, cOr, cNot, cIf, cAndT, cOrT, cNotT, asB, cB, cNext, cIfS, cSet, CL.CS.put, cChain, dLe, dLt, dGt, dGe, dI2, startC, outF, fnB, cIsi, CL.CS.knOf, tyB, isKn, isTy, CL.M.guard, cTru, dTru, liftF, cCall, cCons, cFor, forL, cEnum, dEnum, cTg, cLc, lcL, wipeC, cWalk, dWalk, cNever, cSetTp, putAll, bLen, cFld, CL.CS.fld, cProp, noExc, CL.CS.clsOf, cCallS, dItems, cLenP, cIxP, CL.CS.see, cApp, CL.CS.pl, CL.CS.wr, CL.Pl.xs, dNeg, cSetIx, cStore, froz, cLst, cCutL, dCutL, cNoPart, cPart, dPart, CL.CS.seqL, bList, CL.M.opt, dIs, cIsiT, CL.D.isNon, bStr] at h2 ⊢; omega⟩
theorem spl_len (S : List Nat) : ∀ (l : List Nat) (k : Nat) (acc : List Nat), (TL.spl S k acc l).length ≤ l.length + 1 ∧ 0 < (TL.spl S k acc l).length := by
  intro l
  induction l with
  | nil => intro k acc; rw [TL.spl_nil]; simp [CL.M.bind, CL.M.ret, CL.R.bind, cSeq, cRet, cVar, cOp, cAnd, cOr, cNot, cIf, cAndT, cOrT, cNotT, asB, cB, cNext, cIfS, cSet, CL.CS.put, cChain, dLe, dLt, dGt, dGe, dI2, startC, outF, fnB, cIsi, CL.CS.knOf, tyB, isKn, isTy, CL.M.guard, cTru, dTru, liftF, cCall, cCons, cFor, forL, cEnum, dEnum, cTg, cLc, lcL, wipeC, cWalk, dWalk, cNever, cSetTp, putAll, bLen, cFld, CL.CS.fld, cProp, noExc, CL.CS.clsOf, cCallS, dItems, cLenP, cIxP, CL.CS.see, cApp, CL.CS.pl, CL.CS.wr, CL.Pl.xs, dNeg, cSetIx, cStore, froz, cLst, cCutL, dCutL, cNoPart, cPart, dPart, CL.CS.seqL, bList, CL.M.opt, dIs, cIsiT, CL.D.isNon, bStr]
  | cons a l ih =>
    intro k acc
    cases k with
    | zero =>
      unfold TL.spl
      by_cases h : TL.pre S (a :: l) = true
      · rw [if_pos h, List.length_cons, List.length_cons]
        have := ih (S.length - 1) []
        omega
      · rw [if_neg h, List.length_cons]
        have := ih 0 (acc ++ [a])
        omega
    | succ k =>
      unfold TL.spl
      rw [List.length_cons]
      have := ih k acc
      omega
theorem split_ok {x y : Str} (h : tOk x) (hy : TL.tl y ≠ []) (hk : y.cps.all (· < 256) = true) : (∀ p ∈ Txt.split x y, tOk p) ∧ (Txt.split x y).length ≤ 301 ∧ 0 < (Txt.split x y).length := by
  have e := TL.split_spl x y hy (TL.kind_ok hk)
  have hl : (Txt.split x y).length = (TL.spl (TL.tl y) 0 [] (TL.tl x)).length := by rw [← e, List.length_map]
  obtain ⟨l1, l2⟩ := spl_len (TL.tl y) (TL.tl x) 0 []
  have lx := h.1
  rw [TL.len_tl] at lx
  refine ⟨fun p hp => ?_, by omega, by omega⟩
  have hm : TL.tl p ∈ TL.spl (TL.tl y) 0 [] (TL.tl x) := by
    rw [← e]
    exact List.mem_map.mpr ⟨p, hp, rfl⟩
  obtain ⟨h1, h2⟩ := spl_mem _ _ _ _ _ hm
  rw [List.length_nil] at h2
  refine ⟨by rw [TL.len_tl]; omega, fun n hn => h.2 n ((h1 n hn).resolve_left List.not_mem_nil)⟩
abbrev dashS : Str := PySem.Str.ofString "-"
abbrev caps12 : List Int := [1, 2, 3, 4, 5, 6, 7, 8, 9, 10, 11, 12]
def capOf (w : Str) : Option Int := caps12.find? fun k => decide (w = wd k)
def mapO {α : Type} (f : Str → Option α) : List Str → Option (List α)
  | [] => some []
  | w :: ws => match f w with
    | some k => (mapO f ws).map (k :: ·)
    | none => none
def short (o : Option (List Int)) : Option (List Int) := match o with
  | some r => if r.length ≤ 12 then some r else none
  | none => none
def few (o : Option (List (List Int))) : Option (List (List Int)) := match o with
  | some r => if r.length ≤ 4 then some r else none
  | none => none
def rowOf (p : Str) : Option (List Int) := if p = dashS then some [] else short (mapO capOf (Txt.split p blk))
def readOf (t : Str) : Option (List (List Int)) := few (mapO rowOf (Txt.split t barS))
theorem mapO_mem {α : Type} {f : Str → Option α} : ∀ {ws : List Str} {r : List α}, mapO f ws = some r → r.length = ws.length ∧ ∀ k ∈ r, ∃ w, f w = some k
  | [], r, h => by cases h; exact ⟨rfl, fun k hk => absurd hk List.not_mem_nil⟩
  | w :: ws, r, h => by
    unfold mapO at h
    cases e : f w with
    | none => rw [e] at h; cases h
    | some k =>
      rw [e] at h
      dsimp only at h
      cases e2 : mapO f ws with
      | none => rw [e2] at h; cases h
      | some r2 =>
        rw [e2] at h
        cases h
        obtain ⟨h1, h2⟩ := mapO_mem e2
        refine ⟨by simp [CL.M.bind, CL.M.ret, CL.R.bind, cSeq, cRet, cVar, cOp, cAnd, cOr, cNot, cIf, cAndT, cOrT, cNotT, asB, cB, cNext, cIfS, cSet, CL.CS.put, cChain, dLe, dLt, dGt, dGe, dI2, startC, outF, fnB, cIsi, CL.CS.knOf, tyB, isKn, isTy, CL.M.guard, cTru, dTru, liftF, cCall, cCons, cFor, forL, cEnum, dEnum, cTg, cLc, lcL, wipeC, cWalk, dWalk, cNever, cSetTp, putAll, bLen, cFld, CL.CS.fld, cProp, noExc, CL.CS.clsOf, cCallS, dItems, cLenP, cIxP, CL.CS.see, cApp, CL.CS.pl, CL.CS.wr, CL.Pl.xs, dNeg, cSetIx, cStore, froz, cLst, cCutL, dCutL, cNoPart, cPart, dPart, CL.CS.seqL, bList, CL.M.opt, dIs, cIsiT, CL.D.isNon, bStr, h1], fun z hz => ?_⟩
        rcases List.mem_cons.mp hz with q | q
        · exact ⟨w, by rw [q]; exact e⟩
        · exact h2 z q
theorem cap_rng {w : Str} {k : Int} (h : capOf w = some k) : 1 ≤ k ∧ k ≤ 12 ∧ w = wd k := by
  have h1 := List.mem_of_find?_eq_some h
  have h2 := List.find?_some h
  have h2 : w = wd k := of_decide_eq_true h2
  have h3 : ∀ z ∈ caps12, 1 ≤ z ∧ z ≤ 12 := by decide
  exact ⟨(h3 k h1).1, (h3 k h1).2, h2⟩
theorem row_ok {p : Str} {r : List Int} (h : rowOf p = some r) : RowOk r := by
  unfold rowOf at h
  by_cases e : p = dashS
  · rw [if_pos e] at h
    cases h
    exact ⟨by simp [CL.M.bind, CL.M.ret, CL.R.bind, cSeq, cRet, cVar, cOp, cAnd, cOr, cNot, cIf, cAndT, cOrT, cNotT, asB, cB, cNext, cIfS, cSet, CL.CS.put, cChain, dLe, dLt, dGt, dGe, dI2, startC, outF, fnB, cIsi, CL.CS.knOf, tyB, isKn, isTy, CL.M.guard, cTru, dTru, liftF, cCall, cCons, cFor, forL, cEnum, dEnum, cTg, cLc, lcL, wipeC, cWalk, dWalk, cNever, cSetTp, putAll, bLen, cFld, CL.CS.fld, cProp, noExc, CL.CS.clsOf, cCallS, dItems, cLenP, cIxP, CL.CS.see, cApp, CL.CS.pl, CL.CS.wr, CL.Pl.xs, dNeg, cSetIx, cStore, froz, cLst, cCutL, dCutL, cNoPart, cPart, dPart, CL.CS.seqL, bList, CL.M.opt, dIs, cIsiT, CL.D.isNon, bStr], fun c hc => absurd hc List.not_mem_nil⟩
  · rw [if_neg e] at h
    cases e2 : mapO capOf (Txt.split p blk) with
    | none => rw [e2] at h; cases h
    | some r2 =>
      rw [e2] at h
      unfold short at h
      dsimp only at h
      by_cases l : r2.length ≤ 12
      · rw [if_pos l] at h
        cases h
        refine ⟨l, fun c hc => ?_⟩
        obtain ⟨w, hw⟩ := (mapO_mem e2).2 c hc
        obtain ⟨a, b, _⟩ := cap_rng hw
        exact ⟨a, b⟩
      · rw [if_neg l] at h
        cases h
theorem blk_ne : TL.tl blk ≠ [] := by decide +kernel
theorem bar_ne : TL.tl barS ≠ [] := by decide +kernel
theorem blk_as : blk.cps.all (· < 256) = true := by decide +kernel
theorem bar_as : barS.cps.all (· < 256) = true := by decide +kernel
theorem read_ok {t : Str} {rs : List (List Int)} (ht : tOk t) (h : readOf t = some rs) : ChOk rs := by
  unfold readOf at h
  cases e2 : mapO rowOf (Txt.split t barS) with
  | none => rw [e2] at h; cases h
  | some r2 =>
    rw [e2] at h
    unfold few at h
    dsimp only at h
    by_cases l : r2.length ≤ 4
    · rw [if_pos l] at h
      cases h
      obtain ⟨h1, h2⟩ := mapO_mem e2
      refine ⟨by have := (split_ok ht bar_ne bar_as).2.2; omega, l, fun r hr => ?_⟩
      obtain ⟨w, hw⟩ := h2 r hr
      exact row_ok hw
    · rw [if_neg l] at h
      cases h
theorem forL_nx {body : D → M Fl} {d : D} {ds : List D} {c c1 : CS} (e : body d c = .ok .next c1) : forL body (d :: ds) c = forL body ds c1 := by
  rw [forL]
  dsimp only
  rw [e]
theorem forL_rt {body : D → M Fl} {d v : D} {ds : List D} {c c1 : CS} (e : body d c = .ok (.ret v) c1) : forL body (d :: ds) c = .ok (.ret v) c1 := by
  rw [forL]
  dsimp only
  rw [e]
theorem s_wd {k : Int} (h1 : 1 ≤ k) (h2 : k ≤ 12) (c : CS) : bStr [.int k] c = .ok (.str (wd k)) c := by
  obtain ⟨n, rfl⟩ := Int.eq_ofNat_of_zero_le (by omega : 0 ≤ k)
  exact w_strI (by omega)
theorem s_capL {w : Str} (hw : tOk w) : ∀ (ks : List Int), (∀ k ∈ ks, 1 ≤ k ∧ k ≤ 12) → ∀ (b : Sl) (S : List O), ∃ b', forL (fun d => cSeq (cTg (.nm 1) d) cl_read_capacity_b1) (ks.map D.int) ⟨[.val (.str w), b], S⟩ = (match ks.find? fun k => decide (w = wd k) with
    | some k => .ok (.ret (.int k)) ⟨[.val (.str w), b'], S⟩
    | none => .ok .next ⟨[.val (.str w), b'], S⟩) := by
  intro ks
  induction ks with
  | nil => intro _ b S; exact ⟨b, rfl⟩
  | cons k ks ih =>
    intro hk b S
    have k1 := hk k List.mem_cons_self
    have e := o_eqS (c := ⟨[.val (.str w), .val (.int k)], S⟩) hw.shp (wd_shp k1.1 k1.2)
    have st := s_wd k1.1 k1.2 ⟨[.val (.str w), .val (.int k)], S⟩
    by_cases q : w = wd k
    · rw [decide_eq_true q] at e
      refine ⟨.val (.int k), ?_⟩
      rw [List.find?_cons_of_pos (by simpa using q)]
      dsimp only
      refine forL_rt ?_
      unfold cl_read_capacity_b1
      walk_at "w"
    · rw [decide_eq_false q] at e
      obtain ⟨b', e2⟩ := ih (fun z hz => hk z (List.mem_cons_of_mem _ hz)) (.val (.int k)) S
      refine ⟨b', ?_⟩
      rw [List.find?_cons_of_neg (by simpa using q)]
      have z : cSeq (cTg (.nm 1) (.int k)) cl_read_capacity_b1 ⟨[.val (.str w), b], S⟩ = .ok .next ⟨[.val (.str w), .val (.int k)], S⟩ := by
        unfold cl_read_capacity_b1
        walk_at "w"
      exact (forL_nx (body := fun d => cSeq (cTg (.nm 1) d) cl_read_capacity_b1) z).trans e2
theorem s_cap {w : Str} (hw : tOk w) (S : List O) : fn_read_capacity [.str w] S = (match capOf w with
    | some k => .ok (.int k) S
    | none => .exc 0 [nInvalidText] S) := by
  obtain ⟨b', e⟩ := s_capL hw caps12 (by decide) .no S
  have e : forL (fun d => cSeq (cTg (.nm 1) d) cl_read_capacity_b1) (rangeD 1 12) ⟨[.val (.str w), .no], S⟩ = (match capOf w with
    | some k => .ok (.ret (.int k)) ⟨[.val (.str w), b'], S⟩
    | none => .ok .next ⟨[.val (.str w), b'], S⟩) := e
  have rg : cRange2 (M.ret (.int 1)) (cOp dAdd (M.ret (.int 12)) (M.ret (.int 1))) ⟨[.val (.str w), .no], S⟩ = .ok (rangeD 1 12) ⟨[.val (.str w), .no], S⟩ := rfl
  have fo : cFor (cRange2 (M.ret (.int 1)) (cOp dAdd (M.ret (.int 12)) (M.ret (.int 1)))) (.nm 1) cl_read_capacity_b1 ⟨[.val (.str w), .no], S⟩ = (match capOf w with
    | some k => .ok (.ret (.int k)) ⟨[.val (.str w), b'], S⟩
    | none => .ok .next ⟨[.val (.str w), b'], S⟩) := by
    show (cRange2 (M.ret (.int 1)) (cOp dAdd (M.ret (.int 12)) (M.ret (.int 1))) _).bind _ = _
    rw [rg]
    exact e
  show outF (cl_read_capacity ⟨[.val (.str w), .no], S⟩) = _
  unfold cl_read_capacity
  cases q : capOf w with
  | some k =>
    rw [q] at fo
    rw [cSeq_ret fo]
    rfl
  | none =>
    rw [q] at fo
    rw [cSeq_next fo, x_seq w_raise0]
    rfl
theorem lcX_map {α : Type} {f : Str → Option α} {g : α → D} {i cn : Nat} {us : List D} {fe : M D} {c : CS} : ∀ (ws : List Str) (step : ∀ w ∈ ws, ∃ c1 c2, cTg (.nm i) (.str w) c = .ok .next c1 ∧ fe c1 = (match f w with
    | some k => .ok (g k) c2
    | none => .exc cn us c2) ∧ wipeC [i] c2 = c) (acc : List D), acc.length + ws.length ≤ 1000 → lcX (.nm i) fe [i] (ws.map .str) acc c = (match mapO f ws with
    | some r => .ok (acc ++ r.map g) c
    | none => .exc cn us c) := by
  intro ws
  induction ws with
  | nil => intro _ acc _; show R.ok acc c = R.ok (acc ++ []) c; rw [List.append_nil]
  | cons w ws ih =>
    intro step acc hl
    rw [List.length_cons] at hl
    obtain ⟨c1, c2, e1, e2, e3⟩ := step w List.mem_cons_self
    rw [List.map_cons]
    unfold lcX mapO
    try dsimp only
    rw [e1]
    try dsimp only
    rw [e2]
    cases q : f w with
    | none =>
      try dsimp only
      rw [e3]
    | some k =>
      try dsimp only
      rw [e3]
      have hz : decide (acc.length < sizeLine) = true := decide_eq_true (Nat.lt_of_lt_of_le (by omega : acc.length < 1001) (by decide))
      rw [hz]
      show lcX (.nm i) fe [i] (ws.map .str) (acc ++ [g k]) c = _
      rw [ih (fun z hz => step z (List.mem_cons_of_mem _ hz)) (acc ++ [g k]) (by rw [List.length_append, List.length_singleton]; omega)]
      cases mapO f ws with
      | none => rfl
      | some r =>
        show R.ok _ _ = R.ok _ _
        rw [List.append_assoc]
        rfl
theorem s_split {x y : Str} {i : Nat} {c : CS} (hx : cVar i c = .ok (.str x) c) (hl : x.length ≤ 1000) (hy : (y.length == 0) = false) : cWalk (froz (cSplit (cVar i) (M.ret (.str y)))) c = .ok ((Txt.split x y).map .str) c := by
  have hz : decide (x.length + 2 ≤ sizeLine) = true := decide_eq_true (Nat.le_trans (by omega : x.length + 2 ≤ 1002) (by decide))
  have g : cSplit (cVar i) (M.ret (.str y)) c = .ok ((Txt.split x y).map .str) c := by
    show (R.bind (cVar i c) _) = _
    rw [hx]
    show (M.guard (!(y.length == 0) && decide (x.length + 2 ≤ sizeLine)) (M.ret ((Txt.split x y).map D.str))) c = _
    rw [hy, hz]
    rfl
  show R.bind (R.bind (cSplit (cVar i) (M.ret (.str y)) c) _) _ = _
  rw [g]
  rfl
theorem dash_ok : SeqAt.shaped (.str dashS) = true := str_ok _ (by decide +kernel)
theorem s_prow {p : Str} (hp : tOk p) (S : List O) : fn_read_row [.str p] S = (match rowOf p with
    | some r => .ok (rowD r) S
    | none => .exc 0 [nInvalidText] S) := by
  have e := o_eqS (c := ⟨[.val (.str p), .no, .no], S⟩) hp.shp dash_ok
  show outF (cl_read_row ⟨[.val (.str p), .no, .no], S⟩) = _
  unfold rowOf
  by_cases q : p = dashS
  · rw [decide_eq_true q] at e
    rw [if_pos q]
    have z : cl_read_row ⟨[.val (.str p), .no, .no], S⟩ = .ok (.ret (.tup [])) ⟨[.val (.str p), .no, .no], S⟩ := by
      have i0 : cIfS (asB (cOp dEq (cVar 0) (M.ret (.str dashS)))) (cSeq (cRet (cTup (M.ret []))) cNext) cNext ⟨[.val (.str p), .no, .no], S⟩ = .ok (.ret (.tup [])) ⟨[.val (.str p), .no, .no], S⟩ := by
        walk_at "w"
      exact cSeq_ret i0
    rw [z]
    rfl
  · rw [decide_eq_false q] at e
    rw [if_neg q]
    obtain ⟨so, sl, _⟩ := split_ok hp blk_ne blk_as
    have lc := lcX_map (f := capOf) (g := D.int) (i := 2) (cn := 0) (us := [nInvalidText]) (fe := cl_read_row_e1) (c := ⟨[.val (.str p), .no, .no], S⟩) (Txt.split p blk) (fun w hw => by
      have h := s_cap (so w hw) S
      refine ⟨⟨[.val (.str p), .no, .val (.str w)], S⟩, ⟨[.val (.str p), .no, .val (.str w)], S⟩, rfl, ?_, rfl⟩
      show liftF (fn_read_capacity [.str w] S) _ = _
      rw [h]
      cases capOf w <;> rfl) [] (by simp only [List.length_nil]; omega)
    have sp := s_split (i := 0) (c := ⟨[.val (.str p), .no, .no], S⟩) (y := blk) rfl (by have := hp.1; omega) (by decide)
    have lcc : cLcX (cWalk (froz (cSplit (cVar 0) (M.ret (.str blk))))) (.nm 2) cl_read_row_e1 [2] ⟨[.val (.str p), .no, .no], S⟩ = (match mapO capOf (Txt.split p blk) with
        | some r => .ok (r.map D.int) ⟨[.val (.str p), .no, .no], S⟩
        | none => .exc 0 [nInvalidText] ⟨[.val (.str p), .no, .no], S⟩) := by
      show R.bind (cWalk (froz (cSplit (cVar 0) (M.ret (.str blk)))) _) _ = _
      rw [sp]
      refine Eq.trans ?_ (lc.trans ?_)
      · rfl
      · cases mapO capOf (Txt.split p blk) <;> rfl
    have i0 : cIfS (asB (cOp dEq (cVar 0) (M.ret (.str dashS)))) (cSeq (cRet (cTup (M.ret []))) cNext) cNext ⟨[.val (.str p), .no, .no], S⟩ = .ok .next ⟨[.val (.str p), .no, .no], S⟩ := by
      walk_at "w"
    cases mq : mapO capOf (Txt.split p blk) with
    | none =>
      rw [mq] at lcc
      have z : cSet 1 ((cCons (froz (cLcX (cWalk (froz (cSplit (cVar 0) (M.ret (.str blk))))) (.nm 2) cl_read_row_e1 [2])) (M.ret [])).bind bTuple) ⟨[.val (.str p), .no, .no], S⟩ = .exc 0 [nInvalidText] ⟨[.val (.str p), .no, .no], S⟩ := by
        show R.bind (R.bind (R.bind (R.bind (cLcX _ _ _ _ _) _) _) _) _ = _
        rw [lcc]
        rfl
      have zz : cl_read_row ⟨[.val (.str p), .no, .no], S⟩ = .exc 0 [nInvalidText] ⟨[.val (.str p), .no, .no], S⟩ := (cSeq_next i0).trans (x_seq z)
      rw [zz]
      rfl
    | some r =>
      rw [mq] at lcc
      have hr : r.length ≤ 301 := by rw [(mapO_mem mq).1]; exact sl
      have z : cSet 1 ((cCons (froz (cLcX (cWalk (froz (cSplit (cVar 0) (M.ret (.str blk))))) (.nm 2) cl_read_row_e1 [2])) (M.ret [])).bind bTuple) ⟨[.val (.str p), .no, .no], S⟩ = .ok .next ⟨[.val (.str p), .val (.tup (r.map D.int)), .no], S⟩ := by
        show R.bind (R.bind (R.bind (R.bind (cLcX _ _ _ _ _) _) _) _) _ = _
        rw [lcc]
        rfl
      unfold short
      dsimp only
      by_cases l : r.length ≤ 12
      · rw [if_pos l]
        have z2 : cSeq (cIfS (asB (cOp dGt ((cCons (cVar 1) (M.ret [])).bind bLen) (M.ret (.int 12)))) (cSeq (cRaise0 0 "InvalidText") cNext) cNext) (cSeq (cRet (cVar 1)) cNext) ⟨[.val (.str p), .val (.tup (r.map D.int)), .no], S⟩ = .ok (.ret (.tup (r.map D.int))) ⟨[.val (.str p), .val (.tup (r.map D.int)), .no], S⟩ := by
          walk_at "w"
        have zz : cl_read_row ⟨[.val (.str p), .no, .no], S⟩ = _ := (cSeq_next i0).trans ((cSeq_next z).trans z2)
        rw [zz]
        rfl
      · rw [if_neg l]
        have z2 : cSeq (cIfS (asB (cOp dGt ((cCons (cVar 1) (M.ret [])).bind bLen) (M.ret (.int 12)))) (cSeq (cRaise0 0 "InvalidText") cNext) cNext) (cSeq (cRet (cVar 1)) cNext) ⟨[.val (.str p), .val (.tup (r.map D.int)), .no], S⟩ = .exc 0 [nInvalidText] ⟨[.val (.str p), .val (.tup (r.map D.int)), .no], S⟩ := by
          refine x_seq ?_
          walk_at "w"
        have zz : cl_read_row ⟨[.val (.str p), .no, .no], S⟩ = _ := (cSeq_next i0).trans ((cSeq_next z).trans z2)
        rw [zz]
        rfl
theorem s_read {t : Str} (ht : tOk t) (S : List O) : fn_Chain_read [.str t] S = (match readOf t with
    | some rs => .ok (chD rs) S
    | none => .exc 0 [nInvalidText] S) := by
  obtain ⟨so, sl, _⟩ := split_ok ht bar_ne bar_as
  have lc := lcX_map (f := rowOf) (g := rowD) (i := 3) (cn := 0) (us := [nInvalidText]) (fe := cl_Chain_read_e1) (c := ⟨[.no, .val (.str t), .no, .no], S⟩) (Txt.split t barS) (fun w hw => by
    have h := s_prow (so w hw) S
    refine ⟨⟨[.no, .val (.str t), .no, .val (.str w)], S⟩, ⟨[.no, .val (.str t), .no, .val (.str w)], S⟩, rfl, ?_, rfl⟩
    show liftF (fn_read_row [.str w] S) _ = _
    rw [h]
    cases rowOf w <;> rfl) [] (by simp only [List.length_nil]; omega)
  have sp := s_split (i := 1) (c := ⟨[.no, .val (.str t), .no, .no], S⟩) (y := barS) rfl (by have := ht.1; omega) (by decide)
  have lcc : cLcX (cWalk (froz (cSplit (cVar 1) (M.ret (.str barS))))) (.nm 3) cl_Chain_read_e1 [3] ⟨[.no, .val (.str t), .no, .no], S⟩ = (match mapO rowOf (Txt.split t barS) with
      | some r => .ok (r.map rowD) ⟨[.no, .val (.str t), .no, .no], S⟩
      | none => .exc 0 [nInvalidText] ⟨[.no, .val (.str t), .no, .no], S⟩) := by
    show R.bind (cWalk (froz (cSplit (cVar 1) (M.ret (.str barS)))) _) _ = _
    rw [sp]
    refine Eq.trans ?_ (lc.trans ?_)
    · rfl
    · cases mapO rowOf (Txt.split t barS) <;> rfl
  show outF (cl_Chain_read ⟨[.no, .val (.str t), .no, .no], S⟩) = _
  have ro : ∀ rs, readOf t = some rs → ChOk rs := fun rs h => read_ok ht h
  unfold readOf at ro ⊢
  cases mq : mapO rowOf (Txt.split t barS) with
  | none =>
    rw [mq] at lcc
    have z : cSet 2 (froz (cLcX (cWalk (froz (cSplit (cVar 1) (M.ret (.str barS))))) (.nm 3) cl_Chain_read_e1 [3])) ⟨[.no, .val (.str t), .no, .no], S⟩ = .exc 0 [nInvalidText] ⟨[.no, .val (.str t), .no, .no], S⟩ := by
      show R.bind (R.bind (cLcX _ _ _ _ _) _) _ = _
      rw [lcc]
      rfl
    have zz : cl_Chain_read ⟨[.no, .val (.str t), .no, .no], S⟩ = _ := x_seq z
    rw [zz]
    rfl
  | some rs =>
    rw [mq] at lcc ro
    have hr : rs.length ≤ 301 := by rw [(mapO_mem mq).1]; exact sl
    have z : cSet 2 (froz (cLcX (cWalk (froz (cSplit (cVar 1) (M.ret (.str barS))))) (.nm 3) cl_Chain_read_e1 [3])) ⟨[.no, .val (.str t), .no, .no], S⟩ = .ok .next ⟨[.no, .val (.str t), .val (.lst (rs.map rowD)), .no], S⟩ := by
      show R.bind (R.bind (cLcX _ _ _ _ _) _) _ = _
      rw [lcc]
      rfl
    unfold few at ro ⊢
    dsimp only at ro ⊢
    by_cases l : rs.length ≤ 4
    · rw [if_pos l] at ro ⊢
      have mk := s_make rs S (ro rs rfl)
      have z2 : cSeq (cIfS (asB (cOp dGt ((cCons (cVar 2) (M.ret [])).bind bLen) (M.ret (.int 4)))) (cSeq (cRaise0 0 "InvalidText") cNext) cNext) (cSeq (cRet (cCallS fn_Chain__init (cVar 2))) cNext) ⟨[.no, .val (.str t), .val (.lst (rs.map rowD)), .no], S⟩ = .ok (.ret (chD rs)) ⟨[.no, .val (.str t), .val (.lst (rs.map rowD)), .no], S⟩ := by
        walk_at "w"
      have zz : cl_Chain_read ⟨[.no, .val (.str t), .no, .no], S⟩ = _ := (cSeq_next z).trans z2
      rw [zz]
      rfl
    · rw [if_neg l]
      have z2 : cSeq (cIfS (asB (cOp dGt ((cCons (cVar 2) (M.ret [])).bind bLen) (M.ret (.int 4)))) (cSeq (cRaise0 0 "InvalidText") cNext) cNext) (cSeq (cRet (cCallS fn_Chain__init (cVar 2))) cNext) ⟨[.no, .val (.str t), .val (.lst (rs.map rowD)), .no], S⟩ = .exc 0 [nInvalidText] ⟨[.no, .val (.str t), .val (.lst (rs.map rowD)), .no], S⟩ := by
        refine x_seq ?_
        walk_at "w"
      have zz : cl_Chain_read ⟨[.no, .val (.str t), .no, .no], S⟩ = _ := (cSeq_next z).trans z2
      rw [zz]
      rfl
end
end K03
namespace K03
open CL PySem
noncomputable section
local macro_rules | `(tactic| walk_at "nl") => `(tactic| first | exact w_nl0 rfl | ((apply w_nl); (· exact rfl); walk_at "nl"))
local macro_rules | `(tactic| walk_at "tru") => `(tactic| first | with_reducible rfl | with_reducible assumption | ((simp only [decide_eq_true_eq, decide_eq_false_iff_not, Bool.not_eq_true', Bool.not_eq_false', Bool.not_true, Bool.not_false, Bool.and_eq_true, Bool.or_eq_true, Bool.and_eq_false_iff, Bool.or_eq_false_iff, bne_iff_ne, bne_eq_false_iff_eq, ne_eq, D.isNon, and_self, and_true, true_and, or_false, false_or, not_true_eq_false, not_false_eq_true, List.length_map, List.length_cons, List.length_nil]); first | done | with_reducible assumption | omega) | ((with_reducible apply w_knB); exact rfl) | ((with_reducible apply w_knA); exact rfl) | ((with_reducible apply w_nonB); first | with_reducible assumption | exact rfl) | ((with_reducible apply w_nonN); exact rfl) | ((with_reducible apply w_emp); exact rfl))
local macro_rules | `(tactic| walk_at "num") => `(tactic| first | with_reducible assumption | omega | ((simp only [List.length_cons, List.length_nil, List.length_map, List.length_append, List.length_replicate, List.length_take, List.length_drop]); first | done | omega))
local macro_rules | `(tactic| walk_at "at") => `(tactic| first | with_reducible assumption | exact rfl | ((apply o_atN); first | with_reducible assumption | exact rfl | (apply o_map; with_reducible assumption)) | ((apply o_at0); with_reducible assumption) | ((apply o_at1); with_reducible assumption) | ((apply o_at2); with_reducible assumption) | ((apply o_at3); with_reducible assumption))
local macro_rules | `(tactic| walk_at "side") => `(tactic| first
  | ((with_reducible apply w_nlI); walk_at "nl")
  | ((with_reducible apply w_slt); exact rfl)
  | ((with_reducible apply w_sto); first | with_reducible assumption | exact rfl)
  | ((with_reducible apply w_sz); walk_at "num")
  | ((with_reducible apply w_has); first | exact w_hasO | ((apply w_hasR); (· with_reducible assumption); (· exact rfl)) | exact rfl)
  | ((with_reducible apply w_fldI); first | exact w_fldO rfl | ((apply w_fldR); (· with_reducible assumption); (· exact rfl)))
  | ((with_reducible apply w_at); walk_at "at")
  | ((with_reducible apply w_le); walk_at "num")
  | ((with_reducible apply w_lt); walk_at "num")
  | ((with_reducible apply w_ln); first | exact rfl | walk_at "num")
  | ((with_reducible apply w_lnN); first | exact rfl | walk_at "num")
  | ((with_reducible apply w_kn); first | exact rfl | ((apply w_knI); with_reducible assumption) | ((apply w_knL); with_reducible assumption))
  | ((with_reducible apply w_seeI); first | ((apply w_see); exact rfl) | ((apply w_seeV); exact rfl) | ((apply w_seeR); (· exact rfl); (· with_reducible assumption)))
  | ((with_reducible apply w_typed); exact rfl)
  | ((with_reducible apply w_asB'); first | with_reducible assumption | exact rfl)
  | ((with_reducible apply w_rng); omega)
  | ((with_reducible apply w_rng2); omega)
  | ((with_reducible apply w_ixN); walk_at "num"))
local macro_rules | `(tactic| walk_at "ops") => `(tactic| first
  | with_reducible exact o_eqI | with_reducible exact o_neI | with_reducible exact o_eqB | with_reducible exact o_neB | with_reducible exact o_lt | with_reducible exact o_le | with_reducible exact o_gt | with_reducible exact o_ge
  | with_reducible exact o_addI | with_reducible exact o_subI | with_reducible exact o_is | with_reducible exact o_isNot
  | with_reducible apply o_ixT | with_reducible apply o_ixL | with_reducible apply o_ixR
  | with_reducible apply o_addT | with_reducible apply o_cat
  | ((with_reducible apply o_own); (· first | exact w_hasO | ((apply w_hasR); (· with_reducible assumption); (· exact rfl))))
  | ((with_reducible apply o_eqO); (· first | exact w_hasO | ((apply w_hasR); (· with_reducible assumption); (· exact rfl))))
  | ((with_reducible apply o_neO); (· first | exact w_hasO | ((apply w_hasR); (· with_reducible assumption); (· exact rfl))))
  | ((with_reducible apply o_ownN); (· exact rfl)) | ((with_reducible apply o_eqON); (· exact rfl)) | ((with_reducible apply o_neON); (· exact rfl))
  | ((with_reducible apply o_modI); omega) | ((with_reducible apply o_mulI); ((unfold cMul); simp [CL.M.bind, CL.M.ret, CL.R.bind, cSeq, cRet, cVar, cOp, cAnd, cOr, cNot, cIf, cAndT, cOrT, cNotT, asB, cB, cNext, cIfS, cSet, CL.CS.put, cChain, dLe, dLt, dGt, dGe, dI2, startC, outF, fnB, cIsi, CL.CS.knOf, tyB, isKn, isTy, CL.M.guard, cTru, dTru, liftF, cCall, cCons, cFor, forL, cEnum, dEnum, cTg, cLc, lcL, wipeC, cWalk, dWalk, cNever, cSetTp, putAll, bLen, cFld, CL.CS.fld, cProp, noExc, CL.CS.clsOf, cCallS, dItems, cLenP, cIxP, CL.CS.see, cApp, CL.CS.pl, CL.CS.wr, CL.Pl.xs, dNeg, cSetIx, cStore, froz, cLst, cCutL, dCutL, cNoPart, cPart, dPart, CL.CS.seqL, bList, CL.M.opt, dIs, cIsiT, CL.D.isNon, bStr]; try omega)) | ((with_reducible apply o_divI); ((unfold cDiv); simp [CL.M.bind, CL.M.ret, CL.R.bind, cSeq, cRet, cVar, cOp, cAnd, cOr, cNot, cIf, cAndT, cOrT, cNotT, asB, cB, cNext, cIfS, cSet, CL.CS.put, cChain, dLe, dLt, dGt, dGe, dI2, startC, outF, fnB, cIsi, CL.CS.knOf, tyB, isKn, isTy, CL.M.guard, cTru, dTru, liftF, cCall, cCons, cFor, forL, cEnum, dEnum, cTg, cLc, lcL, wipeC, cWalk, dWalk, cNever, cSetTp, putAll, bLen, cFld, CL.CS.fld, cProp, noExc, CL.CS.clsOf, cCallS, dItems, cLenP, cIxP, CL.CS.see, cApp, CL.CS.pl, CL.CS.wr, CL.Pl.xs, dNeg, cSetIx, cStore, froz, cLst, cCutL, dCutL, cNoPart, cPart, dPart, CL.CS.seqL, bList, CL.M.opt, dIs, cIsiT, CL.D.isNon, bStr]; try omega)))
local macro_rules | `(tactic| walk_at "sel") => `(tactic| first | ((with_reducible apply w_selT); (· walk_at "tru")) | ((with_reducible apply w_selF); (· walk_at "tru")) | with_reducible apply w_selAnd | with_reducible apply w_selOr | with_reducible apply w_selAndV | with_reducible apply w_selOrV)
local macro_rules | `(tactic| walk_at "w1") => `(tactic| first
  | with_reducible assumption
  | ((with_reducible apply w_var); exact rfl)
  | ((with_reducible apply w_varL); (· exact rfl))
  | with_reducible exact w_ret
  | with_reducible apply w_cons
  | with_reducible apply w_seq | with_reducible apply w_seqN | with_reducible exact w_seqR | with_reducible exact w_seqB | with_reducible exact w_seqC | with_reducible exact w_seqX
  | with_reducible apply w_ifS | walk_at "sel"
  | with_reducible apply w_op | with_reducible apply w_opL | with_reducible apply w_asB
  | with_reducible apply w_call | with_reducible exact w_lift | with_reducible exact w_liftX
  | walk_at "side"
  | walk_at "ops"
  | with_reducible exact w_next | with_reducible apply w_set | with_reducible apply w_retS | with_reducible apply w_setL | with_reducible apply w_drop
  | with_reducible apply w_tup | with_reducible apply w_lst | with_reducible apply w_froz | with_reducible apply w_store
  | with_reducible apply w_andT | with_reducible apply w_orT | with_reducible apply w_notT | with_reducible apply w_tru | with_reducible exact w_truB | with_reducible exact w_truI | with_reducible exact w_truT | with_reducible exact w_truL
  | with_reducible apply w_and | with_reducible apply w_or | with_reducible apply w_not | with_reducible apply w_if
  | with_reducible apply w_meth | with_reducible apply w_prop | with_reducible apply w_fld | with_reducible apply w_callS
  | with_reducible exact w_lenT | with_reducible exact w_lenL | with_reducible apply w_lenR | with_reducible exact w_listT | with_reducible exact w_listL | with_reducible apply w_listR | with_reducible exact w_tupT | with_reducible exact w_tupL | with_reducible apply w_tupR | with_reducible apply w_all | with_reducible apply w_any | with_reducible exact w_neg | with_reducible apply w_maxT
  | with_reducible apply w_isi | with_reducible apply w_isiT
  | with_reducible apply w_setTp | with_reducible apply w_setTpL | with_reducible apply w_par | with_reducible apply w_par3 | with_reducible apply w_parL | with_reducible apply w_par3L
  | ((with_reducible apply w_appO); (· exact rfl)) | ((with_reducible apply w_appR); (· exact rfl))
  | with_reducible apply w_setIxO | with_reducible apply w_setIxE
  | with_reducible apply w_setF
  | with_reducible apply w_appE | with_reducible apply w_clrE
  | with_reducible apply w_for | with_reducible exact w_for0 | with_reducible apply w_forG | with_reducible apply w_tgN | with_reducible apply w_tgT
  | with_reducible apply w_lc | with_reducible apply w_lcG | with_reducible apply w_lc2
  | with_reducible apply w_walk | with_reducible exact w_walkL | with_reducible exact w_walkT | with_reducible apply w_walkG | with_reducible apply w_enum | with_reducible exact w_enumL | with_reducible exact w_enumT | with_reducible apply w_range1 | with_reducible apply w_r1N | with_reducible apply w_r1I | with_reducible apply w_range2 | with_reducible apply w_zip | with_reducible exact w_zipL | with_reducible exact w_zipT
  | with_reducible apply w_cutT | with_reducible apply w_cutL | with_reducible exact w_noPart | with_reducible apply w_part | with_reducible exact w_cutTto | with_reducible exact w_cutTfrom | with_reducible exact w_cutTfromS | with_reducible exact w_cutLfromS | with_reducible exact w_cutT1 | with_reducible exact w_cutLto | with_reducible exact w_cutLfrom | with_reducible exact w_cutL1
  | with_reducible apply w_chain
  | with_reducible apply w_lenP | with_reducible apply w_ixP
  | with_reducible apply w_raise1 | with_reducible exact w_raise0 | with_reducible exact w_brk | with_reducible exact w_cont | with_reducible exact w_retN
  | with_reducible apply w_star | with_reducible exact w_itemsT | with_reducible exact w_itemsL
  | ((with_reducible apply w_xf); exact rfl) | with_reducible apply w_joined | with_reducible exact w_parts0 | with_reducible apply w_parts | with_reducible apply o_fmtO | with_reducible apply o_strO | with_reducible apply o_reprO | with_reducible apply o_lenO | with_reducible apply o_fmtI | with_reducible apply w_strI | with_reducible apply w_join | with_reducible apply o_addS
  | with_reducible apply w_bind
  | with_reducible exact w_outN | with_reducible exact w_outR | with_reducible exact w_outX
  | ((with_reducible apply w_fnB); (· exact rfl))
  | with_reducible exact w_cutLm1 | with_reducible exact w_cutLl1 | with_reducible exact dEq_bls _ _ _ | with_reducible exact dNe_bls _ _ _ | with_reducible apply w_sortR | with_reducible apply w_maxD | with_reducible apply w_callK | ((with_reducible apply o_shl); ((unfold cPow; simp [CL.M.bind, CL.M.ret, CL.R.bind, cSeq, cRet, cVar, cOp, cAnd, cOr, cNot, cIf, cAndT, cOrT, cNotT, asB, cB, cNext, cIfS, cSet, CL.CS.put, cChain, dLe, dLt, dGt, dGe, dI2, startC, outF, fnB, cIsi, CL.CS.knOf, tyB, isKn, isTy, CL.M.guard, cTru, dTru, liftF, cCall, cCons, cFor, forL, cEnum, dEnum, cTg, cLc, lcL, wipeC, cWalk, dWalk, cNever, cSetTp, putAll, bLen, cFld, CL.CS.fld, cProp, noExc, CL.CS.clsOf, cCallS, dItems, cLenP, cIxP, CL.CS.see, cApp, CL.CS.pl, CL.CS.wr, CL.Pl.xs, dNeg, cSetIx, cStore, froz, cLst, cCutL, dCutL, cNoPart, cPart, dPart, CL.CS.seqL, bList, CL.M.opt, dIs, cIsiT, CL.D.isNon, bStr]; try omega))) | ((with_reducible apply o_shr); omega) | with_reducible exact o_band | ((with_reducible apply w_divmod); ((unfold cDiv; simp [CL.M.bind, CL.M.ret, CL.R.bind, cSeq, cRet, cVar, cOp, cAnd, cOr, cNot, cIf, cAndT, cOrT, cNotT, asB, cB, cNext, cIfS, cSet, CL.CS.put, cChain, dLe, dLt, dGt, dGe, dI2, startC, outF, fnB, cIsi, CL.CS.knOf, tyB, isKn, isTy, CL.M.guard, cTru, dTru, liftF, cCall, cCons, cFor, forL, cEnum, dEnum, cTg, cLc, lcL, wipeC, cWalk, dWalk, cNever, cSetTp, putAll, bLen, cFld, CL.CS.fld, cProp, noExc, CL.CS.clsOf, cCallS, dItems, cLenP, cIxP, CL.CS.see, cApp, CL.CS.pl, CL.CS.wr, CL.Pl.xs, dNeg, cSetIx, cStore, froz, cLst, cCutL, dCutL, cNoPart, cPart, dPart, CL.CS.seqL, bList, CL.M.opt, dIs, cIsiT, CL.D.isNon, bStr]; try omega))) | ((with_reducible apply o_bin); (· exact rfl); (· exact rfl)) | ((with_reducible apply o_binN); (· exact rfl)) | with_reducible exact w_intB | with_reducible exact w_intI | ((with_reducible apply o_catR); (· with_reducible assumption); (· first | with_reducible assumption | walk_at "side"))
  | with_reducible apply w_setTf | with_reducible exact w_pf0 | with_reducible apply w_pfN | with_reducible apply w_pfF | with_reducible apply w_augF | with_reducible apply w_popL | with_reducible apply w_popE | with_reducible apply w_delFE | with_reducible apply w_set2 | with_reducible apply w_index
  | walk_at "fn")
local macro_rules | `(tactic| walk_at "w") => `(tactic| repeat' walk_at "w1")
theorem dIn_true {d : D} {xs : List D} {b : Bool} {c : CS} (h : dIn false d (.lst xs) c = .ok (.bl b) c) : dIn true d (.lst xs) c = .ok (.bl (!b)) c := by
  have h : (match toP d, toPs xs with
    | some p, some ps => M.guard (SeqAt.shaped p && SeqAt.shaped (.list ps)) (M.ret (D.bl (ynot false (ps.any fun z => PyData.eqv z p)))) c
    | _, _ => .stuck) = R.ok (.bl b) c := h
  show (match toP d, toPs xs with
    | some p, some ps => M.guard (SeqAt.shaped p && SeqAt.shaped (.list ps)) (M.ret (D.bl (ynot true (ps.any fun z => PyData.eqv z p)))) c
    | _, _ => .stuck) = _
  cases e1 : toP d with
  | none => rw [e1] at h; cases h
  | some p =>
    cases e2 : toPs xs with
    | none => rw [e1, e2] at h; cases h
    | some ps =>
      rw [e1, e2] at h
      dsimp only at h ⊢
      cases e3 : (SeqAt.shaped p && SeqAt.shaped (.list ps)) with
      | false => rw [e3] at h; cases h
      | true =>
        rw [e3] at h
        have h : R.ok (D.bl (ynot false (ps.any fun z => PyData.eqv z p))) c = R.ok (.bl b) c := h
        injection h with h _
        injection h with h
        show R.ok (D.bl (ynot true (ps.any fun z => PyData.eqv z p))) c = _
        rw [← h]
        cases (ps.any fun z => PyData.eqv z p) <;> rfl
theorem wd_pd {k : Int} (h1 : 1 ≤ k) (h2 : k ≤ 12) : PyData.strOk (wd k) = true := caps (P := fun c => PyData.strOk (wd c) = true) (by decide +kernel) h1 h2
theorem wd_int {k : Int} (h1 : 1 ≤ k) (h2 : k ≤ 12) : PySem.intText? (wd k) = some k := caps (P := fun c => PySem.intText? (wd c) = some c) (by decide +kernel) h1 h2
abbrev words : List D := caps12.map fun k => D.str (wd k)
theorem in_words {w : Str} (hw : tOk w) (c : CS) : dIn true (.str w) (.lst words) c = .ok (.bl (capOf w).isNone) c := by
  have r12 : ∀ z ∈ caps12, 1 ≤ z ∧ z ≤ 12 := by decide
  have h := dIn_lst (n := 0) (xs := words) (d := .str w) (by omega) (fun x hx => by
    obtain ⟨k, hk, rfl⟩ := List.mem_map.mp hx
    exact wd_pd (r12 k hk).1 (r12 k hk).2) hw.pd (capOf w).isSome (by
      constructor
      · intro h
        obtain ⟨k, hk⟩ := Option.isSome_iff_exists.mp h
        have hm : k ∈ caps12 := List.mem_of_find?_eq_some hk
        exact List.mem_map.mpr ⟨k, hm, by rw [(cap_rng hk).2.2]⟩
      · intro h
        obtain ⟨k, hk, e⟩ := List.mem_map.mp h
        cases e
        unfold capOf
        rw [List.find?_isSome]
        exact ⟨k, hk, by simp [CL.M.bind, CL.M.ret, CL.R.bind, cSeq, cRet, cVar, cOp, cAnd, cOr, cNot, cIf, cAndT, cOrT, cNotT, asB, cB, cNext, cIfS, cSet, CL.CS.put, cChain, dLe, dLt, dGt, dGe, dI2, startC, outF, fnB, cIsi, CL.CS.knOf, tyB, isKn, isTy, CL.M.guard, cTru, dTru, liftF, cCall, cCons, cFor, forL, cEnum, dEnum, cTg, cLc, lcL, wipeC, cWalk, dWalk, cNever, cSetTp, putAll, bLen, cFld, CL.CS.fld, cProp, noExc, CL.CS.clsOf, cCallS, dItems, cLenP, cIxP, CL.CS.see, cApp, CL.CS.pl, CL.CS.wr, CL.Pl.xs, dNeg, cSetIx, cStore, froz, cLst, cCutL, dCutL, cNoPart, cPart, dPart, CL.CS.seqL, bList, CL.M.opt, dIs, cIsiT, CL.D.isNon, bStr]⟩) c
  rw [dIn_true h]
  cases capOf w <;> rfl
theorem ifS_t {t : M D} {a b : M Fl} {c : CS} (h : t c = .ok (.bl true) c) : cIfS (asB t) a b c = a c := by
  show R.bind (R.bind (t c) _) _ = _
  rw [h]
  rfl
theorem ifS_f {t : M D} {a b : M Fl} {c : CS} (h : t c = .ok (.bl false) c) : cIfS (asB t) a b c = b c := by
  show R.bind (R.bind (t c) _) _ = _
  rw [h]
  rfl
theorem in_of {a b : M D} {x : D} {ys : List D} {r : R D} {c : CS} (h1 : a c = .ok x c) (h2 : b c = .ok (.lst ys) c) (h3 : dIn true x (.lst ys) c = r) : cOp (dIn true) a b c = r := by
  show R.bind (a c) _ = _
  rw [h1]
  show R.bind (b c) _ = _
  rw [h2]
  exact h3
theorem lc_go {fi : M (List D)} {fe : M D} {i : Nat} {ds ys : List D} {c : CS} (h1 : fi c = .ok ds c) (hw : wipeC [i] c = c) (h2 : lcL (.nm i) (M.ret true) fe [i] ds [] c = .ok ys c) : froz (cLc fi (.nm i) (M.ret true) fe [i]) c = .ok (.lst ys) c := by
  have e : cLc fi (.nm i) (M.ret true) fe [i] c = .ok ys c := by
    show R.bind (fi c) _ = _
    rw [h1]
    show lcL (.nm i) (M.ret true) fe [i] ds [] (wipeC [i] c) = _
    rw [hw]
    exact h2
  show R.bind (cLc fi (.nm i) (M.ret true) fe [i] c) _ = _
  rw [e]
  rfl
theorem words_eq : ([] : List D) ++ (caps12.map D.int).map (fun d => match d with
    | .int k => D.str (wd k)
    | _ => .non) = words := rfl
abbrev rw4 (p : Str) (x1 x2 : Sl) (S : List O) : CS := ⟨[.val (.str p), x1, x2, .no], S⟩
theorem s_test {p w : Str} (hw : tOk w) (x1 : Sl) (S : List O) : cOp (dIn true) (cVar 2) (froz (cLc (cRange2 (M.ret (.int 1)) (M.ret (.int 13))) (.nm 3) (M.ret true) cl_law_read_row_e1 [3])) (rw4 p x1 (.val (.str w)) S) = .ok (.bl (capOf w).isNone) (rw4 p x1 (.val (.str w)) S) := by
  have r12 : ∀ z ∈ caps12, 1 ≤ z ∧ z ≤ 12 := by decide
  have lc := lcL_map (t := .nm 3) (fe := cl_law_read_row_e1) (vs := [3]) (fun d => match d with
    | .int k => .str (wd k)
    | _ => .non) (rw4 p x1 (.val (.str w)) S) (caps12.map D.int) (fun d hd => by
      obtain ⟨k, hk, rfl⟩ := List.mem_map.mp hd
      exact ⟨⟨[.val (.str p), x1, .val (.str w), .val (.int k)], S⟩, ⟨[.val (.str p), x1, .val (.str w), .val (.int k)], S⟩, rfl, s_wd (r12 k hk).1 (r12 k hk).2 _, rfl⟩) [] (by decide)
  rw [words_eq] at lc
  have rg : cRange2 (M.ret (.int 1)) (M.ret (.int 13)) (rw4 p x1 (.val (.str w)) S) = .ok (caps12.map D.int) (rw4 p x1 (.val (.str w)) S) := rfl
  have va : cVar 2 (rw4 p x1 (.val (.str w)) S) = .ok (.str w) (rw4 p x1 (.val (.str w)) S) := rfl
  exact in_of va (lc_go rg rfl lc) (in_words hw _)
theorem s_lwords {p : Str} : ∀ (ws : List Str), (∀ w ∈ ws, tOk w) → ∀ (acc : List Int) (b : Sl) (S : List O), acc.length + ws.length ≤ 1000 →
    (∃ r b', mapO capOf ws = some r ∧ forL (fun d => cSeq (cTg (.nm 2) d) cl_law_read_row_b1) (ws.map D.str) (rw4 p (.own (.lst (acc.map .int))) b S) = .ok .next (rw4 p (.own (.lst ((acc ++ r).map .int))) b' S)) ∨
    (mapO capOf ws = none ∧ ∃ sl, forL (fun d => cSeq (cTg (.nm 2) d) cl_law_read_row_b1) (ws.map D.str) (rw4 p (.own (.lst (acc.map .int))) b S) = .ok (.ret .non) ⟨sl, S⟩) := by
  intro ws
  induction ws with
  | nil => intro _ acc b S _; exact .inl ⟨[], b, rfl, by rw [List.append_nil]; rfl⟩
  | cons w ws ih =>
    intro hw acc b S hl
    rw [List.length_cons] at hl
    have t := s_test (p := p) (hw w List.mem_cons_self) (.own (.lst (acc.map .int))) S
    have tg : cTg (.nm 2) (.str w) (rw4 p (.own (.lst (acc.map .int))) b S) = .ok .next (rw4 p (.own (.lst (acc.map .int))) (.val (.str w)) S) := rfl
    cases q : capOf w with
    | none =>
      rw [q] at t
      refine .inr ⟨by unfold mapO; rw [q], (rw4 p (.own (.lst (acc.map .int))) (.val (.str w)) S).sl, forL_rt ?_⟩
      exact (cSeq_next tg).trans (cSeq_ret ((ifS_t t).trans rfl))
    | some k =>
      rw [q] at t
      obtain ⟨k1, k2, k3⟩ := cap_rng q
      have i0 : cIfS (asB (cOp (dIn true) (cVar 2) (froz (cLc (cRange2 (M.ret (.int 1)) (M.ret (.int 13))) (.nm 3) (M.ret true) cl_law_read_row_e1 [3])))) (cSeq (cRet (M.ret .non)) cNext) cNext (rw4 p (.own (.lst (acc.map .int))) (.val (.str w)) S) = .ok .next (rw4 p (.own (.lst (acc.map .int))) (.val (.str w)) S) := by
        exact (ifS_f t).trans rfl
      have bi : bIntS [.str w] (rw4 p (.own (.lst (acc.map .int))) (.val (.str w)) S) = .ok (.int k) (rw4 p (.own (.lst (acc.map .int))) (.val (.str w)) S) := by
        show (match PySem.intText? w with
          | some n => M.guard (decide (w.length ≤ 640)) (M.ret (D.int n))
          | none => fun _ => R.stuck) _ = _
        rw [k3, wd_int k1 k2]
        have := wd_len k1 k2
        show M.guard (decide ((wd k).length ≤ 640)) (M.ret (D.int k)) _ = _
        rw [decide_eq_true (by omega : (wd k).length ≤ 640)]
        rfl
      have ap : cSeq (cApp 1 ((cCons (cVar 2) (M.ret [])).bind bIntS)) cNext (rw4 p (.own (.lst (acc.map .int))) (.val (.str w)) S) = .ok .next (rw4 p (.own (.lst ((acc ++ [k]).map .int))) (.val (.str w)) S) := by
        have e : (acc ++ [k]).map D.int = acc.map D.int ++ [.int k] := by simp [CL.M.bind, CL.M.ret, CL.R.bind, cSeq, cRet, cVar, cOp, cAnd, cOr, cNot, cIf, cAndT, cOrT, cNotT, asB, cB, cNext, cIfS, cSet, CL.CS.put, cChain, dLe, dLt, dGt, dGe, dI2, startC, outF, fnB, cIsi, CL.CS.knOf, tyB, isKn, isTy, CL.M.guard, cTru, dTru, liftF, cCall, cCons, cFor, forL, cEnum, dEnum, cTg, cLc, lcL, wipeC, cWalk, dWalk, cNever, cSetTp, putAll, bLen, cFld, CL.CS.fld, cProp, noExc, CL.CS.clsOf, cCallS, dItems, cLenP, cIxP, CL.CS.see, cApp, CL.CS.pl, CL.CS.wr, CL.Pl.xs, dNeg, cSetIx, cStore, froz, cLst, cCutL, dCutL, cNoPart, cPart, dPart, CL.CS.seqL, bList, CL.M.opt, dIs, cIsiT, CL.D.isNon, bStr]
        rw [e]
        have hl2 : (acc.map D.int).length ≤ 1000 := by rw [List.length_map]; omega
        walk_at "w"
      have z : cSeq (cTg (.nm 2) (.str w)) cl_law_read_row_b1 (rw4 p (.own (.lst (acc.map .int))) b S) = .ok .next (rw4 p (.own (.lst ((acc ++ [k]).map .int))) (.val (.str w)) S) := (cSeq_next tg).trans ((cSeq_next i0).trans ap)
      rcases ih (fun z hz => hw z (List.mem_cons_of_mem _ hz)) (acc ++ [k]) (.val (.str w)) S (by rw [List.length_append, List.length_singleton]; omega) with ⟨r, b', e1, e2⟩ | ⟨e1, sl, e2⟩
      · refine .inl ⟨k :: r, b', by unfold mapO; rw [q, e1]; rfl, ?_⟩
        refine (forL_nx (body := fun d => cSeq (cTg (.nm 2) d) cl_law_read_row_b1) z).trans (e2.trans ?_)
        rw [List.append_assoc]
        rfl
      · exact .inr ⟨by unfold mapO; rw [q, e1]; rfl, sl, (forL_nx (body := fun d => cSeq (cTg (.nm 2) d) cl_law_read_row_b1) z).trans e2⟩
def odr (o : Option (List Int)) : D := match o with
  | some r => rowD r
  | none => .non
theorem s_lrowr {p : Str} (hp : tOk p) (S : List O) : fn_law_read_row [.str p] S = .ok (odr (rowOf p)) S := by
  have e := o_eqS (c := rw4 p .no .no S) hp.shp dash_ok
  show outF (cl_law_read_row (rw4 p .no .no S)) = _
  unfold rowOf
  by_cases q : p = dashS
  · rw [decide_eq_true q] at e
    rw [if_pos q]
    have i0 : cIfS (asB (cOp dEq (cVar 0) (M.ret (.str dashS)))) (cSeq (cRet (cTup (M.ret []))) cNext) cNext (rw4 p .no .no S) = .ok (.ret (.tup [])) (rw4 p .no .no S) := by
      walk_at "w"
    have z : cl_law_read_row (rw4 p .no .no S) = _ := cSeq_ret i0
    rw [z]
    rfl
  · rw [decide_eq_false q] at e
    rw [if_neg q]
    have i0 : cIfS (asB (cOp dEq (cVar 0) (M.ret (.str dashS)))) (cSeq (cRet (cTup (M.ret []))) cNext) cNext (rw4 p .no .no S) = .ok .next (rw4 p .no .no S) := by
      walk_at "w"
    have i1 : cSetL 1 (cLst (M.ret [])) (rw4 p .no .no S) = .ok .next (rw4 p (.own (.lst (([] : List Int).map .int))) .no S) := rfl
    obtain ⟨so, sl, _⟩ := split_ok hp blk_ne blk_as
    have sp := s_split (i := 0) (c := rw4 p (.own (.lst (([] : List Int).map .int))) .no S) (y := blk) rfl (by have := hp.1; omega) (by decide)
    rcases s_lwords (p := p) (Txt.split p blk) so [] .no S (by simp only [List.length_nil]; omega) with ⟨r, b', e1, e2⟩ | ⟨e1, sl2, e2⟩
    · rw [List.nil_append] at e2
      rw [e1]
      have fo : cFor (cWalk (froz (cSplit (cVar 0) (M.ret (.str blk))))) (.nm 2) cl_law_read_row_b1 (rw4 p (.own (.lst (([] : List Int).map .int))) .no S) = .ok .next (rw4 p (.own (.lst (r.map .int))) b' S) := by
        show R.bind (cWalk (froz (cSplit (cVar 0) (M.ret (.str blk)))) _) _ = _
        rw [sp]
        exact e2
      have hr : r.length ≤ 301 := by rw [(mapO_mem e1).1]; exact sl
      have hr2 : (r.map D.int).length ≤ 1000 := by rw [List.length_map]; omega
      unfold short
      dsimp only
      by_cases l : r.length ≤ 12
      · rw [if_pos l]
        have l2 : (r.map D.int).length < 13 := by rw [List.length_map]; omega
        have z2 : ∃ c', cSeq (cRet (cIf (asB (cOp dLt (cLenP 1) (M.ret (.int 13)))) ((cCons (cVar 1) (M.ret [])).bind bTuple) (M.ret .non))) cNext (rw4 p (.own (.lst (r.map .int))) b' S) = .ok (.ret (.tup (r.map .int))) c' ∧ c'.S = S := by
          refine ⟨rw4 p (.val (.lst (r.map .int))) b' S, ?_, rfl⟩
          walk_at "w"
        obtain ⟨c', z2, z3⟩ := z2
        have zz : cl_law_read_row (rw4 p .no .no S) = _ := (cSeq_next i0).trans ((cSeq_next i1).trans ((cSeq_next fo).trans z2))
        rw [zz]
        show FR.ok _ c'.S = _
        rw [z3]
        rfl
      · rw [if_neg l]
        have l2 : ¬ (r.map D.int).length < 13 := by rw [List.length_map]; omega
        have z2 : cSeq (cRet (cIf (asB (cOp dLt (cLenP 1) (M.ret (.int 13)))) ((cCons (cVar 1) (M.ret [])).bind bTuple) (M.ret .non))) cNext (rw4 p (.own (.lst (r.map .int))) b' S) = .ok (.ret .non) (rw4 p (.own (.lst (r.map .int))) b' S) := by
          walk_at "w"
        have zz : cl_law_read_row (rw4 p .no .no S) = _ := (cSeq_next i0).trans ((cSeq_next i1).trans ((cSeq_next fo).trans z2))
        rw [zz]
        rfl
    · rw [e1]
      have fo : cFor (cWalk (froz (cSplit (cVar 0) (M.ret (.str blk))))) (.nm 2) cl_law_read_row_b1 (rw4 p (.own (.lst (([] : List Int).map .int))) .no S) = .ok (.ret .non) ⟨sl2, S⟩ := by
        show R.bind (cWalk (froz (cSplit (cVar 0) (M.ret (.str blk)))) _) _ = _
        rw [sp]
        exact e2
      have zz : cl_law_read_row (rw4 p .no .no S) = _ := (cSeq_next i0).trans ((cSeq_next i1).trans (cSeq_ret fo))
      rw [zz]
      rfl
theorem mapO_some {f : Str → Option (List Int)} : ∀ {ws : List Str} {r : List (List Int)}, mapO f ws = some r → (ws.map fun p => odr (f p)) = r.map rowD
  | [], r, h => by cases h; rfl
  | w :: ws, r, h => by
    unfold mapO at h
    cases e : f w with
    | none => rw [e] at h; cases h
    | some k =>
      rw [e] at h
      dsimp only at h
      cases e2 : mapO f ws with
      | none => rw [e2] at h; cases h
      | some r2 =>
        rw [e2] at h
        cases h
        rw [List.map_cons, List.map_cons, e, mapO_some e2]
        rfl
theorem mapO_none {f : Str → Option (List Int)} : ∀ {ws : List Str}, mapO f ws = none → D.non ∈ ws.map fun p => odr (f p)
  | [], h => by cases h
  | w :: ws, h => by
    unfold mapO at h
    cases e : f w with
    | none =>
      rw [List.map_cons, e]
      exact List.mem_cons_self
    | some k =>
      rw [e] at h
      dsimp only at h
      cases e2 : mapO f ws with
      | none => exact List.mem_cons_of_mem _ (mapO_none e2)
      | some r2 => rw [e2] at h; cases h
def rowsO (o : Option (List (List Int))) : D := match o with
  | some rs => .lst (rs.map rowD)
  | none => .non
theorem odr_pd (o : Option (List Int)) : pdI 1 (odr o) := by
  cases o with
  | none => trivial
  | some r =>
    intro x hx
    obtain ⟨k, _, rfl⟩ := List.mem_map.mp hx
    trivial
theorem odr_non {r : List Int} : D.non ≠ rowD r := fun h => nomatch h
theorem s_lread {t : Str} (ht : tOk t) (S : List O) : fn_law_read [.str t] S = .ok (rowsO (readOf t)) S := by
  obtain ⟨so, sl, _⟩ := split_ok ht bar_ne bar_as
  have lc := lcL_map (t := .nm 2) (fe := cl_law_read_e1) (vs := [2]) (fun d => match d with
    | .str p => odr (rowOf p)
    | _ => .non) ⟨[.val (.str t), .no, .no], S⟩ ((Txt.split t barS).map D.str) (fun d hd => by
      obtain ⟨p, hp, rfl⟩ := List.mem_map.mp hd
      have h := s_lrowr (so p hp) S
      refine ⟨⟨[.val (.str t), .no, .val (.str p)], S⟩, ⟨[.val (.str t), .no, .val (.str p)], S⟩, rfl, ?_, rfl⟩
      show liftF (fn_law_read_row [.str p] S) _ = _
      rw [h]
      rfl) [] (by simp only [List.length_nil, List.length_map]; omega)
  have sp := s_split (i := 0) (c := ⟨[.val (.str t), .no, .no], S⟩) (y := barS) rfl (by have := ht.1; omega) (by decide)
  have st : cSet 1 (froz (cLc (cWalk (froz (cSplit (cVar 0) (M.ret (.str barS))))) (.nm 2) (M.ret true) cl_law_read_e1 [2])) ⟨[.val (.str t), .no, .no], S⟩ = .ok .next ⟨[.val (.str t), .val (.lst ((Txt.split t barS).map fun p => odr (rowOf p))), .no], S⟩ := by
    show R.bind (R.bind (R.bind (cWalk (froz (cSplit (cVar 0) (M.ret (.str barS)))) _) _) _) _ = _
    rw [sp]
    show R.bind (R.bind (lcL _ _ _ _ ((Txt.split t barS).map D.str) [] ⟨[.val (.str t), .no, .no], S⟩) _) _ = _
    rw [lc, List.map_map]
    rfl
  have ni : ∀ b : Bool, (b = true ↔ D.non ∈ (Txt.split t barS).map fun p => odr (rowOf p)) → dIn false .non (.lst ((Txt.split t barS).map fun p => odr (rowOf p))) ⟨[.val (.str t), .val (.lst ((Txt.split t barS).map fun p => odr (rowOf p))), .no], S⟩ = .ok (.bl b) ⟨[.val (.str t), .val (.lst ((Txt.split t barS).map fun p => odr (rowOf p))), .no], S⟩ := fun b hb =>
    dIn_lst (n := 1) (by omega) (fun x hx => by
      obtain ⟨p, _, rfl⟩ := List.mem_map.mp hx
      exact odr_pd _) (show pdI 1 .non from trivial) b hb _
  show outF (cl_law_read ⟨[.val (.str t), .no, .no], S⟩) = _
  unfold readOf
  cases mq : mapO rowOf (Txt.split t barS) with
  | none =>
    have n1 := ni true ⟨fun _ => mapO_none mq, fun _ => rfl⟩
    generalize (Txt.split t barS).map (fun p => odr (rowOf p)) = ds at st n1
    have z2 : cSeq (cRet (cIf (cOrT (asB (cOp (dIn false) (M.ret .non) (cVar 1))) (asB (cOp dGt ((cCons (cVar 1) (M.ret [])).bind bLen) (M.ret (.int 4))))) (M.ret .non) (cVar 1))) cNext ⟨[.val (.str t), .val (.lst ds), .no], S⟩ = .ok (.ret .non) ⟨[.val (.str t), .val (.lst ds), .no], S⟩ := by
      walk_at "w"
    have zz : cl_law_read ⟨[.val (.str t), .no, .no], S⟩ = _ := (cSeq_next st).trans z2
    rw [zz]
    rfl
  | some rs =>
    have em := mapO_some mq
    have nn : D.non ∉ (Txt.split t barS).map fun p => odr (rowOf p) := fun h => by
      rw [em] at h
      obtain ⟨r, _, e⟩ := List.mem_map.mp h
      exact absurd e.symm odr_non
    have n1 := ni false ⟨fun h => absurd h (by decide), fun h => absurd h nn⟩
    rw [em] at st n1
    have hr : rs.length ≤ 301 := by rw [(mapO_mem mq).1]; exact sl
    unfold few
    dsimp only
    by_cases l : rs.length ≤ 4
    · rw [if_pos l]
      have z2 : cSeq (cRet (cIf (cOrT (asB (cOp (dIn false) (M.ret .non) (cVar 1))) (asB (cOp dGt ((cCons (cVar 1) (M.ret [])).bind bLen) (M.ret (.int 4))))) (M.ret .non) (cVar 1))) cNext ⟨[.val (.str t), .val (.lst (rs.map rowD)), .no], S⟩ = .ok (.ret (.lst (rs.map rowD))) ⟨[.val (.str t), .val (.lst (rs.map rowD)), .no], S⟩ := by
        walk_at "w"
      have zz : cl_law_read ⟨[.val (.str t), .no, .no], S⟩ = _ := (cSeq_next st).trans z2
      rw [zz]
      rfl
    · rw [if_neg l]
      have z2 : cSeq (cRet (cIf (cOrT (asB (cOp (dIn false) (M.ret .non) (cVar 1))) (asB (cOp dGt ((cCons (cVar 1) (M.ret [])).bind bLen) (M.ret (.int 4))))) (M.ret .non) (cVar 1))) cNext ⟨[.val (.str t), .val (.lst (rs.map rowD)), .no], S⟩ = .ok (.ret .non) ⟨[.val (.str t), .val (.lst (rs.map rowD)), .no], S⟩ := by
        walk_at "w"
      have zz : cl_law_read ⟨[.val (.str t), .no, .no], S⟩ = _ := (cSeq_next st).trans z2
      rw [zz]
      rfl
theorem cut_sub (x : Str) (lo hi : Option Int) : ∀ n ∈ TL.tl (L2.cutS x lo hi), n ∈ TL.tl x := by
  intro n hn
  have e : TL.tl (L2.cutS x lo hi) = ((TL.tl x).drop (HT.sIx x.length 0 lo)).take (HT.sIx x.length x.length hi - HT.sIx x.length 0 lo) := rfl
  rw [e] at hn
  exact List.mem_of_mem_drop (List.mem_of_mem_take hn)
theorem cut_len1 (x : Str) (k : Nat) : (L2.cutS x none (some (k : Int))).length ≤ min k x.length := by
  have e : TL.tl (L2.cutS x none (some (k : Int))) = ((TL.tl x).drop (HT.sIx x.length 0 none)).take (HT.sIx x.length x.length (some (k : Int)) - HT.sIx x.length 0 none) := rfl
  rw [TL.len_tl, e, HT.sIx_none, HT.sIx_nat, List.length_take]
  omega
theorem cut_len2 (x : Str) (k : Nat) : (L2.cutS x (some (k : Int)) none).length ≤ x.length - min k x.length := by
  have e : TL.tl (L2.cutS x (some (k : Int)) none) = ((TL.tl x).drop (HT.sIx x.length 0 (some (k : Int)))).take (HT.sIx x.length x.length none - HT.sIx x.length 0 (some (k : Int))) := rfl
  rw [TL.len_tl, e, HT.sIx_none, HT.sIx_nat, List.length_take]
  omega
def tB (n : Nat) (x : Str) : Prop := x.length ≤ n ∧ ∀ m ∈ TL.tl x, m < 0x110000
abbrev signs : List Str := ["", " ", "|", "-", "0", "1", "2", "3", " | ", "\n", "a", "12", "+"].map PySem.Str.ofString
theorem signs_ok : ∀ x ∈ signs, tB 3 x := by
  have h : ∀ x ∈ signs, (decide (x.length ≤ 3) && (TL.tl x).all fun m => decide (m < 0x110000)) = true := by decide +kernel
  intro x hx
  have z := h x hx
  rw [Bool.and_eq_true, List.all_eq_true] at z
  exact ⟨of_decide_eq_true z.1, fun m hm => of_decide_eq_true (z.2 m hm)⟩
theorem s_bent {t : Str} {n : Nat} (ht : tB n t) (hn : n ≤ 290) (S : List O) (hS : TapeOk S) : ∃ t' S', fn_law_bent [.ref 0, .str t, .lst (signs.map .str)] S = .ok (.str t') S' ∧ TapeOk S' ∧ tB (n + 3) t' := by
  obtain ⟨v, S1, e1, hS1, v0, v1⟩ := s_pick ((t.length : Int) + 1) S (by omega) (by have := ht.1; omega) hS
  obtain ⟨d, S2, e2, hS2, dm⟩ := s_of (signs.map D.str) S1 (by decide) (by decide) hS1
  obtain ⟨g, hg, rfl⟩ := List.mem_map.mp dm
  obtain ⟨j, S3, e3, hS3, j0, j1⟩ := s_pick 2 S2 (by omega) (by omega) hS2
  obtain ⟨a, rfl⟩ := Int.eq_ofNat_of_zero_le v0
  obtain ⟨b, rfl⟩ := Int.eq_ofNat_of_zero_le j0
  have tl := ht.1
  have gl := signs_ok g hg
  have c1 := cut_len1 t a
  have c2 := cut_len2 t (a + b)
  have zt : szOk t.length = true := w_sz (by omega)
  have cc1 : ∀ c : CS, dCutT (.str t) none (some ((a : Nat) : Int)) c = .ok (.str (L2.cutS t none (some ((a : Nat) : Int)))) c := fun c => by
    show M.guard (szOk t.length) _ c = _
    rw [zt]
    rfl
  have cc2 : ∀ c : CS, dCutT (.str t) (some (((a : Nat) : Int) + ((b : Nat) : Int))) none c = .ok (.str (L2.cutS t (some (((a + b : Nat)) : Int)) none)) c := fun c => by
    show M.guard (szOk t.length) _ c = _
    rw [zt]
    rfl
  have g1 := gl.1
  have al := app_len (L2.cutS t none (some ((a : Nat) : Int))) g
  have al2 := app_len (L2.cutS t none (some ((a : Nat) : Int)) ++ g) (L2.cutS t (some (((a + b : Nat)) : Int)) none)
  have s1 : szOk ((L2.cutS t none (some ((a : Nat) : Int))).length + g.length) = true := w_sz (by omega)
  have s2 : szOk ((L2.cutS t none (some ((a : Nat) : Int)) ++ g).length + (L2.cutS t (some (((a + b : Nat)) : Int)) none).length) = true := w_sz (by omega)
  refine ⟨L2.cutS t none (some ((a : Nat) : Int)) ++ g ++ L2.cutS t (some (((a + b : Nat)) : Int)) none, S3, ?_, hS3, by omega, fun m hm => ?_⟩
  · have k1 := cc1 ⟨[.val (.ref 0), .val (.str t), .val (.lst (signs.map .str)), .val (.int ((a : Nat) : Int)), .val (.str g)], S2⟩
    have k2 := cc2 ⟨[.val (.ref 0), .val (.str t), .val (.lst (signs.map .str)), .val (.int ((a : Nat) : Int)), .val (.str g)], S3⟩
    have ln : bLen [.str t] ⟨[.val (.ref 0), .val (.str t), .val (.lst (signs.map .str)), .no, .no], S⟩ = .ok (.int t.length) ⟨[.val (.ref 0), .val (.str t), .val (.lst (signs.map .str)), .no, .no], S⟩ := by
      show M.guard (szOk t.length) _ _ = _
      rw [zt]
      rfl
    unfold fn_law_bent cl_law_bent
    walk_at "w"
  · have e : TL.tl (L2.cutS t none (some ((a : Nat) : Int)) ++ g ++ L2.cutS t (some (((a + b : Nat)) : Int)) none) = TL.tl (L2.cutS t none (some ((a : Nat) : Int))) ++ TL.tl g ++ TL.tl (L2.cutS t (some (((a + b : Nat)) : Int)) none) := by rw [TL.tl_append, TL.tl_append]
    rw [e] at hm
    rcases List.mem_append.mp hm with h | h
    · rcases List.mem_append.mp h with h | h
      · exact ht.2 m (cut_sub _ _ _ m h)
      · exact gl.2 m h
    · exact ht.2 m (cut_sub _ _ _ m h)
end
end K03
namespace K03
open CL PySem
noncomputable section
local macro_rules | `(tactic| walk_at "nl") => `(tactic| first | exact w_nl0 rfl | ((apply w_nl); (· exact rfl); walk_at "nl"))
local macro_rules | `(tactic| walk_at "tru") => `(tactic| first | with_reducible rfl | with_reducible assumption | ((simp only [decide_eq_true_eq, decide_eq_false_iff_not, Bool.not_eq_true', Bool.not_eq_false', Bool.not_true, Bool.not_false, Bool.and_eq_true, Bool.or_eq_true, Bool.and_eq_false_iff, Bool.or_eq_false_iff, bne_iff_ne, bne_eq_false_iff_eq, ne_eq, D.isNon, and_self, and_true, true_and, or_false, false_or, not_true_eq_false, not_false_eq_true, List.length_map, List.length_cons, List.length_nil]); first | done | with_reducible assumption | omega) | ((with_reducible apply w_knB); exact rfl) | ((with_reducible apply w_knA); exact rfl) | ((with_reducible apply w_nonB); first | with_reducible assumption | exact rfl) | ((with_reducible apply w_nonN); exact rfl) | ((with_reducible apply w_emp); exact rfl))
local macro_rules | `(tactic| walk_at "num") => `(tactic| first | with_reducible assumption | omega | ((simp only [List.length_cons, List.length_nil, List.length_map, List.length_append, List.length_replicate, List.length_take, List.length_drop]); first | done | omega))
local macro_rules | `(tactic| walk_at "at") => `(tactic| first | with_reducible assumption | exact rfl | ((apply o_atN); first | with_reducible assumption | exact rfl | (apply o_map; with_reducible assumption)) | ((apply o_at0); with_reducible assumption) | ((apply o_at1); with_reducible assumption) | ((apply o_at2); with_reducible assumption) | ((apply o_at3); with_reducible assumption))
local macro_rules | `(tactic| walk_at "side") => `(tactic| first
  | ((with_reducible apply w_nlI); walk_at "nl")
  | ((with_reducible apply w_slt); exact rfl)
  | ((with_reducible apply w_sto); first | with_reducible assumption | exact rfl)
  | ((with_reducible apply w_sz); walk_at "num")
  | ((with_reducible apply w_has); first | exact w_hasO | ((apply w_hasR); (· with_reducible assumption); (· exact rfl)) | exact rfl)
  | ((with_reducible apply w_fldI); first | exact w_fldO rfl | ((apply w_fldR); (· with_reducible assumption); (· exact rfl)))
  | ((with_reducible apply w_at); walk_at "at")
  | ((with_reducible apply w_le); walk_at "num")
  | ((with_reducible apply w_lt); walk_at "num")
  | ((with_reducible apply w_ln); first | exact rfl | walk_at "num")
  | ((with_reducible apply w_lnN); first | exact rfl | walk_at "num")
  | ((with_reducible apply w_kn); first | exact rfl | ((apply w_knI); with_reducible assumption) | ((apply w_knL); with_reducible assumption))
  | ((with_reducible apply w_seeI); first | ((apply w_see); exact rfl) | ((apply w_seeV); exact rfl) | ((apply w_seeR); (· exact rfl); (· with_reducible assumption)))
  | ((with_reducible apply w_typed); exact rfl)
  | ((with_reducible apply w_asB'); first | with_reducible assumption | exact rfl)
  | ((with_reducible apply w_rng); omega)
  | ((with_reducible apply w_rng2); omega)
  | ((with_reducible apply w_ixN); walk_at "num"))
local macro_rules | `(tactic| walk_at "ops") => `(tactic| first
  | with_reducible exact o_eqI | with_reducible exact o_neI | with_reducible exact o_eqB | with_reducible exact o_neB | with_reducible exact o_lt | with_reducible exact o_le | with_reducible exact o_gt | with_reducible exact o_ge
  | with_reducible exact o_addI | with_reducible exact o_subI | with_reducible exact o_is | with_reducible exact o_isNot
  | with_reducible apply o_ixT | with_reducible apply o_ixL | with_reducible apply o_ixR
  | with_reducible apply o_addT | with_reducible apply o_cat
  | ((with_reducible apply o_own); (· first | exact w_hasO | ((apply w_hasR); (· with_reducible assumption); (· exact rfl))))
  | ((with_reducible apply o_eqO); (· first | exact w_hasO | ((apply w_hasR); (· with_reducible assumption); (· exact rfl))))
  | ((with_reducible apply o_neO); (· first | exact w_hasO | ((apply w_hasR); (· with_reducible assumption); (· exact rfl))))
  | ((with_reducible apply o_ownN); (· exact rfl)) | ((with_reducible apply o_eqON); (· exact rfl)) | ((with_reducible apply o_neON); (· exact rfl))
  | ((with_reducible apply o_modI); omega) | ((with_reducible apply o_mulI); ((unfold cMul); simp [CL.M.bind, CL.M.ret, CL.R.bind, cSeq, cRet, cVar, cOp, cAnd, cOr, cNot, cIf, cAndT, cOrT, cNotT, asB, cB, cNext, cIfS, cSet, CL.CS.put, cChain, dLe, dLt, dGt, dGe, dI2, startC, outF, fnB, cIsi, CL.CS.knOf, tyB, isKn, isTy, CL.M.guard, cTru, dTru, liftF, cCall, cCons, cFor, forL, cEnum, dEnum, cTg, cLc, lcL, wipeC, cWalk, dWalk, cNever, cSetTp, putAll, bLen, cFld, CL.CS.fld, cProp, noExc, CL.CS.clsOf, cCallS, dItems, cLenP, cIxP, CL.CS.see, cApp, CL.CS.pl, CL.CS.wr, CL.Pl.xs, dNeg, cSetIx, cStore, froz, cLst, cCutL, dCutL, cNoPart, cPart, dPart, CL.CS.seqL, bList, CL.M.opt, dIs, cIsiT, CL.D.isNon, bStr]; try omega)) | ((with_reducible apply o_divI); ((unfold cDiv); simp [CL.M.bind, CL.M.ret, CL.R.bind, cSeq, cRet, cVar, cOp, cAnd, cOr, cNot, cIf, cAndT, cOrT, cNotT, asB, cB, cNext, cIfS, cSet, CL.CS.put, cChain, dLe, dLt, dGt, dGe, dI2, startC, outF, fnB, cIsi, CL.CS.knOf, tyB, isKn, isTy, CL.M.guard, cTru, dTru, liftF, cCall, cCons, cFor, forL, cEnum, dEnum, cTg, cLc, lcL, wipeC, cWalk, dWalk, cNever, cSetTp, putAll, bLen, cFld, CL.CS.fld, cProp, noExc, CL.CS.clsOf, cCallS, dItems, cLenP, cIxP, CL.CS.see, cApp, CL.CS.pl, CL.CS.wr, CL.Pl.xs, dNeg, cSetIx, cStore, froz, cLst, cCutL, dCutL, cNoPart, cPart, dPart, CL.CS.seqL, bList, CL.M.opt, dIs, cIsiT, CL.D.isNon, bStr]; try omega)))
local macro_rules | `(tactic| walk_at "sel") => `(tactic| first | ((with_reducible apply w_selT); (· walk_at "tru")) | ((with_reducible apply w_selF); (· walk_at "tru")) | with_reducible apply w_selAnd | with_reducible apply w_selOr | with_reducible apply w_selAndV | with_reducible apply w_selOrV)
local macro_rules | `(tactic| walk_at "w1") => `(tactic| first
  | with_reducible assumption
  | ((with_reducible apply w_var); exact rfl)
  | ((with_reducible apply w_varL); (· exact rfl))
  | with_reducible exact w_ret
  | with_reducible apply w_cons
  | with_reducible apply w_seq | with_reducible apply w_seqN | with_reducible exact w_seqR | with_reducible exact w_seqB | with_reducible exact w_seqC | with_reducible exact w_seqX
  | with_reducible apply w_ifS | walk_at "sel"
  | with_reducible apply w_op | with_reducible apply w_opL | with_reducible apply w_asB
  | with_reducible apply w_call | with_reducible exact w_lift | with_reducible exact w_liftX
  | walk_at "side"
  | walk_at "ops"
  | with_reducible exact w_next | with_reducible apply w_set | with_reducible apply w_retS | with_reducible apply w_setL | with_reducible apply w_drop
  | with_reducible apply w_tup | with_reducible apply w_lst | with_reducible apply w_froz | with_reducible apply w_store
  | with_reducible apply w_andT | with_reducible apply w_orT | with_reducible apply w_notT | with_reducible apply w_tru | with_reducible exact w_truB | with_reducible exact w_truI | with_reducible exact w_truT | with_reducible exact w_truL
  | with_reducible apply w_and | with_reducible apply w_or | with_reducible apply w_not | with_reducible apply w_if
  | with_reducible apply w_meth | with_reducible apply w_prop | with_reducible apply w_fld | with_reducible apply w_callS
  | with_reducible exact w_lenT | with_reducible exact w_lenL | with_reducible apply w_lenR | with_reducible exact w_listT | with_reducible exact w_listL | with_reducible apply w_listR | with_reducible exact w_tupT | with_reducible exact w_tupL | with_reducible apply w_tupR | with_reducible apply w_all | with_reducible apply w_any | with_reducible exact w_neg | with_reducible apply w_maxT
  | with_reducible apply w_isi | with_reducible apply w_isiT
  | with_reducible apply w_setTp | with_reducible apply w_setTpL | with_reducible apply w_par | with_reducible apply w_par3 | with_reducible apply w_parL | with_reducible apply w_par3L
  | ((with_reducible apply w_appO); (· exact rfl)) | ((with_reducible apply w_appR); (· exact rfl))
  | with_reducible apply w_setIxO | with_reducible apply w_setIxE
  | with_reducible apply w_setF
  | with_reducible apply w_appE | with_reducible apply w_clrE
  | with_reducible apply w_for | with_reducible exact w_for0 | with_reducible apply w_forG | with_reducible apply w_tgN | with_reducible apply w_tgT
  | with_reducible apply w_lc | with_reducible apply w_lcG | with_reducible apply w_lc2
  | with_reducible apply w_walk | with_reducible exact w_walkL | with_reducible exact w_walkT | with_reducible apply w_walkG | with_reducible apply w_enum | with_reducible exact w_enumL | with_reducible exact w_enumT | with_reducible apply w_range1 | with_reducible apply w_r1N | with_reducible apply w_r1I | with_reducible apply w_range2 | with_reducible apply w_zip | with_reducible exact w_zipL | with_reducible exact w_zipT
  | with_reducible apply w_cutT | with_reducible apply w_cutL | with_reducible exact w_noPart | with_reducible apply w_part | with_reducible exact w_cutTto | with_reducible exact w_cutTfrom | with_reducible exact w_cutTfromS | with_reducible exact w_cutLfromS | with_reducible exact w_cutT1 | with_reducible exact w_cutLto | with_reducible exact w_cutLfrom | with_reducible exact w_cutL1
  | with_reducible apply w_chain
  | with_reducible apply w_lenP | with_reducible apply w_ixP
  | with_reducible apply w_raise1 | with_reducible exact w_raise0 | with_reducible exact w_brk | with_reducible exact w_cont | with_reducible exact w_retN
  | with_reducible apply w_star | with_reducible exact w_itemsT | with_reducible exact w_itemsL
  | ((with_reducible apply w_xf); exact rfl) | with_reducible apply w_joined | with_reducible exact w_parts0 | with_reducible apply w_parts | with_reducible apply o_fmtO | with_reducible apply o_strO | with_reducible apply o_reprO | with_reducible apply o_lenO | with_reducible apply o_fmtI | with_reducible apply w_strI | with_reducible apply w_join | with_reducible apply o_addS
  | with_reducible apply w_bind
  | with_reducible exact w_outN | with_reducible exact w_outR | with_reducible exact w_outX
  | ((with_reducible apply w_fnB); (· exact rfl))
  | with_reducible exact w_cutLm1 | with_reducible exact w_cutLl1 | with_reducible exact dEq_bls _ _ _ | with_reducible exact dNe_bls _ _ _ | with_reducible apply w_sortR | with_reducible apply w_maxD | with_reducible apply w_callK | ((with_reducible apply o_shl); ((unfold cPow; simp [CL.M.bind, CL.M.ret, CL.R.bind, cSeq, cRet, cVar, cOp, cAnd, cOr, cNot, cIf, cAndT, cOrT, cNotT, asB, cB, cNext, cIfS, cSet, CL.CS.put, cChain, dLe, dLt, dGt, dGe, dI2, startC, outF, fnB, cIsi, CL.CS.knOf, tyB, isKn, isTy, CL.M.guard, cTru, dTru, liftF, cCall, cCons, cFor, forL, cEnum, dEnum, cTg, cLc, lcL, wipeC, cWalk, dWalk, cNever, cSetTp, putAll, bLen, cFld, CL.CS.fld, cProp, noExc, CL.CS.clsOf, cCallS, dItems, cLenP, cIxP, CL.CS.see, cApp, CL.CS.pl, CL.CS.wr, CL.Pl.xs, dNeg, cSetIx, cStore, froz, cLst, cCutL, dCutL, cNoPart, cPart, dPart, CL.CS.seqL, bList, CL.M.opt, dIs, cIsiT, CL.D.isNon, bStr]; try omega))) | ((with_reducible apply o_shr); omega) | with_reducible exact o_band | ((with_reducible apply w_divmod); ((unfold cDiv; simp [CL.M.bind, CL.M.ret, CL.R.bind, cSeq, cRet, cVar, cOp, cAnd, cOr, cNot, cIf, cAndT, cOrT, cNotT, asB, cB, cNext, cIfS, cSet, CL.CS.put, cChain, dLe, dLt, dGt, dGe, dI2, startC, outF, fnB, cIsi, CL.CS.knOf, tyB, isKn, isTy, CL.M.guard, cTru, dTru, liftF, cCall, cCons, cFor, forL, cEnum, dEnum, cTg, cLc, lcL, wipeC, cWalk, dWalk, cNever, cSetTp, putAll, bLen, cFld, CL.CS.fld, cProp, noExc, CL.CS.clsOf, cCallS, dItems, cLenP, cIxP, CL.CS.see, cApp, CL.CS.pl, CL.CS.wr, CL.Pl.xs, dNeg, cSetIx, cStore, froz, cLst, cCutL, dCutL, cNoPart, cPart, dPart, CL.CS.seqL, bList, CL.M.opt, dIs, cIsiT, CL.D.isNon, bStr]; try omega))) | ((with_reducible apply o_bin); (· exact rfl); (· exact rfl)) | ((with_reducible apply o_binN); (· exact rfl)) | with_reducible exact w_intB | with_reducible exact w_intI | ((with_reducible apply o_catR); (· with_reducible assumption); (· first | with_reducible assumption | walk_at "side"))
  | with_reducible apply w_setTf | with_reducible exact w_pf0 | with_reducible apply w_pfN | with_reducible apply w_pfF | with_reducible apply w_augF | with_reducible apply w_popL | with_reducible apply w_popE | with_reducible apply w_delFE | with_reducible apply w_set2 | with_reducible apply w_index
  | walk_at "fn")
local macro_rules | `(tactic| walk_at "w") => `(tactic| repeat' walk_at "w1")
abbrev lw (ns : List Int) (x2 x3 x4 x5 x6 x7 x8 : Sl) (S : List O) : CS := ⟨[.val (.scr ns), .val (.ref 0), x2, x3, x4, x5, x6, x7, x8], S⟩
abbrev sgD : Sl := .val (.lst (signs.map .str))
local macro_rules | `(tactic| walk_at "fn") => `(tactic| first | with_reducible exact s_ltext _ _ (by assumption) | ((with_reducible refine dNe_pd (n := 1) (by omega) ?_ _); with_reducible assumption))
theorem tB.mono {n m : Nat} {x : Str} (h : tB n x) (l : n ≤ m) : tB m x := ⟨by have := h.1; omega, h.2⟩
theorem s_inner (ns : List Int) (x3 x4 x7 x8 : Sl) : ∀ (ds : List D) (n : Nat) (t : Str) (b : Sl) (S : List O), tB n t → n + 3 * ds.length ≤ 290 → TapeOk S →
    ∃ t' b' S', forL (fun d => cSeq (cTg (.nm 6) d) cl_law_b1) ds (lw ns sgD x3 x4 (.val (.str t)) b x7 x8 S) = .ok .next (lw ns sgD x3 x4 (.val (.str t')) b' x7 x8 S') ∧ TapeOk S' ∧ tB (n + 3 * ds.length) t' := by
  intro ds
  induction ds with
  | nil => intro n t b S ht _ hS; exact ⟨t, b, S, rfl, hS, ht⟩
  | cons d ds ih =>
    intro n t b S ht hl hS
    rw [List.length_cons] at hl
    obtain ⟨t1, S1, e1, hS1, h1⟩ := s_bent ht (by omega) S hS
    have z : cSeq (cTg (.nm 6) d) cl_law_b1 (lw ns sgD x3 x4 (.val (.str t)) b x7 x8 S) = .ok .next (lw ns sgD x3 x4 (.val (.str t1)) (.val d) x7 x8 S1) := by
      unfold cl_law_b1
      walk_at "w"
    obtain ⟨t2, b2, S2, e2, hS2, h2⟩ := ih (n + 3) t1 (.val d) S1 h1 (by omega) hS1
    refine ⟨t2, b2, S2, (forL_nx (body := fun d => cSeq (cTg (.nm 6) d) cl_law_b1) z).trans e2, hS2, h2.mono (by rw [List.length_cons]; omega)⟩
theorem s_turn (ns : List Int) (d : D) (L : List D) (x4 x5 x6 x7 x8 : Sl) (S : List O) (hl : L.length ≤ 900) (hS : TapeOk S) :
    ∃ t y5 y6 S', cSeq (cTg (.nm 4) d) cl_law_b2 (lw ns sgD (.own (.lst L)) x4 x5 x6 x7 x8 S) = .ok .next (lw ns sgD (.own (.lst (L ++ [.str t]))) (.val d) y5 y6 x7 x8 S') ∧ TapeOk S' ∧ tOk t := by
  obtain ⟨rs, S1, e1, hS1, hr⟩ := s_rows 4 5 12 S (by omega) (by omega) (by omega) (by omega) (by omega) (by omega) hS
  have ct : tB 252 (chT rs) := ⟨chT_len hr, fun m hm => by have := chT_asc hr m hm; omega⟩
  obtain ⟨v, S2, e2, hS2, v0, v1⟩ := s_pick 2 S1 (by omega) (by omega) hS1
  have hd : (rangeD 0 (Int.toNat (1 + v))).length ≤ 2 := by
    unfold rangeD
    rw [List.length_map, List.length_range]
    omega
  obtain ⟨t, b, S3, e3, hS3, h3⟩ := s_inner ns (.own (.lst L)) (.val d) x7 x8 (rangeD 0 (Int.toNat (1 + v))) 252 (chT rs) x6 S2 ct (by omega) hS2
  have tk : tOk t := h3.mono (by omega)
  have hl2 : L.length ≤ 1000 := by omega
  refine ⟨t, .val (.str t), b, S3, ?_, hS3, tk⟩
  unfold cl_law_b2
  walk_at "w"
theorem s_turns (ns : List Int) (x7 x8 : Sl) : ∀ (ds : List D) (L : List Str) (x4 x5 x6 : Sl) (S : List O), L.length + ds.length ≤ 900 → (∀ t ∈ L, tOk t) → TapeOk S →
    ∃ (Mx : List Str) (y4 y5 y6 : Sl) (S' : List O), forL (fun d => cSeq (cTg (.nm 4) d) cl_law_b2) ds (lw ns sgD (.own (.lst (L.map .str))) x4 x5 x6 x7 x8 S) = .ok .next (lw ns sgD (.own (.lst (Mx.map .str))) y4 y5 y6 x7 x8 S') ∧ TapeOk S' ∧ (∀ t ∈ Mx, tOk t) ∧ Mx.length ≤ 900 := by
  intro ds
  induction ds with
  | nil => intro L x4 x5 x6 S hl hL hS; exact ⟨L, x4, x5, x6, S, rfl, hS, hL, by omega⟩
  | cons d ds ih =>
    intro L x4 x5 x6 S hl hL hS
    rw [List.length_cons] at hl
    obtain ⟨t, y5, y6, S1, e1, hS1, ht⟩ := s_turn ns d (L.map .str) x4 x5 x6 x7 x8 S (by rw [List.length_map]; omega) hS
    have em : L.map D.str ++ [.str t] = (L ++ [t]).map D.str := by simp [CL.M.bind, CL.M.ret, CL.R.bind, cSeq, cRet, cVar, cOp, cAnd, cOr, cNot, cIf, cAndT, cOrT, cNotT, asB, cB, cNext, cIfS, cSet, CL.CS.put, cChain, dLe, dLt, dGt, dGe, dI2, startC, outF, fnB, cIsi, CL.CS.knOf, tyB, isKn, isTy, CL.M.guard, cTru, dTru, liftF, cCall, cCons, cFor, forL, cEnum, dEnum, cTg, cLc, lcL, wipeC, cWalk, dWalk, cNever, cSetTp, putAll, bLen, cFld, CL.CS.fld, cProp, noExc, CL.CS.clsOf, cCallS, dItems, cLenP, cIxP, CL.CS.see, cApp, CL.CS.pl, CL.CS.wr, CL.Pl.xs, dNeg, cSetIx, cStore, froz, cLst, cCutL, dCutL, cNoPart, cPart, dPart, CL.CS.seqL, bList, CL.M.opt, dIs, cIsiT, CL.D.isNon, bStr]
    rw [em] at e1
    obtain ⟨Mx, z4, z5, z6, S2, e2, hS2, hM⟩ := ih (L ++ [t]) (.val d) y5 y6 S1 (by rw [List.length_append, List.length_singleton]; omega) (fun z hz => by
      rcases List.mem_append.mp hz with h | h
      · exact hL z h
      · rw [List.mem_singleton.mp h]; exact ht) hS1
    exact ⟨Mx, z4, z5, z6, S2, (forL_nx (body := fun d => cSeq (cTg (.nm 4) d) cl_law_b2) e1).trans e2, hS2, hM⟩
theorem pl_rows {rs : List (List Int)} (h : ChOk rs) : plD 4 (.tup (rs.map rowD)) := by
  refine ⟨by rw [List.length_map]; have := h.2.1; omega, fun x hx => ?_⟩
  obtain ⟨r, hr, rfl⟩ := List.mem_map.mp hx
  refine ⟨by rw [List.length_map]; have := (h.2.2 r hr).1; omega, fun y hy => ?_⟩
  obtain ⟨k, _, rfl⟩ := List.mem_map.mp hy
  trivial
theorem s_text (ns : List Int) {t : Str} (ht : tOk t) (x2 x3 x4 x5 x6 x7 x8 : Sl) (S : List O) :
    ∃ y7 y8, cSeq (cTg (.nm 5) (.str t)) cl_law_b3 (lw ns x2 x3 x4 x5 x6 x7 x8 S) = .ok .next (lw ns x2 x3 x4 (.val (.str t)) x6 y7 y8 S) := by
  have lr := s_lread ht S
  have rd := s_read ht S
  cases q : readOf t with
  | none =>
    rw [q] at lr rd
    have lr : fn_law_read [.str t] S = .ok .non S := lr
    have tr : cTry cl_try_suite (cCall fn_Chain_read (cCons (cVar 5) (M.ret []))) (lw ns x2 x3 x4 (.val (.str t)) x6 x7 x8 S) = .ok (.tup [nInvalidText, .non]) (lw ns x2 x3 x4 (.val (.str t)) x6 x7 x8 S) := by
      refine w_tryX (cn := 0) (vs := [nInvalidText]) ?_ (s_suInvalidText S)
      show liftF (fn_Chain_read [.str t] S) _ = _
      rw [rd]
      rfl
    have pd : pdS 1 (.tup [nInvalidText, .non]) := fun x hx => by
      simp only [List.mem_cons, List.not_mem_nil, or_false] at hx
      rcases hx with rfl | rfl
      · exact okInvalidText
      · trivial
    refine ⟨.val .non, .val (.tup [nInvalidText, .non]), ?_⟩
    unfold cl_law_b3
    walk_at "w"
  | some rs =>
    have hr := read_ok ht q
    rw [q] at lr rd
    have lr : fn_law_read [.str t] S = .ok (.lst (rs.map rowD)) S := lr
    have tr : cTry cl_try_suite (cCall fn_Chain_read (cCons (cVar 5) (M.ret []))) (lw ns x2 x3 x4 (.val (.str t)) x6 x7 x8 S) = .ok (.tup [.str (PySem.Str.ofString ""), chD rs]) (lw ns x2 x3 x4 (.val (.str t)) x6 x7 x8 S) := by
      refine w_try ?_
      show liftF (fn_Chain_read [.str t] S) _ = _
      rw [rd]
      rfl
    have sm := s_same 4 (.tup (rs.map rowD)) S (pl_rows hr)
    have sgm : fn_Chain_segments [chD rs] S = .ok (.tup (rs.map rowD)) S := rfl
    have pd : pdS 1 (.str (PySem.Str.ofString "")) := show PyData.strOk _ = true by decide +kernel
    refine ⟨.val (.lst (rs.map rowD)), .val (.tup [.str (PySem.Str.ofString ""), chD rs]), ?_⟩
    unfold cl_law_b3
    walk_at "w"
theorem s_texts (ns : List Int) (x2 x3 x4 x6 : Sl) (S : List O) : ∀ (L : List Str) (x5 x7 x8 : Sl), (∀ t ∈ L, tOk t) →
    ∃ y5 y7 y8, forL (fun d => cSeq (cTg (.nm 5) d) cl_law_b3) (L.map D.str) (lw ns x2 x3 x4 x5 x6 x7 x8 S) = .ok .next (lw ns x2 x3 x4 y5 x6 y7 y8 S) := by
  intro L
  induction L with
  | nil => intro x5 x7 x8 _; exact ⟨x5, x7, x8, rfl⟩
  | cons t L ih =>
    intro x5 x7 x8 h
    obtain ⟨y7, y8, e1⟩ := s_text ns (h t List.mem_cons_self) x2 x3 x4 x5 x6 x7 x8 S
    obtain ⟨z5, z7, z8, e2⟩ := ih (.val (.str t)) y7 y8 fun z hz => h z (List.mem_cons_of_mem _ hz)
    exact ⟨z5, z7, z8, (forL_nx (body := fun d => cSeq (cTg (.nm 5) d) cl_law_b3) e1).trans e2⟩
abbrev os (s : String) : Str := PySem.Str.ofString s
abbrev T1 : List Str := [os "", os " ", os "|", os " | ", os "- ", os "0", os "13", os "01", os "1  2", os "1 | ", os "1|2", os "- -", os "- 1", os "1 -", os "+1", os "-1", os "1\n"]
abbrev j1 : Str := Txt.join (os " ") (List.replicate 13 (os "1"))
abbrev j2 : Str := Txt.join (os " | ") (List.replicate 5 (os "-"))
abbrev j3 : Str := Txt.join (os " | ") (List.replicate 4 (os "-"))
abbrev j4 : Str := Txt.mul (os "12 ") 11 ++ os "12"
abbrev T2 : List Str := T1 ++ [j1, j2, j3, j4]
abbrev T3 : List Str := T2 ++ [os "100", os "1_0"]
theorem T3_ok : ∀ t ∈ T3, tOk t := by
  have h : ∀ x ∈ T3, (decide (x.length ≤ 300) && (TL.tl x).all fun m => decide (m < 0x110000)) = true := by decide +kernel
  intro x hx
  have z := h x hx
  rw [Bool.and_eq_true, List.all_eq_true] at z
  exact ⟨of_decide_eq_true z.1, fun m hm => of_decide_eq_true (z.2 m hm)⟩
theorem rep_fl (s : Str) (n : Nat) : (List.replicate n [D.str s]).flatten = (List.replicate n s).map .str := by
  induction n with
  | zero => rfl
  | succ n ih => rw [List.replicate_succ, List.replicate_succ, List.flatten_cons, ih]; rfl
theorem rp13 (s : Str) (c : CS) : dRep (.lst [.str s]) (.int 13) c = .ok ((List.replicate 13 s).map .str) c := by
  have e := rep_fl s 13
  rw [← e]
  have z : szOk (([D.str s]).length * (13 : Int).toNat) = true := w_sz (by show 1 * 13 ≤ 1000; omega)
  show M.guard (decide (-(2 ^ 63) ≤ (13 : Int) ∧ (13 : Int) < 2 ^ 63) && szOk (([D.str s]).length * (13 : Int).toNat)) (M.ret (List.replicate (13 : Int).toNat [D.str s]).flatten) c = _
  rw [z]
  rfl
theorem rp5 (s : Str) (c : CS) : dRep (.lst [.str s]) (.int 5) c = .ok ((List.replicate 5 s).map .str) c := by
  have e := rep_fl s 5
  rw [← e]
  have z : szOk (([D.str s]).length * (5 : Int).toNat) = true := w_sz (by show 1 * 5 ≤ 1000; omega)
  show M.guard (decide (-(2 ^ 63) ≤ (5 : Int) ∧ (5 : Int) < 2 ^ 63) && szOk (([D.str s]).length * (5 : Int).toNat)) (M.ret (List.replicate (5 : Int).toNat [D.str s]).flatten) c = _
  rw [z]
  rfl
theorem rp4 (s : Str) (c : CS) : dRep (.lst [.str s]) (.int 4) c = .ok ((List.replicate 4 s).map .str) c := by
  have e := rep_fl s 4
  rw [← e]
  have z : szOk (([D.str s]).length * (4 : Int).toNat) = true := w_sz (by show 1 * 4 ≤ 1000; omega)
  show M.guard (decide (-(2 ^ 63) ≤ (4 : Int) ∧ (4 : Int) < 2 ^ 63) && szOk (([D.str s]).length * (4 : Int).toNat)) (M.ret (List.replicate (4 : Int).toNat [D.str s]).flatten) c = _
  rw [z]
  rfl
theorem jn (a s : Str) (n : Nat) (h : n ≤ 100) (h2 : s.length ≤ 10) (h3 : a.length ≤ 10) (c : CS) : dJoin a (.lst ((List.replicate n s).map .str)) c = .ok (.str (Txt.join a (List.replicate n s))) c := by
  have su : ((List.replicate n s).map fun x : Str => x.length).sum ≤ n * 10 := by
    rw [List.map_replicate, List.sum_replicate_nat]
    exact Nat.mul_le_mul_left n h2
  have m : (List.replicate n s).length * a.length ≤ n * 10 := by
    rw [List.length_replicate]
    exact Nat.mul_le_mul_left n h3
  show (match (c.seqL (.lst ((List.replicate n s).map .str))).bind asStrs with
    | some ys => M.guard (decide ((ys.map fun x : Str => x.length).sum + ys.length * a.length ≤ 16777216)) (M.ret (D.str (Txt.join a ys))) c
    | none => .stuck) = _
  have e : (c.seqL (.lst ((List.replicate n s).map .str))).bind asStrs = some (List.replicate n s) := asStrs_map _
  rw [e]
  dsimp only
  rw [decide_eq_true (by omega)]
  rfl
theorem rep_go {a : Str} {k : Int} {ys : List D} {c : CS} (h : dRep (.lst [.str a]) (.int k) c = .ok ys c) : froz (cOpL dRep (froz (cLst (cCons (M.ret (.str a)) (M.ret [])))) (M.ret (.int k))) c = .ok (.lst ys) c := by
  show R.bind (dRep (.lst [.str a]) (.int k) c) _ = _
  rw [h]
  rfl
theorem join_go {a : Str} {f : M D} {d : D} {r : R D} {c : CS} (h : f c = .ok d c) (k : dJoin a d c = r) : cJoin (M.ret (.str a)) f c = r := by
  show R.bind (f c) _ = _
  rw [h]
  exact k
theorem opL_go {k : D → D → M (List D)} {fa fb : M D} {x y : D} {r : R (List D)} {c c1 c2 : CS} (h1 : fa c = .ok x c1) (h2 : fb c1 = .ok y c2) (h3 : k x y c2 = r) : cOpL k fa fb c = r := by
  show R.bind (fa c) _ = _
  rw [h1]
  show R.bind (fb c1) _ = _
  rw [h2]
  exact h3
theorem op_go {k : D → D → M D} {fa fb : M D} {x y : D} {r : R D} {c c1 c2 : CS} (h1 : fa c = .ok x c1) (h2 : fb c1 = .ok y c2) (h3 : k x y c2 = r) : cOp k fa fb c = r := by
  show R.bind (fa c) _ = _
  rw [h1]
  show R.bind (fb c1) _ = _
  rw [h2]
  exact h3
theorem setL_go {i : Nat} {f : M (List D)} {ys : List D} {c c1 : CS} (h : f c = .ok ys c1) : cSetL i f c = cSetL i (M.ret ys) c1 := by
  show R.bind (f c) _ = _
  rw [h]
  rfl
theorem for_go {fi : M (List D)} {t : Tg} {body : M Fl} {ds : List D} {r : R Fl} {c c1 : CS} (h : fi c = .ok ds c1) (k : forL (fun d => cSeq (cTg t d) body) ds c1 = r) : cFor fi t body c = r := by
  show R.bind (fi c) _ = _
  rw [h]
  exact k
theorem s_t1 (ns : List Int) (x2 x3 x4 x5 x6 x7 x8 : Sl) (S : List O) : cSetL 3 (cLst (cCons (M.ret (.str (os ""))) (cCons (M.ret (.str (os " "))) (cCons (M.ret (.str (os "|"))) (cCons (M.ret (.str (os " | "))) (cCons (M.ret (.str (os "- "))) (cCons (M.ret (.str (os "0"))) (cCons (M.ret (.str (os "13"))) (cCons (M.ret (.str (os "01"))) (cCons (M.ret (.str (os "1  2"))) (cCons (M.ret (.str (os "1 | "))) (cCons (M.ret (.str (os "1|2"))) (cCons (M.ret (.str (os "- -"))) (cCons (M.ret (.str (os "- 1"))) (cCons (M.ret (.str (os "1 -"))) (cCons (M.ret (.str (os "+1"))) (cCons (M.ret (.str (os "-1"))) (cCons (M.ret (.str (os "1\n"))) (M.ret [])))))))))))))))))))
    (lw ns x2 x3 x4 x5 x6 x7 x8 S) = .ok .next (lw ns x2 (.own (.lst (T1.map .str))) x4 x5 x6 x7 x8 S) := rfl
theorem s_t2 (ns : List Int) (x2 x4 x5 x6 x7 x8 : Sl) (S : List O) : cSetL 3 (cOpL dCat (cVar 3) (froz (cLst (cCons (cJoin (M.ret (.str (os " "))) (froz (cOpL dRep (froz (cLst (cCons (M.ret (.str (os "1"))) (M.ret [])))) (M.ret (.int 13))))) (cCons (cJoin (M.ret (.str (os " | "))) (froz (cOpL dRep (froz (cLst (cCons (M.ret (.str (os "-"))) (M.ret [])))) (M.ret (.int 5))))) (cCons (cJoin (M.ret (.str (os " | "))) (froz (cOpL dRep (froz (cLst (cCons (M.ret (.str (os "-"))) (M.ret [])))) (M.ret (.int 4))))) (cCons (cOp dAdd (cOp dMulS (M.ret (.str (os "12 "))) (M.ret (.int 11))) (M.ret (.str (os "12")))) (M.ret []))))))))
    (lw ns x2 (.own (.lst (T1.map .str))) x4 x5 x6 x7 x8 S) = .ok .next (lw ns x2 (.own (.lst (T2.map .str))) x4 x5 x6 x7 x8 S) := by
  have e : T2.map D.str = T1.map D.str ++ [.str j1, .str j2, .str j3, .str j4] := rfl
  rw [e]
  have r1 : dRep (.lst [.str (os "1")]) (.int 13) (lw ns x2 (.val (.lst (T1.map .str))) x4 x5 x6 x7 x8 S) = .ok ((List.replicate 13 (os "1")).map .str) (lw ns x2 (.val (.lst (T1.map .str))) x4 x5 x6 x7 x8 S) := rp13 (os "1") _
  have r2 : dRep (.lst [.str (os "-")]) (.int 5) (lw ns x2 (.val (.lst (T1.map .str))) x4 x5 x6 x7 x8 S) = .ok ((List.replicate 5 (os "-")).map .str) (lw ns x2 (.val (.lst (T1.map .str))) x4 x5 x6 x7 x8 S) := rp5 (os "-") _
  have r3 : dRep (.lst [.str (os "-")]) (.int 4) (lw ns x2 (.val (.lst (T1.map .str))) x4 x5 x6 x7 x8 S) = .ok ((List.replicate 4 (os "-")).map .str) (lw ns x2 (.val (.lst (T1.map .str))) x4 x5 x6 x7 x8 S) := rp4 (os "-") _
  generalize hc : lw ns x2 (.val (.lst (T1.map .str))) x4 x5 x6 x7 x8 S = c at r1 r2 r3
  have k1 := jn (os " ") (os "1") 13 (by omega) (by decide +kernel) (by decide +kernel) c
  have k2 := jn (os " | ") (os "-") 5 (by omega) (by decide +kernel) (by decide +kernel) c
  have k3 := jn (os " | ") (os "-") 4 (by omega) (by decide +kernel) (by decide +kernel) c
  have m1 : dMulS (.str (os "12 ")) (.int 11) c = .ok (.str (Txt.mul (os "12 ") 11)) c := by
    show M.guard (decide ((os "12 ").length ≤ 16) && decide ((2 : Int) ≤ 11) && decide ((11 : Int) ≤ 1000)) _ c = _
    rw [show (decide ((os "12 ").length ≤ 16) && decide ((2 : Int) ≤ 11) && decide ((11 : Int) ≤ 1000)) = true by decide +kernel]
    rfl
  have a1 : dAdd (.str (Txt.mul (os "12 ") 11)) (.str (os "12")) c = .ok (.str j4) c := o_addS (w_sz (by decide +kernel))
  have zc : szOk ((T1.map D.str).length + [D.str j1, .str j2, .str j3, .str j4].length) = true := w_sz (by decide)
  have c1 : dCat (.lst (T1.map D.str)) (.lst [D.str j1, .str j2, .str j3, .str j4]) c = .ok (T1.map D.str ++ [D.str j1, .str j2, .str j3, .str j4]) c := by
    show M.guard (szOk ((T1.map D.str).length + [D.str j1, .str j2, .str j3, .str j4].length)) (M.ret (T1.map D.str ++ [D.str j1, .str j2, .str j3, .str j4])) c = _
    rw [zc]
    rfl
  have ar : ((cCons (cJoin (M.ret (.str (os " "))) (froz (cOpL dRep (froz (cLst (cCons (M.ret (.str (os "1"))) (M.ret [])))) (M.ret (.int 13))))) (cCons (cJoin (M.ret (.str (os " | "))) (froz (cOpL dRep (froz (cLst (cCons (M.ret (.str (os "-"))) (M.ret [])))) (M.ret (.int 5))))) (cCons (cJoin (M.ret (.str (os " | "))) (froz (cOpL dRep (froz (cLst (cCons (M.ret (.str (os "-"))) (M.ret [])))) (M.ret (.int 4))))) (cCons (cOp dAdd (cOp dMulS (M.ret (.str (os "12 "))) (M.ret (.int 11))) (M.ret (.str (os "12")))) (M.ret [])))))) c = .ok [D.str j1, .str j2, .str j3, .str j4] c := by
    refine cons_of (join_go (rep_go r1) k1) (cons_of (join_go (rep_go r2) k2) (cons_of (join_go (rep_go r3) k3) (cons_of ?_ rfl)))
    exact op_go (op_go rfl rfl m1) rfl a1
  have fr : froz (cLst (cCons (cJoin (M.ret (.str (os " "))) (froz (cOpL dRep (froz (cLst (cCons (M.ret (.str (os "1"))) (M.ret [])))) (M.ret (.int 13))))) (cCons (cJoin (M.ret (.str (os " | "))) (froz (cOpL dRep (froz (cLst (cCons (M.ret (.str (os "-"))) (M.ret [])))) (M.ret (.int 5))))) (cCons (cJoin (M.ret (.str (os " | "))) (froz (cOpL dRep (froz (cLst (cCons (M.ret (.str (os "-"))) (M.ret [])))) (M.ret (.int 4))))) (cCons (cOp dAdd (cOp dMulS (M.ret (.str (os "12 "))) (M.ret (.int 11))) (M.ret (.str (os "12")))) (M.ret [])))))) c = .ok (.lst [D.str j1, .str j2, .str j3, .str j4]) c := froz_of (lst_of ar (szOk_small (by decide)))
  have va : cVar 3 (lw ns x2 (.own (.lst (T1.map .str))) x4 x5 x6 x7 x8 S) = .ok (.lst (T1.map .str)) c := by rw [← hc]; rfl
  have op : cOpL dCat (cVar 3) (froz (cLst (cCons (cJoin (M.ret (.str (os " "))) (froz (cOpL dRep (froz (cLst (cCons (M.ret (.str (os "1"))) (M.ret [])))) (M.ret (.int 13))))) (cCons (cJoin (M.ret (.str (os " | "))) (froz (cOpL dRep (froz (cLst (cCons (M.ret (.str (os "-"))) (M.ret [])))) (M.ret (.int 5))))) (cCons (cJoin (M.ret (.str (os " | "))) (froz (cOpL dRep (froz (cLst (cCons (M.ret (.str (os "-"))) (M.ret [])))) (M.ret (.int 4))))) (cCons (cOp dAdd (cOp dMulS (M.ret (.str (os "12 "))) (M.ret (.int 11))) (M.ret (.str (os "12")))) (M.ret []))))))) (lw ns x2 (.own (.lst (T1.map .str))) x4 x5 x6 x7 x8 S) = .ok (T1.map D.str ++ [D.str j1, .str j2, .str j3, .str j4]) c := opL_go va fr c1
  refine (setL_go op).trans ?_
  rw [← hc]
  rfl
theorem s_t3 (ns : List Int) (x2 x4 x5 x6 x7 x8 : Sl) (S : List O) : cSetL 3 (cOpL dCat (cVar 3) (froz (cLst (cCons (M.ret (.str (os "100"))) (cCons (M.ret (.str (os "1_0"))) (M.ret [])))))) (lw ns x2 (.own (.lst (T2.map .str))) x4 x5 x6 x7 x8 S) = .ok .next (lw ns x2 (.own (.lst (T3.map .str))) x4 x5 x6 x7 x8 S) := by
  have e : T3.map D.str = T2.map D.str ++ [.str (os "100"), .str (os "1_0")] := rfl
  rw [e]
  have l2 : (T2.map D.str).length = 21 := rfl
  generalize T2.map D.str = L at l2 ⊢
  have zc : szOk (L.length + [D.str (os "100"), .str (os "1_0")].length) = true := w_sz (by rw [l2]; decide)
  have c1 : dCat (.lst L) (.lst [D.str (os "100"), .str (os "1_0")]) (lw ns x2 (.val (.lst L)) x4 x5 x6 x7 x8 S) = .ok (L ++ [D.str (os "100"), .str (os "1_0")]) (lw ns x2 (.val (.lst L)) x4 x5 x6 x7 x8 S) := by
    show M.guard (szOk (L.length + [D.str (os "100"), .str (os "1_0")].length)) (M.ret (L ++ [D.str (os "100"), .str (os "1_0")])) _ = _
    rw [zc]
    rfl
  have va : cVar 3 (lw ns x2 (.own (.lst L)) x4 x5 x6 x7 x8 S) = .ok (.lst L) (lw ns x2 (.val (.lst L)) x4 x5 x6 x7 x8 S) := rfl
  have fr : froz (cLst (cCons (M.ret (.str (os "100"))) (cCons (M.ret (.str (os "1_0"))) (M.ret [])))) (lw ns x2 (.val (.lst L)) x4 x5 x6 x7 x8 S) = .ok (.lst [D.str (os "100"), .str (os "1_0")]) (lw ns x2 (.val (.lst L)) x4 x5 x6 x7 x8 S) := rfl
  exact (setL_go (opL_go va fr c1)).trans rfl
theorem s_sg (ns : List Int) (x2 x3 x4 x5 x6 x7 x8 : Sl) (S : List O) : cSet 2 (froz (cLst (cCons (M.ret (.str (os ""))) (cCons (M.ret (.str (os " "))) (cCons (M.ret (.str (os "|"))) (cCons (M.ret (.str (os "-"))) (cCons (M.ret (.str (os "0"))) (cCons (M.ret (.str (os "1"))) (cCons (M.ret (.str (os "2"))) (cCons (M.ret (.str (os "3"))) (cCons (M.ret (.str (os " | "))) (cCons (M.ret (.str (os "\n"))) (cCons (M.ret (.str (os "a"))) (cCons (M.ret (.str (os "12"))) (cCons (M.ret (.str (os "+"))) (M.ret [])))))))))))))))) (lw ns x2 x3 x4 x5 x6 x7 x8 S) = .ok .next (lw ns sgD x3 x4 x5 x6 x7 x8 S) := rfl
theorem maths (ns : List Int) (h : ns.length ≤ 63) : ∃ S, fn_law [.scr ns] [] = .ok (.bl true) S := by
  have hS0 : TapeOk (tpS [] ns 0 0 3815) := ⟨[], ns, 0, 0, 3815, rfl, h, by omega, by omega, by omega⟩
  have e0 := s_tape ns h
  have h1 : cSet 1 (cCall fn_law_tape (cCons (cVar 0) (M.ret []))) ⟨[.val (.scr ns), .no, .no, .no, .no, .no, .no, .no, .no], []⟩ = .ok .next (lw ns .no .no .no .no .no .no .no (tpS [] ns 0 0 3815)) := by
    show R.bind (liftF (fn_law_tape [.scr ns] []) _) _ = _
    rw [e0]
    rfl
  generalize tpS [] ns 0 0 3815 = S0 at h1 hS0
  obtain ⟨Mx, y4, y5, y6, S1, e1, hS1, hM, _⟩ := s_turns ns .no .no (rangeD 0 8) T3 .no .no .no S0 (by decide) T3_ok hS0
  have h5 : cFor (cRange1 (M.ret (.int 8))) (.nm 4) cl_law_b2 (lw ns sgD (.own (.lst (T3.map .str))) .no .no .no .no .no S0) = .ok .next (lw ns sgD (.own (.lst (Mx.map .str))) y4 y5 y6 .no .no S1) := by
    have rg : cRange1 (M.ret (.int 8)) (lw ns sgD (.own (.lst (T3.map .str))) .no .no .no .no .no S0) = .ok (rangeD 0 8) (lw ns sgD (.own (.lst (T3.map .str))) .no .no .no .no .no S0) := rfl
    exact for_go rg e1
  obtain ⟨z5, z7, z8, e2⟩ := s_texts ns sgD (.val (.lst (Mx.map .str))) y4 y6 S1 Mx y5 .no .no hM
  have rg2 : cWalk (cVar 3) (lw ns sgD (.own (.lst (Mx.map .str))) y4 y5 y6 .no .no S1) = .ok (Mx.map .str) (lw ns sgD (.val (.lst (Mx.map .str))) y4 y5 y6 .no .no S1) := rfl
  have h6 := for_go (t := .nm 5) (body := cl_law_b3) rg2 e2
  have zz : cl_law ⟨[.val (.scr ns), .no, .no, .no, .no, .no, .no, .no, .no], []⟩ = .ok (.ret (.bl true)) (lw ns sgD (.val (.lst (Mx.map .str))) y4 z5 y6 z7 z8 S1) :=
    (cSeq_next h1).trans ((cSeq_next (s_sg ..)).trans ((cSeq_next (s_t1 ..)).trans ((cSeq_next (s_t2 ..)).trans ((cSeq_next (s_t3 ..)).trans ((cSeq_next h5).trans ((cSeq_next h6).trans rfl))))))
  refine ⟨S1, ?_⟩
  show outF (cl_law ⟨[.val (.scr ns), .no, .no, .no, .no, .no, .no, .no, .no], []⟩) = _
  rw [zz]
  rfl
end
end K03

namespace K03
open PySem PySem.Spec PyProof.Rows L2 CL
def excTab (C_InvalidText : Addr) : Nat → Option (Addr × List Str)
  | 0 => some (C_InvalidText, [cdS])
  | _ => none
theorem all_mk {w : World} {K : PySem.W.Frag} {h : Heap} {mg : Str → Option Value} {fa : Addr} {PT : Addr} {cc : Addr} {C : Addr} {f_is_between : Addr} {od_is_between : Option Addr} {an_is_between : Option Addr} {sl_is_between : Array (Option Value)} {oc_is_between : Value} {kV_is_between : Value} {dc_is_between : Value} {pm_is_between : Value} {cd_is_between : Value} {ct_is_between : Value} {f_check_rows : Addr} {od_check_rows : Option Addr} {an_check_rows : Option Addr} {sl_check_rows : Array (Option Value)} {oc_check_rows : Value} {kV_check_rows : Value} {dc_check_rows : Value} {pm_check_rows : Value} {cd_check_rows : Value} {ct_check_rows : Value} {f_Chain__init : Addr} {od_Chain__init : Option Addr} {an_Chain__init : Option Addr} {sl_Chain__init : Array (Option Value)} {oc_Chain__init : Value} {kV_Chain__init : Value} {dc_Chain__init : Value} {pm_Chain__init : Value} {cd_Chain__init : Value} {ct_Chain__init : Value} {f_read_capacity : Addr} {od_read_capacity : Option Addr} {an_read_capacity : Option Addr} {sl_read_capacity : Array (Option Value)} {oc_read_capacity : Value} {kV_read_capacity : Value} {dc_read_capacity : Value} {pm_read_capacity : Value} {cd_read_capacity : Value} {ct_read_capacity : Value} {f_read_row : Addr} {od_read_row : Option Addr} {an_read_row : Option Addr} {sl_read_row : Array (Option Value)} {oc_read_row : Value} {kV_read_row : Value} {dc_read_row : Value} {pm_read_row : Value} {cd_read_row : Value} {ct_read_row : Value} {f_Chain_read : Addr} {p_Chain_read : Addr} {r_Chain_read : List Value} {od_Chain_read : Option Addr} {an_Chain_read : Option Addr} {sl_Chain_read : Array (Option Value)} {oc_Chain_read : Value} {kV_Chain_read : Value} {dc_Chain_read : Value} {pm_Chain_read : Value} {cd_Chain_read : Value} {ct_Chain_read : Value} {f_Chain_segments : Addr} {p_Chain_segments : Addr} {r_Chain_segments : List Value} {od_Chain_segments : Option Addr} {an_Chain_segments : Option Addr} {sl_Chain_segments : Array (Option Value)} {oc_Chain_segments : Value} {kV_Chain_segments : Value} {dc_Chain_segments : Value} {pm_Chain_segments : Value} {cd_Chain_segments : Value} {ct_Chain_segments : Value} {f_law_tape : Addr} {od_law_tape : Option Addr} {an_law_tape : Option Addr} {sl_law_tape : Array (Option Value)} {oc_law_tape : Value} {kV_law_tape : Value} {dc_law_tape : Value} {pm_law_tape : Value} {cd_law_tape : Value} {ct_law_tape : Value} {f_law_pick : Addr} {od_law_pick : Option Addr} {an_law_pick : Option Addr} {sl_law_pick : Array (Option Value)} {oc_law_pick : Value} {kV_law_pick : Value} {dc_law_pick : Value} {pm_law_pick : Value} {cd_law_pick : Value} {ct_law_pick : Value} {f_law_same : Addr} {od_law_same : Option Addr} {an_law_same : Option Addr} {sl_law_same : Array (Option Value)} {oc_law_same : Value} {kV_law_same : Value} {dc_law_same : Value} {pm_law_same : Value} {cd_law_same : Value} {ct_law_same : Value} {f_law_field : Addr} {od_law_field : Option Addr} {an_law_field : Option Addr} {sl_law_field : Array (Option Value)} {oc_law_field : Value} {kV_law_field : Value} {dc_law_field : Value} {pm_law_field : Value} {cd_law_field : Value} {ct_law_field : Value} {f_law_try : Addr} {od_law_try : Option Addr} {an_law_try : Option Addr} {sl_law_try : Array (Option Value)} {oc_law_try : Value} {kV_law_try : Value} {dc_law_try : Value} {pm_law_try : Value} {cd_law_try : Value} {ct_law_try : Value} {f_law_row : Addr} {od_law_row : Option Addr} {an_law_row : Option Addr} {sl_law_row : Array (Option Value)} {oc_law_row : Value} {kV_law_row : Value} {dc_law_row : Value} {pm_law_row : Value} {cd_law_row : Value} {ct_law_row : Value} {f_law_rows : Addr} {od_law_rows : Option Addr} {an_law_rows : Option Addr} {sl_law_rows : Array (Option Value)} {oc_law_rows : Value} {kV_law_rows : Value} {dc_law_rows : Value} {pm_law_rows : Value} {cd_law_rows : Value} {ct_law_rows : Value} {f_law_text : Addr} {od_law_text : Option Addr} {an_law_text : Option Addr} {sl_law_text : Array (Option Value)} {oc_law_text : Value} {kV_law_text : Value} {dc_law_text : Value} {pm_law_text : Value} {cd_law_text : Value} {ct_law_text : Value} {f_law_of : Addr} {od_law_of : Option Addr} {an_law_of : Option Addr} {sl_law_of : Array (Option Value)} {oc_law_of : Value} {kV_law_of : Value} {dc_law_of : Value} {pm_law_of : Value} {cd_law_of : Value} {ct_law_of : Value} {f_law_bent : Addr} {od_law_bent : Option Addr} {an_law_bent : Option Addr} {sl_law_bent : Array (Option Value)} {oc_law_bent : Value} {kV_law_bent : Value} {dc_law_bent : Value} {pm_law_bent : Value} {cd_law_bent : Value} {ct_law_bent : Value} {f_law_read_row : Addr} {od_law_read_row : Option Addr} {an_law_read_row : Option Addr} {sl_law_read_row : Array (Option Value)} {oc_law_read_row : Value} {kV_law_read_row : Value} {dc_law_read_row : Value} {pm_law_read_row : Value} {cd_law_read_row : Value} {ct_law_read_row : Value} {f_law_read : Addr} {od_law_read : Option Addr} {an_law_read : Option Addr} {sl_law_read : Array (Option Value)} {oc_law_read : Value} {kV_law_read : Value} {dc_law_read : Value} {pm_law_read : Value} {cd_law_read : Value} {ct_law_read : Value} {f_law : Addr} {od_law : Option Addr} {an_law : Option Addr} {sl_law : Array (Option Value)} {oc_law : Value} {kV_law : Value} {dc_law : Value} {pm_law : Value} {ct_law : Value} {C_ChainError : Addr} {C_NotFound : Addr} {C_InvalidText : Addr} {fx_InvalidText : Addr} {nmx_InvalidText : Str} {qnx_InvalidText : Str} {Nx_InvalidText : Addr} {bsx_InvalidText : List Value} {snx_InvalidText : List Str} {subx_InvalidText : List Value} {abx_InvalidText : Bool} {colx_InvalidText : Option Bool} {ddx_InvalidText : Option Addr} {m0x_InvalidText : Option Value} {m1x_InvalidText : Option Value} {m2x_InvalidText : Option Value} {m3x_InvalidText : Option Value} {m5x_InvalidText : Option Value} {odx_InvalidText : Option Addr} {anx_InvalidText : Option Addr} {slx_InvalidText : Array (Option Value)} {ocx_InvalidText : Value} {kVx_InvalidText : Value} {dcx_InvalidText : Value} {pmx_InvalidText : Value} {cdx_InvalidText : Value} {ctx_InvalidText : Value} {ecc : Value} {dcc : Option Addr} {vcc : Array Value} {scc : Array (Option Value)} {u_MAX_CAPACITY : Tok} {u_MAX_LEVELS : Tok} {u_MAX_SEGMENTS : Tok} (X : K.In h) (G : h.Ns mainGlobals mg) (hfa : mg "law" = some (.ref fa)) (own : LamX.OwnTab K fa h)
    (aC : PySem.W.nsIn K mainGlobals "Chain" = some (some (.ref C)))
    (a_is_between : PySem.W.nsIn K mainGlobals "is_between" = some (some (.ref f_is_between)))
    (l_is_between : K.lookup f_is_between = some ⟨oc_is_between, od_is_between, .func (PySem.W.fnOf "is_between" "is_between" (defArgs (topS 8)) (defBody (topS 8)) (defScope (topS 8)) .none kV_is_between dc_is_between pm_is_between an_is_between cd_is_between ct_is_between), sl_is_between⟩)
    (c_is_between : PySem.W.codeIn K cd_is_between "is_between" = true)
    (k_is_between : PySem.W.keepIn K (.ref f_is_between) = true)
    (a_check_rows : PySem.W.nsIn K mainGlobals "_check_rows" = some (some (.ref f_check_rows)))
    (l_check_rows : K.lookup f_check_rows = some ⟨oc_check_rows, od_check_rows, .func (PySem.W.fnOf "_check_rows" "_check_rows" (defArgs (topS 11)) (defBody (topS 11)) (defScope (topS 11)) .none kV_check_rows dc_check_rows pm_check_rows an_check_rows cd_check_rows ct_check_rows), sl_check_rows⟩)
    (c_check_rows : PySem.W.codeIn K cd_check_rows "_check_rows" = true)
    (k_check_rows : PySem.W.keepIn K (.ref f_check_rows) = true)
    (a_Chain__init : PySem.W.findIn K (.ref C) "__init__" = some (some (.ref f_Chain__init)))
    (i_Chain__init : PySem.W.isFn K (.ref f_Chain__init) = true)
    (l_Chain__init : K.lookup f_Chain__init = some ⟨oc_Chain__init, od_Chain__init, .func (PySem.W.fnOf "__init__" "Chain.__init__" (defArgs (inS 10 3)) (defBody (inS 10 3)) (defScope (inS 10 3)) .none kV_Chain__init dc_Chain__init pm_Chain__init an_Chain__init cd_Chain__init ct_Chain__init), sl_Chain__init⟩)
    (c_Chain__init : PySem.W.codeIn K cd_Chain__init "Chain.__init__" = true)
    (k_Chain__init : PySem.W.keepIn K (.ref f_Chain__init) = true)
    (mk : PySem.W.makesIn K C = true)
    (kC : PySem.W.keepIn K (.ref C) = true)
    (a_read_capacity : PySem.W.nsIn K mainGlobals "_read_capacity" = some (some (.ref f_read_capacity)))
    (l_read_capacity : K.lookup f_read_capacity = some ⟨oc_read_capacity, od_read_capacity, .func (PySem.W.fnOf "_read_capacity" "_read_capacity" (defArgs (topS 14)) (defBody (topS 14)) (defScope (topS 14)) .none kV_read_capacity dc_read_capacity pm_read_capacity an_read_capacity cd_read_capacity ct_read_capacity), sl_read_capacity⟩)
    (c_read_capacity : PySem.W.codeIn K cd_read_capacity "_read_capacity" = true)
    (k_read_capacity : PySem.W.keepIn K (.ref f_read_capacity) = true)
    (a_read_row : PySem.W.nsIn K mainGlobals "_read_row" = some (some (.ref f_read_row)))
    (l_read_row : K.lookup f_read_row = some ⟨oc_read_row, od_read_row, .func (PySem.W.fnOf "_read_row" "_read_row" (defArgs (topS 13)) (defBody (topS 13)) (defScope (topS 13)) .none kV_read_row dc_read_row pm_read_row an_read_row cd_read_row ct_read_row), sl_read_row⟩)
    (c_read_row : PySem.W.codeIn K cd_read_row "_read_row" = true)
    (k_read_row : PySem.W.keepIn K (.ref f_read_row) = true)
    (a_Chain_read : PySem.W.findCls K (.ref C) (.type "type") "read" = some (.get (.builtin "classmethod.__get__") (.ref p_Chain_read) .none (.ref C)))
    (r0_Chain_read : PySem.W.recIn K p_Chain_read "classmethod" = some (.ref f_Chain_read :: r_Chain_read))
    (fi_Chain_read : PySem.W.fnIn K f_Chain_read = true)
    (l_Chain_read : K.lookup f_Chain_read = some ⟨oc_Chain_read, od_Chain_read, .func (PySem.W.fnOf "read" "Chain.read" (defArgs (inS 10 4)) (defBody (inS 10 4)) (defScope (inS 10 4)) .none kV_Chain_read dc_Chain_read pm_Chain_read an_Chain_read cd_Chain_read ct_Chain_read), sl_Chain_read⟩)
    (c_Chain_read : PySem.W.codeIn K cd_Chain_read "Chain.read" = true)
    (k_Chain_read : PySem.W.keepIn K (.ref f_Chain_read) = true)
    (a_Chain_segments : PySem.W.findIn K (.ref C) "segments" = some (some (.ref p_Chain_segments)))
    (g_Chain_segments : PySem.W.specialIn K (.ref p_Chain_segments) "__get__" = some (some (.builtin "property.__get__")))
    (t_Chain_segments : PySem.W.takesIn K (.ref p_Chain_segments) = some true)
    (r0_Chain_segments : PySem.W.recIn K p_Chain_segments "property" = some (.ref f_Chain_segments :: r_Chain_segments))
    (l_Chain_segments : K.lookup f_Chain_segments = some ⟨oc_Chain_segments, od_Chain_segments, .func (PySem.W.fnOf "segments" "Chain.segments" (defArgs (inS 10 6)) (defBody (inS 10 6)) (defScope (inS 10 6)) .none kV_Chain_segments dc_Chain_segments pm_Chain_segments an_Chain_segments cd_Chain_segments ct_Chain_segments), sl_Chain_segments⟩)
    (c_Chain_segments : PySem.W.codeIn K cd_Chain_segments "Chain.segments" = true)
    (k_Chain_segments : PySem.W.keepIn K (.ref f_Chain_segments) = true)
    (a_law_tape : PySem.W.nsIn K mainGlobals "_law_tape" = some (some (.ref f_law_tape)))
    (l_law_tape : K.lookup f_law_tape = some ⟨oc_law_tape, od_law_tape, .func (PySem.W.fnOf "_law_tape" "_law_tape" (defArgs (topS 16)) (defBody (topS 16)) (defScope (topS 16)) .none kV_law_tape dc_law_tape pm_law_tape an_law_tape cd_law_tape ct_law_tape), sl_law_tape⟩)
    (c_law_tape : PySem.W.codeIn K cd_law_tape "_law_tape" = true)
    (k_law_tape : PySem.W.keepIn K (.ref f_law_tape) = true)
    (a_law_pick : PySem.W.nsIn K mainGlobals "_law_pick" = some (some (.ref f_law_pick)))
    (l_law_pick : K.lookup f_law_pick = some ⟨oc_law_pick, od_law_pick, .func (PySem.W.fnOf "_law_pick" "_law_pick" (defArgs (topS 17)) (defBody (topS 17)) (defScope (topS 17)) .none kV_law_pick dc_law_pick pm_law_pick an_law_pick cd_law_pick ct_law_pick), sl_law_pick⟩)
    (c_law_pick : PySem.W.codeIn K cd_law_pick "_law_pick" = true)
    (k_law_pick : PySem.W.keepIn K (.ref f_law_pick) = true)
    (a_law_same : PySem.W.nsIn K mainGlobals "_law_same" = some (some (.ref f_law_same)))
    (l_law_same : K.lookup f_law_same = some ⟨oc_law_same, od_law_same, .func (PySem.W.fnOf "_law_same" "_law_same" (defArgs (topS 19)) (defBody (topS 19)) (defScope (topS 19)) .none kV_law_same dc_law_same pm_law_same an_law_same cd_law_same ct_law_same), sl_law_same⟩)
    (c_law_same : PySem.W.codeIn K cd_law_same "_law_same" = true)
    (k_law_same : PySem.W.keepIn K (.ref f_law_same) = true)
    (a_law_field : PySem.W.nsIn K mainGlobals "_law_field" = some (some (.ref f_law_field)))
    (l_law_field : K.lookup f_law_field = some ⟨oc_law_field, od_law_field, .func (PySem.W.fnOf "_law_field" "_law_field" (defArgs (topS 20)) (defBody (topS 20)) (defScope (topS 20)) .none kV_law_field dc_law_field pm_law_field an_law_field cd_law_field ct_law_field), sl_law_field⟩)
    (c_law_field : PySem.W.codeIn K cd_law_field "_law_field" = true)
    (k_law_field : PySem.W.keepIn K (.ref f_law_field) = true)
    (a_law_try : PySem.W.nsIn K mainGlobals "_law_try" = some (some (.ref f_law_try)))
    (l_law_try : K.lookup f_law_try = some ⟨oc_law_try, od_law_try, .func (PySem.W.fnOf "_law_try" "_law_try" (defArgs (topS 21)) (defBody (topS 21)) (defScope (topS 21)) .none kV_law_try dc_law_try pm_law_try an_law_try cd_law_try ct_law_try), sl_law_try⟩)
    (c_law_try : PySem.W.codeIn K cd_law_try "_law_try" = true)
    (k_law_try : PySem.W.keepIn K (.ref f_law_try) = true)
    (a_law_row : PySem.W.nsIn K mainGlobals "_law_row" = some (some (.ref f_law_row)))
    (l_law_row : K.lookup f_law_row = some ⟨oc_law_row, od_law_row, .func (PySem.W.fnOf "_law_row" "_law_row" (defArgs (topS 22)) (defBody (topS 22)) (defScope (topS 22)) .none kV_law_row dc_law_row pm_law_row an_law_row cd_law_row ct_law_row), sl_law_row⟩)
    (c_law_row : PySem.W.codeIn K cd_law_row "_law_row" = true)
    (k_law_row : PySem.W.keepIn K (.ref f_law_row) = true)
    (a_law_rows : PySem.W.nsIn K mainGlobals "_law_rows" = some (some (.ref f_law_rows)))
    (l_law_rows : K.lookup f_law_rows = some ⟨oc_law_rows, od_law_rows, .func (PySem.W.fnOf "_law_rows" "_law_rows" (defArgs (topS 23)) (defBody (topS 23)) (defScope (topS 23)) .none kV_law_rows dc_law_rows pm_law_rows an_law_rows cd_law_rows ct_law_rows), sl_law_rows⟩)
    (c_law_rows : PySem.W.codeIn K cd_law_rows "_law_rows" = true)
    (k_law_rows : PySem.W.keepIn K (.ref f_law_rows) = true)
    (a_law_text : PySem.W.nsIn K mainGlobals "_law_text" = some (some (.ref f_law_text)))
    (l_law_text : K.lookup f_law_text = some ⟨oc_law_text, od_law_text, .func (PySem.W.fnOf "_law_text" "_law_text" (defArgs (topS 24)) (defBody (topS 24)) (defScope (topS 24)) .none kV_law_text dc_law_text pm_law_text an_law_text cd_law_text ct_law_text), sl_law_text⟩)
    (c_law_text : PySem.W.codeIn K cd_law_text "_law_text" = true)
    (k_law_text : PySem.W.keepIn K (.ref f_law_text) = true)
    (a_law_of : PySem.W.nsIn K mainGlobals "_law_of" = some (some (.ref f_law_of)))
    (l_law_of : K.lookup f_law_of = some ⟨oc_law_of, od_law_of, .func (PySem.W.fnOf "_law_of" "_law_of" (defArgs (topS 18)) (defBody (topS 18)) (defScope (topS 18)) .none kV_law_of dc_law_of pm_law_of an_law_of cd_law_of ct_law_of), sl_law_of⟩)
    (c_law_of : PySem.W.codeIn K cd_law_of "_law_of" = true)
    (k_law_of : PySem.W.keepIn K (.ref f_law_of) = true)
    (a_law_bent : PySem.W.nsIn K mainGlobals "_law_bent" = some (some (.ref f_law_bent)))
    (l_law_bent : K.lookup f_law_bent = some ⟨oc_law_bent, od_law_bent, .func (PySem.W.fnOf "_law_bent" "_law_bent" (defArgs (topS 25)) (defBody (topS 25)) (defScope (topS 25)) .none kV_law_bent dc_law_bent pm_law_bent an_law_bent cd_law_bent ct_law_bent), sl_law_bent⟩)
    (c_law_bent : PySem.W.codeIn K cd_law_bent "_law_bent" = true)
    (k_law_bent : PySem.W.keepIn K (.ref f_law_bent) = true)
    (a_law_read_row : PySem.W.nsIn K mainGlobals "_law_read_row" = some (some (.ref f_law_read_row)))
    (l_law_read_row : K.lookup f_law_read_row = some ⟨oc_law_read_row, od_law_read_row, .func (PySem.W.fnOf "_law_read_row" "_law_read_row" (defArgs (topS 26)) (defBody (topS 26)) (defScope (topS 26)) .none kV_law_read_row dc_law_read_row pm_law_read_row an_law_read_row cd_law_read_row ct_law_read_row), sl_law_read_row⟩)
    (c_law_read_row : PySem.W.codeIn K cd_law_read_row "_law_read_row" = true)
    (k_law_read_row : PySem.W.keepIn K (.ref f_law_read_row) = true)
    (a_law_read : PySem.W.nsIn K mainGlobals "_law_read" = some (some (.ref f_law_read)))
    (l_law_read : K.lookup f_law_read = some ⟨oc_law_read, od_law_read, .func (PySem.W.fnOf "_law_read" "_law_read" (defArgs (topS 27)) (defBody (topS 27)) (defScope (topS 27)) .none kV_law_read dc_law_read pm_law_read an_law_read cd_law_read ct_law_read), sl_law_read⟩)
    (c_law_read : PySem.W.codeIn K cd_law_read "_law_read" = true)
    (k_law_read : PySem.W.keepIn K (.ref f_law_read) = true)
    (a_law : PySem.W.nsIn K mainGlobals "law" = some (some (.ref f_law)))
    (l_law : K.lookup f_law = some ⟨oc_law, od_law, .func (PySem.W.fnOf "law" "law" (defArgs (topS 28)) (defBody (topS 28)) (defScope (topS 28)) .none kV_law dc_law pm_law an_law (.ref cc) ct_law), sl_law⟩)
    (c_law : PySem.W.codeIn K (.ref cc) "law" = true)
    (k_law : PySem.W.keepIn K (.ref f_law) = true)
    (pg : PySem.W.plainGet K C Str.empty = true)
    (hd : PySem.W.hasDictIn K C = true)
    (po : PySem.W.plainOver K C = true)
    (sa : PySem.W.findIn K (.ref C) "__setattr__" = some (some (.builtin "object.__setattr__")))
    (na_rows : PySem.W.findIn K (.ref C) "_rows" = some none)
    (o_ha : PySem.W.findIn K (.ref C) "__class__" = some (some (.builtin "object.__class__")))
    (o_hn : PySem.W.specialIn K (.builtin "object.__class__") "__get__" = some (some (.builtin "getset_descriptor.__get__")))
    (o_ht : PySem.W.takesIn K (.builtin "object.__class__") = some true)
    (o_hm : PySem.W.mroIn K C (.type "object") = some true)
    (o_i1 : PySem.W.subIn K (.ref C) (.type "bool") = some false)
    (o_i2 : PySem.W.subIn K (.ref C) (.type "int") = some false)
    (o_i3 : PySem.W.subIn K (.ref C) (.type "str") = some false)
    (o_i4 : PySem.W.subIn K (.ref C) (.type "tuple") = some false)
    (o_i5 : PySem.W.subIn K (.ref C) (.type "list") = some false)
    (o_kc : PySem.W.isClsIn K C = true)
    (o_kt : PySem.W.typeIn K (.ref C) = some (.type "type"))
    (o_j0 : PySem.W.subIn K (.type "NoneType") (.ref C) = some false)
    (o_j1 : PySem.W.subIn K (.type "bool") (.ref C) = some false)
    (o_j2 : PySem.W.subIn K (.type "int") (.ref C) = some false)
    (o_j3 : PySem.W.subIn K (.type "str") (.ref C) = some false)
    (o_j4 : PySem.W.subIn K (.type "tuple") (.ref C) = some false)
    (o_j5 : PySem.W.subIn K (.type "list") (.ref C) = some false)
    (aB_ChainError : PySem.W.nsIn K mainGlobals "ChainError" = some (some (.ref C_ChainError)))
    (eB_ChainError : PySem.W.subIn K (.ref C_ChainError) (.type "BaseException") = some true)
    (iB_ChainError : PySem.W.isClsIn K C_ChainError = true)
    (tB_ChainError : PySem.W.typeIn K (.ref C_ChainError) = some (.type "type"))
    (aB_NotFound : PySem.W.nsIn K mainGlobals "NotFound" = some (some (.ref C_NotFound)))
    (eB_NotFound : PySem.W.subIn K (.ref C_NotFound) (.type "BaseException") = some true)
    (iB_NotFound : PySem.W.isClsIn K C_NotFound = true)
    (tB_NotFound : PySem.W.typeIn K (.ref C_NotFound) = some (.type "type"))
    (aX_InvalidText : PySem.W.nsIn K mainGlobals "InvalidText" = some (some (.ref C_InvalidText)))
    (lX_InvalidText : K.lookup C_InvalidText = some (excClassObj nmx_InvalidText qnx_InvalidText C_InvalidText Nx_InvalidText bsx_InvalidText [.ref C_ChainError, .type "ValueError", .type "Exception", .type "BaseException", .type "object"] true snx_InvalidText subx_InvalidText abx_InvalidText colx_InvalidText ddx_InvalidText m0x_InvalidText m1x_InvalidText m2x_InvalidText m3x_InvalidText m5x_InvalidText "ValueError.__new__"))
    (sX_InvalidText : PySem.W.findIn K (.ref C_InvalidText) "__setattr__" = some (some (.builtin "object.__setattr__")))
    (gX_InvalidText : PySem.W.findIn K (.ref C_InvalidText) "__getattribute__" = some (some (.builtin "BaseException.__getattribute__")))
    (hX_InvalidText : PySem.W.findIn K (.ref C_InvalidText) "__getattr__" = some none)
    (ncX_InvalidText : PySem.W.findIn K (.ref C_InvalidText) "code" = some none)
    (iX_InvalidText : PySem.W.findIn K (.ref C_InvalidText) "__init__" = some (some (.ref fx_InvalidText)))
    (tX_InvalidText : PySem.W.typeIn K (.ref fx_InvalidText) = some (.type "function"))
    (fX_InvalidText : K.lookup fx_InvalidText = some ⟨ocx_InvalidText, odx_InvalidText, .func (PySem.W.fnOf "__init__" "InvalidText.__init__" (defArgs (inS 4 0)) (defBody (inS 4 0)) (defScope (inS 4 0)) .none kVx_InvalidText dcx_InvalidText pmx_InvalidText anx_InvalidText cdx_InvalidText ctx_InvalidText), slx_InvalidText⟩)
    (cX_InvalidText : PySem.W.codeIn K cdx_InvalidText "InvalidText.__init__" = true)
    (kfX_InvalidText : PySem.W.keepIn K (.ref fx_InvalidText) = true)
    (kX_InvalidText : PySem.W.keepIn K (.ref C_InvalidText) = true)
    (eX_InvalidText : PySem.W.subIn K (.ref C_InvalidText) (.type "BaseException") = some true)
    (yX_InvalidText : PySem.W.typeIn K (.ref C_InvalidText) = some (.type "type"))
    (dX_InvalidText : PySem.W.hasDictIn K C_InvalidText = true)
    (icX_InvalidText : PySem.W.isClsIn K C_InvalidText = true)
    (s1X_InvalidText : PySem.W.subIn K (.ref C_InvalidText) (.ref C_ChainError) = some true)
    (s2X_InvalidText : PySem.W.subIn K (.ref C_InvalidText) (.ref C_NotFound) = some false)
    (l_cc : K.lookup cc = some ⟨ecc, dcc, .fields vcc, scc⟩)
    (v_cc : vcc[11]? = some (.ref PT))
    (h_cc : PySem.W.codeHdIn K cc PT = true)
    (n_P : K.lookup PT = none)
    (n_bool : PySem.W.nsIn K mainGlobals "bool" = some none)
    (n_int : PySem.W.nsIn K mainGlobals "int" = some none)
    (n_isinstance : PySem.W.nsIn K mainGlobals "isinstance" = some none)
    (rd : PySem.W.readsIn K C (.type "type") = true)
    (ga : PySem.W.specialIn K (.ref C) "__getattribute__" = some (some (.builtin "type.__getattribute__")))
    (v_MAX_CAPACITY : PySem.W.findCls K (.ref C) (.type "type") "MAX_CAPACITY" = some (.val (.int 12 u_MAX_CAPACITY)))
    (v_MAX_LEVELS : PySem.W.findCls K (.ref C) (.type "type") "MAX_LEVELS" = some (.val (.int 12 u_MAX_LEVELS)))
    (v_MAX_SEGMENTS : PySem.W.findCls K (.ref C) (.type "type") "MAX_SEGMENTS" = some (.val (.int 4 u_MAX_SEGMENTS)))
    (n_all : PySem.W.nsIn K mainGlobals "all" = some none)
    (n_enumerate : PySem.W.nsIn K mainGlobals "enumerate" = some none)
    (n_len : PySem.W.nsIn K mainGlobals "len" = some none)
    (n_tuple : PySem.W.nsIn K mainGlobals "tuple" = some none)
    (n_range : PySem.W.nsIn K mainGlobals "range" = some none)
    (n_str : PySem.W.nsIn K mainGlobals "str" = some none)
    (n_list : PySem.W.nsIn K mainGlobals "list" = some none)
    (n_zip : PySem.W.nsIn K mainGlobals "zip" = some none)
    (n_sorted : PySem.W.nsIn K mainGlobals "sorted" = some none)
    (hm : ∀ ns : List Int, ns.length ≤ 63 → ∃ S, fn_law [.scr ns] [] = .ok (.bl true) S) :
    LamX.LawAtS PySem.Challenge.rw_shelfdoors_k03_texts_that_are_no_chains w K (L2.CX PySem.Challenge.pw_shelfdoors_k03_texts_that_are_no_chains w) 8 63 "_law_script" mg fa h := by
  have e := hfa.symm.trans (PySem.W.mg_of X G a_law)
  cases e
  refine ⟨PySem.W.fnOf "law" "law" (defArgs (topS 28)) (defBody (topS 28)) (defScope (topS 28)) .none kV_law dc_law pm_law an_law (.ref cc) ct_law, [(cc, PT)], CL.spLawT K [(PT, ("law.<locals>.<lambda>" : Str))], fun p hp => ?_, fun p hp => ?_, fun p hp => ?_, fun s v => .of_eq rfl, fun H a ns hl _ hT hS => ⟨a, ns, rfl, hS, hl, fun p hp => ?_, fun _ => rfl⟩, fun base _ _ tb => ?_⟩
  · cases List.mem_singleton.mp hp
    exact own cc PT _ _ _ _ _ _ l_law rfl rfl l_cc v_cc
  · cases List.mem_singleton.mp hp
    exact n_P
  · cases List.mem_singleton.mp hp
    exact PySem.W.codeHd_of_K X h_cc
  · cases List.mem_singleton.mp hp
    exact hT (cc, PT) (List.mem_singleton.mpr rfl)
  have T : Tx { prog := PySem.Challenge.pw_shelfdoors_k03_texts_that_are_no_chains, w := w, K := K, mg := mg, base := base, cls := clsOne C (["_rows"] : List Str), exc := excTab C_InvalidText, T := [(PT, ("law.<locals>.<lambda>" : Str))] : CL.G } { C_Chain := C, mc_Chain := (.type "type"), a_is_between := f_is_between, a_check_rows := f_check_rows, a_Chain__init := f_Chain__init, a_read_capacity := f_read_capacity, a_read_row := f_read_row, a_Chain_read := f_Chain_read, p_Chain_read := p_Chain_read, a_Chain_segments := f_Chain_segments, p_Chain_segments := p_Chain_segments, a_law_tape := f_law_tape, a_law_pick := f_law_pick, a_law_same := f_law_same, a_law_field := f_law_field, a_law_try := f_law_try, a_law_row := f_law_row, a_law_rows := f_law_rows, a_law_text := f_law_text, a_law_of := f_law_of, a_law_bent := f_law_bent, a_law_read_row := f_law_read_row, a_law_read := f_law_read, a_law := fa, C_ChainError := C_ChainError, C_NotFound := C_NotFound, C_InvalidText := C_InvalidText, a_InvalidText := fx_InvalidText, cc_law := cc, P_law := PT, u_Chain_MAX_CAPACITY := (.int 12 u_MAX_CAPACITY), u_Chain_MAX_LEVELS := (.int 12 u_MAX_LEVELS), u_Chain_MAX_SEGMENTS := (.int 4 u_MAX_SEGMENTS) : Ad } := {
    xck := ⟨fun cn Cx ns h => match cn, h with
      | 0, h => by
        have h : some (C_InvalidText, ([cdS] : List Str)) = some (Cx, ns) := h
        cases h
        exact ⟨⟨gX_InvalidText, hX_InvalidText, eX_InvalidText, dX_InvalidText⟩, rfl, fun f hf => by
        simp only [List.mem_cons, List.not_mem_nil, or_false] at hf
        subst hf
        exact ncX_InvalidText⟩
      | n + 1, h => by
        have h : (none : Option (Addr × List Str)) = some (Cx, ns) := h
        cases h⟩,
    mb_ChainError := PySem.W.mg_of X G aB_ChainError,
    mb_NotFound := PySem.W.mg_of X G aB_NotFound,
    xm := (fun cn Cx ns h => match cn, h with
      | 0, h => by
        have h : some (C_InvalidText, ([cdS] : List Str)) = some (Cx, ns) := h
        cases h
        exact exm_two (b := true) eB_ChainError eB_NotFound icX_InvalidText iB_ChainError iB_NotFound tB_ChainError tB_NotFound s1X_InvalidText s2X_InvalidText
      | n + 1, h => by
        have h : (none : Option (Addr × List Str)) = some (Cx, ns) := h
        cases h),
    f_InvalidText := ⟨_, fun_mk fX_InvalidText cX_InvalidText kfX_InvalidText, (fun_mk fX_InvalidText cX_InvalidText kfX_InvalidText).binds fun _ _ _ _ _ _ us hl => match us, hl with | [_], _ => rfl⟩,
    xo_InvalidText := ⟨⟨_, _, _, _, _, _, _, _, _, _, _, _, _, _, _, lX_InvalidText, by rfl⟩, sX_InvalidText, eX_InvalidText, yX_InvalidText, kX_InvalidText⟩,
    xi_InvalidText := iX_InvalidText,
    xt_InvalidText := tX_InvalidText,
    mx_InvalidText := PySem.W.mg_of X G aX_InvalidText,
    xc_InvalidText := ncX_InvalidText,
    xe_InvalidText := rfl,
    f_is_between := ⟨_, fun_mk l_is_between c_is_between k_is_between, (fun_mk l_is_between c_is_between k_is_between).binds fun _ _ _ _ _ _ us hl => match us, hl with | [_, _, _], _ => rfl⟩,
    m_is_between := PySem.W.mg_of X G a_is_between,
    kp_is_between := k_is_between,
    n_bool := PySem.W.mg_none_of X G n_bool,
    n_int := PySem.W.mg_none_of X G n_int,
    n_isinstance := PySem.W.mg_none_of X G n_isinstance,
    f_check_rows := ⟨_, fun_mk l_check_rows c_check_rows k_check_rows, (fun_mk l_check_rows c_check_rows k_check_rows).binds fun _ _ _ _ _ _ us hl => match us, hl with | [_], _ => rfl⟩,
    m_check_rows := PySem.W.mg_of X G a_check_rows,
    kp_check_rows := k_check_rows,
    cr_Chain := ⟨rd, ga⟩,
    cv_Chain_MAX_CAPACITY := ⟨v_MAX_CAPACITY, _, rfl⟩,
    cv_Chain_MAX_LEVELS := ⟨v_MAX_LEVELS, _, rfl⟩,
    cv_Chain_MAX_SEGMENTS := ⟨v_MAX_SEGMENTS, _, rfl⟩,
    n_all := PySem.W.mg_none_of X G n_all,
    n_enumerate := PySem.W.mg_none_of X G n_enumerate,
    n_len := PySem.W.mg_none_of X G n_len,
    f_Chain__init := ⟨_, fun_mk l_Chain__init c_Chain__init k_Chain__init⟩,
    mk_Chain := ⟨mk, a_Chain__init, i_Chain__init, kC⟩,
    n_tuple := PySem.W.mg_none_of X G n_tuple,
    na_Chain_rows := na_rows,
    f_read_capacity := ⟨_, fun_mk l_read_capacity c_read_capacity k_read_capacity, (fun_mk l_read_capacity c_read_capacity k_read_capacity).binds fun _ _ _ _ _ _ us hl => match us, hl with | [_], _ => rfl⟩,
    m_read_capacity := PySem.W.mg_of X G a_read_capacity,
    kp_read_capacity := k_read_capacity,
    n_range := PySem.W.mg_none_of X G n_range,
    n_str := PySem.W.mg_none_of X G n_str,
    f_read_row := ⟨_, fun_mk l_read_row c_read_row k_read_row, (fun_mk l_read_row c_read_row k_read_row).binds fun _ _ _ _ _ _ us hl => match us, hl with | [_], _ => rfl⟩,
    m_read_row := PySem.W.mg_of X G a_read_row,
    kp_read_row := k_read_row,
    f_Chain_read := ⟨_, fun_mk l_Chain_read c_Chain_read k_Chain_read, (fun_mk l_Chain_read c_Chain_read k_Chain_read).binds fun _ _ _ _ _ _ us hl => match us, hl with | [_, _], _ => rfl⟩,
    cm_Chain_read := ⟨a_Chain_read, ⟨_, r0_Chain_read⟩, fi_Chain_read⟩,
    f_Chain_segments := ⟨_, fun_mk l_Chain_segments c_Chain_segments k_Chain_segments, (fun_mk l_Chain_segments c_Chain_segments k_Chain_segments).binds fun _ _ _ _ _ _ us hl => match us, hl with | [_], _ => rfl⟩,
    pr_Chain_segments := ⟨a_Chain_segments, g_Chain_segments, t_Chain_segments, _, r0_Chain_segments⟩,
    f_law_tape := ⟨_, fun_mk l_law_tape c_law_tape k_law_tape, (fun_mk l_law_tape c_law_tape k_law_tape).binds fun _ _ _ _ _ _ us hl => match us, hl with | [_], _ => rfl⟩,
    m_law_tape := PySem.W.mg_of X G a_law_tape,
    kp_law_tape := k_law_tape,
    n_list := PySem.W.mg_none_of X G n_list,
    f_law_pick := ⟨_, fun_mk l_law_pick c_law_pick k_law_pick, (fun_mk l_law_pick c_law_pick k_law_pick).binds fun _ _ _ _ _ _ us hl => match us, hl with | [_, _], _ => rfl⟩,
    m_law_pick := PySem.W.mg_of X G a_law_pick,
    kp_law_pick := k_law_pick,
    f_law_same := ⟨_, fun_mk l_law_same c_law_same k_law_same, (fun_mk l_law_same c_law_same k_law_same).binds fun _ _ _ _ _ _ us hl => match us, hl with | [_, _], _ => rfl⟩,
    m_law_same := PySem.W.mg_of X G a_law_same,
    kp_law_same := k_law_same,
    n_zip := PySem.W.mg_none_of X G n_zip,
    f_law_field := ⟨_, fun_mk l_law_field c_law_field k_law_field, (fun_mk l_law_field c_law_field k_law_field).binds fun _ _ _ _ _ _ us hl => match us, hl with | [_], _ => rfl⟩,
    m_law_field := PySem.W.mg_of X G a_law_field,
    kp_law_field := k_law_field,
    f_law_try := ⟨_, fun_mk l_law_try c_law_try k_law_try, (fun_mk l_law_try c_law_try k_law_try).binds fun _ _ _ _ _ _ us hl => match us, hl with | [_], _ => rfl⟩,
    m_law_try := PySem.W.mg_of X G a_law_try,
    kp_law_try := k_law_try,
    f_law_row := ⟨_, fun_mk l_law_row c_law_row k_law_row, (fun_mk l_law_row c_law_row k_law_row).binds fun _ _ _ _ _ _ us hl => match us, hl with | [_, _, _], _ => rfl⟩,
    m_law_row := PySem.W.mg_of X G a_law_row,
    kp_law_row := k_law_row,
    n_sorted := PySem.W.mg_none_of X G n_sorted,
    f_law_rows := ⟨_, fun_mk l_law_rows c_law_rows k_law_rows, (fun_mk l_law_rows c_law_rows k_law_rows).binds fun _ _ _ _ _ _ us hl => match us, hl with | [_, _, _, _], _ => rfl⟩,
    m_law_rows := PySem.W.mg_of X G a_law_rows,
    kp_law_rows := k_law_rows,
    f_law_text := ⟨_, fun_mk l_law_text c_law_text k_law_text, (fun_mk l_law_text c_law_text k_law_text).binds fun _ _ _ _ _ _ us hl => match us, hl with | [_], _ => rfl⟩,
    m_law_text := PySem.W.mg_of X G a_law_text,
    kp_law_text := k_law_text,
    f_law_of := ⟨_, fun_mk l_law_of c_law_of k_law_of, (fun_mk l_law_of c_law_of k_law_of).binds fun _ _ _ _ _ _ us hl => match us, hl with | [_, _], _ => rfl⟩,
    m_law_of := PySem.W.mg_of X G a_law_of,
    kp_law_of := k_law_of,
    f_law_bent := ⟨_, fun_mk l_law_bent c_law_bent k_law_bent, (fun_mk l_law_bent c_law_bent k_law_bent).binds fun _ _ _ _ _ _ us hl => match us, hl with | [_, _, _], _ => rfl⟩,
    m_law_bent := PySem.W.mg_of X G a_law_bent,
    kp_law_bent := k_law_bent,
    f_law_read_row := ⟨_, fun_mk l_law_read_row c_law_read_row k_law_read_row, (fun_mk l_law_read_row c_law_read_row k_law_read_row).binds fun _ _ _ _ _ _ us hl => match us, hl with | [_], _ => rfl⟩,
    m_law_read_row := PySem.W.mg_of X G a_law_read_row,
    kp_law_read_row := k_law_read_row,
    f_law_read := ⟨_, fun_mk l_law_read c_law_read k_law_read, (fun_mk l_law_read c_law_read k_law_read).binds fun _ _ _ _ _ _ us hl => match us, hl with | [_], _ => rfl⟩,
    m_law_read := PySem.W.mg_of X G a_law_read,
    kp_law_read := k_law_read,
    f_law := ⟨_, fun_mk l_law c_law k_law, (fun_mk l_law c_law k_law).binds fun _ _ _ _ _ _ us hl => match us, hl with | [_], _ => rfl⟩,
    tb_law := tb (cc, PT) (List.mem_singleton.mpr rfl),
    hm_law := List.mem_singleton.mpr rfl,
    hT_law := (fun p hp _ => by
      cases List.mem_singleton.mp hp
      rfl),
    m_law := PySem.W.mg_of X G a_law,
    kp_law := k_law,
    c_Chain := rfl,
    mC_Chain := PySem.W.mg_of X G aC,
    kl_Chain := ⟨pg, hd, po, sa⟩,
    tab := tab_one rfl ⟨pg, hd, po, sa⟩ (fun f hf => by
      simp only [List.mem_cons, List.not_mem_nil, or_false] at hf
      rcases hf with rfl
      · exact na_rows) ⟨o_ha, o_hn, o_ht, o_hm, o_i1, o_i2, o_i3, o_i4, o_i5, o_kc, o_kt, o_j0, o_j1, o_j2, o_j3, o_j4, o_j5⟩ }
  exact (ok_law T (fun_mk l_law c_law k_law) rfl).imp fun vs H Q E hs => law_end (g := { prog := PySem.Challenge.pw_shelfdoors_k03_texts_that_are_no_chains, w := w, K := K, mg := mg, base := base, cls := clsOne C (["_rows"] : List Str), exc := excTab C_InvalidText, T := [(PT, ("law.<locals>.<lambda>" : Str))] : CL.G }) hm vs H Q E hs
end K03
open PySem PySem.W PyProof.Rows
set_option maxHeartbeats 0 in
theorem PySem.Challenge.cw_shelfdoors_k03_texts_that_are_no_chains_holds : PySem.Challenge.rw_shelfdoors_k03_texts_that_are_no_chains.Holds := by
  w_on; o_law; k_head; (case hw => w_witness2)
  k_fill
  refine LamX.walk_ofOwn (l := PySem.Challenge.rw_shelfdoors_k03_texts_that_are_no_chains) (n := 63) (k := 8) (x := "_law_script") (CX := fun w => L2.CX PySem.Challenge.pw_shelfdoors_k03_texts_that_are_no_chains w) rfl (by decide) rfl ⟨rfl, by decide, by decide⟩ (by decide +kernel) (fun w h Y => PySem.W.km_in_of Y) ?F (fun w H s e s' z => CL.cx_none H s e s' z)
  case F =>
    intro w mg fa h Y KX G hmg own
    refine' K03.all_mk KX G hmg own ?aC ?a_is_between ?l_is_between ?c_is_between ?k_is_between ?a_check_rows ?l_check_rows ?c_check_rows ?k_check_rows ?a_Chain__init ?i_Chain__init ?l_Chain__init ?c_Chain__init ?k_Chain__init ?mk ?kC ?a_read_capacity ?l_read_capacity ?c_read_capacity ?k_read_capacity ?a_read_row ?l_read_row ?c_read_row ?k_read_row ?a_Chain_read ?r0_Chain_read ?fi_Chain_read ?l_Chain_read ?c_Chain_read ?k_Chain_read ?a_Chain_segments ?g_Chain_segments ?t_Chain_segments ?r0_Chain_segments ?l_Chain_segments ?c_Chain_segments ?k_Chain_segments ?a_law_tape ?l_law_tape ?c_law_tape ?k_law_tape ?a_law_pick ?l_law_pick ?c_law_pick ?k_law_pick ?a_law_same ?l_law_same ?c_law_same ?k_law_same ?a_law_field ?l_law_field ?c_law_field ?k_law_field ?a_law_try ?l_law_try ?c_law_try ?k_law_try ?a_law_row ?l_law_row ?c_law_row ?k_law_row ?a_law_rows ?l_law_rows ?c_law_rows ?k_law_rows ?a_law_text ?l_law_text ?c_law_text ?k_law_text ?a_law_of ?l_law_of ?c_law_of ?k_law_of ?a_law_bent ?l_law_bent ?c_law_bent ?k_law_bent ?a_law_read_row ?l_law_read_row ?c_law_read_row ?k_law_read_row ?a_law_read ?l_law_read ?c_law_read ?k_law_read ?a_law ?l_law ?c_law ?k_law ?pg ?hd ?po ?sa ?na_rows ?o_ha ?o_hn ?o_ht ?o_hm ?o_i1 ?o_i2 ?o_i3 ?o_i4 ?o_i5 ?o_kc ?o_kt ?o_j0 ?o_j1 ?o_j2 ?o_j3 ?o_j4 ?o_j5 ?aB_ChainError ?eB_ChainError ?iB_ChainError ?tB_ChainError ?aB_NotFound ?eB_NotFound ?iB_NotFound ?tB_NotFound ?aX_InvalidText ?lX_InvalidText ?sX_InvalidText ?gX_InvalidText ?hX_InvalidText ?ncX_InvalidText ?iX_InvalidText ?tX_InvalidText ?fX_InvalidText ?cX_InvalidText ?kfX_InvalidText ?kX_InvalidText ?eX_InvalidText ?yX_InvalidText ?dX_InvalidText ?icX_InvalidText ?s1X_InvalidText ?s2X_InvalidText ?l_cc ?v_cc ?h_cc ?n_P ?n_bool ?n_int ?n_isinstance ?rd ?ga ?v_MAX_CAPACITY ?v_MAX_LEVELS ?v_MAX_SEGMENTS ?n_all ?n_enumerate ?n_len ?n_tuple ?n_range ?n_str ?n_list ?n_zip ?n_sorted K03.maths
    (case aC => first | k_is | rfl); (case a_is_between => first | k_is | rfl); (case l_is_between => first | k_is | rfl); (case c_is_between => first | k_is | rfl); (case k_is_between => first | k_is | rfl); (case a_check_rows => first | k_is | rfl); (case l_check_rows => first | k_is | rfl); (case c_check_rows => first | k_is | rfl); (case k_check_rows => first | k_is | rfl); (case a_Chain__init => first | k_is | rfl); (case i_Chain__init => first | k_is | rfl); (case l_Chain__init => first | k_is | rfl); (case c_Chain__init => first | k_is | rfl); (case k_Chain__init => first | k_is | rfl); (case mk => first | k_is | rfl); (case kC => first | k_is | rfl); (case a_read_capacity => first | k_is | rfl); (case l_read_capacity => first | k_is | rfl); (case c_read_capacity => first | k_is | rfl); (case k_read_capacity => first | k_is | rfl); (case a_read_row => first | k_is | rfl); (case l_read_row => first | k_is | rfl); (case c_read_row => first | k_is | rfl); (case k_read_row => first | k_is | rfl); (case a_Chain_read => first | k_is | rfl); (case r0_Chain_read => first | k_is | rfl); (case fi_Chain_read => first | k_is | rfl); (case l_Chain_read => first | k_is | rfl); (case c_Chain_read => first | k_is | rfl); (case k_Chain_read => first | k_is | rfl); (case a_Chain_segments => first | k_is | rfl); (case g_Chain_segments => first | k_is | rfl); (case t_Chain_segments => first | k_is | rfl); (case r0_Chain_segments => first | k_is | rfl); (case l_Chain_segments => first | k_is | rfl); (case c_Chain_segments => first | k_is | rfl); (case k_Chain_segments => first | k_is | rfl); (case a_law_tape => first | k_is | rfl); (case l_law_tape => first | k_is | rfl); (case c_law_tape => first | k_is | rfl); (case k_law_tape => first | k_is | rfl); (case a_law_pick => first | k_is | rfl); (case l_law_pick => first | k_is | rfl); (case c_law_pick => first | k_is | rfl); (case k_law_pick => first | k_is | rfl); (case a_law_same => first | k_is | rfl); (case l_law_same => first | k_is | rfl); (case c_law_same => first | k_is | rfl); (case k_law_same => first | k_is | rfl); (case a_law_field => first | k_is | rfl); (case l_law_field => first | k_is | rfl); (case c_law_field => first | k_is | rfl); (case k_law_field => first | k_is | rfl); (case a_law_try => first | k_is | rfl); (case l_law_try => first | k_is | rfl); (case c_law_try => first | k_is | rfl); (case k_law_try => first | k_is | rfl); (case a_law_row => first | k_is | rfl); (case l_law_row => first | k_is | rfl); (case c_law_row => first | k_is | rfl); (case k_law_row => first | k_is | rfl); (case a_law_rows => first | k_is | rfl); (case l_law_rows => first | k_is | rfl); (case c_law_rows => first | k_is | rfl); (case k_law_rows => first | k_is | rfl); (case a_law_text => first | k_is | rfl); (case l_law_text => first | k_is | rfl); (case c_law_text => first | k_is | rfl); (case k_law_text => first | k_is | rfl); (case a_law_of => first | k_is | rfl); (case l_law_of => first | k_is | rfl); (case c_law_of => first | k_is | rfl); (case k_law_of => first | k_is | rfl); (case a_law_bent => first | k_is | rfl); (case l_law_bent => first | k_is | rfl); (case c_law_bent => first | k_is | rfl); (case k_law_bent => first | k_is | rfl); (case a_law_read_row => first | k_is | rfl); (case l_law_read_row => first | k_is | rfl); (case c_law_read_row => first | k_is | rfl); (case k_law_read_row => first | k_is | rfl); (case a_law_read => first | k_is | rfl); (case l_law_read => first | k_is | rfl); (case c_law_read => first | k_is | rfl); (case k_law_read => first | k_is | rfl); (case a_law => first | k_is | rfl); (case l_law => first | k_is | rfl); (case c_law => first | k_is | rfl); (case k_law => first | k_is | rfl); (case pg => first | k_is | rfl); (case hd => first | k_is | rfl); (case po => first | k_is | rfl); (case sa => first | k_is | rfl); (case na_rows => first | k_is | rfl); (case o_ha => first | k_is | rfl); (case o_hn => first | k_is | rfl); (case o_ht => first | k_is | rfl); (case o_hm => first | k_is | rfl); (case o_i1 => first | k_is | rfl); (case o_i2 => first | k_is | rfl); (case o_i3 => first | k_is | rfl); (case o_i4 => first | k_is | rfl); (case o_i5 => first | k_is | rfl); (case o_kc => first | k_is | rfl); (case o_kt => first | k_is | rfl); (case o_j0 => first | k_is | rfl); (case o_j1 => first | k_is | rfl); (case o_j2 => first | k_is | rfl); (case o_j3 => first | k_is | rfl); (case o_j4 => first | k_is | rfl); (case o_j5 => first | k_is | rfl); (case aB_ChainError => first | k_is | rfl); (case eB_ChainError => first | k_is | rfl); (case iB_ChainError => first | k_is | rfl); (case tB_ChainError => first | k_is | rfl); (case aB_NotFound => first | k_is | rfl); (case eB_NotFound => first | k_is | rfl); (case iB_NotFound => first | k_is | rfl); (case tB_NotFound => first | k_is | rfl); (case aX_InvalidText => first | k_is | rfl); (case lX_InvalidText => first | k_is | rfl); (case sX_InvalidText => first | k_is | rfl); (case gX_InvalidText => first | k_is | rfl); (case hX_InvalidText => first | k_is | rfl); (case ncX_InvalidText => first | k_is | rfl); (case iX_InvalidText => first | k_is | rfl); (case tX_InvalidText => first | k_is | rfl); (case fX_InvalidText => first | k_is | rfl); (case cX_InvalidText => first | k_is | rfl); (case kfX_InvalidText => first | k_is | rfl); (case kX_InvalidText => first | k_is | rfl); (case eX_InvalidText => first | k_is | rfl); (case yX_InvalidText => first | k_is | rfl); (case dX_InvalidText => first | k_is | rfl); (case icX_InvalidText => first | k_is | rfl); (case s1X_InvalidText => first | k_is | rfl); (case s2X_InvalidText => first | k_is | rfl); (case l_cc => first | k_is | rfl); (case v_cc => first | k_is | rfl); (case h_cc => first | k_is | rfl); (case n_P => first | k_is | rfl); (case n_bool => first | k_is | rfl); (case n_int => first | k_is | rfl); (case n_isinstance => first | k_is | rfl); (case rd => first | k_is | rfl); (case ga => first | k_is | rfl); (case v_MAX_CAPACITY => first | k_is | rfl); (case v_MAX_LEVELS => first | k_is | rfl); (case v_MAX_SEGMENTS => first | k_is | rfl); (case n_all => first | k_is | rfl); (case n_enumerate => first | k_is | rfl); (case n_len => first | k_is | rfl); (case n_tuple => first | k_is | rfl); (case n_range => first | k_is | rfl); (case n_str => first | k_is | rfl); (case n_list => first | k_is | rfl); (case n_zip => first | k_is | rfl); (case n_sorted => first | k_is | rfl)
